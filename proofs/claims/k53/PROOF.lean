import PyProof.Rows.All
import Wide.All
import OpenK.AllK
import Wide.FinOn
import Lean
import PyProof.EqAt
import PyProof.EqKinds
import PyProof.TupleCall
import PyProof.Rows.SumAny
import PyProof.StationsW
import PyProof.ExcClass3
import OpenK.KOwn
import KE.KTryDeep
import KE.KIsAll
import PyProof.ExcAttrAll.ValueError
import PyProof.ExcBaseAll.ValueError
import PyProof.InstStoreFacts
import PyProof.RulesTry
import PyProof.Rows.SortStr
import PyProof.TupleOfSeq
import KE.KxWritten
import PyProof.Conv_bool
import KE.KStrOpen
import PyProof.Rows.FStr
import PyProof.SetRoads
import PyProof.DictKinds
import PyProof.Rows.Range3
import PyProof.FactsAll.tuple_2
import PyProof.CollectIter
import PyProof.TupleOfGen
import PyProof.AttrMissHeap
import KE.KDictOf
import PyProof.StrOps2
import PyProof.DictWalks
import KE.KDictList
import PyProof.Rows.ZipGen
import PySem.Challenge.RW_orderkeep_k53_wants_told
namespace PySem.W.Fast
def tw5507348019391225065:=0
def tw15840303168529688292:=0
def tw2554896519315945176:=0
def tw14127876968810959975:=0
def tw9393516501501001195:=0
def tw2059423199654143983:=0
def tw8361727244602401681:=0
def tw11194134678925327251:=0
def tw16470237567234516745:=0
def tw3183485502456540257:=0
def tw12013395729258426905:=0
def tw13933939458306669276:=0
def tw7868818034426476411:=0
def tw9949108872926392392:=0
def tw12662457725731229881:=0
def tw6324551554212708040:=0
def tw2098647455998967035:=0
def tw7969963280658584126:=0
def tw7546183372786622674:=0
def tw12454655779775201439:=0
def tw184547528415504644:=0
def tw2778560055916957541:=0
def tw5406453987669948613:=0
def tw5686065377670247285:=0
def tw13341072506029215853:=0
def tw11904604010214362391:=0
def tw8060692785595682193:=0
def tw12545676077517811433:=0
def tw12671384919058689119:=0
def tw8393438542895601093:=0
def tw6333342625848824371:=0
def tw12445698903770386926:=0
def tw6124438398955970995:=0
def tw10099061406524064760:=0
def tw14045101335909578822:=0
def tw15861664334026268280:=0
def tw6243324237611561598:=0
def tw8790625427075880125:=0
def tw5641652189629424327:=0
def tw7137342510485578171:=0
def tw8568775351079681249:=0
def tw4410900351304977848:=0
def tw3854616826818058756:=0
def tw6685257040074069243:=0
def tw1954059489543059661:=0
def tw3164558825793476464:=0
def tw5003875717157166494:=0
def tw7932699912776249425:=0
def tw8369973345673306229:=0
def tw3323496323620529829:=0
def tw12107518491783531509:=0
def tw6710520583992817211:=0
def tw9578596205545935301:=0
def tw10207923352801515897:=0
def tw6136366745747884992:=0
def tw5437130596647080151:=0
def tw9095155333498118932:=0
def tw18059004384324696509:=0
def tw13866024217766847980:=0
def tw16490228623688670549:=0
def tw8025829725565551966:=0
def tw1973066527382153841:=0
def tw15282388043062308669:=0
def tw4063518970043814493:=0
def tw14471833799185191024:=0
def tw11423342051594505924:=0
def tw4994852203490426156:=0
def tw7801709640006641960:=0
def tw7755077314320161866:=0
def tw9610067993647157656:=0
def tw8584928807804697382:=0
def tw14201376687430562240:=0
def tw11975361761695416900:=0
def tw13134019230183706515:=0
def tw4670924843323316487:=0
def tw7432742283882087530:=0
def tw4998854234031867942:=0
def tw15078255422054103457:=0
def tw13899576240757697966:=0
def tw4616871942700368334:=0
def tw14632530696850299843:=0
def tw11448365015478849056:=0
def tw17077059648881940435:=0
def tw3675271546553869527:=0
def tw17693656421979560293:=0
def tw9070649795519153079:=0
def tw12330962855015360986:=0
def tw2526854793105610362:=0
def tw13163538301560424418:=0
def tw3103879566990438179:=0
def tw5534980365809255853:=0
def tw2701669709443043992:=0
def tw2304295446839449764:=0
def tw3880990753617900450:=0
def tw17882379237521524420:=0
def tw13225827077319469656:=0
def tw8923691095471130837:=0
def tw10868836112037743090:=0
def tw1224930495452674719:=0
def tw15680613913181636851:=0
def tw12324640801202842537:=0
def tw2621373962302749516:=0
def tw4288315929171710209:=0
def tw12047318349484349091:=0
def tw12755122927337898743:=0
def tw15350476306986179754:=0
def tw15971967100251589283:=0
def tw1151685623323032711:=0
def tw7284580671139709044:=0
def tw10941706861539174618:=0
def tw9721293455466577427:=0
def tw12869201004239999741:=0
def tw12575381641548858970:=0
def tw18432458799311422376:=0
def tw18085995094573828433:=0
def tw3245127045125111412:=0
def tw2089244100893881013:=0
def tw6291226610592644468:=0
def tw2700507581892726316:=0
def tw14599821732267751565:=0
def tw4684375696544515857:=0
def tw12473851665776091832:=0
def tw829229359722781354:=0
def tw340274586998805107:=0
def tw12027627238374706352:=0
def tw11146493274605215261:=0
def tw14094996756079928194:=0
def tw8284520869388341849:=0
def tw1313317598837026449:=0
def tw9897849117043880120:=0
def tw11322448135477287538:=0
def tw14424936412659828435:=0
def tw12002154713018692606:=0
def tw1753762057919449183:=0
def tw1982365289781168514:=0
def tw6151652026324367254:=0
def tw11501305723653597566:=0
def tw4451325443508670203:=0
def tw10142452304100357597:=0
def tw6694069799087105067:=0
def tw15338765538980487700:=0
def tw9144001915704969517:=0
def tw1548511114743100690:=0
def tw2970405773833723262:=0
def tw6366695916008826920:=0
def tw16588310522847637860:=0
def tw3854343042676098294:=0
def tw10453226269105889867:=0
def tw9642340308286922934:=0
def tw4847088783804344691:=0
def tw569439065442747105:=0
def tw12493669844035556260:=0
def tw7147755952170614125:=0
def tw12531308361632893148:=0
def tw4961391420065596404:=0
def tw1020053971720763595:=0
def tw45721453614808283:=0
def tw16245308451293388439:=0
def tw10052239221791926666:=0
def tw3157485242799444921:=0
def tw1160902040613249632:=0
def tw17553173679175028945:=0
def tw467723751483192727:=0
def tw6015713611999169400:=0
def tw3218985447650314677:=0
def tw18322389753188452509:=0
def tw4684252393877563687:=0
def tw15630607020833783443:=0
def tw12184170979055007271:=0
def tw11832437675186975477:=0
def tw13139474908430269204:=0
def tw2604155049353329385:=0
def tw9998007208694302091:=0
def tw16016642131323824383:=0
def tw11142109748699965064:=0
def tw5049312356881828835:=0
def tw1737001241591337391:=0
def tw15867635481525077421:=0
def tw8777002631841804004:=0
def tw6398012800099186958:=0
def tw1175093290112824479:=0
def tw12059972875589046464:=0
def tw15832045215733661814:=0
def tw9670256523435232116:=0
def tw13638366361730904323:=0
def tw5928067518045764885:=0
def tw14012380121079251577:=0
def tw16465818840591648928:=0
def tw315793645689217507:=0
def tw15336781648681930212:=0
def tw10268518032662664397:=0
def tw1841724835684682935:=0
def tw3740391213518192496:=0
def tw9569318875862290178:=0
def tw10783204522347077315:=0
def tw16425932352345004117:=0
def tw15217469706670145451:=0
def tw18361731374996572966:=0
def tw15671211604584611628:=0
def tw8211998437675740749:=0
def tw3164005210919246501:=0
def tw15627222475907323252:=0
def tw397650710862637028:=0
def tw15116103051958154113:=0
def tw16295240744837925389:=0
def tw1441952464030738789:=0
def tw6447300103218759267:=0
def tw12461609956803841598:=0
def tw14390287053813371695:=0
def tw12141062317880031837:=0
def tw4830851161002324940:=0
def tw4605047651827401114:=0
def tw6594565848429533594:=0
def tw9860613224899757868:=0
def tw14358089298708743092:=0
def tw2601651811227505565:=0
def tw2758792811097386668:=0
def tw12688609321819027595:=0
def tw9063172508106044626:=0
def tw2848777939245722563:=0
def tw6163675387776391696:=0
def tw10019546693136377468:=0
def tw10864472326151964180:=0
def tw9848476471859677298:=0
def tw8434951860158542789:=0
def tw7073451760168678415:=0
def tw169667942889641438:=0
def tw5588789646558794412:=0
def tw16765768094763541275:=0
def tw543328498227275296:=0
def tw1185325096164918192:=0
def tw15368726708005782786:=0
def tw419475940954581634:=0
def tw3098136892775520626:=0
def tw5949005110798231926:=0
def tw9869897455959282530:=0
def tw15910693681391305780:=0
def tw8568639834123000851:=0
def tw17822158051304113032:=0
def tw3127228226878635452:=0
def tw11776838995561728046:=0
def tw10731141399612467542:=0
def tw15158757371401565008:=0
def tw1561966745704404448:=0
def tw7828233585668182603:=0
def tw8726354920498031106:=0
def tw15307758574835905823:=0
def tw14504079203340516573:=0
def tw348096376922041378:=0
def tw18244084417290657112:=0
def tw8653528021771889738:=0
def tw13884850813614746166:=0
def tw4521450631456228105:=0
def tw5136918603527530614:=0
def tw4508474743414656570:=0
def tw5082724765566894209:=0
def tw645792394921701567:=0
def tw16823576875244585724:=0
def tw7342629472657563946:=0
def tw6537734746437998372:=0
def tw6325008289767091865:=0
def tw17326891483328615410:=0
def tw3688796762328787118:=0
def tw8730959080241292896:=0
def tw4003987047827740090:=0
def tw11029426162571102254:=0
def tw17321471824534088579:=0
def tw7477358963418884395:=0
def tw2522577353185078786:=0
def tw49014718575161334:=0
def tw15483502575094743231:=0
def tw2458634715137097405:=0
def tw13026748166476106872:=0
def tw12957626773155666187:=0
def tw2409343758056498449:=0
def tw11342195838659792703:=0
def tw14905281421802737800:=0
def tw9100941619284496625:=0
def tw14435890256318336086:=0
def tw3213572639847436043:=0
def tw4462135195291650827:=0
def tw12032339830712444794:=0
def tw14615621834220620271:=0
def tw5299817589641293412:=0
def tw17620573208615704684:=0
def tw14813423663928808064:=0
def tw11965158735679558015:=0
def tw1819632745644900795:=0
def tw17614451702521158854:=0
def tw17276122017728706828:=0
def tw714969064192224755:=0
def tw16492597950906368238:=0
def tw16218353558593076254:=0
def tw9759440240349017455:=0
def tw13222784963580350164:=0
def tw17471168322326398673:=0
def tw3422317854738088925:=0
def tw11069344825580121888:=0
def tw8379257927507237027:=0
def tw2080772193375722872:=0
def tw14737999851229720651:=0
def tw8398181443408379682:=0
def tw5937907916694432628:=0
def tw1878782742243853960:=0
def tw652857161023249884:=0
def tw8357428390526385403:=0
def tw14642250094716051064:=0
def tw7137516543665543203:=0
def tw8554572849242556267:=0
def tw8537010972525711773:=0
def tw5297371928444755123:=0
def tw4270974754967647741:=0
def tw5025814810508034197:=0
def tw11984844107204719839:=0
def tw17382652617427304928:=0
def tw17787143066598196206:=0
def tw6542673839435661261:=0
def tw10013890544659708819:=0
def tw3739237843617807313:=0
def tw10243023370117182674:=0
def tw16421383207320172680:=0
def tw5896699592035641170:=0
def tw8245469870715619827:=0
def tw11387308887284684368:=0
def tw5600683196731389960:=0
def tw12501985799378330934:=0
def tw5697157754138102158:=0
def tw2401236661340797655:=0
def tw2953455125190449331:=0
def tw9752281101180542967:=0
def tw425437805041287205:=0
def tw410568928571155578:=0
def tw11102282137098023422:=0
def tw16805070081982274736:=0
def tw17856717636736350217:=0
def tw894871338810686417:=0
def tw11291096573871641029:=0
def tw11004205954455925257:=0
def tw5595377731370215710:=0
def tw16617508072328184676:=0
def tw18300527919546205082:=0
def tw11615499893999664626:=0
def tw10507725195418884674:=0
def tw3553775868263563500:=0
def tw11638862553891376742:=0
def tw16697830450530901057:=0
def tw16753441331200908800:=0
def tw2559030992750153024:=0
def tw7463354312649133997:=0
def tw14997839266516945717:=0
def tw17902076199713890819:=0
def tw225022708019804439:=0
def tw6253903074768871113:=0
def tw15151370240598156921:=0
def tw4081762498022731607:=0
def tw10546057013355691809:=0
def tw13170528773287369020:=0
def tw797376465013102976:=0
def tw8382939478769391124:=0
def tw16380439155317485747:=0
def tw4466745993473278240:=0
def tw1695751033499843892:=0
def tw3474117977417159221:=0
def tw4744423246142547662:=0
def tw14025646374762949874:=0
def tw17529887949124055140:=0
def tw9692971544908905150:=0
def tw12112897000487970357:=0
def tw5983093170968561202:=0
def tw7019618424184044893:=0
def tw10213978656143577722:=0
def tw4677144823810108823:=0
def tw18159197546700095765:=0
def tw9247274189688280690:=0
def tw9586019367743689825:=0
def tw839763934403456703:=0
def tw2988725790425820743:=0
def tw9724135482146111011:=0
def tw13512313744802726619:=0
def tw15704152516340676112:=0
def tw10113711860130941242:=0
def tw1049899604918251475:=0
def tw1581699389318903629:=0
def tw13100503096294548201:=0
def tw17458150716956498468:=0
def tw1108114942532107607:=0
def tw8894025891495786538:=0
def tw1326150048885350640:=0
def tw8643565199899102350:=0
def tw17526883911402488953:=0
def tw6936301185097910871:=0
def tw14309725765782857060:=0
def tw2498991833040729900:=0
def tw10992661195577969762:=0
def tw15897090777637702869:=0
def tw16106571473944115021:=0
def tw2413527701344804278:=0
def tw16091323920405677959:=0
def tw1564345671711355428:=0
def tw3112361986207006906:=0
def tw10029266857664930507:=0
def tw4577047578545909885:=0
def tw5499807054275852061:=0
def tw17623739457125649711:=0
def tw8293429847355271356:=0
def tw5102922674788674681:=0
def tw15182719511068523861:=0
def tw1307250916863441493:=0
def tw14486971743335713975:=0
def tw11925745248555704582:=0
def tw3657021108487638900:=0
def tw15295391800642761335:=0
def tw8265321852192471745:=0
def tw8206388457178724862:=0
def tw17422645479408004202:=0
def tw16654926484379165762:=0
def tw1214307240782260331:=0
def tw14058945047531180705:=0
def tw9355425709215484354:=0
def tw1685840352703032844:=0
def tw2446989285666323483:=0
def tw3490594467603381392:=0
def tw13612790176444365061:=0
def tw10164911395994353510:=0
def tw1097302121972675162:=0
def tw9030928358111999318:=0
def tw12891308078103979138:=0
def tw1562955147921504488:=0
def tw11558766286436528807:=0
def tw499963386057814219:=0
def tw3807760292034413454:=0
def tw16828523894436808112:=0
def tw9269908037396103781:=0
def tw14654256559583669677:=0
def tw6345677663588990193:=0
def tw4319249805589063737:=0
def tw5309693341843339701:=0
def tw398552399235699990:=0
def tw11975904855193814908:=0
def tw16311810114009262549:=0
def tw6535951960227846055:=0
def tw11216486918219179871:=0
def tw15804641119938971605:=0
def tw10707075763796387376:=0
def tw16456289190553953624:=0
def tw13355483889433100224:=0
def tw16250661898541529720:=0
def tw4928401423757556985:=0
def tw13683022721387787227:=0
def tw1068890805304776975:=0
def tw16560886364528051462:=0
def tw16119469725196888463:=0
def tw6996415576302688325:=0
def tw15370667285377977272:=0
def tw15729318614281093791:=0
def tw5075190430079781790:=0
def tw16578760917530426896:=0
def tw15786957585265888176:=0
def tw15632573771872560039:=0
def tw313311154548717446:=0
def tw1909929401763142480:=0
def tw11250784958048249818:=0
def tw11197652824073109603:=0
def tw10464522791317100793:=0
def tw14349835685438804638:=0
def tw14876266935211856863:=0
def tw9122592297881923277:=0
def tw2898068356012050829:=0
def tw3889284054042818519:=0
def tw10376998868368971324:=0
def tw3344609106400440782:=0
def tw13727938386470376762:=0
def tw12461008898858521782:=0
def tw15998926096080640534:=0
def tw9933452639252068529:=0
def tw16809892890771529421:=0
def tw3679399592667530173:=0
def tw8288272967007607678:=0
def tw7011693751490077785:=0
def tw18414736567335364162:=0
def tw4069439130124630435:=0
def tw11083775606790450327:=0
def tw15030751406029486432:=0
def tw14856575313763593456:=0
def tw13330507453657166367:=0
def tw17655143496982142346:=0
def tw9718750171787349682:=0
def tw2513728756118653171:=0
def tw4055165324085707342:=0
def tw3166588111282616719:=0
def tw13526932836117713853:=0
def tw6709640150194899134:=0
def tw660131154696611407:=0
def tw7682735139936663179:=0
def tw7582587303763077292:=0
def tw8464799035527390545:=0
def tw8980065702019842497:=0
def tw16072837757813559268:=0
def tw2468402719182837623:=0
def tw3352825648872008912:=0
def tw7847024658517967154:=0
def tw10473040763318575577:=0
def tw298582203604439760:=0
def tw12296939148788865498:=0
def tw18297317075375363630:=0
def tw17346337444350542574:=0
def tw9224225285755645370:=0
def tw311933006467646736:=0
def tw18131871155958623928:=0
def tw10623255213934636797:=0
def tw5967189030574779497:=0
def tw13537371309716099433:=0
def tw657053025573361393:=0
def tw17194620468622310478:=0
def tw6347230677632653694:=0
def tw642902669400465231:=0
def tw14080057439170967472:=0
def tw10337051304931416092:=0
def tw13012246870732173288:=0
def tw2971289989592900911:=0
def tw729972711793086538:=0
def tw215863701791514827:=0
def tw6860562350737229188:=0
def tw4562087600220504972:=0
def tw5235524393190849649:=0
def tw12431075182182034472:=0
def tw15354673548580208086:=0
def tw4036765538426064521:=0
def tw5368831919568783290:=0
def tw2618484046926620387:=0
def tw10017378566571397685:=0
def tw7904892823588280986:=0
def tw17763516563950897107:=0
def tw13385548773863716767:=0
def tw5899843634031114277:=0
def tw8290138729662783259:=0
def tw12420731718953920647:=0
def tw5226232018126544809:=0
def tw7484181983627323485:=0
def tw2208610287428462381:=0
def tw16555810046656006919:=0
def tw6006920467886774689:=0
def tw10900602535412370169:=0
def tw5429388823750905028:=0
def tw17972207186069475780:=0
def tw16413023711969592742:=0
def tw11164798019844065563:=0
def tw12721871240120665845:=0
def tw15763440099583752414:=0
def tw1506962113072312748:=0
def tw11791583453562278842:=0
def tw18384135980344886241:=0
def tw7589593502372899836:=0
def tw18272400988942301325:=0
def tw13480054901660803817:=0
def tw4852904958108579817:=0
def tw5009101266295213888:=0
def tw8670221977560479776:=0
def tw4640335783266937858:=0
def tw10735906681871791890:=0
def tw15487585711222107725:=0
def tw811969460846835378:=0
def tw3681006547603489710:=0
def tw12706677368613430080:=0
def tw4459570351822848319:=0
def tw17602599653675054812:=0
def tw18120757018045885840:=0
def tw6614459734935173231:=0
def tw14860369352399391616:=0
def tw11443590162013790289:=0
def tw15087061722392866112:=0
def tw10801868660657809376:=0
def tw17288686648554359634:=0
def tw8974237586239852831:=0
def tw7473133307738660144:=0
def tw5473990399713072341:=0
def tw2208276683779152167:=0
def tw1340021442739641813:=0
def tw6402803644755489621:=0
def tw10788594621285882066:=0
def tw2847608141583906107:=0
def tw1914376292256983029:=0
def tw15217617399610265325:=0
def tw8041406363289315691:=0
def tw16220755116751573582:=0
def tw3739139513323915359:=0
def tw9428746150532761694:=0
def tw11377764582489090698:=0
def tw4428379984279776789:=0
def tw16162919737814975580:=0
def tw6179272980655061372:=0
def tw12008440029168986249:=0
def tw8574870217374515976:=0
def tw10943456663437094115:=0
def tw14347005406195857909:=0
def tw8861304661007486635:=0
def tw1667841235410133874:=0
def tw13519061207754888436:=0
def tw13663266172805713856:=0
def tw11111612625534187156:=0
def tw10521663141189324014:=0
def tw15886427994048642117:=0
def tw1226985762053857216:=0
def tw16830530646522888398:=0
def tw3813322977578973750:=0
def tw17600647985499587552:=0
def tw1157744271011884033:=0
def tw9302695146261625069:=0
def tw14824970231957798448:=0
def tw7462333679647968853:=0
def tw5899197185962628539:=0
def tw13877267575835258717:=0
def tw1117322874448097331:=0
def tw4717295650432695293:=0
def tw13812376458788906861:=0
def tw13219162206807818910:=0
def tw2034364435384789419:=0
def tw10277969347977229636:=0
def tw8879995891517588064:=0
def tw7224383103548601823:=0
def tw12191965088689410255:=0
def tw2943141638999978327:=0
def tw5832038399951920828:=0
def tw17113277165574737153:=0
def tw8457630123980925971:=0
def tw6971526744265860846:=0
def tw14538153385574452762:=0
def tw3133697111104485652:=0
def tw570470558117297820:=0
def tw11384919597995220640:=0
def tw272489223461229178:=0
def tw9805727233755443087:=0
def tw9257996702511608617:=0
def tw17652458073986880096:=0
def tw17479691280249903415:=0
def tw8094228292995518165:=0
def tw12021670600814973810:=0
def tw7525889945305802211:=0
def tw173331135511278596:=0
def tw16277232237927573415:=0
def tw3871998443117008716:=0
def tw11878072504259437576:=0
def tw3973312727625006563:=0
def tw400556186363250972:=0
def tw6459302348107840745:=0
def tw2678434584161155631:=0
def tw5925157827326065186:=0
def tw14735112037329544382:=0
def tw17427875864817971927:=0
def tw17209587525552760075:=0
def tw4615826253417970554:=0
def tw2553413257694290081:=0
def tw15793694774597061735:=0
def tw16336630418987413970:=0
def tw13243406071917822476:=0
def tw7076246540065841392:=0
def tw8182126250614951461:=0
def tw12521449494123031056:=0
def tw9837564053388226977:=0
def tw466282149819344778:=0
def tw6928996764801152750:=0
def tw4053314098858873843:=0
def tw15710867743149188986:=0
def tw15116420045815336393:=0
def tw16039906705674805314:=0
def tw438586911837256639:=0
def tw3213664070664900391:=0
def tw17795996335161773083:=0
def tw13154731045787307482:=0
def tw55807164055489869:=0
def tw15793852412888187786:=0
def tw4770080642693949078:=0
def tw12130812285768151911:=0
def tw13690518681690911218:=0
def tw12195416059152725177:=0
def tw12639725545198814996:=0
def tw6422735184792599014:=0
def tw4785379228060954142:=0
def tw13138171777762246735:=0
def tw14358530601733599629:=0
def tw17192199598945554312:=0
def tw17111723078488151142:=0
def tw916075900194040353:=0
def tw1605821913816383490:=0
def tw7515402835701646028:=0
def tw17740251216365156813:=0
def tw6761589126272144165:=0
def tw2839741718261169470:=0
def tw1361352525060520713:=0
def tw6683686990694990475:=0
def tw6675686723144490115:=0
def tw12309374944573488921:=0
def tw8155082702490570561:=0
def tw988062606790294442:=0
def tw18023039874477050715:=0
def tw933379564901181781:=0
def tw7519731003817055746:=0
def tw12085214211419562816:=0
def tw15220164735440220458:=0
def tw6807683255586036079:=0
def tw17191530607537316566:=0
def tw1997959933451526382:=0
def tw9036451528622390611:=0
def tw12542397584837041890:=0
def tw11964320592865651562:=0
def tw16408523801557056646:=0
def tw9959285222469615741:=0
def tw11380762591033101562:=0
def tw11809496818378949375:=0
def tw14304275787905335816:=0
def tw6198608855013402004:=0
def tw14221232407213259467:=0
def tw12070740436532203575:=0
def tw6391436691860988999:=0
def tw11702450051490075618:=0
def tw18383607862530369234:=0
def tw4083081527333369748:=0
def tw1811645657033990618:=0
def tw17182206617146244370:=0
def tw3770545341989877472:=0
def tw14665271780411644758:=0
def tw7802658322097745159:=0
def tw2418132759139084863:=0
def tw7576366398767403475:=0
def tw8407374890184780801:=0
def tw13505981342193144166:=0
def tw1635323209925278872:=0
def tw10635229162308905364:=0
def tw6055165969633431557:=0
def tw1817666967789636130:=0
def tw13260649039417197056:=0
def tw14393500340893877372:=0
def tw6376091989096597883:=0
def tw7872215893838034085:=0
def tw11360977174302650484:=0
def tw8958745872405155155:=0
def tw4206120660913881301:=0
def tw12661628435170724516:=0
def tw986987604070461030:=0
def tw2415163841999249266:=0
def tw16553507804483848404:=0
def tw9233646406872297644:=0
def tw13720120530782837550:=0
def tw4285994544445227606:=0
def tw241909531301035561:=0
def tw12820384483963500661:=0
def tw2438705674181738151:=0
def tw9005722864526196898:=0
def tw12264143703283192553:=0
def tw4625974878981411701:=0
def tw13459971391401551801:=0
def tw5975914941766322364:=0
def tw6638374534381019337:=0
def tw3762017378453845691:=0
def tw13653201056207940297:=0
def tw12540597696824086154:=0
def tw5868972208394572037:=0
def tw14951726265380601172:=0
def tw9340690661165298444:=0
def tw9297330406734173413:=0
def tw7691519260687420326:=0
def tw10592605526291388205:=0
def tw2958822651985685778:=0
end PySem.W.Fast
section
open PySem PySem.Spec PyProof.Rows
abbrev aa:=@wpAny_bind
abbrev ac:=@Nat.le_refl
abbrev ae:=@List.length_map
abbrev af:=@wpAny_pure
abbrev ag:=@Heap.lt_size
abbrev ah:=@List.getElem?_eq_some_iff
abbrev ai:=@Heap.get?_push_of_some
abbrev aj:=@List.map_append
abbrev ak:=@decide_eq_true
abbrev am:=@Option.some.inj
abbrev ao:=@List.mem_map
abbrev ap:=@List.take_of_length_le
abbrev au:=@List.mem_of_getElem?
abbrev av:=@List.take_add_one
abbrev aw:=@decide_eq_false
abbrev aA:=@Heap.get?_push_size
abbrev aB:=@List.mem_cons
abbrev aD:=@Nat.ne_of_lt
abbrev aE:=@List.size_toArray
abbrev aF:=@List.length_cons
abbrev aG:=@Nat.le_trans
abbrev aH:=@List.mem_append
abbrev aI:=@List.getElem?_map
abbrev aJ:=@List.length_append
abbrev aK:=@List.mem_cons_of_mem
abbrev aL:=@List.length_take
abbrev aM:=@of_decide_eq_true
abbrev aN:=@Bool.false_ne_true
abbrev aO:=@List.mem_singleton
abbrev aP:=@Nat.zero_le
abbrev aQ:=@List.map_cons
abbrev aR:=@wpAny_holding
abbrev aS:=@List.append_nil
abbrev aT:=@List.mem_filter
abbrev aU:=@wpAny_field
abbrev aV:=@List.getElem?_eq_getElem
abbrev aX:=@Bool.eq_iff_iff
abbrev aY:=@List.lookup_cons
abbrev aZ:=@Nat.lt_of_lt_of_le
abbrev ba:=@List.nodup_cons
abbrev bc:=@List.find?_cons
abbrev bd:=@List.length_filter_le
abbrev be:=@List.mem_append_right
abbrev bf:=@Bool.and_eq_true
abbrev bg:=@Int.emod_nonneg
abbrev bh:=@List.mem_cons_self
abbrev bi:=@Int.eq_ofNat_of_zero_le
abbrev bj:=@wpAny_mono
abbrev bo:=@List.all_eq_true
abbrev bp:=@Int.emod_lt_of_pos
abbrev bq:=@List.getElem?_zip_eq_some
abbrev br:=@List.filter_append
abbrev bt:=@List.filter_cons
abbrev bu:=@Nat.lt_irrefl
abbrev bv:=@Heap.size_push
abbrev bw:=@List.getD_eq_getElem?_getD
abbrev bx:=@List.length_zip
abbrev bz:=@Nat.le_of_ble_eq_true
abbrev bH:=@List.mem_append_left
abbrev bI:=@wpAny_pyIter_tuple
abbrev bJ:=@List.drop_eq_getElem_cons
abbrev bK:=@List.filter_nil
abbrev bL:=@Nat.ne_of_gt
abbrev bM:=@Bool.false_eq_true
abbrev bN:=@Nat.le_succ
abbrev bO:=@wpAny_seqItems
abbrev bP:=@wpAny_setField_rec
abbrev bQ:=@List.mem_flatMap
abbrev bR:=@List.getElem?_of_mem
abbrev bS:=@List.map_map
abbrev bT:=@Int.toNat_natCast
abbrev bU:=@List.length_drop
abbrev bV:=@List.any_cons
abbrev bW:=@List.drop_of_length_le
abbrev bX:=@List.nodup_append
abbrev bY:=@List.take_append_drop
abbrev bZ:=@Array.length_toList
abbrev ce:=@List.mem_filterMap
abbrev cg:=@Option.isSome_iff_exists
abbrev ci:=@Heap.get?_update_self
abbrev ck:=@List.any_eq_true
abbrev cm:=@List.forIn_cons
abbrev cp:=@wpAny_Call_Name_kw
abbrev cq:=@Heap.get?_update_other
abbrev cr:=@Array.getElem?_eq_some_iff
abbrev cu:=@List.append_assoc
abbrev cv:=@Heap.get?_none_of_le
abbrev cw:=@List.getElem?_set_self
abbrev cy:=@List.getElem?_set_ne
abbrev cz:=@List.getElem?_append_left
abbrev cA:=@List.mem_of_getLast?
abbrev cB:=@List.sublist_flatten_of_mem
abbrev cC:=@List.exists_cons_of_length_eq_add_one
end
noncomputable section
set_option Elab.async false
set_option linter.all false
set_option maxRecDepth 100000
namespace L2
open PySem PySem.Spec PyProof.Rows
abbrev Key:=Sum Int Str
def lK:Key->Value->Bool
 | .inl k,v=>Value.isInt k v
 | .inr x,v=>Value.isStrOf x v
def keyH (w:World):Key->Int
 | .inl k=>hashInt k
 | .inr x=>hashStr w x
theorem eY:∀ {k:Key}{v:Value},lK k v=true->(∃i t,k=Sum.inl i/\v=Value.int i t)∨(∃x t,k=Sum.inr x/\v=Value.str x t)
 | .inl i,v,h=>by
  obtain⟨t,e⟩:=Value.isInt_shape (k:=i) (v:=v) h
  exact .inl ⟨i,t,rfl,e⟩
 | .inr x,v,h=>by
  obtain⟨t,e⟩:=Value.isStrOf_shape (x:=x) (v:=v) h
  exact .inr ⟨x,t,rfl,e⟩
theorem uL (i:Int) (t:Tok):lK (.inl i) (.int i t)=true:=by simp[lK,Value.isInt]
theorem vJ (x:Str) (t:Tok):lK (.inr x) (.str x t)=true:=by simp[lK,Value.isStrOf]
theorem Ak (a b:Int):decide ((Sum.inl a:Key)=Sum.inl b)=(a==b):=by
 by_cases e:a=b
 ·subst e;simp
 ·have h:¬ (Sum.inl a:Key)=Sum.inl b:=fun q=>e (Sum.inl.inj q)
  rw[aw h]
  exact(beq_eq_false_iff_ne.mpr e).symm
theorem Ag (a b:Str):decide ((Sum.inr a:Key)=Sum.inr b)=decide (a=b):=by
 by_cases e:a=b
 ·subst e;simp
 ·have h:¬ (Sum.inr a:Key)=Sum.inr b:=fun q=>e (Sum.inr.inj q)
  rw[aw h,aw e]
theorem AU (a:Int) (b:Str):decide ((Sum.inl a:Key)=Sum.inr b)=false:=aw (fun q=>nomatch q)
theorem Bd (a:Str) (b:Int):decide ((Sum.inr a:Key)=Sum.inl b)=false:=aw (fun q=>nomatch q)
def dU (prog:Program) (w:World):PySem.KeyKind prog w Key where
 is:=lK
 hash:=keyH w
 inj:=fun v a b ha hb=>by
  rcases eY ha with⟨i,t,rfl,rfl⟩ | ⟨x,t,rfl,rfl⟩
  ·rcases eY hb with⟨j,u,rfl,e⟩ | ⟨y,u,rfl,e⟩
   ·injection e with e1 _;rw[e1]
   ·exact nomatch e
  ·rcases eY hb with⟨j,u,rfl,e⟩ | ⟨y,u,rfl,e⟩
   ·exact nomatch e
   ·injection e with e1 _;rw[e1]
 byValue:=fun k v h=>by
  rcases eY h with⟨i,t,rfl,rfl⟩ | ⟨x,t,rfl,rfl⟩ <;> rfl
 pyHash:=fun hv h=>by
  rcases eY hv with⟨i,t,rfl,rfl⟩ | ⟨x,t,rfl,rfl⟩
  ·exact wpAny_pyHash_int h
  ·exact wpAny_pyHash_str h
 eqBool:=fun hu hv h=>by
  rcases eY hu with⟨i,t,rfl,rfl⟩ | ⟨x,t,rfl,rfl⟩
  ·rcases eY hv with⟨j,u,rfl,rfl⟩ | ⟨y,u,rfl,rfl⟩
   ·rw[Ak] at h;exact wpAny_eqBool_int h
   ·rw[AU] at h;exact SeqAt.EqAt.int_str i t y u _ _ _ _ h
  ·rcases eY hv with⟨j,u,rfl,rfl⟩ | ⟨y,u,rfl,rfl⟩
   ·rw[Bd] at h;exact SeqAt.EqAt.str_int x t j u _ _ _ _ h
   ·rw[Ag] at h;exact wpAny_eqBool_str h
 «strs»:=fun k x t v h=>by
  rcases eY h with⟨i,u,rfl,e⟩ | ⟨y,u,rfl,e⟩
  ·exact nomatch e
  ·injection e with e1 _
   subst e1
   cases v <;> rfl
theorem rG (prog:Program) (w:World) (i:Int) (t:Tok):(dU prog w).is (.inl i) (.int i t)=true:=uL i t
theorem jn (prog:Program) (w:World) (x:Str) (t:Tok):(dU prog w).is (.inr x) (.str x t)=true:=vJ x t
inductive V where
 | non | bl (b:Bool) | int (i:Int) | str (x:Str) | byt (b:Array UInt8) | flt (b:UInt64) | ref (a:Addr) | ty (n:String)
 deriving DecidableEq
def RelV:V->Value->Prop
 | .non,u=>u=Value.none
 | .bl b,u=>u=Value.bool b
 | .int i,u=>∃t,u=Value.int i t
 | .str x,u=>∃t,u=Value.str x t
 | .byt b,u=>∃t,u=Value.bytes b t
 | .flt b,u=>∃t,u=Value.float b t
 | .ref a,u=>u=Value.ref a
 | .ty n,u=>u=Value.type n
abbrev Vals:List V->List Value->Prop:=Paired RelV
theorem Vals.length {xs:List V}{us:List Value}(r:Vals xs us):xs.length=us.length:=Paired.length r
theorem Vals.get:∀ {xs:List V}{us:List Value}{i:Nat}{x:V},Vals xs us->xs[i]? = some x->∃u,us[i]? = some u/\RelV x u
 | _,_,_,_,.nil,e=>by simp at e
 | _,_,0,_,.cons r _,e=>by simp at e;subst e;exact⟨_,rfl,r⟩
 | _,_,i+1,x,.cons _ t,e=>by
  obtain⟨u,h1,h2⟩:=Vals.get (i:=i) (x:=x) t (by simpa using e)
  exact⟨u,by simpa using h1,h2⟩
theorem Vals.set {x:V}{u:Value}(r:RelV x u):∀ {xs:List V}{us:List Value}(i:Nat),Vals xs us->Vals (xs.set i x) (us.set i u)
 | _,_,_,.nil=>.nil
 | _,_,0,.cons _ t=>.cons r t
 | _,_,i+1,.cons q t=>.cons q (Vals.set r i t)
theorem Vals.append:∀ {xs ys:List V}{us ws:List Value},Vals xs us->Vals ys ws->Vals (xs++ys) (us++ws)
 | _,_,_,_,.nil,s=>s
 | _,_,_,_,.cons r t,s=>.cons r (Vals.append t s)
theorem Vals.take:∀ {xs:List V}{us:List Value}(n:Nat),Vals xs us->Vals (xs.take n) (us.take n)
 | _,_,0,_=>.nil
 | _,_,_+1,.nil=>.nil
 | _,_,n+1,.cons r t=>.cons r (Vals.take n t)
theorem Vals.drop:∀ {xs:List V}{us:List Value}(n:Nat),Vals xs us->Vals (xs.drop n) (us.drop n)
 | _,_,0,r=>r
 | _,_,_+1,.nil=>.nil
 | _,_,n+1,.cons _ t=>Vals.drop n t
def RelO:Option V->Option Value->Prop
 | some v,some u=>RelV v u
 | none,none=>True
 | _,_=>False
def KV {κ:Type}:List (κ × V)->List (κ × Value)->Prop:=Paired fun (p:κ × V) (q:κ × Value)=>p.1=q.1/\RelV p.2 q.2
def kV:Key->V
 | .inl i=>.int i
 | .inr x=>.str x
inductive HO where
    | lst (xs:List V)
    | tup (xs:List V)
    | dK (kvs:List (Key × V)) | dT (kvs:List (List Key × V))
    | set (S:Int->Bool) (n:Nat)
    | ins (C dx:Addr) (fs:List (Str × V))
    | own (x:Addr)
    | xd (fs:List (Str × V))
    | met (f x:Addr)
    | rng (lo hi:Int)
    | frz (o:Obj) (u:HO)
    | tbl (ps:Array Value)
    | ext (φ:Heap->Prop)
abbrev Hp:=Addr->Option HO
def upd (H:Hp) (a:Addr) (o:HO):Hp:=fun b=>if b=a then some o else H b
theorem cE {H:Hp}{a:Addr}{o:HO}:upd H a o a=some o:=by unfold upd;rw[if_pos rfl]
theorem cJ {H:Hp}{a b:Addr}{o:HO}(h:b≠a):upd H a o b=H b:=by unfold upd;rw[if_neg h]
theorem nQ {H:Hp}{a:Addr}{o u:HO}:upd (upd H a o) a u=upd H a u:=by
 funext b;unfold upd;split <;> rfl
theorem eK {H:Hp}{a b:Addr}{o u:HO}(h:H a=some o) (h':H b=some u) (d:o≠u):a≠b:=by
 intro e;subst e;rw[h] at h';exact d (am h')
theorem cO {H:Hp}{a b:Addr}{o:HO}(h:H a=some o) (h':H b=none):a≠b:=by
 intro e;subst e;rw[h] at h';cases h'
def TupN (h:Heap) (a:Addr) (items:Array Value):Prop:=∃o,h.get? a=some o/\o.cls=.type "tuple"/\∃n,o.data=.seq items n/\o.dict=none
theorem TupN.tup {h:Heap}{a:Addr}{items:Array Value}(x:TupN h a items):IsTup h a items:=let ⟨o,e,c,n,d,_⟩:=x;⟨o,e,c,n,d⟩
theorem TupN.new (h:Heap) (items:Array Value):TupN (h.push { cls:=.type "tuple",data:=.seq items }) h.objs.size items:=⟨_,aA _ rfl,rfl,_,rfl,rfl⟩
section
variable (P:Program) (w:World)
def ObjOk (H:Hp) (h:Heap) (a:Addr):HO -> Prop
 | .lst xs=>xs.length<=sizeLine/\∃(its:List Value) (n:Nat),Vals xs its/\h.get? a=some { cls:=.type "list",data:=.seq its.toArray n }
 | .tup xs=>xs.length<=sizeLine/\∃its:List Value,Vals xs its/\TupN h a its.toArray
 | .dK kvs=>kvs.length<=sizeLine/\(a==sysModules)=false/\∃vs,KV kvs vs/\h.DictOf (dU P w) a vs
 | .dT kvs=>kvs.length<=sizeLine/\(a==sysModules)=false/\∃xs:List (List Key × Addr × Value),
     Paired (fun (p:List Key × V) (q:List Key × Addr × Value)=>p.1=q.1/\H q.2.1=some (.tup (p.1.map kV))/\RelV p.2 q.2.2) kvs xs /\
     ∃o es ep,h.get? a=some o/\o.ExactDict/\o.data=.dict es ep/\es.toList=xs.map (entryOfKey (tupleKind (dU P w)))/\(xs.map (·.1)).Nodup
 | .set S n=>h.SetOf (intKind P w) a S n
 | .ins C dx fs=>H dx=some (.own a)/\fs.length<=1000/\dx≠a/\h.get? a=some (W.instObj C dx) /\
     ∃mA,h.Ns1 dx mA/\(∀f,RelO (fs.lookup f) (mA f))/\PySem.Within mA (fs.map (·.1))
 | .own _=>∃o,h.get? a=some o
 | .xd fs=>∃mA,h.Ns1 a mA/\∀f,RelO (fs.lookup f) (mA f)
 | .rng lo hi=>∃t u v,h.get? a=some { cls:=.type "range",data:=.fields #[.int lo t,.int hi u,.int 1 v] }
 | .frz o u=>h.get? a=some o/\ObjOk H h a u
 | .tbl ps=>h.get? a=some { cls:=.none,data:=.fields ps }
 | .met f x=>h.get? a=some (W.methodObj (.ref f) (.ref x))
 | .ext φ=>φ h/\(∃o,h.get? a=some o)/\∀h1 h2:Heap,φ h1->(∀o,h1.get? a=some o->h2.get? a=some o)->φ h2
def HOk (H:Hp) (h:Heap):Prop:=∀a o,H a=some o->ObjOk P w H h a o
end
section
variable {P:Program}{w:World}{H H':Hp}{h h':Heap}{a:Addr}{o:HO}
theorem ObjOk.lt (x:ObjOk P w H h a o):a<h.objs.size:=by
 cases o with
 | lst xs=>obtain⟨_,_,_,_,e⟩:=x;exact ag e
 | tup xs=>obtain⟨_,_,_,p⟩:=x;exact p.tup.lt
 | dK kvs=>obtain⟨_,_,_,_,o,_,_,e,_⟩:=x;exact ag e
 | dT kvs=>obtain⟨_,_,_,_,o,_,_,e,_⟩:=x;exact ag e
 | set S n=>obtain⟨o,_,_,_,e,_⟩:=x;exact ag e
 | ins C dx fs=>obtain⟨_,_,_,e,_⟩:=x;exact ag e
 | own y=>obtain⟨_,e⟩:=x;exact ag e
 | xd fs=>obtain⟨_,⟨_,_,_,e,_⟩,_⟩:=x;exact ag e
 | rng lo hi=>obtain⟨_,_,_,e⟩:=x;exact ag e
 | frz ob u=>obtain⟨e,_⟩:=x;exact ag e
 | tbl ps=>exact ag (show h.get? a=some _ from x)
 | met f y=>exact ag (show h.get? a=some _ from x)
 | ext φ=>obtain⟨_,⟨_,e⟩,_⟩:=x;exact ag e
theorem Paired.mapP {α β:Type}{F G:α->β->Prop}:∀ {l₁:List α}{l₂:List β},Paired F l₁ l₂->(∀a b,F a b->G a b)->Paired G l₁ l₂
 | _,_,.nil,_=>.nil
 | _,_,.cons r t,f=>.cons (f _ _ r) (Paired.mapP t f)
theorem ObjOk.stay (x:ObjOk P w H h a o) (k:∀b u,(b=a∨H b=some (.own a))->h.get? b=some u->h'.get? b=some u)
    (ho:∀b,H b=some (.own a)->H' b=some (.own a)) (ht:∀b xs,H b=some (.tup xs)->H' b=some (.tup xs)):ObjOk P w H' h' a o:=by
 induction o with
 | lst xs=>obtain⟨z,its,n,r,e⟩:=x;exact⟨z,its,n,r,k _ _ (.inl rfl) e⟩
 | tup xs=>obtain⟨z,its,r,ob,e,c⟩:=x;exact⟨z,its,r,ob,k _ _ (.inl rfl) e,c⟩
 | dK kvs=>obtain⟨z,y,vs,r,ob,es,ep,e,c⟩:=x;exact⟨z,y,vs,r,ob,es,ep,k _ _ (.inl rfl) e,c⟩
 | dT kvs =>
  obtain⟨z,y,xs,r,ob,es,ep,e,c⟩:=x
  exact⟨z,y,xs,Paired.mapP r fun p q z=>⟨z.1,ht _ _ z.2.1,z.2.2⟩,ob,es,ep,k _ _ (.inl rfl) e,c⟩
 | set S n=>obtain⟨ob,es,ep,t,e,c⟩:=x;exact⟨ob,es,ep,t,k _ _ (.inl rfl) e,c⟩
 | ins C dx fs =>
  obtain⟨d,z,ne,e,mA,⟨od,es,ep,e2,c⟩,r⟩:=x
  exact⟨ho _ d,z,ne,k _ _ (.inl rfl) e,mA,⟨od,es,ep,k _ _ (.inr d) e2,c⟩,r⟩
 | own y=>obtain⟨ob,e⟩:=x;exact⟨ob,k _ _ (.inl rfl) e⟩
 | xd fs=>obtain⟨mA,⟨od,es,ep,e,c⟩,r⟩:=x;exact⟨mA,⟨od,es,ep,k _ _ (.inl rfl) e,c⟩,r⟩
 | rng lo hi=>obtain⟨t,u,v,e⟩:=x;exact⟨t,u,v,k _ _ (.inl rfl) e⟩
 | frz ob u ih=>obtain⟨e,q⟩:=x;exact⟨k _ _ (.inl rfl) e,ih q⟩
 | tbl ps =>
  have e:h.get? a=some { cls:=.none,data:=.fields ps }:=x
  show h'.get? a=some { cls:=.none,data:=.fields ps }
  exact k a _ (.inl rfl) e
 | met f y =>
  have e:h.get? a=some (W.methodObj (.ref f) (.ref y)):=x
  show h'.get? a=some (W.methodObj (.ref f) (.ref y))
  exact k a _ (.inl rfl) e
 | ext φ=>obtain⟨p,⟨o,e⟩,st⟩:=x;exact⟨st _ _ p fun o q=>k _ _ (.inl rfl) q,⟨o,k _ _ (.inl rfl) e⟩,st⟩
theorem HOk.lt (x:HOk P w H h) (e:H a=some o):a<h.objs.size:=(x a o e).lt
theorem HOk.fresh (x:HOk P w H h) (e:h.objs.size<=a):H a=none:=by
 cases q:H a with
 | none=>rfl
 | some u=>exact absurd (aZ (x.lt q) e) (bu _)
theorem HOk.kept (x:HOk P w H h) (k:∀b u,h.get? b=some u->h'.get? b=some u):HOk P w H h':=fun a o e =>
 (x a o e).stay (fun b u _ q=>k b u q) (fun _ q=>q) fun _ _ q=>q
theorem HOk.laid (x:HOk P w H h) (k:∀b u,h.get? b=some u->h'.get? b=some u) (hp:h.objs.size<=a) (new:ObjOk P w (upd H a o) h' a o):HOk P w (upd H a o) h':=fun b u e=>by
 have hn:=x.fresh hp
 by_cases hb:b=a
 ·subst hb;rw[cE] at e;cases e;exact new
 ·rw[cJ hb] at e
  exact(x b u e).stay (fun c v _ q=>k c v q) (fun c q=>by rw[cJ (cO q hn)];exact q) fun c xs q=>by rw[cJ (cO q hn)];exact q
end
def Rd (H:Hp) (a:Addr) (u:HO):Prop:=H a=some u∨∃o,H a=some (.frz o u)
theorem Rd.ok {P:Program}{w:World}{H:Hp}{h:Heap}{a:Addr}{u:HO}(r:Rd H a u) (x:HOk P w H h):ObjOk P w H h a u:=by
 rcases r with r | ⟨o,r⟩
 ·exact x a u r
 ·obtain⟨_,q⟩:=x a _ r
  exact q
def Mut:Option HO->Prop
 | some (.lst _)=>True
 | some (.dK _)=>True
 | some (.dT _)=>True
 | some (.set _ _)=>True
 | some (.ins _ _ _)=>True
 | some (.ext _)=>True
 | _=>False
section
variable {P:Program}{w:World}{H:Hp}{h h':Heap}{x e:Addr}{o':HO}
theorem HOk.write (ok:HOk P w H h) (mu:Mut (H x)) (he:e=x ∨ H e=some (.own x)) (k:∀b u, b ≠ e -> h.get? b=some u -> h'.get? b=some u) (heo:∃u, h'.get? e=some u)
    (new:ObjOk P w (upd H x o') h' x o'):HOk P w (upd H x o') h':=fun b u q=>by
 have nown:∀c y,H c=some (.own y)->c≠x:=fun c y r z=>by subst z;rw[r] at mu;exact mu
 have ntup:∀c xs,H c=some (.tup xs)->c≠x:=fun c xs r z=>by subst z;rw[r] at mu;exact mu
 by_cases hb:b=x
 ·subst hb;rw[cE] at q;cases q;exact new
 ·rw[cJ hb] at q
  by_cases hbe:b=e
  ·have q':H b=some (.own x):=by
      rcases he with z | z
      ·exact absurd (hbe.trans z) hb
      ·rw[hbe];exact z
   rw[q] at q';cases q'
   obtain⟨v,hv⟩:=heo
   exact⟨v,by rw[hbe];exact hv⟩
  ·refine(ok b u q).stay (fun c v hc r=>k c v ?_ r) (fun c r=>by rw[cJ (nown c b r)];exact r) fun c xs r=>by rw[cJ (ntup c xs r)];exact r
   rcases hc with rfl | hc
   ·exact hbe
   ·rintro rfl
    rcases he with z | z
    ·exact nown c b hc z
    ·rw[hc] at z;cases z;exact hb rfl
end
structure Un (fs ex:List Addr) (H H':Hp) (h h':Heap):Prop where
 keep:∀b o,h.get? b=some o->H b=none->b∉fs->b∉ex->h'.get? b=some o
 slot:∀b o,h.get? b=some o->H b=none->b∈fs->b∉ex->∃sl,h'.get? b=some { o with slots:=sl }
 free:∀b o,h.get? b=some o->H b=none->b∉ex->H' b=none
 there:∀b o,h.get? b=some o->b∉ex->∃o',h'.get? b=some o'
 tups:∀b xs,H b=some (.tup xs)->H' b=some (.tup xs)
 frzs:∀b o u,H b=some (.frz o u)->H' b=some (.frz o u)
 tbls:∀b ps,H b=some (.tbl ps)->∃more,H' b=some (.tbl (ps++more))
section
variable {fs fs' ex ex':List Addr}{H H1 H2:Hp}{h h1 h2 h':Heap}{a x e:Addr}{o:HO}
theorem Un.any (u:Un fs ex H H1 h h1) {b:Addr}{ob:Obj}(q:h.get? b=some ob) (n:H b=none) (hx:b∉ex):∃sl,h1.get? b=some { ob with slots:=sl }:=by
 by_cases hb:b∈fs
 ·exact u.slot b ob q n hb hx
 ·exact⟨ob.slots,u.keep b ob q n hb hx⟩
theorem Un.kept (k:∀b u,h.get? b=some u->h'.get? b=some u):Un fs ex H H h h' :=
 ⟨fun b ob q _ _ _=>k b ob q,fun b ob q _ _ _=>⟨ob.slots,k b ob q⟩,fun _ _ _ n _=>n,fun b ob q _=>⟨ob,k b ob q⟩,fun _ _ q=>q,fun _ _ _ q=>q,fun _ ps q=>⟨#[],by rw[q];simp⟩⟩
theorem Un.refl:Un fs ex H H h h:=Un.kept fun _ _ q=>q
theorem Un.laid (k:∀b u,h.get? b=some u->h'.get? b=some u) (hp:h.objs.size<=a) (hn:H a=none):Un fs ex H (upd H a o) h h' where
 keep:=fun b u q _ _ _=>k b u q
 slot:=fun b u q _ _ _=>⟨u.slots,k b u q⟩
 free:=fun b u q n _=>by rw[cJ (aD (aZ (ag q) hp))];exact n
 there:=fun b u q _=>⟨u,k b u q⟩
 tups:=fun b xs q=>by rw[cJ (cO q hn)];exact q
 frzs:=fun b u xs q=>by rw[cJ (cO q hn)];exact q
 tbls:=fun b ps q=>⟨#[],by rw[cJ (cO q hn),q];simp⟩
theorem Un.write (mu:Mut (H x)) (he:e=x∨H e=some (.own x)) (k:∀b u,b≠e->h.get? b=some u->h'.get? b=some u) (heo:∃u,h'.get? e=some u):Un fs ex H (upd H x o) h h':=by
 have hx:∀b,H b=none->b≠x:=fun b n z=>by subst z;rw[n] at mu;exact mu
 have hb:∀b,H b=none->b≠e:=fun b n z=>by
  subst z
  rcases he with r | r
  ·exact hx b n r
  ·rw[n] at r;cases r
 have hm:∀b u,H b=some u->¬ Mut (some u)->b≠x:=fun b u q nm z=>by subst z;rw[q] at mu;exact nm mu
 refine⟨fun b u q n _ _=>k b u (hb b n) q,fun b u q n _ _=>⟨u.slots,k b u (hb b n) q⟩,fun b u q n _=>by rw[cJ (hx b n)];exact n,fun b u q _=>?_,
  fun b xs q=>by rw[cJ (hm b _ q fun z=>z)];exact q,fun b u xs q=>by rw[cJ (hm b _ q fun z=>z)];exact q,fun b ps q=>⟨#[],by rw[cJ (hm b _ q fun z=>z),q];simp⟩⟩
 by_cases hbe:b=e
 ·subst hbe;exact heo
 ·exact⟨u,k b u hbe q⟩
end
def trk (h:Heap) (H:Hp):List Addr:=(List.range h.objs.size).filter fun a=>(H a).isSome
def kf (h:Heap) (H:Hp):Heap:=W.hideAll h (trk h H)
theorem wu (h:Heap) (H:Hp):(kf h H).objs.size=h.objs.size:=W.hideAll_size _ _
theorem wP {h:Heap}{H:Hp}{b:Addr}{o:Obj}(e:h.get? b=some o) (n:H b=none):(kf h H).get? b=some o :=
 W.hideAll_get _ e fun hm=>by
  have q:(H b).isSome=true:=(aT.mp hm).2
  rw[n] at q;simp at q
theorem zJ {h:Heap}{H:Hp}{b:Addr}{o:Obj}(e:(kf h H).get? b=some o):h.get? b=some o/\H b=none:=by
 have e':h.get? b=some o:=W.of_hideAll (trk h H) e
 refine⟨e',?_⟩
 cases q:H b with
 | none=>rfl
 | some x =>
  have hm:b∈trk h H:=aT.mpr ⟨List.mem_range.mpr (ag e'),by simp[q]⟩
  have z:(kf h H).get? b=none:=W.hideAll_none (trk h H) hm
  rw[z] at e;cases e
def zo (g h:Heap) (L:Addr):List (Addr × Obj):=(List.range h.objs.size).filterMap fun a=>if a=L∨(g.get? a).isSome=true then none else (h.get? a).map fun o=>(a,o)
def dX (g h:Heap) (L d:Addr):List (Addr × Obj):=(zo g h L).filter fun p=>decide (p.1≠d)
structure Mod (K:W.Frag) (mg:Str->Option Value) (base:Heap):Prop where
 kin:K.In base
 glob:base.Ns mainGlobals mg
 blt:∃mb,base.Ns builtinsNs mb/\∀x:Str,x≠"__name__"->mb x=bootBuiltins x
 nolimit:base.NoLimit
structure Cx where
 prog:Program
 w:World
 K:W.Frag
 mg:Str->Option Value
 base:Heap
 A:Around
 N:List Str
 s₀:Shared
 H₀:Hp
 env:Env
 outer:List Env
 stack:List Env
 ex:List Addr
 fn:Str->Bool
 calm:Bool
 pn:List (Addr × Obj)
 xe:Value->Shared->Prop
def frs (l:List Env):List Addr:=l.filterMap (·.frame)
abbrev Cx.fs (X:Cx):List Addr:=frs X.outer
def Vis (sc:Scope) (x:Str):Prop:=sc.names.lookup x=some .local∨sc.names.lookup x=some .cell∨sc.names.lookup x=some .free
def Loc (sc:Scope) (x:Str):Prop:=sc.names.lookup x=some .local∨sc.names.lookup x=some .cell
def Look (env:Env) (h:Heap) (m:Str->Option Value) (x:Str) (u:Value):Prop :=
 (env.kindOf x=some .local/\m x=some u)∨((env.kindOf x=some .cell∨env.kindOf x=some .free)/\∃c,env.cells.lookup x=some c/\h.IsCell c (some u))
structure Cx.Ok (X:Cx):Prop where
 mod:Mod X.K X.mg X.base
 kind:X.env.scope.kind=.function
 glob:X.env.globals=mainGlobals
 blt:X.env.builtins=builtinsNs
 above:X.s₀.heap.objs.size<=X.env.locals
 inj:∀x y c,X.env.cells.lookup x=some c->X.env.cells.lookup y=some c->x=y
 has:∀x,(X.env.kindOf x=some .cell∨X.env.kindOf x=some .free)->∃c,X.env.cells.lookup x=some c
 cab:∀x c,X.fn x=true->X.env.cells.lookup x=some c->X.s₀.heap.objs.size<=c
 hd:X.calm=true->X.A.handled=none
 frames:X.A.frames=some X.stack
 stk:X.stack=X.outer∨(X.stack=X.env::X.outer/\X.env.frame=some X.env.locals)
 exf:∀b∈X.ex,b≠X.env.locals/\∀x c,X.env.cells.lookup x=some c->c≠b
 bs:∀b o,X.base.get? b=some o->X.s₀.heap.get? b=some o/\X.H₀ b=none
 bsz:X.base.objs.size<=X.s₀.heap.objs.size
 noex:∀b o,X.base.get? b=some o->b∉X.ex
 exfs:∀b∈X.ex,b∉X.fs
 funs:X.s₀.heap.FunFrames X.base X.outer
 frf:∀b∈X.fs,X.H₀ b=none
structure Inv (X:Cx) (pins:List (Addr × Obj)) (σ:List (Option V)) (H:Hp) (s:Shared):Prop where
 ok:X.Ok
 os:s.os=X.s₀.os
 bare:AllBare s.gens
 base:Un X.fs X.ex X.H₀ H X.s₀.heap s.heap
 loc:∃m,s.heap.Ns X.env.locals m/\∀(i:Nat) (x:Str) (v:V),X.N[i]? = some x->σ[i]? = some (some v)->Vis X.env.scope x->∃u,RelV v u/\Look X.env s.heap m x u
 cell:∀x c,X.env.cells.lookup x=some c->∃v,s.heap.IsCell c v
 free:H X.env.locals=none
 freeC:∀x c,X.env.cells.lookup x=some c->H c=none
 pin:∀p∈X.pn++pins,s.heap.get? p.1=some p.2/\H p.1=none/\p.1≠X.env.locals/\p.1∉X.fs/\∀v,p.2.data≠.cell v
 hok:HOk X.prog X.w H s.heap
 len:σ.length=X.N.length
section
variable {X:Cx}{pins:List (Addr × Obj)}{σ:List (Option V)}{H H':Hp}{s:Shared}{h':Heap}
theorem Cx.Ok.nofr (ok:X.Ok) {b:Addr}{o:Obj}(e:X.base.get? b=some o):b∉X.fs:=fun hb=>by
 have:=(ok.funs.mem hb).1
 rw[e] at this;cases this
theorem Inv.bs (I:Inv X pins σ H s):∀b o,X.base.get? b=some o->s.heap.get? b=some o/\H b=none:=fun b o e =>
 ⟨I.base.keep b o (I.ok.bs b o e).1 (I.ok.bs b o e).2 (I.ok.nofr e) (I.ok.noex b o e),I.base.free b o (I.ok.bs b o e).1 (I.ok.bs b o e).2 (I.ok.noex b o e)⟩
theorem Inv.bk (I:Inv X pins σ H s):∀b o,X.base.get? b=some o->s.heap.get? b=some o:=fun b o e=>(I.bs b o e).1
theorem Inv.mod (I:Inv X pins σ H s):Mod X.K X.mg X.base:=I.ok.mod
theorem Inv.kIn (I:Inv X pins σ H s):X.K.In s.heap:=I.ok.mod.kin.keeps I.bk
theorem Inv.lt (I:Inv X pins σ H s):X.env.locals<s.heap.objs.size:=let ⟨_,hn,_⟩:=I.loc;hn.lt
theorem Inv.sz (I:Inv X pins σ H s):X.s₀.heap.objs.size<=s.heap.objs.size:=aG I.ok.above (Nat.le_of_lt I.lt)
theorem Inv.nofs (I:Inv X pins σ H s) {a:Addr}(h:s.heap.objs.size<=a):a∉X.fs:=fun hb=>by
 obtain⟨_,o,ho,_⟩:=I.ok.funs.mem hb
 exact absurd (aZ (ag ho) (aG I.sz h)) (bu _)
theorem Inv.cne (I:Inv X pins σ H s):∀x c,X.env.cells.lookup x=some c->c≠X.env.locals:=fun x c e z=>by
 obtain⟨v,o,ho,hd⟩:=I.cell x c e
 obtain⟨m,⟨o',es,ep,ho',hd',_⟩,_⟩:=I.loc
 rw[z,ho'] at ho;cases ho;rw[hd'] at hd;cases hd
theorem Inv.funs (I:Inv X pins σ H s):s.heap.FunFrames X.base X.outer := by
 have all:∀(l:List Env),(∀b∈frs l,b∈X.fs)->X.s₀.heap.FunFrames X.base l->s.heap.FunFrames X.base l:=by
  intro l
  induction l with
  | nil=>intro _ _;trivial
  | cons env r ih =>
   intro hs hl
   obtain⟨hk,⟨L,o,hf,hn,ho,hd⟩,hr⟩:=hl
   have hL:L∈X.fs:=hs L (by unfold frs;rw[List.filterMap_cons,hf];exact bh)
   obtain⟨sl,e⟩:=I.base.slot L o ho (I.ok.frf L hL) hL fun z=>I.ok.exfs L z hL
   exact⟨hk,⟨L,_,hf,hn,e,hd⟩,ih (fun b hb=>hs b (by unfold frs;rw[List.filterMap_cons,hf];exact aK _ hb)) hr⟩
 exact all X.outer (fun _ hb=>hb) I.ok.funs
theorem Inv.stack (I:Inv X pins σ H s):s.heap.FunFrames X.base X.stack:=by
 rcases I.ok.stk with e | ⟨e,hf⟩
 ·rw[e];exact I.funs
 ·rw[e]
  obtain⟨m,hn,_⟩:=I.loc
  refine .cons (by rw[I.ok.kind];decide) hf hn ?_ I.funs
  exact cv (aG I.ok.bsz I.ok.above)
theorem Inv.stkSub (I:Inv X pins σ H s):∀b∈frs X.stack,b∈X.env.locals::X.fs:=fun b hb=>by
 rcases I.ok.stk with e | ⟨e,hf⟩
 ·rw[e] at hb;exact aK _ hb
 ·rw[e] at hb
  unfold frs at hb
  rw[List.filterMap_cons,hf] at hb
  exact hb
theorem Inv.stkFree (I:Inv X pins σ H s):∀b∈frs X.stack,H b=none:=fun b hb=>by
 rcases aB.mp (I.stkSub b hb) with e | hb
 ·rw[e];exact I.free
 ·obtain⟨_,o,ho,_⟩:=I.ok.funs.mem hb
  exact I.base.free b o ho (I.ok.frf b hb) fun z=>I.ok.exfs b z hb
theorem Inv.step {g':Array GenState}{t':Nat}{d':Drawn}{ch:List Addr}(I:Inv X pins σ H s)
    (hch:∀b∈ch,(b∈X.ex∨X.s₀.heap.objs.size<=b)/\b≠X.env.locals/\(∀x c,X.env.cells.lookup x=some c->c≠b)/\∀p∈X.pn++pins,p.1≠b)
    (keep:∀b o,b≠X.env.locals->b∉X.fs->b∉ch->s.heap.get? b=some o->H b=none->h'.get? b=some o)
    (slot:∀b o,b≠X.env.locals->b∈X.fs->b∉ch->s.heap.get? b=some o->H b=none->∃sl,h'.get? b=some { o with slots:=sl }) (free:∀b o,b∉ch->s.heap.get? b=some o->H b=none->H' b=none)
    (there:∀b o,b∉ch->s.heap.get? b=some o->∃o',h'.get? b=some o')
    (tups:∀b xs,H b=some (.tup xs)->H' b=some (.tup xs)) (frzs:∀b o u,H b=some (.frz o u)->H' b=some (.frz o u)) (tbls:∀b ps,H b=some (.tbl ps)->∃more,H' b=some (.tbl (ps++more)))
    (ns:∀m,s.heap.Ns X.env.locals m->h'.Ns X.env.locals m) (hok:HOk X.prog X.w H' h') (hg:AllBare g') :
    Inv X pins σ H' { s with heap:=h',gens:=g',drawn:=d',toks:=t' }:=by
 have neL:∀b o,X.s₀.heap.get? b=some o->b≠X.env.locals:=fun b o e=>aD (aZ (ag e) I.ok.above)
 have neC:∀b o,X.s₀.heap.get? b=some o->b∉X.ex->b∉ch:=fun b o e hx hb=>by
  rcases (hch b hb).1 with z | z
  ·exact hx z
  ·exact absurd (aZ (ag e) z) (bu _)
 have cellK:∀x c,X.env.cells.lookup x=some c->∀v,s.heap.IsCell c v->h'.IsCell c v:=fun x c e v ⟨o,ho,hd⟩=>by
  have nch:c∉ch:=fun z=>(hch c z).2.2.1 x c e rfl
  by_cases hc:c∈X.fs
  ·obtain⟨sl,q⟩:=slot c o (I.cne x c e) hc nch ho (I.freeC x c e)
   exact⟨_,q,hd⟩
  ·exact⟨o,keep c o (I.cne x c e) hc nch ho (I.freeC x c e),hd⟩
 refine⟨I.ok,I.os,hg,⟨fun b o e n hb hx=>?_,fun b o e n hb hx=>?_,fun b o e n hx=>?_,fun b o e hx=>?_,fun b xs e=>tups b xs (I.base.tups b xs e),fun b o xs e=>frzs b o xs (I.base.frzs b o xs e),fun b ps e=>?_⟩,?_,fun x c e=>?_,?_,fun x c e=>?_,fun p hp=>?_,hok,I.len⟩
 ·exact keep b o (neL b o e) hb (neC b o e hx) (I.base.keep b o e n hb hx) (I.base.free b o e n hx)
 ·obtain⟨sl,e1⟩:=I.base.slot b o e n hb hx
  obtain⟨sl',e2⟩:=slot b _ (neL b o e) hb (neC b o e hx) e1 (I.base.free b o e n hx)
  exact⟨sl',e2⟩
 ·obtain⟨o',e1⟩:=I.base.there b o e hx
  exact free b o' (neC b o e hx) e1 (I.base.free b o e n hx)
 ·obtain⟨o',e1⟩:=I.base.there b o e hx
  exact there b o' (neC b o e hx) e1
 ·obtain⟨m1,e1⟩:=I.base.tbls b ps e
  obtain⟨m2,e2⟩:=tbls b _ e1
  exact⟨m1++m2,by rw[e2,Array.append_assoc]⟩
 ·obtain⟨m,hn,hl⟩:=I.loc
  refine⟨m,ns m hn,fun i x v e1 e2 e3=>?_⟩
  obtain⟨u,r,l⟩:=hl i x v e1 e2 e3
  refine⟨u,r,?_⟩
  rcases l with l | ⟨k,c,e,z⟩
  ·exact .inl l
  ·exact .inr ⟨k,c,e,cellK x c e _ z⟩
 ·obtain⟨v,z⟩:=I.cell x c e
  exact⟨v,cellK x c e v z⟩
 ·obtain⟨m,⟨o,_,_,ho,_⟩,_⟩:=I.loc
  exact free _ o (fun z=>(hch _ z).2.1 rfl) ho I.free
 ·obtain⟨v,o,ho,hd⟩:=I.cell x c e
  exact free c o (fun z=>(hch c z).2.2.1 x c e rfl) ho (I.freeC x c e)
 ·obtain⟨e,n,ne,nf,d⟩:=I.pin p hp
  have nch:p.1∉ch:=fun z=>(hch p.1 z).2.2.2 p hp rfl
  exact⟨keep p.1 p.2 ne nf nch e n,free p.1 p.2 nch e n,ne,nf,d⟩
theorem Inv.un {t':Nat}(I:Inv X pins σ H s) (u:Un X.fs [] H H' s.heap h') (hok:HOk X.prog X.w H' h'):Inv X pins σ H' { s with heap:=h',toks:=t' }:=by
 obtain⟨m,⟨o,es,ep,ho,r⟩,_⟩:=id I.loc
 obtain⟨sl,hL⟩:=u.any ho I.free (by simp)
 exact I.step (g':=s.gens) (d':=s.drawn) (ch:=[]) (fun _ z=>nomatch z) (fun b o _ hb _ e n=>u.keep b o e n hb (by simp)) (fun b o _ hb _ e n=>u.slot b o e n hb (by simp)) (fun b o _ e n=>u.free b o e n (by simp)) (fun b o _ e=>u.there b o e (by simp)) u.tups u.frzs u.tbls (fun m' hm=>by
  obtain⟨o',es',ep',ho',r'⟩:=hm
  rw[ho] at ho';cases ho'
  exact⟨_,es',ep',hL,r'⟩) hok I.bare
theorem Inv.call {g':Array GenState}{t':Nat}{d':Drawn}{ch:List Addr}(I:Inv X pins σ H s) (u:Un (frs X.stack) ch H H' s.heap h') (hok:HOk X.prog X.w H' h') (hg:AllBare g')
    (hch:∀b∈ch,(b∈X.ex∨X.s₀.heap.objs.size<=b)/\b≠X.env.locals/\(∀x c,X.env.cells.lookup x=some c->c≠b)/\∀p∈X.pn++pins,p.1≠b) :
    Inv X pins σ H' { s with heap:=h',gens:=g',drawn:=d',toks:=t' }:=by
 obtain⟨m,⟨o,es,ep,ho,r⟩,_⟩:=id I.loc
 obtain⟨sl,hL⟩:=u.any ho I.free fun z=>(hch _ z).2.1 rfl
 exact I.step (ch:=ch) hch (fun b o hL hb hc e n=>u.keep b o e n (fun z=>(aB.mp (I.stkSub b z)).elim hL hb) hc) (fun b o _ _ hc e n=>u.any e n hc) (fun b o hc e n=>u.free b o e n hc) (fun b o hc e=>u.there b o e hc) u.tups u.frzs u.tbls (fun m' hm=>by
  obtain⟨o',es',ep',ho',r'⟩:=hm
  rw[ho] at ho';cases ho'
  exact⟨_,es',ep',hL,r'⟩) hok hg
theorem Inv.turned {t':Nat}{it:Addr}(I:Inv X pins σ H s) (k:∀b o,b≠it->s.heap.get? b=some o->h'.get? b=some o) (hn:H it=none) (hL:it≠X.env.locals)
    (h1:it∈X.ex∨X.s₀.heap.objs.size<=it) (h2:∀x c,X.env.cells.lookup x=some c->c≠it) (h3:∀p∈X.pn++pins,p.1≠it):Inv X pins σ H { s with heap:=h',toks:=t' }:=by
 have nit:∀b u,H b=some u->b≠it:=fun b u e z=>by rw[z,hn] at e;cases e
 refine I.step (g':=s.gens) (d':=s.drawn) (ch:=[it]) (fun b hb=>?_) (fun b o _ _ hc e _=>k b o (fun z=>hc (by simp[z])) e) (fun b o _ _ hc e _=>⟨o.slots,k b o (fun z=>hc (by simp[z])) e⟩) (fun _ _ _ _ n=>n)
  (fun b o hc e=>⟨o,k b o (fun z=>hc (by simp[z])) e⟩) (fun _ _ e=>e) (fun _ _ _ e=>e) (fun b ps e=>⟨#[],by rw[e];simp⟩) (fun m hm=>?_) (fun b u e=>?_) I.bare
 ·have e:b=it:=by simpa using hb
  subst e
  exact⟨h1,hL,h2,h3⟩
 ·obtain⟨o,es,ep,ho,r⟩:=hm
  exact⟨o,es,ep,k _ o (Ne.symm hL) ho,r⟩
 ·refine(I.hok b u e).stay (fun c v hc q=>k c v ?_ q) (fun _ q=>q) fun _ _ q=>q
  rcases hc with z | z
  ·rw[z];exact nit b u e
  ·exact nit c _ z
theorem Inv.tok (I:Inv X pins σ H s) (t:Nat):Inv X pins σ H { s with toks:=t }:=I.un (h':=s.heap) (t':=t) Un.refl I.hok
theorem Inv.kept {t':Nat}(I:Inv X pins σ H s) (k:∀b u,s.heap.get? b=some u->h'.get? b=some u):Inv X pins σ H { s with heap:=h',toks:=t' }:=I.un (Un.kept k) (I.hok.kept k)
theorem Inv.laid {a:Addr}{o:HO}{t':Nat}(I:Inv X pins σ H s) (k:∀b u,s.heap.get? b=some u->h'.get? b=some u) (hp:s.heap.objs.size<=a) (new:ObjOk X.prog X.w (upd H a o) h' a o) :
    Inv X pins σ (upd H a o) { s with heap:=h',toks:=t' }:=I.un (Un.laid k hp (I.hok.fresh hp)) (I.hok.laid k hp new)
theorem Inv.write {x e:Addr}{o:HO}{t':Nat}(I:Inv X pins σ H s) (mu:Mut (H x)) (he:e=x∨H e=some (.own x)) (k:∀b u,b≠e->s.heap.get? b=some u->h'.get? b=some u) (heo:∃u,h'.get? e=some u)
    (new:ObjOk X.prog X.w (upd H x o) h' x o):Inv X pins σ (upd H x o) { s with heap:=h',toks:=t' }:=I.un (Un.write mu he k heo) (I.hok.write mu he k heo new)
theorem Inv.pins_of {pins':List (Addr × Obj)}(I:Inv X pins σ H s) (h:∀p∈pins',s.heap.get? p.1=some p.2/\H p.1=none/\p.1≠X.env.locals/\p.1∉X.fs/\∀v,p.2.data≠.cell v):Inv X pins' σ H s :=
 ⟨I.ok,I.os,I.bare,I.base,I.loc,I.cell,I.free,I.freeC,fun p hp=>(aH.mp hp).elim (fun z=>I.pin p (bH _ z)) (h p),I.hok,I.len⟩
theorem mq {N:List Str}(hN:N.Nodup) {i j:Nat}{x:Str}(a:N[i]? = some x) (b:N[j]? = some x):i=j:=by
 obtain⟨h1,e1⟩:=ah.mp a
 obtain⟨h2,e2⟩:=ah.mp b
 exact(List.getElem_inj hN).mp (e1.trans e2.symm)
theorem oM {M:Model}{A:Around}{E:Value -> Shared -> Prop}{i:Nat}{x:Str}{v:V}{u:Value}{Q:Unit -> Shared -> Prop}(I:Inv X pins σ H s) (hN:X.N.Nodup) (hi:X.N[i]? = some x) (hx:Loc X.env.scope x) (r:RelV v u)
    (h:∀s',Inv X pins (σ.set i (some v)) H s'->(∃a,Heap.SameBut a s.heap s'.heap/\(a=X.env.locals∨X.env.cells.lookup x=some a))->Q () s') (hf:X.fn x=true∨X.env.scope.names.lookup x=some .local:=by first | exact .inl rfl | exact .inr rfl | assumption):wpAny M A (storeName X.env x u) Q E s:=by
 obtain⟨m,hn,hl⟩:=id I.loc
 have hcls:(X.env.scope.kind==.class||(X.env.scope.kind==.module&&X.env.locals != X.env.globals))=false:=by rw[I.ok.kind];rfl
 have hiσ:i<σ.length:=by rw[I.len];exact(ah.mp hi).1
 have cne:=I.cne
 have tracked:∀ {a:Addr} {h':Heap},(∃o,s.heap.get? a=some o/\H a=none)->Heap.SameBut a s.heap h'->HOk X.prog X.w H h':=fun {a h'} ha hs b ob e=>by
  obtain⟨_,_,hfree⟩:=ha
  refine(I.hok b ob e).stay (fun c w' hc q=>(hs.2 c ?_).trans q) (fun _ q=>q) fun _ _ q=>q
  rintro rfl
  rcases hc with rfl | hc
  ·rw[hfree] at e;cases e
  ·rw[hfree] at hc;cases hc
 rcases hx with hk | hk
 ·refine wpAny_storeName_local hk hn (fun h' hn' hs => ?_) hcls
  obtain⟨oL,_,_,hoL,_⟩:=id hn
  refine h _ ⟨I.ok,I.os,I.bare,⟨fun b o e n hb hx=>?_,fun b o e n hb hx=>?_,I.base.free,fun b o e hx=>?_,I.base.tups,I.base.frzs,I.base.tbls⟩,⟨_,hn',fun j y v' e1 e2 e3=>?_⟩,fun y c e=>?_,I.free,I.freeC,fun p hp=>?_,tracked ⟨oL,hoL,I.free⟩ hs,by simpa using I.len⟩ ⟨_,hs,.inl rfl⟩
  ·exact(hs.2 b (aD (aZ (ag e) I.ok.above))).trans (I.base.keep b o e n hb hx)
  ·obtain⟨sl,e1⟩:=I.base.slot b o e n hb hx
   exact⟨sl,(hs.2 b (aD (aZ (ag e) I.ok.above))).trans e1⟩
  ·obtain⟨o',e1⟩:=I.base.there b o e hx
   exact⟨o',(hs.2 b (aD (aZ (ag e) I.ok.above))).trans e1⟩
  ·by_cases hj:j=i
   ·subst hj
    rw[hi] at e1;cases e1
    rw[cw hiσ] at e2
    cases e2
    exact⟨u,r,.inl ⟨hk,by simp⟩⟩
   ·rw[cy (Ne.symm hj)] at e2
    obtain⟨u',r',q⟩:=hl j y v' e1 e2 e3
    refine⟨u',r',?_⟩
    rcases q with⟨k,e⟩ | ⟨k,c,e,z⟩
    ·refine .inl ⟨k,?_⟩
     have:y≠x:=fun e=>hj (mq hN e1 (e ▸ hi))
     simp[this,e]
    ·exact .inr ⟨k,c,e,z.sameBut hs (cne y c e)⟩
  ·obtain⟨w',z⟩:=I.cell y c e
   exact⟨w',z.sameBut hs (cne y c e)⟩
  ·obtain⟨e,n,ne,nf,d⟩:=I.pin p hp
   exact⟨(hs.2 p.1 ne).trans e,n,ne,nf,d⟩
 ·have hfn:X.fn x=true := by
     rcases hf with z | z
     ·exact z
     ·rw[z] at hk;cases hk
  obtain⟨c,hc⟩:=I.ok.has x (.inl hk)
  obtain⟨w',z⟩:=I.cell x c hc
  refine wpAny_storeName_cell I.ok.kind hk hc z (fun h' hc' hs=>?_)
  obtain⟨oc,hoc,hocd⟩:=id z
  refine h { s with heap:=h' } ⟨I.ok,I.os,I.bare,⟨fun b o e n hb hx=>?_,fun b o e n hb hx=>?_,I.base.free,fun b o e hx=>?_,I.base.tups,I.base.frzs,I.base.tbls⟩,⟨m,hn.sameBut hs (Ne.symm (cne x c hc)),fun j y v' e1 e2 e3=>?_⟩,fun y c' e=>?_,I.free,I.freeC,fun p hp=>?_,tracked ⟨oc,hoc,I.freeC x c hc⟩ hs,by simpa using I.len⟩ ⟨c,hs,.inr hc⟩
  ·exact(hs.2 b (aD (aZ (ag e) (I.ok.cab x c hfn hc)))).trans (I.base.keep b o e n hb hx)
  ·obtain⟨sl,e1⟩:=I.base.slot b o e n hb hx
   exact⟨sl,(hs.2 b (aD (aZ (ag e) (I.ok.cab x c hfn hc)))).trans e1⟩
  ·obtain⟨o',e1⟩:=I.base.there b o e hx
   exact⟨o',(hs.2 b (aD (aZ (ag e) (I.ok.cab x c hfn hc)))).trans e1⟩
  ·by_cases hj:j=i
   ·subst hj
    rw[hi] at e1;cases e1
    rw[cw hiσ] at e2
    cases e2
    exact⟨u,r,.inr ⟨.inl hk,c,hc,hc'⟩⟩
   ·rw[cy (Ne.symm hj)] at e2
    obtain⟨u',r',q⟩:=hl j y v' e1 e2 e3
    refine⟨u',r',?_⟩
    rcases q with q | ⟨k,c',e,z'⟩
    ·exact .inl q
    ·refine .inr ⟨k,c',e,z'.sameBut hs ?_⟩
     rintro rfl
     exact hj (mq hN e1 (I.ok.inj _ _ _ e hc ▸ hi))
  ·by_cases hcc:c'=c
   ·subst hcc;exact⟨_,hc'⟩
   ·obtain⟨w2,z2⟩:=I.cell y c' e
    exact⟨w2,z2.sameBut hs hcc⟩
  ·obtain⟨e,n,ne,nf,d⟩:=I.pin p hp
   refine⟨(hs.2 p.1 ?_).trans e,n,ne,nf,d⟩
   intro q
   rw[q,hoc] at e
   have q':oc=p.2:=am e
   exact d w' (by rw[<- q'];exact hocd)
theorem i6 {M:Model}{A:Around}{E:Value->Shared->Prop}{i:Nat}{x:Str}{v:V}{u:Value}{Q:Unit->Shared->Prop}(I:Inv X pins σ H s) (hN:X.N.Nodup) (hi:X.N[i]? = some x) (hx:Loc X.env.scope x) (r:RelV v u)
    (h:∀s',Inv X pins (σ.set i (some v)) H s'->Q () s') (hf:X.fn x=true∨X.env.scope.names.lookup x=some .local:=by first | exact .inl rfl | exact .inr rfl | assumption):wpAny M A (storeName X.env x u) Q E s :=
 oM I hN hi hx r (fun s' I' _=>h s' I') hf
theorem Inv.call' {s':Shared}{ch:List Addr}(I:Inv X pins σ H s) (ho:s'.os=s.os) (u:Un (frs X.stack) ch H H' s.heap s'.heap) (hok:HOk X.prog X.w H' s'.heap) (hg:AllBare s'.gens)
    (hch:∀b∈ch,(b∈X.ex∨X.s₀.heap.objs.size<=b)/\b≠X.env.locals/\(∀x c,X.env.cells.lookup x=some c->c≠b)/\∀p∈X.pn++pins,p.1≠b):Inv X pins σ H' s':=by
 obtain⟨h',g',d',t',o'⟩:=s'
 have e:o'=s.os:=ho
 subst e
 exact I.call (g':=g') (t':=t') (d':=d') u hok hg hch
end
abbrev XK:=Value->Option Addr->Hp->Prop
abbrev St:=List (Option V)
abbrev VK:=V->Hp->Prop
abbrev TE:=St->Hp->VK->Prop
abbrev TT:=St->Hp->(Bool->Hp->Prop)->Prop
abbrev TA:=St->Hp->(List V->Hp->Prop)->Prop
structure Ends where
 nx:St->Hp->Prop
 rt:VK
 bk:St->Hp->Prop:=fun _ _=>False
 ct:St->Hp->Prop:=fun _ _=>False
abbrev TS:=Ends->St->Hp->Prop
def EP (X:Cx) (pins:List (Addr × Obj)) (σ:St) (Q:VK) (u:Value) (s':Shared):Prop:=∃v H',Inv X pins σ H' s'/\RelV v u/\Q v H'
def TP (X:Cx) (pins:List (Addr × Obj)) (σ:St) (Q:Bool->Hp->Prop) (b:Bool) (s':Shared):Prop:=∃H',Inv X pins σ H' s'/\Q b H'
def AP (X:Cx) (pins:List (Addr × Obj)) (σ:St) (Q:List V->Hp->Prop) (us:List Value) (s':Shared):Prop:=∃vs H',Inv X pins σ H' s'/\Vals vs us/\Q vs H'
def SP (X:Cx) (pins:List (Addr × Obj)) (D:Ends) (f:Flow) (s':Shared):Prop :=
 match f with
 | .next=>∃σ' H',Inv X pins σ' H' s'/\D.nx σ' H'
 | .brk=>∃σ' H',Inv X pins σ' H' s'/\D.bk σ' H'
 | .cont=>∃σ' H',Inv X pins σ' H' s'/\D.ct σ' H'
 | .ret u=>∃v σ' H',Inv X pins σ' H' s'/\RelV v u/\D.rt v H'
def PE (X:Cx) (e:Expr) (t:TE):Prop :=
 ∀(pins:List (Addr × Obj)) (s:Shared) (σ:St) (H:Hp) (Q:VK),Inv X pins σ H s->t σ H Q->wpAny (model X.prog X.w) X.A (eval e X.env) (EP X pins σ Q) X.xe s
def PT (X:Cx) (e:Expr) (t:TT):Prop :=
 ∀(pins:List (Addr × Obj)) (s:Shared) (σ:St) (H:Hp) (Q:Bool->Hp->Prop),Inv X pins σ H s->t σ H Q->wpAny (model X.prog X.w) X.A (isTrue e X.env (eval e X.env)) (TP X pins σ Q) X.xe s
def PW (X:Cx) (e:Expr) (t:TT):Prop :=
 ∀(whole:Sem Value) (pins:List (Addr × Obj)) (s:Shared) (σ:St) (H:Hp) (Q:Bool->Hp->Prop),Inv X pins σ H s->t σ H Q->wpAny (model X.prog X.w) X.A (isTrue e X.env whole) (TP X pins σ Q) X.xe s
theorem PW.pt {X:Cx}{e:Expr}{t:TT}(h:PW X e t):PT X e t:=h _
def PA (X:Cx) (es:List Expr) (t:TA):Prop :=
 ∀(pos:Pos) (pins:List (Addr × Obj)) (s:Shared) (σ:St) (H:Hp) (Q:List V->Hp->Prop),Inv X pins σ H s->t σ H Q->wpAny (model X.prog X.w) X.A (spliced (backTo pos (starEach es X.env))) (AP X pins σ Q) X.xe s
def PS (X:Cx) (st:Stmt) (t:TS):Prop :=
 ∀(pins:List (Addr × Obj)) (s:Shared) (σ:St) (H:Hp) (D:Ends),Inv X pins σ H s->t D σ H->wpAny (model X.prog X.w) X.A (exec st X.env) (SP X pins D) X.xe s
def PSs (X:Cx) (st:List Stmt) (t:TS):Prop :=
 ∀(pins:List (Addr × Obj)) (s:Shared) (σ:St) (H:Hp) (D:Ends),Inv X pins σ H s->t D σ H->wpAny (model X.prog X.w) X.A (execs st X.env) (SP X pins D) X.xe s
theorem thn {α:Type}{t:Sem α}{Q Q':α->Shared->Prop}{M:Model}{A:Around}{E:Value->Shared->Prop}{s:Shared}(h:wpAny M A t Q E s) (hQ:∀a s,Q a s->Q' a s):wpAny M A t Q' E s:=bj h hQ fun _ _ x=>x
section
variable {X:Cx}
def A3 (i:Nat):TE:=fun σ H Q=>∃v,σ[i]? = some (some v)/\Q v H
def tC (v:V):TE:=fun _ H Q=>Q v H
theorem AW {i:Nat}{x:Str}{pos:Pos}(hN:X.N[i]? = some x) (hv:Vis X.env.scope x) (hd:(x==("__debug__":Str))=false:=by decide) (hcd:(x==("__classdict__":Str))=false:=by decide):PE X (.Name x pos) (A3 i):=by
 intro pins s σ H Q I h
 obtain⟨v,e,h⟩:=h
 obtain⟨m,hn,hl⟩:=I.loc
 obtain⟨u,r,l⟩:=hl i x v hN e hv
 have fin:EP X pins σ Q u s:=⟨v,H,I,r,h⟩
 rcases l with⟨hk,hm⟩ | ⟨hk,c,hc,hcell⟩
 ·exact wpAny_Name (wpAny_loadName_local I.ok.kind hk hn hm fin) hd
 ·rcases hk with hk | hk
  ·exact wpAny_Name (wpAny_loadName_cell I.ok.kind hk hc hcell fin) hd
  ·exact wpAny_Name (wpAny_loadName_free I.ok.kind hk hc hcell fin hcd) hd
theorem cG {i j pos}:PE X (.Constant (.int i) j pos) (tC (.int i)):=fun _ _ _ H _ I h=>wpAny_Constant_int ⟨.int i,H,I.tok _,⟨_,rfl⟩,h⟩
theorem gQ {b j pos}:PE X (.Constant (.bool b) j pos) (tC (.bl b)):=fun _ _ _ H _ I h=>Constant_bool ⟨.bl b,H,I,rfl,h⟩
theorem i0 {j pos}:PE X (.Constant .none j pos) (tC .non):=fun _ _ _ H _ I h=>Constant_none ⟨.non,H,I,rfl,h⟩
theorem cM {x j pos}:PE X (.Constant (.str x) j pos) (tC (.str x)):=fun _ _ _ H _ I h=>Calls.Constant_str ⟨.str x,H,I.tok _,⟨_,rfl⟩,h⟩
def Gl (X:Cx) (x:Str):Prop:=X.env.kindOf x=some .globalImplicit
theorem ju {E:Value->Shared->Prop}{pins:List (Addr × Obj)}{s:Shared}{σ:St}{H:Hp}{x:Str}{u:Value}{pos:Pos}{Q:Value->Shared->Prop}(I:Inv X pins σ H s) (hg:Gl X x) (hm:X.mg x=some u) (h:Q u s)
    (hd:(x==("__debug__":Str))=false:=by decide):wpAny (model X.prog X.w) X.A (eval (.Name x pos) X.env) Q E s :=
 Calls.Name_function_global I.ok.kind hg (Calls.loadGlobal_global (by rw[I.ok.glob];exact I.mod.glob.keeps I.bk) hm h) hd
theorem iy {E:Value->Shared->Prop}{pins:List (Addr × Obj)}{s:Shared}{σ:St}{H:Hp}{x:Str}{u:Value}{pos:Pos}{Q:Value->Shared->Prop}(I:Inv X pins σ H s) (hg:Gl X x) (hm:X.mg x=none) (hv:bootBuiltins x=some u) (h:Q u s)
    (hn:x≠"__name__":=by decide) (hd:(x==("__debug__":Str))=false:=by decide):wpAny (model X.prog X.w) X.A (eval (.Name x pos) X.env) Q E s:=by
 obtain⟨mb,h1,h2⟩:=I.mod.blt
 exact Calls.Name_function_global I.ok.kind hg (Calls.loadGlobal_builtin (by rw[I.ok.glob];exact I.mod.glob.keeps I.bk) hm (by rw[I.ok.blt];exact h1.keeps I.bk) ((h2 x hn).trans hv) h) hd
theorem ik {x:Str}{v:V}{u:Value}{pos:Pos}(hg:Gl X x) (hm:X.mg x=some u) (r:RelV v u) (hd:(x==("__debug__":Str))=false:=by decide):PE X (.Name x pos) (tC v) :=
 fun _ _ _ H _ I h=>ju I hg hm ⟨v,H,I,r,h⟩ hd
theorem li {x:Str}{v:V}{u:Value}{pos:Pos}(hg:Gl X x) (hm:X.mg x=none) (hv:bootBuiltins x=some u) (r:RelV v u) (hn:x≠"__name__":=by decide) (hd:(x==("__debug__":Str))=false:=by decide):PE X (.Name x pos) (tC v) :=
 fun _ _ _ H _ I h=>iy I hg hm hv ⟨v,H,I,r,h⟩ hn hd
variable {a b:Expr}{ta tb:TE}{pos:Pos}
def tB (t:TE):TT:=fun σ H Q=>t σ H fun x H1=>∃c,x=.bl c/\Q c H1
theorem fU {e:Expr}{t:TE}(h:PE X e t) (he:∀whole,isTrue e X.env whole=(do let v ← whole;standAt e.pos;holding [v] (truthy v)):=by intro _;rfl):PT X e (tB t):=by
 intro pins s σ H Q I hw
 refine isTrue_plain (thn (h pins s σ H _ I hw) fun v s1 ⟨x,H1,I1,r1,q1⟩=>?_) (he _)
 obtain⟨d,rfl,q⟩:=q1
 cases r1
 exact wpAny_truthy_bool ⟨H1,I1,q⟩
variable {tA tB':TT}{dX:List Expr}
def tAnd (t u:TT):TT:=fun σ H Q=>t σ H fun c H1=>if c=true then u σ H1 Q else Q false H1
def tOr (t u:TT):TT:=fun σ H Q=>t σ H fun c H1=>if c=true then Q true H1 else u σ H1 Q
def tNot (t:TT):TT:=fun σ H Q=>t σ H fun c H1=>Q (!c) H1
theorem eV (ha:PT X a tA):PW X (.BoolOp .And [a] pos) tA:=by
 intro wh pins s σ H Q I h
 refine isTrue_and (thn (ha pins s σ H Q I h) fun c s1 e=>?_)
 cases c with
 | true=>exact isTrue_and_nil e
 | false=>exact e
theorem kS (ha:PT X a tA):PW X (.BoolOp .Or [a] pos) tA:=by
 intro wh pins s σ H Q I h
 refine isTrue_or (thn (ha pins s σ H Q I h) fun c s1 e=>?_)
 cases c with
 | false=>exact isTrue_or_nil e
 | true=>exact e
theorem fu (ha:PT X a tA) (hb:PW X (.BoolOp .And (b::dX) pos) tB'):PW X (.BoolOp .And (a::b::dX) pos) (tAnd tA tB'):=by
 intro wh pins s σ H Q I h
 refine isTrue_and (thn (ha pins s σ H _ I h) fun c s1 ⟨H1,I1,q1⟩=>?_)
 cases c with
 | true=>exact hb wh pins s1 σ H1 Q I1 q1
 | false=>exact⟨H1,I1,q1⟩
theorem lI (ha:PT X a tA) (hb:PW X (.BoolOp .Or (b::dX) pos) tB'):PW X (.BoolOp .Or (a::b::dX) pos) (tOr tA tB'):=by
 intro wh pins s σ H Q I h
 refine isTrue_or (thn (ha pins s σ H _ I h) fun c s1 ⟨H1,I1,q1⟩=>?_)
 cases c with
 | true=>exact⟨H1,I1,q1⟩
 | false=>exact hb wh pins s1 σ H1 Q I1 q1
theorem iw (ha:PT X a tA):PT X (.UnaryOp .Not a pos) (tNot tA):=by
 intro pins s σ H Q I h
 exact isTrue_not (ha pins s σ H (fun c H1=>Q (!c) H1) I h)
def BF (ta tb:TE):TE:=fun σ H Q=>ta σ H fun x H1=>∃c,x=.bl c/\if c=true then tb σ H1 Q else Q (.bl false) H1
theorem jH {op}{t:TE}(h:PE X a t):PE X (.BoolOp op [a] pos) t:=fun pins s σ H Q I hw=>BoolOp_one (h pins s σ H Q I hw)
theorem i3 (ha:PE X a ta) (hb:PE X (.BoolOp .And (b::dX) pos) tb):PE X (.BoolOp .And (a::b::dX) pos) (BF ta tb):=by
 intro pins s σ H Q I h
 refine BoolOp_and (thn (ha pins s σ H _ I h) fun v s1 ⟨x,H1,I1,r1,q1⟩=>?_)
 obtain⟨c,rfl,q1⟩:=q1
 cases r1
 refine wpAny_truthy_bool ?_
 cases c with
 | true=>exact hb pins s1 σ H1 Q I1 q1
 | false=>exact⟨.bl false,H1,I1,rfl,q1⟩
def tIf (t:TT) (ta tb:TE):TE:=fun σ H Q=>t σ H fun c H1=>if c=true then ta σ H1 Q else tb σ H1 Q
theorem kr {c:Expr}(hc:PT X c tA) (ha:PE X a ta) (hb:PE X b tb):PE X (.IfExp c a b pos) (tIf tA ta tb):=by
 intro pins s σ H Q I h
 refine wpAny_IfExp (thn (hc pins s σ H _ I h) fun d s1 ⟨H1,I1,q1⟩=>?_)
 cases d with
 | true=>exact ha pins s1 σ H1 Q I1 q1
 | false=>exact hb pins s1 σ H1 Q I1 q1
end
def SqL (K:W.Frag) (H:Hp) (a:Addr) (xs:List V):Prop :=
 Rd H a (.lst xs) ∨
  ∃(o:Obj) (its:Array Value) (n:Nat),K.lookup a=some o/\o.cls=.type "list"/\o.dict=none/\o.data=.seq its n/\its.size<=sizeLine/\Vals xs its.toList
def SqT (K:W.Frag) (H:Hp) (a:Addr) (xs:List V):Prop :=
 Rd H a (.tup xs) ∨
  ∃(o:Obj) (its:Array Value) (n:Nat),K.lookup a=some o/\o.cls=.type "tuple"/\o.data=.seq its n/\its.size<=sizeLine/\Vals xs its.toList
def absV:Value->Option V
 | .none=>some .non
 | .bool b=>some (.bl b)
 | .int i _=>some (.int i)
 | .str x _=>some (.str x)
 | .bytes b _=>some (.byt b)
 | .float b _=>some (.flt b)
 | .ref a=>some (.ref a)
 | .type n=>some (.ty n)
 | _=>none
theorem RelV.abs {x:V}{u:Value}(r:RelV x u):absV u=some x:=by
 cases x with
 | non=>cases r;rfl
 | bl _=>cases r;rfl
 | int _=>obtain⟨t,rfl⟩:=r;rfl
 | str _=>obtain⟨t,rfl⟩:=r;rfl
 | byt _=>obtain⟨t,rfl⟩:=r;rfl
 | flt _=>obtain⟨t,rfl⟩:=r;rfl
 | ref _=>cases r;rfl
 | ty _=>cases r;rfl
theorem RelV.inj {x y:V}{u:Value}(r:RelV x u) (q:RelV y u):x=y:=am (r.abs.symm.trans q.abs)
theorem Vals.inj:∀ {xs ys:List V}{us:List Value},Vals xs us->Vals ys us->xs=ys
 | _,_,_,.nil,.nil=>rfl
 | _,_,_,.cons r t,.cons r' t'=>by rw[r.inj r',Vals.inj t t']
section
variable {X:Cx}{pins:List (Addr × Obj)}{σ:St}{H:Hp}{s:Shared}{a:Addr}{xs ys:List V}
theorem SqL.of {K:W.Frag}(h:H a=some (.lst xs)):SqL K H a xs:=.inl (.inl h)
theorem SqT.of {K:W.Frag}(h:H a=some (.tup xs)):SqT K H a xs:=.inl (.inl h)
theorem Inv.list (I:Inv X pins σ H s) (h:SqL X.K H a xs):∃its:List Value,Vals xs its/\PlainL s.heap a its.toArray/\xs.length<=sizeLine:=by
 rcases h with h | ⟨o,its,n,hk,hc,hd,hs,hz,r⟩
 ·obtain⟨z,its,n,r,e⟩:=h.ok I.hok
  exact⟨its,r,⟨_,n,e,rfl,rfl,rfl⟩,z⟩
 ·refine⟨its.toList,r,⟨o,n,I.kIn a o hk,hc,hd,by simpa using hs⟩,?_⟩
  have e:=r.length
  simp only[bZ] at e
  omega
theorem Inv.tuple (I:Inv X pins σ H s) (h:SqT X.K H a xs):∃its:List Value,Vals xs its/\IsTup s.heap a its.toArray/\xs.length<=sizeLine:=by
 rcases h with h | ⟨o,its,n,hk,hc,hs,hz,r⟩
 ·obtain⟨z,its,r,p⟩:=h.ok I.hok
  exact⟨its,r,p.tup,z⟩
 ·refine⟨its.toList,r,⟨o,I.kIn a o hk,hc,n,by simpa using hs⟩,?_⟩
  have e:=r.length
  simp only[bZ] at e
  omega
theorem Inv.list_inj (I:Inv X pins σ H s) (h:SqL X.K H a xs) (h':SqL X.K H a ys):xs=ys:=by
 obtain⟨its,r,⟨o,n,e,_,_,d⟩,_⟩:=I.list h
 obtain⟨its',r',⟨o',n',e',_,_,d'⟩,_⟩:=I.list h'
 rw[e] at e';cases e'
 rw[d] at d'
 injection d' with d1 _
 have:its=its':=by simpa using congrArg Array.toList d1
 subst this
 exact r.inj r'
theorem Inv.tuple_inj (I:Inv X pins σ H s) (h:SqT X.K H a xs) (h':SqT X.K H a ys):xs=ys:=by
 obtain⟨its,r,⟨o,e,_,n,d⟩,_⟩:=I.tuple h
 obtain⟨its',r',⟨o',e',_,n',d'⟩,_⟩:=I.tuple h'
 rw[e] at e';cases e'
 rw[d] at d'
 injection d' with d1 _
 have:its=its':=by simpa using congrArg Array.toList d1
 subst this
 exact r.inj r'
end
abbrev Cx.wish (X:Cx) (E:Value->Shared->Prop):Cx:={ X with xe:=E }
abbrev Cx.nox (X:Cx):Cx:=X.wish fun _ _=>False
theorem Cx.Ok.wish {X:Cx}(ok:X.Ok) (E:Value->Shared->Prop):(X.wish E).Ok :=
 ⟨ok.mod,ok.kind,ok.glob,ok.blt,ok.above,ok.inj,ok.has,ok.cab,ok.hd,ok.frames,ok.stk,ok.exf,ok.bs,ok.bsz,ok.noex,ok.exfs,ok.funs,ok.frf⟩
theorem Cx.Ok.unwish {X:Cx}{E:Value->Shared->Prop}(ok:(X.wish E).Ok):X.Ok :=
 ⟨ok.mod,ok.kind,ok.glob,ok.blt,ok.above,ok.inj,ok.has,ok.cab,ok.hd,ok.frames,ok.stk,ok.exf,ok.bs,ok.bsz,ok.noex,ok.exfs,ok.funs,ok.frf⟩
section
variable {X:Cx}{pins:List (Addr × Obj)}{σ:St}{H:Hp}{s:Shared}{E:Value->Shared->Prop}
theorem Inv.wish (I:Inv X pins σ H s) (E:Value->Shared->Prop):Inv (X.wish E) pins σ H s:=⟨I.ok.wish E,I.os,I.bare,I.base,I.loc,I.cell,I.free,I.freeC,I.pin,I.hok,I.len⟩
theorem Inv.unwish (I:Inv (X.wish E) pins σ H s):Inv X pins σ H s:=⟨I.ok.unwish,I.os,I.bare,I.base,I.loc,I.cell,I.free,I.freeC,I.pin,I.hok,I.len⟩
theorem SP.unwish {D:Ends}{f:Flow}{s':Shared}(h:SP (X.wish E) pins D f s'):SP X pins D f s':=by
 cases f with
 | next=>obtain⟨σ',H',I,q⟩:=h;exact⟨σ',H',I.unwish,q⟩
 | brk=>obtain⟨σ',H',I,q⟩:=h;exact⟨σ',H',I.unwish,q⟩
 | cont=>obtain⟨σ',H',I,q⟩:=h;exact⟨σ',H',I.unwish,q⟩
 | ret u=>obtain⟨v,σ',H',I,r,q⟩:=h;exact⟨v,σ',H',I.unwish,r,q⟩
theorem PSs.nox {st:List Stmt}{t:TS}(h:PSs X.nox st t):PSs X st t:=fun pins s σ H D I hw =>
 bj (h pins s σ H D (I.wish _) hw) (fun _ _ q=>q.unwish) fun _ _ z=>False.elim z
end
section
variable {X:Cx}{st:Stmt}{dX:List Stmt}{t u:TS}{e:Expr}{te:TE}{pos:Pos}
def yu:TS:=fun D σ H=>D.nx σ H
def zU (t u:TS):TS:=fun D σ H=>t { D with nx:=u D } σ H
theorem cS:PSs X [] yu:=fun _ _ σ H _ I h=>wpAny_execs_nil ⟨σ,H,I,h⟩
theorem cF (h1:PS X st t) (h2:PSs X dX u):PSs X (st::dX) (zU t u):=by
 intro pins s σ H D I h
 refine wpAny_execs_cons (thn (h1 pins s σ H { D with nx:=u D } I h) fun f s1 q=>?_)
 cases f with
 | next =>
  obtain⟨σ',H',I',q⟩:=q
  exact h2 pins s1 σ' H' D I' q
 | ret v=>exact q
 | brk=>exact q
 | cont=>exact q
theorem cH (h1:PS X st t):PSs X [st] t:=by
 intro pins s σ H D I h
 refine wpAny_execs_cons (thn (h1 pins s σ H D I h) fun f s1 q=>?_)
 cases f with
 | next=>exact wpAny_execs_nil q
 | ret v=>exact q
 | brk=>exact q
 | cont=>exact q
theorem Inv.quiet {pins:List (Addr × Obj)}{σ:St}{H:Hp}{s:Shared}(I:Inv X pins σ H s):interactive X.env=false:=by simp[interactive,I.ok.kind]
def Br (te:TE):TS:=fun D σ H=>te σ H fun _ H1=>D.nx σ H1
theorem dR (he:PE X e te) (hs:swapsWith e none pos.line X.env=pure false:=by rfl):PS X (.Expr e pos) (Br te):=by
 intro pins s σ H D I h
 exact wpAny_Expr_any (thn (he pins s σ H _ I h) fun v s1 ⟨x,H1,I1,r1,q1⟩=>⟨σ,H1,I1,q1⟩) I.quiet hs
def tRet (te:TE):TS:=fun D σ H=>te σ H D.rt
theorem cL (he:PE X e te):PS X (.Return (some e) pos) (tRet te):=by
 intro pins s σ H D I h
 exact wpAny_Return_some (thn (he pins s σ H _ I h) fun v s1 ⟨x,H1,I1,r1,q1⟩=>⟨x,σ,H1,I1,r1,q1⟩)
def tIfS (c:TT) (t u:TS):TS:=fun D σ H=>c σ H fun b H1=>if b=true then t D σ H1 else u D σ H1
theorem cX {c:Expr}{a b:List Stmt}{tc:TT}(hc:PT X c tc) (ha:PSs X a t) (hb:PSs X b u):PS X (.If c a b pos) (tIfS tc t u):=by
 intro pins s σ H D I h
 refine wpAny_If (thn (hc pins s σ H _ I h) fun d s1 ⟨H1,I1,q1⟩=>?_)
 cases d with
 | true=>exact ha pins s1 σ H1 D I1 q1
 | false=>exact hb pins s1 σ H1 D I1 q1
def AY:TS:=fun _ _ _=>False
theorem dY:PS X st AY:=fun _ _ _ _ _ _ h=>h.elim
end
abbrev TG:=V->St->Hp->(St->Hp->Prop)->Prop
abbrev TGs:=List V->St->Hp->(St->Hp->Prop)->Prop
def PG (X:Cx) (target:Expr) (t:TG):Prop :=
 ∀(pins:List (Addr × Obj)) (s:Shared) (σ:St) (H:Hp) (v:V) (u:Value) (Q:St->Hp->Prop),Inv X pins σ H s->RelV v u->t v σ H Q ->
  wpAny (model X.prog X.w) X.A (assign target X.env u) (fun _ s'=>∃σ' H',Inv X pins σ' H' s'/\Q σ' H') X.xe s
def PGs (X:Cx) (ts:List Expr) (t:TGs):Prop :=
 ∀(pins:List (Addr × Obj)) (s:Shared) (σ:St) (H:Hp) (vs:List V) (us:List Value) (Q:St->Hp->Prop),Inv X pins σ H s->Vals vs us->t vs σ H Q ->
  wpAny (model X.prog X.w) X.A (assignInOrder ((assignEach ts X.env).map (·.2)) us) (fun _ s'=>∃σ' H',Inv X pins σ' H' s'/\Q σ' H') X.xe s
abbrev xR:=V->V->V->Hp->(Hp->Prop)->Prop
def wG (X:Cx) (t:xR):Prop :=
 ∀(pins:List (Addr × Obj)) (s:Shared) (σ:St) (H:Hp) (o i v:V) (ov iv u:Value) (Q:Hp->Prop),Inv X pins σ H s->RelV o ov->RelV i iv->RelV v u->t o i v H Q ->
  wpAny (model X.prog X.w) X.A (setItem ov iv u) (fun _ s'=>∃H',Inv X pins σ H' s'/\Q H') X.xe s
section
variable {X:Cx}{pos:Pos}
def eF (i:Nat):TG:=fun v σ H Q=>Q (σ.set i (some v)) H
theorem cN {i:Nat}{x:Str}(hN:X.N.Nodup) (hi:X.N[i]? = some x) (hx:Loc X.env.scope x) (hf:X.fn x=true∨X.env.scope.names.lookup x=some .local:=by first | exact .inl rfl | exact .inr rfl | assumption):PG X (.Name x pos) (eF i):=by
 intro pins s σ H v u Q I r h
 exact wpAny_assign_Name (i6 I hN hi hx r (fun s' I'=>⟨_,H,I',h⟩) hf)
def xI:TGs:=fun vs σ H Q=>vs=[]/\Q σ H
def nB (t:TG) (u:TGs):TGs:=fun vs σ H Q=>∃v r,vs=v::r/\t v σ H fun σ' H'=>u r σ' H' Q
theorem eP:PGs X [] xI:=by
 intro pins s σ H vs us Q I r h
 obtain⟨e,h⟩:=h
 subst e
 cases r
 exact assignInOrder_nil ⟨σ,H,I,h⟩
theorem cY {e:Expr}{es:List Expr}{t:TG}{u:TGs}(h1:PG X e t) (h2:PGs X es u)
    (hs:(assignEach (e::es) X.env).map (·.2)=assign e X.env::(assignEach es X.env).map (·.2):=by rfl):PGs X (e::es) (nB t u):=by
 intro pins s σ H vs us Q I r h
 obtain⟨v,vr,e1,h⟩:=h
 subst e1
 cases r with
 | cons r rr =>
  rw[hs]
  refine assignInOrder_cons (thn (h1 pins s σ H _ _ _ I r h) fun _ s1 ⟨σ1,H1,I1,q1⟩=>?_)
  exact h2 pins s1 σ1 H1 _ _ Q I1 rr q1
def xg (K:W.Frag) (n:Nat) (t:TGs):TG:=fun v σ H Q=>∃a xs,v=.ref a/\SqT K H a xs/\xs.length=n/\t xs σ H Q
theorem At {es:List Expr}{k:Nat}{t:TGs}{n:Nat}(hc:X.calm=true) (h:PGs X es t)
    (hn:(assignEach es X.env).length=n:=by rfl) (hst:(assignEach es X.env).findIdx? (·.1)=none:=by rfl):PG X (.Tuple es k pos) (xg X.K n t):=by
 intro pins s σ H v u Q I r hw
 obtain⟨a,xs,e1,hq,hl,hw⟩:=hw
 subst e1
 cases r
 obtain⟨its,rv,ht,hz⟩:=I.tuple hq
 refine assign_Tuple_tuple (I.ok.hd hc) ht (by simp[hn,<- hl,rv.length]) hst fun h' hx=>?_
 have I1:Inv X pins σ H { s with heap:=h' }:=I.kept (t':=s.toks) fun b o e=>hx b o (aD (ag e)) e
 exact h pins _ σ H xs _ Q I1 (by simpa using rv) hw
def gSub (to ti:TE) (t:xR):TG:=fun v σ H Q=>to σ H fun o H1=>ti σ H1 fun i H2=>t o i v H2 fun H3=>Q σ H3
theorem hW {o i:Expr}{to ti:TE}{t:xR}(ho:PE X o to) (hi:PE X i ti) (hs:wG X t)
    (ha:∀v,assign (.Subscript o i pos) X.env v=(do
     let ov ← holding [v] (eval o X.env)
     let iv ← holding [v,ov] (eval i X.env)
     standAt pos
     holding [v,ov,iv] (setItem ov iv v)
     release [v,ov,iv] []):=by intro _;rfl):PG X (.Subscript o i pos) (gSub to ti t):=by
 intro pins s σ H v u Q I r h
 rw[ha]
 refine aa (aR (thn (ho pins s σ H _ I h) fun ov s1 ⟨x,H1,I1,r1,q1⟩=>?_))
 refine aa (aR (thn (hi pins s1 σ H1 _ I1 q1) fun iv s2 ⟨y,H2,I2,r2,q2⟩=>?_))
 refine aa (wpAny_standAt (aa (aR (thn (hs pins s2 σ H2 x y v ov iv u _ I2 r1 r2 r q2) fun _ s3 ⟨H3,I3,q3⟩=>?_))))
 exact wpAny_release ⟨σ,H3,I3,q3⟩
def tY (te:TE) (g:TG):TS:=fun D σ H=>te σ H fun x H1=>g x σ H1 D.nx
theorem gM {tg e:Expr}{te:TE}{g:TG}(he:PE X e te) (hg:PG X tg g) (hs:swapsWithSole [tg] e pos.line X.env=pure false:=by rfl) (hw:swappedStores [tg] e X.env=pure none:=by rfl)
    (h1:(assignEach [tg] X.env).map (·.2)=[assign tg X.env]:=by rfl):PS X (.Assign [tg] e pos) (tY te g):=by
 intro pins s σ H D I h
 refine wpAny_Assign_stores (thn (he pins s σ H _ I h) fun v s1 ⟨x,H1,I1,r1,q1⟩=>?_) hs hw
 rw[h1]
 exact thn (hg pins s1 σ H1 x v _ I1 r1 q1) fun _ s2 q=>q
theorem gr {i:Nat}{x:Str}{e:Expr}{te:TE}{pos':Pos}(hN:X.N.Nodup) (hi:X.N[i]? = some x) (hx:Loc X.env.scope x) (he:PE X e te) (hs:swapsWith e (some (.Name x pos')) pos.line X.env=pure false:=by rfl) (hf:X.fn x=true∨X.env.scope.names.lookup x=some .local:=by first | exact .inl rfl | exact .inr rfl | assumption) :
    PS X (.Assign [.Name x pos'] e pos) (tY te (eF i)):=by
 intro pins s σ H D I h
 refine wpAny_Assign_Name (thn (he pins s σ H _ I h) fun v s1 ⟨y,H1,I1,r1,q1⟩=>?_) hs
 exact i6 I1 hN hi hx r1 (fun s2 I2=>⟨_,H1,I2,q1⟩) hf
def tPar (i j:Nat) (ta:TA):TS:=fun D σ H=>ta σ H fun vs H1=>∃v w,vs=[v,w]/\D.nx ((σ.set i (some v)).set j (some w)) H1
theorem Bb {i j:Nat}{x y:Str}{a b:Expr}{ta:TA}{px py pt:Pos}{kt k2 pt2}(hc:X.calm=true) (hN:X.N.Nodup) (hi:X.N[i]? = some x) (hj:X.N[j]? = some y) (hij:i ≠ j)
    (hx:X.env.scope.names.lookup x=some .local) (hy:X.env.scope.names.lookup y=some .local) (ha:PA X [a,b] ta)
    (hw:swappedStores [.Tuple [.Name x px,.Name y py] kt pt] (.Tuple [a,b] k2 pt2) X.env=pure (some [x,y]))
    (hs:swapsWithSole [.Tuple [.Name x px,.Name y py] kt pt] (.Tuple [a,b] k2 pt2) pos.line X.env=pure false:=by rfl) :
    PS X (.Assign [.Tuple [.Name x px,.Name y py] kt pt] (.Tuple [a,b] k2 pt2) pos) (tPar i j ta):=by
 intro pins s σ H D I h
 rw[exec_Assign_arm]
 refine aa (wpAny_standAt ?_)
 rw[hs]
 refine aa (af ?_)
 rw[if_neg (by decide)]
 refine aa (Tuple_ (thn (ha _ pins s σ H _ I h) fun us s1 ⟨vs,H1,I1,r1,q1⟩=>?_))
 obtain⟨v,w,e1,q1⟩:=q1
 subst e1
 obtain⟨u1, u2, rfl, rv, rw'⟩:∃u1 u2, us=[u1, u2] /\ RelV v u1 /\ RelV w u2 := by
  cases r1 with
  | cons p q =>
   cases q with
   | cons p' q' =>
    cases q'
    exact⟨_,_,rfl,p,p'⟩
 refine wpAny_newObj_type ?_ (by show 2<=sizeLine;decide)
 have I2:Inv X pins σ H1 { s1 with heap:=s1.heap.push { cls:=.type "tuple",data:=.seq [u1,u2].toArray } }:=I1.kept (t':=s1.toks) fun b o e=>ai _ e
 rw[hw]
 refine aa (af ?_)
 show wpAny (model X.prog X.w) X.A (do rule "assign.swapped-stores";let items ← unpackItems (.ref s1.heap.objs.size) 2 none;assignInOrder [fun v=>bindName X.env y v,fun v=>bindName X.env x v] items.reverse;pure Flow.next) _ _ _
 refine aa (wpAny_rule (aa (unpackItems_tuple (items:=#[u1,u2]) (I.ok.hd hc) (IsTup.new s1.heap _) fun h' hx'=>?_)))
 have I3:=I2.kept (h':=h') (t':=s1.toks) fun b o e=>hx' b o (aD (ag e)) e
 show wpAny _ _ (assignInOrder [fun v=>bindName X.env y v,fun v=>bindName X.env x v] [u2,u1] >>= fun _=>pure Flow.next) _ _ _
 refine aa (assignInOrder_cons (wpAny_bindName (i6 I3 hN hj (.inl hy) rw' (fun s2 I4=>?_) (.inr hy))))
 refine assignInOrder_cons (wpAny_bindName (i6 I4 hN hi (.inl hx) rv (fun s3 I5=>assignInOrder_nil (af ?_)) (.inr hx)))
 rw[List.set_comm _ _ (Ne.symm hij)] at I5
 exact⟨_,H1,I5,q1⟩
end
section
variable {X:Cx}{pos:Pos}
def Ax (c:TT) (tb:TS):TS:=fun D σ H=>∃W:Nat->St->Hp->Prop,(∃m,W m σ H)/\∀m σ H,W m σ H ->
 c σ H fun b H1=>if b=true then ∃N:St->Hp->Prop,(∀σ' H',N σ' H'->∃m',m'<m/\W m' σ' H')/\tb { D with nx:=N,ct:=N,bk:=D.nx } σ H1 else D.nx σ H1
theorem jX {c:Expr}{body:List Stmt}{tc:TT}{tb:TS}(hp:PassesOwn (model X.prog X.w) X.A X.env X.xe) (hc:PT X c tc) (hb:PSs X body tb):PS X (.While c body [] pos) (Ax tc tb) := by
 intro pins s σ H D I h
 obtain⟨W,⟨m0,w0⟩,turn⟩:=h
 refine wpAny_While (codeAny_whileLoop (fun n s'=>∃σ' H',Inv X pins σ' H' s'/\W n σ' H') ?_ m0 ⟨σ,H,I,w0⟩)
 rintro n s1 ⟨σ1,H1,I1,w1⟩
 refine wpAny_passesOwn hp (thn (hc pins s1 σ1 H1 _ I1 (turn n σ1 H1 w1)) fun b s2 ⟨H2,I2,q2⟩=>?_)
 cases b with
 | true =>
  obtain⟨N,hN,q2⟩:=q2
  rw[if_pos rfl]
  refine wpAny_passesOwn hp (thn (hb pins s2 σ1 H2 _ I2 q2) fun f s3 q3=>?_)
  cases f with
  | next =>
   obtain⟨σ3,H3,I3,n3⟩:=q3
   obtain⟨m',hm,w3⟩:=hN σ3 H3 n3
   exact⟨m',hm,σ3,H3,I3,w3⟩
  | cont =>
   obtain⟨σ3,H3,I3,n3⟩:=q3
   obtain⟨m',hm,w3⟩:=hN σ3 H3 n3
   exact⟨m',hm,σ3,H3,I3,w3⟩
  | brk=>exact q3
  | ret v=>exact q3
 | false =>
  rw[if_neg aN]
  exact wpAny_execs_nil ⟨σ1,H2,I2,q2⟩
end
structure It where
 go:Nat->Hp->Prop
 yld:Nat->Hp->V->Hp->Prop
 stop:Nat->Hp->Prop
def hU (X:Cx) (pins:List (Addr × Obj)) (H:Hp) (b:Addr):Prop :=
 H b=none/\b≠X.env.locals/\b∉X.fs/\(b∈X.ex∨X.s₀.heap.objs.size<=b)/\(∀x c,X.env.cells.lookup x=some c->c≠b)/\∀p∈X.pn++pins,p.1≠b
theorem Inv.fpOk {X:Cx}{pins:List (Addr × Obj)}{σ:St}{H H':Hp}{s:Shared}{b:Addr}(I:Inv X pins σ H s) (hb:s.heap.objs.size<=b) (hn:H' b=none):hU X pins H' b:=by
 refine⟨hn,bL (aZ I.lt hb),I.nofs hb,.inr (aG I.sz hb),fun x c e z=>?_,fun p hp z=>?_⟩
 ·obtain⟨v,q⟩:=I.cell x c e
  exact absurd (aZ q.lt (by rw[z];exact hb)) (bu _)
 ·exact absurd (aZ (ag (I.pin p hp).1) (by rw[z];exact hb)) (bu _)
structure Turn (P:Program) (w:World) (K:W.Frag) (tg:Expr) (J:It) (fp:List Addr) (it:Addr) (tn:Nat -> Heap -> Prop):Prop where
 mem:it∈fp
 obj:∀i h,tn i h->∀b∈fp,∃o,h.get? b=some o/\∀v,o.data≠.cell v
 keep:∀i h h',tn i h->(∀b∈fp,∀o,h.get? b=some o->h'.get? b=some o)->tn i h'
 item:∀(X:Cx),X.prog=P->X.w=w->X.K=K->X.calm=true->∀(i:Nat) (pins:List (Addr × Obj)) (s:Shared) (σ:St) (H:Hp) (E:Value->Shared->Prop),Inv X pins σ H s->(∀b∈fp,hU X pins H b)->tn i s.heap->J.go i H ->
  wpAny (model P w) X.A (pyNext (.ref it)) (fun r s1=>∃u,r=some u /\
   wpAny (model P w) X.A (letOwnedTupleGo tg (.ref it) u) (fun _ s2=>∃x H',Inv X pins σ H' s2/\RelV x u/\J.yld i H x H'/\tn (i+1) s2.heap/\∀b∈fp,H' b=none) E s1) E s
 done:∀(X:Cx),X.prog=P->X.w=w->X.K=K->X.calm=true->∀(i:Nat) (pins:List (Addr × Obj)) (s:Shared) (σ:St) (H:Hp) (E:Value->Shared->Prop),Inv X pins σ H s->(∀b∈fp,hU X pins H b)->tn i s.heap->J.stop i H ->
  wpAny (model P w) X.A (pyNext (.ref it)) (fun r s1=>r=none/\Inv X pins σ H s1) E s
 self:∀(A:Around) (i:Nat) (s:Shared) (Q:Value->Shared->Prop) (E:Value->Shared->Prop),tn i s.heap->Q (.ref it) s->wpAny (model P w) A (pyIter (.ref it)) Q E s
abbrev TI:=St->Hp->(It->Hp->Prop)->Prop
def PIE (X:Cx) (pins:List (Addr × Obj)) (σ:St) (tg:Expr) (R:It->Hp->Prop) (itv:Value) (s2:Shared):Prop :=
 ∃(it:Addr) (fp:List Addr) (tn:Nat->Heap->Prop) (J:It) (H':Hp),itv=.ref it/\Inv X pins σ H' s2/\Turn X.prog X.w X.K tg J fp it tn/\tn 0 s2.heap/\(∀b∈fp,hU X pins H' b)/\R J H'
def PI (X:Cx) (tg iter:Expr) (wi:TI):Prop :=
 ∀(pins:List (Addr × Obj)) (s:Shared) (σ:St) (H:Hp) (R:It->Hp->Prop),Inv X pins σ H s->wi σ H R ->
  wpAny (model X.prog X.w) X.A (eval iter X.env) (fun v s1=>wpAny (model X.prog X.w) X.A (pyIter v) (PIE X pins σ tg R) X.xe s1) X.xe s
theorem pR {M:Model}{A:Around}{E:Value -> Shared -> Prop}{s:Shared}{tg:Expr}{it:Addr}{u:Value}{o:Obj}{n:String}{vs:Array Value}{Q:Unit -> Shared -> Prop}(ho:s.heap.get? it=some o) (hc:o.cls=.type n) (hd:o.data=.fields vs)
    (hn:["enumerate","zip","dict_itemiterator","dict_reverseitemiterator","odict_iterator","itertools.zip_longest","itertools.pairwise"].contains n=false) (hQ:Q () s):wpAny M A (letOwnedTupleGo tg (.ref it) u) Q E s:=by
 unfold letOwnedTupleGo
 cases tg <;> first
  | exact af hQ
  | (cases u <;> first
      | exact af hQ
      | (refine aa (wpAny_load ho ?_)
         rw[hc,hd]
         show wpAny M A (if (["enumerate","zip","dict_itemiterator","dict_reverseitemiterator","odict_iterator","itertools.zip_longest","itertools.pairwise"].contains n&&vs[0]?==some (rawInt _))=true then _ else _) Q E s
         rw[if_neg (by intro h;rw[hn,Bool.false_and] at h;cases h)]
         exact af hQ))
def Itl (K:W.Frag) (a:Addr):It :=
 ⟨fun i H=>∃xs x,SqL K H a xs/\xs[i]? = some x,fun i H x H'=>H'=H/\∀xs,SqL K H a xs->xs[i]? = some x,fun i H=>∃xs,SqL K H a xs/\xs.length<=i⟩
def Itt (K:W.Frag) (a:Addr):It :=
 ⟨fun i H=>∃xs x,SqT K H a xs/\xs[i]? = some x,fun i H x H'=>H'=H/\∀xs,SqT K H a xs->xs[i]? = some x,fun i H=>∃xs,SqT K H a xs/\xs.length<=i⟩
def Itr (lo:Int) (n:Nat):It:=⟨fun i _=>i<n,fun i H x H'=>H'=H/\x=.int (lo+i),fun i _=>n<=i⟩
theorem oK {P:Program}{w:World}{K:W.Frag}{tg:Expr}(a it:Addr):Turn P w K tg (Itl K a) [it] it (fun i h=>h.IsListIter it a i) where
 mem:=by simp
 obj:=fun i h st b hb=>by
  have e:b=it:=by simpa using hb
  subst e
  obtain⟨o,e,c,d⟩:=st
  exact⟨o,e,fun v z=>by rw[d] at z;cases z⟩
 keep:=fun i h h' st k=>st.at fun o e=>k it (by simp) o e
 item:=by
  intro X hP hw hK hc i pins s σ H E I hf st hg
  subst hP hw hK
  obtain⟨xs,x,hq,hx⟩:=hg
  obtain⟨its,rv,p,hz⟩:=I.list hq
  obtain⟨u,hu,ru⟩:=rv.get hx
  obtain⟨f0,f1,f2,f3,f4,f5⟩:=hf it (by simp)
  refine wpAny_pyNext_list_item st p.isList (x:=u) (by simpa using hu) fun h' st' sb=>?_
  have I1:Inv X pins σ H { s with heap:=h' }:=I.turned (t':=s.toks) (fun b o hb e=>(sb.2 b hb).trans e) f0 f1 f3 f4 f5
  obtain⟨o,e,c,d⟩:=id st'
  exact⟨u,rfl,pR (s:={ s with heap:=h' }) e c d (by decide) ⟨x,H,I1,ru,⟨rfl,fun ys hy=>by rw[I.list_inj hy hq];exact hx⟩,st',fun b hb=>(hf b hb).1⟩⟩
 done:=by
  intro X hP hw hK hc i pins s σ H E I hf st hg
  subst hP hw hK
  obtain⟨xs,hq,hx⟩:=hg
  obtain⟨its,rv,p,hz⟩:=I.list hq
  obtain⟨f0,f1,f2,f3,f4,f5⟩:=hf it (by simp)
  have hl:=rv.length
  exact wpAny_pyNext_list_end (I.ok.hd hc) st p.isList (by simp;omega) fun h' eb=>⟨rfl,I.turned (t':=s.toks) (fun b o hb e=>eb b o hb e) f0 f1 f3 f4 f5⟩
 self:=fun _ _ _ _ _ st h=>wpAny_pyIter_listiter st h
theorem ko {P:Program}{w:World}{K:W.Frag}{tg:Expr}(a it:Addr):Turn P w K tg (Itt K a) [it] it (fun i h=>h.IsTupleIter it a i) where
 mem:=by simp
 obj:=fun i h st b hb=>by
  have e:b=it:=by simpa using hb
  subst e
  obtain⟨o,e,c,d⟩:=st
  exact⟨o,e,fun v z=>by rw[d] at z;cases z⟩
 keep:=fun i h h' st k=>st.at fun o e=>k it (by simp) o e
 item:=by
  intro X hP hw hK hc i pins s σ H E I hf st hg
  subst hP hw hK
  obtain⟨xs,x,hq,hx⟩:=hg
  obtain⟨its,rv,p,hz⟩:=I.tuple hq
  obtain⟨u,hu,ru⟩:=rv.get hx
  obtain⟨f0,f1,f2,f3,f4,f5⟩:=hf it (by simp)
  refine wpAny_pyNext_tuple_item st (show s.heap.IsTuple a its.toArray from p) (x:=u) (by simpa using hu) fun h' st' sb=>?_
  have I1:Inv X pins σ H { s with heap:=h' }:=I.turned (t':=s.toks) (fun b o hb e=>(sb.2 b hb).trans e) f0 f1 f3 f4 f5
  obtain⟨o,e,c,d⟩:=id st'
  exact⟨u,rfl,pR (s:={ s with heap:=h' }) e c d (by decide) ⟨x,H,I1,ru,⟨rfl,fun ys hy=>by rw[I.tuple_inj hy hq];exact hx⟩,st',fun b hb=>(hf b hb).1⟩⟩
 done:=by
  intro X hP hw hK hc i pins s σ H E I hf st hg
  subst hP hw hK
  obtain⟨xs,hq,hx⟩:=hg
  obtain⟨its,rv,p,hz⟩:=I.tuple hq
  obtain⟨f0,f1,f2,f3,f4,f5⟩:=hf it (by simp)
  have hl:=rv.length
  exact wpAny_pyNext_tuple_end (I.ok.hd hc) st (show s.heap.IsTuple a its.toArray from p) (by simp;omega) fun h' eb=>⟨rfl,I.turned (t':=s.toks) (fun b o hb e=>eb b o hb e) f0 f1 f3 f4 f5⟩
 self:=fun _ _ _ _ _ st h=>wpAny_pyIter_tupleiter st h
theorem ub {P:Program}{w:World}{K:W.Frag}{tg:Expr}(it:Addr) (lo:Int) (n:Nat):Turn P w K tg (Itr lo n) [it] it (fun i h => IsRangeIter h it (lo+(i:Nat) * 1) ((n:Int)-(i:Nat)) 1) where
 mem:=by simp
 obj:=fun i h st b hb=>by
  have e:b=it:=by simpa using hb
  subst e
  exact⟨_,st,fun v z=>by
   have z':Data.fields _=Data.cell v:=z
   cases z'⟩
 keep:=fun i h h' st k=>k it (by simp) _ st
 item:=by
  intro X hP hw hK hc i pins s σ H E I hf st hg
  subst hP hw hK
  obtain⟨f0,f1,f2,f3,f4,f5⟩:=hf it (by simp)
  have W:=Walks.range (prog:=X.prog) (w:=X.w) (I.ok.hd hc) it lo 1 n
  refine W.item i s _ _ hg st fun v h' tk hv st' kk=>?_
  obtain⟨t,rfl⟩:=hv
  have I1:Inv X pins σ H { s with heap:=h',toks:=tk }:=I.turned (fun b o hb e=>kk b o (by simpa using hb) e) f0 f1 f3 f4 f5
  refine⟨_,rfl,pR (s:={ s with heap:=h',toks:=tk }) (n:="range_iterator") st' rfl rfl (by decide) ⟨.int (lo+i),H,I1,⟨t,?_⟩,⟨rfl,rfl⟩,st',fun b hb=>(hf b hb).1⟩⟩
  rw[Int.mul_one]
 done:=by
  intro X hP hw hK hc i pins s σ H E I hf st hg
  subst hP hw hK
  obtain⟨f0,f1,f2,f3,f4,f5⟩:=hf it (by simp)
  exact wpAny_pyNext_range_end (I.ok.hd hc) st (by have:n<=i:=hg;omega) fun h' eb=>⟨rfl,I.turned (t':=s.toks) (fun b o hb e=>eb b o hb e) f0 f1 f3 f4 f5⟩
 self:=fun _ _ _ _ _ st h=>wpAny_pyIter_rangeiter st h
section
variable {X:Cx}{tg:Expr}
def ym (K:W.Frag) (tl:TE):TI:=fun σ H R=>tl σ H fun x H1=>∃a,x=.ref a/\(∃xs,SqL K H1 a xs)/\R (Itl K a) H1
def zW (K:W.Frag) (tl:TE):TI:=fun σ H R=>tl σ H fun x H1=>∃a,x=.ref a/\(∃xs,SqT K H1 a xs)/\R (Itt K a) H1
theorem zk {l:Expr}{tl:TE}(hl:PE X l tl):PI X tg l (ym X.K tl):=by
 intro pins s σ H R I h
 refine thn (hl pins s σ H _ I h) fun v s1 ⟨x,H1,I1,r1,q1⟩=>?_
 obtain⟨a,e,⟨xs,hq⟩,q⟩:=q1
 subst e
 cases r1
 obtain⟨its,rv,p,hz⟩:=I1.list hq
 refine wpAny_pyIter_list p.isList ?_
 refine⟨s1.heap.objs.size,[s1.heap.objs.size],_,_,H1,rfl,I1.kept (t':=s1.toks) fun b o e=>ai _ e,oK a _,⟨_,aA _ rfl,rfl,rfl⟩,fun b hb=>?_,q⟩
 have e:b=s1.heap.objs.size:=by simpa using hb
 subst e
 exact I1.fpOk (ac _) (I1.hok.fresh (ac _))
theorem AF {l:Expr}{tl:TE}(hl:PE X l tl):PI X tg l (zW X.K tl):=by
 intro pins s σ H R I h
 refine thn (hl pins s σ H _ I h) fun v s1 ⟨x,H1,I1,r1,q1⟩=>?_
 obtain⟨a,e,⟨xs,hq⟩,q⟩:=q1
 subst e
 cases r1
 obtain⟨its,rv,p,hz⟩:=I1.tuple hq
 refine bI (show s1.heap.IsTuple a its.toArray from p) ?_
 refine⟨s1.heap.objs.size,[s1.heap.objs.size],_,_,H1,rfl,I1.kept (t':=s1.toks) fun b o e=>ai _ e,ko a _,⟨_,aA _ rfl,rfl,rfl⟩,fun b hb=>?_,q⟩
 have e:b=s1.heap.objs.size:=by simpa using hb
 subst e
 exact I1.fpOk (ac _) (I1.hok.fresh (ac _))
theorem wH {pins:List (Addr × Obj)}{σ:St}{H:Hp}{s:Shared}{R:It->Hp->Prop}{E:Value->Shared->Prop}{lo hi:Int}{t u v:Tok}{tk:Nat}(I:Inv X pins σ H s) (h1:-(2 ^ 62)<=lo) (h2:lo<2 ^ 62) (h3:-(2 ^ 62)<=hi) (h4:hi<2 ^ 62)
    (q:R (Itr lo (hi-lo).toNat) H):wpAny (model X.prog X.w) X.A (pyIter (.ref s.heap.objs.size)) (PIE X pins σ tg R) E { s with heap:=s.heap.push { cls:=.type "range",data:=.fields #[.int lo t,.int hi u,.int 1 v] },toks:=tk }:=by
 refine wpAny_pyIter_range (IsRange.new ..) (small_one h1 h2 h3 h4) ?_
 have I1:Inv X pins σ H { s with heap:=s.heap.push { cls:=.type "range",data:=.fields #[.int lo t,.int hi u,.int 1 v] },toks:=tk }:=I.kept fun b o e=>ai _ e
 refine⟨(s.heap.push { cls:=.type "range",data:=.fields #[.int lo t,.int hi u,.int 1 v] }).objs.size,[(s.heap.push { cls:=.type "range",data:=.fields #[.int lo t,.int hi u,.int 1 v] }).objs.size],_,_,H,rfl,
  I1.kept (t':=tk) fun b o e=>ai _ e,ub _ lo (hi-lo).toNat,?_,fun b hb=>?_,q⟩
 ·have e1:lo+((0:Nat):Int) * 1=lo:=by simp
  have e2:(((hi-lo).toNat:Nat):Int)-((0:Nat):Int)=Builtin.Range.rangeSize lo hi 1:=by rw[rangeSize_one];split <;> omega
  show IsRangeIter _ _ (lo+((0:Nat):Int) * 1) ((((hi-lo).toNat:Nat):Int)-((0:Nat):Int)) 1
  rw[e1,e2]
  exact aA _ rfl
 ·have e:b=(s.heap.push { cls:=.type "range",data:=.fields #[.int lo t,.int hi u,.int 1 v] }).objs.size:=by simpa using hb
  subst e
  exact I1.fpOk (ac _) (I1.hok.fresh (ac _))
def BJ (ta:TA):TI:=fun σ H R=>ta σ H fun vs H1=>∃j:Int,vs=[.int j]/\-(2 ^ 62)<=j/\j<2 ^ 62/\R (Itr 0 j.toNat) H1
theorem gZ {a:Expr}{ta:TA}{p pos:Pos}(hg:Gl X "range") (hm:X.mg "range"=none) (ha:PA X [a] ta) (hs:starEach [a] X.env=[(false,eval a X.env)]:=by rfl):PI X tg (.Call (.Name "range" p) [a] [] pos) (BJ ta):=by
 intro pins s σ H R I h
 refine Call_ (iy I hg hm boot_range (PyProof.Rows.callWith_type1 (thn (ha pos pins s σ H _ I h) fun us s1 ⟨vs,H1,I1,r1,q1⟩=>?_) hs rfl))
 obtain⟨j,e,q1,q2,q⟩:=q1
 subst e
 cases r1 with
 | cons r rr =>
  cases rr
  obtain⟨t,rfl⟩:=r
  exact call_range_1 (wH I1 (by omega) (by omega) q1 q2 (by simpa using q))
def tFor (wi:TI) (g:TG) (tb:TS):TS:=fun D σ H=>wi σ H fun J H1=>∃W:Nat->Nat->St->Hp->Prop,(∃m,W 0 m σ H1)/\∀i m σ H,W i m σ H ->
 (J.stop i H/\D.nx σ H)∨(J.go i H/\∃N:St->Hp->Prop,(∀σ' H',N σ' H'->∃m',m'<m/\W (i+1) m' σ' H')/\∀x H',J.yld i H x H'->g x σ H' fun σ2 H2=>tb { D with nx:=N,ct:=N,bk:=D.nx } σ2 H2)
def kG (fp:List Addr) (h:Heap):List (Addr × Obj):=fp.filterMap fun b=>(h.get? b).map fun o=>(b,o)
theorem iN {fp:List Addr}{h:Heap}{b:Addr}{o:Obj}(hb:b∈fp) (e:h.get? b=some o):(b,o)∈kG fp h:=ce.mpr ⟨b,hb,by rw[e];rfl⟩
theorem vZ {fp:List Addr}{h:Heap}{p:Addr × Obj}(hp:p∈kG fp h):p.1∈fp/\h.get? p.1=some p.2:=by
 obtain⟨b,hb,e⟩:=ce.mp hp
 cases q:h.get? b with
 | none=>rw[q] at e;cases e
 | some o =>
  rw[q] at e
  have e':(b,o)=p:=am e
  subst e'
  exact⟨hb,q⟩
theorem Inv.pinned {pins:List (Addr × Obj)}{σ:St}{H:Hp}{s:Shared}{fp:List Addr}(I:Inv X pins σ H s) (hf:∀b∈fp,hU X pins H b) (ho:∀b∈fp,∃o,s.heap.get? b=some o/\∀v,o.data≠.cell v):Inv X (pins++kG fp s.heap) σ H s :=
 I.pins_of fun p hp=>(aH.mp hp).elim (fun z=>I.pin p (be _ z)) fun z=>by
  obtain⟨hb,e⟩:=vZ z
  obtain⟨f0,f1,f2,_⟩:=hf p.1 hb
  obtain⟨o,e',d⟩:=ho p.1 hb
  rw[e] at e';cases e'
  exact⟨e,f0,f1,f2,d⟩
theorem Inv.unpinned {pins pl:List (Addr × Obj)}{σ:St}{H:Hp}{s:Shared}(I:Inv X (pins++pl) σ H s):Inv X pins σ H s:=I.pins_of fun p hp=>I.pin p (be _ (bH _ hp))
theorem dM {iter:Expr}{body:List Stmt}{wi:TI}{g:TG}{tb:TS}{pos:Pos}(hp:PassesOwn (model X.prog X.w) X.A X.env X.xe) (hc:X.calm=true) (hi:PI X tg iter wi) (hg:PG X tg g) (hb:PSs X body tb)
    (hs:∀x,foldedSetIterable iter X.env x=pure x:=by intro _;rfl):PS X (.For tg iter body [] pos) (tFor wi g tb):=by
 intro pins s σ H D I h
 refine wpAny_For (thn (hi pins s σ H _ I h) fun v s1 h1=>thn h1 fun itv s2 h2=>?_) hs
 obtain⟨it,fp,tn,J,H2,e,I2,T,st2,f2,W,⟨m0,w0⟩,turn⟩:=h2
 subst e
 have stat:∀ {H':Hp},(∀b∈fp,H' b=none)->∀b∈fp,hU X pins H' b:=fun hn b hb=>⟨hn b hb,(f2 b hb).2⟩
 refine codeAny_forLoop_any (fun n s'=>∃i σ' H',Inv X pins σ' H' s'/\tn i s'.heap/\(∀b∈fp,H' b=none)/\W i n σ' H') ?_ m0 ⟨0,σ,H2,I2,st2,fun b hb=>(f2 b hb).1,w0⟩
 rintro n s3 ⟨i,σ3,H3,I3,st3,fr3,w3⟩
 rcases turn i n σ3 H3 w3 with⟨stop,qn⟩ | ⟨go,N,hN,step⟩
 ·refine wpAny_passesOwn hp (thn (T.done X rfl rfl rfl hc i pins s3 σ3 H3 X.xe I3 (stat fr3) st3 stop) fun r s4 ⟨hr,I4⟩=>?_)
  subst hr
  exact wpAny_execs_nil ⟨σ3,H3,I4,qn⟩
 ·refine wpAny_passesOwn hp (thn (T.item X rfl rfl rfl hc i pins s3 σ3 H3 X.xe I3 (stat fr3) st3 go) fun r s4 ⟨u,hr,h4⟩=>?_)
  subst hr
  refine wpAny_passesOwn hp (thn h4 fun _ s5 ⟨x,H5,I5,r5,y5,st5,fr5⟩=>?_)
  have I5':=I5.pinned (stat fr5) (T.obj _ _ st5)
  refine wpAny_passesOwn hp (thn (hg _ s5 σ3 H5 x u _ I5' r5 (step x H5 y5)) fun _ s6 ⟨σ6,H6,I6,q6⟩=>?_)
  refine wpAny_passesOwn hp (thn (hb _ s6 σ6 H6 _ I6 q6) fun f s7 q7=>?_)
  have again:∀ {σ7:St} {H7:Hp},Inv X (pins++kG fp s5.heap) σ7 H7 s7->N σ7 H7->∃m,m<n/\∃i σ' H',Inv X pins σ' H' s7/\tn i s7.heap/\(∀b∈fp,H' b=none)/\W i m σ' H':=fun {σ7 H7} I7 n7=>by
   obtain⟨m',hm,w7⟩:=hN σ7 H7 n7
   refine⟨m',hm,i+1,σ7,H7,I7.unpinned,T.keep _ _ _ st5 fun b hb o e=>(I7.pin (b,o) (be _ (be _ (iN hb e)))).1,fun b hb=>?_,w7⟩
   obtain⟨o,e,d⟩:=T.obj _ _ st5 b hb
   exact(I7.pin (b,o) (be _ (be _ (iN hb e)))).2.1
  cases f with
  | next=>obtain⟨σ7,H7,I7,n7⟩:=q7;exact again I7 n7
  | cont=>obtain⟨σ7,H7,I7,n7⟩:=q7;exact again I7 n7
  | brk=>obtain⟨σ7,H7,I7,q7⟩:=q7;exact⟨σ7,H7,I7.unpinned,q7⟩
  | ret v=>obtain⟨x7,σ7,H7,I7,r7,q7⟩:=q7;exact⟨x7,σ7,H7,I7.unpinned,r7,q7⟩
end
theorem i7 {K:W.Frag}{a:Addr}{xs:List V}{g:TG}{tb:TS}{D:Ends}{σ:St}{H:Hp}(Pv:Nat -> St -> Hp -> Prop) (h0:Pv 0 σ H) (hl:∀i σ H, i <= xs.length -> Pv i σ H -> SqL K H a xs)
    (hs:∀i x σ H,xs[i]? = some x->Pv i σ H->g x σ H fun σ2 H2=>tb { D with nx:=Pv (i+1),ct:=Pv (i+1),bk:=D.nx } σ2 H2) (hd:∀σ H,Pv xs.length σ H->D.nx σ H) :
    ∃W:Nat->Nat->St->Hp->Prop,(∃m,W 0 m σ H)/\∀i m σ H,W i m σ H ->
     ((Itl K a).stop i H/\D.nx σ H)∨((Itl K a).go i H/\∃N:St->Hp->Prop,(∀σ' H',N σ' H'->∃m',m'<m/\W (i+1) m' σ' H')/\∀x H',(Itl K a).yld i H x H'->g x σ H' fun σ2 H2=>tb { D with nx:=N,ct:=N,bk:=D.nx } σ2 H2):=by
 refine⟨fun i m σ H=>m=xs.length-i/\i<=xs.length/\Pv i σ H,⟨xs.length,by simp,aP _,h0⟩,?_⟩
 rintro i m σ H ⟨rfl,hi,p⟩
 have q:=hl i σ H hi p
 by_cases hlt:i<xs.length
 ·refine .inr ⟨⟨xs,xs[i],q,by simp[hlt]⟩,Pv (i+1),fun σ' H' p'=>⟨xs.length-(i+1),by omega,rfl,hlt,p'⟩,fun x H' y=>?_⟩
  obtain⟨e,y⟩:=y
  subst e
  exact hs i x σ _ (y xs q) p
 ·have e:i=xs.length:=by omega
  subst e
  exact .inl ⟨⟨xs,q,ac _⟩,hd σ H p⟩
theorem gk {K:W.Frag}{a:Addr}{xs:List V}{g:TG}{tb:TS}{D:Ends}{σ:St}{H:Hp}(Pv:Nat -> St -> Hp -> Prop) (h0:Pv 0 σ H) (hl:∀i σ H, i <= xs.length -> Pv i σ H -> SqT K H a xs)
    (hs:∀i x σ H,xs[i]? = some x->Pv i σ H->g x σ H fun σ2 H2=>tb { D with nx:=Pv (i+1),ct:=Pv (i+1),bk:=D.nx } σ2 H2) (hd:∀σ H,Pv xs.length σ H->D.nx σ H) :
    ∃W:Nat->Nat->St->Hp->Prop,(∃m,W 0 m σ H)/\∀i m σ H,W i m σ H ->
     ((Itt K a).stop i H/\D.nx σ H)∨((Itt K a).go i H/\∃N:St->Hp->Prop,(∀σ' H',N σ' H'->∃m',m'<m/\W (i+1) m' σ' H')/\∀x H',(Itt K a).yld i H x H'->g x σ H' fun σ2 H2=>tb { D with nx:=N,ct:=N,bk:=D.nx } σ2 H2):=by
 refine⟨fun i m σ H=>m=xs.length-i/\i<=xs.length/\Pv i σ H,⟨xs.length,by simp,aP _,h0⟩,?_⟩
 rintro i m σ H ⟨rfl,hi,p⟩
 have q:=hl i σ H hi p
 by_cases hlt:i<xs.length
 ·refine .inr ⟨⟨xs,xs[i],q,by simp[hlt]⟩,Pv (i+1),fun σ' H' p'=>⟨xs.length-(i+1),by omega,rfl,hlt,p'⟩,fun x H' y=>?_⟩
  obtain⟨e,y⟩:=y
  subst e
  exact hs i x σ _ (y xs q) p
 ·have e:i=xs.length:=by omega
  subst e
  exact .inl ⟨⟨xs,q,ac _⟩,hd σ H p⟩
theorem jg {lo:Int}{n:Nat}{g:TG}{tb:TS}{D:Ends}{σ:St}{H:Hp}(Pv:Nat -> St -> Hp -> Prop) (h0:Pv 0 σ H)
    (hs:∀i σ H,i<n->Pv i σ H->g (.int (lo+i)) σ H fun σ2 H2=>tb { D with nx:=Pv (i+1),ct:=Pv (i+1),bk:=D.nx } σ2 H2) (hd:∀σ H,Pv n σ H->D.nx σ H) :
    ∃W:Nat->Nat->St->Hp->Prop,(∃m,W 0 m σ H)/\∀i m σ H,W i m σ H ->
     ((Itr lo n).stop i H/\D.nx σ H)∨((Itr lo n).go i H/\∃N:St->Hp->Prop,(∀σ' H',N σ' H'->∃m',m'<m/\W (i+1) m' σ' H')/\∀x H',(Itr lo n).yld i H x H'->g x σ H' fun σ2 H2=>tb { D with nx:=N,ct:=N,bk:=D.nx } σ2 H2):=by
 refine⟨fun i m σ H=>m=n-i/\i<=n/\Pv i σ H,⟨n,by simp,aP _,h0⟩,?_⟩
 rintro i m σ H ⟨rfl,hi,p⟩
 by_cases hlt:i<n
 ·refine .inr ⟨hlt,Pv (i+1),fun σ' H' p'=>⟨n-(i+1),by omega,rfl,hlt,p'⟩,fun x H' y=>?_⟩
  obtain⟨e,y⟩:=y
  subst e y
  exact hs i σ _ hlt p
 ·have e:i=n:=by omega
  subst e
  exact .inl ⟨ac _,hd σ H p⟩
abbrev R2:=V->V->Hp->VK->Prop
def OpR (X:Cx) (f:Value->Value->Sem Value) (r:R2):Prop :=
 ∀(pins:List (Addr × Obj)) (s:Shared) (σ:St) (H:Hp) (x y:V) (v u:Value) (Q:VK),Inv X pins σ H s->RelV x v->RelV y u->r x y H Q ->
  wpAny (model X.prog X.w) X.A (f v u) (EP X pins σ Q) X.xe s
def UnR (X:Cx) (f:Value->Sem Value) (r:V->Hp->VK->Prop):Prop :=
 ∀(pins:List (Addr × Obj)) (s:Shared) (σ:St) (H:Hp) (x:V) (v:Value) (Q:VK),Inv X pins σ H s->RelV x v->r x H Q ->
  wpAny (model X.prog X.w) X.A (f v) (EP X pins σ Q) X.xe s
def gG (X:Cx) (f:Value) (r:List V->Hp->VK->Prop):Prop :=
 ∀(pins:List (Addr × Obj)) (s:Shared) (σ:St) (H:Hp) (xs:List V) (us:List Value) (Q:VK),Inv X pins σ H s->Vals xs us->r xs H Q ->
  wpAny (model X.prog X.w) X.A (call f us) (EP X pins σ Q) X.xe s
def tOp (r:R2) (ta tb:TE):TE:=fun σ H Q=>ta σ H fun x H1=>tb σ H1 fun y H2=>r x y H2 Q
def tUn (r:V->Hp->VK->Prop) (ta:TE):TE:=fun σ H Q=>ta σ H fun x H1=>r x H1 Q
def rI (C:Int->Int->Prop) (g:Int->Int->V):R2:=fun x y H Q=>∃i j,x=.int i/\y=.int j/\C i j/\Q (g i j) H
def rI0 (g:Int->Int->V):R2:=fun x y H Q=>∃i j,x=.int i/\y=.int j/\Q (g i j) H
def rU (g:Int->V):V->Hp->VK->Prop:=fun x H Q=>∃i,x=.int i/\Q (g i) H
section
variable {X:Cx}{a b c:Expr}{ta tb tc:TE}{pos:Pos}
theorem xB (ha:PE X a ta) (hb:PE X b tb) {pins:List (Addr × Obj)}{s:Shared}{σ:St}{H:Hp}{R:V->V->Hp->Prop}(I:Inv X pins σ H s)
    (h:ta σ H fun x H1=>tb σ H1 fun y H2=>R x y H2) {Q:Value->Shared->Prop} {f:Value->Value->Sem Value}
    (hf:∀v u s2 x y H2,Inv X pins σ H2 s2->RelV x v->RelV y u->R x y H2->wpAny (model X.prog X.w) X.A (f v u) Q X.xe s2) :
    wpAny (model X.prog X.w) X.A (eval a X.env) (fun v s₁=>wpAny (model X.prog X.w) X.A (eval b X.env) (fun u s₂=>wpAny (model X.prog X.w) X.A (f v u) Q X.xe s₂) X.xe s₁) X.xe s:=by
 refine thn (ha pins s σ H _ I h) fun v s1 ⟨x,H1,I1,r1,q1⟩=>?_
 refine thn (hb pins s1 σ H1 _ I1 q1) fun u s2 ⟨y,H2,I2,r2,q2⟩=>?_
 exact hf v u s2 x y H2 I2 r1 r2 q2
theorem cZ {op:Operator}{r:R2}(ho:OpR X (binaryOp op) r) (ha:PE X a ta) (hb:PE X b tb):PE X (.BinOp a op b pos) (tOp r ta tb):=by
 intro pins s σ H Q I h
 exact wpAny_BinOp (xB ha hb I h fun v u s2 x y H2 I2 rx ry q=>ho pins s2 σ H2 x y v u Q I2 rx ry q)
theorem nH {op:UnaryOp}{r:V->Hp->VK->Prop}(ho:UnR X (unaryOp op) r) (ha:PE X a ta):PE X (.UnaryOp op a pos) (tUn r ta):=by
 intro pins s σ H Q I h
 exact UnaryOp_ (thn (ha pins s σ H _ I h) fun v s1 ⟨x,H1,I1,r1,q1⟩=>ho pins s1 σ H1 x v Q I1 r1 q1)
theorem opI {f:Value->Value->Sem Value}{C:Int->Int->Prop}{g:Int->Int->Int}
    (rule:∀(i j:Int) (t u:Tok) (s:Shared) (Q:Value->Shared->Prop) (E:Value->Shared->Prop),C i j->Q (.int (g i j) s.toks) { s with toks:=s.toks+1 }->wpAny (model X.prog X.w) X.A (f (.int i t) (.int j u)) Q E s) :
    OpR X f (rI C fun i j=>.int (g i j)):=by
 intro pins s σ H x y v u Q I rx ry h
 obtain⟨i,j,rfl,rfl,hc,q⟩:=h
 obtain⟨t,rfl⟩:=rx
 obtain⟨t',rfl⟩:=ry
 exact rule i j t t' s _ _ hc ⟨.int (g i j),H,I.tok _,⟨_,rfl⟩,q⟩
theorem Aa {f:Value->Value->Sem Value}{g:Int->Int->Int}
    (rule:∀(i j:Int) (t u:Tok) (s:Shared) (Q:Value->Shared->Prop) (E:Value->Shared->Prop),Q (.int (g i j) s.toks) { s with toks:=s.toks+1 }->wpAny (model X.prog X.w) X.A (f (.int i t) (.int j u)) Q E s) :
    OpR X f (rI0 fun i j=>.int (g i j)):=by
 intro pins s σ H x y v u Q I rx ry h
 obtain⟨i,j,rfl,rfl,q⟩:=h
 obtain⟨t,rfl⟩:=rx
 obtain⟨t',rfl⟩:=ry
 exact rule i j t t' s _ _ ⟨.int (g i j),H,I.tok _,⟨_,rfl⟩,q⟩
theorem uv {f:Value->Value->Sem Value}{g:Int->Int->Bool}
    (rule:∀(i j:Int) (t u:Tok) (s:Shared) (Q:Value->Shared->Prop) (E:Value->Shared->Prop),Q (.bool (g i j)) s->wpAny (model X.prog X.w) X.A (f (.int i t) (.int j u)) Q E s) :
    OpR X f (rI0 fun i j=>.bl (g i j)):=by
 intro pins s σ H x y v u Q I rx ry h
 obtain⟨i,j,rfl,rfl,q⟩:=h
 obtain⟨t,rfl⟩:=rx
 obtain⟨t',rfl⟩:=ry
 exact rule i j t t' s _ _ ⟨.bl (g i j),H,I,rfl,q⟩
def CDiv (i j:Int):Prop:=0<j/\j<1073741824
def CPow (i j:Int):Prop:=0<=j/\j<=1000000/\i.natAbs<2 ^ 64
def CMul (i j:Int):Prop:=(-(2 ^ 64)<i/\i<2 ^ 64)∨(-(2 ^ 64)<j/\j<2 ^ 64)
theorem CMul.ok {i j:Int}(h:CMul i j):IntMulOk i j:=by
 rcases h with⟨h1,h2⟩ | ⟨h1,h2⟩
 ·exact .of_left (intBits_le_64 h1 h2)
 ·exact .of_right (intBits_le_64 h1 h2)
theorem A7:OpR X (binaryOp .Add) (rI0 fun i j=>.int (i+j)):=Aa fun _ _ _ _ _ _ _ q=>add_int q
theorem qk:OpR X (binaryOp .Sub) (rI0 fun i j=>.int (i-j)):=Aa fun _ _ _ _ _ _ _ q=>sub_int q
theorem jv:OpR X (binaryOp .Mult) (rI CMul fun i j=>.int (i * j)):=opI fun _ _ _ _ _ _ _ hc q=>mul_int q hc.ok
theorem nL:OpR X (binaryOp .FloorDiv) (rI CDiv fun i j=>.int (i / j)):=opI fun i j _ _ _ _ _ hc q=>by
 have h1:(0:Int)<j:=hc.1
 have h2:j<1073741824:=hc.2
 exact floordiv_int (by omega) (by rw[Int.fdiv_eq_ediv_of_nonneg i (by omega)];exact q) (.inl (PyProof.noPylong_small (by omega)))
theorem gL:OpR X (binaryOp .Mod) (rI (fun _ j=>0<j) fun i j=>.int (i % j)):=opI fun i j _ _ _ _ _ hc q=>by
 have h1:(0:Int)<j:=hc
 exact mod_int' (by omega) (by rw[Int.fmod_eq_emod_of_nonneg i (by omega)];exact q)
theorem Au:OpR X (binaryOp .Pow) (rI CPow fun i j=>.int (i ^ j.toNat)):=opI fun _ _ _ _ _ _ _ hc q=>pow_int_small hc.1 hc.2.1 hc.2.2 q
theorem unI {f:Value->Sem Value}{g:Int->Int}
    (rule:∀(i:Int) (t:Tok) (s:Shared) (Q:Value->Shared->Prop) (E:Value->Shared->Prop),Q (.int (g i) s.toks) { s with toks:=s.toks+1 }->wpAny (model X.prog X.w) X.A (f (.int i t)) Q E s) :
    UnR X f (rU fun i=>.int (g i)):=by
 intro pins s σ H x v Q I rx h
 obtain⟨i,rfl,q⟩:=h
 obtain⟨t,rfl⟩:=rx
 exact rule i t s _ _ ⟨.int (g i),H,I.tok _,⟨_,rfl⟩,q⟩
theorem kN:UnR X (unaryOp .USub) (rU fun i=>.int (-i)):=unI fun _ _ _ _ _ q=>neg_int q
end
def wJ:V->V->Bool
 | .non,.non=>true | .non,.int _=>true | .int _,.non=>true | .non,.bl _=>true | .bl _,.non=>true | .non,.str _=>true | .str _,.non=>true
 | .int _,.int _=>true | .bl _,.bl _=>true | .str _,.str _=>true | .byt _,.byt _=>true
 | .int _,.str _=>true | .str _,.int _=>true | .bl _,.str _=>true | .str _,.bl _=>true
 | _,_=>false
def rEq:R2:=fun x y H Q=>wJ x y=true/\Q (.bl (decide (x=y))) H
def rNe:R2:=fun x y H Q=>wJ x y=true/\Q (.bl (!decide (x=y))) H
theorem rH {i j:Int}:decide (V.int i=V.int j)=(i==j):=by
 rw[aX]
 simp
theorem wa {i j:Bool}:decide (V.bl i=V.bl j)=(i==j):=by
 rw[aX]
 simp
theorem dec_str {i j:Str}:decide (V.str i=V.str j)=(i==j):=by
 rw[aX]
 simp
theorem sx {i j:Array UInt8}:decide (V.byt i=V.byt j)=(i.toList==j.toList):=by
 rw[aX]
 cases i
 cases j
 simp
section
variable {X:Cx}{a b c:Expr}{ta tb tc:TE}{pos:Pos}
theorem du {pins:List (Addr × Obj)}{σ:St}{H:Hp}{s:Shared}{Q:VK}{k k':Bool}(I:Inv X pins σ H s) (q:Q (.bl k) H) (e:k=k'):EP X pins σ Q (.bool k') s:=by
 subst e
 exact⟨.bl k,H,I,rfl,q⟩
theorem BC:OpR X (compareOp .Eq) rEq:=by
 intro pins s σ H x y v u Q I rx ry h
 obtain⟨hs,q⟩:=h
 cases x with
 | non =>
  cases rx
  cases y with
  | non=>cases ry;exact PySem.EqNone.eq_none_none (du I q (by simp))
  | bl j=>cases ry;exact PySem.EqNone.eq_none_bool (du I q (by simp))
  | int j=>obtain⟨t',rfl⟩:=ry;exact PySem.EqNone.eq_none_int (du I q (by simp))
  | str j=>obtain⟨t',rfl⟩:=ry;exact PySem.EqNone.eq_none_str (du I q (by simp))
  | _=>exact absurd (show false=true from hs) aN
 | bl i =>
  cases rx
  cases y with
  | non=>cases ry;exact PySem.EqNone.eq_bool_none (du I q (by simp))
  | bl j=>cases ry;exact eq_bool (du I q wa)
  | str j=>obtain⟨t',rfl⟩:=ry;exact PySem.EqMixed.eq_bool_str (du I q (by simp))
  | _=>exact absurd (show false=true from hs) aN
 | int i =>
  obtain⟨t,rfl⟩:=rx
  cases y with
  | non=>cases ry;exact PySem.EqNone.eq_int_none (du I q (by simp))
  | int j=>obtain⟨t',rfl⟩:=ry;exact eq_int (du I q rH)
  | str j=>obtain⟨t',rfl⟩:=ry;exact PySem.EqMixed.eq_int_str (du I q (by simp))
  | _=>exact absurd (show false=true from hs) aN
 | str i =>
  obtain⟨t,rfl⟩:=rx
  cases y with
  | non=>cases ry;exact PySem.EqNone.eq_str_none (du I q (by simp))
  | bl j=>cases ry;exact PySem.EqMixed.eq_str_bool (du I q (by simp))
  | int j=>obtain⟨t',rfl⟩:=ry;exact PySem.EqMixed.eq_str_int (du I q (by simp))
  | str j=>obtain⟨t',rfl⟩:=ry;exact eq_str (du I q dec_str)
  | _=>exact absurd (show false=true from hs) aN
 | byt i =>
  obtain⟨t,rfl⟩:=rx
  cases y with
  | byt j=>obtain⟨t',rfl⟩:=ry;exact W.eq_bytes (du I q sx)
  | _=>exact absurd (show false=true from hs) aN
 | _=>cases y <;> exact absurd (show false=true from hs) aN
theorem Bw:OpR X (compareOp .NotEq) rNe:=by
 intro pins s σ H x y v u Q I rx ry h
 obtain⟨hs,q⟩:=h
 cases x with
 | non =>
  cases rx
  cases y with
  | non=>cases ry;exact PySem.EqNone.ne_none_none (du I q (by simp))
  | bl j=>cases ry;exact PySem.EqNone.ne_none_bool (du I q (by simp))
  | int j=>obtain⟨t',rfl⟩:=ry;exact PySem.EqNone.ne_none_int (du I q (by simp))
  | str j=>obtain⟨t',rfl⟩:=ry;exact PySem.EqNone.ne_none_str (du I q (by simp))
  | _=>exact absurd (show false=true from hs) aN
 | bl i =>
  cases rx
  cases y with
  | non=>cases ry;exact PySem.EqNone.ne_bool_none (du I q (by simp))
  | bl j=>cases ry;exact ne_bool (du I q (congrArg not wa))
  | str j=>obtain⟨t',rfl⟩:=ry;exact PySem.EqMixed.ne_bool_str (du I q (by simp))
  | _=>exact absurd (show false=true from hs) aN
 | int i =>
  obtain⟨t,rfl⟩:=rx
  cases y with
  | non=>cases ry;exact PySem.EqNone.ne_int_none (du I q (by simp))
  | int j=>obtain⟨t',rfl⟩:=ry;exact ne_int (du I q (congrArg not rH))
  | str j=>obtain⟨t',rfl⟩:=ry;exact PySem.EqMixed.ne_int_str (du I q (by simp))
  | _=>exact absurd (show false=true from hs) aN
 | str i =>
  obtain⟨t,rfl⟩:=rx
  cases y with
  | non=>cases ry;exact PySem.EqNone.ne_str_none (du I q (by simp))
  | bl j=>cases ry;exact PySem.EqMixed.ne_str_bool (du I q (by simp))
  | int j=>obtain⟨t',rfl⟩:=ry;exact PySem.EqMixed.ne_str_int (du I q (by simp))
  | str j=>obtain⟨t',rfl⟩:=ry;exact ne_str (du I q (congrArg not dec_str))
  | _=>exact absurd (show false=true from hs) aN
 | byt i =>
  obtain⟨t,rfl⟩:=rx
  cases y with
  | byt j=>obtain⟨t',rfl⟩:=ry;exact W.ne_bytes (du I q (congrArg not sx))
  | _=>exact absurd (show false=true from hs) aN
 | _=>cases y <;> exact absurd (show false=true from hs) aN
theorem Bv:OpR X (compareOp .Lt) (rI0 fun i j=>.bl (decide (i<j))):=uv fun _ _ _ _ _ _ _ q=>lt_int q
theorem Bs:OpR X (compareOp .LtE) (rI0 fun i j=>.bl (decide (i<=j))):=uv fun _ _ _ _ _ _ _ q=>le_int q
theorem jl:OpR X (compareOp .Gt) (rI0 fun i j=>.bl (decide (j<i))):=uv fun _ _ _ _ _ _ _ q=>gt_int q
theorem Bg:OpR X (compareOp .GtE) (rI0 fun i j=>.bl (decide (j<=i))):=uv fun _ _ _ _ _ _ _ q=>ge_int q
theorem we:OpR X (compareOp .Lt) (fun x y H Q=>∃i j,x=.str i/\y=.str j/\Q (.bl (decide (i.cps.toList<j.cps.toList))) H):=by
 intro pins s σ H x y v u Q I rx ry h
 obtain⟨i,j,rfl,rfl,q⟩:=h
 obtain⟨t,rfl⟩:=rx
 obtain⟨t',rfl⟩:=ry
 exact lt_str (du I q rfl)
theorem yT:OpR X (compareOp .IsNot) (fun x y H Q=>y=.non/\Q (.bl (!decide (x=.non))) H):=by
 intro pins s σ H x y v u Q I rx ry h
 obtain⟨rfl,q⟩:=h
 cases ry
 refine isnot_none_gen (du I q ?_)
 cases x <;> first
  | (cases rx;rfl)
  | (obtain⟨t,rfl⟩:=rx;rfl)
theorem cQ (b:Expr) {op:CmpOp}(h:op≠.In:=by decide) (h2:op≠.NotIn:=by decide):behindInMarks op b=false:=by
 have e1:(op==CmpOp.In)=false:=by cases op <;> first | rfl | exact absurd rfl h
 have e2:(op==CmpOp.NotIn)=false:=by cases op <;> first | rfl | exact absurd rfl h2
 cases b <;> simp[behindInMarks,e1,e2]
theorem hG {op:CmpOp}{r:R2}(ho:OpR X (compareOp op) r) (ha:PE X a ta) (hb:PE X b tb) (hm:behindInMarks op b=false):PE X (.Compare a [op] [b] pos) (tOp r ta tb):=by
 intro pins s σ H Q I h
 exact wpAny_Compare1 (xB ha hb I h fun v u s2 x y H2 I2 rx ry q=>ho pins s2 σ H2 x y v u Q I2 rx ry q) hm
def BL (t:TE):TT:=fun σ H Q=>t σ H fun x H'=>∃k,x=.bl k/\Q k H'
theorem cK {op:CmpOp}{r:R2}(ho:OpR X (compareOp op) r) (ha:PE X a ta) (hb:PE X b tb) (hm:behindInMarks op b=false):PT X (.Compare a [op] [b] pos) (BL (tOp r ta tb)):=by
 intro pins s σ H Q I h
 refine wpAny_isTrue_Compare1 (thn (ha pins s σ H _ I h) fun v s1 ⟨x,H1,I1,r1,q1⟩=>thn (hb pins s1 σ H1 _ I1 q1) fun u s2 ⟨y,H2,I2,r2,q2⟩ =>
  thn (ho pins s2 σ H2 x y v u _ I2 r1 r2 q2) fun c s3 ⟨z,H3,I3,r3,k,e,q3⟩=>?_) hm
 subst e
 cases r3
 exact wpAny_truthy_bool ⟨H3,I3,q3⟩
def AX (r r':R2) (ta tb tc:TE):TE:=fun σ H Q=>ta σ H fun x H1=>tb σ H1 fun y H2=>r x y H2 fun z H3=>∃k,z=.bl k /\
 (if k=true then tc σ H3 fun w' H4=>r' y w' H4 Q else Q (.bl false) H3)
theorem xf {op op':CmpOp}{r r':R2}(ho:OpR X (compareOp op) r) (ho':OpR X (compareOp op') r') (ha:PE X a ta) (hb:PE X b tb) (hc:PE X c tc)
    (hm:lastMarks [op,op'] [b,c]=false:=by with_unfolding_all rfl):PE X (.Compare a [op,op'] [b,c] pos) (AX r r' ta tb tc):=by
 intro pins s σ H Q I h
 refine Compare_chain (thn (ha pins s σ H _ I h) fun v s1 ⟨x,H1,I1,r1,q1⟩=>chain_link (thn (hb pins s1 σ H1 _ I1 q1) fun u s2 ⟨y,H2,I2,r2,q2⟩ =>
  thn (ho pins s2 σ H2 x y v u _ I2 r1 r2 q2) fun d s3 ⟨z,H3,I3,r3,k,e,q3⟩=>?_)) hm
 subst e
 cases r3
 refine wpAny_truthy_bool ?_
 cases k with
 | false=>exact ite_ff ⟨.bl false,H3,I3,rfl,q3⟩
 | true=>exact ite_tt (chain_last (thn (hc pins s3 σ H3 _ I3 q3) fun w' s4 ⟨z',H4,I4,r4,q4⟩=>ho' pins s4 σ H4 y z' u w' Q I4 r2 r4 q4))
theorem jP:(sizeLine:Nat)<2 ^ 63:=by rw[sizeLine_eq];decide
theorem ur:OpR X (binaryOp .Add) (fun x y H Q=>∃i j,x=.str i/\y=.str j/\i.length+j.length<=sizeLine/\Q (.str (i++j)) H):=by
 intro pins s σ H x y v u Q I rx ry h
 obtain⟨i,j,rfl,rfl,hz,q⟩:=h
 obtain⟨t,rfl⟩:=rx
 obtain⟨t',rfl⟩:=ry
 exact add_str (fun t' tk=>⟨.str (i++j),H,I.tok _,⟨_,rfl⟩,q⟩) hz
theorem fZ {x:V}{us:List Value}(r:Vals [x] us):∃u,us=[u]/\RelV x u:=by
 cases r with
 | cons r1 r2=>cases r2;exact⟨_,rfl,r1⟩
theorem ir {x y:V}{us:List Value}(r:Vals [x,y] us):∃u w',us=[u,w']/\RelV x u/\RelV y w':=by
 cases r with
 | cons r1 r2 =>
  cases r2 with
  | cons r3 r4=>cases r4;exact⟨_,_,rfl,r1,r3⟩
theorem wX:gG X (.builtin "abs") (fun xs H Q=>∃i,xs=[.int i]/\Q (.int (if i<0 then -i else i)) H):=by
 intro pins s σ H xs us Q I r h
 obtain⟨i,rfl,q⟩:=h
 obtain⟨u,rfl,t,rfl⟩:=fZ r
 exact call_abs_int fun u tk=>⟨.int (if i<0 then -i else i),H,I.tok _,⟨_,rfl⟩,q⟩
theorem wc (hc:X.calm=true):gG X (.builtin "min") (fun xs H Q=>∃i j,xs=[.int i,.int j]/\Q (.int (if j<i then j else i)) H):=by
 intro pins s σ H xs us Q I r h
 obtain⟨i,j,rfl,q⟩:=h
 obtain⟨u,w',rfl,⟨t,rfl⟩,⟨t',rfl⟩⟩:=ir r
 refine min_two_ints (I.ok.hd hc) fun h' tk k=>⟨_,H,I.kept k,?_,q⟩
 by_cases hj:j<i
 ·rw[if_pos hj,if_pos hj];exact⟨_,rfl⟩
 ·rw[if_neg hj,if_neg hj];exact⟨_,rfl⟩
theorem pj:gG X (.type "int") (fun xs H Q=>(∃i,xs=[.int i]/\Q (.int i) H)∨∃k,xs=[.bl k]/\Q (.int (if k then 1 else 0)) H):=by
 intro pins s σ H xs us Q I r h
 rcases h with⟨i,rfl,q⟩ | ⟨k,rfl,q⟩
 ·obtain⟨u,rfl,t,rfl⟩:=fZ r
  exact call_int_int ⟨.int i,H,I,⟨_,rfl⟩,q⟩
 ·obtain⟨u,rfl,r1⟩:=fZ r
  cases r1
  exact call_int_bool ⟨.int (if k then 1 else 0),H,I.tok _,⟨_,rfl⟩,q⟩
def ya (K:W.Frag) (x:V) (H:Hp) (n:Nat):Prop :=
 match x with
 | .str y=>y.length<=sizeLine/\n=y.length
 | .byt y=>y.size<=sizeLine/\n=y.size
 | .ref p=>(∃xs,SqL K H p xs/\n=xs.length)∨∃xs,SqT K H p xs/\n=xs.length
 | _=>False
theorem wT:gG X (.builtin "len") (fun xs H Q => ∃x n, xs=[x] /\ ya X.K x H n /\ Q (.int n) H) := by
 intro pins s σ H xs us Q I r h
 obtain⟨x,n,rfl,e,q⟩:=h
 obtain⟨u,rfl,rx⟩:=fZ r
 have hl:=jP
 have hs:sizeLine=16777216:=sizeLine_eq
 cases x with
 | str y =>
  obtain⟨t,rfl⟩:=rx
  obtain⟨hy,e'⟩:y.length<=sizeLine/\n=y.length:=e
  subst e'
  exact len_str (by omega) ⟨.int _,H,I.tok _,⟨_,rfl⟩,q⟩
 | byt y =>
  obtain⟨t,rfl⟩:=rx
  obtain⟨hy,e'⟩:y.size<=sizeLine/\n=y.size:=e
  subst e'
  exact W.len_bytes (by omega) ⟨.int _,H,I.tok _,⟨_,rfl⟩,q⟩
 | ref p =>
  cases rx
  have e':(∃xs,SqL X.K H p xs/\n=xs.length)∨∃xs,SqT X.K H p xs/\n=xs.length:=e
  rcases e' with⟨xs,hx,e'⟩ | ⟨xs,hx,e'⟩
  ·subst e'
   obtain⟨its,r',pl,hz⟩:=I.list hx
   have hlen:=r'.length
   exact Calls.call_len_list pl.isList (by simp only[aE];omega) ⟨.int xs.length,H,I.tok _,⟨_,by simp only[aE];rw[hlen]⟩,q⟩
  ·subst e'
   obtain⟨its,r',pl,hz⟩:=I.tuple hx
   have hlen:=r'.length
   exact len_tuple pl (by simp only[aE];omega) ⟨.int xs.length,H,I.tok _,⟨_,by simp only[aE];rw[hlen]⟩,q⟩
 | _=>exact(show False from e).elim
end
structure ObjM (h:Heap) (x dx C:Addr) (mA:Str->Option Value):Prop where
 obj:h.get? x=some (W.instObj C dx)
 ns:h.Ns1 dx mA
 ne:dx≠x
theorem oV {h:Heap}{dx:Addr}{mA:Str -> Option Value}(n:h.Ns1 dx mA):∃od, h.get? dx=some od /\ ∀name, W.lookIn name od=some (mA name) := by
 obtain⟨o,es,ep,ho,hd,hk,_,hm⟩:=n
 refine⟨o,ho,fun name=>?_⟩
 have e:=hm name
 unfold nsFind findBy at e
 rw[<- Array.find?_toList] at e
 unfold W.lookIn
 rw[hd]
 dsimp only
 split
 ·rename_i y q
  rw[q] at e
  exact congrArg some e
 ·rename_i q
  rw[q] at e
  have a:es.toList.any (·.refKey)=false:=by
   rw[List.any_eq_false]
   intro y hy
   obtain⟨z,t,hkey⟩:=hk y (Array.mem_toList_iff.mp hy)
   simp[DictEntry.refKey,hkey]
  have a':¬ es.toList.any (·.refKey)=true:=by rw[a];exact aN
  rw[if_neg a']
  exact congrArg some e
theorem ObjM.look {h:Heap}{x dx C:Addr}{mA:Str->Option Value}(I:ObjM h x dx C mA):∃od,W.InstAt h x (W.instObj C dx) C (some od)/\∀name,W.lookIn name od=some (mA name) :=
 let ⟨od,ho,hl⟩:=oV I.ns
 ⟨od,⟨I.obj,rfl,rfl,ho⟩,hl⟩
theorem RelO.some_of {v:V}{o:Option Value}(r:RelO (some v) o):∃u,o=some u/\RelV v u:=by
 cases o with
 | none=>exact(show False from r).elim
 | some u=>exact⟨u,rfl,r⟩
theorem vO {v:V}{u:Value}(r:RelV v u):W.handedIn u=true:=by
 cases v with
 | non=>cases (show u=Value.none from r);rfl
 | bl b=>cases (show u=Value.bool b from r);rfl
 | int i=>obtain⟨t,e⟩:=(show ∃t,u=Value.int i t from r);cases e;rfl
 | str x=>obtain⟨t,e⟩:=(show ∃t,u=Value.str x t from r);cases e;rfl
 | byt b=>obtain⟨t,e⟩:=(show ∃t,u=Value.bytes b t from r);cases e;rfl
 | flt b=>obtain⟨t,e⟩:=(show ∃t,u=Value.float b t from r);cases e;rfl
 | ref a=>cases (show u=Value.ref a from r);rfl
 | ty n=>cases (show u=Value.type n from r);rfl
section
variable {P:Program}{w:World}{H H':Hp}{h h':Heap}{a C dx:Addr}{fs fs':List (Str × V)}
theorem rP (hok:HOk P w H h) (e:H a=some (.ins C dx fs)):∃mA,ObjM h a dx C mA/\(∀f,RelO (fs.lookup f) (mA f))/\PySem.Within mA (fs.map (·.1))/\fs.length<=1000/\H dx=some (.own a):=by
 obtain⟨d,z,ne,ob,mA,n,r,q⟩:=(show ObjOk P w H h a (.ins C dx fs) from hok a _ e)
 exact⟨mA,⟨ob,n,ne⟩,r,q,z,d⟩
end
structure Cls (K:W.Frag) (C:Addr):Prop where
 pg:W.plainGet K C Str.empty=true
 hd:W.hasDictIn K C=true
 po:W.plainOver K C=true
 sa:W.findIn K (.ref C) "__setattr__"=some (some (.builtin "object.__setattr__"))
theorem Cls.get {K:W.Frag}{C:Addr}(c:Cls K C) (f:Str):W.plainGet K C f=true:=c.pg
section
variable {X:Cx}{pins:List (Addr × Obj)}{σ:St}{H:Hp}{s:Shared}{a C dx:Addr}{fs:List (Str × V)}{f:Str}{v:V}{A:Around}{E:Value->Shared->Prop}
theorem yF {prog:Program}{w:World}{env:Env}{e:Expr}{f:Str}{pos:Pos}{s:Shared}{Q:Value->Shared->Prop}(hb:attributeBase e f env (eval e env)=eval e env)
    (h:wpAny (model prog w) A (eval e env) (fun o s₁=>wpAny (model prog w) A (getAttr o f true) Q E s₁) E s):wpAny (model prog w) A (eval (.Attribute e f pos) env) Q E s :=
 Attribute_any_ h (by rw[arm_eval_Attribute,hb])
end
section
variable {X:Cx}{pins:List (Addr × Obj)}{σ:St}{H:Hp}{s:Shared}{A:Around}{E:Value->Shared->Prop}{Q:Value->Shared->Prop}{c:Value}{b:Bool}
inductive TyOf (K:W.Frag) (H:Hp):V -> Value -> Prop where
 | non:TyOf K H .non (.type "NoneType")
 | bl (x:Bool):TyOf K H (.bl x) (.type "bool")
 | int (i:Int):TyOf K H (.int i) (.type "int")
 | str (x:Str):TyOf K H (.str x) (.type "str")
 | flt (x:UInt64):TyOf K H (.flt x) (.type "float")
 | lst {a:Addr} {xs:List V} (e:H a=some (.lst xs)):TyOf K H (.ref a) (.type "list")
 | frz {a:Addr} {o:Obj} {xs:List V} (e:H a=some (.frz o (.lst xs))):TyOf K H (.ref a) (.type "list")
 | tup {a:Addr} {xs:List V} (e:H a=some (.tup xs)):TyOf K H (.ref a) (.type "tuple")
 | dK {a:Addr} {kvs:List (Key × V)} (e:H a=some (.dK kvs)):TyOf K H (.ref a) (.type "dict")
 | dT {a:Addr} {kvs:List (List Key × V)} (e:H a=some (.dT kvs)):TyOf K H (.ref a) (.type "dict")
 | ins {a C dx:Addr} {fs:List (Str × V)} (e:H a=some (.ins C dx fs)) (cl:Cls K C) (ha:W.findIn K (.ref C) "__class__"=some (some (.builtin "object.__class__")))
     (hn:W.specialIn K (.builtin "object.__class__") "__get__"=some (some (.builtin "getset_descriptor.__get__"))) (htk:W.takesIn K (.builtin "object.__class__")=some true)
     (hm:W.mroIn K C (.type "object")=some true):TyOf K H (.ref a) (.ref C)
theorem u8 {x:V}{u t:Value}(I:Inv X pins σ H s) (rx:RelV x u) (ty:TyOf X.K H x t) (e:W.kitOne X.K t c=some b) (h:∀tk,Q (.bool b) { s with toks:=tk }) :
    wpAny (model X.prog X.w) A (call (.builtin "isinstance") [u,c]) Q E s:=by
 cases ty with
 | non=>cases (show u=Value.none from rx);exact W.kia_one W.kitx_none I.kIn True.intro e (fun z=>nomatch z) h
 | bl y=>cases (show u=Value.bool y from rx);exact W.kia_one W.kitx_bool I.kIn True.intro e (fun z=>nomatch z) h
 | int i=>obtain⟨t,q⟩:=(show ∃t,u=Value.int i t from rx);cases q;exact W.kia_one W.kitx_int I.kIn True.intro e (fun z=>nomatch z) h
 | str y=>obtain⟨t,q⟩:=(show ∃t,u=Value.str y t from rx);cases q;exact W.kia_one W.kitx_str I.kIn True.intro e (fun z=>nomatch z) h
 | flt y=>obtain⟨t,q⟩:=(show ∃t,u=Value.float y t from rx);cases q;exact W.kia_one W.kitx_float I.kIn True.intro e (fun z=>nomatch z) h
 | @lst a xs ea =>
  cases (show u=Value.ref a from rx)
  obtain⟨_,_,n,_,h1⟩:=(show ObjOk X.prog X.w H s.heap a (.lst xs) from I.hok a _ ea)
  exact W.kia_one W.kitx_list I.kIn ⟨_,h1,rfl⟩ e (fun z=>nomatch z) h
 | @frz a ob xs ea =>
  cases (show u=Value.ref a from rx)
  obtain⟨_,_,_,n,_,h1⟩:=(show ObjOk X.prog X.w H s.heap a (.frz ob (.lst xs)) from I.hok a _ ea)
  exact W.kia_one W.kitx_list I.kIn ⟨_,h1,rfl⟩ e (fun z=>nomatch z) h
 | @tup a xs ea =>
  cases (show u=Value.ref a from rx)
  obtain⟨_,_,_,p⟩:=(show ObjOk X.prog X.w H s.heap a (.tup xs) from I.hok a _ ea)
  obtain⟨o,h1,h2,_⟩:=p
  exact W.kia_one W.kitx_tuple I.kIn ⟨o,h1,h2⟩ e (fun z=>nomatch z) h
 | @dK a kvs ea =>
  cases (show u=Value.ref a from rx)
  obtain⟨_,_,vs,_,p⟩:=(show ObjOk X.prog X.w H s.heap a (.dK kvs) from I.hok a _ ea)
  obtain⟨o,es,ep,h1,h2,_⟩:=p
  exact W.kia_one W.kitx_dict I.kIn ⟨o,h1,h2.1⟩ e (fun z=>nomatch z) h
 | @dT a kvs ea =>
  cases (show u=Value.ref a from rx)
  obtain⟨_,_,xs,_,o,es,ep,h1,h2,_⟩:=(show ObjOk X.prog X.w H s.heap a (.dT kvs) from I.hok a _ ea)
  exact W.kia_one W.kitx_dict I.kIn ⟨o,h1,h2.1⟩ e (fun z=>nomatch z) h
 | @ins a C dx fs ea cl ha hn htk hm =>
  cases (show u=Value.ref a from rx)
  obtain⟨mA,O,_⟩:=rP I.hok ea
  obtain⟨od,J,_⟩:=O.look
  exact W.kia_one (W.kitx_own (cl.get _) cl.hd ha hn htk hm) I.kIn J e (fun z=>nomatch z) h
end
structure Room (k:Nat) (A:Around):Prop where
 hd:A.handled=none
 dp:A.depth+3 * k+5<recursionLimit
 un:A.units+16 * k+200<cLine
 gd:A.guards=some []
theorem Room.mono {j k:Nat}{A:Around}(r:Room k A) (h:j<=k):Room j A:=⟨r.hd,by have:=r.dp;omega,by have:=r.un;omega,r.gd⟩
theorem Room.deeper {k:Nat}{A:Around}(r:Room (k+1) A) (env:Env):Room k (A.deeper env) :=
 ⟨r.hd,by have:=r.dp;show A.depth+1+3 * k+5<_;omega,by have:=r.un;show A.units+3+16 * k+200<_;omega,r.gd⟩
theorem tN {A:Around}{C:Addr}{us:List Value}{kw:List (Str × Value)}:(A.under (.builtin "type.__call__" ⟨.ref C::us,kw⟩)).depth=A.depth+1:=by
 first | rfl | simp[Around.under,Code.weight,Code.isCreation,Code.isGuard,Code.isCaller,Code.frames,Code.isFrame,guardIds]
theorem tU {A:Around}{C:Addr}{us:List Value}{kw:List (Str × Value)}:(A.under (.builtin "type.__call__" ⟨.ref C::us,kw⟩)).units=A.units+1:=by
 first | rfl | simp[Around.under,Code.cUnits,Code.frames,Code.isFrame]
theorem Room.make {k:Nat}{A:Around}(r:Room (k+1) A) (C:Addr) (us:List Value) (kw:List (Str × Value)):Room k (A.under (.builtin "type.__call__" ⟨.ref C::us,kw⟩)) :=
 ⟨r.hd,by have:=r.dp;rw[tN];omega,by have:=r.un;rw[tU];omega,by first | exact r.gd | (simp[Around.under,Code.isGuard,guardIds];exact r.gd)⟩
theorem Room.depth {k:Nat}{A:Around}(r:Room k A):A.depth<recursionLimit:=by have:=r.dp;omega
theorem Room.units {k:Nat}{A:Around}(r:Room k A):A.units+64<cLine:=by have:=r.un;omega
def uy:TA:=fun _ H Q=>Q [] H
def pN (ta:TE) (tr:TA):TA:=fun σ H Q=>ta σ H fun x H1=>tr σ H1 fun xs H2=>Q (x::xs) H2
section
variable {X:Cx}{e:Expr}{es:List Expr}{te:TE}{t:TA}{pos:Pos}
theorem fV:PA X [] uy:=fun _ _ _ _ H Q I h=>Calls.spliced_nil ⟨[],H,I,.nil,h⟩
theorem cT (ha:PE X e te) (hr:PA X es t) (hs:starEach (e::es) X.env=(false,eval e X.env)::starEach es X.env:=by rfl):PA X (e::es) (pN te t):=by
 intro pos pins s σ H Q I h
 rw[hs]
 show wpAny _ _ (spliced ((false,eval e X.env)::backTo pos (starEach es X.env))) _ _ s
 refine Calls.spliced_cons (thn (ha pins s σ H _ I h) fun u s1 ⟨x,H1,I1,r1,q1⟩=>?_)
 exact thn (hr pos pins s1 σ H1 _ I1 q1) fun us s2 ⟨xs,H2,I2,r2,q2⟩=>⟨x::xs,H2,I2,.cons r1 r2,q2⟩
def tTup (t:TA):TE:=fun σ H Q=>t σ H fun xs H1=>xs.length<=sizeLine/\∀p,H1 p=none->Q (.ref p) (upd H1 p (.tup xs))
def tLst (t:TA):TE:=fun σ H Q=>t σ H fun xs H1=>xs.length<=sizeLine/\∀p,H1 p=none->Q (.ref p) (upd H1 p (.lst xs))
theorem cV {x1}(h:PA X es t):PE X (.Tuple es x1 pos) (tTup t):=by
 intro pins s σ H Q I hq
 refine wpAny_Tuple_spliced (thn (h pos pins s σ H _ I hq) fun us s1 ⟨xs,H1,I1,r,z,q⟩=>⟨by rw[<- r.length];exact z,?_⟩)
 have hf:H1 s1.heap.objs.size=none:=I1.hok.fresh (ac _)
 refine⟨.ref s1.heap.objs.size,upd H1 s1.heap.objs.size (.tup xs),I1.laid (t':=s1.toks) (fun b u e=>ai _ e) (ac _) ?_,rfl,q _ hf⟩
 exact⟨z,us,r,⟨_,aA _ rfl,rfl,_,rfl,rfl⟩⟩
theorem dw (h:PA X es t):PE X (.List es pos) (tLst t):=by
 intro pins s σ H Q I hq
 refine wpAny_List_spliced (thn (h pos pins s σ H _ I hq) fun us s1 ⟨xs,H1,I1,r,z,q⟩=>⟨by rw[<- r.length];exact z,?_⟩)
 have hf:H1 s1.heap.objs.size=none:=I1.hok.fresh (ac _)
 refine⟨.ref s1.heap.objs.size,upd H1 s1.heap.objs.size (.lst xs),I1.laid (t':=s1.toks) (fun b u e=>ai _ e) (ac _) ?_,rfl,q _ hf⟩
 exact⟨z,us,0,r,aA _ rfl⟩
end
abbrev Sp:=List V->Hp->VK->XK->Prop
abbrev CXT:=List Env->Hp->Shared->XK->Value->Shared->Prop
structure Env0 (P:Program) (w:World) (K:W.Frag) (mg:Str->Option Value) (base:Heap) (A:Around) (outer:List Env) (s:Shared) (H:Hp):Prop where
 frames:A.frames=some outer
 mod:Mod K mg base
 bs:∀b o,base.get? b=some o->s.heap.get? b=some o/\H b=none
 bsz:base.objs.size<=s.heap.objs.size
 funs:s.heap.FunFrames base outer
 frf:∀b∈frs outer,H b=none
 hok:HOk P w H s.heap
 bare:AllBare s.gens
def CE (outer:List Env) (P:Program) (w:World) (H:Hp) (s:Shared) (Q:VK) (u:Value) (s':Shared):Prop :=
 ∃v H',s'.os=s.os/\AllBare s'.gens/\Un (frs outer) [] H H' s.heap s'.heap/\HOk P w H' s'.heap/\RelV v u/\Q v H'
def CR (CX:CXT) (outer:List Env) (P:Program) (w:World) (H:Hp) (s:Shared) (Q:VK) (E:XK) (r:Result) (s':Shared):Prop :=
 match r with
 | .ok (.ret u)=>CE outer P w H s Q u s'
 | .ok _=>False
 | .error e=>CX outer H s E e s'
structure FnOk (P:Program) (w:World) (K:W.Frag) (mg:Str->Option Value) (base:Heap) (CX:CXT) (k:Nat) (f:Addr) (fd:FuncData) (ps:List Str) (sp:Sp):Prop where
 len:∀vs H Q E,sp vs H Q E->vs.length=ps.length
 run:∀(A:Around) (outer:List Env) (s:Shared) (H:Hp) (args:Args) (us:List Value) (vs:List V) (Q:VK) (E:XK),Room k A->Env0 P w K mg base A outer s H->BindsTo s fd args (ps.zip us)->Vals vs us->sp vs H Q E ->
  codeAny (model P w) A (.call (.ref f) args) (CR CX outer P w H s Q E) s
theorem Env0.make {P:Program}{w:World}{K:W.Frag}{mg:Str->Option Value}{base:Heap}{A:Around}{outer:List Env}{s:Shared}{H:Hp}(e:Env0 P w K mg base A outer s H) (C:Addr) (us:List Value) (kw:List (Str × Value)) :
    Env0 P w K mg base (A.under (.builtin "type.__call__" ⟨.ref C::us,kw⟩)) outer s H:=⟨by first | exact e.frames | (simpa [Around.under,Code.envs,Code.isFrame,pushEnvs] using e.frames),e.mod,e.bs,e.bsz,e.funs,e.frf,e.hok,e.bare⟩
section
variable {X:Cx}{pins:List (Addr × Obj)}{σ:St}{H:Hp}{s s':Shared}
theorem Inv.env0 (I:Inv X pins σ H s):Env0 X.prog X.w X.K X.mg X.base X.A X.stack s H :=
 ⟨I.ok.frames,I.ok.mod,I.bs,aG I.ok.bsz I.sz,I.stack,I.stkFree,I.hok,I.bare⟩
theorem Inv.after {Q:VK}{u:Value}(I:Inv X pins σ H s) (h:CE X.stack X.prog X.w H s Q u s'):EP X pins σ Q u s':=by
 obtain⟨v,H',os,bare,un,hok,r,q⟩:=h
 obtain⟨hh,g,d,t,os'⟩:=s'
 obtain rfl:os'=s.os:=os
 exact⟨v,H',I.call (h':=hh) (g':=g) (d':=d) (t':=t) (ch:=[]) un hok bare (fun b z=>absurd z (by simp)),r,q⟩
end
def pQ (sp:Sp) (dvs:List V) (E:XK) (t:TA):TE:=fun σ H Q=>t σ H fun vs H1=>sp (vs++dvs) H1 Q E
def Binds (K:W.Frag) (fd:FuncData) (ps:List Str) (ds:List Value):Prop :=
 ∀(s:Shared) (us:List Value),K.In s.heap->(us++ds).length=ps.length->BindsTo s fd ⟨us,[]⟩ (ps.zip (us++ds))
theorem Binds.all {K:W.Frag}{fd:FuncData}{ps:List Str}(h:∀us:List Value,us.length=ps.length->bindArgs fd ⟨us,[]⟩=pure (ps.zip us)):Binds K fd ps []:=fun s us _ hl=>by
 rw[aS] at hl ⊢
 exact .of_eq (h us hl)
def kD (CX:CXT) (X:Cx) (E:XK):Prop:=∀(pins:List (Addr × Obj)) (σ:St) (H:Hp) (s:Shared) (e:Value) (s':Shared),Inv X pins σ H s->CX X.stack H s E e s'->X.xe e s'
section
variable {X:Cx}{CX:CXT}{k:Nat}{f C:Addr}{fd:FuncData}{ps:List Str}{sp:Sp}{dvs:List V}{ds:List Value}{E:XK}{x m:Str}{p pos apos:Pos}{e o:Expr}{es:List Expr}{ta:TE}{t:TA}
theorem vk {pins:List (Addr × Obj)}{σ:St}{H:Hp}{s:Shared}{Q:VK}{us:List Value}{vs:List V}(F:FnOk X.prog X.w X.K X.mg X.base CX k f fd ps sp) (hr:Room k X.A) (hb:Binds X.K fd ps ds) (hd:Vals dvs ds) (hx:kD CX X E)
    (I:Inv X pins σ H s) (r:Vals vs us) (h:sp (vs++dvs) H Q E):wpAny (model X.prog X.w) X.A (call (.ref f) us) (EP X pins σ Q) X.xe s:=by
 have r2:Vals (vs++dvs) (us++ds):=r.append hd
 have hl:(us++ds).length=ps.length:=by rw[<- r2.length];exact F.len _ _ _ _ h
 refine wpAny_call (codeAny_mono (F.run X.A X.stack s H ⟨us,[]⟩ (us++ds) (vs++dvs) Q E hr I.env0 (hb s us I.kIn hl) r2 h) fun r s' hq=>?_)
 cases r with
 | error e=>exact hx pins σ H s e s' I hq
 | ok fl =>
  cases fl with
  | ret u=>exact I.after hq
  | next=>exact False.elim hq
  | brk=>exact False.elim hq
  | cont=>exact False.elim hq
theorem rJ (F:FnOk X.prog X.w X.K X.mg X.base CX k f fd ps sp) (hr:Room k X.A) (hg:Gl X x) (hm:X.mg x=some (.ref f)) (hk:W.keepIn X.K (.ref f)=true) (hb:Binds X.K fd ps ds) (hd:Vals dvs ds) (hx:kD CX X E)
    (ha:PA X (e::es) t) (hdb:(x==("__debug__":Str))=false:=by decide) (he:starEach (e::es) X.env=(false,eval e X.env)::starEach es X.env:=by rfl) (hpl:(backTo pos (starEach es X.env)).any (·.1)=false:=by rfl) :
    PE X (.Call (.Name x p) (e::es) [] pos) (pQ sp dvs E t):=by
 intro pins s σ H Q I h
 refine cp (ju I hg hm ?_ hdb)
 refine W.callWith_K (h₀:=X.base) I.ok.mod.kin hk (thn (ha pos pins s σ H _ I h) fun us s1 ⟨vs,H1,I1,r,q⟩=>⟨I1.kIn,?_⟩) he hpl
 exact vk F hr hb hd hx I1 r q
end
def PK (X:Cx) (kws:List Keyword) (t:TA):Prop :=
 ∀(pos:Pos) (pins:List (Addr × Obj)) (s:Shared) (σ:St) (H:Hp) (Q:List V->Hp->Prop),Inv X pins σ H s->t σ H Q->wpAny (model X.prog X.w) X.A (evalAll ((backToKw pos (keywordEach kws X.env)).map (·.2))) (AP X pins σ Q) X.xe s
structure FnScope (N P:List Str) (sc:Scope):Prop where
 kind:sc.kind=.function
 co:sc.isCoroutine=false
 gen:sc.isGenerator=false
 nd:N.Nodup
 pre:N.take P.length=P
 par:∀x∈P,sc.names.lookup x=some .local∨sc.names.lookup x=some .cell
 nofree:∀y∈sc.names,y.2≠.free
theorem pF {kindOf:Str -> Option NameKind}{x:Str}:∀ {binds:List (Str × Value)}{m:Str -> Option Value}, (∀v, (x, v) ∉ binds) -> bindL kindOf binds m x=m x
 | [],_,_=>rfl
 | (n,v)::r,m,h=>by
  unfold bindL
  rw[pF fun w hw=>h w (aK _ hw)]
  split
  ·have:x≠n:=by rintro rfl;exact h v bh
   simp[this]
  ·rfl
theorem oN {kindOf:Str -> Option NameKind}{x:Str}:∀ {binds:List (Str × Value)}{m:Str -> Option Value}, (∀v, (x, v) ∉ binds) -> bindC kindOf binds m x=m x
 | [],_,_=>rfl
 | (n,v)::r,m,h=>by
  unfold bindC
  rw[oN fun w hw=>h w (aK _ hw)]
  split
  ·rfl
  ·have:x≠n:=by rintro rfl;exact h v bh
   simp[this]
theorem oZ {kindOf:Str->Option NameKind}{x:Str}{v:Value}:∀ {P:List Str}{vs:List Value}{i:Nat}{m:Str->Option Value},P.Nodup->P[i]? = some x->vs[i]? = some v->kindOf x=some .local ->
    bindL kindOf (P.zip vs) m x=some v
 | [],_,_,_,_,h,_,_=>by simp at h
 | _::_,[],_,_,_,_,h,_=>by simp at h
 | p::P,w::vs,0,m,nd,h1,h2,hk=>by
  simp at h1 h2;subst h1;subst h2
  show bindL kindOf ((p,w)::P.zip vs) m p=_
  unfold bindL
  rw[pF fun v hv=>(ba.mp nd).1 (List.of_mem_zip hv).1,if_pos hk]
  simp
 | p::P,w::vs,i+1,m,nd,h1,h2,hk=>by
  show bindL kindOf ((p,w)::P.zip vs) m x=_
  unfold bindL
  exact oZ (i:=i) (ba.mp nd).2 (by simpa using h1) (by simpa using h2) hk
theorem oS {kindOf:Str->Option NameKind}{x:Str}{v:Value}:∀ {P:List Str}{vs:List Value}{i:Nat}{m:Str->Option Value},P.Nodup->P[i]? = some x->vs[i]? = some v->kindOf x≠some .local ->
    bindC kindOf (P.zip vs) m x=some v
 | [],_,_,_,_,h,_,_=>by simp at h
 | _::_,[],_,_,_,_,h,_=>by simp at h
 | p::P,w::vs,0,m,nd,h1,h2,hk=>by
  simp at h1 h2;subst h1;subst h2
  show bindC kindOf ((p,w)::P.zip vs) m p=_
  unfold bindC
  rw[oN fun v hv=>(ba.mp nd).1 (List.of_mem_zip hv).1,if_neg hk]
  simp
 | p::P,w::vs,i+1,m,nd,h1,h2,hk=>by
  show bindC kindOf ((p,w)::P.zip vs) m x=_
  unfold bindC
  exact oS (i:=i) (ba.mp nd).2 (by simpa using h1) (by simpa using h2) hk
def start (N:List Str) (vs:List V):St:=vs.map some++List.replicate (N.length-vs.length) none
def dQ (CX:CXT) (P:Program) (w:World) (K:W.Frag) (mg:Str->Option Value) (base:Heap) (N:List Str) (qual:Str) (scope:Scope) (f:Addr) (cd:Value) (A:Around) (outer:List Env) (s:Shared) (H:Hp) (E:XK):Cx where
 prog:=P
 w:=w
 K:=K
 mg:=mg
 base:=base
 A:=A.deeper (envOfC qual scope s.heap.objs.size f cd)
 N:=N
 s₀:=s
 H₀:=H
 env:=envOfC qual scope s.heap.objs.size f cd
 outer:=outer
 stack:=envOfC qual scope s.heap.objs.size f cd::outer
 ex:=[]
 calm:=true
 fn:=fun _=>true
 pn:=[]
 xe:=fun e s'=>wpAny (model P w) (A.deeper (envOfC qual scope s.heap.objs.size f cd)) (leaving (envOfC qual scope s.heap.objs.size f cd) e) (fun _ s''=>CX outer H s E e s'') (fun e' s''=>CX outer H s E e' s'') s'
theorem qz {sc:Scope}{n:Nat}{x:Str}(h:sc.names.lookup x=some .cell):∃c,(cellsFrom n sc.names []).lookup x=some c:=by
 have q:=W.cellsFrom_some sc.names n [] (.inl h)
 exact cg.mp q
theorem vd {CX:CXT}{P:Program}{w:World}{K:W.Frag}{mg:Str -> Option Value}{base:Heap}{N ps:List Str}{qual:Str}{scope:Scope}{f:Addr}{cd:Value}{A:Around}{outer:List Env}{s s1:Shared}{H:Hp}{E:XK}{us:List Value}{vs:List V}
    (S:FnScope N ps scope) (hd:A.handled=none) (e0:Env0 P w K mg base A outer s H) (hl:vs.length=ps.length) (r:Vals vs us)
    (x:InCallC s s.heap.objs.size (bindL (envOfC qual scope s.heap.objs.size f cd).kindOf (ps.zip us) fun _=>none) (cellsFrom (s.heap.objs.size+1) scope.names []) (bindC (envOfC qual scope s.heap.objs.size f cd).kindOf (ps.zip us) fun _=>none) s1) :
    Inv (dQ CX P w K mg base N qual scope f cd A outer s H E) [] (start N vs) H s1:=by
 have hpl:ps.length<=N.length:=by have:=congrArg List.length S.pre;rw[aL] at this;omega
 obtain⟨h1,tk,rfl,hk⟩:=x.done
 have noA:∀b:Addr,b∉(dQ CX P w K mg base N qual scope f cd A outer s H E).ex:=fun b z=>absurd (show b∈([]:List Addr) from z) (by simp)
 refine⟨⟨e0.mod,S.kind,rfl,rfl,ac _,fun y z c h1 h2=>?_,fun y hy=>?_,fun y c _ h=>?_,fun _=>hd,Around.frames_deeper e0.frames,.inr ⟨rfl,rfl⟩,fun b z=>absurd z (noA b),e0.bs,e0.bsz,fun b _ _=>noA b,fun b z=>absurd z (noA b),e0.funs,e0.frf⟩,
  rfl,e0.bare,Un.kept hk,⟨_,x.toInCall.ns,fun i y v h1 h2 h3=>?_⟩,fun y c h=>⟨_,x.cell y c h⟩,e0.hok.fresh (ac _),fun y c h=>?_,fun p hp=>absurd (show p∈([]:List (Addr × Obj)) from hp) (by simp),e0.hok.kept hk,?_⟩
 ·exact name_of_addr x.apart (PySem.mem_of_lookup h1) (PySem.mem_of_lookup h2)
 ·have hy:scope.names.lookup y=some .cell∨scope.names.lookup y=some .free:=hy
  rcases hy with hy | hy
  ·exact qz hy
  ·exact absurd rfl (S.nofree _ (PySem.mem_of_lookup hy))
 ·exact Nat.le_of_lt (x.above y c (PySem.mem_of_lookup h))
 ·have hi:i<vs.length := by
     unfold start at h2
     by_cases hi:i<vs.length
     ·exact hi
     ·rw[List.getElem?_append_right (by simpa using hi)] at h2
      rw[List.getElem?_replicate] at h2
      split at h2 <;> cases h2
  have ha:vs[i]? = some v:=by
   unfold start at h2
   rw[cz (by simpa using hi),aI] at h2
   cases e:vs[i]? with
   | none=>rw[e] at h2;cases h2
   | some a=>rw[e] at h2;cases h2;rfl
  obtain⟨u,hu,rv⟩:=r.get ha
  have hp:ps[i]? = some y:=by
   rw[<- S.pre,List.getElem?_take_of_lt (by omega)];exact h1
  have ndP:ps.Nodup:=by rw[<- S.pre];exact S.nd.sublist (List.take_sublist _ _)
  refine⟨u,rv,?_⟩
  rcases S.par y (au hp) with k | k
  ·exact .inl ⟨k,oZ ndP hp hu k⟩
  ·obtain⟨c,e⟩:=qz (n:=s.heap.objs.size+1) k
   refine .inr ⟨.inl k,c,e,?_⟩
   have q:=x.cell y c e
   rw[oS ndP hp hu (by show scope.names.lookup y≠_;rw[k];decide)] at q
   exact q
 ·exact e0.hok.fresh (Nat.le_of_lt (x.above y c (PySem.mem_of_lookup h)))
 ·unfold start
  show _=N.length
  rw[aJ,ae,List.length_replicate]
  omega
theorem yk {CX:CXT}{P:Program}{w:World}{K:W.Frag}{mg:Str -> Option Value}{base:Heap}{k:Nat}{f:Addr}{name qual:Str}{params:Arguments}{body:List Stmt}{scope:Scope}{dV kV doc pm cdv ct oc:Value}{an od:Option Addr}
    {osl:Array (Option Value)} {N ps:List Str} {sp:Sp} (lk:K.lookup f=some ⟨oc,od,.func (W.fnOf name qual params body scope dV kV doc pm an cdv ct),osl⟩) (hcd:W.codeIn K cdv qual=true) (S:FnScope N ps scope)
    (len:∀vs H Q E,sp vs H Q E->vs.length=ps.length)
    (hbody:∀(A:Around) (outer:List Env) (s:Shared) (H:Hp) (vs:List V) (Q:VK) (E:XK),Room k (A.deeper (envOfC qual scope s.heap.objs.size f cdv))->sp vs H Q E ->
     ∃t,PSs (dQ CX P w K mg base N qual scope f cdv A outer s H E) body t/\t { nx:=fun _ H'=>Q .non H',rt:=Q } (start N vs) H) :
    FnOk P w K mg base CX (k+1) f (W.fnOf name qual params body scope dV kV doc pm an cdv ct) ps sp:=by
 refine⟨len,fun A outer s H args us vs Q E hr e0 hb r hsp=>?_⟩
 have hl:=len _ _ _ _ hsp
 have KX:K.In s.heap:=e0.mod.kin.keeps fun b o e=>(e0.bs b o e).1
 have lim:s.heap.NoLimit:=e0.mod.nolimit.keeps fun b o e=>(e0.bs b o e).1
 have hkind:∀y∈ps.zip us,scope.names.lookup y.1=some .local∨(scope.names.lookup y.1=some .cell/\((cellsFrom (s.heap.objs.size+1) scope.names []).lookup y.1).isSome=true):=fun ⟨n,v⟩ hy=>by
  rcases S.par n (List.of_mem_zip hy).1 with q | q
  ·exact .inl q
  ·exact .inr ⟨q,W.cellsFrom_some _ _ _ (.inl q)⟩
 refine codeAny_call_function hr.depth (KX _ _ lk) rfl S.co S.gen rfl (W.codeRec_of KX hcd) (hb _ _ _ _ ?_)
 refine wpAny_newFunctionEnv_cells S.kind hkind fun env he s1 x=>?_
 subst he
 refine⟨lim.keeps x.toInCall.keep,codeAny_func ?_⟩
 obtain⟨t,ht,hq⟩:=hbody A outer s H vs Q E (hr.deeper _) hsp
 have I:Inv (dQ CX P w K mg base N qual scope f cdv A outer s H E) [] (start N vs) H s1:=vd S hr.hd e0 hl r x
 refine bj (ht [] s1 (start N vs) H _ I hq) (fun fl s' hs=>?_) fun e s' hs=>hs
 have fin:∀ {σ':St} {H':Hp} {v:V} {u:Value},Inv (dQ CX P w K mg base N qual scope f cdv A outer s H E) [] σ' H' s'->RelV v u->Q v H'->CE outer P w H s Q u s' :=
  fun {σ' H' v u} J rv q=>⟨v,H',J.os,J.bare,J.base,J.hok,rv,q⟩
 cases fl with
 | ret u =>
  obtain⟨v,σ',H',J,rv,q⟩:=hs
  exact fin J rv q
 | next =>
  obtain⟨σ',H',J,q⟩:=hs
  exact fin (v:=V.non) (u:=Value.none) J rfl q
 | brk =>
  obtain⟨_,_,_,q⟩:=hs
  exact False.elim q
 | cont =>
  obtain⟨_,_,_,q⟩:=hs
  exact False.elim q
section
variable {X:Cx}{x:Str}{p pos:Pos}{e:Expr}{es:List Expr}{t:TA}{id T:String}{r:List V->Hp->VK->Prop}
def tCB (r:List V->Hp->VK->Prop) (t:TA):TE:=fun σ H Q=>t σ H fun vs H1=>r vs H1 Q
theorem gv (hc:gG X (.builtin id) r) (hg:Gl X x) (hm:X.mg x=none) (hv:bootBuiltins x=some (.builtin id)) (ha:PA X (e::es) t) (hn:x≠"__name__":=by decide) (hdb:(x==("__debug__":Str))=false:=by decide)
    (he:starEach (e::es) X.env=(false,eval e X.env)::starEach es X.env:=by rfl) (hpl:(backTo pos (starEach es X.env)).any (·.1)=false:=by rfl):PE X (.Call (.Name x p) (e::es) [] pos) (tCB r t):=by
 intro pins s σ H Q I h
 refine cp (iy I hg hm hv ?_ hn hdb)
 exact PyProof.Rows.callWith_builtin1 (thn (ha pos pins s σ H _ I h) fun us s1 ⟨vs,H1,I1,r1,q1⟩=>hc pins s1 σ H1 vs us Q I1 r1 q1) he hpl
theorem iC (hc:gG X (.type T) r) (hg:Gl X x) (hm:X.mg x=none) (hv:bootBuiltins x=some (.type T)) (ha:PA X (e::es) t) (hn:x≠"__name__":=by decide) (hdb:(x==("__debug__":Str))=false:=by decide)
    (he:starEach (e::es) X.env=(false,eval e X.env)::starEach es X.env:=by rfl) (hpl:(backTo pos (starEach es X.env)).any (·.1)=false:=by rfl):PE X (.Call (.Name x p) (e::es) [] pos) (tCB r t):=by
 intro pins s σ H Q I h
 refine cp (iy I hg hm hv ?_ hn hdb)
 exact PyProof.Rows.callWith_type1 (thn (ha pos pins s σ H _ I h) fun us s1 ⟨vs,H1,I1,r1,q1⟩=>hc pins s1 σ H1 vs us Q I1 r1 q1) he hpl
end
end L2
namespace HT
open PySem PyProof.Rows
section
open PySem.SeqAt
open PySem.AutoSeq1 (wpAny_loadPart')
open PySem.MeetsSeq PySem.MeetsSeq2 PySem.MeetsSeq3
end
section
variable {prog:Program}{w:World}{A:Around}{E:Value->Shared->Prop}{s:Shared}
theorem cat_tup {t b:Addr}{vs ws:List Value}{Q:Value -> Shared -> Prop}(ht:IsTup s.heap t vs.toArray) (hb:IsTup s.heap b ws.toArray) (hv:vs ≠ [])
    (h1:ws=[]->Q (.ref t) s) (h2:ws≠[]->Q (.ref s.heap.objs.size) { s with heap:=s.heap.push { cls:=.type "tuple",data:=.seq (vs++ws).toArray } })
    (hsz:vs.length+ws.length<=sizeLine):wpAny (model prog w) A (binaryOp .Add (.ref t) (.ref b)) Q E s:=by
 obtain⟨⟨cls,dd,data,sl⟩,ho,hc,n,hd⟩:=id ht
 obtain⟨⟨cls2,dd2,data2,sl2⟩,ho2,hc2,n2,hd2⟩:=id hb
 simp only at hc hd hc2 hd2
 subst hc hd hc2 hd2
 have e:vs.toArray++ws.toArray=(vs++ws).toArray:=by simp
 by_cases hw:ws=[]
 ·exact concat_meets ⟨_,ho,rfl⟩ ⟨_,ho2,rfl⟩ noFill_tuple_add seq_tuple_add PySem.F.slot_tuple_add PySem.F.entry_tuple_add (PySem.F.args_tuple_add_2 _ _)
     (tuple_addW1 t b vs.toArray ws.toArray n n2 dd dd2 sl sl2 (by simpa using hv) (by simp[hw])) ⟨ho,ho2,h1 hw⟩
 ·refine concat_meets ⟨_,ho,rfl⟩ ⟨_,ho2,rfl⟩ noFill_tuple_add seq_tuple_add PySem.F.slot_tuple_add PySem.F.entry_tuple_add (PySem.F.args_tuple_add_2 _ _)
     (tuple_addW2 t b vs.toArray ws.toArray n n2 dd dd2 sl sl2 (by simpa using hv) (by simpa using hw) (by rw[aE,aE];exact hsz)) ⟨ho,ho2,?_⟩
  rw[e]
  exact h2 hw
def sIx (n d:Nat):Option Int->Nat
 | none=>d
 | some v=>if v<0 then (v+(n:Int)).toNat else min v.toNat n
theorem sIx_none (n d:Nat):sIx n d none=d:=rfl
theorem sIx_nat (n d k:Nat):sIx n d (some (k:Int))=min k n:=by
 show (if (k:Int)<0 then ((k:Int)+(n:Int)).toNat else min (k:Int).toNat n)=min k n
 rw[if_neg (by omega),bT]
theorem AK (n d:Nat) (hd:d<=n) (o:Option Int):sIx n d o<=n:=by
 cases o with
 | none=>exact hd
 | some v =>
  show (if v<0 then (v+(n:Int)).toNat else min v.toNat n)<=n
  by_cases hv:v<0
  ·rw[if_pos hv];omega
  ·rw[if_neg hv];exact Nat.min_le_right _ _
theorem sO (v:Int) (n d:Nat):(if v<0 then max (v+(n:Int)) 0 else min v (n:Int))=((sIx n d (some v):Nat):Int):=by
 show (if v<0 then max (v+(n:Int)) 0 else min v (n:Int))=(((if v<0 then (v+(n:Int)).toNat else min v.toNat n):Nat):Int)
 by_cases hv:v<0
 ·simp only[if_pos hv];omega
 ·simp only[if_neg hv];omega
theorem tZ (lo hi:Option Int) (n:Nat):Builtin.Slice.sliceAdjust lo hi 1 (n:Int)=(((sIx n 0 lo:Nat):Int),((sIx n n hi:Nat):Int)):=by
 have h1:¬ ((1:Int)<0):=by omega
 unfold Builtin.Slice.sliceAdjust
 simp only[h1,if_false]
 refine Prod.ext ?_ ?_
 ·cases lo with
  | none=>rfl
  | some v=>exact sO v n 0
 ·cases hi with
  | none=>rfl
  | some v=>exact sO v n n
theorem sX (i j:Nat):Builtin.Slice.slicePlaces (i:Int) (j:Int) 1=j-i:=by
 unfold Builtin.Slice.slicePlaces
 have h1:(1:Int) > 0:=by omega
 simp only[h1,if_true,Int.ediv_one]
 split <;> omega
theorem mM {v:Value}{o:Option Int}{Q:Option Int->Shared->Prop}(p:IsPart v o) (h:Q o s):wpAny (model prog w) A (Builtin.Slice.slicePartIndex v) Q E s:=by
 cases p with
 | none=>exact slicePart_none h
 | int i t=>exact slicePart_int h
theorem iW {sl:Addr}{vl vu:Value}{lo hi:Option Int}{n:Nat}{Q:Int × Int × Nat->Shared->Prop}(hs:s.heap.IsSliceOf sl vl vu .none) (pl:IsPart vl lo) (pu:IsPart vu hi)
    (h:Q (((sIx n 0 lo:Nat):Int),1,sIx n n hi-sIx n 0 lo) s):wpAny (model prog w) A (Builtin.Slice.sliceApplied (.ref sl) (pure (n:Int))) Q E s:=by
 obtain⟨os,hos,hcs,hds⟩:=id hs
 unfold Builtin.Slice.sliceApplied Builtin.Slice.sliceFields
 refine aa (aa (aU hos hds (x:=vl) rfl (aa (aU hos hds (x:=vu) rfl (aa (aU hos hds (x:=.none) rfl (af ?_)))))))
 refine aa (slicePart_none ?_)
 show wpAny _ _ (if ((1:Int)==0)=true then _ else _) _ _ s
 rw[if_neg (by decide)]
 refine aa (mM pl (aa (mM pu (aa (af ?_)))))
 show wpAny _ _ (match Builtin.Slice.sliceAdjust lo hi 1 (n:Int) with | (lo,hi)=>pure (lo,(1:Int),Builtin.Slice.slicePlaces lo hi 1)) _ _ s
 rw[tZ lo hi n]
 show wpAny _ _ (pure (((sIx n 0 lo:Nat):Int),(1:Int),Builtin.Slice.slicePlaces ((sIx n 0 lo:Nat):Int) ((sIx n n hi:Nat):Int) 1)) _ _ s
 rw[sX]
 exact af h
theorem wE (xs:Array Value) (i k:Nat):((List.range k).filterMap fun (m:Nat)=>xs[((i:Int)+(m:Int) * 1).toNat]?).toArray=((xs.toList.drop i).take k).toArray:=by
 have e:(fun (m:Nat)=>xs[((i:Int)+(m:Int) * 1).toNat]?)=fun m=>xs[i+m]?:=by
  funext m
  have:((i:Int)+(m:Int) * 1).toNat=i+m:=by omega
  rw[this]
 rw[e]
 have:=pick_run xs i k
 rw[List.filterMap_map] at this
 have e2:((fun x=>xs[x]?) ∘ fun x=>i+x)=fun m=>xs[i+m]?:=rfl
 rw[e2] at this
 rw[this]
theorem getItem_tuple_cut {t sl:Addr}{items:Array Value}{vl vu:Value}{lo hi:Option Int}{Q:Value->Shared->Prop}(ht:IsTup s.heap t items) (hs:s.heap.IsSliceOf sl vl vu .none) (pl:IsPart vl lo) (pu:IsPart vu hi)
    (hw:¬ (sIx items.size 0 lo=0/\sIx items.size items.size hi=items.size))
    (h:Q (.ref s.heap.objs.size) { s with heap:=s.heap.push { cls:=.type "tuple",data:=.seq ((items.toList.drop (sIx items.size 0 lo)).take (sIx items.size items.size hi-sIx items.size 0 lo)).toArray } })
    (hsz:items.size<=sizeLine):wpAny (model prog w) A (getItem (.ref t) (.ref sl)) Q E s:=by
 have htake:sizeOk (.seq ((items.toList.drop (sIx items.size 0 lo)).take (sIx items.size items.size hi-sIx items.size 0 lo)).toArray):=by
  show ((items.toList.drop (sIx items.size 0 lo)).take (sIx items.size items.size hi-sIx items.size 0 lo)).toArray.size<=sizeLine
  rw[aE,aL,bU,bZ]
  omega
 have hj:sIx items.size items.size hi<=items.size:=AK _ _ (ac _) hi
 obtain⟨os,hos,hcs,hds⟩:=id hs
 have hTs:s.TypeIs (.ref sl) "slice":=⟨os,hos,hcs⟩
 unfold getItem
 try with_reducible refine aR ?_
 first | refine aa (af ?_) | skip
 refine aa (wpAny_sequenceKey ht.typeIs (by decide) ?_)
 refine aa (wpAny_callSpecial?_slot (name:=Str.ofString "__getitem__") ht.typeIs PyProof.Rows.slot_tuple_getitem
  (wpAny_call_entry PyProof.Rows.slot_tuple_getitem ht.typeIs entry_tuple_getitem ?_ (args_tuple_getitem _ _)))
 show wpAny _ _ (Builtin.Tuple.tupleItemsOf (.ref t) >>= _) _ _ s
 refine aa (tupleItemsOf_ ht ?_)
 refine aa (wpAny_typeOf hTs ?_)
 rw[if_pos (by decide)]
 refine aa (iW hs pl pu ?_)
 have hno:¬ ((((sIx items.size 0 lo:Nat):Int)==0&&(1:Int)==1&&(sIx items.size items.size hi-sIx items.size 0 lo)==items.size)=true):=by
  intro q
  rw[bf,bf] at q
  have q1:((sIx items.size 0 lo:Nat):Int)=0:=eq_of_beq q.1.1
  have q2:sIx items.size items.size hi-sIx items.size 0 lo=items.size:=eq_of_beq q.2
  exact hw ⟨by omega,by omega⟩
 show wpAny _ _ (if (((sIx items.size 0 lo:Nat):Int)==0&&(1:Int)==1&&(sIx items.size items.size hi-sIx items.size 0 lo)==items.size)=true then _ else _) _ _ s
 rw[if_neg hno,wE]
 first
  | exact aa (m:=Builtin.Tuple.tupleExact _) (wpAny_newObj_type (af ⟨_,rfl,af h⟩) htake)
  | exact aa (m:=Builtin.Tuple.tupleExact _) (wpAny_newObj_type (aa (af (af ⟨_,rfl,af h⟩))) htake)
  | exact aa (aa (m:=Builtin.Tuple.tupleExact _) (wpAny_newObj_type (af (af ⟨_,rfl,af h⟩)) htake))
  | exact aa (aa (m:=Builtin.Tuple.tupleExact _) (wpAny_newObj_type (af ⟨_,rfl,af h⟩) htake))
end
end HT
namespace L2
open PySem PySem.Spec PyProof.Rows
abbrev TO:=St->Hp->(Option Int->Hp->Prop)->Prop
def PO (X:Cx) (e:Option Expr) (t:TO):Prop :=
 ∀(pins:List (Addr × Obj)) (s:Shared) (σ:St) (H:Hp) (Q:Option Int->Hp->Prop),Inv X pins σ H s->t σ H Q ->
  wpAny (model X.prog X.w) X.A (evalPart e X.env) (fun u s'=>∃o H',Inv X pins σ H' s'/\IsPart u o/\Q o H') X.xe s
def yM:TO:=fun _ H Q=>Q none H
def Bi (t:TE):TO:=fun σ H Q=>t σ H fun x H1=>∃i,x=.int i/\Q (some i) H1
section
variable {X:Cx}{e:Expr}{te:TE}{lo hi:Option Expr}{tl th:TO}{pos p2:Pos}
theorem gp:PO X none yM:=by
 intro pins s σ H Q I h
 rw[evalPart_none]
 exact af ⟨none,H,I,.none,h⟩
theorem gl (h:PE X e te):PO X (some e) (Bi te):=by
 intro pins s σ H Q I hw
 rw[evalPart_some]
 refine thn (h pins s σ H _ I hw) fun u s1 ⟨x,H1,I1,r1,q1⟩=>?_
 obtain⟨i,rfl,q⟩:=q1
 obtain⟨t,rfl⟩:=r1
 exact⟨some i,H1,I1,.int i t,q⟩
def SlR (X:Cx) (r:V->Option Int->Option Int->Hp->VK->Prop):Prop :=
 ∀(pins:List (Addr × Obj)) (s:Shared) (σ:St) (H:Hp) (x:V) (v vl vu:Value) (lo hi:Option Int) (sl:Addr) (Q:VK),Inv X pins σ H s->RelV x v->s.heap.IsSliceOf sl vl vu .none->IsPart vl lo->IsPart vu hi->r x lo hi H Q ->
  ∃T id,typeLookup (.type T) "__getitem__"=pure (some (.builtin id))/\s.TypeIs v T/\wpAny (model X.prog X.w) X.A (getItem v (.ref sl)) (EP X pins σ Q) X.xe s
def tSl (r:V->Option Int->Option Int->Hp->VK->Prop) (te:TE) (tl th:TO):TE:=fun σ H Q=>te σ H fun x H1=>tl σ H1 fun l H2=>th σ H2 fun u H3=>r x l u H3 Q
theorem fR {r:V->Option Int->Option Int->Hp->VK->Prop}(hr:SlR X r) (he:PE X e te) (hl:PO X lo tl) (hu:PO X hi th):PE X (.Subscript e (.Slice lo hi none p2) pos) (tSl r te tl th):=by
 intro pins s σ H Q I h
 refine Subscript_ (thn (he pins s σ H _ I h) fun v s1 ⟨x,H1,I1,r1,q1⟩=>?_)
 refine wpAny_Slice (thn (hl pins s1 σ H1 _ I1 q1) fun vl s2 ⟨l,H2,I2,pl,q2⟩=>thn (hu pins s2 σ H2 _ I2 q2) fun vu s3 ⟨u,H3,I3,pu,q3⟩=>?_)
 rw[evalPart_none]
 refine af ?_
 have I4:Inv X pins σ H3 { s3 with heap:=s3.heap.push { cls:=.type "slice",data:=.fields #[vl,vu,.none] } }:=I3.kept (t':=s3.toks) fun b ob q=>ai _ q
 obtain⟨T,id,hT,ht,hg⟩:=hr pins { s3 with heap:=s3.heap.push { cls:=.type "slice",data:=.fields #[vl,vu,.none] } } σ H3 x v vl vu l u s3.heap.objs.size Q I4 r1 (Heap.IsSliceOf.new ..) pl pu q3
 show wpAny (model X.prog X.w) X.A (subscriptTail e (.Slice lo hi none p2) v (.ref s3.heap.objs.size)) (EP X pins σ Q) X.xe { s3 with heap:=s3.heap.push { cls:=.type "slice",data:=.fields #[vl,vu,.none] } }
 exact tail_any (ops:=[.ref s3.heap.objs.size,v]) ht hT hg (by with_unfolding_all rfl)
def il (xs:List V) (lo hi:Option Int):List V:=(xs.drop (HT.sIx xs.length 0 lo)).take (HT.sIx xs.length xs.length hi-HT.sIx xs.length 0 lo)
theorem ma (xs:List V) (lo hi:Option Int):(il xs lo hi).length<=xs.length:=by
 unfold il
 rw[aL,bU]
 omega
def Ai (K:W.Frag):V->Option Int->Option Int->Hp->VK->Prop:=fun x lo hi H Q=>∃a xs,x=.ref a/\SqT K H a xs /\
 ¬ (HT.sIx xs.length 0 lo=0/\HT.sIx xs.length xs.length hi=xs.length)/\∀p,H p=none->Q (.ref p) (upd H p (.tup (il xs lo hi)))
theorem uD:SlR X (Ai X.K):=by
 intro pins s σ H x v vl vu lo hi sl Q I rx hs pl pu h
 obtain⟨a,xs,rfl,hx,hw,q⟩:=h
 cases rx
 obtain⟨its,r,ht,hz⟩:=I.tuple hx
 have hlen:its.toArray.size=xs.length:=by rw[aE];exact r.length.symm
 refine⟨"tuple",_,PyProof.Rows.slot_tuple_getitem.lookup,ht.typeIs,?_⟩
 refine HT.getItem_tuple_cut ht hs pl pu (by rw[hlen];exact hw) ?_ (by rw[hlen];exact hz)
 rw[hlen]
 refine⟨.ref s.heap.objs.size,_,I.laid (t':=s.toks) (o:=.tup (il xs lo hi)) (fun b ob q=>ai _ q) (ac _) ?_,rfl,q _ (I.hok.fresh (ac _))⟩
 exact⟨aG (ma xs lo hi) hz,_,(r.drop (HT.sIx xs.length 0 lo)).take (HT.sIx xs.length xs.length hi-HT.sIx xs.length 0 lo),TupN.new _ _⟩
def BA (K:W.Frag):R2:=fun x y H Q=>∃a b xs ys,x=.ref a/\y=.ref b/\SqT K H a xs/\SqT K H b ys/\xs≠[]/\xs.length+ys.length<=sizeLine /\
 (ys=[]->Q (.ref a) H)/\(ys≠[]->∀p,H p=none->Q (.ref p) (upd H p (.tup (xs++ys))))
theorem Vals.nil_iff {xs:List V}{us:List Value}(r:Vals xs us):us=[] ↔ xs=[]:=by
 cases r with
 | nil=>simp
 | cons _ _=>simp
theorem zd:OpR X (binaryOp .Add) (BA X.K):=by
 intro pins s σ H x y v u Q I rx ry h
 obtain⟨a,b,xs,ys,rfl,rfl,ha,hb,hx,hz,q1,q2⟩:=h
 cases rx
 cases ry
 obtain⟨its,r1,p1,_⟩:=I.tuple ha
 obtain⟨its2,r2,p2,_⟩:=I.tuple hb
 refine HT.cat_tup p1 p2 (fun z=>hx (r1.nil_iff.mp z)) (fun z=>⟨.ref a,H,I,rfl,q1 (r2.nil_iff.mp z)⟩) (fun z=>?_) (by rw[<- r1.length,<- r2.length];exact hz)
 refine⟨.ref s.heap.objs.size,_,I.laid (t':=s.toks) (o:=.tup (xs++ys)) (fun b ob q=>ai _ q) (ac _) ?_,rfl,q2 (fun w=>z (r2.nil_iff.mpr w)) _ (I.hok.fresh (ac _))⟩
 exact⟨by rw[aJ];exact hz,_,r1.append r2,TupN.new _ _⟩
end
def ixN (n:Nat) (i:Int):Option Nat:=if 0<=i then (if i<n then some i.toNat else none) else if -(n:Int)<=i then some (i+n).toNat else none
def atI {α:Type}(xs:List α) (i:Int):Option α:=(ixN xs.length i).bind fun j=>xs[j]?
theorem su {n:Nat}{i:Int}{j:Nat}(h:ixN n i=some j):seqIndex? i n=some j /\ j<n /\ -(n:Int) <= i /\ i<n := by
 unfold ixN at h
 by_cases h0:0<=i
 ·rw[if_pos h0] at h
  by_cases h1:i<n
  ·rw[if_pos h1] at h
   have e:i.toNat=j:=am h
   exact⟨by rw[seqIndex_of h0 h1,e],by omega,by omega,h1⟩
  ·rw[if_neg h1] at h;cases h
 ·rw[if_neg h0] at h
  by_cases h1:-(n:Int)<=i
  ·rw[if_pos h1] at h
   have e:(i+n).toNat=j:=am h
   exact⟨by rw[seqIndex_neg (by omega) h1,e],by omega,h1,by omega⟩
  ·rw[if_neg h1] at h;cases h
theorem nM {α:Type}{xs:List α}{i:Int}{v:α}(h:atI xs i=some v):∃j,seqIndex? i xs.length=some j/\xs[j]? = some v/\j<xs.length/\-(xs.length:Int)<=i/\i<xs.length:=by
 unfold atI at h
 cases e:ixN xs.length i with
 | none=>rw[e] at h;cases h
 | some j =>
  rw[e] at h
  obtain⟨h1,h2,h3,h4⟩:=su e
  exact⟨j,h1,h,h2,h3,h4⟩
theorem eQ {α:Type}{xs:List α}{j:Nat}{v:α}(h:xs[j]? = some v):atI xs (j:Int)=some v:=by
 have hj:j<xs.length:=(ah.mp h).1
 have e:ixN xs.length (j:Int)=some j:=by
  unfold ixN
  rw[if_pos (by omega),if_pos (by omega)];simp
 unfold atI;rw[e];exact h
theorem mJ {α:Type}(xs:List α) (v:α):atI (xs++[v]) (-1)=some v:=by
 have hl:(xs++[v]).length=xs.length+1:=by simp
 have e:ixN (xs++[v]).length (-1)=some xs.length:=by
  unfold ixN
  rw[hl,if_neg (by decide),if_pos (by omega)]
  congr 1
  omega
 unfold atI
 rw[e]
 show (xs++[v])[xs.length]? = some v
 simp
def rV (b:Expr):Prop:=∀o i,subscripted b false o i=operate [o,i] (getItem o i)
def IxR (X:Cx) (r:R2):Prop :=
 ∀(value slice:Expr) (pins:List (Addr × Obj)) (s:Shared) (σ:St) (H:Hp) (x y:V) (v u:Value) (Q:VK),Inv X pins σ H s->RelV x v->RelV y u->r x y H Q ->
  subscripted slice false v u=operate [v,u] (getItem v u)->wpAny (model X.prog X.w) X.A (subscriptTail value slice v u) (EP X pins σ Q) X.xe s
def MtR (X:Cx) (id:String) (r:V->List V->Hp->VK->Prop):Prop :=
 ∀(pins:List (Addr × Obj)) (s:Shared) (σ:St) (H:Hp) (x:V) (xs:List V) (v:Value) (us:List Value) (Q:VK),Inv X pins σ H s->RelV x v->Vals xs us->r x xs H Q ->
  wpAny (model X.prog X.w) X.A (call (.builtin id) (v::us)) (EP X pins σ Q) X.xe s
section
variable {X:Cx}{a b:Expr}{ta tb:TE}{pos:Pos}
theorem ua {r:R2}(hr:IxR X r) (ha:PE X a ta) (hb:PE X b tb) (hs:rV b):PE X (.Subscript a b pos) (tOp r ta tb):=by
 intro pins s σ H Q I h
 exact Subscript_ (xB ha hb I h fun v u s2 x y H2 I2 rx ry q=>hr a b pins s2 σ H2 x y v u Q I2 rx ry q (hs _ _))
def rIxL (K:W.Frag):R2:=fun x y H Q=>∃p xs i v,x=.ref p/\y=.int i/\SqL K H p xs/\atI xs i=some v/\Q v H
def rIxT (K:W.Frag):R2:=fun x y H Q=>∃p xs i v,x=.ref p/\y=.int i/\SqT K H p xs/\atI xs i=some v/\Q v H
def rIxS:R2:=fun x y H Q=>∃z i c,x=.str z/\y=.int i/\z.length<=sizeLine/\atI z.cps.toList i=some c/\Q (.str ⟨#[c]⟩) H
theorem yE:IxR X (rIxL X.K) := by
 intro value slice pins s σ H x y v u Q I rx ry h hs
 obtain⟨p,xs,i,z,rfl,rfl,hq,he,q⟩:=h
 cases rx
 obtain⟨t,rfl⟩:=ry
 obtain⟨its,r,pl,hz⟩:=I.list hq
 obtain⟨j,h1,h2,h3,h4,h5⟩:=nM he
 obtain⟨w,ew,rw'⟩:=r.get h2
 have hl:=r.length
 have hn:=jP
 have fin:EP X pins σ Q w s:=⟨z,H,I,rw',q⟩
 by_cases h0:0<=i
 ·have hj:i.toNat=j:=by
     rw[seqIndex_of h0 h5] at h1
     exact am h1
  exact item_listR pl.isList h0 (by omega) (by rw[hj];simpa using ew) fin hs
 ·have hj:(i+(its.toArray.size:Int)).toNat=j:=by
     rw[seqIndex_neg (by omega) h4] at h1
     rw[aE,<- hl]
     exact am h1
  exact subscriptTail_builtinR (x:=w) pl.isList.typeIs slot_list_getitem.lookup
   (wpAny_getItem_list_neg (Q:=fun r s'=>r=w/\EP X pins σ Q r s') pl.isList (by omega) (by rw[aE] <;> omega) (by omega) (by rw[hj];simpa using ew) ⟨rfl,fin⟩) hs
theorem Al:IxR X (rIxT X.K):=by
 intro value slice pins s σ H x y v u Q I rx ry h hs
 obtain⟨p,xs,i,z,rfl,rfl,hq,he,q⟩:=h
 cases rx
 obtain⟨t,rfl⟩:=ry
 obtain⟨its,r,pl,hz⟩:=I.tuple hq
 obtain⟨j,h1,h2,h3,h4,h5⟩:=nM he
 obtain⟨w,ew,rw'⟩:=r.get h2
 have hl:=r.length
 have hn:=jP
 have fin:EP X pins σ Q w s:=⟨z,H,I,rw',q⟩
 exact subscriptTail_builtinR (x:=w) pl.typeIs slot_tuple_getitem.lookup
  (getItem_tuple (j:=j) (Q:=fun r s'=>r=w/\EP X pins σ Q r s') pl (by omega) (by omega) (by rw[aE,<- hl];exact h1) (by simpa using ew) ⟨rfl,fin⟩) hs
theorem Ar:IxR X rIxS:=by
 intro value slice pins s σ H x y v u Q I rx ry h hs
 obtain⟨z,i,c,rfl,rfl,hz,he,q⟩:=h
 obtain⟨t,rfl⟩:=rx
 obtain⟨t',rfl⟩:=ry
 obtain⟨j,h1,h2,h3,h4,h5⟩:=nM he
 have hl:z.cps.toList.length=z.length:=by simp[Str.length]
 rw[hl] at h1 h4 h5
 have hn:=jP
 exact tail_any (typeIs_str s z t) slot_str_getitem.lookup (getItem_str (c:=c) (by
  have e1:decide (i < -(2 ^ 63:Int))=false:=aw (by omega)
  have e2:decide (i ≥ 2 ^ 63)=false:=aw (by omega)
  rw[e1,e2,Bool.or_false]) (by rw[h1];simpa using h2) ⟨.str ⟨#[c]⟩,H,I.tok _,⟨_,rfl⟩,q⟩) hs
theorem uf (its:List Value) (n j:Nat) (u:Value):Obj.mapSeq (·.setIfInBounds j u) { cls:=.type "list",data:=.seq its.toArray n }={ cls:=.type "list",data:=.seq (its.set j u).toArray n }:=by
 simp[Obj.mapSeq]
theorem Inv.lst {pins:List (Addr × Obj)}{σ:St}{H:Hp}{s:Shared}{p:Addr}{xs:List V}(I:Inv X pins σ H s) (h:H p=some (.lst xs)) :
    ∃(its:List Value) (n:Nat),Vals xs its/\s.heap.get? p=some { cls:=.type "list",data:=.seq its.toArray n }/\xs.length<=sizeLine:=by
 obtain⟨z,its,n,r,e⟩:=I.hok p _ h
 exact⟨its,n,r,e,z⟩
theorem Inv.lstUpd {pins:List (Addr × Obj)}{σ:St}{H:Hp}{s:Shared}{p:Addr}{xs ys:List V}{its its':List Value}{n n':Nat}{f:Obj->Obj}(I:Inv X pins σ H s) (h:H p=some (.lst xs))
    (ho:s.heap.get? p=some { cls:=.type "list",data:=.seq its.toArray n }) (hf:f { cls:=.type "list",data:=.seq its.toArray n }={ cls:=.type "list",data:=.seq its'.toArray n' }) (r:Vals ys its') (hz:ys.length<=sizeLine) (t:Nat) :
    Inv X pins σ (upd H p (.lst ys)) { s with heap:=s.heap.update p f,toks:=t }:=by
 have e:(s.heap.update p f).get? p=some { cls:=.type "list",data:=.seq its'.toArray n' }:=by
  rw[ci f ho (by rw[hf] <;> rfl),hf]
 refine I.write (x:=p) (e:=p) (by rw[h];trivial) (.inl rfl) (fun b u hb q=>(cq _ _ (Ne.symm hb)).trans q) ⟨_,e⟩ ?_
 exact⟨hz,its',n',r,e⟩
def Bt:V->V->V->Hp->(Hp->Prop)->Prop:=fun o i v H Q=>∃p xs k j,o=.ref p/\i=.int k/\H p=some (.lst xs)/\ixN xs.length k=some j/\Q (upd H p (.lst (xs.set j v)))
theorem xy:wG X Bt := by
 intro pins s σ H o i v ov iv u Q I ro ri rv h
 obtain⟨p,xs,k,j,rfl,rfl,hp,hj,q⟩:=h
 cases ro
 obtain⟨t,rfl⟩:=ri
 obtain⟨its,n,r,ho,hz⟩:=I.lst hp
 obtain⟨h1,h2,h3,h4⟩:=su hj
 have hl:=r.length
 have hn:=jP
 have I':Inv X pins σ (upd H p (.lst (xs.set j v))) { s with heap:=s.heap.update p (Obj.mapSeq (·.setIfInBounds j u)) } :=
  I.lstUpd hp ho (uf its n j u) (r.set rv j) (by rw[List.length_set];exact hz) s.toks
 by_cases h0:0<=k
 ·have hk:k.toNat=j:=by
     rw[seqIndex_of h0 h4] at h1
     exact am h1
  exact W.ki_setAt ho h0 (by omega) (by rw[aE,<- hl];exact h4) (by rw[hk];exact⟨_,I',q⟩)
 ·have hk:(k+(its.toArray.size:Int)).toNat=j:=by
     rw[seqIndex_neg (by omega) h3] at h1
     rw[aE,<- hl]
     exact am h1
  exact W.ki_setBack ho (by omega) (by rw[aE,<- hl];exact h3) (by omega) (by rw[hk];exact⟨_,I',q⟩)
theorem qS (lo hi:Option Int) (n:Nat):(sliceBounds lo hi none n).1=((HT.sIx n 0 lo:Nat):Int) /\ (sliceBounds lo hi none n).2.1=((HT.sIx n n hi:Nat):Int) /\ (sliceBounds lo hi none n).2.2=1 := by
 refine⟨?_,?_,rfl⟩
 ·cases lo with
  | none=>simp[sliceBounds,HT.sIx]
  | some i =>
   simp only[sliceBounds,HT.sIx,Option.getD_none,show (1:Int) > 0 by decide,if_true]
   by_cases h:i<0
   ·simp only[h,if_true] <;> omega
   ·simp only[h,if_false] <;> omega
 ·cases hi with
  | none=>simp[sliceBounds,HT.sIx]
  | some i =>
   simp only[sliceBounds,HT.sIx,Option.getD_none,show (1:Int) > 0 by decide,if_true]
   by_cases h:i<0
   ·simp only[h,if_true] <;> omega
   ·simp only[h,if_false] <;> omega
theorem pJ (its:List Value) (lo hi:Option Int):slicePick its.toArray lo hi none=((its.drop (HT.sIx its.length 0 lo)).take (HT.sIx its.length its.length hi-HT.sIx its.length 0 lo)).toArray:=by
 obtain⟨h1,h2,h3⟩:=qS lo hi its.toArray.size
 unfold slicePick
 rw[h1,h2,h3]
 simp only[sliceRange_one,pick_run,aE] <;> rfl
def rSlL (K:W.Frag):V->Option Int->Option Int->Hp->VK->Prop:=fun x lo hi H Q=>∃a xs,x=.ref a/\SqL K H a xs/\∀p,H p=none->Q (.ref p) (upd H p (.lst (il xs lo hi)))
theorem zP:SlR X (rSlL X.K):=by
 intro pins s σ H x v vl vu lo hi sl Q I rx hs pl pu h
 obtain⟨a,xs,rfl,hx,q⟩:=h
 cases rx
 obtain⟨its,r,ht,hz⟩:=I.list hx
 have hlen:=r.length
 refine⟨"list",_,slot_list_getitem.lookup,ht.isList.typeIs,?_⟩
 refine wpAny_getItem_list_slice ht.isList hs pl pu .none (by simp) ?_ (by rw[aE] <;> omega)
 rw[pJ,<- hlen]
 refine⟨.ref s.heap.objs.size,_,I.laid (t':=s.toks) (o:=.lst (il xs lo hi)) (fun b ob q=>ai _ q) (ac _) ?_,rfl,q _ (I.hok.fresh (ac _))⟩
 exact⟨aG (ma xs lo hi) hz,_,0,(r.drop (HT.sIx xs.length 0 lo)).take (HT.sIx xs.length xs.length hi-HT.sIx xs.length 0 lo),aA _ rfl⟩
def gB:V->Bool
 | .non=>true
 | .bl _=>true
 | .int _=>true
 | .str _=>true
 | _=>false
def eqV:V->V->Bool
 | .non,.non=>true
 | .bl a,.bl b=>a==b
 | .bl a,.int b=>(if a then 1 else 0)==b
 | .int a,.bl b=>a==(if b then 1 else 0)
 | .int a,.int b=>a==b
 | .str a,.str b=>a==b
 | _,_=>false
theorem zZ {A:Around}{s:Shared}{y x:V}{u v:Value}(ry:RelV y u) (rx:RelV x v) (fy:gB y=true) (fx:gB x=true):SeqAt.EqAt A s u v (eqV y x):=by
 cases y with
 | non =>
  cases ry
  cases x with
  | non=>cases rx;exact SeqAt.EqAt.same _
  | bl b=>cases rx;exact SeqAt.EqAt.none_bool b
  | int b=>obtain⟨t,rfl⟩:=rx;exact SeqAt.EqAt.none_int b t
  | str b=>obtain⟨t,rfl⟩:=rx;exact SeqAt.EqAt.none_str b t
  | _=>exact absurd (show false=true from fx) aN
 | bl a =>
  cases ry
  cases x with
  | non=>cases rx;exact SeqAt.EqAt.bool_none a
  | bl b=>cases rx;exact SeqAt.EqAt.bool_bool a b
  | int b=>obtain⟨t,rfl⟩:=rx;exact SeqAt.EqAt.bool_int a b t
  | str b=>obtain⟨t,rfl⟩:=rx;exact SeqAt.EqAt.bool_str a b t
  | _=>exact absurd (show false=true from fx) aN
 | int a =>
  obtain⟨t',rfl⟩:=ry
  cases x with
  | non=>cases rx;exact SeqAt.EqAt.int_none a t'
  | bl b=>cases rx;exact SeqAt.EqAt.int_bool a t' b
  | int b=>obtain⟨t,rfl⟩:=rx;exact SeqAt.EqAt.int_int a t' b t
  | str b=>obtain⟨t,rfl⟩:=rx;exact SeqAt.EqAt.int_str a t' b t
  | _=>exact absurd (show false=true from fx) aN
 | str a =>
  obtain⟨t',rfl⟩:=ry
  cases x with
  | non=>cases rx;exact SeqAt.EqAt.str_none a t'
  | bl b=>cases rx;exact SeqAt.EqAt.str_bool a t' b
  | int b=>obtain⟨t,rfl⟩:=rx;exact SeqAt.EqAt.str_int a t' b t
  | str b=>obtain⟨t,rfl⟩:=rx;exact SeqAt.EqAt.str_str a t' b t
  | _=>exact absurd (show false=true from fx) aN
 | _=>exact absurd (show false=true from fy) aN
def eqU (x:V) (u:Value):Bool:=match u with
 | .none=>eqV .non x
 | .bool b=>eqV (.bl b) x
 | .int i _=>eqV (.int i) x
 | .str z _=>eqV (.str z) x
 | _=>false
theorem qI {x y:V}{u:Value}(r:RelV y u) (f:gB y=true):eqU x u=eqV y x:=by
 cases y with
 | non=>cases r;rfl
 | bl b=>cases r;rfl
 | int i=>obtain⟨t,rfl⟩:=r;rfl
 | str z=>obtain⟨t,rfl⟩:=r;rfl
 | _=>exact absurd (show false=true from f) aN
theorem jS {x:V}:∀ {xs:List V}{us:List Value},Vals xs us->xs.all gB=true->us.any (eqU x)=xs.any fun y=>eqV y x
 | _,_,.nil,_=>rfl
 | y::xs,u::us,.cons r t,f=>by
  rw[List.all_cons,bf] at f
  rw[bV,bV,qI r f.1,jS t f.2]
theorem ij {A:Around}{s:Shared}{x:V}{v:Value}(rx:RelV x v) (fx:gB x=true):∀ {xs:List V}{us:List Value},Vals xs us->xs.all gB=true->∀u∈us,SeqAt.EqAt A s u v (eqU x u)
 | _,_,.nil,_=>fun u hu=>by cases hu
 | y::xs,u::us,.cons r t,f=>fun u' hu=>by
  rw[List.all_cons,bf] at f
  rcases aB.mp hu with rfl | hu
  ·rw[qI r f.1];exact zZ r rx f.1 fx
  ·exact ij rx fx t f.2 u' hu
def inV (x:V) (xs:List V):Bool:=xs.any fun y=>eqV y x
def rIn (K:W.Frag) (neg:Bool):R2:=fun x y H Q=>∃p xs,y=.ref p/\(SqL K H p xs∨SqT K H p xs)/\gB x=true/\xs.all gB=true/\Q (.bl (if neg then !inV x xs else inV x xs)) H
theorem vR:OpR X (compareOp .In) (rIn X.K false):=by
 intro pins s σ H x y v u Q I rx ry h
 obtain⟨p,xs,rfl,hq,fx,fs,q⟩:=h
 cases ry
 rcases hq with hq | hq
 ·obtain⟨its,r,pl,hz⟩:=I.list hq
  refine SeqAt.in_listAt (eqU x) pl.isList (fun w hw=>ij rx fx r fs w (by simpa using hw)) ⟨.bl _,H,I,rfl,?_⟩
  rw[show its.toArray.any (eqU x)=its.any (eqU x) by simp,jS r fs]
  exact q
 ·obtain⟨its,r,pl,hz⟩:=I.tuple hq
  refine SeqAt.in_tupleAt (eqU x) pl (fun w hw=>ij rx fx r fs w (by simpa using hw)) ⟨.bl _,H,I,rfl,?_⟩
  rw[show its.toArray.any (eqU x)=its.any (eqU x) by simp,jS r fs]
  exact q
theorem qD:OpR X (compareOp .NotIn) (rIn X.K true):=by
 intro pins s σ H x y v u Q I rx ry h
 obtain⟨p,xs,rfl,hq,fx,fs,q⟩:=h
 cases ry
 rcases hq with hq | hq
 ·obtain⟨its,r,pl,hz⟩:=I.list hq
  refine SeqAt.notIn_listAt (eqU x) pl.isList (fun w hw=>ij rx fx r fs w (by simpa using hw)) ⟨.bl _,H,I,rfl,?_⟩
  rw[show its.toArray.any (eqU x)=its.any (eqU x) by simp,jS r fs]
  exact q
 ·obtain⟨its,r,pl,hz⟩:=I.tuple hq
  refine SeqAt.notIn_tupleAt (eqU x) pl (fun w hw=>ij rx fx r fs w (by simpa using hw)) ⟨.bl _,H,I,rfl,?_⟩
  rw[show its.toArray.any (eqU x)=its.any (eqU x) by simp,jS r fs]
  exact q
theorem qt:gG X (.type "list") (fun xs H Q => ∃p ys, xs=[.ref p] /\ (SqL X.K H p ys ∨ SqT X.K H p ys) /\ ∀l, H l=none -> Q (.ref l) (upd H l (.lst ys))) := by
 intro pins s σ H xs us Q I r h
 obtain⟨p,ys,rfl,hq,q⟩:=h
 obtain⟨u,rfl,rx⟩:=fZ r
 cases rx
 have fin:∀(its:List Value),Vals ys its->ys.length<=sizeLine->∀(h':Heap) (c':Nat),(∀b o',s.heap.get? b=some o'->h'.get? b=some o') ->
     h'.get? s.heap.objs.size=some { cls:=.type "list",dict:=none,data:=.seq its.toArray c',slots:=#[] }->EP X pins σ Q (.ref s.heap.objs.size) { s with heap:=h' }:=fun its r' hz h' c' kp e =>
  ⟨.ref s.heap.objs.size,_,I.laid (t':=s.toks) kp (ac _) (show ObjOk X.prog X.w _ h' _ (.lst ys) from⟨hz,its,c',r',e⟩),rfl,q _ (I.hok.fresh (ac _))⟩
 rcases hq with hq | hq
 ·obtain⟨its,r',pl,hz⟩:=I.list hq
  have hlen:=r'.length
  obtain⟨o,ho,hc,n,hd⟩:=pl.isList
  exact call_list_seq p (.inl rfl) ho hc hd (fun h' c' kp e=>fin its r' hz h' c' kp e) (by simp only[aE] <;> omega)
 ·obtain⟨its,r',pl,hz⟩:=I.tuple hq
  have hlen:=r'.length
  obtain⟨o,ho,hc,n,hd⟩:=pl
  exact call_list_seq p (.inr rfl) ho hc hd (fun h' c' kp e=>fin its r' hz h' c' kp e) (by simp only[aE] <;> omega)
theorem pI:gG X (.type "tuple") (fun xs H Q => ∃p ys, xs=[.ref p] /\ ((SqL X.K H p ys /\ ∀l, H l=none -> Q (.ref l) (upd H l (.tup ys))) ∨ (SqT X.K H p ys /\ Q (.ref p) H))) := by
 intro pins s σ H xs us Q I r h
 obtain⟨p,ys,rfl,h⟩:=h
 obtain⟨u,rfl,rx⟩:=fZ r
 cases rx
 rcases h with⟨hq,q⟩ | ⟨hq,q⟩
 ·obtain⟨its,r',pl,hz⟩:=I.list hq
  have hlen:=r'.length
  refine call_tuple_list pl.isList (fun h' kp=>?_) (by simp only[aE] <;> omega)
  have I1:Inv X pins σ H { s with heap:=h' }:=I.kept (t':=s.toks) kp
  have I2:Inv X pins σ (upd H h'.objs.size (.tup ys)) { s with heap:=h'.push { cls:=.type "tuple",data:=.seq its.toArray } } :=
   I1.laid (t':=s.toks) (fun b o e=>ai _ e) (ac _) (show ObjOk X.prog X.w _ _ _ (.tup ys) from⟨hz,its,r',TupN.new _ _⟩)
  exact⟨.ref h'.objs.size,_,I2,rfl,q _ (I1.hok.fresh (ac _))⟩
 ·obtain⟨its,r',pl,hz⟩:=I.tuple hq
  exact call_tuple_same pl ⟨.ref p,H,I,rfl,q⟩
def tyV (K:W.Frag) (T:String) (x:V) (H:Hp):Prop := match x with
 | .str _=>T="str"
 | .int _=>T="int"
 | .ref p=>(T="list"/\∃xs,SqL K H p xs)∨(T="tuple"/\∃o,K.lookup p=some o/\o.cls=.type "tuple"/\o.dict=none) ∨
     (T="dict"/\((∃kvs,H p=some (.dK kvs))∨∃kvs,H p=some (.dT kvs)))∨(T="set"/\∃S n,H p=some (.set S n))
 | _=>False
theorem va {pins:List (Addr × Obj)}{σ:St}{H:Hp}{s:Shared}{T:String}{x:V}{v:Value}(I:Inv X pins σ H s) (r:RelV x v) (ty:tyV X.K T x H) :
    s.TypeIs v T/\∀a,v=.ref a->∃ob,s.heap.get? a=some ob/\ob.dict=none:=by
 cases x with
 | str z =>
  obtain⟨t,rfl⟩:=r
  cases (show T="str" from ty)
  exact⟨typeIs_str s z t,fun _ e=>nomatch e⟩
 | int i =>
  obtain⟨t,rfl⟩:=r
  cases (show T="int" from ty)
  exact⟨typeIs_int s i t,fun _ e=>nomatch e⟩
 | ref p =>
  cases r
  rcases ty with⟨rfl,xs,hq⟩ | ⟨rfl,o,hk,hc,hd⟩ | ⟨rfl,hk⟩ | ⟨rfl,S,n,hk⟩
  ·obtain⟨its,_,pl,_⟩:=I.list hq
   refine⟨pl.isList.typeIs,fun a e=>?_⟩
   cases e
   obtain⟨o,n,e,c,hd,_⟩:=pl
   exact⟨o,e,hd⟩
  ·refine⟨⟨o,I.kIn p o hk,hc⟩,fun a e=>?_⟩
   cases e
   exact⟨o,I.kIn _ o hk,hd⟩
  ·have z:∃o, s.heap.get? p=some o /\ o.ExactDict := by
      rcases hk with⟨kvs,hk⟩ | ⟨kvs,hk⟩
      ·obtain⟨_,_,_,_,o,_,_,e,ex,_⟩:=I.hok p _ hk
       exact⟨o,e,ex⟩
      ·obtain⟨_,_,_,_,o,_,_,e,ex,_⟩:=I.hok p _ hk
       exact⟨o,e,ex⟩
   obtain⟨o,e,ex⟩:=z
   refine⟨⟨o,e,ex.1⟩,fun a e2=>?_⟩
   cases e2
   exact⟨o,e,ex.2.1⟩
  ·obtain⟨o,_,_,_,e,ex,_⟩:=I.hok p _ hk
   refine⟨⟨o,e,ex.1⟩,fun a e2=>?_⟩
   cases e2
   exact⟨o,e,ex.2.1⟩
 | _=>exact False.elim ty
def Ac (K:W.Frag) (T:String) (r:V->List V->Hp->VK->Prop) (to:TE):TE:=fun σ H Q=>to σ H fun x H1=>tyV K T x H1/\r x [] H1 Q
def tBM (K:W.Frag) (T:String) (r:V->List V->Hp->VK->Prop) (to:TE) (t:TA):TE:=fun σ H Q=>to σ H fun x H1=>tyV K T x H1/\t σ H1 fun xs H2=>r x xs H2 Q
variable {o e:Expr}{es:List Expr}{to:TE}{t:TA}{name:Str}{apos cpos:Pos}{T id:String}{r:V->List V->Hp->VK->Prop}
theorem Aj (pa:PlainAttrs T) (slot:Slot T name id) (hty:typeOf (.builtin id)=pure (.type "method_descriptor")) (hm:MtR X id r) (ho:PE X o to)
    (hbase:attributeBase o name X.env (eval o X.env)=eval o X.env:=by rfl) (hline:(apos.endLine==cpos.line)=true:=by rfl):PE X (.Call (.Attribute o name apos) [] [] cpos) (Ac X.K T r to):=by
 intro pins s σ H Q I h
 refine wpAny_Call_method0_late hbase hline (thn (ho pins s σ H _ I h) fun v s1 ⟨x,H1,I1,r1,ty,q1⟩=>?_)
 obtain⟨h1,h2⟩:=va I1 r1 ty
 exact⟨T,id,pa,slot,hty,h1,h2,Calls.callWith_builtin rfl (PySem.evalArgs_none (hm pins s1 σ H1 x [] v [] Q I1 r1 .nil q1))⟩
theorem mV (pa:PlainAttrs T) (slot:Slot T name id) (hty:typeOf (.builtin id)=pure (.type "method_descriptor")) (hm:MtR X id r) (ho:PE X o to) (ha:PA X (e :: es) t)
    (hbase:attributeBase o name X.env (eval o X.env)=eval o X.env:=by rfl)
    (hfew:((backTo cpos (starEach (e::es) X.env)).all (fun x=>!x.1)&&(backToKw cpos (keywordEach [] X.env)).all (fun x=>x.1.isSome)
     && decide ((e::es).length+([]:List Keyword).length+(if ([]:List Keyword).isEmpty then 0 else 1)<30))=true:=by rfl)
    (hline:(apos.endLine==cpos.line)=true:=by rfl) (hs:starEach (e::es) X.env=(false,eval e X.env)::starEach es X.env:=by rfl) (hplain:(backTo cpos (starEach es X.env)).any (·.1)=false:=by rfl) :
    PE X (.Call (.Attribute o name apos) (e::es) [] cpos) (tBM X.K T r to t):=by
 intro pins s σ H Q I h
 refine wpAny_Call_method_late hbase hfew hline rfl (thn (ho pins s σ H _ I h) fun v s1 ⟨x,H1,I1,r1,ty,q1⟩=>?_)
 obtain⟨h1,h2⟩:=va I1 r1 ty
 refine⟨T,id,pa,slot,hty,h1,h2,?_⟩
 have hA:=ha cpos pins s1 σ H1 _ I1 q1
 rw[hs] at hA ⊢
 refine Calls.callWith_builtin (by show (false||(backTo cpos (starEach es X.env)).any (·.1))=false;rw[hplain] <;> rfl) (Calls.evalArgs_plain ?_)
 exact thn hA fun us s2 ⟨vs,H2,I2,r2,q2⟩=>hm pins s2 σ H2 x vs v us Q I2 r1 r2 q2
end
def MtM (X:Cx) (id:String) (r:V->List V->Hp->VK->Prop):Prop :=
 ∀(pins:List (Addr × Obj)) (s:Shared) (σ:St) (H:Hp) (x:V) (xs:List V) (v:Value) (us:List Value) (Q:VK),Inv X pins σ H s->RelV x v->Vals xs us->r x xs H Q ->
  wpAny (model X.prog X.w) X.A (call (.builtin id) (v::us)) (EP X pins σ Q) X.xe s
theorem Vals.one:∀ {x:V}{us:List Value},Vals [x] us->∃u,us=[u]/\RelV x u
 | _,_,.cons r .nil=>⟨_,rfl,r⟩
theorem Vals.zero:∀ {us:List Value},Vals [] us->us=[]
 | _,.nil=>rfl
theorem Vals.reverse {xs:List V}{us:List Value}(h:Vals xs us):Vals xs.reverse us.reverse:=by
 induction h with
 | nil=>exact .nil
 | cons r t ih=>rw[List.reverse_cons,List.reverse_cons];exact Vals.append ih (.cons r .nil)
section
variable {X:Cx}{pins:List (Addr × Obj)}{σ:St}{H:Hp}{s:Shared}{l b:Addr}{xs ys zs:List V}
theorem Inv.lset {its its':List Value}{n:Nat}{f:Array Value->Array Value}{t':Nat}(I:Inv X pins σ H s) (hH:H l=some (.lst xs))
    (e:s.heap.get? l=some { cls:=.type "list",data:=.seq its.toArray n }) (hf:f its.toArray=its'.toArray) (hv:Vals ys its') (hz:ys.length<=sizeLine) :
    Inv X pins σ (upd H l (.lst ys)) { s with heap:=s.heap.update l (Obj.mapSeq f),toks:=t' }:=by
 have q:=PySem.IsL.update e f
 rw[hf] at q
 refine I.write (x:=l) (e:=l) (by rw[hH];exact trivial) (.inl rfl) (fun b' u hb hu=>(cq s.heap (Obj.mapSeq f) (Ne.symm hb)).trans hu) ⟨_,q⟩ ?_
 exact⟨hz,its',_,hv,q⟩
theorem Inv.lnew {its:List Value}{t':Nat}(I:Inv X pins σ H s) (hv:Vals ys its) (hz:ys.length<=sizeLine) :
    Inv X pins σ (upd H s.heap.objs.size (.lst ys)) { s with heap:=s.heap.push { cls:=.type "list",data:=.seq its.toArray },toks:=t' } :=
 I.laid (fun _ _ q=>ai _ q) (ac _) ⟨hz,its,0,hv,aA _ rfl⟩
theorem Inv.fresh (I:Inv X pins σ H s):H s.heap.objs.size=none:=I.hok.fresh (ac _)
theorem Inv.lstM (I:Inv X pins σ H s) (hH:H l=some (.lst xs)):xs.length<=sizeLine/\∃(its:List Value) (n:Nat),Vals xs its/\xs.length=its.length/\s.heap.get? l=some { cls:=.type "list",data:=.seq its.toArray n }:=by
 obtain⟨z,its,n,r,e⟩:=I.hok l _ hH
 exact⟨z,its,n,r,r.length,e⟩
theorem x5 {n:Nat}(h:n<=sizeLine):Builtin.List.listTooLong n=false:=by
 unfold Builtin.List.listTooLong
 exact aw (by omega)
end
section
variable {X:Cx}
def rQ:V->List V->Hp->VK->Prop:=fun x vs H Q=>∃l xs y,x=.ref l/\vs=[y]/\H l=some (.lst xs)/\xs.length<sizeLine/\Q .non (upd H l (.lst (xs++[y])))
theorem pz:MtM X "list.append" rQ:=by
 intro pins s σ H x vs v us Q I rx rv h
 obtain⟨l,xs,y,rfl,rfl,hH,hz,q⟩:=h
 cases rx
 obtain⟨u,rfl,ru⟩:=rv.one
 obtain⟨z,its,n,r,hl,e⟩:=I.lstM hH
 refine call_meets F.slot_list_append ⟨_,e,rfl⟩ F.entry_list_append (F.args_list_append_2 _ _) (PySem.list_append l its.toArray n u (by rw[aE];omega)) ⟨e,?_⟩
 refine⟨.non,_,I.lset (its':=its++[u]) hH e (by simp) (r.append (.cons ru .nil)) ?_,rfl,q⟩
 rw[aJ,List.length_singleton]
 omega
def nS:V->List V->Hp->VK->Prop:=fun x vs H Q=>∃l b xs zs,x=.ref l/\vs=[.ref b]/\H l=some (.lst xs)/\H b=some (.lst zs)/\xs.length+zs.length<=sizeLine/\Q .non (upd H l (.lst (xs++zs)))
theorem uG:MtM X "list.extend" nS:=by
 intro pins s σ H x vs v us Q I rx rv h
 obtain⟨l,b,xs,zs,rfl,rfl,hH,hB,hz,q⟩:=h
 cases rx
 obtain⟨u,rfl,ru⟩:=rv.one
 cases ru
 obtain⟨z,its,n,r,hl,e⟩:=I.lstM hH
 obtain⟨z2,its2,n2,r2,hl2,e2⟩:=I.lstM hB
 have hsz:its.toArray.size+its2.toArray.size<=sizeLine:=by rw[aE,aE];omega
 have hlong:¬ (!its.toArray.isEmpty&&Builtin.List.listTooLong (its.toArray.size+its2.toArray.size))=true:=by
  rw[x5 hsz,Bool.and_false]
  exact aN
 refine call_meets F.slot_list_extend ⟨_,e,rfl⟩ F.entry_list_extend (F.args_list_extend_2 _ _)
  (AutoSeq1.list_extend_list_list_0 l its.toArray n b its2.toArray n2 hlong (by rw[aE];omega) (by omega)) ⟨e,e2,?_⟩
 refine⟨.non,_,I.lset (its':=its++its2) hH e (by simp) (r.append r2) ?_,rfl,q⟩
 rw[aJ]
 omega
def mK:V->List V->Hp->VK->Prop:=fun x vs H Q=>∃l xs,x=.ref l/\vs=[]/\H l=some (.lst xs)/\Q .non (upd H l (.lst xs.reverse))
theorem tI:MtM X "list.reverse" mK:=by
 intro pins s σ H x vs v us Q I rx rv h
 obtain⟨l,xs,rfl,rfl,hH,q⟩:=h
 cases rx
 have hus:=rv.zero
 subst hus
 obtain⟨z,its,n,r,hl,e⟩:=I.lstM hH
 refine call_meets F.slot_list_reverse ⟨_,e,rfl⟩ F.entry_list_reverse (F.args_list_reverse_1 _) (AutoSeq1.list_reverse_list_0 l its.toArray n (by rw[aE];omega)) ⟨e,?_⟩
 refine⟨.non,_,I.lset (its':=its.reverse) hH e (by simp) r.reverse ?_,rfl,q⟩
 rw[List.length_reverse]
 omega
def rCat:R2:=fun x y H Q=>∃l b xs zs,x=.ref l/\y=.ref b/\H l=some (.lst xs)/\H b=some (.lst zs)/\xs.length+zs.length<=sizeLine/\∀p,H p=none->Q (.ref p) (upd H p (.lst (xs++zs)))
theorem A4:OpR X (binaryOp .Add) rCat:=by
 intro pins s σ H x y v u Q I rx ry h
 obtain⟨l,b,xs,zs,rfl,rfl,hH,hB,hz,q⟩:=h
 cases rx
 cases ry
 obtain⟨z,its,n,r,hl,e⟩:=I.lstM hH
 obtain⟨z2,its2,n2,r2,hl2,e2⟩:=I.lstM hB
 refine PySem.P.add_list e e2 ?_ (by rw[aE,aE];omega)
 have ea:its.toArray++its2.toArray=(its++its2).toArray:=by simp
 rw[ea]
 exact⟨.ref _,_,I.lnew (t':=s.toks) (r.append r2) (by rw[aJ];omega),rfl,q _ I.fresh⟩
end
section
variable {κ:Type} [DecidableEq κ]
def dg (kvs:List (κ × V)) (k:κ):Option V:=(kvs.find? fun kv=>decide (kv.1=k)).map (·.2)
def dE (kvs:List (κ × V)) (k:κ) (v:V):List (κ × V) :=
 if (kvs.any fun kv=>decide (kv.1=k))=true then kvs.map (fun kv=>if kv.1=k then (kv.1,v) else kv) else kvs++[(k,v)]
theorem km {k:κ}:dg ([]:List (κ × V)) k=none:=rfl
theorem fm {p:κ × V}{r:List (κ × V)}{k:κ}(e:p.1=k):dg (p::r) k=some p.2:=by simp[dg,bc,e]
theorem fi {p:κ × V}{r:List (κ × V)}{k:κ}(e:¬ p.1=k):dg (p::r) k=dg r k:=by simp[dg,bc,e]
theorem gx (k:κ):∀kvs:List (κ × V),(kvs.any fun kv=>decide (kv.1=k))=(dg kvs k).isSome
 | []=>rfl
 | p::r=>by
  rw[bV]
  by_cases e:p.1=k
  ·simp only[fm e,ak e,Bool.true_or,Option.isSome_some]
  ·rw[fi e,aw e,Bool.false_or];exact gx k r
theorem p8 (k j:κ) (y:V):∀kvs:List (κ × V), dg (kvs.map fun kv => if kv.1=k then (kv.1, y) else kv) j=(dg kvs j).map fun x => if j=k then y else x
 | []=>rfl
 | p::r=>by
  have ih:=p8 k j y r
  rw[aQ]
  by_cases h:p.1=k
  ·rw[if_pos h]
   by_cases e:p.1=j
   ·rw[fm (p:=(p.1,y)) e,fm e,Option.map_some,if_pos (e.symm.trans h)]
   ·rw[fi (p:=(p.1,y)) e,fi e,ih]
  ·rw[if_neg h]
   by_cases e:p.1=j
   ·rw[fm (p:=p) e,fm e,Option.map_some,if_neg (fun z=>h (e.trans z))]
   ·rw[fi (p:=p) e,fi e,ih]
theorem oH (k j:κ) (y:V):∀kvs:List (κ × V),dg kvs k=none->dg (kvs++[(k,y)]) j=if j=k then some y else dg kvs j
 | [],_=>by
  by_cases e:k=j
  ·rw[if_pos e.symm];exact fm (p:=(k,y)) e
  ·rw[if_neg (fun z=>e z.symm)];exact fi (p:=(k,y)) e
 | p::r,hn=>by
  rw[List.cons_append]
  have hk:¬ p.1=k:=fun z=>by rw[fm z] at hn;cases hn
  rw[fi hk] at hn
  have ih:=oH k j y r hn
  by_cases e:p.1=j
  ·rw[fm e,fm e,if_neg (fun z=>hk (e.trans z))]
  ·rw[fi e,fi e,ih]
theorem gt (kvs:List (κ × V)) (k j:κ) (y:V):dg (dE kvs k y) j=if j=k then some y else dg kvs j := by
 unfold dE
 by_cases a:(kvs.any fun kv=>decide (kv.1=k))=true
 ·rw[if_pos a,p8]
  rw[gx] at a
  by_cases e:j=k
  ·obtain⟨x,hx⟩:=cg.mp a
   rw[if_pos e,e,hx,Option.map_some,if_pos rfl]
  ·rw[if_neg e]
   cases dg kvs j with
   | none=>rfl
   | some x=>rw[Option.map_some,if_neg e]
 ·rw[if_neg a]
  refine oH k j y kvs ?_
  rw[gx] at a
  cases q:dg kvs k with
  | none=>rfl
  | some x=>rw[q] at a;exact(a rfl).elim
theorem dW (kvs:List (κ × V)) (k:κ) (v:V):(dE kvs k v).length<=kvs.length+1:=by
 unfold dE
 split
 ·rw[ae];omega
 ·rw[aJ,aF,List.length_nil];omega
theorem pY {kvs:List (κ × V)}{k:κ}(v:V) (h:dg kvs k=none):dE kvs k v=kvs++[(k,v)]:=by
 unfold dE
 rw[gx,h]
 exact if_neg (by decide)
theorem RelO.isSome_eq {o:Option V}{u:Option Value}(r:RelO o u):o.isSome=u.isSome:=by
 cases o with
 | none=>cases u with
  | none=>rfl
  | some _=>exact(show False from r).elim
 | some _=>cases u with
  | none=>exact(show False from r).elim
  | some _=>rfl
theorem KV.val {kvs:List (κ × V)}{vs:List (κ × Value)}(r:KV kvs vs) (k:κ):RelO (dg kvs k) (valueAt vs k) := by
 unfold KV at r
 induction r with
 | nil=>exact True.intro
 | @cons p q ps qs h t ih =>
  obtain⟨h1,h2⟩:=h
  by_cases e:p.1=k
  ·have e':q.1=k:=h1.symm.trans e
   have b:valueAt (q::qs) k=some q.2:=by simp[valueAt,bc,e']
   rw[fm e,b];exact h2
  ·have e':¬ q.1=k:=fun z=>e (h1.trans z)
   have b:valueAt (q::qs) k=valueAt qs k:=by simp[valueAt,bc,e']
   rw[fi e,b];exact ih
theorem KV.any {kvs:List (κ × V)}{vs:List (κ × Value)}(r:KV kvs vs) (k:κ):(kvs.any fun kv=>decide (kv.1=k))=vs.any fun kv=>decide (kv.1=k):=by
 unfold KV at r
 induction r with
 | nil=>rfl
 | cons h t ih=>rw[bV,bV,ih,h.1]
theorem KV.repl {kvs:List (κ × V)}{vs:List (κ × Value)}(r:KV kvs vs) (k:κ) {y:V}{u:Value}(ry:RelV y u) :
    KV (kvs.map fun kv=>if kv.1=k then (kv.1,y) else kv) (vs.map fun kv=>if kv.1=k then (kv.1,u) else kv):=by
 unfold KV at r ⊢
 induction r with
 | nil=>exact .nil
 | @cons p q ps qs h t ih =>
  rw[aQ,aQ]
  refine .cons ?_ ih
  obtain⟨h1,h2⟩:=h
  by_cases e:p.1=k
  ·rw[if_pos e,if_pos (h1.symm.trans e)];exact⟨h1,ry⟩
  ·rw[if_neg e,if_neg (fun z=>e (h1.trans z))];exact⟨h1,h2⟩
theorem KV.put {kvs:List (κ × V)}{vs:List (κ × Value)}(r:KV kvs vs) (k:κ) {y:V}{u:Value}(ry:RelV y u):KV (dE kvs k y) (stored vs k u):=by
 unfold dE stored
 rw[r.any k]
 by_cases e:(vs.any fun kv=>decide (kv.1=k))=true
 ·rw[if_pos e,if_pos e];exact r.repl k ry
 ·rw[if_neg e,if_neg e];exact Paired.snoc r ⟨rfl,ry⟩
theorem KV.length {kvs:List (κ × V)}{vs:List (κ × Value)}(r:KV kvs vs):kvs.length=vs.length:=Paired.length r
end
theorem iK {P:Program}{w:World}{k:Key}{u:Value}(r:RelV (kV k) u):(dU P w).is k u=true:=by
 cases k with
 | inl i=>obtain⟨t,e⟩:=(show ∃t,u=Value.int i t from r);subst e;exact rG P w i t
 | inr x=>obtain⟨t,e⟩:=(show ∃t,u=Value.str x t from r);subst e;exact jn P w x t
theorem oG {P:Program}{w:World}:∀ {ks:List Key}{us:List Value},Vals (ks.map kV) us->ItemsAre (dU P w) ks us
 | [],_,r=>by rw[List.map_nil] at r;cases r;exact .nil
 | k::ks,_,r=>by
  rw[aQ] at r
  cases r with
  | cons h t=>exact .cons (iK h) (oG t)
abbrev KT (H:Hp):List (List Key × V)->List (List Key × Addr × Value)->Prop:=Paired fun p q=>p.1=q.1/\H q.2.1=some (.tup (p.1.map kV))/\RelV p.2 q.2.2
theorem KT.val {H:Hp}{kvs:List (List Key × V)}{xs:List (List Key × Addr × Value)}(r:KT H kvs xs) (k:List Key):RelO (dg kvs k) ((atKey xs k).map (·.2)) := by
 induction r with
 | nil=>exact True.intro
 | @cons p q ps qs h t ih =>
  obtain⟨h1,_,h2⟩:=h
  by_cases e:p.1=k
  ·have e':q.1=k:=h1.symm.trans e
   have b:atKey (q::qs) k=some q.2:=by simp[atKey,bc,e']
   rw[fm e,b];exact h2
  ·have e':¬ q.1=k:=fun z=>e (h1.trans z)
   have b:atKey (q::qs) k=atKey qs k:=by simp[atKey,bc,e']
   rw[fi e,b];exact ih
theorem KT.repl {H:Hp}{kvs:List (List Key × V)}{xs:List (List Key × Addr × Value)}(r:KT H kvs xs) (k:List Key) {y:V}{u:Value}(ry:RelV y u) :
    KT H (kvs.map fun kv=>if kv.1=k then (kv.1,y) else kv) (xs.map (putAt k u)):=by
 induction r with
 | nil=>exact .nil
 | @cons p q ps qs h t ih =>
  rw[aQ,aQ]
  refine .cons ?_ ih
  obtain⟨h1,h2,h3⟩:=h
  unfold putAt
  by_cases e:p.1=k
  ·rw[if_pos e,if_pos (h1.symm.trans e)];exact⟨h1,h2,ry⟩
  ·rw[if_neg e,if_neg (fun z=>e (h1.trans z))];exact⟨h1,h2,h3⟩
theorem KT.put {H:Hp}{kvs:List (List Key × V)}{xs:List (List Key × Addr × Value)}(r:KT H kvs xs) (k:List Key) {b:Addr}{y:V}{u:Value}(hb:H b=some (.tup (k.map kV))) (ry:RelV y u) :
    KT H (dE kvs k y) (storedH xs k b u):=by
 have e:(kvs.any fun kv=>decide (kv.1=k))=(atKey xs k).isSome:=by
  rw[gx,(r.val k).isSome_eq,Option.isSome_map]
 unfold dE storedH
 rw[e]
 by_cases q:(atKey xs k).isSome=true
 ·rw[if_pos q,if_pos q];exact r.repl k ry
 ·rw[if_neg q,if_neg q];exact Paired.snoc r ⟨rfl,hb,ry⟩
theorem KT.keeps {H H':Hp}{kvs:List (List Key × V)}{xs:List (List Key × Addr × Value)}(r:KT H kvs xs) (ht:∀b ys,H b=some (.tup ys)->H' b=some (.tup ys)):KT H' kvs xs :=
 Paired.mapP r fun _ _ z=>⟨z.1,ht _ _ z.2.1,z.2.2⟩
section
variable {P:Program}{w:World}{H:Hp}{h:Heap}{a:Addr}
theorem yg {u:HO}(ok:HOk P w H h) (e:Rd H a u):ObjOk P w H h a u:=e.ok ok
theorem lJ {kvs:List (Key × V)}(ok:HOk P w H h) (e:Rd H a (.dK kvs)):kvs.length<=sizeLine/\(a==sysModules)=false/\∃vs,KV kvs vs/\h.DictOf (dU P w) a vs :=
 show ObjOk P w H h a (.dK kvs) from yg ok e
theorem tR {kvs:List (Key × V)}(ok:HOk P w H h) (e:H a=some (.dK kvs)):kvs.length<=sizeLine/\(a==sysModules)=false/\∃vs,KV kvs vs/\h.DictOf (dU P w) a vs:=lJ ok (.inl e)
theorem jw {ks:List Key}(ok:HOk P w H h) (e:H a=some (.tup (ks.map kV))):(tupleKind (dU P w)).is h ks a:=by
 obtain⟨_,its,r,o,h1,h2,n,h3,_⟩:=(show ObjOk P w H h a (.tup (ks.map kV)) from ok a _ e)
 exact⟨o,its.toArray,n,h1,h2,h3,by simpa using oG r⟩
theorem m4 {kvs:List (List Key × V)}(ok:HOk P w H h) (e:Rd H a (.dT kvs)):kvs.length <= sizeLine /\ (a==sysModules)=false /\
    ∃xs,KT H kvs xs/\h.DictOfH (tupleKind (dU P w)) a xs:=by
 obtain⟨z,y,xs,r,o,es,ep,h1,h2,h3,h4,h5⟩:=(show ObjOk P w H h a (.dT kvs) from yg ok e)
 refine⟨z,y,xs,r,o,es,ep,h1,h2,h3,h4,fun x hx=>?_,h5⟩
 have all:∀ {l:List (List Key × V)} {m:List (List Key × Addr × Value)}, KT H l m -> ∀x ∈ m, (tupleKind (dU P w)).is h x.1 x.2.1 := by
  intro l m q
  induction q with
  | nil=>intro x hx;exact nomatch hx
  | @cons p q ps qs hq t ih =>
   intro x hx
   rcases aB.mp hx with e | hx
   ·subst e
    exact jw ok (by rw[<- hq.1];exact hq.2.1)
   ·exact ih x hx
 exact all r x hx
theorem yB {kvs:List (List Key × V)}(ok:HOk P w H h) (e:H a=some (.dT kvs)):kvs.length<=sizeLine/\(a==sysModules)=false /\
    ∃xs,KT H kvs xs/\h.DictOfH (tupleKind (dU P w)) a xs:=m4 ok (.inl e)
end
def DGet (H:Hp) (a:Addr) (y:V) (r:Option V):Prop :=
 (∃kvs k,Rd H a (.dK kvs)/\y=kV k/\r=dg kvs k)∨∃kvs k b,Rd H a (.dT kvs)/\y=.ref b/\H b=some (.tup (k.map kV))/\r=dg kvs k
def DPut (H:Hp) (a:Addr) (y v:V) (H':Hp):Prop :=
 (∃kvs k,H a=some (.dK kvs)/\y=kV k/\kvs.length<sizeLine/\H'=upd H a (.dK (dE kvs k v))) ∨
 ∃kvs k b,H a=some (.dT kvs)/\y=.ref b/\H b=some (.tup (k.map kV))/\kvs.length<sizeLine/\H'=upd H a (.dT (dE kvs k v))
theorem DGet.k {H:Hp}{a:Addr}{kvs:List (Key × V)}{k:Key}(e:H a=some (.dK kvs)):DGet H a (kV k) (dg kvs k):=.inl ⟨kvs,k,.inl e,rfl,rfl⟩
theorem DPut.k {H:Hp}{a:Addr}{kvs:List (Key × V)}{k:Key}{v:V}(e:H a=some (.dK kvs)) (hl:kvs.length<sizeLine):DPut H a (kV k) v (upd H a (.dK (dE kvs k v))):=.inl ⟨kvs,k,e,rfl,hl,rfl⟩
theorem DPut.t {H:Hp}{a b:Addr}{kvs:List (List Key × V)}{k:List Key}{v:V}(e:H a=some (.dT kvs)) (eb:H b=some (.tup (k.map kV))) (hl:kvs.length<sizeLine) :
    DPut H a (.ref b) v (upd H a (.dT (dE kvs k v))):=.inr ⟨kvs,k,b,e,rfl,eb,hl,rfl⟩
section
variable {X:Cx}{pins:List (Addr × Obj)}{σ:St}{H:Hp}{s:Shared}{a:Addr}{y v:V}{u r:Value}{o:Option V}{A:Around}{E:Value->Shared->Prop}
theorem Inv.big (I:Inv X pins σ H s):sysModules<s.heap.objs.size:=by
 have h:mainGlobals<s.heap.objs.size:=(I.mod.glob.keeps I.bk).lt
 exact Nat.lt_trans (by decide) h
theorem wo {Q:Value->Shared->Prop}(hu:A.units+1<cLine) (I:Inv X pins σ H s) (g:DGet H a y (some v)) (ry:RelV y u) (h:∀w' s',Inv X pins σ H s'->RelV v w'->Q w' s') :
    wpAny (model X.prog X.w) A (getItem (.ref a) u) Q E s:=by
 rcases g with⟨kvs,k,e,ey,l⟩ | ⟨kvs,k,b,e,ey,eb,l⟩
 ·subst ey
  obtain⟨z,hd,vs,rel,dd⟩:=lJ I.hok e
  obtain⟨w',hw,rw'⟩:=RelO.some_of (v:=v) (o:=valueAt vs k) (by rw[l];exact rel.val k)
  exact wpAny_getItem_of (iK ry) dd.mapOf hw (h w' _ (I.tok _) rw')
 ·subst ey
  cases (show u=Value.ref b from ry)
  obtain⟨z,hd,xs,rel,dd⟩:=m4 I.hok e
  obtain⟨w',hw,rw'⟩:=RelO.some_of (v:=v) (o:=(atKey xs k).map (·.2)) (by rw[l];exact rel.val k)
  obtain⟨p,hp,hp2⟩:=Option.map_eq_some_iff.mp hw
  refine wpAny_getItem_heap (tupleKind_room_in1 hu) (jw I.hok eb) dd hp ?_
  rw[hp2]
  exact h w' _ (I.tok _) rw'
theorem d_in {Q:Value->Shared->Prop}(hu:A.units+1<cLine) (I:Inv X pins σ H s) (g:DGet H a y o) (ry:RelV y u) (h:∀s',Inv X pins σ H s'->Q (.bool o.isSome) s') :
    wpAny (model X.prog X.w) A (compareOp .In u (.ref a)) Q E s:=by
 rcases g with⟨kvs,k,e,ey,l⟩ | ⟨kvs,k,b,e,ey,eb,l⟩
 ·subst ey
  obtain⟨z,hd,vs,rel,dd⟩:=lJ I.hok e
  refine wpAny_in_of (iK ry) hd dd.mapOf ?_
  rw[<- (rel.val k).isSome_eq,<- l]
  exact h _ (I.tok _)
 ·subst ey
  cases (show u=Value.ref b from ry)
  obtain⟨z,hd,xs,rel,dd⟩:=m4 I.hok e
  refine wpAny_in_heap (tupleKind_room_in1 hu) (jw I.hok eb) hd dd ?_
  have q:=(rel.val k).isSome_eq
  rw[Option.isSome_map] at q
  rw[<- q,<- l]
  exact h _ (I.tok _)
theorem yW {Q:Value->Shared->Prop}(hu:A.units+1<cLine) (I:Inv X pins σ H s) (g:DGet H a y o) (ry:RelV y u) (h:∀s',Inv X pins σ H s'->Q (.bool (!o.isSome)) s') :
    wpAny (model X.prog X.w) A (compareOp .NotIn u (.ref a)) Q E s:=by
 rcases g with⟨kvs,k,e,ey,l⟩ | ⟨kvs,k,b,e,ey,eb,l⟩
 ·subst ey
  obtain⟨z,hd,vs,rel,dd⟩:=lJ I.hok e
  refine wpAny_notIn_of (iK ry) hd dd.mapOf ?_
  rw[<- (rel.val k).isSome_eq,<- l]
  exact h _ (I.tok _)
 ·subst ey
  cases (show u=Value.ref b from ry)
  obtain⟨z,hd,xs,rel,dd⟩:=m4 I.hok e
  refine wpAny_notIn_heap (tupleKind_room_in1 hu) (jw I.hok eb) hd dd ?_
  have q:=(rel.val k).isSome_eq
  rw[Option.isSome_map] at q
  rw[<- q,<- l]
  exact h _ (I.tok _)
theorem jJ {h':Heap}{t':Nat}{ob:HO}(I:Inv X pins σ H s) (mu:Mut (H a)) (hs:Heap.SameBut a s.heap h') (he:∃q,h'.get? a=some q) (new:ObjOk X.prog X.w (upd H a ob) h' a ob) :
    Inv X pins σ (upd H a ob) { s with heap:=h',toks:=t' } :=
 I.write (x:=a) (e:=a) mu (.inl rfl) (fun b q hb z=>(hs.2 b hb).trans z) he new
theorem qf {P:Program}{w:World}{H':Hp}{h':Heap}{kvs:List (Key × V)}{vs:List (Key × Value)}(z:kvs.length<=sizeLine) (hd:(a==sysModules)=false) (rel:KV kvs vs) (dd:h'.DictOf (dU P w) a vs) :
    ObjOk P w H' h' a (.dK kvs):=⟨z,hd,vs,rel,dd⟩
theorem vI {H':Hp}{Q:Unit->Shared->Prop}(hu:A.units+1<cLine) (I:Inv X pins σ H s) (g:DPut H a y v H') (ry:RelV y u) (rv:RelV v r) (h:∀s',Inv X pins σ H' s'->Q () s') :
    wpAny (model X.prog X.w) A (setItem (.ref a) u r) Q E s:=by
 rcases g with⟨kvs,k,e,ey,l,eH⟩ | ⟨kvs,k,b,e,ey,eb,l,eH⟩
 ·subst ey eH
  obtain⟨z,hd,vs,rel,dd⟩:=tR I.hok e
  have hz:vs.length<=sizeLine:=by rw[<- rel.length];exact z
  have hl:(dE kvs k v).length<=sizeLine:=by have:=dW kvs k v;omega
  refine wpAny_setItem_pairs (hsz:=hz) (iK ry) dd fun h' dd' hs=>h _ ?_
  have he:∃q,h'.get? a=some q:=let ⟨q,_,_,hq,_⟩:=dd';⟨q,hq⟩
  exact jJ I (by rw[e];exact True.intro) hs he (qf hl hd (rel.put k rv) dd')
 ·subst ey eH
  cases (show u=Value.ref b from ry)
  obtain⟨z,hd,xs,rel,dd⟩:=yB I.hok e
  have hz:xs.length<=sizeLine:=by rw[<- Paired.length rel];exact z
  have hl:(dE kvs k v).length<=sizeLine:=by have:=dW kvs k v;omega
  refine wpAny_setItem_heap (hsz:=hz) (tupleKind_room_in1 hu) (jw I.hok eb) dd fun h' dd' hs=>h _ ?_
  obtain⟨q,es,ep,hq,h2,h3,h4,_,h5⟩:=dd'
  refine jJ I (by rw[e];exact True.intro) hs ⟨q,hq⟩ ⟨hl,hd,_,(rel.put k eb rv).keeps fun c ys ec=>?_,q,es,ep,hq,h2,h3,h4,h5⟩
  rw[cJ (eK ec e (fun z=>nomatch z))]
  exact ec
end
section
variable {X:Cx}{pins:List (Addr × Obj)}{σ:St}{H:Hp}{s:Shared}{a:Addr}{kvs:List (Key × V)}{k:Key}{u:Value}{A:Around}{E:Value->Shared->Prop}
theorem BE {Q:Value->Shared->Prop}(I:Inv X pins σ H s) (e:Rd H a (.dK kvs)) (h:∀t s',Inv X pins σ H s'->Q (.int kvs.length t) s'):wpAny (model X.prog X.w) A (call (.builtin "len") [.ref a]) Q E s:=by
 obtain⟨z,hd,vs,rel,dd⟩:=lJ I.hok e
 refine call_len_dict hd dd (by rw[<- rel.length];rw[sizeLine_eq] at z;omega) ?_
 rw[<- rel.length]
 exact h _ _ (I.tok _)
end
theorem qZ {X:Cx}{pins:List (Addr × Obj)}{σ:St}{H:Hp}{s:Shared}{a:Addr}{y:V}{o:Option V}(I:Inv X pins σ H s) (g:DGet H a y o):s.TypeIs (.ref a) "dict":=by
 rcases g with⟨kvs,k,e,_,_⟩ | ⟨kvs,k,b,e,_,_,_⟩
 ·obtain⟨_,_,vs,_,dd⟩:=lJ I.hok e
  exact dd.typeIs
 ·obtain⟨_,_,xs,_,dd⟩:=m4 I.hok e
  exact dd.typeIs
theorem mL {P:Program}{w:World}{H:Hp}(h:Heap) (hb:sysModules<h.objs.size):ObjOk P w H (h.push { cls:=.type "dict",data:=.dict #[] }) h.objs.size (.dK []) :=
 ⟨aP _,beq_eq_false_iff_ne.mpr (Ne.symm (aD hb)),[],.nil,Heap.DictOf.new h⟩
theorem yb {P:Program}{w:World}{H:Hp}(h:Heap) (hb:sysModules<h.objs.size):ObjOk P w H (h.push { cls:=.type "dict",data:=.dict #[] }) h.objs.size (.dT []) :=
 ⟨aP _,beq_eq_false_iff_ne.mpr (Ne.symm (aD hb)),[],.nil,_,#[],0,aA _ rfl,⟨rfl,rfl,rfl⟩,rfl,rfl,List.nodup_nil⟩
def Ad:TE:=fun _ H Q=>∀p,H p=none->Q (.ref p) (upd H p (.dK []))
def AI:TE:=fun _ H Q=>∀p,H p=none->Q (.ref p) (upd H p (.dT []))
section
variable {X:Cx}{pos:Pos}
theorem mD:PE X (.Dict [] [] pos) Ad:=fun pins s σ H Q I h =>
 wpAny_Dict_empty ⟨.ref s.heap.objs.size,_,I.laid (a:=s.heap.objs.size) (o:=.dK []) (t':=s.toks) (fun _ _ q=>ai _ q) (ac _) (mL s.heap I.big),rfl,h _ (I.hok.fresh (ac _))⟩
theorem qB:PE X (.Dict [] [] pos) AI:=fun pins s σ H Q I h =>
 wpAny_Dict_empty ⟨.ref s.heap.objs.size,_,I.laid (a:=s.heap.objs.size) (o:=.dT []) (t':=s.toks) (fun _ _ q=>ai _ q) (ac _) (yb s.heap I.big),rfl,h _ (I.hok.fresh (ac _))⟩
end
def p3:List (TE × TE)->St->Hp->(List (V × V)->Hp->Prop)->Prop
 | [],_,H,Q=>Q [] H
 | (tk,tv)::r,σ,H,Q=>tk σ H fun x H1=>tv σ H1 fun y H2=>p3 r σ H2 fun ps H3=>Q ((x,y)::ps) H3
abbrev VV:List (V × V)->List (Value × Value)->Prop:=Paired fun p q=>RelV p.1 q.1/\RelV p.2 q.2
def PPs (X:Cx) (pos:Pos) (keys:List (Option Expr)) (values:List Expr) (trs:List (TE × TE)):Prop :=
 ∀(pins:List (Addr × Obj)) (s:Shared) (σ:St) (H:Hp) (Q:List (V × V)->Hp->Prop),Inv X pins σ H s->p3 trs σ H Q ->
  wpAny (model X.prog X.w) X.A (evalPairs (pairTrees keys values X.env pos)) (fun vs s'=>∃ps H',Inv X pins σ H' s'/\VV ps vs/\Q ps H') X.xe s
theorem sR {X:Cx}{pos:Pos}:PPs X pos [] [] []:=fun pins s σ H Q I h=>pairTrees_nil_walk ⟨[],H,I,.nil,h⟩
theorem kh {X:Cx}{pos:Pos}{k v:Expr}{ks:List (Option Expr)}{vs:List Expr}{tk tv:TE}{trs:List (TE × TE)}(hk:PE X k tk) (hv:PE X v tv) (hr:PPs X pos ks vs trs) :
    PPs X pos (some k::ks) (v::vs) ((tk,tv)::trs):=fun pins s σ H Q I h =>
 pairTrees_cons_walk (thn (hk pins s σ H _ I h) fun u s1 ⟨x,H1,I1,rx,q1⟩=>thn (hv pins s1 σ H1 _ I1 q1) fun w2 s2 ⟨y,H2,I2,ry,q2⟩ =>
  thn (hr pins s2 σ H2 _ I2 q2) fun ws s3 ⟨ps,H3,I3,rel,q3⟩=>⟨(x,y)::ps,H3,I3,.cons ⟨rx,ry⟩ rel,q3⟩)
def ia (kvs more:List (Key × V)):List (Key × V):=more.foldl (fun acc kv=>dE acc kv.1 kv.2) kvs
theorem KV.merge:∀ {more:List (Key × V)}{rs:List (Key × Value)}{kvs:List (Key × V)}{vs:List (Key × Value)}, KV more rs -> KV kvs vs -> KV (ia kvs more) (merged vs rs) := by
 intro more rs kvs vs r
 unfold KV at r
 induction r generalizing kvs vs with
 | nil=>intro q;exact q
 | @cons p q ps qs h t ih =>
  intro r0
  have e:KV (dE kvs p.1 p.2) (stored vs q.1 q.2):=by
   have:=r0.put p.1 h.2
   rw[<- h.1];exact this
  exact ih e
theorem ky:∀(more kvs:List (Key × V)),(ia kvs more).length<=kvs.length+more.length
 | [],kvs=>by show kvs.length<=kvs.length+0;omega
 | p::r,kvs=>by
  have h1:=ky r (dE kvs p.1 p.2)
  have h2:=dW kvs p.1 p.2
  show (ia (dE kvs p.1 p.2) r).length<=_
  rw[aF];omega
theorem mY {P:Program}{w:World}:∀ {kvs:List (Key × V)}{ws:List (Value × Value)}, VV (kvs.map fun kv => (kV kv.1, kv.2)) ws -> ∃rs, Carries (dU P w) ws rs /\ KV kvs rs
 | [],_,r=>by rw[List.map_nil] at r;cases r;exact⟨[],True.intro,.nil⟩
 | p::kvs,_,r=>by
  rw[aQ] at r
  cases r with
  | @cons a b as bs h t =>
   obtain⟨rs,c,q⟩:=mY (P:=P) (w:=w) t
   obtain⟨b1,b2⟩:=b
   exact⟨(p.1,b2)::rs,⟨iK h.1,rfl,c⟩,.cons ⟨rfl,h.2⟩ q⟩
def BK (trs:List (TE × TE)):TE:=fun σ H Q=>∀p,H p=none->p3 trs σ (upd H p (.dK [])) fun ps H2=>H2 p=some (.dK [])/\∃kvs:List (Key × V),ps=kvs.map (fun kv=>(kV kv.1,kv.2))/\kvs.length<=15/\Q (.ref p) (upd H2 p (.dK (ia [] kvs)))
theorem sJ {X:Cx}{pos:Pos}{keys:List (Option Expr)}{values:List Expr}{trs:List (TE × TE)}(h:PPs X pos keys values trs) (hall:keys.all (·.isSome)=true) (hl:keys.length=values.length) (h0:keys≠[])
    (h15:keys.length<=15):PE X (.Dict keys values pos) (BK trs):=by
 intro pins s σ H Q I q
 have hn:=I.hok.fresh (ac s.heap.objs.size)
 have I1:=I.laid (a:=s.heap.objs.size) (o:=.dK []) (h':=s.heap.push { cls:=.type "dict",data:=.dict #[] }) (t':=s.toks) (fun _ _ q=>ai _ q) (ac _) (mL s.heap I.big)
 refine wpAny_Dict_walk (knd:=dU X.prog X.w) hall hl h0 h15 (thn (h pins _ σ _ _ I1 (q _ hn)) fun ws s2 ⟨ps,H2,I2,rel,e,kvs,ep,lk,q2⟩=>?_)
 subst ep
 obtain⟨rs,c,rk⟩:=mY (P:=X.prog) (w:=X.w) rel
 obtain⟨z,hd,vs0,r0,dd⟩:=tR I2.hok e
 cases r0
 refine⟨rs,c,dd,fun h' dd' hs=>⟨.ref s.heap.objs.size,_,?_,rfl,q2⟩⟩
 have hz:(ia [] kvs).length<=sizeLine:=by
  have h1:=ky kvs []
  rw[List.length_nil] at h1
  rw[sizeLine_eq];omega
 have he:∃q,h'.get? s.heap.objs.size=some q:=let ⟨q,_,_,hq,_⟩:=dd';⟨q,hq⟩
 exact jJ I2 (by rw[e];exact True.intro) hs he (qf hz hd (rk.merge .nil) dd')
end L2
namespace Att
open PySem PySem.W PySem.Calls PyProof.Rows
theorem m9 {P:Params}{h:Heap}:∀(ns:List Int) (vs:List Value), WellAll P h vs (ns.map WData.int) -> IntsAre vs ns := by
 intro ns
 induction ns with
 | nil =>
  intro vs w
  rw[List.map_nil] at w
  cases w
  exact .nil
 | cons n ns ih =>
  intro vs w
  rw[aQ] at w
  cases w with
  | cons a b =>
   cases a
   exact .cons _ _ (ih _ b)
theorem vq {l:OpenLaw}{n:Nat}(hn:l.most=some n) {P:Params}{h:Heap}{args:List WData}{vals:List Value}
    (hpre:l.row.toRowW.claim.pre args=true) (hwl:WellAll P h vals args) :
    ∃a vs ns,vals=[Value.ref a]/\args=[WData.list (ns.map WData.int)]/\h.get? a=some { cls:=.type "list",data:=.seq vs.toArray }/\IntsAre vs ns/\ns.length<=n:=by
 have hsh:WShape.hasAll [] args [.list .int]=true:=(pre_splitW hpre).1
 have hc:l.pre.holds [] { args:=args }=true:=(pre_splitW hpre).2
 obtain⟨d,r,rfl,h1,h2⟩:=hasAllW_cons hsh
 obtain rfl:=hasAllW_nil h2
 obtain⟨xs,rfl,h3⟩:=hasW_list h1
 obtain⟨ns,rfl⟩:=items_int h3
 have hlen:ns.length<=n:=by
  unfold OpenLaw.pre at hc
  have h4:(WTm.not (.lt (.lit (.int (n:Int))) (.len (.arg 0)))).holds [] { args:=[.list (ns.map .int)] }=true:=by
   have h4:=(holds_andW hc).1
   rw[hn] at h4
   exact h4
  have h5:=condW_of h4 (w_not (w_lt w_lit (w_len_list (w_arg rfl))))
  rw[ae] at h5
  refine Nat.le_of_not_lt fun q=>?_
  have q':(n:Int)<((ns.length:Nat):Int):=by omega
  first
   | (rw[ak q'] at h5;exact absurd h5 (by decide))
   | (simp at h5;omega)
 cases hwl with
 | cons w1 w2 =>
  cases w2
  cases w1 with
  | list ho hall=>exact⟨_,_,ns,rfl,rfl,ho,m9 ns _ hall,hlen⟩
theorem vb (l:OpenLaw) (args:List WData):l.row.toRowW.claim.post args (.bool true) args=true :=
 postW_of (r:=l.row.toRowW) (X:=(true==true))
  (show WShape.has [] (.bool true) .bool=true by first | rfl | decide | simp[WShape.has,WShape.arms,WShape.armsAll])
  (show (WTm.eq .res (.lit (.bool true))).value [] { args:=args,res:=some (.bool true),after:=args }=some (.bool (true==true)) from w_eq_bool (w_res rfl) w_lit) rfl
theorem attach_call {l:OpenLaw}{n:Nat}{q:Program}{loose:List Str}{XP:(Str -> Option Value) -> Heap -> Prop}{YP:World -> Heap -> Prop}{d:DefRec}
    (hn:l.most=some n) (hdf:d.params.defaults=[])
    (call:∀(w:World) (s₀ s₁:Shared) (mg mb:Str->Option Value) (fa:Addr) (o:Obj) (pm cd doc:Value) (a:Addr) (vs:List Value) (ns:List Int),
     Ground q loose [] XP w s₀ mg mb s₁.heap->YP w s₁.heap ->
     s₁.heap.get? fa=some o->o.data=.func (docDef d.name d.params d.body d.scope pm cd doc)->s₁.heap.CodeRec cd d.name->mg d.name=some (.ref fa) ->
     s₁.heap.get? a=some { cls:=.type "list",data:=.seq vs.toArray }->IntsAre vs ns->ns.length<=n->s₁.gens=#[] ->
     codeAny (model l.prog w) callerA (.call (.ref fa) ⟨[.ref a],[]⟩) (fun r s'=>r=.ok (.ret (.bool true))/\OldK s₁.heap s'.heap/\s'.os=s₁.os/\AllBare s'.gens) s₁) :
    WalkO q loose XP YP l.row.toRowW d [] (fun f vs=>PySem.call f vs):=by
 intro w s₀ s₁ mg mb G Y fa o pm cd doc dV kV ho hd hcd hD hmg hg args vals as hpre hlay hrd hwl hlo
 obtain rfl:dV=.none:=Dflts.none hD hdf
 obtain rfl:kV=.none:=Dflts.noKw hD
 obtain⟨a,vs,ns,rfl,rfl,hobj,hints,hlen⟩:=vq hn hpre hwl
 refine enter_call (codeAny_mono (call w s₀ s₁ mg mb fa o pm cd doc a vs ns G Y ho (fd_plain hd) hcd hmg hobj hints hlen hg) fun r s' hq=>?_)
 obtain⟨rfl,h2,h3,h4⟩:=hq
 exact⟨.inl ⟨.bool true,.bool true,[],rfl,fun _=>rfl,.bool true,vb l _,fun _=>⟨List.Pairwise.nil,fun _ hm=>(nomatch hm)⟩⟩,h2,h3,h4⟩
end Att
namespace L2
open PySem PySem.Spec PyProof.Rows
theorem oX:∀ {vs:List Value}{ns:List Int},IntsAre vs ns->Vals (ns.map V.int) vs
 | _,_,.nil=>.nil
 | _,_,.cons n t h=>.cons ⟨t,rfl⟩ (oX h)
def w8 (H:Hp):Prop:=∀b,H b=none∨∃o xs,H b=some (.frz o (.lst xs))
theorem wD {P:Program}{w:World}{K:W.Frag}{mg mb:Str -> Option Value}{CX:CXT}{k:Nat}{fa a:Addr}{fd:FuncData}{x:Str}{sp:Sp}{s₁:Shared}{vs:List Value}{ns:List Int}
    (KX:K.In s₁.heap) (hns:s₁.heap.Ns mainGlobals mg) (hb:s₁.heap.Ns builtinsNs mb) (hbb:∀x:Str,x≠"__name__"->mb x=bootBuiltins x) (hlim:s₁.heap.NoLimit) (hg:s₁.gens=#[])
    (ha:s₁.heap.get? a=some { cls:=.type "list",data:=.seq vs.toArray }) (hi:IntsAre vs ns) (hl:ns.length<=sizeLine) (hr:Room k callerA)
    (F:∀base:Heap,K.In base->base.Ns mainGlobals mg->FnOk P w K mg base CX k fa fd [x] sp) (hbind:∀(s:Shared) (u:Value),BindsTo s fd ⟨[u],[]⟩ [(x,u)])
    (hsp:∀H:Hp,w8 H->SqL K H a (ns.map V.int)->sp [.ref a] H (fun v _=>v=.bl true) fun _ _ _=>False)
    (hCX:∀H e s',CX [] H s₁ (fun _ _ _=>False) e s'->False) :
    codeAny (model P w) callerA (.call (.ref fa) ⟨[.ref a],[]⟩) (fun r s'=>r=.ok (.ret (.bool true))/\OldK s₁.heap s'.heap/\s'.os=s₁.os/\AllBare s'.gens) s₁:=by
 have rv:=oX hi
 have lenV:=hi.length
 have core:∀H:Hp, w8 H -> SqL K H a (ns.map V.int) -> HOk P w H s₁.heap -> (∀b, H b ≠ none -> b=a) -> (H a ≠ none -> K.lookup a=none) ->
     codeAny (model P w) callerA (.call (.ref fa) ⟨[.ref a],[]⟩) (fun r s'=>r=.ok (.ret (.bool true))/\OldK s₁.heap s'.heap/\s'.os=s₁.os/\AllBare s'.gens) s₁:=by
  intro H hO hS hok hA hK
  have base_of:∀ {b:Addr} {o:Obj},s₁.heap.get? b=some o->H b=none->(kf s₁.heap H).get? b=some o:=fun e n=>wP e n
  have noA:∀ {b:Addr} {o:Obj} {es:Array DictEntry} {ep:Nat},s₁.heap.get? b=some o->o.data=.dict es ep->H b=none:=fun {b o es ep} e d=>by
   cases q:H b with
   | none=>rfl
   | some u =>
    have e':b=a:=hA b (by rw[q];simp)
    subst e'
    rw[ha] at e;cases e
    have d':Data.seq vs.toArray _=Data.dict es ep:=d
    cases d'
  have nsK:∀ {b:Addr} {m:Str->Option Value},s₁.heap.Ns b m->(kf s₁.heap H).Ns b m:=fun {b m} ⟨o,es,ep,e,d,r⟩=>⟨o,es,ep,base_of e (noA e d),d,r⟩
  have hKb:K.In (kf s₁.heap H):=fun b o e=>base_of (KX b o e) (by
   cases q:H b with
   | none=>rfl
   | some u =>
    have e':b=a:=hA b (by rw[q];simp)
    subst e'
    rw[hK (by rw[q];simp)] at e;cases e)
  have hM:Mod K mg (kf s₁.heap H):=⟨hKb,nsK hns,⟨mb,nsK hb,hbb⟩,let ⟨mc,h1,h2⟩:=hlim;⟨mc,nsK h1,h2⟩⟩
  have e0:Env0 P w K mg (kf s₁.heap H) callerA [] s₁ H:=⟨rfl,hM,fun b o e=>zJ e,Nat.le_of_eq (wu _ _),trivial,fun b hb=>absurd (show b∈([]:List Addr) from hb) (by simp),hok,.of_eq hg⟩
  refine codeAny_mono ((F _ hKb (nsK hns)).run callerA [] s₁ H ⟨[.ref a],[]⟩ [.ref a] [.ref a] _ _ hr e0 (hbind s₁ (.ref a)) (.cons rfl .nil) (hsp H hO hS)) fun r s' h=>?_
  cases r with
  | error e=>exact(hCX H e s' h).elim
  | ok fl =>
   cases fl with
   | next=>exact False.elim h
   | brk=>exact False.elim h
   | cont=>exact False.elim h
   | ret u =>
    obtain⟨v,H',os,bare,un,hok',r',q⟩:=h
    have q':v=.bl true:=q
    subst q'
    obtain rfl:u=Value.bool true:=r'
    refine⟨rfl,OldK.of_keep fun b o e=>?_,os,bare⟩
    cases q:H b with
    | none=>exact un.keep b o e q (by intro z;exact absurd (show b∈([]:List Addr) from z) (by simp)) (by simp)
    | some u =>
     rcases hO b with z | ⟨ob,xs,z⟩
     ·rw[q] at z;cases z
     ·have z2:=un.frzs b ob _ z
      obtain⟨e1,_⟩:=hok b _ z
      obtain⟨e2,_⟩:=hok' b _ z2
      rw[e] at e1;cases e1
      exact e2
 cases hk:K.lookup a with
 | some o =>
  have e:=KX a o hk
  rw[ha] at e
  cases e
  refine core (fun _=>none) (fun _=>.inl rfl) (.inr ⟨_,vs.toArray,_,hk,rfl,rfl,rfl,by rw[aE,lenV];exact hl,by simpa using rv⟩) (fun b u z=>by have z':(none:Option HO)=some u:=z;cases z') (fun b z=>absurd rfl z) fun z=>absurd rfl z
 | none =>
  refine core (fun b=>if b=a then some (.frz { cls:=.type "list",data:=.seq vs.toArray } (.lst (ns.map V.int))) else none) (fun b=>?_) (.inl (.inr ⟨{ cls:=.type "list",data:=.seq vs.toArray },if_pos rfl⟩)) (fun b u z=>?_) (fun b z=>?_) fun _=>hk
  ·by_cases hb:b=a
   ·exact .inr ⟨_,_,if_pos hb⟩
   ·exact .inl (if_neg hb)
  ·by_cases hb:b=a
   ·have z':=(if_pos hb).symm.trans z
    cases z'
    subst hb
    exact⟨ha,by rw[ae];exact hl,vs,_,rv,ha⟩
   ·have z':=(if_neg hb).symm.trans z
    cases z'
  ·by_cases hb:b=a
   ·exact hb
   ·exact absurd (if_neg hb) z
theorem walk_of {l:W.OpenLaw}{n k:Nat}{q:Program}{loose:List Str}{XP:(Str -> Option Value) -> Heap -> Prop}{YP:World -> Heap -> Prop}{d:DefRec}{K:Params -> W.Frag}{CX:World -> CXT}{sp:World -> Sp}{x:Str}
    (hn:l.most=some n) (hn2:n<=sizeLine) (hdf:d.params.defaults=[]) (hr:Room k callerA)
    (hY:∀(w:World) (h:Heap),YP w h->(K w.params).In h)
    (F:∀(w:World) (mg:Str->Option Value) (fa:Addr) (h:Heap),(K w.params).In h->h.Ns mainGlobals mg->mg d.name=some (.ref fa) ->
     ∃fd:FuncData,(∀(s:Shared) (u:Value),BindsTo s fd ⟨[u],[]⟩ [(x,u)]) /\
      ∀base:Heap,(K w.params).In base->base.Ns mainGlobals mg->FnOk l.prog w (K w.params) mg base (CX w) k fa fd [x] (sp w))
    (hsp:∀(w:World) (H:Hp) (a:Addr) (ns:List Int),ns.length<=n->w8 H->SqL (K w.params) H a (ns.map V.int)->sp w [.ref a] H (fun v _=>v=.bl true) fun _ _ _=>False)
    (hCX:∀(w:World) (H:Hp) (s:Shared) (e:Value) (s':Shared),CX w [] H s (fun _ _ _=>False) e s'->False) :
    W.WalkO q loose XP YP l.row.toRowW d [] (fun f vs=>PySem.call f vs):=by
 refine Att.attach_call hn hdf fun w s₀ s₁ mg mb fa o pm cd doc a vs ns G Y ho hd hcd hmg hobj hints hlen hg=>?_
 have KX:=hY w _ Y
 obtain⟨fd,hb,hF⟩:=F w mg fa _ KX G.T.g hmg
 exact wD KX G.T.g G.T.b G.T.builtins G.T.nolimit hg hobj hints (aG hlen hn2) hr hF hb (fun H hO hS=>hsp w H a ns hlen hO hS) fun H e s'=>hCX w H s₁ e s'
def fW (s:Stmt):Arguments:=match s with
 | .FunctionDef _ a _ _ _ _ _ _ _ _=>a
 | _=>{ posonlyargs:=[],args:=[],vararg:=none,kwonlyargs:=[],kw_defaults:=[],kwarg:=none,defaults:=[] }
def fv (s:Stmt):List Stmt:=match s with
 | .FunctionDef _ _ b _ _ _ _ _ _ _=>b
 | _=>[]
def cI (s:Stmt):Scope:=match s with
 | .FunctionDef _ _ _ _ _ _ sc _ _ _=>sc
 | _=>{ kind:=.function,names:=[],isGenerator:=false,isCoroutine:=false }
abbrev CX0:CXT:=fun _ _ _ _ _ _=>False
abbrev E0:XK:=fun _ _ _=>False
theorem yi {X:Cx}:kD CX0 X E0:=fun _ _ _ _ _ _ _ h=>h.elim
structure Fun (K:W.Frag) (x qual:Str) (st:Stmt) (f:Addr) (fd:FuncData):Prop where
 ex:∃(oc:Value) (od:Option Addr) (kV doc pm:Value) (an:Option Addr) (cdv ct:Value) (osl:Array (Option Value)),
  fd=W.fnOf x qual (fW st) (fv st) (cI st) .none kV doc pm an cdv ct/\K.lookup f=some ⟨oc,od,.func fd,osl⟩/\W.codeIn K cdv qual=true
 kp:W.keepIn K (.ref f)=true
section
variable {P:Program}{w:World}{K:W.Frag}{mg:Str->Option Value}{base:Heap}
theorem Fun.ok {x qual:Str}{st:Stmt}{f:Addr}{fd:FuncData}{N ps:List Str}{k:Nat}{sp:Sp}(F:Fun K x qual st f fd) (S:FnScope N ps (cI st)) (len:∀vs H Q E, sp vs H Q E -> vs.length=ps.length)
    (hbody:∀(cdv:Value) (A:Around) (outer:List Env) (s:Shared) (H:Hp) (vs:List V) (Q:VK) (E:XK),Room k (A.deeper (envOfC qual (cI st) s.heap.objs.size f cdv))->sp vs H Q E ->
     ∃t,PSs (dQ CX0 P w K mg base N qual (cI st) f cdv A outer s H E).nox (fv st) t/\t { nx:=fun _ H'=>Q .non H',rt:=Q } (start N vs) H):FnOk P w K mg base CX0 (k+1) f fd ps sp:=by
 obtain⟨oc,od,kV,doc,pm,an,cdv,ct,osl,rfl,lk,hcd⟩:=F.ex
 refine yk lk hcd S len fun A outer s H vs Q E hr hsp=>?_
 obtain⟨t,h,q⟩:=hbody cdv A outer s H vs Q E hr hsp
 exact⟨t,h.nox,q⟩
theorem Fun.binds {x qual:Str}{st:Stmt}{f:Addr}{fd:FuncData}{ps:List Str}(F:Fun K x qual st f fd)
    (h:∀(kV doc pm:Value) (an:Option Addr) (cdv ct:Value) (us:List Value),us.length=ps.length->bindArgs (W.fnOf x qual (fW st) (fv st) (cI st) .none kV doc pm an cdv ct) ⟨us,[]⟩=pure (ps.zip us)):Binds K fd ps []:=by
 obtain⟨oc,od,kV,doc,pm,an,cdv,ct,osl,rfl,lk,hcd⟩:=F.ex
 exact .all (h kV doc pm an cdv ct)
theorem vT {x qual:Str}{st:Stmt}{f:Addr}{oc:Value}{od an:Option Addr}{osl:Array (Option Value)}{kV doc pm cdv ct:Value}(l:K.lookup f=some ⟨oc,od,.func (W.fnOf x qual (fW st) (fv st) (cI st) .none kV doc pm an cdv ct),osl⟩)
    (c:W.codeIn K cdv qual=true) (k:W.keepIn K (.ref f)=true):Fun K x qual st f (W.fnOf x qual (fW st) (fv st) (cI st) .none kV doc pm an cdv ct):=⟨⟨oc,od,kV,doc,pm,an,cdv,ct,osl,rfl,l,c⟩,k⟩
end
theorem cU {n:Nat}(h:n<=1000):n<sizeLine:=Nat.lt_of_le_of_lt h (by decide)
section
variable {X:Cx}
theorem pv (i:Nat) {x:Str}{pos:Pos}(hN:X.N[i]? = some x:=by rfl) (hv:Vis X.env.scope x:=by first | exact Or.inl rfl | exact Or.inr (Or.inl rfl) | exact Or.inr (Or.inr rfl)) (hd:(x==("__debug__":Str))=false:=by decide)
    (hcd:(x==("__classdict__":Str))=false:=by decide):PE X (.Name x pos) (A3 i):=AW hN hv hd hcd
theorem vX:gG X (.builtin "len") (fun xs H Q=>∃a kvs,xs=[V.ref a]/\H a=some (.dK kvs)/\Q (.int kvs.length) H):=by
 intro pins s σ H xs us Q I r h
 obtain⟨a,kvs,rfl,ha,q⟩:=h
 obtain⟨u,rfl,ru⟩:=fZ r
 cases ru
 exact BE I (.inl ha) fun t s' I'=>⟨.int kvs.length,H,I',⟨t,rfl⟩,q⟩
end
theorem fB {A B:Prop}(h:B):if false=true then A else B:=by
 rw[if_neg aN]
 exact h
theorem gI {A B:Prop}(h:A):if true=true then A else B:=by
 rw[if_pos rfl]
 exact h
theorem cR {c A B:Prop} [Decidable c] (h1:c->A) (h2:¬ c->B):if c then A else B:=by
 by_cases h:c
 ·rw[if_pos h]
  exact h1 h
 ·rw[if_neg h]
  exact h2 h
def Same (H H':Hp):Prop:=∀b o,H b=some o->H' b=some o
theorem Same.refl (H:Hp):Same H H:=fun _ _ h=>h
theorem Same.trans {H H1 H2:Hp}(a:Same H H1) (b:Same H1 H2):Same H H2:=fun c o h=>b c o (a c o h)
section
variable {κ:Type} [DecidableEq κ]
theorem xj {kvs:List (κ × V)}{k:κ}(h:dg kvs k=none):¬ k∈kvs.map (·.1):=by
 intro m
 obtain⟨p,hp,e⟩:=ao.mp m
 have q:(kvs.any fun kv=>decide (kv.1=k))=true:=ck.mpr ⟨p,hp,ak e⟩
 rw[gx,h] at q
 exact absurd q (by simp)
theorem yJ {kvs:List (κ × V)}{k:κ}{v:V}(h:dg kvs k=some v):k∈kvs.map (·.1):=by
 have q:(kvs.any fun kv=>decide (kv.1=k))=true:=by
  rw[gx,h]
  all_goals rfl
 obtain⟨p,hp,e⟩:=ck.mp q
 exact ao.mpr ⟨p,hp,aM e⟩
theorem sk:∀ {l:List κ}{k:κ},l.Nodup->¬ k∈l->(l++[k]).Nodup
 | [],k,_,_=>by simp
 | a::r,k,h,hk=>by
  obtain⟨h1,h2⟩:=ba.mp h
  show (a::(r++[k])).Nodup
  refine ba.mpr ⟨fun m=>?_,sk h2 fun m=>hk (aB.mpr (Or.inr m))⟩
  rcases aH.mp m with q | q
  ·exact h1 q
  ·exact hk (aB.mpr (Or.inl (aO.mp q).symm))
theorem zf {kvs:List (κ × V)}{k:κ}(v:V) (hn:(kvs.map (·.1)).Nodup) (h:dg kvs k=none):((dE kvs k v).map (·.1)).Nodup:=by
 rw[pY v h,aj]
 exact sk hn (xj h)
end
end L2
set_option maxHeartbeats 4000000
namespace L2
open PySem PySem.Spec PyProof.Rows
theorem og {env:Env}{f:Str × NameKind -> List (Str × Addr) -> Sem (ForInStep (List (Str × Addr)))}
    (f1:∀n k r,k≠NameKind.free->f (n,k) r=pure (.yield r))
    (f2:∀n c r,env.cells.lookup n=some c->f (n,NameKind.free) r=pure (.yield ((n,c)::r))) :
    ∀(names:List (Str × NameKind)) (acc:List (Str × Addr)),
    (∀y∈names,y.2=NameKind.free->∃c,env.cells.lookup y.1=some c) ->
    (∀x c,acc.lookup x=some c->env.cells.lookup x=some c) ->
    ∃cl,forIn names acc f=(pure cl:Sem (List (Str × Addr)))/\(∀x c,cl.lookup x=some c->env.cells.lookup x=some c) /\
     (∀x,(acc.lookup x).isSome=true->(cl.lookup x).isSome=true)/\∀y∈names,y.2=NameKind.free->(cl.lookup y.1).isSome=true
 | [],acc,_,h=>⟨acc,by rw[List.forIn_nil],h,fun _ q=>q,fun y hy=>nomatch hy⟩
 | (n, k) :: r, acc, hn, h => by
  by_cases hk:k=NameKind.free
  ·subst hk
   obtain⟨c,hc⟩:=hn (n,.free) bh rfl
   have hc':env.cells.lookup n=some c:=hc
   obtain⟨cl,e,a,b,d⟩:=og f1 f2 r ((n,c)::acc) (fun y hy=>hn y (aK _ hy)) (fun x c' q=>by
    rw[aY] at q
    cases e:x==n with
    | true =>
     rw[e] at q
     cases q
     rw[show x=n from LawfulBEq.eq_of_beq e]
     exact hc'
    | false =>
     rw[e] at q
     exact h x c' q)
   refine⟨cl,?_,a,fun x q=>b x ?_,fun y hy hf=>?_⟩
   ·rw[cm,f2 n c acc hc',pure_bind]
    exact e
   ·rw[aY]
    cases x==n with
    | true=>rfl
    | false=>exact q
   ·rcases aB.mp hy with rfl | hy
    ·refine b _ ?_
     rw[aY]
     simp
    ·exact d y hy hf
  ·obtain⟨cl,e,a,b,d⟩:=og f1 f2 r acc (fun y hy=>hn y (aK _ hy)) h
   refine⟨cl,?_,a,b,fun y hy hf=>?_⟩
   ·rw[cm,f1 n k acc hk,pure_bind]
    exact e
   ·rcases aB.mp hy with rfl | hy
    ·exact absurd hf hk
    ·exact d y hy hf
theorem rM {scope:Scope}{env:Env}(hf:∀y ∈ scope.names, y.2=NameKind.free -> ∃c, env.cells.lookup y.1=some c) :
    ∃cl,closureFor scope env=pure cl/\(∀x c,cl.lookup x=some c->env.cells.lookup x=some c) /\
     ∀y∈scope.names,y.2=NameKind.free->∃c,cl.lookup y.1=some c:=by
 have go:=og (env:=env) (f:=fun (x:Str × NameKind) (r:List (Str × Addr))=>match x with
     | (name,kind)=>if (kind==NameKind.free)=true then do let c ← cellOf env name;pure (ForInStep.yield ((name,c)::r)) else pure (ForInStep.yield r))
  (fun n k r hk=>by
   have z:(k==NameKind.free)=false:=by simpa using hk
   simp only[z,bM,if_false])
  (fun n c r hc=>by
   simp only[beq_self_eq_true,if_true,cellOf,hc,pure_bind])
  scope.names [] hf (fun x c q=>by cases q)
 obtain⟨cl,e,a,_,d⟩:=go
 refine⟨cl,?_,a,fun y hy z=>cg.mp (d y hy z)⟩
 simp only[closureFor]
 first
  | exact e
  | (simp only[bind_pure];exact e)
  | (refine Eq.trans ?_ e;simp only[bind_pure])
def cxC (X:Cx) (scope:Scope) (N:List Str) (cl:List (Str × Addr)) (C:Addr) (s₀:Shared) (H₀:Hp) (ex:List Addr):Cx where
 prog:=X.prog
 w:=X.w
 K:=X.K
 mg:=X.mg
 base:=X.base
 A:=X.A
 N:=N
 s₀:=s₀
 H₀:=H₀
 env:=compEnvC scope cl C X.env
 outer:=X.stack
 stack:=X.stack
 ex:=ex
 fn:=fun _=>false
 calm:=X.calm
 pn:=[]
 xe:=fun _ _=>False
def hV (k:Nat) (fr:List Nat) (σ:St):St:=List.replicate k none++fr.map fun i=>(σ[i]?).join
def AN (osc scope:Scope) (NX:List Str) (fr:List Nat):Bool:=fr.all fun i=>match NX[i]? with
 | some x=>(decide (osc.names.lookup x=some .cell)||decide (osc.names.lookup x=some .free))&&decide (scope.names.lookup x=some .free)
 | none=>false
structure CompSc (osc scope:Scope) (NX own:List Str) (fr:List Nat) (N:List Str):Prop where
 kind:scope.kind=.function
 nocell:∀y∈scope.names,y.2≠NameKind.cell
 loc:∀y∈scope.names,y.2=NameKind.local->scope.names.lookup y.1=some .local
 free:∀y∈scope.names,y.2=NameKind.free->osc.names.lookup y.1=some .cell∨osc.names.lookup y.1=some .free
 names:N.map some=own.map some++fr.map fun i=>NX[i]?
 outer:AN osc scope NX fr=true
def nk (osc scope:Scope) (NX own:List Str) (fr:List Nat) (N:List Str):Bool :=
 decide (scope.kind=.function)&&(scope.names.all (fun y=>decide (y.2≠NameKind.cell))&&(scope.names.all (fun y=>decide (y.2=NameKind.local->scope.names.lookup y.1=some .local)) &&
  (scope.names.all (fun y=>decide (y.2=NameKind.free->(osc.names.lookup y.1=some .cell∨osc.names.lookup y.1=some .free)))&&(decide (N.map some=own.map some++fr.map fun i=>NX[i]?)&&AN osc scope NX fr))))
theorem CompSc.of {osc scope:Scope}{NX own:List Str}{fr:List Nat}{N:List Str}(h:nk osc scope NX own fr N=true):CompSc osc scope NX own fr N:=by
 unfold nk at h
 simp only[bf,decide_eq_true_eq,bo] at h
 obtain⟨h1,h2,h3,h4,h5,h6⟩:=h
 exact⟨h1,h2,h3,h4,h5,h6⟩
theorem CompSc.len {osc scope:Scope}{NX own:List Str}{fr:List Nat}{N:List Str}(S:CompSc osc scope NX own fr N):N.length=own.length+fr.length:=by
 have h:=congrArg List.length S.names
 simpa using h
theorem ib {env:Env}:∀ {names:List (Str × NameKind)}{x:Str}, names.lookup x=some .free ->
    (names.map fun (n,k)=>if (k==NameKind.free&&env.scope.kind==.function&&env.kindOf n==some .cell) then (n,NameKind.cell) else (n,k)).lookup x=some .cell ∨
    (names.map fun (n,k)=>if (k==NameKind.free&&env.scope.kind==.function&&env.kindOf n==some .cell) then (n,NameKind.cell) else (n,k)).lookup x=some .free
 | [],_,h=>by simp at h
 | (n,k)::r,x,h=>by
  have ih:=@ib env r x
  cases hx:x==n with
  | true =>
   simp only[aY,hx] at h
   cases h
   simp only[aQ]
   split
   ·left;simp[aY,hx]
   ·right;simp[aY,hx]
  | false =>
   simp only[aY,hx] at h
   simp only[aQ]
   split
   ·simp only[aY,hx];exact ih h
   ·simp only[aY,hx];exact ih h
theorem nh {env:Env}:∀ {names:List (Str × NameKind)}{x:Str}{k':NameKind},
    (names.map fun (n,k)=>if (k==NameKind.free&&env.scope.kind==.function&&env.kindOf n==some .cell) then (n,NameKind.cell) else (n,k)).lookup x=some k' ->
    k'=.cell∨k'=.free->(∀y∈names,y.2≠NameKind.cell)->∃y∈names,y.1=x/\y.2=.free
 | [],_,_,h,_,_=>by simp at h
 | (n, k) :: r, x, k', h, hk, nc => by
  have ih:=@nh env r x k'
  simp only[aQ] at h
  cases hx:x==n with
  | true =>
   have ex:x=n:=LawfulBEq.eq_of_beq hx
   refine⟨(n,k),bh,ex.symm,?_⟩
   have nck:k≠.cell:=nc (n,k) bh
   by_cases z:k=.free
   ·exact z
   ·have zb:(k==NameKind.free)=false:=by simpa using z
    simp only[zb,Bool.false_and,bM,if_false,aY,hx] at h
    cases h
    rcases hk with q | q
    ·exact absurd q nck
    ·exact absurd q z
  | false =>
   have h':(r.map fun (n,k)=>if (k==NameKind.free&&env.scope.kind==.function&&env.kindOf n==some .cell) then (n,NameKind.cell) else (n,k)).lookup x=some k':=by
    split at h
    ·simpa only[aY,hx] using h
    ·simpa only[aY,hx] using h
   obtain⟨y,hy,a,b⟩:=ih h' hk fun z hz=>nc z (aK _ hz)
   exact⟨y,aK _ hy,a,b⟩
section
variable {X:Cx}{pins:List (Addr × Obj)}{σ:St}{H:Hp}{s:Shared}
def PTs (X:Cx) (ifs:List Expr) (t:TT):Prop :=
 ∀(pins:List (Addr × Obj)) (s:Shared) (σ:St) (H:Hp) (Q:Bool->Hp->Prop),Inv X pins σ H s->t σ H Q ->
  wpAny (model X.prog X.w) X.A (forIn ifs true fun c r=>if r=true then do let ok ← isTrue c X.env (eval c X.env);pure (ForInStep.yield ok) else pure (ForInStep.yield r)) (TP X pins σ Q) X.xe s
def ug:TT:=fun _ H Q=>Q true H
theorem fw:PTs X [] ug:=fun _ _ _ H _ I h=>wpAny_tests_nil ⟨H,I,h⟩
theorem fH {c:Expr}{t:TT}(h:PT X c t):PTs X [c] t:=fun pins s σ H Q I q=>wpAny_tests_one (h pins s σ H Q I q)
theorem nx {α:Type}{t:Sem α}{Q Q':α->Shared->Prop}{M:Model}{A:Around}{E:Value->Shared->Prop}{s:Shared}(h:wpAny M A t Q (fun _ _=>False) s) (hQ:∀a s,Q a s->Q' a s):wpAny M A t Q' E s :=
 bj h hQ fun _ _ f=>f.elim
theorem wm {scope:Scope}{own:List Str}{fr:List Nat}{N:List Str}{cl:List (Str × Addr)}{s3 s4:Shared}{H3:Hp}{fp:List Addr}{m:Str -> Option Value}
    (hc:X.calm=true) (S:CompSc X.env.scope scope X.N own fr N)
    (c1:∀x c,cl.lookup x=some c->X.env.cells.lookup x=some c) (c2:∀y∈scope.names,y.2=NameKind.free->∃c,cl.lookup y.1=some c)
    (I3:Inv X pins σ H3 s3) (f3:∀b∈fp,hU X pins H3 b/\b<s3.heap.objs.size)
    (hk:∀b o,s3.heap.get? b=some o->s4.heap.get? b=some o) (hn:s4.heap.Ns s3.heap.objs.size m) (ho:s4.os=s3.os) (hg:s4.gens=s3.gens) :
    Inv (cxC X scope N cl s3.heap.objs.size s3 H3 fp) [] (hV own.length fr σ) H3 s4:=by
 have kindF:(compEnvC scope cl s3.heap.objs.size X.env).scope.kind=.function:=by
  show (relabel scope X.env).kind=.function
  exact S.kind
 refine⟨⟨I3.ok.mod,kindF,I3.ok.glob,I3.ok.blt,ac _,?_,?_,?_,I3.ok.hd,I3.ok.frames,.inl rfl,?_,?_,?_,?_,?_,I3.stack,I3.stkFree⟩,ho,?_,Un.kept hk,⟨m,hn,?_⟩,?_,?_,?_,?_,I3.hok.kept hk,?_⟩
 ·exact fun x y c h1 h2=>I3.ok.inj x y c (c1 x c h1) (c1 y c h2)
 ·intro x hx
  have hx':(relabel scope X.env).names.lookup x=some .cell∨(relabel scope X.env).names.lookup x=some .free:=hx
  obtain⟨k',hk',hkk⟩:∃k',(relabel scope X.env).names.lookup x=some k'/\(k'=NameKind.cell∨k'=NameKind.free):=by
   rcases hx' with q | q
   ·exact⟨_,q,.inl rfl⟩
   ·exact⟨_,q,.inr rfl⟩
  obtain⟨y,hy,e,hf⟩:=nh (env:=X.env) hk' hkk S.nocell
  subst e
  exact c2 y hy hf
 ·exact fun x c h=>by cases h
 ·intro b hb
  obtain⟨f,hl⟩:=f3 b hb
  refine⟨aD hl,fun x c h=>f.2.2.2.2.1 x c (c1 x c h)⟩
 ·exact fun b o e=>I3.bs b o e
 ·exact aG I3.ok.bsz I3.sz
 ·intro b o e hb
  obtain⟨f,hl⟩:=f3 b hb
  rcases f.2.2.2.1 with z | z
  ·exact I3.ok.noex b o e z
  ·exact absurd (aZ (ag e) (aG I3.ok.bsz z)) (bu _)
 ·intro b hb
  obtain⟨f,hl⟩:=f3 b hb
  show b∉frs X.stack
  intro z
  rcases aB.mp (I3.stkSub b z) with q | q
  ·exact f.2.1 q
  ·exact f.2.2.1 q
 ·rw[hg];exact I3.bare
 ·intro i x v h1 h2 h3
  have h1:N[i]? = some x:=h1
  obtain⟨m0,hn0,hl0⟩:=I3.loc
  have hi:own.length<=i:=by
   refine Nat.le_of_not_lt fun q=>?_
   unfold hV at h2
   rw[cz (by simpa using q),List.getElem?_replicate] at h2
   split at h2 <;> cases h2
  obtain⟨j,rfl⟩:=Nat.exists_eq_add_of_le hi
  have h2':(fr.map fun i=>(σ[i]?).join)[j]? = some (some v):=by
   unfold hV at h2
   rw[List.getElem?_append_right (by simp)] at h2
   simpa using h2
  rw[aI] at h2'
  cases ej:fr[j]? with
  | none=>rw[ej] at h2';cases h2'
  | some k =>
   rw[ej] at h2'
   have e2:(σ[k]?).join=some v:=am h2'
   have eσ:σ[k]? = some (some v):=by
    cases q:σ[k]? with
    | none=>rw[q] at e2;cases e2
    | some o=>rw[q] at e2;exact congrArg some e2
   have eN:X.N[k]? = some x:=by
    have q:=congrArg (fun l=>l[own.length+j]?) S.names
    simp only[aI,h1,List.getElem?_append_right (show (own.map some).length<=own.length+j by simp),ae,Nat.add_sub_cancel_left,ej,Option.map_some] at q
    exact(am q).symm
   have ok:=bo.mp S.outer k (au ej)
   rw[eN] at ok
   simp only[bf,Bool.or_eq_true,decide_eq_true_eq] at ok
   obtain⟨ok1,ok2⟩:=ok
   have vis:Vis X.env.scope x:=.inr ok1
   obtain⟨u,r,l⟩:=hl0 k x v eN eσ vis
   refine⟨u,r,?_⟩
   rcases l with⟨l,_⟩ | ⟨_,c,e,z⟩
   ·have l:X.env.scope.names.lookup x=some .local:=l
    rcases ok1 with q | q
    ·rw[l] at q;cases q
    ·rw[l] at q;cases q
   ·obtain⟨c',e'⟩:=c2 (x,.free) (PySem.mem_of_lookup ok2) rfl
    have e':cl.lookup x=some c':=e'
    have ec:c'=c:=am ((c1 x c' e').symm.trans e)
    subst ec
    refine .inr ⟨ib (env:=X.env) ok2,c',e',?_⟩
    obtain⟨o,h1,h2⟩:=z
    exact⟨o,hk _ _ h1,h2⟩
 ·intro x c e
  obtain⟨v,o,h1,h2⟩:=I3.cell x c (c1 x c e)
  exact⟨v,o,hk _ _ h1,h2⟩
 ·exact I3.hok.fresh (ac _)
 ·exact fun x c e=>I3.freeC x c (c1 x c e)
 ·intro p hp
  exact absurd hp (by simp[cxC])
 ·show (hV own.length fr σ).length=N.length
  rw[S.len]
  simp[hV]
end
section
variable {prog:Program}{w:World}{A:Around}{R:Result->Shared->Prop}{s:Shared}
theorem u7 {elt tg iter:Expr}{ifs:List Expr}{scope:Scope}{pos:Pos}{it acc:Value}{env:Env}(J:Nat -> Shared -> Prop)
    (turn:∀k s, J k s -> ∀E:Value -> Shared -> Prop, wpAny (model prog w) A (pyNext it) (fun r s1 => match r with
     | none=>R (.ok .next) s1
     | some v => wpAny (model prog w) A (letOwnedTupleGo tg it v) (fun _ s2 => wpAny (model prog w) A (assign tg env v) (fun _ s3 =>
         wpAny (model prog w) A (forIn ifs true fun c r=>if r=true then do let ok ← isTrue c env (eval c env);pure (ForInStep.yield ok) else pure (ForInStep.yield r)) (fun ok s4 =>
          if ok=true then wpAny (model prog w) A (eval elt env) (fun x s5=>wpAny (model prog w) A (call (.builtin "list.append") [acc,x]) (fun _ s6=>∃m,m<k/\J m s6) E s5) E s4
          else ∃m,m<k/\J m s4) E s3) E s2) E s1) E s)
    (k:Nat) (h:J k s):codeAny (model prog w) A (.compLoop (.ListComp elt [⟨tg,iter,ifs,0⟩] scope pos) 0 it acc env) R s:=by
 refine codeAny_loop rfl J (fun k s hJ=>?_) k h
 show wpAny _ A ((compTurn (.ListComp elt [⟨tg,iter,ifs,0⟩] scope pos) 0 it acc env).onRaise (fun e=>do noteFrame e env;theTreesLotGoes e)) _ _ s
 refine wpAny_noted ?_
 rw[compTurn_list]
 refine aa (wpAny_standAt (aa (thn (turn k s hJ _) fun r s1 h1=>?_)))
 cases r with
 | none=>exact af h1
 | some v =>
  refine aa (thn h1 fun _ s2 h2=>aa (thn h2 fun _ s3 h3=>aa (thn h3 fun ok s4 h4=>?_)))
  cases ok with
  | false=>exact af ⟨rfl,h4⟩
  | true=>exact aa (aa (thn h4 fun x s5 h5=>aa (thn h5 fun _ s6 h6=>af (af ⟨rfl,h6⟩))))
end
def gw (k:Nat) (fr:List Nat) (g:TG) (tc:TT) (te:TE) (J:It) (σ:St) (H1:Hp) (Q:VK):Prop :=
 ∀D,H1 D=none->∃W:Nat->Nat->List V->St->Hp->Prop,(∃m,W 0 m [] (hV k fr σ) (upd H1 D (.lst [])))/\∀i m acc σ' H',W i m acc σ' H'->H' D=some (.lst acc) ->
  (J.stop i H'/\Q (.ref D) H')∨(J.go i H'/\∃N:List V->St->Hp->Prop,(∀acc' σ2 H2,N acc' σ2 H2->∃m',m'<m/\W (i+1) m' acc' σ2 H2)/\∀x H2,J.yld i H' x H2->g x σ' H2 fun σ2 H3=>tc σ2 H3 fun b H4 =>
   if b=true then te σ2 H4 fun y H5=>H5 D=some (.lst acc)/\acc.length<sizeLine/\N (acc++[y]) σ2 (upd H5 D (.lst (acc++[y])))
   else H4 D=some (.lst acc)/\N acc σ2 H4)
def yq (k:Nat) (fr:List Nat) (wi:TI) (g:TG) (tc:TT) (te:TE):TE:=fun σ H Q=>wi σ H fun J H1=>gw k fr g tc te J σ H1 Q
section
variable {X:Cx}{pins:List (Addr × Obj)}{σ:St}{H:Hp}{s:Shared}{tg elt iter:Expr}{ifs:List Expr}{scope:Scope}{pos:Pos}
theorem mW {own:List Str}{fr:List Nat}{N:List Str}{cl:List (Str × Addr)}{H2:Hp}{s2:Shared}{fp:List Addr}{it:Addr}{J:It}{tn:Nat -> Heap -> Prop}{g:TG}{tc:TT}{te:TE}{Q:VK}{E:Value -> Shared -> Prop}{POST:Value -> Addr -> Result -> Shared -> Prop}
    (hc:X.calm=true) (S:CompSc X.env.scope scope X.N own fr N)
    (c1:∀x c,cl.lookup x=some c->X.env.cells.lookup x=some c) (c2:∀y∈scope.names,y.2=NameKind.free->∃c,cl.lookup y.1=some c)
    (hg:∀C s₀ H₀ ex,PG (cxC X scope N cl C s₀ H₀ ex) tg g) (ht:∀C s₀ H₀ ex,PTs (cxC X scope N cl C s₀ H₀ ex) ifs tc) (he:∀C s₀ H₀ ex,PE (cxC X scope N cl C s₀ H₀ ex) elt te)
    (I2:Inv X pins σ H2 s2) (T:Turn X.prog X.w X.K tg J fp it tn) (t2:tn 0 s2.heap) (f2:∀b∈fp,hU X pins H2 b) (q:gw own.length fr g tc te J σ H2 Q)
    (fin:∀D C s' H' m,Inv X pins σ H' s'->hU X pins H' C->s'.heap.Ns C m->Q (.ref D) H'->POST (.ref D) C (.ok .next) s') :
    wpAny (model X.prog X.w) X.A (newList []) (fun acc s3=>wpAny (model X.prog X.w) X.A (newFunctionEnv scope X.env.globals cl [] X.env.qual none .none (some X.env)) (fun cenv s4 =>
     codeAny (model X.prog X.w) X.A (.compStart (.ListComp elt [⟨tg,iter,ifs,0⟩] scope pos) 0 (.ref it) acc { cenv with scope:=relabel scope X.env }) (POST acc cenv.locals) s4) E s3) E s2:=by
 refine wpAny_newObj_type (wpAny_newFunctionEnv S.nocell (by intro y hy;simp at hy) (fun h4 ns4 sb4=>?_) S.kind)
 dsimp only at ns4 sb4 ⊢
 have hD:H2 s2.heap.objs.size=none:=I2.hok.fresh (ac _)
 obtain⟨W,⟨m0,w0⟩,turn⟩:=q s2.heap.objs.size hD
 have I3:Inv X pins σ (upd H2 s2.heap.objs.size (.lst [])) { s2 with heap:=s2.heap.push { cls:=.type "list",dict:=none,data:=.seq ([]:List Value).toArray },toks:=s2.toks } :=
  I2.laid (fun b u q=>ai _ q) (ac _) ⟨aP _,[],_,.nil,aA _ rfl⟩
 generalize hh3:s2.heap.push { cls:=.type "list",dict:=none,data:=.seq ([]:List Value).toArray }=h3 at *
 have z3:h3.objs.size=s2.heap.objs.size+1:=by rw[<- hh3,bv]
 have k23:∀b o,s2.heap.get? b=some o->h3.get? b=some o:=fun b o e=>by rw[<- hh3];exact ai _ e
 have k34:∀b o,h3.get? b=some o->h4.get? b=some o:=fun b o e=>sb4.extBut b o (aD (ag e)) (ai _ e)
 have fpl:∀b∈fp,b<s2.heap.objs.size:=fun b hb=>by
  obtain⟨o,e,_⟩:=T.obj _ _ t2 b hb
  exact ag e
 have f3:∀b∈fp,hU X pins (upd H2 s2.heap.objs.size (.lst [])) b/\b<h3.objs.size:=fun b hb=>by
  refine⟨⟨?_,(f2 b hb).2⟩,by rw[z3];exact Nat.lt_succ_of_lt (fpl b hb)⟩
  rw[cJ (aD (fpl b hb))]
  exact(f2 b hb).1
 generalize hs3:({ s2 with heap:=h3,toks:=s2.toks }:Shared)=s3 at I3
 have es3:s3.heap=h3:=by rw[<- hs3]
 have hs3':({ s2 with heap:=h3 }:Shared)=s3:=hs3
 have I4:=wm (s3:=s3) (s4:={ s3 with heap:=h4,toks:=s3.toks+([]:List (Str × Value)).length }) hc S c1 c2 I3 (by rw[es3];exact f3) (by rw[es3];exact k34) (m:=fun x=>([]:List (Str × Value)).reverse.lookup x) (by rw[es3];exact ns4) rfl rfl
 rw[es3] at I4
 have stat:∀ {H':Hp} {s':Shared} {σ':St} {pl:List (Addr × Obj)},Inv (cxC X scope N cl h3.objs.size s3 (upd H2 s2.heap.objs.size (.lst [])) fp) pl σ' H' s'->(∀p∈pl,p.1∉fp)->(∀b∈fp,H' b=none)->∀b∈fp,hU (cxC X scope N cl h3.objs.size s3 (upd H2 s2.heap.objs.size (.lst [])) fp) pl H' b:=fun {H' s' σ' pl} I' hpl hn b hb=>by
  refine⟨hn b hb,aD (f3 b hb).2,I'.ok.exfs b hb,.inl hb,fun x c e=>(f2 b hb).2.2.2.2.1 x c (c1 x c e),fun p hp=>?_⟩
  intro z
  exact hpl p (by simpa [cxC] using hp) (z ▸ hb)
 have loop:∀s4:Shared, s4={ s3 with heap := h4, toks := s3.toks+([]:List (Str × Value)).length } ->
     codeAny (model X.prog X.w) X.A (.compLoop (.ListComp elt [⟨tg,iter,ifs,0⟩] scope pos) 0 (.ref it) (.ref s2.heap.objs.size) (compEnvC scope cl h3.objs.size X.env)) (POST (.ref s2.heap.objs.size) h3.objs.size) s4:=by
  rintro s4 rfl
  refine u7 (fun n s'=>∃i acc σ' H',Inv (cxC X scope N cl h3.objs.size s3 (upd H2 s2.heap.objs.size (.lst [])) fp) [] σ' H' s'/\tn i s'.heap/\(∀b∈fp,H' b=none)/\H' s2.heap.objs.size=some (.lst acc)/\W i n acc σ' H') ?_ m0
   ⟨0,[],_,_,I4,T.keep _ _ _ t2 fun b hb o e=>k34 b o (k23 b o e),fun b hb=>(f3 b hb).1.1,cE,w0⟩
  rintro n s5 ⟨i,acc,σ5,H5,I5,t5,fr5,d5,w5⟩ E'
  rcases turn i n acc σ5 H5 w5 d5 with⟨stop,qn⟩ | ⟨go,NN,hNN,step⟩
  ·refine thn (T.done (cxC X scope N cl h3.objs.size s3 (upd H2 s2.heap.objs.size (.lst [])) fp) rfl rfl rfl hc i [] s5 σ5 H5 E' I5 (stat I5 (by simp) fr5) t5 stop) fun r s6 ⟨hr,I6⟩=>?_
   subst hr
   obtain⟨m6,n6,_⟩:=id I6.loc
   have J6:Inv X pins σ H5 s6:=I3.call' (ch:=fp) I6.os I6.base I6.hok I6.bare fun b hb=>⟨(f2 b hb).2.2.2.1,(f2 b hb).2.1,(f2 b hb).2.2.2.2.1,(f2 b hb).2.2.2.2.2⟩
   exact fin _ _ s6 H5 m6 J6 (I2.fpOk (by rw[z3];exact bN _) I6.free) n6 qn
  ·refine thn (T.item (cxC X scope N cl h3.objs.size s3 (upd H2 s2.heap.objs.size (.lst [])) fp) rfl rfl rfl hc i [] s5 σ5 H5 E' I5 (stat I5 (by simp) fr5) t5 go) fun r s6 ⟨u,hr,h6⟩=>?_
   subst hr
   refine thn h6 fun _ s7 ⟨x,H7,I7,r7,y7,t7,fr7⟩=>?_
   have I7':=I7.pinned (stat I7 (by simp) fr7) (T.obj _ _ t7)
   have backTn:∀ {s':Shared} {H':Hp} {σ':St},Inv (cxC X scope N cl h3.objs.size s3 (upd H2 s2.heap.objs.size (.lst [])) fp) ([]++kG fp s7.heap) σ' H' s'->tn (i+1) s'.heap/\∀b∈fp,H' b=none:=fun {s' H' σ'} I'=>by
    refine⟨T.keep _ _ _ t7 fun b hb o e=>(I'.pin (b,o) (be _ (be _ (iN hb e)))).1,fun b hb=>?_⟩
    obtain⟨o,e,_⟩:=T.obj _ _ t7 b hb
    exact(I'.pin (b,o) (be _ (be _ (iN hb e)))).2.1
   refine nx (hg _ _ _ _ _ s7 σ5 H7 x u _ I7' r7 (step x H7 y7)) fun _ s8 ⟨σ8,H8,I8,q8⟩=>?_
   refine nx (ht _ _ _ _ _ s8 σ8 H8 _ I8 q8) fun ok s9 ⟨H9,I9,q9⟩=>?_
   cases ok with
   | false =>
    obtain⟨d9,n9⟩:=q9
    obtain⟨m',hm,w9⟩:=hNN _ _ _ n9
    obtain⟨a1,a2⟩:=backTn I9
    exact⟨m',hm,i+1,acc,σ8,H9,I9.unpinned,a1,a2,d9,w9⟩
   | true =>
    rw[if_pos rfl]
    refine nx (he _ _ _ _ _ s9 σ8 H9 _ I9 q9) fun y s10 ⟨v,H10,I10,r10,d10,l10,n10⟩=>?_
    obtain⟨m',hm,w10⟩:=hNN _ _ _ n10
    refine nx (pz _ s10 σ8 H10 (.ref s2.heap.objs.size) [v] (.ref s2.heap.objs.size) [y] (fun _ H'=>H'=upd H10 s2.heap.objs.size (.lst (acc++[v]))) I10 rfl (.cons r10 .nil) ⟨_,acc,v,rfl,rfl,d10,l10,rfl⟩) fun _ s11 ⟨_,H11,I11,_,e11⟩=>?_
    subst e11
    obtain⟨a1,a2⟩:=backTn I11
    exact⟨m',hm,i+1,_,σ8,_,I11.unpinned,a1,a2,cE,w10⟩
 exact codeAny_compStart_list (loop _ (by rw[<- hs3])) (T.self _ 0 _ _ _ (T.keep _ _ _ t2 fun b hb o e=>k34 b o (k23 b o e)) (loop _ (by rw[<- hs3])))
theorem dS (osc:Scope) (NX own:List Str) (fr:List Nat) (N:List Str) {wi:TI}{g:TG}{tc:TT}{te:TE}(hc:X.calm=true)
    (hi:PI X tg iter wi) (hg:∀cl C s₀ H₀ ex,PG (cxC X scope N cl C s₀ H₀ ex) tg g) (ht:∀cl C s₀ H₀ ex,PTs (cxC X scope N cl C s₀ H₀ ex) ifs tc) (he:∀cl C s₀ H₀ ex,PE (cxC X scope N cl C s₀ H₀ ex) elt te)
    (hs:∀x,foldedSetIterable iter X.env x=pure x:=by intro _;rfl) (hosc:X.env.scope=osc:=by rfl) (hNX:X.N=NX:=by rfl) (hS:nk osc scope NX own fr N=true:=by decide +kernel) :
    PE X (.ListComp elt [⟨tg,iter,ifs,0⟩] scope pos) (yq own.length fr wi g tc te):=by
 intro pins s σ H Q I h
 have S:CompSc X.env.scope scope X.N own fr N:=by rw[hosc,hNX];exact CompSc.of hS
 obtain⟨cl,ecl,c1,c2⟩:=rM (scope:=scope) (env:=X.env) fun y hy hf=>I.ok.has y.1 (S.free y hy hf)
 rw[eval_ListComp]
 refine wpAny_comprehension_free (use:=none) rfl hs ecl S.kind S.loc (thn (hi pins s σ H _ I h) fun v s1 h1=>thn h1 fun itv s2 h2=>?_)
 obtain⟨it,fp,tn,J,H2,e,I2,T,t2,f2,q⟩:=h2
 subst e
 refine mW (POST:=fun acc C=>compPost (model X.prog X.w) X.A X.xe none (EP X pins σ Q) acc C) hc S c1 c2 (hg cl) (ht cl) (he cl) I2 T t2 f2 q fun D C s' H' m I' fC ns q'=>?_
 refine⟨m,ns,fun h' sb=>⟨.ref D,H',?_,rfl,q'⟩⟩
 obtain⟨g0,g1,_,g3,g4,g5⟩:=fC
 exact I'.turned (t':=s'.toks) (fun b o hb e=>(sb.2 b hb).trans e) g0 g1 g3 g4 g5
theorem jx {wi:TI}{g:TG}{tc:TT}{te:TE}{i:Nat}{x:Str}{px spos:Pos}(hN:X.N.Nodup) (hi':X.N[i]? = some x) (hx:X.env.scope.names.lookup x=some .local)
    (hsw:swapsWith (.ListComp elt [⟨tg,iter,ifs,0⟩] scope pos) (some (.Name x px)) spos.line X.env=pure true)
    (osc:Scope) (NX own:List Str) (fr:List Nat) (N:List Str) (hc:X.calm=true)
    (hi:PI X tg iter wi) (hg:∀cl C s₀ H₀ ex,PG (cxC X scope N cl C s₀ H₀ ex) tg g) (ht:∀cl C s₀ H₀ ex,PTs (cxC X scope N cl C s₀ H₀ ex) ifs tc) (he:∀cl C s₀ H₀ ex,PE (cxC X scope N cl C s₀ H₀ ex) elt te)
    (hs:∀x,foldedSetIterable iter X.env x=pure x:=by intro _;rfl) (hosc:X.env.scope=osc:=by rfl) (hNX:X.N=NX:=by rfl) (hS:nk osc scope NX own fr N=true:=by decide +kernel) :
    PS X (.Assign [.Name x px] (.ListComp elt [⟨tg,iter,ifs,0⟩] scope pos) spos) (tY (yq own.length fr wi g tc te) (eF i)):=by
 intro pins s σ H D I h
 have S:CompSc X.env.scope scope X.N own fr N:=by rw[hosc,hNX];exact CompSc.of hS
 obtain⟨cl,ecl,c1,c2⟩:=rM (scope:=scope) (env:=X.env) fun y hy hf=>I.ok.has y.1 (S.free y hy hf)
 rw[exec_Assign_Name_used _ _ _ _ hsw]
 refine aa (wpAny_standAt (aa ?_))
 show wpAny _ X.A (do let _ ← comprehension (.ListComp elt [⟨tg,iter,ifs,0⟩] scope pos) scope X.env _ (newList []) false (eval iter X.env) (some (assign (.Name x px) X.env))) _ _ s
 refine aa (thn (wpAny_comprehension_free (use:=some (assign (.Name x px) X.env)) (Q:=fun _ s'=>SP X pins D .next s') rfl hs ecl S.kind S.loc (thn (hi pins s σ H _ I h) fun v s1 h1=>thn h1 fun itv s2 h2=>?_)) fun _ s' hq=>af (af hq))
 obtain⟨it,fp,tn,J,H2,e,I2,T,t2,f2,q⟩:=h2
 subst e
 refine mW (POST:=fun acc C=>compPost (model X.prog X.w) X.A X.xe (some (assign (.Name x px) X.env)) (fun _ s'=>SP X pins D .next s') acc C) hc S c1 c2 (hg cl) (ht cl) (he cl) I2 T t2 f2 q fun D' C s' H' m I' fC ns q'=>?_
 show wpAny _ X.A (assign (.Name x px) X.env (.ref D')) _ _ s'
 refine wpAny_assign_Name (oM I' hN hi' (.inl hx) (show RelV (.ref D') (.ref D') from rfl) (fun s3 I3 sb=>?_) (.inr hx))
 obtain⟨a,sb,ha⟩:=sb
 obtain⟨g0,g1,g2,g3,g4,g5⟩:=fC
 have aC:C≠a:=by
  rcases ha with z | z
  ·rw[z];exact g1
  ·exact fun w=>g4 x a z w.symm
 refine⟨m,ns.sameBut sb aC,fun h' sb'=>⟨_,H',?_,q'⟩⟩
 exact I3.turned (t':=s3.toks) (fun b o hb e=>(sb'.2 b hb).trans e) g0 g1 g3 g4 g5
end
def sgV (x:Str) (i:Nat):Option V:=(x.cps[i]?).map fun c=>V.str ⟨#[c]⟩
def Its (x:Str):It:=⟨fun i _=>i<x.cps.size,fun i H v H'=>H'=H/\sgV x i=some v,fun i _=>x.cps.size<=i⟩
theorem sW {P:Program}{w:World}{K:W.Frag}{tg:Expr}(T:String) (it:Addr) (x:Str) (t:Tok)
    (hn:["enumerate","zip","dict_itemiterator","dict_reverseitemiterator","odict_iterator","itertools.zip_longest","itertools.pairwise"].contains T=false)
    (W:∀A:Around,A.handled=none->Walks P w A it [it] [it] x.cps.size (SignAt x) (fun i h=>h.IsStrIter it T x t i))
    (hs:∀(A:Around) (i:Nat) (s:Shared) (Q:Value->Shared->Prop) (E:Value->Shared->Prop),s.heap.IsStrIter it T x t i->Q (.ref it) s->wpAny (model P w) A (pyIter (.ref it)) Q E s) :
    Turn P w K tg (Its x) [it] it (fun i h=>h.IsStrIter it T x t i/\i<=x.cps.size) where
 mem:=by simp
 obj:=fun i h st b hb=>by
  have e:b=it:=by simpa using hb
  subst e
  obtain⟨o,e,c,d⟩:=st.1
  exact⟨o,e,fun v z=>by rw[d] at z;cases z⟩
 keep:=fun i h h' st k=>⟨by
  obtain⟨o,e,c⟩:=st.1
  exact⟨o,k it (by simp) o e,c⟩,st.2⟩
 item:=by
  intro X hP hw hK hc i pins s σ H E I hf st hg
  subst hP hw hK
  obtain⟨f0,f1,f2,f3,f4,f5⟩:=hf it (by simp)
  refine(W X.A (I.ok.hd hc)).item i s _ _ hg st.1 fun v h' tk hv st' kk=>?_
  obtain⟨c,u,hcp,rfl⟩:=hv
  have I1:Inv X pins σ H { s with heap:=h',toks:=tk }:=I.turned (fun b o hb e=>kk b o (by simpa using hb) e) f0 f1 f3 f4 f5
  obtain⟨o,e,cc,d⟩:=id st'
  refine⟨_,rfl,pR (s:={ s with heap:=h',toks:=tk }) e cc d hn ⟨.str ⟨#[c]⟩,H,I1,⟨u,rfl⟩,⟨rfl,?_⟩,⟨st',?_⟩,fun b hb=>(hf b hb).1⟩⟩
  ·unfold sgV;rw[hcp];rfl
  ·exact hg
 done:=by
  intro X hP hw hK hc i pins s σ H E I hf st hg
  subst hP hw hK
  obtain⟨f0,f1,f2,f3,f4,f5⟩:=hf it (by simp)
  have e:i=x.cps.size:=Nat.le_antisymm st.2 hg
  subst e
  exact(W X.A (I.ok.hd hc)).done s _ _ st.1 fun h' tk kk=>⟨rfl,I.turned (fun b o hb e=>kk b o (by simpa using hb) e) f0 f1 f3 f4 f5⟩
 self:=fun A i s Q E st h=>hs A i s Q E st.1 h
def iStr (tl:TE):TI:=fun σ H R=>tl σ H fun x H1=>∃z,x=.str z/\R (Its z) H1
theorem Ap {X:Cx}{tg l:Expr}{tl:TE}(hl:PE X l tl):PI X tg l (iStr tl) := by
 intro pins s σ H R I h
 refine thn (hl pins s σ H _ I h) fun v s1 ⟨x,H1,I1,r1,q1⟩=>?_
 obtain⟨z,e,q⟩:=q1
 subst e
 obtain⟨t,rfl⟩:=r1
 have fin:∀(T:String),["enumerate","zip","dict_itemiterator","dict_reverseitemiterator","odict_iterator","itertools.zip_longest","itertools.pairwise"].contains T=false ->
     (∀A:Around,A.handled=none->Walks X.prog X.w A s1.heap.objs.size [s1.heap.objs.size] [s1.heap.objs.size] z.cps.size (SignAt z) (fun i h=>h.IsStrIter s1.heap.objs.size T z t i)) ->
     (∀(A:Around) (i:Nat) (s:Shared) (Q:Value->Shared->Prop) (E:Value->Shared->Prop),s.heap.IsStrIter s1.heap.objs.size T z t i->Q (.ref s1.heap.objs.size) s->wpAny (model X.prog X.w) A (pyIter (.ref s1.heap.objs.size)) Q E s) ->
     PIE X pins σ tg R (.ref s1.heap.objs.size) { s1 with heap:=s1.heap.push { cls:=.type T,data:=.fields #[.str z t,.int 0 0] } }:=fun T hn W hs=>by
  refine⟨_,[s1.heap.objs.size],_,_,H1,rfl,I1.kept (t':=s1.toks) fun b o e=>ai _ e,sW T _ z t hn W hs,⟨⟨_,aA _ rfl,rfl,rfl⟩,aP _⟩,fun b hb=>?_,q⟩
  have e:b=s1.heap.objs.size:=by simpa using hb
  subst e
  exact I1.fpOk (ac _) (I1.hok.fresh (ac _))
 cases ha:z.cps.all (·<128)
 ·exact wpAny_pyIter_wide ha (fin "str_iterator" (by decide) (fun A hA=>Walks.strWide hA _ z t) fun A i s Q E st h=>wpAny_pyIter_striter_wide st h)
 ·exact wpAny_pyIter_ascii ha (fin "str_ascii_iterator" (by decide) (fun A hA=>Walks.strAscii hA _ z t) fun A i s Q E st h=>wpAny_pyIter_striter_ascii st h)
def Ite (K:W.Frag) (a:Addr):It :=
 ⟨fun i H=>∃xs x,SqL K H a xs/\xs[i]? = some x,fun i H v H'=>∃p x,H p=none/\v=.ref p/\(∀xs,SqL K H a xs->xs[i]? = some x)/\H'=upd H p (.tup [.int i,x]),fun i H=>∃xs,SqL K H a xs/\xs.length<=i⟩
theorem vS {P:Program}{w:World}{K:W.Frag}{elts:List Expr}{k:Nat}{tp:Pos}(a e it:Addr) (hne:e ≠ it) :
    Turn P w K (.Tuple elts k tp) (Ite K a) [e,it] e (fun i h=>(∃old,IsEnum h e it i old)/\h.IsListIter it a i) where
 mem:=by simp
 obj:=fun i h st b hb=>by
  obtain⟨⟨old,he⟩,hit⟩:=st
  have hb:b=e∨b=it:=by simpa using hb
  rcases hb with z | z
  ·subst z
   exact⟨_,he,fun v z=>by cases z⟩
  ·subst z
   obtain⟨o,e1,c,d⟩:=hit
   exact⟨o,e1,fun v z=>by rw[d] at z;cases z⟩
 keep:=fun i h h' st kk=>by
  obtain⟨⟨old,he⟩,hit⟩:=st
  exact⟨⟨old,kk e (by simp) _ he⟩,hit.at fun o q=>kk it (by simp) o q⟩
 item := by
  intro X hP hw hK hc i pins s σ H E I hf st hg
  subst hP hw hK
  obtain⟨⟨old,he⟩,hit⟩:=st
  obtain⟨xs,x,hq,hx⟩:=hg
  obtain⟨its,rv,p,hz⟩:=I.list hq
  obtain⟨u,hu,ru⟩:=rv.get hx
  obtain⟨f0,f1,f2,f3,f4,f5⟩:=hf e (by simp)
  obtain⟨g0,g1,g2,g3,g4,g5⟩:=hf it (by simp)
  refine wpAny_pyNext_enum_item he hit p.isList (x:=u) (by simpa using hu) hne fun h1 ho hit1 ht1 hz1 k1=>?_
  have hel:e<s.heap.objs.size:=ag he
  have hil:it<s.heap.objs.size:=by obtain⟨o,q,_⟩:=hit;exact ag q
  refine⟨_,rfl,wpAny_letOwnedTupleGo_enum ho fun h2 he2 sb2=>?_⟩
  have sb2:Heap.SameBut e h1 h2:=sb2
  have T2:h2.get? s.heap.objs.size=some { cls:=.type "tuple",data:=.seq #[.int i s.toks,u] }:=(sb2.2 _ (bL hel)).trans ht1
  have hp:H s.heap.objs.size=none:=I.hok.fresh (ac _)
  have nit:∀b v,H b=some v->b≠e/\b≠it:=fun b v q=>⟨fun z=>(by rw[z,f0] at q;cases q),fun z=>(by rw[z,g0] at q;cases q)⟩
  have kk:∀b o,b≠e->b≠it->s.heap.get? b=some o->h2.get? b=some o:=fun b o n1 n2 q=>(sb2.2 b n1).trans (k1 b o n1 n2 q)
  have up:∀b v,H b=some v->upd H s.heap.objs.size (.tup [.int i,x]) b=some v:=fun b v q=>by rw[cJ (cO q hp)];exact q
  have I1:Inv X pins σ (upd H s.heap.objs.size (.tup [.int i, x])) { s with heap := h2, gens := s.gens, drawn := s.drawn, toks := s.toks+1 } := by
   refine I.step (g':=s.gens) (d':=s.drawn) (ch:=[e,it]) (fun b hb=>?_) (fun b o _ _ hb q _=>kk b o (fun z=>hb (by simp[z])) (fun z=>hb (by simp[z])) q) (fun b o _ _ hb q _=>⟨o.slots,kk b o (fun z=>hb (by simp[z])) (fun z=>hb (by simp[z])) q⟩) (fun b o _ q n=>?_)
    (fun b o hb q=>⟨o,kk b o (fun z=>hb (by simp[z])) (fun z=>hb (by simp[z])) q⟩) (fun b ys q=>up b _ q) (fun b o v q=>up b _ q) (fun b ps q=>⟨#[],by rw[up b _ q];simp⟩) (fun m hm=>?_) (fun b v q=>?_) I.bare
   ·have hb:b=e∨b=it:=by simpa using hb
    rcases hb with z | z
    ·subst z;exact⟨f3,f1,f4,f5⟩
    ·subst z;exact⟨g3,g1,g4,g5⟩
   ·rw[cJ (aD (ag q))];exact n
   ·obtain⟨o,es,ep,ho,r⟩:=hm
    exact⟨o,es,ep,kk _ o (Ne.symm f1) (Ne.symm g1) ho,r⟩
   ·by_cases hb:b=s.heap.objs.size
    ·subst hb
     rw[cE] at q
     have q':HO.tup [V.int i,x]=v:=am q
     subst q'
     exact⟨by show 2<=sizeLine;decide,[.int i s.toks,u],.cons ⟨_,rfl⟩ (.cons ru .nil),⟨_,T2,rfl,_,rfl,rfl⟩⟩
    ·rw[cJ hb] at q
     refine(I.hok b v q).stay (fun c v' hc q'=>?_) (fun c q=>up c _ q) fun c ys q=>up c _ q
     rcases hc with z | z
     ·rw[z] at q' ⊢;exact kk b v' (nit b v q).1 (nit b v q).2 q'
     ·exact kk c v' (nit c _ z).1 (nit c _ z).2 q'
  refine⟨.ref s.heap.objs.size,upd H s.heap.objs.size (.tup [.int i,x]),I1,rfl,⟨_,x,hp,rfl,fun ys hy=>by rw[I.list_inj hy hq];exact hx,rfl⟩,⟨⟨u,?_⟩,?_⟩,fun b hb=>?_⟩
  ·exact(by simpa using he2)
  ·exact hit1.at fun o q=>(sb2.2 it (Ne.symm hne)).trans q
  ·have hb:b=e∨b=it:=by simpa using hb
   rcases hb with z | z
   ·rw[z,cJ (aD hel)];exact f0
   ·rw[z,cJ (aD hil)];exact g0
 done:=by
  intro X hP hw hK hc i pins s σ H E I hf st hg
  subst hP hw hK
  obtain⟨⟨old,he⟩,hit⟩:=st
  obtain⟨xs,hq,hx⟩:=hg
  obtain⟨its,rv,p,hz⟩:=I.list hq
  obtain⟨g0,g1,g2,g3,g4,g5⟩:=hf it (by simp)
  have hl:=rv.length
  exact wpAny_pyNext_enum_end (I.ok.hd hc) he hit p.isList (by simp;omega) fun h' eb=>⟨rfl,I.turned (t':=s.toks) (fun b o hb q=>eb b o hb q) g0 g1 g3 g4 g5⟩
 self:=fun _ _ _ _ _ st h=>by
  obtain⟨⟨old,he⟩,_⟩:=st
  exact wpAny_pyIter_enum he h
mutual
inductive Rep (H:Hp):V->PyData->Prop
 | non:Rep H .non .none
 | bl (b:Bool):Rep H (.bl b) (.bool b)
 | int (i:Int):Rep H (.int i) (.int i)
 | str (x:Str):Rep H (.str x) (.str x)
 | lst {a:Addr} {xs:List V} {ds:List PyData}:H a=some (.lst xs)->RepAll H xs ds->Rep H (.ref a) (.list ds)
 | tup {a:Addr} {xs:List V} {ds:List PyData}:H a=some (.tup xs)->RepAll H xs ds->Rep H (.ref a) (.tuple ds)
inductive RepAll (H:Hp):List V->List PyData->Prop
 | nil:RepAll H [] []
 | cons {x:V} {xs:List V} {d:PyData} {ds:List PyData}:Rep H x d->RepAll H xs ds->RepAll H (x::xs) (d::ds)
end
mutual
theorem Rep.reads {P:Program}{w:World}{H:Hp}{h:Heap}(ok:HOk P w H h):∀ {v:V}{d:PyData}{u:Value},Rep H v d->RelV v u->∃as,Reads h u d as
 | _,_,_,.non,r=>by cases r;exact⟨_,.none⟩
 | _,_,_,.bl b,r=>by cases r;exact⟨_,.bool b⟩
 | _,_,_,.int i,r=>by obtain⟨t,rfl⟩:=r;exact⟨_,.int i t⟩
 | _,_,_,.str x,r=>by obtain⟨t,rfl⟩:=r;exact⟨_,.str x t⟩
 | _,_,_,.lst (a:=a) (xs:=xs) e rs,r=>by
  cases r
  obtain⟨_,its,n,rv,eh⟩:=(show ObjOk P w H h a (.lst xs) from ok a _ e)
  obtain⟨as,z⟩:=RepAll.reads ok rs rv
  exact⟨_,.list eh rfl rfl (by simpa using z)⟩
 | _,_,_,.tup (a:=a) (xs:=xs) e rs,r=>by
  cases r
  obtain⟨_,its,rv,o,eh,hc,n,hd,_⟩:=(show ObjOk P w H h a (.tup xs) from ok a _ e)
  obtain⟨as,z⟩:=RepAll.reads ok rs rv
  exact⟨_,.tuple eh hc hd (by simpa using z)⟩
theorem RepAll.reads {P:Program}{w:World}{H:Hp}{h:Heap}(ok:HOk P w H h):∀ {vs:List V}{ds:List PyData}{us:List Value}, RepAll H vs ds -> Vals vs us -> ∃as, ReadsAll h us ds as
 | _,_,_,.nil,r=>by cases r;exact⟨_,.nil⟩
 | _,_,_,.cons q qs,r=>by
  cases r with
  | cons r1 r2 =>
   obtain⟨as,z⟩:=Rep.reads ok q r1
   obtain⟨bs,zs⟩:=RepAll.reads ok qs r2
   exact⟨_,.cons z zs⟩
end
mutual
theorem Rep.same {H H':Hp}(s:Same H H'):∀ {v:V}{d:PyData},Rep H v d->Rep H' v d
 | _,_,.non=>.non
 | _,_,.bl b=>.bl b
 | _,_,.int i=>.int i
 | _,_,.str x=>.str x
 | _,_,.lst e rs=>.lst (s _ _ e) (rs.same s)
 | _,_,.tup e rs=>.tup (s _ _ e) (rs.same s)
theorem RepAll.same {H H':Hp}(s:Same H H'):∀ {vs:List V}{ds:List PyData},RepAll H vs ds->RepAll H' vs ds
 | _,_,.nil=>.nil
 | _,_,.cons q qs=>.cons (q.same s) (qs.same s)
end
section
variable {X:Cx}
def shp (d:PyData):Prop:=SeqAt.shaped d=true
def rEqD:R2:=fun x y H Q=>∃da db,Rep H x da/\Rep H y db/\shp da/\shp db/\Q (.bl (PyData.eqv da db)) H
def rNeD:R2:=fun x y H Q=>∃da db,Rep H x da/\Rep H y db/\shp da/\shp db/\Q (.bl (!PyData.eqv da db)) H
theorem Ae (hu:X.A.units+64<cLine):OpR X (compareOp .Eq) rEqD:=by
 intro pins s σ H x y v u Q I rx ry h
 obtain⟨da,db,ra,rb,sa,sb,q⟩:=h
 obtain⟨as,za⟩:=ra.reads I.hok rx
 obtain⟨bs,zb⟩:=rb.reads I.hok ry
 exact eq_dataH za zb sa sb hu ⟨.bl _,H,I,rfl,q⟩
theorem AH (hu:X.A.units+64<cLine):OpR X (compareOp .NotEq) rNeD:=by
 intro pins s σ H x y v u Q I rx ry h
 obtain⟨da,db,ra,rb,sa,sb,q⟩:=h
 obtain⟨as,za⟩:=ra.reads I.hok rx
 obtain⟨bs,zb⟩:=rb.reads I.hok ry
 exact ne_dataH za zb sa sb hu ⟨.bl _,H,I,rfl,q⟩
theorem wf:OpR X (compareOp .LtE) (fun x y H Q=>∃i j,x=.str i/\y=.str j/\Q (.bl (!decide (j.cps.toList<i.cps.toList))) H):=by
 intro pins s σ H x y v u Q I rx ry h
 obtain⟨i,j,rfl,rfl,q⟩:=h
 obtain⟨t,rfl⟩:=rx
 obtain⟨t',rfl⟩:=ry
 exact PySem.P.le_str (du I q (by simp))
theorem vv (bs:List Bool):((List.range bs.length).all fun i=>bs.getD i false)=bs.all id:=by
 rw[aX,bo,bo]
 constructor
 ·intro h b hb
  obtain⟨i,hi,rfl⟩:=List.mem_iff_getElem.mp hb
  have:=h i (by simpa using hi)
  simpa [bw,hi] using this
 ·intro h i hi
  have hi:i<bs.length:=by simpa using hi
  have:=h bs[i] (List.getElem_mem hi)
  simpa [bw,hi] using this
theorem zI {bs:List Bool}{its:List Value}(r:Vals (bs.map V.bl) its) {i:Nat}{v:Value}(e:its[i]? = some v):v=.bool (bs.getD i false):=by
 have hl:=r.length
 rw[ae] at hl
 have hi:i<bs.length:=by rw[hl];exact(ah.mp e).1
 obtain⟨u,hu,ru⟩:=r.get (i:=i) (x:=V.bl (bs.getD i false)) (by rw[aI];simp[bw,hi])
 rw[e] at hu
 cases hu
 exact ru
theorem rf (hc:X.calm=true):gG X (.builtin "all") (fun xs H Q=>∃p bs,xs=[.ref p]/\H p=some (.lst (List.map V.bl bs))/\Q (.bl (bs.all id)) H):=by
 intro pins s σ H xs us Q I r h
 obtain⟨p,bs,rfl,e,q⟩:=h
 obtain⟨u,rfl,ru⟩:=fZ r
 cases ru
 obtain⟨hz,its,n,rv,eh⟩:=(show ObjOk X.prog X.w H s.heap p (.lst (List.map V.bl bs)) from I.hok p _ e)
 have hl:s.heap.IsList p its.toArray:=⟨_,eh,rfl,n,rfl⟩
 have hlen:its.length=bs.length:=by have:=rv.length;rw[ae] at this;exact this.symm
 have hpl:p<s.heap.objs.size:=ag eh
 refine call_all_walk (wpAny_pyIter_list hl ?_)
 refine⟨s.heap.objs.size,[s.heap.objs.size,p],[s.heap.objs.size],its.toArray.size,_,_,fun i=>bs.getD i false,rfl,
  Walks.list (A:=X.A.in1) (I.ok.hd hc) _ p (aD hpl) its.toArray,⟨⟨_,aA _ rfl,rfl,rfl⟩,⟨_,ai _ eh,rfl,n,rfl⟩⟩,?_,fun h' tk hk=>?_⟩
 ·intro i v s' Q' E' hv hQ'
  have hv:its[i]? = some v:=by simpa using hv
  rw[zI rv hv]
  exact af hQ'
 ·refine⟨.bl _,H,I.kept fun b o eb=>hk b o (by simpa using aD (ag eb)) (ai _ eb),rfl,?_⟩
  rw[aE,hlen,vv]
  exact q
theorem sv:∀ {ys:List Str}{us:List Value}, Vals (ys.map V.str) us -> StrsAre us ys
 | [],us,r=>by cases r;exact .nil
 | y::ys,us,r=>by
  cases r with
  | cons r1 r2 =>
   obtain⟨t,rfl⟩:=r1
   exact .cons y t (sv r2)
def yv:V->List V->Hp->VK->Prop:=fun x xs H Q=>∃z p ys,x=.str z/\xs=[.ref p]/\H p=some (.lst (List.map V.str ys))/\(ys.map (·.length)).sum+ys.length * z.length<=16777216/\Q (.str (Txt.join z ys)) H
theorem zD:MtR X "str.join" yv:=by
 intro pins s σ H x xs v us Q I rx rv h
 obtain⟨z,p,ys,rfl,rfl,e,hz,q⟩:=h
 obtain⟨t,rfl⟩:=rx
 obtain⟨u,rfl,ru⟩:=fZ rv
 cases ru
 obtain⟨_,its,n,rv,eh⟩:=(show ObjOk X.prog X.w H s.heap p (.lst (List.map V.str ys)) from I.hok p _ e)
 exact join_list (D:=p) (items:=its.toArray) ⟨_,eh,rfl,n,rfl⟩ (by simpa using sv rv) hz fun t' k=>⟨.str _,H,I.tok k,⟨t',rfl⟩,q⟩
def rSlS:V->Option Int->Option Int->Hp->VK->Prop:=fun x lo hi H Q=>∃z,x=.str z/\z.length<=sizeLine/\Q (.str (Txt.slice z lo hi)) H
theorem An:SlR X rSlS:=by
 intro pins s σ H x v vl vu lo hi sl Q I rx hs pl pu h
 obtain⟨z,rfl,hz,q⟩:=h
 obtain⟨t,rfl⟩:=rx
 refine⟨"str",_,PySem.F.slot_str_getitem.lookup,typeIs_str _ _ _,?_⟩
 obtain⟨o,h1,h2,h3⟩:=hs
 have fin:∀t' k,EP X pins σ Q (.str (Txt.slice z lo hi) t') { s with toks:=k }:=fun t' k=>⟨.str _,H,I.tok k,⟨t',rfl⟩,q⟩
 cases pl with
 | none=>cases pu with
  | none=>exact wpAny_getItem_str_slice (l:=none) (u:=none) (st:=none) ⟨o,h1,h2,h3⟩ rfl (post_val_or_str ⟨aG (Txt.slice_le z _ _) hz,fin⟩)
  | int j tj=>exact wpAny_getItem_str_slice (l:=none) (u:=some (j,tj)) (st:=none) ⟨o,h1,h2,h3⟩ rfl (post_val_or_str ⟨aG (Txt.slice_le z _ _) hz,fin⟩)
 | int i ti=>cases pu with
  | none=>exact wpAny_getItem_str_slice (l:=some (i,ti)) (u:=none) (st:=none) ⟨o,h1,h2,h3⟩ rfl (post_val_or_str ⟨aG (Txt.slice_le z _ _) hz,fin⟩)
  | int j tj=>exact wpAny_getItem_str_slice (l:=some (i,ti)) (u:=some (j,tj)) (st:=none) ⟨o,h1,h2,h3⟩ rfl (post_val_or_str ⟨aG (Txt.slice_le z _ _) hz,fin⟩)
def AO (K:W.Frag) (c:String):List V->Hp->VK->Prop:=fun xs H Q=>∃x t b,xs=[x,.ty c]/\TyOf K H x t/\W.kitOne K t (.type c)=some b/\Q (.bl b) H
theorem w6 (c:String):gG X (.builtin "isinstance") (AO X.K c):=by
 intro pins s σ H xs us Q I r h
 obtain⟨x,t,b,rfl,ty,e,q⟩:=h
 obtain⟨u,w',rfl,ru,rw'⟩:=ir r
 cases rw'
 exact u8 I ru ty e fun tk=>⟨.bl b,H,I.tok tk,rfl,q⟩
theorem iL {P:Program}{w:World}{H:Hp}{h:Heap}(ok:HOk P w H h) {d:PyData}:∀ {xs:List V}{ds:List PyData}{us:List Value}, RepAll H xs ds -> Vals xs us -> PyData.canLayAll0 ds=true -> us.any (fun u => PyData.eqv (SeqAt.readOf h u) d)=ds.any fun e => PyData.eqv e d
 | _,_,_,.nil,r,_=>by cases r;rfl
 | _,_,_,.cons q qs,r,hl=>by
  cases r with
  | cons r1 r2 =>
   have hl':=Bool.and_eq_true_iff.mp (show (PyData.canLay0 _&&PyData.canLayAll0 _)=true from hl)
   obtain⟨as,z⟩:=q.reads ok r1
   rw[bV,bV,SeqAt.readOf_eq hl'.1 z,iL ok qs r2 hl'.2]
theorem iF {P:Program}{w:World}{H:Hp}{A:Around}{s:Shared}(ok:HOk P w H s.heap) {d:PyData}{x:V}{v:Value}{bs:List Addr}(zx:Reads s.heap v d bs) (hd:d.canLay0=true) (hu:A.units+d.depth<cLine) :
    ∀ {xs:List V} {ds:List PyData} {us:List Value},RepAll H xs ds->Vals xs us->PyData.canLayAll0 ds=true->∀u∈us,SeqAt.EqAt A s u v (PyData.eqv (SeqAt.readOf s.heap u) d)
 | _,_,_,.nil,r,_=>by cases r;intro u hu;cases hu
 | _, _, _, .cons q qs, r, hl => by
  cases r with
  | cons r1 r2 =>
   have hl':=Bool.and_eq_true_iff.mp (show (PyData.canLay0 _&&PyData.canLayAll0 _)=true from hl)
   intro u hm
   rcases aB.mp hm with rfl | hm
   ·obtain⟨as,z⟩:=q.reads ok r1
    rw[SeqAt.readOf_eq hl'.1 z]
    exact SeqAt.eqAt_reads _ _ _ _ _ _ _ _ z zx hl'.1 hd (Nat.lt_of_le_of_lt (Nat.add_le_add_left (Nat.min_le_right _ _) _) hu)
   ·exact iF (x:=x) ok zx hd hu qs r2 hl'.2 u hm
def A9 (neg:Bool):R2:=fun x y H Q=>∃p xs ds d,y=.ref p/\H p=some (.lst xs)/\RepAll H xs ds/\Rep H x d/\PyData.canLayAll0 ds=true/\d.canLay0=true/\d.depth<=16 /\
 Q (.bl (if neg then !(ds.any fun e=>PyData.eqv e d) else ds.any fun e=>PyData.eqv e d)) H
theorem A6 (hu:X.A.units+64<cLine):OpR X (compareOp .In) (A9 false):=by
 intro pins s σ H x y v u Q I rx ry h
 obtain⟨p,xs,ds,d,rfl,e,rs,r,cs,c,dp,q⟩:=h
 cases ry
 obtain⟨_,its,n,rv,eh⟩:=(show ObjOk X.prog X.w H s.heap p (.lst xs) from I.hok p _ e)
 obtain⟨bs,zx⟩:=r.reads I.hok rx
 refine SeqAt.in_listAt (fun u=>PyData.eqv (SeqAt.readOf s.heap u) d) ⟨_,eh,rfl,n,rfl⟩ (fun w hw=>iF (x:=x) I.hok zx c (by show X.A.units+1+d.depth<cLine;omega) rs rv cs w (by simpa using hw)) ⟨.bl _,H,I,rfl,?_⟩
 rw[show its.toArray.any (fun u=>PyData.eqv (SeqAt.readOf s.heap u) d)=its.any (fun u=>PyData.eqv (SeqAt.readOf s.heap u) d) by simp,iL I.hok rs rv cs]
 exact q
theorem uS (hu:X.A.units+64<cLine):OpR X (compareOp .NotIn) (A9 true):=by
 intro pins s σ H x y v u Q I rx ry h
 obtain⟨p,xs,ds,d,rfl,e,rs,r,cs,c,dp,q⟩:=h
 cases ry
 obtain⟨_,its,n,rv,eh⟩:=(show ObjOk X.prog X.w H s.heap p (.lst xs) from I.hok p _ e)
 obtain⟨bs,zx⟩:=r.reads I.hok rx
 refine SeqAt.notIn_listAt (fun u=>PyData.eqv (SeqAt.readOf s.heap u) d) ⟨_,eh,rfl,n,rfl⟩ (fun w hw=>iF (x:=x) I.hok zx c (by show X.A.units+1+d.depth<cLine;omega) rs rv cs w (by simpa using hw)) ⟨.bl _,H,I,rfl,?_⟩
 rw[show its.toArray.any (fun u=>PyData.eqv (SeqAt.readOf s.heap u) d)=its.any (fun u=>PyData.eqv (SeqAt.readOf s.heap u) d) by simp,iL I.hok rs rv cs]
 exact q
end
structure Cal (P:Program) (w:World) (K:W.Frag) (mg:Str->Option Value) (base:Heap) (k:Nat) (x:Str) (ps:List Str) (sp:Sp):Prop where
 ex:∃(f:Addr) (fd:FuncData),FnOk P w K mg base CX0 k f fd ps sp/\mg x=some (.ref f)/\W.keepIn K (.ref f)=true/\Binds K fd ps []
section
variable {X:Cx}{x:Str}{ps:List Str}{sp:Sp}{k j:Nat}{p pos:Pos}{e:Expr}{es:List Expr}{t:TA}
theorem nq (c:Cal X.prog X.w X.K X.mg X.base k x ps sp) (hr:Room k X.A) (hg:Gl X x) (ha:PA X (e::es) t)
    (hs:starEach (e::es) X.env=(false,eval e X.env)::starEach es X.env:=by rfl) (hpl:(backTo pos (starEach es X.env)).any (·.1)=false:=by rfl) (hdb:(x==("__debug__":Str))=false:=by decide) :
    PE X (.Call (.Name x p) (e::es) [] pos) (pQ sp [] E0 t):=by
 obtain⟨f,fd,G,mf,kp,b⟩:=c.ex
 exact rJ G hr hg mf kp b .nil yi ha (hdb:=hdb) (he:=hs) (hpl:=hpl)
end
section
variable {X:Cx}
inductive AddR (H:Hp):V->V->VK->Prop
 | int {i j:Int} {Q:VK}:Q (.int (i+j)) H->AddR H (.int i) (.int j) Q
 | str {i j:Str} {Q:VK}:i.length+j.length<=sizeLine->Q (.str (i++j)) H->AddR H (.str i) (.str j) Q
 | lst {l b:Addr} {xs zs:List V} {Q:VK}:H l=some (.lst xs)->H b=some (.lst zs)->xs.length+zs.length<=sizeLine->(∀p,H p=none->Q (.ref p) (upd H p (.lst (xs++zs))))->AddR H (.ref l) (.ref b) Q
theorem dz:OpR X (binaryOp .Add) (fun x y H Q=>AddR H x y Q):=by
 intro pins s σ H x y v u Q I rx ry h
 cases h with
 | int q=>exact A7 pins s σ H _ _ v u Q I rx ry ⟨_,_,rfl,rfl,q⟩
 | str hz q=>exact ur pins s σ H _ _ v u Q I rx ry ⟨_,_,rfl,rfl,hz,q⟩
 | lst h1 h2 hz q=>exact A4 pins s σ H _ _ v u Q I rx ry ⟨_,_,_,_,rfl,rfl,h1,h2,hz,q⟩
inductive EqR (neg:Bool) (H:Hp):V->V->VK->Prop
 | sc {x y:V} {Q:VK}:wJ x y=true->Q (.bl (if neg then !decide (x=y) else decide (x=y))) H->EqR neg H x y Q
 | tr {x y:V} {da db:PyData} {Q:VK}:Rep H x da->Rep H y db->shp da->shp db->Q (.bl (if neg then !PyData.eqv da db else PyData.eqv da db)) H->EqR neg H x y Q
theorem di (hu:X.A.units+64<cLine):OpR X (compareOp .Eq) (fun x y H Q=>EqR false H x y Q):=by
 intro pins s σ H x y v u Q I rx ry h
 cases h with
 | sc h q=>exact BC pins s σ H _ _ v u Q I rx ry ⟨h,q⟩
 | tr ra rb sa sb q=>exact Ae hu pins s σ H _ _ v u Q I rx ry ⟨_,_,ra,rb,sa,sb,q⟩
theorem fP (hu:X.A.units+64<cLine):OpR X (compareOp .NotEq) (fun x y H Q=>EqR true H x y Q):=by
 intro pins s σ H x y v u Q I rx ry h
 cases h with
 | sc h q=>exact Bw pins s σ H _ _ v u Q I rx ry ⟨h,q⟩
 | tr ra rb sa sb q=>exact AH hu pins s σ H _ _ v u Q I rx ry ⟨_,_,ra,rb,sa,sb,q⟩
inductive SlX (K:W.Frag) (H:Hp):V->Option Int->Option Int->VK->Prop
 | str {z:Str} {lo hi:Option Int} {Q:VK}:z.length<=sizeLine->Q (.str (Txt.slice z lo hi)) H->SlX K H (.str z) lo hi Q
 | lst {a:Addr} {xs:List V} {lo hi:Option Int} {Q:VK}:SqL K H a xs->(∀p,H p=none->Q (.ref p) (upd H p (.lst (il xs lo hi))))->SlX K H (.ref a) lo hi Q
theorem sl_X:SlR X (fun x lo hi H Q=>SlX X.K H x lo hi Q):=by
 intro pins s σ H x v vl vu lo hi sl Q I rx hs pl pu h
 cases h with
 | str hz q=>exact An pins s σ H _ v vl vu lo hi sl Q I rx hs pl pu ⟨_,rfl,hz,q⟩
 | lst h1 q=>exact zP pins s σ H _ v vl vu lo hi sl Q I rx hs pl pu ⟨_,_,rfl,h1,q⟩
end
section
variable {X:Cx}
inductive CmR (f:Int->Int->Bool) (g:Str->Str->Bool) (H:Hp):V->V->VK->Prop
 | int {i j:Int} {Q:VK}:Q (.bl (f i j)) H->CmR f g H (.int i) (.int j) Q
 | str {i j:Str} {Q:VK}:Q (.bl (g i j)) H->CmR f g H (.str i) (.str j) Q
theorem wv:OpR X (compareOp .LtE) (fun x y H Q=>CmR (fun i j=>decide (i<=j)) (fun i j=>!decide (j.cps.toList<i.cps.toList)) H x y Q):=by
 intro pins s σ H x y v u Q I rx ry h
 cases h with
 | int q=>exact Bs pins s σ H _ _ v u Q I rx ry ⟨_,_,rfl,rfl,q⟩
 | str q=>exact wf pins s σ H _ _ v u Q I rx ry ⟨_,_,rfl,rfl,q⟩
theorem kA:OpR X (compareOp .Lt) (fun x y H Q=>CmR (fun i j=>decide (i<j)) (fun i j=>decide (i.cps.toList<j.cps.toList)) H x y Q):=by
 intro pins s σ H x y v u Q I rx ry h
 cases h with
 | int q=>exact Bv pins s σ H _ _ v u Q I rx ry ⟨_,_,rfl,rfl,q⟩
 | str q=>exact we pins s σ H _ _ v u Q I rx ry ⟨_,_,rfl,rfl,q⟩
inductive IsB (neg:Bool) (H:Hp):V->V->VK->Prop
 | int {i:Int} {b:Bool} {Q:VK}:Q (.bl neg) H->IsB neg H (.int i) (.bl b) Q
 | bl {c b:Bool} {Q:VK}:Q (.bl (if neg then !decide (c=b) else decide (c=b))) H->IsB neg H (.bl c) (.bl b) Q
 | non {x:V} {Q:VK}:Q (.bl (if neg then !decide (x=.non) else decide (x=.non))) H->IsB neg H x .non Q
theorem kI:OpR X (compareOp .IsNot) (fun x y H Q=>IsB true H x y Q):=by
 intro pins s σ H x y v u Q I rx ry h
 cases h with
 | int q =>
  obtain⟨t,rfl⟩:=rx
  cases ry
  exact wpAny_isNot_other (by rfl) (by intro z;cases z) ⟨.bl _,H,I,rfl,q⟩
 | @bl c b _ q =>
  cases rx
  cases ry
  exact wpAny_isNot_plain (by rfl) (du I q (by cases c <;> cases b <;> rfl))
 | non q=>exact yT pins s σ H _ _ v u Q I rx ry ⟨rfl,q⟩
theorem Aw (K:W.Frag) {o e:Expr}{to:TE}{t:TA}{apos cpos:Pos}(ho:PE X o to) (ha:PA X [e] t)
    (hbase:attributeBase o "join" X.env (eval o X.env)=eval o X.env:=by rfl)
    (hfew:((backTo cpos (starEach [e] X.env)).all (fun x=>!x.1)&&(backToKw cpos (keywordEach [] X.env)).all (fun x=>x.1.isSome)
     && decide ([e].length+([]:List Keyword).length+(if ([]:List Keyword).isEmpty then 0 else 1)<30))=true:=by rfl)
    (hline:(apos.endLine==cpos.line)=true:=by rfl) (hs:starEach [e] X.env=(false,eval e X.env)::starEach [] X.env:=by rfl) (hplain:(backTo cpos (starEach [] X.env)).any (·.1)=false:=by rfl) (hK:X.K=K:=by rfl) :
    PE X (.Call (.Attribute o "join" apos) [e] [] cpos) (tBM K "str" yv to t):=hK ▸ mV PySem.F.plainAttrs_str PySem.F.slot_str_join PySem.F.type_str_join zD ho ha hbase hfew hline hs hplain
theorem fY (K:W.Frag) {o e:Expr}{to:TE}{t:TA}{apos cpos:Pos}(ho:PE X o to) (ha:PA X [e] t)
    (hbase:attributeBase o "append" X.env (eval o X.env)=eval o X.env:=by rfl)
    (hfew:((backTo cpos (starEach [e] X.env)).all (fun x=>!x.1)&&(backToKw cpos (keywordEach [] X.env)).all (fun x=>x.1.isSome)
     && decide ([e].length+([]:List Keyword).length+(if ([]:List Keyword).isEmpty then 0 else 1)<30))=true:=by rfl)
    (hline:(apos.endLine==cpos.line)=true:=by rfl) (hs:starEach [e] X.env=(false,eval e X.env)::starEach [] X.env:=by rfl) (hplain:(backTo cpos (starEach [] X.env)).any (·.1)=false:=by rfl) (hK:X.K=K:=by rfl) :
    PE X (.Call (.Attribute o "append" apos) [e] [] cpos) (tBM K "list" rQ to t):=hK ▸ mV PySem.F.plainAttrs_list PySem.F.slot_list_append PySem.F.type_list_append pz ho ha hbase hfew hline hs hplain
theorem xi (K:W.Frag) (hK:X.K=K:=by rfl):SlR X (fun x lo hi H Q=>SlX K H x lo hi Q):=hK ▸ sl_X
theorem fE (K:W.Frag) {tg l:Expr}{tl:TE}(hl:PE X l tl) (hK:X.K=K:=by rfl):PI X tg l (ym K tl):=hK ▸ zk hl
theorem dP (K:W.Frag) {tg l:Expr}{tl:TE}(hl:PE X l tl) (hK:X.K=K:=by rfl):PI X tg l (zW K tl):=hK ▸ AF hl
end
theorem jZ {i:Nat}{v:V}{σ:St}{H:Hp}{A B:St->Hp->Prop}(h:A (σ.set i (some v)) H):eF i v σ H fun σ2 H3=>ug σ2 H3 fun b H4=>if b=true then A σ2 H4 else B σ2 H4:=by
 show (if true=true then A (σ.set i (some v)) H else B (σ.set i (some v)) H)
 rw[if_pos rfl]
 exact h
section
variable {K:W.Frag}{k:Nat}{fr:List Nat}{g:TG}{tc:TT}{te:TE}{σ:St}{H1:Hp}{Q:VK}
theorem iJ {J:It}(xs:List V) (Ok:Hp -> Prop) (hgo:∀i H, Ok H -> i<xs.length -> J.go i H) (hyl:∀i H x H', Ok H -> i<xs.length -> J.yld i H x H' -> H'=H /\ xs[i]? = some x) (hst:∀H, Ok H -> J.stop xs.length H)
    (Pv:Addr->Nat->List V->St->Hp->Prop)
    (h:∀D,H1 D=none->Pv D 0 [] (hV k fr σ) (upd H1 D (.lst []))/\(∀i acc σ' H',i<=xs.length->Pv D i acc σ' H'->H' D=some (.lst acc)->Ok H') /\
     (∀i acc σ' H' x,xs[i]? = some x->Pv D i acc σ' H'->H' D=some (.lst acc)->g x σ' H' fun σ2 H3=>tc σ2 H3 fun b H4 =>
      if b=true then te σ2 H4 fun y H5=>H5 D=some (.lst acc)/\acc.length<sizeLine/\Pv D (i+1) (acc++[y]) σ2 (upd H5 D (.lst (acc++[y]))) else H4 D=some (.lst acc)/\Pv D (i+1) acc σ2 H4) /\
     ∀acc σ' H',Pv D xs.length acc σ' H'->H' D=some (.lst acc)->Q (.ref D) H'):gw k fr g tc te J σ H1 Q:=by
 intro D hD
 obtain⟨h0,hok,hs,hd⟩:=h D hD
 refine⟨fun i m acc σ' H'=>m=xs.length-i/\i<=xs.length/\Pv D i acc σ' H',⟨xs.length,by simp,aP _,h0⟩,?_⟩
 rintro i m acc σ' H' ⟨rfl,hi,p⟩ hacc
 have ok:=hok i acc σ' H' hi p hacc
 by_cases hlt:i<xs.length
 ·refine .inr ⟨hgo i H' ok hlt,Pv D (i+1),fun acc' σ2 H2 p'=>⟨xs.length-(i+1),by omega,rfl,hlt,p'⟩,fun x H2 y=>?_⟩
  obtain⟨e,hx⟩:=hyl i H' x H2 ok hlt y
  subst e
  exact hs i acc σ' H2 x hx p hacc
 ·have e:i=xs.length:=by omega
  subst e
  exact .inl ⟨hst H' ok,hd acc σ' H' p hacc⟩
def im (n:Nat):List V:=(List.range n).map fun i=>V.int (0+(i:Nat))
theorem mT {n:Nat}(Pv:Addr -> Nat -> List V -> St -> Hp -> Prop)
    (h:∀D,H1 D=none->Pv D 0 [] (hV k fr σ) (upd H1 D (.lst [])) /\
     (∀i acc σ' H',i<n->Pv D i acc σ' H'->H' D=some (.lst acc)->g (.int (0+(i:Nat))) σ' H' fun σ2 H3=>tc σ2 H3 fun b H4 =>
      if b=true then te σ2 H4 fun y H5=>H5 D=some (.lst acc)/\acc.length<sizeLine/\Pv D (i+1) (acc++[y]) σ2 (upd H5 D (.lst (acc++[y]))) else H4 D=some (.lst acc)/\Pv D (i+1) acc σ2 H4) /\
     ∀acc σ' H',Pv D n acc σ' H'->H' D=some (.lst acc)->Q (.ref D) H'):gw k fr g tc te (Itr 0 n) σ H1 Q:=by
 have hl:(im n).length=n:=by simp[im]
 refine iJ (im n) (fun _=>True) (fun i H _ hi=>by rw[hl] at hi;exact hi) (fun i H x H' _ hi y=>⟨y.1,?_⟩) (fun H _=>by show n<=(im n).length;rw[hl];exact ac _) Pv fun D hD=>?_
 ·rw[hl] at hi
  rw[y.2]
  simp[im,hi]
 ·obtain⟨a,b,c⟩:=h D hD
  refine⟨a,fun _ _ _ _ _ _ _=>trivial,fun i acc σ' H' x hx p hacc=>?_,by rw[hl];exact c⟩
  have hi:i<n:=by rw[<- hl];exact(ah.mp hx).1
  have e:x=V.int (0+(i:Nat)):=by
   simp[im,hi] at hx
   rw[<- hx];simp
  subst e
  exact b i acc σ' H' hi p hacc
theorem gs {a:Addr}(xs:List V) (Pv:Addr -> Nat -> List V -> St -> Hp -> Prop)
    (h:∀D,H1 D=none->Pv D 0 [] (hV k fr σ) (upd H1 D (.lst []))/\(∀i acc σ' H',i<=xs.length->Pv D i acc σ' H'->H' D=some (.lst acc)->SqL K H' a xs) /\
     (∀i acc σ' H' x,xs[i]? = some x->Pv D i acc σ' H'->H' D=some (.lst acc)->g x σ' H' fun σ2 H3=>tc σ2 H3 fun b H4 =>
      if b=true then te σ2 H4 fun y H5=>H5 D=some (.lst acc)/\acc.length<sizeLine/\Pv D (i+1) (acc++[y]) σ2 (upd H5 D (.lst (acc++[y]))) else H4 D=some (.lst acc)/\Pv D (i+1) acc σ2 H4) /\
     ∀acc σ' H',Pv D xs.length acc σ' H'->H' D=some (.lst acc)->Q (.ref D) H'):gw k fr g tc te (Itl K a) σ H1 Q :=
 iJ xs (fun H=>SqL K H a xs) (fun i H q hi=>⟨xs,xs[i],q,by simp[hi]⟩) (fun i H x H' q hi y=>⟨y.1,y.2 xs q⟩) (fun H q=>⟨xs,q,ac _⟩) Pv h
theorem fj {a:Addr}(xs:List V) (Pv:Addr -> Nat -> List V -> St -> Hp -> Prop)
    (h:∀D,H1 D=none->Pv D 0 [] (hV k fr σ) (upd H1 D (.lst []))/\(∀i acc σ' H',i<=xs.length->Pv D i acc σ' H'->H' D=some (.lst acc)->SqT K H' a xs) /\
     (∀i acc σ' H' x,xs[i]? = some x->Pv D i acc σ' H'->H' D=some (.lst acc)->g x σ' H' fun σ2 H3=>tc σ2 H3 fun b H4 =>
      if b=true then te σ2 H4 fun y H5=>H5 D=some (.lst acc)/\acc.length<sizeLine/\Pv D (i+1) (acc++[y]) σ2 (upd H5 D (.lst (acc++[y]))) else H4 D=some (.lst acc)/\Pv D (i+1) acc σ2 H4) /\
     ∀acc σ' H',Pv D xs.length acc σ' H'->H' D=some (.lst acc)->Q (.ref D) H'):gw k fr g tc te (Itt K a) σ H1 Q :=
 iJ xs (fun H=>SqT K H a xs) (fun i H q hi=>⟨xs,xs[i],q,by simp[hi]⟩) (fun i H x H' q hi y=>⟨y.1,y.2 xs q⟩) (fun H q=>⟨xs,q,ac _⟩) Pv h
def jR (z:Str):List V:=z.cps.toList.map fun c=>V.str ⟨#[c]⟩
theorem xP {z:Str}(Pv:Addr -> Nat -> List V -> St -> Hp -> Prop)
    (h:∀D,H1 D=none->Pv D 0 [] (hV k fr σ) (upd H1 D (.lst [])) /\
     (∀i acc σ' H' c,z.cps.toList[i]? = some c->Pv D i acc σ' H'->H' D=some (.lst acc)->g (.str ⟨#[c]⟩) σ' H' fun σ2 H3=>tc σ2 H3 fun b H4 =>
      if b=true then te σ2 H4 fun y H5=>H5 D=some (.lst acc)/\acc.length<sizeLine/\Pv D (i+1) (acc++[y]) σ2 (upd H5 D (.lst (acc++[y]))) else H4 D=some (.lst acc)/\Pv D (i+1) acc σ2 H4) /\
     ∀acc σ' H',Pv D z.cps.toList.length acc σ' H'->H' D=some (.lst acc)->Q (.ref D) H'):gw k fr g tc te (Its z) σ H1 Q:=by
 have hl:(jR z).length=z.cps.toList.length:=by simp[jR]
 refine iJ (jR z) (fun _=>True) (fun i H _ hi=>by rw[hl] at hi;show i<z.cps.size;simpa using hi) (fun i H x H' _ hi y=>⟨y.1,?_⟩) (fun H _=>by show z.cps.size<=(jR z).length;rw[hl];simp) Pv fun D hD=>?_
 ·have y2:=y.2
  unfold sgV at y2
  simp only[jR,aI,Array.getElem?_toList]
  exact y2
 ·obtain⟨a,b,c⟩:=h D hD
  refine⟨a,fun _ _ _ _ _ _ _=>trivial,fun i acc σ' H' x hx p hacc=>?_,by rw[hl];exact c⟩
  simp only[jR,aI] at hx
  cases e:z.cps.toList[i]? with
  | none=>rw[e] at hx;cases hx
  | some cc =>
   rw[e] at hx
   cases hx
   exact b i acc σ' H' cc e p hacc
end
def But (p:Addr) (H H':Hp):Prop:=∀b o,b≠p->H b=some o->H' b=some o
theorem But.refl (p:Addr) (H:Hp):But p H H:=fun _ _ _ h=>h
theorem But.trans {p:Addr}{H H1 H2:Hp}(a:But p H H1) (b:But p H1 H2):But p H H2:=fun c o n h=>b c o n (a c o n h)
theorem But.upd {p:Addr}{H:Hp}{o:HO}:But p H (upd H p o):=fun b o' n h=>by rw[cJ n];exact h
theorem But.of_same {p:Addr}{H H':Hp}(s:Same H H'):But p H H':=fun b o _ h=>s b o h
theorem Same.new {H:Hp}{p:Addr}{o:HO}(h:H p=none):Same H (upd H p o):=fun b o' e=>by rw[cJ (cO e h)];exact e
theorem Rd.but {p:Addr}{H H':Hp}(b:But p H H') {a:Addr}{u:HO}(n:a≠p) (h:Rd H a u):Rd H' a u:=by
 rcases h with h | ⟨o,h⟩
 ·exact .inl (b _ _ n h)
 ·exact .inr ⟨o,b _ _ n h⟩
theorem SqL.but {K:W.Frag}{p:Addr}{H H':Hp}(b:But p H H') {a:Addr}{xs:List V}(n:a≠p) (h:SqL K H a xs):SqL K H' a xs:=by
 rcases h with h | h
 ·exact .inl (h.but b n)
 ·exact .inr h
structure Blt (mg:Str->Option Value):Prop where
 len:mg "len"=none
 range:mg "range"=none
 abs:mg "abs"=none
 all:mg "all"=none
 repr:mg "repr"=none
 isinstance:mg "isinstance"=none
 str:mg "str"=none
 int:mg "int"=none
 bool:mg "bool"=none
 enumerate:mg "enumerate"=none
 list:mg "list"=none
 tuple:mg "tuple"=none
 dict:mg "dict"=none
 min:mg "min"=none
 max:mg "max"=none
section
variable {X:Cx}{p pos:Pos}{e f:Expr}{t:TA}
def rLen (K:W.Frag):List V->Hp->VK->Prop:=fun xs H Q=>∃x n,xs=[x]/\ya K x H n/\Q (.int n) H
def rAbs:List V->Hp->VK->Prop:=fun xs H Q=>∃i,xs=[.int i]/\Q (.int (if i<0 then -i else i)) H
def rAll:List V->Hp->VK->Prop:=fun xs H Q=>∃p bs,xs=[.ref p]/\H p=some (.lst (List.map V.bl bs))/\Q (.bl (bs.all id)) H
theorem dO (K:W.Frag) (B:Blt X.mg) (ha:PA X [e] t) (hg:Gl X "len":=by rfl) (he:starEach [e] X.env=(false,eval e X.env)::starEach [] X.env:=by rfl) (hpl:(backTo pos (starEach [] X.env)).any (·.1)=false:=by rfl) (hK:X.K=K:=by rfl):PE X (.Call (.Name "len" p) [e] [] pos) (tCB (rLen K) t) :=
 hK ▸ gv wT hg B.len PySem.boot_len ha (by decide) (by decide) he hpl
theorem tm (B:Blt X.mg) (ha:PA X [e] t) (hg:Gl X "abs":=by rfl) (he:starEach [e] X.env=(false,eval e X.env)::starEach [] X.env:=by rfl) (hpl:(backTo pos (starEach [] X.env)).any (·.1)=false:=by rfl):PE X (.Call (.Name "abs" p) [e] [] pos) (tCB rAbs t) :=
 gv wX hg B.abs boot_abs ha (by decide) (by decide) he hpl
theorem mO (hc:X.calm=true) (B:Blt X.mg) (ha:PA X [e] t) (hg:Gl X "all":=by rfl) (he:starEach [e] X.env=(false,eval e X.env)::starEach [] X.env:=by rfl) (hpl:(backTo pos (starEach [] X.env)).any (·.1)=false:=by rfl):PE X (.Call (.Name "all" p) [e] [] pos) (tCB rAll t) :=
 gv (rf hc) hg B.all boot_all ha (by decide) (by decide) he hpl
theorem lG (K:W.Frag) (c:String) (B:Blt X.mg) (ha:PA X [e,f] t) (hg:Gl X "isinstance":=by rfl) (he:starEach [e,f] X.env=(false,eval e X.env)::starEach [f] X.env:=by rfl) (hpl:(backTo pos (starEach [f] X.env)).any (·.1)=false:=by rfl) (hK:X.K=K:=by rfl):PE X (.Call (.Name "isinstance" p) [e,f] [] pos) (tCB (AO K c) t) :=
 hK ▸ gv (w6 c) hg B.isinstance boot_isinstance ha (by decide) (by decide) he hpl
theorem pM (B:Blt X.mg) (hg:Gl X "str":=by rfl):PE X (.Name "str" p) (tC (.ty "str")):=li hg B.str PyProof.Rows.boot_str rfl
theorem qA (B:Blt X.mg) (hg:Gl X "list":=by rfl):PE X (.Name "list" p) (tC (.ty "list")):=li hg B.list (show bootBuiltins "list"=some (.type "list") by decide +kernel) rfl
end
end L2
namespace L2
open PySem PySem.Spec PyProof.Rows PySem.Builtin PySem.Builtin.Str
theorem gA (x y:Str):(x++y).length=x.length+y.length:=by
 show (x.cps++y.cps).size=x.cps.size+y.cps.size
 rw[Array.size_append]
theorem zR {ys:List Str}{n:Nat}(h:∀y∈ys,y.length<=n):(ys.map (·.length)).sum<=ys.length * n:=by
 induction ys with
 | nil=>simp
 | cons y r ih =>
  have h1:=h y (by simp)
  have h2:=ih fun z hz=>h z (aK _ hz)
  simp only[aQ,List.sum_cons,aF]
  rw[Nat.succ_mul]
  omega
theorem ue {α:Type}{xs:List α}{j:Int}(h0:0<=j) (h1:j<xs.length):∃v,atI xs j=some v/\v∈xs:=by
 obtain⟨k,rfl⟩:=bi h0
 have hk:k<xs.length:=by omega
 exact⟨xs[k],eQ (by simp[hk]),List.getElem_mem hk⟩
theorem Ah {ns:List Int}{j:Int}(h0:0<=j) (h1:j<(ns.map V.int).length):∃c,atI (ns.map V.int) j=some (.int c):=by
 obtain⟨v,e,m⟩:=ue h0 h1
 obtain⟨c,_,rfl⟩:=ao.mp m
 exact⟨c,e⟩
theorem pA (x:Int):-(2 ^ 64)<x % 2147483647/\x % 2147483647<2 ^ 64:=by
 have h1:=bg x (show (2147483647:Int)≠0 by decide)
 have h2:=bp x (show (0:Int)<2147483647 by decide)
 omega
theorem But.at {p D:Addr}{H H':Hp}{o:HO}(b:But p H H') (hD:H D=none):But p H (L2.upd H' D o):=fun c o' n h=>by rw[cJ (cO h hD)];exact b c o' n h
theorem But.free {p D:Addr}{H H':Hp}(b:But p H H') (n:D≠p) (h:H' D=none):H D=none:=by
 cases e:H D with
 | none=>rfl
 | some o=>rw[b D o n e] at h;cases h
end L2
namespace L2
open PySem PySem.Spec PyProof.Rows
section
variable {X:Cx}
inductive InR (K:W.Frag) (neg:Bool) (H:Hp):V -> V -> VK -> Prop
 | dic {a:Addr} {y:V} {o:Option V} {Q:VK}:DGet H a y o->Q (.bl (if neg then !o.isSome else o.isSome)) H->InR K neg H y (.ref a) Q
 | seq {p:Addr} {x:V} {xs:List V} {Q:VK}:(SqL K H p xs∨SqT K H p xs)->gB x=true->xs.all gB=true->Q (.bl (if neg then !inV x xs else inV x xs)) H->InR K neg H x (.ref p) Q
 | tr {p:Addr} {x:V} {xs:List V} {ds:List PyData} {d:PyData} {Q:VK}:H p=some (.lst xs)->RepAll H xs ds->Rep H x d->PyData.canLayAll0 ds=true->d.canLay0=true->d.depth<=16 ->
     Q (.bl (if neg then !(ds.any fun e=>PyData.eqv e d) else ds.any fun e=>PyData.eqv e d)) H->InR K neg H x (.ref p) Q
theorem ft (K:W.Frag) (hu:X.A.units+64<cLine) (hK:X.K=K:=by rfl):OpR X (compareOp .In) (fun x y H Q=>InR K false H x y Q):=by
 subst hK
 intro pins s σ H x y v u Q I rx ry h
 cases h with
 | dic g q =>
  cases ry
  exact d_in (by omega) I g rx fun s' I'=>⟨.bl _,H,I',rfl,q⟩
 | seq hq fx fs q=>exact vR pins s σ H _ _ v u Q I rx ry ⟨_,_,rfl,hq,fx,fs,q⟩
 | tr e rs r cs c dp q=>exact A6 hu pins s σ H _ _ v u Q I rx ry ⟨_,_,_,_,rfl,e,rs,r,cs,c,dp,q⟩
theorem g9 (K:W.Frag) (hu:X.A.units+64<cLine) (hK:X.K=K:=by rfl):OpR X (compareOp .NotIn) (fun x y H Q=>InR K true H x y Q):=by
 subst hK
 intro pins s σ H x y v u Q I rx ry h
 cases h with
 | dic g q =>
  cases ry
  exact yW (by omega) I g rx fun s' I'=>⟨.bl _,H,I',rfl,q⟩
 | seq hq fx fs q=>exact qD pins s σ H _ _ v u Q I rx ry ⟨_,_,rfl,hq,fx,fs,q⟩
 | tr e rs r cs c dp q=>exact uS hu pins s σ H _ _ v u Q I rx ry ⟨_,_,_,_,rfl,e,rs,r,cs,c,dp,q⟩
inductive IxX (K:W.Frag) (H:Hp):V->V->VK->Prop
 | lst {p:Addr} {xs:List V} {i:Int} {v:V} {Q:VK}:SqL K H p xs->atI xs i=some v->Q v H->IxX K H (.ref p) (.int i) Q
 | tup {p:Addr} {xs:List V} {i:Int} {v:V} {Q:VK}:SqT K H p xs->atI xs i=some v->Q v H->IxX K H (.ref p) (.int i) Q
 | str {z:Str} {i:Int} {c:Nat} {Q:VK}:z.length<=sizeLine->atI z.cps.toList i=some c->Q (.str ⟨#[c]⟩) H->IxX K H (.str z) (.int i) Q
 | dic {a:Addr} {y v:V} {Q:VK}:DGet H a y (some v)->Q v H->IxX K H (.ref a) y Q
theorem ix_X (K:W.Frag) (hu:X.A.units+64<cLine) (hK:X.K=K:=by rfl):IxR X (fun x y H Q=>IxX K H x y Q):=by
 subst hK
 intro value slice pins s σ H x y v u Q I rx ry h hs
 cases h with
 | lst hq e q=>exact yE value slice pins s σ H _ _ v u Q I rx ry ⟨_,_,_,_,rfl,rfl,hq,e,q⟩ hs
 | tup hq e q=>exact Al value slice pins s σ H _ _ v u Q I rx ry ⟨_,_,_,_,rfl,rfl,hq,e,q⟩ hs
 | str hz e q=>exact Ar value slice pins s σ H _ _ v u Q I rx ry ⟨_,_,_,rfl,rfl,hz,e,q⟩ hs
 | dic g q =>
  cases rx
  exact tail_any (qZ I g) PySem.F.slot_dict_getitem.lookup (wo (by omega) I g ry fun w' s3 I3 rw'=>⟨_,H,I3,rw',q⟩) hs
inductive SetX (H:Hp):V->V->V->(Hp->Prop)->Prop
 | lst {p:Addr} {xs:List V} {k:Int} {j:Nat} {v:V} {Q:Hp->Prop}:H p=some (.lst xs)->ixN xs.length k=some j->Q (upd H p (.lst (xs.set j v)))->SetX H (.ref p) (.int k) v Q
 | dic {a:Addr} {y v:V} {H':Hp} {Q:Hp->Prop}:DPut H a y v H'->Q H'->SetX H (.ref a) y v Q
theorem iQ (hu:X.A.units+64<cLine):wG X (fun o i v H Q=>SetX H o i v Q):=by
 intro pins s σ H o i v ov iv u Q I ro ri rv h
 cases h with
 | lst e ej q=>exact xy pins s σ H _ _ _ ov iv u Q I ro ri rv ⟨_,_,_,_,rfl,rfl,e,ej,q⟩
 | dic g q =>
  cases ro
  exact vI (by omega) I g ri rv fun s4 I4=>⟨_,I4,q⟩
theorem eW (K:W.Frag) {es:List Expr}{k:Nat}{pos:Pos}{t:TGs}{n:Nat}(hc:X.calm=true) (h:PGs X es t)
    (hn:(assignEach es X.env).length=n:=by rfl) (hst:(assignEach es X.env).findIdx? (·.1)=none:=by rfl) (hK:X.K=K:=by rfl):PG X (.Tuple es k pos) (xg K n t):=hK ▸ At hc h hn hst
variable {p pos p2 pos2:Pos}{e f:Expr}{t:TA}
end
section
variable {X:Cx}{p pos p2 pos2:Pos}{e f:Expr}{t:TA}
def yn (K:W.Frag):List V->Hp->VK->Prop:=fun xs H Q=>∃a ys,xs=[.ref a]/\SqL K H a ys/\∀l,H l=none->Q (.ref l) (upd H l (.tup ys))
theorem fG (K:W.Frag) (B:Blt X.mg) (ha:PA X [e] t) (hg:Gl X "tuple":=by rfl) (he:starEach [e] X.env=(false,eval e X.env)::starEach [] X.env:=by rfl) (hpl:(backTo pos (starEach [] X.env)).any (·.1)=false:=by rfl) (hK:X.K=K:=by rfl) :
    PE X (.Call (.Name "tuple" p) [e] [] pos) (tCB (yn K) t):=by
 subst hK
 refine iC (r:=yn X.K) (fun pins s σ H xs us Q I r h=>?_) hg B.tuple (show bootBuiltins "tuple"=some (.type "tuple") by decide +kernel) ha (by decide) (by decide) he hpl
 obtain⟨a,ys,rfl,hq,q⟩:=h
 exact pI pins s σ H _ us Q I r ⟨a,ys,rfl,.inl ⟨hq,q⟩⟩
inductive LstR (K:W.Frag) (H:Hp):V->VK->Prop
 | seq {a:Addr} {ys:List V} {Q:VK}:(SqL K H a ys∨SqT K H a ys)->(∀l,H l=none->Q (.ref l) (upd H l (.lst ys)))->LstR K H (.ref a) Q
 | rng {a:Addr} {n:Nat} {Q:VK}:H a=some (.rng 0 (n:Int))->n<=1000->(∀l,H l=none->Q (.ref l) (upd H l (.lst (im n))))->LstR K H (.ref a) Q
def Af (K:W.Frag):List V->Hp->VK->Prop:=fun xs H Q=>∃x,xs=[x]/\LstR K H x Q
theorem x9 {n:Nat}{its:List Value}(hl:its.length=n) (h:∀i v, its[i]? = some v -> ∃t, v=Value.int (0+(i:Nat) * 1) t):Vals (im n) its := by
 subst hl
 have key:∀(its:List Value) (k:Nat), (∀i v, its[i]? = some v -> ∃t, v=Value.int (0+((k+i:Nat):Int)) t) -> Vals ((List.range' k its.length).map fun i => V.int (0+(i:Nat))) its := by
  intro its
  induction its with
  | nil=>intro k _;exact .nil
  | cons u r ih =>
   intro k h
   rw[aF,List.range'_succ,aQ]
   refine .cons ?_ (ih (k+1) fun i v e=>?_)
   ·obtain⟨t,e⟩:=h 0 u rfl
    exact⟨t,by rw[e,Nat.add_zero]⟩
   ·obtain⟨t,e'⟩:=h (i+1) v (by simpa using e)
    exact⟨t,by rw[e',show ((k+(i+1):Nat):Int)=((k+1+i:Nat):Int) by omega]⟩
 have:=key its 0 fun i v e=>by
  obtain⟨t,e'⟩:=h i v e
  exact⟨t,by rw[e',Int.mul_one,Nat.zero_add]⟩
 rw[im,List.range_eq_range']
 exact this
theorem uT (K:W.Frag) (hc:X.calm=true) (B:Blt X.mg) (ha:PA X [e] t) (hg:Gl X "list":=by rfl) (he:starEach [e] X.env=(false,eval e X.env)::starEach [] X.env:=by rfl) (hpl:(backTo pos (starEach [] X.env)).any (·.1)=false:=by rfl) (hK:X.K=K:=by rfl) :
    PE X (.Call (.Name "list" p) [e] [] pos) (tCB (Af K) t):=by
 subst hK
 refine iC (r:=Af X.K) (fun pins s σ H xs us Q I r h=>?_) hg B.list (show bootBuiltins "list"=some (.type "list") by decide +kernel) ha (by decide) (by decide) he hpl
 obtain⟨x,rfl,h⟩:=h
 cases h with
 | seq hq q=>exact qt pins s σ H _ us Q I r ⟨_,_,rfl,hq,q⟩
 | @rng a n _ ea hn q =>
  obtain⟨u,rfl,ru⟩:=fZ r
  cases ru
  obtain⟨t1,t2,t3,eh⟩:=(show ObjOk X.prog X.w H s.heap a (.rng 0 (n:Int)) from I.hok a _ ea)
  refine call_list_range (n:=n) (I.ok.hd hc) eh (small_one (by decide) (by decide) (by omega) (by omega)) (by rw[rangeSize_one];split <;> omega) (by omega) fun h' tk acc' c' hk hl hi=>?_
  have hv:Vals (im n) acc'.toList:=x9 (by simpa using hi.1) fun i v e=>hi.2 i v (by simpa using e)
  refine⟨.ref _,_,I.laid (o:=.lst (im n)) hk (ac _) ⟨?_,acc'.toList,c',hv,by simpa using hl⟩,rfl,q _ (I.hok.fresh (ac _))⟩
  have:(im n).length=n:=by simp[im]
  rw[this]
  exact Nat.le_of_lt (cU hn)
theorem yA (hc:X.calm=true) (B:Blt X.mg) (ha:PA X [e,f] t) (hg:Gl X "min":=by rfl) (he:starEach [e,f] X.env=(false,eval e X.env)::starEach [f] X.env:=by rfl) (hpl:(backTo pos (starEach [f] X.env)).any (·.1)=false:=by rfl) :
    PE X (.Call (.Name "min" p) [e,f] [] pos) (tCB (fun xs H Q=>∃i j,xs=[.int i,.int j]/\Q (.int (if j<i then j else i)) H) t) :=
 gv (wc hc) hg B.min (show bootBuiltins "min"=some (.builtin "min") by decide +kernel) ha (by decide) (by decide) he hpl
theorem As {its:List Value}{u:Value}{k:Nat}{x:Int}(hx:x=(k:Int)) (hk:k<=its.length) :
    (fun xs:Array Value=>have k:=if x<0 then (x+(xs.size:Int)).toNat else min x.toNat xs.size;(xs.extract 0 k).push u++xs.extract k) its.toArray=(its.take k++u::its.drop k).toArray:=by
 subst hx
 simp only[aE]
 rw[if_neg (by omega),bT,Nat.min_eq_left hk]
 simp[List.extract_eq_drop_take]
 exact ap (by rw[bU];omega)
def sQ:V->List V->Hp->VK->Prop:=fun x vs H Q=>∃l xs i k y,x=.ref l/\vs=[.int i,y]/\i=((k:Nat):Int)/\H l=some (.lst xs)/\k<=xs.length/\xs.length<sizeLine/\Q .non (upd H l (.lst (xs.take k++y::xs.drop k)))
theorem uN:MtR X "list.insert" sQ:=by
 intro pins s σ H x vs v us Q I rx rv h
 obtain⟨l,xs,i,k,y,rfl,rfl,hi,hH,hk,hz,q⟩:=h
 cases rx
 obtain⟨u1,u2,rfl,r1,r2⟩:=ir rv
 obtain⟨t,rfl⟩:=r1
 obtain⟨z,its,n,r,hl,e⟩:=I.lstM hH
 have hs:its.length<=sizeLine:=by omega
 have hfit:Builtin.List.listFitsIndex i=true:=by
  have h1:i<2 ^ 63:=by have:=jP;omega
  exact fitsIndex_both (by omega) h1
 have ME:=PySem.AutoSeq1.list_insert_list_int_val_1 l its.toArray n i t u2 (by simp[hfit]) (by rw[aE];exact hs)
 refine call_meets F.slot_list_insert ⟨_,e,rfl⟩ F.entry_list_insert (F.args_list_insert_3 _ _ _) ME ⟨e,?_⟩
 refine⟨.non,_,I.lset (its':=its.take k++u2::its.drop k) hH e (As hi (by omega)) (Vals.append (r.take k) (.cons r2 (r.drop k))) ?_,rfl,q⟩
 simp only[aJ,aF,aL,bU]
 omega
theorem i4 (K:W.Frag) {o e f:Expr}{to:TE}{t:TA}{apos cpos:Pos}(ho:PE X o to) (ha:PA X [e, f] t)
    (hbase:attributeBase o "insert" X.env (eval o X.env)=eval o X.env:=by rfl)
    (hfew:((backTo cpos (starEach [e,f] X.env)).all (fun x=>!x.1)&&(backToKw cpos (keywordEach [] X.env)).all (fun x=>x.1.isSome)
     && decide ([e,f].length+([]:List Keyword).length+(if ([]:List Keyword).isEmpty then 0 else 1)<30))=true:=by rfl)
    (hline:(apos.endLine==cpos.line)=true:=by rfl) (hs:starEach [e,f] X.env=(false,eval e X.env)::starEach [f] X.env:=by rfl) (hplain:(backTo cpos (starEach [f] X.env)).any (·.1)=false:=by rfl) (hK:X.K=K:=by rfl) :
    PE X (.Call (.Attribute o "insert" apos) [e,f] [] cpos) (tBM K "list" sQ to t):=hK ▸ mV PySem.F.plainAttrs_list PySem.F.slot_list_insert PySem.F.type_list_insert uN ho ha hbase hfew hline hs hplain
end
def Nm (s:Str):Prop:=1<=s.length/\s.length<=8/\∀c∈s.cps.toList,97<=c/\c<=122
def cW (e:Str × Str):PyData:=.tuple [.str e.1,.str e.2]
section
variable {H H':Hp}
theorem Rep.tupI {v:V}{ds:List PyData}(h:Rep H v (.tuple ds)):∃a xs,v=.ref a/\H a=some (.tup xs)/\RepAll H xs ds:=by
 cases h with
 | tup e r=>exact⟨_,_,rfl,e,r⟩
theorem Rep.strI {v:V}{s:Str}(h:Rep H v (.str s)):v=.str s:=by cases h;rfl
theorem RepAll.nilI {xs:List V}(h:RepAll H xs []):xs=[]:=by cases h;rfl
theorem RepAll.consI {xs:List V}{d:PyData}{ds:List PyData}(h:RepAll H xs (d::ds)):∃y ys,xs=y::ys/\Rep H y d/\RepAll H ys ds:=by
 cases h with
 | cons a b=>exact⟨_,_,rfl,a,b⟩
theorem RepAll.strs:∀ {xs:List V}{ss:List Str},RepAll H xs (ss.map PyData.str)->xs=ss.map V.str
 | _,[],h=>by rw[h.nilI];rfl
 | _,s::ss,h=>by
  obtain⟨y,ys,rfl,a,b⟩:=RepAll.consI h
  rw[a.strI,RepAll.strs b];rfl
theorem RepAll.of_strs:∀(ss:List Str),RepAll H (ss.map V.str) (ss.map PyData.str)
 | []=>.nil
 | s::ss=>.cons (.str s) (RepAll.of_strs ss)
theorem RepAll.len {xs:List V}{ds:List PyData}(h:RepAll H xs ds):xs.length=ds.length:=by
 induction ds generalizing xs with
 | nil=>rw[h.nilI];rfl
 | cons d ds ih =>
  obtain⟨y,ys,rfl,a,b⟩:=h.consI
  simp[ih b]
theorem RepAll.get {xs:List V}{ds:List PyData}(h:RepAll H xs ds) {i:Nat}{x:V}(e:xs[i]? = some x):∃d,ds[i]? = some d/\Rep H x d:=by
 induction ds generalizing xs i with
 | nil=>rw[h.nilI] at e;simp at e
 | cons d ds ih =>
  obtain⟨y,ys,rfl,a,b⟩:=h.consI
  cases i with
  | zero=>simp at e;subst e;exact⟨d,rfl,a⟩
  | succ i=>simpa using ih b (by simpa using e)
theorem RepAll.append {xs ys:List V}{ds es:List PyData}(h:RepAll H xs ds) (g:RepAll H ys es):RepAll H (xs++ys) (ds++es):=by
 induction ds generalizing xs with
 | nil=>rw[h.nilI];exact g
 | cons d ds ih =>
  obtain⟨y,zs,rfl,a,b⟩:=h.consI
  exact .cons a (ih b)
theorem lP {v:V}{e:Str × Str}(h:Rep H v (cW e)):∃a,v=.ref a/\H a=some (.tup [.str e.1,.str e.2]):=by
 obtain⟨a,xs,rfl,ha,r⟩:=Rep.tupI h
 obtain⟨y,ys,rfl,r1,r⟩:=r.consI
 obtain⟨z,zs,rfl,r2,r⟩:=r.consI
 have e1:=RepAll.nilI r
 subst e1
 rw[r1.strI,r2.strI] at ha
 exact⟨a,rfl,ha⟩
theorem dG {a:Addr}{s t:Str}(h:H a=some (.tup [.str s,.str t])):Rep H (.ref a) (cW (s,t)):=.tup h (.cons (.str _) (.cons (.str _) .nil))
end
end L2
set_option autoImplicit false
namespace MG
variable {α:Type}
def tu (R:α->α->Prop):Nat->α->α->Prop
 | 0,x,y=>x=y
 | n+1,x,y=>∃z,tu R n x z/\R z y
def Rch (R:α->α->Prop) (x y:α):Prop:=∃n,tu R n x y
def Dst (R:α->α->Prop) (x:α) (d:Nat) (y:α):Prop:=tu R d x y/\∀k,k<d->¬ tu R k x y
variable {R:α->α->Prop}{x:α}
theorem Rch.refl:Rch R x x:=⟨0,rfl⟩
theorem Rch.step {y z:α}(h:Rch R x y) (r:R y z):Rch R x z:=by
 obtain⟨n,w⟩:=h
 exact⟨n+1,y,w,r⟩
theorem Rch.closed {S:α -> Prop}(h0:S x) (hs:∀y z, S y -> R y z -> S z) {y:α}(h:Rch R x y):S y := by
 obtain⟨n,w⟩:=h
 induction n generalizing y with
 | zero => have:x=y := w
           subst this;exact h0
 | succ n ih =>
  obtain⟨z,w,r⟩:=w
  exact hs z y (ih w) r
end MG
namespace L2
open PySem PySem.Spec PyProof.Rows
theorem ei {s:Str}(h:Nm s):PyData.canLay0 (.str s)=true:=by
 show (s.cps.all (·<0x110000))=true
 rw[<- Array.all_toList,bo]
 intro c hc
 have:=h.2.2 c hc
 exact ak (by omega)
theorem lY:∀ss:List Str,(∀s∈ss,Nm s)->PyData.canLayAll0 (ss.map PyData.str)=true
 | [],_=>rfl
 | s::ss,h=>by
  show (PyData.canLay0 (.str s)&&PyData.canLayAll0 (ss.map PyData.str))=true
  rw[lY ss fun x hx=>h x (aK _ hx),ei (h s (by simp))]
  rfl
theorem nJ:∀ss:List Str,PyData.depthAll (ss.map PyData.str)=0
 | []=>rfl
 | s::ss=>by
  show max (PyData.depth (.str s)) (PyData.depthAll (ss.map PyData.str))=0
  rw[nJ ss];rfl
theorem lT {d:PyData}(h:shp d):PyData.eqv d d=true:=SeqAt.eqv_refl d (SeqAt.canLay_of_shaped h)
theorem ka {K:W.Frag}{a:Addr}{xs:List V}{g:TG}{tb:TS}{D:Ends}{σ:St}{H:Hp}(Pv:Nat -> St -> Hp -> Prop) (h0:Pv 0 σ H) (hl:∀i σ H, i <= xs.length -> Pv i σ H -> SqL K H a xs)
    (hs:∀i x σ H p,xs[i]? = some x->Pv i σ H->H p=none->g (.ref p) σ (upd H p (.tup [.int i,x])) fun σ2 H2=>tb { D with nx:=Pv (i+1),ct:=Pv (i+1),bk:=D.nx } σ2 H2) (hd:∀σ H,Pv xs.length σ H->D.nx σ H) :
    ∃W:Nat->Nat->St->Hp->Prop,(∃m,W 0 m σ H)/\∀i m σ H,W i m σ H ->
     ((Ite K a).stop i H/\D.nx σ H)∨((Ite K a).go i H/\∃N:St->Hp->Prop,(∀σ' H',N σ' H'->∃m',m'<m/\W (i+1) m' σ' H')/\∀x H',(Ite K a).yld i H x H'->g x σ H' fun σ2 H2=>tb { D with nx:=N,ct:=N,bk:=D.nx } σ2 H2):=by
 refine⟨fun i m σ H=>m=xs.length-i/\i<=xs.length/\Pv i σ H,⟨xs.length,by simp,aP _,h0⟩,?_⟩
 rintro i m σ H ⟨rfl,hi,p⟩
 have q:=hl i σ H hi p
 by_cases hlt:i<xs.length
 ·refine .inr ⟨⟨xs,xs[i],q,by simp[hlt]⟩,Pv (i+1),fun σ' H' p'=>⟨xs.length-(i+1),by omega,rfl,hlt,p'⟩,fun x H' y=>?_⟩
  obtain⟨r,z,hr,rfl,hz,rfl⟩:=y
  exact hs i z σ H r (hz xs q) p hr
 ·have e:i=xs.length:=by omega
  subst e
  exact .inl ⟨⟨xs,q,ac _⟩,hd σ H p⟩
def Tab (H:Hp) (d:Addr) (ss:List Str) (f:Str->List Str):Prop:=∃kvs,H d=some (.dK kvs)/\∀s∈ss,∃l,dg kvs (.inr s)=some (.ref l)/\H l=some (.lst (List.map V.str (f s)))
def Ner (ss:List Str) (f:Str->List Str) (a b:Str):Prop:=a∈ss/\b∈f a
def spSteps:Sp:=fun vs H Q _=>∃d s ss f,vs=[.ref d,.str s]/\Tab H d ss f/\s∈ss/\ss.length<=60/\(∀t∈ss,∀u∈f t,u∈ss) /\
 ∀e kvs H',Same H H'->H e=none->H' e=some (.dK kvs)->(∀t v,dg kvs (.inr t)=some v ↔ ∃k:Nat,v=.int k/\MG.Dst (Ner ss f) s k t)->Q (.ref e) H'
def Tie (ts:List (Str × Str)) (a b:Str):Prop:=(a,b)∈ts
theorem eG {H H':Hp}{b:Addr}(s:Same H H') (h:H' b=none):H b=none:=by
 cases q:H b with
 | none=>rfl
 | some o=>rw[s _ _ q] at h;cases h
theorem dh {H H':Hp}{b:Addr}{o:HO}(s:Same H H') (h:H b=none):Same H (upd H' b o):=fun c o' hc=>by
 rw[cJ (cO hc h)];exact s _ _ hc
section
variable {X:Cx}{p pos p2 pos2:Pos}{e f:Expr}{t:TA}
theorem xM {xs:List V}{us:List Value}(r:Vals xs us) {j:Nat}{u:Value}(e:us[j]? = some u):∃x,xs[j]? = some x/\RelV x u:=by
 induction r generalizing j with
 | nil=>simp at e
 | @cons a b as bs h t ih =>
  cases j with
  | zero=>simp at e;subst e;exact⟨a,rfl,h⟩
  | succ j=>simpa using ih (by simpa using e)
end
end L2
namespace MG
section
variable {α:Type} [DecidableEq α]
def ix:List α->α->Nat
 | [],_=>0
 | a::r,x=>if a=x then 0 else ix r x+1
theorem sf (a:α) (r:List α):ix (a::r) a=0:=by show (if a=a then 0 else _)=0;rw[if_pos rfl]
theorem rZ {a x:α}(r:List α) (h:a≠x):ix (a::r) x=ix r x+1:=by show (if a=x then 0 else _)=_;rw[if_neg h]
theorem ix_at {l:List α}(nd:l.Nodup):∀ {i:Nat}{x:α}, l[i]? = some x -> ix l x=i := by
 induction l with
 | nil=>intro i x e;simp at e
 | cons a r ih =>
  intro i x e
  have ⟨h1,h2⟩:=ba.mp nd
  cases i with
  | zero=>simp at e;subst e;exact sf a r
  | succ i =>
   have e':r[i]? = some x:=by simpa using e
   have hx:=au e'
   rw[rZ r (fun q:a=x=>h1 (q ▸ hx)),ih h2 e']
theorem at_ix {l:List α}{x:α}(h:x ∈ l):l[ix l x]? = some x := by
 induction l with
 | nil=>cases h
 | cons a r ih =>
  by_cases q:a=x
  ·subst q;rw[sf];rfl
  ·rw[rZ r q]
   rcases aB.mp h with h | h
   ·exact absurd h.symm q
   ·simpa using ih h
theorem ix_lt {l:List α}{x:α}(h:x∈l):ix l x<l.length:=(ah.mp (at_ix h)).1
end
variable {es:List (Nat × Nat)}
end MG
namespace L2
open PySem PySem.Spec PyProof.Rows
open PySem.AutoSeq1 (wpAny_loadPart')
section
variable {prog:Program}{w:World}{A:Around}{E:Value->Shared->Prop}{s:Shared}
theorem nI {jt tt:Addr}{i:Nat}{its:Array Value}{y:Value}{Q:Value->Shared->Prop}(hj:s.heap.IsTupleIter jt tt i) (htt:s.heap.IsTuple tt its) (hy:its[i]? = some y)
    (hQ:∀h',h'.IsTupleIter jt tt (i+1)->Heap.SameBut jt s.heap h'->Q y { s with heap:=h' }):wpAny (model prog w) A (Builtin.SmallTypes.nextOf (.ref jt)) Q E s:=by
 obtain⟨oj,hoj,cj,dj⟩:=id hj
 obtain⟨ot,hot,_,nt,dt⟩:=htt
 unfold Builtin.SmallTypes.nextOf
 refine aa (wpAny_callSpecial?_slot (name:=Str.ofString "__next__") hj.typeIs F.slot_tuple_iterator_next (wpAny_call_entry F.slot_tuple_iterator_next hj.typeIs F.entry_tuple_iterator_next ?_ (F.args_tuple_iterator_next_1 _)))
 show wpAny _ _ (field (.ref jt) 0 >>= _) _ _ s
 refine aa (aU hoj dj (x:=.ref tt) rfl ?_)
 show wpAny _ _ (if (Value.ref tt==Value.none)=true then _ else _) _ _ s
 rw[if_neg (show ¬ ((Value.ref tt==Value.none)=true) from aN)]
 show wpAny _ _ (field (.ref jt) 1 >>= _) _ _ s
 refine aa (aU hoj dj (x:=.int i 0) rfl (aa (bO hot dt ?_)))
 simp only[bT,hy]
 refine aa (wpAny_setField hoj dj (by simp) (af ⟨y,rfl,af (hQ _ ?_ (Heap.SameBut.update ..))⟩))
 exact⟨_,ci _ hoj (Obj.isFreed_of_fields (Obj.data_mapFields dj _)),(Obj.cls_mapFields ..).trans cj,by rw[Obj.data_mapFields dj];simp[rawInt]⟩
theorem kP {jt tt:Addr}{i:Nat}{its:Array Value}{Q:Value->Shared->Prop}(hh:A.handled=none) (hj:s.heap.IsTupleIter jt tt i) (htt:s.heap.IsTuple tt its) (hy:its[i]? = none)
    (hE:∀h' e,Heap.ExtBut jt s.heap h'->(∃o,h'.get? e=some o/\o.cls=.type "StopIteration")->E (.ref e) { s with heap:=h' }):wpAny (model prog w) A (Builtin.SmallTypes.nextOf (.ref jt)) Q E s:=by
 obtain⟨oj,hoj,cj,dj⟩:=id hj
 obtain⟨ot,hot,_,nt,dt⟩:=htt
 unfold Builtin.SmallTypes.nextOf
 refine aa (wpAny_callSpecial?_slot (name:=Str.ofString "__next__") hj.typeIs F.slot_tuple_iterator_next (wpAny_call_entry F.slot_tuple_iterator_next hj.typeIs F.entry_tuple_iterator_next ?_ (F.args_tuple_iterator_next_1 _)))
 show wpAny _ _ (field (.ref jt) 0 >>= _) _ _ s
 refine aa (aU hoj dj (x:=.ref tt) rfl ?_)
 show wpAny _ _ (if (Value.ref tt==Value.none)=true then _ else _) _ _ s
 rw[if_neg (show ¬ ((Value.ref tt==Value.none)=true) from aN)]
 show wpAny _ _ (field (.ref jt) 1 >>= _) _ _ s
 refine aa (aU hoj dj (x:=.int i 0) rfl (aa (bO hot dt ?_)))
 simp only[bT,hy]
 refine aa (wpAny_rule (aa (wpAny_setField hoj dj (by simp) ?_)))
 show wpAny _ _ (newExc (.type "StopIteration") [] >>= _) _ _ _
 refine aa ?_
 simp only[newExc,newTuple]
 refine aa (wpAny_newObj_type (aa (m:=firstArgMember _ _) (wpAny_of_eq (a:=Value.none) (by first | rfl | (simp only[firstArgMember];rfl)) ?_)) (by size_fits))
 refine wpAny_newObj_type ?_ (by size_fits)
 simp only[raiseNew]
 refine aa (wpAny_handled ?_)
 first | rw[show A.in1.handled=none from hh] | rw[hh]
 refine aa (af (wpAny_throw (hE _ _ (((Heap.SameBut.update ..).extBut.push _).push _) ⟨_,aA _ rfl,rfl⟩)))
theorem zT {prog:Program}{w:World}{A:Around}(hh:A.handled=none) (jt tt:Addr) (hne:tt≠jt) (its:Array Value) :
    Draws prog w A jt [jt,tt] its.size (fun i y=>its[i]? = some y) (fun i h=>h.IsTupleIter jt tt i/\h.IsTuple tt its) where
 live:=fun i h st=>let ⟨o,e,_⟩:=st.1;⟨o,e⟩
 frame:=fun i h h' st k=>⟨let ⟨o,e,r⟩:=st.1;⟨o,k jt (by simp) o e,r⟩,let ⟨o,e,r⟩:=st.2;⟨o,k tt (by simp) o e,r⟩⟩
 item:=fun i s Q E hi st hQ=>nI st.1 st.2 (y:=its[i]) (by simp[hi]) fun h' j' sb=>hQ _ h' s.toks (by simp[hi]) ⟨j',st.2.extBut sb.extBut hne⟩ sb
 done:=fun s Q E st hE=>kP hh st.1 st.2 (by simp) hE
set_option maxHeartbeats 1000000 in
theorem rg (l:Addr) (its:Array Value) (n:Nat) (dct:Option Addr) (sl:Array (Option Value)) :
    Meets (Builtin.«enumerate.__new__» ⟨[.type "enumerate",.ref l],[]⟩) (fun _ R s=>s.heap.get? l=some { cls:=.type "tuple",dict:=dct,data:=.seq its n,slots:=sl } /\
     R (.ok (.ret (.ref (s.heap.push { cls:=.type "tuple_iterator",data:=.fields #[.ref l,.int 0 0] }).objs.size)))
      { s with heap:=(s.heap.push { cls:=.type "tuple_iterator",data:=.fields #[.ref l,.int 0 0] }).push { cls:=.type "enumerate",data:=.fields #[.none,.bool false,.ref s.heap.objs.size,rawInt 0,.none,.none] } }) :=
 .of_wp fun prog w A R s h => by
  obtain⟨h0,g0,d0,t0,os0⟩:=s
  obtain⟨hl,h⟩:=h
  have hsub:=sub_enumerate
  have hT:Heap.IsTuple (Shared.heap ⟨h0,g0,d0,t0,os0⟩) l its:=⟨_,hl,rfl,n,rfl⟩
  wp_walk using wpAny_loadPart' hl
  refine wpAny_stack_any fun st=>af ?_
  split
  ·rename_i c _ _ _ _ _
   cases (c==Value.type "enumerate")
   ·wp_walk using wpAny_loadPart' hl,bI hT
    exact⟨_,rfl,h⟩
   ·wp_walk using wpAny_loadPart' hl,bI hT
    exact⟨_,rfl,h⟩
  ·wp_walk using wpAny_loadPart' hl,bI hT
   exact⟨_,rfl,h⟩
theorem tG {l:Addr}{its:Array Value}{Q:Value->Shared->Prop}(hT:s.heap.IsTuple l its)
    (h:∀h',IsEnum h' (s.heap.objs.size+1) s.heap.objs.size 0 .none->h'.IsTupleIter s.heap.objs.size l 0->(∀b o,s.heap.get? b=some o->h'.get? b=some o)->Q (.ref (s.heap.objs.size+1)) { s with heap:=h' }) :
    wpAny (model prog w) A (call (.type "enumerate") [.ref l]) Q E s:=by
 obtain⟨⟨c,dct,dt,sl⟩,hl,hc,n,hd⟩:=hT
 replace hc:c=.type "tuple":=hc
 replace hd:dt=.seq its n:=hd
 subst hc hd
 refine callType_new F.called_enumerate (by decide) (F.typeCall_enumerate_1 _) (F.newCall_enumerate_1 _) (fun obj=>F.args_object_init_2 obj _) F.entry_enumerate_new (rg l its n dct sl) ⟨hl,?_⟩
 have hz:(s.heap.push { cls:=.type "tuple_iterator",data:=.fields #[.ref l,.int 0 0] }).objs.size=s.heap.objs.size+1:=bv ..
 show _/\_
 rw[hz]
 have he:IsEnum ((s.heap.push { cls:=.type "tuple_iterator",data:=.fields #[.ref l,.int 0 0] }).push { cls:=.type "enumerate",data:=.fields #[.none,.bool false,.ref s.heap.objs.size,rawInt 0,.none,.none] }) (s.heap.objs.size+1) s.heap.objs.size 0 .none:=by
  have:=aA (s.heap.push { cls:=.type "tuple_iterator",data:=.fields #[.ref l,.int 0 0] }) (o:={ cls:=.type "enumerate",data:=.fields #[.none,.bool false,.ref s.heap.objs.size,rawInt 0,.none,.none] }) rfl
  rw[hz] at this;exact this
 exact⟨⟨_,he,rfl⟩,h _ he ⟨_,ai _ (aA _ rfl),rfl,rfl⟩ fun b o x=>ai _ (ai _ x)⟩
end
def qj (K:W.Frag) (a:Addr):It :=
 ⟨fun i H=>∃xs x,SqT K H a xs/\xs[i]? = some x,fun i H v H'=>∃p x,H p=none/\v=.ref p/\(∀xs,SqT K H a xs->xs[i]? = some x)/\H'=upd H p (.tup [.int i,x]),fun i H=>∃xs,SqT K H a xs/\xs.length<=i⟩
theorem tz {P:Program}{w:World}{K:W.Frag}{elts:List Expr}{k:Nat}{tp:Pos}(a e it:Addr) (hne:e ≠ it) :
    Turn P w K (.Tuple elts k tp) (qj K a) [e,it] e (fun i h=>(∃old,IsEnum h e it i old)/\h.IsTupleIter it a i) where
 mem:=by simp
 obj:=fun i h st b hb=>by
  obtain⟨⟨old,he⟩,hit⟩:=st
  have hb:b=e∨b=it:=by simpa using hb
  rcases hb with z | z
  ·subst z
   exact⟨_,he,fun v z=>by cases z⟩
  ·subst z
   obtain⟨o,e1,c,d⟩:=hit
   exact⟨o,e1,fun v z=>by rw[d] at z;cases z⟩
 keep:=fun i h h' st kk=>by
  obtain⟨⟨old,he⟩,hit⟩:=st
  exact⟨⟨old,kk e (by simp) _ he⟩,let ⟨o,q,r⟩:=hit;⟨o,kk it (by simp) o q,r⟩⟩
 item := by
  intro X hP hw hK hc i pins s σ H E I hf st hg
  subst hP hw hK
  obtain⟨⟨old,he⟩,hit⟩:=st
  obtain⟨xs,x,hq,hx⟩:=hg
  obtain⟨its,rv,p,hz⟩:=I.tuple hq
  obtain⟨u,hu,ru⟩:=rv.get hx
  obtain⟨f0,f1,f2,f3,f4,f5⟩:=hf e (by simp)
  obtain⟨g0,g1,g2,g3,g4,g5⟩:=hf it (by simp)
  have hel:e<s.heap.objs.size:=ag he
  have hil:it<s.heap.objs.size:=by obtain⟨o,q,_⟩:=hit;exact ag q
  have hae:a≠e:=fun z=>by
   obtain⟨o,q,c,_⟩:=p
   rw[z,he] at q;cases q;simp at c
  have hai:a≠it:=fun z=>by
   obtain⟨o,q,c,_⟩:=p
   obtain⟨o',q',c',_⟩:=hit
   rw[z,q'] at q;cases q;rw[c] at c';simp at c'
  have hul:=(ah.mp hu).1
  refine wpAny_pyNext_enum_itemD (zT (A:=X.A.in1) (show X.A.in1.handled=none from I.ok.hd hc) it a hai its.toArray) he ⟨hit,p⟩ (by simpa using hul) hne (by simp[hne,Ne.symm hae]) fun u' h1 tk hu' ho hit1 ht1 hz1 k1=>?_
  have eu:u'=u:=by
   have:its[i]? = some u':=by simpa using hu'
   rw[hu] at this
   exact(am this).symm
  subst eu
  refine⟨_,rfl,wpAny_letOwnedTupleGo_enum ho fun h2 he2 sb2=>?_⟩
  have sb2:Heap.SameBut e h1 h2:=sb2
  have T2:h2.get? s.heap.objs.size=some { cls:=.type "tuple",data:=.seq #[.int i tk,u'] }:=(sb2.2 _ (bL hel)).trans ht1
  have hp:H s.heap.objs.size=none:=I.hok.fresh (ac _)
  have nit:∀b v,H b=some v->b≠e/\b≠it:=fun b v q=>⟨fun z=>(by rw[z,f0] at q;cases q),fun z=>(by rw[z,g0] at q;cases q)⟩
  have kk:∀b o,b≠e->b≠it->s.heap.get? b=some o->h2.get? b=some o:=fun b o n1 n2 q=>(sb2.2 b n1).trans (k1 b o n1 n2 q)
  have up:∀b v,H b=some v->upd H s.heap.objs.size (.tup [.int i,x]) b=some v:=fun b v q=>by rw[cJ (cO q hp)];exact q
  have I1:Inv X pins σ (upd H s.heap.objs.size (.tup [.int i, x])) { s with heap := h2, gens := s.gens, drawn := s.drawn, toks := tk+1 } := by
   refine I.step (g':=s.gens) (d':=s.drawn) (ch:=[e,it]) (fun b hb=>?_) (fun b o _ _ hb q _=>kk b o (fun z=>hb (by simp[z])) (fun z=>hb (by simp[z])) q) (fun b o _ _ hb q _=>⟨o.slots,kk b o (fun z=>hb (by simp[z])) (fun z=>hb (by simp[z])) q⟩) (fun b o _ q n=>?_)
    (fun b o hb q=>⟨o,kk b o (fun z=>hb (by simp[z])) (fun z=>hb (by simp[z])) q⟩) (fun b ys q=>up b _ q) (fun b o v q=>up b _ q) (fun b ps q=>⟨#[],by rw[up b _ q];simp⟩) (fun m hm=>?_) (fun b v q=>?_) I.bare
   ·have hb:b=e∨b=it:=by simpa using hb
    rcases hb with z | z
    ·subst z;exact⟨f3,f1,f4,f5⟩
    ·subst z;exact⟨g3,g1,g4,g5⟩
   ·rw[cJ (aD (ag q))];exact n
   ·obtain⟨o,es,ep,ho,r⟩:=hm
    exact⟨o,es,ep,kk _ o (Ne.symm f1) (Ne.symm g1) ho,r⟩
   ·by_cases hb:b=s.heap.objs.size
    ·subst hb
     rw[cE] at q
     have q':HO.tup [V.int i,x]=v:=am q
     subst q'
     exact⟨by show 2<=sizeLine;decide,[.int i tk,u'],.cons ⟨_,rfl⟩ (.cons ru .nil),⟨_,T2,rfl,_,rfl,rfl⟩⟩
    ·rw[cJ hb] at q
     refine(I.hok b v q).stay (fun c v' hc q'=>?_) (fun c q=>up c _ q) fun c ys q=>up c _ q
     rcases hc with z | z
     ·rw[z] at q' ⊢;exact kk b v' (nit b v q).1 (nit b v q).2 q'
     ·exact kk c v' (nit c _ z).1 (nit c _ z).2 q'
  refine⟨.ref s.heap.objs.size,upd H s.heap.objs.size (.tup [.int i,x]),I1,rfl,⟨_,x,hp,rfl,fun ys hy=>by rw[I.tuple_inj hy hq];exact hx,rfl⟩,⟨⟨u',?_⟩,?_⟩,fun b hb=>?_⟩
  ·exact(by simpa using he2)
  ·obtain⟨o,q,r⟩:=hit1.1
   exact⟨o,(sb2.2 it (Ne.symm hne)).trans q,r⟩
  ·have hb:b=e∨b=it:=by simpa using hb
   rcases hb with z | z
   ·rw[z,cJ (aD hel)];exact f0
   ·rw[z,cJ (aD hil)];exact g0
 done:=by
  intro X hP hw hK hc i pins s σ H E I hf st hg
  subst hP hw hK
  obtain⟨⟨old,he⟩,hit⟩:=st
  obtain⟨xs,hq,hx⟩:=hg
  obtain⟨its,rv,p,hz⟩:=I.tuple hq
  obtain⟨g0,g1,g2,g3,g4,g5⟩:=hf it (by simp)
  have hl:=rv.length
  have hT:s.TypeIs (.ref e) "enumerate":=⟨_,he,rfl⟩
  unfold pyNext
  refine aa (wpAny_attempt (wpAny_callSpecial?_slot (name:=Str.ofString "__next__") hT F.slot_enumerate_next (wpAny_call_entry F.slot_enumerate_next hT F.entry_enumerate_next ?_ (F.args_enumerate_next_1 _))))
  show wpAny _ _ (field (.ref e) 2 >>= _) _ _ _
  refine aa (aU he rfl (x:=.ref it) rfl (aa (kP (I.ok.hd hc) hit p (by simp;omega) fun h' x he' hx'=>?_)))
  obtain⟨o,ho,hc'⟩:=hx'
  refine aa (wpAny_isInstance (T:="StopIteration") (b:=true) ⟨o,ho,hc'⟩ isSubtype_stop ?_)
  exact af ⟨rfl,I.turned (t':=s.toks) (fun b o hb q=>he' b o hb q) g0 g1 g3 g4 g5⟩
 self:=fun _ _ _ _ _ st h=>by
  obtain⟨⟨old,he⟩,_⟩:=st
  exact wpAny_pyIter_enum he h
inductive EnmR (K:W.Frag) (H:Hp):V->(It->Hp->Prop)->Prop
 | lst {a:Addr} {xs:List V} {R:It->Hp->Prop}:SqL K H a xs->R (Ite K a) H->EnmR K H (.ref a) R
 | tup {a:Addr} {xs:List V} {R:It->Hp->Prop}:SqT K H a xs->R (qj K a) H->EnmR K H (.ref a) R
def AE (K:W.Frag) (ta:TA):TI:=fun σ H R=>ta σ H fun vs H1=>∃x,vs=[x]/\EnmR K H1 x R
theorem kb (K:W.Frag) {X:Cx}{elts:List Expr}{k:Nat}{tp:Pos}{a:Expr}{ta:TA}{p pos:Pos}(hg:Gl X "enumerate") (hm:X.mg "enumerate"=none) (ha:PA X [a] ta) (hs:starEach [a] X.env=[(false,eval a X.env)]:=by rfl) (hK:X.K=K:=by rfl) :
    PI X (.Tuple elts k tp) (.Call (.Name "enumerate" p) [a] [] pos) (AE K ta):=by
 subst hK
 intro pins s σ H R I h
 refine Call_ (iy I hg hm boot_enumerate (PyProof.Rows.callWith_type1 (thn (ha pos pins s σ H _ I h) fun us s1 ⟨vs,H1,I1,r1,q1⟩=>?_) hs rfl))
 obtain⟨x,e,q⟩:=q1
 subst e
 obtain⟨u,rfl,ru⟩:=fZ r1
 have fin:∀b,b=s1.heap.objs.size+1∨b=s1.heap.objs.size->hU X pins H1 b:=fun b hb=>by
  rcases hb with z | z
  ·subst z;exact I1.fpOk (bN _) (I1.hok.fresh (bN _))
  ·subst z;exact I1.fpOk (ac _) (I1.hok.fresh (ac _))
 cases q with
 | lst hq q =>
  cases ru
  obtain⟨its,rv,pl,hz⟩:=I1.list hq
  refine call_enumerate_list pl.isList fun h' he hit hz' k'=>wpAny_pyIter_enum (s:={ s1 with heap:=h' }) he ?_
  exact⟨_,[s1.heap.objs.size+1,s1.heap.objs.size],_,_,H1,rfl,I1.kept (t':=s1.toks) k',vS _ _ _ (Nat.succ_ne_self _),⟨⟨_,he⟩,hit⟩,fun b hb=>fin b (by simpa using hb),q⟩
 | tup hq q =>
  cases ru
  obtain⟨its,rv,pl,hz⟩:=I1.tuple hq
  refine tG pl fun h' he hit k'=>wpAny_pyIter_enum (s:={ s1 with heap:=h' }) he ?_
  exact⟨_,[s1.heap.objs.size+1,s1.heap.objs.size],_,_,H1,rfl,I1.kept (t':=s1.toks) k',tz _ _ _ (Nat.succ_ne_self _),⟨⟨_,he⟩,hit⟩,fun b hb=>fin b (by simpa using hb),q⟩
theorem oR {K:W.Frag}{a:Addr}{xs:List V}{g:TG}{tb:TS}{D:Ends}{σ:St}{H:Hp}(Pv:Nat -> St -> Hp -> Prop) (h0:Pv 0 σ H) (hl:∀i σ H, i <= xs.length -> Pv i σ H -> SqT K H a xs)
    (hs:∀i x σ H p,xs[i]? = some x->Pv i σ H->H p=none->g (.ref p) σ (upd H p (.tup [.int i,x])) fun σ2 H2=>tb { D with nx:=Pv (i+1),ct:=Pv (i+1),bk:=D.nx } σ2 H2) (hd:∀σ H,Pv xs.length σ H->D.nx σ H) :
    ∃W:Nat->Nat->St->Hp->Prop,(∃m,W 0 m σ H)/\∀i m σ H,W i m σ H ->
     ((qj K a).stop i H/\D.nx σ H)∨((qj K a).go i H/\∃N:St->Hp->Prop,(∀σ' H',N σ' H'->∃m',m'<m/\W (i+1) m' σ' H')/\∀x H',(qj K a).yld i H x H'->g x σ H' fun σ2 H2=>tb { D with nx:=N,ct:=N,bk:=D.nx } σ2 H2):=by
 refine⟨fun i m σ H=>m=xs.length-i/\i<=xs.length/\Pv i σ H,⟨xs.length,by simp,aP _,h0⟩,?_⟩
 rintro i m σ H ⟨rfl,hi,p⟩
 have q:=hl i σ H hi p
 by_cases hlt:i<xs.length
 ·refine .inr ⟨⟨xs,xs[i],q,by simp[hlt]⟩,Pv (i+1),fun σ' H' p'=>⟨xs.length-(i+1),by omega,rfl,hlt,p'⟩,fun x H' y=>?_⟩
  obtain⟨r,z,hr,rfl,hz,rfl⟩:=y
  exact hs i z σ H r (hz xs q) p hr
 ·have e:i=xs.length:=by omega
  subst e
  exact .inl ⟨⟨xs,q,ac _⟩,hd σ H p⟩
end L2
namespace L2
open PySem PySem.Spec PyProof.Rows
abbrev Zp (h:Heap) (z TI TO:Addr) (f0:Value) (f1:Bool):Prop:=h.get? z=some { cls:=.type "zip",dict:=none,data:=.fields #[f0,.bool f1,.bool false,.ref TI,.ref TO],slots:=#[] }
def F0 (f0:Value):Prop:=f0=.none∨∃T:Nat,f0=rawInt (T:Int)
def ItI:Bool->Heap->Addr->Addr->Nat->Prop
 | true,h,i,l,k=>h.IsTupleIter i l k
 | false,h,i,l,k=>h.IsListIter i l k
def SqI:Bool->Heap->Addr->Array Value->Prop
 | true,h,l,xs=>h.IsTuple l xs
 | false,h,l,xs=>h.IsList l xs
theorem ItI.at {t:Bool}{h h':Heap}{i l:Addr}{k:Nat}(j:ItI t h i l k) (f:∀o,h.get? i=some o->h'.get? i=some o):ItI t h' i l k:=by
 cases t
 ·exact Heap.IsListIter.at (h:=h) j f
 ·exact Heap.IsTupleIter.at (h:=h) j f
theorem SqI.at {t:Bool}{h h':Heap}{l:Addr}{xs:Array Value}(j:SqI t h l xs) (f:∀o,h.get? l=some o->h'.get? l=some o):SqI t h' l xs:=by
 cases t
 ·exact Heap.IsList.at (h:=h) j f
 ·exact Heap.IsTuple.at (h:=h) j f
section
variable {prog:Program}{w:World}{A:Around}{E:Value->Shared->Prop}{s:Shared}
theorem vY {a:Addr}{Q:Option Obj->Shared->Prop}(h:Q (s.heap.get? a) s):wpAny (model prog w) A (loadIfAlive a) Q E s:=fun _ _ _=>h
theorem sw {z TI TO:Addr}{f0:Value}{f1:Bool}(hf:F0 f0) (hz:Zp s.heap z TI TO f0 f1) {Q:Bool -> Shared -> Prop}(h:∀b f1' h', Zp h' z TI TO f0 f1' -> Heap.SameBut z s.heap h' -> Q b { s with heap := h' }) :
    wpAny (model prog w) A (Builtin.SmallTypes.ownedTupleIsFree (.ref z)) Q E s:=by
 unfold Builtin.SmallTypes.ownedTupleIsFree
 rcases hf with rfl | ⟨T,rfl⟩
 ·exact aa (aU hz rfl (x:=.none) rfl (af (h true f1 s.heap hz (Heap.SameBut.refl ..))))
 ·refine aa (aU hz rfl (x := rawInt (T:Int)) rfl ?_)
  refine aa (vY ?_)
  cases s.heap.get? (T:Int).toNat with
  | none=>exact af (h true f1 s.heap hz (Heap.SameBut.refl ..))
  | some o =>
   show wpAny _ _ (field (.ref z) 1 >>= _) _ _ _
   refine aa (aU hz rfl (x:=.bool f1) rfl ?_)
   cases f1 with
   | true=>exact af (h false true s.heap hz (Heap.SameBut.refl ..))
   | false =>
    show wpAny _ _ (setField (.ref z) 1 (.bool true) >>= _) _ _ _
    exact aa (bP hz (by simp) fun h1 hz1 sb=>af (h false true h1 hz1 sb))
theorem gz {t:Bool}{jt tt:Addr}{i:Nat}{its:Array Value}{y:Value}{Q:Value->Shared->Prop}(hj:ItI t s.heap jt tt i) (htt:SqI t s.heap tt its) (hy:its[i]? = some y)
    (hQ:∀h',ItI t h' jt tt (i+1)->Heap.SameBut jt s.heap h'->Q y { s with heap:=h' }):wpAny (model prog w) A (Builtin.SmallTypes.nextOf (.ref jt)) Q E s:=by
 cases t
 ·exact wpAny_nextOf_list_item hj htt hy hQ
 ·exact nI hj htt hy hQ
theorem ji {t:Bool}{jt tt:Addr}{i:Nat}{its:Array Value}{Q:Value->Shared->Prop}(hh:A.handled=none) (hj:ItI t s.heap jt tt i) (htt:SqI t s.heap tt its) (hy:its[i]? = none)
    (hE:∀h' e,Heap.ExtBut jt s.heap h'->(∃o,h'.get? e=some o/\o.cls=.type "StopIteration")->E (.ref e) { s with heap:=h' }):wpAny (model prog w) A (Builtin.SmallTypes.nextOf (.ref jt)) Q E s:=by
 cases t
 ·exact wpAny_nextOf_list_end hh hj htt hy hE
 ·exact kP hh hj htt hy hE
theorem xS {t1 t2:Bool}{z TI TO i1 i2 l1 l2:Addr}{k1 k2:Nat}{f0:Value}{f1:Bool}{xs ys:Array Value}{x y a b:Value}{Q:Value -> Shared -> Prop}(D:ZipApart z TI TO i1 i2 l1 l2) (hf:F0 f0)
    (hz:Zp s.heap z TI TO f0 f1) (hTI:IsPair s.heap TI (.ref i1) (.ref i2)) (hTO:IsPair s.heap TO a b)
    (h1:ItI t1 s.heap i1 l1 k1) (h2:ItI t2 s.heap i2 l2 k2) (hl1:SqI t1 s.heap l1 xs) (hl2:SqI t2 s.heap l2 ys) (hx:xs[k1]? = some x) (hy:ys[k2]? = some y)
    (hQ:∀h' f0' f1',F0 f0'->Zp h' z TI TO f0' f1'->(∃a b,IsPair h' TO a b)->ItI t1 h' i1 l1 (k1+1)->ItI t2 h' i2 l2 (k2+1)->IsPair h' s.heap.objs.size x y ->
     (∀c o,c≠z->c≠TO->c≠i1->c≠i2->s.heap.get? c=some o->h'.get? c=some o)->Q (.ref s.heap.objs.size) { s with heap:=h' }) :
    wpAny (model prog w) A (Builtin.«zip.__next__» ⟨[.ref z],[]⟩) (fun fin s'=>∃v,fin=.done (.ret v)/\Q v s') E s:=by
 show wpAny _ _ (field (.ref z) 2 >>= _) _ _ _
 refine aa (aU hz rfl (x:=.bool false) rfl ?_)
 show wpAny _ _ (field (.ref z) 3 >>= _) _ _ _
 refine aa (aU hz rfl (x:=.ref TI) rfl (aa (bO hTI rfl ?_)))
 refine aa (sw hf hz fun own f1' g0 hz0 sb0=>?_)
 have sz0:g0.objs.size=s.heap.objs.size:=sb0.1
 cases own with
 | true =>
  simp only[if_true]
  refine aa (wpAny_rule ?_)
  refine aa (aU (s:={ s with heap:=g0 }) hz0 rfl (x:=.ref TO) rfl ?_)
  refine aa (bP (s:={ s with heap:=g0 }) hz0 (by simp) fun g1 hz1 sb1=>?_)
  replace hz1:Zp g1 z TI TO .ellipsis f1':=hz1
  refine aa ?_
  simp only[List.zipIdx_cons,List.zipIdx_nil,cm,List.forIn_nil]
  refine aa (aa (wpAny_onRaise ?_))
  show wpAny _ _ (Builtin.SmallTypes.nextOf (.ref i1) >>= _) _ _ _
  have up1:∀c o,c≠z->s.heap.get? c=some o->g1.get? c=some o:=fun c o n e=>sb1.extBut _ _ n (sb0.extBut _ _ n e)
  refine aa (gz (h1.at fun o e=>up1 _ o D.i1z e) (hl1.at fun o e=>up1 _ o D.l1z e) hx fun g2 j1 sb2=>af ?_)
  have hTO2:IsPair g2 TO a b:=sb2.extBut _ _ D.TOi1 (up1 _ _ D.TOz hTO)
  refine aa (bO hTO2 rfl (aa (wpAny_updateSeq_pair hTO2 fun g3 hTO3 sb3=>?_)))
  replace hTO3:IsPair g3 TO x b:=hTO3
  refine aa (wpAny_letGo (af (aa (aa (wpAny_onRaise ?_)))))
  show wpAny _ _ (Builtin.SmallTypes.nextOf (.ref i2) >>= _) _ _ _
  have up3:∀c o,c≠z->c≠i1->c≠TO->s.heap.get? c=some o->g3.get? c=some o:=fun c o n1 n2 n3 e=>sb3.extBut _ _ n3 (sb2.extBut _ _ n2 (up1 _ _ n1 e))
  refine aa (gz (h2.at fun o e=>up3 _ o D.i2z D.i12.symm D.TOi2.symm e) (hl2.at fun o e=>up3 _ o D.l2z D.l2i1 D.l2TO e) hy fun g4 j2 sb4=>af ?_)
  have hTO4:IsPair g4 TO x b:=sb4.extBut _ _ D.TOi2 hTO3
  refine aa (bO hTO4 rfl (aa (wpAny_updateSeq_pair hTO4 fun g5 hTO5 sb5=>?_)))
  replace hTO5:IsPair g5 TO x y:=hTO5
  refine aa (wpAny_letGo (af (af ?_)))
  refine aa (bO hTO5 rfl (aa (wpAny_newTuple ?_)))
  have hsz:g5.objs.size=s.heap.objs.size:=by rw[sb5.1,sb4.1,sb3.1,sb2.1,sb1.1,sz0]
  have hz5:Zp g5 z TI TO .ellipsis f1':=sb5.extBut _ _ D.TOz.symm (sb4.extBut _ _ D.i2z.symm (sb3.extBut _ _ D.TOz.symm (sb2.extBut _ _ D.i1z.symm hz1)))
  have j15:ItI t1 g5 i1 l1 (k1+1):=j1.at fun o e=>sb5.extBut _ _ D.TOi1.symm (sb4.extBut _ _ D.i12 (sb3.extBut _ _ D.TOi1.symm e))
  have j25:ItI t2 g5 i2 l2 (k2+1):=j2.at fun o e=>sb5.extBut _ _ D.TOi2.symm e
  have hk5:∀c o,c≠z->c≠TO->c≠i1->c≠i2->s.heap.get? c=some o->g5.get? c=some o:=fun c o c1 c2 c3 c4 e=>sb5.extBut _ _ c2 (sb4.extBut _ _ c4 (up3 _ _ c1 c3 c2 e))
  have hzlt:z<g5.objs.size:=ag hz5
  show wpAny _ _ (Builtin.SmallTypes.ownedTupleHandOut (.ref z) (.ref g5.objs.size) >>= _) _ _ _
  refine aa ?_
  unfold Builtin.SmallTypes.ownedTupleHandOut
  have hz6:Zp (g5.push { cls:=.type "tuple",data:=.seq #[x,y] }) z TI TO .ellipsis f1':=ai _ hz5
  refine aa (bP hz6 (by simp) fun g7 hz7 sb7=>?_)
  replace hz7:Zp g7 z TI TO (rawInt g5.objs.size) f1':=hz7
  refine bP hz7 (by simp) fun g8 hz8 sb8=>?_
  replace hz8:Zp g8 z TI TO (rawInt g5.objs.size) false:=hz8
  have up:∀c o,c≠z->g5.get? c=some o->g8.get? c=some o:=fun c o c1 e=>sb8.extBut _ _ c1 (sb7.extBut _ _ c1 (ai _ e))
  have hT8:IsPair g8 g5.objs.size x y:=sb8.extBut _ _ (bL hzlt) (sb7.extBut _ _ (bL hzlt) (aA _ rfl))
  refine af ⟨_,rfl,?_⟩
  show Q (.ref g5.objs.size) _
  rw[hsz] at hz8 hT8 ⊢
  exact hQ g8 _ _ (.inr ⟨_,rfl⟩) hz8 ⟨x,y,up _ _ D.TOz hTO5⟩ (j15.at fun o e=>up _ o D.i1z e) (j25.at fun o e=>up _ o D.i2z e) hT8 fun c o c1 c2 c3 c4 e=>up c o c1 (hk5 c o c1 c2 c3 c4 e)
 | false =>
  simp only[bM,if_false]
  refine aa ?_
  rw[<- Array.forIn_toList]
  simp only[cm,List.forIn_nil]
  refine aa (aa (aR ?_))
  show wpAny _ _ (Builtin.SmallTypes.nextOf (.ref i1) >>= _) _ _ _
  have up1:∀c o,c≠z->s.heap.get? c=some o->g0.get? c=some o:=fun c o n e=>sb0.extBut _ _ n e
  refine aa (gz (s:={ s with heap:=g0 }) (h1.at fun o e=>up1 _ o D.i1z e) (hl1.at fun o e=>up1 _ o D.l1z e) hx fun g2 j1 sb2=>af ?_)
  replace sb2:Heap.SameBut i1 g0 g2:=sb2
  refine af (aa (aa (aR ?_)))
  show wpAny _ _ (Builtin.SmallTypes.nextOf (.ref i2) >>= _) _ _ _
  have up2:∀c o,c≠z->c≠i1->s.heap.get? c=some o->g2.get? c=some o:=fun c o n1 n2 e=>sb2.extBut _ _ n2 (up1 _ _ n1 e)
  refine aa (gz (h2.at fun o e=>up2 _ o D.i2z D.i12.symm e) (hl2.at fun o e=>up2 _ o D.l2z D.l2i1 e) hy fun g4 j2 sb4=>af ?_)
  replace sb4:Heap.SameBut i2 g2 g4:=sb4
  refine af (af ?_)
  show wpAny _ _ (newTuple [x,y] >>= _) _ _ _
  refine aa (wpAny_newTuple (af ⟨_,rfl,?_⟩))
  have hsz:g4.objs.size=s.heap.objs.size:=by rw[sb4.1,sb2.1,sz0]
  show Q (.ref g4.objs.size) _
  have pu:∀c o,g4.get? c=some o->(g4.push { cls:=.type "tuple",data:=.seq #[x,y] }).get? c=some o:=fun c o e=>ai _ e
  have hT8:IsPair (g4.push { cls:=.type "tuple",data:=.seq #[x,y] }) g4.objs.size x y:=aA _ rfl
  rw[hsz] at hT8 ⊢
  exact hQ _ _ _ hf (pu _ _ (sb4.extBut _ _ D.i2z.symm (sb2.extBut _ _ D.i1z.symm hz0))) ⟨a,b,pu _ _ (sb4.extBut _ _ D.TOi2 (up2 _ _ D.TOz D.TOi1 hTO))⟩ (j1.at fun o e=>pu _ o (sb4.extBut _ _ D.i12 e)) (j2.at fun o e=>pu _ o e) hT8 fun c o c1 c2 c3 c4 e=>pu _ _ (sb4.extBut _ _ c4 (up2 _ _ c1 c3 e))
theorem yQ {t1 t2:Bool}{z TI TO i1 i2 l1 l2:Addr}{k1 k2:Nat}{f0:Value}{f1:Bool}{xs ys:Array Value}{a b:Value}{Q:Fin -> Shared -> Prop}(hh:A.handled=none) (D:ZipApart z TI TO i1 i2 l1 l2) (hf:F0 f0)
    (hz:Zp s.heap z TI TO f0 f1) (hTI:IsPair s.heap TI (.ref i1) (.ref i2)) (hTO:IsPair s.heap TO a b)
    (h1:ItI t1 s.heap i1 l1 k1) (h2:ItI t2 s.heap i2 l2 k2) (hl1:SqI t1 s.heap l1 xs) (hl2:SqI t2 s.heap l2 ys) (hend:xs[k1]? = none∨ys[k2]? = none)
    (hE:∀h' e,(∀c o,c≠z->c≠TO->c≠i1->c≠i2->s.heap.get? c=some o->h'.get? c=some o)->(∃o,h'.get? e=some o/\o.cls=.type "StopIteration")->E (.ref e) { s with heap:=h' }) :
    wpAny (model prog w) A (Builtin.«zip.__next__» ⟨[.ref z],[]⟩) Q E s:=by
 show wpAny _ _ (field (.ref z) 2 >>= _) _ _ _
 refine aa (aU hz rfl (x:=.bool false) rfl ?_)
 show wpAny _ _ (field (.ref z) 3 >>= _) _ _ _
 refine aa (aU hz rfl (x:=.ref TI) rfl (aa (bO hTI rfl ?_)))
 refine aa (sw hf hz fun own f1' g0 hz0 sb0=>?_)
 cases own with
 | true =>
  simp only[if_true]
  refine aa (wpAny_rule ?_)
  refine aa (aU (s:={ s with heap:=g0 }) hz0 rfl (x:=.ref TO) rfl ?_)
  refine aa (bP (s:={ s with heap:=g0 }) hz0 (by simp) fun g1 hz1 sb1=>?_)
  replace hz1:Zp g1 z TI TO .ellipsis f1':=hz1
  refine aa ?_
  simp only[List.zipIdx_cons,List.zipIdx_nil,cm,List.forIn_nil]
  refine aa (aa (wpAny_onRaise ?_))
  show wpAny _ _ (Builtin.SmallTypes.nextOf (.ref i1) >>= _) _ _ _
  have up1:∀c o,c≠z->s.heap.get? c=some o->g1.get? c=some o:=fun c o n e=>sb1.extBut _ _ n (sb0.extBut _ _ n e)
  cases hx:xs[k1]? with
  | none =>
   refine aa (ji hh (h1.at fun o e=>up1 _ o D.i1z e) (hl1.at fun o e=>up1 _ o D.l1z e) hx fun g2 e sb2 he=>?_)
   obtain⟨oe,hoe,hce⟩:=he
   have hz2:Zp g2 z TI TO .ellipsis f1':=sb2 _ _ D.i1z.symm hz1
   have hez:e≠z:=fun q=>by subst q;rw[hz2] at hoe;cases hoe;simp at hce
   exact bP hz2 (by simp) fun g3 _ sb3=>hE g3 e (fun c o c1 _ c3 _ q=>sb3.extBut _ _ c1 (sb2 _ _ c3 (up1 _ _ c1 q))) ⟨oe,sb3.extBut _ _ hez hoe,hce⟩
  | some x =>
   have hy:ys[k2]? = none:=by rcases hend with q | q;rw[hx] at q;cases q;exact q
   refine aa (gz (h1.at fun o e=>up1 _ o D.i1z e) (hl1.at fun o e=>up1 _ o D.l1z e) hx fun g2 j1 sb2=>af ?_)
   have hTO2:IsPair g2 TO a b:=sb2.extBut _ _ D.TOi1 (up1 _ _ D.TOz hTO)
   refine aa (bO hTO2 rfl (aa (wpAny_updateSeq_pair hTO2 fun g3 hTO3 sb3=>?_)))
   refine aa (wpAny_letGo (af (aa (aa (wpAny_onRaise ?_)))))
   show wpAny _ _ (Builtin.SmallTypes.nextOf (.ref i2) >>= _) _ _ _
   have up3:∀c o,c≠z->c≠i1->c≠TO->s.heap.get? c=some o->g3.get? c=some o:=fun c o n1 n2 n3 e=>sb3.extBut _ _ n3 (sb2.extBut _ _ n2 (up1 _ _ n1 e))
   refine aa (ji hh (h2.at fun o e=>up3 _ o D.i2z D.i12.symm D.TOi2.symm e) (hl2.at fun o e=>up3 _ o D.l2z D.l2i1 D.l2TO e) hy fun g4 e sb4 he=>?_)
   obtain⟨oe,hoe,hce⟩:=he
   have hz4:Zp g4 z TI TO .ellipsis f1':=sb4 _ _ D.i2z.symm (sb3.extBut _ _ D.TOz.symm (sb2.extBut _ _ D.i1z.symm hz1))
   have hez:e≠z:=fun q=>by subst q;rw[hz4] at hoe;cases hoe;simp at hce
   exact bP hz4 (by simp) fun g5 _ sb5=>hE g5 e (fun c o c1 c2 c3 c4 q=>sb5.extBut _ _ c1 (sb4 _ _ c4 (up3 _ _ c1 c3 c2 q))) ⟨oe,sb5.extBut _ _ hez hoe,hce⟩
 | false =>
  simp only[bM,if_false]
  refine aa ?_
  rw[<- Array.forIn_toList]
  simp only[cm,List.forIn_nil]
  refine aa (aa (aR ?_))
  show wpAny _ _ (Builtin.SmallTypes.nextOf (.ref i1) >>= _) _ _ _
  have up1:∀c o,c≠z->s.heap.get? c=some o->g0.get? c=some o:=fun c o n e=>sb0.extBut _ _ n e
  cases hx:xs[k1]? with
  | none =>
   refine aa (ji (s:={ s with heap:=g0 }) hh (h1.at fun o e=>up1 _ o D.i1z e) (hl1.at fun o e=>up1 _ o D.l1z e) hx fun g2 e sb2 he=>?_)
   exact hE g2 e (fun c o c1 _ c3 _ q=>sb2 _ _ c3 (up1 _ _ c1 q)) he
  | some x =>
   have hy:ys[k2]? = none:=by rcases hend with q | q;rw[hx] at q;cases q;exact q
   refine aa (gz (s:={ s with heap:=g0 }) (h1.at fun o e=>up1 _ o D.i1z e) (hl1.at fun o e=>up1 _ o D.l1z e) hx fun g2 j1 sb2=>af ?_)
   replace sb2:Heap.SameBut i1 g0 g2:=sb2
   refine af (aa (aa (aR ?_)))
   show wpAny _ _ (Builtin.SmallTypes.nextOf (.ref i2) >>= _) _ _ _
   have up2:∀c o,c≠z->c≠i1->s.heap.get? c=some o->g2.get? c=some o:=fun c o n1 n2 e=>sb2.extBut _ _ n2 (up1 _ _ n1 e)
   refine aa (ji hh (h2.at fun o e=>up2 _ o D.i2z D.i12.symm e) (hl2.at fun o e=>up2 _ o D.l2z D.l2i1 e) hy fun g4 e sb4 he=>?_)
   exact hE g4 e (fun c o c1 c2 c3 c4 q=>sb4 _ _ c4 (up2 _ _ c1 c3 q)) he
end
theorem jp {prog:Program}{w:World}{A:Around}{E:Value->Shared->Prop}{s:Shared}{z:Addr}{Q:Option Value->Shared->Prop}(hT:s.TypeIs (.ref z) "zip")
    (h:wpAny (model prog w) A.in1 (Builtin.«zip.__next__» ⟨[.ref z],[]⟩) (fun fin s'=>∃v,fin=.done (.ret v)/\Q (some v) s') (fun e s'=>(∃o,s'.heap.get? (match e with | .ref a=>a | _=>0)=some o/\o.cls=.type "StopIteration")/\(∃a,e=.ref a)/\Q none s') s) :
    wpAny (model prog w) A (pyNext (.ref z)) Q E s:=by
 unfold pyNext
 refine aa (wpAny_attempt (wpAny_callSpecial?_slot (name:=Str.ofString "__next__") hT F.slot_zip_next (wpAny_call_entry F.slot_zip_next hT F.entry_zip_next (bj h (fun fin s' ⟨v,e,q⟩=>⟨v,e,af q⟩) fun e s' q=>?_) (F.args_zip_next_1 _))))
 obtain⟨⟨o,ho,hc⟩,⟨a,rfl⟩,q⟩:=q
 exact aa (wpAny_isInstance (T:="StopIteration") (b:=true) ⟨o,ho,hc⟩ isSubtype_stop (af q))
def SqK:Bool->W.Frag->Hp->Addr->List V->Prop
 | true,K,H,a,xs=>SqT K H a xs
 | false,K,H,a,xs=>SqL K H a xs
theorem ItI.obj {t:Bool}{h:Heap}{i l:Addr}{k:Nat}(j:ItI t h i l k):∃o,h.get? i=some o/\∀v,o.data≠.cell v:=by
 cases t
 ·obtain⟨o,e,_,d⟩:Heap.IsListIter h i l k:=j
  exact⟨o,e,fun v q=>by rw[d] at q;cases q⟩
 ·obtain⟨o,e,_,d⟩:Heap.IsTupleIter h i l k:=j
  exact⟨o,e,fun v q=>by rw[d] at q;cases q⟩
theorem Inv.sqK {t:Bool}{X:Cx}{pins:List (Addr × Obj)}{s:Shared}{σ:St}{H:Hp}{a:Addr}{xs:List V}(I:Inv X pins σ H s) (h:SqK t X.K H a xs):∃its:List Value,Vals xs its/\SqI t s.heap a its.toArray:=by
 cases t
 ·obtain⟨its,r,p,_⟩:=I.list h
  exact⟨its,r,p.isList⟩
 ·obtain⟨its,r,p,_⟩:=I.tuple h
  exact⟨its,r,p⟩
theorem Inv.sqK_inj {t:Bool}{X:Cx}{pins:List (Addr × Obj)}{s:Shared}{σ:St}{H:Hp}{a:Addr}{xs ys:List V}(I:Inv X pins σ H s) (h:SqK t X.K H a xs) (h':SqK t X.K H a ys):xs=ys:=by
 cases t
 ·exact I.list_inj h h'
 ·exact I.tuple_inj h h'
def Itg (t1 t2:Bool) (K:W.Frag) (a b:Addr):It :=
 ⟨fun i H=>∃xs ys x y,SqK t1 K H a xs/\SqK t2 K H b ys/\xs[i]? = some x/\ys[i]? = some y,
  fun i H v H'=>∃p x y,H p=none/\v=.ref p/\(∀xs,SqK t1 K H a xs->xs[i]? = some x)/\(∀ys,SqK t2 K H b ys->ys[i]? = some y)/\H'=upd H p (.tup [x,y]),
  fun i H=>∃xs ys,SqK t1 K H a xs/\SqK t2 K H b ys/\(xs.length<=i∨ys.length<=i)⟩
theorem ph {t1 t2:Bool}{P:Program}{w:World}{K:W.Frag}{nm:Str}{tp:Pos}(a b z TI TO i1 i2:Addr) (D:ZipApart z TI TO i1 i2 a b) :
    Turn P w K (.Name nm tp) (Itg t1 t2 K a b) [z,TI,TO,i1,i2] z (fun i h=>(∃f0 f1,F0 f0/\Zp h z TI TO f0 f1)/\IsPair h TI (.ref i1) (.ref i2)/\(∃c d,IsPair h TO c d)/\ItI t1 h i1 a i/\ItI t2 h i2 b i) where
 mem:=by simp
 obj:=fun i h st c hc=>by
  obtain⟨⟨f0,f1,_,hz⟩,hTI,⟨u,v,hTO⟩,h1,h2⟩:=st
  obtain⟨o1,e1,d1⟩:=h1.obj
  obtain⟨o2,e2,d2⟩:=h2.obj
  have hc:c=z∨c=TI∨c=TO∨c=i1∨c=i2:=by simpa using hc
  rcases hc with rfl | rfl | rfl | rfl | rfl
  ·exact⟨_,hz,fun v q=>by cases q⟩
  ·exact⟨_,hTI,fun v q=>by cases q⟩
  ·exact⟨_,hTO,fun v q=>by cases q⟩
  ·exact⟨_,e1,d1⟩
  ·exact⟨_,e2,d2⟩
 keep:=fun i h h' st k=>by
  obtain⟨⟨f0,f1,hf,hz⟩,hTI,⟨u,v,hTO⟩,h1,h2⟩:=st
  exact⟨⟨f0,f1,hf,k z (by simp) _ hz⟩,k TI (by simp) _ hTI,⟨u,v,k TO (by simp) _ hTO⟩,h1.at fun o e=>k i1 (by simp) o e,h2.at fun o e=>k i2 (by simp) o e⟩
 item := by
  intro X hP hw hK hc i pins s σ H E I hf st hg
  subst hP hw hK
  obtain⟨⟨f0,f1,hf0,hz⟩,hTI,⟨ta,tb,hTO⟩,h1,h2⟩:=st
  obtain⟨xs,ys,x,y,hqa,hqb,hx,hy⟩:=hg
  obtain⟨its,rv,pa⟩:=I.sqK hqa
  obtain⟨jts,rw',pb⟩:=I.sqK hqb
  obtain⟨u,hu,ru⟩:=rv.get hx
  obtain⟨v,hv,rv'⟩:=rw'.get hy
  refine jp ⟨_,hz,rfl⟩ (xS D hf0 hz hTI hTO h1 h2 pa pb (x:=u) (y:=v) (by simpa using hu) (by simpa using hv) fun h' f0' f1' hf' hz' hTO' j1 j2 hpr k=>⟨_,rfl,?_⟩)
  refine af (s:={ s with heap:=h' }) ?_
  have hp:H s.heap.objs.size=none:=I.hok.fresh (ac _)
  have fr:∀c∈[z,TI,TO,i1,i2],H c=none:=fun c hc=>(hf c hc).1
  have nit:∀c o,H c=some o->c≠z/\c≠TO/\c≠i1/\c≠i2:=fun c o q=>by
   refine⟨?_,?_,?_,?_⟩ <;> (intro e;rw[e,fr _ (by simp)] at q;cases q)
  have up:∀c o,H c=some o->upd H s.heap.objs.size (.tup [x,y]) c=some o:=fun c o q=>by rw[cJ (cO q hp)];exact q
  have kk:∀c o,c∉[z,TO,i1,i2]->s.heap.get? c=some o->h'.get? c=some o:=fun c o n q=>k c o (fun e=>n (by simp[e])) (fun e=>n (by simp[e])) (fun e=>n (by simp[e])) (fun e=>n (by simp[e])) q
  have mem5:∀c∈[z,TO,i1,i2],c∈[z,TI,TO,i1,i2]:=fun c hc=>by simp at hc ⊢;rcases hc with e | e | e | e <;> simp[e]
  have hlt:∀c∈[z,TI,TO,i1,i2],c<s.heap.objs.size:=fun c hc=>by
   have hc:c=z∨c=TI∨c=TO∨c=i1∨c=i2:=by simpa using hc
   rcases hc with rfl | rfl | rfl | rfl | rfl
   ·exact ag hz
   ·exact ag hTI
   ·exact ag hTO
   ·obtain⟨o,e,_⟩:=h1.obj;exact ag e
   ·obtain⟨o,e,_⟩:=h2.obj;exact ag e
  have I1:Inv X pins σ (upd H s.heap.objs.size (.tup [x, y])) { s with heap := h', gens := s.gens, drawn := s.drawn, toks := s.toks } := by
   refine I.step (g':=s.gens) (d':=s.drawn) (ch:=[z,TO,i1,i2]) (fun c hc=>?_) (fun c o _ _ n q _=>kk c o n q) (fun c o _ _ n q _=>⟨o.slots,kk c o n q⟩) (fun c o _ q n=>?_) (fun c o n q=>⟨o,kk c o n q⟩) (fun c ys q=>up c _ q) (fun c o v q=>up c _ q) (fun c ps q=>⟨#[],by rw[up c _ q];simp⟩) (fun m hm=>?_) (fun c o q=>?_) I.bare
   ·obtain⟨_,g1,_,g3,g4,g5⟩:=hf c (mem5 c hc)
    exact⟨g3,g1,g4,g5⟩
   ·rw[cJ (aD (ag q))];exact n
   ·obtain⟨o,es,ep,ho,r⟩:=hm
    refine⟨o,es,ep,kk _ o (fun n=>?_) ho,r⟩
    exact(hf _ (mem5 _ n)).2.1 rfl
   ·by_cases hb:c=s.heap.objs.size
    ·subst hb
     rw[cE] at q
     have q':HO.tup [x,y]=o:=am q
     subst q'
     exact⟨by show 2<=sizeLine;decide,[u,v],.cons ru (.cons rv' .nil),⟨_,hpr,rfl,_,rfl,rfl⟩⟩
    ·rw[cJ hb] at q
     refine(I.hok c o q).stay (fun d o' hd q'=>?_) (fun d q=>up d _ q) fun d ys q=>up d _ q
     rcases hd with e | e
     ·rw[e] at q' ⊢;obtain⟨n1,n2,n3,n4⟩:=nit c o q;exact k c o' n1 n2 n3 n4 q'
     ·obtain⟨n1,n2,n3,n4⟩:=nit d _ e;exact k d o' n1 n2 n3 n4 q'
  refine⟨.ref s.heap.objs.size,upd H s.heap.objs.size (.tup [x,y]),I1,rfl,⟨_,x,y,hp,rfl,fun zs hz=>by rw[I.sqK_inj hz hqa];exact hx,fun zs hz=>by rw[I.sqK_inj hz hqb];exact hy,rfl⟩,⟨⟨f0',f1',hf',hz'⟩,?_,hTO',j1,j2⟩,fun c hc=>?_⟩
  ·exact k TI _ D.TIz D.TITO D.TIi1 D.TIi2 hTI
  ·rw[cJ (aD (hlt c hc))];exact fr c hc
 done:=by
  intro X hP hw hK hc i pins s σ H E I hf st hg
  subst hP hw hK
  obtain⟨⟨f0,f1,hf0,hz⟩,hTI,⟨ta,tb,hTO⟩,h1,h2⟩:=st
  obtain⟨xs,ys,hqa,hqb,hxy⟩:=hg
  obtain⟨its,rv,pa⟩:=I.sqK hqa
  obtain⟨jts,rw',pb⟩:=I.sqK hqb
  have l1:=rv.length
  have l2:=rw'.length
  have hend:its.toArray[i]? = none∨jts.toArray[i]? = none:=by
   rcases hxy with q | q
   ·exact .inl (by simp;omega)
   ·exact .inr (by simp;omega)
  refine jp ⟨_,hz,rfl⟩ (yQ (A:=X.A.in1) (show X.A.in1.handled=none from I.ok.hd hc) D hf0 hz hTI hTO h1 h2 pa pb hend fun h' e k he=>⟨he,⟨e,rfl⟩,rfl,?_⟩)
  have fr:∀c∈[z,TI,TO,i1,i2],H c=none:=fun c hc=>(hf c hc).1
  have nit:∀c o,H c=some o->c≠z/\c≠TO/\c≠i1/\c≠i2:=fun c o q=>by
   refine⟨?_,?_,?_,?_⟩ <;> (intro e;rw[e,fr _ (by simp)] at q;cases q)
  have kk:∀c o,c∉[z,TO,i1,i2]->s.heap.get? c=some o->h'.get? c=some o:=fun c o n q=>k c o (fun e=>n (by simp[e])) (fun e=>n (by simp[e])) (fun e=>n (by simp[e])) (fun e=>n (by simp[e])) q
  have mem5:∀c∈[z,TO,i1,i2],c∈[z,TI,TO,i1,i2]:=fun c hc=>by simp at hc ⊢;rcases hc with e | e | e | e <;> simp[e]
  refine I.step (h':=h') (g':=s.gens) (d':=s.drawn) (t':=s.toks) (ch:=[z,TO,i1,i2]) (fun c hc=>?_) (fun c o _ _ n q _=>kk c o n q) (fun c o _ _ n q _=>⟨o.slots,kk c o n q⟩) (fun c o _ q n=>n) (fun c o n q=>⟨o,kk c o n q⟩) (fun c ys q=>q) (fun c o v q=>q) (fun c ps q=>⟨#[],by rw[q];simp⟩) (fun m hm=>?_) (fun c o q=>?_) I.bare
  ·obtain⟨_,g1,_,g3,g4,g5⟩:=hf c (mem5 c hc)
   exact⟨g3,g1,g4,g5⟩
  ·obtain⟨o,es,ep,ho,r⟩:=hm
   refine⟨o,es,ep,kk _ o (fun n=>?_) ho,r⟩
   exact(hf _ (mem5 _ n)).2.1 rfl
  ·refine(I.hok c o q).stay (fun d o' hd q'=>?_) (fun d q=>q) fun d ys q=>q
   rcases hd with e | e
   ·rw[e] at q' ⊢;obtain⟨n1,n2,n3,n4⟩:=nit c o q;exact k c o' n1 n2 n3 n4 q'
   ·obtain⟨n1,n2,n3,n4⟩:=nit d _ e;exact k d o' n1 n2 n3 n4 q'
 self:=fun A i s Q E st h=>by
  obtain⟨⟨f0,f1,hf0,hz⟩,_⟩:=st
  have hT:s.TypeIs (.ref z) "zip":=⟨_,hz,rfl⟩
  refine wpAny_pyIter_slot hT F.slot_zip_iter (wpAny_call_entry F.slot_zip_iter hT F.entry_zip_iter ?_ (F.args_zip_iter_1 _))
  show wpAny _ _ (ret (.ref z)) _ _ s
  exact af ⟨_,rfl,"zip",_,hT,F.slot_zip_next.lookup,h⟩
def Itz (K:W.Frag) (a b:Addr):It :=
 ⟨fun i H=>∃xs ys x y,SqL K H a xs/\SqL K H b ys/\xs[i]? = some x/\ys[i]? = some y,
  fun i H v H'=>∃p x y,H p=none/\v=.ref p/\(∀xs,SqL K H a xs->xs[i]? = some x)/\(∀ys,SqL K H b ys->ys[i]? = some y)/\H'=upd H p (.tup [x,y]),
  fun i H=>∃xs ys,SqL K H a xs/\SqL K H b ys/\(xs.length<=i∨ys.length<=i)⟩
theorem xA {P:Program}{w:World}{K:W.Frag}{nm:Str}{tp:Pos}(a b z TI TO i1 i2:Addr) (D:ZipApart z TI TO i1 i2 a b) :
    Turn P w K (.Name nm tp) (Itz K a b) [z,TI,TO,i1,i2] z (fun i h=>(∃f0 f1,F0 f0/\Zp h z TI TO f0 f1)/\IsPair h TI (.ref i1) (.ref i2)/\(∃c d,IsPair h TO c d)/\h.IsListIter i1 a i/\h.IsListIter i2 b i) :=
 ph (t1:=false) (t2:=false) a b z TI TO i1 i2 D
def iZip (K:W.Frag) (ta:TA):TI:=fun σ H R=>ta σ H fun vs H1=>∃a b xs ys,vs=[.ref a,.ref b]/\SqL K H1 a xs/\SqL K H1 b ys/\R (Itz K a b) H1
theorem vf (K:W.Frag) {X:Cx}{nm:Str}{tp:Pos}{a b:Expr}{ta:TA}{p pos:Pos}(hg:Gl X "zip") (hm:X.mg "zip"=none) (ha:PA X [a,b] ta) (hs:starEach [a,b] X.env=(false,eval a X.env)::starEach [b] X.env:=by rfl) (hpl:(backTo pos (starEach [b] X.env)).any (·.1)=false:=by rfl) (hK:X.K=K:=by rfl) :
    PI X (.Name nm tp) (.Call (.Name "zip" p) [a,b] [] pos) (iZip K ta):=by
 subst hK
 intro pins s σ H R I h
 refine Call_ (iy I hg hm (show bootBuiltins "zip"=some (.type "zip") by decide +kernel) (PyProof.Rows.callWith_type1 (thn (ha pos pins s σ H _ I h) fun us s1 ⟨vs,H1,I1,r1,q1⟩=>?_) hs hpl))
 obtain⟨l1,l2,xs,ys,e,hqa,hqb,q⟩:=q1
 subst e
 obtain⟨u1,u2,rfl,r1,r2⟩:=ir r1
 cases r1
 cases r2
 obtain⟨its,rv,pa,_⟩:=I1.list hqa
 obtain⟨jts,rw',pb,_⟩:=I1.list hqb
 have a1:l1<s1.heap.objs.size:=by obtain⟨_,e,_⟩:=pa.isList;exact ag e
 have a2:l2<s1.heap.objs.size:=by obtain⟨_,e,_⟩:=pb.isList;exact ag e
 refine call_zip_2 pa.isList pb.isList fun h' hz hTI hTO hi1 hi2 _ hk=>?_
 have T:=xA (P:=X.prog) (w:=X.w) (K:=X.K) (nm:=nm) (tp:=tp) l1 l2 _ _ _ _ _ (zipApart_new a1 a2)
 have t0:(∃f0 f1,F0 f0/\Zp h' (s1.heap.objs.size+4) (s1.heap.objs.size+2) (s1.heap.objs.size+3) f0 f1)/\IsPair h' (s1.heap.objs.size+2) (.ref s1.heap.objs.size) (.ref (s1.heap.objs.size+1))/\(∃c d,IsPair h' (s1.heap.objs.size+3) c d)/\h'.IsListIter s1.heap.objs.size l1 0/\h'.IsListIter (s1.heap.objs.size+1) l2 0:=⟨⟨_,_,.inl rfl,hz⟩,hTI,⟨_,_,hTO⟩,hi1,hi2⟩
 refine T.self X.A 0 { s1 with heap:=h' } _ _ t0 ?_
 refine⟨_,_,_,_,H1,rfl,I1.kept (t':=s1.toks) hk,T,t0,fun b hb=>?_,q⟩
 have hb:b=s1.heap.objs.size+4∨b=s1.heap.objs.size+2∨b=s1.heap.objs.size+3∨b=s1.heap.objs.size∨b=s1.heap.objs.size+1:=by simpa using hb
 have hle:s1.heap.objs.size<=b:=by rcases hb with e | e | e | e | e <;> rw[e] <;> first | exact ac _ | exact Nat.le_add_right _ _
 exact I1.fpOk hle (I1.hok.fresh hle)
theorem xZ {K:W.Frag}{k:Nat}{fr:List Nat}{g:TG}{tc:TT}{te:TE}{σ:St}{H1:Hp}{Q:VK}{a b:Addr}(xs ys:List V) (Pv:Addr -> Nat -> List V -> St -> Hp -> Prop)
    (h:∀D,H1 D=none->Pv D 0 [] (hV k fr σ) (upd H1 D (.lst []))/\(∀i acc σ' H',i<=(xs.zip ys).length->Pv D i acc σ' H'->H' D=some (.lst acc)->SqL K H' a xs/\SqL K H' b ys) /\
     (∀i acc σ' H' x y p,(xs.zip ys)[i]? = some (x,y)->Pv D i acc σ' H'->H' D=some (.lst acc)->H' p=none->g (.ref p) σ' (upd H' p (.tup [x,y])) fun σ2 H3=>tc σ2 H3 fun b H4 =>
      if b=true then te σ2 H4 fun y H5=>H5 D=some (.lst acc)/\acc.length<sizeLine/\Pv D (i+1) (acc++[y]) σ2 (upd H5 D (.lst (acc++[y]))) else H4 D=some (.lst acc)/\Pv D (i+1) acc σ2 H4) /\
     ∀acc σ' H',Pv D (xs.zip ys).length acc σ' H'->H' D=some (.lst acc)->Q (.ref D) H'):gw k fr g tc te (Itz K a b) σ H1 Q:=by
 intro D hD
 obtain⟨h0,hok,hs,hd⟩:=h D hD
 refine⟨fun i m acc σ' H'=>m=(xs.zip ys).length-i/\i<=(xs.zip ys).length/\Pv D i acc σ' H',⟨(xs.zip ys).length,by simp,aP _,h0⟩,?_⟩
 rintro i m acc σ' H' ⟨rfl,hi,p⟩ hacc
 obtain⟨oka,okb⟩:=hok i acc σ' H' hi p hacc
 have hl:(xs.zip ys).length=min xs.length ys.length:=bx
 by_cases hlt:i<(xs.zip ys).length
 ·refine .inr ⟨⟨xs,ys,xs[i]'(by omega),ys[i]'(by omega),oka,okb,by simp,by simp⟩,Pv D (i+1),fun acc' σ2 H2 p'=>⟨(xs.zip ys).length-(i+1),by omega,rfl,hlt,p'⟩,fun v H2 yl=>?_⟩
  obtain⟨q,x,y,hq,rfl,hx,hy,rfl⟩:=yl
  refine hs i acc σ' H' x y q ?_ p hacc hq
  rw[bq]
  exact⟨hx xs oka,hy ys okb⟩
 ·have e:i=(xs.zip ys).length:=by omega
  subst e
  exact .inl ⟨⟨xs,ys,oka,okb,by omega⟩,hd acc σ' H' p hacc⟩
inductive Thg (H:Hp):V->Prop
 | non:Thg H .non
 | bl (b:Bool):Thg H (.bl b)
 | int (i:Int):Thg H (.int i)
 | str {z:Str}:z.length<=sizeLine->Thg H (.str z)
 | lst {a:Addr} {xs:List V}:H a=some (.lst xs)->Thg H (.ref a)
 | tup {a:Addr} {xs:List V}:H a=some (.tup xs)->Thg H (.ref a)
 | dK {a:Addr} {kvs:List (Key × V)}:H a=some (.dK kvs)->Thg H (.ref a)
 | dT {a:Addr} {kvs:List (List Key × V)}:H a=some (.dT kvs)->Thg H (.ref a)
theorem Thg.same {H H':Hp}{x:V}(h:Thg H x) (s:Same H H'):Thg H' x:=by
 cases h with
 | non=>exact .non
 | bl b=>exact .bl b
 | int i=>exact .int i
 | str z=>exact .str z
 | lst e=>exact .lst (s _ _ e)
 | tup e=>exact .tup (s _ _ e)
 | dK e=>exact .dK (s _ _ e)
 | dT e=>exact .dT (s _ _ e)
def isS:V->Bool
 | .str _=>true
 | _=>false
def isI:V->Bool
 | .int _ | .bl _=>true
 | _=>false
def isB:V->Bool
 | .bl _=>true
 | _=>false
def isL (H:Hp):V->Bool
 | .ref a=>match H a with
  | some (.lst _)=>true
  | _=>false
 | _=>false
def isT (H:Hp):V->Bool
 | .ref a=>match H a with
  | some (.tup _)=>true
  | _=>false
 | _=>false
theorem kL {H:Hp}{a:Addr}{xs:List V}(e:H a=some (.lst xs)):isL H (.ref a)=true:=by show (match H a with | some (.lst _)=>true | _=>false)=true;rw[e]
theorem kK {H:Hp}{a:Addr}{xs:List V}(e:H a=some (.tup xs)):isT H (.ref a)=true:=by show (match H a with | some (.tup _)=>true | _=>false)=true;rw[e]
theorem y8 {H:Hp}{x:V}(h:isT H x=true):∃a xs,x=.ref a/\H a=some (.tup xs):=by
 cases x with
 | ref a =>
  have h:(match H a with | some (.tup _)=>true | _=>false)=true:=h
  split at h
  ·rename_i xs e;exact⟨a,xs,rfl,e⟩
  ·cases h
 | _=>cases h
theorem gE {H:Hp}{a:Addr}{o:HO}(e:H a=some o) (n:∀xs,o≠.lst xs):isL H (.ref a)=false:=by
 show (match H a with | some (.lst _)=>true | _=>false)=false
 rw[e];split
 ·rename_i xs q;exact absurd (am q) (n xs)
 ·rfl
theorem gF {H:Hp}{a:Addr}{o:HO}(e:H a=some o) (n:∀xs,o≠.tup xs):isT H (.ref a)=false:=by
 show (match H a with | some (.tup _)=>true | _=>false)=false
 rw[e];split
 ·rename_i xs q;exact absurd (am q) (n xs)
 ·rfl
theorem i8 {K:W.Frag}{H:Hp}{x:V}(h:Thg H x):∃t,TyOf K H x t/\W.kitOne K t (.type "str")=some (isS x)/\W.kitOne K t (.type "int")=some (isI x)/\W.kitOne K t (.type "bool")=some (isB x) /\
    W.kitOne K t (.type "list")=some (isL H x)/\W.kitOne K t (.type "tuple")=some (isT H x):=by
 cases h with
 | non=>exact⟨_,.non,by rfl,by rfl,by rfl,by rfl,by rfl⟩
 | bl b=>exact⟨_,.bl b,by rfl,by rfl,by rfl,by rfl,by rfl⟩
 | int i=>exact⟨_,.int i,by rfl,by rfl,by rfl,by rfl,by rfl⟩
 | str z=>exact⟨_,.str _,by rfl,by rfl,by rfl,by rfl,by rfl⟩
 | lst e=>exact⟨_,.lst e,by rfl,by rfl,by rfl,by rw[kL e];rfl,by rw[gF e (fun _ z=>by cases z)];rfl⟩
 | tup e=>exact⟨_,.tup e,by rfl,by rfl,by rfl,by rw[gE e (fun _ z=>by cases z)];rfl,by rw[kK e];rfl⟩
 | dK e=>exact⟨_,.dK e,by rfl,by rfl,by rfl,by rw[gE e (fun _ z=>by cases z)];rfl,by rw[gF e (fun _ z=>by cases z)];rfl⟩
 | dT e=>exact⟨_,.dT e,by rfl,by rfl,by rfl,by rw[gE e (fun _ z=>by cases z)];rfl,by rw[gF e (fun _ z=>by cases z)];rfl⟩
def fK (c:Nat):Bool:=decide (97<=c)&&decide (c<=122)
def gJ:V->Bool
 | .str z=>decide (1<=z.length)&&(decide (z.length<=8)&&z.cps.toList.all fK)
 | _=>false
theorem isNm_iff {z:Str}:gJ (.str z)=true ↔ Nm z:=by
 show (decide (1<=z.length)&&(decide (z.length<=8)&&z.cps.toList.all fK))=true ↔ _
 rw[bf,bf,decide_eq_true_iff,decide_eq_true_iff,bo]
 unfold Nm
 constructor
 ·rintro⟨h1,h2,h3⟩
  refine⟨h1,h2,fun c hc=>?_⟩
  have h:=h3 c hc
  unfold fK at h
  rw[bf,decide_eq_true_iff,decide_eq_true_iff] at h
  exact h
 ·rintro⟨h1,h2,h3⟩
  refine⟨h1,h2,fun c hc=>?_⟩
  unfold fK
  rw[bf,decide_eq_true_iff,decide_eq_true_iff]
  exact h3 c hc
theorem uY (c d:Nat):decide ([c]<[d])=decide (c<d):=by
 by_cases h:c<d
 ·rw[ak h];exact ak (List.Lex.rel h)
 ·rw[aw h]
  refine aw fun z=>?_
  cases z with
  | rel z=>exact h z
  | cons z=>cases z
def jY:Sp:=fun vs H Q _=>∃x,vs=[x]/\Thg H x/\∀H',Same H H'->Q (.bl (gJ x)) H'
def pK (e:Str × Str):List Key:=[.inr e.1,.inr e.2]
theorem vy {e f:Str × Str}(h:pK e=pK f):e=f:=by
 unfold pK at h
 have h1:=List.cons.inj h
 have h2:=List.cons.inj h1.2
 exact Prod.ext (Sum.inr.inj h1.1) (Sum.inr.inj h2.1)
inductive PlR (H:Hp):V -> VK -> Prop
 | nm {a:Addr} {xs:List Str} {Q:VK}:(H a=some (.lst (List.map V.str xs))∨H a=some (.tup (List.map V.str xs)))->xs.length<=1000 ->
     (∀d kvs H',Same H H'->H d=none->H' d=some (.dK kvs)->(∀s,(dg kvs (.inr s)).isSome=true ↔ s∈xs)->(∀s v,dg kvs (.inr s)=some v->∃j:Nat,v=.int j/\xs[j]? = some s)->(kvs.map (·.1)).Nodup->(∀k∈kvs.map (·.1),∃s∈xs,k=Sum.inr s)->Q (.ref d) H')->PlR H (.ref a) Q
 | pr {a:Addr} {refs:List V} {ps:List (Str × Str)} {Q:VK}:(H a=some (.lst refs)∨H a=some (.tup refs))->RepAll H refs (ps.map cW)->ps.length<=1000 ->
     (∀d kvs H',Same H H'->H d=none->H' d=some (.dT kvs)->(∀e:Str × Str,(dg kvs (pK e)).isSome=true ↔ e∈ps)->Q (.ref d) H')->PlR H (.ref a) Q
def oW:Sp:=fun vs H Q _=>∃x,vs=[x]/\PlR H x Q
section
variable {X:Cx}{p pos p2 pos2:Pos}{e f:Expr}{t:TA}
inductive IntR (H:Hp):V->VK->Prop
 | int {i:Int} {Q:VK}:Q (.int i) H->IntR H (.int i) Q
 | bl {b:Bool} {Q:VK}:Q (.int (if b then 1 else 0)) H->IntR H (.bl b) Q
theorem t6 (B:Blt X.mg) (ha:PA X [e] t) (hg:Gl X "int":=by rfl) (he:starEach [e] X.env=(false,eval e X.env)::starEach [] X.env:=by rfl) (hpl:(backTo pos (starEach [] X.env)).any (·.1)=false:=by rfl) :
    PE X (.Call (.Name "int" p) [e] [] pos) (tCB (fun xs H Q=>∃x,xs=[x]/\IntR H x Q) t):=by
 refine iC (r:=fun xs H Q=>∃x,xs=[x]/\IntR H x Q) (fun pins s σ H xs us Q I r h=>?_) hg B.int PyProof.Rows.boot_int ha (by decide) (by decide) he hpl
 obtain⟨x,rfl,h⟩:=h
 cases h with
 | int q=>exact pj pins s σ H _ us Q I r (.inl ⟨_,rfl,q⟩)
 | bl q=>exact pj pins s σ H _ us Q I r (.inr ⟨_,rfl,q⟩)
theorem js (B:Blt X.mg) (hg:Gl X "tuple":=by rfl):PE X (.Name "tuple" p) (tC (.ty "tuple")):=li hg B.tuple (show bootBuiltins "tuple"=some (.type "tuple") by decide +kernel) rfl
def yd (K:W.Frag) (c d:String):List V->Hp->VK->Prop:=fun xs H Q=>∃x a t b,xs=[x,.ref a]/\H a=some (.tup [.ty c,.ty d])/\TyOf K H x t/\W.kitAny K t [.type c,.type d]=some b/\Q (.bl b) H
theorem ui {pins:List (Addr × Obj)}{σ:St}{H:Hp}{s:Shared}{A:Around}{E:Value->Shared->Prop}{Q:Value->Shared->Prop}{x:V}{u t:Value}{tp:Addr}{dd:Option Addr}{its:List Value}{n:Nat}{sl:Array (Option Value)}{b:Bool}
    (I:Inv X pins σ H s) (rx:RelV x u) (ty:TyOf X.K H x t) (htp:s.heap.get? tp=some ⟨.type "tuple",dd,.seq its.toArray n,sl⟩) (e:W.kitAny X.K t its=some b) (h:∀tk,Q (.bool b) { s with toks:=tk }) :
    wpAny (model X.prog X.w) A (call (.builtin "isinstance") [u,.ref tp]) Q E s:=by
 cases ty with
 | non=>cases (show u=Value.none from rx);exact W.kia_tup W.kitx_none I.kIn True.intro htp e (fun z=>nomatch z) h
 | bl y=>cases (show u=Value.bool y from rx);exact W.kia_tup W.kitx_bool I.kIn True.intro htp e (fun z=>nomatch z) h
 | int i=>obtain⟨t,q⟩:=(show ∃t,u=Value.int i t from rx);cases q;exact W.kia_tup W.kitx_int I.kIn True.intro htp e (fun z=>nomatch z) h
 | str y=>obtain⟨t,q⟩:=(show ∃t,u=Value.str y t from rx);cases q;exact W.kia_tup W.kitx_str I.kIn True.intro htp e (fun z=>nomatch z) h
 | flt y=>obtain⟨t,q⟩:=(show ∃t,u=Value.float y t from rx);cases q;exact W.kia_tup W.kitx_float I.kIn True.intro htp e (fun z=>nomatch z) h
 | @lst a xs ea =>
  cases (show u=Value.ref a from rx)
  obtain⟨_,_,n,_,h1⟩:=(show ObjOk X.prog X.w H s.heap a (.lst xs) from I.hok a _ ea)
  exact W.kia_tup W.kitx_list I.kIn ⟨_,h1,rfl⟩ htp e (fun z=>nomatch z) h
 | @frz a ob xs ea =>
  cases (show u=Value.ref a from rx)
  obtain⟨_,_,_,n,_,h1⟩:=(show ObjOk X.prog X.w H s.heap a (.frz ob (.lst xs)) from I.hok a _ ea)
  exact W.kia_tup W.kitx_list I.kIn ⟨_,h1,rfl⟩ htp e (fun z=>nomatch z) h
 | @tup a xs ea =>
  cases (show u=Value.ref a from rx)
  obtain⟨_,_,_,p⟩:=(show ObjOk X.prog X.w H s.heap a (.tup xs) from I.hok a _ ea)
  obtain⟨o,h1,h2,_⟩:=p
  exact W.kia_tup W.kitx_tuple I.kIn ⟨o,h1,h2⟩ htp e (fun z=>nomatch z) h
 | @dK a kvs ea =>
  cases (show u=Value.ref a from rx)
  obtain⟨_,_,vs,_,p⟩:=(show ObjOk X.prog X.w H s.heap a (.dK kvs) from I.hok a _ ea)
  obtain⟨o,es,ep,h1,h2,_⟩:=p
  exact W.kia_tup W.kitx_dict I.kIn ⟨o,h1,h2.1⟩ htp e (fun z=>nomatch z) h
 | @dT a kvs ea =>
  cases (show u=Value.ref a from rx)
  obtain⟨_,_,xs,_,o,es,ep,h1,h2,_⟩:=(show ObjOk X.prog X.w H s.heap a (.dT kvs) from I.hok a _ ea)
  exact W.kia_tup W.kitx_dict I.kIn ⟨o,h1,h2.1⟩ htp e (fun z=>nomatch z) h
 | @ins a C dx fs ea cl ha hn htk hm =>
  cases (show u=Value.ref a from rx)
  obtain⟨mA,O,_⟩:=rP I.hok ea
  obtain⟨od,J,_⟩:=O.look
  exact W.kia_tup (W.kitx_own (cl.get _) cl.hd ha hn htk hm) I.kIn J htp e (fun z=>nomatch z) h
theorem wp (c d:String):gG X (.builtin "isinstance") (yd X.K c d):=by
 intro pins s σ H xs us Q I r h
 obtain⟨x,a,t,b,rfl,ea,ty,e,q⟩:=h
 obtain⟨u,w',rfl,ru,rw'⟩:=ir r
 cases rw'
 obtain⟨_,its,rv,⟨oc,od,odt,osl⟩,h1,h2,n,h3,_⟩:=(show ObjOk X.prog X.w H s.heap a (.tup [.ty c,.ty d]) from I.hok a _ ea)
 have h2:oc=.type "tuple":=h2
 have h3:odt=.seq its.toArray n:=h3
 subst h2 h3
 obtain⟨u1,u2,rfl,r1,r2⟩:=ir rv
 cases r1
 cases r2
 exact ui I ru ty h1 e fun tk=>⟨.bl b,H,I.tok tk,rfl,q⟩
theorem qi (K:W.Frag) (c d:String) (B:Blt X.mg) (ha:PA X [e,f] t) (hg:Gl X "isinstance":=by rfl) (he:starEach [e,f] X.env=(false,eval e X.env)::starEach [f] X.env:=by rfl) (hpl:(backTo pos (starEach [f] X.env)).any (·.1)=false:=by rfl) (hK:X.K=K:=by rfl):PE X (.Call (.Name "isinstance" p) [e,f] [] pos) (tCB (yd K c d) t) :=
 hK ▸ gv (wp c d) hg B.isinstance boot_isinstance ha (by decide) (by decide) he hpl
end
theorem qU {K:W.Frag}{H:Hp}{x:V}{t:Value}(h1:W.kitOne K t (.type "list")=some (isL H x)) (h2:W.kitOne K t (.type "tuple")=some (isT H x)):W.kitAny K t [.type "list",.type "tuple"]=some (isL H x||isT H x):=by
 unfold W.kitAny
 rw[h1]
 cases isL H x with
 | true=>rfl
 | false =>
  show W.kitAny K t [.type "tuple"]=_
  unfold W.kitAny
  rw[h2]
  cases isT H x <;> rfl
section
variable {X:Cx}{p pos:Pos}{e:Expr}{t:TA}
def BH:List V->Hp->VK->Prop:=fun xs H Q=>∃a kvs,xs=[V.ref a]/\H a=some (.dK kvs)/\Q (.int kvs.length) H
theorem A8 (B:Blt X.mg) (ha:PA X [e] t) (hg:Gl X "len":=by rfl) (he:starEach [e] X.env=(false,eval e X.env)::starEach [] X.env:=by rfl) (hpl:(backTo pos (starEach [] X.env)).any (·.1)=false:=by rfl):PE X (.Call (.Name "len" p) [e] [] pos) (tCB BH t) :=
 gv vX hg B.len PySem.boot_len ha (by decide) (by decide) he hpl
end
theorem p0 {α:Type} [DecidableEq α]:∀ {l:List α}, ¬ l.Nodup -> ∃l1 a l2, l=l1 ++ a :: l2 /\ a ∈ l2
 | [],h=>absurd List.nodup_nil h
 | x::l,h=>by
  by_cases q:x∈l
  ·exact⟨[],x,l,rfl,q⟩
  ·have h:¬ l.Nodup:=fun z=>h (ba.mpr ⟨q,z⟩)
   obtain⟨l1,a,l2,e,m⟩:=p0 h
   exact⟨x::l1,a,l2,by rw[e];rfl,m⟩
theorem wR {α:Type} [DecidableEq α] {ks ws:List α}(nd:ks.Nodup) (h1:∀k ∈ ks, k ∈ ws) (h2:∀w ∈ ws, w ∈ ks):ks.length=ws.length ↔ ws.Nodup := by
 constructor
 ·intro hl
  refine Classical.byContradiction fun hn=>?_
  obtain⟨l1,a,l2,e,m⟩:=p0 hn
  have:=nd.length_le_of_subset (l₂:=l1++l2) fun k hk=>by
   have:=h1 k hk
   rw[e] at this
   rcases aH.mp this with q | q
   ·exact bH _ q
   ·rcases aB.mp q with q | q
    ·rw[q];exact be _ m
    ·exact be _ q
  rw[hl,e,aJ,aJ,aF] at this
  omega
 ·intro hw
  exact Nat.le_antisymm (nd.length_le_of_subset h1) (hw.length_le_of_subset h2)
theorem zp {kvs:List (Key × V)}{ws:List Str}(nd:(kvs.map (·.1)).Nodup) (ks:∀k ∈ kvs.map (·.1), ∃s ∈ ws, k=Sum.inr s) (hin:∀s, (dg kvs (.inr s)).isSome=true ↔ s ∈ ws):kvs.length=ws.length ↔ ws.Nodup := by
 have h:=wR (ks:=kvs.map (·.1)) (ws:=ws.map (Sum.inr:Str->Key)) nd (fun k hk=>by
     obtain⟨s,hs,rfl⟩:=ks k hk
     exact ao.mpr ⟨s,hs,rfl⟩) (fun k hk=>by
     obtain⟨s,hs,rfl⟩:=ao.mp hk
     obtain⟨v,hv⟩:=cg.mp ((hin s).mpr hs)
     exact yJ hv)
 rw[ae,ae] at h
 rw[h]
 constructor
 ·intro q
  exact List.Pairwise.of_map (Sum.inr:Str->Key) (fun a b n e=>n (by rw[e])) q
 ·intro q
  exact List.Pairwise.map _ (fun a b n e=>n (Sum.inr.inj e)) q
end L2
namespace L2
open PySem PySem.Spec PyProof.Rows PySem.Builtin PySem.Builtin.Str
theorem qC {z:Str}{j:Nat}(h:j<=z.length):(Txt.slice z none (some (j:Int))).length=j:=by
 have e:Txt.slice z none (some (j:Int))=StrLaws.sliceText z none (some (j:Int)):=rfl
 rw[e,StrLaws.sliceText_to ⟨by omega,by simp[Str.length] at h ⊢;omega⟩]
 show (List.take _ _).toArray.size=j
 rw[aE]
 simp[Str.length] at h ⊢
 omega
def Lo (t:Str):Prop:=∀x∈t.cps.toList,97<=x/\x<=122
theorem Lo.nil:Lo "":=fun c hc=>by
 have hc:c∈("":Str).cps.toList:=hc
 rw[show ("":Str).cps.toList=[] by decide +kernel] at hc
 cases hc
theorem Lo.one {c:Nat}(h:97<=c/\c<=122):Lo ⟨#[c]⟩:=fun d hd=>by
 have:d=c:=by simpa using hd
 omega
theorem Lo.app {x y:Str}(hx:Lo x) (hy:Lo y):Lo (x++y):=fun c hc=>by
 have hc:c∈(x.cps++y.cps).toList:=hc
 rw[Array.toList_append] at hc
 rcases aH.mp hc with h | h
 ·exact hx c h
 ·exact hy c h
theorem Lo.slice {x:Str}(h:Lo x) (l u:Option Int):Lo (Txt.slice x l u):=by
 unfold Txt.slice
 split
 ·exact h
 ·intro c hc
  have hc:c∈(List.filterMap (x.cps[·]?) (strSliceIndices l u 1 x.length)).toArray.toList:=hc
  rw[List.toList_toArray] at hc
  obtain⟨i,_,e⟩:=ce.mp hc
  exact h c (by simpa using Array.mem_of_getElem? e)
theorem Lo.joinS {sep:Str}(hs:Lo sep):∀ {ys:List Str},(∀y∈ys,Lo y)->Lo (Str.join sep ys)
 | [],_=>fun c hc=>by
  have hc:c∈(#[]:Array Nat).toList:=hc
  simp at hc
 | [y],h=>h y (by simp)
 | y::z::r,h=>by
  show Lo (y++sep++Str.join sep (z::r))
  exact((h y (by simp)).app hs).app (Lo.joinS hs fun x hx=>h x (aK _ hx))
theorem Lo.join {sep:Str}{ys:List Str}(hs:Lo sep) (h:∀y∈ys,Lo y):Lo (Txt.join sep ys):=by
 unfold Txt.join
 rw[StrLaws.glued_eq_join]
 exact Lo.joinS hs h
theorem Lo.nm {z:Str}(h:Lo z) (h1:1<=z.length) (h2:z.length<=8):Nm z:=⟨h1,h2,h⟩
def abc (j:Int):Str:=⟨#[97+j.toNat]⟩
theorem A5 {j:Int}(h0:0<=j) (h1:j<26):Lo (abc j):=Lo.one (by omega)
theorem qR {j:Int}(h0:0<=j) (h1:j<26):atI ("abcdefghijklmnopqrstuvwxyz":Str).cps.toList j=some (97+j.toNat):=by
 obtain⟨k,rfl⟩:=bi h0
 have hk:k<26:=by omega
 exact(by decide +kernel:∀k:Nat,k<26->atI ("abcdefghijklmnopqrstuvwxyz":Str).cps.toList (k:Int)=some (97+(k:Int).toNat)) k hk
theorem xm {ys:List Str}(h:∀y∈ys,y.length=1):(Txt.join "" ys).length=ys.length:=by
 have e0:("":Str).length=0:=by decide +kernel
 unfold Txt.join
 rw[size_glued,e0,Nat.mul_zero,Nat.add_zero]
 induction ys with
 | nil=>rfl
 | cons y r ih =>
  have h1:=h y (by simp)
  have h2:=ih fun z hz=>h z (aK _ hz)
  simp only[aQ,List.sum_cons,aF]
  omega
theorem pT {α:Type}(f:Nat->α) (m:Nat) (h:∀i j,i<j->j<m->f i≠f j):((List.range m).map f).Nodup:=by
 rw[List.nodup_iff_pairwise_ne,List.pairwise_map]
 refine List.Pairwise.imp_of_mem ?_ (List.pairwise_lt_range (n:=m))
 intro a b ha hb hab
 exact h a b hab (List.mem_range.mp hb)
theorem nA {α:Type}(f:Nat->α) (i:Nat):(List.range (i+1)).map f=(List.range i).map f++[f i]:=by rw[List.range_succ,aj];rfl
end L2
namespace L2
open PySem PySem.Spec PyProof.Rows
def SqA (H:Hp) (a:Addr) (xs:List V):Prop:=H a=some (.lst xs)∨H a=some (.tup xs)
theorem SqA.same {H H':Hp}{a:Addr}{xs:List V}(h:SqA H a xs) (s:Same H H'):SqA H' a xs:=by
 rcases h with h | h
 ·exact .inl (s _ _ h)
 ·exact .inr (s _ _ h)
theorem SqA.len {K:W.Frag}{H:Hp}{a:Addr}{xs:List V}(h:SqA H a xs):ya K (.ref a) H xs.length:=by
 rcases h with h | h
 ·exact .inl ⟨xs,.of h,rfl⟩
 ·exact .inr ⟨xs,.of h,rfl⟩
theorem SqA.thg {H:Hp}{a:Addr}{xs:List V}(h:SqA H a xs):Thg H (.ref a):=by
 rcases h with h | h
 ·exact .lst h
 ·exact .tup h
theorem SqA.lt {H:Hp}{a:Addr}{xs:List V}(h:SqA H a xs):(isL H (.ref a)||isT H (.ref a))=true:=by
 rcases h with h | h
 ·rw[kL h];rfl
 ·rw[kK h,Bool.or_true]
section
variable {X:Cx}{p pos p2 pos2:Pos}{e f:Expr}{t:TA}
theorem um:MtR X "list.extend" nS:=uG
theorem rn:MtR X "list.reverse" mK:=tI
theorem qg (K:W.Frag) {o e:Expr}{to:TE}{t:TA}{apos cpos:Pos}(ho:PE X o to) (ha:PA X [e] t)
    (hbase:attributeBase o "extend" X.env (eval o X.env)=eval o X.env:=by rfl)
    (hfew:((backTo cpos (starEach [e] X.env)).all (fun x=>!x.1)&&(backToKw cpos (keywordEach [] X.env)).all (fun x=>x.1.isSome)
     && decide ([e].length+([]:List Keyword).length+(if ([]:List Keyword).isEmpty then 0 else 1)<30))=true:=by rfl)
    (hline:(apos.endLine==cpos.line)=true:=by rfl) (hs:starEach [e] X.env=(false,eval e X.env)::starEach [] X.env:=by rfl) (hplain:(backTo cpos (starEach [] X.env)).any (·.1)=false:=by rfl) (hK:X.K=K:=by rfl) :
    PE X (.Call (.Attribute o "extend" apos) [e] [] cpos) (tBM K "list" nS to t):=hK ▸ mV PySem.F.plainAttrs_list PySem.F.slot_list_extend PySem.F.type_list_extend um ho ha hbase hfew hline hs hplain
theorem vV (K:W.Frag) {o:Expr}{to:TE}{apos cpos:Pos}(ho:PE X o to) (hbase:attributeBase o "reverse" X.env (eval o X.env)=eval o X.env:=by rfl) (hline:(apos.endLine==cpos.line)=true:=by rfl) (hK:X.K=K:=by rfl) :
    PE X (.Call (.Attribute o "reverse" apos) [] [] cpos) (Ac K "list" mK to):=hK ▸ Aj PySem.F.plainAttrs_list PySem.F.slot_list_reverse PySem.F.type_list_reverse rn ho hbase hline
end
theorem pi (xs:List V) (k:Nat):il xs (some (k:Int)) none=xs.drop k:=by
 unfold il
 rw[HT.sIx_nat,HT.sIx_none]
 by_cases h:k<=xs.length
 ·rw[Nat.min_eq_left h,ap (by rw[bU];omega)]
 ·rw[Nat.min_eq_right (by omega),bW (ac _),bW (by omega)];simp
theorem tH {α:Type}{M:Model}{A:Around}{E:Value->Shared->Prop}{s:Shared}{m:Sem (Option α)}{P:α->Shared->Prop}
    (h:wpAny M A m (fun r s1=>∃u,r=some u/\wpAny M A (pure ():Sem Unit) (fun _ s2=>P u s2) E s1) E s):wpAny M A m (fun r s1=>∃u,r=some u/\P u s1) E s:=by
 intro Γ p hΓ
 exact Sem.wp_mono M Γ m (fun r p' s1 ⟨u,e,q⟩=>⟨u,e,q Γ p' hΓ⟩) (fun _ _ _ z=>z) p s (h Γ p hΓ)
theorem Inv.atA {X:Cx}{pins:List (Addr × Obj)}{σ:St}{H:Hp}{s:Shared}(I:Inv X pins σ H s) (A':Around) (h1:A'.handled=X.A.handled) (h2:A'.frames=X.A.frames):Inv { X with A:=A' } pins σ H s :=
 ⟨⟨I.ok.mod,I.ok.kind,I.ok.glob,I.ok.blt,I.ok.above,I.ok.inj,I.ok.has,I.ok.cab,fun c=>h1.trans (I.ok.hd c),h2.trans I.ok.frames,I.ok.stk,I.ok.exf,I.ok.bs,I.ok.bsz,I.ok.noex,I.ok.exfs,I.ok.funs,I.ok.frf⟩,
  I.os,I.bare,I.base,I.loc,I.cell,I.free,I.freeC,I.pin,I.hok,I.len⟩
theorem Inv.ofA {X:Cx}{pins:List (Addr × Obj)}{σ:St}{H:Hp}{s:Shared}{A':Around}(ok:X.Ok) (I:Inv { X with A:=A' } pins σ H s):Inv X pins σ H s :=
 ⟨ok,I.os,I.bare,I.base,I.loc,I.cell,I.free,I.freeC,I.pin,I.hok,I.len⟩
theorem mP:typeLookup (.type "tuple") "keys"=pure none:=am_miss_of_fast (by decide +kernel)
section
variable {prog:Program}{w:World}{A:Around}{E:Value->Shared->Prop}{s:Shared}
theorem qd {a:Addr}{o:Obj}{xs:Array Value}{k:Nat}{Q:Option Value->Shared->Prop}
    (hx:s.heap.get? a=some o) (hc:o.cls=.type "tuple") (hdat:o.data=.seq xs k) (hd:o.dict=none) (hA:A.handled=none)
    (h:∀h' tk,(∀b ob,s.heap.get? b=some ob->h'.get? b=some ob)->Q none { s with heap:=h',toks:=tk }) :
    wpAny (model prog w) A (getAttr? (.ref a) "keys") Q E s:=by
 obtain⟨c,dct,dat,sl⟩:=o
 simp only at hc hdat hd
 subst hc hdat hd
 obtain⟨hp,g,d,tk,os⟩:=s
 have hT:∀tk',(⟨hp,g,d,tk',os⟩:Shared).TypeIs (.ref a) "tuple":=fun _=>⟨_,hx,rfl⟩
 have f1:=sub_AttributeError
 have f3:=F.slot_tuple_getattribute.lookup
 have f4:=F.slot_tuple_getattribute.bind (.ref a)
 have f5:=am_tuple_getattr_none
 unfold getAttr? getAttrBy? getAttrBy
 repeat (any_goals (first | assumption | exact hT _ | ((with_reducible show wpAny _ _ (call (Value.builtin "tuple.__getattribute__") _ _) _ _ _);refine call_meets F.slot_tuple_getattribute (hT _) am_entry_tuple_getattribute (F.args_tuple_getattribute_2 _ _) (meets_getattribute_miss_tuple a xs k sl "keys" _ mP (by decide +kernel)) ⟨hx,hA,fun h' tk' e hx'=>?_⟩) | wp_step))
 obtain⟨t',u',he⟩:=hx'.there
 show wpAny _ _ (getattributeRaised _ _ _ _ _ _ _) _ _ _
 unfold getattributeRaised
 repeat (any_goals (first | assumption | wp_step))
 exact h _ _ hx'.keeps
end
namespace DU
theorem entry_loop:entryFor table "dict.update.loop"=some Builtin.«dict.update.loop»:=entryFor_of_fast (by kernel_rfl)
theorem plain_loop:plainId "dict.update.loop"=true:=by decide +kernel
end DU
section
variable {X:Cx}{pins:List (Addr × Obj)}{σ:St}{H:Hp}{s:Shared}{a:Addr}{y v:V}{u r:Value}{A:Around}{E:Value->Shared->Prop}
theorem uJ {H':Hp}{Q:Unit->Shared->Prop}(hu:A.units<cLine) (I:Inv X pins σ H s) (g:DPut H a y v H') (ry:RelV y u) (rv:RelV v r) (h:∀s',Inv X pins σ H' s'->(∀b o,b≠a->s.heap.get? b=some o->s'.heap.get? b=some o)->Q () s') :
    wpAny (model X.prog X.w) A (dictSet a u r) Q E s:=by
 rcases g with⟨kvs,k,e,ey,l,eH⟩ | ⟨kvs,k,b,e,ey,eb,l,eH⟩
 ·subst ey eH
  obtain⟨z,hd,vs,rel,dd⟩:=tR I.hok e
  have hz:vs.length<=sizeLine:=by rw[<- rel.length];exact z
  have hl:(dE kvs k v).length<=sizeLine:=by have:=dW kvs k v;omega
  refine wpAny_dictSet_pairs (hsz:=hz) (iK ry) dd fun h' dd' hs=>h _ ?_ fun b o n q=>hs.extBut _ _ n q
  have he:∃q,h'.get? a=some q:=let ⟨q,_,_,hq,_⟩:=dd';⟨q,hq⟩
  exact jJ I (by rw[e];exact True.intro) hs he (qf hl hd (rel.put k rv) dd')
 ·subst ey eH
  cases (show u=Value.ref b from ry)
  obtain⟨z,hd,xs,rel,dd⟩:=yB I.hok e
  have hz:xs.length<=sizeLine:=by rw[<- Paired.length rel];exact z
  have hl:(dE kvs k v).length<=sizeLine:=by have:=dW kvs k v;omega
  refine wpAny_dictSet_heap (hsz:=hz) hu (jw I.hok eb) dd fun h' dd' hs=>h _ ?_ fun b o n q=>hs.extBut _ _ n q
  obtain⟨q,es,ep,hq,h2,h3,h4,_,h5⟩:=dd'
  refine jJ I (by rw[e];exact True.intro) hs ⟨q,hq⟩ ⟨hl,hd,_,(rel.put k eb rv).keeps fun c ys ec=>?_,q,es,ep,hq,h2,h3,h4,h5⟩
  rw[cJ (eK ec e (fun z=>nomatch z))]
  exact ec
theorem DPut.at_ {H':Hp}(g:DPut H a y v H'):(∃o,H a=some o)/\∀b,b≠a->H' b=H b:=by
 rcases g with⟨kvs,k,e,ey,l,eH⟩ | ⟨kvs,k,b,e,ey,eb,l,eH⟩
 ·exact⟨⟨_,e⟩,fun b n=>by rw[eH,cJ n]⟩
 ·exact⟨⟨_,e⟩,fun b n=>by rw[eH,cJ n]⟩
end
theorem wB {X:Cx}{pins:List (Addr × Obj)}{σ:St}{nm:Str}{tp:Pos}{J:It}{fp:List Addr}{it:Addr}{tn:Nat -> Heap -> Prop}(T:Turn X.prog X.w X.K (.Name nm tp) J fp it tn) (hc:X.calm=true) (hu:X.A.units+64<cLine) (d:Addr) (n:Nat) (Dv:Nat -> Hp -> Prop)
    (go:∀i H,i<n->Dv i H->J.go i H/\∀x H1,J.yld i H x H1->∃b k v H2,x=.ref b/\SqT X.K H1 b [k,v]/\DPut H1 d k v H2/\Dv (i+1) H2)
    (stop:∀H,Dv n H->J.stop n H) {R:Result->Shared->Prop}:∀(k i:Nat) (j:Int) (s:Shared) (H:Hp),n-i=k->i<=n->Inv X pins σ H s->(∀b∈fp,hU X pins H b)->tn i s.heap->Dv i H ->
     (∀H' s',Inv X pins σ H' s'->Dv n H'->R (.ok (.ret .none)) s')->codeAny (model X.prog X.w) X.A.in1 (.builtin "dict.update.loop" ⟨[.ref d,.ref it,rawInt j,.none],[]⟩) R s:=by
 intro k
 induction k with
 | zero =>
  intro i j s H hk hi I hf ht hd hR
  have hin:i=n:=by omega
  subst hin
  refine codeAny_builtin DU.entry_loop ?_
  rw[Around.under_plainId DU.plain_loop _]
  show wpAny _ X.A.in1.in1 (pyNext (.ref it) >>= _) _ _ s
  refine aa (bj (T.done { X with A:=X.A.in1.in1 } rfl rfl rfl hc i pins s σ H _ (I.atA _ rfl rfl) hf ht (stop H hd)) (fun r s1 ⟨e,I1⟩=>?_) fun _ _ z=>z)
  subst e
  show wpAny _ _ (Builtin.Dict.addKeywords d [] >>= _) _ _ _
  exact aa (af (af (hR H s1 (Inv.ofA I.ok I1) hd)))
 | succ k ih =>
  intro i j s H hk hi I hf ht hd hR
  have hlt:i<n:=by omega
  obtain⟨hg,hy⟩:=go i H hlt hd
  refine codeAny_builtin DU.entry_loop ?_
  rw[Around.under_plainId DU.plain_loop _]
  show wpAny _ X.A.in1.in1 (pyNext (.ref it) >>= _) _ _ s
  refine aa (bj (tH (T.item { X with A:=X.A.in1.in1 } rfl rfl rfl hc i pins s σ H _ (I.atA _ rfl rfl) hf ht hg)) (fun r s1 ⟨u,e,x,H1,I1,rx,yl,t1,fn⟩=>?_) fun _ _ z=>z)
  subst e
  replace I1:=Inv.ofA I.ok I1
  obtain⟨b,kk,v,H2,ex,sq,dp,dv⟩:=hy x H1 yl
  subst ex
  cases (show u=Value.ref b from rx)
  obtain⟨its,rv,pt,hz⟩:=I1.tuple sq
  obtain⟨u1,u2,e2,r1,r2⟩:=ir rv
  subst e2
  obtain⟨o,ho,hcl,m,hdt⟩:=pt
  show wpAny _ _ (holding [Value.ref b] _ >>= _) _ _ _
  refine aa (aR ?_)
  show wpAny _ _ (Sem.tryCatch (Builtin.Dict.pairItems (Value.ref b)) _ >>= _) _ _ _
  refine aa (wpAny_tryCatch ?_)
  unfold Builtin.Dict.pairItems
  refine aa (wpAny_typeOf (T:="tuple") ⟨o,ho,hcl⟩ ?_)
  simp only[show ((Value.type "tuple"==Value.type "list")||(Value.type "tuple"==Value.type "tuple"))=true from rfl,if_true]
  unfold seqItems?
  refine aa (aa (wpAny_load ho ?_))
  rw[hdt]
  refine af (af ?_)
  show wpAny _ _ (holding [u1,u2] (dictSet d u1 u2)) _ _ _
  have hu':X.A.in1.in1.units<cLine:=by show X.A.units+1+1<cLine;omega
  refine aR (uJ hu' I1 dp r1 r2 fun s2 I2 hk2=>?_)
  have dn:∀b∈fp,b≠d:=fun b hb q=>by
   obtain⟨o,eo⟩:=dp.at_.1
   rw[<- q,fn b hb] at eo
   cases eo
  refine af ⟨plainId_quiet DU.plain_loop _,ih (i+1) (j+1) s2 H2 (by omega) hlt I2 (fun b hb=>?_) (T.keep _ _ _ t1 fun b hb o q=>hk2 b o (dn b hb) q) dv hR⟩
  obtain⟨_,f1,f2,f3,f4,f5⟩:=hf b hb
  exact⟨(dp.at_.2 b (dn b hb)).trans (fn b hb),f1,f2,f3,f4,f5⟩
theorem Rd.fresh {H:Hp}{a l:Addr}{u o:HO}(r:Rd H a u) (hl:H l=none):Rd (upd H l o) a u:=by
 have n:a≠l:=fun e=>by subst e;rcases r with r | ⟨_,r⟩ <;> rw[hl] at r <;> cases r
 unfold Rd
 rw[cJ n]
 exact r
theorem SqT.fresh {K:W.Frag}{H:Hp}{a l:Addr}{xs:List V}{o:HO}(r:SqT K H a xs) (hl:H l=none):SqT K (upd H l o) a xs:=by
 rcases r with r | r
 ·exact Or.inl (r.fresh hl)
 ·exact Or.inr r
theorem wO {κ:Type} [DecidableEq κ]:∀(ps:List (κ × V)) (m:List (κ × V)),(ps.foldl (fun m q=>dE m q.1 q.2) m).length<=m.length+ps.length:=by
 intro ps
 induction ps with
 | nil=>intro m;exact ac _
 | cons q r ih =>
  intro m
  have h1:=ih (dE m q.1 q.2)
  have h2:=dW m q.1 q.2
  rw[List.foldl_cons,aF]
  omega
def mkK {κ:Type} [DecidableEq κ] (ps:List (κ × V)):List (κ × V):=ps.foldl (fun m q=>dE m q.1 q.2) []
theorem Az {κ:Type} [DecidableEq κ] (ps:List (κ × V)):(mkK ps).length<=ps.length:=by
 have:=wO ps []
 rw[List.length_nil,Nat.zero_add] at this
 exact this
theorem xL {κ:Type} [DecidableEq κ] (ps:List (κ × V)) (i:Nat) (q:κ × V) (h:ps[i]? = some q):mkK (ps.take (i+1))=dE (mkK (ps.take i)) q.1 q.2:=by
 unfold mkK
 rw[av,h,List.foldl_append]
 rfl
namespace SP
open PySem.Builtin PySem.Builtin.Str PySem.StrLaws
abbrev one (c:Nat):Str:=⟨#[c]⟩
theorem split_len (x:Str) (y:Str):(partsBetween x (occurrences x y 0 x.length (x.length+1)) y.length).length<=x.length+2:=by
 rw[length_partsBetween]
 have:=occ_length_le x y 0 x.length (x.length+1)
 omega
end SP
end L2
namespace L2
open PySem PySem.Spec PyProof.Rows
section
variable {X:Cx}
theorem kx:∀(ps:List Str) (k:Nat),Vals (ps.map V.str) (strsFrom k ps)
 | [],_=>.nil
 | p::r,k=>.cons ⟨_,rfl⟩ (kx r (k+1))
def uX:V->List V->Hp->VK->Prop:=fun x xs H Q=>∃z y,x=.str z/\xs=[.str y]/\(y.length==0)=false/\z.length+2<=sizeLine/\∀l,H l=none->Q (.ref l) (upd H l (.lst (List.map V.str (Txt.split z y))))
theorem x3:MtR X "str.split" uX := by
 intro pins s σ H x xs v us Q I rx rv h
 obtain⟨z,y,rfl,rfl,hy,hz,q⟩:=h
 obtain⟨t,rfl⟩:=rx
 obtain⟨u,rfl,ru⟩:=fZ rv
 obtain⟨t',rfl⟩:=ru
 have hfr:H s.heap.objs.size=none:=I.hok.fresh (ac _)
 have hpl:=SP.split_len z y
 have fin:∀(ps:List Str) (its:List Value) (k:Nat),ps=Txt.split z y->ps.length<=sizeLine->Vals (ps.map V.str) its->EP X pins σ Q (.ref s.heap.objs.size) { s with heap:=s.heap.push { cls:=.type "list",data:=.seq its.toArray },toks:=k }:=fun ps its k e hl r=>by
  subst e
  exact⟨.ref _,_,I.laid (a:=s.heap.objs.size) (o:=.lst (List.map V.str (Txt.split z y))) (t':=k) (fun _ _ q=>ai _ q) (ac _) ⟨by rw[ae];exact hl,its,_,r,aA _ rfl⟩,rfl,q _ hfr⟩
 cases h1:(decide (z.length<y.length)||decide (Builtin.Str.strKind z<Builtin.Str.strKind y))
 ·cases hf:(Builtin.Str.occurrences z y 0 z.length (z.length+1)).isEmpty
  ·refine call_meets F.slot_str_split (typeIs_str _ _ _) F.entry_str_split (F.args_str_split_2 _ _) (meets_str_split_sep z y t t' h1 hy hf (by omega) (by omega)) ?_
   refine fin _ _ _ ?_ (by omega) (kx _ _)
   exact((if_neg (ne_true_of_eq_false h1)).trans (if_neg (ne_true_of_eq_false hf))).symm
  ·refine call_meets F.slot_str_split (typeIs_str _ _ _) F.entry_str_split (F.args_str_split_2 _ _) (meets_str_split_not_found z y t t' h1 hy hf) ?_
   exact fin [z] _ _ ((if_neg (ne_true_of_eq_false h1)).trans (if_pos hf)).symm (by show 1<=sizeLine;decide) (.cons ⟨t,rfl⟩ .nil)
 ·refine call_meets F.slot_str_split (typeIs_str _ _ _) F.entry_str_split (F.args_str_split_2 _ _) (meets_str_split_cannot_occur z y t t' h1) ?_
  exact fin [z] _ _ (if_pos h1).symm (by show 1<=sizeLine;decide) (.cons ⟨t,rfl⟩ .nil)
theorem zm (K:W.Frag) {o e:Expr}{to:TE}{t:TA}{apos cpos:Pos}(ho:PE X o to) (ha:PA X [e] t)
    (hbase:attributeBase o "split" X.env (eval o X.env)=eval o X.env:=by rfl)
    (hfew:((backTo cpos (starEach [e] X.env)).all (fun x=>!x.1)&&(backToKw cpos (keywordEach [] X.env)).all (fun x=>x.1.isSome)
     && decide ([e].length+([]:List Keyword).length+(if ([]:List Keyword).isEmpty then 0 else 1)<30))=true:=by rfl)
    (hline:(apos.endLine==cpos.line)=true:=by rfl) (hs:starEach [e] X.env=(false,eval e X.env)::starEach [] X.env:=by rfl) (hplain:(backTo cpos (starEach [] X.env)).any (·.1)=false:=by rfl) (hK:X.K=K:=by rfl) :
    PE X (.Call (.Attribute o "split" apos) [e] [] cpos) (tBM K "str" uX to t):=hK ▸ mV PySem.F.plainAttrs_str PySem.F.slot_str_split PySem.F.type_str_split x3 ho ha hbase hfew hline hs hplain
end
section
variable {prog:Program}{w:World}{A:Around}{E:Value->Shared->Prop}{s:Shared}
theorem mU {it t:Addr}{items:Array Value}(hne:t≠it):∀(n i:Nat) (s:Shared) (Q:List Value->Shared->Prop),s.heap.IsListIter it t i->s.heap.IsList t items->i+n<=items.size ->
    (∀h',h'.IsListIter it t (i+n)->Heap.SameBut it s.heap h'->Q ((items.toList.drop i).take n) { s with heap:=h' })->wpAny (model prog w) A (draw (.ref it) n) Q E s
 | 0,i,s,Q,hit,_,_,hQ=>by
  show wpAny _ _ (pure []) Q E s
  exact af (by simpa using hQ s.heap hit (Heap.SameBut.refl ..))
 | n+1,i,s,Q,hit,ht,hle,hQ=>by
  have hlt:i<items.size:=by omega
  show wpAny _ _ (pyNext (.ref it) >>= _) Q E s
  refine aa (wpAny_pyNext_list_item hit ht (x:=items[i]) (by simp[hlt]) fun h₁ hit₁ hs₁=>?_)
  refine aa (aR (mU hne n (i+1) _ _ hit₁ (ht.at fun o e=>hs₁.extBut _ _ hne e) (by omega) fun h₂ hit₂ hs₂=>af ?_))
  have hd:items.toList.drop i=items[i]::items.toList.drop (i+1):=by simp[bJ,hlt]
  have:=hQ h₂ (by rw[show i+(n+1)=i+1+n by omega];exact hit₂) (hs₁.trans hs₂)
  rw[hd,List.take_succ_cons] at this
  exact this
theorem lX {t:Addr}{items:Array Value}{Q:List Value -> Shared -> Prop}(hh:A.handled=none) (ht:s.heap.IsList t items)
    (hQ:∀h',Heap.ExtBut s.heap.objs.size s.heap h'->Q items.toList { s with heap:=h' }):wpAny (model prog w) A (unpackItems (.ref t) items.size none) Q E s:=by
 have hlt:t≠s.heap.objs.size:=by obtain⟨o,ho,_⟩:=ht;exact aD (ag ho)
 have hT:s.TypeIs (.ref t) "list":=by obtain⟨o,ho,hc,_⟩:=ht;exact⟨o,ho,hc⟩
 unfold unpackItems
 refine aa ?_
 ·unfold notIterableAtAll
  refine aa (wpAny_specialOf hT F.slot_list_iter.lookup ?_)
  refine af ?_
  simp only[bM,if_false]
  refine aa (aR (wpAny_pyIter_list ht ?_))
  refine aa (aR (mU hlt items.size 0 _ _ ⟨_,aA _ rfl,rfl,rfl⟩ (ht.at fun o e=>ai _ e) (by omega) fun h₁ hit₁ hs₁=>?_))
  have hall:List.take items.size (List.drop 0 items.toList)=items.toList:=by
   rw[List.drop_zero];exact ap (by simp)
  rw[hall]
  rw[if_neg (by simp)]
  have ht₁:h₁.IsList t items:=ht.at fun o e=>hs₁.extBut _ _ hlt (ai _ e)
  refine aa (aR (wpAny_pyNext_list_end hh hit₁ ht₁ (by simp) fun h₂ he₂=>?_))
  simp only[Option.isSome_none,bM,if_false]
  refine af (hQ h₂ fun b o hb e=>he₂ b o hb (hs₁.extBut b o hb (ai _ e)))
end
def AR (K:W.Frag) (n:Nat) (t:TGs):TG:=fun v σ H Q=>∃a xs,v=.ref a/\SqL K H a xs/\xs.length=n/\t xs σ H Q
theorem zw (K:W.Frag) {X:Cx}{es:List Expr}{k:Nat}{pos:Pos}{t:TGs}{n:Nat}(hc:X.calm=true) (h:PGs X es t)
    (hn:(assignEach es X.env).length=n:=by rfl) (hst:(assignEach es X.env).findIdx? (·.1)=none:=by rfl) (hK:X.K=K:=by rfl):PG X (.Tuple es k pos) (AR K n t):=by
 subst hK
 intro pins s σ H v u Q I r hw
 obtain⟨a,xs,e1,hq,hl,hw⟩:=hw
 subst e1
 cases r
 obtain⟨its,rv,ht,hz⟩:=I.list hq
 rw[assign_Tuple]
 refine aa (wpAny_standAt ?_)
 unfold unpack
 rw[show (assignEach es X.env).length=its.toArray.size by simp[hn,<- hl,rv.length],hst]
 refine aa (aR (lX (I.ok.hd hc) ht.isList fun h' hx=>?_))
 have I1:Inv X pins σ H { s with heap:=h' }:=I.kept (t':=s.toks) fun b o e=>hx b o (aD (ag e)) e
 exact h pins _ σ H xs _ Q I1 (by simpa using rv) hw
end L2
set_option maxHeartbeats 400000
namespace L2
open PySem PySem.Spec PyProof.Rows
theorem nC {prog:Program}{w:World}{A:Around}{E:Value->Shared->Prop}{s:Shared}{l b:Addr}{items items2:Array Value}{Q:Value->Shared->Prop}(hl:s.heap.IsList l items) (hb:s.heap.IsList b items2) (hsz:(items.size != items2.size)=true) (hu:A.units<cLine) (h:Q (Value.bool true) s):wpAny (model prog w) A (compareOp CmpOp.NotEq (Value.ref l) (Value.ref b)) Q E s:=by
 obtain⟨⟨cls,dd,data,sl⟩,ho,hc,n,hd⟩:=id hl
 obtain⟨⟨cls2,dd2,data2,sl2⟩,ho2,hc2,n2,hd2⟩:=id hb
 have hc:cls=.type "list":=hc
 have hd:data=.seq items n:=hd
 have hc2:cls2=.type "list":=hc2
 have hd2:data2=.seq items2 n2:=hd2
 subst hc hd hc2 hd2
 show wpAny (model prog w) A (richCompare CmpOp.NotEq (Value.ref l) (Value.ref b)) Q E s
 refine richCompare_meets_room ⟨_,ho,rfl⟩ ⟨_,ho2,rfl⟩ F.slot_list_ne F.entry_list_ne (F.args_list_ne_2 _ _) (SeqAt.list_ne_lengthsAt l b items items2 n n2 dd dd2 sl sl2 hsz) ⟨ho,ho2,?_⟩ hu
 exact⟨(fun x=>nomatch x),h⟩
section
variable {X:Cx}
def Bm (neg:Bool):V->V->Hp->VK->Prop:=fun x y H Q=>∃p xs ds d,y=.ref p/\H p=some (.tup xs)/\RepAll H xs ds/\Rep H x d/\PyData.canLayAll0 ds=true/\d.canLay0=true/\d.depth<=16/\Q (.bl (if neg then !(ds.any fun e=>PyData.eqv e d) else ds.any fun e=>PyData.eqv e d)) H
theorem n5 (hu:X.A.units+64<cLine):OpR X (compareOp .In) (Bm false):=by
 intro pins s σ H x y v u Q I rx ry h
 obtain⟨p,xs,ds,d,rfl,e,rs,r,cs,c,dp,q⟩:=h
 cases ry
 obtain⟨its,rv,pl,_⟩:=I.tuple (a:=p) (xs:=xs) (.of e)
 obtain⟨bs,zx⟩:=r.reads I.hok rx
 refine SeqAt.in_tupleAt (fun u=>PyData.eqv (SeqAt.readOf s.heap u) d) pl (fun w hw=>iF (x:=x) I.hok zx c (by show X.A.units+1+d.depth<cLine;omega) rs rv cs w (by simpa using hw)) ⟨.bl _,H,I,rfl,?_⟩
 rw[show its.toArray.any (fun u=>PyData.eqv (SeqAt.readOf s.heap u) d)=its.any (fun u=>PyData.eqv (SeqAt.readOf s.heap u) d) by simp,iL I.hok rs rv cs]
 exact q
end
end L2
set_option maxHeartbeats 4000000
namespace L2
open PySem PySem.Spec PyProof.Rows
def Hd (N:Addr->Prop) (H:Hp):Prop:=∀l,H l=none->N l
def qG (G:Hp->V->Prop):Prop:=∀H H' x,Same H H'->G H x->G H' x
section
variable {prog:Program}{w:World}{A:Around}{E:Value->Shared->Prop}{s:Shared}
abbrev zq1 (h:Heap) (l:Addr):Heap:=h.push { cls:=.type "tuple_iterator",data:=.fields #[.ref l,.int 0 0] }
abbrev zq2 (h:Heap) (l m:Addr):Heap:=(zq1 h l).push { cls:=.type "list_iterator",data:=.fields #[.ref m,.int 0 0] }
abbrev zq3 (h:Heap) (l m:Addr):Heap:=(zq2 h l m).push { cls:=.type "tuple",data:=.seq #[.ref h.objs.size,.ref (zq1 h l).objs.size] }
abbrev zq4 (h:Heap) (l m:Addr):Heap:=(zq3 h l m).push { cls:=.type "tuple",data:=.seq #[.none,.none] }
abbrev zq5 (h:Heap) (l m:Addr):Heap:=(zq4 h l m).push { cls:=.type "zip",data:=.fields #[.none,.bool false,.bool false,.ref (zq2 h l m).objs.size,.ref (zq3 h l m).objs.size] }
theorem ud (l m:Addr) (xs ys:Array Value):Meets (Builtin.«zip.__new__» ⟨[.type "zip",.ref l,.ref m],[]⟩) (fun _ R s=>s.heap.IsTuple l xs/\s.heap.IsList m ys/\R (.ok (.ret (.ref (zq4 s.heap l m).objs.size))) { s with heap:=zq5 s.heap l m }) :=
 .of_wp fun prog w A R s h=>by
  obtain⟨h0,g0,d0,t0,os0⟩:=s
  obtain⟨hl,hm,h⟩:=h
  have hsub:=sub_zip
  have e1:Heap.IsTuple (Shared.heap ⟨h0,g0,d0,t0,os0⟩) l xs:=hl
  have e2:Heap.IsList (Shared.heap ⟨zq1 h0 l,g0,d0,t0,os0⟩) m ys:=Heap.IsList.push hm _
  wp_walk using bI e1,wpAny_pyIter_list e2
  exact⟨_,rfl,h⟩
theorem uZ {l m:Addr}{xs ys:Array Value}{Q:Value -> Shared -> Prop}(hl:s.heap.IsTuple l xs) (hm:s.heap.IsList m ys)
    (h:∀h',Zp h' (s.heap.objs.size+4) (s.heap.objs.size+2) (s.heap.objs.size+3) .none false->IsPair h' (s.heap.objs.size+2) (.ref s.heap.objs.size) (.ref (s.heap.objs.size+1))->IsPair h' (s.heap.objs.size+3) .none .none ->
     h'.IsTupleIter s.heap.objs.size l 0->h'.IsListIter (s.heap.objs.size+1) m 0->(∀c o,s.heap.get? c=some o->h'.get? c=some o)->Q (.ref (s.heap.objs.size+4)) { s with heap:=h' }) :
    wpAny (model prog w) A (call (.type "zip") [.ref l,.ref m]) Q E s:=by
 have a1:(zq1 s.heap l).objs.size=s.heap.objs.size+1:=bv ..
 have a2:(zq2 s.heap l m).objs.size=s.heap.objs.size+2:=(bv ..).trans (by rw[a1])
 have a3:(zq3 s.heap l m).objs.size=s.heap.objs.size+3:=(bv ..).trans (by rw[a2])
 have a4:(zq4 s.heap l m).objs.size=s.heap.objs.size+4:=(bv ..).trans (by rw[a3])
 have k5:∀ {c:Addr} {o:Obj},(zq4 s.heap l m).get? c=some o->(zq5 s.heap l m).get? c=some o:=fun q=>ai _ q
 have k4:∀ {c:Addr} {o:Obj},(zq3 s.heap l m).get? c=some o->(zq5 s.heap l m).get? c=some o:=fun q=>k5 (ai _ q)
 have k3:∀ {c:Addr} {o:Obj},(zq2 s.heap l m).get? c=some o->(zq5 s.heap l m).get? c=some o:=fun q=>k4 (ai _ q)
 have k2:∀ {c:Addr} {o:Obj},(zq1 s.heap l).get? c=some o->(zq5 s.heap l m).get? c=some o:=fun q=>k3 (ai _ q)
 have b5:(zq5 s.heap l m).get? (zq4 s.heap l m).objs.size=some { cls:=.type "zip",data:=.fields #[.none,.bool false,.bool false,.ref (zq2 s.heap l m).objs.size,.ref (zq3 s.heap l m).objs.size] }:=aA _ rfl
 have b4:=k5 (aA (zq3 s.heap l m) (o:={ cls:=.type "tuple",data:=.seq #[.none,.none] }) rfl)
 have b3:=k4 (aA (zq2 s.heap l m) (o:={ cls:=.type "tuple",data:=.seq #[.ref s.heap.objs.size,.ref (zq1 s.heap l).objs.size] }) rfl)
 have b2:=k3 (aA (zq1 s.heap l) (o:={ cls:=.type "list_iterator",data:=.fields #[.ref m,.int 0 0] }) rfl)
 have b1:=k2 (aA s.heap (o:={ cls:=.type "tuple_iterator",data:=.fields #[.ref l,.int 0 0] }) rfl)
 rw[a2,a3,a4] at b5
 rw[a3] at b4
 rw[a1,a2] at b3
 rw[a1] at b2
 refine callType_new F.called_zip (by decide) (F.typeCall_zip_2 _ _) (F.newCall_zip_2 _ _) (fun ob=>F.args_object_init_3 ob _ _) F.entry_zip_new (ud l m xs ys) ⟨hl,hm,?_⟩
 show _/\_
 rw[a4]
 exact⟨⟨_,b5,rfl⟩,h _ b5 b3 b4 ⟨_,b1,rfl,rfl⟩ ⟨_,b2,rfl,rfl⟩ fun c o q=>k2 (ai _ q)⟩
end
def qy (K:W.Frag) (a b:Addr):It :=
 ⟨fun i H=>∃xs ys x y,SqT K H a xs/\SqL K H b ys/\xs[i]? = some x/\ys[i]? = some y,
  fun i H v H'=>∃p x y,H p=none/\v=.ref p/\(∀xs,SqT K H a xs->xs[i]? = some x)/\(∀ys,SqL K H b ys->ys[i]? = some y)/\H'=upd H p (.tup [x,y]),
  fun i H=>∃xs ys,SqT K H a xs/\SqL K H b ys/\(xs.length<=i∨ys.length<=i)⟩
def gH (ks:List Str) (ys:List V):List (Key × V):=(ks.map Sum.inr).zip ys
theorem uK {kvs:List (Key × V)}{k:Key}{v:V}(h:k∉kvs.map (·.1)):dE kvs k v=kvs++[(k,v)]:=by
 unfold dE
 rw[if_neg]
 intro z
 obtain⟨kv,hm,e⟩:=ck.mp z
 exact h (ao.mpr ⟨kv,hm,aM e⟩)
theorem zt:∀(ks:List Str) (ys:List V), ks.Nodup -> mkK (gH ks ys)=gH ks ys := by
 have key:∀(ks:List Str) (ys:List V) (m:List (Key × V)), ks.Nodup -> (∀k ∈ ks, (Sum.inr k:Key) ∉ m.map (·.1)) -> (gH ks ys).foldl (fun m q => dE m q.1 q.2) m=m ++ gH ks ys := by
  intro ks
  induction ks with
  | nil=>intro ys m _ _;unfold gH;simp
  | cons k ks ih =>
   intro ys m nd hm
   cases ys with
   | nil=>unfold gH;simp
   | cons y ys =>
    obtain⟨h1,h2⟩:=ba.mp nd
    have e:gH (k::ks) (y::ys)=(.inr k,y)::gH ks ys:=rfl
    rw[e,List.foldl_cons]
    show List.foldl _ (dE m (.inr k) y) _=_
    rw[uK (hm k (by simp)),ih ys _ h2 (fun x hx=>?_)]
    ·simp
    ·rw[aj,aH]
     rintro (z | z)
     ·exact hm x (aK _ hx) z
     ·have:(Sum.inr x:Key)=Sum.inr k:=by simpa using z
      exact h1 (Sum.inr.inj this ▸ hx)
 intro ks ys nd
 unfold mkK
 rw[key ks ys [] nd (fun k _ h=>by cases h)]
 rfl
theorem qW:∀ {ks:List Str}{ys:List V}{i:Nat}{k:Str}{y:V},ks.Nodup->ks[i]? = some k->ys[i]? = some y->dg (gH ks ys) (.inr k)=some y
 | [],_,_,_,_,_,h,_=>by simp at h
 | k::ks,[],_,_,_,_,_,h=>by simp at h
 | k::ks,y::ys,0,k',y',nd,h1,h2=>by
  have e1:k=k':=by simpa using h1
  have e2:y=y':=by simpa using h2
  subst e1 e2
  exact fm (p:=(Sum.inr k,y)) rfl
 | k::ks,y::ys,i+1,k',y',nd,h1,h2=>by
  obtain⟨n1,n2⟩:=ba.mp nd
  have h1:ks[i]? = some k':=by simpa using h1
  have h2:ys[i]? = some y':=by simpa using h2
  have ne:¬ (Sum.inr k:Key)=Sum.inr k':=fun z=>n1 (by rw[Sum.inr.inj z];exact au h1)
  show dg ((Sum.inr k,y)::gH ks ys) _=_
  rw[fi ne]
  exact qW n2 h1 h2
theorem once {G T:Prop}(m:T->G) (t:T):G:=m t
end L2
namespace MG
def mx:List Int->Int
 | []=>0
 | x::l=>max x (mx l)
def dp (es:List (Nat × Nat)) (W:Nat->Int):Nat->Nat->Int
 | 0,_=>0
 | k+1,v=>W v+mx ((es.filter fun e=>decide (e.2=v)).map fun e=>dp es W k e.1)
end MG
namespace L2
open PySem PySem.Spec PyProof.Rows
section
variable {prog:Program}{w:World}{A:Around}{E:Value->Shared->Prop}{s:Shared}
abbrev mw (h:Heap) (l:Addr):Heap:=h.push { cls:=.type "tuple_iterator",data:=.fields #[.ref l,.int 0 0] }
abbrev oq (h:Heap) (l m:Addr):Heap:=(mw h l).push { cls:=.type "tuple_iterator",data:=.fields #[.ref m,.int 0 0] }
abbrev ol (h:Heap) (l m:Addr):Heap:=(oq h l m).push { cls:=.type "tuple",data:=.seq #[.ref h.objs.size,.ref (mw h l).objs.size] }
abbrev qP (h:Heap) (l m:Addr):Heap:=(ol h l m).push { cls:=.type "tuple",data:=.seq #[.none,.none] }
abbrev oB (h:Heap) (l m:Addr):Heap:=(qP h l m).push { cls:=.type "zip",data:=.fields #[.none,.bool false,.bool false,.ref (oq h l m).objs.size,.ref (ol h l m).objs.size] }
theorem q5 (l m:Addr) (xs ys:Array Value):Meets (Builtin.«zip.__new__» ⟨[.type "zip",.ref l,.ref m],[]⟩) (fun _ R s=>s.heap.IsTuple l xs/\s.heap.IsTuple m ys/\R (.ok (.ret (.ref (qP s.heap l m).objs.size))) { s with heap:=oB s.heap l m }) :=
 .of_wp fun prog w A R s h=>by
  obtain⟨h0,g0,d0,t0,os0⟩:=s
  obtain⟨hl,hm,h⟩:=h
  have hsub:=sub_zip
  have e1:Heap.IsTuple (Shared.heap ⟨h0,g0,d0,t0,os0⟩) l xs:=hl
  have e2:Heap.IsTuple (Shared.heap ⟨mw h0 l,g0,d0,t0,os0⟩) m ys:=Heap.IsTuple.push hm _
  wp_walk using bI e1,bI e2
  exact⟨_,rfl,h⟩
theorem tM {l m:Addr}{xs ys:Array Value}{Q:Value -> Shared -> Prop}(hl:s.heap.IsTuple l xs) (hm:s.heap.IsTuple m ys)
    (h:∀h',Zp h' (s.heap.objs.size+4) (s.heap.objs.size+2) (s.heap.objs.size+3) .none false->IsPair h' (s.heap.objs.size+2) (.ref s.heap.objs.size) (.ref (s.heap.objs.size+1))->IsPair h' (s.heap.objs.size+3) .none .none ->
     h'.IsTupleIter s.heap.objs.size l 0->h'.IsTupleIter (s.heap.objs.size+1) m 0->(∀c o,s.heap.get? c=some o->h'.get? c=some o)->Q (.ref (s.heap.objs.size+4)) { s with heap:=h' }) :
    wpAny (model prog w) A (call (.type "zip") [.ref l,.ref m]) Q E s:=by
 have a1:(mw s.heap l).objs.size=s.heap.objs.size+1:=bv ..
 have a2:(oq s.heap l m).objs.size=s.heap.objs.size+2:=(bv ..).trans (by rw[a1])
 have a3:(ol s.heap l m).objs.size=s.heap.objs.size+3:=(bv ..).trans (by rw[a2])
 have a4:(qP s.heap l m).objs.size=s.heap.objs.size+4:=(bv ..).trans (by rw[a3])
 have k5:∀ {c:Addr} {o:Obj},(qP s.heap l m).get? c=some o->(oB s.heap l m).get? c=some o:=fun q=>ai _ q
 have k4:∀ {c:Addr} {o:Obj},(ol s.heap l m).get? c=some o->(oB s.heap l m).get? c=some o:=fun q=>k5 (ai _ q)
 have k3:∀ {c:Addr} {o:Obj},(oq s.heap l m).get? c=some o->(oB s.heap l m).get? c=some o:=fun q=>k4 (ai _ q)
 have k2:∀ {c:Addr} {o:Obj},(mw s.heap l).get? c=some o->(oB s.heap l m).get? c=some o:=fun q=>k3 (ai _ q)
 have b5:(oB s.heap l m).get? (qP s.heap l m).objs.size=some { cls:=.type "zip",data:=.fields #[.none,.bool false,.bool false,.ref (oq s.heap l m).objs.size,.ref (ol s.heap l m).objs.size] }:=aA _ rfl
 have b4:=k5 (aA (ol s.heap l m) (o:={ cls:=.type "tuple",data:=.seq #[.none,.none] }) rfl)
 have b3:=k4 (aA (oq s.heap l m) (o:={ cls:=.type "tuple",data:=.seq #[.ref s.heap.objs.size,.ref (mw s.heap l).objs.size] }) rfl)
 have b2:=k3 (aA (mw s.heap l) (o:={ cls:=.type "tuple_iterator",data:=.fields #[.ref m,.int 0 0] }) rfl)
 have b1:=k2 (aA s.heap (o:={ cls:=.type "tuple_iterator",data:=.fields #[.ref l,.int 0 0] }) rfl)
 rw[a2,a3,a4] at b5
 rw[a3] at b4
 rw[a1,a2] at b3
 rw[a1] at b2
 refine callType_new F.called_zip (by decide) (F.typeCall_zip_2 _ _) (F.newCall_zip_2 _ _) (fun ob=>F.args_object_init_3 ob _ _) F.entry_zip_new (q5 l m xs ys) ⟨hl,hm,?_⟩
 show _/\_
 rw[a4]
 exact⟨⟨_,b5,rfl⟩,h _ b5 b3 b4 ⟨_,b1,rfl,rfl⟩ ⟨_,b2,rfl,rfl⟩ fun c o q=>k2 (ai _ q)⟩
end
def tV (K:W.Frag) (a b:Addr):It :=
 ⟨fun i H=>∃xs ys x y,SqT K H a xs/\SqT K H b ys/\xs[i]? = some x/\ys[i]? = some y,
  fun i H v H'=>∃p x y,H p=none/\v=.ref p/\(∀xs,SqT K H a xs->xs[i]? = some x)/\(∀ys,SqT K H b ys->ys[i]? = some y)/\H'=upd H p (.tup [x,y]),
  fun i H=>∃xs ys,SqT K H a xs/\SqT K H b ys/\(xs.length<=i∨ys.length<=i)⟩
section
variable {X:Cx}
def Av (K:W.Frag):R2:=fun x y H Q=>∃a b xs ys,x=.ref a/\y=.ref b/\SqT K H a xs/\SqT K H b ys/\xs.length+ys.length<=sizeLine /\
 (xs=[]->Q (.ref b) H)/\(xs≠[]->ys=[]->Q (.ref a) H)/\(xs≠[]->ys≠[]->∀p,H p=none->Q (.ref p) (upd H p (.tup (xs++ys))))
theorem wN (K:W.Frag) (hK:X.K=K:=by rfl):OpR X (binaryOp .Add) (Av K):=by
 subst hK
 intro pins s σ H x y v u Q I rx ry h
 obtain⟨a,b,xs,ys,rfl,rfl,ha,hb,hz,q0,q1,q2⟩:=h
 by_cases hx:xs=[]
 ·cases rx
  cases ry
  obtain⟨its,r1,p1,_⟩:=I.tuple ha
  obtain⟨its2,r2,p2,_⟩:=I.tuple hb
  have e1:its=[]:=r1.nil_iff.mpr hx
  obtain⟨⟨cls,dd,data,sl⟩,ho,hc,n,hd⟩:=id p1
  obtain⟨⟨cls2,dd2,data2,sl2⟩,ho2,hc2,n2,hd2⟩:=id p2
  simp only at hc hd hc2 hd2
  subst hc hd hc2 hd2
  exact concat_meets ⟨_,ho,rfl⟩ ⟨_,ho2,rfl⟩ noFill_tuple_add seq_tuple_add F.slot_tuple_add F.entry_tuple_add (F.args_tuple_add_2 _ _) (tuple_addW0 a b its.toArray its2.toArray n n2 dd dd2 sl sl2 (by simp[e1])) ⟨ho,ho2,⟨.ref b,H,I,rfl,q0 hx⟩⟩
 ·exact zd pins s σ H _ _ v u Q I rx ry ⟨a,b,xs,ys,rfl,rfl,ha,hb,hx,hz,q1 hx,q2 hx⟩
end
section
variable {prog:Program}{w:World}{A:Around}{E:Value->Shared->Prop}{s:Shared}
theorem zK {elts:List Expr}{x1}{pos:Pos}{z TI TO T:Addr}{f0:Value}{f1:Bool}{Q:Unit->Shared->Prop}(hf:F0 f0) (hz:Zp s.heap z TI TO f0 f1)
    (hQ:∀h' f0',F0 f0'->Zp h' z TI TO f0' f1->Heap.SameBut z s.heap h'->Q () { s with heap:=h' }):wpAny (model prog w) A (letOwnedTupleGo (.Tuple elts x1 pos) (.ref z) (.ref T)) Q E s:=by
 unfold letOwnedTupleGo
 refine aa (wpAny_load hz ?_)
 show wpAny _ A (if (["enumerate","zip","dict_itemiterator","dict_reverseitemiterator","odict_iterator","itertools.zip_longest","itertools.pairwise"].contains "zip"&&_)=true then _ else _) Q E s
 split
 ·refine aa (wpAny_rule ?_)
  show wpAny _ A (setField (.ref z) 0 .none) Q E s
  exact bP hz (by simp) fun h' hz' sb=>hQ h' _ (.inl rfl) hz' sb
 ·exact af (hQ s.heap f0 hf hz (Heap.SameBut.refl _ _))
end
theorem mQ {t1 t2:Bool}{P:Program}{w:World}{K:W.Frag}{elts:List Expr}{x1}{tp:Pos}(a b z TI TO i1 i2:Addr) (D:ZipApart z TI TO i1 i2 a b) :
    Turn P w K (.Tuple elts x1 tp) (Itg t1 t2 K a b) [z,TI,TO,i1,i2] z (fun i h=>(∃f0 f1,F0 f0/\Zp h z TI TO f0 f1)/\IsPair h TI (.ref i1) (.ref i2)/\(∃c d,IsPair h TO c d)/\ItI t1 h i1 a i/\ItI t2 h i2 b i):=by
 have T:=ph (t1:=t1) (t2:=t2) (P:=P) (w:=w) (K:=K) (nm:="x") (tp:=tp) a b z TI TO i1 i2 D
 refine⟨T.mem,T.obj,T.keep,?_,T.done,T.self⟩
 intro X hP hw hK hc i pins s σ H E I hf st hg
 refine thn (T.item X hP hw hK hc i pins s σ H E I hf st hg) fun r s1 ⟨u,hr,h⟩=>⟨u,hr,?_⟩
 have key:wpAny (model P w) X.A (letOwnedTupleGo (.Name "x" tp) (.ref z) u >>= fun _=>letOwnedTupleGo (.Tuple elts x1 tp) (.ref z) u) (fun _ s2=>∃x H',Inv X pins σ H' s2/\RelV x u/\(Itg t1 t2 K a b).yld i H x H'/\((∃f0 f1,F0 f0/\Zp s2.heap z TI TO f0 f1)/\IsPair s2.heap TI (.ref i1) (.ref i2)/\(∃c d,IsPair s2.heap TO c d)/\ItI t1 s2.heap i1 a (i+1)/\ItI t2 s2.heap i2 b (i+1))/\∀c∈[z,TI,TO,i1,i2],H' c=none) E s1:=by
  refine aa (thn h fun _ s2 ⟨x,H',I',rx,yl,tn,hn⟩=>?_)
  obtain⟨p,x0,y0,hp,rfl,hx0,hy0,rfl⟩:=id yl
  cases rx
  obtain⟨⟨f0,f1,hf0,hz⟩,hTI,⟨ta,tb,hTO⟩,h1,h2⟩:=tn
  refine zK hf0 hz fun h' f0' hf' hz' sb=>?_
  have kk:∀c o,c≠z->s2.heap.get? c=some o->h'.get? c=some o:=fun c o n e=>sb.extBut c o n e
  have nz:∀c o,upd H p (.tup [x0,y0]) c=some o->c≠z:=fun c o q e=>by rw[e,hn z (by simp)] at q;cases q
  refine⟨.ref p,_,?_,rfl,yl,⟨⟨f0',f1,hf',hz'⟩,kk _ _ D.TIz hTI,⟨ta,tb,kk _ _ D.TOz hTO⟩,h1.at fun o e=>kk _ o D.i1z e,h2.at fun o e=>kk _ o D.i2z e⟩,hn⟩
  have k1:∀c o,c∉[z]->s2.heap.get? c=some o->h'.get? c=some o:=fun c o n e=>kk c o (fun q=>n (by simp[q])) e
  refine I'.step (h':=h') (g':=s2.gens) (d':=s2.drawn) (t':=s2.toks) (ch:=[z]) (fun c hc=>?_) (fun c o _ _ n q _=>k1 c o n q) (fun c o _ _ n q _=>⟨o.slots,k1 c o n q⟩) (fun c o _ q n=>n) (fun c o n q=>⟨o,k1 c o n q⟩) (fun c ys q=>q) (fun c o v q=>q) (fun c ps q=>⟨#[],by rw[q];simp⟩) (fun m hm=>?_) (fun c o q=>?_) I'.bare
  ·have hc:c=z:=by simpa using hc
   subst hc
   obtain⟨_,g1,_,g3,g4,g5⟩:=hf c (by simp)
   exact⟨g3,g1,g4,g5⟩
  ·obtain⟨o,es,ep,ho,r⟩:=hm
   refine⟨o,es,ep,k1 _ o (fun n=>?_) ho,r⟩
   exact(hf _ (by rw[aO.mp n];simp)).2.1 rfl
  ·refine(I'.hok c o q).stay (fun d o' hd q'=>?_) (fun d q=>q) fun d ys q=>q
   rcases hd with e | e
   ·rw[e] at q' ⊢;exact kk c o' (nz c o q) q'
   ·exact kk d o' (nz d _ e) q'
 exact key
theorem zB {K:W.Frag}{a b:Addr}{xs ys:List V}{g:TG}{tb:TS}{D:Ends}{σ:St}{H:Hp}(Pv:Nat -> St -> Hp -> Prop) (h0:Pv 0 σ H) (hl:∀i σ H, i <= (xs.zip ys).length -> Pv i σ H -> SqL K H a xs /\ SqL K H b ys)
    (hs:∀i x y p σ H,(xs.zip ys)[i]? = some (x,y)->Pv i σ H->H p=none->g (.ref p) σ (upd H p (.tup [x,y])) fun σ2 H2=>tb { D with nx:=Pv (i+1),ct:=Pv (i+1),bk:=D.nx } σ2 H2) (hd:∀σ H,Pv (xs.zip ys).length σ H->D.nx σ H) :
    ∃W:Nat->Nat->St->Hp->Prop,(∃m,W 0 m σ H)/\∀i m σ H,W i m σ H ->
     ((Itz K a b).stop i H/\D.nx σ H)∨((Itz K a b).go i H/\∃N:St->Hp->Prop,(∀σ' H',N σ' H'->∃m',m'<m/\W (i+1) m' σ' H')/\∀x H',(Itz K a b).yld i H x H'->g x σ H' fun σ2 H2=>tb { D with nx:=N,ct:=N,bk:=D.nx } σ2 H2):=by
 refine⟨fun i m σ H=>m=(xs.zip ys).length-i/\i<=(xs.zip ys).length/\Pv i σ H,⟨(xs.zip ys).length,by simp,aP _,h0⟩,?_⟩
 rintro i m σ H ⟨rfl,hi,p⟩
 obtain⟨qa,qb⟩:=hl i σ H hi p
 have hlz:(xs.zip ys).length=min xs.length ys.length:=bx
 by_cases hlt:i<(xs.zip ys).length
 ·have h1:i<xs.length:=by omega
  have h2:i<ys.length:=by omega
  refine .inr ⟨⟨xs,ys,xs[i],ys[i],qa,qb,aV h1,aV h2⟩,Pv (i+1),fun σ' H' q=>⟨(xs.zip ys).length-(i+1),by omega,rfl,by omega,q⟩,?_⟩
  rintro x H' ⟨q,u,v,hq,rfl,hu,hv,rfl⟩
  exact hs i u v q σ H (by rw[bq];exact⟨hu xs qa,hv ys qb⟩) p hq
 ·have e:i=(xs.zip ys).length:=by omega
  refine .inl ⟨⟨xs,ys,qa,qb,by omega⟩,hd σ H (e ▸ p)⟩
def XF (B:Heap) (l:List Env) (a:Addr) (c:Value) (dd:Option Addr) (fl:Value) (h:Heap):Prop :=
 B.StaysIn h/\B.get? a=none/\h.FunFrames B l/\∃o vs T p ts,h.get? a=some o/\o.cls=c/\o.dict=dd/\o.data=.fields vs/\vs[1]? = some (.ref T)/\B.get? T=none/\T≠a/\h.get? T=some p/\p.data=.fields ts/\ts[3]? = some fl
theorem XF.there {B:Heap}{l:List Env}{a:Addr}{c fl:Value}{dd:Option Addr}{h:Heap}(x:XF B l a c dd fl h):∃o,h.get? a=some o/\o.cls=c/\o.dict=dd:=by
 obtain⟨_,_,_,o,_,_,_,_,e,k1,k2,_⟩:=x
 exact⟨o,e,k1,k2⟩
theorem XF.rec {B:Heap}{l:List Env}{a:Addr}{c fl:Value}{dd:Option Addr}{h:Heap}(x:XF B l a c dd fl h):∃o vs,h.get? a=some o/\o.data=.fields vs:=by
 obtain⟨_,_,_,o,vs,_,_,_,e,_,_,k,_⟩:=x
 exact⟨o,vs,e,k⟩
theorem XF.out {B:Heap}{e0:Env}{l:List Env}{a:Addr}{c fl:Value}{dd:Option Addr}{h:Heap}(x:XF B (e0::l) a c dd fl h):XF B l a c dd fl h:=⟨x.1,x.2.1,x.2.2.1.2.2,x.2.2.2⟩
theorem yc (f:Array Value->Array Value) (o:Obj):(Obj.mapFields f o).dict=o.dict:=by
 unfold Obj.mapFields
 split <;> rfl
section
variable {M:Model}{A:Around}{E:Value->Shared->Prop}{s:Shared}{B:Heap}{e0:Env}{out:List Env}{a L:Addr}{Q:Unit->Shared->Prop}
theorem uB {o:Obj}{vs:Array Value}{hd:Value}{b0:Bool}(fr:A.frames=some (e0 :: out)) (ff:s.heap.FunFrames B (e0 :: out)) (fL:e0.frame=some L) (ea:s.heap.get? a=some o) (st:B.StaysIn s.heap) (na:B.get? a=none) (dv:o.data=.fields vs) (n1:1<vs.size)
    (k:∀h',XF B (e0::out) a o.cls o.dict (rawInt L) h'->s.heap.UpToSlots h'->Q () { s with heap:=h' }) :
    wpAny M A (do let f ← frameOf e0;let pl ← entryPlaceOf L b0;let b ← EntryCells.newEntry hd f .none (rawInt L) .none pl;setField (.ref a) 1 b) Q E s:=by
 have nf:a∉(e0::out).filterMap (·.frame):=fun z=>by
  obtain⟨_,p,ep,q⟩:=ff.mem z
  exact q vs (am (ea.symm.trans ep) ▸ dv)
 refine aa (wpAny_frameOf_fun fr ff fL fun g1 so=>aa (wpAny_entryPlaceOf fun pl ip=>?_))
 unfold EntryCells.newEntry newFields
 refine aa (wpAny_newObj_type ?_ (ip.sizeOk5 _ _ _ _ _))
 generalize ep:([hd,Value.ref L,Value.none,rawInt L,Value.none]++(if pl.isEmpty then List.replicate 6 Value.none else pl)).toArray=tv
 have t3:tv[3]? = some (rawInt L):=by rw[<- ep];first | (simp;done) | (rcases ip with rfl | ⟨_,_,_,_,_,_,_,rfl⟩ <;> simp)
 have e1:g1.get? a=some o:=(so.2.1 a nf).trans ea
 have e2:=ai (h:=g1) { cls:=.type "traceback",dict:=none,data:=.fields tv } e1
 have nT:g1.objs.size≠a:=bL (ag e1)
 have dm:=Obj.data_mapFields dv (·.setIfInBounds 1 (Value.ref g1.objs.size))
 have ot:∀b p,b≠a->g1.get? b=some p->((g1.push { cls:=.type "traceback",dict:=none,data:=.fields tv }).update a (Obj.mapFields (·.setIfInBounds 1 (Value.ref g1.objs.size)))).get? b=some p:=fun b p nb eb=>by
  rw[cq _ _ (Ne.symm nb)]
  exact ai _ eb
 have up:s.heap.UpToSlots ((g1.push { cls:=.type "traceback",dict:=none,data:=.fields tv }).update a (Obj.mapFields (·.setIfInBounds 1 (Value.ref g1.objs.size)))):=fun b p eb q=>by
  obtain⟨sl,es⟩:=so.2.2 b p eb
  exact⟨sl,ot b _ (fun z=>q vs (am (ea.symm.trans (z ▸ eb)) ▸ dv)) es⟩
 refine wpAny_setField e2 dv n1 (k _ ?_ ?_)
 ·have sg:B.StaysIn g1:=fun b p eb=>(so.2.1 b fun z=>by have:=(ff.mem z).1;rw[eb] at this;cases this).trans (st b p eb)
  refine⟨fun b p eb=>ot b p (fun z=>by rw[z,na] at eb;cases eb) (sg b p eb),na,ff.of_keeps fun b p eb q=>?_,_,_,g1.objs.size,{ cls:=.type "traceback",dict:=none,data:=.fields tv },tv,ci _ e2 (Obj.isFreed_of_fields dm),Obj.cls_mapFields _ _,yc _ _,dm,by simp[n1],sg.fresh,nT,?_,rfl,t3⟩
  ·obtain⟨sl,es⟩:=up b p eb q
   exact⟨_,es,rfl⟩
  ·rw[cq _ _ (Ne.symm nT)]
   exact aA g1 rfl
 ·exact up
theorem rX {c fl x:Value}{dd:Option Addr}{l:List Env}(X:XF B l a c dd fl s.heap):∃T p ts,(∀h',h'=s.heap.update T (Obj.mapFields (·.setIfInBounds 3 x))->XF B l a c dd x h'/\s.heap.UpToSlots h') /\
    s.heap.get? T=some p/\p.data=.fields ts/\ts[3]? = some fl/\∃o vs,s.heap.get? a=some o/\o.data=.fields vs/\vs[1]? = some (.ref T):=by
 obtain⟨st,na,ff,o,vs,T,p,ts,ea,k1,k2,dv,v1,nT,ne,eT,dT,t3⟩:=X
 have l3:3<ts.size:=(cr.mp t3).1
 refine⟨T,p,ts,fun h' e=>?_,eT,dT,t3,o,vs,ea,dv,v1⟩
 have ot:∀b,b≠T->h'.get? b=s.heap.get? b:=fun b nb=>by rw[e];exact cq _ _ (Ne.symm nb)
 have up:s.heap.UpToSlots h':=fun b u eb q=>⟨u.slots,(ot b fun z=>q ts (am (eT.symm.trans (z ▸ eb)) ▸ dT)).trans eb⟩
 refine⟨⟨fun b u eb=>(ot b fun z=>by rw[z,nT] at eb;cases eb).trans (st b u eb),na,ff.of_keeps fun b u eb q=>?_,o,vs,T,Obj.mapFields (·.setIfInBounds 3 x) p,ts.setIfInBounds 3 x,(ot a (Ne.symm ne)).trans ea,k1,k2,dv,v1,nT,ne,?_,Obj.data_mapFields dT _,by simp[l3]⟩,up⟩
 ·obtain⟨sl,es⟩:=up b u eb q
  exact⟨_,es,rfl⟩
 ·rw[e]
  exact ci _ eT (Obj.isFreed_of_fields (Obj.data_mapFields dT _))
theorem pL {c fl:Value}{dd:Option Addr}{l:List Env}(X:XF B l a c dd fl s.heap) (k:∀h',XF B l a c dd .none h'->s.heap.UpToSlots h'->Q () { s with heap:=h' }):wpAny M A (setFlight (.ref a) none) Q E s:=by
 obtain⟨T,p,ts,z,eT,dT,t3,o,vs,ea,dv,v1⟩:=rX (x:=.none) X
 unfold setFlight
 refine aa (aU ea dv v1 ?_)
 rw[if_pos (show (Value.ref T != Value.none)=true by simp)]
 obtain⟨z1,z2⟩:=z _ rfl
 exact wpAny_setField eT dT (cr.mp t3).1 (k _ z1 z2)
theorem yw {c:Value}{dd:Option Addr}(fr:A.frames=some (e0::out)) (fL:e0.frame=some L) (X:XF B (e0::out) a c dd .none s.heap)
    (k:∀h',XF B (e0::out) a c dd (rawInt L) h'->s.heap.UpToSlots h'->Q () { s with heap:=h' }):wpAny M A (noteFrame (.ref a) e0) Q E s:=by
 obtain⟨T,p,ts,z,eT,dT,t3,o,vs,ea,dv,v1⟩:=rX (x:=.none) X
 unfold noteFrame
 simp only[fL]
 refine aa (aU ea dv v1 ?_)
 rw[if_pos (show (Value.ref T != Value.none)=true by simp)]
 refine aa (aU eT dT t3 ?_)
 rw[if_neg (show ¬ ((Value.none==rawInt L)=true) by simp[rawInt])]
 obtain⟨z1,z2⟩:=z _ rfl
 refine aa (wpAny_setField eT dT (cr.mp t3).1 ?_)
 obtain⟨q1,q2,q3,o',vs',T',p',ts',g1,g2,g3,g4,g5,_⟩:=z1
 subst g2 g3
 exact uB (s:={ s with heap:=s.heap.update T (Obj.mapFields (·.setIfInBounds 3 Value.none)) }) fr q3 fL g1 q1 q2 g4 (cr.mp g5).1 fun h' x y=>k h' x (z2.trans y)
theorem zX {c:Value}{dd:Option Addr}(fr:A.frames=some (e0::out)) (fL:e0.frame=some L) (X:XF B (e0::out) a c dd .none s.heap)
    (k:∀h',XF B out a c dd .none h'->s.heap.UpToSlots h'->Q () { s with heap:=h' }):wpAny M A (leaving e0 (.ref a)) Q E s:=by
 unfold leaving
 refine aa (yw fr fL X fun h' x y=>?_)
 exact pL (s:={ s with heap:=h' }) x fun h2 x2 y2=>k h2 x2.out (y.trans y2)
theorem zi {o:Obj}{vs:Array Value}(fr:A.frames=some (e0::out)) (ff:s.heap.FunFrames B (e0::out)) (fL:e0.frame=some L) (ea:s.heap.get? a=some o) (st:B.StaysIn s.heap) (na:B.get? a=none) (dv:o.data=.fields vs) (v1:vs[1]? = some .none)
    (k:∀h',XF B out a o.cls o.dict .none h'->s.heap.UpToSlots h'->Q () { s with heap:=h' }):wpAny M A (leaving e0 (.ref a)) Q E s:=by
 unfold leaving noteFrame
 simp only[fL]
 refine aa (aa (aU ea dv v1 ?_))
 rw[if_neg (by decide)]
 refine uB fr ff fL ea st na dv (cr.mp v1).1 fun h' x y=>?_
 exact pL (s:={ s with heap:=h' }) x fun h2 x2 y2=>k h2 x2.out (y.trans y2)
end
theorem ObjOk.obj {P:Program}{w:World}{H:Hp}{h:Heap}{a:Addr}{o:HO}(x:ObjOk P w H h a o):∃ob,h.get? a=some ob:=by
 cases o with
 | lst xs=>obtain⟨_,_,_,_,e⟩:=x;exact⟨_,e⟩
 | tup xs=>obtain⟨_,_,_,ob,e,_⟩:=x;exact⟨_,e⟩
 | dK kvs=>obtain⟨_,_,_,_,o,_,_,e,_⟩:=x;exact⟨_,e⟩
 | dT kvs=>obtain⟨_,_,_,_,o,_,_,e,_⟩:=x;exact⟨_,e⟩
 | set S n=>obtain⟨o,_,_,_,e,_⟩:=x;exact⟨_,e⟩
 | ins C dx fs=>obtain⟨_,_,_,e,_⟩:=x;exact⟨_,e⟩
 | own y=>obtain⟨_,e⟩:=x;exact⟨_,e⟩
 | xd fs=>obtain⟨_,⟨_,_,_,e,_⟩,_⟩:=x;exact⟨_,e⟩
 | rng lo hi=>obtain⟨_,_,_,e⟩:=x;exact⟨_,e⟩
 | frz ob u=>obtain⟨e,_⟩:=x;exact⟨_,e⟩
 | tbl ps=>exact⟨_,(show h.get? a=some _ from x)⟩
 | met f y=>exact⟨_,(show h.get? a=some _ from x)⟩
 | ext φ=>obtain⟨_,e,_⟩:=x;exact e
def CX1 (P:Program) (w:World):CXT:=fun outer H s E e s' =>
 ∃(a:Addr) (cls:Value) (dd:Option Addr) (B:Heap) (H':Hp),e=.ref a/\s'.os=s.os/\AllBare s'.gens/\Un (frs outer) [] H H' s.heap s'.heap/\HOk P w H' s'.heap/\XF B outer a cls dd .none s'.heap/\H' a=none /\
  (∀b u,H' b=some u->∃o,s'.heap.get? b=some o/\B.get? b=some o)/\(∀b o,s.heap.get? b=some o->H b=none->b∉frs outer->B.get? b=some o)/\(∀b o,s.heap.get? b=some o->b∉frs outer->∃o',B.get? b=some o')/\E cls dd H'
theorem BI {P:Program}{w:World}{K:W.Frag}{mg:Str -> Option Value}{base:Heap}{N:List Str}{qual:Str}{scope:Scope}{f:Addr}{cd:Value}{A:Around}{outer:List Env}{s:Shared}{H:Hp}{E:XK} :
    kD (CX1 P w) (dQ (CX1 P w) P w K mg base N qual scope f cd A outer s H E) E:=by
 intro pins σ Hc sc e s' I h
 obtain⟨a,cls,dd,B,H',rfl,os,bare,un,hok,fl,hna,TB,KB,AB,q⟩:=h
 obtain⟨v,H2,J,_,rfl⟩:=I.after (Q:=fun _ H2=>H'=H2) (u:=.none) ⟨.non,H',os,bare,un,hok,rfl,rfl⟩
 show wpAny (model P w) (A.deeper (envOfC qual scope s.heap.objs.size f cd)) (leaving (envOfC qual scope s.heap.objs.size f cd) (.ref a)) (fun _ s''=>CX1 P w outer H s E (.ref a) s'') (fun e' s''=>CX1 P w outer H s E e' s'') s'
 refine zX (out:=outer) (L:=s.heap.objs.size) I.ok.frames rfl fl fun h2 x1 x2=>?_
 have old:∀b o,s.heap.get? b=some o->H b=none->b∉frs outer->B.get? b=some o:=fun b o q n hb=>by
  have e1:sc.heap.get? b=some o:=I.base.keep b o q n hb (by intro z;cases z)
  have e2:Hc b=none:=I.base.free b o q n (by intro z;cases z)
  refine KB b o e1 e2 fun z=>?_
  rcases aB.mp (I.stkSub b z) with r | r
  ·have r:b=s.heap.objs.size:=r
   exact absurd (r ▸ ag q) (bu _)
  ·exact hb r
 have notL:∀b o,s.heap.get? b=some o->b∉frs outer->b∉frs (envOfC qual scope s.heap.objs.size f cd::outer):=fun b o q hb z=>by
  rcases aB.mp (I.stkSub b z) with r | r
  ·have r:b=s.heap.objs.size:=r
   exact absurd (r ▸ ag q) (bu _)
  ·exact hb r
 have exi:∀b o,s.heap.get? b=some o->b∉frs outer->∃o',B.get? b=some o':=fun b o q hb=>by
  obtain⟨oc,ec⟩:=I.base.there b o q (by intro z;cases z)
  exact AB b oc ec (notL b o q hb)
 refine⟨a,cls,dd,B,H',rfl,J.os,bare,?_,fun c o e=>(hok c o e).stay (fun d u hd q'=>?_) (fun _ z=>z) fun _ _ z=>z,x1,hna,fun b u e=>?_,old,exi,q⟩
 ·refine⟨fun b o q n hb hx => x1.1 b o (old b o q n hb), fun b o q n hb hx => ?_, fun b o q n hx => J.base.free b o q n hx, fun b o q hx => ?_, J.base.tups, J.base.frzs, J.base.tbls⟩
  ·obtain⟨sl,e1⟩:=J.base.slot b o q n hb hx
   obtain⟨_,o1,g1,g2⟩:=(I.ok.funs.mem hb)
   have:o1=o:=am (g1.symm.trans q)
   subst this
   obtain⟨sl2,e2⟩:=x2 b _ e1 (by intro vs z;exact g2 vs z)
   exact⟨sl2,e2⟩
  ·by_cases hb:b∈frs outer
   ·obtain⟨_,o1,g1,_⟩:=x1.2.2.1.mem hb
    exact⟨_,g1⟩
   ·obtain⟨o',e1⟩:=exi b o q hb
    exact⟨o',x1.1 b o' e1⟩
 ·have tr:∃z,H' d=some z:=by
     rcases hd with r | r
     ·exact⟨_,r ▸ e⟩
     ·exact⟨_,r⟩
  obtain⟨z,hz⟩:=tr
  obtain⟨o1,e1,e2⟩:=TB d z hz
  have:u=o1:=am (q'.symm.trans e1)
  rw[this]
  exact x1.1 d o1 e2
 ·obtain⟨o1,e1,e2⟩:=TB b u e
  exact⟨o1,x1.1 b o1 e2,e2⟩
theorem AV {P:Program}{w:World}{K:W.Frag}{mg:Str -> Option Value}{base:Heap}{N:List Str}{qual:Str}{scope:Scope}{f:Addr}{cd:Value}{A:Around}{outer:List Env}{s:Shared}{H:Hp}{E:XK}{pins:List (Addr × Obj)}{σ:St}{H1:Hp}{s1:Shared}{e:Addr}{oe:Obj}{vs:Array Value}
    (I:Inv (dQ (CX1 P w) P w K mg base N qual scope f cd A outer s H E) pins σ H1 s1) (he:H1 e=none) (ge:s1.heap.get? e=some oe) (dv:oe.data=.fields vs) (v1:vs[1]? = some .none) (new:s.heap.get? e=none) (q:E oe.cls oe.dict H1) :
    (dQ (CX1 P w) P w K mg base N qual scope f cd A outer s H E).xe (.ref e) s1:=by
 show wpAny (model P w) (A.deeper (envOfC qual scope s.heap.objs.size f cd)) (leaving (envOfC qual scope s.heap.objs.size f cd) (.ref e)) (fun _ s''=>CX1 P w outer H s E (.ref e) s'') (fun e' s''=>CX1 P w outer H s E e' s'') s1
 have hin:∀env∈(envOfC qual scope s.heap.objs.size f cd::outer),∀b,env.frame=some b->b∈e::frs (envOfC qual scope s.heap.objs.size f cd::outer):=fun env he b hb=>aK _ (ce.mpr ⟨env,he,hb⟩)
 refine zi (B:=W.hideAll s1.heap (e::frs (envOfC qual scope s.heap.objs.size f cd::outer))) (out:=outer) (L:=s.heap.objs.size) I.ok.frames (W.funFrames_hide I.stack hin) rfl ge (fun b o z=>W.of_hideAll _ z) (W.hideAll_none _ (.head _)) dv v1 fun h2 x1 x4=>?_
 have trk:∀b u,H1 b=some u->∃o,s1.heap.get? b=some o/\(W.hideAll s1.heap (e::frs (envOfC qual scope s.heap.objs.size f cd::outer))).get? b=some o:=fun b u eb=>by
  obtain⟨o,ho⟩:=ObjOk.obj (I.hok b u eb)
  refine⟨o,ho,W.hideAll_get _ ho fun z=>?_⟩
  rcases aB.mp z with z | z
  ·rw[z,he] at eb;cases eb
  ·have:=I.stkFree b z
   rw[eb] at this;cases this
 have old:∀b o,s.heap.get? b=some o->H b=none->b∉frs outer->(W.hideAll s1.heap (e::frs (envOfC qual scope s.heap.objs.size f cd::outer))).get? b=some o:=fun b o z n hb=>by
  have e1:s1.heap.get? b=some o:=I.base.keep b o z n hb (by intro y;cases y)
  refine W.hideAll_get _ e1 fun y=>?_
  rcases aB.mp y with y | y
  ·rw[y,new] at z;cases z
  rcases aB.mp (I.stkSub b y) with r | r
  ·have r:b=s.heap.objs.size:=r
   exact absurd (r ▸ ag z) (bu _)
  ·exact hb r
 have exi:∀b o,s.heap.get? b=some o->b∉frs outer->∃o',(W.hideAll s1.heap (e::frs (envOfC qual scope s.heap.objs.size f cd::outer))).get? b=some o':=fun b o z hb=>by
  obtain⟨o1,e1⟩:=I.base.there b o z (by intro y;cases y)
  refine⟨o1,W.hideAll_get _ e1 fun y=>?_⟩
  rcases aB.mp y with y | y
  ·rw[y,new] at z;cases z
  rcases aB.mp (I.stkSub b y) with r | r
  ·have r:b=s.heap.objs.size:=r
   exact absurd (r ▸ ag z) (bu _)
  ·exact hb r
 refine⟨e,oe.cls,oe.dict,_,H1,rfl,I.os,I.bare,?_,fun c o ec=>(I.hok c o ec).stay (fun d u hd q'=>?_) (fun _ z=>z) fun _ _ z=>z,x1,he,fun b u eb=>?_,old,exi,q⟩
 ·refine⟨fun b o z n hb _ => x1.1 b o (old b o z n hb), fun b o z n hb hx' => ?_, fun b o z n hx' => I.base.free b o z n hx', fun b o z hx' => ?_, I.base.tups, I.base.frzs, I.base.tbls⟩
  ·obtain⟨sl,e1⟩:=I.base.slot b o z n hb hx'
   obtain⟨_,o1,g1,g2⟩:=(I.ok.funs.mem hb)
   have:o1=o:=am (g1.symm.trans z)
   subst this
   obtain⟨sl2,e2⟩:=x4 b _ e1 (by intro vs y;exact g2 vs y)
   exact⟨sl2,e2⟩
  ·by_cases hb:b∈frs outer
   ·obtain⟨_,o1,g1,_⟩:=x1.2.2.1.mem hb
    exact⟨_,g1⟩
   ·obtain⟨o',e1⟩:=exi b o z hb
    exact⟨o',x1.1 b o' e1⟩
 ·have tr:∃z,H1 d=some z:=by
     rcases hd with r | r
     ·exact⟨_,r ▸ ec⟩
     ·exact⟨_,r⟩
  obtain⟨z,hz⟩:=tr
  obtain⟨o1,e1,e2⟩:=trk d z hz
  have:u=o1:=am (q'.symm.trans e1)
  rw[this]
  exact x1.1 d o1 e2
 ·obtain⟨o1,e1,e2⟩:=trk b u eb
  exact⟨o1,x1.1 b o1 e2,e2⟩
section
variable {M:Model}{A:Around}{E:Value->Shared->Prop}{nm q nm' q':Str}{C N D N':Addr}{bs bm bs' bm':List Value}{hdct hdct':Bool}{sn sn':List Str}{sub sub':List Value}{ab ab':Bool}{col col':Option Bool}{dd dd':Option Addr}{k0 k1 k2 k3 k5 j0 j1 j2 j3 j5:Option Value}{newId newId':String}
theorem rE {h:Heap}{g:Array GenState}{d:Drawn}{t:Nat}{os:OsState}{e:Addr}{oe:Obj}{Q:Bool -> Shared -> Prop}
    (hC:h.get? C=some (excClassObj nm q C N bs bm hdct sn sub ab col dd k0 k1 k2 k3 k5 newId)) (he:h.get? e=some oe) (hcls:oe.cls=.ref C)
    (hD:h.get? D=some (excClassObj nm' q' D N' bs' bm' hdct' sn' sub' ab' col' dd' j0 j1 j2 j3 j5 newId')) (hb:bm'.contains (.type "BaseException")=true)
    (hin:(Value.ref C::bm).contains (.ref D)=true) (hq:Q true ⟨h,g,d,t,os⟩):wpAny M A (excMatches (.ref e) (.ref D)) Q E ⟨h,g,d,t,os⟩:=by
 have hcB:(Value.ref D::bm').contains (.type "BaseException")=true:=by rw[List.contains_cons,hb,Bool.or_true]
 have f:=tc_notTuple
 unfold excMatches
 repeat first
  | (with_reducible refine wpAny_loadPart_at he ?_
     rw[hcls])
  | with_reducible refine wpAny_loadPart_at hD ?_
  | (with_reducible refine wpAny_isSubtype_exc hD ?_
     rw[hcB])
  | (with_reducible refine wpAny_isSubtype_exc hC ?_
     rw[hin])
  | wp_step
 exact hq
end
theorem sG {X:Cx}{pins:List (Addr × Obj)}{σ:St}{H1 H':Hp}{s1 s':Shared}{B h5:Heap}{a:Addr}{cls fz:Value}{dd:Option Addr}(I:Inv X pins σ H1 s1) (hst:X.stack=X.env :: X.outer) (hfr:X.env.frame=some X.env.locals)
    (os:s'.os=s1.os) (bare:AllBare s'.gens) (un:Un (frs X.stack) [] H1 H' s1.heap s'.heap) (hok:HOk X.prog X.w H' s'.heap) (fl:XF B X.stack a cls dd fz h5) (sm:s'.heap.UpToSlots h5)
    (TB:∀b u,H' b=some u->∃o,s'.heap.get? b=some o/\B.get? b=some o) (KB:∀b o,s1.heap.get? b=some o->H1 b=none->b∉frs X.stack->B.get? b=some o) (AB:∀b o,s1.heap.get? b=some o->b∉frs X.stack->∃o',B.get? b=some o') :
    Inv X pins σ H' { s' with heap:=h5 }:=by
 obtain⟨hh,g,d,tk,os'⟩:=s'
 obtain rfl:os'=s1.os:=os
 have efr:frs X.stack=X.env.locals::X.fs:=by rw[hst];unfold frs;rw[List.filterMap_cons,hfr];rfl
 have nin:∀b,b≠X.env.locals->b∉X.fs->b∉frs X.stack:=fun b n1 n2 z=>by
  rw[efr] at z
  rcases aB.mp z with r | r
  ·exact n1 r
  ·exact n2 r
 have inn:∀b,b∈X.fs->b∈frs X.stack:=fun b hb=>by rw[efr];exact aK _ hb
 have nof:∀ {b:Addr} {o:Obj},b∈frs X.stack->s1.heap.get? b=some o->∀vs,o.data≠.fields vs:=fun hb e vs=>by
  obtain⟨_,o1,g1,g2⟩:=I.stack.mem hb
  have:=am (g1.symm.trans e)
  exact this ▸ g2 vs
 have slot:∀b o,b∈frs X.stack->s1.heap.get? b=some o->H1 b=none->∃sl,h5.get? b=some { o with slots:=sl }:=fun b o hb e n=>by
  obtain⟨sl,e1⟩:=un.slot b o e n hb (by intro z;cases z)
  obtain⟨sl2,e2⟩:=sm b _ e1 (fun vs z=>nof hb e vs z)
  exact⟨sl2,e2⟩
 show Inv X pins σ H' { s1 with heap:=h5,gens:=g,drawn:=d,toks:=tk }
 refine Inv.step (s:=s1) (h':=h5) (g':=g) (d':=d) (t':=tk) (ch:=[]) I (fun b hb=>by cases hb) (fun b o n1 n2 _ e n=>fl.1 b o (KB b o e n (nin b n1 n2))) (fun b o _ hb _ e n=>slot b o (inn b hb) e n) (fun b o _ e n=>un.free b o e n (by intro z;cases z)) (fun b o _ e=>?_) un.tups un.frzs un.tbls (fun m hn=>?_) (fun c o ec=>(hok c o ec).stay (fun d u hd q'=>?_) (fun _ z=>z) fun _ _ z=>z) bare
 ·by_cases hb:b∈frs X.stack
  ·obtain⟨_,o1,g1,_⟩:=fl.2.2.1.mem hb
   exact⟨_,g1⟩
  ·obtain⟨o',e1⟩:=AB b o e hb
   exact⟨o',fl.1 b o' e1⟩
 ·obtain⟨o,es,ep,ho,hd,r⟩:=hn
  obtain⟨sl,e1⟩:=slot X.env.locals o (by rw[efr];simp) ho I.free
  exact⟨_,es,ep,e1,hd,r⟩
 ·have tr:∃z,H' d=some z:=by
     rcases hd with r | r
     ·exact⟨_,r ▸ ec⟩
     ·exact⟨_,r⟩
  obtain⟨z,hz⟩:=tr
  obtain⟨o1,e1,e2⟩:=TB d z hz
  have:u=o1:=am (q'.symm.trans e1)
  rw[this]
  exact fl.1 d o1 e2
abbrev Cx.mark (X:Cx) (e:Value) (E:Value->Shared->Prop):Cx:={ X with A:=X.A.mark (some e),calm:=false,xe:=E }
section
variable {X:Cx}{pins:List (Addr × Obj)}{σ:St}{H:Hp}{s:Shared}{e:Value}{E:Value->Shared->Prop}
theorem Cx.Ok.mark (ok:X.Ok):(X.mark e E).Ok :=
 ⟨ok.mod,ok.kind,ok.glob,ok.blt,ok.above,ok.inj,ok.has,ok.cab,fun z=>(by cases z),ok.frames,ok.stk,ok.exf,ok.bs,ok.bsz,ok.noex,ok.exfs,ok.funs,ok.frf⟩
theorem Inv.mark (I:Inv X pins σ H s):Inv (X.mark e E) pins σ H s:=⟨I.ok.mark,I.os,I.bare,I.base,I.loc,I.cell,I.free,I.freeC,I.pin,I.hok,I.len⟩
theorem Inv.unmark (ok:X.Ok) (I:Inv (X.mark e E) pins σ H s):Inv X pins σ H s:=⟨ok,I.os,I.bare,I.base,I.loc,I.cell,I.free,I.freeC,I.pin,I.hok,I.len⟩
theorem nE {M:Model}{A:Around}{i:Nat}{n:Str}{pos:Pos}{Q:Unit -> Shared -> Prop}(I:Inv X pins σ H s) (hN:X.N.Nodup) (hi:X.N[i]? = some n) (hk:X.env.kindOf n=some .local)
    (h:∀s',Inv X pins (σ.set i none) H s'->Q () s'):wpAny M A (do bindName X.env n .none;unbindBehindTheSuite X.env n pos) Q E s:=by
 obtain⟨m,hn,hl⟩:=id I.loc
 have hcls:(X.env.scope.kind==.class||(X.env.scope.kind==.module&&X.env.locals != X.env.globals))=false:=by rw[I.ok.kind];rfl
 have hiσ:i<σ.length:=by rw[I.len];exact(ah.mp hi).1
 have cne:=I.cne
 refine wpAny_nameGoes_keeps hk hn hcls fun h' v hn' hs=>?_
 obtain⟨oL,_,_,hoL,_⟩:=id hn
 have tracked:HOk X.prog X.w H h':=fun b ob e=>by
  refine(I.hok b ob e).stay (fun c w' hc q=>(hs.2 c ?_).trans q) (fun _ q=>q) fun _ _ q=>q
  rintro rfl
  rcases hc with z | hc
  ·have:=I.free;rw[z] at this;rw[this] at e;cases e
  ·rw[I.free] at hc;cases hc
 refine h _ ⟨I.ok,I.os,I.bare,⟨fun b o e n hb hx=>?_,fun b o e n hb hx=>?_,I.base.free,fun b o e hx=>?_,I.base.tups,I.base.frzs,I.base.tbls⟩,⟨_,hn',fun j y v' e1 e2 e3=>?_⟩,fun y c e=>?_,I.free,I.freeC,fun p hp=>?_,tracked,by simpa using I.len⟩
 ·exact(hs.2 b (aD (aZ (ag e) I.ok.above))).trans (I.base.keep b o e n hb hx)
 ·obtain⟨sl,e1⟩:=I.base.slot b o e n hb hx
  exact⟨sl,(hs.2 b (aD (aZ (ag e) I.ok.above))).trans e1⟩
 ·obtain⟨o',e1⟩:=I.base.there b o e hx
  exact⟨o',(hs.2 b (aD (aZ (ag e) I.ok.above))).trans e1⟩
 ·by_cases hj:j=i
  ·subst hj
   rw[cw hiσ] at e2
   cases e2
  ·rw[cy (Ne.symm hj)] at e2
   obtain⟨u',r',q⟩:=hl j y v' e1 e2 e3
   refine⟨u',r',?_⟩
   rcases q with⟨k,e⟩ | ⟨k,c,e,z⟩
   ·refine .inl ⟨k,?_⟩
    have:y≠n:=fun e=>hj (mq hN e1 (e ▸ hi))
    simp[this,e]
   ·exact .inr ⟨k,c,e,z.sameBut hs (cne y c e)⟩
 ·obtain⟨w',z⟩:=I.cell y c e
  exact⟨w',z.sameBut hs (cne y c e)⟩
 ·obtain⟨e,n,ne,nf,d⟩:=I.pin p hp
  exact⟨(hs.2 p.1 ne).trans e,n,ne,nf,d⟩
theorem Inv.track {σ1:St}{H1:Hp}{s1:Shared}{a:Addr}{o:HO}(I1:Inv X pins σ1 H1 s1) (I:Inv X pins σ H s) (hn:s1.heap.get? a=none) (ha:H a=none) (new:ObjOk X.prog X.w (upd H a o) s.heap a o):Inv X pins σ (upd H a o) s := by
 have h0:∀ob,X.s₀.heap.get? a=some ob->a∈X.ex:=fun ob e=>by
  by_cases hx:a∈X.ex
  ·exact hx
  ·obtain⟨o',e'⟩:=I1.base.there a ob e hx
   rw[hn] at e';cases e'
 have ne:∀ {b:Addr} {u:HO},H b=some u->b≠a:=fun e z=>by rw[z,ha] at e;cases e
 have dif:∀ {b:Addr} {ob:Obj},s1.heap.get? b=some ob->b≠a:=fun e z=>by rw[z,hn] at e;cases e
 obtain⟨m1,hn1,_⟩:=id I1.loc
 obtain⟨oL,_,_,hoL,_⟩:=hn1
 refine⟨I.ok,I.os,I.bare,⟨I.base.keep,I.base.slot,fun b ob e n hx=>?_,I.base.there,fun b xs e=>?_,fun b x y e=>?_,fun b ps e=>?_⟩,I.loc,I.cell,?_,fun x c e=>?_,fun p hp=>?_,fun b u e=>?_,I.len⟩
 ·have:b≠a:=fun z=>hx (z ▸ h0 ob (z ▸ e))
  rw[cJ this];exact I.base.free b ob e n hx
 ·have z:=I.base.tups b xs e
  rw[cJ (ne z)];exact z
 ·have z:=I.base.frzs b x y e
  rw[cJ (ne z)];exact z
 ·obtain⟨more,z⟩:=I.base.tbls b ps e
  exact⟨more,by rw[cJ (ne z)];exact z⟩
 ·rw[cJ (dif hoL)];exact I.free
 ·obtain⟨v,oc,z,_⟩:=I1.cell x c e
  rw[cJ (dif z)];exact I.freeC x c e
 ·obtain⟨e1,n1,r⟩:=I.pin p hp
  obtain⟨e2,_⟩:=I1.pin p hp
  exact⟨e1,by rw[cJ (dif e2)];exact n1,r⟩
 ·by_cases hb:b=a
  ·subst hb;rw[cE] at e;cases e;exact new
  ·rw[cJ hb] at e
   exact(I.hok b u e).stay (fun _ _ _ z=>z) (fun c q=>by rw[cJ (ne q)];exact q) fun c xs q=>by rw[cJ (ne q)];exact q
end
def XAt (h:Heap) (C:Addr) (bm:List Value):Prop :=
 ∃nm q N bs hdct sn sub ab col dd k0 k1 k2 k3 k5 newId,h.get? C=some (excClassObj nm q C N bs bm hdct sn sub ab col dd k0 k1 k2 k3 k5 newId)
def ja (a C:Addr) (dd:Option Addr):HO:=.ext fun h=>∃o,h.get? a=some o/\o.cls=.ref C/\o.dict=dd/\W.notCls o=true
section
open PySem.W PySem.Calls Builtin Builtin.ObjectAttr Builtin.Getset_descriptor
structure XFacts (K:Frag) (C:Addr):Prop where
 ga:findIn K (.ref C) "__getattribute__"=some (some (.builtin "BaseException.__getattribute__"))
 gb:findIn K (.ref C) "__getattr__"=some none
 ha:findIn K (.ref C) "__class__"=some (some (.builtin "object.__class__"))
 hn:specialIn K (.builtin "object.__class__") "__get__"=some (some (.builtin "getset_descriptor.__get__"))
 ht:takesIn K (.builtin "object.__class__")=some true
 hm:mroIn K C (.type "object")=some true
 hb:mroIn K C (.type "BaseException")=some true
 cl:(clsIn K C).isSome=true
def XIs (x C:Addr) (h:Heap):Prop:=∃o,h.get? x=some o/\o.cls=.ref C
variable {K:Frag}{x C:Addr}{h:Heap}{M:Model}
theorem XIs.type (p:XIs x C h):Looks M h (typeOf (.ref x)) (.ref C):=by
 obtain⟨o,e,c⟩:=p
 exact c ▸ (Looks.ld e).andThen .now
theorem XFacts.found (Z:XFacts K C) (X:K.In h):Looks M h (find (.ref x) (.ref C) "__class__") (.bind (.builtin "getset_descriptor.__get__") (.builtin "object.__class__")):=by
 have l1:=looks_findIn (M:=M) X Z.ha
 have l2:Looks M h (getOf (some (.builtin "object.__class__"))) (some (.builtin "getset_descriptor.__get__")):=looks_specialIn X Z.hn
 have l3:Looks M h (dataDescriptor? (some (.builtin "object.__class__")) (some (.builtin "getset_descriptor.__get__"))) (some (.builtin "getset_descriptor.__get__",.builtin "object.__class__")):=(looks_takesIn (M:=M) X Z.ht).andThen .now
 exact l1.andThen (l2.andThen (l3.andThen (Looks.tag .now)))
variable {prog:Program}{w:World}{A:Around}{E:Value->Shared->Prop}{s:Shared}
theorem AT {R:Result->Shared->Prop}{tp:Value}(Z:XFacts K C) (X:K.In s.heap) (p:XIs x C s.heap) (h:R (.ok (.ret (.ref C))) s) :
    codeAny (model prog w) A (.call (.builtin "getset_descriptor.__get__") ⟨[.builtin "object.__class__",.ref x,tp],[]⟩) R s:=by
 have q1:=p.type (M:=model prog w)
 have q2:=looks_mroIn (M:=model prog w) X Z.hm
 obtain⟨hh,g,dr,t,os⟩:=s
 refine codeAny_call_builtin KF.slot_gs.plain KF.entry_gs (KF.slot_gs.check _ _ _ _ _ _ _ _ KF.type_class (KF.args_gs _ _ _) ?_)
 simp only[Builtin.«getset_descriptor.__get__»,descrGet,dga_obj]
 refine aa (af ?_)
 simp only[descrGetter,descrCheckInstance,descrNameAndClass,isInstance,KF.owner_class]
 repeat lk
 refine⟨Code.quiet_builtin _ (by decide +kernel),codeAny_builtin KF.entry_class ?_⟩
 simp only[Builtin.«object.__class__»,shownTypeOf]
 repeat lk
 exact h
theorem By {tk:Tok}{R:Result->Shared->Prop}(Z:XFacts K C) (X:K.In s.heap) (p:XIs x C s.heap) (h:R (.ok (.ret (.ref C))) s) :
    codeAny (model prog w) A (.call (.builtin "BaseException.__getattribute__") ⟨[.ref x,.str "__class__" tk],[]⟩) R s:=by
 have q1:=p.type (M:=model prog w)
 have q2:=looks_mroIn (M:=model prog w) X Z.hb
 have q3:=Z.found (M:=model prog w) (x:=x) X
 have hk:builtinKind "BaseException.__getattribute__"=some .slot:=by decide +kernel
 have hsp:splitId "BaseException.__getattribute__"=some ("BaseException","__getattribute__"):=by decide +kernel
 have ha:=PySem.F.args_bexc_ga (.ref x) (.str "__class__" tk)
 obtain⟨hh,g,dr,t,os⟩:=s
 refine codeAny_call_builtin PySem.F.attr_ValueError.ga.plain PySem.F.entry_bexc_ga ?_
 simp only[checkBuiltinCall,hk,hsp]
 refine aa ?_
 unfold isInstance
 repeat lk
 show wpAny _ _ (run (.call (.builtin "getset_descriptor.__get__") ⟨[.builtin "object.__class__",.ref x,.ref C],[]⟩) none) _ _ _
 refine wpAny_run (AT Z X p ?_)
 exact af (af h)
theorem xo {Q:Option Value->Shared->Prop}(Z:XFacts K C) (X:K.In s.heap) (p:XIs x C s.heap) (h:Q (some (.ref C)) { s with toks:=s.toks+1 }):wpAny (model prog w) A (getAttr? (.ref x) "__class__") Q E s:=by
 have q1:=p.type (M:=model prog w)
 have q2:=looks_findIn (M:=model prog w) X Z.ga
 have q4:=looks_findIn (M:=model prog w) X Z.gb
 have f3:=PySem.F.attr_ValueError.ga.bind (.ref x)
 obtain⟨hh,g,dr,t,os⟩:=s
 simp only[getAttr?,getAttrBy?,getAttrBy]
 refine aa (wpAny_mkText (aa (wpAny_attempt (aR (aa (q1.at (aa (q2.at ?_))))))))
 show wpAny _ _ (getAttrByItsOwn _ _ _ _ _ _) _ _ _
 refine aa ?_
 show wpAny _ _ (typeLookup (.ref C) "__getattr__") _ _ _
 refine q4.at (aa (wpAny_attempt (aR ?_)))
 show wpAny _ _ (boundAndCalled _ _ _) _ _ _
 unfold boundAndCalled
 rw[f3]
 refine aa (af ?_)
 show wpAny _ _ (call (.builtin "BaseException.__getattribute__") [.ref x,.str "__class__" t]) _ _ _
 refine wpAny_call (By Z X p ?_)
 show wpAny _ _ (handedOut (Value.ref C)) _ _ _
 exact handed_on rfl (af h)
theorem xY (Z:XFacts K C):KitX K (.ref x) (.ref C) (XIs x C) where
 ty:=fun _ _ _ p=>p.type
 it:=fun M h X _=>by
  obtain⟨cd,hc⟩:=cg.mp Z.cl
  unfold clsIn at hc
  split at hc
  ·rename_i ho
   intro A' Q' E' s' k q
   unfold isType loadHead
   exact aa (wpAny_loadPart (k _ _ (X _ _ ho)) (af q))
  ·cases hc
 ne:=fun h tp dd its n sl X htp=>by
  obtain⟨cd,hc⟩:=cg.mp Z.cl
  refine Bool.eq_false_iff.mpr fun q=>?_
  cases Value.ref.inj (beq_iff_eq.mp q)
  unfold clsIn at hc
  split at hc
  ·rename_i ho
   cases (X _ _ ho).symm.trans htp
  ·cases hc
 ca:=fun X p k=>xo Z X p k
end
section
variable {X:Cx}{pins:List (Addr × Obj)}{σ:St}{H:Hp}{s:Shared}{A:Around}{E:Value->Shared->Prop}{Q:Value->Shared->Prop}{e f:Expr}{t:TA}{p pos:Pos}
theorem zn {a C:Addr}{dd:Option Addr}(I:Inv X pins σ H s) (h:H a=some (ja a C dd)):XIs a C s.heap:=let ⟨o,e,c,_⟩:=(show ObjOk X.prog X.w H s.heap a (ja a C dd) from I.hok a _ h).1;⟨o,e,c⟩
def Ay (K:W.Frag):List V->Hp->VK->Prop:=fun xs H Q=>∃a C dd c u b,xs=[.ref a,c]/\H a=some (ja a C dd)/\XFacts K C/\(∀v,RelV c v->v=u)/\W.kitOne K (.ref C) u=some b/\Q (.bl b) H
theorem wM:gG X (.builtin "isinstance") (Ay X.K):=by
 intro pins s σ H xs us Q I r h
 obtain⟨a,C,dd,c,u,b,rfl,ea,Z,ru,e,q⟩:=h
 obtain⟨v1,v2,rfl,r1,r2⟩:=ir r
 cases r1
 cases ru v2 r2
 exact W.kia_one (xY Z) I.kIn (zn I ea) e (fun z=>nomatch z) fun tk=>⟨.bl b,H,I.tok tk,rfl,q⟩
theorem yo (K:W.Frag) (B:Blt X.mg) (ha:PA X [e,f] t) (hg:Gl X "isinstance":=by rfl) (he:starEach [e,f] X.env=(false,eval e X.env)::starEach [f] X.env:=by rfl) (hpl:(backTo pos (starEach [f] X.env)).any (·.1)=false:=by rfl) (hK:X.K=K:=by rfl) :
    PE X (.Call (.Name "isinstance" p) [e,f] [] pos) (tCB (Ay K) t) :=
 hK ▸ gv wM hg B.isinstance boot_isinstance ha (by decide) (by decide) he hpl
end
section
variable {P:Program}{w:World}{K:W.Frag}{mg:Str->Option Value}{base:Heap}
theorem Fun.okX {x qual:Str}{st:Stmt}{f:Addr}{fd:FuncData}{N ps:List Str}{k:Nat}{sp:Sp}(F:Fun K x qual st f fd) (S:FnScope N ps (cI st)) (len:∀vs H Q E, sp vs H Q E -> vs.length=ps.length)
    (hbody:∀(cdv:Value) (A:Around) (outer:List Env) (s:Shared) (H:Hp) (vs:List V) (Q:VK) (E:XK),Room k (A.deeper (envOfC qual (cI st) s.heap.objs.size f cdv))->sp vs H Q E ->
     ∃t,PSs (dQ (CX1 P w) P w K mg base N qual (cI st) f cdv A outer s H E) (fv st) t/\t { nx:=fun _ H'=>Q .non H',rt:=Q } (start N vs) H):FnOk P w K mg base (CX1 P w) (k+1) f fd ps sp:=by
 obtain⟨oc,od,kV,doc,pm,an,cdv,ct,osl,rfl,lk,hcd⟩:=F.ex
 exact yk lk hcd S len fun A outer s H vs Q E hr hsp=>hbody cdv A outer s H vs Q E hr hsp
structure CalX (P:Program) (w:World) (K:W.Frag) (mg:Str->Option Value) (base:Heap) (k:Nat) (x:Str) (ps:List Str) (sp:Sp):Prop where
 ex:∃(f:Addr) (fd:FuncData),FnOk P w K mg base (CX1 P w) k f fd ps sp/\mg x=some (.ref f)/\W.keepIn K (.ref f)=true/\Binds K fd ps []
theorem zg {N:List Str}{qual:Str}{scope:Scope}{f:Addr}{cd:Value}{A:Around}{outer:List Env}{s:Shared}{H:Hp}{E:XK}{x:Str}{ps:List Str}{sp:Sp}{k:Nat}{p pos:Pos}{e:Expr}{es:List Expr}{t:TA}
    (c:CalX P w K mg base k x ps sp) (hr:Room k (dQ (CX1 P w) P w K mg base N qual scope f cd A outer s H E).A) (hg:Gl (dQ (CX1 P w) P w K mg base N qual scope f cd A outer s H E) x)
    (ha:PA (dQ (CX1 P w) P w K mg base N qual scope f cd A outer s H E) (e::es) t)
    (hs:starEach (e::es) (dQ (CX1 P w) P w K mg base N qual scope f cd A outer s H E).env=(false,eval e (dQ (CX1 P w) P w K mg base N qual scope f cd A outer s H E).env)::starEach es (dQ (CX1 P w) P w K mg base N qual scope f cd A outer s H E).env:=by rfl)
    (hpl:(backTo pos (starEach es (dQ (CX1 P w) P w K mg base N qual scope f cd A outer s H E).env)).any (·.1)=false:=by rfl) (hdb:(x==("__debug__":Str))=false:=by decide) :
    PE (dQ (CX1 P w) P w K mg base N qual scope f cd A outer s H E) (.Call (.Name x p) (e::es) [] pos) (pQ sp [] E t):=by
 obtain⟨g,fd,G,mf,kp,b⟩:=c.ex
 exact rJ G hr hg mf kp b .nil BI ha (hdb:=hdb) (he:=hs) (hpl:=hpl)
variable {x:Str}{C N:Addr}{bmB bm bs:List Value}{newId:String}{nm q:Str}{hdct:Bool}{sn:List Str}{sub:List Value}{ab:Bool}{col:Option Bool}{dd:Option Addr}{k0 k1 k2 k3 k5:Option Value}{h:Heap}
theorem AS (X:K.In h) (bound:mg x=some (.ref C)) (lk:K.lookup C=some (excClassObj nm q C N bs bm hdct sn sub ab col dd k0 k1 k2 k3 k5 newId)) (ok:W.nsOkIn K N=true) (ni:W.nsIn K N "__init__"=some none)
    (tl:W.tailIn K bmB bm=true):OwnCls x C bmB newId mg h :=
 ⟨bound,bm,N,nm,q,bs,hdct,sn,sub,ab,col,dd,k0,k1,k2,k3,k5,_,X _ _ lk,.of_isNs (W.isNs_of_in X ok),W.nsMap_none_of_in X ok ni,W.tail_of_in X tl⟩
theorem uR (X:K.In h) (lk:K.lookup C=some (excClassObj nm q C N bs bm hdct sn sub ab col dd k0 k1 k2 k3 k5 newId)):XAt h C bm :=
 ⟨nm,q,N,bs,hdct,sn,sub,ab,col,dd,k0,k1,k2,k3,k5,newId,X _ _ lk⟩
end
structure Errs (K:W.Frag) (mg:Str->Option Value) (base:Heap) (ec:Str->Addr) (l c:List Str):Prop where
 b:∀x∈l,mg x=some (.ref (ec x))
 f:∀x∈c,XFacts K (ec x)
 ord:("OrderError":Str)∈c
 kit:∀x∈c,x≠"OrderError"->∀y∈l,W.kitOne K (.ref (ec x)) (.ref (ec y))=some (y==x||y==("OrderError":Str))
 val:∀x∈c,W.kitOne K (.ref (ec x)) (.type "ValueError")=some true
 at_:∀x∈c,∃bm,XAt base (ec x) bm/\bm.contains (.type "BaseException")=true/\(Value.ref (ec x)::bm).contains (.ref (ec "OrderError"))=true
 nv:mg "ValueError"=none
 own:∀x∈c,x∉(["NoText","Ring","NoUnit"]:List Str)->OwnCls x (ec x) [.type "ValueError",.type "Exception",.type "BaseException",.type "object"] "ValueError.__new__" mg base
theorem qM:bootBuiltins "ValueError"=some (.type "ValueError"):=by decide +kernel
abbrev hZ (C:Addr) (dd:Option Addr) (t:Addr):Obj:={ cls:=.ref C,dict:=dd,data:=.fields #[.ref t,.none,.none,.none,.bool false,.none] }
abbrev wV (us:List Value):Obj:={ cls:=.type "tuple",data:=.seq us.toArray }
def fX (a C:Addr) (dd:Option Addr):HO:=.ext fun h=>∃t,h.get? a=some (hZ C dd t)
section
variable {prog:Program}{w:World}{A:Around}{E:Value->Shared->Prop}{h:Heap}{g:Array GenState}{d:Drawn}{tk:Nat}{os:OsState}
variable {nm q:Str}{C N fI:Addr}{oI:Obj}{bs bm bmB bmN:List Value}{hdct:Bool}{sn:List Str}{sub:List Value}{ab:Bool}{col:Option Bool}{dd:Option Addr}{k0 k1 k2 k3 k5:Option Value}{B Bn newId nid initId inN:String}{mN:Str->Option Value}{us:List Value}
theorem tW {Q:Fin->Shared->Prop}(Fn:ExcBaseFacts Bn newId inN bmN) (hBn:bmB.contains (.type Bn)=true) (F:ExcBaseFacts B nid initId bmB) (T:OwnTail h bmB bm) (hC:h.get? C=some (excClassObj nm q C N bs bm hdct sn sub ab col dd k0 k1 k2 k3 k5 newId)) (hn:h.Ns N mN)
    (hi:mN "__init__"=some (.ref fI)) (gf:h.get? fI=some oI) (cf:oI.cls=.type "function") (lu:us.length<=sizeLine)
    (k:∀h' e,Heap.MadeExcOf h h' e (.ref C) us->wpAny (model prog w) A (call (.ref fI) (.ref e::us)) (fun r s'=>r=.none/\Q (.done (.ret (.ref e))) s') E ⟨h',g,d,tk,os⟩) :
    wpAny (model prog w) A (Builtin.«type.__call__» ⟨.ref C::us,[]⟩) Q E ⟨h,g,d,tk,os⟩:=by
 repeat (first | with_reducible refine wpAny_madeBy_exc hC ?_ | with_reducible refine wpAny_loadPart_at hC ?_ | wp_step)
 refine codeAny_call_builtin_code (Code.quiet_builtin _ Fn.quiet) (wpAny_check_new_subU Fn hBn T hC (codeAny_exc_new_subU Fn hBn F T hC ?_ lu))
 show wpAny _ _ _ _ _ _
 have up:∀b o,h.get? b=some o->((h.push (wV us)).push (hZ C none h.objs.size)).get? b=some o:=fun b o z=>ai _ (ai _ z)
 have ge:((h.push (wV us)).push (hZ C none h.objs.size)).get? (h.objs.size+1)=some (hZ C none h.objs.size):=by heap_get
 have gC:=up _ _ hC
 have me:(Value.ref C::bm).contains (.ref C)=true:=by simp
 have hn2:((h.push (wV us)).push (hZ C none h.objs.size)).Ns N mN:=hn.keeps up
 unfold isInstance
 repeat (first | with_reducible refine wpAny_loadPart_at ge ?_ | (with_reducible refine wpAny_isSubtype_exc gC ?_;rw[me]) | wp_step)
 show wpAny _ _ (typeLookup (.ref C) "__init__") _ _ _
 refine wpAny_typeLookup_tail gC hn2 (T.keeps up) F.mroIs F.init.lookup ?_
 rw[hi]
 refine aR (aa ?_)
 unfold bindSpecial
 refine aa (wpAny_typeOf (T:="function") ⟨oI,up _ _ gf,cf⟩ ?_)
 rw[if_pos (by decide)]
 refine af (aa (bj (k _ (h.objs.size+1) ⟨up,cv (bN _),h.objs.size,ge,cv (ac _),ai _ (Heap.get?_push_at rfl rfl)⟩) (fun r s' z=>?_) fun _ _ x=>x))
 obtain⟨rfl,z⟩:=z
 wp_walk
 exact z
theorem uC {Q:Value->Shared->Prop}(Fn:ExcBaseFacts Bn newId inN bmN) (hBn:bmB.contains (.type Bn)=true) (F:ExcBaseFacts B nid initId bmB) (T:OwnTail h bmB bm) (hC:h.get? C=some (excClassObj nm q C N bs bm hdct sn sub ab col dd k0 k1 k2 k3 k5 newId)) (hn:h.Ns N mN)
    (hi:mN "__init__"=some (.ref fI)) (gf:h.get? fI=some oI) (cf:oI.cls=.type "function") (lu:us.length<=sizeLine)
    (k:∀h' e,Heap.MadeExcOf h h' e (.ref C) us->wpAny (model prog w) (A.under (.builtin "type.__call__" ⟨.ref C::us,[]⟩)) (call (.ref fI) (.ref e::us)) (fun r s'=>r=.none/\Q (.ref e) s') E ⟨h',g,d,tk,os⟩) :
    wpAny (model prog w) A (call (.ref C) us) Q E ⟨h,g,d,tk,os⟩:=by
 have l1:=tc_lookup
 have l2:=tc_bind (.ref C)
 have ty:(⟨h,g,d,tk,os⟩:Shared).TypeIs (.ref C) "type":=⟨_,hC,rfl⟩
 refine wpAny_call (codeAny_of_tree ?_)
 show wpAny _ _ (callAny (.ref C) _) _ _ _
 repeat (any_goals (first | assumption | wp_step | with_reducible refine wpAny_loadPart_at hC ?_))
 refine⟨rfl,codeAny_call_builtin_at (Code.quiet_builtin _ (by decide +kernel)) entry_typeCall (wpAny_check_type_call_sub hC (tW Fn hBn F T hC hn hi gf cf lu fun h' e hm=>?_))⟩
 exact k h' e hm
end
section
variable {M:Model}{A:Around}{E:Value->Shared->Prop}{env:Env}{s:Shared}{bm:List Value}{C:Addr}
theorem tX {x:Sem Value}{Q:Flow->Shared->Prop}(hb:bm.contains (.type "BaseException")=true) (hh:A.handled=none)
    (h:wpAny M A x (fun v s1=>∃e t dq,v=.ref e/\XAt s1.heap C bm/\s1.heap.get? e=some (hZ C dq t)/\E (.ref e) s1) E s):wpAny M A (raiseStmt env (some x) none) Q E s:=by
 have hc:(Value.ref C::bm).contains (.type "BaseException")=true:=by rw[List.contains_cons,hb,Bool.or_true]
 unfold raiseStmt
 refine aa (bj h (fun v s1 z=>?_) fun _ _ y=>y)
 obtain⟨e,t,dq,rfl,⟨nm,q,N,bs,hdct,sn,sub,ab,col,dd,k0,k1,k2,k3,k5,newId,gC⟩,ge,qE⟩:=z
 obtain⟨hp,g,dr,tk,os⟩:=s1
 repeat (first | (with_reducible refine wpAny_isSubtype_exc gC ?_;rw[hc]) | with_reducible refine wpAny_loadPart_at ge ?_ | with_reducible refine wpAny_loadPart_at gC ?_ | wp_step)
 exact wpAny_raiseNew_none hh qE
end
def bmV:List Value:=[.type "ValueError",.type "Exception",.type "BaseException",.type "object"]
def pP (l:List Value):Bool:=match l with
 | .ref _::.ref _::r=>r==bmV
 | _=>false
theorem rm (self:Value) {l:List Value}(e:pP l=true):refuseLoop self "__setattr__" l=pure ():=by
 unfold pP at e
 split at e
 ·rw[refuseLoop_ref,refuseLoop_ref,beq_iff_eq.mp e]
  exact PySem.F.store_ValueError.passes self
 ·cases e
structure XSet (K:W.Frag) (C:Addr) (f:Str):Prop where
 sa:W.findIn K (.ref C) "__setattr__"=some (some (.builtin "object.__setattr__"))
 po:(W.clsIn K C).any (fun cd=>pP cd.mro)=true
 na:W.findIn K (.ref C) f=some none
 hd:W.hasDictIn K C=true
 hm:W.mroIn K C (.type "object")=some true
section
open PySem.W Builtin Builtin.ObjectAttr
variable {prog:Program}{w:World}{A:Around}{E:Value->Shared->Prop}{s:Shared}{K:Frag}{x C t:Addr}{f:Str}{v:Value}
theorem Bo {h:Heap}(hx:h.get? x=some (hZ C none t)):InstAt h x (hZ C none t) C none:=⟨hx,rfl,rfl,True.intro⟩
theorem setX {Q:Unit->Shared->Prop}(X:K.In s.heap) (Z:XSet K C f) (hx:s.heap.get? x=some (hZ C none t))
    (k:∀h' d,s.heap.objs.size<=d->h'.get? x=some (hZ C (some d) t)->h'.Ns1 d (fun y=>if y=f then some v else none)->(∀b o,b≠x->s.heap.get? b=some o->h'.get? b=some o)->Q () { s with heap:=h',toks:=s.toks+2 }) :
    wpAny (model prog w) A (setAttr (.ref x) f v) Q E s:=by
 have I:=Bo hx
 obtain⟨cd,hc,ho⟩:=any_some Z.po
 obtain⟨cd',hc',hd'⟩:=any_some Z.hd
 cases am (hc'.symm.trans hc)
 refine set_plain X I Z.sa ?_
 have G:=PySem.F.store_object
 have io:Looks (model prog w) s.heap (isInstance (.ref x) (.type "object")) true:=I.type.andThen (looks_mroIn X Z.hm)
 have mr:Looks (model prog w) s.heap (mroOf (.ref C)) cd.mro:=(looks_clsIn X hc).andThen .now
 refine codeAny_call_builtin G.slot.plain G.entry (@check_slot (model prog w) _ _ { s with toks:=s.toks+1 } "object.__setattr__" "object" "__setattr__" (.ref x) [.str f s.toks,v] [] _ G.kind G.split io (G.args (.ref x) (.str f s.toks) v) ?_)
 rw[osa_eq,refuse_eq]
 refine aa (aa (Looks.here (s:={ s with toks:=s.toks+1 }) I.type (aa (Looks.here (s:={ s with toks:=s.toks+1 }) mr ?_))))
 rw[rm _ ho]
 refine af (aa (Looks.here (s:={ s with toks:=s.toks+1 }) I.type (aa (Looks.here (s:={ s with toks:=s.toks+1 }) (looks_findIn X Z.na) (aa (af ?_))))))
 have nx:x≠s.heap.objs.size:=aD (ag hx)
 refine aa (af (aa (aa (wpAny_loadPart hx (aa (Looks.here (s:={ s with toks:=s.toks+1 }) (looks_clsIn X hc) ?_))))))
 rw[hd']
 show wpAny _ _ (alloc { cls:=Value.type "dict",data:=Data.dict #[] } >>= _) _ _ _
 have x1:=ai (h:=s.heap) { cls:=.type "dict",data:=.dict #[] } hx
 refine aa (wpAny_alloc' (aa (wpAny_update' x1 (af ?_))))
 generalize eg:(s.heap.push { cls:=.type "dict",data:=.dict #[] }).update x (fun o=>{ cls:=o.cls,dict:=some s.heap.objs.size,data:=o.data,slots:=o.slots })=g1
 have d1:g1.get? s.heap.objs.size=some { cls:=.type "dict",data:=.dict #[] }:=by
  rw[<- eg];exact(Heap.get?_update_ne _ _ _ _ (Ne.symm nx)).trans (Heap.get?_push_at rfl rfl)
 have e1:g1.get? x=some (hZ C (some s.heap.objs.size) t):=by rw[<- eg];exact ci _ x1 rfl
 have o1:∀b o,b≠x->s.heap.get? b=some o->g1.get? b=some o:=fun b o nb z=>by
  rw[<- eg];exact(Heap.get?_update_ne _ _ _ _ nb).trans (ai _ z)
 have n1:g1.Ns s.heap.objs.size (fun _=>none):=⟨_,#[],_,d1,rfl,(fun e he=>absurd he (by simp)),fun _=>rfl⟩
 show wpAny _ _ (storeInDict s.heap.objs.size (.str f s.toks) f v) _ _ _
 unfold storeInDict newKeyGuard
 refine aa (af (aa (wpAny_nsSet1 (Heap.Ns1.of_empty n1) fun h' n2 sb=>?_)))
 obtain⟨oD,esD,epD,gD,dD,cD⟩:=n2.count (Within.cons f v Within.nil)
 refine aa (wpAny_lookBehind gD (by rw[dD];exact pastItsLine_dict (aG cD (by rw[aF,List.length_nil,sizeLine_eq];omega))) ?_)
 refine af ?_
 exact k h' s.heap.objs.size (ac _) ((sb.2 x nx).trans e1) n2 fun b o nb z=>(sb.2 b (aD (ag z))).trans (o1 b o nb z)
end
section
variable {X:Cx}{pins:List (Addr × Obj)}{σ:St}{H:Hp}{s:Shared}{A:Around}{E:Value->Shared->Prop}{a C:Addr}{f:Str}
theorem rT {dd:Option Addr}(I:Inv X pins σ H s) (h:H a=some (fX a C dd)):∃t,s.heap.get? a=some (hZ C dd t):=(show ObjOk X.prog X.w H s.heap a (fX a C dd) from I.hok a _ h).1
theorem sH {P:Program}{w:World}{dd:Option Addr}{h:Heap}{t:Addr}(e:h.get? a=some (hZ C dd t)):ObjOk P w H h a (fX a C dd) :=
 ⟨⟨t,e⟩,⟨_,e⟩,fun _ _ ⟨u,q⟩ z=>⟨u,z _ q⟩⟩
theorem zH {y:V}{u:Value}{Q:Unit -> Shared -> Prop}(I:Inv X pins σ H s) (e:H a=some (fX a C none)) (Z:XSet X.K C f) (ry:RelV y u)
    (k:∀d s',H d=none->d≠a->Inv X pins σ (upd (upd H d (.xd [(f,y)])) a (fX a C (some d))) s'->Q () s'):wpAny (model X.prog X.w) A (setAttr (.ref a) f u) Q E s:=by
 obtain⟨t,ge⟩:=rT I e
 refine setX I.kIn Z ge fun h' d sd g1 g2 g3=>?_
 have nd:H d=none:=I.hok.fresh sd
 have da:d≠a:=fun z=>by rw[z,e] at nd;cases nd
 have gd:s.heap.get? d=none:=cv sd
 refine k d _ nd da ?_
 have ne:∀ {b:Addr} {v:HO},H b=some v->b≠d:=fun z1 z2=>by rw[z2,nd] at z1;cases z1
 have na:∀ {b:Addr},H b=none->b≠a:=fun z1 z2=>by rw[z2,e] at z1;cases z1
 have same:∀b,b≠a->b≠d->upd (upd H d (.xd [(f,y)])) a (fX a C (some d)) b=H b:=fun b z1 z2=>by rw[cJ z1,cJ z2]
 have keepK:∀(b:Addr) (v:HO),H b=some v->v≠fX a C none->upd (upd H d (.xd [(f,y)])) a (fX a C (some d)) b=some v:=fun b v z1 z2=>by
  rw[same b (fun z=>by rw[z,e] at z1;exact z2 (am z1).symm) (ne z1)];exact z1
 refine Inv.step (g':=s.gens) (d':=s.drawn) (t':=s.toks+2) (ch:=[]) I (fun b hb=>by cases hb) (fun b o _ _ _ z n=>g3 b o (na n) z) (fun b o _ _ _ z n=>⟨o.slots,g3 b o (na n) z⟩) (fun b o _ z n=>?_) (fun b o _ z=>?_)
  (fun b xs z=>keepK b _ z (by intro q;cases q)) (fun b o v z=>keepK b _ z (by intro q;cases q)) (fun b ps z=>⟨#[],by rw[Array.append_empty];exact keepK b _ z (by intro q;cases q)⟩) (fun m hn=>?_) (fun b v z=>?_) I.bare
 ·rw[same b (na n) fun q=>by rw[q,gd] at z;cases z];exact n
 ·by_cases hb:b=a
  ·exact⟨_,hb ▸ g1⟩
  ·exact⟨o,g3 b o hb z⟩
 ·obtain⟨o,es,ep,ho,r⟩:=hn
  exact⟨o,es,ep,g3 _ o (na I.free) ho,r⟩
 ·by_cases hb:b=a
  ·subst hb
   rw[cE] at z;cases z
   exact sH g1
  ·by_cases hd:b=d
   ·subst hd
    rw[cJ hb,cE] at z;cases z
    refine⟨_,g2,fun y'=>?_⟩
    show RelO (List.lookup y' [(f,y)]) (if y'=f then some u else none)
    by_cases q:y'=f
    ·subst q
     simp only[List.lookup,beq_self_eq_true,if_pos]
     exact ry
    ·have:(y'==f)=false:=beq_eq_false_iff_ne.mpr q
     simp only[List.lookup,this,if_neg q]
     exact True.intro
   ·rw[same b hb hd] at z
    refine(I.hok b v z).stay (fun c w hc q=>g3 c w ?_ q) (fun c q=>keepK c _ q (by intro q;cases q)) fun c xs q=>keepK c _ q (by intro q;cases q)
    rintro rfl
    rcases hc with r | r
    ·exact hb r.symm
    ·rw[e] at r;cases r
def Bl (K:W.Frag) (ta tv:TE) (f:Str):TS:=fun D σ H=>tv σ H fun y H1=>ta σ H1 fun x H2=>∃a C,x=.ref a/\H2 a=some (fX a C none)/\XSet K C f/\∀d,H2 d=none->d≠a->D.nx σ (upd (upd H2 d (.xd [(f,y)])) a (fX a C (some d)))
theorem yH {o value:Expr}{pos pos':Pos}{ta tv:TE}(ha:PE X o ta) (hv:PE X value tv) (hs:swapsWith value (some (.Attribute o f pos')) pos.line X.env=pure false):PS X (.Assign [.Attribute o f pos'] value pos) (Bl X.K ta tv f):=by
 intro pins s σ H D I h
 refine plainObj_wpAny_Assign_Attribute (thn (hv pins s σ H _ I h) fun u s1 ⟨y,H1,I1,ry,q⟩=>thn (ha pins s1 σ H1 _ I1 q) fun ov s2 ⟨x,H2,I2,rx,a,C,ex,ea,Z,q2⟩=>?_) hs
 subst ex
 obtain rfl:ov=Value.ref a:=rx
 exact zH I2 ea Z ry fun d s3 hd hda I3=>⟨σ,_,I3,q2 d hd hda⟩
end
theorem ze {K:W.Frag}{h:Heap}{N:Addr}{mN:Str -> Option Value}{n:Str}{v:Value}(X:K.In h) (G:h.Ns N mN) (e:W.nsIn K N n=some (some v)):mN n=some v := by
 obtain⟨o,es,ep,go,de,_,fe⟩:=G
 unfold W.nsIn at e
 split at e
 ·rename_i q
  have z:=X _ _ q
  rw[go] at z
  cases z
  cases de
  split at e
  ·rename_i en he
   cases e
   rw[<- fe]
   unfold nsFind findBy
   rw[<- Array.find?_toList,he];rfl
  ·split at e <;> cases e
 ·cases e
structure OwnI (x:Str) (C fI:Addr) (mg:Str->Option Value) (h:Heap):Prop where
 bound:mg x=some (.ref C)
 obj:∃tl N nm q bs hdct sn sub ab col dd k0 k1 k2 k3 k5 mN oI,h.get? C=some (excClassObj nm q C N bs tl hdct sn sub ab col dd k0 k1 k2 k3 k5 "ValueError.__new__")/\h.Ns N mN/\mN "__init__"=some (.ref fI)/\OwnTail h bmV tl/\h.get? fI=some oI/\oI.cls=.type "function"
def del (H:Hp) (e:Addr):Hp:=fun b=>if b=e then none else H b
theorem wK {H:Hp}{e:Addr}:del H e e=none:=by unfold del;rw[if_pos rfl]
theorem nG {H:Hp}{e b:Addr}(h:b≠e):del H e b=H b:=by unfold del;rw[if_neg h]
theorem Inv.del {X:Cx}{pins:List (Addr × Obj)}{σ:St}{H:Hp}{s:Shared}{e C:Addr}{dd:Option Addr}(I:Inv X pins σ H s) (he:H e=some (fX e C dd)):Inv X pins σ (del H e) s := by
 have kp:∀(b:Addr) (v:HO),H b=some v->v≠fX e C dd->L2.del H e b=some v:=fun b v z n=>by
  rw[nG fun q=>by rw[q,he] at z;exact n (am z).symm];exact z
 have fr:∀b,H b=none->L2.del H e b=none:=fun b z=>by
  unfold L2.del;split
  ·rfl
  ·exact z
 refine⟨I.ok,I.os,I.bare,⟨I.base.keep,I.base.slot,fun b o z n hx=>fr b (I.base.free b o z n hx),I.base.there,fun b xs z=>kp b _ (I.base.tups b xs z) (by intro q;cases q),fun b o u z=>kp b _ (I.base.frzs b o u z) (by intro q;cases q),fun b ps z=>?_⟩,I.loc,I.cell,fr _ I.free,fun x c z=>fr _ (I.freeC x c z),fun p hp=>?_,fun b v z=>?_,I.len⟩
 ·obtain⟨more,q⟩:=I.base.tbls b ps z
  exact⟨more,kp b _ q (by intro q;cases q)⟩
 ·obtain⟨g1,g2,g3⟩:=I.pin p hp
  exact⟨g1,fr _ g2,g3⟩
 ·have hb:H b=some v:=by
     unfold L2.del at z;split at z
     ·cases z
     ·exact z
  exact(I.hok b v hb).stay (fun _ _ _ q=>q) (fun c q=>kp c _ q (by intro q;cases q)) fun c xs q=>kp c _ q (by intro q;cases q)
def rO (E:XK) (C:Addr) (sp:Sp) (ta:TA):TS:=fun _ σ H=>ta σ H fun vs H1=>vs.length<=sizeLine/\∀e,H1 e=none->sp (.ref e::vs) (upd H1 e (fX e C none)) (fun v H2=>v=.non/\∃dd,H2 e=some (fX e C dd)/\E (.ref C) dd (del H2 e)) E0
theorem uP {P:Program}{w:World}{K:W.Frag}{mg:Str -> Option Value}{base:Heap}{N:List Str}{qual:Str}{scope:Scope}{f:Addr}{cd:Value}{A:Around}{outer:List Env}{s:Shared}{H:Hp}{E:XK}
    {x:Str} {C fI:Addr} {fd:FuncData} {ps:List Str} {sp:Sp} {k:Nat} {np cpos pos:Pos} {e₀:Expr} {dX:List Expr} {ta:TA} (O:OwnI x C fI mg base) (kp:W.keepIn K (.ref C)=true)
    (F:FnOk P w K mg base CX0 k fI fd ps sp) (hb:Binds K fd ps []) (hr:Room (k+1) (dQ (CX1 P w) P w K mg base N qual scope f cd A outer s H E).A)
    (hg:Gl (dQ (CX1 P w) P w K mg base N qual scope f cd A outer s H E) x) (ha:PA (dQ (CX1 P w) P w K mg base N qual scope f cd A outer s H E) (e₀::dX) ta)
    (he:starEach (e₀::dX) (dQ (CX1 P w) P w K mg base N qual scope f cd A outer s H E).env=(false,eval e₀ (dQ (CX1 P w) P w K mg base N qual scope f cd A outer s H E).env)::starEach dX (dQ (CX1 P w) P w K mg base N qual scope f cd A outer s H E).env:=by rfl)
    (hpl:(backTo cpos (starEach dX (dQ (CX1 P w) P w K mg base N qual scope f cd A outer s H E).env)).any (·.1)=false:=by rfl) (hdb:(x==("__debug__":Str))=false:=by decide) :
    PS (dQ (CX1 P w) P w K mg base N qual scope f cd A outer s H E) (.Raise (some (.Call (.Name x np) (e₀::dX) [] cpos)) none pos) (rO E C sp ta):=by
 intro pins s1 σ H1 D I h
 obtain⟨tl,Nn,nm,q,bs,hdct,sn,sub,ab,col,dd,k0,k1,k2,k3,k5,mN,oI,hC,hN,hi,T,gf,cf⟩:=O.obj
 rw[arm_exec_Raise]
 refine aa (wpAny_standAt (tX (C:=C) (bm:=tl) (T.hasType PySem.F.excBase_ValueError.hasBase) (I.ok.hd rfl) ?_))
 show wpAny _ _ (do let v ← eval (.Call (.Name x np) (e₀::dX) [] cpos) _;standAt pos;pure v) _ _ _
 refine aa (thn (Q:=fun v s3=>∃e t dq,v=.ref e/\XAt s3.heap C tl/\s3.heap.get? e=some (hZ C dq t)/\(dQ (CX1 P w) P w K mg base N qual scope f cd A outer s H E).xe (.ref e) s3) ?_ fun v s3 z=>aa (wpAny_standAt (af z)))
 refine cp (ju I hg O.bound ?_ hdb)
 refine W.callWith_K (h₀:=base) I.ok.mod.kin kp (thn (ha cpos pins s1 σ H1 _ I h) fun us s2 ⟨vs,H2,I2,r,hl,q2⟩=>⟨I2.kIn,?_⟩) he hpl
 have bk:=I2.bk
 obtain⟨hh,g,d,tk,os⟩:=s2
 refine uC PySem.F.excBase_ValueError (by decide) PySem.F.excBase_ValueError (T.keeps bk) (bk _ _ hC) (hN.keeps bk) hi (bk _ _ gf) cf (by rw[List.nil_append,<- r.length];exact hl) fun h' e hm=>?_
 rw[List.nil_append] at hm ⊢
 obtain⟨t,ge,_,_⟩:=hm.there
 have ne:H2 e=none:=by
  cases z:H2 e with
  | none=>rfl
  | some u =>
   obtain⟨o,ho⟩:=ObjOk.obj (I2.hok e u z)
   rw[hm.new] at ho;cases ho
 have n0:s.heap.get? e=none:=by
  cases z:s.heap.get? e with
  | none=>rfl
  | some o =>
   obtain⟨o',e'⟩:=I2.base.there e o z (by intro y;cases y)
   rw[hm.new] at e';cases e'
 have I3:Inv (dQ (CX1 P w) P w K mg base N qual scope f cd A outer s H E) pins σ (upd H2 e (fX e C none)) ⟨h',g,d,tk,os⟩ :=
  Inv.track I2 (I2.kept (t':=tk) hm.keeps) hm.new ne (sH ge)
 have hs:=q2 e ne
 have r2:Vals (V.ref e::vs) (Value.ref e::us):=.cons rfl r
 have hlen:(Value.ref e::us++[]).length=ps.length:=by rw[aS,<- r2.length];exact F.len _ _ _ _ hs
 refine wpAny_call (codeAny_mono (F.run _ _ _ _ ⟨Value.ref e::us,[]⟩ (Value.ref e::us++[]) (V.ref e::vs) _ _ (hr.make C us []) (I3.env0.make C us []) (hb _ (Value.ref e::us) I3.kIn hlen) (by rw[aS];exact r2) hs) fun r s' hq=>?_)
 cases r with
 | error ev=>exact False.elim hq
 | ok fl =>
  cases fl with
  | ret u =>
   obtain⟨v,H4,I4,rv,rfl,dq,e4,qE⟩:=I3.after hq
   obtain⟨t4,g4⟩:=rT I4 e4
   refine⟨rv,e,t4,dq,rfl,⟨nm,q,Nn,bs,hdct,sn,sub,ab,col,dd,k0,k1,k2,k3,k5,_,I4.bk _ _ hC⟩,g4,?_⟩
   exact AV (I4.del e4) wK g4 rfl rfl n0 qE
  | next=>exact False.elim hq
  | brk=>exact False.elim hq
  | cont=>exact False.elim hq
structure XGet (K:W.Frag) (C:Addr) (f:Str):Prop where
 na:W.findIn K (.ref C) f=some none
 hd:W.hasDictIn K C=true
section
open PySem.W PySem.Calls Builtin Builtin.ObjectAttr
variable {K:Frag}{x C:Addr}{h:Heap}{M:Model}{prog:Program}{w:World}{A:Around}{E:Value->Shared->Prop}{s:Shared}{ox od:Obj}{f:Str}{u:Value}
theorem Bz {tk:Tok}{R:Result->Shared->Prop}(Z:XFacts K C) (X:K.In s.heap) (I:InstAt s.heap x ox C (some od)) (hf:findObj K C (some od) f=some (.value u)) (h:R (.ok (.ret u)) s) :
    codeAny (model prog w) A (.call (.builtin "BaseException.__getattribute__") ⟨[.ref x,.str f tk],[]⟩) R s:=by
 have q1:=I.type (M:=model prog w)
 have q2:=looks_mroIn (M:=model prog w) X Z.hb
 have q3:=looks_find (M:=model prog w) X I hf
 have hk:builtinKind "BaseException.__getattribute__"=some .slot:=by decide +kernel
 have hs:splitId "BaseException.__getattribute__"=some ("BaseException","__getattribute__"):=by decide +kernel
 have ha:=PySem.F.args_bexc_ga (.ref x) (.str f tk)
 obtain⟨hh,g,dr,t,os⟩:=s
 refine codeAny_call_builtin PySem.F.attr_ValueError.ga.plain PySem.F.entry_bexc_ga ?_
 simp only[checkBuiltinCall,hk,hs]
 refine aa ?_
 unfold isInstance
 repeat lk
 exact h
theorem Ab {b:Bool}{Q:Value->Shared->Prop}(Z:XFacts K C) (X:K.In s.heap) (I:InstAt s.heap x ox C (some od)) (hf:findObj K C (some od) f=some (.value u)) (hu:handedIn u=true) (h:Q u { s with toks:=s.toks+1 }) :
    wpAny (model prog w) A (getAttr (.ref x) f b) Q E s:=by
 have q1:=I.type (M:=model prog w)
 have q2:=looks_findIn (M:=model prog w) X Z.ga
 have q4:=looks_findIn (M:=model prog w) X Z.gb
 have f3:=PySem.F.attr_ValueError.ga.bind (.ref x)
 obtain⟨hh,g,dr,t,os⟩:=s
 simp only[getAttr,getAttrBy]
 refine aa (wpAny_mkText (aR (aa (q1.at (aa (q2.at ?_))))))
 show wpAny _ _ (getAttrByItsOwn _ _ _ _ _ _) _ _ _
 refine aa ?_
 show wpAny _ _ (typeLookup (.ref C) "__getattr__") _ _ _
 refine q4.at (aa (wpAny_attempt (aR ?_)))
 unfold callGetattribute
 rw[if_neg (by cases b <;> decide)]
 unfold boundAndCalled
 rw[f3]
 refine aa (af ?_)
 show wpAny _ _ (call (.builtin "BaseException.__getattribute__") [.ref x,.str f t]) _ _ _
 refine wpAny_call (Bz Z X I hf ?_)
 show wpAny _ _ (handedOut u) _ _ _
 exact handed_on hu (by exact h)
end
section
variable {X:Cx}{e:Expr}{f:Str}{pos:Pos}{ta:TE}
def ye (K:W.Frag) (ta:TE) (f:Str):TE:=fun σ H Q=>ta σ H fun x H1=>∃a C d fs v,x=.ref a/\H1 a=some (ja a C (some d))/\H1 d=some (.xd fs)/\fs.lookup f=some v/\XFacts K C/\XGet K C f/\Q v H1
theorem y4 (he:PE X e ta) (hb:attributeBase e f X.env (eval e X.env)=eval e X.env):PE X (.Attribute e f pos) (ye X.K ta f):=by
 intro pins s σ H Q I h
 refine yF hb (thn (he pins s σ H _ I h) fun u s1 ⟨x,H1,I1,rx,a,C,d,fs,v,ex,ea,ed,l,Z,G,q⟩=>?_)
 subst ex
 obtain rfl:u=Value.ref a:=rx
 obtain⟨o,go,oc,dd,nc⟩:=(show ObjOk X.prog X.w H1 s1.heap a (ja a C (some d)) from I1.hok a _ ea).1
 obtain⟨mA,ns,r⟩:=(show ObjOk X.prog X.w H1 s1.heap d (.xd fs) from I1.hok d _ ed)
 obtain⟨od,gd,lk⟩:=oV ns
 obtain⟨u',hu,ru⟩:=RelO.some_of (v:=v) (o:=mA f) (by rw[<- l];exact r f)
 have J:W.InstAt s1.heap a o C (some od):=⟨go,oc,nc,by rw[dd];exact gd⟩
 exact Ab Z I1.kIn J (W.findObj_own G.hd G.na rfl (by rw[lk,hu])) (vO ru) ⟨v,H1,I1.tok _,ru,q⟩
end
end L2
namespace L2
open PySem
theorem oE {R J:St->Hp->Prop}{G:Prop}(main:(∀σ H,J σ H->R σ H)->G) (dX:∀σ H,J σ H->R σ H):G:=main dX
end L2
namespace L2
open PySem PySem.Spec PyProof.Rows
def jm (ps:List (Str × Addr)) (x:Str):Addr:=(ps.lookup x).getD 0
theorem lQ:∀ {ps:List (Str × Addr)}, (ps.map (·.1)).Nodup -> ∀p ∈ ps, jm ps p.1=p.2
 | [],_,p,h=>by cases h
 | q::ps,nd,p,h=>by
  rw[aQ,ba] at nd
  unfold jm
  rcases aB.mp h with rfl | h
  ·rw[aY];simp
  ·have ne:p.1≠q.1:=fun z=>nd.1 (z ▸ ao.mpr ⟨p,h,rfl⟩)
   have:(p.1==q.1)=false:=by simpa using ne
   rw[aY,this]
   exact lQ nd.2 p h
theorem iz {α:Type}{P:α->Prop}:∀x∈([]:List α),P x:=fun x h=>by cases h
theorem eR {α:Type}{P:α->Prop}{a:α}{l:List α}(h:P a) (g:∀x∈l,P x):∀x∈a::l,P x:=fun x hx=>by
 rcases aB.mp hx with rfl | hx
 ·exact h
 ·exact g x hx
variable {K:W.Frag}{mg:Str->Option Value}{base:Heap}
theorem yD {ps cs:List (Str × Addr)}(nd:(ps.map (·.1)).Nodup) (sub:∀p∈cs,p∈ps) (b:∀p∈ps,mg p.1=some (.ref p.2)) (f:∀p∈cs,XFacts K p.2) (ord:("OrderError":Str)∈cs.map (·.1))
    (kit:∀p∈cs,p.1≠"OrderError"->∀q∈ps,W.kitOne K (.ref p.2) (.ref q.2)=some (q.1==p.1||q.1==("OrderError":Str))) (val:∀p∈cs,W.kitOne K (.ref p.2) (.type "ValueError")=some true)
    (at_:∀p∈cs,∃bm,XAt base p.2 bm/\bm.contains (.type "BaseException")=true/\(Value.ref p.2::bm).contains (.ref (jm ps "OrderError"))=true) (nv:mg "ValueError"=none)
    (own:∀p∈cs,p.1∉(["NoText","Ring","NoUnit"]:List Str)->OwnCls p.1 p.2 [.type "ValueError",.type "Exception",.type "BaseException",.type "object"] "ValueError.__new__" mg base):Errs K mg base (jm ps) (ps.map (·.1)) (cs.map (·.1)):=by
 have e:=lQ nd
 have q:∀ {x:Str},x∈ps.map (·.1)->∃p∈ps,p.1=x:=fun h=>by obtain⟨p,hp,rfl⟩:=ao.mp h;exact⟨p,hp,rfl⟩
 have r:∀ {x:Str},x∈cs.map (·.1)->∃p∈cs,p.1=x:=fun h=>by obtain⟨p,hp,rfl⟩:=ao.mp h;exact⟨p,hp,rfl⟩
 refine⟨fun x hx=>?_,fun x hx=>?_,ord,fun x hx hn y hy=>?_,fun x hx=>?_,fun x hx=>?_,nv,fun x hx hn=>?_⟩
 ·obtain⟨p,hp,rfl⟩:=q hx
  rw[e p hp];exact b p hp
 ·obtain⟨p,hp,rfl⟩:=r hx
  rw[e p (sub p hp)];exact f p hp
 ·obtain⟨p,hp,rfl⟩:=r hx
  obtain⟨p2,hp2,rfl⟩:=q hy
  rw[e p (sub p hp),e p2 hp2];exact kit p hp hn p2 hp2
 ·obtain⟨p,hp,rfl⟩:=r hx
  rw[e p (sub p hp)];exact val p hp
 ·obtain⟨p,hp,rfl⟩:=r hx
  rw[e p (sub p hp)];exact at_ p hp
 ·obtain⟨p,hp,rfl⟩:=r hx
  rw[e p (sub p hp)];exact own p hp hn
end L2
namespace L2
open PySem PySem.Spec PyProof.Rows
def Bk (s:Stmt) (i:Nat):Stmt:=match s with
 | .ClassDef _ _ _ b _ _ _ _ _ _ _=>b.getD i (.Pass ⟨0,0,0,0⟩)
 | s=>s
section
variable {P:Program}{w:World}{K:W.Frag}{mg:Str->Option Value}{base:Heap}
variable {x:Str}{C N fI:Addr}{bm bs:List Value}{nm q:Str}{hdct:Bool}{sn:List Str}{sub:List Value}{ab:Bool}{col:Option Bool}{dd:Option Addr}{k0 k1 k2 k3 k5:Option Value}{h:Heap}
theorem zN {od:Option Addr}{dt:Data}{sl:Array (Option Value)}(X:K.In h) (bound:mg x=some (.ref C)) (lk:K.lookup C=some (excClassObj nm q C N bs bm hdct sn sub ab col dd k0 k1 k2 k3 k5 "ValueError.__new__")) (ok:W.nsOkIn K N=true)
    (ni:W.nsIn K N "__init__"=some (some (.ref fI))) (tl:W.tailIn K bmV bm=true) (lf:K.lookup fI=some ⟨.type "function",od,dt,sl⟩):OwnI x C fI mg h :=
 ⟨bound,bm,N,nm,q,bs,hdct,sn,sub,ab,col,dd,k0,k1,k2,k3,k5,_,_,X _ _ lk,.of_isNs (W.isNs_of_in X ok),ze X (.of_isNs (W.isNs_of_in X ok)) ni,W.tail_of_in X tl,X _ _ lf,rfl⟩
structure MkI (P:Program) (w:World) (K:W.Frag) (mg:Str->Option Value) (base:Heap) (k:Nat) (x:Str) (C:Addr) (ps:List Str) (sp:Sp):Prop where
 ex:∃(fI:Addr) (fd:FuncData),OwnI x C fI mg base/\W.keepIn K (.ref C)=true/\FnOk P w K mg base CX0 k fI fd ps sp/\Binds K fd ps []
theorem vP {NN:List Str}{qual:Str}{scope:Scope}{f:Addr}{cd:Value}{A:Around}{outer:List Env}{s:Shared}{H:Hp}{E:XK}{ps:List Str}{sp:Sp}{k:Nat}{np cpos pos:Pos}{e₀:Expr}{dX:List Expr}{ta:TA}
    (m:MkI P w K mg base k x C ps sp) (hr:Room (k+1) (dQ (CX1 P w) P w K mg base NN qual scope f cd A outer s H E).A)
    (hg:Gl (dQ (CX1 P w) P w K mg base NN qual scope f cd A outer s H E) x) (ha:PA (dQ (CX1 P w) P w K mg base NN qual scope f cd A outer s H E) (e₀::dX) ta)
    (he:starEach (e₀::dX) (dQ (CX1 P w) P w K mg base NN qual scope f cd A outer s H E).env=(false,eval e₀ (dQ (CX1 P w) P w K mg base NN qual scope f cd A outer s H E).env)::starEach dX (dQ (CX1 P w) P w K mg base NN qual scope f cd A outer s H E).env:=by rfl)
    (hpl:(backTo cpos (starEach dX (dQ (CX1 P w) P w K mg base NN qual scope f cd A outer s H E).env)).any (·.1)=false:=by rfl) (hdb:(x==("__debug__":Str))=false:=by decide) :
    PS (dQ (CX1 P w) P w K mg base NN qual scope f cd A outer s H E) (.Raise (some (.Call (.Name x np) (e₀::dX) [] cpos)) none pos) (rO E C sp ta):=by
 obtain⟨fI,fd,O,kp,F,b⟩:=m.ex
 exact uP O kp F b hr hg ha he hpl hdb
def lA (K:W.Frag) (fl:Str):Sp:=fun vs H Q _=>∃(e C l:Addr) (xs:List V),vs=[.ref e,.ref l]/\H e=some (fX e C none)/\H l=some (.lst xs)/\XSet K C fl /\
 ∀r d,H r=none->H d=none->r≠d->Q .non (upd (upd (upd H r (.lst xs)) d (.xd [(fl,.ref r)])) e (fX e C (some d)))
theorem rB {E:XK}{C l e:Addr}{fl:Str}{xs:List V}{H1:Hp}(hl:H1 l=some (.lst xs)) (Z:XSet K C fl) (he:H1 e=none) (k:∀r d H',Same H1 H'->H1 r=none->H1 d=none->H' r=some (.lst xs)->H' d=some (.xd [(fl,.ref r)])->E (.ref C) (some d) H') :
    lA K fl [.ref e,.ref l] (upd H1 e (fX e C none)) (fun v H2=>v=.non/\∃dd,H2 e=some (fX e C dd)/\E (.ref C) dd (del H2 e)) E0:=by
 have hle:l≠e:=cO hl he
 refine⟨e,C,l,xs,rfl,cE,by rw[cJ hle];exact hl,Z,fun r d hr hd hrd=>⟨rfl,some d,cE,?_⟩⟩
 have hre:r≠e:=fun z=>by rw[z,cE] at hr;cases hr
 have hde:d≠e:=fun z=>by rw[z,cE] at hd;cases hd
 rw[cJ hre] at hr
 rw[cJ hde] at hd
 refine k r d _ (fun b o hb=>?_) hr hd ?_ ?_
 ·have n1:b≠e:=cO hb he
  rw[nG n1,cJ n1,cJ (cO hb hd),cJ (cO hb hr),cJ n1];exact hb
 ·rw[nG hre,cJ hre,cJ hrd,cE]
 ·rw[nG hde,cJ hde,cE]
end
def Cx.catch (X:Cx) (pins:List (Addr × Obj)) (σ:St) (E:XK):Cx:={ X with pn:=X.pn++pins,xe:=fun ev s'=>∃H1 s1,Inv X pins σ H1 s1/\CX1 X.prog X.w X.stack H1 s1 E ev s' }
section
variable {X:Cx}{pins pins':List (Addr × Obj)}{σ σ0:St}{H:Hp}{s:Shared}{E:XK}
theorem Cx.Ok.catch (ok:X.Ok):(X.catch pins σ0 E).Ok :=
 ⟨ok.mod,ok.kind,ok.glob,ok.blt,ok.above,ok.inj,ok.has,ok.cab,ok.hd,ok.frames,ok.stk,ok.exf,ok.bs,ok.bsz,ok.noex,ok.exfs,ok.funs,ok.frf⟩
theorem Inv.catch (I:Inv X pins σ H s):Inv (X.catch pins σ0 E) [] σ H s :=
 ⟨I.ok.catch,I.os,I.bare,I.base,I.loc,I.cell,I.free,I.freeC,fun p hp=>I.pin p (by rw[aS] at hp;exact hp),I.hok,I.len⟩
theorem Inv.ofCatch (ok:X.Ok) (I:Inv (X.catch pins σ0 E) pins' σ H s):Inv X pins σ H s :=
 ⟨ok,I.os,I.bare,I.base,I.loc,I.cell,I.free,I.freeC,fun p hp=>I.pin p (bH _ hp),I.hok,I.len⟩
theorem Inv.okC (I:Inv (X.catch pins σ0 E) pins' σ H s):X.Ok :=
 ⟨I.ok.mod,I.ok.kind,I.ok.glob,I.ok.blt,I.ok.above,I.ok.inj,I.ok.has,I.ok.cab,I.ok.hd,I.ok.frames,I.ok.stk,I.ok.exf,I.ok.bs,I.ok.bsz,I.ok.noex,I.ok.exfs,I.ok.funs,I.ok.frf⟩
def zY (σ0:St) (sp:Sp) (E:XK) (t:TA):TE:=fun σ H Q=>t σ H fun vs H1=>σ=σ0/\sp vs H1 Q E
theorem zC {x:Str}{ps:List Str}{sp:Sp}{k:Nat}{p pos:Pos}{e:Expr}{es:List Expr}{t:TA}(c:CalX X.prog X.w X.K X.mg X.base k x ps sp) (hr:Room k X.A) (hg:Gl X x) (ha:PA (X.catch pins σ0 E) (e::es) t)
    (he:starEach (e::es) X.env=(false,eval e X.env)::starEach es X.env:=by rfl) (hpl:(backTo pos (starEach es X.env)).any (·.1)=false:=by rfl) (hdb:(x==("__debug__":Str))=false:=by decide) :
    PE (X.catch pins σ0 E) (.Call (.Name x p) (e::es) [] pos) (zY σ0 sp E t):=by
 intro pins' s σ H Q I h
 obtain⟨f,fd,F,mf,kp,b⟩:=c.ex
 refine cp (ju (X:=X.catch pins σ0 E) I hg mf ?_ hdb)
 refine W.callWith_K (h₀:=X.base) I.ok.mod.kin kp (thn (ha pos pins' s σ H _ I h) fun us s1 ⟨vs,H1,I1,r,hσ,q⟩=>⟨I1.kIn,?_⟩) he hpl
 subst hσ
 have hl:(us++[]).length=ps.length:=by rw[aS,<- r.length];exact F.len _ _ _ _ q
 refine wpAny_call (codeAny_mono (F.run X.A X.stack s1 H1 ⟨us,[]⟩ (us++[]) vs Q E hr I1.env0 (b s1 us I1.kIn hl) (by rw[aS];exact r) q) fun r s' hq=>?_)
 cases r with
 | error ev=>exact⟨H1,s1,I1.ofCatch I.okC,hq⟩
 | ok fl =>
  cases fl with
  | ret u=>exact I1.after hq
  | next=>exact False.elim hq
  | brk=>exact False.elim hq
  | cont=>exact False.elim hq
def Bx (base:Heap) (Dc:Addr) (i:Nat) (th:TS) (D:Ends) (σ:St):XK:=fun cls dd H2=>∃C bm,cls=.ref C/\XAt base C bm/\(Value.ref C::bm).contains (.ref Dc)=true/\∀a,H2 a=none ->
    th { nx:=fun σ' H'=>D.nx (σ'.set i none) H',rt:=D.rt,bk:=fun σ' H'=>D.bk (σ'.set i none) H',ct:=fun σ' H'=>D.ct (σ'.set i none) H' } (σ.set i (some (.ref a))) (upd H2 a (ja a C dd))
def Be (base:Heap) (tb:St->XK->TS) (Dc:Addr) (i:Nat) (th:TS):TS:=fun D σ H=>tb σ (Bx base Dc i th D σ) D σ H
theorem y3 {Dc:Addr}{bmD:List Value}{Dn n:Str}{i:Nat}{q hpos tpos:Pos}{body:List Stmt}{tb:St -> XK -> TS}{b₀:Stmt}{suite:List Stmt}{th:TS}
    (hb:∀pins σ E,PSs (X.catch pins σ E) body (tb σ E)) (hst:X.stack=X.env::X.outer) (hfr:X.env.frame=some X.env.locals) (hgD:Gl X Dn) (hmD:X.mg Dn=some (.ref Dc)) (hD:XAt X.base Dc bmD) (hDb:bmD.contains (.type "BaseException")=true)
    (hN:X.N.Nodup) (hi:X.N[i]? = some n) (hl:X.env.scope.names.lookup n=some .local) (hs:∀a xe,PSs (X.mark (.ref a) xe) (b₀::suite) th) (hdD:(Dn==("__debug__":Str))=false:=by decide) :
    PS X (.Try body [.ExceptHandler (some (.Name Dn q)) (some n) (b₀::suite) hpos] [] [] tpos) (Be X.base tb Dc i th):=by
 intro pins s σ H D I h
 refine wpAny_Try_except (bj (hb pins σ _ [] s σ H D I.catch h) (fun fl s' hq=>?_) fun ev s' hq=>?_)
 ·have ok:=I.ok
  cases fl with
  | next =>
   obtain⟨σ',H',I',q'⟩:=hq
   exact wpAny_execs_nil ⟨σ',H',I'.ofCatch ok,q'⟩
  | brk =>
   obtain⟨σ',H',I',q'⟩:=hq
   exact⟨σ',H',I'.ofCatch ok,q'⟩
  | cont =>
   obtain⟨σ',H',I',q'⟩:=hq
   exact⟨σ',H',I'.ofCatch ok,q'⟩
  | ret u =>
   obtain⟨v,σ',H',I',r',q'⟩:=hq
   exact⟨v,σ',H',I'.ofCatch ok,r',q'⟩
 ·obtain⟨H1, s1, I1, a, cls, dq, B, H', rfl, os, bare, un, hok, fl, hna, TB, KB, AB, C, bm, rfl, hC, hin, hq2⟩ := hq
  have fl':XF B (X.env::X.outer) a (.ref C) dq .none s'.heap:=hst ▸ fl
  have ne1:s1.heap.get? a=none := by
   cases z:s1.heap.get? a with
   | none=>rfl
   | some ob =>
    by_cases hb:a∈frs X.stack
    ·obtain⟨_,o1,g1,g2⟩:=fl.2.2.1.mem hb
     obtain⟨oe,vs',he',hd'⟩:=fl.rec
     rw[g1] at he';cases he'
     exact absurd hd' (g2 vs')
    ·obtain⟨o',e'⟩:=AB a ob z hb
     have:=fl.2.1
     rw[e'] at this;cases this
  have hfrm:X.A.frames=some (X.env::X.outer):=hst ▸ I.ok.frames
  refine yw hfrm hfr fl' fun h4 f4 sm4=>?_
  refine pL (s:={ s' with heap:=h4 }) f4 fun h5 f5 sm5=>?_
  have I5:Inv X pins σ H' { s' with heap:=h5 }:=sG I1 hst hfr os bare un hok (hst ▸ f5) (sm4.trans sm5) TB KB AB
  refine wpAny_handleBy_cons (codeAny_handlers_test (ju (X:=X.mark (.ref a) (fun _ _=>False)) I5.mark hgD hmD ?_ hdD)) (by intro z;cases z)
  obtain⟨oe,ge,gc,_⟩:=f5.there
  obtain⟨nm,qq,NN,bs,hdct,sn,sub,ab,col,dd,k0,k1,k2,k3,k5,newId,gC⟩:=hC
  obtain⟨nm',qq',NN',bs',hdct',sn',sub',ab',col',dd',j0,j1,j2,j3,j5,newId',gD⟩:=hD
  refine rE (I5.bk _ _ gC) ge gc (I5.bk _ _ gD) hDb hin (codeAny_handlers_suite_as (pL (s:={ s' with heap:=h5 }) f5 fun h6 f6 sm6=>?_))
  have I6:Inv X pins σ H' { s' with heap:=h6 }:=sG I1 hst hfr os bare un hok (hst ▸ f6) ((sm4.trans sm5).trans sm6) TB KB AB
  obtain⟨o6,g6,c6,d6⟩:=f6.there
  have n6:W.notCls o6=true:=by
   obtain⟨o7,vs7,g7,k7⟩:=f6.rec
   have z7:=am (g7.symm.trans g6)
   rw[<- z7]
   unfold W.notCls
   rw[k7]
  have I7:Inv X pins σ (upd H' a (ja a C dq)) { s' with heap:=h6 }:=Inv.track I1 I6 ne1 hna ⟨⟨o6,g6,c6,d6,n6⟩,⟨o6,g6⟩,fun h1 h2 ⟨o,e1,e2⟩ z=>⟨o,z o e1,e2⟩⟩
  refine i6 (v:=.ref a) I7 hN hi (.inl hl) rfl (fun s8 I8=>?_) (.inr hl)
  refine bj (hs a _ pins s8 _ _ _ I8.mark (hq2 a hna)) (fun fl s9 h9=>?_) fun ev s9 h9=>h9
  cases fl with
  | next =>
   obtain⟨σ',H9,I9,q9⟩:=h9
   exact nE (I9.unmark I.ok) hN hi hl fun s' I'=>⟨_,_,I',q9⟩
  | brk =>
   obtain⟨σ',H9,I9,q9⟩:=h9
   exact nE (I9.unmark I.ok) hN hi hl fun s' I'=>⟨_,_,I',q9⟩
  | cont =>
   obtain⟨σ',H9,I9,q9⟩:=h9
   exact nE (I9.unmark I.ok) hN hi hl fun s' I'=>⟨_,_,I',q9⟩
  | ret u =>
   obtain⟨v,σ',H9,I9,r9,q9⟩:=h9
   exact nE (I9.unmark I.ok) hN hi hl fun s' I'=>⟨v,_,_,I',r9,q9⟩
end
section
variable {X:Cx}{p pos:Pos}{e:Expr}{t:TA}
theorem ou (K:W.Frag) (hK:X.K=K:=by rfl):SlR X (Ai K):=hK ▸ uD
end
end L2
namespace L2
open PySem PySem.Spec PyProof.Rows PySem.W
def up1 (c:Nat):Nat:=if 97<=c/\c<=122 then c-32 else c
end L2
namespace L2
open PySem PySem.Spec PyProof.Rows
namespace SU
theorem entry_loop:entryFor table "set.update.loop"=some Builtin.«set.update.loop»:=entryFor_of_tree (by kernel_rfl)
theorem plain_loop:plainId "set.update.loop"=true:=by decide +kernel
end SU
def Ba (K:W.Frag) (ta:TA):TI:=fun σ H R=>ta σ H fun vs H1=>∃a b xs ys,vs=[.ref a,.ref b]/\SqT K H1 a xs/\SqT K H1 b ys/\R (tV K a b) H1
theorem rC {P:Program}{w:World}{K:W.Frag}{elts:List Expr}{x1}{tp:Pos}(a b z TI TO i1 i2:Addr) (D:ZipApart z TI TO i1 i2 a b) :
    Turn P w K (.Tuple elts x1 tp) (tV K a b) [z,TI,TO,i1,i2] z (fun i h=>(∃f0 f1,F0 f0/\Zp h z TI TO f0 f1)/\IsPair h TI (.ref i1) (.ref i2)/\(∃c d,IsPair h TO c d)/\h.IsTupleIter i1 a i/\h.IsTupleIter i2 b i) :=
 mQ (t1:=true) (t2:=true) a b z TI TO i1 i2 D
theorem u4 (K:W.Frag) {X:Cx}{elts:List Expr}{x1}{tp:Pos}{a b:Expr}{ta:TA}{p pos:Pos}(hg:Gl X "zip") (hm:X.mg "zip"=none) (ha:PA X [a,b] ta) (hs:starEach [a,b] X.env=(false,eval a X.env)::starEach [b] X.env:=by rfl) (hpl:(backTo pos (starEach [b] X.env)).any (·.1)=false:=by rfl) (hK:X.K=K:=by rfl) :
    PI X (.Tuple elts x1 tp) (.Call (.Name "zip" p) [a,b] [] pos) (Ba K ta):=by
 subst hK
 intro pins s σ H R I h
 refine Call_ (iy I hg hm (show bootBuiltins "zip"=some (.type "zip") by decide +kernel) (PyProof.Rows.callWith_type1 (thn (ha pos pins s σ H _ I h) fun us s1 ⟨vs,H1,I1,r1,q1⟩=>?_) hs hpl))
 obtain⟨l1,l2,xs,ys,e,hqa,hqb,q⟩:=q1
 subst e
 obtain⟨u1,u2,rfl,r1,r2⟩:=ir r1
 cases r1
 cases r2
 obtain⟨its,rv,pa,_⟩:=I1.tuple hqa
 obtain⟨jts,rw',pb,_⟩:=I1.tuple hqb
 have a1:l1<s1.heap.objs.size:=by obtain⟨_,e,_⟩:=pa;exact ag e
 have a2:l2<s1.heap.objs.size:=by obtain⟨_,e,_⟩:=pb;exact ag e
 refine tM (show s1.heap.IsTuple l1 its.toArray from pa) (show s1.heap.IsTuple l2 jts.toArray from pb) fun h' hz hTI hTO hi1 hi2 hk=>?_
 have T:=rC (P:=X.prog) (w:=X.w) (K:=X.K) (elts:=elts) (x1:=x1) (tp:=tp) l1 l2 _ _ _ _ _ (zipApart_new a1 a2)
 have t0:(∃f0 f1,F0 f0/\Zp h' (s1.heap.objs.size+4) (s1.heap.objs.size+2) (s1.heap.objs.size+3) f0 f1)/\IsPair h' (s1.heap.objs.size+2) (.ref s1.heap.objs.size) (.ref (s1.heap.objs.size+1))/\(∃c d,IsPair h' (s1.heap.objs.size+3) c d)/\h'.IsTupleIter s1.heap.objs.size l1 0/\h'.IsTupleIter (s1.heap.objs.size+1) l2 0:=⟨⟨_,_,.inl rfl,hz⟩,hTI,⟨_,_,hTO⟩,hi1,hi2⟩
 refine T.self X.A 0 { s1 with heap:=h' } _ _ t0 ?_
 refine⟨_,_,_,_,H1,rfl,I1.kept (t':=s1.toks) hk,T,t0,fun b hb=>?_,q⟩
 have hb:b=s1.heap.objs.size+4∨b=s1.heap.objs.size+2∨b=s1.heap.objs.size+3∨b=s1.heap.objs.size∨b=s1.heap.objs.size+1:=by simpa using hb
 have hle:s1.heap.objs.size<=b:=by rcases hb with e | e | e | e | e <;> rw[e] <;> first | exact ac _ | exact Nat.le_add_right _ _
 exact I1.fpOk hle (I1.hok.fresh hle)
theorem tS {K:W.Frag}{k:Nat}{fr:List Nat}{g:TG}{tc:TT}{te:TE}{σ:St}{H1:Hp}{Q:VK}{a b:Addr}(xs ys:List V) (Pv:Addr -> Nat -> List V -> St -> Hp -> Prop)
    (h:∀D,H1 D=none->Pv D 0 [] (hV k fr σ) (upd H1 D (.lst []))/\(∀i acc σ' H',i<=(xs.zip ys).length->Pv D i acc σ' H'->H' D=some (.lst acc)->SqT K H' a xs/\SqT K H' b ys) /\
     (∀i acc σ' H' x y p,(xs.zip ys)[i]? = some (x,y)->Pv D i acc σ' H'->H' D=some (.lst acc)->H' p=none->g (.ref p) σ' (upd H' p (.tup [x,y])) fun σ2 H3=>tc σ2 H3 fun b H4 =>
      if b=true then te σ2 H4 fun y H5=>H5 D=some (.lst acc)/\acc.length<sizeLine/\Pv D (i+1) (acc++[y]) σ2 (upd H5 D (.lst (acc++[y]))) else H4 D=some (.lst acc)/\Pv D (i+1) acc σ2 H4) /\
     ∀acc σ' H',Pv D (xs.zip ys).length acc σ' H'->H' D=some (.lst acc)->Q (.ref D) H'):gw k fr g tc te (tV K a b) σ H1 Q:=by
 intro D hD
 obtain⟨h0,hok,hs,hd⟩:=h D hD
 refine⟨fun i m acc σ' H'=>m=(xs.zip ys).length-i/\i<=(xs.zip ys).length/\Pv D i acc σ' H',⟨(xs.zip ys).length,by simp,aP _,h0⟩,?_⟩
 rintro i m acc σ' H' ⟨rfl,hi,p⟩ hacc
 obtain⟨oka,okb⟩:=hok i acc σ' H' hi p hacc
 have hl:(xs.zip ys).length=min xs.length ys.length:=bx
 by_cases hlt:i<(xs.zip ys).length
 ·refine .inr ⟨⟨xs,ys,xs[i]'(by omega),ys[i]'(by omega),oka,okb,by simp,by simp⟩,Pv D (i+1),fun acc' σ2 H2 p'=>⟨(xs.zip ys).length-(i+1),by omega,rfl,hlt,p'⟩,fun v H2 yl=>?_⟩
  obtain⟨q,x,y,hq,rfl,hx,hy,rfl⟩:=yl
  refine hs i acc σ' H' x y q ?_ p hacc hq
  rw[bq]
  exact⟨hx xs oka,hy ys okb⟩
 ·have e:i=(xs.zip ys).length:=by omega
  subst e
  exact .inl ⟨⟨xs,ys,oka,okb,by omega⟩,hd acc σ' H' p hacc⟩
def iSeq (K:W.Frag) (tl:TE):TI:=fun σ H R=>tl σ H fun x H1=>∃a,x=.ref a/\((∃xs,SqL K H1 a xs)/\R (Itl K a) H1∨(∃xs,SqT K H1 a xs)/\R (Itt K a) H1)
theorem oy (K:W.Frag) {X:Cx}{tg l:Expr}{tl:TE}(hl:PE X l tl) (hK:X.K=K:=by rfl):PI X tg l (iSeq K tl):=by
 subst hK
 intro pins s σ H R I h
 refine thn (hl pins s σ H _ I h) fun v s1 ⟨x,H1,I1,r1,q1⟩=>?_
 obtain⟨a,e,q⟩:=q1
 subst e
 cases r1
 have fp:∀b∈[s1.heap.objs.size],hU X pins H1 b:=fun b hb=>by
  have e:b=s1.heap.objs.size:=by simpa using hb
  subst e
  exact I1.fpOk (ac _) (I1.hok.fresh (ac _))
 rcases q with⟨⟨xs,hq⟩,q⟩ | ⟨⟨xs,hq⟩,q⟩
 ·obtain⟨its,rv,p,hz⟩:=I1.list hq
  exact wpAny_pyIter_list p.isList ⟨s1.heap.objs.size,[s1.heap.objs.size],_,_,H1,rfl,I1.kept (t':=s1.toks) fun b o e=>ai _ e,oK a _,⟨_,aA _ rfl,rfl,rfl⟩,fp,q⟩
 ·obtain⟨its,rv,p,hz⟩:=I1.tuple hq
  exact bI (show s1.heap.IsTuple a its.toArray from p) ⟨s1.heap.objs.size,[s1.heap.objs.size],_,_,H1,rfl,I1.kept (t':=s1.toks) fun b o e=>ai _ e,ko a _,⟨_,aA _ rfl,rfl,rfl⟩,fp,q⟩
theorem qo {K:W.Frag}{k:Nat}{fr:List Nat}{g:TG}{tc:TT}{te:TE}{σ:St}{H1:Hp}{Q:VK}{a:Addr}(xs:List V) (Pv:Addr -> Nat -> List V -> St -> Hp -> Prop) (ha:SqA H1 a xs)
    (h:∀D,H1 D=none->Pv D 0 [] (hV k fr σ) (upd H1 D (.lst []))/\(∀i acc σ' H',i<=xs.length->Pv D i acc σ' H'->H' D=some (.lst acc)->H' a=H1 a) /\
     (∀i acc σ' H' x,xs[i]? = some x->Pv D i acc σ' H'->H' D=some (.lst acc)->g x σ' H' fun σ2 H3=>tc σ2 H3 fun b H4 =>
      if b=true then te σ2 H4 fun y H5=>H5 D=some (.lst acc)/\acc.length<sizeLine/\Pv D (i+1) (acc++[y]) σ2 (upd H5 D (.lst (acc++[y]))) else H4 D=some (.lst acc)/\Pv D (i+1) acc σ2 H4) /\
     ∀acc σ' H',Pv D xs.length acc σ' H'->H' D=some (.lst acc)->Q (.ref D) H'):(∃xs,SqL K H1 a xs)/\gw k fr g tc te (Itl K a) σ H1 Q∨(∃xs,SqT K H1 a xs)/\gw k fr g tc te (Itt K a) σ H1 Q:=by
 rcases ha with ha | ha
 ·exact .inl ⟨⟨xs,.of ha⟩,gs xs Pv fun D hD=>let ⟨h0,h1,h2,h3⟩:=h D hD;⟨h0,fun i acc σ' H' hi p q=>.of ((h1 i acc σ' H' hi p q).trans ha),h2,h3⟩⟩
 ·exact .inr ⟨⟨xs,.of ha⟩,fj xs Pv fun D hD=>let ⟨h0,h1,h2,h3⟩:=h D hD;⟨h0,fun i acc σ' H' hi p q=>.of ((h1 i acc σ' H' hi p q).trans ha),h2,h3⟩⟩
def KD (P:Program) (w:World) (K:W.Frag) (a:Addr) (vs:List (Key × Value)):Prop :=
 (a==sysModules)=false/\∃o es ep,K.lookup a=some o/\o.ExactDict/\o.data=.dict es ep/\KeysOf (dU P w) es/\Pairs (dU P w) es.toList vs/\(vs.map (·.1)).Nodup
theorem KD.dict {P:Program}{w:World}{K:W.Frag}{a:Addr}{vs:List (Key × Value)}{h:Heap}(k:KD P w K a vs) (X:K.In h):h.DictOf (dU P w) a vs :=
 let ⟨_,o,es,ep,e,r⟩:=k;⟨o,es,ep,X a o e,r⟩
section
variable {X:Cx}
theorem tQ {vs:List (Key × Value)}{a:Addr}(k:KD X.prog X.w X.K a vs):OpR X (compareOp .NotIn) (fun x y H Q=>∃z,x=kV z/\y=.ref a/\Q (.bl (!(valueAt vs z).isSome)) H):=by
 intro pins s σ H x y v u Q I rx ry ⟨z,ex,ey,q⟩
 subst ex;subst ey
 cases ry
 exact wpAny_notIn_of (iK rx) k.1 (k.dict I.kIn).mapOf ⟨.bl _,H,I.tok _,rfl,q⟩
theorem yr {vs:List (Key × Value)}{a:Addr}(k:KD X.prog X.w X.K a vs):IxR X (fun x y H Q=>∃z v u,x=.ref a/\y=kV z/\valueAt vs z=some v/\RelV u v/\Q u H):=by
 intro value slice pins s σ H x y v u Q I rx ry ⟨z,v',u',ex,ey,hv,rv,q⟩ hs
 subst ex;subst ey
 cases rx
 have dd:=k.dict I.kIn
 exact tail_any dd.typeIs PySem.F.slot_dict_getitem.lookup (wpAny_getItem_of (iK ry) dd.mapOf hv ⟨_,H,I.tok _,rv,q⟩) hs
end
section
variable {X:Cx}
def rNil (K:W.Frag) (neg:Bool):V->V->Hp->VK->Prop:=fun x y H Q=>∃a b xs,x=.ref a/\y=.ref b/\SqL K H a xs/\H b=some (.lst [])/\Q (.bl (if neg then !xs.isEmpty else xs.isEmpty)) H
theorem xk (K:W.Frag) (hu:X.A.units+64<cLine) (hK:X.K=K := by rfl):OpR X (compareOp .NotEq) (rNil K true) := by
 subst hK
 intro pins s σ H x y v u Q I rx ry h
 obtain⟨a,b,xs,rfl,rfl,ha,hb,q⟩:=h
 cases rx
 cases ry
 obtain⟨its,rv,pl,hz⟩:=I.list ha
 obtain⟨jts,rw',pb,_⟩:=I.list (a:=b) (xs:=[]) (.of hb)
 cases rw'
 have l1:=rv.length
 cases xs with
 | nil =>
  cases rv
  obtain⟨o,e,c,n,d⟩:=pl.isList
  obtain⟨o2,e2,c2,n2,d2⟩:=pb.isList
  have za:Reads s.heap (.ref a) (.list []) _:=.list e c d (by simpa using ReadsAll.nil)
  have zb:Reads s.heap (.ref b) (.list []) _:=.list e2 c2 d2 (by simpa using ReadsAll.nil)
  exact ne_dataH za zb rfl rfl hu ⟨.bl _,H,I,rfl,q⟩
 | cons x r =>
  have hsz:(its.toArray.size != ([]:List Value).toArray.size)=true:=by
   rw[bne_iff_ne,aE,<- l1]
   simp
  exact nC pl.isList pb.isList hsz (by omega) ⟨.bl true,H,I,rfl,q⟩
end
def gK (a:Addr) (i n:Int):List (Key × V):=[(.inr "script",.ref a),(.inr "at",.int i),(.inr "left",.int n)]
def DPV (H:Hp) (p a:Addr):Prop:=∃(i n:Int),H p=some (.dK (gK a i n))/\0<=i/\0<=n
def DPen (K:W.Frag) (H:Hp) (p a:Addr):Prop:=(∃ns:List Int,∀H',But p H H'->SqL K H' a (ns.map V.int))/\DPV H p a
theorem DPen.but {K:W.Frag}{H H':Hp}{p a:Addr}(h:DPen K H p a) (b:But p H H') (v:DPV H' p a):DPen K H' p a:=⟨let ⟨ns,q⟩:=h.1;⟨ns,fun H2 b2=>q H2 (b.trans b2)⟩,v⟩
theorem DPV.upd {H:Hp}{p a D:Addr}{o:HO}(h:DPV H p a) (n:p≠D):DPV (L2.upd H D o) p a:=let ⟨i,m,e,q⟩:=h;⟨i,m,by rw[cJ n];exact e,q⟩
theorem DPV.ne {H:Hp}{p a D:Addr}(h:DPV H p a) (e:H D=none):p≠D:=let ⟨_,_,q,_⟩:=h;cO q e
theorem DPV.same {H H':Hp}{p a:Addr}(h:DPV H p a) (s:Same H H'):DPV H' p a:=let ⟨i,m,e,q⟩:=h;⟨i,m,s _ _ e,q⟩
theorem DPen.new {K:W.Frag}{H H':Hp}{p a:Addr}{ns:List Int}(h:SqL K H a (ns.map V.int)) (hp:H p=none) (s:Same H H') (v:DPV H' p a):DPen K H' p a := by
 refine⟨⟨ns,fun H2 b=>?_⟩,v⟩
 rcases h with h | h
 ·have n:a≠p:=by
     rcases h with h | ⟨ob,h⟩
     ·exact cO h hp
     ·exact cO h hp
  exact SqL.but (fun c o' n' e=>b c o' n' (s c o' e)) n (.inl h)
 ·exact .inr h
theorem mR {H:Hp}{p a:Addr}{i n:Int}(h:H p=some (.dK (gK a i n))):DGet H p (.str "script") (some (.ref a)):=DGet.k (k:=.inr "script") h
theorem AA {H:Hp}{p a:Addr}{i n:Int}(h:H p=some (.dK (gK a i n))):DGet H p (.str "at") (some (.int i)):=DGet.k (k:=.inr "at") h
theorem pW {H:Hp}{p a:Addr}{i n:Int}(h:H p=some (.dK (gK a i n))):DGet H p (.str "left") (some (.int n)):=DGet.k (k:=.inr "left") h
theorem AQ {H:Hp}{p a:Addr}{i n j:Int}(h:H p=some (.dK (gK a i n))):DPut H p (.str "at") (.int j) (upd H p (.dK (gK a j n))):=DPut.k (k:=.inr "at") h (by show 3<sizeLine;decide)
theorem vL {H:Hp}{p a:Addr}{i n j:Int}(h:H p=some (.dK (gK a i n))):DPut H p (.str "left") (.int j) (upd H p (.dK (gK a i j))):=DPut.k (k:=.inr "left") h (by show 3<sizeLine;decide)
def m7 (K:W.Frag):Sp:=fun vs H Q _=>∃(p a:Addr) (m:Int),vs=[.ref p,.int m]/\DPen K H p a/\0<m/\m<1073741824/\∀r H',0<=r->r<m->DPV H' p a->But p H H'->Q (.int r) H'
end L2
open PySem
namespace PySem.SeqAt
theorem tuple_indexAt (l:Addr) (items:Array Value) (n:Nat) (dd:Option Addr) (sl:Array (Option Value)) (x:Value) (e:Value -> Bool) (j:Nat) (hj:j<items.size)
    (hit:e items[j]=true) (hno:∀m (hm:m<items.size),m<j->e items[m]=false) :
    Meets (Builtin.«tuple.index» ⟨[.ref l,x],[]⟩)
     (fun A R s=>s.heap.get? l=some { cls:=.type "tuple",dict:=dd,data:=.seq items n,slots:=sl }/\(∀y,y∈items->EqAt A.in1 s y x (e y))/\R (.ok (.ret (.int j s.toks))) { s with toks:=s.toks+1 }) :=
 .of_wp fun prog w A R s h => by
  obtain⟨hp,g,d,tk,os⟩:=s;obtain⟨hl,he,h⟩:=h
  unfold Builtin.«tuple.index»
  simp only[Std.Legacy.Range.forIn_eq_forIn_range']
  wp_walk using wpAny_loadPart' hl,wpAny_forIn_list _ (fun dX b s'=>b.1=none/\s'=⟨hp,g,d,tk,os⟩/\∃i,i<=j/\dX=List.range' i (items.size-i)) _
  ·rintro i dX ⟨b1,b2⟩ s' ⟨hb,rfl,k,hk,hr⟩
   have hlt:0<items.size-k:=by omega
   obtain⟨m,hm⟩:∃m,items.size-k=m+1:=⟨_,(Nat.succ_pred_eq_of_pos hlt).symm⟩
   rw[hm,List.range'_succ] at hr
   obtain⟨rfl,rfl⟩:=List.cons.inj hr
   have hi:items[i]? = some (items[i]'(by omega)):=by simp
   rw[hi]
   refine aa (he _ (Array.getElem_mem (by omega)) prog w _ _ ?_)
   by_cases q:i=j
   ·subst q
    rw[hit]
    wp_walk
    exact⟨_,rfl,h⟩
   ·rw[hno i (by omega) (by omega)]
    wp_walk
    refine⟨rfl,rfl,i+1,by omega,?_⟩
    rw[show items.size-(i+1)=m by omega]
  ·rintro⟨b1,b2⟩ s' ⟨hb,rfl,k,hk,hr⟩
   exfalso
   have:=congrArg List.length hr
   simp at this
   omega
  ·refine⟨rfl,rfl,0,aP _,?_⟩
   rw[Std.Legacy.Range.size]
   simp
end PySem.SeqAt
namespace L2
open PySem PySem.Spec PyProof.Rows
section
variable {X:Cx}
def oA:V->List V->Hp->VK->Prop:=fun x vs H Q=>∃l xs y j z,x=.ref l/\vs=[y]/\H l=some (.tup xs)/\gB y=true/\xs.all gB=true/\xs[j]? = some z/\eqV z y=true/\(∀(m:Nat) z',m<j->xs[m]? = some z'->eqV z' y=false)/\Q (.int ((j:Nat):Int)) H
theorem lg (a b:Value):argsOk "tuple.index" ⟨[a,b],[]⟩:=by
 unfold argsOk;rw[signature?_of (id:="tuple.index") (n:=['x','e','d','n','i']) (o:=['e','l','p','u','t']) (by kernel_rfl) F.owner_tuple];kernel_rfl
theorem uM:MtR X "tuple.index" oA:=by
 intro pins s σ H x vs v us Q I rx rv h
 obtain⟨l,xs,y,j,z,rfl,rfl,hH,fy,fs,hj,hz,hno,q⟩:=h
 cases rx
 obtain⟨u,rfl,ru⟩:=fZ rv
 obtain⟨zz,its,r,⟨oc,od,odt,osl⟩,e,hc,n,hd,_⟩:=(show ObjOk X.prog X.w H s.heap l (.tup xs) from I.hok l _ hH)
 simp only at hc hd
 subst hc hd
 have hjl:=(ah.mp hj).1
 have hlen:=r.length
 have look:∀m (hm:m<its.length),∃z',xs[m]? = some z'/\eqU y its[m]=eqV z' y:=fun m hm=>by
  obtain⟨z',hz',rz⟩:=xM r (aV hm)
  exact⟨z',hz',qI rz (bo.mp fs z' (au hz'))⟩
 have hjs:j<its.toArray.size:=by simpa using (by omega:j<its.length)
 refine call_meets F.slot_tuple_index ⟨_,e,rfl⟩ F.entry_tuple_index (lg _ _) (SeqAt.tuple_indexAt l its.toArray n _ _ u (eqU y) j hjs ?_ ?_) ⟨e,fun w hw=>ij ru fy r fs w (by simpa using hw),⟨.int _,H,?_,⟨_,rfl⟩,q⟩⟩
 ·obtain⟨z',h1,h2⟩:=look j (by omega)
  rw[hj] at h1
  cases h1
  simpa using h2.trans hz
 ·intro m hm hlt
  obtain⟨z',h1,h2⟩:=look m (by simpa using hm)
  simpa using h2.trans (hno m z' hlt h1)
 ·exact I.kept fun b o eb=>eb
end
theorem uz {X:Cx}(hc:X.calm=true) (hu:X.A.units+64<cLine) {pins:List (Addr × Obj)}{s:Shared}{σ:St}{H:Hp}{p:Addr}{xs:List V}{Q:VK}{oi:Nat->HO}(I:Inv X pins σ H s) (hq:H p=some (.tup xs)) (h0:oi 0=.dK [])
    (hgo:∀(i:Nat) (x:V),xs[i]? = some x->∃b k v,x=V.ref b/\SqT X.K H b [k,v]/\∀l,H l=none->DPut (upd H l (oi i)) l k v (upd H l (oi (i+1)))) (q:∀l,H l=none->Q (.ref l) (upd H l (oi xs.length))) :
    wpAny (model X.prog X.w) X.A (call (.type "dict") [.ref p]) (EP X pins σ Q) X.xe s:=by
 refine callType_codes (Q₁:=fun obj s₁=>obj=.ref s.heap.objs.size/\s₁={ s with heap:=s.heap.push { cls:=.type "dict",data:=.dict #[] } }) F.kt_called_dict (F.kt_typeCall_dict_1 _) F.entry_dict_init (kt_code_dict_new _ ⟨rfl,rfl⟩) ?_
 rintro obj s₁ ⟨rfl,rfl⟩
 have hl:H s.heap.objs.size=none:=I.hok.fresh (ac _)
 have npl:p≠s.heap.objs.size:=cO hq hl
 have I1:Inv X pins σ (upd H s.heap.objs.size (oi 0)) { s with heap:=s.heap.push { cls:=.type "dict",data:=.dict #[] } }:=by
  refine I.laid (a:=s.heap.objs.size) (o:=oi 0) (t':=s.toks) (fun _ _ q=>ai _ q) (ac _) ?_
  rw[h0];exact mL s.heap I.big
 have tD:(⟨s.heap.push { cls:=.type "dict",data:=.dict #[] },s.gens,s.drawn,s.toks,s.os⟩:Shared).TypeIs (.ref s.heap.objs.size) "dict":=⟨_,aA _ rfl,rfl⟩
 refine⟨tD,F.args_dict_init_2 _ _,?_⟩
 unfold Builtin.«dict.__init__» Builtin.Dict.selfAndRest
 refine aa (aa (wpAny_notOrdered_dict tD ?_))
 show wpAny _ _ (pure (s.heap.objs.size,[Value.ref p])) _ _ _
 refine af ?_
 show wpAny _ _ (Builtin.Dict.updateFrom "dict.__init__" s.heap.objs.size (.ref p) [] .none) _ _ _
 unfold Builtin.Dict.updateFrom
 have hA:X.A.in1.in1.handled=none:=I.ok.hd hc
 have hq1:upd H s.heap.objs.size (oi 0) p=some (.tup xs):=by rw[cJ npl];exact hq
 obtain⟨hz,its,rv,o,ho,hcl,n,hdt,hdn⟩:=(show ObjOk X.prog X.w _ _ p (.tup xs) from I1.hok p _ hq1)
 refine aa (wpAny_typeOf (T:="tuple") ⟨o,ho,hcl⟩ ?_)
 rw[if_pos (by decide)]
 refine aa (qd ho hcl hdt hdn hA fun h' tk kp=>?_)
 have I2:=I1.kept (h':=h') (t':=tk) kp
 refine aa (wpAny_rule (aa ?_))
 obtain⟨its2,rv2,pl2,hz2⟩:=I2.tuple (SqT.of hq1)
 refine bI pl2 ?_
 refine af ⟨plainId_quiet DU.plain_loop _,?_⟩
 have sqi:∀i,SqT X.K (upd H s.heap.objs.size (oi i)) p xs:=fun i=>.of (by rw[cJ npl];exact hq)
 refine wB (nm:="x") (tp:=default) (ko p h'.objs.size) hc hu s.heap.objs.size xs.length (fun i H'=>H'=upd H s.heap.objs.size (oi i)) (fun i H' hi e=>?_) (fun H' e=>?_) _ 0 0 _ _ rfl (aP _) (I2.kept (t':=tk) fun b o e=>ai _ e) (fun b hb=>?_) ⟨_,aA _ rfl,rfl,rfl⟩ rfl fun H' s' I' e=>?_
 ·subst e
  refine⟨⟨xs,xs[i],sqi i,aV hi⟩,fun x H1 ⟨e1,e2⟩=>?_⟩
  subst e1
  obtain⟨b,k,v,ex,sq,dp⟩:=hgo i x (e2 xs (sqi i))
  exact⟨b,k,v,_,ex,sq.fresh hl,dp _ hl,rfl⟩
 ·subst e
  exact⟨xs,sqi _,ac _⟩
 ·have e:b=h'.objs.size:=by simpa using hb
  subst e
  exact I2.fpOk (ac _) (I2.hok.fresh (ac _))
 ·subst e
  exact⟨rfl,.ref _,_,I',rfl,q _ hl⟩
def qL (K:W.Frag):List V->Hp->VK->Prop:=fun vs H Q=>∃p xs,∃ps:List (Key × V),vs=[.ref p]/\H p=some (.tup xs)/\xs.length=ps.length/\xs.length<=1000 /\
 (∀(i:Nat) (q:Key × V) (x:V),ps[i]? = some q->xs[i]? = some x->∃b,x=V.ref b/\SqT K H b [kV q.1,q.2])/\∀l,H l=none->Q (.ref l) (upd H l (.dK (mkK ps)))
section
variable {X:Cx}{p pos:Pos}{e:Expr}{t:TA}
theorem lj (K:W.Frag) (hc:X.calm=true) (hu:X.A.units+64<cLine) (B:Blt X.mg) (ha:PA X [e] t) (hg:Gl X "dict":=by rfl) (he:starEach [e] X.env=(false,eval e X.env)::starEach [] X.env:=by rfl) (hpl:(backTo pos (starEach [] X.env)).any (·.1)=false:=by rfl) (hK:X.K=K:=by rfl) :
    PE X (.Call (.Name "dict" p) [e] [] pos) (tCB (qL K) t):=by
 subst hK
 refine iC (r:=qL X.K) (fun pins s σ H xs us Q I r h=>?_) hg B.dict (show bootBuiltins "dict"=some (.type "dict") by decide +kernel) ha (by decide) (by decide) he hpl
 obtain⟨p,xs,ps,rfl,hq,hl,hz,hp,q⟩:=h
 obtain⟨u,rfl,ru⟩:=fZ r
 cases ru
 have sz:1000<sizeLine:=by decide
 refine uz hc hu (oi:=fun i=>.dK (mkK (ps.take i))) I hq rfl (fun i x hx=>?_) fun l hl'=>?_
 ·have hi:i<ps.length:=by rw[<- hl];exact(ah.mp hx).1
  obtain⟨b,ex,sq⟩:=hp i ps[i] x (aV hi) hx
  refine⟨b,kV ps[i].1,ps[i].2,ex,sq,fun l hl'=>?_⟩
  have d:=DPut.k (H:=upd H l (.dK (mkK (ps.take i)))) (a:=l) (kvs:=mkK (ps.take i)) (k:=ps[i].1) (v:=ps[i].2) cE (by have:=Az (ps.take i);rw[aL] at this;omega)
  rw[nQ,<- xL ps i ps[i] (aV hi)] at d
  exact d
 ·rw[hl,List.take_length]
  exact q l hl'
end
end L2
namespace L2
open PySem
abbrev Kn:=List (Str × List Str)
def dJ (ks:Kn):List Str:=ks.flatMap (·.2)
def dN (ks:Kn) (u:Str):Str:=((ks.find? fun k=>decide (u∈k.2)).map (·.1)).getD ""
theorem mZ {xs ys:List Str}(nd:xs.Nodup) (h:∀x∈xs,x∈ys):xs.length<=ys.length:=by
 induction xs generalizing ys with
 | nil=>exact aP _
 | cons x xs ih =>
  rw[ba] at nd
  have hx:=h x (by simp)
  have p:=(List.perm_cons_erase hx).length_eq
  rw[aF] at p ⊢
  have:=ih (ys:=ys.erase x) nd.2 fun z hz=>(List.mem_erase_of_ne (fun q:z=x=>nd.1 (q ▸ hz))).mpr (h z (aK _ hz))
  omega
structure Tre (us:List Str) (ks:Kn):Prop where
 perm:(dJ ks).Perm us
 nd:us.Nodup
 nm:∀u∈us,Nm u
 len:us.length<=60
 top:("":Str)∈ks.map (·.1)
 kn:(ks.map (·.1)).Nodup
 sub:∀k∈ks,k.1=""∨k.1∈us
 up:∀k∈ks,∀u∈k.2,k.1=""∨MG.ix us k.1<MG.ix us u
section
variable {us:List Str}{ks:Kn}
theorem Tre.knd (T:Tre us ks):(dJ ks).Nodup:=T.perm.nodup_iff.mpr T.nd
theorem Tre.has (T:Tre us ks) {u:Str}(h:u∈us):∃k∈ks,u∈k.2:=by
 have:=T.perm.mem_iff.mpr h
 exact bQ.mp this
theorem Tre.isIn (T:Tre us ks) {k:Str × List Str}{u:Str}(hk:k∈ks) (hu:u∈k.2):u∈us:=T.perm.mem_iff.mp (bQ.mpr ⟨k,hk,hu⟩)
theorem iA:∀ {ks:Kn}, (dJ ks).Nodup -> ∀ {k k':Str × List Str}{u:Str}, k ∈ ks -> k' ∈ ks -> u ∈ k.2 -> u ∈ k'.2 -> k=k'
 | [],_,_,_,_,h,_,_,_=>by cases h
 | q :: ks, nd, k, k', u, h, h', hu, hu' => by
  have nd:(q.2++dJ ks).Nodup:=nd
  rw[bX] at nd
  obtain⟨_,n2,n3⟩:=nd
  rcases aB.mp h with e | g
  ·rcases aB.mp h' with e' | g'
   ·rw[e,e']
   ·subst e
    exact absurd rfl (n3 u hu u (bQ.mpr ⟨k',g',hu'⟩))
  ·rcases aB.mp h' with e' | g'
   ·subst e'
    exact absurd rfl (n3 u hu' u (bQ.mpr ⟨k,g,hu⟩))
   ·exact iA n2 g g' hu hu'
theorem rS:∀ {ks:Kn}, (ks.map (·.1)).Nodup -> ∀ {k k':Str × List Str}, k ∈ ks -> k' ∈ ks -> k.1=k'.1 -> k=k'
 | [],_,_,_,h,_,_=>by cases h
 | q :: ks, nd, k, k', h, h', e0 => by
  rw[aQ,ba] at nd
  rcases aB.mp h with e | g
  ·rcases aB.mp h' with e' | g'
   ·rw[e,e']
   ·subst e
    exact absurd (e0 ▸ ao.mpr ⟨k',g',rfl⟩) nd.1
  ·rcases aB.mp h' with e' | g'
   ·subst e'
    exact absurd (e0 ▸ ao.mpr ⟨k,g,rfl⟩) nd.1
   ·exact rS nd.2 g g' e0
theorem Tre.par (T:Tre us ks) {k:Str × List Str}{u:Str}(hk:k∈ks) (hu:u∈k.2):dN ks u=k.1:=by
 unfold dN
 cases q:ks.find? fun k=>decide (u∈k.2) with
 | none =>
  have:=List.find?_eq_none.mp q k hk
  exact absurd (ak hu) this
 | some k' =>
  have h1:=List.find?_some q
  have h2:=List.mem_of_find?_eq_some q
  rw[iA T.knd hk h2 hu (aM h1)];rfl
theorem Tre.par_in (T:Tre us ks) {u:Str}(h:u∈us):(dN ks u=""∨dN ks u∈us)/\dN ks u∈ks.map (·.1):=by
 obtain⟨k,hk,hu⟩:=T.has h
 rw[T.par hk hu]
 exact⟨T.sub k hk,ao.mpr ⟨k,hk,rfl⟩⟩
theorem Tre.kid (T:Tre us ks) {u:Str}{c:List Str}(h:u∈us) (hk:(dN ks u,c)∈ks):u∈c:=by
 obtain⟨k,hk',hu⟩:=T.has h
 rw[T.par hk' hu] at hk
 have:k=(k.1,c):=rS T.kn hk' hk rfl
 rw[this] at hu;exact hu
theorem Tre.few (T:Tre us ks):ks.length<=61:=by
 have:=mZ (ys:=""::us) T.kn fun x hx=>by
  obtain⟨k,hk,rfl⟩:=ao.mp hx
  rcases T.sub k hk with q | q
  ·rw[q];simp
  ·exact aK _ q
 rw[ae,aF] at this
 have:=T.len
 omega
def rkU (us:List Str) (u:Str):Nat:=if u="" then 0 else MG.ix us u+1
theorem Tre.nn (T:Tre us ks) {u:Str}(h:u∈us):u≠"":=fun z=>by
 have:=(T.nm u h).1
 rw[z] at this
 exact absurd this (by decide)
theorem Tre.rk (T:Tre us ks) {u:Str}(h:u∈us):rkU us (dN ks u)<rkU us u:=by
 obtain⟨k,hk,hu⟩:=T.has h
 rw[T.par hk hu]
 unfold rkU
 rw[if_neg (T.nn h)]
 rcases T.up k hk u hu with q | q
 ·rw[if_pos q];omega
 ·split
  ·omega
  ·omega
theorem Tre.rk60 (T:Tre us ks) {u:Str}(h:u∈us):rkU us u<=60:=by
 unfold rkU
 rw[if_neg (T.nn h)]
 have:=MG.ix_lt h
 have:=T.len
 omega
def mE (par:Str->Str):Nat->Str->List Str
 | 0,_=>[]
 | n+1,u=>if u="" then [] else mE par n (par u)++[u]
theorem Tre.stable (T:Tre us ks):∀(n m:Nat) (u:Str), u="" ∨ u ∈ us -> rkU us u<n -> rkU us u<m -> mE (dN ks) n u=mE (dN ks) m u
 | 0,_,_,_,h,_=>absurd h (Nat.not_lt_zero _)
 | _,0,_,_,_,h=>absurd h (Nat.not_lt_zero _)
 | n+1,m+1,u,hu,h1,h2=>by
  show (if u="" then [] else mE (dN ks) n (dN ks u)++[u])=(if u="" then [] else mE (dN ks) m (dN ks u)++[u])
  by_cases q:u=""
  ·rw[if_pos q,if_pos q]
  ·have hu:u∈us:=hu.resolve_left q
   have:=T.rk hu
   rw[if_neg q,if_neg q,T.stable n m (dN ks u) (T.par_in hu).1 (by omega) (by omega)]
def lin (ks:Kn) (u:Str):List Str:=mE (dN ks) 100 u
theorem zM:lin ks ""=[]:=rfl
theorem Tre.lin (T:Tre us ks) {u:Str}(h:u∈us):lin ks u=L2.lin ks (dN ks u)++[u]:=by
 have h1:=T.rk h
 have h2:=T.rk60 h
 show (if u="" then [] else mE (dN ks) 99 (dN ks u)++[u])=_
 rw[if_neg (T.nn h),T.stable 99 100 (dN ks u) (T.par_in h).1 (by omega) (by omega)];rfl
theorem Tre.lin_ind (T:Tre us ks) {P:Str -> Prop}(h0:P "") (h1:∀u ∈ us, P (dN ks u) -> P u):∀u:Str, u="" ∨ u ∈ us -> P u := by
 have go:∀n u, rkU us u<n -> u="" ∨ u ∈ us -> P u := by
  intro n
  induction n with
  | zero=>intro u h;omega
  | succ n ih =>
   intro u h hu
   by_cases q:u=""
   ·rw[q];exact h0
   ·have hu:=hu.resolve_left q
    have:=T.rk hu
    exact h1 u hu (ih _ (by omega) (T.par_in hu).1)
 intro u hu
 exact go _ u (Nat.lt_succ_self _) hu
theorem Tre.lin_in (T:Tre us ks):∀u:Str,u=""∨u∈us->∀z∈L2.lin ks u,z∈us:=by
 refine T.lin_ind (P:=fun u=>∀z∈L2.lin ks u,z∈us) (fun z hz=>by cases hz) fun u hu ih z hz=>?_
 rw[T.lin hu] at hz
 rcases aH.mp hz with q | q
 ·exact ih z q
 ·rw[aO.mp q];exact hu
theorem Tre.lin_len (T:Tre us ks):∀u:Str,u=""∨u∈us->(L2.lin ks u).length<=rkU us u:=by
 refine T.lin_ind (P:=fun u=>(L2.lin ks u).length<=rkU us u) (aP _) fun u hu ih=>?_
 rw[T.lin hu,aJ]
 have:=T.rk hu
 show _+1<=_
 omega
def Chn (par:Str->Str):Str->List Str->Prop
 | _,[]=>True
 | k,x::r=>par x=k/\Chn par x r
theorem Chn.snoc {par:Str->Str}{u:Str}:∀ {k:Str}{l:List Str},Chn par k l->par u=(l.getLast?).getD k->Chn par k (l++[u])
 | k,[],_,h=>⟨h,trivial⟩
 | k,[x],c,h=>⟨c.1,h,trivial⟩
 | k,x::y::r,c,h=>⟨c.1,Chn.snoc (l:=y::r) c.2 (by rw[List.getLast?_cons_cons] at h;rw[h];cases q:(y::r).getLast? with | none=>simp at q | some z=>rfl)⟩
theorem Tre.lin_last (T:Tre us ks):∀u:Str,u=""∨u∈us->((L2.lin ks u).getLast?).getD ""=u:=by
 refine T.lin_ind (P:=fun u=>((L2.lin ks u).getLast?).getD ""=u) rfl fun u hu _=>?_
 rw[T.lin hu];simp
theorem Tre.lin_chn (T:Tre us ks):∀u:Str,u=""∨u∈us->Chn (dN ks) "" (L2.lin ks u):=by
 refine T.lin_ind (P:=fun u=>Chn (dN ks) "" (L2.lin ks u)) trivial fun u hu ih=>?_
 rw[T.lin hu]
 exact ih.snoc (T.lin_last _ (T.par_in hu).1).symm
def prt:Str->List Str->List Str->Option (Str × Str × Str)
 | k,x::a,y::b=>if x=y then prt x a b else some (k,x,y)
 | _,_,_=>none
theorem p6 {par:Str -> Str}:∀ {k:Str}{a b:List Str}{q x y:Str}, Chn par k a -> Chn par k b -> prt k a b=some (q, x, y) -> par x=q /\ par y=q /\ x ∈ a /\ y ∈ b /\ x ≠ y
 | k,[],_,_,_,_,_,_,h=>by simp[prt] at h
 | k,_::_,[],_,_,_,_,_,h=>by simp[prt] at h
 | k,u::a,v::b,q,x,y,ca,cb,h=>by
  have h:(if u=v then prt u a b else some (k,u,v))=some (q,x,y):=h
  by_cases e:u=v
  ·rw[if_pos e] at h
   rw[<- e] at cb
   obtain⟨h1,h2,h3,h4,h5⟩:=p6 ca.2 cb.2 h
   exact⟨h1,h2,aK _ h3,aK _ h4,h5⟩
  ·rw[if_neg e] at h
   injection h with h
   injection h with h1 h
   injection h with h2 h3
   subst h1 h2 h3
   exact⟨ca.1,cb.1,by simp,by simp,e⟩
theorem pZ:∀(k:Str) (a b:List Str), prt k b a=(prt k a b).map fun t => (t.1, t.2.2, t.2.1)
 | k,[],b=>by cases b <;> rfl
 | k,x::a,[]=>rfl
 | k,x::a,y::b=>by
  show (if y=x then prt y b a else some (k,y,x))=(if x=y then prt x a b else some (k,x,y)).map _
  by_cases e:x=y
  ·subst e
   rw[if_pos rfl,if_pos rfl]
   exact pZ x a b
  ·rw[if_neg (fun z=>e z.symm),if_neg e];rfl
def dF (ks:Kn) (u v:Str):Option (Str × Str × Str):=prt "" (lin ks u) (lin ks v)
theorem Tre.part (T:Tre us ks) {u v q x y:Str}(hu:u∈us) (hv:v∈us) (h:dF ks u v=some (q,x,y)):dN ks x=q/\dN ks y=q/\x∈us/\y∈us/\x≠y:=by
 obtain⟨h1,h2,h3,h4,h5⟩:=p6 (T.lin_chn u (.inr hu)) (T.lin_chn v (.inr hv)) h
 exact⟨h1,h2,T.lin_in u (.inr hu) x h3,T.lin_in v (.inr hv) y h4,h5⟩
abbrev tp (a:List Str):List Str:=("":Str)::a
def Gon (a b:List Str) (i:Nat):Prop:=i=0∨(1<=i/\prt "" a b=prt ((tp a).getD (i-1) "") ((tp a).drop i) ((tp b).drop i))
theorem Gon.step {a b:List Str}{i:Nat}{x:Str}(g:Gon a b i) (h1:(tp a)[i]? = some x) (h2:(tp b)[i]? = some x):Gon a b (i+1):=by
 right
 refine⟨by omega,?_⟩
 rcases g with rfl | ⟨hi,g⟩
 ·rfl
 ·have l1:=(ah.mp h1)
  have l2:=(ah.mp h2)
  have e:(tp a).getD (i+1-1) ""=x:=by rw[Nat.add_sub_cancel,bw,h1];rfl
  rw[g,bJ l1.1,bJ l2.1,l1.2,l2.2,e]
  show (if x=x then _ else _)=_
  rw[if_pos rfl]
theorem Gon.stop {a b:List Str}{i:Nat}(g:Gon a b i) (h:i=min (a.length+1) (b.length+1)):prt "" a b=none := by
 rcases g with rfl | ⟨hi,g⟩
 ·omega
 ·rw[g]
  by_cases q:a.length<=b.length
  ·rw[bW (l:=tp a) (by rw[aF];omega)];rfl
  ·rw[bW (l:=tp b) (by rw[aF];omega)]
   cases (tp a).drop i <;> rfl
theorem Gon.part {a b:List Str}{i:Nat}{x y:Str}(g:Gon a b i) (h1:(tp a)[i]? = some x) (h2:(tp b)[i]? = some y) (ne:x≠y):1<=i/\prt "" a b=some ((tp a).getD (i-1) "",x,y):=by
 rcases g with rfl | ⟨hi,g⟩
 ·exfalso
  injection h1 with h1
  injection h2 with h2
  exact ne (h1.symm.trans h2)
 ·have l1:=(ah.mp h1)
  have l2:=(ah.mp h2)
  refine⟨hi,?_⟩
  rw[g,bJ l1.1,bJ l2.1,l1.2,l2.2]
  show (if x=y then _ else _)=_
  rw[if_neg ne]
end
def eM (k:Str × List Str):PyData:=.tuple [.str k.1,.tuple (k.2.map PyData.str)]
def fo (ks:Kn):PyData:=.tuple (ks.map eM)
def fq (ps:List (Str × Str)):PyData:=.tuple (ps.map cW)
def df (ks:Kn) (ts ws wn:List (Str × Str)):PyData:=.tuple [fo ks,fq ts,fq ws,fq wn]
section
variable {H H':Hp}
theorem lE {v:V}{k:Str × List Str}(h:Rep H v (eM k)):∃ta la,v=.ref ta/\H ta=some (.tup [.str k.1,.ref la])/\H la=some (.tup (k.2.map V.str)):=by
 obtain⟨q,ws,rfl,hq,r0⟩:=Rep.tupI h
 obtain⟨y,ys,rfl,r1,r3⟩:=r0.consI
 obtain⟨z,zs,rfl,r2,r4⟩:=r3.consI
 have e1:=RepAll.nilI r4
 subst e1
 have e0:=Rep.strI r1
 subst e0
 obtain⟨b,xb,rfl,hb,rb⟩:=Rep.tupI r2
 have e2:=RepAll.strs rb
 subst e2
 exact⟨q,b,rfl,hq,hb⟩
theorem gT {refs:List V}{ks:Kn}(rp:RepAll H refs (ks.map eM)) {i:Nat}{x:V}(hx:refs[i]? = some x):∃k ta la,ks[i]? = some k/\x=.ref ta/\H ta=some (.tup [.str k.1,.ref la])/\H la=some (.tup (k.2.map V.str)):=by
 obtain⟨d,hd,rd⟩:=rp.get hx
 rw[aI] at hd
 cases q:ks[i]? with
 | none=>rw[q] at hd;cases hd
 | some e =>
  rw[q] at hd
  have hd:eM e=d:=am hd
  rw[<- hd] at rd
  obtain⟨ta,la,h1,h2,h3⟩:=lE rd
  exact⟨e,ta,la,rfl,h1,h2,h3⟩
theorem fQ {v:V}{ks:Kn}(h:Rep H v (fo ks)):∃a refs,v=.ref a/\H a=some (.tup refs)/\RepAll H refs (ks.map eM):=Rep.tupI h
theorem dZ {v:V}{ps:List (Str × Str)}(h:Rep H v (fq ps)):∃a refs,v=.ref a/\H a=some (.tup refs)/\RepAll H refs (ps.map cW):=Rep.tupI h
theorem dI {v:V}{ks:Kn}{ts ws wn:List (Str × Str)}(h:Rep H v (df ks ts ws wn)):∃q a b c d,v=.ref q/\H q=some (.tup [.ref a,.ref b,.ref c,.ref d])/\Rep H (.ref a) (fo ks)/\Rep H (.ref b) (fq ts)/\Rep H (.ref c) (fq ws)/\Rep H (.ref d) (fq wn):=by
 obtain⟨q,xs,rfl,hq,r0⟩:=Rep.tupI h
 obtain⟨y,ys,rfl,r1,r3⟩:=r0.consI
 obtain⟨z,zs,rfl,r2,r4⟩:=r3.consI
 obtain⟨z3,zs3,rfl,r5,r6⟩:=r4.consI
 obtain⟨z4,zs4,rfl,r7,r8⟩:=r6.consI
 have e1:=RepAll.nilI r8
 subst e1
 obtain⟨a,_,rfl,_⟩:=Rep.tupI r1
 obtain⟨b,_,rfl,_⟩:=Rep.tupI r2
 obtain⟨c,_,rfl,_⟩:=Rep.tupI r5
 obtain⟨d,_,rfl,_⟩:=Rep.tupI r7
 exact⟨q,a,b,c,d,rfl,hq,r1,r2,r5,r7⟩
theorem fO {q a b c d:Addr}{ks:Kn}{ts ws wn:List (Str × Str)}(hq:H q=some (.tup [.ref a,.ref b,.ref c,.ref d])) (r1:Rep H (.ref a) (fo ks)) (r2:Rep H (.ref b) (fq ts)) (r3:Rep H (.ref c) (fq ws)) (r4:Rep H (.ref d) (fq wn)):Rep H (.ref q) (df ks ts ws wn) :=
 .tup hq (.cons r1 (.cons r2 (.cons r3 (.cons r4 .nil))))
theorem fM {p a:Addr}{ys xs:List V}(hp:H p=some (.lst ys)) (b:But p H H') (h:H a=some (.tup xs)):H' a=some (.tup xs):=b a _ (eK h hp (by intro z;cases z)) h
theorem dB {p:Addr}{ys:List V}(hp:H p=some (.lst ys)) (b:But p H H') {v:V}{e:Str × Str}(h:Rep H v (cW e)):Rep H' v (cW e):=by
 obtain⟨a,rfl,ha⟩:=lP h
 exact dG (fM hp b ha)
theorem dy {α:Type}{f:α->PyData}(k:∀ {v:V}{e:α},Rep H v (f e)->Rep H' v (f e)):∀ {es:List α}{xs:List V},RepAll H xs (es.map f)->RepAll H' xs (es.map f)
 | [],xs,h=>by rw[RepAll.nilI h];exact .nil
 | e::es,xs,h=>by
  obtain⟨y,ys',rfl,a,c⟩:=RepAll.consI h
  exact .cons (k a) (dy k c)
theorem i5 {p:Addr}{ys:List V}(hp:H p=some (.lst ys)) (b:But p H H') {v:V}{ps:List (Str × Str)}(h:Rep H v (fq ps)):Rep H' v (fq ps):=by
 obtain⟨a,xs,rfl,ha,r⟩:=dZ h
 exact .tup (fM hp b ha) (dy (dB hp b) r)
theorem gn {p:Addr}{ys:List V}(hp:H p=some (.lst ys)) (b:But p H H') {v:V}{k:Str × List Str}(h:Rep H v (eM k)):Rep H' v (eM k):=by
 obtain⟨ta,la,rfl,h1,h2⟩:=lE h
 exact .tup (fM hp b h1) (.cons (.str _) (.cons (.tup (fM hp b h2) (RepAll.of_strs _)) .nil))
theorem i9 {p:Addr}{ys:List V}(hp:H p=some (.lst ys)) (b:But p H H') {v:V}{ks:Kn}(h:Rep H v (fo ks)):Rep H' v (fo ks):=by
 obtain⟨a,xs,rfl,ha,r⟩:=fQ h
 exact .tup (fM hp b ha) (dy (gn hp b) r)
theorem qx {p:Addr}{ys:List V}(hp:H p=some (.lst ys)) (b:But p H H') {v:V}{ks:Kn}{ts ws wn:List (Str × Str)}(h:Rep H v (df ks ts ws wn)):Rep H' v (df ks ts ws wn):=by
 obtain⟨q,a,c,d,e,rfl,hq,r1,r2,r3,r4⟩:=dI h
 exact fO (fM hp b hq) (i9 hp b r1) (i5 hp b r2) (i5 hp b r3) (i5 hp b r4)
end
def ArK (kvs:List (Key × V)) (us:List Str) (ks:Kn):Prop:=∀u∈us,dg kvs (.inr u)=some (.str (dN ks u))
theorem gS (a b:Kn):dJ (a++b)=dJ a++dJ b:=List.flatMap_append
theorem kZ {ks:Kn}{i:Nat}{k:Str × List Str}(h:ks[i]? = some k):dJ (ks.take (i+1))=dJ (ks.take i)++k.2:=by
 rw[av,h,gS]
 show _++([k].flatMap (·.2))=_
 simp
structure ArN (H H':Hp) (d:Addr) (ks:Kn) (i j:Nat) (kvs:List (Key × V)):Prop where
 sm:Same H H'
 at_:H' d=some (.dK kvs)
 len:kvs.length<=(dJ (ks.take i)).length+j
 old:∀k∈ks.take i,∀u∈k.2,dg kvs (.inr u)=some (.str k.1)
 cur:∀k,ks[i]? = some k->∀u∈k.2.take j,dg kvs (.inr u)=some (.str k.1)
section
variable {H H':Hp}{d:Addr}{ks:Kn}{i j:Nat}{kvs:List (Key × V)}
theorem ArN.put (h:ArN H H' d ks i j kvs) (hd:H d=none) (nd:(dJ ks).Nodup) {k:Str × List Str}(hk:ks[i]? = some k) {u:Str}(hu:k.2[j]? = some u) :
    ArN H (upd H' d (.dK (dE kvs (.inr u) (.str k.1)))) d ks i (j+1) (dE kvs (.inr u) (.str k.1)):=by
 have nd2:(dJ (ks.take i)++k.2).Nodup:=by
  rw[<- kZ hk]
  have e:dJ ks=dJ (ks.take (i+1))++dJ (ks.drop (i+1)):=by rw[<- gS,bY]
  rw[e] at nd
  exact(bX.mp nd).1
 obtain⟨_,n2,n3⟩:=bX.mp nd2
 have hum:=au hu
 refine⟨fun b o hb=>?_,cE,?_,fun k' hk' u' hu'=>?_,fun k' hk' u' hu'=>?_⟩
 ·rw[cJ (cO hb hd)];exact h.sm _ _ hb
 ·have:=dW kvs (.inr u) (V.str k.1)
  have:=h.len
  omega
 ·rw[gt,if_neg (fun z=>n3 u' (bQ.mpr ⟨k',hk',hu'⟩) u hum (by injection z))]
  exact h.old k' hk' u' hu'
 ·rw[hk] at hk'
  cases hk'
  rw[av,hu] at hu'
  rw[gt]
  by_cases q:u'=u
  ·subst q;rw[if_pos rfl]
  ·rw[if_neg (fun z=>q (by injection z))]
   rcases aH.mp hu' with z | z
   ·exact h.cur k hk u' z
   ·exact absurd (by simpa using z) q
theorem ArN.next (h:ArN H H' d ks i j kvs) {k:Str × List Str}(hk:ks[i]? = some k) (hj:j=k.2.length):ArN H H' d ks (i+1) 0 kvs := by
 subst hj
 refine⟨h.sm,h.at_,?_,fun k' hk' u hu=>?_,fun k' _ u hu=>by simp at hu⟩
 ·rw[kZ hk,aJ];exact h.len
 ·rw[av,hk] at hk'
  rcases aH.mp hk' with z | z
  ·exact h.old k' z u hu
  ·have:k'=k:=by simpa using z
   subst this
   exact h.cur k' hk u (by rw[ap (ac _)];exact hu)
theorem ArN.room (h:ArN H H' d ks i j kvs) {k:Str × List Str}(hk:ks[i]? = some k) (hj:j<k.2.length) (hl:(dJ ks).length<=60):kvs.length<=60:=by
 have e:dJ ks=dJ (ks.take (i+1))++dJ (ks.drop (i+1)):=by rw[<- gS,bY]
 rw[e,kZ hk,aJ,aJ] at hl
 have:=h.len
 omega
theorem ArN.fin {us:List Str}(h:ArN H H' d ks i 0 kvs) (T:Tre us ks) (hi:i=ks.length):ArK kvs us ks:=fun u hu=>by
 obtain⟨k,hk,hu'⟩:=T.has hu
 rw[T.par hk hu']
 subst hi
 exact h.old k (by rw[ap (ac _)];exact hk) u hu'
end
def PrtV (H:Hp) (v:V):Option (Str × Str × Str)->Prop
 | none=>v=.non
 | some (k,x,y)=>∃t,v=.ref t/\H t=some (.tup [.str k,.str x,.str y])
theorem PrtV.same {H H':Hp}{v:V}{o:Option (Str × Str × Str)}(h:PrtV H v o) (s:Same H H'):PrtV H' v o:=by
 cases o with
 | none=>exact h
 | some q=>obtain⟨t,e,ht⟩:=h;exact⟨t,e,s _ _ ht⟩
abbrev KL:=List (Addr × Addr × (Str × List Str))
abbrev fA (kl:KL):Kn:=kl.map fun q=>q.2.2
section
variable {H H':Hp}{L p:Addr}{kl:KL}
theorem iP {α:Type}{l:List α}{j:Nat}{b x:α}(h:x∈l.set j b):x=b∨∃m,m≠j/\l[m]? = some x:=by
 obtain⟨m,hm⟩:=bR h
 by_cases q:m=j
 ·subst q
  rw[List.getElem?_set] at hm
  rw[if_pos rfl] at hm
  split at hm
  ·exact .inl (am hm).symm
  ·cases hm
 ·rw[cy (Ne.symm q)] at hm
  exact .inr ⟨m,q,hm⟩
theorem jb {α β:Type}{f:α->β}{l:List α}{j:Nat}{x y:α}(h:l[j]? = some x) (e:f y=f x):(l.set j y).map f=l.map f:=by
 rw[List.map_set,e]
 refine List.ext_getElem? fun m=>?_
 rw[List.getElem?_set]
 split
 ·rename_i q
  subst q
  have:=(ah.mp h).1
  rw[ae,if_pos this,aI,h];rfl
 ·rfl
theorem jr {α:Type}{l:List α}{k:Nat}{x y:α}(h:y∈l.take k++x::l.drop k):y=x∨y∈l:=by
 rcases aH.mp h with q | q
 ·exact .inr (List.mem_of_mem_take q)
 ·rcases aB.mp q with q | q
  ·exact .inl q
  ·exact .inr (List.mem_of_mem_drop q)
theorem oO {α:Type}(l:List α) (k:Nat) (x:α):(l.take k++x::l.drop k).Perm (x::l):=by
 have:=List.perm_middle (a:=x) (l₁:=l.take k) (l₂:=l.drop k)
 rw[bY] at this
 exact this
end
structure TrN (us:List Str) (i:Nat) (ks:Kn):Prop where
 perm:(dJ ks).Perm (us.take i)
 top:("":Str)∈ks.map (·.1)
 kn:(ks.map (·.1)).Nodup
 sub:∀k∈ks,k.1=""∨k.1∈us.take i
 up:∀k∈ks,∀u∈k.2,k.1=""∨MG.ix us k.1<MG.ix us u
section
variable {us:List Str}{i:Nat}{ks:Kn}
theorem TrN.start:TrN us 0 [("",[])]:=⟨by show ([]:List Str).Perm _;rw[List.take_zero],by simp,by simp,fun k hk=>by rw[aO.mp hk];exact .inl rfl,fun k hk u hu=>by rw[aO.mp hk] at hu;cases hu⟩
theorem pX {j:Nat}{nm u:Str}{ch ch':List Str}(pc:ch'.Perm (u::ch)):∀ {ks:Kn}{j:Nat},ks[j]? = some (nm,ch)->(dJ (ks.set j (nm,ch'))).Perm (u::dJ ks)
 | [],j,h=>by simp at h
 | k::ks,0,h=>by
  have h:k=(nm,ch):=by simpa using h
  subst h
  show (ch'++dJ ks).Perm (u::(ch++dJ ks))
  exact(pc.append_right _)
 | k::ks,j+1,h=>by
  have h:ks[j]? = some (nm,ch):=by simpa using h
  have ih:=pX pc (ks:=ks) (j:=j) h
  show (k.2++dJ (ks.set j (nm,ch'))).Perm (u::(k.2++dJ ks))
  exact(ih.append_left _).trans List.perm_middle
theorem TrN.step (h:TrN us i ks) (nd:us.Nodup) {u:Str}(hu:us[i]? = some u) {j:Nat}{nm:Str}{ch ch':List Str}(hj:ks[j]? = some (nm, ch)) (pc:ch'.Perm (u :: ch)):TrN us (i+1) (ks.set j (nm, ch')) := by
 have hi:=(ah.mp hu).1
 have tk:us.take (i+1)=us.take i++[u]:=by rw[av,hu];rfl
 have hm:=au hj
 have e1:((ks.set j (nm,ch')).map fun k=>k.1)=ks.map fun k=>k.1:=jb hj rfl
 have ixu:MG.ix us u=i:=MG.ix_at nd hu
 have ixo:∀x∈us.take i,MG.ix us x<i:=fun x hx=>by
  obtain⟨m,hm⟩:=bR hx
  have hml:=(ah.mp hm).1
  rw[aL] at hml
  rw[List.getElem?_take_of_lt (by omega)] at hm
  rw[MG.ix_at nd hm];omega
 refine⟨?_,by rw[e1];exact h.top,by rw[e1];exact h.kn,fun k hk=>?_,fun k hk x hx=>?_⟩
 ·rw[tk]
  refine(pX (j:=j) pc hj).trans (((h.perm.cons u)).trans ?_)
  exact(List.perm_append_singleton u _).symm
 ·have:k.1∈ks.map fun k=>k.1:=by rw[<- e1];exact ao.mpr ⟨k,hk,rfl⟩
  obtain⟨k',hk',e⟩:=ao.mp this
  rw[<- e,tk]
  rcases h.sub k' hk' with q | q
  ·exact .inl q
  ·exact .inr (bH _ q)
 ·rcases iP hk with rfl | ⟨m, _, hm'⟩
  ·rcases aB.mp (pc.mem_iff.mp hx) with rfl | hx
   ·rcases h.sub _ hm with q | q
    ·exact .inl q
    ·right
     rw[ixu]
     exact ixo _ q
   ·exact h.up _ hm x hx
  ·exact h.up _ (au hm') x hx
theorem TrN.knot (h:TrN us (i+1) ks) (nd:us.Nodup) (nn:∀u ∈ us, u ≠ "") {u:Str}(hu:us[i]? = some u) (hnew:u ∉ ks.map (·.1)) (k:Nat):TrN us (i+1) (ks.take k ++ (u, []) :: ks.drop k) := by
 have hm:=au hu
 have pm:=oO ks k (u,([]:List Str))
 have pn:=pm.map fun k:Str × List Str=>k.1
 refine⟨?_,pn.mem_iff.mpr (aK _ h.top),pn.nodup_iff.mpr (by rw[aQ,ba];exact⟨hnew,h.kn⟩),fun q hq=>?_,fun q hq x hx=>?_⟩
 ·have e:dJ (ks.take k++(u,[])::ks.drop k)=dJ ks:=by
     have a:dJ ((u,([]:List Str))::ks.drop k)=dJ (ks.drop k):=rfl
     rw[gS,a,<- gS,bY]
  rw[e];exact h.perm
 ·rcases jr hq with rfl | hq
  ·right
   show u∈us.take (i+1)
   rw[av,hu];simp
  ·exact h.sub q hq
 ·rcases jr hq with rfl | hq
  ·cases hx
  ·exact h.up q hq x hx
theorem TrN.fin (h:TrN us us.length ks) (nd:us.Nodup) (nm:∀u∈us,Nm u) (len:us.length<=60):Tre us ks :=
 ⟨by have:=h.perm;rwa [ap (ac _)] at this,nd,nm,len,h.top,h.kn,fun k hk=>by have:=h.sub k hk;rwa [ap (ac _)] at this,h.up⟩
end
theorem pe {H:Hp}:∀ {ks:Kn}{refs:List V}, RepAll H refs (ks.map eM) -> ∃ls:List V, ls.length=ks.length /\ ∀(i:Nat) (k:Str × List Str), ks[i]? = some k -> ∃ta la, refs[i]? = some (.ref ta) /\ ls[i]? = some (.ref la) /\ H ta=some (.tup [.str k.1, .ref la]) /\ H la=some (.tup (k.2.map V.str))
 | [],refs,_=>⟨[],rfl,fun i k h=>by simp at h⟩
 | k::ks,refs,h=>by
  obtain⟨y,ys,rfl,r1,r2⟩:=RepAll.consI h
  obtain⟨ta,la,rfl,h1,h2⟩:=lE r1
  obtain⟨ls,hl,ih⟩:=pe r2
  refine⟨.ref la::ls,by rw[aF,aF,hl],fun i k' hk=>?_⟩
  cases i with
  | zero =>
   have:k=k':=by simpa using hk
   subst this
   exact⟨ta,la,rfl,rfl,h1,h2⟩
  | succ i=>exact ih i k' (by simpa using hk)
theorem xQ (xs:List Str) (ys:List V) (h:ys.length=xs.length):(gH xs ys).length=xs.length:=by
 unfold gH
 rw[bx,ae]
 omega
theorem zO {xs:List Str}{ys:List V}{i:Nat}{q:Key × V}(h:(gH xs ys)[i]? = some q):∃x,xs[i]? = some x/\q.1=.inr x/\ys[i]? = some q.2:=by
 unfold gH at h
 rw[bq,aI] at h
 cases e:xs[i]? with
 | none=>rw[e] at h;cases h.1
 | some x =>
  rw[e] at h
  exact⟨x,rfl,(am h.1).symm,h.2⟩
theorem iM {K:W.Frag}{H:Hp}{a:Addr}{us:List Str}{ks:Kn}{Q:VK}(R:Rep H (.ref a) (fo ks)) (T:Tre us ks)
    (h:∀D dk,H D=none->(∀k∈ks,∃la,dg dk (.inr k.1)=some (.ref la)/\H la=some (.tup (k.2.map V.str)))->Q (.ref D) (upd H D (.dK dk))):qL K [.ref a] H Q:=by
 obtain⟨a',refs,e0,ha,rp⟩:=fQ R
 cases e0
 obtain⟨ls,hl,hat⟩:=pe rp
 have rlen:=rp.len
 rw[ae] at rlen
 have few:=T.few
 have zl:(gH (ks.map (·.1)) ls).length=ks.length:=by rw[xQ _ _ (by rw[ae];exact hl),ae]
 refine⟨a,refs,gH (ks.map (·.1)) ls,rfl,ha,by rw[zl];exact rlen,by omega,fun i q x hq hx=>?_,fun D hD=>?_⟩
 ·obtain⟨nm,h1,h2,h3⟩:=zO hq
  rw[aI] at h1
  cases e:ks[i]? with
  | none=>rw[e] at h1;cases h1
  | some k =>
   rw[e] at h1
   obtain⟨ta,la,g1,g2,g3,g4⟩:=hat i k e
   rw[g1] at hx
   rw[g2] at h3
   have ex:V.ref ta=x:=am hx
   have e3:V.ref la=q.2:=am h3
   have e1:k.1=nm:=am h1
   refine⟨ta,ex.symm,.of ?_⟩
   rw[h2,<- e3,<- e1];exact g3
 ·refine h D _ hD fun k hk=>?_
  obtain⟨i,hi⟩:=bR hk
  obtain⟨ta,la,g1,g2,g3,g4⟩:=hat i k hi
  refine⟨la,?_,g4⟩
  rw[zt _ _ T.kn]
  exact qW T.kn (by rw[aI,hi];rfl) g2
theorem dC:∀ {ps:List (Str × Str)},(∀e∈ps,Nm e.1/\Nm e.2)->PyData.canLayAll0 (ps.map cW)=true
 | [],_=>rfl
 | e::ps,h=>by
  have:=h e (by simp)
  show (PyData.canLay0 (cW e)&&PyData.canLayAll0 (ps.map cW))=true
  rw[dC fun x hx=>h x (aK _ hx)]
  show ((PyData.canLay0 (.str e.1)&&(PyData.canLay0 (.str e.2)&&true))&&true)=true
  rw[ei this.1,ei this.2];rfl
theorem gq {e:Str × Str}(h:Nm e.1/\Nm e.2):PyData.canLay0 (cW e)=true:=by
 show (PyData.canLay0 (.str e.1)&&(PyData.canLay0 (.str e.2)&&true))=true
 rw[ei h.1,ei h.2];rfl
theorem gu (xs:List Str):(List.map V.str xs).all gB=true:=by
 rw[List.all_map,bo]
 intro x _;rfl
theorem iS (x:Str) (xs:List Str):inV (V.str x) (List.map V.str xs)=decide (x∈xs):=by
 rw[aX,decide_eq_true_iff]
 unfold inV
 rw[List.any_map,ck]
 constructor
 ·rintro⟨y,hy,q⟩
  have q:(y==x)=true:=q
  have q:y=x:=by simpa using q
  exact q ▸ hy
 ·intro h
  refine⟨x,h,?_⟩
  show (x==x)=true
  simp
def tBMT (r:V->List V->Hp->VK->Prop) (to:TE) (t:TA):TE:=fun σ H Q=>to σ H fun x H1=>(∃p xs,x=.ref p/\H1 p=some (.tup xs))/\t σ H1 fun xs H2=>r x xs H2 Q
theorem pE {X:Cx}{o e:Expr}{to:TE}{t:TA}{apos cpos:Pos}(ho:PE X o to) (ha:PA X [e] t)
    (hbase:attributeBase o "index" X.env (eval o X.env)=eval o X.env:=by rfl)
    (hfew:((backTo cpos (starEach [e] X.env)).all (fun x=>!x.1)&&(backToKw cpos (keywordEach [] X.env)).all (fun x=>x.1.isSome)
     && decide ([e].length+([]:List Keyword).length+(if ([]:List Keyword).isEmpty then 0 else 1)<30))=true:=by rfl)
    (hline:(apos.endLine==cpos.line)=true:=by rfl) (hs:starEach [e] X.env=(false,eval e X.env)::starEach [] X.env:=by rfl) (hplain:(backTo cpos (starEach [] X.env)).any (·.1)=false:=by rfl) :
    PE X (.Call (.Attribute o "index" apos) [e] [] cpos) (tBMT oA to t):=by
 intro pins s σ H Q I h
 refine wpAny_Call_method_late hbase hfew hline rfl (thn (ho pins s σ H _ I h) fun v s1 ⟨x,H1,I1,r1,⟨p,xs,ex,hp⟩,q1⟩=>?_)
 subst ex
 cases r1
 obtain⟨_,its,rv,ob,e1,e2,n,e3,e4⟩:=(show ObjOk X.prog X.w H1 s1.heap p (.tup xs) from I1.hok p _ hp)
 refine⟨"tuple","tuple.index",PySem.F.plainAttrs_tuple,PySem.F.slot_tuple_index,PySem.F.type_tuple_index,⟨ob,e1,e2⟩,fun a z=>?_,?_⟩
 ·cases z
  exact⟨ob,e1,e4⟩
 ·have hA:=ha cpos pins s1 σ H1 _ I1 q1
  rw[hs] at hA ⊢
  refine Calls.callWith_builtin (by show (false||(backTo cpos (starEach [] X.env)).any (·.1))=false;rw[hplain] <;> rfl) (Calls.evalArgs_plain (thn hA fun us s2 ⟨vs,H2,I2,r2,q2⟩=>?_))
  exact uM pins s2 σ H2 (.ref p) vs (.ref p) us Q I2 rfl r2 q2
end L2
namespace PySem
open PySem.Spec PyProof.Rows
def Raw (h:Heap) (d:Addr) (es:Array DictEntry) (ep:Nat):Prop:=∃o,h.get? d=some o/\o.ExactDict/\o.data=.dict es ep
section
variable {prog:Program}{w:World}{A:Around}{E:Value->Shared->Prop}{s:Shared}{it d:Addr}{i ep:Nat}{es:Array DictEntry}
theorem Raw.typ (hm:Raw s.heap d es ep):s.TypeIs (.ref d) "dict":=let ⟨o,ho,hc,_⟩:=hm;⟨o,ho,hc.1⟩
theorem wS {Q:Value->Shared->Prop}(hd:(d==sysModules)=false) (hm:Raw s.heap d es ep)
    (hQ:Q (.ref s.heap.objs.size) { s with heap:=s.heap.push { cls:=.type "dict_keyiterator",data:=.fields #[.ref d,.int 0 0,.int es.size 0,.int ep 0] } }):wpAny (model prog w) A (pyIter (.ref d)) Q E s:=by
 have hT:=hm.typ
 obtain⟨o,ho,hc,hdat⟩:=hm
 refine wpAny_pyIter_slot hT F.slot_dict_iter (wpAny_call_entry F.slot_dict_iter hT F.entry_dict_iter ?_ (F.args_dict_iter_1 _))
 unfold Builtin.«dict.__iter__» Builtin.Dict.dictSlotNone
 refine aa (aa (wpAny_notOrdered_dict hT ?_))
 show wpAny _ _ (pure (Value.ref d)) _ _ s
 refine af ?_
 show wpAny _ _ (Builtin.Dict.showsAll d >>= _) _ _ s
 unfold Builtin.Dict.showsAll
 rw[if_neg (by rw[hd];exact aN)]
 refine aa (af (aa (wpAny_dictEntries ho hdat (aa (wpAny_dictEpoch ho hdat ?_)))))
 refine aa (wpAny_newObj_type (af ⟨_,rfl,"dict_keyiterator",_,⟨_,aA _ rfl,rfl⟩,F.slot_dict_keyiterator_next.lookup,?_⟩))
 simpa [rawInt] using hQ
theorem xt {Q:Option Value->Shared->Prop}(hit:s.heap.IsKeyIter it d i es.size ep) (hm:Raw s.heap d es ep) (hi:i<es.size)
    (hQ:∀h',h'.IsKeyIter it d (i+1) es.size ep->Heap.SameBut it s.heap h'->Q (some es[i].key) { s with heap:=h' }):wpAny (model prog w) A (pyNext (.ref it)) Q E s:=by
 obtain⟨o,ho,hc,hd⟩:=id hit
 obtain⟨od,hod,hcd,hdd⟩:=hm
 have hown:Builtin.Dict_items.ownsTuple "dict_keyiterator"=false:=by decide
 unfold pyNext
 refine aa (wpAny_attempt (wpAny_callSpecial?_slot (name:=Str.ofString "__next__") hit.typeIs F.slot_dict_keyiterator_next (wpAny_call_entry F.slot_dict_keyiterator_next hit.typeIs F.entry_dict_keyiterator_next ?_ (F.args_dict_keyiterator_next_1 _))))
 refine aa (af (aa (aa ?_)))
 first | refine aa (wpAny_typeNameOfWhole_keyiter hit.typeIs (af (aa (wpAny_fieldsOf ho hd ?_)))) | refine aa (wpAny_typeNameOf_keyiter hit.typeIs (af (aa (wpAny_fieldsOf ho hd ?_))))
 simp only[hown,bM,if_false]
 show wpAny _ _ (if (Value.ref d==Value.none)=true then _ else _) _ _ s
 rw[if_neg (show ¬ ((Value.ref d==Value.none)=true) from aN)]
 refine aa (af (aa (wpAny_dictEntries hod hdd ?_)))
 rw[if_neg (by simp)]
 refine aa (af (aa (wpAny_dictEpoch hod hdd ?_)))
 rw[if_neg (by simp)]
 refine af ?_
 simp only[show ¬ ((i:Int)<0) from by omega,if_false,bT,Array.getElem?_eq_getElem hi]
 refine aa ?_
 first | refine aa (wpAny_typeNameOfWhole_keyiter hit.typeIs (af (aa (wpAny_isOneOf_keyiter hit.typeIs ?_)))) | refine aa (wpAny_typeNameOf_keyiter hit.typeIs (af (aa (wpAny_isOneOf_keyiter hit.typeIs ?_))))
 show wpAny _ _ (setField (.ref it) 1 (rawInt ((i:Int)+1)) >>= _) _ _ s
 refine aa (wpAny_setField ho hd (by simp) ?_)
 have up:(s.heap.update it (Obj.mapFields (·.setIfInBounds 1 (rawInt ((i:Int)+1))))).IsKeyIter it d (i+1) es.size ep :=
  ⟨_,ci _ ho (Obj.isFreed_of_fields (Obj.data_mapFields hd _)),(Obj.cls_mapFields ..).trans hc,by rw[Obj.data_mapFields hd];simp[rawInt]⟩
 refine aa (aR (aa (wpAny_isOneOf_keyiter (s:={ s with heap:=s.heap.update it (Obj.mapFields (·.setIfInBounds 1 (rawInt ((i:Int)+1)))) }) up.typeIs ?_)))
 show wpAny _ _ (pure es[i].key) _ _ _
 exact af (af ⟨_,rfl,af (hQ _ up (Heap.SameBut.update ..))⟩)
theorem zy {Q:Option Value->Shared->Prop}(hh:A.handled=none) (hit:s.heap.IsKeyIter it d i es.size ep) (hm:Raw s.heap d es ep) (hge:es.size<=i)
    (hQ:∀h',Heap.ExtBut it s.heap h'->Q none { s with heap:=h' }):wpAny (model prog w) A (pyNext (.ref it)) Q E s:=by
 obtain⟨o,ho,hc,hd⟩:=id hit
 obtain⟨od,hod,hcd,hdd⟩:=hm
 have hown:Builtin.Dict_items.ownsTuple "dict_keyiterator"=false:=by decide
 unfold pyNext
 refine aa (wpAny_attempt (wpAny_callSpecial?_slot (name:=Str.ofString "__next__") hit.typeIs F.slot_dict_keyiterator_next (wpAny_call_entry F.slot_dict_keyiterator_next hit.typeIs F.entry_dict_keyiterator_next ?_ (F.args_dict_keyiterator_next_1 _))))
 refine aa (af (aa (aa ?_)))
 first | refine aa (wpAny_typeNameOfWhole_keyiter hit.typeIs (af (aa (wpAny_fieldsOf ho hd ?_)))) | refine aa (wpAny_typeNameOf_keyiter hit.typeIs (af (aa (wpAny_fieldsOf ho hd ?_))))
 simp only[hown,bM,if_false]
 show wpAny _ _ (if (Value.ref d==Value.none)=true then _ else _) _ _ s
 rw[if_neg (show ¬ ((Value.ref d==Value.none)=true) from aN)]
 refine aa (af (aa (wpAny_dictEntries hod hdd ?_)))
 rw[if_neg (by simp)]
 refine aa (af (aa (wpAny_dictEpoch hod hdd ?_)))
 rw[if_neg (by simp)]
 refine af ?_
 simp only[show ¬ ((i:Int)<0) from by omega,if_false,bT,Array.getElem?_eq_none hge]
 refine aa ?_
 first | refine aa (wpAny_typeNameOfWhole_keyiter hit.typeIs (af ?_)) | refine aa (wpAny_typeNameOf_keyiter hit.typeIs (af ?_))
 show wpAny _ _ (setField (.ref it) 0 .none >>= _) _ _ s
 refine aa (wpAny_setField ho hd (by simp) ?_)
 show wpAny _ _ (newExc (.type "StopIteration") [] >>= _) _ _ _
 refine aa ?_
 simp only[newExc,newTuple]
 refine aa (wpAny_newObj_type (aa (m:=firstArgMember _ _) (wpAny_of_eq (a:=Value.none) (by first | rfl | (simp only[firstArgMember];rfl)) (wpAny_newObj_type ?_ (by size_fits)))) (by size_fits))
 simp only[raiseNew]
 refine aa (wpAny_handled ?_)
 rw[show A.in1.handled=none from hh]
 refine aa (af (wpAny_throw ?_))
 refine aa (wpAny_isInstance (T:="StopIteration") (b:=true) ⟨_,aA _ rfl,rfl⟩ isSubtype_stop ?_)
 exact af (hQ _ (((Heap.SameBut.update ..).extBut.push _).push _))
theorem Raw.at {h h':Heap}(x:Raw h d es ep) (e:∀o,h.get? d=some o->h'.get? d=some o):Raw h' d es ep:=let ⟨o,ho,r⟩:=x;⟨o,e o ho,r⟩
theorem vz (hh:A.handled=none) (I d:Addr) (hne:d≠I) (es:Array DictEntry) (ep:Nat) :
    Walks prog w A I [I,d] [I] es.size (fun i v=>∃h:i<es.size,v=es[i].key) (fun i h=>h.IsKeyIter I d i es.size ep/\Raw h d es ep) where
 sub:=fun b hb=>by simp at hb;simp[hb]
 frame:=fun _ _ _ st hk=>⟨st.1.at fun o e=>hk I (by simp) o e,st.2.at fun o e=>hk d (by simp) o e⟩
 item:=fun i s Q E hi st hQ=>xt st.1 st.2 hi fun h' hit' hs'=>hQ _ h' s.toks ⟨hi,rfl⟩ ⟨hit',st.2.at fun o e=>hs'.extBut d o hne e⟩ fun b o hb e=>hs'.extBut b o (fun h=>hb (by simp[h])) e
 done:=fun s Q E st hQ=>zy hh st.1 st.2 (ac _) fun h' he'=>hQ h' s.toks fun b o hb e=>he' b o (fun h=>hb (by simp[h])) e
 self:=fun _ _ _ _ st hQ=>wpAny_pyIter_keyiter st.1 hQ
theorem zc (lo:(d==sysModules)=false):W.KdlSrc prog w "dict" d d es.size (fun i v=>∃h:i<es.size,v=es[i].key) (fun h=>Raw h d es ep) where
 type:=fun _ hm=>hm.typ
 there:=fun _ hm=>let ⟨_,ho,_⟩:=hm;⟨ag ho,ag ho⟩
 keep:=fun _ _ hm hk=>hm.at fun o e=>hk d (.inl rfl) o e
 notList:=by decide
 notTuple:=by decide
 hint:=fun _ _ _ _ hm hq=>W.kdl_hint_dict hm.typ hq
 iter:=fun _ _ hh hm=>⟨_,_,(fun _ _ hq=>wS lo hm hq),vz hh _ d (by obtain⟨_,ho,_⟩:=hm;exact aD (ag ho)) es ep,⟨⟨_,aA _ rfl,rfl,rfl⟩,hm.at fun _ e=>ai _ e⟩⟩
theorem rD {Q:List Value -> Shared -> Prop}(hh:A.handled=none) (lo:(d==sysModules)=false) (hm:Raw s.heap d es ep) (hn:es.size <= sizeLine)
    (hQ:∀h' tk acc,(∀b o,s.heap.get? b=some o->h'.get? b=some o)->ItemsOf (fun i v=>∃h:i<es.size,v=es[i].key) acc es.size->Q acc.toList { s with heap:=h',toks:=tk }):wpAny (model prog w) A (collect (.ref d)) Q E s:=by
 have hlt:d<s.heap.objs.size:=by obtain⟨_,ho,_⟩:=hm;exact ag ho
 have key:∀R:Result->Shared->Prop,(∀h' tk acc c',(∀b o,s.heap.get? b=some o->h'.get? b=some o)->h'.get? s.heap.objs.size=some { cls:=.type "list",dict:=none,data:=.seq acc c',slots:=#[] }->ItemsOf (fun i v=>∃h:i<es.size,v=es[i].key) acc es.size->R (.ok (.ret (.ref s.heap.objs.size))) { s with heap:=h',toks:=tk }) ->
     codeAny (model prog w) A (.builtin "proto.collect" ⟨[.ref d],[]⟩) R s:=by
  intro R hR
  refine codeAny_builtin F.entry_proto_collect ?_
  rw[Around.under_plainId F.plain_proto_collect _]
  show wpAny _ A.in1 (newList [] >>= fun l=>again (.builtin "list.__iadd__" ⟨[l,.ref d],[]⟩)) _ _ s
  refine aa (wpAny_newObj_type (af ⟨plainId_quiet F.plain_list_iadd _,codeAny_builtin F.entry_list_iadd ?_⟩))
  rw[Around.under_plainId F.plain_list_iadd _]
  show wpAny _ A.in1 (Builtin.List.listExtendWith (.ref s.heap.objs.size) (.ref d) (.ref s.heap.objs.size)) _ _ _
  have hS0:(s.heap.push { cls:=.type "list",data:=.seq ([]:List Value).toArray }).get? s.heap.objs.size=some { cls:=.type "list",data:=.seq #[] }:=aA _ rfl
  refine W.kdl_extend (R:=R) (s:={ s with heap:=s.heap.push { cls:=.type "list",data:=.seq ([]:List Value).toArray } }) (zc (es:=es) (ep:=ep) lo) hh (hm.at fun _ e=>ai _ e) s.heap.objs.size (bL hlt) (bL hlt) _ 0 hS0 (fun h' tk acc' c' hk hS hacc=>?_) hn
  exact hR h' tk acc' c' (fun b o e=>hk b o (aD (ag e)) (ai _ e)) hS hacc
 unfold collect
 refine aa (wpAny_runValue (key _ fun h' tk acc c' hk hS hacc=>?_))
 show wpAny _ A (load s.heap.objs.size >>= _) _ _ _
 refine aa (wpAny_load hS ?_)
 exact af (hQ h' tk acc hk hacc)
theorem oC {Q:Value->Shared->Prop}(hh:A.handled=none) (lo:(d==sysModules)=false) (hm:Raw s.heap d es ep) (hn:es.size<=sizeLine)
    (hQ:∀(h':Heap) tk acc,(∀b o,s.heap.get? b=some o->h'.get? b=some o)->ItemsOf (fun i v=>∃h:i<es.size,v=es[i].key) acc es.size->Q (.ref h'.objs.size) { s with heap:=h'.push { cls:=.type "tuple",data:=.seq acc },toks:=tk }) :
    wpAny (model prog w) A (call (.type "tuple") [.ref d]) Q E s:=by
 refine callType_codes (Q₁:=fun obj s₁=>s₁.TypeIs obj "tuple"/\Q obj s₁) F.called_tuple (F.typeCall_tuple_1 _) F.entry_object_init ?_ fun obj s₁ h₁=>?_
 ·refine codeAny_of_tree ?_
  show wpAny _ A.in1.in1 (do checkBuiltinCall "tuple.__new__" ⟨[.type "tuple",.ref d],[]⟩;again (.builtin "tuple.__new__" ⟨[.type "tuple",.ref d],[]⟩)) _ _ s
  refine aa (wpAny_of_eq (F.newCall_tuple_1 _) (af ⟨plainId_quiet F.plain_tuple_new _,codeAny_builtin F.entry_tuple_new ?_⟩))
  rw[Around.under_plainId F.plain_tuple_new _]
  have hsub:=sub_tuple_self
  have hinit:=init_tuple_lookup
  have hmh:=madeHere_tuple
  have hTI:=hm.typ
  wp_walk using wpAny_typeOf hTI,rD (es:=es) (ep:=ep) (by exact hh) lo hm hn
  intro h' tk acc hk hacc
  show wpAny _ _ (Builtin.Tuple.tupleExact acc.toList.toArray >>= fun v=>ret v) _ _ _
  unfold Builtin.Tuple.tupleExact
  refine aa (wpAny_newObj_type ?_ (by show acc.toList.toArray.size<=sizeLine;simp only[Array.toArray_toList];rw[hacc.1];exact hn))
  refine af ?_
  have e:acc.toList.toArray=acc:=by simp
  rw[e]
  exact⟨⟨_,aA _ rfl,rfl⟩,hQ h' tk acc hk hacc⟩
 ·exact⟨h₁.1,F.args_object_init_2 obj _,object_init_meets F.called_tuple.init.lookup F.called_tuple.made (by decide) prog w A.in1 _ s₁ ⟨h₁.1,rfl,h₁.2⟩⟩
end
end PySem
namespace L2
open PySem PySem.Spec PyProof.Rows
theorem Paired.at {α β:Type}{F:α -> β -> Prop}:∀ {l:List α}{m:List β}, Paired F l m -> l.length=m.length /\ ∀(i:Nat) (a:α), l[i]? = some a -> ∃b, m[i]? = some b /\ F a b
 | _,_,.nil=>⟨rfl,fun i a h=>by simp at h⟩
 | _,_,.cons r t=>by
  obtain⟨hl,ih⟩:=Paired.at t
  refine⟨by rw[aF,aF,hl],fun i a h=>?_⟩
  cases i with
  | zero =>
   have h:=am h
   subst h
   exact⟨_,rfl,r⟩
  | succ i=>exact ih i a (by simpa using h)
theorem nr:∀(ys:List (List Key × Addr × Value)),Vals (ys.map fun y=>V.ref y.2.1) (ys.map fun y=>Value.ref y.2.1)
 | []=>.nil
 | y::ys=>.cons rfl (nr ys)
section
variable {X:Cx}{p pos:Pos}{e:Expr}{t:TA}
def wb:List V->Hp->VK->Prop:=fun xs H Q=>∃a kvs,xs=[V.ref a]/\H a=some (.dT kvs)/\∀l rs,H l=none->rs.length=kvs.length->(∀(i:Nat) (k:List Key × V),kvs[i]? = some k->∃q,rs[i]? = some (V.ref q)/\H q=some (.tup (k.1.map kV)))->Q (.ref l) (upd H l (.tup rs))
theorem zF (hc:X.calm=true) (B:Blt X.mg) (ha:PA X [e] t) (hg:Gl X "tuple" := by rfl) (he:starEach [e] X.env=(false, eval e X.env) :: starEach [] X.env := by rfl) (hpl:(backTo pos (starEach [] X.env)).any (·.1)=false := by rfl) :
    PE X (.Call (.Name "tuple" p) [e] [] pos) (tCB wb t):=by
 refine iC (r:=wb) (fun pins s σ H xs us Q I r h=>?_) hg B.tuple (show bootBuiltins "tuple"=some (.type "tuple") by decide +kernel) ha (by decide) (by decide) he hpl
 obtain⟨a,kvs,rfl,hr,q⟩:=h
 obtain⟨u,rfl,ru⟩:=fZ r
 cases ru
 obtain⟨hz,hsys,ys,pr,o,es,ep,ho,hx,hdt,h4,h5⟩:=(show ObjOk X.prog X.w H s.heap a (.dT kvs) from I.hok a _ hr)
 obtain⟨pl,pat⟩:=Paired.at pr
 have esl:es.size=ys.length:=by rw[<- bZ,h4,ae]
 refine oC (es:=es) (ep:=ep) (I.ok.hd hc) hsys ⟨o,ho,hx,hdt⟩ (by omega) fun h' tk acc hk hacc=>?_
 have I1:=I.kept (h':=h') (t':=tk) hk
 have ea:acc.toList=ys.map fun y=>Value.ref y.2.1:=by
  refine List.ext_getElem (by rw[bZ,hacc.1,ae,esl]) fun j h1 h2=>?_
  rw[ae] at h2
  have h1':j<acc.size:=by rw[bZ] at h1;exact h1
  obtain⟨hj,ev⟩:=hacc.2 j acc[j] (Array.getElem?_eq_getElem h1')
  have e3:es.toList[j]? = some (entryOfKey (tupleKind (dU X.prog X.w)) ys[j]):=by rw[h4,aI,aV h2];rfl
  have e4:es[j]=entryOfKey (tupleKind (dU X.prog X.w)) ys[j]:=by
   have:es.toList[j]? = some es[j]:=by rw[Array.getElem?_toList,Array.getElem?_eq_getElem hj]
   rw[this] at e3
   exact am e3
  rw[Array.getElem_toList,List.getElem_map,ev,e4];rfl
 have hv:Vals (ys.map fun y=>V.ref y.2.1) acc.toList:=by
  rw[ea]
  exact nr ys
 refine⟨.ref _,_,I1.laid (o:=.tup (ys.map fun y=>V.ref y.2.1)) (fun b ob q=>ai _ q) (ac _) ⟨by rw[ae];omega,acc.toList,hv,?_⟩,rfl,q _ _ (I1.hok.fresh (ac _)) (by rw[ae];omega) fun i k hk=>?_⟩
 ·have e:acc.toList.toArray=acc:=by simp
  rw[e];exact TupN.new _ _
 ·obtain⟨y,hy,h1,h2,_⟩:=pat i k hk
  exact⟨y.2.1,by rw[aI,hy];rfl,h2⟩
end
end L2
namespace L2
open PySem
abbrev Prs:=List (Str × Str)
def eZ:Prs->Prs->Prs
 | acc,[]=>acc
 | acc,x::xs=>if x∈acc then eZ acc xs else eZ (acc++[x]) xs
theorem kE:∀(xs ys acc:Prs),eZ acc (xs++ys)=eZ (eZ acc xs) ys
 | [],ys,acc=>rfl
 | x::xs,ys,acc=>by
  show (if x∈acc then eZ acc (xs++ys) else eZ (acc++[x]) (xs++ys))=eZ (if x∈acc then eZ acc xs else eZ (acc++[x]) xs) ys
  split
  ·exact kE xs ys acc
  ·exact kE xs ys (acc++[x])
theorem kF:∀(xs acc:Prs),(eZ acc xs).length<=acc.length+xs.length
 | [],acc=>ac _
 | x::xs,acc=>by
  show (if x∈acc then eZ acc xs else eZ (acc++[x]) xs).length<=_
  split
  ·have:=kF xs acc;rw[aF];omega
  ·have:=kF xs (acc++[x]);rw[aJ] at this;rw[aF];simp at this;omega
theorem kH:∀(xs acc:Prs) (e:Str × Str), e ∈ eZ acc xs ↔ e ∈ acc ∨ e ∈ xs
 | [],acc,e=>by simp[eZ]
 | x :: xs, acc, e => by
  show e∈(if x∈acc then eZ acc xs else eZ (acc++[x]) xs) ↔ _
  split
  ·rename_i h
   rw[kH xs acc e,aB]
   constructor
   ·rintro (q | q)
    ·exact .inl q
    ·exact .inr (.inr q)
   ·rintro (q | rfl | q)
    ·exact .inl q
    ·exact .inl h
    ·exact .inr q
  ·rw[kH xs _ e,aH,aO,aB,or_assoc]
def gg (ks:Kn) (knot:Str) (e:Str × Str):Option (Str × Str):=match dF ks e.1 e.2 with
 | some (q,x,y)=>if q=knot then some (x,y) else none
 | none=>none
def eS (last:Bool) (c:List Str) (u:Str):Prs:=(c.filter fun v=>decide (v≠u)).map fun v=>if last then (v,u) else (u,v)
def wU (c:List Str) (wn:Prs) (word:Str):List Str:=c.filter fun u=>decide ((word,u)∈wn)
def hX (ks:Kn) (ts wn:Prs) (knot:Str) (c:List Str):Prs:=eZ [] (ts.filterMap (gg ks knot)++((wU c wn "first").flatMap (eS false c)++(wU c wn "last").flatMap (eS true c)))
def FL (k:Str × List Str) (e:Str × Str):Prop:=(e.1="first"/\k.2.head? = some e.2)∨(e.1="last"/\k.2.getLast? = some e.2)
theorem FL.mem {k:Str × List Str}{e:Str × Str}(h:FL k e):e.2∈k.2:=by
 rcases h with⟨_,h⟩ | ⟨_,h⟩
 ·exact List.mem_of_head? h
 ·exact cA h
structure WnX (ks:Kn) (wn:Prs):Prop where
 nd:wn.Nodup
 at_:∀e∈wn,∃k∈ks,FL k e
end L2
namespace L2
open PySem PySem.Spec PyProof.Rows
def Bj (K:W.Frag) (ta:TA):TI:=fun σ H R=>ta σ H fun vs H1=>∃a b xs ys,vs=[.ref a,.ref b]/\SqT K H1 a xs/\SqL K H1 b ys/\R (qy K a b) H1
theorem uA {P:Program}{w:World}{K:W.Frag}{elts:List Expr}{x1}{tp:Pos}(a b z TI TO i1 i2:Addr) (D:ZipApart z TI TO i1 i2 a b) :
    Turn P w K (.Tuple elts x1 tp) (qy K a b) [z,TI,TO,i1,i2] z (fun i h=>(∃f0 f1,F0 f0/\Zp h z TI TO f0 f1)/\IsPair h TI (.ref i1) (.ref i2)/\(∃c d,IsPair h TO c d)/\h.IsTupleIter i1 a i/\h.IsListIter i2 b i) :=
 mQ (t1:=true) (t2:=false) a b z TI TO i1 i2 D
theorem xc (K:W.Frag) {X:Cx}{elts:List Expr}{x1}{tp:Pos}{a b:Expr}{ta:TA}{p pos:Pos}(hg:Gl X "zip") (hm:X.mg "zip"=none) (ha:PA X [a,b] ta) (hs:starEach [a,b] X.env=(false,eval a X.env)::starEach [b] X.env:=by rfl) (hpl:(backTo pos (starEach [b] X.env)).any (·.1)=false:=by rfl) (hK:X.K=K:=by rfl) :
    PI X (.Tuple elts x1 tp) (.Call (.Name "zip" p) [a,b] [] pos) (Bj K ta):=by
 subst hK
 intro pins s σ H R I h
 refine Call_ (iy I hg hm (show bootBuiltins "zip"=some (.type "zip") by decide +kernel) (PyProof.Rows.callWith_type1 (thn (ha pos pins s σ H _ I h) fun us s1 ⟨vs,H1,I1,r1,q1⟩=>?_) hs hpl))
 obtain⟨l1,l2,xs,ys,e,hqa,hqb,q⟩:=q1
 subst e
 obtain⟨u1,u2,rfl,r1,r2⟩:=ir r1
 cases r1
 cases r2
 obtain⟨its,rv,pa,_⟩:=I1.tuple hqa
 obtain⟨jts,rw',pb,_⟩:=I1.list hqb
 have a1:l1<s1.heap.objs.size:=by obtain⟨_,e,_⟩:=pa;exact ag e
 have a2:l2<s1.heap.objs.size:=by obtain⟨_,e,_⟩:=pb.isList;exact ag e
 refine uZ (show s1.heap.IsTuple l1 its.toArray from pa) pb.isList fun h' hz hTI hTO hi1 hi2 hk=>?_
 have T:=uA (P:=X.prog) (w:=X.w) (K:=X.K) (elts:=elts) (x1:=x1) (tp:=tp) l1 l2 _ _ _ _ _ (zipApart_new a1 a2)
 have t0:(∃f0 f1,F0 f0/\Zp h' (s1.heap.objs.size+4) (s1.heap.objs.size+2) (s1.heap.objs.size+3) f0 f1)/\IsPair h' (s1.heap.objs.size+2) (.ref s1.heap.objs.size) (.ref (s1.heap.objs.size+1))/\(∃c d,IsPair h' (s1.heap.objs.size+3) c d)/\h'.IsTupleIter s1.heap.objs.size l1 0/\h'.IsListIter (s1.heap.objs.size+1) l2 0:=⟨⟨_,_,.inl rfl,hz⟩,hTI,⟨_,_,hTO⟩,hi1,hi2⟩
 refine T.self X.A 0 { s1 with heap:=h' } _ _ t0 ?_
 refine⟨_,_,_,_,H1,rfl,I1.kept (t':=s1.toks) hk,T,t0,fun b hb=>?_,q⟩
 have hb:b=s1.heap.objs.size+4∨b=s1.heap.objs.size+2∨b=s1.heap.objs.size+3∨b=s1.heap.objs.size∨b=s1.heap.objs.size+1:=by simpa using hb
 have hle:s1.heap.objs.size<=b:=by rcases hb with e | e | e | e | e <;> rw[e] <;> first | exact ac _ | exact Nat.le_add_right _ _
 exact I1.fpOk hle (I1.hok.fresh hle)
theorem xH {K:W.Frag}{a b:Addr}{xs ys:List V}{g:TG}{tb:TS}{D:Ends}{σ:St}{H:Hp}(Pv:Nat -> St -> Hp -> Prop) (h0:Pv 0 σ H) (hl:∀i σ H, i <= (xs.zip ys).length -> Pv i σ H -> SqT K H a xs /\ SqL K H b ys)
    (hs:∀i x y p σ H,(xs.zip ys)[i]? = some (x,y)->Pv i σ H->H p=none->g (.ref p) σ (upd H p (.tup [x,y])) fun σ2 H2=>tb { D with nx:=Pv (i+1),ct:=Pv (i+1),bk:=D.nx } σ2 H2) (hd:∀σ H,Pv (xs.zip ys).length σ H->D.nx σ H) :
    ∃W:Nat->Nat->St->Hp->Prop,(∃m,W 0 m σ H)/\∀i m σ H,W i m σ H ->
     ((qy K a b).stop i H/\D.nx σ H)∨((qy K a b).go i H/\∃N:St->Hp->Prop,(∀σ' H',N σ' H'->∃m',m'<m/\W (i+1) m' σ' H')/\∀x H',(qy K a b).yld i H x H'->g x σ H' fun σ2 H2=>tb { D with nx:=N,ct:=N,bk:=D.nx } σ2 H2):=by
 refine⟨fun i m σ H=>m=(xs.zip ys).length-i/\i<=(xs.zip ys).length/\Pv i σ H,⟨(xs.zip ys).length,by simp,aP _,h0⟩,?_⟩
 rintro i m σ H ⟨rfl,hi,p⟩
 obtain⟨qa,qb⟩:=hl i σ H hi p
 have hlz:(xs.zip ys).length=min xs.length ys.length:=bx
 by_cases hlt:i<(xs.zip ys).length
 ·have h1:i<xs.length:=by omega
  have h2:i<ys.length:=by omega
  refine .inr ⟨⟨xs,ys,xs[i],ys[i],qa,qb,aV h1,aV h2⟩,Pv (i+1),fun σ' H' q=>⟨(xs.zip ys).length-(i+1),by omega,rfl,by omega,q⟩,?_⟩
  rintro x H' ⟨q,u,v,hq,rfl,hu,hv,rfl⟩
  exact hs i u v q σ H (by rw[bq];exact⟨hu xs qa,hv ys qb⟩) p hq
 ·have e:i=(xs.zip ys).length:=by omega
  refine .inl ⟨⟨xs,ys,qa,qb,by omega⟩,hd σ H (e ▸ p)⟩
end L2
namespace MG
variable {es:List (Nat × Nat)}{s n P t L:Nat}{me par:Nat->Nat}{rw:Nat->List Nat}
inductive Chn (P:Nat) (me par:Nat->Nat):Nat->Nat->List Nat->Prop
 | done:Chn P me par P 0 []
 | step {j m:Nat} {w:List Nat}:0<j->Chn P me par j m w->Chn P me par (par j) (m+1) (me j::w)
end MG
open PySem
namespace L2
open PySem
def kdO (ks:Kn) (u:Str):List Str:=((ks.find? fun k=>decide (k.1=u)).map (·.2)).getD []
section
variable {us:List Str}{ks:Kn}
def rd (ks:Kn):Nat->Str->List Str
 | 0,u=>[u]
 | n+1,u=>u::(kdO ks u).flatMap (rd ks n)
end
section
variable {H H':Hp}
theorem fh {p a:Addr}{ys:List (Key × V)}{xs:List V}(hp:H p=some (.dK ys)) (b:But p H H') (h:H a=some (.tup xs)):H' a=some (.tup xs):=b a _ (eK h hp (by intro z;cases z)) h
theorem kJ {p:Addr}{ys:List (Key × V)}(hp:H p=some (.dK ys)) (b:But p H H') {v:V}{e:Str × Str}(h:Rep H v (cW e)):Rep H' v (cW e):=by
 obtain⟨a,rfl,ha⟩:=lP h
 exact dG (fh hp b ha)
theorem gm {α:Type}{f:α->PyData}(k:∀ {v:V}{e:α},Rep H v (f e)->Rep H' v (f e)):∀ {es:List α}{xs:List V},RepAll H xs (es.map f)->RepAll H' xs (es.map f)
 | [],xs,h=>by rw[RepAll.nilI h];exact .nil
 | e::es,xs,h=>by
  obtain⟨y,ys',rfl,a,c⟩:=RepAll.consI h
  exact .cons (k a) (gm k c)
theorem iD {p:Addr}{ys:List (Key × V)}(hp:H p=some (.dK ys)) (b:But p H H') {v:V}{ps:List (Str × Str)}(h:Rep H v (fq ps)):Rep H' v (fq ps):=by
 obtain⟨a,xs,rfl,ha,r⟩:=dZ h
 exact .tup (fh hp b ha) (gm (kJ hp b) r)
theorem iY {p:Addr}{ys:List (Key × V)}(hp:H p=some (.dK ys)) (b:But p H H') {v:V}{k:Str × List Str}(h:Rep H v (eM k)):Rep H' v (eM k):=by
 obtain⟨ta,la,rfl,h1,h2⟩:=lE h
 exact .tup (fh hp b h1) (.cons (.str _) (.cons (.tup (fh hp b h2) (RepAll.of_strs _)) .nil))
theorem gi {p:Addr}{ys:List (Key × V)}(hp:H p=some (.dK ys)) (b:But p H H') {v:V}{ks:Kn}(h:Rep H v (fo ks)):Rep H' v (fo ks):=by
 obtain⟨a,xs,rfl,ha,r⟩:=fQ h
 exact .tup (fh hp b ha) (gm (iY hp b) r)
theorem kz {p:Addr}{ys:List (Key × V)}(hp:H p=some (.dK ys)) (b:But p H H') {v:V}{ks:Kn}{ts ws wn:List (Str × Str)}(h:Rep H v (df ks ts ws wn)):Rep H' v (df ks ts ws wn):=by
 obtain⟨q,a,c,d,e,rfl,hq,r1,r2,r3,r4⟩:=dI h
 exact fO (fh hp b hq) (gi hp b r1) (iD hp b r2) (iD hp b r3) (iD hp b r4)
end
theorem DPV.at_dK {H:Hp}{p a:Addr}(h:DPV H p a):∃ys,H p=some (.dK ys):=let ⟨_,_,q,_⟩:=h;⟨_,q⟩
structure KLL (H:Hp) (L:Addr) (kl:KL):Prop where
 l:H L=some (.lst (kl.map fun q=>V.ref q.1))
 t:∀q∈kl,H q.1=some (.lst [.str q.2.2.1,.ref q.2.1])
 c:∀q∈kl,H q.2.1=some (.lst (List.map V.str q.2.2.2))
 nd:(kl.map fun q=>q.2.1).Nodup
 nl:∀q∈kl,q.2.1≠L
theorem yt {s:Str}{r:Addr}{ch:List Str}:HO.lst [.str s,.ref r]≠HO.lst (List.map V.str ch):=fun z=>by
 have z:[V.str s,V.ref r]=List.map V.str ch:=HO.lst.inj z
 have:V.ref r∈List.map V.str ch:=by rw[<- z];simp
 obtain⟨y,_,e⟩:=ao.mp this
 cases e
theorem uh {s:Str}{r:Addr}{α:Type}{f:α->Addr}{l:List α}:HO.lst [.str s,.ref r]≠HO.lst (l.map fun q=>V.ref (f q)):=fun z=>by
 have z:[V.str s,V.ref r]=l.map fun q=>V.ref (f q):=HO.lst.inj z
 have:V.str s∈l.map fun q=>V.ref (f q):=by rw[<- z];simp
 obtain⟨y,_,e⟩:=ao.mp this
 cases e
section
variable {H H':Hp}{L p:Addr}{kl:KL}
theorem KLL.draw (h:KLL H L kl) {ys:List (Key × V)}(hp:H p=some (.dK ys)) (b:But p H H'):KLL H' L kl :=
 ⟨b _ _ (eK h.l hp (by intro z;cases z)) h.l,fun q hq=>b _ _ (eK (h.t q hq) hp (by intro z;cases z)) (h.t q hq),fun q hq=>b _ _ (eK (h.c q hq) hp (by intro z;cases z)) (h.c q hq),h.nd,h.nl⟩
theorem KLL.same (h:KLL H L kl) (s:Same H H'):KLL H' L kl:=⟨s _ _ h.l,fun q hq=>s _ _ (h.t q hq),fun q hq=>s _ _ (h.c q hq),h.nd,h.nl⟩
theorem KLL.put (h:KLL H L kl) {j:Nat}{ta la:Addr}{nm:Str}{ch ch':List Str}(hj:kl[j]? = some (ta, la, (nm, ch))) :
    KLL (upd H la (.lst (List.map V.str ch'))) L (kl.set j (ta,la,(nm,ch'))):=by
 have hm:=au hj
 have nj:=h.nl _ hm
 have hc:=h.c _ hm
 have e1:((kl.set j (ta,la,(nm,ch'))).map fun q=>q.1)=kl.map fun q=>q.1:=jb hj rfl
 have e2:((kl.set j (ta,la,(nm,ch'))).map fun q=>q.2.1)=kl.map fun q=>q.2.1:=jb hj rfl
 refine⟨?_,fun q hq=>?_,fun q hq=>?_,by rw[e2];exact h.nd,fun q hq=>?_⟩
 ·rw[cJ (Ne.symm nj),h.l]
  have:=congrArg (List.map V.ref) e1
  rw[bS,bS] at this
  exact congrArg (fun z=>some (HO.lst z)) this.symm
 ·rcases iP hq with rfl | ⟨m,_,hm'⟩
  ·have:=h.t _ hm
   rw[cJ (eK this hc yt)];exact this
  ·have:=h.t _ (au hm')
   rw[cJ (eK this hc yt)];exact this
 ·rcases iP hq with rfl | ⟨m, hmj, hm'⟩
  ·exact cE
  ·have hne:q.2.1≠la:=fun z=>by
      have h1:(kl.map fun q=>q.2.1)[m]? = some la:=by rw[aI,hm'];exact congrArg some z
      have h2:(kl.map fun q=>q.2.1)[j]? = some la:=by rw[aI,hj];rfl
      exact hmj ((List.getElem?_inj (ah.mp h1).1 h.nd).mp (h1.trans h2.symm))
   rw[cJ hne];exact h.c _ (au hm')
 ·rcases iP hq with rfl | ⟨m,_,hm'⟩
  ·exact nj
  ·exact h.nl _ (au hm')
theorem KLL.add (h:KLL H L kl) {ta la:Addr}{u:Str}(ht:H ta=some (.lst [.str u, .ref la])) (hl:H la=some (.lst [])) (hla:la ∉ kl.map fun q => q.2.1) (h1:la ≠ L) :
    KLL (upd H L (.lst ((kl.map fun q=>V.ref q.1)++[V.ref ta]))) L (kl++[(ta,la,(u,[]))]):=by
 refine⟨?_,fun q hq=>?_,fun q hq=>?_,?_,fun q hq=>?_⟩
 ·rw[cE,aj];rfl
 ·rcases aH.mp hq with hq | hq
  ·have:=h.t q hq
   rw[cJ (eK this h.l uh)];exact this
  ·rw[aO.mp hq]
   rw[cJ (eK ht h.l uh)];exact ht
 ·rcases aH.mp hq with hq | hq
  ·rw[cJ (h.nl q hq)];exact h.c q hq
  ·rw[aO.mp hq]
   rw[cJ h1];exact hl
 ·rw[aj]
  refine(List.perm_append_singleton _ _).nodup_iff.mpr ?_
  exact ba.mpr ⟨hla,h.nd⟩
 ·rcases aH.mp hq with hq | hq
  ·exact h.nl q hq
  ·rw[aO.mp hq];exact h1
theorem KLL.dic (h:KLL H L kl) {D:Addr}{lv lv2:List (Key × V)}(hD:H D=some (.dK lv)):KLL (upd H D (.dK lv2)) L kl :=
 ⟨by rw[cJ (eK h.l hD (by intro z;cases z))];exact h.l,fun q hq=>by rw[cJ (eK (h.t q hq) hD (by intro z;cases z))];exact h.t q hq,fun q hq=>by rw[cJ (eK (h.c q hq) hD (by intro z;cases z))];exact h.c q hq,h.nd,h.nl⟩
theorem TrN.addKnot {us:List Str}{i:Nat}{ks:Kn}(h:TrN us (i+1) ks) (nd:us.Nodup) (nn:∀u∈us,u≠"") {u:Str}(hu:us[i]? = some u) (hnew:u∉ks.map (·.1)):TrN us (i+1) (ks++[(u,[])]):=by
 have:=h.knot nd nn hu hnew ks.length
 rwa [ap (ac _),bW (ac _)] at this
end
end L2
namespace L2
open PySem PySem.Spec PyProof.Rows
section
variable {X:Cx}
def yX (K:W.Frag):V->V->Hp->VK->Prop:=fun x y H Q=>∃a b xs,x=.ref a/\y=.ref b/\SqT K H a xs/\H b=some (.tup [])/\Q (.bl (!xs.isEmpty)) H
theorem oT (K:W.Frag) (hu:X.A.units+64<cLine) (hK:X.K=K := by rfl):OpR X (compareOp .NotEq) (yX K) := by
 subst hK
 intro pins s σ H x y v u Q I rx ry h
 obtain⟨a,b,xs,rfl,rfl,ha,hb,q⟩:=h
 cases rx
 cases ry
 obtain⟨its,rv,pl,hz⟩:=I.tuple ha
 obtain⟨jts,rw',pb,_⟩:=I.tuple (a:=b) (xs:=[]) (.of hb)
 cases rw'
 have l1:=rv.length
 refine SeqAt.RcNeAt.tuples (e:=fun _=>true) (show s.heap.IsTuple a its.toArray from pl) (show s.heap.IsTuple b (List.toArray []) from pb) (by omega) (fun i h1 h2=>absurd h2 (by simp)) X.prog X.w X.xe _ ⟨.bl _,H,I,rfl,?_⟩
 have e:(!((List.range (min its.toArray.size (List.toArray ([]:List Value)).size)).all (fun _=>true)&&its.toArray.size==(List.toArray ([]:List Value)).size))=!xs.isEmpty:=by
  cases xs with
  | nil=>cases rv;rfl
  | cons x r =>
   cases its with
   | nil=>cases rv
   | cons y q=>simp
 rw[e]
 exact q
end
def AC (f:Addr) (sp:Sp) (E:XK) (tf:TE) (t:TA):TE:=fun σ H Q=>tf σ H fun v H1=>v=.ref f/\t σ H1 fun vs H2=>sp (vs++[]) H2 Q E
theorem xv {X:Cx}{CX:CXT}{k:Nat}{f:Addr}{fd:FuncData}{ps:List Str}{sp:Sp}{E:XK}{func e:Expr}{es:List Expr}{pos:Pos}{tf:TE}{t:TA}(F:FnOk X.prog X.w X.K X.mg X.base CX k f fd ps sp) (hr:Room k X.A) (hk:W.keepIn X.K (.ref f)=true) (hb:Binds X.K fd ps []) (hx:kD CX X E)
    (hf:PE X func tf) (ha:PA X (e::es) t) (he:starEach (e::es) X.env=(false,eval e X.env)::starEach es X.env:=by rfl) (hpl:(backTo pos (starEach es X.env)).any (·.1)=false:=by rfl)
    (hev:eval (.Call func (e::es) [] pos) X.env=(eval func X.env >>= fun v=>callWith pos v [] (backTo pos (starEach (e::es) X.env)) (backToKw pos (keywordEach [] X.env))):=by rfl) :
    PE X (.Call func (e::es) [] pos) (AC f sp E tf t):=by
 intro pins s σ H Q I h
 rw[hev]
 refine aa (thn (hf pins s σ H _ I h) fun u s1 ⟨v,H1,I1,r1,q1,q2⟩=>?_)
 subst q1
 obtain rfl:u=Value.ref f:=r1
 refine W.callWith_K (h₀:=X.base) I1.ok.mod.kin hk (thn (ha pos pins s1 σ H1 _ I1 q2) fun us s2 ⟨vs,H2,I2,r,q⟩=>⟨I2.kIn,?_⟩) he hpl
 exact vk F hr hb .nil hx I2 r q
open _root_.HT PySem.SeqAt PySem.MeetsSeq PySem.MeetsSeq2 PySem.MeetsSeq3
namespace HTW
variable {prog:Program}{w:World}{A:Around}{E:Value->Shared->Prop}{s:Shared}
theorem getItem_tuple_whole {t sl:Addr}{items:Array Value}{vl vu:Value}{lo hi:Option Int}{Q:Value->Shared->Prop}(ht:IsTup s.heap t items) (hs:s.heap.IsSliceOf sl vl vu .none) (pl:IsPart vl lo) (pu:IsPart vu hi)
    (h0:sIx items.size 0 lo=0) (h1:sIx items.size items.size hi=items.size)
    (h:Q (.ref t) s):wpAny (model prog w) A (getItem (.ref t) (.ref sl)) Q E s:=by
 obtain⟨os,hos,hcs,hds⟩:=id hs
 have hTs:s.TypeIs (.ref sl) "slice":=⟨os,hos,hcs⟩
 unfold getItem
 try with_reducible refine aR ?_
 first | refine aa (af ?_) | skip
 refine aa (wpAny_sequenceKey ht.typeIs (by decide) ?_)
 refine aa (wpAny_callSpecial?_slot (name:=Str.ofString "__getitem__") ht.typeIs PyProof.Rows.slot_tuple_getitem
  (wpAny_call_entry PyProof.Rows.slot_tuple_getitem ht.typeIs entry_tuple_getitem ?_ (args_tuple_getitem _ _)))
 show wpAny _ _ (Builtin.Tuple.tupleItemsOf (.ref t) >>= _) _ _ s
 refine aa (tupleItemsOf_ ht ?_)
 refine aa (wpAny_typeOf hTs ?_)
 rw[if_pos (by decide)]
 refine aa (iW hs pl pu ?_)
 have hyes:(((sIx items.size 0 lo:Nat):Int)==0&&(1:Int)==1&&(sIx items.size items.size hi-sIx items.size 0 lo)==items.size)=true:=by
  rw[h0,h1];simp
 show wpAny _ _ (if (((sIx items.size 0 lo:Nat):Int)==0&&(1:Int)==1&&(sIx items.size items.size hi-sIx items.size 0 lo)==items.size)=true then _ else _) _ _ s
 rw[if_pos hyes]
 unfold Builtin.Tuple.tupleIsExact
 refine aa (aa (wpAny_typeOf ht.typeIs (af ?_)))
 rw[if_pos (by decide)]
 refine aa (wpAny_rule (af ⟨_,rfl,af h⟩))
end HTW
section
variable {X:Cx}
theorem vx {xs:List V}{lo hi:Option Int}(h0:HT.sIx xs.length 0 lo=0) (h1:HT.sIx xs.length xs.length hi=xs.length):il xs lo hi=xs:=by
 unfold il
 rw[h0,h1,List.drop_zero,Nat.sub_zero,ap (ac _)]
def Bf:V->Option Int->Option Int->Hp->VK->Prop:=fun x lo hi H Q=>∃a xs,x=.ref a/\H a=some (.tup xs)/\∀p H',Same H H'->H' p=some (.tup (il xs lo hi))->Q (.ref p) H'
theorem lH:SlR X Bf:=by
 intro pins s σ H x v vl vu lo hi sl Q I rx hs pl pu h
 obtain⟨a,xs,rfl,hx,q⟩:=h
 by_cases hw:HT.sIx xs.length 0 lo=0/\HT.sIx xs.length xs.length hi=xs.length
 ·cases rx
  obtain⟨its,r,ht,hz⟩:=I.tuple (.of hx)
  have hlen:its.toArray.size=xs.length:=by rw[aE];exact r.length.symm
  refine⟨"tuple",_,PyProof.Rows.slot_tuple_getitem.lookup,ht.typeIs,?_⟩
  refine HTW.getItem_tuple_whole ht hs pl pu (by rw[hlen];exact hw.1) (by rw[hlen];exact hw.2) ?_
  exact⟨.ref a,H,I,rfl,q a H (Same.refl H) (by rw[vx hw.1 hw.2];exact hx)⟩
 ·exact uD pins s σ H _ v vl vu lo hi sl Q I rx hs pl pu ⟨a,xs,rfl,.of hx,hw,fun p hp=>q p _ (Same.new hp) cE⟩
def Bc:R2:=fun x y H Q=>∃a b xs ys,x=.ref a/\y=.ref b/\H a=some (.tup xs)/\H b=some (.tup ys)/\xs.length+ys.length<=sizeLine/\∀p H',Same H H'->H' p=some (.tup (xs++ys))->Q (.ref p) H'
theorem je:OpR X (binaryOp .Add) Bc:=by
 intro pins s σ H x y v u Q I rx ry h
 obtain⟨a,b,xs,ys,rfl,rfl,ha,hb,hz,q⟩:=h
 refine wN X.K rfl pins s σ H _ _ v u Q I rx ry ⟨a,b,xs,ys,rfl,rfl,.of ha,.of hb,hz,fun e=>q b H (Same.refl H) (by rw[e];exact hb),fun _ e=>q a H (Same.refl H) (by rw[e,aS];exact ha),fun _ _ p hp=>q p _ (Same.new hp) cE⟩
end
end L2
namespace L2
open PySem PySem.Spec PyProof.Rows
section
variable {X:Cx}{e e':Expr}{te te':TE}
theorem p1 (ha:PE X e te) (hs:starEach [e] X.env=(false,eval e X.env)::starEach [] X.env:=by rfl):PA X [e] (pN te uy):=cT ha fV hs
theorem p2 (ha:PE X e te) (hb:PE X e' te') (hs:starEach [e,e'] X.env=(false,eval e X.env)::starEach [e'] X.env:=by rfl) (hs':starEach [e'] X.env=(false,eval e' X.env)::starEach [] X.env:=by rfl):PA X [e,e'] (pN te (pN te' uy)):=cT ha (cT hb fV hs') hs
theorem px (K:W.Frag) {pos:Pos}{k:Nat}(hr:Room k X.A) (ha:PE X e te) (hb:PE X e' te') (hs:rV e':=by exact fun _ _=>rfl) (hK:X.K=K:=by rfl):PE X (.Subscript e e' pos) (tOp (fun x y H Q=>IxX K H x y Q) te te'):=ua (ix_X K hr.units hK) ha hb hs
theorem pc {x:Str}{ps:List Str}{sp:Sp}{k j:Nat}{p pos:Pos}{es:List Expr}{t:TA}(c:Cal X.prog X.w X.K X.mg X.base k x ps sp) (hr:Room j X.A) (ha:PA X (e::es) t) (hj:k<=j:=by decide) (hg:Gl X x:=by exact rfl)
    (hs:starEach (e::es) X.env=(false,eval e X.env)::starEach es X.env:=by rfl) (hpl:(backTo pos (starEach es X.env)).any (·.1)=false:=by rfl) (hdb:(x==("__debug__":Str))=false:=by decide) :
    PE X (.Call (.Name x p) (e::es) [] pos) (pQ sp [] E0 t):=nq c (hr.mono hj) hg ha hs hpl hdb
theorem pst (i:Nat) {x:Str}{pos pos':Pos}(hN:X.N.Nodup) (he:PE X e te) (hi:X.N[i]? = some x:=by rfl) (hx:Loc X.env.scope x:=by exact Or.inl rfl) (hs:swapsWith e (some (.Name x pos')) pos.line X.env=pure false:=by rfl)
    (hf:X.fn x=true∨X.env.scope.names.lookup x=some .local:=by first | exact .inl rfl | exact .inr rfl | assumption):PS X (.Assign [.Name x pos'] e pos) (tY te (eF i)):=gr hN hi hx he hs hf
end
end L2
namespace K53
open PySem L2
def top (i:Nat):Stmt:=PySem.Challenge.pw_orderkeep_k53_wants_told.main.body.getD i (.Pass ⟨0,0,0,0⟩)
abbrev lU:Stmt:=top 14
abbrev kY:Stmt:=top 16
abbrev jy:Stmt:=top 17
abbrev iT:Stmt:=top 18
abbrev qY:Stmt:=top 19
abbrev ow:Stmt:=top 20
abbrev n8:Stmt:=top 32
abbrev kR:Stmt:=top 33
abbrev p5:Stmt:=top 36
abbrev j6:Stmt:=top 38
abbrev kX:Stmt:=top 39
abbrev tT:Stmt:=top 41
abbrev gP:Stmt:=top 42
abbrev iV:Stmt:=top 43
abbrev lS:Stmt:=top 44
abbrev jo:Stmt:=top 47
abbrev iu:Stmt:=top 49
abbrev nU:Stmt:=top 50
abbrev kj:Stmt:=top 54
abbrev kW:Stmt:=top 58
abbrev jf:Stmt:=top 70
abbrev oz:Stmt:=top 71
abbrev mC:Stmt:=top 72
abbrev nV:Stmt:=top 73
abbrev oa:Stmt:=top 80
abbrev iq:Stmt:=top 87
abbrev jV:Stmt:=top 90
abbrev qK:Stmt:=top 98
abbrev ku:Stmt:=top 103
abbrev md:Stmt:=top 106
abbrev iI:Stmt:=top 109
abbrev om:Stmt:=top 114
abbrev oo:Stmt:=top 115
abbrev gj:Stmt:=top 116
abbrev ml:Stmt:=top 117
abbrev iE:Stmt:=top 118
abbrev xT:Stmt:=top 120
abbrev tL:Stmt:=top 121
abbrev kM:Stmt:=top 122
abbrev jh:Stmt:=top 123
abbrev jT:Stmt:=top 124
abbrev mh:Stmt:=top 125
abbrev kC:Stmt:=top 126
abbrev mF:Stmt:=top 127
abbrev kQ:Stmt:=top 128
abbrev mm:Stmt:=top 129
abbrev jW:Stmt:=top 131
abbrev iH:Stmt:=top 132
abbrev uk:Stmt:=top 133
abbrev mH:Stmt:=top 134
abbrev kO:Stmt:=top 135
abbrev nX:Stmt:=top 136
abbrev hI:Stmt:=Bk (top 2) 0
section
variable {P:Program}{w:World}{K:W.Frag}{mg:Str->Option Value}{base:Heap}
def vg (K:W.Frag):Sp:=fun vs H Q _=>∃(a:Addr) (ns:List Int),vs=[.ref a]/\SqL K H a (ns.map V.int)/\∀p H',DPen K H' p a->Q (.ref p) H'
theorem scPen:FnScope ["_law_script"] ["_law_script"] (cI xT):=⟨rfl,rfl,rfl,by decide +kernel,rfl,by decide +kernel,by decide +kernel⟩
theorem AD {f:Addr}{fd:FuncData}(F:Fun K "_law_pen" "_law_pen" xT f fd) (B:Blt mg):FnOk P w K mg base CX0 1 f fd ["_law_script"] (vg K):=by
 refine F.ok scPen (fun vs H Q E h=>?_) (fun cdv A outer s H vs Q E hr h=>?_)
 ·obtain⟨a,ns,rfl,_⟩:=h
  rfl
 ·obtain⟨a,ns,rfl,hS,k⟩:=h
  have nd:=scPen.nd
  refine⟨_,(cH (cL (sJ (kh cM (pv 0) (kh cM cG (kh cM cG sR))) rfl rfl (by simp) (by decide)))),?_⟩
  refine fun p hp=>⟨_,rfl,?_⟩
  refine⟨cE,gK a 0 0,rfl,(by show 3<=15;decide),?_⟩
  have s1:Same H (upd (upd H p (.dK [])) p (.dK (ia [] (gK a 0 0)))):=by rw[nQ];exact Same.new hp
  exact k p _ (DPen.new hS hp s1 ⟨0,0,cE,by decide,by decide⟩)
theorem A1 {H:Hp}{a l:Addr}{o:HO}{xs:List V}(h:SqL K H a xs) (e:H l=none):SqL K (upd H l o) a xs:=by
 have s:=Same.new (o:=o) e
 rcases h with (h | ⟨ob,h⟩) | h
 ·exact .inl (.inl (s _ _ h))
 ·exact .inl (.inr ⟨ob,s _ _ h⟩)
 ·exact .inr h
theorem scDraw:FnScope ["_law_pen_here","_law_many","_law_found","_law_at","_law_cell","_law_number"] ["_law_pen_here","_law_many"] (cI tL):=⟨rfl,rfl,rfl,by decide +kernel,rfl,by decide +kernel,by decide +kernel⟩
theorem yR {f:Addr}{fd:FuncData}(F:Fun K "_law_draw" "_law_draw" tL f fd) (B:Blt mg):FnOk P w K mg base CX0 1 f fd ["_law_pen_here", "_law_many"] (m7 K) := by
 refine F.ok scDraw (fun vs H Q E h=>?_) (fun cdv A outer s H vs Q E hr h=>?_)
 ·obtain⟨p,a,m,rfl,_⟩:=h
  rfl
 ·obtain⟨p, a, m, rfl, ⟨⟨ns, hS⟩, i, n, hp, hi, hn⟩, hm, hm2, k⟩ := h
  have nd:=scDraw.nd
  refine⟨_,(cF (cX (cK jl (px K hr (pv 0) cM) cG (cQ _)) (cF (pst 2 nd (cZ gL (px K hr (pv 0) cM) (pv 1)))
   (cF (gM (cZ nL (px K hr (pv 0) cM) (pv 1)) (hW (pv 0) cM (iQ hr.units)))
   (cH (cL (pv 2))))) cS)
   (cF (pst 3 nd (px K hr (pv 0) cM))
   (cF (gM (cZ dz (pv 3) cG) (hW (pv 0) cM (iQ hr.units)))
   (cF (pst 4 nd cG)
   (cF (cX (cK (xk K hr.units) (px K hr (pv 0) cM) (dw fV) (cQ _)) (cH (pst 4 nd (px K hr (px K hr (pv 0) cM) (cZ gL (pv 3) (dO K B (p1 (px K hr (pv 0) cM))))))) cS)
   (cF (cX (PW.pt (fu (cK kA (pv 3) (dO K B (p1 (px K hr (pv 0) cM))) (cQ _)) (eV (cK Bg (tm B (p1 (pv 4))) (cZ Au cG cG) (cQ _))))) (cF (gM (cZ nL (tm B (p1 (pv 4))) (pv 1)) (hW (pv 0) cM (iQ hr.units)))
   (cH (cL (cZ gL (tm B (p1 (pv 4))) (pv 1))))) cS)
   (cF (pst 5 nd (cZ gL (cZ jv (cZ dz (cZ dz (cZ gL (pv 4) cG) (cZ jv cG (pv 3))) cG) cG) cG))
   (cF (pst 5 nd (cZ gL (cZ dz (cZ dz (cZ jv (pv 5) (pv 5)) (cZ jv cG (pv 5))) (pv 3)) cG))
   (cH (cL (cZ gL (cZ nL (pv 5) cG) (pv 1)))))))))))),?_⟩
  refine⟨_,rfl,.dic (pW hp) ⟨_,_,rfl,rfl,_,rfl,?_⟩⟩
  refine cR (fun h=>?_) (fun h=>?_)
  ·refine⟨_,rfl,.dic (pW hp) ⟨_,rfl,_,_,rfl,rfl,hm,?_⟩⟩
   refine⟨_,rfl,.dic (pW hp) ⟨_,rfl,_,_,rfl,rfl,⟨hm,hm2⟩,?_⟩⟩
   refine⟨_,rfl,.dic (vL hp) ?_⟩
   refine⟨_,rfl,?_⟩
   exact k _ _ (bg _ (by omega)) (bp _ hm) ⟨i,n / m,cE,hi,Int.ediv_nonneg hn (by omega)⟩ But.upd
  ·refine⟨_, rfl, .dic (AA hp) ?_⟩
   refine⟨_,rfl,.int ?_⟩
   refine⟨_,rfl,.dic (AQ hp) ?_⟩
   have hp1:(upd H p (.dK (gK a (i+1) n))) p=some (.dK (gK a (i+1) n)):=cE
   have hS1:SqL K (upd H p (.dK (gK a (i+1) n))) a (ns.map V.int):=hS _ But.upd
   have bu1:But p H (upd H p (.dK (gK a (i+1) n))):=But.upd
   generalize upd H p (.dK (gK a (i+1) n))=H1 at hp1 hS1 bu1 ⊢
   refine⟨_,rfl,.dic (mR hp1) ⟨(by show 0<=sizeLine;decide),fun lz hlz=>⟨_,_,_,rfl,rfl,A1 hS1 hlz,cE,_,rfl,?_⟩⟩⟩
   have nlz:p≠lz:=cO hp1 hlz
   have hp2:(upd H1 lz (.lst [])) p=some (.dK (gK a (i+1) n)):=by rw[cJ nlz];exact hp1
   have bu2:But p H (upd H1 lz (.lst [])):=bu1.trans (But.of_same (Same.new hlz))
   have hS2:SqL K (upd H1 lz (.lst [])) a (ns.map V.int):=hS _ bu2
   generalize upd H1 lz (.lst [])=H2 at hp2 hS2 bu2 ⊢
   have fin:∀c:Int,0<=c->Q (.int (c % m)) H2:=fun c hc=>k _ _ (bg _ (by omega)) (bp _ hm) ⟨i+1,n,hp2,by omega,hn⟩ bu2
   refine cR (fun h=>?a) (fun h=>?b)
   case' a =>
    have hl:(0:Int)<((ns.map V.int).length:Nat):=by
     cases ns with
     | nil=>exact absurd h (by simp)
     | cons x r=>show (0:Int)<((r.map V.int).length+1:Nat);omega
    obtain⟨c,hc⟩:=Ah (ns:=ns) (j:=i % ((ns.map V.int).length:Nat)) (bg _ (by omega)) (bp _ hl)
    refine⟨_,rfl,.dic (mR hp2) ⟨_,rfl,_,rfl,.dic (mR hp2) ⟨_,_,rfl,Or.inl ⟨_,hS2,rfl⟩,_,_,rfl,rfl,hl,.lst hS2 hc ?_⟩⟩⟩
   all_goals
    refine⟨_,rfl,_,rfl,.dic (mR hp2) ⟨_,_,rfl,Or.inl ⟨_,hS2,rfl⟩,.int ⟨_,rfl,?_⟩⟩⟩
    refine cR (fun h1=>?_) (fun h1=>?_)
    ·refine⟨_,rfl,_,rfl,_,_,rfl,rfl,⟨by decide,by decide,by decide⟩,_,_,rfl,rfl,_,rfl,?_⟩
     refine cR (fun h2=>?_) (fun h2=>?_)
     ·refine⟨_,rfl,_,rfl,_,rfl,_,_,rfl,rfl,⟨hm,hm2⟩,?_⟩
      refine⟨_,rfl,.dic (vL hp2) ?_⟩
      refine⟨_,rfl,_,rfl,_,rfl,_,_,rfl,rfl,hm,?_⟩
      refine k _ _ (bg _ (by omega)) (bp _ hm) ⟨i+1,_,cE,by omega,Int.ediv_nonneg (by split <;> omega) (by omega)⟩ (bu2.trans But.upd)
     ·refine⟨_,rfl,_,_,rfl,rfl,(by show (0:Int)<_;decide),_,rfl,_,_,rfl,rfl,.inl ⟨by decide,by decide⟩,.int (.int ⟨_,_,rfl,rfl,.inr ⟨by decide,by decide⟩,_,_,rfl,rfl,(by show (0:Int)<_;decide),?_⟩)⟩
      refine⟨_,rfl,_,rfl,_,_,rfl,rfl,.inl (pA _),_,rfl,_,_,rfl,rfl,.inl ⟨by decide,by decide⟩,.int ⟨_,rfl,.int ⟨_,_,rfl,rfl,(by show (0:Int)<_;decide),?_⟩⟩⟩
      refine⟨_,rfl,_,_,rfl,rfl,⟨by decide,by decide⟩,_,rfl,_,_,rfl,rfl,hm,?_⟩
      exact fin _ (Int.ediv_nonneg (bg _ (by decide)) (by decide))
    ·refine⟨_,rfl,_,_,rfl,rfl,(by show (0:Int)<_;decide),_,rfl,_,_,rfl,rfl,.inl ⟨by decide,by decide⟩,.int (.int ⟨_,_,rfl,rfl,.inr ⟨by decide,by decide⟩,_,_,rfl,rfl,(by show (0:Int)<_;decide),?_⟩)⟩
     refine⟨_,rfl,_,rfl,_,_,rfl,rfl,.inl (pA _),_,rfl,_,_,rfl,rfl,.inl ⟨by decide,by decide⟩,.int ⟨_,rfl,.int ⟨_,_,rfl,rfl,(by show (0:Int)<_;decide),?_⟩⟩⟩
     refine⟨_,rfl,_,_,rfl,rfl,⟨by decide,by decide⟩,_,rfl,_,_,rfl,rfl,hm,?_⟩
     exact fin _ (Int.ediv_nonneg (bg _ (by decide)) (by decide))
theorem scPlaces:FnScope ["things","places","place","thing"] ["things"] (cI iT):=⟨rfl,rfl,rfl,by decide +kernel,rfl,by decide +kernel,by decide +kernel⟩
theorem fk {H:Hp}{refs:List V}{ps:List (Str × Str)}(rp:RepAll H refs (ps.map cW)) {j:Nat}{x:V}(hx:refs[j]? = some x):∃e ta,ps[j]? = some e/\x=.ref ta/\H ta=some (.tup [.str e.1,.str e.2]):=by
 obtain⟨d,hd,rd⟩:=rp.get hx
 rw[aI] at hd
 cases q:ps[j]? with
 | none=>rw[q] at hd;cases hd
 | some e =>
  rw[q] at hd
  have hd:cW e=d:=am hd
  rw[<- hd] at rd
  obtain⟨ta,h1,h2⟩:=lP rd
  exact⟨e,ta,rfl,h1,h2⟩
theorem dH {ss:List Str}{i:Nat}{x:V}(h:(List.map V.str ss)[i]? = some x):∃s,ss[i]? = some s/\V.str s=x:=by
 rw[aI] at h
 cases q:ss[i]? with
 | none=>rw[q] at h;cases h
 | some e=>rw[q] at h;exact⟨e,rfl,am h⟩
structure PlN (H H':Hp) (d:Addr) (xs:List Str) (i:Nat) (kvs:List (Key × V)):Prop where
 sm:Same H H'
 at_:H' d=some (.dK kvs)
 len:kvs.length<=i
 inn:∀s,(dg kvs (.inr s)).isSome=true ↔ s∈xs.take i
 ix:∀s v,dg kvs (.inr s)=some v->∃j:Nat,v=.int j/\xs[j]? = some s
 nd:(kvs.map (·.1)).Nodup
 ks:∀k∈kvs.map (·.1),∃s∈xs,k=Sum.inr s
theorem qe {kvs:List (Key × V)}{k:Key}{v:V}(h:(dg kvs k).isSome=true):(dE kvs k v).map (·.1)=kvs.map (·.1):=by
 unfold dE
 rw[if_pos (by rw[gx];exact h),bS]
 refine List.map_congr_left fun p _=>?_
 show (if p.1=k then (p.1,v) else p).1=p.1
 split <;> rfl
theorem PlN.step {H H':Hp}{d p:Addr}{xs:List Str}{i:Nat}{kvs:List (Key × V)}{t:Str}{o:HO}(h:PlN H H' d xs i kvs) (hd:H d=none) (hp:H' p=none) (ht:xs[i]? = some t) :
    PlN H (upd (upd H' p o) d (.dK (dE kvs (.inr t) (.int (i:Nat))))) d xs (i+1) (dE kvs (.inr t) (.int (i:Nat))):=by
 refine⟨?_,cE,?_,?_,?_,?_,?_⟩
 ·intro b o hb
  rw[cJ (cO hb hd)]
  exact Same.new hp _ _ (h.sm _ _ hb)
 ·have:=dW kvs (.inr t) (V.int (i:Nat))
  have:=h.len
  omega
 ·intro s
  rw[gt,av,ht,aH]
  by_cases q:s=t
  ·subst q
   simp
  ·rw[if_neg (fun z=>q (Sum.inr.inj z)),h.inn s]
   simp[q]
 ·intro s v e
  rw[gt] at e
  by_cases q:s=t
  ·subst q
   rw[if_pos rfl] at e
   exact⟨i,(am e).symm,ht⟩
  ·rw[if_neg (fun z=>q (Sum.inr.inj z))] at e
   exact h.ix s v e
 ·cases q:dg kvs (.inr t) with
  | none=>exact zf _ h.nd q
  | some v=>rw[qe (by rw[q];rfl)];exact h.nd
 ·intro k hk
  cases q:dg kvs (.inr t) with
  | none =>
   rw[pY _ q,aj] at hk
   rcases aH.mp hk with hk | hk
   ·exact h.ks k hk
   ·have:k=Sum.inr t:=by simpa using hk
    exact⟨t,au ht,this⟩
  | some v=>rw[qe (by rw[q];rfl)] at hk;exact h.ks k hk
theorem tP {f:Addr}{fd:FuncData}(F:Fun K "places_of" "places_of" iT f fd) (B:Blt mg):FnOk P w K mg base CX0 1 f fd ["things"] oW := by
 refine F.ok scPlaces (fun vs H Q E h=>?_) (fun cdv A outer s H vs Q E hr h=>?_)
 ·obtain⟨x,rfl,_⟩:=h
  rfl
 ·obtain⟨x, rfl, h⟩ := h
  have nd:=scPlaces.nd
  cases h with
  | @nm a xs _ ha hl k =>
   refine⟨_,(cF (pst 1 nd mD)
   (cF (dM PassesOwn.never rfl (kb K rfl B.enumerate (p1 (pv 0))) (eW (n:=2) K rfl (cY (cN (i:=2) nd rfl (Or.inl rfl)) (cY (cN (i:=3) nd rfl (Or.inl rfl)) eP))) (cH (gM (pv 2) (hW (pv 1) (pv 3) (iQ hr.units)))))
   (cH (cL (pv 1))))),?_⟩
   intro d hd
   have s0:=Same.new (o:=.dK []) hd
   have start:PlN H (upd H d (.dK [])) d xs 0 []:=⟨s0,cE,ac _,(fun s=>by simp[km]),(fun s v e=>by cases e),List.nodup_nil,(fun k hk=>by cases hk)⟩
   rcases ha with ha | ha
   ·refine⟨_,rfl,_,rfl,.lst (.of (s0 _ _ ha)) ?_⟩
    refine ka (xs:=List.map V.str xs) (fun i σ H'=>∃o1 o2 kvs,σ=[some (.ref a),some (.ref d),o1,o2]/\PlN H H' d xs i kvs) ?_ ?_ ?_ ?_
    ·exact⟨none,none,[],rfl,start⟩
    ·rintro i σ H' hi ⟨o1,o2,kvs,rfl,pl⟩
     exact .of (pl.sm _ _ ha)
    ·rintro i x σ H' p hx ⟨o1,o2,kvs,rfl,pl⟩ hp
     obtain⟨t,ht,rfl⟩:=dH hx
     have hil:=(ah.mp ht).1
     have hdp:d≠p:=cO pl.at_ hp
     have:=pl.len
     refine⟨p,_,rfl,.of cE,rfl,_,_,rfl,_,_,rfl,rfl,?_⟩
     exact⟨_,rfl,_,rfl,_,rfl,.dic (DPut.k (k:=.inr t) (by rw[cJ hdp];exact pl.at_) (cU (by omega))) ⟨_,_,_,rfl,pl.step hd hp ht⟩⟩
    ·rintro σ H' ⟨o1,o2,kvs,rfl,pl⟩
     have hin:=pl.inn
     rw[ae,ap (ac _)] at hin
     exact⟨_,rfl,k d kvs H' pl.sm hd pl.at_ hin pl.ix pl.nd pl.ks⟩
   ·refine⟨_,rfl,_,rfl,.tup (.of (s0 _ _ ha)) ?_⟩
    refine oR (xs:=List.map V.str xs) (fun i σ H'=>∃o1 o2 kvs,σ=[some (.ref a),some (.ref d),o1,o2]/\PlN H H' d xs i kvs) ?_ ?_ ?_ ?_
    ·exact⟨none,none,[],rfl,start⟩
    ·rintro i σ H' hi ⟨o1,o2,kvs,rfl,pl⟩
     exact .of (pl.sm _ _ ha)
    ·rintro i x σ H' p hx ⟨o1,o2,kvs,rfl,pl⟩ hp
     obtain⟨t,ht,rfl⟩:=dH hx
     have hil:=(ah.mp ht).1
     have hdp:d≠p:=cO pl.at_ hp
     have:=pl.len
     refine⟨p,_,rfl,.of cE,rfl,_,_,rfl,_,_,rfl,rfl,?_⟩
     exact⟨_,rfl,_,rfl,_,rfl,.dic (DPut.k (k:=.inr t) (by rw[cJ hdp];exact pl.at_) (cU (by omega))) ⟨_,_,_,rfl,pl.step hd hp ht⟩⟩
    ·rintro σ H' ⟨o1,o2,kvs,rfl,pl⟩
     have hin:=pl.inn
     rw[ae,ap (ac _)] at hin
     exact⟨_,rfl,k d kvs H' pl.sm hd pl.at_ hin pl.ix pl.nd pl.ks⟩
  | @pr a refs ps _ ha rp hl k =>
   refine⟨_,(cF (pst 1 nd qB)
   (cF (dM PassesOwn.never rfl (kb K rfl B.enumerate (p1 (pv 0))) (eW (n:=2) K rfl (cY (cN (i:=2) nd rfl (Or.inl rfl)) (cY (cN (i:=3) nd rfl (Or.inl rfl)) eP))) (cH (gM (pv 2) (hW (pv 1) (pv 3) (iQ hr.units)))))
   (cH (cL (pv 1))))),?_⟩
   have rlen:=rp.len
   rw[ae] at rlen
   intro d hd
   have s0:=Same.new (o:=.dT []) hd
   have turn:∀(i:Nat) (e:Str × Str) (ta p:Addr) (H':Hp) (kvs:List (List Key × V)), Same H H' -> H' d=some (.dT kvs) -> kvs.length <= i -> i<ps.length -> (∀f:Str × Str, (dg kvs (pK f)).isSome=true ↔ f ∈ ps.take i) -> ps[i]? = some e -> H' p=none ->
       Same H (upd (upd H' p (.tup [.int (i:Nat),.ref ta])) d (.dT (dE kvs (pK e) (.int (i:Nat)))))/\(dE kvs (pK e) (V.int (i:Nat))).length<=i+1/\∀f:Str × Str,(dg (dE kvs (pK e) (V.int (i:Nat))) (pK f)).isSome=true ↔ f∈ps.take (i+1):=by
    intro i e ta p H' kvs sm hk hkl hi hin he hp
    refine⟨?_,?_,fun f=>?_⟩
    ·intro b o hb
     rw[cJ (cO hb hd)]
     exact Same.new hp _ _ (sm _ _ hb)
    ·have:=dW kvs (pK e) (V.int (i:Nat))
     omega
    ·rw[gt,av,he,aH]
     by_cases q:f=e
     ·subst q;simp
     ·rw[if_neg (fun z=>q (vy z)),hin f]
      simp[q]
   rcases ha with ha | ha
   ·refine⟨_,rfl,_,rfl,.lst (.of (s0 _ _ ha)) ?_⟩
    refine ka (xs:=refs) (fun i σ H'=>∃o1 o2 kvs,σ=[some (.ref a),some (.ref d),o1,o2]/\Same H H'/\H' d=some (.dT kvs)/\kvs.length<=i/\∀f:Str × Str,(dg kvs (pK f)).isSome=true ↔ f∈ps.take i) ?_ ?_ ?_ ?_
    ·exact⟨none,none,[],rfl,s0,cE,ac _,fun s=>by simp[km]⟩
    ·rintro i σ H' hi ⟨o1,o2,kvs,rfl,sm,_⟩
     exact .of (sm _ _ ha)
    ·rintro i x σ H' p hx ⟨o1,o2,kvs,rfl,sm,hk,hkl,hin⟩ hp
     obtain⟨e,ta,he,rfl,hta⟩:=fk (rp.same sm) hx
     have hil:=(ah.mp he).1
     have hdp:d≠p:=cO hk hp
     obtain⟨g1,g2,g3⟩:=turn i e ta p H' kvs sm hk hkl hil hin he hp
     refine⟨p,_,rfl,.of cE,rfl,_,_,rfl,_,_,rfl,rfl,?_⟩
     exact⟨_,rfl,_,rfl,_,rfl,.dic (DPut.t (k:=pK e) (by rw[cJ hdp];exact hk) (Same.new hp _ _ hta) (cU (by omega))) ⟨_,_,_,rfl,g1,cE,g2,g3⟩⟩
    ·rintro σ H' ⟨o1,o2,kvs,rfl,sm,hk,hkl,hin⟩
     rw[rlen,ap (ac _)] at hin
     exact⟨_,rfl,k d kvs H' sm hd hk hin⟩
   ·refine⟨_,rfl,_,rfl,.tup (.of (s0 _ _ ha)) ?_⟩
    refine oR (xs:=refs) (fun i σ H'=>∃o1 o2 kvs,σ=[some (.ref a),some (.ref d),o1,o2]/\Same H H'/\H' d=some (.dT kvs)/\kvs.length<=i/\∀f:Str × Str,(dg kvs (pK f)).isSome=true ↔ f∈ps.take i) ?_ ?_ ?_ ?_
    ·exact⟨none,none,[],rfl,s0,cE,ac _,fun s=>by simp[km]⟩
    ·rintro i σ H' hi ⟨o1,o2,kvs,rfl,sm,_⟩
     exact .of (sm _ _ ha)
    ·rintro i x σ H' p hx ⟨o1,o2,kvs,rfl,sm,hk,hkl,hin⟩ hp
     obtain⟨e,ta,he,rfl,hta⟩:=fk (rp.same sm) hx
     have hil:=(ah.mp he).1
     have hdp:d≠p:=cO hk hp
     obtain⟨g1,g2,g3⟩:=turn i e ta p H' kvs sm hk hkl hil hin he hp
     refine⟨p,_,rfl,.of cE,rfl,_,_,rfl,_,_,rfl,rfl,?_⟩
     exact⟨_,rfl,_,rfl,_,rfl,.dic (DPut.t (k:=pK e) (by rw[cJ hdp];exact hk) (Same.new hp _ _ hta) (cU (by omega))) ⟨_,_,_,rfl,g1,cE,g2,g3⟩⟩
    ·rintro σ H' ⟨o1,o2,kvs,rfl,sm,hk,hkl,hin⟩
     rw[rlen,ap (ac _)] at hin
     exact⟨_,rfl,k d kvs H' sm hd hk hin⟩
theorem scIsName:FnScope ["thing"] ["thing"] (cI lU):=⟨rfl,rfl,rfl,by decide +kernel,rfl,by decide +kernel,by decide +kernel⟩
theorem vM {f:Addr}{fd:FuncData}{tk:Tok}(F:Fun K "is_name" "is_name" lU f fd) (B:Blt mg) (T:mg "MOST_SIGNS"=some (.int 8 tk)):FnOk P w K mg base CX0 1 f fd ["thing"] jY := by
 refine F.ok scIsName (fun vs H Q E h=>?_) (fun cdv A outer s H vs Q E hr h=>?_)
 ·obtain⟨x,rfl,_⟩:=h
  rfl
 ·obtain⟨x, rfl, hx, k⟩ := h
  have nd:=scIsName.nd
  obtain⟨t,ty,t1,_⟩:=i8 (K:=K) hx
  refine⟨_,(cF (cX (iw (fU (lG K "str" B (p2 (pv 0) (pM B))))) (cH (cL gQ)) cS)
   (cF (cX (PW.pt (lI (cK kA (dO K B (p1 (pv 0))) cG (cQ _)) (kS (cK jl (dO K B (p1 (pv 0))) (ik (v:=.int 8) rfl T ⟨_,rfl⟩) (cQ _))))) (cH (cL gQ)) cS)
   (cH (cL (mO rfl B (p1 (dS (cI lU) ["thing"] ["sign"] [] ["sign"] rfl (Ap (pv 0)) (fun _ _ _ _ _=>(cN (i:=0) (show (["sign"]:List Str).Nodup by decide) rfl (Or.inl rfl))) (fun _ _ _ _ _=>fw) (fun _ _ _ _ _=>(xf wv wv cM (pv 0) cM))))))))),?_⟩
  refine⟨_,rfl,x,t,_,rfl,ty,t1,_,rfl,?_⟩
  refine cR (fun hn=>?_) (fun hn=>?_)
  ·have e:gJ x=false:=by cases x <;> first | rfl | (simp[isS] at hn)
   have q:=k H (Same.refl H)
   rw[e] at q
   exact q
  ·obtain⟨z, rfl⟩:∃z, x=.str z := by cases x <;> first | exact⟨_, rfl⟩ | (simp[isS] at hn)
   have hzz:z.length<=sizeLine:=by
    cases hx with
    | str h=>exact h
   refine⟨_,rfl,_,_,rfl,⟨hzz,rfl⟩,.int ⟨_,rfl,?_⟩⟩
   refine cR (fun h1=>?_) (fun h1=>?_)
   ·refine gI ?_
    have q:=k H (Same.refl H)
    have h1:(z.length:Int)<1:=aM h1
    have e:gJ (.str z)=false:=by
     show (decide (1<=z.length)&&_)=false
     rw[aw (by omega)];rfl
    rw[e] at q
    exact q
   ·have h1:¬ (z.length:Int)<1 := of_decide_eq_false (by simpa using h1)
    refine⟨_,rfl,_,_,rfl,⟨hzz,rfl⟩,_,_,rfl,rfl,_,rfl,?_⟩
    refine cR (fun h2=>?_) (fun h2=>?_)
    ·have q:=k H (Same.refl H)
     have h2:(8:Int)<z.length:=aM h2
     have e:gJ (.str z)=false:=by
      show (decide (1<=z.length)&&(decide (z.length<=8)&&_))=false
      rw[aw (show ¬ z.length<=8 by omega),Bool.false_and,Bool.and_false]
     rw[e] at q
     exact q
    ·have h2:¬ (8:Int)<z.length := of_decide_eq_false (by simpa using h2)
     have e:gJ (.str z)=z.cps.toList.all fK:=by
      show (decide (1<=z.length)&&(decide (z.length<=8)&&_))=_
      rw[ak (show 1<=z.length by omega),ak (show z.length<=8 by omega),Bool.true_and,Bool.true_and]
     refine⟨_,rfl,z,rfl,?_⟩
     refine xP (fun D i acc σ' H'=>∃o,σ'=[o]/\acc=(z.cps.toList.take i).map (fun c=>V.bl (fK c))/\Same H H'/\H D=none) fun D hD=>⟨⟨none,rfl,rfl,Same.new hD,hD⟩,?_,?_⟩
     ·rintro i acc σ' H' c hc ⟨o, rfl, rfl, sm, hD0⟩ hacc
      refine jZ ?_
      have sg:∀b:Bool,b=fK c->(H' D=some (.lst ((z.cps.toList.take i).map (fun c=>V.bl (fK c))))/\((z.cps.toList.take i).map (fun c=>V.bl (fK c))).length<sizeLine /\
          (∃o,[some (V.str ⟨#[c]⟩)]=[o]/\(z.cps.toList.take i).map (fun c=>V.bl (fK c))++[V.bl b]=(z.cps.toList.take (i+1)).map (fun c=>V.bl (fK c))/\Same H (upd H' D (.lst ((z.cps.toList.take i).map (fun c=>V.bl (fK c))++[V.bl b])))/\H D=none)):=fun b hb=>by
       refine⟨hacc,?_,_,rfl,?_,?_,hD0⟩
       ·rw[ae]
        refine cU ?_
        have:=List.length_take_le' i z.cps.toList
        have h2':z.length<=8:=by omega
        have hl:z.cps.toList.length=z.length:=by simp[Str.length]
        omega
       ·rw[av,hc,aj,hb];rfl
       ·intro b' o' e'
        rw[cJ (cO e' hD0)]
        exact sm b' o' e'
      refine⟨_,rfl,.str ⟨_,rfl,?_⟩⟩
      have e1:(!decide ((⟨#[c]⟩:Str).cps.toList<("a":Str).cps.toList))=decide (97<=c):=by
       show (!decide ([c]<[97]))=_
       rw[uY]
       by_cases hh:c<97
       ·rw[ak hh,aw (by omega)];rfl
       ·rw[aw hh,ak (by omega)];rfl
      have e2:(!decide (("z":Str).cps.toList<(⟨#[c]⟩:Str).cps.toList))=decide (c<=122):=by
       show (!decide ([122]<[c]))=_
       rw[uY]
       by_cases hh:122<c
       ·rw[ak hh,aw (by omega)];rfl
       ·rw[aw hh,ak (by omega)];rfl
      rw[e1]
      refine cR (fun h3=>?_) (fun h3=>?_)
      ·refine .str (sg _ ?_)
       rw[e2]
       unfold fK
       rw[h3,Bool.true_and]
      ·refine sg false ?_
       unfold fK
       have h3:decide (97<=c)=false:=by simpa using h3
       rw[h3,Bool.false_and]
     ·rintro acc σ' H' ⟨o,rfl,rfl,sm,hD0⟩ hacc
      rw[ap (ac _)] at hacc
      refine⟨D,z.cps.toList.map fK,rfl,by rw[bS];exact hacc,?_⟩
      have q:=k H' sm
      rw[e] at q
      have e4:(z.cps.toList.map fK).all id=z.cps.toList.all fK:=by rw[List.all_map];rfl
      rw[e4]
      exact q
def qT:Sp:=fun vs H Q _=>∃(a:Addr) (ss:List Str),vs=[.ref a]/\SqA H a (List.map V.str ss)/\ss.length<=1000/\∀H',Same H H'->Q (.bl (decide ss.Nodup)) H'
theorem scUnlike:FnScope ["things"] ["things"] (cI ow):=⟨rfl,rfl,rfl,by decide +kernel,rfl,by decide +kernel,by decide +kernel⟩
theorem wd {f:Addr}{fd:FuncData}(F:Fun K "are_unlike" "are_unlike" ow f fd) (B:Blt mg) (cplaces_of:Cal P w K mg base 1 "places_of" ["things"] oW):FnOk P w K mg base CX0 2 f fd ["things"] qT := by
 refine F.ok scUnlike (fun vs H Q E h=>?_) (fun cdv A outer s H vs Q E hr h=>?_)
 ·obtain⟨a,ss,rfl,_⟩:=h
  rfl
 ·obtain⟨a, ss, rfl, ha, hlen, k⟩ := h
  have nd:=scUnlike.nd
  refine⟨_,(cH (cL (hG (di hr.units) (A8 B (p1 (pc cplaces_of hr (p1 (pv 0))))) (dO K B (p1 (pv 0))) (cQ _)))),?_⟩
  refine⟨_,rfl,_,rfl,?_⟩
  refine .nm ha hlen fun d kvs H1 s1 hd0 hd hin hat knd ks=>⟨d,kvs,rfl,hd,_,rfl,_,ss.length,rfl,?_,.sc rfl ?_⟩
  ·have:=(SqA.same ha s1).len (K:=K)
   rw[ae] at this
   exact this
  ·have e:=zp knd ks hin
   have e2:decide (V.int (kvs.length:Nat)=V.int (ss.length:Nat))=decide ss.Nodup:=by
    rw[aX,decide_eq_true_iff,decide_eq_true_iff,<- e]
    exact⟨fun z=>Int.ofNat.inj (V.int.inj z),fun z=>by rw[z]⟩
   show Q (.bl (decide (V.int (kvs.length:Nat)=V.int (ss.length:Nat)))) H1
   rw[e2]
   exact k H1 s1
open Classical in
def dec (P:Prop):Bool:=decide P
open Classical in
theorem BB {P:Prop}(h:P):dec P=true:=by unfold dec;exact ak h
open Classical in
theorem ux {P:Prop}(h:¬ P):dec P=false:=by unfold dec;exact aw h
open Classical in
theorem dec_iff {P:Prop}:dec P=true ↔ P:=by unfold dec;exact decide_eq_true_iff
theorem yI {H:Hp}{x:V}(h:isL H x=true):∃a us,x=.ref a/\H a=some (.lst us):=by
 cases x with
 | ref a =>
  have h:(match H a with | some (.lst _)=>true | _=>false)=true:=h
  split at h
  ·rename_i xs e;exact⟨a,xs,rfl,e⟩
  ·cases h
 | _=>cases h
theorem y6 {H:Hp}{x:V}(h:isT H x=true):∃a us,x=.ref a/\H a=some (.tup us):=by
 cases x with
 | ref a =>
  have h:(match H a with | some (.tup _)=>true | _=>false)=true:=h
  split at h
  ·rename_i xs e;exact⟨a,xs,rfl,e⟩
  ·cases h
 | _=>cases h
theorem jU {H H':Hp}{x:V}(h:Thg H x) (s:Same H H'):isL H' x=isL H x/\isT H' x=isT H x:=by
 cases h with
 | non=>exact⟨rfl,rfl⟩
 | bl b=>exact⟨rfl,rfl⟩
 | int i=>exact⟨rfl,rfl⟩
 | str z=>exact⟨rfl,rfl⟩
 | lst e=>exact⟨by rw[kL e,kL (s _ _ e)],by rw[gF e (fun _ z=>by cases z),gF (s _ _ e) (fun _ z=>by cases z)]⟩
 | tup e=>exact⟨by rw[gE e (fun _ z=>by cases z),gE (s _ _ e) (fun _ z=>by cases z)],by rw[kK e,kK (s _ _ e)]⟩
 | dK e=>exact⟨by rw[gE e (fun _ z=>by cases z),gE (s _ _ e) (fun _ z=>by cases z)],by rw[gF e (fun _ z=>by cases z),gF (s _ _ e) (fun _ z=>by cases z)]⟩
 | dT e=>exact⟨by rw[gE e (fun _ z=>by cases z),gE (s _ _ e) (fun _ z=>by cases z)],by rw[gF e (fun _ z=>by cases z),gF (s _ _ e) (fun _ z=>by cases z)]⟩
theorem lh {H H':Hp}{a:Addr}(h:Thg H (.ref a)) (s:Same H H'):H' a=H a:=by
 cases h with
 | lst e=>rw[e,s _ _ e]
 | tup e=>rw[e,s _ _ e]
 | dK e=>rw[e,s _ _ e]
 | dT e=>rw[e,s _ _ e]
def Rw (G:Hp->V->Prop) (H:Hp) (x:V):Prop:=Thg H x/\∀a ys,x=.ref a->SqA H a ys->ys.length<=1000/\∀y∈ys,G H y
theorem xW:qG Thg:=fun _ _ _ s h=>h.same s
theorem Rw.same {G:Hp->V->Prop}{H H':Hp}{x:V}(mo:qG G) (h:Rw G H x) (s:Same H H'):Rw G H' x:=⟨h.1.same s,fun a ys e q=>by
 subst e
 unfold SqA at q
 rw[lh h.1 s] at q
 obtain⟨l,k⟩:=h.2 a ys rfl q
 exact⟨l,fun y hy=>mo _ _ _ s (k y hy)⟩⟩
theorem zE {G:Hp->V->Prop}(mo:qG G):qG (Rw G):=fun _ _ _ s h=>h.same mo s
theorem Rw.imp {G G':Hp->V->Prop}{H:Hp}{x:V}(h:Rw G H x) (i:∀y,G H y->G' H y):Rw G' H x:=⟨h.1,fun a ys e q=>⟨(h.2 a ys e q).1,fun y hy=>i y ((h.2 a ys e q).2 y hy)⟩⟩
theorem vo:∀ {ys:List V},ys.all gJ=true->∃ss:List Str,ys=List.map V.str ss/\∀s∈ss,Nm s
 | [],_=>⟨[],rfl,fun _ h=>by cases h⟩
 | y::ys,h=>by
  rw[List.all_cons,bf] at h
  obtain⟨ss,rfl,k⟩:=vo h.2
  cases y with
  | str z=>exact⟨z::ss,rfl,fun s hs=>(aB.mp hs).elim (fun e=>by rw[e];exact isNm_iff.mp h.1) (k s)⟩
  | _=>cases h.1
theorem qQ {xs ys:List Str}(h:List.map V.str xs=List.map V.str ys):xs=ys := by
 induction xs generalizing ys with
 | nil=>cases ys with
  | nil=>rfl
  | cons y r=>cases h
 | cons x r ih=>cases ys with
  | nil=>cases h
  | cons y q =>
   obtain⟨a,b⟩:=List.cons.inj h
   rw[V.str.inj a,ih b]
theorem nP {H:Hp}{a:Addr}{xs ys:List V}(h:SqA H a xs) (k:SqA H a ys):xs=ys:=by
 rcases h with h | h <;> rcases k with k | k <;> rw[h] at k <;> cases k <;> rfl
def Unm (H:Hp) (x:V) (ss:List Str):Prop:=∃a,x=.ref a/\SqA H a (List.map V.str ss)/\ss.Nodup/\∀s∈ss,Nm s
theorem Unm.same {H H':Hp}{x:V}{ss:List Str}(h:Thg H x) (s:Same H H'):Unm H' x ss ↔ Unm H x ss:=by
 constructor
 ·rintro⟨a,rfl,q,r⟩
  unfold SqA at q
  rw[lh h s] at q
  exact⟨a,rfl,q,r⟩
 ·rintro⟨a,rfl,q,r⟩
  exact⟨a,rfl,q.same s,r⟩
def uE:Sp:=fun vs H Q _=>∃x,vs=[x]/\Rw Thg H x/\∀H',Same H H'->Q (.bl (dec (∃ss,Unm H x ss))) H'
theorem yx {H H':Hp}{a:Addr}{xs:List V}(h:SqA H a xs) (s:Same H H'):H' a=H a:=by
 rcases h with h | h <;> rw[h,s _ _ h]
theorem scUNm:FnScope ["things"] ["things"] (cI qY):=⟨rfl,rfl,rfl,by decide +kernel,rfl,by decide +kernel,by decide +kernel⟩
theorem yY {f:Addr}{fd:FuncData}(F:Fun K "are_unlike_names" "are_unlike_names" qY f fd) (B:Blt mg) (cis_name:Cal P w K mg base 1 "is_name" ["thing"] jY) (care_unlike:Cal P w K mg base 2 "are_unlike" ["things"] qT):FnOk P w K mg base CX0 3 f fd ["things"] uE := by
 refine F.ok scUNm (fun vs H Q E h=>?_) (fun cdv A outer s H vs Q E hr h=>?_)
 ·obtain⟨x,rfl,_⟩:=h
  rfl
 ·obtain⟨x, rfl, tx, k⟩ := h
  have nd:=scUNm.nd
  by_cases hl:isL H x=true∨isT H x=true
  ·obtain⟨a, ys, rfl, ha⟩:∃a ys, x=.ref a /\ SqA H a ys := hl.elim (fun h => let ⟨a, ys, e, q⟩ := yI h; ⟨a, ys, e, .inl q⟩) (fun h => let ⟨a, ys, e, q⟩ := y6 h; ⟨a, ys, e, .inr q⟩)
   obtain⟨yl,yth⟩:=tx.2 a ys rfl ha
   have no:ys.all gJ=false->dec (∃ss,Unm H (.ref a) ss)=false:=fun h=>ux fun ⟨ss,b,e,q,_,nm⟩=>by
    cases e
    rw[nP ha q,bo.mpr fun v hv=>by
     obtain⟨z,hz,rfl⟩:=ao.mp hv
     exact isNm_iff.mpr (nm z hz)] at h
    cases h
   have yes:∀ss,ys=List.map V.str ss->(∀s∈ss,Nm s)->dec (∃ss,Unm H (.ref a) ss)=decide ss.Nodup:=fun ss e nm=>by
    subst e
    rw[aX,dec_iff,decide_eq_true_iff]
    constructor
    ·rintro⟨ss',b,e,q,h,_⟩
     cases e
     rw[qQ (nP ha q)];exact h
    ·intro h
     exact⟨ss,a,rfl,ha,h,nm⟩
   refine⟨_,(cF (cX (iw (fU (qi K "list" "tuple" B (p2 (pv 0) (cV (p2 (qA B) (js B))))))) (cH (cL gQ)) cS)
   (cH (cL (i3 (mO rfl B (p1 (dS (cI qY) ["things"] ["thing"] [] ["thing"] rfl (oy K (pv 0)) (fun _ _ _ _ _=>(cN (i:=0) (show (["thing"]:List Str).Nodup by decide) rfl (Or.inl rfl))) (fun _ _ _ _ _=>fw) (fun _ _ _ _ _=>(pc cis_name hr (p1 (pv 0))))))) (jH (pc care_unlike hr (p1 (pv 0)))))))),?_⟩
   refine⟨_,rfl,(by show 2<=sizeLine;decide),fun tp htp=>?_⟩
   have s0:=Same.new (o:=.tup [V.ty "list",V.ty "tuple"]) htp
   have A0:SqA (upd H tp (.tup [V.ty "list",V.ty "tuple"])) a ys:=SqA.same ha s0
   obtain⟨t,ty,_,_,_,t4,t5⟩:=i8 (K:=K) A0.thg
   have kl:=qU t4 t5
   rw[A0.lt] at kl
   refine⟨_,tp,t,_,rfl,cE,ty,kl,_,rfl,?_⟩
   refine cR (fun h=>absurd h (by decide)) (fun _=>?_)
   generalize upd H tp (.tup [V.ty "list",V.ty "tuple"])=H0 at s0 A0 ⊢
   refine⟨_,rfl,a,rfl,?_⟩
   refine qo ys (fun D i acc σ' H'=>∃o,σ'=[o]/\acc=List.map V.bl ((ys.take i).map gJ)/\Same H0 H'/\H0 D=none) A0 fun D hD=>⟨?_,?_,?_,?_⟩
   ·exact⟨none,rfl,rfl,Same.new hD,hD⟩
   ·rintro i acc σ' H' _ ⟨o,rfl,_,sm,_⟩ _
    exact yx A0 sm
   ·rintro i acc σ' H' x hx ⟨o,rfl,rfl,sm,hD0⟩ hacc
    have hil:=(ah.mp hx).1
    refine jZ ?_
    refine⟨_,rfl,_,rfl,((yth x (au hx)).same s0).same sm,fun H2 s2=>?_⟩
    exact⟨s2 _ _ hacc,by rw[ae,ae,aL];exact cU (by omega),_,rfl,by rw[av,hx,aj,aj];rfl,dh (sm.trans s2) hD0,hD0⟩
   ·rintro acc σ' H2 ⟨o,rfl,rfl,s2,hD0⟩ hacc
    rw[ap (ac _)] at hacc
    refine⟨D,ys.map gJ,rfl,hacc,_,rfl,?_⟩
    have e:(ys.map gJ).all id=ys.all gJ:=by rw[List.all_map];rfl
    rw[e]
    refine cR (fun h=>?_) (fun h=>?_)
    ·obtain⟨ss,es,nm⟩:=vo h
     rw[yes ss es nm] at k
     subst es
     rw[ae] at yl
     exact⟨_,rfl,a,ss,rfl,A0.same s2,yl,fun H3 s3=>k H3 ((s0.trans s2).trans s3)⟩
    ·have h:ys.all gJ=false:=by simpa using h
     rw[no h] at k
     exact k _ (s0.trans s2)
  ·refine⟨_,(cF (cX (iw (fU (qi K "list" "tuple" B (p2 (pv 0) (cV (p2 (qA B) (js B))))))) (cH (cL gQ)) cS)
   (cH (cL (i3 (mO rfl B (p1 (dS (cI qY) ["things"] ["thing"] [] ["thing"] rfl (oy K (pv 0)) (fun _ _ _ _ _=>(cN (i:=0) (show (["thing"]:List Str).Nodup by decide) rfl (Or.inl rfl))) (fun _ _ _ _ _=>fw) (fun _ _ _ _ _=>(pc cis_name hr (p1 (pv 0))))))) (jH (pc care_unlike hr (p1 (pv 0)))))))),?_⟩
   have h1:isL H x=false:=by cases c:isL H x with | true=>exact absurd (.inl c) hl | false=>rfl
   have h2:isT H x=false:=by cases c:isT H x with | true=>exact absurd (.inr c) hl | false=>rfl
   refine⟨_,rfl,(by show 2<=sizeLine;decide),fun tp htp=>?_⟩
   have s0:=Same.new (o:=.tup [V.ty "list",V.ty "tuple"]) htp
   obtain⟨t,ty,_,_,_,t4,t5⟩:=i8 (K:=K) (tx.1.same s0)
   have kl:=qU t4 t5
   rw[(jU tx.1 s0).1,(jU tx.1 s0).2,h1,h2] at kl
   refine⟨_,tp,t,_,rfl,cE,ty,kl,_,rfl,gI ?_⟩
   have e:dec (∃ss,Unm H x ss)=false:=ux fun ⟨ss,a,e,q,_⟩=>by
    subst e
    rcases q with q | q
    ·rw[kL q] at h1;cases h1
    ·rw[kK q] at h2;cases h2
   rw[e] at k
   exact k _ s0
theorem at0 {α:Type}{y:α}{r:List α}:atI (y::r) 0=some y:=eQ (j:=0) rfl
theorem at1 {α:Type}{x y:α}{r:List α}:atI (x::y::r) 1=some y:=eQ (j:=1) rfl
def Hd:Nat->Hp->V->Prop
 | 0,H,x=>Thg H x
 | n+1,H,x=>Rw (Hd n) H x
theorem Hd.mono:∀n,qG (Hd n)
 | 0=>xW
 | n+1=>zE (Hd.mono n)
theorem Hd.thg:∀ {n:Nat}{H:Hp}{x:V},Hd n H x->Thg H x
 | 0,_,_,h=>h
 | _+1,_,_,h=>h.1
theorem Hd.less:∀ {n:Nat}{H:Hp}{x:V},Hd (n+1) H x->Hd n H x
 | 0,_,_,h=>h.1
 | _+1,_,_,h=>Rw.imp h fun _=>Hd.less
def j7 (H:Hp):V->Option (List V)
 | .ref a=>match H a with | some (.tup xs)=>some xs | _=>none
 | _=>none
def kc (H:Hp):V->Option (List V)
 | .ref a=>match H a with | some (.tup xs)=>some xs | some (.lst xs)=>some xs | _=>none
 | _=>none
def hwB (H:Hp) (x:V):Bool:=match j7 H x with | some (.str _::_)=>true | _=>false
def lM (H:Hp) (x:V):Bool:=dec (∃ss,Unm H x ss/\ss≠[])
def eU (H:Hp) (s:Str) (x:V):Bool :=
 if s="members" then lM H x else if s="word" then decide (x=.str "first")||decide (x=.str "last") else if s="knot"/\x=.str "" then true else gJ x
def partsA:List (Str × List Str):=[("thing",["name","knot"]),("tie",["name","name"]),("wait",["name","name"]),("untie",["name","name"]),("drop",["name"]),("group",["name","members"]),("open",["name"]),("want",["word","name"]),("unwant",["word","name"])]
def ie (w:Str):Option (List Str):=partsA.lookup w
def sgB (H:Hp) (w:Str) (ps:List V):Bool:=match ie w with
 | some ss=>decide (ps.length=ss.length)&&(ss.zip ps).all fun e=>eU H e.1 e.2
 | none=>false
def fb (H:Hp) (x:V):Bool:=match j7 H x with | some (.str w::ps)=>sgB H w ps | _=>false
def gO (H:Hp) (w:Str):List V->Option (List V)
 | [y]=>if w="many" then kc H y else none
 | _=>none
def fF (H:Hp) (x:V):Option (List V):=match j7 H x with | some (.str w::ps)=>gO H w ps | _=>none
def fg:Nat->Hp->V->Bool
 | 0,H,x=>match fF H x with | some _=>false | none=>fb H x
 | n+1,H,x=>match fF H x with | some ys=>ys.all (fg n H) | none=>fb H x
theorem gY {H:Hp}{a:Addr}{xs:List V}(h:H a=some (.tup xs)):j7 H (.ref a)=some xs:=by show (match H a with | some (.tup xs)=>some xs | _=>none)=some xs;rw[h]
theorem ms {H:Hp}{x:V}{xs:List V}(h:j7 H x=some xs):∃a,x=.ref a/\H a=some (.tup xs):=by
 cases x with
 | ref a =>
  have h:(match H a with | some (.tup xs)=>some xs | _=>none)=some xs:=h
  split at h
  ·rename_i ys e;cases h;exact⟨a,rfl,e⟩
  ·cases h
 | _=>cases h
theorem tupO_T {H:Hp}{x:V}:j7 H x=none ↔ isT H x=false:=by
 cases x with
 | ref a =>
  show (match H a with | some (.tup xs)=>some xs | _=>none)=none ↔ (match H a with | some (.tup _)=>true | _=>false)=false
  split <;> simp
 | _=>exact⟨fun _=>rfl,fun _=>rfl⟩
theorem qX {H:Hp}{x:V}{xs:List V}(h:kc H x=some xs):∃a,x=.ref a/\SqA H a xs:=by
 cases x with
 | ref a =>
  have h:(match H a with | some (.tup xs)=>some xs | some (.lst xs)=>some xs | _=>none)=some xs:=h
  split at h
  ·rename_i ys e;cases h;exact⟨a,rfl,.inr e⟩
  ·rename_i ys e;cases h;exact⟨a,rfl,.inl e⟩
  ·cases h
 | _=>cases h
theorem yS {H:Hp}{x:V}:(kc H x).isSome=(isL H x||isT H x):=by
 cases x with
 | ref a =>
  show ((match H a with | some (.tup xs)=>some xs | some (.lst xs)=>some xs | _=>none):Option (List V)).isSome=((match H a with | some (.lst _)=>true | _=>false)||(match H a with | some (.tup _)=>true | _=>false))
  cases e:H a with
  | none=>rfl
  | some o=>cases o <;> rfl
 | _=>rfl
theorem oJ {H H':Hp}{x:V}(h:Thg H x) (s:Same H H'):j7 H' x=j7 H x:=by
 cases x with
 | ref a=>show (match H' a with | some (.tup xs)=>some xs | _=>none)=(match H a with | some (.tup xs)=>some xs | _=>none);rw[lh h s]
 | _=>rfl
theorem wy {H H':Hp}{x:V}(h:Thg H x) (s:Same H H'):kc H' x=kc H x:=by
 cases x with
 | ref a=>show (match H' a with | some (.tup xs)=>some xs | some (.lst xs)=>some xs | _=>none)=(match H a with | some (.tup xs)=>some xs | some (.lst xs)=>some xs | _=>none);rw[lh h s]
 | _=>rfl
theorem Hd.tup {n:Nat}{H:Hp}{x:V}{xs:List V}(h:Hd (n+1) H x) (e:j7 H x=some xs):xs.length<=1000/\∀y∈xs,Hd n H y:=by
 obtain⟨a,rfl,q⟩:=ms e
 exact h.2 a xs rfl (.inr q)
theorem Hd.seq {n:Nat}{H:Hp}{x:V}{xs:List V}(h:Hd (n+1) H x) (e:kc H x=some xs):xs.length<=1000/\∀y∈xs,Hd n H y:=by
 obtain⟨a,rfl,q⟩:=qX e
 exact h.2 a xs rfl q
theorem uj {H H':Hp}{x:V}(h:Thg H x) (s:Same H H'):lM H' x=lM H x:=by
 unfold lM
 rw[aX,dec_iff,dec_iff]
 exact⟨fun ⟨ss,a,b⟩=>⟨ss,(Unm.same h s).mp a,b⟩,fun ⟨ss,a,b⟩=>⟨ss,(Unm.same h s).mpr a,b⟩⟩
theorem mS {H H':Hp}{x:V}(h:Thg H x) (s:Same H H') (w:Str):eU H' w x=eU H w x:=by
 unfold eU
 rw[uj h s]
theorem qu {α:Type}{xs:List α}{f g:α->Bool}(h:∀x∈xs,f x=g x):xs.all f=xs.all g:=by
 rw[aX,bo,bo]
 exact⟨fun k x hx=>by rw[<- h x hx];exact k x hx,fun k x hx=>by rw[h x hx];exact k x hx⟩
theorem jc {H H':Hp}{x:V}(h:Hd 1 H x) (s:Same H H'):fb H' x=fb H x := by
 unfold fb
 rw[oJ h.thg s]
 split
 ·rename_i w ps e
  unfold sgB
  split
  ·congr 1
   refine qu fun e' he'=>?_
   exact mS ((h.tup e).2 _ (aK _ (List.of_mem_zip he').2)).thg s _
  ·rfl
 ·rfl
theorem tF {H H':Hp}{w:Str}{ps:List V}(h:∀y∈ps,Thg H y) (s:Same H H'):gO H' w ps=gO H w ps:=by
 unfold gO
 split
 ·rename_i y
  rw[wy (h y (by simp)) s]
 ·rfl
theorem ny {H H':Hp}{x:V}(h:Hd 1 H x) (s:Same H H'):fF H' x=fF H x:=by
 unfold fF
 rw[oJ h.thg s]
 split
 ·rename_i w ps e
  exact tF (fun y hy=>((h.tup e).2 y (aK _ hy)).thg) s
 ·rfl
theorem Hd.many {n:Nat}{H:Hp}{x:V}{ys:List V}(h:Hd (n+2) H x) (e:fF H x=some ys):ys.length <= 1000 /\ ∀y ∈ ys, Hd n H y := by
 unfold fF at e
 split at e
 ·rename_i w ps e2
  unfold gO at e
  split at e
  ·rename_i y
   split at e
   ·exact((h.tup e2).2 y (by simp)).seq e
   ·cases e
  ·cases e
 ·cases e
theorem Hd.one:∀ {n:Nat}{H:Hp}{x:V},Hd (n+1) H x->Hd 1 H x
 | 0,_,_,h=>h
 | _+1,_,_,h=>Hd.one h.less
theorem Hd.two:∀ {n:Nat}{H:Hp}{x:V},Hd (n+2) H x->Hd 2 H x
 | 0,_,_,h=>h
 | _+1,_,_,h=>Hd.two h.less
theorem m3:∀ {n:Nat}{H H':Hp}{x:V}, Hd (2 * n+2) H x -> Same H H' -> fg n H' x=fg n H x
 | 0,H,H',x,h,s=>by unfold fg;rw[ny h.one s,jc h.one s]
 | n+1,H,H',x,h,s=>by
  unfold fg
  rw[ny h.one s,jc h.one s]
  split
  ·rename_i ys e
   exact qu fun y hy=>m3 ((Hd.many (n:=2 * n+2) h e).2 y hy) s
  ·rfl
theorem yz {x:V}{q:Addr}{u v:V}{σ:St}{H:Hp}{A B:St->Hp->Prop}(hx:x=.ref q) (hq:SqT K H q [u,v]) (h:A ((σ.set 0 (some u)).set 1 (some v)) H) :
    xg K 2 (nB (eF 0) (nB (eF 1) xI)) x σ H fun σ2 H3=>ug σ2 H3 fun b H4=>if b=true then A σ2 H4 else B σ2 H4:=by
 subst hx
 refine⟨q,_,rfl,hq,rfl,_,_,rfl,_,_,rfl,rfl,?_⟩
 show (if true=true then A ((σ.set 0 (some u)).set 1 (some v)) H else B ((σ.set 0 (some u)).set 1 (some v)) H)
 rw[if_pos rfl]
 exact h
def w4:Sp:=fun vs H Q _=>∃x,vs=[x]/\Hd 1 H x/\Q (.bl (hwB H x)) H
theorem scHW:FnScope ["thing"] ["thing"] (cI mC):=⟨rfl,rfl,rfl,by decide +kernel,rfl,by decide +kernel,by decide +kernel⟩
theorem Bp {f:Addr}{fd:FuncData}(F:Fun K "has_word" "has_word" mC f fd) (B:Blt mg):FnOk P w K mg base CX0 1 f fd ["thing"] w4 := by
 refine F.ok scHW (fun vs H Q E h=>?_) (fun cdv A outer s H vs Q E hr h=>?_)
 ·obtain⟨x,rfl,_⟩:=h
  rfl
 ·obtain⟨x, rfl, hx, k⟩ := h
  have nd:=scHW.nd
  obtain⟨t,ty,_,_,_,_,t5⟩:=i8 (K:=K) hx.thg
  refine⟨_,(cH (cL (i3 (lG K "tuple" B (p2 (pv 0) (js B))) (i3 (hG jl (dO K B (p1 (pv 0))) cG (cQ _)) (jH (lG K "str" B (p2 (px K hr (pv 0) cG) (pM B)))))))),?_⟩
  refine⟨_,rfl,_,t,_,rfl,ty,t5,_,rfl,?_⟩
  unfold hwB at k
  refine cR (fun h=>?_) (fun h=>?_)
  ·obtain⟨a,xs,rfl,e⟩:=y8 h
   rw[gY e] at k
   refine⟨_,rfl,_,_,rfl,Or.inr ⟨_,.of e,rfl⟩,_,_,rfl,rfl,_,rfl,?_⟩
   cases xs with
   | nil=>exact cR (fun h=>absurd h (by decide)) fun _=>k
   | cons y r =>
    refine cR (fun _=>?_) (fun h=>absurd (by show decide ((0:Int)<((r.length+1:Nat):Int))=true;rw[decide_eq_true_iff];omega) h)
    have ty2:=((hx.tup (gY e)).2 y (by simp)).thg
    obtain⟨t',ty',t1,_⟩:=i8 (K:=K) ty2
    refine⟨_,rfl,.tup (.of e) at0 ⟨_,t',_,rfl,ty',t1,?_⟩⟩
    cases y with
    | str z=>exact k
    | _=>exact k
  ·rw[tupO_T.mpr (by simpa using h)] at k
   exact k
def xU:Sp:=fun vs H Q _=>∃x,vs=[x]/\Hd 2 H x/\∀H',Same H H'->Q (.bl (fF H x).isSome) H'
theorem scIM:FnScope ["thing"] ["thing"] (cI oz):=⟨rfl,rfl,rfl,by decide +kernel,rfl,by decide +kernel,by decide +kernel⟩
theorem uH {H:Hp}{x:V}(h:hwB H x=true):∃a w ps,x=.ref a/\H a=some (.tup (.str w::ps)):=by
 unfold hwB at h
 split at h
 ·rename_i w ps e
  obtain⟨a,rfl,q⟩:=ms e
  exact⟨a,w,ps,rfl,q⟩
 ·cases h
theorem yp {H:Hp}{x:V}(h:hwB H x=false):fF H x=none/\fb H x=false:=by
 unfold hwB at h
 unfold fF fb
 split at h
 ·cases h
 ·rename_i n
  exact⟨rfl,rfl⟩
theorem BG {f:Addr}{fd:FuncData}(F:Fun K "is_many" "is_many" oz f fd) (B:Blt mg) (chas_word:Cal P w K mg base 1 "has_word" ["thing"] w4):FnOk P w K mg base CX0 2 f fd ["thing"] xU := by
 refine F.ok scIM (fun vs H Q E h=>?_) (fun cdv A outer s H vs Q E hr h=>?_)
 ·obtain⟨x,rfl,_⟩:=h
  rfl
 ·obtain⟨x, rfl, hx, k⟩ := h
  have nd:=scIM.nd
  refine⟨_,(cF (cX (PW.pt (lI (iw (fU (pc chas_word hr (p1 (pv 0))))) (lI (cK (fP hr.units) (px K hr (pv 0) cG) cM (cQ _)) (kS (cK (fP hr.units) (dO K B (p1 (pv 0))) cG (cQ _)))))) (cH (cL gQ)) cS)
   (cH (cL (qi K "list" "tuple" B (p2 (px K hr (pv 0) cG) (cV (p2 (qA B) (js B)))))))),?_⟩
  refine⟨_,rfl,x,rfl,hx.less,_,rfl,?_⟩
  cases hw:hwB H x with
  | false =>
   rw[(yp hw).1] at k
   exact gI (gI (k H (Same.refl H)))
  | true =>
   obtain⟨a,w,ps,rfl,e⟩:=uH hw
   refine fB ?_
   have em:fF H (.ref a)=gO H w ps:=by unfold fF;rw[gY e]
   have hp:=(hx.tup (gY e))
   rw[em] at k
   refine⟨_,rfl,.tup (.of e) at0 (.sc rfl ⟨_,rfl,?_⟩)⟩
   refine cR (fun h=>?_) (fun h=>?_)
   ·have:gO H w ps=none := by
       unfold gO
       split
       ·rw[if_neg fun z=>?_]
        rw[z] at h
        exact absurd h (by decide)
       ·rfl
    rw[this] at k
    exact gI (k H (Same.refl H))
   ·have hw2:w="many" := by
       have h:¬ (!decide (V.str w=V.str "many"))=true:=h
       simp at h
       exact h
    subst hw2
    refine⟨_,rfl,_,_,rfl,Or.inr ⟨_,.of e,rfl⟩,.sc rfl ⟨_,rfl,?_⟩⟩
    refine cR (fun h=>?_) (fun h=>?_)
    ·have h:(!decide (V.int (((V.str "many"::ps).length:Nat):Int)=V.int 2))=true:=h
     have:gO H "many" ps=none:=by
      unfold gO
      split
      ·exact absurd h (by simp)
      ·rfl
     rw[this] at k
     exact k H (Same.refl H)
    ·have h:¬ (!decide (V.int (((V.str "many"::ps).length:Nat):Int)=V.int 2))=true:=h
     have pl:ps.length=1:=by
      simp at h
      omega
     obtain⟨y,rfl⟩:=List.length_eq_one_iff.mp pl
     have ek:gO H "many" [y]=kc H y:=by show (if ("many":Str)="many" then kc H y else none)=kc H y;rw[if_pos rfl]
     rw[ek,yS] at k
     refine⟨_,rfl,.tup (.of e) at1 ⟨(by show 2<=sizeLine;decide),fun tp htp=>?_⟩⟩
     have s0:=Same.new (o:=.tup [V.ty "list",V.ty "tuple"]) htp
     have ty0:=(hp.2 y (by simp)).thg
     obtain⟨t,ty,_,_,_,t4,t5⟩:=i8 (K:=K) (ty0.same s0)
     have kl:=qU t4 t5
     rw[(jU ty0 s0).1,(jU ty0 s0).2] at kl
     exact⟨_,tp,t,_,rfl,cE,ty,kl,k _ s0⟩
def vH:Sp:=fun vs H Q _=>∃s x,vs=[.str s,x]/\Hd 1 H x/\∀H',Same H H'->Q (.bl (eU H s x)) H'
theorem scPart:FnScope ["sort","part"] ["sort","part"] (cI nV):=⟨rfl,rfl,rfl,by decide +kernel,rfl,by decide +kernel,by decide +kernel⟩
theorem dec_str {a b:Str}:decide (V.str a=V.str b)=decide (a=b):=by
 rw[aX,decide_eq_true_iff,decide_eq_true_iff]
 exact⟨V.str.inj,fun h=>by rw[h]⟩
theorem rR {x:V}(h:isS x=true):∃z,x=.str z:=by
 cases x with
 | str z=>exact⟨z,rfl⟩
 | _=>cases h
theorem zv {f W:Addr}{fd:FuncData}(F:Fun K "is_part" "is_part" nV f fd) (B:Blt mg) (TW:mg "WORDS"=some (.ref W)) (KW:∀H, SqT K H W [.str "first", .str "last"])
    (care_unlike_names:Cal P w K mg base 3 "are_unlike_names" ["things"] uE) (cis_name:Cal P w K mg base 1 "is_name" ["thing"] jY):FnOk P w K mg base CX0 4 f fd ["sort","part"] vH:=by
 refine F.ok scPart (fun vs H Q E h=>?_) (fun cdv A outer s H vs Q E hr h=>?_)
 ·obtain⟨s,x,rfl,_⟩:=h
  rfl
 ·obtain⟨z, x, rfl, hx, k⟩ := h
  have nd:=scPart.nd
  obtain⟨t,ty,t1,_⟩:=i8 (K:=K) hx.thg
  refine⟨_,(cF (cX (cK (di hr.units) (pv 0) cM (cQ _)) (cH (cL (i3 (pc care_unlike_names hr (p1 (pv 1))) (jH (hG jl (dO K B (p1 (pv 1))) cG (cQ _)))))) cS)
   (cF (cX (cK (di hr.units) (pv 0) cM (cQ _)) (cH (cL (i3 (lG K "str" B (p2 (pv 1) (pM B))) (jH (hG (ft K hr.units) (pv 1) (ik (v:=.ref W) rfl TW rfl) (by with_unfolding_all rfl)))))) cS)
   (cF (cX (PW.pt (fu (cK (di hr.units) (pv 0) cM (cQ _)) (fu (fU (lG K "str" B (p2 (pv 1) (pM B)))) (eV (cK (di hr.units) (pv 1) cM (cQ _)))))) (cH (cL gQ)) cS)
   (cH (cL (pc cis_name hr (p1 (pv 1)))))))),?_⟩
  refine⟨_,rfl,.sc rfl ⟨_,rfl,cR (fun h=>?_) (fun h=>?_)⟩⟩
  ·have ez:z="members" := by
      have h:decide (V.str z=V.str "members")=true:=h
      rw[dec_str] at h
      exact aM h
   subst ez
   have ek:eU H "members" x=lM H x:=by unfold eU;rw[if_pos rfl]
   rw[ek] at k
   unfold lM at k
   refine⟨_,rfl,x,rfl,hx,fun H1 s1=>⟨_,rfl,cR (fun h=>?_) (fun h=>?_)⟩⟩
   ·obtain⟨ss, a, rfl, hA, snd, snm⟩ := dec_iff.mp h
    refine⟨_,rfl,_,_,rfl,(SqA.same hA s1).len,_,_,rfl,rfl,?_⟩
    have e:dec (∃ss,Unm H (.ref a) ss/\ss≠[])=decide ((0:Int)<(((List.map V.str ss).length:Nat):Int)):=by
     rw[aX,dec_iff,decide_eq_true_iff,ae]
     constructor
     ·rintro⟨ss',⟨b,e,q,_⟩,l⟩
      cases e
      rw[qQ (nP hA q)]
      cases ss' with
      | nil=>exact absurd rfl l
      | cons x r=>show (0:Int)<((r.length+1:Nat):Int);omega
     ·intro l
      exact⟨ss,⟨a,rfl,hA,snd,snm⟩,fun z=>by rw[z] at l;exact absurd l (by decide)⟩
    have z:=k H1 s1
    rw[e] at z
    exact z
   ·rw[ux fun ⟨ss,q,_⟩=>h (BB ⟨ss,q⟩)] at k
    exact k H1 s1
  ·have n1:z ≠ "members" := fun e => h (by rw[e]; rfl)
   refine⟨_,rfl,.sc rfl ⟨_,rfl,cR (fun h=>?_) (fun h=>?_)⟩⟩
   ·have ez:z="word" := by
       have h:decide (V.str z=V.str "word")=true:=h
       rw[dec_str] at h
       exact aM h
    subst ez
    have ek:eU H "word" x=(decide (x=.str "first")||decide (x=.str "last")):=by unfold eU;rw[if_neg n1,if_pos rfl]
    rw[ek] at k
    refine⟨_,rfl,_,t,_,rfl,ty,t1,_,rfl,cR (fun h=>?_) (fun h=>?_)⟩
    ·obtain⟨y,rfl⟩:=rR h
     refine⟨_,rfl,.seq (.inr (KW H)) rfl rfl ?_⟩
     have z:=k H (Same.refl H)
     have e:inV (V.str y) [V.str "first",V.str "last"]=(decide (V.str y=.str "first")||decide (V.str y=.str "last")):=by
      show inV (V.str y) (List.map V.str ["first","last"])=_
      rw[iS,dec_str,dec_str,aX,decide_eq_true_iff,Bool.or_eq_true,decide_eq_true_iff,decide_eq_true_iff]
      simp
     rw[e]
     exact z
    ·have h:isS x=false:=by simpa using h
     have e1:decide (x=.str "first")=false:=aw fun e=>by rw[e] at h;cases h
     have e2:decide (x=.str "last")=false:=aw fun e=>by rw[e] at h;cases h
     rw[e1,e2] at k
     exact k H (Same.refl H)
   ·have n2:z ≠ "word" := fun e => h (by rw[e]; rfl)
    have ek:eU H z x=if z="knot"/\x=.str "" then true else gJ x:=by unfold eU;rw[if_neg n1,if_neg n2]
    rw[ek] at k
    have fin:¬ (z="knot"/\x=.str "")->jY [x] H Q E0:=fun n=>⟨x,rfl,hx.thg,fun H' s'=>by have z:=k H' s';rw[if_neg n] at z;exact z⟩
    refine⟨_,rfl,.sc rfl ⟨_,rfl,cR (fun h=>?_) (fun h=>?_)⟩⟩
    ·have ez:z="knot" := by
        have h:decide (V.str z=V.str "knot")=true:=h
        rw[dec_str] at h
        exact aM h
     refine⟨_,rfl,_,t,_,rfl,ty,t1,_,rfl,cR (fun h=>?_) (fun h=>?_)⟩
     ·obtain⟨y,rfl⟩:=rR h
      refine⟨_,rfl,.sc rfl ⟨_,rfl,cR (fun h=>?_) (fun h=>?_)⟩⟩
      ·have ey:V.str y=.str "":=aM h
       have z:=k H (Same.refl H)
       rw[if_pos ⟨ez,ey⟩] at z
       exact z
      ·exact⟨_,rfl,fin fun e=>h (ak e.2)⟩
     ·refine fB ⟨_,rfl,fin fun e=>h (by rw[e.2];rfl)⟩
    ·exact fB ⟨_,rfl,fin fun e=>h (by rw[e.1];rfl)⟩
structure PK (P:Program) (w:World) (K:W.Frag) (D0:Addr) (vs:List (Key × Value)):Prop where
 kd:KD P w K D0 vs
 at_:∀w ss,ie w=some ss->∃a,valueAt vs (.inr w)=some (.ref a)/\∀H,SqT K H a (List.map V.str ss)
 no:∀w,ie w=none->valueAt vs (.inr w)=none
theorem vi {w:Str}{ss:List Str}(h:ie w=some ss):ss.length <= 2 := by
 unfold ie at h
 have:∀(l:List (Str × List Str)),(∀e∈l,e.2.length<=2)->l.lookup w=some ss->ss.length<=2:=by
  intro l
  induction l with
  | nil=>intro _ h;cases h
  | cons e r ih =>
   intro a h
   rw[aY] at h
   split at h
   ·cases h;exact a e (by simp)
   ·exact ih (fun e he=>a e (aK _ he)) h
 exact this partsA (by decide) h
theorem qr {x:V}{xs:List V}:il (x::xs) (some 1) none=xs:=by
 exact pi (x::xs) 1
theorem ql {x:V}{xs:List V}:¬ (HT.sIx (x::xs).length 0 (some 1)=0/\HT.sIx (x::xs).length (x::xs).length none=(x::xs).length):=fun h=>by
 have h:=h.1
 have e:HT.sIx (x::xs).length 0 (some ((1:Nat):Int))=min 1 (x::xs).length:=HT.sIx_nat _ _ _
 have h:HT.sIx (x::xs).length 0 (some ((1:Nat):Int))=0:=h
 rw[e,aF] at h
 omega
def mX:Sp:=fun vs H Q _=>∃x,vs=[x]/\Hd 2 H x/\∀H',Same H H'->Q (.bl (fb H x)) H'
theorem scSing:FnScope ["thing","sorts"] ["thing"] (cI jf):=⟨rfl,rfl,rfl,by decide +kernel,rfl,by decide +kernel,by decide +kernel⟩
theorem zu {f D0:Addr}{fd:FuncData}{vs:List (Key × Value)}(F:Fun K "is_single" "is_single" jf f fd) (B:Blt mg) (Zz:mg "zip"=none) (TP:mg "PARTS"=some (.ref D0)) (PP:PK P w K D0 vs)
    (chas_word:Cal P w K mg base 1 "has_word" ["thing"] w4) (cis_part:Cal P w K mg base 4 "is_part" ["sort","part"] vH):FnOk P w K mg base CX0 5 f fd ["thing"] mX:=by
 refine F.ok scSing (fun vs H Q E h=>?_) (fun cdv A outer s H vs Q E hr h=>?_)
 ·obtain⟨x,rfl,_⟩:=h
  rfl
 ·obtain⟨x, rfl, hx, k⟩ := h
  have nd:=scSing.nd
  have KP:=PP.kd
  refine⟨_,(cF (cX (PW.pt (lI (iw (fU (pc chas_word hr (p1 (pv 0))))) (kS (cK (tQ KP) (px K hr (pv 0) cG) (ik (v:=.ref D0) rfl TP rfl) (by with_unfolding_all rfl))))) (cH (cL gQ)) cS)
   (cF (pst 1 nd (ua (yr KP) (ik (v:=.ref D0) rfl TP rfl) (px K hr (pv 0) cG) (fun _ _=>rfl)))
   (cF (cX (cK (fP hr.units) (dO K B (p1 (pv 0))) (cZ dz (dO K B (p1 (pv 1))) cG) (cQ _)) (cH (cL gQ)) cS)
   (cH (cL (mO rfl B (p1 (dS (cI jf) ["thing","sorts"] ["sort","part"] [] ["sort","part"] rfl (u4 K rfl Zz (p2 (pv 1) (fR (ou K) (pv 0) (gl cG) gp))) (fun _ _ _ _ _=>(eW (n:=2) K rfl (cY (cN (i:=0) (show (["sort","part"]:List Str).Nodup by decide) rfl (Or.inl rfl)) (cY (cN (i:=1) (show (["sort","part"]:List Str).Nodup by decide) rfl (Or.inl rfl)) eP)))) (fun _ _ _ _ _=>fw) (fun _ _ _ _ _=>(pc cis_part hr (p2 (pv 0) (pv 1)))))))))))),?_⟩
  refine⟨_,rfl,x,rfl,hx.less,_,rfl,?_⟩
  cases hw:hwB H x with
  | false =>
   rw[(yp hw).2] at k
   exact gI (gI (k H (Same.refl H)))
  | true =>
   obtain⟨a,w,ps,rfl,e⟩:=uH hw
   have es:fb H (.ref a)=sgB H w ps:=by unfold fb;rw[gY e]
   have hp:=(hx.tup (gY e))
   rw[es] at k
   unfold sgB at k
   refine fB ?_
   refine⟨_,rfl,.tup (.of e) at0 ⟨.inr w,rfl,rfl,_,rfl,?_⟩⟩
   cases q:ie w with
   | none =>
    rw[PP.no w q]
    rw[q] at k
    exact gI (k H (Same.refl H))
   | some ss =>
    obtain⟨b,hv,hS⟩:=PP.at_ w ss q
    rw[q] at k
    have k:∀H',Same H H'->Q (.bl (decide (ps.length=ss.length)&&(ss.zip ps).all fun e=>eU H e.1 e.2)) H':=k
    have few:=vi q
    rw[hv]
    refine fB ?_
    refine⟨_,rfl,.tup (.of e) at0 ⟨.inr w,.ref b,.ref b,rfl,rfl,hv,rfl,?_⟩⟩
    refine⟨_,rfl,_,_,rfl,Or.inr ⟨_,.of e,rfl⟩,_,rfl,_,_,rfl,Or.inr ⟨_,hS H,rfl⟩,.int (.sc rfl ⟨_,rfl,?_⟩)⟩
    refine cR (fun h=>?_) (fun h=>?_)
    ·have h:(!decide (V.int (((V.str w::ps).length:Nat):Int)=V.int ((((List.map V.str ss).length:Nat):Int)+1)))=true:=h
     have n:¬ ps.length=ss.length:=fun z=>by
      rw[ae,aF,z] at h
      exact absurd h (by simp)
     have z:=k H (Same.refl H)
     rw[aw n] at z
     exact z
    ·have h:¬ (!decide (V.int (((V.str w::ps).length:Nat):Int)=V.int ((((List.map V.str ss).length:Nat):Int)+1)))=true:=h
     have n:ps.length=ss.length:=by
      rw[ae,aF] at h
      simp at h
      omega
     rw[ak n,Bool.true_and] at k
     refine⟨_,rfl,_,rfl,_,rfl,a,_,rfl,.of e,ql,fun pp hpp=>?_⟩
     rw[qr]
     have s0:=Same.new (o:=.tup ps) hpp
     have e1:(upd H pp (.tup ps)) pp=some (.tup ps):=cE
     generalize upd H pp (.tup ps)=H0 at s0 e1 ⊢
     have zl:((List.map V.str ss).zip ps).length=ss.length:=by rw[bx,ae];omega
     refine⟨b,pp,_,_,rfl,hS H0,.of e1,?_⟩
     refine tS (List.map V.str ss) ps (fun D i acc σ' H'=>∃o1 o2,σ'=[o1,o2]/\acc=List.map V.bl (((ss.zip ps).take i).map fun e=>eU H e.1 e.2)/\Same H0 H'/\H0 D=none) fun D hD=>⟨?_,?_,?_,?_⟩
     ·exact⟨none,none,rfl,rfl,Same.new hD,hD⟩
     ·rintro i acc σ' H' _ ⟨o1,o2,rfl,_,sm,_⟩ _
      exact⟨hS H',.of (sm _ _ e1)⟩
     ·rintro i acc σ' H' x y p hx ⟨o1,o2,rfl,rfl,sm,hD0⟩ hacc hp0
      obtain⟨hx1,hx2⟩:=bq.mp hx
      obtain⟨z,hz,rfl⟩:=dH hx1
      have hil:=(ah.mp hz).1
      have s1:=Same.new (o:=.tup [V.str z,y]) hp0
      have hy:Hd 1 H y:=hp.2 y (aK _ (au hx2))
      have sA:=(s0.trans sm).trans s1
      refine yz rfl (.of cE) ?_
      refine⟨_,rfl,_,rfl,z,y,rfl,Hd.mono 1 _ _ _ sA hy,fun H2 s2=>?_⟩
      rw[mS hy.thg sA]
      refine⟨s2 _ _ (s1 _ _ hacc),by rw[ae,ae,aL];exact cU (by omega),_,_,rfl,?_,dh ((sm.trans s1).trans s2) hD0,hD0⟩
      have hz2:(ss.zip ps)[i]? = some (z,y):=bq.mpr ⟨hz,hx2⟩
      rw[av,hz2,aj,aj];rfl
     ·rintro acc σ' H2 ⟨o1,o2,rfl,rfl,s2,hD0⟩ hacc
      rw[zl,ap (by rw[bx];omega)] at hacc
      refine⟨D,(ss.zip ps).map fun e=>eU H e.1 e.2,rfl,hacc,?_⟩
      have z:=k H2 (s0.trans s2)
      rw[show (ss.zip ps).all (fun e=>eU H e.1 e.2)=((ss.zip ps).map fun e=>eU H e.1 e.2).all id by rw[List.all_map];rfl] at z
      exact z
def sY (n:Nat):Sp:=fun vs H Q _=>∃x,vs=[x,.int (n:Int)]/\Hd (2 * n+2) H x/\∀H',Same H H'->Q (.bl (fg n H x)) H'
def BD:Nat->Sp
 | 0=>fun _ _ _ _=>False
 | n+1=>sY n
theorem scDW:FnScope ["thing","many"] ["thing","many"] (cI gj):=⟨rfl,rfl,rfl,by decide +kernel,rfl,by decide +kernel,by decide +kernel⟩
theorem xn {H:Hp}{x:V}{ys:List V}(h:fF H x=some ys):∃a b, x=.ref a /\ H a=some (.tup [.str "many", .ref b]) /\ SqA H b ys := by
 unfold fF at h
 split at h
 ·rename_i w ps e
  unfold gO at h
  split at h
  ·rename_i y
   split at h
   ·rename_i ew
    subst ew
    obtain⟨b,rfl,q⟩:=qX h
    obtain⟨a,rfl,q2⟩:=ms e
    exact⟨a,b,rfl,q2,q⟩
   ·cases h
  ·cases h
 ·cases h
theorem wj {f:Addr}{fd:FuncData}{n:Nat}(F:Fun K "is_deed_within" "is_deed_within" gj f fd) (B:Blt mg) (cis_many:Cal P w K mg base 2 "is_many" ["thing"] xU) (cis_single:Cal P w K mg base 5 "is_single" ["thing"] mX)
    (cis_deed_within:Cal P w K mg base (n+5) "is_deed_within" ["thing","many"] (BD n)):FnOk P w K mg base CX0 (n+5+1) f fd ["thing","many"] (sY n):=by
 refine F.ok scDW (fun vs H Q E h=>?_) (fun cdv A outer s H vs Q E hr h=>?_)
 ·obtain⟨x,rfl,_⟩:=h
  rfl
 ·obtain⟨x, rfl, hx, k⟩ := h
  have nd:=scDW.nd
  have h5:5<=n+5:=Nat.le_add_left ..
  have h2:2<=n+5:=aG (by decide) h5
  refine⟨_,(cF (cX (iw (fU (nq cis_many (hr.mono h2) rfl (p1 (pv 0))))) (cH (cL (nq cis_single (hr.mono h5) rfl (p1 (pv 0))))) cS)
   (cH (cL (i3 (hG jl (pv 1) cG (cQ _)) (jH (mO rfl B (p1 (dS (cI gj) ["thing","many"] ["deed"] [1] ["deed","many"] rfl (oy K (px K hr (pv 0) cG)) (fun _ _ _ _ _=>(cN (i:=0) (show (["deed","many"]:List Str).Nodup by decide) rfl (Or.inl rfl))) (fun _ _ _ _ _=>fw) (fun _ _ _ _ _=>(nq cis_deed_within (hr.mono (ac _)) rfl (p2 (pv 0) (cZ qk (pv 1) cG)))))))))))),?_⟩
  refine⟨_,rfl,x,rfl,hx.two,fun H1 s1=>⟨_,rfl,?_⟩⟩
  cases q:fF H x with
  | none =>
   have ek:fg n H x=fb H x:=by cases n <;> (unfold fg;rw[q])
   rw[ek] at k
   refine gI ⟨_,rfl,x,rfl,Hd.mono 2 _ _ _ s1 hx.two,fun H2 s2=>?_⟩
   rw[jc hx.one s1]
   exact k H2 (s1.trans s2)
  | some ys =>
   refine fB ?_
   cases n with
   | zero =>
    have ek:fg 0 H x=false:=by unfold fg;rw[q]
    rw[ek] at k
    refine⟨_,rfl,_,_,rfl,rfl,_,rfl,cR (fun h=>absurd h (by decide)) fun _=>k H1 s1⟩
   | succ n =>
    have ek:fg (n+1) H x=ys.all (fg n H):=by rw[fg];rw[q]
    rw[ek] at k
    obtain⟨yl,yh⟩:=Hd.many (n:=2 * n+2) hx q
    obtain⟨a,b,rfl,ha,hb⟩:=xn q
    refine⟨_,rfl,_,_,rfl,rfl,_,rfl,cR (fun _=>?_) (fun h=>absurd (ak (by omega)) h)⟩
    have ha1:=s1 _ _ ha
    have hb1:=SqA.same hb s1
    refine⟨_,rfl,.tup (.of ha1) at1 ⟨b,rfl,?_⟩⟩
    refine qo ys (fun D i acc σ' H'=>∃o,σ'=[o,some (.int ((n+1:Nat):Int))]/\acc=List.map V.bl ((ys.take i).map (fg n H))/\Same H1 H'/\H1 D=none) hb1 fun D hD=>⟨?_,?_,?_,?_⟩
    ·exact⟨none,rfl,rfl,Same.new hD,hD⟩
    ·rintro i acc σ' H' _ ⟨o,rfl,_,sm,_⟩ _
     exact yx hb1 sm
    ·rintro i acc σ' H' x hx ⟨o,rfl,rfl,sm,hD0⟩ hacc
     have hil:=(ah.mp hx).1
     have hy:=yh x (au hx)
     refine jZ ?_
     refine⟨_,rfl,_,rfl,_,_,rfl,rfl,x,(by show [x,V.int (((n+1:Nat):Int)-1)]=_;rw[show ((n+1:Nat):Int)-1=(n:Int) by omega]),Hd.mono _ _ _ _ (s1.trans sm) hy,fun H2 s2=>?_⟩
     rw[m3 hy (s1.trans sm)]
     exact⟨s2 _ _ hacc,by rw[ae,ae,aL];exact cU (by omega),_,rfl,by rw[av,hx,aj,aj];rfl,dh (sm.trans s2) hD0,hD0⟩
    ·rintro acc σ' H2 ⟨o,rfl,rfl,s2,hD0⟩ hacc
     rw[ap (ac _)] at hacc
     refine⟨D,ys.map (fg n H),rfl,hacc,?_⟩
     have z:=k H2 (s1.trans s2)
     rw[show ys.all (fg n H)=(ys.map (fg n H)).all id by rw[List.all_map];rfl] at z
     exact z
theorem yj {f:Addr}{fd:FuncData}(F:Fun K "is_deed_within" "is_deed_within" gj f fd) (B:Blt mg) (cis_many:Cal P w K mg base 2 "is_many" ["thing"] xU) (cis_single:Cal P w K mg base 5 "is_single" ["thing"] mX)
    (mk:∀h sp,FnOk P w K mg base CX0 h f fd ["thing","many"] sp->Cal P w K mg base h "is_deed_within" ["thing","many"] sp):∀n,FnOk P w K mg base CX0 (n+6) f fd ["thing","many"] (sY n)
 | 0=>wj F B cis_many cis_single (mk 5 _ ⟨fun vs H Q E h=>h.elim,fun A outer s H args us' vs Q E hr he hb hv h=>h.elim⟩)
 | n+1=>wj F B cis_many cis_single (mk _ _ (yj F B cis_many cis_single mk n))
def vn:Sp:=fun vs H Q _=>∃x,vs=[x]/\Hd 6 H x/\∀H',Same H H'->Q (.bl (fg 2 H x)) H'
theorem scDeed:FnScope ["thing"] ["thing"] (cI om):=⟨rfl,rfl,rfl,by decide +kernel,rfl,by decide +kernel,by decide +kernel⟩
theorem yO {f:Addr}{fd:FuncData}{tk:Tok}(F:Fun K "is_deed" "is_deed" om f fd) (B:Blt mg) (TM:mg "MOST_MANY"=some (.int 2 tk)) (cis_deed_within:Cal P w K mg base 8 "is_deed_within" ["thing","many"] (sY 2)):FnOk P w K mg base CX0 9 f fd ["thing"] vn:=by
 refine F.ok scDeed (fun vs H Q E h=>?_) (fun cdv A outer s H vs Q E hr h=>?_)
 ·obtain⟨x,rfl,_⟩:=h
  rfl
 ·obtain⟨x,rfl,hx,k⟩:=h
  have nd:=scDeed.nd
  refine⟨_,(cH (cL (pc cis_deed_within hr (p2 (pv 0) (ik (v:=.int 2) rfl TM ⟨_,rfl⟩))))),?_⟩
  exact⟨_,rfl,x,rfl,hx,k⟩
abbrev letters:Str:="abcdefghijklmnopqrstuvwxyz"
theorem cP {σ:St}{H:Hp}{k:List V->Hp->Prop}(h:k [] H):uy σ H k:=h
theorem ii {i:Nat}{v:V}{σ:St}{H:Hp}{k:St->Hp->Prop}(h:k (σ.set i (some v)) H):eF i v σ H k:=h
theorem jQ {s r:TS}{D:Ends}{σ:St}{H:Hp}(Inv:St->Hp->Prop) (fin:∀σ' H',Inv σ' H'->r D σ' H') (main:∀N:St->Hp->Prop,(∀σ' H',Inv σ' H'->N σ' H')->s { D with nx:=N } σ H):zU s r D σ H:=main _ fin
theorem uF {xs:List V}{m:Nat}{r:Int}(hl:xs.length=m) (h0:0<=r) (h1:r<m):∃x,atI xs r=some x/\x∈xs:=by
 obtain⟨j,rfl⟩:=bi h0
 have hj:j<xs.length:=by omega
 exact⟨xs[j],eQ (aV hj),List.getElem_mem hj⟩
def nmF (z:Str) (sp:Nat) (st r:Int) (i:Nat):Str:=Txt.slice z none (some (sp:Int))++⟨#[97+((st+7 * (0+(i:Int))) % 26).toNat]⟩++Txt.slice z (some (sp:Int)) none++(if i % 2=0 then ("":Str) else ⟨#[97+r.toNat]⟩)
theorem mid4 {x y w w':Str}{c d:Nat}(h:(x++⟨#[c]⟩++y++w:Str)=x++⟨#[d]⟩++y++w'):c=d:=by
 have h:(x.cps++#[c]++y.cps++w.cps).toList=(x.cps++#[d]++y.cps++w'.cps).toList:=congrArg (fun s:Str=>s.cps.toList) h
 simp only[Array.toList_append,cu,List.append_cancel_left_eq] at h
 have h:c::(y.cps.toList++w.cps.toList)=d::(y.cps.toList++w'.cps.toList):=by simpa using h
 exact(List.cons.inj h).1
theorem AM {z:Str}{sp:Nat}{st r:Int}{m:Nat}(hm:m<=26):((List.range m).map (nmF z sp st r)).Nodup:=pT _ m fun i j hij hj e=>by
 have:=mid4 e
 omega
theorem lZ {z:Str}{j:Nat}(h:j<=z.length):(Txt.slice z (some (j:Int)) none).length<=z.length-j:=by
 have e:Txt.slice z (some (j:Int)) none=StrLaws.sliceText z (some (j:Int)) none:=rfl
 rw[e,StrLaws.sliceText_from ⟨by omega,by simp[Str.length] at h ⊢;omega⟩]
 show (List.take _ _).toArray.size<=_
 rw[aE]
 simp[Str.length]
theorem A2 {z:Str}{sp:Nat}{st r:Int}{i:Nat}(hj:Lo z) (hz:z.length <= 6) (hs:sp <= z.length) (h0:0 <= r) (h1:r<26):Nm (nmF z sp st r i) := by
 have q0:=bg (st+7 * (0+(i:Int))) (show (26:Int)≠0 by decide)
 have q1:=bp (st+7 * (0+(i:Int))) (show (0:Int)<26 by decide)
 have l1:=qC hs
 have l2:=lZ hs
 have le:∀c:Nat,(⟨#[c]⟩:Str).length=1:=fun _=>rfl
 unfold nmF
 refine Lo.nm (((Lo.app (Lo.app (hj.slice _ _) (Lo.one (by omega))) (hj.slice _ _))).app ?_) ?_ ?_
 ·split
  ·exact Lo.nil
  ·exact Lo.one (by omega)
 ·rw[gA,gA,gA,le];omega
 ·rw[gA,gA,gA,le,l1]
  have:(if i % 2=0 then ("":Str) else ⟨#[97+r.toNat]⟩).length<=1:=by
   split
   ·decide +kernel
   ·exact ac _
  omega
def sj (K:W.Frag):Sp:=fun vs H Q _=>∃(p a:Addr) (m:Nat),vs=[.ref p,.int (m:Int)]/\DPen K H p a/\m<=13 /\
 ∀l ss H',ss.length=m->ss.Nodup->(∀s∈ss,Nm s)->H' l=some (.lst (List.map V.str ss))->H l=none->l≠p->DPV H' p a->But p H H'->Q (.ref l) H'
def iB:List Str:=["first","last","top","tie","wait","group","want","open","drop","thing","many","untie","lay","ring"]
def wordsT:List Str:=["first","last","top","tie","wait","group","want","open","drop","thing","many","untie","lay","ring","place","bar","step","unit"]
theorem rc:Txt.split ("first last top tie wait group want open drop thing many untie lay ring":Str) " "=iB:=by decide +kernel
theorem u6:∀s∈wordsT,gJ (.str s)=true:=by decide +kernel
theorem kB:wordsT.Nodup:=by decide +kernel
theorem j4:wordsT.length=18:=by decide +kernel
def wdF (st:Int) (i:Nat):Str:=wordsT.getD ((st+(0+(i:Int))) % 18).toNat ""
theorem Aq {st:Int}{m:Nat}(hm:m<=18):((List.range m).map (wdF st)).Nodup:=pT _ m fun i j hij hj e=>by
 have a0:=bg (st+(0+(i:Int))) (show (18:Int)≠0 by decide)
 have a1:=bp (st+(0+(i:Int))) (show (0:Int)<18 by decide)
 have b0:=bg (st+(0+(j:Int))) (show (18:Int)≠0 by decide)
 have b1:=bp (st+(0+(j:Int))) (show (0:Int)<18 by decide)
 unfold wdF at e
 have l:=j4
 have la:((st+(0+(i:Int))) % 18).toNat<wordsT.length:=by omega
 have lb:((st+(0+(j:Int))) % 18).toNat<wordsT.length:=by omega
 rw[bw,bw,aV la,aV lb] at e
 have e:wordsT[((st+(0+(i:Int))) % 18).toNat]=wordsT[((st+(0+(j:Int))) % 18).toNat]:=e
 have h1:=MG.ix_at kB (aV la)
 have h2:=MG.ix_at kB (aV lb)
 rw[e] at h1
 have:=h1.symm.trans h2
 omega
theorem zh {st:Int}{i:Nat}:wdF st i∈wordsT:=by
 have a0:=bg (st+(0+(i:Int))) (show (18:Int)≠0 by decide)
 have a1:=bp (st+(0+(i:Int))) (show (0:Int)<18 by decide)
 have l:=j4
 have la:((st+(0+(i:Int))) % 18).toNat<wordsT.length:=by omega
 unfold wdF
 rw[bw,aV la]
 exact List.getElem_mem la
theorem scNames:FnScope ["_law_pen_here","_law_many","_law_letters","_law_base","_law_some","_law_start","_law_spot","_law_more","_law_found","_law_k","_law_letter"] ["_law_pen_here","_law_many"] (cI kM):=⟨rfl,rfl,rfl,by decide +kernel,rfl,by decide +kernel,by decide +kernel⟩
theorem wI {f:Addr}{fd:FuncData}(F:Fun K "_law_names" "_law_names" kM f fd) (B:Blt mg) (c_law_draw:Cal P w K mg base 1 "_law_draw" ["_law_pen_here", "_law_many"] (m7 K)):FnOk P w K mg base CX0 2 f fd ["_law_pen_here", "_law_many"] (sj K) := by
 refine F.ok scNames (fun vs H Q E h=>?_) (fun cdv A outer s H vs Q E hr h=>?_)
 ·obtain⟨p,a,m,rfl,_⟩:=h
  rfl
 ·obtain⟨p, a, m, rfl, hP, hm, k⟩ := h
  have nd:=scNames.nd
  have v0:=hP.2
  have lL:letters.length<=sizeLine:=by decide +kernel
  refine⟨_,(cF (gr (i:=2) nd rfl (Or.inr rfl) cM)
   (cF (pst 3 nd (Aw K cM (p1 (dS (cI kM) ["_law_pen_here","_law_many","_law_letters","_law_base","_law_some","_law_start","_law_spot","_law_more","_law_found","_law_k","_law_letter"] ["_law_k"] [2,0] ["_law_k","_law_letters","_law_pen_here"] rfl (gZ rfl B.range (p1 (pc c_law_draw hr (p2 (pv 0) cG)))) (fun _ _ _ _ _=>(cN (i:=0) (show (["_law_k","_law_letters","_law_pen_here"]:List Str).Nodup by decide) rfl (Or.inl rfl))) (fun _ _ _ _ _=>fw) (fun _ _ _ _ _=>(px K hr (pv 1) (pc c_law_draw hr (p2 (pv 2) cG))))))))
   (cF (cX (cK (di hr.units) (pc c_law_draw hr (p2 (pv 0) cG)) cG (cQ _)) (cF (gr (i:=4) nd rfl (Or.inr rfl) (zm K cM (p1 cM)))
   (cF (gr (i:=4) nd rfl (Or.inr rfl) (cZ dz (pv 4) (dw (cT cM (cT cM (p2 cM cM))))))
   (cF (gr (i:=5) nd rfl (Or.inr rfl) (pc c_law_draw hr (p2 (pv 0) cG)))
   (cH (cL (dS (cI kM) ["_law_pen_here","_law_many","_law_letters","_law_base","_law_some","_law_start","_law_spot","_law_more","_law_found","_law_k","_law_letter"] ["_law_k"] [4,5] ["_law_k","_law_some","_law_start"] rfl (gZ rfl B.range (p1 (pv 1))) (fun _ _ _ _ _=>(cN (i:=0) (show (["_law_k","_law_some","_law_start"]:List Str).Nodup by decide) rfl (Or.inl rfl))) (fun _ _ _ _ _=>fw) (fun _ _ _ _ _=>(px K hr (pv 1) (cZ gL (cZ dz (pv 2) (pv 0)) cG))))))))) cS)
   (cF (pst 6 nd (pc c_law_draw hr (p2 (pv 0) (cZ dz (dO K B (p1 (pv 3))) cG))))
   (cF (gr (i:=5) nd rfl (Or.inr rfl) (pc c_law_draw hr (p2 (pv 0) cG)))
   (cF (pst 7 nd (dw (p2 cM (px K hr (pv 2) (pc c_law_draw hr (p2 (pv 0) cG))))))
   (cF (pst 8 nd (dw fV))
   (cF (dM PassesOwn.never rfl (gZ rfl B.range (p1 (pv 1))) (cN (i:=9) nd rfl (Or.inl rfl)) (cF (pst 10 nd (px K hr (pv 2) (cZ gL (cZ dz (pv 5) (cZ jv cG (pv 9))) cG)))
   (cH (dR (fY K (pv 8) (p1 (cZ dz (cZ dz (cZ dz (fR (xi K) (pv 3) gp (gl (pv 6))) (pv 10)) (fR (xi K) (pv 3) (gl (pv 6)) gp)) (px K hr (pv 7) (cZ gL (pv 9) cG)))))))))
   (cH (cL (pv 8))))))))))),?_⟩
  refine⟨rfl,_,rfl,p,a,7,rfl,hP,by decide,by decide,fun r1 H1 r10 r11 v1 b1=>?_⟩
  obtain⟨n1,rfl⟩:=bi r10
  refine⟨_,rfl,by omega,by omega,?_⟩
  refine mT (fun D i acc σ' H'=>∃o ys,σ'=[o,some (.str letters),some (.ref p)]/\acc=List.map V.str ys/\ys.length=i/\(∀y∈ys,y.length=1/\Lo y)/\DPV H' p a/\But p H1 H'/\H1 D=none/\p≠D) fun D hD=>⟨?_,?_,?_⟩
  ·have hDp:=v1.ne hD
   exact⟨none,[],rfl,rfl,rfl,(fun y hy=>by cases hy),v1.upd hDp,(But.refl p H1).at hD,hD,hDp⟩
  ·rintro i acc σ' H' hi ⟨o, ys, rfl, rfl, hl, hys, v, b, hD0, hDp⟩ hacc
   refine jZ ?_
   refine⟨_,rfl,_,rfl,p,a,26,rfl,hP.but (b1.trans b) v,by decide,by decide,fun r5 H5 h50 h51 v5 b5=>?_⟩
   refine .str lL (qR h50 h51) ⟨b5 _ _ (Ne.symm hDp) hacc,?_,_,ys++[abc r5],rfl,by simp[abc],by simp[hl],?_,v5.upd hDp,(b.trans b5).at hD0,hD0,hDp⟩
   ·rw[ae,hl];exact cU (by simp at hi;omega)
   ·intro y hy
    rcases aH.mp hy with hy | hy
    ·exact hys y hy
    ·have:y=abc r5:=by simpa using hy
     subst this
     exact⟨rfl,A5 h50 h51⟩
  ·rintro acc σ' H5 ⟨o, ys, rfl, rfl, hl, hys, v5, b5, hD0, hDp⟩ hacc
   have hj:Lo (Txt.join "" ys):=Lo.join Lo.nil fun y hy=>(hys y hy).2
   have yl:ys.length<=6:=by simp at hl;omega
   have hz8:(Txt.join "" ys).length<=6:=by rw[xm fun y hy=>(hys y hy).1];exact yl
   have e0:("":Str).length=0:=by decide +kernel
   have hsum:=zR (n:=1) fun y hy=>Nat.le_of_eq (hys y hy).1
   have s1000:1000<=sizeLine:=by decide
   refine⟨_,D,ys,rfl,rfl,hacc,by rw[e0];omega,?_⟩
   have b5:=b1.trans b5
   generalize Txt.join "" ys=z at hj hz8 ⊢
   clear hacc hys hl hsum yl hD0 hDp b1 v1
   refine ii ?_
   dsimp only
   refine jQ (fun σ' H'=>∃z,σ'=[some (.ref p),some (.int (m:Int)),some (.str letters),some (.str z),none,none,none,none,none,none,none]/\Lo z/\z.length<=6/\DPV H' p a/\But p H H') ?_ ?_
   ·clear hj hz8 z v5 b5
    rintro σ' H6 ⟨z,rfl,hj,hz,v6,b6⟩
    have zl:z.length<=sizeLine:=by omega
    refine⟨_,rfl,_,rfl,_,_,rfl,⟨zl,rfl⟩,.int ⟨p,a,_,rfl,hP.but b6 v6,by omega,by omega,fun r7 H7 h70 h71 v7 b7=>?_⟩⟩
    have b7:=b6.trans b7
    refine⟨_,rfl,p,a,26,rfl,hP.but b7 v7,by decide,by decide,fun r8 H8 h80 h81 v8 b8=>?_⟩
    have b8:=b7.trans b8
    refine⟨_,rfl,_,rfl,p,a,26,rfl,hP.but b8 v8,by decide,by decide,fun r9 H9 h90 h91 v9 b9=>?_⟩
    have b9:=b8.trans b9
    refine .str lL (qR h90 h91) (cP ⟨(by show 2<=sizeLine;decide),fun lm hlm=>?_⟩)
    have nlm:p≠lm:=v9.ne hlm
    have s10:=Same.new (o:=.lst [V.str "",V.str ⟨#[97+r9.toNat]⟩]) hlm
    have e10:upd H9 lm (.lst [V.str "",V.str ⟨#[97+r9.toNat]⟩]) lm=some (.lst [V.str "",V.str ⟨#[97+r9.toNat]⟩]):=cE
    have v10:=v9.same s10
    have b10:=b9.trans (But.of_same (p:=p) s10)
    generalize upd H9 lm (.lst [V.str "",V.str ⟨#[97+r9.toNat]⟩])=H10 at s10 e10 v10 b10 ⊢
    refine⟨(by show 0<=sizeLine;decide),fun fl hfl=>?_⟩
    have hpf:=v10.ne hfl
    have hf0:=b10.free (Ne.symm hpf) hfl
    have nfl:lm≠fl:=cO e10 hfl
    obtain⟨sp,rfl⟩:=bi h70
    have spz:sp<=z.length:=by omega
    refine⟨_,rfl,_,rfl,by omega,by omega,?_⟩
    refine jg (fun i σ H'=>∃o8 o9,σ=[some (.ref p),some (.int (m:Int)),some (.str letters),some (.str z),none,some (.int r8),some (.int (sp:Int)),some (.ref lm),some (.ref fl),o8,o9]/\H' fl=some (.lst (List.map V.str ((List.range i).map (nmF z sp r8 r9))))/\H' lm=some (.lst [V.str "",V.str ⟨#[97+r9.toNat]⟩])/\DPV H' p a/\But p H H')
     ⟨none,none,rfl,cE,by rw[cJ nfl];exact e10,v10.upd hpf,b10.at hf0⟩ ?_ ?_
    ·rintro i σ H11 hi ⟨o8,o9,rfl,hf,hlm',v11,b11⟩
     have hi:i<m:=by simpa using hi
     refine⟨_,rfl,_,rfl,_,rfl,_,_,rfl,rfl,.inl ⟨by decide,by decide⟩,.int ⟨_,_,rfl,rfl,(by show (0:Int)<_;decide),?_⟩⟩
     have q0:=bg (r8+7 * (0+(i:Nat):Int)) (show (26:Int)≠0 by decide)
     have q1:=bp (r8+7 * (0+(i:Nat):Int)) (show (0:Int)<26 by decide)
     refine .str lL (qR q0 q1) ?_
     refine⟨_,rfl,.inl ⟨rfl,_,.of hf⟩,?_⟩
     have l1:=qC spz
     have l2:=lZ spz
     have le:∀c:Nat,(⟨#[c]⟩:Str).length=1:=fun _=>rfl
     have hx:atI [V.str "",V.str ⟨#[97+r9.toNat]⟩] ((0+(i:Int)) % 2)=some (.str (if i % 2=0 then ("":Str) else ⟨#[97+r9.toNat]⟩)):=by
      by_cases q:i % 2=0
      ·rw[if_pos q,show (0+(i:Int)) % 2=((0:Nat):Int) by omega];exact eQ rfl
      ·rw[if_neg q,show (0+(i:Int)) % 2=((1:Nat):Int) by omega];exact eQ rfl
     have l3:(if i % 2=0 then ("":Str) else ⟨#[97+r9.toNat]⟩).length<=1:=by
      split
      ·decide +kernel
      ·exact ac _
     refine⟨_,rfl,_,rfl,_,rfl,.str zl ⟨_,rfl,.str (by rw[le,l1];omega) ⟨_,rfl,_,rfl,_,rfl,.str zl (.str (by rw[gA,le,l1];omega) ⟨_,rfl,_,rfl,_,_,rfl,rfl,(by show (0:Int)<_;decide),.lst (.of hlm') hx (.str (by rw[gA,gA,le,l1];omega) (cP ⟨fl,_,_,rfl,rfl,hf,?_,?_⟩))⟩)⟩⟩⟩
     ·rw[ae,ae,List.length_range];exact cU (by omega)
     ·refine⟨_,_,rfl,?_,by rw[cJ nfl];exact hlm',v11.upd hpf,b11.at hf0⟩
      rw[cE,nA,aj];rfl
    ·rintro σ H11 ⟨o8,o9,rfl,hf,_,v11,b11⟩
     exact⟨_,rfl,k fl _ H11 (by rw[ae,List.length_range];omega) (AM (by omega)) (fun s hs=>by
      obtain⟨j,_,rfl⟩:=ao.mp hs
      exact A2 hj hz spz h90 h91) hf hf0 (Ne.symm hpf) v11 b11⟩
   ·intro N hN
    refine⟨_,rfl,p,a,5,rfl,hP.but b5 v5,by decide,by decide,fun r6 H6 _ _ v6 b6=>.sc rfl ⟨_,rfl,cR (fun _=>?_) (fun _=>?_)⟩⟩
    ·refine⟨rfl, _, _, rfl, rfl, by decide, (by decide +kernel), fun lz hlz => ?_⟩
     rw[rc]
     have nlz:lz≠p:=Ne.symm (v6.ne hlz)
     have s7:=Same.new (o:=.lst (List.map V.str iB)) hlz
     have e7:upd H6 lz (.lst (List.map V.str iB)) lz=some (.lst (List.map V.str iB)):=cE
     have b7:=(b5.trans b6).trans (But.of_same (p:=p) s7)
     have v7:=v6.same s7
     generalize upd H6 lz (.lst (List.map V.str iB))=H7 at s7 e7 b7 v7 ⊢
     refine⟨_,rfl,(by show 4<=sizeLine;decide),fun ly hly=>?_⟩
     have s8:=Same.new (o:=.lst [V.str "place",V.str "bar",V.str "step",V.str "unit"]) hly
     have e8:upd H7 ly (.lst [V.str "place",V.str "bar",V.str "step",V.str "unit"]) ly=some (.lst [V.str "place",V.str "bar",V.str "step",V.str "unit"]):=cE
     have b8:=b7.trans (But.of_same (p:=p) s8)
     have v8:=v7.same s8
     have e78:=s8 _ _ e7
     generalize upd H7 ly (.lst [V.str "place",V.str "bar",V.str "step",V.str "unit"])=H8 at s8 e8 b8 v8 e78 ⊢
     refine .lst e78 e8 (by show 14+4<=sizeLine;decide) fun lx hlx=>?_
     have nlx:lx≠p:=Ne.symm (v8.ne hlx)
     have s9:=Same.new (o:=.lst (List.map V.str iB++[V.str "place",V.str "bar",V.str "step",V.str "unit"])) hlx
     have e9:upd H8 lx (.lst (List.map V.str iB++[V.str "place",V.str "bar",V.str "step",V.str "unit"])) lx=some (.lst (List.map V.str wordsT)):=cE
     have b9:=b8.trans (But.of_same (p:=p) s9)
     have v9:=v8.same s9
     generalize upd H8 lx (.lst (List.map V.str iB++[V.str "place",V.str "bar",V.str "step",V.str "unit"]))=H9 at s9 e9 b9 v9 ⊢
     refine⟨_,rfl,p,a,18,rfl,hP.but b9 v9,by decide,by decide,fun r H10 r0 r1 v10 b10=>?_⟩
     have e10:=b10 _ _ nlx e9
     have b10:=b9.trans b10
     refine⟨_,rfl,_,rfl,by omega,by omega,?_⟩
     refine mT (fun D i acc σ' H'=>∃o,σ'=[o,some (.ref lx),some (.int r)]/\acc=List.map V.str ((List.range i).map (wdF r))/\Same H10 H'/\H10 D=none) fun D hD=>⟨?_,?_,?_⟩
     ·exact⟨none,rfl,rfl,Same.new hD,hD⟩
     ·rintro i acc σ' H' hi ⟨o,rfl,rfl,sm,hD0⟩ hacc
      refine jZ ?_
      have q0:=bg (r+(0+(i:Nat):Int)) (show (18:Int)≠0 by decide)
      have q1:=bp (r+(0+(i:Nat):Int)) (show (0:Int)<18 by decide)
      have wl:=j4
      have ax:atI (List.map V.str wordsT) ((r+(0+(i:Nat):Int)) % 18)=some (.str (wdF r i)):=by
       obtain⟨j,hj⟩:=bi q0
       unfold wdF
       rw[hj,bT]
       refine eQ ?_
       rw[aI,bw,aV (by omega)];rfl
      refine⟨_,rfl,_,rfl,_,rfl,.int ⟨_,_,rfl,rfl,(by show (0:Int)<_;decide),.lst (.of (sm _ _ e10)) ax ⟨hacc,?_,_,rfl,?_,dh sm hD0,hD0⟩⟩⟩
      ·rw[ae,ae,List.length_range];exact cU (by simp at hi;omega)
      ·rw[nA,aj];rfl
     ·rintro acc σ' H11 ⟨o,rfl,rfl,s11,hD0⟩ hacc
      have hacc:H11 D=some (.lst (List.map V.str ((List.range m).map (wdF r)))):=by rw[hacc];simp
      have nDp:D≠p:=Ne.symm (v10.ne hD0)
      exact k D _ H11 (by rw[ae,List.length_range]) (Aq (by omega)) (fun s hs=>by
       obtain⟨j,_,rfl⟩:=ao.mp hs
       exact isNm_iff.mp (u6 _ zh)) hacc (b10.free nDp hD0) nDp (v10.same s11) (b10.trans (But.of_same s11))
    ·exact hN _ _ ⟨z,rfl,hj,hz8,v6,b5.trans b6⟩
theorem BM {x:V}{q:Addr}{u v:V}{σ:St}{H:Hp}{A B:St->Hp->Prop}(hx:x=.ref q) (hq:SqL K H q [u,v]) (h:A ((σ.set 0 (some u)).set 1 (some v)) H) :
    AR K 2 (nB (eF 0) (nB (eF 1) xI)) x σ H fun σ2 H3=>ug σ2 H3 fun b H4=>if b=true then A σ2 H4 else B σ2 H4:=by
 subst hx
 refine⟨q,_,rfl,hq,rfl,_,_,rfl,_,_,rfl,rfl,?_⟩
 show (if true=true then A ((σ.set 0 (some u)).set 1 (some v)) H else B ((σ.set 0 (some u)).set 1 (some v)) H)
 rw[if_pos rfl]
 exact h
theorem qc {H:Hp}{D:Addr}{xs ys:List V}{ks:Kn}{acc:List V}(hD:H D=some (.lst xs)) (rp:RepAll H acc (ks.map eM)):RepAll (upd H D (.lst ys)) acc (ks.map eM) :=
 dy (fun h=>gn hD But.upd h) rp
def se (K:W.Frag):Sp:=fun vs H Q _=>∃(p a n:Addr) (us:List Str),vs=[.ref p,.ref n]/\DPen K H p a/\H n=some (.lst (List.map V.str us))/\us.Nodup/\(∀u∈us,Nm u)/\us.length<=60 /\
 ∀q ks H',Rep H' (.ref q) (fo ks)->Tre us ks->ks.head?.map (·.1)=some ("":Str)->DPV H' p a->But p H H'->Q (.ref q) H'
theorem scKnots:FnScope ["_law_pen_here","_law_names_here","_law_knots_here","_law_deep","_law_name","_law_where"] ["_law_pen_here","_law_names_here"] (cI jh):=⟨rfl,rfl,rfl,by decide +kernel,rfl,by decide +kernel,by decide +kernel⟩
theorem xp {f:Addr}{fd:FuncData}(F:Fun K "_law_knots" "_law_knots" jh f fd) (B:Blt mg) (c_law_draw:Cal P w K mg base 1 "_law_draw" ["_law_pen_here", "_law_many"] (m7 K)):FnOk P w K mg base CX0 2 f fd ["_law_pen_here", "_law_names_here"] (se K) := by
 refine F.ok scKnots (fun vs H Q E h=>?_) (fun cdv A outer s H vs Q E hr h=>?_)
 ·obtain⟨p,a,n,us,rfl,_⟩:=h
  rfl
 ·obtain⟨p, a, n, us, rfl, hP, hn, und, unm, ulen, k⟩ := h
  have nd:=scKnots.nd
  have v0:=hP.2
  obtain⟨ys0,hp0⟩:=v0.at_dK
  have hnp:n≠p:=eK hn hp0 (by intro z;cases z)
  refine⟨_,(cF (pst 2 nd (dw (p1 (dw (p2 cM (dw fV))))))
   (cF (pst 3 nd (sJ (kh cM cG sR) rfl rfl (by simp) (by decide)))
   (cF (dM PassesOwn.never rfl (fE K (pv 1)) (cN (i:=4) nd rfl (Or.inl rfl)) (cF (pst 5 nd (px K hr (pv 2) (pc c_law_draw hr (p2 (pv 0) (dO K B (p1 (pv 2)))))))
   (cF (dR (i4 K (px K hr (pv 5) cG) (p2 (pc c_law_draw hr (p2 (pv 0) (cZ dz (dO K B (p1 (px K hr (pv 5) cG))) cG))) (pv 4))))
   (cH (cX (PW.pt (fu (cK (di hr.units) (pc c_law_draw hr (p2 (pv 0) cG)) cG (cQ _)) (eV (cK kA (px K hr (pv 3) (px K hr (pv 5) cG)) cG (cQ _))))) (cF (dR (fY K (pv 2) (p1 (dw (p2 (pv 4) (dw fV))))))
   (cH (gM (cZ dz (px K hr (pv 3) (px K hr (pv 5) cG)) cG) (hW (pv 3) (pv 4) (iQ hr.units))))) cS)))))
   (cH (cL (fG K B (p1 (dS (cI jh) ["_law_pen_here","_law_names_here","_law_knots_here","_law_deep","_law_name","_law_where"] ["_law_name","_law_inside"] [] ["_law_name","_law_inside"] rfl (fE K (pv 2)) (fun _ _ _ _ _=>(zw (n:=2) K rfl (cY (cN (i:=0) (show (["_law_name","_law_inside"]:List Str).Nodup by decide) rfl (Or.inl rfl)) (cY (cN (i:=1) (show (["_law_name","_law_inside"]:List Str).Nodup by decide) rfl (Or.inl rfl)) eP)))) (fun _ _ _ _ _=>fw) (fun _ _ _ _ _=>(cV (p2 (pv 0) (fG K B (p1 (pv 1)))))))))))))),?_⟩
  have nn:∀u∈us,u≠"":=fun u hu z=>by have:=(unm u hu).1;rw[z] at this;exact absurd this (by decide)
  refine⟨(by show 0<=sizeLine;decide),fun l0 h0=>?_⟩
  have b0:But p H (upd H l0 (.lst [])):=(But.refl p H).at h0
  have e0:upd H l0 (.lst []) l0=some (.lst []):=cE
  have v1:DPV (upd H l0 (.lst [])) p a:=v0.upd (v0.ne h0)
  generalize upd H l0 (.lst [])=H1 at b0 e0 v1 ⊢
  refine cP ⟨(by show 2<=sizeLine;decide),fun t0 ht0=>?_⟩
  have s2:=Same.new (o:=.lst [V.str "",V.ref l0]) ht0
  have et:upd H1 t0 (.lst [V.str "",V.ref l0]) t0=some (.lst [V.str "",V.ref l0]):=cE
  have e0:=s2 _ _ e0
  have v2:=v1.same s2
  have b2:=b0.trans (But.of_same (p:=p) s2)
  generalize upd H1 t0 (.lst [V.str "",V.ref l0])=H2 at et e0 v2 b2 ⊢
  refine cP ⟨(by show 1<=sizeLine;decide),fun L hL=>?_⟩
  have s3:=Same.new (o:=.lst [V.ref t0]) hL
  have eL:upd H2 L (.lst [V.ref t0]) L=some (.lst [V.ref t0]):=cE
  have nL0:l0≠L:=cO e0 hL
  have nLp:L≠p:=Ne.symm (v2.ne hL)
  have e0:=s3 _ _ e0
  have et:=s3 _ _ et
  have v3:=v2.same s3
  have b3:=b2.trans (But.of_same (p:=p) s3)
  generalize upd H2 L (.lst [V.ref t0])=H3 at eL et e0 v3 b3 ⊢
  have kls:KLL H3 L [(t0,l0,("",[]))]:=⟨eL,fun q hq=>by rw[aO.mp hq];exact et,fun q hq=>by rw[aO.mp hq];exact e0,by simp,fun q hq=>by rw[aO.mp hq];exact nL0⟩
  intro D hD
  refine⟨cE,[(.inr "",.int 0)],rfl,(by decide),?_⟩
  rw[nQ]
  have s4:=Same.new (o:=.dK (ia [] [((.inr "":Key),V.int 0)])) hD
  have eD:upd H3 D (.dK (ia [] [((.inr "":Key),V.int 0)])) D=some (.dK [((.inr "":Key),V.int 0)]):=cE
  have kls:=kls.same s4
  have v4:=v3.same s4
  have b4:=b3.trans (But.of_same (p:=p) s4)
  have nDp:D≠p:=Ne.symm (v3.ne hD)
  have hf:H D=none:=b3.free nDp hD
  generalize upd H3 D (.dK (ia [] [((.inr "":Key),V.int 0)]))=H4 at eD kls v4 b4 ⊢
  have frL:H L=none:=b2.free nLp hL
  refine⟨_,rfl,n,rfl,⟨_,.of (b4 n _ hnp hn)⟩,?_⟩
  refine i7 (xs:=List.map V.str us) (fun i σ H'=>∃(o5 o6:Option V) (kl:KL) (lv:List (Key × V)),σ=[some (.ref p),some (.ref n),some (.ref L),some (.ref D),o5,o6]/\KLL H' L kl/\TrN us i (fA kl)/\H' D=some (.dK lv)/\lv.length<=i+1/\kl.length<=i+1/\(∀k∈fA kl,∃m:Int,dg lv (.inr k.1)=some (.int m))/\(∀q∈kl,H q.2.1=none)/\(fA kl).head?.map (·.1)=some ("":Str)/\DPV H' p a/\But p H H') ?_ ?_ ?_ ?_
  ·refine⟨none,none,_,_,rfl,kls,TrN.start,eD,ac _,ac _,fun k hk=>?_,fun q hq=>?_,rfl,v4,b4⟩
   ·rw[aO.mp hk]
    exact⟨0,rfl⟩
   ·rw[aO.mp hq];exact h0
  ·rintro i σ H' hi ⟨o5,o6,kl,lv,rfl,_,_,_,_,_,_,_,_,_,b⟩
   exact .of (b n _ hnp hn)
  ·rintro i x σ H5 hx ⟨o5, o6, kl, lv, rfl, kls, tr, hD5, hlv, hkl, lev, frs, hd5, v5, b5⟩
   obtain⟨u,hu,rfl⟩:=dH hx
   have hil:=(ah.mp hu).1
   have hum:=au hu
   obtain⟨ys5,hp5⟩:=v5.at_dK
   have mlk:(kl.map fun q=>V.ref q.1).length=kl.length:=ae ..
   have kpos:0<kl.length:=by
    have:=List.length_pos_of_mem tr.top
    rw[ae,ae] at this
    exact this
   refine⟨_,rfl,_,rfl,_,rfl,_,_,rfl,Or.inl ⟨_,.of kls.l,rfl⟩,p,a,_,rfl,hP.but b5 v5,by rw[mlk];omega,by rw[mlk];omega,fun r H6 h60 h61 v6 b56=>?_⟩
   have kls:=kls.draw hp5 b56
   have hD6:H6 D=some (.dK lv):=b56 D _ nDp hD5
   have b6:=b5.trans b56
   obtain⟨j,rfl⟩:=bi h60
   rw[mlk] at h61
   obtain⟨⟨ta,la,nm,ch⟩,hj⟩:∃q,kl[j]? = some q:=⟨_,aV (by omega)⟩
   have hjm:=au hj
   have hjk:(fA kl)[j]? = some (nm,ch):=by rw[aI,hj];rfl
   have hta:=kls.t _ hjm
   have hla:=kls.c _ hjm
   have nla:=kls.nl _ hjm
   refine .lst (.of kls.l) (eQ (by rw[aI,hj];rfl)) ?_
   have chl:ch.length<=i:=by
    have h1:=tr.perm.length_eq
    rw[aL] at h1
    have h3:ch.length<=(dJ (fA kl)).length:=by
     have:=(cB (L:=(fA kl).map (·.2)) (ao.mpr ⟨(nm,ch),au hjk,rfl⟩)).length_le
     rw[<- List.flatMap_def] at this
     exact this
    omega
   have mlc:(List.map V.str ch).length=ch.length:=ae ..
   obtain⟨ys6,hp6⟩:=v6.at_dK
   have a1:atI [V.str nm,V.ref la] 1=some (.ref la):=eQ (j:=1) rfl
   have a0:atI [V.str nm,V.ref la] 0=some (.str nm):=eQ (j:=0) rfl
   refine⟨_,rfl,.lst (.of hta) a1 ⟨.inl ⟨rfl,_,.of hla⟩,_,rfl,_,rfl,.lst (.of hta) a1 ⟨_,_,rfl,Or.inl ⟨_,.of hla,rfl⟩,.int ⟨p,a,_,rfl,hP.but b6 v6,by rw[mlc];omega,by rw[mlc];omega,fun r2 H7 h70 h71 v7 b67=>?_⟩⟩⟩⟩
   have kls:=kls.draw hp6 b67
   have hD7:H7 D=some (.dK lv):=b67 D _ nDp hD6
   have b7:=b6.trans b67
   have hla:=kls.c _ hjm
   obtain⟨m,rfl⟩:=bi h70
   rw[mlc] at h71
   refine⟨_,rfl,la,_,_,m,_,rfl,rfl,rfl,hla,by rw[mlc];omega,by rw[mlc];exact cU (by omega),?_⟩
   have e8:(List.map V.str ch).take m++V.str u::(List.map V.str ch).drop m=List.map V.str (ch.take m++u::ch.drop m):=by simp[List.map_take,List.map_drop]
   rw[e8]
   have pc:=oO ch m u
   have tr2:=tr.step und hu hjk pc
   have kls:=kls.put (ch':=ch.take m++u::ch.drop m) hj
   have eks:fA (kl.set j (ta,la,(nm,ch.take m++u::ch.drop m)))=(fA kl).set j (nm,ch.take m++u::ch.drop m):=List.map_set ..
   have hta8:=kls.t _ (au (show (kl.set j (ta,la,(nm,ch.take m++u::ch.drop m)))[j]? = some (ta,la,(nm,ch.take m++u::ch.drop m)) by rw[cw (by omega)]))
   rw[<- eks] at tr2
   have hD8:upd H7 la (.lst (List.map V.str (ch.take m++u::ch.drop m))) D=some (.dK lv):=by rw[cJ (eK hD7 hla (by intro z;cases z))];exact hD7
   have npl:p≠la:=by obtain⟨ys7,hp7⟩:=v7.at_dK;exact eK hp7 hla (by intro z;cases z)
   have v8:=v7.upd (o:=.lst (List.map V.str (ch.take m++u::ch.drop m))) npl
   have b8:=b7.at (o:=.lst (List.map V.str (ch.take m++u::ch.drop m))) (frs _ hjm)
   generalize upd H7 la (.lst (List.map V.str (ch.take m++u::ch.drop m)))=H8 at kls hD8 v8 b8 hta8 ⊢
   have e1:((kl.set j (ta,la,(nm,ch.take m++u::ch.drop m))).map fun q=>q.2.1)=kl.map fun q=>q.2.1:=jb hj rfl
   have en:((fA (kl.set j (ta,la,(nm,ch.take m++u::ch.drop m)))).map fun k=>k.1)=(fA kl).map fun k=>k.1:=by rw[eks];exact jb hjk rfl
   have hd8:(fA (kl.set j (ta,la,(nm,ch.take m++u::ch.drop m)))).head?.map (·.1)=some ("":Str):=by
    rw[<- List.head?_map,en,List.head?_map];exact hd5
   have frs2:∀q∈kl.set j (ta,la,(nm,ch.take m++u::ch.drop m)),H q.2.1=none:=fun q hq=>by
    have:q.2.1∈kl.map fun q=>q.2.1:=by rw[<- e1];exact ao.mpr ⟨q,hq,rfl⟩
    obtain⟨q',hq',e⟩:=ao.mp this
    rw[<- e];exact frs q' hq'
   have lev2:∀k∈fA (kl.set j (ta,la,(nm,ch.take m++u::ch.drop m))),∃m:Int,dg lv (.inr k.1)=some (.int m):=fun k hk=>by
    have:k.1∈(fA kl).map fun k=>k.1:=by rw[<- en];exact ao.mpr ⟨k,hk,rfl⟩
    obtain⟨k',hk',e⟩:=ao.mp this
    rw[<- e];exact lev k' hk'
   have hnew:u∉(fA (kl.set j (ta,la,(nm,ch.take m++u::ch.drop m)))).map (·.1):=fun z=>by
    rw[en] at z
    obtain⟨k',hk',e⟩:=ao.mp z
    rcases tr.sub k' hk' with q | q
    ·exact nn u hum (e.symm.trans q)
    ·rw[e] at q
     obtain⟨m',hm'⟩:=bR q
     have hml:=(ah.mp hm').1
     rw[aL] at hml
     rw[List.getElem?_take_of_lt (by omega)] at hm'
     have:=(List.getElem?_inj (by omega) und).mp (hm'.trans hu.symm)
     omega
   have klen2:(kl.set j (ta,la,(nm,ch.take m++u::ch.drop m))).length<=i+1:=by rw[List.length_set];exact hkl
   obtain⟨lm,hlm⟩:=lev (nm,ch) (au hjk)
   have a1':atI [V.str nm,V.ref la] 0=some (.str nm):=a0
   clear e8 eks en e1 lev frs hjk hj hjm tr hta hla nla
   generalize kl.set j (ta,la,(nm,ch.take m++u::ch.drop m))=kl2 at kls tr2 frs2 lev2 hnew klen2 hd8
   obtain⟨ys8,hp8⟩:=v8.at_dK
   refine⟨_,rfl,p,a,4,rfl,hP.but b8 v8,by decide,by decide,fun r3 H9 h90 h91 v9 b89=>.sc rfl ⟨_,rfl,?_⟩⟩
   have kls:=kls.draw hp8 b89
   have hD9:H9 D=some (.dK lv):=b89 D _ nDp hD8
   have hta9:H9 ta=some (.lst [.str nm,.ref la]):=b89 _ _ (eK hta8 hp8 (by intro z;cases z)) hta8
   have b9:=b8.trans b89
   have fin:∃(o5 o6:Option V) (kl:KL) (lv:List (Key × V)),[some (V.ref p),some (.ref n),some (.ref L),some (.ref D),some (.str u),some (.ref ta)]=[some (V.ref p),some (.ref n),some (.ref L),some (.ref D),o5,o6]/\KLL H9 L kl/\TrN us (i+1) (fA kl)/\H9 D=some (.dK lv)/\lv.length<=i+1+1/\kl.length<=i+1+1/\(∀k∈fA kl,∃m:Int,dg lv (.inr k.1)=some (.int m))/\(∀q∈kl,H q.2.1=none)/\(fA kl).head?.map (·.1)=some ("":Str)/\DPV H9 p a/\But p H H9 :=
    ⟨_,_,kl2,lv,rfl,kls,tr2,hD9,by omega,by omega,lev2,frs2,hd8,v9,b9⟩
   refine cR (fun _=>?_) (fun _=>fB fin)
   refine⟨_,rfl,_,rfl,.lst (.of hta9) a0 (.dic (.inl ⟨lv,.inr nm,.inl hD9,rfl,hlm.symm⟩) (.int ⟨_,rfl,cR (fun _=>?_) (fun _=>fin)⟩))⟩
   clear fin
   have ml2:(kl2.map fun q=>V.ref q.1).length=kl2.length:=ae ..
   refine⟨_,rfl,.inl ⟨rfl,_,.of kls.l⟩,?_⟩
   refine⟨_,rfl,(by show 0<=sizeLine;decide),fun ln hln=>cP ⟨(by show 2<=sizeLine;decide),fun tn htn=>?_⟩⟩
   have s1:=Same.new (o:=.lst []) hln
   have el:upd H9 ln (.lst []) ln=some (.lst []):=cE
   have nlp:ln≠p:=Ne.symm (v9.ne hln)
   have nlL:ln≠L:=Ne.symm (cO kls.l hln)
   have nlk:ln∉kl2.map fun q=>q.2.1:=fun z=>by
    obtain⟨q,hq,e⟩:=ao.mp z
    have:=kls.c q hq
    rw[e,hln] at this;cases this
   have frl:H ln=none:=b9.free nlp hln
   have kls:=kls.same s1
   have hDC:=s1 _ _ hD9
   have htC:=s1 _ _ hta9
   have vC:=v9.same s1
   have bC:=b9.trans (But.of_same (p:=p) s1)
   generalize upd H9 ln (.lst [])=HC at el kls hDC vC bC htn htC ⊢
   have s2:=Same.new (o:=.lst [V.str u,V.ref ln]) htn
   have etn:upd HC tn (.lst [V.str u,V.ref ln]) tn=some (.lst [V.str u,V.ref ln]):=cE
   have el:=s2 _ _ el
   have kls:=kls.same s2
   have hDD:=s2 _ _ hDC
   have htD:=s2 _ _ htC
   have vD:=vC.same s2
   have bD:=bC.trans (But.of_same (p:=p) s2)
   generalize upd HC tn (.lst [V.str u,V.ref ln])=HD at el kls hDD vD bD etn htD ⊢
   refine cP ⟨L,_,_,rfl,rfl,kls.l,by rw[ml2];exact cU (by omega),?_⟩
   have hDE:upd HD L (.lst ((kl2.map fun q=>V.ref q.1)++[V.ref tn])) D=some (.dK lv):=by rw[cJ (eK hDD kls.l (by intro z;cases z))];exact hDD
   have htE:upd HD L (.lst ((kl2.map fun q=>V.ref q.1)++[V.ref tn])) ta=some (.lst [.str nm,.ref la]):=by rw[cJ (eK htD kls.l uh)];exact htD
   have vE:=vD.upd (o:=.lst ((kl2.map fun q=>V.ref q.1)++[V.ref tn])) (Ne.symm nLp)
   have bE:=bD.at (o:=.lst ((kl2.map fun q=>V.ref q.1)++[V.ref tn])) frL
   have klsE:=kls.add etn el nlk nlL
   generalize upd HD L (.lst ((kl2.map fun q=>V.ref q.1)++[V.ref tn]))=HE at hDE vE bE klsE htE ⊢
   refine⟨_,rfl,_,rfl,.lst (.of htE) a0 (.dic (.inl ⟨lv,.inr nm,.inl hDE,rfl,hlm.symm⟩) (.int ⟨_,rfl,_,rfl,.dic (DPut.k (k:=.inr u) hDE (cU (by omega))) ?_⟩))⟩
   have levA:∀k:Str,(k=u∨∃m:Int,dg lv (.inr k)=some (.int m))->∃m:Int,dg (dE lv (.inr u) (.int (lm+1))) (.inr k)=some (.int m):=fun k hk=>by
    rw[gt]
    by_cases q:k=u
    ·rw[if_pos (by rw[q])];exact⟨_,rfl⟩
    ·rw[if_neg (fun z=>q (by injection z))]
     exact hk.resolve_left q
   have lvA:=dW lv (.inr u) (V.int (lm+1))
   have eks2:fA (kl2++[(tn,ln,(u,[]))])=fA kl2++[(u,[])]:=aj
   refine⟨_,_,kl2++[(tn,ln,(u,[]))],_,rfl,klsE.dic hDE,?_,cE,by omega,by rw[aJ];show kl2.length+1<=_;omega,fun k hk=>?_,fun q hq=>?_,?_,vE.upd (Ne.symm nDp),bE.at hf⟩
   ·rw[eks2];exact tr2.addKnot und nn hu hnew
   ·rw[eks2] at hk
    refine levA k.1 ?_
    rcases aH.mp hk with hk | hk
    ·exact .inr (lev2 k hk)
    ·rw[aO.mp hk];exact .inl rfl
   ·rcases aH.mp hq with hq | hq
    ·exact frs2 q hq
    ·rw[aO.mp hq];exact frl
   ·rw[eks2]
    cases q:fA kl2 with
    | nil=>rw[q] at hd8;cases hd8
    | cons x r=>rw[q] at hd8;exact hd8
  ·rintro σ H5 ⟨o5, o6, kl, lv, rfl, kls, tr, hD5, hlv, hkl, lev, frs, hd5, v5, b5⟩
   rw[ae] at tr hkl
   have T:=tr.fin und unm ulen
   refine⟨_,rfl,L,rfl,⟨_,.of kls.l⟩,?_⟩
   refine gs (kl.map fun q=>V.ref q.1) (fun DD i acc σ' H'=>∃o1 o2,σ'=[o1,o2]/\RepAll H' acc (((fA kl).take i).map eM)/\Same H5 H'/\H5 DD=none) fun DD hDD=>⟨?_,?_,?_,?_⟩
   ·exact⟨none,none,rfl,.nil,Same.new hDD,hDD⟩
   ·rintro i acc σ' H' _ ⟨o1,o2,rfl,_,sm,_⟩ _
    exact .of (sm _ _ kls.l)
   ·rintro i acc σ' H' x hx ⟨o1,o2,rfl,rp,sm,hDD0⟩ hacc
    obtain⟨⟨ta,la,nm,ch⟩,hq,rfl⟩:∃q:Addr × Addr × (Str × List Str),kl[i]? = some q/\V.ref q.1=x:=by
     rw[aI] at hx
     cases q:kl[i]? with
     | none=>rw[q] at hx;cases hx
     | some e=>rw[q] at hx;exact⟨e,rfl,am hx⟩
    have hil:=(ah.mp hq).1
    have hqm:=au hq
    have ht:=sm _ _ (kls.t _ hqm)
    have hc:=sm _ _ (kls.c _ hqm)
    have al:=rp.len
    rw[ae,aL,ae] at al
    refine BM rfl (.of ht) ?_
    refine⟨_,rfl,_,rfl,la,_,rfl,.of hc,fun lt hlt=>cP ⟨(by show 2<=sizeLine;decide),fun tt htt=>?_⟩⟩
    have s1:=Same.new (o:=.tup (List.map V.str ch)) hlt
    have e1:upd H' lt (.tup (List.map V.str ch)) lt=some (.tup (List.map V.str ch)):=cE
    generalize upd H' lt (.tup (List.map V.str ch))=H6 at s1 e1 htt ⊢
    have s2:=Same.new (o:=.tup [V.str nm,V.ref lt]) htt
    have e2:upd H6 tt (.tup [V.str nm,V.ref lt]) tt=some (.tup [V.str nm,V.ref lt]):=cE
    have e1:=s2 _ _ e1
    have s12:=s1.trans s2
    generalize upd H6 tt (.tup [V.str nm,V.ref lt])=H7 at s2 e2 e1 s12 ⊢
    have hacc7:=s12 _ _ hacc
    have nDD:∀ {b:Addr} {o:HO},H7 b=some o->(∀xs,o≠.lst xs)->b≠DD:=fun h n=>eK h hacc7 (n _)
    refine⟨hacc7,cU (by omega),_,_,rfl,?_,dh (sm.trans s12) hDD0,hDD0⟩
    have hk:(fA kl)[i]? = some (nm,ch):=by rw[aI,hq];rfl
    rw[av,hk,aj]
    refine RepAll.append ?_ (.cons (.tup (by rw[cJ (nDD e2 (fun _ z=>by cases z))];exact e2) (.cons (.str _) (.cons (.tup (by rw[cJ (nDD e1 (fun _ z=>by cases z))];exact e1) (RepAll.of_strs _)) .nil))) .nil)
    exact qc hacc7 (rp.same s12)
   ·rintro acc σ' H6 ⟨o1,o2,rfl,rp,s6,hDD0⟩ hacc
    rw[ae,ap (by rw[ae];exact ac _)] at rp
    refine cP ⟨DD,acc,rfl,.of hacc,fun q hq=>?_⟩
    have s7:=Same.new (o:=.tup acc) hq
    exact k q (fA kl) _ (.tup cE (rp.same s7)) T hd5 (v5.same (s6.trans s7)) (b5.trans (But.of_same (s6.trans s7)))
def vp (g:Kn->Str->List Str):Sp:=fun vs H Q _=>∃(kt:Addr) (us:List Str) (ks:Kn) (u:Str),vs=[.ref kt,.str u]/\Rep H (.ref kt) (fo ks)/\Tre us ks/\u∈us/\∀l H',Same H H'->H l=none->H' l=some (.lst (List.map V.str (g ks u)))->Q (.ref l) H'
theorem scLine:FnScope ["_law_knots_here","_law_unit","_law_line_here"] ["_law_knots_here","_law_unit"] (cI jT):=⟨rfl,rfl,rfl,by decide +kernel,rfl,by decide +kernel,by decide +kernel⟩
theorem xh {ks:Kn}{us:List Str}{x:Str}(T:Tre us ks) (hx:x∈us):∃r,(ks.filter fun k=>decide (x∈k.2)).map (fun k=>V.str k.1)=V.str (dN ks x)::r:=by
 obtain⟨k,hk,hu⟩:=T.has hx
 have hm:k∈ks.filter fun k=>decide (x∈k.2):=aT.mpr ⟨hk,ak hu⟩
 cases q:ks.filter fun k=>decide (x∈k.2) with
 | nil=>rw[q] at hm;cases hm
 | cons k' r =>
  have h':k'∈ks.filter fun k=>decide (x∈k.2):=by rw[q];simp
  obtain⟨h1,h2⟩:=aT.mp h'
  refine⟨r.map fun k=>V.str k.1,?_⟩
  rw[T.par h1 (aM h2)];rfl
theorem yG {f:Addr}{fd:FuncData}(F:Fun K "_law_line" "_law_line" jT f fd) (B:Blt mg):FnOk P w K mg base CX0 1 f fd ["_law_knots_here", "_law_unit"] (vp fun ks u => tp (lin ks u)) := by
 refine F.ok scLine (fun vs H Q E h=>?_) (fun cdv A outer s H vs Q E hr h=>?_)
 ·obtain⟨kt,us,ks,u,rfl,_⟩:=h
  rfl
 ·obtain⟨kt, us, ks, u, rfl, rk, T, hu, k⟩ := h
  have nd:=scLine.nd
  obtain⟨_,refs,e,hkt,krp⟩:=fQ rk
  cases e
  have kl:=krp.len
  rw[ae] at kl
  have few:=T.few
  refine⟨_,(cF (gr (i:=2) nd rfl (Or.inr rfl) (dw (p1 (pv 1))))
   (cF (jX PassesOwn.never (cK (fP hr.units) (px K hr (pv 2) cG) cM (cQ _)) (cH (dR (i4 K (pv 2) (p2 cG (px K hr (dS (cI jT) ["_law_knots_here","_law_unit","_law_line_here"] ["_law_name","_law_inside"] [2] ["_law_name","_law_inside","_law_line_here"] rfl (dP K (pv 0)) (fun _ _ _ _ _=>(eW (n:=2) K rfl (cY (cN (i:=0) (show (["_law_name","_law_inside","_law_line_here"]:List Str).Nodup by decide) rfl (Or.inl rfl)) (cY (cN (i:=1) (show (["_law_name","_law_inside","_law_line_here"]:List Str).Nodup by decide) rfl (Or.inl rfl)) eP)))) (fun _ _ _ _ _=>(fH (cK (ft K hr.units) (px K hr (pv 2) cG) (pv 1) (by with_unfolding_all rfl)))) (fun _ _ _ _ _=>(pv 0))) cG))))))
   (cH (cL (pv 2))))),?_⟩
  refine⟨_,rfl,(by show 1<=sizeLine;decide),fun ll hll=>?_⟩
  have s0:=Same.new (o:=.lst [V.str u]) hll
  refine⟨fun m σ H'=>∃(x:Str) (r:List Str),m=rkU us x/\σ=[some (.ref kt),some (.str u),some (.ref ll)]/\H' ll=some (.lst (List.map V.str (x::r)))/\(x=""∨x∈us)/\tp (lin ks u)=tp (lin ks x)++r/\Same H H',
   ⟨_,u,[],rfl,rfl,cE,.inr hu,(aS _).symm,s0⟩,?_⟩
  rintro m σ H1 ⟨x,r,rfl,rfl,hl1,hx,hlin,s1⟩
  have pl:=T.lin_len u (.inr hu)
  have p60:=T.rk60 hu
  have hlen:=congrArg List.length hlin
  rw[aJ,aF,aF] at hlen
  refine⟨_,rfl,.lst (.of hl1) at0 (.sc rfl ⟨_,rfl,?_⟩)⟩
  refine cR (fun h=>?_) (fun h=>?_)
  ·have hne:x ≠ "" := fun z => by rw[z] at h; exact absurd h (by decide)
   have hx:=hx.resolve_left hne
   have hrk:=T.rk hx
   refine⟨fun σ' H'=>∃(y:Str) (r:List Str),rkU us y<rkU us x/\σ'=[some (.ref kt),some (.str u),some (.ref ll)]/\H' ll=some (.lst (List.map V.str (y::r)))/\(y=""∨y∈us)/\tp (lin ks u)=tp (lin ks y)++r/\Same H H',
    fun σ' H' ⟨y,r,h1,h2⟩=>⟨_,h1,y,r,rfl,h2⟩,?_⟩
   have hkt1:=s1 _ _ hkt
   refine⟨_,rfl,.inl ⟨rfl,_,.of hl1⟩,_,rfl,kt,rfl,⟨_,.of hkt1⟩,?_⟩
   refine fj refs (fun D i acc σ' H'=>∃o1 o2,σ'=[o1,o2,some (.ref ll)]/\acc=((ks.take i).filter fun k=>decide (x∈k.2)).map (fun k=>V.str k.1)/\Same H1 H'/\H1 D=none) fun D hD=>⟨?_,?_,?_,?_⟩
   ·exact⟨none,none,rfl,rfl,Same.new hD,hD⟩
   ·rintro i acc σ' H' _ ⟨o1,o2,rfl,_,sm,_⟩ _
    exact .of (sm _ _ hkt1)
   ·rintro i acc σ' H' v hv ⟨o1,o2,rfl,rfl,sm,hD0⟩ hacc
    obtain⟨kn,ta,la,hki,rfl,hta,hla⟩:=gT (krp.same (s1.trans sm)) hv
    have hil:=(ah.mp hki).1
    have fl:(((ks.take i).filter fun k=>decide (x∈k.2)).map (fun k=>V.str k.1)).length<=61:=by
     rw[ae]
     refine aG (bd ..) ?_
     rw[aL];omega
    refine⟨ta,_,rfl,.of hta,rfl,_,_,rfl,_,_,rfl,rfl,?_⟩
    refine⟨_,rfl,.lst (.of (sm _ _ hl1)) at0 ⟨_,rfl,.seq (.inr (.of hla)) rfl (gu _) ⟨_,rfl,?_⟩⟩⟩
    show if inV (V.str x) (List.map V.str kn.2)=true then _ else _
    rw[iS]
    have tk:(ks.take (i+1)).filter (fun k=>decide (x∈k.2))=(ks.take i).filter (fun k=>decide (x∈k.2))++if decide (x∈kn.2)=true then [kn] else []:=by
     rw[av,hki,br]
     by_cases q:x∈kn.2 <;> simp[q]
    refine cR (fun h=>?_) (fun h=>?_)
    ·rw[if_pos h] at tk
     exact⟨_,rfl,hacc,cU (by omega),_,_,rfl,by rw[tk,aj];rfl,dh sm hD0,hD0⟩
    ·rw[if_neg h,aS] at tk
     exact⟨hacc,_,_,rfl,by rw[tk],sm,hD0⟩
   ·rintro acc σ' H2 ⟨o1,o2,rfl,rfl,s2,hD0⟩ hacc
    rw[kl,ap (ac _)] at hacc
    obtain⟨rr,er⟩:=xh T hx
    rw[er] at hacc
    refine .lst (.of hacc) at0 (cP ⟨ll,_,_,0,_,rfl,rfl,rfl,s2 _ _ hl1,aP _,by rw[ae,aF];exact cU (by omega),?_⟩)
    refine⟨dN ks x,x::r,hrk,rfl,cE,(T.par_in hx).1,?_,dh (s1.trans s2) hll⟩
    rw[hlin,T.lin hx]
    show ("":Str)::(_++_)++_=("":Str)::_++_
    simp
  ·have hz:x="":=Classical.byContradiction fun z=>h (by rw[if_pos rfl,aw (fun q=>z (V.str.inj q))];rfl)
   subst hz
   refine⟨_,rfl,k ll _ s1 hll ?_⟩
   show H1 ll=some (.lst (List.map V.str (tp (lin ks u))))
   rw[hlin];exact hl1
theorem AJ {ss:List Str}{i:Nat}(h:i<ss.length):atI (List.map V.str ss) (i:Int)=some (.str (ss.getD i "")):=eQ (by simp[h,bw])
def lC:Sp:=fun vs H Q _=>∃(kt:Addr) (us:List Str) (ks:Kn) (u v:Str),vs=[.ref kt,.str u,.str v]/\Rep H (.ref kt) (fo ks)/\Tre us ks/\u∈us/\v∈us/\∀x H',Same H H'->PrtV H' x (dF ks u v)->Q x H'
theorem scLPart:FnScope ["_law_knots_here","_law_one","_law_other","_law_ones","_law_others","_law_k"] ["_law_knots_here","_law_one","_law_other"] (cI mh):=⟨rfl,rfl,rfl,by decide +kernel,rfl,by decide +kernel,by decide +kernel⟩
theorem wZ {f:Addr}{fd:FuncData}(F:Fun K "_law_part" "_law_part" mh f fd) (B:Blt mg) (c_law_line:Cal P w K mg base 1 "_law_line" ["_law_knots_here", "_law_unit"] (vp fun ks u => tp (lin ks u))):FnOk P w K mg base CX0 2 f fd ["_law_knots_here", "_law_one", "_law_other"] lC := by
 refine F.ok scLPart (fun vs H Q E h=>?_) (fun cdv A outer s H vs Q E hr h=>?_)
 ·obtain⟨d,us,ks,u,v,rfl,_⟩:=h
  rfl
 ·obtain⟨d, us, ks, u, v, rfl, hd, T, hu, hv, k⟩ := h
  have nd:=scLPart.nd
  refine⟨_,(cF (pst 3 nd (pc c_law_line hr (p2 (pv 0) (pv 1))))
   (cF (pst 4 nd (pc c_law_line hr (p2 (pv 0) (pv 2))))
   (cF (pst 5 nd cG)
   (cF (jX PassesOwn.never (PW.pt (fu (cK kA (pv 5) (yA rfl B (p2 (dO K B (p1 (pv 3))) (dO K B (p1 (pv 4))))) (cQ _)) (eV (cK (di hr.units) (px K hr (pv 3) (pv 5)) (px K hr (pv 4) (pv 5)) (cQ _))))) (cH (pst 5 nd (cZ dz (pv 5) cG))))
   (cF (cX (cK (di hr.units) (pv 5) (yA rfl B (p2 (dO K B (p1 (pv 3))) (dO K B (p1 (pv 4))))) (cQ _)) (cH (cL i0)) cS)
   (cH (cL (cV (cT (px K hr (pv 3) (cZ qk (pv 5) cG)) (p2 (px K hr (pv 3) (pv 5)) (px K hr (pv 4) (pv 5)))))))))))),?_⟩
  refine⟨_,rfl,_,rfl,d,us,ks,u,rfl,hd,T,hu,fun la H1 s1 hla0 hla=>?_⟩
  refine⟨_,rfl,_,rfl,d,us,ks,v,rfl,hd.same s1,T,hv,fun lb H2 s2 hlb0 hlb=>?_⟩
  have hla2:=s2 _ _ hla
  have s12:=s1.trans s2
  have n1:(List.map V.str (tp (lin ks u))).length=(lin ks u).length+1:=by rw[ae,aF]
  have n2:(List.map V.str (tp (lin ks v))).length=(lin ks v).length+1:=by rw[ae,aF]
  refine⟨fun m σ H'=>∃i:Nat,m=(lin ks u).length+2-i/\σ=[some (.ref d),some (.str u),some (.str v),some (.ref la),some (.ref lb),some (.int (i:Int))]/\i<=min ((lin ks u).length+1) ((lin ks v).length+1)/\Gon (lin ks u) (lin ks v) i/\H'=H2,
   ⟨_,0,rfl,rfl,aP _,.inl rfl,rfl⟩,?_⟩
  rintro m σ H3 ⟨i,rfl,rfl,hi,gon,rfl⟩
  have emn:∀a b:Nat,(if ((b:Nat):Int)<((a:Nat):Int) then ((b:Nat):Int) else ((a:Nat):Int))=((min a b:Nat):Int):=fun a b=>by split <;> omega
  refine⟨_,rfl,_,rfl,_,_,rfl,Or.inl ⟨_,.of hla2,rfl⟩,_,rfl,_,_,rfl,Or.inl ⟨_,.of hlb,rfl⟩,_,_,rfl,.int ⟨_,rfl,?_⟩⟩
  rw[n1,n2,emn]
  have mn:∀j,j<min ((lin ks u).length+1) ((lin ks v).length+1)->∃x y,(tp (lin ks u))[j]? = some x/\(tp (lin ks v))[j]? = some y:=fun j hj =>
   ⟨_,_,aV (by rw[aF];omega),aV (by rw[aF];omega)⟩
  refine cR (fun h=>?_) (fun h=>?_)
  ·have h:(i:Int)<((min ((lin ks u).length+1) ((lin ks v).length+1):Nat):Int) := aM h
   have hi:i<min ((lin ks u).length+1) ((lin ks v).length+1):=by omega
   obtain⟨x,y,hx,hy⟩:=mn i hi
   have ax:atI (List.map V.str (tp (lin ks u))) (i:Int)=some (.str x):=eQ (by rw[aI,hx];rfl)
   have ay:atI (List.map V.str (tp (lin ks v))) (i:Int)=some (.str y):=eQ (by rw[aI,hy];rfl)
   refine⟨_,rfl,_,rfl,.lst (.of hla2) ax ⟨_,rfl,_,rfl,.lst (.of hlb) ay (.sc rfl ⟨_,rfl,?_⟩)⟩⟩
   refine cR (fun hc=>?_) (fun hc=>?_)
   ·have he:x=y:=Classical.byContradiction fun z=>by rw[if_neg (by decide),aw (fun q=>z (V.str.inj q))] at hc;cases hc
    subst he
    refine⟨fun σ' H'=>σ'=[some (.ref d),some (.str u),some (.str v),some (.ref la),some (.ref lb),some (.int ((i+1:Nat):Int))]/\H'=H3,fun σ' H' ⟨h1,h2⟩=>⟨(lin ks u).length+2-(i+1),by omega,i+1,rfl,h1,by omega,gon.step hx hy,h2⟩,?_⟩
    exact⟨_,rfl,.int ⟨rfl,rfl⟩⟩
   ·have hne:x ≠ y := fun z => hc (by rw[z, if_neg (by decide), ak rfl])
    obtain⟨h1,hp⟩:=gon.part hx hy hne
    refine⟨_,rfl,_,rfl,_,_,rfl,Or.inl ⟨_,.of hla2,rfl⟩,_,rfl,_,_,rfl,Or.inl ⟨_,.of hlb,rfl⟩,_,_,rfl,.sc rfl ⟨_,rfl,?_⟩⟩
    rw[n1,n2,emn]
    refine cR (fun h=>?_) (fun _=>?_)
    ·exfalso
     have h:V.int (i:Int)=V.int ((min ((lin ks u).length+1) ((lin ks v).length+1):Nat):Int):=aM h
     have:=V.int.inj h
     omega
    ·have aq:atI (List.map V.str (tp (lin ks u))) ((i:Int)-1)=some (.str ((tp (lin ks u)).getD (i-1) "")):=by
        rw[show (i:Int)-1=((i-1:Nat):Int) by omega]
        exact AJ (by rw[aF];omega)
     refine⟨_,rfl,_,rfl,_,_,rfl,rfl,.lst (.of hla2) aq ⟨_,rfl,_,rfl,.lst (.of hla2) ax ⟨_,rfl,_,rfl,.lst (.of hlb) ay ⟨(by show 3<=sizeLine;decide),fun t ht=>?_⟩⟩⟩⟩
     refine k (.ref t) _ (s12.trans (Same.new ht)) ?_
     show PrtV _ _ (prt "" (lin ks u) (lin ks v))
     rw[hp]
     exact⟨t,rfl,cE⟩
  ·have h:¬ (i:Int)<((min ((lin ks u).length+1) ((lin ks v).length+1):Nat):Int):=fun z=>h (ak z)
   have hz:=gon.stop (by omega)
   refine fB ?_
   refine⟨_,rfl,_,rfl,_,_,rfl,Or.inl ⟨_,.of hla2,rfl⟩,_,rfl,_,_,rfl,Or.inl ⟨_,.of hlb,rfl⟩,_,_,rfl,.sc rfl ⟨_,rfl,?_⟩⟩
   rw[n1,n2,emn]
   refine cR (fun _=>?_) (fun h2=>?_)
   ·refine k .non H3 s12 ?_
    show PrtV _ _ (prt "" (lin ks u) (lin ks v))
    rw[hz];rfl
   ·exfalso
    refine h2 ?_
    rw[if_neg (by decide),decide_eq_true_iff]
    congr 1
    omega
theorem scReached:FnScope ["_law_edges_here","_law_one","_law_found","_law_at","_law_first","_law_other"] ["_law_edges_here","_law_one"] (cI mF):=⟨rfl,rfl,rfl,by decide +kernel,rfl,by decide +kernel,by decide +kernel⟩
def qv:Sp:=fun vs H Q _=>∃(wq:Addr) (refs:List V) (ss:List Str) (ts:List (Str × Str)) (one:Str),vs=[.ref wq,.str one]/\H wq=some (.lst refs)/\RepAll H refs (ts.map cW)/\(∀e∈ts,e.1∈ss/\e.2∈ss)/\one∈ss/\ss.length<=60 /\
 ∀l (seen:List Str) H',Same H H'->H l=none->H' l=some (.lst (List.map V.str seen))->(∀t,t∈seen ↔ MG.Rch (Tie ts) one t)->seen.length<=60->Q (.ref l) H'
theorem wk {f:Addr}{fd:FuncData}(F:Fun K "_law_reached" "_law_reached" mF f fd) (B:Blt mg):FnOk P w K mg base CX0 1 f fd ["_law_edges_here", "_law_one"] qv := by
 refine F.ok scReached (fun vs H Q E h=>?_) (fun cdv A outer s H vs Q E hr h=>?_)
 ·obtain⟨wq,refs,ss,ts,one,rfl,_⟩:=h
  rfl
 ·obtain⟨wq, refs, ss, ts, one, rfl, hb, rp, hev, hone, hn, k⟩ := h
  have nd:=scReached.nd
  refine⟨_,(cF (pst 2 nd (dw (p1 (pv 1))))
   (cF (pst 3 nd cG)
   (cF (jX PassesOwn.never (cK kA (pv 3) (dO K B (p1 (pv 2))) (cQ _)) (cF (dM PassesOwn.never rfl (fE K (pv 0)) (eW (n:=2) K rfl (cY (cN (i:=4) nd rfl (Or.inl rfl)) (cY (cN (i:=5) nd rfl (Or.inl rfl)) eP))) (cH (cX (PW.pt (fu (cK (di hr.units) (pv 4) (px K hr (pv 2) (pv 3)) (cQ _)) (eV (cK (g9 K hr.units) (pv 5) (pv 2) (by with_unfolding_all rfl))))) (cH (dR (fY K (pv 2) (p1 (pv 5))))) cS)))
   (cH (pst 3 nd (cZ dz (pv 3) cG)))))
   (cH (cL (pv 2)))))),?_⟩
  have rlen:=rp.len
  rw[ae] at rlen
  refine⟨_,rfl,(by show 1<=sizeLine;decide),fun l0 hl0=>?_⟩
  have inn:∀y,MG.Rch (Tie ts) one y->y∈ss:=fun y r=>MG.Rch.closed (S:=fun y=>y∈ss) hone (fun a b _ r=>(hev _ r).2) r
  refine⟨fun m σ H'=>∃(at_:Nat) (seen:List Str) (o4 o5:Option V),m+at_=ss.length/\σ=[some (.ref wq),some (.str one),some (.ref l0),some (.int ((at_:Nat):Int)),o4,o5]/\Same H H'/\H' l0=some (.lst (List.map V.str seen))/\seen.Nodup/\(∀x∈seen,MG.Rch (Tie ts) one x)/\one∈seen/\at_<=seen.length/\∀i x,i<at_->seen[i]? = some x->∀y,(x,y)∈ts->y∈seen,
   ⟨ss.length,0,[one],none,none,by omega,rfl,Same.new hl0,cE,by simp,(fun x hx=>(show x=one by simpa using hx) ▸ MG.Rch.refl),by simp,by omega,fun i x hi=>by omega⟩,?_⟩
  rintro m σ H1 ⟨at_,seen,o4,o5,hm,rfl,sm,hs,hnd,hrc,hmem,hat,hclo⟩
  have hsn:seen.length<=ss.length:=hnd.length_le_of_subset fun x hx=>inn x (hrc x hx)
  have hln:(List.map V.str seen).length=seen.length:=ae ..
  refine⟨_,rfl,_,rfl,_,_,rfl,Or.inl ⟨_,.of hs,rfl⟩,.int ⟨_,rfl,?_⟩⟩
  refine cR (fun hc=>?_) (fun hc=>?_)
  ·have hc:(at_:Int)<((List.map V.str seen).length:Nat) := aM hc
   have hlt:at_<seen.length:=by omega
   obtain⟨z,hz⟩:∃z,seen[at_]? = some z:=⟨_,aV hlt⟩
   have rz:=hrc z (au hz)
   refine⟨fun σ' H'=>∃(seen:List Str) (o4 o5:Option V),σ'=[some (.ref wq),some (.str one),some (.ref l0),some (.int ((at_+1:Nat):Int)),o4,o5]/\Same H H'/\H' l0=some (.lst (List.map V.str seen))/\seen.Nodup/\(∀x∈seen,MG.Rch (Tie ts) one x)/\one∈seen/\at_+1<=seen.length/\∀i x,i<at_+1->seen[i]? = some x->∀y,(x,y)∈ts->y∈seen,
    fun σ' H' ⟨seen,o4,o5,p⟩=>⟨m-1,by omega,at_+1,seen,o4,o5,by omega,p⟩,?_⟩
   refine⟨_,rfl,wq,rfl,⟨_,.of (sm _ _ hb)⟩,?_⟩
   refine i7 (xs:=refs) (fun j σ H'=>∃(seen:List Str) (o4 o5:Option V),σ=[some (.ref wq),some (.str one),some (.ref l0),some (.int ((at_:Nat):Int)),o4,o5]/\Same H H'/\H' l0=some (.lst (List.map V.str seen))/\seen.Nodup/\(∀x∈seen,MG.Rch (Tie ts) one x)/\one∈seen/\at_<seen.length/\seen[at_]? = some z/\(∀i x,i<at_->seen[i]? = some x->∀y,(x,y)∈ts->y∈seen)/\∀f∈ts.take j,f.1=z->f.2∈seen) ?_ ?_ ?_ ?_
   ·exact⟨seen,o4,o5,rfl,sm,hs,hnd,hrc,hmem,hlt,hz,hclo,fun e he=>by simp at he⟩
   ·rintro j σ H' hj ⟨seen,o4,o5,rfl,sm,_⟩
    exact .of (sm _ _ hb)
   ·rintro j x σ H' hx ⟨seen, o4, o5, rfl, sm, hs, hnd, hrc, hmem, hlt, hz, hclo, hdn⟩
    obtain⟨d,hd,rd⟩:=(rp.same sm).get hx
    rw[aI] at hd
    obtain⟨e,he,rfl⟩:∃e,ts[j]? = some e/\cW e=d:=by
     cases q:ts[j]? with
     | none=>rw[q] at hd;cases hd
     | some e=>rw[q] at hd;exact⟨e,rfl,am hd⟩
    obtain⟨ta,rfl,hta⟩:=lP rd
    have hem:=au he
    have hsn:seen.length<=ss.length:=hnd.length_le_of_subset fun x hx=>inn x (hrc x hx)
    have skip:(e.1=z->e.2∈seen)->∀f∈ts.take (j+1),f.1=z->f.2∈seen:=fun h f hf q=>by
     rw[av,he,aH] at hf
     rcases hf with hf | hf
     ·exact hdn f hf q
     ·have:f=e:=by simpa using hf
      subst this;exact h q
    have zat:atI (List.map V.str seen) (at_:Int)=some (.str z):=eQ (by rw[aI,hz];rfl)
    refine⟨ta,_,rfl,.of hta,rfl,_,_,rfl,_,_,rfl,rfl,?_⟩
    refine⟨_,rfl,_,rfl,_,rfl,.lst (.of hs) zat (.sc rfl ⟨_,rfl,?_⟩)⟩
    refine cR (fun h1=>?_) (fun h1=>?_)
    ·have h1:e.1=z := V.str.inj (aM h1)
     refine⟨_,rfl,_,rfl,.seq (.inl (.of hs)) rfl (gu _) ⟨_,rfl,?_⟩⟩
     rw[iS]
     refine cR (fun h2=>?_) (fun h2=>?_)
     ·have h2:e.2 ∉ seen := by simpa using h2
      refine⟨_,rfl,.inl ⟨rfl,_,.of hs⟩,?_⟩
      refine⟨_,rfl,l0,_,_,rfl,rfl,hs,by rw[ae];exact cU (by omega),?_⟩
      refine⟨seen++[e.2],_,_,rfl,?_,?_,?_,?_,?_,?_,?_,?_,?_⟩
      ·intro c o hc
       rw[cJ (cO hc hl0)]
       exact sm _ _ hc
      ·rw[cE];simp
      ·rw[bX]
       refine⟨hnd,by simp,fun a ha b hb=>?_⟩
       have:b=e.2:=by simpa using hb
       subst this
       rintro rfl
       exact h2 ha
      ·intro x hx
       rcases aH.mp hx with hx | hx
       ·exact hrc x hx
       ·have:x=e.2:=by simpa using hx
        subst this
        exact MG.Rch.step rz (by rw[<- h1];exact hem)
      ·exact bH _ hmem
      ·simp;omega
      ·rw[cz hlt];exact hz
      ·intro i x hi hx y hy
       rw[cz (by omega)] at hx
       exact bH _ (hclo i x hi hx y hy)
      ·intro f hf q
       rw[av,he,aH] at hf
       rcases hf with hf | hf
       ·exact bH _ (hdn f hf q)
       ·have:f=e:=by simpa using hf
        subst this;simp
     ·have h2:e.2∈seen:=by simpa using h2
      exact⟨seen,_,_,rfl,sm,hs,hnd,hrc,hmem,hlt,hz,hclo,skip fun _=>h2⟩
    ·have h1:e.1≠z:=fun q=>h1 (ak (by rw[q]))
     exact fB ⟨seen,_,_,rfl,sm,hs,hnd,hrc,hmem,hlt,hz,hclo,skip fun q=>absurd q h1⟩
   ·rintro σ H' ⟨seen,o4,o5,rfl,sm,hs,hnd,hrc,hmem,hlt,hz,hclo,hdn⟩
    rw[rlen,ap (ac _)] at hdn
    refine⟨_,rfl,.int ⟨seen,o4,o5,rfl,sm,hs,hnd,hrc,hmem,hlt,fun i x hi hx y hy=>?_⟩⟩
    by_cases q:i<at_
    ·exact hclo i x q hx y hy
    ·have:i=at_:=by omega
     subst this
     rw[hz] at hx
     cases hx
     exact hdn _ hy rfl
  ·have hc:¬ (at_:Int)<((List.map V.str seen).length:Nat):=fun q=>hc (ak q)
   refine⟨_,rfl,k l0 seen H1 sm hl0 hs (fun t=>⟨hrc t,fun r=>?_⟩) (by omega)⟩
   refine MG.Rch.closed (S:=fun y=>y∈seen) hmem (fun a b ha r=>?_) r
   obtain⟨j,hj,ej⟩:=List.mem_iff_getElem.mp ha
   exact hclo j a (by omega) (by rw[aV hj,ej]) b r
abbrev Prs:=List (Str × Str)
def gV (us:List Str) (ps:List (Str × Str)):Prop:=∀e∈ps,e.1∈us/\e.2∈us
def TsI (us:List Str) (ks:Kn) (ts:List (Str × Str)):Prop:=∀e∈ts,e.1∈us/\e.2∈us/\(dF ks e.1 e.2).isSome=true
structure FnM (H H':Hp) (lf:Addr) (us:List Str) (fr:List V) (ps:List (Str × Str)) (n:Nat) (M:Str × Str->Prop):Prop where
 m:∀x,x∈ps ↔ M x
 f:H' lf=some (.lst fr)
 r:RepAll H' fr (ps.map cW)
 i:gV us ps
 l:ps.length<=n
 s:Same H H'
theorem FnM.more {H H' H2:Hp}{lf:Addr}{us:List Str}{fr:List V}{ps:List (Str × Str)}{n m:Nat}{M:Str × Str->Prop}(h:FnM H H' lf us fr ps n M) (s:Same H' H2) (hm:n<=m):FnM H H2 lf us fr ps m M:=⟨h.m,s _ _ h.f,h.r.same s,h.i,aG h.l hm,h.s.trans s⟩
theorem FnM.app {H H':Hp}{lf t:Addr}{us:List Str}{fr:List V}{ps:List (Str × Str)}{n:Nat}{x y:Str}{M:Str × Str->Prop}(h:FnM H H' lf us fr ps n M) (ht:H' t=some (.tup [.str x,.str y])) (hx:x∈us) (hy:y∈us) (hl:H lf=none):FnM H (upd H' lf (.lst (fr++[.ref t]))) lf us (fr++[.ref t]) (ps++[(x,y)]) (n+1) (fun z=>M z∨z=(x,y)):=by
 refine⟨fun z=>by rw[aH,aO,h.m z],cE,?_,fun e he=>?_,by rw[aJ];have:=h.l;show _+1<=_;omega,dh h.s hl⟩
 ·rw[aj]
  exact RepAll.append (dy (dB h.f But.upd) h.r) (.cons (dB h.f But.upd (dG ht)) .nil)
 ·rcases aH.mp he with q | q
  ·exact h.i e q
  ·rw[aO.mp q];exact⟨hx,hy⟩
theorem FnM.len {H H':Hp}{lf:Addr}{us:List Str}{fr:List V}{ps:List (Str × Str)}{n:Nat}{M:Str × Str->Prop}(h:FnM H H' lf us fr ps n M):fr.length<=n:=by
 have:=h.r.len
 rw[ae] at this
 have:=h.l
 omega
theorem FnM.to {H H':Hp}{lf:Addr}{us:List Str}{fr:List V}{ps:List (Str × Str)}{n m:Nat}{M M':Str × Str->Prop}(h:FnM H H' lf us fr ps n M) (hm:n<=m) (q:∀x,M x ↔ M' x):FnM H H' lf us fr ps m M':=⟨fun x=>(h.m x).trans (q x),h.f,h.r,h.i,aG h.l hm,h.s⟩
theorem FnM.has {H H':Hp}{lf:Addr}{us:List Str}{fr:List V}{ps:List (Str × Str)}{n:Nat}{M:Str × Str->Prop}(h:FnM H H' lf us fr ps n M) {y:Str × Str}(hy:y∈ps) (x:Str × Str):M x ↔ M x∨x=y:=⟨.inl,fun z=>z.elim id fun e=>by rw[e];exact(h.m y).mp hy⟩
theorem pV (e f:Str × Str):PyData.eqv (cW e) (cW f)=decide (e=f):=by
 obtain⟨a,b⟩:=e
 obtain⟨c,d⟩:=f
 show ((a==c)&&((b==d)&&true))=_
 rw[Bool.and_true,aX]
 simp only[bf,beq_iff_eq,decide_eq_true_eq,Prod.mk.injEq]
theorem ig (ps:Prs) (x:Str × Str):((ps.map cW).any fun e=>PyData.eqv e (cW x))=decide (x∈ps):=by
 rw[List.any_map,aX,ck,decide_eq_true_iff]
 constructor
 ·rintro⟨e,he,q⟩
  have q:PyData.eqv (cW e) (cW x)=true:=q
  rw[pV,decide_eq_true_iff] at q
  exact q ▸ he
 ·intro h
  exact⟨x,h,by show PyData.eqv (cW x) (cW x)=true;rw[pV];simp⟩
theorem sV {ps:Prs}{x:Str × Str}(h:¬ (if true=true then !((ps.map cW).any fun e=>PyData.eqv e (cW x)) else (ps.map cW).any fun e=>PyData.eqv e (cW x))=true):x∈ps:=by
 rw[if_pos rfl,ig] at h
 simpa using h
theorem iO {e:Str × Str}(h1:Nm e.1) (h2:Nm e.2):(cW e).canLay0=true:=by
 have h:(PyData.canLay0 (cW e)&&true)=true:=dC (ps:=[e]) fun x hx=>by rw[aO.mp hx];exact⟨h1,h2⟩
 rwa [Bool.and_true] at h
def ic (e:Str × Str) (c:List Str):Prs:=(c.filter fun v=>decide (v≠e.2)).map fun v=>if e.1="first" then (e.2,v) else (v,e.2)
def EdT (ks:Kn) (knot:Str) (ts:Prs) (x:Str × Str):Prop:=∃e∈ts,gg ks knot e=some x
def EdW (wn:Prs) (c:List Str) (x:Str × Str):Prop:=∃e∈wn,e.2∈c/\x∈ic e c
def EdM (ks:Kn) (ts wn:Prs) (knot:Str) (c:List Str) (x:Str × Str):Prop:=EdT ks knot ts x∨EdW wn c x
theorem fS {α:Type}{l:List α}{i:Nat}{e:α}(he:l[i]? = some e) (x:α):x∈l.take (i+1) ↔ x∈l.take i∨x=e:=by
 rw[av,he,aH]
 show _∨x∈[e] ↔ _
 rw[aO]
theorem p4 {ks:Kn}{knot:Str}{ts:Prs}{i:Nat}{e:Str × Str}(he:ts[i]? = some e) (x:Str × Str):EdT ks knot (ts.take (i+1)) x ↔ EdT ks knot (ts.take i) x∨gg ks knot e=some x:=by
 unfold EdT
 constructor
 ·rintro⟨f,hf,q⟩
  rcases (fS he f).mp hf with z | rfl
  ·exact .inl ⟨f,z,q⟩
  ·exact .inr q
 ·rintro (⟨f,hf,q⟩ | q)
  ·exact⟨f,(fS he f).mpr (.inl hf),q⟩
  ·exact⟨e,(fS he e).mpr (.inr rfl),q⟩
theorem jd {wn:Prs}{c:List Str}{i:Nat}{e:Str × Str}(he:wn[i]? = some e) (x:Str × Str):EdW (wn.take (i+1)) c x ↔ EdW (wn.take i) c x∨(e.2∈c/\x∈ic e c):=by
 unfold EdW
 constructor
 ·rintro⟨f,hf,q⟩
  rcases (fS he f).mp hf with z | rfl
  ·exact .inl ⟨f,z,q⟩
  ·exact .inr q
 ·rintro (⟨f,hf,q⟩ | q)
  ·exact⟨f,(fS he f).mpr (.inl hf),q⟩
  ·exact⟨e,(fS he e).mpr (.inr rfl),q⟩
theorem pU {e x:Str × Str}{c:List Str}:x∈ic e c ↔ ∃v∈c,v≠e.2/\x=if e.1="first" then (e.2,v) else (v,e.2):=by
 unfold ic
 rw[ao]
 constructor
 ·rintro⟨v,hv,rfl⟩
  obtain⟨h1,h2⟩:=aT.mp hv
  exact⟨v,h1,aM h2,rfl⟩
 ·rintro⟨v,h1,h2,rfl⟩
  exact⟨v,aT.mpr ⟨h1,ak h2⟩,rfl⟩
theorem wA {e:Str × Str}{c:List Str}{j:Nat}{z:Str}(hz:c[j]? = some z) (x:Str × Str):x∈ic e (c.take (j+1)) ↔ x∈ic e (c.take j)∨(z≠e.2/\x=if e.1="first" then (e.2,z) else (z,e.2)):=by
 rw[pU,pU]
 constructor
 ·rintro⟨v,hv,q⟩
  rcases (fS hz v).mp hv with h | rfl
  ·exact .inl ⟨v,h,q⟩
  ·exact .inr q
 ·rintro (⟨v,hv,q⟩ | q)
  ·exact⟨v,(fS hz v).mpr (.inl hv),q⟩
  ·exact⟨z,(fS hz z).mpr (.inr rfl),q⟩
def tK:Sp:=fun vs H Q _=>∃(q:Addr) (us:List Str) (ks:Kn) (ts ws wn:List (Str × Str)) (knot:Str) (c:List Str),vs=[.ref q,.str knot]/\Rep H (.ref q) (df ks ts ws wn)/\Tre us ks/\TsI us ks ts/\(∀e∈wn,e.2∈us)/\(knot,c)∈ks/\ts.length<=200/\wn.length<=200 /\
 ∀(l:Addr) (refs:List V) (es:Prs) (H':Hp),Same H H'->H l=none->H' l=some (.lst refs)->RepAll H' refs (es.map cW)->es.length<=100000->gV us es->(∀x,x∈es ↔ EdM ks ts wn knot c x)->Q (.ref l) H'
theorem scEdg:FnScope ["_law_house_here","_law_knot","_law_knots_here","_law_ties","_law_waiting","_law_wants","_law_kids","_law_found","_law_one","_law_other","_law_part_here","_law_word","_law_unit","_law_pair"] ["_law_house_here","_law_knot"] (cI kC):=⟨rfl,rfl,rfl,by decide +kernel,rfl,by decide +kernel,by decide +kernel⟩
theorem AL {f:Addr}{fd:FuncData}(F:Fun K "_law_edges" "_law_edges" kC f fd) (B:Blt mg) (c_law_part:Cal P w K mg base 2 "_law_part" ["_law_knots_here", "_law_one", "_law_other"] lC):FnOk P w K mg base CX0 3 f fd ["_law_house_here", "_law_knot"] tK := by
 refine F.ok scEdg (fun vs H Q E h=>?_) (fun cdv A outer s H vs Q E hr h=>?_)
 ·obtain⟨q,us,ks,ts,ws,wn,knot,c0,rfl,_⟩:=h
  rfl
 ·obtain⟨q, us, ks, ts, ws, wn, knot, c0, rfl, R, T, tok, wok, hkk, tl, wl, k⟩ := h
  have nd:=scEdg.nd
  refine⟨_,(cF (gM (pv 0) (eW (n:=4) K rfl (cY (cN (i:=2) nd rfl (Or.inl rfl)) (cY (cN (i:=3) nd rfl (Or.inl rfl)) (cY (cN (i:=4) nd rfl (Or.inl rfl)) (cY (cN (i:=5) nd rfl (Or.inl rfl)) eP))))))
   (cF (pst 6 nd (px K hr (lj K rfl hr.units B (p1 (pv 2))) (pv 1)))
   (cF (pst 7 nd (dw fV))
   (cF (dM PassesOwn.never rfl (dP K (pv 3)) (eW (n:=2) K rfl (cY (cN (i:=8) nd rfl (Or.inl rfl)) (cY (cN (i:=9) nd rfl (Or.inl rfl)) eP))) (cF (pst 10 nd (pc c_law_part hr (cT (pv 2) (p2 (pv 8) (pv 9)))))
   (cH (cX (PW.pt (fu (cK (di hr.units) (px K hr (pv 10) cG) (pv 1) (cQ _)) (eV (cK (g9 K hr.units) (fR (ou K) (pv 10) (gl cG) gp) (pv 7) (by with_unfolding_all rfl))))) (cH (dR (fY K (pv 7) (p1 (fR (ou K) (pv 10) (gl cG) gp))))) cS))))
   (cF (dM PassesOwn.never rfl (dP K (pv 5)) (eW (n:=2) K rfl (cY (cN (i:=11) nd rfl (Or.inl rfl)) (cY (cN (i:=12) nd rfl (Or.inl rfl)) eP))) (cH (cX (cK (ft K hr.units) (pv 12) (pv 6) (by with_unfolding_all rfl)) (cH (dM PassesOwn.never rfl (dP K (pv 6)) (cN (i:=8) nd rfl (Or.inl rfl)) (cF (pst 13 nd (px K hr (dw (p2 (cV (p2 (pv 8) (pv 12))) (cV (p2 (pv 12) (pv 8))))) (t6 B (p1 (hG (di hr.units) (pv 11) cM (cQ _))))))
   (cH (cX (PW.pt (fu (cK (fP hr.units) (pv 8) (pv 12) (cQ _)) (eV (cK (g9 K hr.units) (pv 13) (pv 7) (by with_unfolding_all rfl))))) (cH (dR (fY K (pv 7) (p1 (pv 13))))) cS))))) cS)))
   (cH (cL (pv 7)))))))),?_⟩
  have nmu:∀ {ps:List (Str × Str)},gV us ps->∀e∈ps,Nm e.1/\Nm e.2:=fun h e he=>⟨T.nm _ (h e he).1,T.nm _ (h e he).2⟩
  have sz:200000<sizeLine:=by decide
  have ulen:=T.len
  obtain⟨q',a,b,c,d4,e0,hq,R1,R2,_,R4⟩:=dI R
  cases e0
  refine⟨_,rfl,q,_,rfl,.of hq,rfl,_,_,rfl,_,_,rfl,_,_,rfl,_,_,rfl,rfl,?_⟩
  refine⟨_,rfl,cP (iM R1 T fun D dk hD hdk=>?_)⟩
  obtain⟨la,hva,hla⟩:=hdk _ hkk
  have s1:=Same.new (o:=.dK dk) hD
  refine⟨_,rfl,.dic (.inl ⟨dk,.inr knot,.inl cE,rfl,hva.symm⟩) ?_⟩
  generalize upd H D (.dK dk)=H1 at s1 ⊢
  refine⟨(by show 0<=sizeLine;decide),fun lf hlf=>?_⟩
  have s3:=Same.new (o:=.lst []) hlf
  have s13:=s1.trans s3
  have frf:H lf=none:=eG s1 hlf
  have fn0:FnM H (upd H1 lf (.lst [])) lf us [] [] 0 (EdT ks knot (ts.take 0)):=⟨(fun x=>⟨(fun h=>by cases h),(fun ⟨_,h,_⟩=>by cases h)⟩),cE,.nil,(fun e he=>by cases he),ac _,s13⟩
  generalize upd H1 lf (.lst [])=H3 at s13 fn0 ⊢
  obtain⟨b',rb,e0,hb,rpb⟩:=dZ R2
  cases e0
  obtain⟨d4',rw4,e0,hd4,rpw⟩:=dZ R4
  cases e0
  have rblen:=rpb.len
  have rwlen:=rpw.len
  rw[ae] at rblen rwlen
  refine⟨_,rfl,b,rfl,⟨_,.of (s13 _ _ hb)⟩,?_⟩
  refine gk (xs:=rb) (fun i σ H'=>∃(o8 o9 o10:Option V) (fr:List V) (ps:List (Str × Str)),σ=[some (.ref q),some (.str knot),some (.ref a),some (.ref b),some (.ref c),some (.ref d4),some (.ref la),some (.ref lf),o8,o9,o10,none,none,none]/\FnM H H' lf us fr ps i (EdT ks knot (ts.take i))) ?_ ?_ ?_ ?_
  ·exact⟨none,none,none,[],[],rfl,fn0⟩
  ·rintro i σ H' hi ⟨o8,o9,o10,fr,ps,rfl,fn⟩
   exact .of (fn.s _ _ hb)
  ·rintro i x σ H' hx ⟨o8, o9, o10, fr, ps, rfl, fn⟩
   obtain⟨e,ta,he,rfl,hta⟩:=fk (rpb.same fn.s) hx
   have hil:=(ah.mp he).1
   obtain⟨m1,m2,po⟩:=tok e (au he)
   refine⟨ta,_,rfl,.of hta,rfl,_,_,rfl,_,_,rfl,rfl,?_⟩
   refine⟨_,rfl,_,rfl,_,rfl,a,us,ks,e.1,e.2,rfl,R1.same fn.s,T,m1,m2,fun x H4 s4 hx4=>?_⟩
   cases qp:dF ks e.1 e.2 with
   | none=>rw[qp] at po;cases po
   | some pp =>
    obtain⟨kq,u1,v1⟩:=pp
    rw[qp] at hx4
    obtain⟨t,rfl,ht⟩:=hx4
    obtain⟨_,_,n1,n2,_⟩:=T.part m1 m2 qp
    have fn4:=fn.more s4 (ac i)
    have fl:=fn4.len
    refine⟨_,rfl,.tup (.of ht) at0 ⟨_,rfl,.sc rfl ⟨_,rfl,cR (fun hkq=>?_) (fun hkq=>?_)⟩⟩⟩
    ·have hkq:kq=knot:=by simpa using hkq
     have hbs:gg ks knot e=some (u1,v1):=by unfold gg;rw[qp];show (if kq=knot then _ else _)=_;rw[if_pos hkq]
     have hnx:∀x,EdT ks knot (ts.take (i+1)) x ↔ EdT ks knot (ts.take i) x∨x=(u1,v1):=fun x=>by rw[p4 he,hbs,Option.some.injEq,eq_comm (a:=(u1,v1))]
     refine⟨_,rfl,_,rfl,t,_,rfl,.of ht,ql,fun t2 h2=>?_⟩
     rw[qr]
     have s5:=Same.new (o:=.tup [V.str u1,V.str v1]) h2
     have e5:upd H4 t2 (.tup [V.str u1,V.str v1]) t2=some (.tup [V.str u1,V.str v1]):=cE
     have fn5:=fn4.more s5 (ac i)
     have ht5:=s5 _ _ ht
     generalize upd H4 t2 (.tup [V.str u1,V.str v1])=H5 at s5 e5 fn5 ht5 ⊢
     refine⟨_,rfl,.tr fn5.f fn5.r (dG (s:=u1) (t:=v1) e5) (dC (nmu fn5.i)) ?_ ?_ ⟨_,rfl,?_⟩⟩
     ·exact iO (T.nm _ n1) (T.nm _ n2)
     ·show 1<=16;decide
     ·refine cR (fun _=>?_) (fun hin=>⟨_,_,_,fr,ps,rfl,fn5.to (bN i) fun x=>(fn5.has (sV hin) x).trans (hnx x).symm⟩)
      refine⟨_,rfl,.inl ⟨rfl,_,.of fn5.f⟩,_,rfl,_,rfl,t,_,rfl,.of ht5,ql,fun t3 h3=>?_⟩
      rw[qr]
      have s6:=Same.new (o:=.tup [V.str u1,V.str v1]) h3
      have e6:upd H5 t3 (.tup [V.str u1,V.str v1]) t3=some (.tup [V.str u1,V.str v1]):=cE
      have fn6:=fn5.more s6 (ac i)
      generalize upd H5 t3 (.tup [V.str u1,V.str v1])=H6 at s6 e6 fn6 ⊢
      refine cP ⟨lf,_,_,rfl,rfl,fn6.f,by omega,?_⟩
      exact⟨_,_,_,_,_,rfl,(fn6.app e6 n1 n2 frf).to (ac _) fun x=>(hnx x).symm⟩
    ·have hkq:kq≠knot:=fun z=>hkq (by simpa using z)
     have hbs:gg ks knot e=none:=by unfold gg;rw[qp];show (if kq=knot then _ else _)=_;rw[if_neg hkq]
     exact⟨_,_,_,fr,ps,rfl,fn4.to (bN i) fun x=>by rw[p4 he,hbs];simp⟩
  ·rintro σ H4 ⟨o8, o9, o10, fr, ps, rfl, fn⟩
   rw[rblen,ap (ac _)] at fn
   refine⟨_,rfl,d4,rfl,⟨_,.of (fn.s _ _ hd4)⟩,?_⟩
   have crl:c0.length<=60:=by
    have h3:c0.length<=(dJ ks).length:=by
     have:=(cB (L:=ks.map (·.2)) (ao.mpr ⟨(knot,c0),hkk,rfl⟩)).length_le
     rw[<- List.flatMap_def] at this
     exact this
    have:=T.perm.length_eq
    omega
   have cin:∀z∈c0,z∈us:=fun z hz=>T.isIn hkk hz
   refine gk (xs:=rw4) (fun i σ H'=>∃(o8 o9 o10 o11 o12 o13:Option V) (fr:List V) (ps:List (Str × Str)),σ=[some (.ref q),some (.str knot),some (.ref a),some (.ref b),some (.ref c),some (.ref d4),some (.ref la),some (.ref lf),o8,o9,o10,o11,o12,o13]/\FnM H H' lf us fr ps (200+i * 60) (fun x=>EdT ks knot ts x∨EdW (wn.take i) c0 x)) ?_ ?_ ?_ ?_
   ·exact⟨o8,o9,o10,none,none,none,fr,ps,rfl,fn.to (by omega) fun x=>⟨.inl,fun z=>z.elim id fun ⟨_,h,_⟩=>by cases h⟩⟩
   ·rintro i σ H' hi ⟨o8,o9,o10,o11,o12,o13,fr,ps,rfl,fn⟩
    exact .of (fn.s _ _ hd4)
   ·rintro i x σ H' hx ⟨o8, o9, o10, o11, o12, o13, fr, ps, rfl, fn⟩
    obtain⟨e,ta,he,rfl,hta⟩:=fk (rpw.same fn.s) hx
    have hil:=(ah.mp he).1
    have m2:=wok e (au he)
    have hlc:=fn.s _ _ hla
    refine⟨ta,_,rfl,.of hta,rfl,_,_,rfl,_,_,rfl,rfl,?_⟩
    refine⟨_,rfl,_,rfl,.seq (.inr (.of hlc)) rfl (gu _) ⟨_,rfl,cR (fun hec=>?_) (fun hec=>?_)⟩⟩
    all_goals rw[if_neg (show ¬ false=true by decide),iS] at hec
    ·refine⟨_, rfl, la, rfl, ⟨_, .of hlc⟩, ?_⟩
     refine gk (xs:=List.map V.str c0) (fun j σ H'=>∃(o8 o9 o10 o13:Option V) (fr:List V) (ps:List (Str × Str)),σ=[some (.ref q),some (.str knot),some (.ref a),some (.ref b),some (.ref c),some (.ref d4),some (.ref la),some (.ref lf),o8,o9,o10,some (.str e.1),some (.str e.2),o13]/\FnM H H' lf us fr ps (200+i * 60+j) (fun x=>(EdT ks knot ts x∨EdW (wn.take i) c0 x)∨x∈ic e (c0.take j))) ?_ ?_ ?_ ?_
     ·exact⟨o8,o9,o10,o13,fr,ps,rfl,fn.to (ac _) fun x=>⟨.inl,fun z=>z.elim id fun h=>by cases h⟩⟩
     ·rintro j σ H' hj ⟨o8,o9,o10,o13,fr,ps,rfl,fn⟩
      exact .of (fn.s _ _ hla)
     ·rintro j x σ H5 hx ⟨o8, o9, o10, o13, fr, ps, rfl, fn⟩
      obtain⟨z,hz,rfl⟩:=dH hx
      have hjl:=(ah.mp hz).1
      have mz:=cin z (au hz)
      have hjj:j<60:=by omega
      refine⟨_,rfl,_,rfl,(by show 2<=sizeLine;decide),fun t1 h1=>?_⟩
      have s1:=Same.new (o:=.tup [V.str z,V.str e.2]) h1
      have e1:upd H5 t1 (.tup [V.str z,V.str e.2]) t1=some (.tup [V.str z,V.str e.2]):=cE
      generalize upd H5 t1 (.tup [V.str z,V.str e.2])=H6 at s1 e1 ⊢
      refine⟨_,rfl,_,rfl,(by show 2<=sizeLine;decide),fun t2 h2=>cP ⟨(by show 2<=sizeLine;decide),fun l2 hl2=>?_⟩⟩
      have s2:=s1.trans (Same.new (o:=.tup [V.str e.2,V.str z]) h2)
      have e2:upd H6 t2 (.tup [V.str e.2,V.str z]) t2=some (.tup [V.str e.2,V.str z]):=cE
      have e1:=Same.new (o:=.tup [V.str e.2,V.str z]) h2 _ _ e1
      generalize upd H6 t2 (.tup [V.str e.2,V.str z])=H7 at s2 e2 e1 hl2 ⊢
      have s3:=s2.trans (Same.new (o:=.lst [V.ref t1,V.ref t2]) hl2)
      have e3:upd H7 l2 (.lst [V.ref t1,V.ref t2]) l2=some (.lst [V.ref t1,V.ref t2]):=cE
      have e2:=Same.new (o:=.lst [V.ref t1,V.ref t2]) hl2 _ _ e2
      have e1:=Same.new (o:=.lst [V.ref t1,V.ref t2]) hl2 _ _ e1
      generalize upd H7 l2 (.lst [V.ref t1,V.ref t2])=H8 at s3 e3 e2 e1 ⊢
      have fn8:=fn.more s3 (ac _)
      have fl:=fn8.len
      refine⟨_,rfl,.sc rfl ⟨_,rfl,.bl ?_⟩⟩
      have pick:∀bb:Bool,∃(t:Addr) (x y:Str),atI [V.ref t1,V.ref t2] (if bb=true then 1 else 0)=some (.ref t)/\H8 t=some (.tup [.str x,.str y])/\x∈us/\y∈us/\(x,y)=(if bb=true then (e.2,z) else (z,e.2)):=fun bb=>by
       cases bb with
       | true=>exact⟨t2,e.2,z,at1,e2,m2,mz,rfl⟩
       | false=>exact⟨t1,z,e.2,at0,e1,mz,m2,rfl⟩
      obtain⟨t,x,y,hx,ht,mx,my,exy⟩:=pick (if false=true then !decide (V.str e.1=V.str "first") else decide (V.str e.1=V.str "first"))
      have exy:(x,y)=if e.1="first" then (e.2,z) else (z,e.2):=by
       rw[exy]
       by_cases q:e.1="first"
       ·rw[if_pos q,if_pos (by rw[if_neg (by decide),q];simp)]
       ·rw[if_neg q,if_neg (by rw[if_neg (by decide)];simpa using q)]
      have hzn:∀x',x'∈ic e (c0.take (j+1)) ↔ x'∈ic e (c0.take j)∨(z≠e.2/\x'=(x,y)):=fun x'=>by rw[wA hz,exy]
      refine .lst (.of e3) hx ?_
      refine⟨_,rfl,_,rfl,.sc rfl ⟨_,rfl,cR (fun hne=>?_) (fun hne=>?_)⟩⟩
      ·have hne:z≠e.2:=fun q=>by rw[q,if_pos rfl,ak rfl] at hne;cases hne
       have hz2:∀x',((EdT ks knot ts x'∨EdW (wn.take i) c0 x')∨x'∈ic e (c0.take j))∨x'=(x,y) ↔ (EdT ks knot ts x'∨EdW (wn.take i) c0 x')∨x'∈ic e (c0.take (j+1)):=fun x'=>by
        rw[hzn x',or_assoc]
        simp only[ne_eq,hne,not_false_eq_true,true_and]
       refine⟨_,rfl,_,rfl,.tr fn8.f fn8.r (dG (s:=x) (t:=y) ht) (dC (nmu fn8.i)) (iO (T.nm _ mx) (T.nm _ my)) (by show 1<=16;decide) ⟨_,rfl,cR (fun _=>?_) (fun hin=>?_)⟩⟩
       ·refine⟨_,rfl,.inl ⟨rfl,_,.of fn8.f⟩,_,rfl,cP ⟨lf,_,_,rfl,rfl,fn8.f,by omega,?_⟩⟩
        exact⟨_,_,_,_,_,_,rfl,(fn8.app ht mx my frf).to (ac _) hz2⟩
       ·exact⟨_,_,_,_,fr,ps,rfl,fn8.to (bN _) fun x'=>(fn8.has (sV hin) x').trans (hz2 x')⟩
      ·have hne:z=e.2:=Classical.byContradiction fun q=>hne (by rw[if_pos rfl,aw (fun w=>q (V.str.inj w))];rfl)
       exact fB ⟨_,_,_,_,fr,ps,rfl,fn8.to (bN _) fun x'=>by rw[hzn x'];simp[hne]⟩
     ·rintro σ H5 ⟨o8,o9,o10,o13,fr,ps,rfl,fn⟩
      rw[ae,ap (ac _)] at fn
      exact⟨_,_,_,_,_,_,fr,ps,rfl,fn.to (by omega) fun x=>⟨fun q=>q.elim (fun q=>q.imp id fun w=>(jd he x).mpr (.inl w)) fun w=>.inr ((jd he x).mpr (.inr ⟨aM hec,w⟩)),fun q=>q.elim (fun w=>.inl (.inl w)) fun w=>((jd he x).mp w).elim (fun z=>.inl (.inr z)) fun z=>.inr z.2⟩⟩
    ·exact⟨_,_,_,_,_,_,fr,ps,rfl,fn.to (by omega) fun x=>⟨fun q=>q.imp id fun w=>(jd he x).mpr (.inl w),fun q=>q.imp id fun w=>((jd he x).mp w).elim id fun z=>absurd (ak z.1) hec⟩⟩
   ·rintro σ H5 ⟨o8,o9,o10,o11,o12,o13,fr,ps,rfl,fn⟩
    refine⟨_,rfl,k lf fr ps H5 fn.s frf fn.f fn.r ?_ fn.i fun x=>?_⟩
    rotate_left
    ·rw[rwlen,ap (ac _)] at fn
     exact fn.m x
    have:=fn.l
    omega
def Lp (H:Hp) (l:Addr) (ps:Prs):Prop:=∃refs,H l=some (.lst refs)/\RepAll H refs (ps.map cW)
section
variable {H H':Hp}{l p:Addr}{ps:Prs}
theorem Lp.but (h:Lp H l ps) {ys:List (Key × V)}(hp:H p=some (.dK ys)) (b:But p H H'):Lp H' l ps :=
 let ⟨r,h1,h2⟩:=h;⟨r,b _ _ (eK h1 hp (by intro z;cases z)) h1,gm (kJ hp b) h2⟩
theorem Lp.same (h:Lp H l ps) (s:Same H H'):Lp H' l ps:=let ⟨r,h1,h2⟩:=h;⟨r,s _ _ h1,h2.same s⟩
theorem Lp.other (h:Lp H l ps) {l2:Addr}{xs ys:List V}(h2:H l2=some (.lst xs)) (n:l≠l2):Lp (upd H l2 (.lst ys)) l ps :=
 let ⟨r,h1,hr⟩:=h;⟨r,by rw[cJ n];exact h1,dy (dB h2 But.upd) hr⟩
theorem Lp.app {refs:List V}(h1:H l=some (.lst refs)) (h2:RepAll H refs (ps.map cW)) {t:Addr}{e:Str × Str}(ht:H t=some (.tup [.str e.1,.str e.2])):Lp (upd H l (.lst (refs++[.ref t]))) l (ps++[e]):=by
 refine⟨_,cE,?_⟩
 rw[aj]
 exact RepAll.append (dy (dB h1 But.upd) h2) (.cons (dB h1 But.upd (dG (s:=e.1) (t:=e.2) ht)) .nil)
theorem RepAll.takeP:∀ {xs:List V}{ds:List PyData}(k:Nat),RepAll H xs ds->RepAll H (xs.take k) (ds.take k)
 | _,_,0,_=>.nil
 | _,_,_+1,.nil=>.nil
 | _,_,k+1,.cons a b=>.cons a (RepAll.takeP k b)
theorem RepAll.dropP:∀ {xs:List V}{ds:List PyData}(k:Nat),RepAll H xs ds->RepAll H (xs.drop k) (ds.drop k)
 | _,_,0,r=>r
 | _,_,_+1,.nil=>.nil
 | _,_,k+1,.cons _ b=>RepAll.dropP k b
theorem Lp.ins {refs:List V}(h1:H l=some (.lst refs)) (h2:RepAll H refs (ps.map cW)) {t:Addr}{e:Str × Str}(k:Nat) (ht:H t=some (.tup [.str e.1,.str e.2])):Lp (upd H l (.lst (refs.take k++.ref t::refs.drop k))) l (ps.take k++e::ps.drop k):=by
 refine⟨_,cE,?_⟩
 rw[aj,aQ,List.map_take,List.map_drop]
 have r2:RepAll (upd H l (.lst (refs.take k++.ref t::refs.drop k))) refs (ps.map cW):=dy (dB h1 But.upd) h2
 exact RepAll.append (RepAll.takeP k r2) (.cons (dB h1 But.upd (dG (s:=e.1) (t:=e.2) ht)) (RepAll.dropP k r2))
end
theorem sK {H:Hp}{l:Addr}{c:List Str}{x:Str}{Q:VK}(hl:H l=some (.tup (c.map V.str))) (cn:c.Nodup) (hx:x∈c) (q:∀j:Nat,Q (.int (j:Int)) H):oA (.ref l) [.str x] H Q:=by
 refine⟨l,_,.str x,MG.ix c x,.str x,rfl,rfl,hl,rfl,gu c,by rw[aI,MG.at_ix hx];rfl,by show (x==x)=true;simp,fun m z' hm hz=>?_,q _⟩
 obtain⟨z,hz',rfl⟩:=dH hz
 have hne:z≠x:=fun e=>by rw[e] at hz';have:=MG.ix_at cn hz';omega
 show (z==x)=false
 simpa using hne
theorem at2 {α:Type}{x y z:α}{r:List α}:atI (x::y::z::r) 2=some z:=eQ (j:=2) rfl
def WnL (ks:Kn) (wn:Prs):Prop:=∀e∈wn,(e.1="first"/\∃k∈ks,k.2.head? = some e.2)∨(e.1="last"/\∃k∈ks,k.2.getLast? = some e.2)
theorem AZ {ks:Kn}{wn:Prs}(h:WnL ks wn) (n:wn.Nodup):WnX ks wn:=⟨n,fun e he=>by
 rcases h e he with⟨h1,k,hk,h2⟩ | ⟨h1,k,hk,h2⟩
 ·exact⟨k,hk,.inl ⟨h1,h2⟩⟩
 ·exact⟨k,hk,.inr ⟨h1,h2⟩⟩⟩
theorem qJ {us:List Str}{ks:Kn}(T:Tre us ks) {i:Nat}{kn:Str × List Str}(h:ks[i]? = some kn) {z:Str}(hz:z∈kn.2):¬ ∃k∈ks.take i,z∈k.2:=fun ⟨k,hk,hzk⟩=>by
 have e:=iA T.knd (List.mem_of_mem_take hk) (au h) hzk hz
 subst e
 obtain⟨j,hj⟩:=bR hk
 have hl:=(ah.mp hj).1
 rw[aL] at hl
 rw[List.getElem?_take,if_pos (by omega)] at hj
 have h1:(ks.map (·.1))[j]? = some k.1:=by rw[aI,hj];rfl
 have h2:(ks.map (·.1))[i]? = some k.1:=by rw[aI,h];rfl
 have:=(MG.ix_at T.kn h1).symm.trans (MG.ix_at T.kn h2)
 omega
theorem ve {wn:Prs}{m:Nat}{e:Str × Str}(n:wn.Nodup) (h:e∉wn):(wn.take m++e::wn.drop m).Nodup:=by
 have p:(wn.take m++e::wn.drop m).Perm (e::wn):=by
  have:=List.perm_middle (a:=e) (l₁:=wn.take m) (l₂:=wn.drop m)
  rwa [bY] at this
 exact p.nodup_iff.mpr (ba.mpr ⟨h,n⟩)
def sS (K:W.Frag):Sp:=fun vs H Q _=>∃(p a:Addr),vs=[.ref p,.int 13]/\DPen K H p a /\
 ∀q us ks ts ws wn H',Rep H' (.ref q) (df ks ts ws wn)->Tre us ks->ks.head?.map (·.1)=some ("":Str)->us.length<=13->TsI us ks ts->gV us ws->WnL ks wn->wn.Nodup->ts.length<=26->ws.length<=7->wn.length<=122->DPV H' p a->But p H H'->Q (.ref q) H'
theorem scHouse:FnScope ["_law_pen_here","_law_most","_law_names_here","_law_knots_here","_law_ties","_law_k","_law_one","_law_other","_law_part_here","_law_kids","_law_wants","_law_name","_law_pick","_law_house_here","_law_waiting"] ["_law_pen_here","_law_most"] (cI kQ):=⟨rfl,rfl,rfl,by decide +kernel,rfl,by decide +kernel,by decide +kernel⟩
theorem wQ {f:Addr}{fd:FuncData}(F:Fun K "_law_house" "_law_house" kQ f fd) (B:Blt mg) (c_law_draw:Cal P w K mg base 1 "_law_draw" ["_law_pen_here", "_law_many"] (m7 K)) (c_law_names:Cal P w K mg base 2 "_law_names" ["_law_pen_here", "_law_many"] (sj K)) (c_law_knots:Cal P w K mg base 2 "_law_knots" ["_law_pen_here", "_law_names_here"] (se K)) (c_law_part:Cal P w K mg base 2 "_law_part" ["_law_knots_here", "_law_one", "_law_other"] lC) (c_law_edges:Cal P w K mg base 3 "_law_edges" ["_law_house_here", "_law_knot"] tK) (c_law_reached:Cal P w K mg base 1 "_law_reached" ["_law_edges_here", "_law_one"] qv):FnOk P w K mg base CX0 4 f fd ["_law_pen_here", "_law_most"] (sS K) := by
 refine F.ok scHouse (fun vs H Q E h=>?_) (fun cdv A outer s H vs Q E hr h=>?_)
 ·obtain⟨p,a,rfl,_⟩:=h
  rfl
 ·obtain⟨p,a,rfl,hP,k⟩:=h
  have nd:=scHouse.nd
  refine⟨_,(cF (pst 2 nd (pc c_law_names hr (p2 (pv 0) (cZ dz cG (pc c_law_draw hr (p2 (pv 0) (cZ qk (pv 1) cG)))))))
   (cF (pst 3 nd (pc c_law_knots hr (p2 (pv 0) (pv 2))))
   (cF (pst 4 nd (dw fV))
   (cF (dM PassesOwn.never rfl (gZ rfl B.range (p1 (pc c_law_draw hr (p2 (pv 0) (cZ jv cG (dO K B (p1 (pv 2)))))))) (cN (i:=5) nd rfl (Or.inl rfl)) (cF (pst 6 nd (px K hr (pv 2) (pc c_law_draw hr (p2 (pv 0) (dO K B (p1 (pv 2)))))))
   (cF (pst 7 nd (px K hr (pv 2) (pc c_law_draw hr (p2 (pv 0) (dO K B (p1 (pv 2)))))))
   (cF (pst 8 nd (pc c_law_part hr (cT (pv 3) (p2 (pv 6) (pv 7)))))
   (cH (cX (cK kI (pv 8) i0 (cQ _)) (cF (pst 9 nd (px K hr (lj K rfl hr.units B (p1 (pv 3))) (px K hr (pv 8) cG)))
   (cF (cX (cK jl (pE (pv 9) (p1 (px K hr (pv 8) cG))) (pE (pv 9) (p1 (px K hr (pv 8) cG))) (cQ _)) (cH (Bb (i:=6) (j:=7) rfl nd rfl rfl (by decide) rfl rfl (p2 (pv 7) (pv 6)) rfl)) cS)
   (cH (cX (cK (g9 K hr.units) (cV (p2 (pv 6) (pv 7))) (pv 4) (by with_unfolding_all rfl)) (cH (dR (fY K (pv 4) (p1 (cV (p2 (pv 6) (pv 7))))))) cS)))) cS))))))
   (cF (pst 10 nd (dw fV))
   (cF (dM PassesOwn.never rfl (dP K (pv 3)) (eW (n:=2) K rfl (cY (cN (i:=11) nd rfl (Or.inl rfl)) (cY (cN (i:=9) nd rfl (Or.inl rfl)) eP))) (cF (pst 12 nd (pc c_law_draw hr (p2 (pv 0) cG)))
   (cF (cX (PW.pt (fu (cK (oT K hr.units) (pv 9) (cV fV) (cQ _)) (eV (cK (ft K hr.units) (pv 12) (cV (p2 cG cG)) (by with_unfolding_all rfl))))) (cH (dR (i4 K (pv 10) (p2 (pc c_law_draw hr (p2 (pv 0) (cZ dz (dO K B (p1 (pv 10))) cG))) (cV (p2 cM (px K hr (pv 9) cG))))))) cS)
   (cH (cX (PW.pt (fu (cK jl (dO K B (p1 (pv 9))) cG (cQ _)) (eV (cK (ft K hr.units) (pv 12) (cV (p2 cG cG)) (by with_unfolding_all rfl))))) (cH (dR (i4 K (pv 10) (p2 (pc c_law_draw hr (p2 (pv 0) (cZ dz (dO K B (p1 (pv 10))) cG))) (cV (p2 cM (px K hr (pv 9) (nH kN cG)))))))) cS)))))
   (cF (pst 13 nd (cV (cT (pv 3) (cT (fG K B (p1 (pv 4))) (p2 (cV fV) (fG K B (p1 (pv 10))))))))
   (cF (pst 14 nd (dw fV))
   (cF (dM PassesOwn.never rfl (gZ rfl B.range (p1 (pc c_law_draw hr (p2 (pv 0) cG)))) (cN (i:=5) nd rfl (Or.inl rfl)) (cF (pst 6 nd (px K hr (pv 2) (pc c_law_draw hr (p2 (pv 0) (dO K B (p1 (pv 2)))))))
   (cF (pst 7 nd (px K hr (pv 2) (pc c_law_draw hr (p2 (pv 0) (dO K B (p1 (pv 2)))))))
   (cF (pst 8 nd (pc c_law_part hr (cT (pv 3) (p2 (pv 6) (pv 7)))))
   (cH (cX (PW.pt (fu (cK kI (pv 8) i0 (cQ _)) (eV (cK (g9 K hr.units) (cV (p2 (pv 6) (pv 7))) (cZ dz (pv 4) (pv 14)) (by with_unfolding_all rfl))))) (cH (cX (cK (ft K hr.units) (px K hr (pv 8) cG) (pc c_law_reached hr (p2 (pc c_law_edges hr (p2 (pv 13) (px K hr (pv 8) cG))) (px K hr (pv 8) cG))) (by with_unfolding_all rfl)) (cH (dR (fY K (pv 14) (p1 (cV (p2 (pv 6) (pv 7))))))) cS)) cS))))))
   (cH (cL (cV (cT (pv 3) (cT (fG K B (p1 (pv 4))) (p2 (fG K B (p1 (pv 14))) (fG K B (p1 (pv 10)))))))))))))))))),?_⟩
  refine⟨_,rfl,_,rfl,_,rfl,_,_,rfl,rfl,p,a,_,rfl,hP,by decide,by decide,fun r1 H1 r10 r11 v1 b1=>.int (cP ?_)⟩
  obtain⟨n1,rfl⟩:=bi r10
  have r11:(n1:Int)<12:=r11
  refine⟨p,a,n1+2,(by show [V.ref p,V.int (2+(n1:Int))]=_;rw[show (2+(n1:Int))=((n1+2:Nat):Int) by omega]),hP.but b1 v1,by omega,fun ln us H2 ul und unm hln hln0 nln v2 b2=>?_⟩
  have b2:=b1.trans b2
  refine⟨_,rfl,_,rfl,p,a,ln,us,rfl,hP.but b2 v2,hln,und,unm,by omega,fun kt ks H3 rk T hd v3 b3=>?_⟩
  obtain⟨ys2,hp2⟩:=v2.at_dK
  have hln3:=b3 _ _ nln hln
  have b3:=b2.trans b3
  have unl:(List.map V.str us).length=us.length:=ae ..
  refine⟨(by show 0<=sizeLine;decide),fun lt hlt=>?_⟩
  have s4:=Same.new (o:=.lst []) hlt
  have lp4:Lp (upd H3 lt (.lst [])) lt []:=⟨[],cE,.nil⟩
  have nlt:lt≠p:=Ne.symm (v3.ne hlt)
  have nltn:ln≠lt:=cO hln3 hlt
  have flt:H lt=none:=b3.free nlt hlt
  have v4:=v3.same s4
  have b4:=b3.trans (But.of_same (p:=p) s4)
  have rk4:=rk.same s4
  have hln4:=s4 _ _ hln3
  generalize upd H3 lt (.lst [])=H4 at s4 lp4 v4 b4 rk4 hln4 ⊢
  refine⟨_,rfl,_,rfl,_,_,rfl,Or.inl ⟨_,.of hln4,rfl⟩,_,_,rfl,rfl,?_⟩
  refine⟨.inl ⟨by decide,by decide⟩,p,a,_,rfl,hP.but b4 v4,by rw[unl];omega,by rw[unl];omega,fun r5 H5 r50 r51 v5 b5=>?_⟩
  rw[unl] at r51
  obtain⟨ys4,hp4⟩:=v4.at_dK
  have lp5:=lp4.but hp4 b5
  have hln5:=b5 _ _ nln hln4
  have rk5:=gi hp4 b5 rk4
  have b5:=b4.trans b5
  have pickn:∀r:Int,0<=r->r<(((List.map V.str us).length:Nat):Int)->∃u∈us,atI (List.map V.str us) r=some (.str u):=fun r h0 h1=>by
   obtain⟨x,hx,mx⟩:=uF (xs:=List.map V.str us) (m:=(List.map V.str us).length) rfl h0 h1
   obtain⟨u,hu,rfl⟩:=ao.mp mx
   exact⟨u,hu,hx⟩
  have nmu:∀ {ps:List (Str × Str)},gV us ps->∀e∈ps,Nm e.1/\Nm e.2:=fun h e he=>⟨unm _ (h e he).1,unm _ (h e he).2⟩
  have s1000:1000<=sizeLine:=by decide
  clear hlt s4 hp2 hp4 rk v1 b1 v2 b2 v3 v4 b4 hln4 hln3 rk4 lp4
  refine⟨_,rfl,by omega,by omega,?_⟩
  refine jg (fun i σ H'=>∃(o5 o6 o7 o8 o9:Option V) (ts:Prs),σ=[some (.ref p),some (.int 13),some (.ref ln),some (.ref kt),some (.ref lt),o5,o6,o7,o8,o9,none,none,none,none,none]/\Lp H' lt ts/\TsI us ks ts/\ts.length<=i/\H' ln=some (.lst (List.map V.str us))/\Rep H' (.ref kt) (fo ks)/\DPV H' p a/\But p H H') ⟨none,none,none,none,none,[],rfl,lp5,(fun e he=>by cases he),ac 0,hln5,rk5,v5,b5⟩ ?_ ?_
  ·rintro i σ H6 hi ⟨o5, o6, o7, o8, o9, ts, rfl, lp6, ti, tl, hln6, rk6, v6, b6⟩
   have hi:i<26:=by
    have:i<(r5-0).toNat:=by simpa using hi
    omega
   obtain⟨ys6,hp6⟩:=v6.at_dK
   refine⟨_,rfl,_,rfl,_,rfl,_,_,rfl,Or.inl ⟨_,.of hln6,rfl⟩,p,a,_,rfl,hP.but b6 v6,by rw[unl];omega,by rw[unl];omega,fun r7 H7 r70 r71 v7 b7=>?_⟩
   obtain⟨u,hu,ax⟩:=pickn r7 r70 r71
   have lp7:=lp6.but hp6 b7
   have hln7:=b7 _ _ nln hln6
   have rk7:=gi hp6 b7 rk6
   have b7:=b6.trans b7
   refine .lst (.of hln7) ax ?_
   obtain⟨ys7,hp7⟩:=v7.at_dK
   refine⟨_,rfl,_,rfl,_,rfl,_,_,rfl,Or.inl ⟨_,.of hln7,rfl⟩,p,a,_,rfl,hP.but b7 v7,by rw[unl];omega,by rw[unl];omega,fun r8 H8 r80 r81 v8 b8=>?_⟩
   obtain⟨v,hv,ay⟩:=pickn r8 r80 r81
   have lp8:=lp7.but hp7 b8
   have hln8:=b8 _ _ nln hln7
   have rk8:=gi hp7 b8 rk7
   have b8:=b7.trans b8
   refine .lst (.of hln8) ay ?_
   refine⟨_,rfl,_,rfl,_,rfl,kt,us,ks,u,v,rfl,rk8,T,hu,hv,fun x H9 s9 hx9=>?_⟩
   have lp9:=lp8.same s9
   have hln9:=s9 _ _ hln8
   have rk9:=rk8.same s9
   have v9:=v8.same s9
   have b9:=b8.trans (But.of_same (p:=p) s9)
   cases qp:dF ks u v with
   | none =>
    rw[qp] at hx9
    have hx9:x=.non:=hx9
    subst hx9
    refine⟨_,rfl,.non ⟨_,rfl,cR (fun h=>absurd h (by decide)) (fun _=>?_)⟩⟩
    exact⟨_,_,_,_,_,ts,rfl,lp9,ti,by omega,hln9,rk9,v9,b9⟩
   | some pp =>
    obtain⟨kq,u1,v1⟩:=pp
    rw[qp] at hx9
    obtain⟨t,rfl,ht⟩:=hx9
    obtain⟨pu,pv,mu,mv,ne⟩:=T.part hu hv qp
    refine⟨_,rfl,.non ⟨_,rfl,cR (fun _=>?_) (fun h=>absurd (by simp) h)⟩⟩
    obtain⟨kn,hkn,ekn⟩:=ao.mp (T.par_in mu).2
    rw[pu] at ekn
    obtain⟨kq',c⟩:=kn
    have ekn:kq'=kq:=ekn
    subst ekn
    have uc:u1∈c:=T.kid mu (by rw[pu];exact hkn)
    have vc:v1∈c:=T.kid mv (by rw[pv];exact hkn)
    have cnd:c.Nodup:=by
     have:=T.knd
     unfold dJ at this
     rw[List.flatMap_def] at this
     exact(cB (ao.mpr ⟨(kq',c),hkn,rfl⟩)).nodup this
    refine⟨_,rfl,cP (iM rk9 T fun D dk hD hdk=>?_)⟩
    obtain⟨la,hva,hla⟩:=hdk _ hkn
    have sA:=Same.new (o:=.dK dk) hD
    refine⟨_,rfl,.tup (.of (sA _ _ ht)) at0 (.dic (.inl ⟨dk,.inr kq',.inl cE,rfl,hva.symm⟩) ?_)⟩
    have lpA:=lp9.same sA
    have hlnA:=sA _ _ hln9
    have rkA:=rk9.same sA
    have vA:=v9.same sA
    have bA:=b9.trans (But.of_same (p:=p) sA)
    have htA:=sA _ _ ht
    have hlaA:=sA _ _ hla
    generalize upd H9 D (.dK dk)=HA at sA lpA hlnA rkA vA bA htA hlaA ⊢
    refine ii ?_
    dsimp only
    refine jQ (fun σ' H'=>H'=HA/\∃(x y:Str) (o5:Option V),σ'=[some (.ref p),some (.int 13),some (.ref ln),some (.ref kt),some (.ref lt),o5,some (.str x),some (.str y),some (.ref t),some (.ref la),none,none,none,none,none]/\x∈us/\y∈us/\(dF ks x y).isSome=true) ?_ ?_
    ·rintro σ' H' ⟨rfl,x,y,o5,rfl,hx,hy,hpo⟩
     refine⟨_,rfl,_,rfl,(by show 2<=sizeLine;decide),fun t1 h1=>?_⟩
     obtain⟨refs,hr1,hr2⟩:=lpA
     have s1:=Same.new (o:=.tup [V.str x,V.str y]) h1
     have e1:upd H' t1 (.tup [V.str x,V.str y]) t1=some (.tup [V.str x,V.str y]):=cE
     have psi:gV us ts:=fun e he=>⟨(ti e he).1,(ti e he).2.1⟩
     have rl:=hr2.len
     rw[ae] at rl
     refine⟨_,rfl,.tr (s1 _ _ hr1) (hr2.same s1) (dG (s:=x) (t:=y) e1) (dC (nmu psi)) (iO (unm _ hx) (unm _ hy)) (by show 1<=16;decide) ⟨_,rfl,?_⟩⟩
     have vB:=vA.same s1
     have bB:=bA.trans (But.of_same (p:=p) s1)
     have hlnB:=s1 _ _ hlnA
     have rkB:=rkA.same s1
     have hr1B:=s1 _ _ hr1
     have hr2B:=hr2.same s1
     generalize upd H' t1 (.tup [V.str x,V.str y])=HB at s1 e1 vB bB hlnB rkB hr1B hr2B ⊢
     refine cR (fun _=>?_) (fun _=>⟨_,_,_,_,_,ts,rfl,⟨refs,hr1B,hr2B⟩,ti,by omega,hlnB,rkB,vB,bB⟩)
     refine⟨_,rfl,.inl ⟨rfl,_,.of hr1B⟩,_,rfl,_,rfl,(by show 2<=sizeLine;decide),fun t2 h2=>?_⟩
     have s2:=Same.new (o:=.tup [V.str x,V.str y]) h2
     have e2:upd HB t2 (.tup [V.str x,V.str y]) t2=some (.tup [V.str x,V.str y]):=cE
     have vC:=vB.same s2
     have bC:=bB.trans (But.of_same (p:=p) s2)
     have hlnC:=s2 _ _ hlnB
     have rkC:=rkB.same s2
     have hr1C:=s2 _ _ hr1B
     have hr2C:=hr2B.same s2
     generalize upd HB t2 (.tup [V.str x,V.str y])=HC at s2 e2 vC bC hlnC rkC hr1C hr2C ⊢
     refine cP ⟨lt,_,_,rfl,rfl,hr1C,by omega,?_⟩
     refine⟨_,_,_,_,_,ts++[(x,y)],rfl,Lp.app (e:=(x,y)) hr1C hr2C e2,fun e he=>?_,by rw[aJ];show ts.length+1<=_;omega,by rw[cJ nltn];exact hlnC,i9 hr1C But.upd rkC,vC.upd (Ne.symm nlt),bC.at flt⟩
     rcases aH.mp he with he | he
     ·exact ti e he
     ·rw[aO.mp he];exact⟨hx,hy,hpo⟩
    ·intro N hN
     refine⟨_,rfl,⟨_,_,rfl,hlaA⟩,_,rfl,.tup (.of htA) at1 (cP (sK hlaA cnd uc fun j1=>⟨_,rfl,⟨_,_,rfl,hlaA⟩,_,rfl,.tup (.of htA) at2 (cP (sK hlaA cnd vc fun j2=>⟨_,_,rfl,rfl,_,rfl,cR (fun _=>?_) (fun _=>?_)⟩))⟩))⟩
     ·refine⟨_,rfl,_,rfl,cP ⟨_,_,rfl,hN _ _ ⟨rfl,v,u,_,rfl,hv,hu,?_⟩⟩⟩
      have e:dF ks v u=_:=pZ "" (lin ks u) (lin ks v)
      rw[e]
      show ((dF ks u v).map _).isSome=true
      rw[qp];rfl
     ·exact hN _ _ ⟨rfl,u,v,_,rfl,hu,hv,by rw[qp];rfl⟩
  ·rintro σ H6 ⟨o5, o6, o7, o8, o9, ts, rfl, lp6, ti, tl, hln6, rk6, v6, b6⟩
   have tl:ts.length<=26:=by omega
   clear lp5 hln5 rk5 v5 b5
   refine⟨(by show 0<=sizeLine;decide),fun lw hlw=>?_⟩
   have nlw:lw≠p:=Ne.symm (v6.ne hlw)
   have nlwn:ln≠lw:=cO hln6 hlw
   have nlwt:lt≠lw:=by obtain⟨r,h1,_⟩:=lp6;exact cO h1 hlw
   have flw:H lw=none:=b6.free nlw hlw
   obtain⟨_,krefs,e0,hkt,krp⟩:=fQ rk6
   cases e0
   have krl:=krp.len
   rw[ae] at krl
   have few:=T.few
   obtain⟨J,eJ⟩:∃J:Prs->Hp->Prop,J=fun wn H'=>Lp H' lw wn/\(WnL ks wn/\wn.Nodup)/\Lp H' lt ts/\H' ln=some (.lst (List.map V.str us))/\H' kt=some (.tup krefs)/\RepAll H' krefs (ks.map eM)/\DPV H' p a/\But p H H':=⟨_,rfl⟩
   have Js:∀wn H' H'',J wn H'->Same H' H''->J wn H'':=fun wn H' H'' h s=>by
    rw[eJ] at h ⊢
    obtain⟨h1,h2,h3,h4,h5,h6,h7,h8⟩:=h
    exact⟨h1.same s,h2,h3.same s,s _ _ h4,s _ _ h5,h6.same s,h7.same s,h8.trans (But.of_same s)⟩
   have Jd:∀wn H' H'',J wn H'->But p H' H''->DPV H'' p a->J wn H'':=fun wn H' H'' h b v=>by
    rw[eJ] at h ⊢
    obtain⟨h1,h2,h3,h4,h5,h6,h7,h8⟩:=h
    obtain⟨ys,hp⟩:=h7.at_dK
    exact⟨h1.but hp b,h2,h3.but hp b,b _ _ nln h4,fh hp b h5,gm (iY hp b) h6,v,h8.trans b⟩
   have Ji:∀wn H' (refs:List V) (t:Addr) (e:Str × Str) (m:Nat),J wn H'->H' lw=some (.lst refs)->RepAll H' refs (wn.map cW)->H' t=some (.tup [.str e.1,.str e.2])->((e.1="first"/\∃k∈ks,k.2.head? = some e.2)∨(e.1="last"/\∃k∈ks,k.2.getLast? = some e.2))->e∉wn->J (wn.take m++e::wn.drop m) (upd H' lw (.lst (refs.take m++.ref t::refs.drop m))):=fun wn H' refs t e m h hr1 hr2 ht he hnw=>by
    rw[eJ] at h ⊢
    obtain⟨h1,h2,h3,h4,h5,h6,h7,h8⟩:=h
    refine⟨Lp.ins hr1 hr2 m ht,⟨fun x hx=>?_,ve h2.2 hnw⟩,h3.other hr1 nlwt,by rw[cJ nlwn];exact h4,by rw[cJ (eK h5 hr1 (by intro z;cases z))];exact h5,dy (gn hr1 But.upd) h6,h7.upd (Ne.symm nlw),h8.at flw⟩
    rcases jr hx with rfl | hx
    ·exact he
    ·exact h2.1 x hx
   have J0:J [] (upd H6 lw (.lst [])):=by
    rw[eJ]
    have s:=Same.new (o:=.lst []) hlw
    exact⟨⟨[],cE,.nil⟩,⟨(fun e he=>by cases he),List.nodup_nil⟩,lp6.same s,s _ _ hln6,s _ _ hkt,krp.same s,v6.same s,b6.trans (But.of_same s)⟩
   have Jv:∀wn H',J wn H'->DPV H' p a/\But p H H'/\H' kt=some (.tup krefs)/\RepAll H' krefs (ks.map eM)/\Lp H' lw wn:=fun wn H' h=>by rw[eJ] at h;exact⟨h.2.2.2.2.2.2.1,h.2.2.2.2.2.2.2,h.2.2.2.2.1,h.2.2.2.2.2.1,h.1⟩
   generalize upd H6 lw (.lst [])=H7 at J0 ⊢
   refine⟨_,rfl,kt,rfl,⟨_,.of (Jv _ _ J0).2.2.1⟩,?_⟩
   refine gk (xs:=krefs) (fun i σ H'=>∃(o5 o6 o7 o8 o9 o11 o12:Option V) (wn:Prs),σ=[some (.ref p),some (.int 13),some (.ref ln),some (.ref kt),some (.ref lt),o5,o6,o7,o8,o9,some (.ref lw),o11,o12,none,none]/\J wn H'/\(∀e∈wn,∃k∈ks.take i,e.2∈k.2)/\wn.length<=2 * i) ⟨o5,o6,o7,o8,o9,none,none,[],rfl,J0,(fun e he=>by cases he),aP _⟩ ?_ ?_ ?_
   ·rintro i σ H' hi ⟨_,_,_,_,_,_,_,wn,rfl,j,_⟩
    exact .of (Jv _ _ j).2.2.1
   ·rintro i x σ H8 hx ⟨o5, o6, o7, o8, o9, o11, o12, wn, rfl, j8, wt, wl⟩
    obtain⟨v8,b8,hkt8,krp8,_⟩:=Jv _ _ j8
    obtain⟨kn,ta,la,hki,rfl,hta,hla⟩:=gT krp8 hx
    have hkm:=au hki
    have hil:=(ah.mp hki).1
    have up1:∀k,k∈ks.take i->k∈ks.take (i+1):=fun k hk=>by rw[av];exact bH _ hk
    have kn1:kn∈ks.take (i+1):=by rw[av,hki];exact be _ (by show kn∈[kn];simp)
    refine⟨ta,_,rfl,.of hta,rfl,_,_,rfl,_,_,rfl,rfl,?_⟩
    refine⟨_,rfl,p,a,6,rfl,hP.but b8 v8,by decide,by decide,fun pk H9 _ _ v9 b9=>?_⟩
    obtain⟨ys8,hp8⟩:=v8.at_dK
    have j9:=Jd _ _ _ j8 b9 v9
    have hla9:=fh hp8 b9 hla
    refine ii ?_
    dsimp only
    refine jQ (fun σ' H'=>∃(wn:Prs) (o5 o6 o7 o8:Option V),σ'=[some (.ref p),some (.int 13),some (.ref ln),some (.ref kt),some (.ref lt),o5,o6,o7,o8,some (.ref la),some (.ref lw),some (.str kn.1),some (.int pk),none,none]/\J wn H'/\(∀e∈wn,(∃k∈ks.take i,e.2∈k.2)∨(e.1="first"/\e.2∈kn.2))/\wn.length<=2 * i+1/\H' la=some (.tup (kn.2.map V.str))) ?_ ?_
    ·rintro σ' HA ⟨wn,o5,o6,o7,o8,rfl,jA,wtA,wlA,hlaA⟩
     have wt1:∀e∈wn,∃k∈ks.take (i+1),e.2∈k.2:=fun e he=>by
      rcases wtA e he with⟨k,hk,q⟩ | ⟨_,q⟩
      ·exact⟨k,up1 k hk,q⟩
      ·exact⟨kn,kn1,q⟩
     refine⟨_,rfl,_,_,rfl,Or.inr ⟨_,.of hlaA,rfl⟩,_,_,rfl,rfl,_,rfl,cR (fun h=>?_) (fun _=>fB ⟨_,_,_,_,_,_,_,wn,rfl,jA,wt1,by omega⟩)⟩
     have h:(1:Int)<(((kn.2.map V.str).length:Nat):Int):=aM h
     rw[ae] at h
     refine⟨_,rfl,(by show 2<=sizeLine;decide),fun tq htq=>.seq (.inr (.of cE)) rfl rfl ⟨_,rfl,?_⟩⟩
     have sB:=Same.new (o:=.tup [V.int 2,V.int 3]) htq
     have jB:=Js _ _ _ jA sB
     have hlaB:=sB _ _ hlaA
     generalize upd HA tq (.tup [V.int 2,V.int 3])=HB at sB jB hlaB ⊢
     refine cR (fun _=>?_) (fun _=>⟨_,_,_,_,_,_,_,wn,rfl,jB,wt1,by omega⟩)
     obtain⟨vB,bB,_,_,refs,hr1,hr2⟩:=Jv _ _ jB
     have rl:=hr2.len
     rw[ae] at rl
     obtain⟨ysB,hpB⟩:=vB.at_dK
     refine⟨_,rfl,.inl ⟨rfl,_,.of hr1⟩,_,rfl,_,rfl,_,_,rfl,Or.inl ⟨_,.of hr1,rfl⟩,.int ⟨p,a,_,rfl,hP.but bB vB,by omega,by omega,fun r3 HC r30 r31 vC bC=>?_⟩⟩
     have jC:=Jd _ _ _ jB bC vC
     have hlaC:=fh hpB bC hlaB
     obtain⟨_,_,_,_,refs2,hr3,hr4⟩:=Jv _ _ jC
     have rl2:=hr4.len
     rw[ae] at rl2
     obtain⟨m,rfl⟩:=bi r30
     obtain⟨z,hz⟩:∃z,kn.2.getLast? = some z:=by
      cases q:kn.2.getLast? with
      | none=>rw[List.getLast?_eq_none_iff] at q;rw[q] at h;exact absurd h (by decide)
      | some z=>exact⟨z,rfl⟩
     have az:atI (kn.2.map V.str) (-1)=some (.str z):=by
      obtain⟨ys,e⟩:=List.getLast?_eq_some_iff.mp hz
      rw[e,aj]
      exact mJ _ _
     refine⟨_,rfl,_,rfl,.tup (.of hlaC) az (cP ⟨(by show 2<=sizeLine;decide),fun t2 h2=>?_⟩)⟩
     have s2:=Same.new (o:=.tup [V.str "last",V.str z]) h2
     have e2:upd HC t2 (.tup [V.str "last",V.str z]) t2=some (.tup [V.str "last",V.str z]):=cE
     have jD:=Js _ _ _ jC s2
     have hr3:=s2 _ _ hr3
     have hr4:=hr4.same s2
     generalize upd HC t2 (.tup [V.str "last",V.str z])=HD at s2 e2 jD hr3 hr4 ⊢
     refine cP ⟨lw,_,_,m,_,rfl,rfl,rfl,hr3,by omega,by omega,?_⟩
     have hzk:z∈kn.2:=cA hz
     refine⟨_,_,_,_,_,_,_,_,rfl,Ji _ _ refs2 t2 ("last",z) m jD hr3 hr4 e2 (.inr ⟨rfl,kn,hkm,hz⟩) (fun w=>?_),fun e he=>?_,?_⟩
     ·rcases wtA _ w with q | ⟨q,_⟩
      ·exact qJ T hki hzk q
      ·exact absurd (show ("last":Str)="first" from q) (by decide)
     ·rcases jr he with rfl | he
      ·exact⟨kn,kn1,hzk⟩
      ·exact wt1 e he
     rw[aJ,aF,aL,bU];omega
    ·intro N hN
     have fin:∀H',J wn H'->H' la=some (.tup (kn.2.map V.str))->N [some (.ref p),some (.int 13),some (.ref ln),some (.ref kt),some (.ref lt),o5,o6,o7,o8,some (.ref la),some (.ref lw),some (.str kn.1),some (.int pk),none,none] H':=fun H' j h=>hN _ _ ⟨wn,_,_,_,_,rfl,j,fun e he=>.inl (wt e he),by omega,h⟩
     refine⟨_,rfl,(by show 0<=sizeLine;decide),fun t0 h0=>?_⟩
     have sA:=Same.new (o:=.tup []) h0
     have jA:=Js _ _ _ j9 sA
     have hlaA:=sA _ _ hla9
     refine⟨la,t0,_,rfl,rfl,.of hlaA,cE,_,rfl,?_⟩
     generalize upd H9 t0 (.tup [])=HA at sA jA hlaA ⊢
     cases ek:kn.2 with
     | nil=>exact fB (fin _ jA hlaA)
     | cons z r =>
      refine gI ⟨_,rfl,(by show 2<=sizeLine;decide),fun tq htq=>.seq (.inr (.of cE)) rfl rfl ⟨_,rfl,?_⟩⟩
      have sB:=Same.new (o:=.tup [V.int 1,V.int 3]) htq
      have jB:=Js _ _ _ jA sB
      have hlaB:=sB _ _ hlaA
      generalize upd HA tq (.tup [V.int 1,V.int 3])=HB at sB jB hlaB ⊢
      refine cR (fun _=>?_) (fun _=>fin _ jB hlaB)
      obtain⟨vB,bB,_,_,refs,hr1,hr2⟩:=Jv _ _ jB
      have rl:=hr2.len
      rw[ae] at rl
      obtain⟨ysB,hpB⟩:=vB.at_dK
      refine⟨_,rfl,.inl ⟨rfl,_,.of hr1⟩,_,rfl,_,rfl,_,_,rfl,Or.inl ⟨_,.of hr1,rfl⟩,.int ⟨p,a,_,rfl,hP.but bB vB,by omega,by omega,fun r3 HC r30 r31 vC bC=>?_⟩⟩
      have jC:=Jd _ _ _ jB bC vC
      have hlaC:=fh hpB bC hlaB
      obtain⟨_,_,_,_,refs2,hr3,hr4⟩:=Jv _ _ jC
      have rl2:=hr4.len
      rw[ae] at rl2
      obtain⟨m,rfl⟩:=bi r30
      have az:atI (kn.2.map V.str) 0=some (.str z):=by rw[ek];exact at0
      refine⟨_,rfl,.tup (.of hlaC) az (cP ⟨(by show 2<=sizeLine;decide),fun t2 h2=>?_⟩)⟩
      have s2:=Same.new (o:=.tup [V.str "first",V.str z]) h2
      have e2:upd HC t2 (.tup [V.str "first",V.str z]) t2=some (.tup [V.str "first",V.str z]):=cE
      have jD:=Js _ _ _ jC s2
      have hlaD:=s2 _ _ hlaC
      have hr3:=s2 _ _ hr3
      have hr4:=hr4.same s2
      generalize upd HC t2 (.tup [V.str "first",V.str z])=HD at s2 e2 jD hr3 hr4 hlaD ⊢
      refine cP ⟨lw,_,_,m,_,rfl,rfl,rfl,hr3,by omega,by omega,?_⟩
      have hzk:z∈kn.2:=by rw[ek];exact bh ..
      refine hN _ _ ⟨_,_,_,_,_,rfl,Ji _ _ refs2 t2 ("first",z) m jD hr3 hr4 e2 (.inl ⟨rfl,kn,hkm,by rw[ek];rfl⟩) (fun w=>qJ T hki hzk (wt _ w)),fun e he=>(jr he).elim (fun q=>.inr (by rw[q];exact⟨rfl,hzk⟩)) fun q=>.inl (wt e q),?_,by rw[cJ (eK hlaD hr3 (by intro z;cases z))];exact hlaD⟩
      rw[aJ,aF,aL,bU];omega
   ·rintro σ H8 ⟨o5, o6, o7, o8, o9, o11, o12, wn, rfl, j8, _, wl⟩
    have wl:wn.length<=122:=by omega
    rw[eJ] at j8
    obtain⟨⟨wrefs,hw1,hw2⟩,⟨wok,wnd⟩,⟨trefs,ht1,ht2⟩,hln8,hkt8,krp8,v8,b8⟩:=j8
    clear Js Jd Ji J0 Jv eJ J
    refine⟨_,rfl,_,rfl,lt,_,rfl,.of ht1,fun tt htt=>⟨(by show 0<=sizeLine;decide),fun te hte=>⟨_,rfl,lw,wrefs,rfl,.of (Same.new hte _ _ (Same.new htt _ _ hw1)),fun tw htw=>cP ⟨(by show 4<=sizeLine;decide),fun hq hhq=>?_⟩⟩⟩⟩
    ·have s1:=Same.new (o:=.tup trefs) htt
     have e1:upd H8 tt (.tup trefs) tt=some (.tup trefs):=cE
     generalize upd H8 tt (.tup trefs)=H9 at s1 e1 hte htw hhq ⊢
     have s2:=Same.new (o:=.tup []) hte
     have e2:upd H9 te (.tup []) te=some (.tup []):=cE
     have e1:=s2 _ _ e1
     have s12:=s1.trans s2
     generalize upd H9 te (.tup [])=HA at s12 e1 e2 htw hhq ⊢
     have s3:=Same.new (o:=.tup wrefs) htw
     have e3:upd HA tw (.tup wrefs) tw=some (.tup wrefs):=cE
     have e1:=s3 _ _ e1
     have e2:=s3 _ _ e2
     have s13:=s12.trans s3
     generalize upd HA tw (.tup wrefs)=HB at s13 e1 e2 e3 hhq ⊢
     have s4:=Same.new (o:=.tup [V.ref kt,V.ref tt,V.ref te,V.ref tw]) hhq
     have e4:upd HB hq (.tup [V.ref kt,V.ref tt,V.ref te,V.ref tw]) hq=some (.tup [V.ref kt,V.ref tt,V.ref te,V.ref tw]):=cE
     have sC:=s13.trans s4
     have rh:Rep (upd HB hq (.tup [V.ref kt,V.ref tt,V.ref te,V.ref tw])) (.ref hq) (df ks ts [] wn):=fO e4 (.tup (sC _ _ hkt8) (krp8.same sC)) (.tup (s4 _ _ e1) (ht2.same sC)) (.tup (s4 _ _ e2) .nil) (.tup (s4 _ _ e3) (hw2.same sC))
     have rkC:Rep (upd HB hq (.tup [V.ref kt,V.ref tt,V.ref te,V.ref tw])) (.ref kt) (fo ks):=.tup (sC _ _ hkt8) (krp8.same sC)
     have vC:=v8.same sC
     have bC:=b8.trans (But.of_same (p:=p) sC)
     have hlnC:=sC _ _ hln8
     have lpt:Lp (upd HB hq (.tup [V.ref kt,V.ref tt,V.ref te,V.ref tw])) lt ts:=⟨trefs,sC _ _ ht1,ht2.same sC⟩
     have lpw:Lp (upd HB hq (.tup [V.ref kt,V.ref tt,V.ref te,V.ref tw])) lw wn:=⟨wrefs,sC _ _ hw1,hw2.same sC⟩
     generalize upd HB hq (.tup [V.ref kt,V.ref tt,V.ref te,V.ref tw])=HC at rh rkC vC bC hlnC lpt lpw ⊢
     clear s1 s12 s13 s4 sC e1 e2 e3 e4 hhq htw hte htt hw1 hw2 ht1 ht2 hln8 hkt8 krp8 v8 b8 lp6 hln6 rk6 v6 b6 hkt krp hlw
     refine⟨(by show 0<=sizeLine;decide),fun lx hlx=>?_⟩
     have nlx:lx≠p:=Ne.symm (vC.ne hlx)
     have nlxn:ln≠lx:=cO hlnC hlx
     have nlxt:lt≠lx:=by obtain⟨r,h1,_⟩:=lpt;exact cO h1 hlx
     have nlxw:lw≠lx:=by obtain⟨r,h1,_⟩:=lpw;exact cO h1 hlx
     have flx:H lx=none:=bC.free nlx hlx
     have psi:gV us ts:=fun e he=>⟨(ti e he).1,(ti e he).2.1⟩
     obtain⟨J,eJ⟩:∃J:Prs->Hp->Prop,J=fun ws H'=>Lp H' lx ws/\gV us ws/\Lp H' lt ts/\Lp H' lw wn/\H' ln=some (.lst (List.map V.str us))/\Rep H' (.ref hq) (df ks ts [] wn)/\Rep H' (.ref kt) (fo ks)/\DPV H' p a/\But p H H':=⟨_,rfl⟩
     have Js:∀ws H' H'',J ws H'->Same H' H''->J ws H'':=fun ws H' H'' h s=>by
      rw[eJ] at h ⊢
      obtain⟨h1,h2,h3,h4,h5,h6,h7,h8,h9⟩:=h
      exact⟨h1.same s,h2,h3.same s,h4.same s,s _ _ h5,h6.same s,h7.same s,h8.same s,h9.trans (But.of_same s)⟩
     have Jd:∀ws H' H'',J ws H'->But p H' H''->DPV H'' p a->J ws H'':=fun ws H' H'' h b v=>by
      rw[eJ] at h ⊢
      obtain⟨h1,h2,h3,h4,h5,h6,h7,h8,h9⟩:=h
      obtain⟨ys,hp⟩:=h8.at_dK
      exact⟨h1.but hp b,h2,h3.but hp b,h4.but hp b,b _ _ nln h5,kz hp b h6,gi hp b h7,v,h9.trans b⟩
     have J0:J [] (upd HC lx (.lst [])):=by
      rw[eJ]
      have s:=Same.new (o:=.lst []) hlx
      exact⟨⟨[],cE,.nil⟩,(fun e he=>by cases he),lpt.same s,lpw.same s,s _ _ hlnC,rh.same s,rkC.same s,vC.same s,bC.trans (But.of_same s)⟩
     have Jv:∀ws H',J ws H'->DPV H' p a/\But p H H'/\H' ln=some (.lst (List.map V.str us))/\Rep H' (.ref hq) (df ks ts [] wn)/\Rep H' (.ref kt) (fo ks)/\Lp H' lx ws/\Lp H' lt ts/\gV us ws/\Lp H' lw wn:=fun ws H' h=>by rw[eJ] at h;exact⟨h.2.2.2.2.2.2.2.1,h.2.2.2.2.2.2.2.2,h.2.2.2.2.1,h.2.2.2.2.2.1,h.2.2.2.2.2.2.1,h.1,h.2.2.1,h.2.1,h.2.2.2.1⟩
     have Ja:∀ws H' (refs:List V) (t:Addr) (e:Str × Str),J ws H'->H' lx=some (.lst refs)->RepAll H' refs (ws.map cW)->H' t=some (.tup [.str e.1,.str e.2])->e.1∈us->e.2∈us->J (ws++[e]) (upd H' lx (.lst (refs++[.ref t]))):=fun ws H' refs t e h hr1 hr2 ht he1 he2=>by
      rw[eJ] at h ⊢
      obtain⟨h1,h2,h3,h4,h5,h6,h7,h8,h9⟩:=h
      refine⟨Lp.app hr1 hr2 ht,fun x hx=>?_,h3.other hr1 nlxt,h4.other hr1 nlxw,by rw[cJ nlxn];exact h5,qx hr1 But.upd h6,i9 hr1 But.upd h7,h8.upd (Ne.symm nlx),h9.at flx⟩
      rcases aH.mp hx with hx | hx
      ·exact h2 x hx
      ·rw[aO.mp hx];exact⟨he1,he2⟩
     generalize upd HC lx (.lst [])=HD at J0 ⊢
     obtain⟨vD,bD,_⟩:=Jv _ _ J0
     refine⟨_,rfl,p,a,7,rfl,hP.but bD vD,by decide,by decide,fun rw_ HE w0 w1 vE bE=>?_⟩
     have jE:=Jd _ _ _ J0 bE vE
     refine⟨_,rfl,by omega,by omega,?_⟩
     refine jg (fun i σ H'=>∃(o5 o6 o7 o8 o9 o11 o12:Option V) (ws:Prs),σ=[some (.ref p),some (.int 13),some (.ref ln),some (.ref kt),some (.ref lt),o5,o6,o7,o8,o9,some (.ref lw),o11,o12,some (.ref hq),some (.ref lx)]/\J ws H'/\ws.length<=i) ⟨o5,o6,o7,o8,o9,o11,o12,[],rfl,jE,aP _⟩ ?_ ?_
     ·rintro i σ H9 hi ⟨o5,o6,o7,o8,o9,o11,o12,ws,rfl,j9,wl9⟩
      have hi:i<7:=by
       have:i<(rw_-0).toNat:=by simpa using hi
       omega
      obtain⟨v9,b9,hln9,_⟩:=Jv _ _ j9
      refine⟨_,rfl,_,rfl,_,rfl,_,_,rfl,Or.inl ⟨_,.of hln9,rfl⟩,p,a,_,rfl,hP.but b9 v9,by rw[unl];omega,by rw[unl];omega,fun r7 HF r70 r71 v10 b10=>?_⟩
      obtain⟨u,hu,ax⟩:=pickn r7 r70 r71
      have jF:=Jd _ _ _ j9 b10 v10
      obtain⟨vF,bF,hlnF,_⟩:=Jv _ _ jF
      refine .lst (.of hlnF) ax ?_
      refine⟨_,rfl,_,rfl,_,rfl,_,_,rfl,Or.inl ⟨_,.of hlnF,rfl⟩,p,a,_,rfl,hP.but bF vF,by rw[unl];omega,by rw[unl];omega,fun r8 HG r80 r81 v11 b11=>?_⟩
      obtain⟨v,hv,ay⟩:=pickn r8 r80 r81
      have jG:=Jd _ _ _ jF b11 v11
      obtain⟨vG,bG,hlnG,_,rkG,_⟩:=Jv _ _ jG
      refine .lst (.of hlnG) ay ?_
      refine⟨_,rfl,_,rfl,_,rfl,kt,us,ks,u,v,rfl,rkG,T,hu,hv,fun x HI sI hxI=>?_⟩
      have jI:=Js _ _ _ jG sI
      cases qp:dF ks u v with
      | none =>
       rw[qp] at hxI
       have hxI:x=.non:=hxI
       subst hxI
       refine⟨_,rfl,.non ⟨_,rfl,cR (fun h=>absurd h (by decide)) (fun _=>fB ?_)⟩⟩
       exact⟨_,_,_,_,_,_,_,ws,rfl,jI,by omega⟩
      | some pp =>
       obtain⟨kq,u1,v1⟩:=pp
       rw[qp] at hxI
       obtain⟨t,rfl,ht⟩:=hxI
       obtain⟨pu,pv,mu,mv,ne⟩:=T.part hu hv qp
       refine⟨_,rfl,.non ⟨_,rfl,cR (fun _=>?_) (fun h=>absurd (by simp) h)⟩⟩
       obtain⟨_,_,_,_,_,⟨xr,hx1,hx2⟩,⟨tr,ht1,ht2⟩,wsi,_⟩:=Jv _ _ jI
       have xl:=hx2.len
       have trl:=ht2.len
       rw[ae] at xl trl
       refine⟨_,rfl,_,rfl,(by show 2<=sizeLine;decide),fun t1 h1=>?_⟩
       have s1:=Same.new (o:=.tup [V.str u,V.str v]) h1
       have e1:upd HI t1 (.tup [V.str u,V.str v]) t1=some (.tup [V.str u,V.str v]):=cE
       have jK:=Js _ _ _ jI s1
       have htK:=s1 _ _ ht
       have hx1:=s1 _ _ hx1
       have ht1:=s1 _ _ ht1
       have hx2:=hx2.same s1
       have ht2:=ht2.same s1
       generalize upd HI t1 (.tup [V.str u,V.str v])=HK at s1 e1 jK htK hx1 ht1 hx2 ht2 ⊢
       refine⟨_,rfl,_,rfl,.lst ht1 hx1 (by omega) fun lq hlq=>?_⟩
       have s2:=Same.new (o:=.lst (tr++xr)) hlq
       have e2:upd HK lq (.lst (tr++xr)) lq=some (.lst (tr++xr)):=cE
       have jL:=Js _ _ _ jK s2
       have htL:=s2 _ _ htK
       have e1:=s2 _ _ e1
       have rq:RepAll (upd HK lq (.lst (tr++xr))) (tr++xr) ((ts++ws).map cW):=by rw[aj];exact RepAll.append (ht2.same s2) (hx2.same s2)
       generalize upd HK lq (.lst (tr++xr))=HL at s2 e2 jL htL e1 rq ⊢
       have psw:gV us (ts++ws):=fun e he=>(aH.mp he).elim (psi e) (wsi e)
       refine .tr e2 rq (dG (s:=u) (t:=v) e1) (dC (nmu psw)) (iO (unm _ hu) (unm _ hv)) (by show 1<=16;decide) ⟨_,rfl,?_⟩
       refine cR (fun _=>?_) (fun _=>⟨_,_,_,_,_,_,_,ws,rfl,jL,by omega⟩)
       obtain⟨kn,hkn,ekn⟩:=ao.mp (T.par_in mu).2
       rw[pu] at ekn
       obtain⟨kq',c⟩:=kn
       have ekn:kq'=kq:=ekn
       subst ekn
       obtain⟨_,_,_,rhL,_⟩:=Jv _ _ jL
       refine⟨_,rfl,.tup (.of htL) at1 ⟨_,rfl,_,rfl,.tup (.of htL) at0 (cP ⟨hq,us,ks,ts,[],wn,kq',c,rfl,rhL,T,ti,fun e he=>?_,hkn,by omega,by omega,fun le er es HM sM hle0 hle rpe el esi _=>?_⟩)⟩⟩
       ·rcases wok e he with⟨_,k',hk',hh⟩ | ⟨_,k',hk',hh⟩
        ·exact T.isIn hk' (List.mem_of_mem_head? hh)
        ·exact T.isIn hk' (cA hh)
       ·have jM:=Js _ _ _ jL sM
        have htM:=sM _ _ htL
        refine⟨_,rfl,.tup (.of htM) at2 (cP ⟨le,er,us,es,v1,rfl,hle,rpe,esi,mv,T.len,fun lr seen HN sN hlr0 hlr hiff seen60=>?_⟩)⟩
        have jN:=Js _ _ _ jM sN
        refine .seq (.inl (.of hlr)) rfl (gu _) ⟨_,rfl,cR (fun _=>?_) (fun _=>⟨_,_,_,_,_,_,_,ws,rfl,jN,by omega⟩)⟩
        obtain⟨_,_,_,_,_,⟨xr,hx1,hx2⟩,_⟩:=Jv _ _ jN
        have xl:=hx2.len
        rw[ae] at xl
        refine⟨_,rfl,.inl ⟨rfl,_,.of hx1⟩,_,rfl,_,rfl,(by show 2<=sizeLine;decide),fun t2 h2=>?_⟩
        have s3:=Same.new (o:=.tup [V.str u,V.str v]) h2
        have e3:upd HN t2 (.tup [V.str u,V.str v]) t2=some (.tup [V.str u,V.str v]):=cE
        have jO:=Js _ _ _ jN s3
        have hx1:=s3 _ _ hx1
        have hx2:=hx2.same s3
        generalize upd HN t2 (.tup [V.str u,V.str v])=HO_ at s3 e3 jO hx1 hx2 ⊢
        refine cP ⟨lx,_,_,rfl,rfl,hx1,by omega,?_⟩
        refine⟨_,_,_,_,_,_,_,ws++[(u,v)],rfl,Ja _ _ xr t2 (u,v) jO hx1 hx2 e3 hu hv,?_⟩
        rw[aJ];show ws.length+1<=i+1;omega
     ·rintro σ H9 ⟨o5,o6,o7,o8,o9,o11,o12,ws,rfl,j9,wl9⟩
      have wl9:ws.length<=7:=by omega
      obtain⟨v9,b9,_,_,rk9,⟨xr,hx1,hx2⟩,⟨tr,ht1,ht2⟩,wsi,⟨wr,hw1,hw2⟩⟩:=Jv _ _ j9
      refine⟨_,rfl,_,rfl,lt,tr,rfl,.of ht1,fun tt htt=>⟨_,rfl,lx,xr,rfl,.of (Same.new htt _ _ hx1),fun te hte=>⟨_,rfl,lw,wr,rfl,.of (Same.new hte _ _ (Same.new htt _ _ hw1)),fun tw htw=>cP ⟨(by show 4<=sizeLine;decide),fun q hq'=>?_⟩⟩⟩⟩
      have s1:=Same.new (o:=.tup tr) htt
      have e1:upd H9 tt (.tup tr) tt=some (.tup tr):=cE
      generalize upd H9 tt (.tup tr)=HF at s1 e1 hte htw hq' ⊢
      have s2:=Same.new (o:=.tup xr) hte
      have e2:upd HF te (.tup xr) te=some (.tup xr):=cE
      have e1:=s2 _ _ e1
      have s12:=s1.trans s2
      generalize upd HF te (.tup xr)=HG at s12 e1 e2 htw hq' ⊢
      have s3:=Same.new (o:=.tup wr) htw
      have e3:upd HG tw (.tup wr) tw=some (.tup wr):=cE
      have e1:=s3 _ _ e1
      have e2:=s3 _ _ e2
      have s13:=s12.trans s3
      generalize upd HG tw (.tup wr)=HI at s13 e1 e2 e3 hq' ⊢
      have s4:=Same.new (o:=.tup [V.ref kt,V.ref tt,V.ref te,V.ref tw]) hq'
      have sC:=s13.trans s4
      exact k q us ks ts ws wn _ (fO cE (rk9.same sC) (.tup (s4 _ _ e1) (ht2.same sC)) (.tup (s4 _ _ e2) (hx2.same sC)) (.tup (s4 _ _ e3) (hw2.same sC))) T hd (by omega) ti wsi wok wnd tl wl9 wl (v9.same sC) (b9.trans (But.of_same sC))
def KI (kvs:List (Key × V)) (us:List Str):Prop:=∀z,dg kvs z≠none->∃u∈us,z=.inr u
theorem KI.nil {us:List Str}:KI [] us:=fun z h=>absurd rfl h
theorem KI.put {kvs:List (Key × V)}{us:List Str}{u:Str}{v:V}(h:KI kvs us) (hu:u∈us):KI (dE kvs (.inr u) v) us:=fun z hz=>by
 by_cases q:z=.inr u
 ·exact⟨u,hu,q⟩
 ·rw[gt,if_neg q] at hz
  exact h z hz
def lF:Sp:=fun vs H Q _=>∃(q:Addr) (us:List Str) (ks:Kn) (ts ws wn:List (Str × Str)),vs=[.ref q]/\Rep H (.ref q) (df ks ts ws wn)/\Tre us ks/\∀d kvs H',Same H H'->H d=none->H' d=some (.dK kvs)->ArK kvs us ks->KI kvs us->kvs.length<=us.length->Q (.ref d) H'
theorem scHomes:FnScope ["house","table","knot","child"] ["house"] (cI p5):=⟨rfl,rfl,rfl,by decide +kernel,rfl,by decide +kernel,by decide +kernel⟩
theorem xN {f:Addr}{fd:FuncData}(F:Fun K "homes" "homes" p5 f fd) (B:Blt mg):FnOk P w K mg base CX0 1 f fd ["house"] lF := by
 refine F.ok scHomes (fun vs H Q E h=>?_) (fun cdv A outer s H vs Q E hr h=>?_)
 ·obtain⟨q,us,ks,ts,ws,wn,rfl,_⟩:=h
  rfl
 ·obtain⟨q, us, ks, ts, ws, wn, rfl, R, T, k⟩ := h
  have nd:=scHomes.nd
  refine⟨_,(cF (pst 1 nd mD)
   (cF (dM PassesOwn.never rfl (dP K (px K hr (pv 0) cG)) (cN (i:=2) nd rfl (Or.inl rfl)) (cH (dM PassesOwn.never rfl (dP K (px K hr (pv 2) cG)) (cN (i:=3) nd rfl (Or.inl rfl)) (cH (gM (px K hr (pv 2) cG) (hW (pv 1) (pv 3) (iQ hr.units)))))))
   (cH (cL (pv 1))))),?_⟩
  obtain⟨q',a,b,c,d4,e0,hq,R1,_⟩:=dI R
  cases e0
  obtain⟨a',refs,e0,ha,rp⟩:=fQ R1
  cases e0
  have rlen:=rp.len
  rw[ae] at rlen
  have k60:(dJ ks).length<=60:=by rw[T.perm.length_eq];exact T.len
  intro d hd
  have s0:=Same.new (o:=.dK []) hd
  refine⟨_,rfl,.tup (.of (s0 _ _ hq)) rfl ⟨a,rfl,⟨_,.of (s0 _ _ ha)⟩,?_⟩⟩
  refine gk (xs:=refs) (fun i σ H'=>∃o2 o3 kvs,σ=[some (.ref q),some (.ref d),o2,o3]/\ArN H H' d ks i 0 kvs/\KI kvs us) ?_ ?_ ?_ ?_
  ·exact⟨none,none,[],rfl,⟨s0,cE,aP _,(fun k hk=>by simp at hk),fun k _ u hu=>by simp at hu⟩,KI.nil⟩
  ·rintro i σ H' hi ⟨o2,o3,kvs,rfl,ar,ki⟩
   exact .of (ar.sm _ _ ha)
  ·rintro i x σ H' hx ⟨o2,o3,kvs,rfl,ar,ki⟩
   obtain⟨kn,ta,la,hk,rfl,hta,hla⟩:=gT rp hx
   refine⟨_,rfl,.tup (.of (ar.sm _ _ hta)) rfl ⟨la,rfl,⟨_,.of (ar.sm _ _ hla)⟩,?_⟩⟩
   refine gk (xs:=kn.2.map V.str) (fun j σ H'=>∃o3 kvs,σ=[some (.ref q),some (.ref d),some (.ref ta),o3]/\ArN H H' d ks i j kvs/\KI kvs us) ?_ ?_ ?_ ?_
   ·exact⟨o3,kvs,rfl,ar,ki⟩
   ·rintro j σ H' hj ⟨o3,kvs,rfl,ar,ki⟩
    exact .of (ar.sm _ _ hla)
   ·rintro j y σ H' hy ⟨o3,kvs,rfl,ar,ki⟩
    obtain⟨u,hu,rfl⟩:=dH hy
    have hr:=ar.room hk (ah.mp hu).1 k60
    exact⟨_,rfl,.tup (.of (ar.sm _ _ hta)) rfl ⟨_,rfl,_,rfl,.dic (DPut.k (k:=.inr u) ar.at_ (cU (by omega))) ⟨_,_,rfl,ar.put hd T.knd hk hu,ki.put (T.perm.mem_iff.mp (bQ.mpr ⟨kn,au hk,au hu⟩))⟩⟩⟩
   ·rintro σ H' ⟨o3,kvs,rfl,ar,ki⟩
    rw[ae] at ar
    exact⟨_,_,kvs,rfl,ar.next hk rfl,ki⟩
  ·rintro σ H' ⟨o2,o3,kvs,rfl,ar,ki⟩
   exact⟨_,rfl,k d kvs H' ar.sm hd ar.at_ (ar.fin T rlen) ki (by have hl:=ar.len;rw[rlen,ap (ac _),T.perm.length_eq] at hl;exact hl)⟩
def iG:Sp:=fun vs H Q _=>∃(q:Addr) (us:List Str) (ks:Kn) (ts ws wn:Prs) (k:Str × List Str),vs=[.ref q,.str k.1]/\Rep H (.ref q) (df ks ts ws wn)/\Tre us ks/\k∈ks/\∀l H',Same H H'->H l=none->H' l=some (.lst (List.map V.str k.2))->Q (.ref l) H'
theorem scChildren:FnScope ["house","knot"] ["house","knot"] (cI kR):=⟨rfl,rfl,rfl,by decide +kernel,rfl,by decide +kernel,by decide +kernel⟩
theorem rF {f:Addr}{fd:FuncData}(F:Fun K "children" "children" kR f fd) (B:Blt mg):FnOk P w K mg base CX0 1 f fd ["house","knot"] iG:=by
 refine F.ok scChildren (fun vs H Q E h=>?_) (fun cdv A outer s H vs Q E hr h=>?_)
 ·obtain⟨q,us,ks,ts,ws,wn,kk,rfl,_⟩:=h
  rfl
 ·obtain⟨q,us,ks,ts,ws,wn,kk,rfl,R,T,hkk,k⟩:=h
  have nd:=scChildren.nd
  refine⟨_,(cH (cL (uT K rfl B (p1 (px K hr (lj K rfl hr.units B (p1 (px K hr (pv 0) cG))) (pv 1)))))),?_⟩
  obtain⟨q',a,b,c,d4,e0,hq,R1,_⟩:=dI R
  cases e0
  refine⟨_,rfl,.tup (.of hq) rfl (cP (iM R1 T fun D dk hD hdk=>?_))⟩
  obtain⟨la,hva,hla⟩:=hdk kk hkk
  have s1:=Same.new (o:=.dK dk) hD
  refine⟨_,rfl,.dic (.inl ⟨dk,.inr kk.1,.inl cE,rfl,hva.symm⟩) ?_⟩
  generalize upd H D (.dK dk)=H1 at s1 ⊢
  refine cP ⟨_,rfl,.seq (.inr (.of (s1 _ _ hla))) fun l hl=>?_⟩
  exact k l _ (s1.trans (Same.new hl)) (eG s1 hl) cE
theorem iX:Nm "first":=by refine⟨by decide +kernel,by decide +kernel,?_⟩;decide +kernel
theorem oh:Nm "last":=by refine⟨by decide +kernel,by decide +kernel,?_⟩;decide +kernel
theorem iR {z:Str}(h:z="first"∨z="last"):Nm z:=by
 rcases h with rfl | rfl
 ·exact iX
 ·exact oh
def nO (us:List Str) (wn:List (Str × Str)):Prop:=∀e∈wn,(e.1="first"∨e.1="last")/\e.2∈us
def mj:Sp:=fun vs H Q _=>∃(q l:Addr) (us c:List Str) (ks:Kn) (ts ws wn:Prs) (word:Str),vs=[.ref q,.ref l,.str word]/\Rep H (.ref q) (df ks ts ws wn)/\Tre us ks/\nO us wn/\(word="first"∨word="last")/\H l=some (.lst (List.map V.str c))/\(∀u∈c,Nm u)/\c.length<=60/\∀D H',Same H H'->H D=none->H' D=some (.lst (List.map V.str (wU c wn word)))->Q (.ref D) H'
theorem scWanted:FnScope ["house","row","word"] ["house","row","word"] (cI lS):=⟨rfl,rfl,rfl,by decide +kernel,rfl,by decide +kernel,by decide +kernel⟩
theorem uO {f:Addr}{fd:FuncData}(F:Fun K "wanted" "wanted" lS f fd) (B:Blt mg):FnOk P w K mg base CX0 1 f fd ["house", "row", "word"] mj := by
 refine F.ok scWanted (fun vs H Q E h=>?_) (fun cdv A outer s H vs Q E hr h=>?_)
 ·obtain⟨q,l,us,c,ks,ts,ws,wn,word,rfl,_⟩:=h
  rfl
 ·obtain⟨q, l, us, c, ks, ts, ws, wn, word, rfl, R, T, wok, hw, hl, cnm, cl, k⟩ := h
  have nd:=scWanted.nd
  refine⟨_,(cH (cL (dS (cI lS) ["house","row","word"] ["child"] [2,0] ["child","word","house"] rfl (fE K (pv 1)) (fun _ _ _ _ _=>(cN (i:=0) (show (["child","word","house"]:List Str).Nodup by decide) rfl (Or.inl rfl))) (fun _ _ _ _ _=>(fH (cK (n5 hr.units) (cV (p2 (pv 1) (pv 0))) (px K hr (pv 2) cG) (by with_unfolding_all rfl)))) (fun _ _ _ _ _=>(pv 0))))),?_⟩
  obtain⟨q',a,b,c3,d4,e0,hq,_,_,_,R4⟩:=dI R
  cases e0
  obtain⟨d4',rw4,e0,hd4,rpw⟩:=dZ R4
  cases e0
  have cay:PyData.canLayAll0 (wn.map cW)=true:=dC fun e he=>⟨iR (wok e he).1,T.nm _ (wok e he).2⟩
  refine⟨_,rfl,l,rfl,⟨_,.of hl⟩,?_⟩
  refine gs (List.map V.str c) (fun D j acc σ' H'=>∃(o0:Option V),σ'=[o0,some (.str word),some (.ref q)]/\acc=List.map V.str (wU (c.take j) wn word)/\Same H H'/\H D=none) fun D hD=>⟨?_,?_,?_,?_⟩
  ·exact⟨none,rfl,rfl,Same.new hD,hD⟩
  ·rintro j acc σ' H' _ ⟨o0,rfl,_,sm,_⟩ _
   exact .of (sm _ _ hl)
  ·rintro j acc σ' H' v hv ⟨o0,rfl,rfl,sm,hD0⟩ hacc
   obtain⟨u,hu,rfl⟩:=dH hv
   have hjl:=(ah.mp hu).1
   have ewU:wU (c.take (j+1)) wn word=wU (c.take j) wn word++(if (decide ((word,u)∈wn))=true then [u] else []):=by
    unfold wU
    rw[av,hu,br]
    congr 1
    show List.filter _ [u]=_
    rw[bt,bK]
   have alen:(wU (c.take j) wn word).length<=j:=by
    have:=bd (fun u=>decide ((word,u)∈wn)) (c.take j)
    rw[aL] at this
    unfold wU
    omega
   dsimp only[eF]
   refine⟨_,rfl,_,rfl,(by show 2<=sizeLine;decide),fun t ht=>?_⟩
   have st:=Same.new (o:=.tup [V.str word,V.str u]) ht
   have et:upd H' t (.tup [V.str word,V.str u]) t=some (.tup [V.str word,V.str u]):=cE
   have hacc2:=st _ _ hacc
   have sm2:=sm.trans st
   generalize upd H' t (.tup [V.str word,V.str u])=H2 at et hacc2 sm2 ⊢
   refine⟨_,rfl,.tup (.of (sm2 _ _ hq)) rfl ⟨d4,rw4,_,cW (word,u),rfl,sm2 _ _ hd4,rpw.same sm2,dG et,cay,gq (e:=(word,u)) ⟨iR hw,cnm u (au hu)⟩,(by show 1<=16;decide),_,rfl,?_⟩⟩
   rw[if_neg (show ¬ false=true by decide),ig]
   refine cR (fun hc=>?_) (fun hc=>?_)
   ·rw[if_pos hc] at ewU
    exact⟨_,rfl,hacc2,by rw[ae];exact cU (by omega),_,rfl,by rw[ewU,aj];rfl,dh sm2 hD0,hD0⟩
   ·rw[if_neg hc,aS] at ewU
    exact⟨hacc2,_,rfl,by rw[ewU],sm2,hD0⟩
  ·rintro acc σ' H' ⟨o0,rfl,rfl,sm,hD0⟩ hacc
   rw[ae,ap (ac _)] at hacc
   exact k D H' sm hD0 hacc
theorem mB {H:Hp}{ta la:Addr}{k:Str × List Str}(h1:H ta=some (.tup [.str k.1,.ref la])) (h2:H la=some (.tup (k.2.map V.str))):Rep H (.ref ta) (eM k):=.tup h1 (.cons (.str _) (.cons (.tup h2 (RepAll.of_strs _)) .nil))
def dL (knot:Str) (row:List Str) (k:Str × List Str):Str × List Str:=if k.1=knot then (knot,row) else k
def oP:Sp:=fun vs H Q _=>∃(q l:Addr) (ks:Kn) (ts ws wn:Prs) (knot:Str) (row:List Str),vs=[.ref q,.str knot,.ref l]/\Rep H (.ref q) (df ks ts ws wn)/\H l=some (.lst (List.map V.str row))/\ks.length<=100/\∀q' H',Same H H'->Rep H' (.ref q') (df (ks.map (dL knot row)) ts ws wn)->Q (.ref q') H'
theorem scWithRow:FnScope ["house","knot","row","knots"] ["house","knot","row"] (cI kj):=⟨rfl,rfl,rfl,by decide +kernel,rfl,by decide +kernel,by decide +kernel⟩
theorem re {f:Addr}{fd:FuncData}(F:Fun K "with_row" "with_row" kj f fd) (B:Blt mg):FnOk P w K mg base CX0 1 f fd ["house", "knot", "row"] oP := by
 refine F.ok scWithRow (fun vs H Q E h=>?_) (fun cdv A outer s H vs Q E hr h=>?_)
 ·obtain⟨q,l,ks,ts,ws,wn,knot,row,rfl,_⟩:=h
  rfl
 ·obtain⟨q, l, ks, ts, ws, wn, knot, row, rfl, R, hl, kl, k⟩ := h
  have nd:=scWithRow.nd
  refine⟨_,(cF (jx (i:=3) nd rfl rfl (by rfl) (cI kj) ["house","knot","row","knots"] ["held"] [1,2] ["held","knot","row"] rfl (dP K (px K hr (pv 0) cG)) (fun _ _ _ _ _=>(cN (i:=0) (show (["held","knot","row"]:List Str).Nodup by decide) rfl (Or.inl rfl))) (fun _ _ _ _ _=>fw) (fun _ _ _ _ _=>(kr (cK (di hr.units) (px K hr (pv 0) cG) (pv 1) (cQ _)) (cV (p2 (pv 1) (fG K B (p1 (pv 2))))) (pv 0))))
   (cH (cL (cV (cT (fG K B (p1 (pv 3))) (cT (px K hr (pv 0) cG) (p2 (px K hr (pv 0) cG) (px K hr (pv 0) cG)))))))),?_⟩
  obtain⟨q',a,b,c3,d4,e0,hq,R1,R2,R3,R4⟩:=dI R
  cases e0
  obtain⟨a',refs,e0,ha,rp⟩:=fQ R1
  cases e0
  have rlen:=rp.len
  rw[ae] at rlen
  refine⟨_,rfl,.tup (.of hq) rfl ⟨a,rfl,⟨_,.of ha⟩,?_⟩⟩
  refine fj refs (fun D j acc σ' H'=>∃(o0:Option V),σ'=[o0,some (.str knot),some (.ref l)]/\RepAll H' acc (((ks.take j).map (dL knot row)).map eM)/\Same H H'/\H D=none) fun D hD=>⟨?_,?_,?_,?_⟩
  ·exact⟨none,rfl,.nil,Same.new hD,hD⟩
  ·rintro j acc σ' H' _ ⟨o0,rfl,_,sm,_⟩ _
   exact .of (sm _ _ ha)
  ·rintro j acc σ' H' v hv ⟨o0,rfl,ra,sm,hD0⟩ hacc
   obtain⟨kn,ta,la,hk,rfl,hta,hla⟩:=gT rp hv
   have hil:=(ah.mp hk).1
   have alen:=ra.len
   rw[ae,ae,aL] at alen
   have etk:(ks.take (j+1)).map (dL knot row)=(ks.take j).map (dL knot row)++[dL knot row kn]:=by
    rw[av,hk,aj];rfl
   refine jZ ?_
   refine⟨_,rfl,.tup (.of (sm _ _ hta)) rfl ⟨_,rfl,.sc rfl ⟨_,rfl,?_⟩⟩⟩
   refine cR (fun h=>?_) (fun h=>?_)
   ·have hn:kn.1=knot:=by simpa using h
    refine⟨_,rfl,_,rfl,l,_,rfl,.of (sm _ _ hl),fun t1 h1=>cP ⟨(by show 2<=sizeLine;decide),fun t2 h2=>?_⟩⟩
    have s1:=Same.new (o:=.tup (List.map V.str row)) h1
    have e1:upd H' t1 (.tup (List.map V.str row)) t1=some (.tup (List.map V.str row)):=cE
    generalize upd H' t1 (.tup (List.map V.str row))=H1 at s1 e1 h2 ⊢
    have s2:=Same.new (o:=.tup [V.str knot,V.ref t1]) h2
    have e2:upd H1 t2 (.tup [V.str knot,V.ref t1]) t2=some (.tup [V.str knot,V.ref t1]):=cE
    have e1:=s2 _ _ e1
    have s12:=s1.trans s2
    generalize upd H1 t2 (.tup [V.str knot,V.ref t1])=H2 at s12 e1 e2 ⊢
    have hacc2:=s12 _ _ hacc
    refine⟨hacc2,cU (by omega),_,rfl,?_,dh (sm.trans s12) hD0,hD0⟩
    rw[etk,aj]
    refine RepAll.append (dy (gn hacc2 But.upd) (ra.same s12)) (.cons ?_ .nil)
    rw[show dL knot row kn=(knot,row) by unfold dL;rw[if_pos hn]]
    exact mB (k:=(knot,row)) (fM hacc2 But.upd e2) (fM hacc2 But.upd e1)
   ·have hn:kn.1≠knot:=fun z=>h (by simpa using z)
    refine⟨_,rfl,hacc,cU (by omega),_,rfl,?_,dh sm hD0,hD0⟩
    rw[etk,aj]
    refine RepAll.append (dy (gn hacc But.upd) ra) (.cons ?_ .nil)
    rw[show dL knot row kn=kn by unfold dL;rw[if_neg hn]]
    exact mB (fM hacc But.upd (sm _ _ hta)) (fM hacc But.upd (sm _ _ hla))
  ·rintro acc σ' H' ⟨o0,rfl,ra,sm,hD0⟩ hacc
   rw[rlen,ap (ac _)] at ra
   refine⟨_,rfl,D,acc,rfl,.of hacc,fun t1 h1=>?_⟩
   have s1:=Same.new (o:=.tup acc) h1
   have e1:upd H' t1 (.tup acc) t1=some (.tup acc):=cE
   have sA:=sm.trans s1
   have ra:=ra.same s1
   generalize upd H' t1 (.tup acc)=H1 at e1 sA ra ⊢
   refine⟨_,rfl,.tup (.of (sA _ _ hq)) rfl ⟨_,rfl,.tup (.of (sA _ _ hq)) rfl ⟨_,rfl,.tup (.of (sA _ _ hq)) rfl (cP ⟨(by show 4<=sizeLine;decide),fun t2 h2=>?_⟩)⟩⟩⟩
   have s2:=Same.new (o:=.tup [V.ref t1,V.ref b,V.ref c3,V.ref d4]) h2
   have sB:=sA.trans s2
   exact k t2 _ sB (fO cE (.tup (s2 _ _ e1) (ra.same s2)) (R2.same sB) (R3.same sB) (R4.same sB))
theorem lV {us:List Str}{ks:Kn}(T:Tre us ks) {k:Str × List Str}(hk:k∈ks):k.2.length<=60:=by
 have h1:=mZ (xs:=k.2) (ys:=us) ?_ fun x hx=>T.isIn hk hx
 ·have:=T.len;omega
 ·have:=T.knd
  obtain⟨a,b,e⟩:=List.append_of_mem hk
  rw[e,gS] at this
  have:=(bX.mp this).2.1
  rw[show k::b=[k]++b from rfl,gS] at this
  have:=(bX.mp this).1
  rw[show dJ [k]=k.2 by show [k].flatMap (·.2)=_;simp] at this
  exact this
def uQ (f:Kn->Str->List Str):Sp:=fun vs H Q _=>∃(d:Addr) (kvs:List (Key × V)) (us:List Str) (ks:Kn) (u:Str),vs=[.ref d,.str u]/\H d=some (.dK kvs)/\ArK kvs us ks/\Tre us ks/\u∈us/\∀l H',Same H H'->H l=none->H' l=some (.lst (List.map V.str (f ks u)))->Q (.ref l) H'
theorem scDown:FnScope ["table","one","line"] ["table","one"] (cI kX):=⟨rfl,rfl,rfl,by decide +kernel,rfl,by decide +kernel,by decide +kernel⟩
theorem wY {f:Addr}{fd:FuncData}(F:Fun K "line_down" "line_down" kX f fd) (B:Blt mg):FnOk P w K mg base CX0 1 f fd ["table", "one"] (uQ lin) := by
 refine F.ok scDown (fun vs H Q E h=>?_) (fun cdv A outer s H vs Q E hr h=>?_)
 ·obtain⟨d,kvs,us,ks,u,rfl,_⟩:=h
  rfl
 ·obtain⟨d, kvs, us, ks, u, rfl, hd, ar, T, hu, k⟩ := h
  have nd:=scDown.nd
  refine⟨_,(cF (pst 2 nd (dw (p1 (pv 1))))
   (cF (jX PassesOwn.never (cK (fP hr.units) (px K hr (pv 0) (px K hr (pv 2) (nH kN cG))) cM (cQ _)) (cH (dR (fY K (pv 2) (p1 (px K hr (pv 0) (px K hr (pv 2) (nH kN cG))))))))
   (cF (dR (vV K (pv 2)))
   (cH (cL (pv 2)))))),?_⟩
  refine⟨_,rfl,(by show 1<=sizeLine;decide),fun ll hll=>?_⟩
  have s0:=Same.new (o:=.lst [V.str u]) hll
  refine⟨fun m σ H'=>∃(x:Str) (r:List Str),m=rkU us x/\σ=[some (.ref d),some (.str u),some (.ref ll)]/\H' ll=some (.lst (List.map V.str (r.reverse++[x])))/\x∈us/\lin ks u=lin ks (dN ks x)++(x::r)/\Same H H',
   ⟨_,u,[],rfl,rfl,cE,hu,T.lin hu,s0⟩,?_⟩
  rintro m σ H1 ⟨x,r,rfl,rfl,hl1,hx,hlin,s1⟩
  have at1:atI (List.map V.str (r.reverse++[x])) (-1)=some (.str x):=by rw[aj];exact mJ _ _
  have pl:=T.lin_len u (.inr hu)
  have p60:=T.rk60 hu
  have hlen:=congrArg List.length hlin
  rw[aJ,aF] at hlen
  refine⟨_,rfl,_,rfl,_,rfl,.lst (.of hl1) at1 (.dic (.inl ⟨kvs,.inr x,.inl (s1 _ _ hd),rfl,(ar x hx).symm⟩) (.sc rfl ⟨_,rfl,?_⟩))⟩
  refine cR (fun h=>?_) (fun h=>?_)
  ·have hne:dN ks x≠"":=fun z=>by rw[z] at h;exact absurd h (by decide)
   have hpx:=(T.par_in hx).1.resolve_left hne
   have hrk:=T.rk hx
   refine⟨fun σ' H'=>∃(y:Str) (r:List Str),rkU us y<rkU us x/\σ'=[some (.ref d),some (.str u),some (.ref ll)]/\H' ll=some (.lst (List.map V.str (r.reverse++[y])))/\y∈us/\lin ks u=lin ks (dN ks y)++(y::r)/\Same H H',
    fun σ' H' ⟨y,r,h1,h2⟩=>⟨_,h1,y,r,rfl,h2⟩,?_⟩
   refine⟨_,rfl,.inl ⟨rfl,_,.of hl1⟩,_,rfl,_,rfl,_,rfl,.lst (.of hl1) at1 (.dic (.inl ⟨kvs,.inr x,.inl (s1 _ _ hd),rfl,(ar x hx).symm⟩) ⟨ll,_,_,rfl,rfl,hl1,by rw[ae,aJ,List.length_reverse];exact cU (by show _+1<=_;omega),?_⟩)⟩
   refine⟨dN ks x,x::r,hrk,rfl,?_,hpx,?_,dh s1 hll⟩
   ·rw[cE,List.reverse_cons];simp
   ·rw[hlin,T.lin hpx,cu];rfl
  ·have hz:dN ks x="":=Classical.byContradiction fun z=>h (by rw[if_pos rfl,aw (fun q=>z (V.str.inj q))];rfl)
   rw[hz,zM,List.nil_append] at hlin
   refine⟨_,rfl,.inl ⟨rfl,_,.of hl1⟩,ll,_,rfl,rfl,hl1,?_⟩
   refine⟨_,rfl,k ll _ (dh s1 hll) hll ?_⟩
   rw[cE,hlin,<- List.map_reverse,List.reverse_append,List.reverse_reverse];rfl
def pS:Sp:=fun vs H Q _=>∃(d:Addr) (kvs:List (Key × V)) (us:List Str) (ks:Kn) (u v:Str),vs=[.ref d,.str u,.str v]/\H d=some (.dK kvs)/\ArK kvs us ks/\Tre us ks/\u∈us/\v∈us/\∀x H',Same H H'->PrtV H' x (dF ks u v)->Q x H'
theorem scPartBy:FnScope ["table","one","other","knot","pair"] ["table","one","other"] (cI j6):=⟨rfl,rfl,rfl,by decide +kernel,rfl,by decide +kernel,by decide +kernel⟩
theorem uq {f:Addr}{fd:FuncData}(F:Fun K "parting_by" "parting_by" j6 f fd) (B:Blt mg) (Zz:mg "zip"=none) (cline_down:Cal P w K mg base 1 "line_down" ["table", "one"] (uQ lin)):FnOk P w K mg base CX0 2 f fd ["table", "one", "other"] pS := by
 refine F.ok scPartBy (fun vs H Q E h=>?_) (fun cdv A outer s H vs Q E hr h=>?_)
 ·obtain⟨d,kvs,us,ks,u,v,rfl,_⟩:=h
  rfl
 ·obtain⟨d, kvs, us, ks, u, v, rfl, hd, ar, T, hu, hv, k⟩ := h
  have nd:=scPartBy.nd
  refine⟨_,(cF (pst 3 nd cM)
   (cF (dM PassesOwn.never rfl (vf K rfl Zz (p2 (pc cline_down hr (p2 (pv 0) (pv 1))) (pc cline_down hr (p2 (pv 0) (pv 2))))) (cN (i:=4) nd rfl (Or.inl rfl)) (cF (cX (cK (fP hr.units) (px K hr (pv 4) cG) (px K hr (pv 4) cG) (cQ _)) (cH (cL (cV (cT (pv 3) (p2 (px K hr (pv 4) cG) (px K hr (pv 4) cG)))))) cS)
   (cH (pst 3 nd (px K hr (pv 4) cG)))))
   (cH (cL i0)))),?_⟩
  refine⟨_,rfl,_,rfl,d,kvs,us,ks,u,rfl,hd,ar,T,hu,fun la H1 s1 hla0 hla=>?_⟩
  refine⟨_,rfl,_,rfl,d,kvs,us,ks,v,rfl,s1 _ _ hd,ar,T,hv,fun lb H2 s2 hlb0 hlb=>?_⟩
  have hla2:=s2 _ _ hla
  refine⟨la,lb,_,_,rfl,.of hla2,.of hlb,?_⟩
  refine zB (xs:=List.map V.str (lin ks u)) (ys:=List.map V.str (lin ks v)) (fun i σ H'=>∃o4,σ=[some (.ref d),some (.str u),some (.str v),some (.str ((tp (lin ks u)).getD i "")),o4]/\Same H2 H'/\dF ks u v=prt ((tp (lin ks u)).getD i "") ((lin ks u).drop i) ((lin ks v).drop i)) ?_ ?_ ?_ ?_
  ·exact⟨none,rfl,Same.refl H2,rfl⟩
  ·rintro i σ H' hi ⟨o4,rfl,sm,_⟩
   exact⟨.of (sm _ _ hla2),.of (sm _ _ hlb)⟩
  ·rintro i x y p σ H' hxy ⟨o4,rfl,sm,hp⟩ hpn
   rw[bq] at hxy
   obtain⟨x,hx,rfl⟩:=dH hxy.1
   obtain⟨y,hy,rfl⟩:=dH hxy.2
   have sp:=Same.new (o:=.tup [V.str x,V.str y]) hpn
   have ep:upd H' p (.tup [V.str x,V.str y]) p=some (.tup [V.str x,V.str y]):=cE
   have l1:=ah.mp hx
   have l2:=ah.mp hy
   rw[bJ l1.1,bJ l2.1,l1.2,l2.2] at hp
   have hp:dF ks u v=if x=y then prt x ((lin ks u).drop (i+1)) ((lin ks v).drop (i+1)) else some ((tp (lin ks u)).getD i "",x,y):=hp
   refine⟨_,rfl,.tup (.of ep) rfl ⟨_,rfl,.tup (.of ep) rfl (.sc rfl ⟨_,rfl,?_⟩)⟩⟩
   refine cR (fun h=>?_) (fun h=>?_)
   ·have hne:x≠y:=fun z=>by rw[z,if_pos rfl,ak rfl] at h;cases h
    rw[if_neg hne] at hp
    refine⟨_,rfl,_,rfl,.tup (.of ep) rfl ⟨_,rfl,.tup (.of ep) rfl ⟨(by show 3<=sizeLine;decide),fun t ht=>?_⟩⟩⟩
    refine k (.ref t) _ (((s1.trans s2).trans sm).trans (sp.trans (Same.new ht))) ?_
    rw[hp]
    exact⟨t,rfl,cE⟩
   ·have he:x=y:=Classical.byContradiction fun z=>h (by rw[if_pos rfl,aw (fun q=>z (V.str.inj q))];rfl)
    rw[if_pos he] at hp
    have e:(tp (lin ks u)).getD (i+1) ""=x:=by rw[bw];show ((lin ks u)[i]?).getD ""=x;rw[hx];rfl
    refine⟨_,rfl,.tup (.of ep) rfl ⟨some (.ref p),?_,sm.trans sp,?_⟩⟩
    ·rw[e];rfl
    ·rw[e];exact hp
  ·rintro σ H' ⟨o4, rfl, sm, hp⟩
   have hn:dF ks u v=none:=by
    rw[hp,bx,ae,ae]
    by_cases q:(lin ks u).length<=(lin ks v).length
    ·rw[bW (l:=lin ks u) (by omega)];rfl
    ·rw[bW (l:=lin ks v) (by omega)]
     cases (lin ks u).drop (min (lin ks u).length (lin ks v).length) <;> rfl
   refine k .non H' ((s1.trans s2).trans sm) ?_
   rw[hn];rfl
def mG:Option (Str × Str × Str)->PyData
 | none=>.none
 | some (k,x,y)=>.tuple [.str k,.str x,.str y]
theorem lO {H:Hp}{v:V}{o:Option (Str × Str × Str)}(h:PrtV H v o):Rep H v (mG o):=by
 cases o with
 | none =>
  have h:v=.non:=h
  rw[h];exact .non
 | some t =>
  obtain⟨q,rfl,hq⟩:=h
  exact .tup hq (.cons (.str _) (.cons (.str _) (.cons (.str _) .nil)))
theorem lc {us:List Str}{ks:Kn}(T:Tre us ks) {k:Str × List Str}(hk:k∈ks):k.2.Nodup:=by
 have:=T.knd
 unfold dJ at this
 rw[List.flatMap_def] at this
 exact(cB (ao.mpr ⟨k,hk,rfl⟩)).nodup this
theorem WnX.ok {us:List Str}{ks:Kn}{wn:Prs}(T:Tre us ks) (W:WnX ks wn):nO us wn:=fun e he=>by
 obtain⟨k,hk,f⟩:=W.at_ e he
 exact⟨by rcases f with⟨q,_⟩ | ⟨q,_⟩;exact .inl q;exact .inr q,T.isIn hk f.mem⟩
def gX (us:List Str) (ks:Kn) (ts:List (Str × Str)):Prop:=∀e∈ts,e.1∈us/\e.2∈us/\dF ks e.1 e.2≠none
theorem TsI.ok {us:List Str}{ks:Kn}{ts:Prs}(h:TsI us ks ts):gX us ks ts:=fun e he=>⟨(h e he).1,(h e he).2.1,fun z=>by have:=(h e he).2.2;rw[z] at this;cases this⟩
theorem wF {kvs:List (List Key × V)}{ds:Prs}(h:kvs.map (·.1)=ds.map pK) (e:Str × Str) (v:V):(dE kvs (pK e) v).map (·.1)=(if e ∈ ds then ds else ds ++ [e]).map pK := by
 have hm:(kvs.any fun p=>decide (p.1=pK e))=decide (e∈ds):=by
  rw[aX,ck,decide_eq_true_iff]
  constructor
  ·rintro⟨p,hp,q⟩
   have:p.1∈kvs.map (·.1):=ao.mpr ⟨p,hp,rfl⟩
   rw[h] at this
   obtain⟨f,hf,g⟩:=ao.mp this
   have q:=aM q
   rw[<- vy (g.trans q)];exact hf
  ·intro he
   have:pK e∈kvs.map (·.1):=by rw[h];exact ao.mpr ⟨e,he,rfl⟩
   obtain⟨p,hp,g⟩:=ao.mp this
   exact⟨p,hp,ak g⟩
 unfold dE
 by_cases he:e∈ds
 ·rw[if_pos (by rw[hm];exact ak he),if_pos he,<- h,bS]
  refine List.map_congr_left fun p _=>?_
  show (if p.1=pK e then (p.1,v) else p).1=p.1
  split <;> rfl
 ·rw[if_neg (by rw[hm];simpa using he),if_neg he,aj,aj,h];rfl
def oQ:Sp:=fun vs H Q _=>∃(a:Addr) (refs:List V) (ps:Prs),vs=[.ref a]/\H a=some (.lst refs)/\RepAll H refs (ps.map cW)/\ps.length<=100000/\∀d kvs H',Same H H'->H d=none->H' d=some (.dT kvs)->kvs.map (·.1)=(eZ [] ps).map pK->Q (.ref d) H'
theorem scPlacesD:FnScope ["things","places","place","thing"] ["things"] (cI iT):=⟨rfl,rfl,rfl,by decide +kernel,rfl,by decide +kernel,by decide +kernel⟩
theorem tO {f:Addr}{fd:FuncData}(F:Fun K "places_of" "places_of" iT f fd) (B:Blt mg):FnOk P w K mg base CX0 1 f fd ["things"] oQ := by
 refine F.ok scPlacesD (fun vs H Q E h=>?_) (fun cdv A outer s H vs Q E hr h=>?_)
 ·obtain⟨a,refs,ps,rfl,_⟩:=h
  rfl
 ·obtain⟨a, refs, ps, rfl, ha, rp, hps, k⟩ := h
  have nd:=scPlacesD.nd
  have sz:200000<sizeLine:=by decide
  refine⟨_,(cF (pst 1 nd qB)
   (cF (dM PassesOwn.never rfl (kb K rfl B.enumerate (p1 (pv 0))) (eW (n:=2) K rfl (cY (cN (i:=2) nd rfl (Or.inl rfl)) (cY (cN (i:=3) nd rfl (Or.inl rfl)) eP))) (cH (gM (pv 2) (hW (pv 1) (pv 3) (iQ hr.units)))))
   (cH (cL (pv 1))))),?_⟩
  have rlen:=rp.len
  rw[ae] at rlen
  intro d hd
  have s0:=Same.new (o:=.dT []) hd
  refine⟨_,rfl,_,rfl,.lst (.of (s0 _ _ ha)) ?_⟩
  refine ka (xs:=refs) (fun i σ H'=>∃o1 o2 kvs,σ=[some (.ref a),some (.ref d),o1,o2]/\Same H H'/\H' d=some (.dT kvs)/\kvs.length<=i/\kvs.map (·.1)=(eZ [] (ps.take i)).map pK) ?_ ?_ ?_ ?_
  ·exact⟨none,none,[],rfl,s0,cE,ac _,rfl⟩
  ·rintro i σ H' hi ⟨o1,o2,kvs,rfl,sm,_⟩
   exact .of (sm _ _ ha)
  ·rintro i x σ H' p hx ⟨o1,o2,kvs,rfl,sm,hk,hkl,hks⟩ hp
   obtain⟨e,ta,he,rfl,hta⟩:=fk (rp.same sm) hx
   have hil:=(ah.mp he).1
   have hdp:d≠p:=cO hk hp
   have hlen:=dW kvs (pK e) (V.int (i:Nat))
   refine⟨p,_,rfl,.of cE,rfl,_,_,rfl,_,_,rfl,rfl,?_⟩
   refine⟨_,rfl,_,rfl,_,rfl,.dic (DPut.t (k:=pK e) (by rw[cJ hdp];exact hk) (Same.new hp _ _ hta) (by omega)) ⟨_,_,_,rfl,?_,cE,by omega,?_⟩⟩
   ·intro b o hb
    rw[cJ (cO hb hd)]
    exact Same.new hp _ _ (sm _ _ hb)
   ·rw[wF hks,av,he,kE];rfl
  ·rintro σ H' ⟨o1,o2,kvs,rfl,sm,hk,hkl,hks⟩
   rw[rlen,ap (ac _)] at hks
   exact⟨_,rfl,k d kvs H' sm hd hk hks⟩
def nZ (ks:Kn) (e:Str × Str):PyData:=mG (dF ks e.1 e.2)
theorem rL {H:Hp}{v:V}{o:Option (Str × Str × Str)}(h:Rep H v (mG o)):PrtV H v o:=by
 cases o with
 | none =>
  have h:Rep H v .none:=h
  cases h
  rfl
 | some t =>
  obtain⟨k,x,y⟩:=t
  obtain⟨q,ws,rfl,hq,r0⟩:=Rep.tupI h
  have r0:RepAll H ws (List.map PyData.str [k,x,y]):=r0
  have e:=RepAll.strs r0
  subst e
  exact⟨q,rfl,hq⟩
theorem ng {H H':Hp}{p:Addr}{ys:List V}(hp:H p=some (.lst ys)) (b:But p H H') {v:V}{o:Option (Str × Str × Str)}(h:Rep H v (mG o)):Rep H' v (mG o):=by
 have g:=rL h
 refine lO ?_
 cases o with
 | none=>exact g
 | some t=>obtain⟨q,e,hq⟩:=g;exact⟨q,e,fM hp b hq⟩
def on:Sp:=fun vs H Q _=>∃(q:Addr) (us:List Str) (ks:Kn) (ts ws wn:Prs),vs=[.ref q]/\Rep H (.ref q) (df ks ts ws wn)/\Tre us ks/\gX us ks ts/\ts.length<=200/\∀l refs H',Same H H'->H l=none->H' l=some (.lst refs)->RepAll H' refs (ts.map (nZ ks))->Q (.ref l) H'
theorem scKPart:FnScope ["house","table"] ["house"] (cI gP):=⟨rfl,rfl,rfl,by decide +kernel,rfl,by decide +kernel,by decide +kernel⟩
theorem x6 {f:Addr}{fd:FuncData}(F:Fun K "kept_partings" "kept_partings" gP f fd) (B:Blt mg) (chomes:Cal P w K mg base 1 "homes" ["house"] lF) (cparting_by:Cal P w K mg base 2 "parting_by" ["table", "one", "other"] pS):FnOk P w K mg base CX0 3 f fd ["house"] on := by
 refine F.ok scKPart (fun vs H Q E h=>?_) (fun cdv A outer s H vs Q E hr h=>?_)
 ·obtain⟨q,us,ks,ts,ws,wn,rfl,_⟩:=h
  rfl
 ·obtain⟨q,us,ks,ts,ws,wn,rfl,R,T,tok,tl,k⟩:=h
  have nd:=scKPart.nd
  refine⟨_,(cF (gr (i:=1) nd rfl (Or.inr rfl) (pc chomes hr (p1 (pv 0))))
   (cH (cL (dS (cI gP) ["house","table"] ["tie"] [1] ["tie","table"] rfl (dP K (px K hr (pv 0) cG)) (fun _ _ _ _ _=>(cN (i:=0) (show (["tie","table"]:List Str).Nodup by decide) rfl (Or.inl rfl))) (fun _ _ _ _ _=>fw) (fun _ _ _ _ _=>(pc cparting_by hr (cT (pv 1) (p2 (px K hr (pv 0) cG) (px K hr (pv 0) cG))))))))),?_⟩
  refine⟨_,rfl,q,us,ks,ts,ws,wn,rfl,R,T,fun d kvs H1 s1 hd0 hd ar _ _=>?_⟩
  obtain⟨q',a,b,c,d4,e0,hq,_,R2,_⟩:=dI (R.same s1)
  cases e0
  obtain⟨b',rb,e0,hb,rpb⟩:=dZ R2
  cases e0
  have rblen:=rpb.len
  rw[ae] at rblen
  refine⟨_,rfl,.tup (.of hq) rfl ⟨b,rfl,⟨_,.of hb⟩,?_⟩⟩
  refine fj rb (fun D j acc σ' H'=>∃(o0:Option V),σ'=[o0,some (.ref d)]/\RepAll H' acc ((ts.take j).map (nZ ks))/\Same H1 H'/\H1 D=none) fun D hD=>⟨?_,?_,?_,?_⟩
  ·exact⟨none,rfl,.nil,Same.new hD,hD⟩
  ·rintro j acc σ' H' _ ⟨o0,rfl,_,sm,_⟩ _
   exact .of (sm _ _ hb)
  ·rintro j acc σ' H' v hv ⟨o0,rfl,rp,sm,hD0⟩ hacc
   obtain⟨e,ta,he,rfl,hta⟩:=fk rpb hv
   have hil:=(ah.mp he).1
   obtain⟨hu,hv',_⟩:=tok e (au he)
   have alen:=rp.len
   rw[ae,aL] at alen
   refine jZ ?_
   refine⟨_,rfl,_,rfl,.tup (.of (sm _ _ hta)) rfl ⟨_,rfl,.tup (.of (sm _ _ hta)) rfl (cP ⟨d,kvs,us,ks,e.1,e.2,rfl,sm _ _ hd,ar,T,hu,hv',fun x H3 s3 px=>?_⟩)⟩⟩
   have hacc3:=s3 _ _ hacc
   refine⟨hacc3,cU (by omega),_,rfl,?_,dh (sm.trans s3) hD0,hD0⟩
   rw[av,he,aj]
   exact RepAll.append (dy (ng hacc3 But.upd) (rp.same s3)) (.cons (ng hacc3 But.upd (lO px)) .nil)
  ·rintro acc σ' H' ⟨o0,rfl,rp,sm,hD0⟩ hacc
   rw[rblen,ap (ac _)] at rp
   exact k D acc H' (s1.trans sm) (eG s1 hD0) hacc rp
structure Fnd (H H':Hp) (lf:Addr) (us:List Str) (fr:List V) (ps:List (Str × Str)) (n:Nat):Prop where
 f:H' lf=some (.lst fr)
 r:RepAll H' fr (ps.map cW)
 i:gV us ps
 l:ps.length<=n
 s:Same H H'
theorem Fnd.more {H H' H2:Hp}{lf:Addr}{us:List Str}{fr:List V}{ps:List (Str × Str)}{n m:Nat}(h:Fnd H H' lf us fr ps n) (s:Same H' H2) (hm:n<=m):Fnd H H2 lf us fr ps m:=⟨s _ _ h.f,h.r.same s,h.i,aG h.l hm,h.s.trans s⟩
theorem Fnd.len {H H':Hp}{lf:Addr}{us:List Str}{fr:List V}{ps:List (Str × Str)}{n:Nat}(h:Fnd H H' lf us fr ps n):fr.length<=n:=by
 have:=h.r.len
 rw[ae] at this
 have:=h.l
 omega
def td (ks:Kn) (ts wn:Prs) (k:Str × List Str):PyData:=.tuple [.tuple (k.2.map PyData.str),fq (hX ks ts wn k.1 k.2)]
theorem sy {H:Hp}{ks:Kn}{refs:List V}{ts:Prs}(rp:RepAll H refs (ts.map (nZ ks))) {j:Nat}{x:V}(hx:refs[j]? = some x):∃e,ts[j]? = some e/\PrtV H x (dF ks e.1 e.2):=by
 obtain⟨d,hd,rd⟩:=rp.get hx
 rw[aI] at hd
 cases q:ts[j]? with
 | none=>rw[q] at hd;cases hd
 | some e =>
  rw[q] at hd
  have hd:nZ ks e=d:=am hd
  rw[<- hd] at rd
  exact⟨e,rfl,rL rd⟩
theorem Fnd.ext {H H':Hp}{lf:Addr}{us:List Str}{fr acc:List V}{ps qs:Prs}{n m:Nat}(h:Fnd H H' lf us fr ps n) (r:RepAll H' acc (qs.map cW)) (i:gV us qs) (hq:qs.length<=m) (hl:H lf=none):Fnd H (upd H' lf (.lst (fr++acc))) lf us (fr++acc) (ps++qs) (n+m):=by
 refine⟨cE,?_,fun e he=>?_,by rw[aJ];have:=h.l;omega,dh h.s hl⟩
 ·rw[aj]
  exact RepAll.append (dy (dB h.f But.upd) h.r) (dy (dB h.f But.upd) r)
 ·rcases aH.mp he with q | q
  ·exact h.i e q
  ·exact i e q
theorem pd (last:Bool) {c:List Str}{j:Nat}{u ch:Str}(h:c[j]? = some ch):eS last (c.take (j+1)) u=eS last (c.take j) u++(if ch=u then [] else [if last then (ch,u) else (u,ch)]):=by
 unfold eS
 rw[av,h,br,aj]
 congr 1
 show List.map _ (List.filter _ [ch])=_
 rw[bt,bK]
 by_cases hz:ch=u
 ·rw[if_neg (by simpa using hz),if_pos hz];rfl
 ·rw[if_pos (by simpa using hz),if_neg hz];rfl
theorem kg (last:Bool) (c:List Str) (u:Str):(eS last c u).length<=c.length:=by
 unfold eS
 rw[ae]
 exact bd _ _
theorem rY {us:List Str}(last:Bool) {c:List Str}{u:Str}(hc:∀z∈c,z∈us) (hu:u∈us):gV us (eS last c u):=fun e he=>by
 unfold eS at he
 obtain⟨z,hz,rfl⟩:=ao.mp he
 have hz:=hc z (aT.mp hz).1
 cases last
 ·exact⟨hu,hz⟩
 ·exact⟨hz,hu⟩
theorem jz (c:List Str) (wn:Prs) (word:Str):(wU c wn word).length<=c.length:=by
 unfold wU
 exact bd _ _
theorem yf {c:List Str}{wn:Prs}{word u:Str}(h:u∈wU c wn word):u∈c:=by
 unfold wU at h
 exact(aT.mp h).1
theorem vh {H:Hp}{kvs:List (List Key × V)}{es:Prs}{rs:List V}(hk:kvs.map (·.1)=es.map pK) (hl:rs.length=kvs.length) (h:∀(i:Nat) (k:List Key × V), kvs[i]? = some k -> ∃q, rs[i]? = some (V.ref q) /\ H q=some (.tup (k.1.map kV))):RepAll H rs (es.map cW) := by
 induction es generalizing kvs rs with
 | nil =>
  have:kvs=[]:=by simpa using hk
  subst this
  have:rs=[]:=by simpa using hl
  subst this
  exact .nil
 | cons e es ih =>
  cases kvs with
  | nil=>simp at hk
  | cons k kvs =>
   cases rs with
   | nil=>simp at hl
   | cons r rs =>
    rw[aQ,aQ] at hk
    injection hk with h1 h2
    obtain⟨q,g1,g2⟩:=h 0 k rfl
    have g1:r=.ref q:=am g1
    subst g1
    rw[h1] at g2
    exact .cons (dG g2) (ih h2 (by simpa using hl) fun i k' hk'=>h (i+1) k' hk')
theorem yV {us:List Str}{ks:Kn}(T:Tre us ks) {ts:Prs}(tok:gX us ks ts) (knot:Str):gV us (ts.filterMap (gg ks knot)) := fun e he => by
 obtain⟨z,hz,q⟩:=ce.mp he
 obtain⟨hu,hv',_⟩:=tok z hz
 unfold gg at q
 cases hpo:dF ks z.1 z.2 with
 | none=>rw[hpo] at q;cases q
 | some t3 =>
  obtain⟨kq,x1,y1⟩:=t3
  rw[hpo] at q
  obtain⟨_,_,hx1,hy1,_⟩:=T.part hu hv' hpo
  have q:(if kq=knot then some (x1,y1) else none)=some e:=q
  by_cases hz:kq=knot
  ·rw[if_pos hz] at q
   rw[<- am q]
   exact⟨hx1,hy1⟩
  ·rw[if_neg hz] at q
   cases q
def qO:Sp:=fun vs H Q _=>∃(q lp:Addr) (us:List Str) (ks:Kn) (ts ws wn:Prs) (k:Str × List Str) (refs:List V),vs=[.ref q,.str k.1,.ref lp]/\Rep H (.ref q) (df ks ts ws wn)/\Tre us ks/\gX us ks ts/\WnX ks wn/\k∈ks/\ts.length<=200/\H lp=some (.lst refs)/\RepAll H refs (ts.map (nZ ks))/\∀x H',Same H H'->Rep H' x (td ks ts wn k)->Q x H'
theorem scViewBy:FnScope ["house","knot","partings","row","pairs","unit"] ["house","knot","partings"] (cI iV):=⟨rfl,rfl,rfl,by decide +kernel,rfl,by decide +kernel,by decide +kernel⟩
theorem wg {f:Addr}{fd:FuncData}(F:Fun K "view_by" "view_by" iV f fd) (B:Blt mg) (cchildren:Cal P w K mg base 1 "children" ["house", "knot"] iG) (cwanted:Cal P w K mg base 1 "wanted" ["house", "row", "word"] mj) (cplaces_of:Cal P w K mg base 1 "places_of" ["things"] oQ):FnOk P w K mg base CX0 2 f fd ["house", "knot", "partings"] qO := by
 refine F.ok scViewBy (fun vs H Q E h=>?_) (fun cdv A outer s H vs Q E hr h=>?_)
 ·obtain⟨q,lp,us,ks,ts,ws,wn,kk,refs,rfl,_⟩:=h
  rfl
 ·obtain⟨q, lp, us, ks, ts, ws, wn, kk, refs, rfl, R, T, tok, WX, hkk, tl, hlp, rpp, k⟩ := h
  have nd:=scViewBy.nd
  have wok:=WnX.ok T WX
  have ulen:=T.len
  have sz:200000<sizeLine:=by decide
  have kin:∀u∈kk.2,u∈us:=fun u hu=>T.isIn hkk hu
  have klen:kk.2.length<=60:=by
   have:=mZ (lc T hkk) kin
   omega
  refine⟨_,(cF (pst 3 nd (pc cchildren hr (p2 (pv 0) (pv 1))))
   (cF (jx (i:=4) nd rfl rfl (by rfl) (cI iV) ["house","knot","partings","row","pairs","unit"] ["part"] [1] ["part","knot"] rfl (fE K (pv 2)) (fun _ _ _ _ _=>(cN (i:=0) (show (["part","knot"]:List Str).Nodup by decide) rfl (Or.inl rfl))) (fun _ _ _ _ _=>(fH (cK (di hr.units) (px K hr (pv 0) cG) (pv 1) (cQ _)))) (fun _ _ _ _ _=>(cV (p2 (px K hr (pv 0) cG) (px K hr (pv 0) cG)))))
   (cF (dM PassesOwn.never rfl (fE K (pc cwanted hr (cT (pv 0) (p2 (pv 3) cM)))) (cN (i:=5) nd rfl (Or.inr rfl)) (cH (dR (qg K (pv 4) (p1 (dS (cI iV) ["house","knot","partings","row","pairs","unit"] ["child"] [5] ["child","unit"] rfl (fE K (pv 3)) (fun _ _ _ _ _=>(cN (i:=0) (show (["child","unit"]:List Str).Nodup by decide) rfl (Or.inl rfl))) (fun _ _ _ _ _=>(fH (cK (fP hr.units) (pv 0) (pv 1) (cQ _)))) (fun _ _ _ _ _=>(cV (p2 (pv 1) (pv 0))))))))))
   (cF (dM PassesOwn.never rfl (fE K (pc cwanted hr (cT (pv 0) (p2 (pv 3) cM)))) (cN (i:=5) nd rfl (Or.inr rfl)) (cH (dR (qg K (pv 4) (p1 (dS (cI iV) ["house","knot","partings","row","pairs","unit"] ["child"] [5] ["child","unit"] rfl (fE K (pv 3)) (fun _ _ _ _ _=>(cN (i:=0) (show (["child","unit"]:List Str).Nodup by decide) rfl (Or.inl rfl))) (fun _ _ _ _ _=>(fH (cK (fP hr.units) (pv 0) (pv 1) (cQ _)))) (fun _ _ _ _ _=>(cV (p2 (pv 0) (pv 1))))))))))
   (cH (cL (cV (p2 (fG K B (p1 (pv 3))) (zF rfl B (p1 (pc cplaces_of hr (p1 (pv 4))))))))))))),?_⟩
  refine⟨_,rfl,_,rfl,q,us,ks,ts,ws,wn,kk,rfl,R,T,hkk,fun la H1 s1 hla0 hla=>?_⟩
  have rlen:=rpp.len
  rw[ae] at rlen
  refine⟨_,rfl,lp,rfl,⟨_,.of (s1 _ _ hlp)⟩,?_⟩
  refine gs refs (fun D j acc σ' H'=>∃(o0:Option V),σ'=[o0,some (.str kk.1)]/\RepAll H' acc (((ts.take j).filterMap (gg ks kk.1)).map cW)/\acc.length<=j/\Same H1 H'/\H1 D=none) fun lf hlf=>⟨?_,?_,?_,?_⟩
  ·exact⟨none,rfl,.nil,ac _,Same.new hlf,hlf⟩
  ·rintro j acc σ' H' _ ⟨o0,rfl,_,_,sm,_⟩ _
   exact .of (sm _ _ (s1 _ _ hlp))
  ·rintro j acc σ' H' v hv ⟨o0, rfl, rp, al, sm, hlf0⟩ hacc
   obtain⟨e,he,pv⟩:=sy (rpp.same (s1.trans sm)) hv
   have hil:=(ah.mp he).1
   obtain⟨hu,hv',hpn⟩:=tok e (au he)
   cases hpo:dF ks e.1 e.2 with
   | none=>exact absurd hpo hpn
   | some t3 =>
    obtain⟨kq,x1,y1⟩:=t3
    rw[hpo] at pv
    obtain⟨t,rfl,ht⟩:=pv
    have eb:gg ks kk.1 e=if kq=kk.1 then some (x1,y1) else none:=by unfold gg;rw[hpo]
    have etk:(ts.take (j+1)).filterMap (gg ks kk.1)=(ts.take j).filterMap (gg ks kk.1)++(if kq=kk.1 then some (x1,y1) else none:Option (Str × Str)).toList:=by
     rw[av,he,List.filterMap_append,<- eb]
     cases h:gg ks kk.1 e <;> simp[h]
    clear eb
    dsimp only[eF]
    refine⟨_,rfl,.tup (.of ht) rfl ⟨_,rfl,.sc rfl ⟨_,rfl,?_⟩⟩⟩
    refine cR (fun hq=>?_) (fun hq=>?_)
    ·have hq:kq=kk.1:=Classical.byContradiction fun z=>by rw[if_neg (by decide),aw (fun w=>z (V.str.inj w))] at hq;cases hq
     rw[if_pos hq] at etk
     refine⟨_,rfl,.tup (.of ht) rfl ⟨_,rfl,.tup (.of ht) rfl ⟨(by show 2<=sizeLine;decide),fun t2 ht2=>?_⟩⟩⟩
     have st:=Same.new (o:=.tup [V.str x1,V.str y1]) ht2
     have et:upd H' t2 (.tup [V.str x1,V.str y1]) t2=some (.tup [V.str x1,V.str y1]):=cE
     have hacc2:=st _ _ hacc
     have sm2:=sm.trans st
     have rp2:=rp.same st
     generalize upd H' t2 (.tup [V.str x1,V.str y1])=H2 at et hacc2 sm2 rp2 ⊢
     refine⟨hacc2,cU (by omega),_,rfl,?_,by rw[aJ];show _+1<=_;omega,dh sm2 hlf0,hlf0⟩
     rw[etk,aj]
     exact RepAll.append (dy (dB hacc2 But.upd) rp2) (.cons (dB hacc2 But.upd (dG et)) .nil)
    ·have hq:kq≠kk.1:=fun z=>hq (by rw[if_neg (by decide),z,ak rfl])
     rw[if_neg hq] at etk
     refine⟨hacc,_,rfl,?_,by omega,sm,hlf0⟩
     rw[etk,show (none:Option (Str × Str)).toList=[] from rfl,aS]
     exact rp
  ·rintro acc σ' H2 ⟨o0, rfl, rp, al, sm, hlf0⟩ hacc
   rw[rlen,ap (ac _)] at rp
   have s2:=s1.trans sm
   have frf:H lf=none:=eG s1 hlf0
   have hla2:=sm _ _ hla
   have nla:la≠lf:=cO hla hlf0
   have fn0:Fnd H H2 lf us acc (ts.filterMap (gg ks kk.1)) 200:=by
    refine⟨hacc,rp,fun e he=>?_,?_,s2⟩
    ·exact yV T tok _ e he
    ·exact aG (List.length_filterMap_le _ _) tl
   generalize ebs:ts.filterMap (gg ks kk.1)=bs at fn0
   refine⟨_,rfl,_,rfl,q,la,us,kk.2,ks,ts,ws,wn,"first",rfl,R.same s2,T,wok,(.inl rfl),hla2,(fun u hu=>T.nm _ (kin u hu)),klen,fun D1 H3 s3 hD0 hD=>?_⟩
   have fn1:=fn0.more s3 (ac _)
   have nD:D1≠lf:=Ne.symm (cO fn0.f hD0)
   have hla3:=s3 _ _ hla2
   refine⟨D1,rfl,⟨_,.of hD⟩,?_⟩
   refine i7 (xs:=List.map V.str (wU kk.2 wn "first")) (fun i σ H'=>∃(o5:Option V) (fr:List V),σ=[some (.ref q),some (.str kk.1),some (.ref lp),some (.ref la),some (.ref lf),o5]/\Fnd H H' lf us fr (bs++((wU kk.2 wn "first").take i).flatMap (eS false kk.2)) (200+i * 60)/\H' la=some (.lst (List.map V.str kk.2))/\H' D1=some (.lst (List.map V.str (wU kk.2 wn "first")))) ?_ ?_ ?_ ?_
   ·exact⟨_,_,rfl,by rw[List.take_zero,List.flatMap_nil,aS];exact fn1,hla3,hD⟩
   ·rintro i σ H' hi ⟨o5,fr,rfl,_,_,hD⟩
    exact .of hD
   ·rintro i x σ H4 hx ⟨o5, fr, rfl, fn4, hla4, hD4⟩
    obtain⟨u,hu,rfl⟩:=dH hx
    have hil:=(ah.mp hu).1
    have hi60:=aG (jz kk.2 wn "first") klen
    have uin:=kin u (yf (au hu))
    have flen:=fn4.len
    refine⟨_,rfl,.inl ⟨rfl,_,.of fn4.f⟩,_,rfl,la,rfl,⟨_,.of hla4⟩,?_⟩
    refine gs (List.map V.str kk.2) (fun D j acc σ' H'=>∃(o0:Option V),σ'=[o0,some (.str u)]/\RepAll H' acc ((eS false (kk.2.take j) u).map cW)/\acc.length<=j/\Same H4 H'/\H4 D=none) fun D hDn=>⟨?_,?_,?_,?_⟩
    ·exact⟨none,rfl,.nil,ac _,Same.new hDn,hDn⟩
    ·rintro j acc σ' H' _ ⟨o0,rfl,_,_,sm,_⟩ _
     exact .of (sm _ _ hla4)
    ·rintro j acc σ' H' v hv ⟨o0,rfl,rp,al,sm,hD0'⟩ hacc
     obtain⟨ch,hch,rfl⟩:=dH hv
     have hjl:=(ah.mp hch).1
     have est:=pd false (u:=u) hch
     dsimp only[eF]
     refine⟨_,rfl,_,rfl,.sc rfl ⟨_,rfl,?_⟩⟩
     refine cR (fun hz=>?_) (fun hz=>?_)
     ·have hz:ch≠u:=fun z=>by rw[if_pos rfl,z,ak rfl] at hz;cases hz
      rw[if_neg hz] at est
      refine⟨_,rfl,_,rfl,(by show 2<=sizeLine;decide),fun t2 ht2=>?_⟩
      have st:=Same.new (o:=.tup [V.str u,V.str ch]) ht2
      have et:upd H' t2 (.tup [V.str u,V.str ch]) t2=some (.tup [V.str u,V.str ch]):=cE
      have hacc2:=st _ _ hacc
      have sm2:=sm.trans st
      have rp2:=rp.same st
      generalize upd H' t2 (.tup [V.str u,V.str ch])=H5 at et hacc2 sm2 rp2 ⊢
      refine⟨hacc2,cU (by omega),_,rfl,?_,by rw[aJ];show _+1<=_;omega,dh sm2 hD0',hD0'⟩
      rw[est,aj]
      exact RepAll.append (dy (dB hacc2 But.upd) rp2) (.cons (dB hacc2 But.upd (dG et)) .nil)
     ·have hz:ch=u:=Classical.byContradiction fun z=>hz (by rw[if_pos rfl,aw (fun w=>z (V.str.inj w))];rfl)
      rw[if_pos hz,aS] at est
      exact⟨hacc,_,rfl,by rw[est];exact rp,by omega,sm,hD0'⟩
    ·rintro acc σ' H5 ⟨o0,rfl,rp,al,sm,hD0'⟩ hacc
     rw[ae] at al
     rw[ae,ap (ac _)] at rp
     have fn5:=fn4.more sm (ac _)
     have fx:=fn5.ext (m:=60) rp (rY false kin uin) (aG (kg false kk.2 u) klen) frf
     refine cP ⟨lf,D,_,_,rfl,rfl,fn5.f,hacc,by omega,?_⟩
     refine⟨_,fr++acc,rfl,?_,by rw[cJ nla];exact sm _ _ hla4,by rw[cJ nD];exact sm _ _ hD4⟩
     have e:bs++((wU kk.2 wn "first").take (i+1)).flatMap (eS false kk.2)=bs++((wU kk.2 wn "first").take i).flatMap (eS false kk.2)++eS false kk.2 u:=by
      rw[av,hu,List.flatMap_append,cu]
      simp
     rw[e]
     exact fx.more (Same.refl _) (by omega)
   ·rintro σ H6 ⟨o5, fr1, rfl, fn6, hla6, _⟩
    have hi60:=aG (jz kk.2 wn "first") klen
    rw[ae,ap (ac _)] at fn6
    have fn6:=fn6.more (m:=3800) (Same.refl _) (by omega)
    generalize efs:bs++(wU kk.2 wn "first").flatMap (eS false kk.2)=fs at fn6
    refine⟨_,rfl,_,rfl,q,la,us,kk.2,ks,ts,ws,wn,"last",rfl,R.same fn6.s,T,wok,(.inr rfl),hla6,(fun u hu=>T.nm _ (kin u hu)),klen,fun D2 H3 s3 hD0 hD=>?_⟩
    have fn1:=fn6.more s3 (ac _)
    have nD:D2≠lf:=Ne.symm (cO fn6.f hD0)
    have hla3:=s3 _ _ hla6
    refine⟨D2,rfl,⟨_,.of hD⟩,?_⟩
    refine i7 (xs:=List.map V.str (wU kk.2 wn "last")) (fun i σ H'=>∃(o5:Option V) (fr:List V),σ=[some (.ref q),some (.str kk.1),some (.ref lp),some (.ref la),some (.ref lf),o5]/\Fnd H H' lf us fr (fs++((wU kk.2 wn "last").take i).flatMap (eS true kk.2)) (3800+i * 60)/\H' la=some (.lst (List.map V.str kk.2))/\H' D2=some (.lst (List.map V.str (wU kk.2 wn "last")))) ?_ ?_ ?_ ?_
    ·exact⟨_,_,rfl,by rw[List.take_zero,List.flatMap_nil,aS];exact fn1,hla3,hD⟩
    ·rintro i σ H' hi ⟨o5,fr,rfl,_,_,hD⟩
     exact .of hD
    ·rintro i x σ H4 hx ⟨o5, fr, rfl, fn4, hla4, hD4⟩
     obtain⟨u,hu,rfl⟩:=dH hx
     have hil:=(ah.mp hu).1
     have hi60:=aG (jz kk.2 wn "last") klen
     have uin:=kin u (yf (au hu))
     have flen:=fn4.len
     refine⟨_,rfl,.inl ⟨rfl,_,.of fn4.f⟩,_,rfl,la,rfl,⟨_,.of hla4⟩,?_⟩
     refine gs (List.map V.str kk.2) (fun D j acc σ' H'=>∃(o0:Option V),σ'=[o0,some (.str u)]/\RepAll H' acc ((eS true (kk.2.take j) u).map cW)/\acc.length<=j/\Same H4 H'/\H4 D=none) fun D hDn=>⟨?_,?_,?_,?_⟩
     ·exact⟨none,rfl,.nil,ac _,Same.new hDn,hDn⟩
     ·rintro j acc σ' H' _ ⟨o0,rfl,_,_,sm,_⟩ _
      exact .of (sm _ _ hla4)
     ·rintro j acc σ' H' v hv ⟨o0,rfl,rp,al,sm,hD0'⟩ hacc
      obtain⟨ch,hch,rfl⟩:=dH hv
      have hjl:=(ah.mp hch).1
      have est:=pd true (u:=u) hch
      dsimp only[eF]
      refine⟨_,rfl,_,rfl,.sc rfl ⟨_,rfl,?_⟩⟩
      refine cR (fun hz=>?_) (fun hz=>?_)
      ·have hz:ch≠u:=fun z=>by rw[if_pos rfl,z,ak rfl] at hz;cases hz
       rw[if_neg hz] at est
       refine⟨_,rfl,_,rfl,(by show 2<=sizeLine;decide),fun t2 ht2=>?_⟩
       have st:=Same.new (o:=.tup [V.str ch,V.str u]) ht2
       have et:upd H' t2 (.tup [V.str ch,V.str u]) t2=some (.tup [V.str ch,V.str u]):=cE
       have hacc2:=st _ _ hacc
       have sm2:=sm.trans st
       have rp2:=rp.same st
       generalize upd H' t2 (.tup [V.str ch,V.str u])=H5 at et hacc2 sm2 rp2 ⊢
       refine⟨hacc2,cU (by omega),_,rfl,?_,by rw[aJ];show _+1<=_;omega,dh sm2 hD0',hD0'⟩
       rw[est,aj]
       exact RepAll.append (dy (dB hacc2 But.upd) rp2) (.cons (dB hacc2 But.upd (dG et)) .nil)
      ·have hz:ch=u:=Classical.byContradiction fun z=>hz (by rw[if_pos rfl,aw (fun w=>z (V.str.inj w))];rfl)
       rw[if_pos hz,aS] at est
       exact⟨hacc,_,rfl,by rw[est];exact rp,by omega,sm,hD0'⟩
     ·rintro acc σ' H5 ⟨o0,rfl,rp,al,sm,hD0'⟩ hacc
      rw[ae] at al
      rw[ae,ap (ac _)] at rp
      have fn5:=fn4.more sm (ac _)
      have fx:=fn5.ext (m:=60) rp (rY true kin uin) (aG (kg true kk.2 u) klen) frf
      refine cP ⟨lf,D,_,_,rfl,rfl,fn5.f,hacc,by omega,?_⟩
      refine⟨_,fr++acc,rfl,?_,by rw[cJ nla];exact sm _ _ hla4,by rw[cJ nD];exact sm _ _ hD4⟩
      have e:fs++((wU kk.2 wn "last").take (i+1)).flatMap (eS true kk.2)=fs++((wU kk.2 wn "last").take i).flatMap (eS true kk.2)++eS true kk.2 u:=by
       rw[av,hu,List.flatMap_append,cu]
       simp
      rw[e]
      exact fx.more (Same.refl _) (by omega)
    ·rintro σ H7 ⟨o5,fr2,rfl,fn7,hla7,_⟩
     have hi60:=aG (jz kk.2 wn "last") klen
     rw[ae,ap (ac _)] at fn7
     have fn7:=fn7.more (m:=7400) (Same.refl _) (by omega)
     have evw:hX ks ts wn kk.1 kk.2=eZ [] (fs++(wU kk.2 wn "last").flatMap (eS true kk.2)):=by
      unfold hX
      rw[ebs,<- cu,efs]
     generalize fs++(wU kk.2 wn "last").flatMap (eS true kk.2)=ps at fn7 evw
     refine⟨_,rfl,la,_,rfl,.of hla7,fun l1 hl1=>?_⟩
     have s8:=Same.new (o:=.tup (List.map V.str kk.2)) hl1
     have e8:upd H7 l1 (.tup (List.map V.str kk.2)) l1=some (.tup (List.map V.str kk.2)):=cE
     have fn8:=fn7.more s8 (ac _)
     generalize upd H7 l1 (.tup (List.map V.str kk.2))=H8 at e8 fn8 ⊢
     have pl:=fn8.l
     refine⟨_,rfl,cP ⟨lf,_,ps,rfl,fn8.f,fn8.r,by omega,fun d kvs H9 s9 hd0 hd hks=>?_⟩⟩
     refine⟨d,kvs,rfl,hd,fun l2 rs hl2 rl hrs=>?_⟩
     have s10:=Same.new (o:=.tup rs) hl2
     have rpv:=(vh hks rl hrs).same s10
     have e10:upd H9 l2 (.tup rs) l2=some (.tup rs):=cE
     have s8a:=s9.trans s10
     generalize upd H9 l2 (.tup rs)=H10 at rpv e10 s8a ⊢
     refine cP ⟨(by show 2<=sizeLine;decide),fun t ht=>?_⟩
     have s11:=Same.new (o:=.tup [V.ref l1,V.ref l2]) ht
     refine k (.ref t) _ ((fn8.s.trans s8a).trans s11) ?_
     unfold td
     rw[evw]
     exact .tup cE (.cons (.tup (s11 _ _ (s8a _ _ e8)) (RepAll.of_strs _)) (.cons (.tup (s11 _ _ e10) (rpv.same s11)) .nil))
theorem mI {α β:Type}{f:α->List β}{m:Nat}:∀ {l:List α},(∀x∈l,(f x).length<=m)->(l.flatMap f).length<=l.length * m
 | [],_=>aP _
 | x::l,h=>by
  rw[List.flatMap_cons,aJ,aF]
  have h1:=h x (by simp)
  have h2:=mI (l:=l) fun y hy=>h y (aK _ hy)
  rw[Nat.add_mul]
  omega
theorem u5 {ks:Kn}{ts wn:Prs}{knot:Str}{c:List Str}(hc:c.length<=60) (tl:ts.length<=200):(hX ks ts wn knot c).length<=7400:=by
 unfold hX
 have h0:=kF (ts.filterMap (gg ks knot)++((wU c wn "first").flatMap (eS false c)++(wU c wn "last").flatMap (eS true c))) []
 rw[aJ,aJ] at h0
 have h1:=List.length_filterMap_le (gg ks knot) ts
 have h2:=mI (f:=eS false c) (l:=wU c wn "first") (m:=60) fun u _=>aG (kg _ c u) hc
 have h3:=mI (f:=eS true c) (l:=wU c wn "last") (m:=60) fun u _=>aG (kg _ c u) hc
 have h4:=jz c wn "first"
 have h5:=jz c wn "last"
 have h6:([]:Prs).length=0:=rfl
 omega
def vU:Sp:=fun vs H Q _=>∃(q:Addr) (us:List Str) (ks:Kn) (ts ws wn:Prs) (k:Str × List Str),vs=[.ref q,.str k.1]/\Rep H (.ref q) (df ks ts ws wn)/\Tre us ks/\gX us ks ts/\WnX ks wn/\k∈ks/\ts.length<=200/\∀x H',Same H H'->Rep H' x (td ks ts wn k)->Q x H'
theorem scView:FnScope ["house","knot"] ["house","knot"] (cI tT):=⟨rfl,rfl,rfl,by decide +kernel,rfl,by decide +kernel,by decide +kernel⟩
theorem zG {f:Addr}{fd:FuncData}(F:Fun K "view" "view" tT f fd) (B:Blt mg) (cview_by:Cal P w K mg base 2 "view_by" ["house","knot","partings"] qO) (ckept_partings:Cal P w K mg base 3 "kept_partings" ["house"] on):FnOk P w K mg base CX0 4 f fd ["house","knot"] vU:=by
 refine F.ok scView (fun vs H Q E h=>?_) (fun cdv A outer s H vs Q E hr h=>?_)
 ·obtain⟨q,us,ks,ts,ws,wn,kk,rfl,_⟩:=h
  rfl
 ·obtain⟨q,us,ks,ts,ws,wn,kk,rfl,R,T,tok,WX,hkk,tl,k⟩:=h
  have nd:=scView.nd
  refine⟨_,(cH (cL (pc cview_by hr (cT (pv 0) (p2 (pv 1) (pc ckept_partings hr (p1 (pv 0)))))))),?_⟩
  refine⟨_,rfl,_,rfl,_,rfl,q,us,ks,ts,ws,wn,rfl,R,T,tok,tl,fun l refs H1 s1 hl0 hl rp=>?_⟩
  refine cP ⟨q,l,us,ks,ts,ws,wn,kk,refs,rfl,R.same s1,T,tok,WX,hkk,tl,hl,rp,fun x H2 s2 rx=>?_⟩
  exact k x H2 (s1.trans s2) rx
def kU:Sp:=fun vs H Q _=>∃(a:Addr) (xs:List Str),vs=[.ref a]/\H a=some (.lst (List.map V.str xs))/\xs.length<=100000/\∀d kvs H',Same H H'->H d=none->H' d=some (.dK kvs)->(∀s,(dg kvs (.inr s)).isSome=true ↔ s∈xs)->Q (.ref d) H'
theorem uu {f:Addr}{fd:FuncData}(F:Fun K "places_of" "places_of" iT f fd) (B:Blt mg):FnOk P w K mg base CX0 1 f fd ["things"] kU := by
 refine F.ok scPlacesD (fun vs H Q E h=>?_) (fun cdv A outer s H vs Q E hr h=>?_)
 ·obtain⟨a,xs,rfl,_⟩:=h
  rfl
 ·obtain⟨a, xs, rfl, ha, hl, k⟩ := h
  have nd:=scPlacesD.nd
  have sz:200000<sizeLine:=by decide
  refine⟨_,(cF (pst 1 nd mD)
   (cF (dM PassesOwn.never rfl (kb K rfl B.enumerate (p1 (pv 0))) (eW (n:=2) K rfl (cY (cN (i:=2) nd rfl (Or.inl rfl)) (cY (cN (i:=3) nd rfl (Or.inl rfl)) eP))) (cH (gM (pv 2) (hW (pv 1) (pv 3) (iQ hr.units)))))
   (cH (cL (pv 1))))),?_⟩
  intro d hd
  have s0:=Same.new (o:=.dK []) hd
  refine⟨_,rfl,_,rfl,.lst (.of (s0 _ _ ha)) ?_⟩
  refine ka (xs:=List.map V.str xs) (fun i σ H'=>∃o1 o2 kvs,σ=[some (.ref a),some (.ref d),o1,o2]/\Same H H'/\H' d=some (.dK kvs)/\kvs.length<=i/\(∀s,(dg kvs (.inr s)).isSome=true ↔ s∈xs.take i)) ?_ ?_ ?_ ?_
  ·refine⟨none,none,[],rfl,s0,cE,ac _,fun s=>?_⟩
   simp[km]
  ·rintro i σ H' hi ⟨o1,o2,kvs,rfl,sm,_⟩
   exact .of (sm _ _ ha)
  ·rintro i x σ H' p hx ⟨o1, o2, kvs, rfl, sm, hk, hkl, hin⟩ hp
   obtain⟨t,ht,rfl⟩:=dH hx
   have hil:=(ah.mp ht).1
   have hdp:d≠p:=cO hk hp
   refine⟨p,_,rfl,.of cE,rfl,_,_,rfl,_,_,rfl,rfl,?_⟩
   refine⟨_,rfl,_,rfl,_,rfl,.dic (DPut.k (k:=.inr t) (by rw[cJ hdp];exact hk) (by omega)) ⟨_,_,_,rfl,?_,cE,?_,?_⟩⟩
   ·intro b o hb
    rw[cJ (cO hb hd)]
    exact Same.new hp _ _ (sm _ _ hb)
   ·have:=dW kvs (.inr t) (V.int (i:Nat))
    omega
   ·intro s
    rw[gt,av,ht,aH]
    by_cases q:s=t
    ·subst q
     simp
    ·rw[if_neg (fun z=>q (Sum.inr.inj z)),hin s]
     simp[q]
  ·rintro σ H' ⟨o1,o2,kvs,rfl,sm,hk,_,hin⟩
   rw[ae,ap (ac _)] at hin
   exact⟨_,rfl,k d kvs H' sm hd hk hin⟩
def nbP (sec:Bool) (es:Prs) (u x:Str):Bool:=if sec then decide ((x,u)∈es) else decide ((u,x)∈es)
def vwD (c:List Str) (es:Prs):PyData:=.tuple [.tuple (c.map PyData.str),fq es]
theorem uw {H:Hp}{v:V}{c:List Str}{es:Prs}(h:Rep H v (vwD c es)):∃q a b refs,v=.ref q/\H q=some (.tup [.ref a,.ref b])/\H a=some (.tup (List.map V.str c))/\H b=some (.tup refs)/\RepAll H refs (es.map cW):=by
 obtain⟨q,xs,rfl,hq,r0⟩:=Rep.tupI h
 obtain⟨y,ys,rfl,r1,r3⟩:=r0.consI
 obtain⟨z,zs,rfl,r2,r4⟩:=r3.consI
 have e1:=RepAll.nilI r4
 subst e1
 obtain⟨a,xa,rfl,ha,ra⟩:=Rep.tupI r1
 have e2:=RepAll.strs ra
 subst e2
 obtain⟨b,refs,rfl,hb,rb⟩:=Rep.tupI r2
 exact⟨q,a,b,refs,rfl,hq,ha,hb,rb⟩
def ut (sec:Bool):Sp:=fun vs H Q _=>∃(q:Addr) (c:List Str) (es:Prs) (u:Str),vs=[.ref q,.str u]/\Rep H (.ref q) (vwD c es)/\c.length<=60/\es.length<=100000/\∀l H',Same H H'->H l=none->H' l=some (.lst (List.map V.str (c.filter (nbP sec es u))))->Q (.ref l) H'
theorem scNexts:FnScope ["web","one","found"] ["web","one"] (cI kY):=⟨rfl,rfl,rfl,by decide +kernel,rfl,by decide +kernel,by decide +kernel⟩
theorem xq {f:Addr}{fd:FuncData}(F:Fun K "nexts" "nexts" kY f fd) (B:Blt mg) (cplaces_of:Cal P w K mg base 1 "places_of" ["things"] kU):FnOk P w K mg base CX0 2 f fd ["web", "one"] (ut false) := by
 refine F.ok scNexts (fun vs H Q E h=>?_) (fun cdv A outer s H vs Q E hr h=>?_)
 ·obtain⟨q,c,es,u,rfl,_⟩:=h
  rfl
 ·obtain⟨q, c, es, u, rfl, R, cl, el, k⟩ := h
  have nd:=scNexts.nd
  have sz:200000<sizeLine:=by decide
  refine⟨_,(cF (gr (i:=2) nd rfl (Or.inr rfl) (pc cplaces_of hr (p1 (dS (cI kY) ["web","one","found"] ["tie"] [1] ["tie","one"] rfl (dP K (px K hr (pv 0) cG)) (fun _ _ _ _ _=>(cN (i:=0) (show (["tie","one"]:List Str).Nodup by decide) rfl (Or.inl rfl))) (fun _ _ _ _ _=>(fH (cK (di hr.units) (px K hr (pv 0) cG) (pv 1) (cQ _)))) (fun _ _ _ _ _=>(px K hr (pv 0) cG))))))
   (cH (cL (dS (cI kY) ["web","one","found"] ["thing"] [2] ["thing","found"] rfl (dP K (px K hr (pv 0) cG)) (fun _ _ _ _ _=>(cN (i:=0) (show (["thing","found"]:List Str).Nodup by decide) rfl (Or.inl rfl))) (fun _ _ _ _ _=>(fH (cK (ft K hr.units) (pv 0) (pv 1) (by with_unfolding_all rfl)))) (fun _ _ _ _ _=>(pv 0)))))),?_⟩
  obtain⟨q',a,b,refs,e0,hq,ha,hb,rp⟩:=uw R
  cases e0
  have rlen:=rp.len
  rw[ae] at rlen
  refine⟨_,rfl,.tup (.of hq) rfl ⟨_,rfl,⟨_,.of hb⟩,?_⟩⟩
  refine fj refs (fun D i acc σ' H'=>∃o,σ'=[o,some (.str u)]/\acc=List.map V.str (((es.take i).filter fun e=>decide (e.1=u)).map (·.2))/\Same H H'/\H D=none) fun D hD=>⟨?_,?_,?_,?_⟩
  ·exact⟨none,rfl,rfl,Same.new hD,hD⟩
  ·rintro i acc σ' H' _ ⟨o,rfl,_,sm,_⟩ _
   exact .of (sm _ _ hb)
  ·rintro i acc σ' H' x hx ⟨o,rfl,hacc0,sm,hD0⟩ hacc
   obtain⟨e,ta,he,rfl,hta⟩:=fk (rp.same sm) hx
   have hil:=(ah.mp he).1
   have estep:(((es.take (i+1)).filter fun e=>decide (e.1=u)).map (·.2))=(((es.take i).filter fun e=>decide (e.1=u)).map (·.2))++(if e.1=u then [e.2] else []):=by
    rw[av,he,br,aj]
    congr 1
    show List.map _ (List.filter _ [e])=_
    rw[bt,bK]
    by_cases hz:e.1=u
    ·rw[if_pos (by simpa using hz),if_pos hz];rfl
    ·rw[if_neg (by simpa using hz),if_neg hz];rfl
   have alen:(((es.take i).filter fun e=>decide (e.1=u)).map (·.2)).length<=i:=by
    rw[ae]
    have h2:=bd (fun e:Str × Str=>decide (e.1=u)) (es.take i)
    rw[aL] at h2
    omega
   dsimp only[eF]
   refine⟨_,rfl,.tup (.of hta) rfl ⟨_,rfl,.sc rfl ⟨_,rfl,?_⟩⟩⟩
   refine cR (fun h1=>?_) (fun h1=>?_)
   ·have h1:e.1=u:=Classical.byContradiction fun z=>by rw[if_neg (by decide),aw (fun w=>z (V.str.inj w))] at h1;cases h1
    rw[if_pos h1] at estep
    refine⟨_,rfl,.tup (.of hta) rfl ⟨hacc,by rw[hacc0,ae];omega,_,rfl,by rw[estep,hacc0,aj];rfl,dh sm hD0,hD0⟩⟩
   ·have h1:e.1≠u:=fun z=>h1 (by rw[if_neg (by decide),z,ak rfl])
    rw[if_neg h1,aS] at estep
    exact⟨hacc,_,rfl,by rw[estep];exact hacc0,sm,hD0⟩
  ·rintro acc σ' H1 ⟨o, rfl, hacc0, s1, hD0⟩ hacc
   rw[rlen,ap (ac _)] at hacc0
   subst hacc0
   refine cP ⟨D,_,rfl,hacc,?_,fun d kvs H2 s2 hd2 hk hin=>?_⟩
   ·rw[ae]
    have h2:=bd (fun e:Str × Str=>decide (e.1=u)) es
    omega
   ·have s12 := s1.trans s2
    have hin2:∀t,(dg kvs (.inr t)).isSome=nbP false es u t:=fun t=>by
     rw[aX,hin t,ao]
     show _ ↔ decide ((u,t)∈es)=true
     rw[decide_eq_true_iff]
     constructor
     ·rintro⟨e,he,rfl⟩
      obtain⟨h1,h2⟩:=aT.mp he
      rw[<- aM h2];exact h1
     ·intro h
      exact⟨_,aT.mpr ⟨h,ak rfl⟩,rfl⟩
    refine⟨_,rfl,.tup (.of (s12 _ _ hq)) rfl ⟨_,rfl,⟨_,.of (s12 _ _ ha)⟩,?_⟩⟩
    refine fj (List.map V.str c) (fun D i acc σ' H'=>∃o,σ'=[o,some (.ref d)]/\acc=List.map V.str ((c.take i).filter (nbP false es u))/\Same H2 H'/\H2 D=none) fun D' hD'=>⟨?_,?_,?_,?_⟩
    ·exact⟨none,rfl,rfl,Same.new hD',hD'⟩
    ·rintro i acc σ' H' _ ⟨o,rfl,_,sm,_⟩ _
     exact .of (sm _ _ (s12 _ _ ha))
    ·rintro i acc σ' H' x hx ⟨o,rfl,hacc0,sm,hD0'⟩ hacc
     obtain⟨t,ht,rfl⟩:=dH hx
     have hil:=(ah.mp ht).1
     have estep:(c.take (i+1)).filter (nbP false es u)=(c.take i).filter (nbP false es u)++(if nbP false es u t=true then [t] else []):=by
      rw[av,ht,br]
      congr 1
      show List.filter _ [t]=_
      rw[bt,bK]
     have alen:((c.take i).filter (nbP false es u)).length<=i:=by
      have h2:=bd (nbP false es u) (c.take i)
      rw[aL] at h2
      omega
     dsimp only[eF]
     refine⟨_,rfl,_,rfl,.dic (DGet.k (k:=.inr t) (sm _ _ hk)) ⟨_,rfl,?_⟩⟩
     rw[if_neg (show ¬ false=true by decide),hin2 t]
     refine cR (fun h1=>?_) (fun h1=>?_)
     ·rw[if_pos h1] at estep
      exact⟨_,rfl,hacc,by rw[hacc0,ae];exact cU (by omega),_,rfl,by rw[estep,hacc0,aj];rfl,dh sm hD0',hD0'⟩
     ·rw[if_neg h1,aS] at estep
      exact⟨hacc,_,rfl,by rw[estep];exact hacc0,sm,hD0'⟩
    ·rintro acc σ' H' ⟨o,rfl,hacc0,sm,hD0'⟩ hacc
     rw[ae,ap (ac _)] at hacc0
     subst hacc0
     exact k D' H' (s12.trans sm) (eG s12 hD0') hacc
theorem scPriors:FnScope ["web","one","found"] ["web","one"] (cI jy):=⟨rfl,rfl,rfl,by decide +kernel,rfl,by decide +kernel,by decide +kernel⟩
theorem u9 {f:Addr}{fd:FuncData}(F:Fun K "priors" "priors" jy f fd) (B:Blt mg) (cplaces_of:Cal P w K mg base 1 "places_of" ["things"] kU):FnOk P w K mg base CX0 2 f fd ["web", "one"] (ut true) := by
 refine F.ok scPriors (fun vs H Q E h=>?_) (fun cdv A outer s H vs Q E hr h=>?_)
 ·obtain⟨q,c,es,u,rfl,_⟩:=h
  rfl
 ·obtain⟨q, c, es, u, rfl, R, cl, el, k⟩ := h
  have nd:=scPriors.nd
  have sz:200000<sizeLine:=by decide
  refine⟨_,(cF (gr (i:=2) nd rfl (Or.inr rfl) (pc cplaces_of hr (p1 (dS (cI jy) ["web","one","found"] ["tie"] [1] ["tie","one"] rfl (dP K (px K hr (pv 0) cG)) (fun _ _ _ _ _=>(cN (i:=0) (show (["tie","one"]:List Str).Nodup by decide) rfl (Or.inl rfl))) (fun _ _ _ _ _=>(fH (cK (di hr.units) (px K hr (pv 0) cG) (pv 1) (cQ _)))) (fun _ _ _ _ _=>(px K hr (pv 0) cG))))))
   (cH (cL (dS (cI jy) ["web","one","found"] ["thing"] [2] ["thing","found"] rfl (dP K (px K hr (pv 0) cG)) (fun _ _ _ _ _=>(cN (i:=0) (show (["thing","found"]:List Str).Nodup by decide) rfl (Or.inl rfl))) (fun _ _ _ _ _=>(fH (cK (ft K hr.units) (pv 0) (pv 1) (by with_unfolding_all rfl)))) (fun _ _ _ _ _=>(pv 0)))))),?_⟩
  obtain⟨q',a,b,refs,e0,hq,ha,hb,rp⟩:=uw R
  cases e0
  have rlen:=rp.len
  rw[ae] at rlen
  refine⟨_,rfl,.tup (.of hq) rfl ⟨_,rfl,⟨_,.of hb⟩,?_⟩⟩
  refine fj refs (fun D i acc σ' H'=>∃o,σ'=[o,some (.str u)]/\acc=List.map V.str (((es.take i).filter fun e=>decide (e.2=u)).map (·.1))/\Same H H'/\H D=none) fun D hD=>⟨?_,?_,?_,?_⟩
  ·exact⟨none,rfl,rfl,Same.new hD,hD⟩
  ·rintro i acc σ' H' _ ⟨o,rfl,_,sm,_⟩ _
   exact .of (sm _ _ hb)
  ·rintro i acc σ' H' x hx ⟨o,rfl,hacc0,sm,hD0⟩ hacc
   obtain⟨e,ta,he,rfl,hta⟩:=fk (rp.same sm) hx
   have hil:=(ah.mp he).1
   have estep:(((es.take (i+1)).filter fun e=>decide (e.2=u)).map (·.1))=(((es.take i).filter fun e=>decide (e.2=u)).map (·.1))++(if e.2=u then [e.1] else []):=by
    rw[av,he,br,aj]
    congr 1
    show List.map _ (List.filter _ [e])=_
    rw[bt,bK]
    by_cases hz:e.2=u
    ·rw[if_pos (by simpa using hz),if_pos hz];rfl
    ·rw[if_neg (by simpa using hz),if_neg hz];rfl
   have alen:(((es.take i).filter fun e=>decide (e.2=u)).map (·.1)).length<=i:=by
    rw[ae]
    have h2:=bd (fun e:Str × Str=>decide (e.2=u)) (es.take i)
    rw[aL] at h2
    omega
   dsimp only[eF]
   refine⟨_,rfl,.tup (.of hta) rfl ⟨_,rfl,.sc rfl ⟨_,rfl,?_⟩⟩⟩
   refine cR (fun h1=>?_) (fun h1=>?_)
   ·have h1:e.2=u:=Classical.byContradiction fun z=>by rw[if_neg (by decide),aw (fun w=>z (V.str.inj w))] at h1;cases h1
    rw[if_pos h1] at estep
    refine⟨_,rfl,.tup (.of hta) rfl ⟨hacc,by rw[hacc0,ae];omega,_,rfl,by rw[estep,hacc0,aj];rfl,dh sm hD0,hD0⟩⟩
   ·have h1:e.2≠u:=fun z=>h1 (by rw[if_neg (by decide),z,ak rfl])
    rw[if_neg h1,aS] at estep
    exact⟨hacc,_,rfl,by rw[estep];exact hacc0,sm,hD0⟩
  ·rintro acc σ' H1 ⟨o, rfl, hacc0, s1, hD0⟩ hacc
   rw[rlen,ap (ac _)] at hacc0
   subst hacc0
   refine cP ⟨D,_,rfl,hacc,?_,fun d kvs H2 s2 hd2 hk hin=>?_⟩
   ·rw[ae]
    have h2:=bd (fun e:Str × Str=>decide (e.2=u)) es
    omega
   ·have s12 := s1.trans s2
    have hin2:∀t,(dg kvs (.inr t)).isSome=nbP true es u t:=fun t=>by
     rw[aX,hin t,ao]
     show _ ↔ decide ((t,u)∈es)=true
     rw[decide_eq_true_iff]
     constructor
     ·rintro⟨e,he,rfl⟩
      obtain⟨h1,h2⟩:=aT.mp he
      rw[<- aM h2];exact h1
     ·intro h
      exact⟨_,aT.mpr ⟨h,ak rfl⟩,rfl⟩
    refine⟨_,rfl,.tup (.of (s12 _ _ hq)) rfl ⟨_,rfl,⟨_,.of (s12 _ _ ha)⟩,?_⟩⟩
    refine fj (List.map V.str c) (fun D i acc σ' H'=>∃o,σ'=[o,some (.ref d)]/\acc=List.map V.str ((c.take i).filter (nbP true es u))/\Same H2 H'/\H2 D=none) fun D' hD'=>⟨?_,?_,?_,?_⟩
    ·exact⟨none,rfl,rfl,Same.new hD',hD'⟩
    ·rintro i acc σ' H' _ ⟨o,rfl,_,sm,_⟩ _
     exact .of (sm _ _ (s12 _ _ ha))
    ·rintro i acc σ' H' x hx ⟨o,rfl,hacc0,sm,hD0'⟩ hacc
     obtain⟨t,ht,rfl⟩:=dH hx
     have hil:=(ah.mp ht).1
     have estep:(c.take (i+1)).filter (nbP true es u)=(c.take i).filter (nbP true es u)++(if nbP true es u t=true then [t] else []):=by
      rw[av,ht,br]
      congr 1
      show List.filter _ [t]=_
      rw[bt,bK]
     have alen:((c.take i).filter (nbP true es u)).length<=i:=by
      have h2:=bd (nbP true es u) (c.take i)
      rw[aL] at h2
      omega
     dsimp only[eF]
     refine⟨_,rfl,_,rfl,.dic (DGet.k (k:=.inr t) (sm _ _ hk)) ⟨_,rfl,?_⟩⟩
     rw[if_neg (show ¬ false=true by decide),hin2 t]
     refine cR (fun h1=>?_) (fun h1=>?_)
     ·rw[if_pos h1] at estep
      exact⟨_,rfl,hacc,by rw[hacc0,ae];exact cU (by omega),_,rfl,by rw[estep,hacc0,aj];rfl,dh sm hD0',hD0'⟩
     ·rw[if_neg h1,aS] at estep
      exact⟨hacc,_,rfl,by rw[estep];exact hacc0,sm,hD0'⟩
    ·rintro acc σ' H' ⟨o,rfl,hacc0,sm,hD0'⟩ hacc
     rw[ae,ap (ac _)] at hacc0
     subst hacc0
     exact k D' H' (s12.trans sm) (eG s12 hD0') hacc
abbrev T3:=Str × Str × Str
def t3D (t:T3):PyData:=.tuple [.str t.1,.str t.2.1,.str t.2.2]
theorem sL (o:Option T3) (t:T3):PyData.eqv (mG o) (t3D t)=decide (o=some t):=by
 cases o with
 | none=>rfl
 | some q =>
  obtain⟨a,b,c⟩:=q
  obtain⟨d,e,f⟩:=t
  show ((a==d)&&((b==e)&&((c==f)&&true)))=_
  rw[Bool.and_true,aX]
  simp only[bf,beq_iff_eq,decide_eq_true_eq,Option.some.injEq,Prod.mk.injEq]
def Kt (t:T3):Prop:=(t.1=""∨Nm t.1)/\Nm t.2.1/\Nm t.2.2
theorem uW {z:Str}(h:z=""∨Nm z):PyData.canLay0 (.str z)=true:=by
 rcases h with rfl | h
 ·decide +kernel
 ·exact ei h
theorem qN {t:T3}(h:Kt t):shp (t3D t):=by
 show ((PyData.canLay0 (.str t.1)&&(PyData.canLay0 (.str t.2.1)&&(PyData.canLay0 (.str t.2.2)&&true)))&&decide (PyData.depthAll (List.map PyData.str [t.1,t.2.1,t.2.2])+1<=64))=true
 rw[uW h.1,ei h.2.1,ei h.2.2,nJ];rfl
theorem sP {o:Option T3}(h:∀t,o=some t->Kt t):shp (mG o):=by
 cases o with
 | none=>show SeqAt.shaped .none=true;decide +kernel
 | some q=>exact qN (h q rfl)
theorem sr {us:List Str}{ks:Kn}(T:Tre us ks) {u v:Str}(hu:u∈us) (hv:v∈us) {t:T3}(h:dF ks u v=some t):Kt t:=by
 obtain⟨q,x,y⟩:=t
 obtain⟨h1,_,hx,hy,_⟩:=T.part hu hv h
 refine⟨?_,T.nm _ hx,T.nm _ hy⟩
 show q=""∨Nm q
 rw[<- h1]
 rcases (T.par_in hx).1 with w | w
 ·exact .inl w
 ·exact .inr (T.nm _ w)
def eX (ks:Kn) (ts wn:Prs) (t:T3):T3:=match ts.find? fun e=>decide (dF ks e.1 e.2=some t) with
 | some e=>((("tie":Str),e.1,e.2):T3)
 | none=>(if ((("first":Str),t.2.1):Str × Str)∈wn then ("first":Str) else "last",t.2.1,t.2.2)
theorem p7 {ks:Kn}{ts wn:Prs}{t:T3}{i:Nat}{e:Str × Str}(hn:(ts.take i).find? (fun e=>decide (dF ks e.1 e.2=some t))=none) (he:ts[i]? = some e) (h:dF ks e.1 e.2=some t):eX ks ts wn t=((("tie":Str),e.1,e.2):T3):=by
 have hl:=(ah.mp he)
 have:ts.find? (fun e=>decide (dF ks e.1 e.2=some t))=some e:=by
  conv=>lhs;rw[<- bY i ts]
  rw[List.find?_append,hn,Option.none_or,bJ hl.1,hl.2,bc,ak h]
 unfold eX
 rw[this]
theorem pf {ks:Kn}{ts:Prs}{t:T3}{i:Nat}{e:Str × Str}(hn:(ts.take i).find? (fun e=>decide (dF ks e.1 e.2=some t))=none) (he:ts[i]? = some e) (h:dF ks e.1 e.2≠some t):(ts.take (i+1)).find? (fun e=>decide (dF ks e.1 e.2=some t))=none:=by
 rw[av,he,List.find?_append,hn,Option.none_or]
 show List.find? _ [e]=none
 rw[bc,aw h];rfl
theorem pG {ks:Kn}{ts wn:Prs}{t:T3}(hn:ts.find? (fun e=>decide (dF ks e.1 e.2=some t))=none):eX ks ts wn t=(if ((("first":Str),t.2.1):Str × Str)∈wn then ("first":Str) else "last",t.2.1,t.2.2):=by
 unfold eX
 rw[hn]
theorem tJ {H:Hp}{v:V}{t:T3}(h:Rep H v (t3D t)):∃q,v=.ref q/\H q=some (.tup [.str t.1,.str t.2.1,.str t.2.2]):=by
 obtain⟨q,xs,rfl,hq,r0⟩:=Rep.tupI h
 have r0:RepAll H xs (List.map PyData.str [t.1,t.2.1,t.2.2]):=r0
 have e2:=RepAll.strs r0
 subst e2
 exact⟨q,rfl,hq⟩
theorem gh {H:Hp}{q:Addr}{t:T3}(h:H q=some (.tup [.str t.1,.str t.2.1,.str t.2.2])):Rep H (.ref q) (t3D t):=.tup h (.cons (.str _) (.cons (.str _) (.cons (.str _) .nil)))
theorem pC {H H':Hp}{p:Addr}{ys:List V}(hp:H p=some (.lst ys)) (b:But p H H') {v:V}{t:T3}(h:Rep H v (t3D t)):Rep H' v (t3D t):=by
 obtain⟨q,rfl,hq⟩:=tJ h
 exact gh (fM hp b hq)
def qh:Sp:=fun vs H Q _=>∃(q lp pt:Addr) (us:List Str) (ks:Kn) (ts ws wn:Prs) (refs:List V) (t:T3),vs=[.ref q,.ref lp,.ref pt]/\Rep H (.ref q) (df ks ts ws wn)/\Tre us ks/\nO us wn/\gX us ks ts/\H lp=some (.lst refs)/\RepAll H refs (ts.map (nZ ks))/\Rep H (.ref pt) (t3D t)/\Kt t/\∀x H',Same H H'->H x=none->Rep H' (.ref x) (t3D (eX ks ts wn t))->Q (.ref x) H'
theorem scStepOf:FnScope ["house","partings","part","tie","found","word"] ["house","partings","part"] (cI nU):=⟨rfl,rfl,rfl,by decide +kernel,rfl,by decide +kernel,by decide +kernel⟩
theorem uI {f:Addr}{fd:FuncData}(F:Fun K "step_of" "step_of" nU f fd) (B:Blt mg) (Zz:mg "zip"=none):FnOk P w K mg base CX0 1 f fd ["house", "partings", "part"] qh := by
 refine F.ok scStepOf (fun vs H Q E h=>?_) (fun cdv A outer s H vs Q E hr h=>?_)
 ·obtain⟨q,lp,pt,us,ks,ts,ws,wn,refs,t,rfl,_⟩:=h
  rfl
 ·obtain⟨q, lp, pt, us, ks, ts, ws, wn, refs, t, rfl, R, T, wok, tok, hlp, rpp, Rt, hkt, k⟩ := h
  have nd:=scStepOf.nd
  refine⟨_,(cF (dM PassesOwn.never rfl (xc K rfl Zz (p2 (px K hr (pv 0) cG) (pv 1))) (eW (n:=2) K rfl (cY (cN (i:=3) nd rfl (Or.inl rfl)) (cY (cN (i:=4) nd rfl (Or.inl rfl)) eP))) (cH (cX (cK (di hr.units) (pv 4) (pv 2) (cQ _)) (cH (cL (cV (cT cM (p2 (px K hr (pv 3) cG) (px K hr (pv 3) cG)))))) cS)))
   (cF (pst 5 nd (kr (cK (n5 hr.units) (cV (p2 cM (px K hr (pv 2) cG))) (px K hr (pv 0) cG) (by with_unfolding_all rfl)) cM cM))
   (cH (cL (cV (cT (pv 5) (p2 (px K hr (pv 2) cG) (px K hr (pv 2) cG)))))))),?_⟩
  obtain⟨q',a,b,c3,d4,e0,hq,_,R2,_,R4⟩:=dI R
  cases e0
  obtain⟨b',rb,e0,hb,rpb⟩:=dZ R2
  cases e0
  obtain⟨d4',rw4,e0,hd4,rpw⟩:=dZ R4
  cases e0
  obtain⟨pt',e0,hpt⟩:=tJ Rt
  cases e0
  have rblen:=rpb.len
  have rplen:=rpp.len
  rw[ae] at rblen rplen
  have cay:PyData.canLayAll0 (wn.map cW)=true:=dC fun e he=>⟨iR (wok e he).1,T.nm _ (wok e he).2⟩
  refine⟨_,rfl,.tup (.of hq) rfl ⟨_,rfl,b,lp,_,_,rfl,.of hb,.of hlp,?_⟩⟩
  refine xH (xs:=rb) (ys:=refs) (fun i σ H'=>∃(o3 o4:Option V),σ=[some (.ref q),some (.ref lp),some (.ref pt),o3,o4,none]/\Same H H'/\(ts.take i).find? (fun e=>decide (dF ks e.1 e.2=some t))=none) ?_ ?_ ?_ ?_
  ·exact⟨none,none,rfl,Same.refl H,rfl⟩
  ·rintro i σ H' hi ⟨o3,o4,rfl,sm,_⟩
   exact⟨.of (sm _ _ hb),.of (sm _ _ hlp)⟩
  ·rintro i x y p σ H' hxy ⟨o3,o4,rfl,sm,hn⟩ hp
   rw[bq] at hxy
   obtain⟨e,ta,he,rfl,hta⟩:=fk rpb hxy.1
   obtain⟨e',he',pv⟩:=sy rpp hxy.2
   have ee:e=e':=am (he.symm.trans he')
   subst ee
   have sp:=Same.new (o:=.tup [.ref ta,y]) hp
   have s2:=sm.trans sp
   have ep:upd H' p (.tup [.ref ta,y]) p=some (.tup [.ref ta,y]):=cE
   generalize upd H' p (.tup [.ref ta,y])=H2 at s2 ep ⊢
   refine⟨p,_,rfl,.of ep,rfl,_,_,rfl,_,_,rfl,rfl,?_⟩
   refine⟨_,rfl,_,rfl,.tr (lO (pv.same s2)) (Rt.same s2) (sP fun t h=>sr T (tok e (au he)).1 (tok e (au he)).2.1 h) (qN hkt) ⟨_,rfl,?_⟩⟩
   rw[if_neg (show ¬ false=true by decide),sL]
   refine cR (fun h=>?_) (fun h=>?_)
   ·have h:=aM h
    refine⟨_,rfl,.tup (.of (s2 _ _ hta)) rfl ⟨_,rfl,.tup (.of (s2 _ _ hta)) rfl ⟨(by show 3<=sizeLine;decide),fun x hx=>?_⟩⟩⟩
    refine k x _ (s2.trans (Same.new hx)) (eG s2 hx) ?_
    rw[p7 hn he h]
    exact gh cE
   ·have h:dF ks e.1 e.2≠some t:=fun z=>h (ak z)
    exact⟨_,_,rfl,s2,pf hn he h⟩
  ·rintro σ H1 ⟨o3, o4, rfl, sm, hn⟩
   rw[bx,rblen,rplen,Nat.min_self,ap (ac _)] at hn
   have hst:=pG (wn:=wn) hn
   apply oE (J:=fun σ HZ=>σ=[some (.ref q),some (.ref lp),some (.ref pt),o3,o4,some (.str (if ((("first":Str),t.2.1):Str × Str)∈wn then "first" else "last"))]/\Same H HZ)
   ·intro dX
    refine⟨_,rfl,.tup (.of (sm _ _ hpt)) rfl ⟨(by show 2<=sizeLine;decide),fun x hx=>?_⟩⟩
    have s2:=sm.trans (Same.new (o:=.tup [V.str "first",V.str t.2.1]) hx)
    have et:upd H1 x (.tup [V.str "first",V.str t.2.1]) x=some (.tup [V.str "first",V.str t.2.1]):=cE
    generalize upd H1 x (.tup [V.str "first",V.str t.2.1])=H2 at et s2 ⊢
    refine⟨_,rfl,.tup (.of (s2 _ _ hq)) rfl ⟨d4,rw4,_,cW ((("first":Str),t.2.1):Str × Str),rfl,s2 _ _ hd4,rpw.same s2,dG et,cay,gq (e:=((("first":Str),t.2.1):Str × Str)) ⟨iX,hkt.2.1⟩,(by show 1<=16;decide),_,rfl,?_⟩⟩
    rw[if_neg (show ¬ false=true by decide),ig]
    refine cR (fun h=>?_) (fun h=>?_)
    ·have h:=aM h
     dsimp only[tC,eF]
     exact dX _ _ ⟨by rw[if_pos h];rfl,s2⟩
    ·have h:¬ ((("first":Str),t.2.1):Str × Str)∈wn:=fun z=>h (ak z)
     dsimp only[tC,eF]
     exact dX _ _ ⟨by rw[if_neg h];rfl,s2⟩
   ·rintro σ H2 ⟨rfl,s2⟩
    refine⟨_,rfl,_,rfl,.tup (.of (s2 _ _ hpt)) rfl ⟨_,rfl,.tup (.of (s2 _ _ hpt)) rfl ⟨(by show 3<=sizeLine;decide),fun x hx=>?_⟩⟩⟩
    refine k x _ (s2.trans (Same.new hx)) (eG s2 hx) ?_
    rw[hst]
    exact gh cE
def spSteps:Sp:=fun vs H Q _=>∃(q l:Addr) (us:List Str) (ks:Kn) (ts ws wn:Prs) (knot:Str) (row:List Str),vs=[.ref q,.str knot,.ref l]/\Rep H (.ref q) (df ks ts ws wn)/\Tre us ks/\nO us wn/\gX us ks ts/\ts.length<=200/\(knot=""∨Nm knot)/\H l=some (.lst (List.map V.str row))/\(∀u∈row,Nm u)/\row.length<=100 /\
 ∀x refs H',Same H H'->H x=none->H' x=some (.lst refs)->RepAll H' refs ((row.zip (row.drop 1)).map fun e=>t3D (eX ks ts wn (knot,e.1,e.2)))->Q (.ref x) H'
theorem scSteps:FnScope ["house","knot","row","partings"] ["house","knot","row"] (cI iu):=⟨rfl,rfl,rfl,by decide +kernel,rfl,by decide +kernel,by decide +kernel⟩
theorem xC {f:Addr}{fd:FuncData}(F:Fun K "steps_along" "steps_along" iu f fd) (B:Blt mg) (Zz:mg "zip"=none) (ckept_partings:Cal P w K mg base 3 "kept_partings" ["house"] on) (cstep_of:Cal P w K mg base 1 "step_of" ["house", "partings", "part"] qh):FnOk P w K mg base CX0 4 f fd ["house", "knot", "row"] spSteps := by
 refine F.ok scSteps (fun vs H Q E h=>?_) (fun cdv A outer s H vs Q E hr h=>?_)
 ·obtain⟨q,l,us,ks,ts,ws,wn,knot,row,rfl,_⟩:=h
  rfl
 ·obtain⟨q,l,us,ks,ts,ws,wn,knot,row,rfl,R,T,wok,tok,tl,hkn,hl,rnm,rl,k⟩:=h
  have nd:=scSteps.nd
  refine⟨_,(cF (gr (i:=3) nd rfl (Or.inr rfl) (pc ckept_partings hr (p1 (pv 0))))
   (cH (cL (dS (cI iu) ["house","knot","row","partings"] ["pair"] [0,3,1] ["pair","house","partings","knot"] rfl (vf K rfl Zz (p2 (pv 2) (fR (xi K) (pv 2) (gl cG) gp))) (fun _ _ _ _ _=>(cN (i:=0) (show (["pair","house","partings","knot"]:List Str).Nodup by decide) rfl (Or.inl rfl))) (fun _ _ _ _ _=>fw) (fun _ _ _ _ _=>(pc cstep_of hr (cT (pv 1) (p2 (pv 2) (cV (cT (pv 3) (p2 (px K hr (pv 0) cG) (px K hr (pv 0) cG)))))))))))),?_⟩
  refine⟨_,rfl,q,us,ks,ts,ws,wn,rfl,R,T,tok,tl,fun lp refs H1 s1 hlp0 hlp rpp=>?_⟩
  refine⟨_,rfl,_,rfl,_,rfl,.lst (.of (s1 _ _ hl)) fun l2 hl2=>?_⟩
  rw[show (1:Int)=((1:Nat):Int) from rfl,pi,<- List.map_drop]
  have s2:=Same.new (o:=.lst (List.map V.str (row.drop 1))) hl2
  have e2:upd H1 l2 (.lst (List.map V.str (row.drop 1))) l2=some (.lst (List.map V.str (row.drop 1))):=cE
  have s12:=s1.trans s2
  have hlp2:=s2 _ _ hlp
  have rpp2:=rpp.same s2
  have R2:=R.same s12
  have hla:=s12 _ _ hl
  generalize upd H1 l2 (.lst (List.map V.str (row.drop 1)))=H2 at e2 s12 hlp2 rpp2 R2 hla ⊢
  refine cP ⟨l,l2,_,_,rfl,.of hla,.of e2,?_⟩
  have zl:((List.map V.str row).zip (List.map V.str (row.drop 1))).length=(row.zip (row.drop 1)).length:=by simp
  have zlen:(row.zip (row.drop 1)).length<=100:=by rw[bx];omega
  refine xZ (List.map V.str row) (List.map V.str (row.drop 1)) (fun D i acc σ' H'=>∃o,σ'=[o,some (.ref q),some (.ref lp),some (.str knot)]/\RepAll H' acc (((row.zip (row.drop 1)).take i).map fun e=>t3D (eX ks ts wn (knot,e.1,e.2)))/\Same H2 H'/\H2 D=none) fun D hD=>⟨?_,?_,?_,?_⟩
  ·exact⟨none,rfl,.nil,Same.new hD,hD⟩
  ·rintro i acc σ' H' _ ⟨o,rfl,_,sm,_⟩ _
   exact⟨.of (sm _ _ hla),.of (sm _ _ e2)⟩
  ·rintro i acc σ' H' x y p hxy ⟨o,rfl,rp,sm,hD0⟩ hacc hp
   rw[bq] at hxy
   obtain⟨u,hu,rfl⟩:=dH hxy.1
   obtain⟨v,hv,rfl⟩:=dH hxy.2
   have hz:(row.zip (row.drop 1))[i]? = some (u,v):=by rw[bq];exact⟨hu,hv⟩
   have hil:=(ah.mp hz).1
   have alen:=rp.len
   rw[ae,aL] at alen
   have hv':v∈row:=List.mem_of_mem_drop (au hv)
   have kt:Kt (knot,u,v):=⟨hkn,rnm u (au hu),rnm v hv'⟩
   have sp:=Same.new (o:=.tup [V.str u,V.str v]) hp
   have ep:upd H' p (.tup [V.str u,V.str v]) p=some (.tup [V.str u,V.str v]):=cE
   have s3:=sm.trans sp
   have hacc3:=sp _ _ hacc
   have rp3:=rp.same sp
   generalize upd H' p (.tup [V.str u,V.str v])=H3 at ep s3 hacc3 rp3 ⊢
   refine jZ ?_
   refine⟨_,rfl,_,rfl,_,rfl,_,rfl,.tup (.of ep) rfl ⟨_,rfl,.tup (.of ep) rfl ⟨(by show 3<=sizeLine;decide),fun pt hpt=>?_⟩⟩⟩
   have s4:=Same.new (o:=.tup [V.str knot,V.str u,V.str v]) hpt
   have rt:Rep (upd H3 pt (.tup [V.str knot,V.str u,V.str v])) (.ref pt) (t3D (knot,u,v)):=gh cE
   have s34:=s3.trans s4
   have hacc4:=s4 _ _ hacc3
   have rp4:=rp3.same s4
   generalize upd H3 pt (.tup [V.str knot,V.str u,V.str v])=H4 at rt s34 hacc4 rp4 ⊢
   refine cP ⟨q,lp,pt,us,ks,ts,ws,wn,refs,(knot,u,v),rfl,R2.same s34,T,wok,tok,s34 _ _ hlp2,rpp2.same s34,rt,kt,fun x H5 s5 hx rx=>?_⟩
   have hacc5:=s5 _ _ hacc4
   refine⟨hacc5,cU (by omega),_,rfl,?_,dh (s34.trans s5) hD0,hD0⟩
   rw[av,hz,aj]
   exact RepAll.append (dy (pC hacc5 But.upd) (rp4.same s5)) (.cons (pC hacc5 But.upd rx) .nil)
  ·rintro acc σ' H' ⟨o,rfl,rp,sm,hD0⟩ hacc
   rw[zl,ap (ac _)] at rp
   exact k D acc H' (s12.trans sm) (eG s12 hD0) hacc rp
def iZ:Sp:=fun vs H Q _=>∃(q:Addr) (us:List Str) (ks:Kn) (ts ws wn:Prs) (u:Str),vs=[.ref q,.str u]/\Rep H (.ref q) (df ks ts ws wn)/\Tre us ks/\u∈us/\∀H',Same H H'->Q (.str (dN ks u)) H'
theorem scKnotOf:FnScope ["house","one"] ["house","one"] (cI n8):=⟨rfl,rfl,rfl,by decide +kernel,rfl,by decide +kernel,by decide +kernel⟩
theorem wz {f:Addr}{fd:FuncData}(F:Fun K "knot_of" "knot_of" n8 f fd) (B:Blt mg) (chomes:Cal P w K mg base 1 "homes" ["house"] lF):FnOk P w K mg base CX0 2 f fd ["house","one"] iZ:=by
 refine F.ok scKnotOf (fun vs H Q E h=>?_) (fun cdv A outer s H vs Q E hr h=>?_)
 ·obtain⟨q,us,ks,ts,ws,wn,u,rfl,_⟩:=h
  rfl
 ·obtain⟨q,us,ks,ts,ws,wn,u,rfl,R,T,hu,k⟩:=h
  have nd:=scKnotOf.nd
  refine⟨_,(cH (cL (px K hr (pc chomes hr (p1 (pv 0))) (pv 1)))),?_⟩
  refine⟨_,rfl,q,us,ks,ts,ws,wn,rfl,R,T,fun d kvs H1 s1 hd0 hd ar _ _=>?_⟩
  exact⟨_,rfl,.dic (.inl ⟨kvs,.inr u,.inl hd,rfl,(ar u hu).symm⟩) (k H1 s1)⟩
def fJ (ks:Kn) (ts wn:Prs) (kk:Str × List Str) (word u:Str):Option (T3 × T3) :=
 (kk.2.find? (nbP (decide (word="first")) (hX ks ts wn kk.1 kk.2) u)).map fun x=>if word="first" then ((("first":Str),u,x),eX ks ts wn (kk.1,x,u)) else ((("last":Str),x,u),eX ks ts wn (kk.1,u,x))
def AG (H:Hp) (v:V):Option (T3 × T3)->Prop
 | none=>v=.non
 | some (a,b)=>∃l t1 t2,v=.ref l/\H l=some (.lst [.ref t1,.ref t2])/\Rep H (.ref t1) (t3D a)/\Rep H (.ref t2) (t3D b)
theorem lN {us:List Str}{ks:Kn}(T:Tre us ks) {k:Str × List Str}(hk:k∈ks):k.1=""∨Nm k.1:=by
 rcases T.sub k hk with w | w
 ·exact .inl w
 ·exact .inr (T.nm _ w)
def uV:Sp:=fun vs H Q _=>∃(q:Addr) (us:List Str) (ks:Kn) (ts ws wn:Prs) (kk:Str × List Str) (word u:Str),vs=[.ref q,.str word,.str u]/\Rep H (.ref q) (df ks ts ws wn)/\Tre us ks/\gX us ks ts/\WnX ks wn/\ts.length<=200/\kk∈ks/\u∈kk.2/\(word="first"∨word="last") /\
 ∀x H',Same H H'->(∀l,x=.ref l->H l=none)->AG H' x (fJ ks ts wn kk word u)->Q x H'
theorem scRing:FnScope ["house","word","one","knot","web","found"] ["house","word","one"] (cI jo):=⟨rfl,rfl,rfl,by decide +kernel,rfl,by decide +kernel,by decide +kernel⟩
theorem iU {z y:Str}(h:(if false=true then !decide (V.str z=V.str y) else decide (V.str z=V.str y))=true):z=y:=Classical.byContradiction fun q=>by rw[if_neg (by decide),aw (fun w=>q (V.str.inj w))] at h;cases h
theorem gy {z y:Str}(h:¬ (if false=true then !decide (V.str z=V.str y) else decide (V.str z=V.str y))=true):z≠y:=fun q=>h (by rw[if_neg (by decide),q,ak rfl])
theorem oU {H':Hp}{ks:Kn}{ts wn:Prs}{knot x y:Str}{refs:List V}(r:RepAll H' refs ((([x,y]:List Str).zip (([x,y]:List Str).drop 1)).map fun e=>t3D (eX ks ts wn (knot,e.1,e.2)))):∃t,refs=[.ref t]/\Rep H' (.ref t) (t3D (eX ks ts wn (knot,x,y))):=by
 have r:RepAll H' refs [t3D (eX ks ts wn (knot,x,y))]:=r
 obtain⟨v,vs,rfl,r1,r2⟩:=r.consI
 have e:=RepAll.nilI r2
 subst e
 obtain⟨t,rfl,_⟩:=tJ r1
 exact⟨t,rfl,r1⟩
theorem yN {f:Addr}{fd:FuncData}(F:Fun K "ring_of_want" "ring_of_want" jo f fd) (B:Blt mg) (cknot_of:Cal P w K mg base 2 "knot_of" ["house", "one"] iZ) (cview:Cal P w K mg base 4 "view" ["house", "knot"] vU) (cpriors:Cal P w K mg base 2 "priors" ["web", "one"] (ut true)) (cnexts:Cal P w K mg base 2 "nexts" ["web", "one"] (ut false)) (csteps_along:Cal P w K mg base 4 "steps_along" ["house", "knot", "row"] spSteps):FnOk P w K mg base CX0 5 f fd ["house", "word", "one"] uV := by
 refine F.ok scRing (fun vs H Q E h=>?_) (fun cdv A outer s H vs Q E hr h=>?_)
 ·obtain⟨q,us,ks,ts,ws,wn,kk,word,u,rfl,_⟩:=h
  rfl
 ·obtain⟨q, us, ks, ts, ws, wn, kk, word, u, rfl, R, T, tok, WX, tl, hkk, huk, hw, k⟩ := h
  have nd:=scRing.nd
  have wok:=WnX.ok T WX
  have hu:=T.isIn hkk huk
  have kin:∀u∈kk.2,u∈us:=fun u hu=>T.isIn hkk hu
  have klen:kk.2.length<=60:=by
   have:=mZ (lc T hkk) kin
   have:=T.len
   omega
  refine⟨_,(cF (pst 3 nd (pc cknot_of hr (p2 (pv 0) (pv 2))))
   (cF (pst 4 nd (pc cview hr (p2 (pv 0) (pv 3))))
   (cF (pst 5 nd (kr (cK (di hr.units) (pv 1) cM (cQ _)) (pc cpriors hr (p2 (pv 4) (pv 2))) (pc cnexts hr (p2 (pv 4) (pv 2)))))
   (cF (cX (cK (di hr.units) (dO K B (p1 (pv 5))) cG (cQ _)) (cH (cL i0)) cS)
   (cF (cX (cK (di hr.units) (pv 1) cM (cQ _)) (cH (cL (cZ dz (dw (p1 (cV (cT cM (p2 (pv 2) (px K hr (pv 5) cG)))))) (pc csteps_along hr (cT (pv 0) (p2 (pv 3) (dw (p2 (px K hr (pv 5) cG) (pv 2))))))))) cS)
   (cH (cL (cZ dz (dw (p1 (cV (cT cM (p2 (px K hr (pv 5) cG) (pv 2)))))) (pc csteps_along hr (cT (pv 0) (p2 (pv 3) (dw (p2 (pv 2) (px K hr (pv 5) cG)))))))))))))),?_⟩
  refine⟨_,rfl,_,rfl,q,us,ks,ts,ws,wn,u,rfl,R,T,hu,fun H1 s1=>?_⟩
  rw[T.par hkk huk]
  refine⟨_,rfl,_,rfl,q,us,ks,ts,ws,wn,kk,rfl,R.same s1,T,tok,WX,hkk,tl,fun y H2 s2 ry=>?_⟩
  have ry:Rep H2 y (vwD kk.2 (hX ks ts wn kk.1 kk.2)):=ry
  obtain⟨vw,_,_,_,rfl,_⟩:=uw ry
  have s12:=s1.trans s2
  have vl:=u5 (ks:=ks) (ts:=ts) (wn:=wn) (knot:=kk.1) klen tl
  unfold fJ at k
  generalize hX ks ts wn kk.1 kk.2=es at ry vl k
  apply oE (J:=fun σ HZ=>∃l,σ=[some (.ref q),some (.str word),some (.str u),some (.str kk.1),some (.ref vw),some (.ref l)]/\HZ l=some (.lst (List.map V.str (kk.2.filter (nbP (decide (word="first")) es u))))/\Same H HZ)
  ·intro dX
   refine⟨_,rfl,.sc rfl ⟨_,rfl,?_⟩⟩
   refine cR (fun h=>?_) (fun h=>?_)
   ·have h:=iU h
    refine⟨_,rfl,_,rfl,vw,kk.2,es,u,rfl,ry,klen,by omega,fun l H3 s3 hl0 hl=>?_⟩
    dsimp only[eF]
    exact dX _ _ ⟨l,rfl,by rw[ak h];exact hl,s12.trans s3⟩
   ·have h:=gy h
    refine⟨_,rfl,_,rfl,vw,kk.2,es,u,rfl,ry,klen,by omega,fun l H3 s3 hl0 hl=>?_⟩
    dsimp only[eF]
    exact dX _ _ ⟨l,rfl,by rw[aw h];exact hl,s12.trans s3⟩
  ·rintro σ H3 ⟨l, rfl, hl, s3⟩
   refine⟨_,rfl,_,_,rfl,Or.inl ⟨_,.of hl,rfl⟩,.sc rfl ⟨_,rfl,?_⟩⟩
   rw[ae]
   rw[<- List.head?_filter] at k
   generalize hfl:kk.2.filter (nbP (decide (word="first")) es u)=fs at hl k
   cases fs with
   | nil =>
    refine cR (fun _=>?_) (fun h=>absurd rfl h)
    exact k .non H3 s3 (fun l e=>by cases e) rfl
   | cons x fs =>
    have hxk:x∈kk.2:=by
     have:x∈kk.2.filter (nbP (decide (word="first")) es u):=by rw[hfl];simp
     exact(aT.mp this).1
    have k:=fun y H' s0 hn (r:AG H' y (some (if word="first" then ((("first":Str),u,x),eX ks ts wn (kk.1,x,u)) else ((("last":Str),x,u),eX ks ts wn (kk.1,u,x)))))=>k y H' s0 hn r
    refine cR (fun h=>?_) (fun _=>?_)
    ·exfalso
     have h:(((x::fs).length:Nat):Int)=0:=by simpa using h
     rw[aF] at h
     omega
    have a0:atI (List.map V.str (x::fs)) 0=some (.str x):=at0
    refine⟨_,rfl,.sc rfl ⟨_,rfl,?_⟩⟩
    refine cR (fun h=>?_) (fun h=>?_)
    ·have h:=iU h
     rw[if_pos h] at k
     refine⟨_,rfl,_,rfl,.lst (.of hl) a0 ⟨(by show 3<=sizeLine;decide),fun t1 ht1=>?_⟩⟩
     have s4:=Same.new (o:=.tup [V.str "first",V.str u,V.str x]) ht1
     have r4:Rep (upd H3 t1 (.tup [V.str "first",V.str u,V.str x])) (.ref t1) (t3D (((("first":Str),u,x):T3))):=gh cE
     have s34:=s3.trans s4
     have hl4:=s4 _ _ hl
     generalize upd H3 t1 (.tup [V.str "first",V.str u,V.str x])=H4 at r4 s34 hl4 ⊢
     refine cP ⟨(by show 1<=sizeLine;decide),fun l1 hl1=>?_⟩
     have s5:=Same.new (o:=.lst [V.ref t1]) hl1
     have e5:upd H4 l1 (.lst [V.ref t1]) l1=some (.lst [V.ref t1]):=cE
     have r5:=r4.same s5
     have s35:=s34.trans s5
     have hl5:=s5 _ _ hl4
     generalize upd H4 l1 (.lst [V.ref t1])=H5 at e5 r5 s35 hl5 ⊢
     refine⟨_,rfl,_,rfl,_,rfl,.lst (.of hl5) a0 ⟨_,rfl,(by show 2<=sizeLine;decide),fun l2 hl2=>?_⟩⟩
     have s6:=Same.new (o:=.lst (List.map V.str [x,u])) hl2
     have e6:upd H5 l2 (.lst (List.map V.str [x,u])) l2=some (.lst (List.map V.str [x,u])):=cE
     have r6:=r5.same s6
     have s36:=s35.trans s6
     have e56:=s6 _ _ e5
     refine cP ⟨q,l2,us,ks,ts,ws,wn,kk.1,[x,u],rfl,R.same s36,T,wok,tok,tl,lN T hkk,e6,fun z hz=>?_,(by show 2<=100;decide),fun l3 refs H7 s7 hl3 e7 r7=>?_⟩
     ·rcases aB.mp hz with rfl | hz
      ·exact T.nm _ (kin _ hxk)
      ·rw[aO.mp hz];exact T.nm _ hu
     ·obtain⟨t2,rfl,rt2⟩:=oU r7
      refine .lst (s7 _ _ e56) e7 (by show 2<=sizeLine;decide) fun p hp=>?_
      have s8:=Same.new (o:=.lst ([V.ref t1]++[V.ref t2])) hp
      refine k (.ref p) _ ((s36.trans s7).trans s8) (fun l e=>?_) ⟨p,t1,t2,rfl,cE,(r6.same s7).same s8,rt2.same s8⟩
      cases e
      exact eG (s36.trans s7) hp
    ·have h:=gy h
     rw[if_neg h] at k
     refine⟨_,rfl,.lst (.of hl) a0 ⟨_,rfl,⟨(by show 3<=sizeLine;decide),fun t1 ht1=>?_⟩⟩⟩
     have s4:=Same.new (o:=.tup [V.str "last",V.str x,V.str u]) ht1
     have r4:Rep (upd H3 t1 (.tup [V.str "last",V.str x,V.str u])) (.ref t1) (t3D (((("last":Str),x,u):T3))):=gh cE
     have s34:=s3.trans s4
     have hl4:=s4 _ _ hl
     generalize upd H3 t1 (.tup [V.str "last",V.str x,V.str u])=H4 at r4 s34 hl4 ⊢
     refine cP ⟨(by show 1<=sizeLine;decide),fun l1 hl1=>?_⟩
     have s5:=Same.new (o:=.lst [V.ref t1]) hl1
     have e5:upd H4 l1 (.lst [V.ref t1]) l1=some (.lst [V.ref t1]):=cE
     have r5:=r4.same s5
     have s35:=s34.trans s5
     have hl5:=s5 _ _ hl4
     generalize upd H4 l1 (.lst [V.ref t1])=H5 at e5 r5 s35 hl5 ⊢
     refine⟨_,rfl,_,rfl,_,rfl,_,rfl,.lst (.of hl5) a0 ⟨(by show 2<=sizeLine;decide),fun l2 hl2=>?_⟩⟩
     have s6:=Same.new (o:=.lst (List.map V.str [u,x])) hl2
     have e6:upd H5 l2 (.lst (List.map V.str [u,x])) l2=some (.lst (List.map V.str [u,x])):=cE
     have r6:=r5.same s6
     have s36:=s35.trans s6
     have e56:=s6 _ _ e5
     refine cP ⟨q,l2,us,ks,ts,ws,wn,kk.1,[u,x],rfl,R.same s36,T,wok,tok,tl,lN T hkk,e6,fun z hz=>?_,(by show 2<=100;decide),fun l3 refs H7 s7 hl3 e7 r7=>?_⟩
     ·rcases aB.mp hz with rfl | hz
      ·exact T.nm _ hu
      ·rw[aO.mp hz];exact T.nm _ (kin _ hxk)
     ·obtain⟨t2,rfl,rt2⟩:=oU r7
      refine .lst (s7 _ _ e56) e7 (by show 2<=sizeLine;decide) fun p hp=>?_
      have s8:=Same.new (o:=.lst ([V.ref t1]++[V.ref t2])) hp
      refine k (.ref p) _ ((s36.trans s7).trans s8) (fun l e=>?_) ⟨p,t1,t2,rfl,cE,(r6.same s7).same s8,rt2.same s8⟩
      cases e
      exact eG (s36.trans s7) hp
structure WD (H:Hp) (q t:Addr) (us:List Str) (ks:Kn) (ts ws wn:Prs) (kk:Str × List Str) (word u:Str):Prop where
 at_:H t=some (.tup [.str "want",.str word,.str u])
 rep:Rep H (.ref q) (df ks ts ws wn)
 tre:Tre us ks
 tok:gX us ks ts
 wx:WnX ks wn
 tl:ts.length<=200
 wl:wn.length<=200
 kin:kk∈ks
 uin:u∈kk.2
 hw:word="first"∨word="last"
 fr1:∀e∈wn,e.2≠u
 fr2:wU kk.2 wn word=[]
theorem qm {H:Hp}{z:Str}(hz:z.length<=1000):∀n,Hd n H (.str z)
 | 0=>.str (aG hz (by decide))
 | _+1=>⟨.str (aG hz (by decide)),fun a ys e=>by cases e⟩
section
variable {H H':Hp}{q t:Addr}{us:List Str}{ks:Kn}{ts ws wn:Prs}{kk:Str × List Str}{word u:Str}
theorem WD.same (h:WD H q t us ks ts ws wn kk word u) (s:Same H H'):WD H' q t us ks ts ws wn kk word u:=⟨s _ _ h.at_,h.rep.same s,h.tre,h.tok,h.wx,h.tl,h.wl,h.kin,h.uin,h.hw,h.fr1,h.fr2⟩
theorem WD.unit (h:WD H q t us ks ts ws wn kk word u):u∈us:=h.tre.isIn h.kin h.uin
theorem WD.hd (h:WD H q t us ks ts ws wn kk word u):∀n, Hd n H (.ref t)
 | 0=>Thg.tup h.at_
 | n+1 => ⟨Thg.tup h.at_, fun a ys e sq => by
     cases e
     have ey:ys=[.str "want",.str word,.str u]:=by
      rcases sq with z | z
      ·rw[h.at_] at z;cases z
      ·rw[h.at_] at z;cases z;rfl
     subst ey
     refine⟨by show 3<=1000;decide,fun y hy=>?_⟩
     have wl:word.length<=8:=(iR h.hw).2.1
     have nl:=(h.tre.nm _ h.unit).2.1
     simp only[aB,List.not_mem_nil,or_false] at hy
     rcases hy with rfl | rfl | rfl
     ·exact qm (by decide) n
     ·exact qm (by omega) n
     ·exact qm (by omega) n⟩
theorem WD.single (h:WD H q t us ks ts ws wn kk word u):fb H (.ref t)=true:=by
 unfold fb
 rw[gY h.at_]
 show sgB H "want" [.str word,.str u]=true
 unfold sgB
 rw[show ie "want"=some (["word","name"]:List Str) by decide +kernel]
 show (true&&(eU H "word" (.str word)&&(eU H "name" (.str u)&&true)))=true
 have p2:eU H "name" (.str u)=true:=by
  unfold eU
  rw[if_neg (by decide),if_neg (by decide),if_neg (fun z=>absurd z.1 (by decide))]
  exact isNm_iff.mpr (h.tre.nm _ h.unit)
 have p1:eU H "word" (.str word)=true:=by
  unfold eU
  rw[if_neg (by decide),if_pos rfl]
  rcases h.hw with rfl | rfl
  ·decide +kernel
  ·decide +kernel
 rw[p1,p2];rfl
theorem WD.deed (h:WD H q t us ks ts ws wn kk word u):fg 2 H (.ref t)=true:=by
 have hm:fF H (.ref t)=none:=by
  unfold fF
  rw[gY h.at_];rfl
 show (match fF H (.ref t) with | some ys=>ys.all (fg 1 H) | none=>fb H (.ref t))=true
 rw[hm]
 exact h.single
end
def sU:Sp:=fun vs H Q _=>∃(q l:Addr) (us:List Str) (ks:Kn) (ts ws wn:Prs) (ns:List Str),vs=[.ref q,.ref l]/\Rep H (.ref q) (df ks ts ws wn)/\Tre us ks/\H l=some (.tup (List.map V.str ns))/\(∀u∈ns,u∈us)/\∀H',Same H H'->Q .non H'
theorem scNeedU:FnScope ["house","names","table","name"] ["house","names"] (cI jV):=⟨rfl,rfl,rfl,by decide +kernel,rfl,by decide +kernel,by decide +kernel⟩
theorem xG {f:Addr}{fd:FuncData}(F:Fun K "need_units" "need_units" jV f fd) (B:Blt mg) (chomes:Cal P w K mg base 1 "homes" ["house"] lF):FnOk P w K mg base CX0 2 f fd ["house", "names"] sU := by
 refine F.ok scNeedU (fun vs H Q E h=>?_) (fun cdv A outer s H vs Q E hr h=>?_)
 ·obtain⟨q,l,us,ks,ts,ws,wn,ns,rfl,_⟩:=h
  rfl
 ·obtain⟨q,l,us,ks,ts,ws,wn,ns,rfl,R,T,hl,hns,k⟩:=h
  have nd:=scNeedU.nd
  refine⟨_,(cF (pst 2 nd (pc chomes hr (p1 (pv 0))))
   (cH (dM PassesOwn.never rfl (dP K (pv 1)) (cN (i:=3) nd rfl (Or.inl rfl)) (cH (cX (cK (g9 K hr.units) (pv 3) (pv 2) (by with_unfolding_all rfl)) (cH dY) cS))))),?_⟩
  refine⟨_,rfl,q,us,ks,ts,ws,wn,rfl,R,T,fun d kvs H1 s1 hd0 hd ar ki kl=>?_⟩
  refine⟨_,rfl,l,rfl,⟨_,.of (s1 _ _ hl)⟩,?_⟩
  refine gk (xs:=List.map V.str ns) (fun i σ H'=>∃o3,σ=[some (.ref q),some (.ref l),some (.ref d),o3]/\H'=H1) ⟨none,rfl,rfl⟩ ?_ ?_ ?_
  ·rintro i σ H' hi ⟨o3,rfl,rfl⟩
   exact .of (s1 _ _ hl)
  ·rintro i x σ H' hx ⟨o3,rfl,rfl⟩
   obtain⟨u,hu,rfl⟩:=dH hx
   refine⟨_,rfl,_,rfl,.dic (.inl ⟨kvs,.inr u,.inl hd,rfl,(ar u (hns u (au hu))).symm⟩) ⟨_,rfl,cR (fun h=>by cases (show false=true from h)) (fun _=>⟨_,rfl,rfl⟩)⟩⟩
  ·rintro σ H' ⟨o3,rfl,rfl⟩
   exact k H' s1
def m8:Sp:=fun vs H Q _=>∃(q t:Addr) (us:List Str) (ks:Kn) (ts ws wn:Prs) (kk:Str × List Str) (word u:Str),vs=[.ref q,.ref t]/\WD H q t us ks ts ws wn kk word u/\∀H',Same H H'->Q .non H'
theorem scRefW:FnScope ["house","deed"] ["house","deed"] (cI iq):=⟨rfl,rfl,rfl,by decide +kernel,rfl,by decide +kernel,by decide +kernel⟩
theorem sT {f:Addr}{fd:FuncData}(F:Fun K "refuse_want" "refuse_want" iq f fd) (B:Blt mg) (cneed_units:Cal P w K mg base 2 "need_units" ["house", "names"] sU) (cwanted:Cal P w K mg base 1 "wanted" ["house", "row", "word"] mj) (cchildren:Cal P w K mg base 1 "children" ["house", "knot"] iG) (cknot_of:Cal P w K mg base 2 "knot_of" ["house", "one"] iZ):FnOk P w K mg base CX0 3 f fd ["house", "deed"] m8 := by
 refine F.ok scRefW (fun vs H Q E h=>?_) (fun cdv A outer s H vs Q E hr h=>?_)
 ·obtain⟨q,t,us,ks,ts,ws,wn,kk,word,u,rfl,_⟩:=h
  rfl
 ·obtain⟨q, t, us, ks, ts, ws, wn, kk, word, u, rfl, D, k⟩ := h
  have nd:=scRefW.nd
  have T:=D.tre
  refine⟨_,(cF (dR (pc cneed_units hr (p2 (pv 0) (fR lH (pv 1) (gl cG) gp))))
   (cF (cX (cK (ft K hr.units) (px K hr (pv 1) cG) (dS (cI iq) ["house","deed"] ["want"] [] ["want"] rfl (dP K (px K hr (pv 0) cG)) (fun _ _ _ _ _=>(cN (i:=0) (show (["want"]:List Str).Nodup by decide) rfl (Or.inl rfl))) (fun _ _ _ _ _=>fw) (fun _ _ _ _ _=>(px K hr (pv 0) cG))) (by with_unfolding_all rfl)) (cH dY) cS)
   (cH (cX (cK jl (dO K B (p1 (pc cwanted hr (cT (pv 0) (p2 (pc cchildren hr (p2 (pv 0) (pc cknot_of hr (p2 (pv 0) (px K hr (pv 1) cG))))) (px K hr (pv 1) cG)))))) cG (cQ _)) (cH dY) cS)))),?_⟩
  refine⟨_,rfl,_,rfl,_,rfl,t,_,rfl,D.at_,fun t1 H1 s1 e1=>?_⟩
  have e1:H1 t1=some (.tup (List.map V.str [u])):=e1
  have D1:=D.same s1
  refine cP ⟨q,t1,us,ks,ts,ws,wn,[u],rfl,D1.rep,T,e1,fun z hz=>by rw[aO.mp hz];exact D.unit,fun H2 s2=>?_⟩
  have s12:=s1.trans s2
  have D2:=D1.same s2
  obtain⟨q',a,b,c3,d4,e0,hq,R1,R2,R3,R4⟩:=dI D2.rep
  cases e0
  obtain⟨d4',rw4,e0,hd4,rpw⟩:=dZ R4
  cases e0
  have rwl:=rpw.len
  rw[ae] at rwl
  have wl:=D.wl
  refine⟨_,rfl,.tup (.of D2.at_) rfl ⟨_,rfl,.tup (.of hq) rfl ⟨d4,rfl,⟨_,.of hd4⟩,?_⟩⟩⟩
  refine fj rw4 (fun D j acc σ' H'=>∃(o0:Option V),σ'=[o0]/\acc=List.map V.str ((wn.take j).map (·.2))/\Same H2 H'/\H2 D=none) fun Da hDa=>⟨?_,?_,?_,?_⟩
  ·exact⟨none,rfl,rfl,Same.new hDa,hDa⟩
  ·rintro j acc σ' H' _ ⟨o0,rfl,_,sm,_⟩ _
   exact .of (sm _ _ hd4)
  ·rintro j acc σ' H' v hv ⟨o0,rfl,rfl,sm,hD0⟩ hacc
   obtain⟨e,ta,he,rfl,hta⟩:=fk rpw hv
   have hil:=(ah.mp he).1
   refine jZ ?_
   refine⟨_,rfl,.tup (.of (sm _ _ hta)) rfl ⟨hacc,?_,_,rfl,?_,dh sm hD0,hD0⟩⟩
   ·rw[ae,ae,aL];exact cU (by omega)
   ·rw[av,he,aj,aj];rfl
  ·rintro acc σ' H3 ⟨o0,rfl,rfl,s3,hD0⟩ hacc
   rw[rwl,ap (ac _)] at hacc
   refine .seq (.inl (.of hacc)) rfl (gu _) ⟨_,rfl,?_⟩
   rw[if_neg (show ¬ false=true by decide),iS]
   refine cR (fun h=>?_) (fun _=>?_)
   ·obtain⟨e,he,e2⟩:=ao.mp (aM h)
    exact absurd e2 (D.fr1 e he)
   have D3:=D2.same s3
   have s13:=s12.trans s3
   refine⟨_,rfl,_,rfl,_,rfl,_,rfl,.tup (.of D3.at_) rfl (cP ⟨q,us,ks,ts,ws,wn,u,rfl,D3.rep,T,D.unit,fun H4 s4=>?_⟩)⟩
   rw[T.par D.kin D.uin]
   have D4:=D3.same s4
   refine cP ⟨q,us,ks,ts,ws,wn,kk,rfl,D4.rep,T,D.kin,fun l H5 s5 hl0 hl=>?_⟩
   have D5:=D4.same s5
   refine⟨_,rfl,.tup (.of D5.at_) rfl (cP ⟨q,l,us,kk.2,ks,ts,ws,wn,word,rfl,D5.rep,T,WnX.ok T D.wx,D.hw,hl,fun z hz=>T.nm _ (T.isIn D.kin hz),lV T D.kin,fun Db H6 s6 _ hDb=>?_⟩)⟩
   refine cP ⟨_,_,rfl,Or.inl ⟨_,.of hDb,rfl⟩,_,_,rfl,rfl,_,rfl,?_⟩
   rw[D.fr2]
   exact cR (fun h=>by cases (show false=true from h)) (fun _=>k H6 (((s13.trans s4).trans s5).trans s6))
theorem scRefuse:FnScope ["house","deed"] ["house","deed"] (cI oa):=⟨rfl,rfl,rfl,by decide +kernel,rfl,by decide +kernel,by decide +kernel⟩
theorem sZ {f fT:Addr}{fd fdT:FuncData}{dA:Addr}{dv:List (Key × Value)}(F:Fun K "refuse" "refuse" oa f fd) (B:Blt mg) (TR:mg "REFUSALS"=some (.ref dA)) (KR:KD P w K dA dv) (hv:valueAt dv (.inr "want")=some (.ref fT)) (hk:W.keepIn K (.ref fT)=true) (FT:FnOk P w K mg base CX0 3 fT fdT ["house","deed"] m8) (hb:Binds K fdT ["house","deed"] []):FnOk P w K mg base CX0 4 f fd ["house","deed"] m8:=by
 refine F.ok scRefuse (fun vs H Q E h=>?_) (fun cdv A outer s H vs Q E hr h=>?_)
 ·obtain⟨q,t,us,ks,ts,ws,wn,kk,word,u,rfl,_⟩:=h
  rfl
 ·obtain⟨q,t,us,ks,ts,ws,wn,kk,word,u,rfl,D,k⟩:=h
  have nd:=scRefuse.nd
  refine⟨_,(cH (dR (xv FT (hr.mono (by decide)) hk hb yi (ua (yr KR) (ik (v:=.ref dA) rfl TR rfl) (px K hr (pv 1) cG) (fun _ _=>rfl)) (p2 (pv 0) (pv 1))))),?_⟩
  refine⟨_,rfl,.tup (.of D.at_) rfl ⟨.inr "want",_,.ref fT,rfl,rfl,hv,rfl,rfl,?_⟩⟩
  refine⟨_,rfl,_,rfl,cP ⟨q,t,us,ks,ts,ws,wn,kk,word,u,rfl,D,k⟩⟩
def eI (c:List Str) (u:Str):List Str:=c.filter fun z=>decide (z≠u)
def fc (c:List Str) (word u:Str):List Str:=if word="first" then u::eI c u else eI c u++[u]
def RowV (H:Hp) (r:Addr) (ks:Kn) (ts wn:Prs) (kk:Str × List Str) (word u:Str):Prop:=∃l,match fJ ks ts wn kk word u with
 | none=>H r=some (.tup [.str "place",.ref l])/\H l=some (.lst (List.map V.str (fc kk.2 word u)))
 | some (a,b)=>H r=some (.tup [.str "bar",.ref l])/\∃t1 t2,H l=some (.lst [.ref t1,.ref t2])/\Rep H (.ref t1) (t3D a)/\Rep H (.ref t2) (t3D b)
theorem RowV.same {H H':Hp}{r:Addr}{ks:Kn}{ts wn:Prs}{kk:Str × List Str}{word u:Str}(h:RowV H r ks ts wn kk word u) (s:Same H H'):RowV H' r ks ts wn kk word u:=by
 unfold RowV at h ⊢
 obtain⟨l,h⟩:=h
 refine⟨l,?_⟩
 cases q:fJ ks ts wn kk word u with
 | none=>rw[q] at h;exact⟨s _ _ h.1,s _ _ h.2⟩
 | some p=>obtain⟨a,b⟩:=p;rw[q] at h;obtain⟨h1,t1,t2,h2,h3,h4⟩:=h;exact⟨s _ _ h1,t1,t2,s _ _ h2,h3.same s,h4.same s⟩
def vN:Sp:=fun vs H Q _=>∃(q t:Addr) (us:List Str) (ks:Kn) (ts ws wn:Prs) (kk:Str × List Str) (word u:Str),vs=[.ref q,.str word,.str u]/\WD H q t us ks ts ws wn kk word u/\∀r H',Same H H'->RowV H' r ks ts wn kk word u->Q (.ref r) H'
theorem scRowW:FnScope ["house","word","one","ring","others"] ["house","word","one"] (cI iI):=⟨rfl,rfl,rfl,by decide +kernel,rfl,by decide +kernel,by decide +kernel⟩
theorem yU {f:Addr}{fd:FuncData}(F:Fun K "row_of_want" "row_of_want" iI f fd) (B:Blt mg) (cring_of_want:Cal P w K mg base 5 "ring_of_want" ["house", "word", "one"] uV) (cchildren:Cal P w K mg base 1 "children" ["house", "knot"] iG) (cknot_of:Cal P w K mg base 2 "knot_of" ["house", "one"] iZ):FnOk P w K mg base CX0 6 f fd ["house", "word", "one"] vN := by
 refine F.ok scRowW (fun vs H Q E h=>?_) (fun cdv A outer s H vs Q E hr h=>?_)
 ·obtain⟨q,t,us,ks,ts,ws,wn,kk,word,u,rfl,_⟩:=h
  rfl
 ·obtain⟨q, t, us, ks, ts, ws, wn, kk, word, u, rfl, D, k⟩ := h
  have nd:=scRowW.nd
  have T:=D.tre
  have klen:=lV T D.kin
  refine⟨_,(cF (pst 3 nd (pc cring_of_want hr (cT (pv 0) (p2 (pv 1) (pv 2)))))
   (cF (cX (cK kI (pv 3) i0 (cQ _)) (cH (cL (cV (p2 cM (pv 3))))) cS)
   (cF (jx (i:=4) nd rfl rfl (by rfl) (cI iI) ["house","word","one","ring","others"] ["child"] [2] ["child","one"] rfl (fE K (pc cchildren hr (p2 (pv 0) (pc cknot_of hr (p2 (pv 0) (pv 2)))))) (fun _ _ _ _ _=>(cN (i:=0) (show (["child","one"]:List Str).Nodup by decide) rfl (Or.inl rfl))) (fun _ _ _ _ _=>(fH (cK (fP hr.units) (pv 0) (pv 1) (cQ _)))) (fun _ _ _ _ _=>(pv 0)))
   (cH (cL (cV (p2 cM (kr (cK (di hr.units) (pv 1) cM (cQ _)) (cZ dz (dw (p1 (pv 2))) (pv 4)) (cZ dz (pv 4) (dw (p1 (pv 2)))))))))))),?_⟩
  refine⟨_,rfl,_,rfl,_,rfl,cP ⟨q,us,ks,ts,ws,wn,kk,word,u,rfl,D.rep,T,D.tok,D.wx,D.tl,D.kin,D.uin,D.hw,fun x H1 s1 _ rv=>?_⟩⟩
  have k:=fun r H' s (h:RowV H' r ks ts wn kk word u)=>k r H' s h
  unfold RowV at k
  cases qw:fJ ks ts wn kk word u with
  | some p =>
   obtain⟨a,b⟩:=p
   rw[qw] at rv k
   obtain⟨l,t1,t2,rfl,hl,r1,r2⟩:=rv
   refine⟨_,rfl,.non ⟨_,rfl,cR (fun _=>?_) (fun h=>absurd (by simp) h)⟩⟩
   refine⟨_,rfl,cP ⟨(by show 2<=sizeLine;decide),fun r hr1=>?_⟩⟩
   have s2:=Same.new (o:=.tup [V.str "bar",V.ref l]) hr1
   exact k r _ (s1.trans s2) ⟨l,cE,t1,t2,s2 _ _ hl,r1.same s2,r2.same s2⟩
  | none =>
   rw[qw] at rv k
   have rv:x=.non:=rv
   subst rv
   refine⟨_,rfl,.non ⟨_,rfl,cR (fun h=>absurd h (by decide)) (fun _=>?_)⟩⟩
   have D1:=D.same s1
   refine⟨_,rfl,_,rfl,_,rfl,cP ⟨q,us,ks,ts,ws,wn,u,rfl,D1.rep,T,D.unit,fun H2 s2=>?_⟩⟩
   rw[T.par D.kin D.uin]
   have D2:=D1.same s2
   refine cP ⟨q,us,ks,ts,ws,wn,kk,rfl,D2.rep,T,D.kin,fun l H3 s3 hl0 hl=>⟨l,rfl,⟨_,.of hl⟩,?_⟩⟩
   have s13:=(s1.trans s2).trans s3
   refine gs (List.map V.str kk.2) (fun D j acc σ' H'=>∃(o0:Option V),σ'=[o0,some (.str u)]/\acc=List.map V.str (eI (kk.2.take j) u)/\Same H3 H'/\H3 D=none) fun Da hDa=>⟨?_,?_,?_,?_⟩
   ·exact⟨none,rfl,rfl,Same.new hDa,hDa⟩
   ·rintro j acc σ' H' _ ⟨o0,rfl,_,sm,_⟩ _
    exact .of (sm _ _ hl)
   ·rintro j acc σ' H' v hv ⟨o0,rfl,rfl,sm,hD0⟩ hacc
    obtain⟨z,hz,rfl⟩:=dH hv
    have hjl:=(ah.mp hz).1
    have eo:eI (kk.2.take (j+1)) u=eI (kk.2.take j) u++(if decide (z≠u)=true then [z] else []):=by
     unfold eI
     rw[av,hz,br]
     congr 1
     show List.filter _ [z]=_
     rw[bt,bK]
    have alen:(eI (kk.2.take j) u).length<=j:=by
     have:=bd (fun z=>decide (z≠u)) (kk.2.take j)
     rw[aL] at this
     unfold eI
     omega
    dsimp only[eF]
    refine⟨_,rfl,_,rfl,.sc rfl ⟨_,rfl,cR (fun h=>?_) (fun h=>?_)⟩⟩
    ·have hne:z≠u:=fun q=>by rw[q,if_pos rfl,ak rfl] at h;cases h
     rw[if_pos (ak hne)] at eo
     exact⟨_,rfl,hacc,by rw[ae];exact cU (by omega),_,rfl,by rw[eo,aj];rfl,dh sm hD0,hD0⟩
    ·have he:z=u:=Classical.byContradiction fun q=>h (by rw[if_pos rfl,aw (fun w=>q (V.str.inj w))];rfl)
     rw[if_neg (by simpa using he),aS] at eo
     exact⟨hacc,_,rfl,by rw[eo],sm,hD0⟩
   ·rintro acc σ' H4 ⟨o0,rfl,rfl,s4,hD0⟩ hacc
    rw[ae,ap (ac _)] at hacc
    have olen:(eI kk.2 u).length<=60:=aG (bd _ _) klen
    have s14:=s13.trans s4
    refine ii ?_
    dsimp only
    refine⟨_,rfl,.sc rfl ⟨_,rfl,cR (fun h=>?_) (fun h=>?_)⟩⟩
    ·have hf:=iU h
     refine⟨_,rfl,(by show 1<=sizeLine;decide),fun l5 h5=>?_⟩
     have s5:=Same.new (o:=.lst [V.str u]) h5
     have e5:upd H4 l5 (.lst [V.str u]) l5=some (.lst [V.str u]):=cE
     have hacc5:=s5 _ _ hacc
     generalize upd H4 l5 (.lst [V.str u])=H5 at s5 e5 hacc5 ⊢
     refine⟨_,rfl,.lst e5 hacc5 (by rw[ae];exact Nat.le_of_lt (cU (by show 1+_<=_;omega))) fun l6 h6=>?_⟩
     have s6:=Same.new (o:=.lst ([V.str u]++List.map V.str (eI kk.2 u))) h6
     have e6:upd H5 l6 (.lst ([V.str u]++List.map V.str (eI kk.2 u))) l6=some (.lst (List.map V.str (fc kk.2 word u))):=by rw[cE];unfold fc;rw[if_pos hf];rfl
     generalize upd H5 l6 (.lst ([V.str u]++List.map V.str (eI kk.2 u)))=H6 at s6 e6 ⊢
     refine cP ⟨(by show 2<=sizeLine;decide),fun r hr1=>?_⟩
     have s7:=Same.new (o:=.tup [V.str "place",V.ref l6]) hr1
     exact k r _ (((s14.trans s5).trans s6).trans s7) ⟨l6,cE,s7 _ _ e6⟩
    ·have hf:=gy h
     refine⟨_,rfl,_,rfl,(by show 1<=sizeLine;decide),fun l5 h5=>?_⟩
     have s5:=Same.new (o:=.lst [V.str u]) h5
     have e5:upd H4 l5 (.lst [V.str u]) l5=some (.lst [V.str u]):=cE
     have hacc5:=s5 _ _ hacc
     generalize upd H4 l5 (.lst [V.str u])=H5 at s5 e5 hacc5 ⊢
     refine .lst hacc5 e5 (by rw[ae];exact Nat.le_of_lt (cU (by show _+1<=_;omega))) fun l6 h6=>?_
     have s6:=Same.new (o:=.lst (List.map V.str (eI kk.2 u)++[V.str u])) h6
     have e6:upd H5 l6 (.lst (List.map V.str (eI kk.2 u)++[V.str u])) l6=some (.lst (List.map V.str (fc kk.2 word u))):=by rw[cE];unfold fc;rw[if_neg hf,aj];rfl
     generalize upd H5 l6 (.lst (List.map V.str (eI kk.2 u)++[V.str u]))=H6 at s6 e6 ⊢
     refine cP ⟨(by show 2<=sizeLine;decide),fun r hr1=>?_⟩
     have s7:=Same.new (o:=.tup [V.str "place",V.ref l6]) hr1
     exact k r _ (((s14.trans s5).trans s6).trans s7) ⟨l6,cE,s7 _ _ e6⟩
def qH:Sp:=fun vs H Q _=>∃(q t:Addr) (us:List Str) (ks:Kn) (ts ws wn:Prs) (kk:Str × List Str) (word u:Str),vs=[.ref q,.ref t]/\WD H q t us ks ts ws wn kk word u/\∀l r H',Same H H'->H' l=some (.lst [.ref r])->RowV H' r ks ts wn kk word u->Q (.ref l) H'
theorem scPaper:FnScope ["house","deed"] ["house","deed"] (cI md):=⟨rfl,rfl,rfl,by decide +kernel,rfl,by decide +kernel,by decide +kernel⟩
theorem uU {f:Addr}{fd:FuncData}(F:Fun K "paper_of" "paper_of" md f fd) (B:Blt mg) (cis_single:Cal P w K mg base 5 "is_single" ["thing"] mX) (crefuse:Cal P w K mg base 4 "refuse" ["house", "deed"] m8) (crow_of_want:Cal P w K mg base 6 "row_of_want" ["house", "word", "one"] vN):FnOk P w K mg base CX0 7 f fd ["house", "deed"] qH := by
 refine F.ok scPaper (fun vs H Q E h=>?_) (fun cdv A outer s H vs Q E hr h=>?_)
 ·obtain⟨q,t,us,ks,ts,ws,wn,kk,word,u,rfl,_⟩:=h
  rfl
 ·obtain⟨q,t,us,ks,ts,ws,wn,kk,word,u,rfl,D,k⟩:=h
  have nd:=scPaper.nd
  refine⟨_,(cF (cX (iw (fU (pc cis_single hr (p1 (pv 1))))) (cH dY) cS)
   (cF (dR (pc crefuse hr (p2 (pv 0) (pv 1))))
   (cF (cX (cK (ft K hr.units) (px K hr (pv 1) cG) (cV (p2 cM cM)) (by with_unfolding_all rfl)) (cH dY) cS)
   (cF (cX (cK (di hr.units) (px K hr (pv 1) cG) cM (cQ _)) (cH (cL (dw (p1 (pc crow_of_want hr (cT (pv 0) (p2 (px K hr (pv 1) cG) (px K hr (pv 1) cG)))))))) cS)
   (cF dY
   (cF dY
   (cH dY))))))),?_⟩
  refine⟨_,rfl,_,rfl,D.hd 2,fun H1 s1=>?_⟩
  rw[D.single]
  refine⟨_,rfl,cR (fun h=>by cases (show false=true from h)) (fun _=>?_)⟩
  have D1:=D.same s1
  refine⟨_,rfl,_,rfl,cP ⟨q,t,us,ks,ts,ws,wn,kk,word,u,rfl,D1,fun H2 s2=>?_⟩⟩
  have D2:=D1.same s2
  have s12:=s1.trans s2
  refine⟨_,rfl,.tup (.of D2.at_) rfl ⟨(by show 2<=sizeLine;decide),fun t1 h1=>?_⟩⟩
  have s3:=Same.new (o:=.tup [V.str "tie",V.str "wait"]) h1
  have e3:upd H2 t1 (.tup [V.str "tie",V.str "wait"]) t1=some (.tup [V.str "tie",V.str "wait"]):=cE
  have D3:=D2.same s3
  have s13:=s12.trans s3
  generalize upd H2 t1 (.tup [V.str "tie",V.str "wait"])=H3 at s13 e3 D3 ⊢
  refine .seq (.inr (.of e3)) rfl rfl ⟨_,rfl,cR (fun h=>absurd h (by decide)) (fun _=>?_)⟩
  refine⟨_,rfl,.tup (.of D3.at_) rfl (.sc rfl ⟨_,rfl,cR (fun _=>?_) (fun h=>absurd rfl h)⟩)⟩
  refine⟨_,rfl,_,rfl,.tup (.of D3.at_) rfl ⟨_,rfl,.tup (.of D3.at_) rfl (cP ⟨q,t,us,ks,ts,ws,wn,kk,word,u,rfl,D3,fun r H4 s4 rv=>cP ⟨(by show 1<=sizeLine;decide),fun l hl=>?_⟩⟩)⟩⟩
  have s5:=Same.new (o:=.lst [V.ref r]) hl
  exact k l r _ ((s13.trans s4).trans s5) cE (rv.same s5)
def rK:Sp:=fun vs H Q _=>∃(q t:Addr) (ks:Kn) (ts ws wn:Prs) (word u:Str),vs=[.ref q,.ref t]/\Rep H (.ref q) (df ks ts ws wn)/\H t=some (.tup [.str word,.str u])/\wn.length<=200/\∀q' H',Same H H'->Rep H' (.ref q') (df ks ts ws (wn++[(word,u)]))->Q (.ref q') H'
theorem scWithW:FnScope ["house","want"] ["house","want"] (cI kW):=⟨rfl,rfl,rfl,by decide +kernel,rfl,by decide +kernel,by decide +kernel⟩
theorem xO {f:Addr}{fd:FuncData}(F:Fun K "with_want" "with_want" kW f fd) (B:Blt mg):FnOk P w K mg base CX0 1 f fd ["house","want"] rK:=by
 refine F.ok scWithW (fun vs H Q E h=>?_) (fun cdv A outer s H vs Q E hr h=>?_)
 ·obtain⟨q,t,ks,ts,ws,wn,word,u,rfl,_⟩:=h
  rfl
 ·obtain⟨q,t,ks,ts,ws,wn,word,u,rfl,R,ht,wl,k⟩:=h
  have nd:=scWithW.nd
  have sz:200000<sizeLine:=by decide
  refine⟨_,(cH (cL (cV (cT (px K hr (pv 0) cG) (cT (px K hr (pv 0) cG) (p2 (px K hr (pv 0) cG) (cZ je (px K hr (pv 0) cG) (cV (p1 (pv 1)))))))))),?_⟩
  obtain⟨q',a,b,c3,d4,e0,hq,R1,R2,R3,R4⟩:=dI R
  cases e0
  obtain⟨d4',rw4,e0,hd4,rpw⟩:=dZ R4
  cases e0
  have rwl:=rpw.len
  rw[ae] at rwl
  refine⟨_,rfl,.tup (.of hq) rfl ⟨_,rfl,.tup (.of hq) rfl ⟨_,rfl,.tup (.of hq) rfl ⟨_,rfl,.tup (.of hq) rfl ⟨_,rfl,cP ⟨(by show 1<=sizeLine;decide),fun t1 h1=>?_⟩⟩⟩⟩⟩⟩
  have s1:=Same.new (o:=.tup [V.ref t]) h1
  have e1:upd H t1 (.tup [V.ref t]) t1=some (.tup [V.ref t]):=cE
  generalize upd H t1 (.tup [V.ref t])=H1 at s1 e1 ⊢
  refine⟨d4,t1,_,_,rfl,rfl,s1 _ _ hd4,e1,(by show rw4.length+1<=_;omega),fun t2 H2 s2 e2=>cP ⟨(by show 4<=sizeLine;decide),fun t3 h3=>?_⟩⟩
  have s3:=Same.new (o:=.tup [V.ref a,V.ref b,V.ref c3,V.ref t2]) h3
  have sA:=(s1.trans s2).trans s3
  refine k t3 _ sA (fO cE (R1.same sA) (R2.same sA) (R3.same sA) (.tup (s3 _ _ e2) ?_))
  rw[aj]
  exact RepAll.append (rpw.same sA) (.cons (dG (s:=word) (t:=u) (sA _ _ ht)) .nil)
def jj (ks:Kn) (kk:Str × List Str) (word u:Str):Kn:=ks.map (dL kk.1 (fc kk.2 word u))
def u3:Sp:=fun vs H Q _=>∃(q t r:Addr) (us:List Str) (ks:Kn) (ts ws wn:Prs) (kk:Str × List Str) (word u:Str),vs=[.ref q,.ref t,.ref r]/\WD H q t us ks ts ws wn kk word u/\fJ ks ts wn kk word u=none/\RowV H r ks ts wn kk word u/\∀q' H',Same H H'->Rep H' (.ref q') (df (jj ks kk word u) ts ws (wn++[(word,u)]))->Q (.ref q') H'
theorem scLedW:FnScope ["house","deed","row"] ["house","deed","row"] (cI ku):=⟨rfl,rfl,rfl,by decide +kernel,rfl,by decide +kernel,by decide +kernel⟩
theorem zA {f:Addr}{fd:FuncData}(F:Fun K "led_by_want" "led_by_want" ku f fd) (B:Blt mg) (cwith_want:Cal P w K mg base 1 "with_want" ["house", "want"] rK) (cwith_row:Cal P w K mg base 1 "with_row" ["house", "knot", "row"] oP) (cknot_of:Cal P w K mg base 2 "knot_of" ["house", "one"] iZ):FnOk P w K mg base CX0 3 f fd ["house", "deed", "row"] u3 := by
 refine F.ok scLedW (fun vs H Q E h=>?_) (fun cdv A outer s H vs Q E hr h=>?_)
 ·obtain⟨q,t,r,us,ks,ts,ws,wn,kk,word,u,rfl,_⟩:=h
  rfl
 ·obtain⟨q,t,r,us,ks,ts,ws,wn,kk,word,u,rfl,D,qw,rv,k⟩:=h
  have nd:=scLedW.nd
  have T:=D.tre
  have few:=T.few
  unfold RowV at rv
  rw[qw] at rv
  obtain⟨l,hr1,hl⟩:=rv
  refine⟨_,(cF (cX (cK (di hr.units) (px K hr (pv 2) cG) cM (cQ _)) (cH (cL (pv 0))) cS)
   (cH (cL (pc cwith_want hr (p2 (pc cwith_row hr (cT (pv 0) (p2 (pc cknot_of hr (p2 (pv 0) (px K hr (pv 1) cG))) (px K hr (pv 2) cG)))) (fR lH (pv 1) (gl cG) gp)))))),?_⟩
  refine⟨_,rfl,.tup (.of hr1) rfl (.sc rfl ⟨_,rfl,cR (fun h=>absurd h (by decide)) (fun _=>?_)⟩)⟩
  refine⟨_,rfl,_,rfl,_,rfl,.tup (.of D.at_) rfl (cP ⟨q,us,ks,ts,ws,wn,u,rfl,D.rep,T,D.unit,fun H1 s1=>?_⟩)⟩
  rw[T.par D.kin D.uin]
  have D1:=D.same s1
  refine⟨_,rfl,.tup (.of (s1 _ _ hr1)) rfl (cP ⟨q,l,ks,ts,ws,wn,kk.1,fc kk.2 word u,rfl,D1.rep,s1 _ _ hl,by omega,fun q2 H2 s2 R2=>?_⟩)⟩
  refine⟨_,rfl,_,rfl,t,_,rfl,s2 _ _ D1.at_,fun t3 H3 s3 e3=>?_⟩
  have e3:H3 t3=some (.tup [V.str word,V.str u]):=e3
  exact cP ⟨q2,t3,_,ts,ws,wn,word,u,rfl,R2.same s3,e3,D.wl,fun q' H4 s4 R4=>k q' H4 ((s1.trans s2).trans (s3.trans s4)) R4⟩
def rW:Sp:=fun vs H Q _=>∃(q t l r:Addr) (us:List Str) (ks:Kn) (ts ws wn:Prs) (kk:Str × List Str) (word u:Str),vs=[.ref q,.ref t,.ref l]/\WD H q t us ks ts ws wn kk word u/\fJ ks ts wn kk word u=none/\H l=some (.lst [.ref r])/\RowV H r ks ts wn kk word u/\∀q' H',Same H H'->Rep H' (.ref q') (df (jj ks kk word u) ts ws (wn++[(word,u)]))->Q (.ref q') H'
theorem scLed:FnScope ["house","deed","paper"] ["house","deed","paper"] (cI qK):=⟨rfl,rfl,rfl,by decide +kernel,rfl,by decide +kernel,by decide +kernel⟩
theorem xz {f:Addr}{fd:FuncData}(F:Fun K "led_to" "led_to" qK f fd) (B:Blt mg) (cled_by_want:Cal P w K mg base 3 "led_by_want" ["house", "deed", "row"] u3):FnOk P w K mg base CX0 4 f fd ["house", "deed", "paper"] rW := by
 refine F.ok scLed (fun vs H Q E h=>?_) (fun cdv A outer s H vs Q E hr h=>?_)
 ·obtain⟨q,t,l,r,us,ks,ts,ws,wn,kk,word,u,rfl,_⟩:=h
  rfl
 ·obtain⟨q,t,l,r,us,ks,ts,ws,wn,kk,word,u,rfl,D,qw,hl,rv,k⟩:=h
  have nd:=scLed.nd
  refine⟨_,(cF (cX (cK (di hr.units) (px K hr (pv 1) cG) cM (cQ _)) (cH dY) cS)
   (cF (cX (cK (ft K hr.units) (px K hr (pv 1) cG) (cV (p2 cM cM)) (by with_unfolding_all rfl)) (cH dY) cS)
   (cF (cX (cK (di hr.units) (px K hr (pv 1) cG) cM (cQ _)) (cH (cL (pc cled_by_want hr (cT (pv 0) (p2 (pv 1) (px K hr (pv 2) cG)))))) cS)
   (cF dY
   (cH dY))))),?_⟩
  refine⟨_,rfl,.tup (.of D.at_) rfl (.sc rfl ⟨_,rfl,cR (fun h=>absurd h (by decide)) (fun _=>?_)⟩)⟩
  refine⟨_,rfl,.tup (.of D.at_) rfl ⟨(by show 2<=sizeLine;decide),fun t1 h1=>?_⟩⟩
  have s3:=Same.new (o:=.tup [V.str "tie",V.str "wait"]) h1
  have e3:upd H t1 (.tup [V.str "tie",V.str "wait"]) t1=some (.tup [V.str "tie",V.str "wait"]):=cE
  have D3:=D.same s3
  have rv3:=rv.same s3
  have hl3:=s3 _ _ hl
  generalize upd H t1 (.tup [V.str "tie",V.str "wait"])=H3 at s3 e3 D3 rv3 hl3 ⊢
  refine .seq (.inr (.of e3)) rfl rfl ⟨_,rfl,cR (fun h=>absurd h (by decide)) (fun _=>?_)⟩
  refine⟨_,rfl,.tup (.of D3.at_) rfl (.sc rfl ⟨_,rfl,cR (fun _=>?_) (fun h=>absurd rfl h)⟩)⟩
  exact⟨_,rfl,_,rfl,_,rfl,.lst (.of hl3) at0 (cP ⟨q,t,r,us,ks,ts,ws,wn,kk,word,u,rfl,D3,qw,rv3,fun q' H4 s4 R4=>k q' H4 (s3.trans s4) R4⟩)⟩
abbrev zV:List Str:=["OrderError","Ring"]
abbrev xV:List Str:=["OrderError","Ring"]
theorem scInit:FnScope ["self","ring"] ["self","ring"] (cI hI):=⟨rfl,rfl,rfl,by decide +kernel,rfl,by decide +kernel,by decide +kernel⟩
theorem zq {f:Addr}{fd:FuncData}(F:Fun K "__init__" "Ring.__init__" hI f fd) (B:Blt mg):FnOk P w K mg base CX0 1 f fd ["self","ring"] (lA K "ring"):=by
 refine F.ok scInit (fun vs H Q E h=>?_) (fun cdv A outer s H vs Q E hr h=>?_)
 ·obtain⟨e,C,l,xs,rfl,_⟩:=h
  rfl
 ·obtain⟨e,C,l,xs,rfl,he,hl,Z,k⟩:=h
  have nd:=scInit.nd
  refine⟨_,(cH (yH (pv 0) (uT K rfl B (p1 (pv 1))) rfl)),?_⟩
  refine⟨_,rfl,_,rfl,.seq (.inl (.of hl)) fun r hr1=>?_⟩
  refine⟨_,rfl,e,C,rfl,by rw[cJ (cO he hr1)];exact he,Z,fun d hd hde=>?_⟩
  have hrd:r≠d:=fun z=>by rw[<- z,cE] at hd;cases hd
  rw[cJ (Ne.symm hrd)] at hd
  exact k r d hr1 hd hrd
def nw (C:Addr):Sp:=fun vs H Q E=>∃(q t:Addr) (us:List Str) (ks:Kn) (ts ws wn:Prs) (kk:Str × List Str) (word u:Str),vs=[.ref q,.ref t]/\WD H q t us ks ts ws wn kk word u /\
 (fJ ks ts wn kk word u=none->∀q' H',Same H H'->Rep H' (.ref q') (df (jj ks kk word u) ts ws (wn++[(word,u)]))->Q (.ref q') H') /\
 (∀a b,fJ ks ts wn kk word u=some (a,b)->∀l d t1 t2 H',Same H H'->H d=none->H' l=some (.lst [.ref t1,.ref t2])->Rep H' (.ref t1) (t3D a)->Rep H' (.ref t2) (t3D b)->H' d=some (.xd [("ring",.ref l)])->E (.ref C) (some d) H')
theorem scBehS:FnScope ["house","deed","paper"] ["house","deed"] (cI iE):=⟨rfl,rfl,rfl,by decide +kernel,rfl,by decide +kernel,by decide +kernel⟩
theorem x8 {f:Addr}{fd:FuncData}{C:Addr}(F:Fun K "behind_single" "behind_single" iE f fd) (B:Blt mg) (mRing:MkI P w K mg base 1 "Ring" C ["self", "ring"] (lA K "ring")) (Z:XSet K C "ring") (cpaper_of:Cal P w K mg base 7 "paper_of" ["house", "deed"] qH) (cled_to:Cal P w K mg base 4 "led_to" ["house", "deed", "paper"] rW):FnOk P w K mg base (CX1 P w) 8 f fd ["house", "deed"] (nw C) := by
 refine F.okX scBehS (fun vs H Q E h=>?_) (fun cdv A outer s H vs Q E hr h=>?_)
 ·obtain⟨q,t,us,ks,ts,ws,wn,kk,word,u,rfl,_⟩:=h
  rfl
 ·obtain⟨q,t,us,ks,ts,ws,wn,kk,word,u,rfl,D,k0,k1⟩:=h
  have nd:=scBehS.nd
  refine⟨_,(cF (pst 2 nd (pc cpaper_of hr (p2 (pv 0) (pv 1))))
   (cF (cX (PW.pt (fu (cK (ft K hr.units) (px K hr (pv 1) cG) (cV (cT cM (p2 cM cM))) (by with_unfolding_all rfl)) (eV (cK (ft K hr.units) (px K hr (px K hr (pv 2) cG) cG) (cV (p2 cM cM)) (by with_unfolding_all rfl))))) (cH (vP mRing (hr.mono (by decide)) rfl (p1 (px K hr (px K hr (pv 2) cG) (nH kN cG))))) cS)
   (cH (cL (pc cled_to hr (cT (pv 0) (p2 (pv 1) (pv 2)))))))),?_⟩
  refine⟨_,rfl,_,rfl,cP ⟨q,t,us,ks,ts,ws,wn,kk,word,u,rfl,D,fun l r H1 s1 hl rv=>?_⟩⟩
  have D1:=D.same s1
  refine⟨_,rfl,.tup (.of D1.at_) rfl ⟨(by show 3<=sizeLine;decide),fun t1 h1=>?_⟩⟩
  have s3:=Same.new (o:=.tup [V.str "tie",V.str "want",V.str "group"]) h1
  have e3:upd H1 t1 (.tup [V.str "tie",V.str "want",V.str "group"]) t1=some (.tup [V.str "tie",V.str "want",V.str "group"]):=cE
  have D3:=D1.same s3
  have hl3:=s3 _ _ hl
  have rv3:=rv.same s3
  have s13:=s1.trans s3
  generalize upd H1 t1 (.tup [V.str "tie",V.str "want",V.str "group"])=H3 at s13 e3 D3 hl3 rv3 ⊢
  refine .seq (.inr (.of e3)) rfl rfl ⟨_,rfl,cR (fun _=>?_) (fun h=>absurd rfl h)⟩
  have rv4:=rv3
  unfold RowV at rv3
  obtain⟨lr,rv3⟩:=rv3
  cases qw:fJ ks ts wn kk word u with
  | some p =>
   obtain⟨a,b⟩:=p
   rw[qw] at rv3
   obtain⟨hr1,ta,tb,hlr,ra,rb⟩:=rv3
   refine⟨_,rfl,.lst (.of hl3) at0 (.tup (.of hr1) rfl ⟨(by show 2<=sizeLine;decide),fun t2 h2=>?_⟩)⟩
   have s4:=Same.new (o:=.tup [V.str "ring",V.str "bar"]) h2
   have e4:upd H3 t2 (.tup [V.str "ring",V.str "bar"]) t2=some (.tup [V.str "ring",V.str "bar"]):=cE
   have s14:=s13.trans s4
   have hl4:=s4 _ _ hl3
   have hr4:=s4 _ _ hr1
   have hlr4:=s4 _ _ hlr
   have ra4:=ra.same s4
   have rb4:=rb.same s4
   generalize upd H3 t2 (.tup [V.str "ring",V.str "bar"])=H4 at s14 e4 hl4 hr4 hlr4 ra4 rb4 ⊢
   refine .seq (.inr (.of e4)) rfl rfl ⟨_,rfl,cR (fun _=>?_) (fun h=>absurd rfl h)⟩
   refine⟨_,rfl,.lst (.of hl4) at0 ⟨_,rfl,.tup (.of hr4) rfl (cP ⟨(by show 1<=sizeLine;decide),fun e1 he1=>?_⟩)⟩⟩
   exact rB hlr4 Z he1 fun r5 d5 H5 s5 hr5 hd5 h3 h4=>k1 a b qw r5 d5 ta tb H5 (s14.trans s5) (eG s14 hd5) h3 (ra4.same s5) (rb4.same s5) h4
  | none =>
   rw[qw] at rv3
   obtain⟨hr1,hlr⟩:=rv3
   refine⟨_,rfl,.lst (.of hl3) at0 (.tup (.of hr1) rfl ⟨(by show 2<=sizeLine;decide),fun t2 h2=>?_⟩)⟩
   have s4:=Same.new (o:=.tup [V.str "ring",V.str "bar"]) h2
   have e4:upd H3 t2 (.tup [V.str "ring",V.str "bar"]) t2=some (.tup [V.str "ring",V.str "bar"]):=cE
   have s14:=s13.trans s4
   have hl4:=s4 _ _ hl3
   have rv5:=rv4.same s4
   have D4:=D3.same s4
   generalize upd H3 t2 (.tup [V.str "ring",V.str "bar"])=H4 at s14 e4 hl4 rv5 D4 ⊢
   refine .seq (.inr (.of e4)) rfl rfl ⟨_,rfl,cR (fun h=>absurd h (by decide)) (fun _=>?_)⟩
   exact⟨_,rfl,_,rfl,_,rfl,cP ⟨q,t,l,r,us,ks,ts,ws,wn,kk,word,u,rfl,D4,qw,hl4,rv5,fun q' H5 s5 R5=>k0 qw q' H5 (s14.trans s5) R5⟩⟩
def m5:Sp:=fun vs H Q _=>∃(q t:Addr) (us:List Str) (ks:Kn) (ts ws wn:Prs) (kk:Str × List Str) (word u:Str),vs=[.ref t]/\WD H q t us ks ts ws wn kk word u/\∀l H',Same H H'->H' l=some (.lst [.ref t])->Q (.ref l) H'
theorem scSingles:FnScope ["deed","told","part"] ["deed"] (cI ml):=⟨rfl,rfl,rfl,by decide +kernel,rfl,by decide +kernel,by decide +kernel⟩
theorem rj {f:Addr}{fd:FuncData}(F:Fun K "singles" "singles" ml f fd) (B:Blt mg):FnOk P w K mg base CX0 1 f fd ["deed"] m5 := by
 refine F.ok scSingles (fun vs H Q E h=>?_) (fun cdv A outer s H vs Q E hr h=>?_)
 ·obtain⟨q,t,us,ks,ts,ws,wn,kk,word,u,rfl,_⟩:=h
  rfl
 ·obtain⟨q,t,us,ks,ts,ws,wn,kk,word,u,rfl,D,k⟩:=h
  have nd:=scSingles.nd
  refine⟨_,(cF (cX (cK (fP hr.units) (px K hr (pv 0) cG) cM (cQ _)) (cH (cL (dw (p1 (pv 0))))) cS)
   (cF dY
   (cF dY
   (cH dY)))),?_⟩
  refine⟨_,rfl,.tup (.of D.at_) rfl (.sc rfl ⟨_,rfl,cR (fun _=>?_) (fun h=>absurd rfl h)⟩)⟩
  exact⟨_,rfl,(by show 1<=sizeLine;decide),fun l hl=>k l _ (Same.new hl) cE⟩
theorem scBehT:FnScope ["house","deed","left","single"] ["house","deed"] (cI oo):=⟨rfl,rfl,rfl,by decide +kernel,rfl,by decide +kernel,by decide +kernel⟩
theorem zL {f:Addr}{fd:FuncData}{C:Addr}(F:Fun K "behind" "behind" oo f fd) (B:Blt mg) (cis_deed:Cal P w K mg base 9 "is_deed" ["thing"] vn) (csingles:Cal P w K mg base 1 "singles" ["deed"] m5) (xbehind_single:CalX P w K mg base 8 "behind_single" ["house", "deed"] (nw C)):FnOk P w K mg base (CX1 P w) 10 f fd ["house", "deed"] (nw C) := by
 refine F.okX scBehT (fun vs H Q E h=>?_) (fun cdv A outer s H vs Q E hr h=>?_)
 ·obtain⟨q,t,us,ks,ts,ws,wn,kk,word,u,rfl,_⟩:=h
  rfl
 ·obtain⟨q, t, us, ks, ts, ws, wn, kk, word, u, rfl, D, k0, k1⟩ := h
  have nd:=scBehT.nd
  refine⟨_,(cF (cX (iw (fU (pc cis_deed hr (p1 (pv 1))))) (cH dY) cS)
   (cF (pst 2 nd (pv 0))
   (cF (dM PassesOwn.leaving rfl (fE K (pc csingles hr (p1 (pv 1)))) (cN (i:=3) nd rfl (Or.inl rfl)) (cH (pst 2 nd (zg xbehind_single (hr.mono (by decide)) rfl (p2 (pv 2) (pv 3))))))
   (cH (cL (pv 2)))))),?_⟩
  refine⟨_,rfl,_,rfl,D.hd 6,fun H1 s1=>?_⟩
  rw[D.deed]
  refine⟨_,rfl,cR (fun h=>by cases (show false=true from h)) (fun _=>?_)⟩
  have D1:=D.same s1
  refine⟨_,rfl,⟨_,rfl,cP ⟨q,t,us,ks,ts,ws,wn,kk,word,u,rfl,D1,fun l H2 s2 hl=>?_⟩⟩⟩
  have D2:=D1.same s2
  have s12:=s1.trans s2
  refine⟨l,rfl,⟨_,.of hl⟩,?_⟩
  refine i7 (xs:=[V.ref t]) (fun i σ H'=>(i=0/\H'=H2/\∃o3,σ=[some (.ref q),some (.ref t),some (.ref q),o3])∨(i=1/\∃q' o3,σ=[some (.ref q),some (.ref t),some (.ref q'),o3]/\fJ ks ts wn kk word u=none/\Same H2 H'/\Rep H' (.ref q') (df (jj ks kk word u) ts ws (wn++[(word,u)])))) ?_ ?_ ?_ ?_
  ·exact .inl ⟨rfl,rfl,none,rfl⟩
  ·rintro i σ H' hi (⟨_,rfl,_⟩ | ⟨_,q',o3,rfl,_,s3,_⟩)
   ·exact .of hl
   ·exact .of (s3 _ _ hl)
  ·rintro i x σ H' hx (⟨rfl,rfl,o3,rfl⟩ | ⟨rfl,_⟩)
   ·have ex:V.ref t=x:=am hx
    subst ex
    refine⟨_,rfl,_,rfl,cP ⟨q,t,us,ks,ts,ws,wn,kk,word,u,rfl,D2,fun qw q' H3 s3 r3=>?_,fun a b qw l3 d3 t1 t2 H3 s3 hd3 h1 h2 h3 h4=>?_⟩⟩
    ·exact .inr ⟨rfl,q',_,rfl,qw,s3,r3⟩
    ·exact k1 a b qw l3 d3 t1 t2 H3 (s12.trans s3) (eG s12 hd3) h1 h2 h3 h4
   ·cases hx
  ·rintro σ H' (⟨h,_⟩ | ⟨_,q',o3,rfl,qw,s3,r3⟩)
   ·exact absurd h (by show ¬ (1:Nat)=0;decide)
   ·exact⟨_,rfl,k0 qw q' H' (s12.trans s3) r3⟩
theorem kT {knot:Str}{row:List Str}(k:Str × List Str):(dL knot row k).1=k.1:=by
 unfold dL
 split
 ·rename_i h;exact h.symm
 ·rfl
theorem mi {us:List Str}{ks:Kn}(T:Tre us ks) {kk k:Str × List Str}(hkk:kk∈ks) (hk:k∈ks) (e:k.1=kk.1):k=kk:=by
 obtain⟨i,hi⟩:=bR hk
 obtain⟨j,hj⟩:=bR hkk
 have hi2:(ks.map (·.1))[i]? = some k.1:=by rw[aI,hi];rfl
 have hj2:(ks.map (·.1))[j]? = some k.1:=by rw[aI,hj,e];rfl
 have hij:i=j:=by rw[<- MG.ix_at T.kn hi2,<- MG.ix_at T.kn hj2]
 subst hij
 rw[hi] at hj
 exact am hj
theorem p9 {us:List Str}{ks:Kn}(T:Tre us ks) {kk k:Str × List Str}{row:List Str}(hkk:kk∈ks) (hk:k∈ks) (p:row.Perm kk.2) (u:Str):u∈(dL kk.1 row k).2 ↔ u∈k.2:=by
 unfold dL
 split
 ·rename_i h
  rw[mi T hkk hk h]
  exact p.mem_iff
 ·exact Iff.rfl
theorem jq {α:Type}{f:α->α}{p:α->Bool}:∀ {l:List α},(∀x∈l,p (f x)=p x)->(l.map f).find? p=(l.find? p).map f
 | [],_=>rfl
 | x::l,h=>by
  rw[aQ,bc,bc,h x (bh ..)]
  cases p x with
  | true=>rfl
  | false=>exact jq fun y hy=>h y (aK _ hy)
theorem xX {us:List Str}{ks:Kn}(T:Tre us ks) {kk:Str × List Str}{row:List Str}(hkk:kk∈ks) (p:row.Perm kk.2) (u:Str):dN (ks.map (dL kk.1 row)) u=dN ks u:=by
 unfold dN
 rw[jq (f:=dL kk.1 row) fun k hk=>decide_eq_decide.mpr (p9 T hkk hk p u),Option.map_map]
 congr 2
 funext k
 exact kT k
theorem pq {us:List Str}{ks:Kn}(T:Tre us ks) {kk:Str × List Str}{row:List Str}(hkk:kk∈ks) (p:row.Perm kk.2) (u v:Str):dF (ks.map (dL kk.1 row)) u v=dF ks u v:=by
 have e:dN (ks.map (dL kk.1 row))=dN ks:=funext fun u=>xX T hkk p u
 unfold dF lin
 rw[e]
theorem qV {kk:Str × List Str}{row:List Str}(p:row.Perm kk.2):∀ {ks:Kn}, (∀k ∈ ks, k.1=kk.1 -> k=kk) -> (dJ (ks.map (dL kk.1 row))).Perm (dJ ks)
 | [],_=>.refl _
 | k::ks,h=>by
  show ((dL kk.1 row k).2++dJ (ks.map (dL kk.1 row))).Perm (k.2++dJ ks)
  refine List.Perm.append ?_ (qV p fun x hx=>h x (aK _ hx))
  unfold dL
  split
  ·rename_i e
   rw[h k (bh ..) e]
   exact p
  ·exact .refl _
theorem yZ {us:List Str}{ks:Kn}(T:Tre us ks) {kk:Str × List Str}{row:List Str}(hkk:kk∈ks) (p:row.Perm kk.2):Tre us (ks.map (dL kk.1 row)):=by
 have e1:(ks.map (dL kk.1 row)).map (·.1)=ks.map (·.1):=by
  rw[bS]
  exact List.map_congr_left fun k _=>kT k
 refine⟨(qV p fun k hk e=>mi T hkk hk e).trans T.perm,T.nd,T.nm,T.len,by rw[e1];exact T.top,by rw[e1];exact T.kn,fun k hk=>?_,fun k hk u hu=>?_⟩
 ·obtain⟨k0,h0,rfl⟩:=ao.mp hk
  rw[kT]
  exact T.sub k0 h0
 ·obtain⟨k0,h0,rfl⟩:=ao.mp hk
  rw[kT]
  exact T.up k0 h0 u ((p9 T hkk h0 p u).mp hu)
theorem wW {us:List Str}{ks:Kn}(T:Tre us ks) {ts:Prs}(h:gX us ks ts) {kk:Str × List Str}{row:List Str}(hkk:kk∈ks) (p:row.Perm kk.2):gX us (ks.map (dL kk.1 row)) ts:=fun e he=>⟨(h e he).1,(h e he).2.1,by rw[pq T hkk p];exact(h e he).2.2⟩
theorem oY {c:List Str}{u:Str}(nd:c.Nodup) (hu:u∈c):(u::eI c u).Perm c:=by
 have:eI c u=c.erase u:=by
  unfold eI
  rw[nd.erase_eq_filter]
  exact List.filter_congr fun x _=>by rw[aX];simp
 rw[this]
 exact(List.perm_cons_erase hu).symm
theorem uo {c:List Str}{word u:Str}(nd:c.Nodup) (hu:u∈c):(fc c word u).Perm c:=by
 unfold fc
 split
 ·exact oY nd hu
 ·exact List.perm_append_comm.trans (oY nd hu)
theorem wC {c:List Str}{u z:Str}(h:c.head? = some z) (n:z≠u):(eI c u).head? = some z:=by
 cases c with
 | nil=>cases h
 | cons x r =>
  have h:some x=some z:=h
  cases h
  unfold eI
  rw[bt,if_pos (ak n)];rfl
theorem xx {c:List Str}{u z:Str}(h:c.getLast? = some z) (n:z≠u):(eI c u).getLast? = some z:=by
 obtain⟨ys,e⟩:=List.getLast?_eq_some_iff.mp h
 unfold eI
 rw[e,br,bt,if_pos (ak n)]
 simp
theorem xF {us:List Str}{ks:Kn}{wn:Prs}{kk:Str × List Str}{word u:Str}(T:Tre us ks) (W:WnX ks wn) (hkk:kk ∈ ks) (hu:u ∈ kk.2) (hw:word="first" ∨ word="last") (fr1:∀e ∈ wn, e.2 ≠ u) (fr2:wU kk.2 wn word=[]):WnX (jj ks kk word u) (wn ++ [(word, u)]) := by
 have no:∀z∈kk.2,(word,z)∉wn:=fun z hz h=>by
  have:z∈wU kk.2 wn word:=aT.mpr ⟨hz,ak h⟩
  rw[fr2] at this
  cases this
 refine⟨bX.mpr ⟨W.nd,by simp,fun a ha b hb=>?_⟩,fun e he=>?_⟩
 ·rw[aO.mp hb]
  rintro rfl
  exact fr1 _ ha rfl
 ·have nn:("first":Str) ≠ "last" := by decide
  rcases aH.mp he with he | he
  ·obtain⟨k, hk, f⟩ := W.at_ e he
   refine⟨dL kk.1 (fc kk.2 word u) k,ao.mpr ⟨k,hk,rfl⟩,?_⟩
   unfold dL
   split
   ·rename_i h
    have ek:=mi T hkk hk h
    subst ek
    have hne:=fr1 e he
    have wne:e.1≠word:=fun q=>no e.2 f.mem (by rw[<- q];exact he)
    rcases f with⟨f1,f2⟩ | ⟨f1,f2⟩
    ·left
     refine⟨f1,?_⟩
     have hl:word≠"first":=fun q=>wne (f1.trans q.symm)
     show (fc k.2 word u).head? = _
     unfold fc
     rw[if_neg hl]
     have:=wC f2 hne
     cases q:eI k.2 u with
     | nil=>rw[q] at this;cases this
     | cons x r=>rw[q] at this;exact this
    ·right
     refine⟨f1,?_⟩
     have hf:word="first":=hw.resolve_right fun q=>wne (f1.trans q.symm)
     show (fc k.2 word u).getLast? = _
     unfold fc
     rw[if_pos hf]
     have:=xx f2 hne
     cases q:eI k.2 u with
     | nil=>rw[q] at this;cases this
     | cons x r=>rw[q] at this;rw[List.getLast?_cons_cons];exact this
   ·exact f
  ·rw[aO.mp he]
   refine⟨(kk.1,fc kk.2 word u),ao.mpr ⟨kk,hkk,by unfold dL;rw[if_pos rfl]⟩,?_⟩
   unfold fc
   rcases hw with rfl | rfl
   ·left
    exact⟨rfl,by rw[if_pos rfl];rfl⟩
   ·right
    exact⟨rfl,by rw[if_neg (Ne.symm nn)];show (eI kk.2 u++[u]).getLast? = _;simp⟩
theorem zj {us:List Str}{ks:Kn}{ts wn:Prs}{knot:Str}{c:List Str}(wok:nO us wn) (x:Str × Str):EdM ks ts wn knot c x ↔ x ∈ hX ks ts wn knot c := by
 unfold hX EdM
 rw[kH,aH,aH,ce,bQ,bQ]
 have rp:∀(e:Str × Str) (b:Bool), (b=true ↔ e.1 ≠ "first") -> (x ∈ eS b c e.2 ↔ x ∈ ic e c) := fun e b hb => by
  unfold eS ic
  by_cases q:e.1="first"
  ·have:b=false:=by
      cases b with
      | false=>rfl
      | true=>exact absurd q (hb.mp rfl)
   subst this
   simp[q]
  ·have:b=true:=hb.mpr q
   subst this
   simp[q]
 constructor
 ·rintro (⟨e, he, q⟩ | ⟨e, he, hc, q⟩)
  ·exact .inr (.inl ⟨e,he,q⟩)
  ·refine .inr (.inr ?_)
   rcases (wok e he).1 with w | w
   ·left
    exact⟨e.2,aT.mpr ⟨hc,ak (by rw[<- w];exact he)⟩,(rp e false ⟨(fun h=>by cases h),fun h=>absurd w h⟩).mpr q⟩
   ·right
    exact⟨e.2,aT.mpr ⟨hc,ak (by rw[<- w];exact he)⟩,(rp e true ⟨fun _ h=>absurd (w.symm.trans h) (by decide),fun _=>rfl⟩).mpr q⟩
 ·rintro (h | ⟨e,he,q⟩ | ⟨u,hu,q⟩ | ⟨u,hu,q⟩)
  ·cases h
  ·exact .inl ⟨e,he,q⟩
  ·obtain⟨h1,h2⟩:=aT.mp hu
   exact .inr ⟨(("first":Str),u),aM h2,h1,(rp (("first":Str),u) false ⟨(fun h=>by cases h),fun h=>absurd rfl h⟩).mp q⟩
  ·obtain⟨h1,h2⟩:=aT.mp hu
   exact .inr ⟨(("last":Str),u),aM h2,h1,(rp (("last":Str),u) true ⟨fun _ h=>absurd h (by show ¬ ("last":Str)="first";decide),fun _=>rfl⟩).mp q⟩
theorem vQ {es fs:Prs}(h:∀x,x∈es ↔ x∈fs) (sec:Bool) (u:Str):nbP sec es u=nbP sec fs u:=by
 funext x
 unfold nbP
 split
 ·exact decide_eq_decide.mpr (h _)
 ·exact decide_eq_decide.mpr (h _)
def si:Sp:=fun vs H Q _=>∃(q:Addr) (us:List Str) (ks:Kn) (ts ws wn:Prs) (t:T3),vs=[.ref q,.str t.1,.str t.2.1,.str t.2.2]/\Rep H (.ref q) (df ks ts ws wn)/\Tre us ks/\nO us wn/\gX us ks ts/\Kt t/\∀x H',Same H H'->Rep H' (.ref x) (t3D (eX ks ts wn t))->Q (.ref x) H'
theorem scLStep:FnScope ["_law_house_here","_law_knot","_law_one","_law_other","_law_tie"] ["_law_house_here","_law_knot","_law_one","_law_other"] (cI mm):=⟨rfl,rfl,rfl,by decide +kernel,rfl,by decide +kernel,by decide +kernel⟩
theorem xE {f:Addr}{fd:FuncData}(F:Fun K "_law_step" "_law_step" mm f fd) (B:Blt mg) (c_law_part:Cal P w K mg base 2 "_law_part" ["_law_knots_here", "_law_one", "_law_other"] lC):FnOk P w K mg base CX0 3 f fd ["_law_house_here", "_law_knot", "_law_one", "_law_other"] si := by
 refine F.ok scLStep (fun vs H Q E h=>?_) (fun cdv A outer s H vs Q E hr h=>?_)
 ·obtain⟨q,us,ks,ts,ws,wn,t,rfl,_⟩:=h
  rfl
 ·obtain⟨q, us, ks, ts, ws, wn, t, rfl, R, T, wok, tok, hkt, k⟩ := h
  have nd:=scLStep.nd
  refine⟨_,(cF (dM PassesOwn.never rfl (dP K (px K hr (pv 0) cG)) (cN (i:=4) nd rfl (Or.inl rfl)) (cH (cX (cK (di hr.units) (pc c_law_part hr (cT (px K hr (pv 0) cG) (p2 (px K hr (pv 4) cG) (px K hr (pv 4) cG)))) (cV (cT (pv 1) (p2 (pv 2) (pv 3)))) (cQ _)) (cH (cL (cZ je (cV (p1 cM)) (pv 4)))) cS)))
   (cF (cX (cK (n5 hr.units) (cV (p2 cM (pv 2))) (px K hr (pv 0) cG) (by with_unfolding_all rfl)) (cH (cL (cV (cT cM (p2 (pv 2) (pv 3)))))) cS)
   (cH (cL (cV (cT cM (p2 (pv 2) (pv 3)))))))),?_⟩
  obtain⟨q',a,b,c3,d4,e0,hq,R1,R2,_,R4⟩:=dI R
  cases e0
  obtain⟨b',rb,e0,hb,rpb⟩:=dZ R2
  cases e0
  obtain⟨d4',rw4,e0,hd4,rpw⟩:=dZ R4
  cases e0
  have rblen:=rpb.len
  rw[ae] at rblen
  have cay:PyData.canLayAll0 (wn.map cW)=true:=dC fun e he=>⟨iR (wok e he).1,T.nm _ (wok e he).2⟩
  have s1:=Same.refl H
  refine⟨_,rfl,.tup (.of hq) rfl ⟨b,rfl,⟨_,.of hb⟩,?_⟩⟩
  refine gk (xs:=rb) (fun i σ H'=>∃(o5:Option V),σ=[some (.ref q),some (.str t.1),some (.str t.2.1),some (.str t.2.2),o5]/\Same H H'/\(ts.take i).find? (fun e=>decide (dF ks e.1 e.2=some t))=none) ?_ ?_ ?_ ?_
  ·exact⟨none,rfl,Same.refl H,rfl⟩
  ·rintro i σ H' hi ⟨o5,rfl,sm,_⟩
   exact .of (sm _ _ (s1 _ _ hb))
  ·rintro i x σ H' hx ⟨o5,rfl,sm,hn⟩
   obtain⟨e,ta,he,rfl,hta⟩:=fk rpb hx
   obtain⟨hu,hv,_⟩:=tok e (au he)
   have hta:=s1 _ _ hta
   dsimp only[eF]
   refine⟨_,rfl,.tup (.of (sm _ _ hq)) rfl ⟨_,rfl,.tup (.of (sm _ _ hta)) rfl ⟨_,rfl,.tup (.of (sm _ _ hta)) rfl (cP ⟨a,us,ks,e.1,e.2,rfl,R1.same sm,T,hu,hv,fun y H2 s2 py=>?_⟩)⟩⟩⟩
   have s12:=sm.trans s2
   refine⟨_,rfl,_,rfl,_,rfl,(by show 3<=sizeLine;decide),fun pt hpt=>?_⟩
   have s3:=Same.new (o:=.tup [V.str t.1,V.str t.2.1,V.str t.2.2]) hpt
   have rt:Rep (upd H2 pt (.tup [V.str t.1,V.str t.2.1,V.str t.2.2])) (.ref pt) (t3D t):=gh cE
   have py3:=lO (py.same s3)
   have s13:=s12.trans s3
   generalize upd H2 pt (.tup [V.str t.1,V.str t.2.1,V.str t.2.2])=H3 at rt py3 s13 ⊢
   refine .tr py3 rt (sP fun t h=>sr T hu hv h) (qN hkt) ⟨_,rfl,?_⟩
   rw[if_neg (show ¬ false=true by decide),sL]
   refine cR (fun h=>?_) (fun h=>?_)
   ·have h:=aM h
    refine⟨(by show 1<=sizeLine;decide),fun l1 hl1=>?_⟩
    have s4:=Same.new (o:=.tup [V.str "tie"]) hl1
    refine⟨_,rfl,l1,ta,_,_,rfl,rfl,cE,s4 _ _ (s13 _ _ hta),(by show 1+2<=sizeLine;decide),fun x H5 s5 e5=>?_⟩
    refine k x _ ((s1.trans s13).trans (s4.trans s5)) ?_
    rw[p7 hn he h]
    exact gh e5
   ·have h:dF ks e.1 e.2≠some t:=fun z=>h (ak z)
    exact⟨_,rfl,s13,pf hn he h⟩
  ·rintro σ H2 ⟨o5,rfl,sm,hn⟩
   rw[rblen,ap (ac _)] at hn
   have hst:=pG (wn:=wn) hn
   have s12:=s1.trans sm
   refine⟨_,rfl,(by show 2<=sizeLine;decide),fun x hx=>?_⟩
   have s2:=s12.trans (Same.new (o:=.tup [V.str "first",V.str t.2.1]) hx)
   have et:upd H2 x (.tup [V.str "first",V.str t.2.1]) x=some (.tup [V.str "first",V.str t.2.1]):=cE
   generalize upd H2 x (.tup [V.str "first",V.str t.2.1])=H3 at et s2 ⊢
   refine⟨_,rfl,.tup (.of (s2 _ _ hq)) rfl ⟨d4,rw4,_,cW ("first",t.2.1),rfl,s2 _ _ hd4,rpw.same s2,dG et,cay,gq (e:=("first",t.2.1)) ⟨iX,hkt.2.1⟩,(by show 1<=16;decide),_,rfl,?_⟩⟩
   rw[if_neg (show ¬ false=true by decide),ig]
   refine cR (fun h=>?_) (fun h=>?_)
   ·have h:=aM h
    rw[if_pos h] at hst
    refine⟨_,rfl,_,rfl,(by show 3<=sizeLine;decide),fun x hx=>?_⟩
    refine k x _ (s2.trans (Same.new hx)) ?_
    rw[hst]
    exact gh cE
   ·have h:¬ ((("first":Str),t.2.1):Str × Str)∈wn:=fun z=>h (ak z)
    rw[if_neg h] at hst
    refine⟨_,rfl,_,rfl,(by show 3<=sizeLine;decide),fun x hx=>?_⟩
    refine k x _ (s2.trans (Same.new hx)) ?_
    rw[hst]
    exact gh cE
def nN:Sp:=fun vs H Q _=>∃(q:Addr) (us:List Str) (ks:Kn) (ts ws wn:Prs) (kk:Str × List Str) (u:Str),vs=[.ref q,.str u]/\Rep H (.ref q) (df ks ts ws wn)/\Tre us ks/\kk∈ks/\u∈kk.2/\∀H',Same H H'->Q (.str kk.1) H'
theorem scLKnot:FnScope ["_law_house_here","_law_unit"] ["_law_house_here","_law_unit"] (cI iH):=⟨rfl,rfl,rfl,by decide +kernel,rfl,by decide +kernel,by decide +kernel⟩
theorem xK {f:Addr}{fd:FuncData}(F:Fun K "_law_knot_of" "_law_knot_of" iH f fd) (B:Blt mg):FnOk P w K mg base CX0 1 f fd ["_law_house_here", "_law_unit"] nN := by
 refine F.ok scLKnot (fun vs H Q E h=>?_) (fun cdv A outer s H vs Q E hr h=>?_)
 ·obtain⟨q,us,ks,ts,ws,wn,kk,u,rfl,_⟩:=h
  rfl
 ·obtain⟨q, us, ks, ts, ws, wn, kk, u, rfl, R, T, hkk, hu, k⟩ := h
  have nd:=scLKnot.nd
  refine⟨_,(cH (cL (px K hr (dS (cI iH) ["_law_house_here","_law_unit"] ["_law_name","_law_kids"] [1] ["_law_name","_law_kids","_law_unit"] rfl (dP K (px K hr (pv 0) cG)) (fun _ _ _ _ _=>(eW (n:=2) K rfl (cY (cN (i:=0) (show (["_law_name","_law_kids","_law_unit"]:List Str).Nodup by decide) rfl (Or.inl rfl)) (cY (cN (i:=1) (show (["_law_name","_law_kids","_law_unit"]:List Str).Nodup by decide) rfl (Or.inl rfl)) eP)))) (fun _ _ _ _ _=>(fH (cK (ft K hr.units) (pv 2) (pv 1) (by with_unfolding_all rfl)))) (fun _ _ _ _ _=>(pv 0))) cG))),?_⟩
  obtain⟨q',a,b,c3,d4,e0,hq,R1,_⟩:=dI R
  cases e0
  obtain⟨a',refs,e0,ha,rp⟩:=fQ R1
  cases e0
  have rlen:=rp.len
  rw[ae] at rlen
  have few:=T.few
  refine⟨_,rfl,.tup (.of hq) rfl ⟨a,rfl,⟨_,.of ha⟩,?_⟩⟩
  refine fj refs (fun D i acc σ' H'=>∃(o0 o1:Option V),σ'=[o0,o1,some (.str u)]/\acc=List.map V.str (((ks.take i).filter fun k=>decide (u∈k.2)).map (·.1))/\Same H H'/\H D=none) fun D hD=>⟨?_,?_,?_,?_⟩
  ·exact⟨none,none,rfl,rfl,Same.new hD,hD⟩
  ·rintro i acc σ' H' _ ⟨o0,o1,rfl,_,sm,_⟩ _
   exact .of (sm _ _ ha)
  ·rintro i acc σ' H' x hx ⟨o0,o1,rfl,rfl,sm,hD0⟩ hac
   obtain⟨kn,ta,la,hk,rfl,hta,hla⟩:=gT rp hx
   have hil:=(ah.mp hk).1
   have alen:((ks.take i).filter fun k=>decide (u∈k.2)).length<=i:=by
    have:=bd (fun k:Str × List Str=>decide (u∈k.2)) (ks.take i)
    rw[aL] at this
    omega
   have eo:(ks.take (i+1)).filter (fun k=>decide (u∈k.2))=(ks.take i).filter (fun k=>decide (u∈k.2))++(if decide (u∈kn.2)=true then [kn] else []):=by
    rw[av,hk,br]
    congr 1
    show List.filter _ [kn]=_
    rw[bt,bK]
   refine⟨ta,_,rfl,.of (sm _ _ hta),rfl,_,_,rfl,_,_,rfl,rfl,?_⟩
   refine⟨_,rfl,_,rfl,.seq (.inr (.of (sm _ _ hla))) rfl (gu _) ⟨_,rfl,?_⟩⟩
   rw[if_neg (show ¬ false=true by decide),iS]
   refine cR (fun hc=>?_) (fun hc=>?_)
   ·rw[if_pos hc] at eo
    exact⟨_,rfl,hac,by rw[ae,ae];exact cU (by omega),_,_,rfl,by rw[eo,aj,aj];rfl,dh sm hD0,hD0⟩
   ·rw[if_neg hc,aS] at eo
    exact⟨hac,_,_,rfl,by rw[eo],sm,hD0⟩
  ·rintro acc σ' H3 ⟨o0,o1,rfl,rfl,s3,hD0⟩ hac
   rw[rlen,ap (ac _)] at hac
   have hin:kk∈ks.filter (fun k=>decide (u∈k.2)):=aT.mpr ⟨hkk,ak hu⟩
   cases ef:ks.filter (fun k=>decide (u∈k.2)) with
   | nil=>rw[ef] at hin;cases hin
   | cons x r =>
    have hx:x∈ks.filter (fun k=>decide (u∈k.2)):=by rw[ef];exact bh ..
    obtain⟨h1,h2⟩:=aT.mp hx
    have ex:=iA T.knd h1 hkk (aM h2) hu
    subst ex
    rw[ef] at hac
    exact .lst (.of hac) (eQ (j:=0) rfl) (k H3 s3)
def sh:Sp:=fun vs H Q _=>∃(q l:Addr) (ks:Kn) (ts ws wn:Prs) (knot:Str) (row:List Str),vs=[.ref q,.str knot,.ref l]/\Rep H (.ref q) (df ks ts ws wn)/\H l=some (.lst (List.map V.str row))/\ks.length<=100/\∀q' H',Same H H'->Rep H' (.ref q') (df (ks.map (dL knot row)) ts ws wn)->Q (.ref q') H'
theorem scLWith:FnScope ["_law_house_here","_law_knot","_law_order","_law_knots_here"] ["_law_house_here","_law_knot","_law_order"] (cI jW):=⟨rfl,rfl,rfl,by decide +kernel,rfl,by decide +kernel,by decide +kernel⟩
theorem xJ {f:Addr}{fd:FuncData}(F:Fun K "_law_with" "_law_with" jW f fd) (B:Blt mg):FnOk P w K mg base CX0 1 f fd ["_law_house_here", "_law_knot", "_law_order"] sh := by
 refine F.ok scLWith (fun vs H Q E h=>?_) (fun cdv A outer s H vs Q E hr h=>?_)
 ·obtain⟨q,l,ks,ts,ws,wn,knot,row,rfl,_⟩:=h
  rfl
 ·obtain⟨q, l, ks, ts, ws, wn, knot, row, rfl, R, hl, kl, k⟩ := h
  have nd:=scLWith.nd
  refine⟨_,(cF (jx (i:=3) nd rfl rfl (by rfl) (cI jW) ["_law_house_here","_law_knot","_law_order","_law_knots_here"] ["_law_name","_law_kids"] [2,1] ["_law_name","_law_kids","_law_order","_law_knot"] rfl (dP K (px K hr (pv 0) cG)) (fun _ _ _ _ _=>(eW (n:=2) K rfl (cY (cN (i:=0) (show (["_law_name","_law_kids","_law_order","_law_knot"]:List Str).Nodup by decide) rfl (Or.inl rfl)) (cY (cN (i:=1) (show (["_law_name","_law_kids","_law_order","_law_knot"]:List Str).Nodup by decide) rfl (Or.inl rfl)) eP)))) (fun _ _ _ _ _=>fw) (fun _ _ _ _ _=>(cV (p2 (pv 0) (px K hr (dw (p2 (pv 1) (fG K B (p1 (pv 2))))) (t6 B (p1 (hG (di hr.units) (pv 0) (pv 3) (cQ _)))))))))
   (cH (cL (cZ je (cV (p1 (fG K B (p1 (pv 3))))) (fR lH (pv 0) (gl cG) gp))))),?_⟩
  obtain⟨q',a,b,c3,d4,e0,hq,R1,R2,R3,R4⟩:=dI R
  cases e0
  obtain⟨a',refs,e0,ha,rp⟩:=fQ R1
  cases e0
  have rlen:=rp.len
  rw[ae] at rlen
  refine⟨_,rfl,.tup (.of hq) rfl ⟨a,rfl,⟨_,.of ha⟩,?_⟩⟩
  refine fj refs (fun D j acc σ' H'=>∃(o0 o1:Option V),σ'=[o0,o1,some (.ref l),some (.str knot)]/\RepAll H' acc (((ks.take j).map (dL knot row)).map eM)/\Same H H'/\H D=none) fun D hD=>⟨?_,?_,?_,?_⟩
  ·exact⟨none,none,rfl,.nil,Same.new hD,hD⟩
  ·rintro j acc σ' H' _ ⟨o0,o1,rfl,_,sm,_⟩ _
   exact .of (sm _ _ ha)
  ·rintro j acc σ' H' v hv ⟨o0, o1, rfl, ra, sm, hD0⟩ hacc
   obtain⟨kn,ta,la,hk,rfl,hta,hla⟩:=gT rp hv
   have hil:=(ah.mp hk).1
   have alen:=ra.len
   rw[ae,ae,aL] at alen
   have etk:(ks.take (j+1)).map (dL knot row)=(ks.take j).map (dL knot row)++[dL knot row kn]:=by
    rw[av,hk,aj];rfl
   refine yz rfl (.of (sm _ _ hta)) ?_
   refine⟨_,rfl,_,rfl,_,rfl,l,_,rfl,.of (sm _ _ hl),fun t1 h1=>cP ⟨(by show 2<=sizeLine;decide),fun l2 h2=>?_⟩⟩
   have s1:=Same.new (o:=.tup (List.map V.str row)) h1
   have e1:upd H' t1 (.tup (List.map V.str row)) t1=some (.tup (List.map V.str row)):=cE
   generalize upd H' t1 (.tup (List.map V.str row))=H1 at s1 e1 h2 ⊢
   have s2:=Same.new (o:=.lst [V.ref la,V.ref t1]) h2
   have e2:upd H1 l2 (.lst [V.ref la,V.ref t1]) l2=some (.lst [V.ref la,V.ref t1]):=cE
   have e1:=s2 _ _ e1
   have s12:=s1.trans s2
   generalize upd H1 l2 (.lst [V.ref la,V.ref t1])=H2 at s12 e1 e2 ⊢
   refine⟨_,rfl,_,rfl,.sc rfl ⟨_,rfl,.bl ?_⟩⟩
   have hacc2:=s12 _ _ hacc
   have ra2:=ra.same s12
   have hla2:=s12 _ _ (sm _ _ hla)
   have sm2:=sm.trans s12
   have pick:∃x,atI [V.ref la,V.ref t1] (if (if false=true then !decide (V.str kn.1=V.str knot) else decide (V.str kn.1=V.str knot))=true then 1 else 0)=some (.ref x)/\H2 x=some (.tup ((dL knot row kn).2.map V.str)):=by
    by_cases hn:kn.1=knot
    ·rw[if_pos (by rw[if_neg (by decide),hn];simp),show dL knot row kn=(knot,row) by unfold dL;rw[if_pos hn]]
     exact⟨t1,rfl,e1⟩
    ·rw[if_neg (by rw[if_neg (by decide)];simpa using hn),show dL knot row kn=kn by unfold dL;rw[if_neg hn]]
     exact⟨la,rfl,hla2⟩
   obtain⟨x,hx,hx2⟩:=pick
   refine .lst (.of e2) hx (cP ⟨(by show 2<=sizeLine;decide),fun t3 h3=>?_⟩)
   have s3:=Same.new (o:=.tup [V.str kn.1,V.ref x]) h3
   have e3:upd H2 t3 (.tup [V.str kn.1,V.ref x]) t3=some (.tup [V.str kn.1,V.ref x]):=cE
   have sm3:=sm2.trans s3
   have hacc3:=s3 _ _ hacc2
   have ra3:=ra2.same s3
   have hx3:=s3 _ _ hx2
   generalize upd H2 t3 (.tup [V.str kn.1,V.ref x])=H3 at e3 sm3 hacc3 ra3 hx3 ⊢
   refine⟨hacc3,cU (by omega),_,_,rfl,?_,dh sm3 hD0,hD0⟩
   rw[etk,aj]
   refine RepAll.append (dy (gn hacc3 But.upd) ra3) (.cons ?_ .nil)
   exact mB (by rw[kT];exact fM hacc3 But.upd e3) (fM hacc3 But.upd hx3)
  ·rintro acc σ' H' ⟨o0,o1,rfl,ra,sm,hD0⟩ hacc
   rw[rlen,ap (ac _)] at ra
   refine ii ?_
   dsimp only
   refine⟨_,rfl,D,acc,rfl,.of hacc,fun t1 h1=>cP ⟨(by show 1<=sizeLine;decide),fun t2 h2=>?_⟩⟩
   have s1:=Same.new (o:=.tup acc) h1
   have e1:upd H' t1 (.tup acc) t1=some (.tup acc):=cE
   have sA:=sm.trans s1
   have ra:=ra.same s1
   generalize upd H' t1 (.tup acc)=H1 at e1 sA ra h2 ⊢
   have s2:=Same.new (o:=.tup [V.ref t1]) h2
   have e2:upd H1 t2 (.tup [V.ref t1]) t2=some (.tup [V.ref t1]):=cE
   have sB:=sA.trans s2
   have e1:=s2 _ _ e1
   have ra:=ra.same s2
   generalize upd H1 t2 (.tup [V.ref t1])=H2 at e1 e2 sB ra ⊢
   refine⟨_,rfl,_,rfl,q,_,rfl,sB _ _ hq,fun t3 H3 s3 e3=>?_⟩
   have e3:H3 t3=some (.tup [V.ref b,V.ref c3,V.ref d4]):=e3
   refine⟨t2,t3,_,_,rfl,rfl,s3 _ _ e2,e3,(by show 1+3<=sizeLine;decide),fun t4 H4 s4 e4=>?_⟩
   have s34:=s3.trans s4
   have sC:=sB.trans s34
   exact k t4 H4 sC (fO e4 (.tup (s34 _ _ e1) (ra.same s34)) (R2.same sC) (R3.same sC) (R4.same sC))
theorem pH {α:Type}{p:α->Bool}{l:List α}{i:Nat}{x:α}(hn:(l.take i).find? p=none) (hx:l[i]? = some x) (h:p x=false):(l.take (i+1)).find? p=none:=by
 rw[av,hx,List.find?_append,hn,Option.none_or]
 show List.find? _ [x]=none
 rw[bc,h];rfl
theorem pB {α:Type}{p:α->Bool}{l:List α}{i:Nat}{x:α}(hn:(l.take i).find? p=none) (hx:l[i]? = some x) (h:p x=true):l.find? p=some x:=by
 have hl:=(ah.mp hx)
 conv=>lhs;rw[<- bY i l]
 rw[List.find?_append,hn,Option.none_or,bJ hl.1,hl.2,bc,h]
def DueV (H:Hp) (x:V) (ks:Kn) (ts ws wn:Prs) (kk:Str × List Str) (word u:Str):Option (T3 × T3)->Prop
 | none=>∃q',x=.ref q'/\Rep H (.ref q') (df (jj ks kk word u) ts ws (wn++[(word,u)]))
 | some (a,b)=>∃l l2 t1 t2,x=.ref l/\H l=some (.lst [.str "ring",.ref l2])/\H l2=some (.lst [.ref t1,.ref t2])/\Rep H (.ref t1) (t3D a)/\Rep H (.ref t2) (t3D b)
theorem DueV.same {H H':Hp}{x:V}{ks:Kn}{ts ws wn:Prs}{kk:Str × List Str}{word u:Str}{o:Option (T3 × T3)}(h:DueV H x ks ts ws wn kk word u o) (s:Same H H'):DueV H' x ks ts ws wn kk word u o:=by
 cases o with
 | none=>obtain⟨q',e,r⟩:=h;exact⟨q',e,r.same s⟩
 | some p=>obtain⟨a,b⟩:=p;obtain⟨l,l2,t1,t2,e,h1,h2,h3,h4⟩:=h;exact⟨l,l2,t1,t2,e,s _ _ h1,s _ _ h2,h3.same s,h4.same s⟩
structure GH (H:Hp) (q:Addr) (us:List Str) (ks:Kn) (ts ws wn:Prs):Prop where
 rep:Rep H (.ref q) (df ks ts ws wn)
 tre:Tre us ks
 tok:gX us ks ts
 wx:WnX ks wn
 pw:gV us ws
 tl:ts.length<=200
 wl:wn.length<=200
theorem GH.same {H H':Hp}{q:Addr}{us:List Str}{ks:Kn}{ts ws wn:Prs}(h:GH H q us ks ts ws wn) (s:Same H H'):GH H' q us ks ts ws wn:=⟨h.rep.same s,h.tre,h.tok,h.wx,h.pw,h.tl,h.wl⟩
theorem GH.but {H H':Hp}{q p:Addr}{us:List Str}{ks:Kn}{ts ws wn:Prs}(h:GH H q us ks ts ws wn) {ys:List (Key × V)}(hp:H p=some (.dK ys)) (b:But p H H'):GH H' q us ks ts ws wn:=⟨kz hp b h.rep,h.tre,h.tok,h.wx,h.pw,h.tl,h.wl⟩
def vm:Sp:=fun vs H Q _=>∃(q:Addr) (us:List Str) (ks:Kn) (ts ws wn:Prs) (kk:Str × List Str) (word u:Str),vs=[.ref q,.str word,.str u]/\GH H q us ks ts ws wn/\TsI us ks ts/\kk∈ks/\u∈kk.2/\(word="first"∨word="last")/\∀x H',Same H H'->DueV H' x ks ts ws wn kk word u (fJ ks ts wn kk word u)->Q x H'
theorem scDue:FnScope ["_law_house_here","_law_word","_law_unit","_law_knot","_law_kids","_law_edges_here","_law_kid","_law_others"] ["_law_house_here","_law_word","_law_unit"] (cI uk):=⟨rfl,rfl,rfl,by decide +kernel,rfl,by decide +kernel,by decide +kernel⟩
theorem yK {f:Addr}{fd:FuncData}(F:Fun K "_law_due" "_law_due" uk f fd) (B:Blt mg) (c_law_knot_of:Cal P w K mg base 1 "_law_knot_of" ["_law_house_here", "_law_unit"] nN) (c_law_edges:Cal P w K mg base 3 "_law_edges" ["_law_house_here", "_law_knot"] tK) (c_law_step:Cal P w K mg base 3 "_law_step" ["_law_house_here", "_law_knot", "_law_one", "_law_other"] si) (c_law_with:Cal P w K mg base 1 "_law_with" ["_law_house_here", "_law_knot", "_law_order"] sh):FnOk P w K mg base CX0 4 f fd ["_law_house_here", "_law_word", "_law_unit"] vm := by
 refine F.ok scDue (fun vs H Q E h=>?_) (fun cdv A outer s H vs Q E hr h=>?_)
 ·obtain⟨q,us,ks,ts,ws,wn,kk,word,u,rfl,_⟩:=h
  rfl
 ·obtain⟨q, us, ks, ts, ws, wn, kk, word, u, rfl, G, ti, hkk, huk, hw, k⟩ := h
  have nd:=scDue.nd
  have sz:200000<sizeLine:=by decide
  have T:=G.tre
  have R:=G.rep
  have wok:=WnX.ok T G.wx
  have tok:=G.tok
  have hu:=T.isIn hkk huk
  have klen:=lV T hkk
  have kin:∀u∈kk.2,u∈us:=fun u hu=>T.isIn hkk hu
  have few:=T.few
  have wl:=G.wl
  refine⟨_,(cF (pst 3 nd (pc c_law_knot_of hr (p2 (pv 0) (pv 2))))
   (cF (pst 4 nd (px K hr (lj K rfl hr.units B (p1 (px K hr (pv 0) cG))) (pv 3)))
   (cF (pst 5 nd (pc c_law_edges hr (p2 (pv 0) (pv 3))))
   (cF (dM PassesOwn.never rfl (dP K (pv 4)) (cN (i:=6) nd rfl (Or.inl rfl)) (cF (cX (PW.pt (fu (cK (di hr.units) (pv 1) cM (cQ _)) (eV (cK (ft K hr.units) (cV (p2 (pv 6) (pv 2))) (pv 5) (by with_unfolding_all rfl))))) (cH (cL (dw (p2 cM (dw (p2 (cV (cT cM (p2 (pv 2) (pv 6)))) (pc c_law_step hr (cT (pv 0) (cT (pv 3) (p2 (pv 6) (pv 2))))))))))) cS)
   (cH (cX (PW.pt (fu (cK (di hr.units) (pv 1) cM (cQ _)) (eV (cK (ft K hr.units) (cV (p2 (pv 2) (pv 6))) (pv 5) (by with_unfolding_all rfl))))) (cH (cL (dw (p2 cM (dw (p2 (cV (cT cM (p2 (pv 6) (pv 2)))) (pc c_law_step hr (cT (pv 0) (cT (pv 3) (p2 (pv 2) (pv 6))))))))))) cS))))
   (cF (jx (i:=7) nd rfl rfl (by rfl) (cI uk) ["_law_house_here","_law_word","_law_unit","_law_knot","_law_kids","_law_edges_here","_law_kid","_law_others"] ["_law_kid"] [2] ["_law_kid","_law_unit"] rfl (dP K (pv 4)) (fun _ _ _ _ _=>(cN (i:=0) (show (["_law_kid","_law_unit"]:List Str).Nodup by decide) rfl (Or.inl rfl))) (fun _ _ _ _ _=>(fH (cK (fP hr.units) (pv 0) (pv 1) (cQ _)))) (fun _ _ _ _ _=>(pv 0)))
   (cF (cX (cK (di hr.units) (pv 1) cM (cQ _)) (cH (dR (i4 K (pv 7) (p2 cG (pv 2))))) (cH (dR (fY K (pv 7) (p1 (pv 2))))))
   (cF (pst 0 nd (pc c_law_with hr (cT (pv 0) (p2 (pv 3) (pv 7)))))
   (cH (cL (cZ je (fR lH (pv 0) gp (gl cG)) (cV (p1 (cZ je (px K hr (pv 0) cG) (cV (p1 (cV (p2 (pv 1) (pv 2)))))))))))))))))),?_⟩
  obtain⟨q',a,b,c3,d4,e0,hq,R1,_⟩:=dI R
  cases e0
  refine⟨_,rfl,_,rfl,cP ⟨q,us,ks,ts,ws,wn,kk,u,rfl,R,T,hkk,huk,fun H1 s1=>?_⟩⟩
  refine⟨_,rfl,.tup (.of (s1 _ _ hq)) rfl (cP (iM (R1.same s1) T fun D dk hD hdk=>?_))⟩
  obtain⟨la,hva,hla⟩:=hdk kk hkk
  have s2:=Same.new (o:=.dK dk) hD
  refine⟨_,rfl,.dic (.inl ⟨dk,.inr kk.1,.inl cE,rfl,hva.symm⟩) ?_⟩
  have s12:=s1.trans s2
  have hla2:=s2 _ _ hla
  generalize upd H1 D (.dK dk)=H2 at s12 hla2 ⊢
  refine⟨_,rfl,_,rfl,cP ⟨q,us,ks,ts,ws,wn,kk.1,kk.2,rfl,R.same s12,T,ti,fun e he=>(wok e he).2,hkk,by have:=G.tl;omega,by omega,fun le refs es H3 s3 hle0 hle rpe el ein em=>?_⟩⟩
  have s13:=s12.trans s3
  have hla3:=s3 _ _ hla2
  have hn0:∀sec,nbP sec (hX ks ts wn kk.1 kk.2) u=nbP sec es u:=fun sec=>vQ (fun x=>(zj wok x).symm.trans (em x).symm) sec u
  unfold fJ at k
  rw[hn0] at k
  have cay:PyData.canLayAll0 (es.map cW)=true:=dC fun e he=>⟨T.nm _ (ein e he).1,T.nm _ (ein e he).2⟩
  refine⟨_,rfl,la,rfl,⟨_,.of hla3⟩,?_⟩
  refine gk (xs:=List.map V.str kk.2) (fun i σ H'=>∃(o6:Option V),σ=[some (.ref q),some (.str word),some (.str u),some (.str kk.1),some (.ref la),some (.ref le),o6,none]/\Same H3 H'/\(kk.2.take i).find? (nbP (decide (word="first")) es u)=none) ?_ ?_ ?_ ?_
  ·exact⟨none,rfl,Same.refl H3,rfl⟩
  ·rintro i σ H' hi ⟨o6,rfl,sm,_⟩
   exact .of (sm _ _ hla3)
  ·rintro i x σ H4 hx ⟨o6, rfl, sm, hn⟩
   obtain⟨ch,hch,rfl⟩:=dH hx
   have hcin:=kin ch (au hch)
   have s14:=s13.trans sm
   have hle4:=sm _ _ hle
   have rpe4:=rpe.same sm
   dsimp only[eF]
   refine⟨_,rfl,.sc rfl ⟨_,rfl,?_⟩⟩
   refine cR (fun h=>?_) (fun h=>?_)
   ·have h := iU h
    have ef:decide (word="first")=true:=ak h
    rw[ef] at hn k
    refine⟨_,rfl,_,rfl,cP ⟨(by show 2<=sizeLine;decide),fun t ht=>?_⟩⟩
    have st:=Same.new (o:=.tup [V.str ch,V.str u]) ht
    have et:upd H4 t (.tup [V.str ch,V.str u]) t=some (.tup [V.str ch,V.str u]):=cE
    have s15:=s14.trans st
    have hle5:=st _ _ hle4
    have rpe5:=rpe4.same st
    have sm5:=sm.trans st
    generalize upd H4 t (.tup [V.str ch,V.str u])=H5 at et s15 hle5 rpe5 sm5 ⊢
    refine⟨_,rfl,.tr (d:=cW (ch,u)) hle5 rpe5 (dG et) cay (gq (e:=(ch,u)) ⟨T.nm _ hcin,T.nm _ hu⟩) (by show 1<=16;decide) ⟨_,rfl,?_⟩⟩
    rw[if_neg (show ¬ false=true by decide),ig]
    refine cR (fun hc=>?_) (fun hc=>?_)
    ·have hf:=pB hn hch (show nbP true es u ch=true from hc)
     rw[hf] at k
     have k:=fun y H' s0 (r:DueV H' y ks ts ws wn kk word u (some (if word="first" then ((("first":Str),u,ch),eX ks ts wn (kk.1,ch,u)) else ((("last":Str),ch,u),eX ks ts wn (kk.1,u,ch)))))=>k y H' s0 r
     rw[if_pos h] at k
     refine⟨_,rfl,_,rfl,cP ⟨(by show 3<=sizeLine;decide),fun t1 ht1=>?_⟩⟩
     have s6:=Same.new (o:=.tup [V.str "first",V.str u,V.str ch]) ht1
     have r6:Rep (upd H5 t1 (.tup [V.str "first",V.str u,V.str ch])) (.ref t1) (t3D (((("first":Str),u,ch):T3))):=gh cE
     have s16:=s15.trans s6
     generalize upd H5 t1 (.tup [V.str "first",V.str u,V.str ch])=H6 at r6 s16 ⊢
     refine⟨_,rfl,_,rfl,_,rfl,_,rfl,cP ⟨q,us,ks,ts,ws,wn,(kk.1,ch,u),rfl,R.same s16,T,wok,tok,⟨lN T hkk,T.nm _ hcin,T.nm _ hu⟩,fun t2 H7 s7 r7=>?_⟩⟩
     refine cP ⟨(by show 2<=sizeLine;decide),fun l hl=>?_⟩
     have s8:=Same.new (o:=.lst [V.ref t1,V.ref t2]) hl
     have e8:upd H7 l (.lst [V.ref t1,V.ref t2]) l=some (.lst [V.ref t1,V.ref t2]):=cE
     have s18:=(s16.trans s7).trans s8
     have r68:=(r6.same s7).same s8
     have r78:=r7.same s8
     generalize upd H7 l (.lst [V.ref t1,V.ref t2])=H8 at s18 e8 r68 r78 ⊢
     refine cP ⟨(by show 2<=sizeLine;decide),fun l3 hl3=>?_⟩
     have s9:=Same.new (o:=.lst [V.str "ring",V.ref l]) hl3
     exact k (.ref l3) _ (s18.trans s9) ⟨l3,l,t1,t2,rfl,cE,s9 _ _ e8,r68.same s9,r78.same s9⟩
    ·have hc:nbP true es u ch=false:=by
        cases z:nbP true es u ch with
        | false=>rfl
        | true=>exact absurd z hc
     refine⟨_,rfl,.sc rfl ⟨_,rfl,?_⟩⟩
     refine cR (fun h2=>?_) (fun _=>fB ?_)
     ·exact absurd ((iU h2).symm.trans h) (by decide)
     ·exact⟨_,rfl,sm5,by rw[ef];exact pH hn hch hc⟩
   ·have h := gy h
    have ef:decide (word="first")=false:=aw h
    have hl:word="last":=hw.resolve_left h
    rw[ef] at hn k
    refine fB ?_
    refine⟨_,rfl,.sc rfl ⟨_,rfl,?_⟩⟩
    refine cR (fun h2=>?_) (fun h2=>?_)
    ·refine⟨_, rfl, _, rfl, cP ⟨(by show 2 <= sizeLine; decide), fun t ht => ?_⟩⟩
     have st:=Same.new (o:=.tup [V.str u,V.str ch]) ht
     have et:upd H4 t (.tup [V.str u,V.str ch]) t=some (.tup [V.str u,V.str ch]):=cE
     have s15:=s14.trans st
     have hle5:=st _ _ hle4
     have rpe5:=rpe4.same st
     have sm5:=sm.trans st
     generalize upd H4 t (.tup [V.str u,V.str ch])=H5 at et s15 hle5 rpe5 sm5 ⊢
     refine⟨_,rfl,.tr (d:=cW (u,ch)) hle5 rpe5 (dG et) cay (gq (e:=(u,ch)) ⟨T.nm _ hu,T.nm _ hcin⟩) (by show 1<=16;decide) ⟨_,rfl,?_⟩⟩
     rw[if_neg (show ¬ false=true by decide),ig]
     refine cR (fun hc=>?_) (fun hc=>?_)
     ·have hf:=pB hn hch (show nbP false es u ch=true from hc)
      rw[hf] at k
      have k:=fun y H' s0 (r:DueV H' y ks ts ws wn kk word u (some (if word="first" then ((("first":Str),u,ch),eX ks ts wn (kk.1,ch,u)) else ((("last":Str),ch,u),eX ks ts wn (kk.1,u,ch)))))=>k y H' s0 r
      rw[if_neg h] at k
      refine⟨_,rfl,_,rfl,cP ⟨(by show 3<=sizeLine;decide),fun t1 ht1=>?_⟩⟩
      have s6:=Same.new (o:=.tup [V.str "last",V.str ch,V.str u]) ht1
      have r6:Rep (upd H5 t1 (.tup [V.str "last",V.str ch,V.str u])) (.ref t1) (t3D (((("last":Str),ch,u):T3))):=gh cE
      have s16:=s15.trans s6
      generalize upd H5 t1 (.tup [V.str "last",V.str ch,V.str u])=H6 at r6 s16 ⊢
      refine⟨_,rfl,_,rfl,_,rfl,_,rfl,cP ⟨q,us,ks,ts,ws,wn,(kk.1,u,ch),rfl,R.same s16,T,wok,tok,⟨lN T hkk,T.nm _ hu,T.nm _ hcin⟩,fun t2 H7 s7 r7=>?_⟩⟩
      refine cP ⟨(by show 2<=sizeLine;decide),fun l hl=>?_⟩
      have s8:=Same.new (o:=.lst [V.ref t1,V.ref t2]) hl
      have e8:upd H7 l (.lst [V.ref t1,V.ref t2]) l=some (.lst [V.ref t1,V.ref t2]):=cE
      have s18:=(s16.trans s7).trans s8
      have r68:=(r6.same s7).same s8
      have r78:=r7.same s8
      generalize upd H7 l (.lst [V.ref t1,V.ref t2])=H8 at s18 e8 r68 r78 ⊢
      refine cP ⟨(by show 2<=sizeLine;decide),fun l3 hl3=>?_⟩
      have s9:=Same.new (o:=.lst [V.str "ring",V.ref l]) hl3
      exact k (.ref l3) _ (s18.trans s9) ⟨l3,l,t1,t2,rfl,cE,s9 _ _ e8,r68.same s9,r78.same s9⟩
     ·have hc:nbP false es u ch=false:=by
         cases z:nbP false es u ch with
         | false=>rfl
         | true=>exact absurd z hc
      exact⟨_,rfl,sm5,by rw[ef];exact pH hn hch hc⟩
    ·exact absurd hl (gy h2)
  ·rintro σ H4 ⟨o6, rfl, sm, hn⟩
   rw[ae,ap (ac _)] at hn
   rw[hn] at k
   have k:=fun q' H' s0 (r:Rep H' (.ref q') (df (jj ks kk word u) ts ws (wn++[(word,u)])))=>k (.ref q') H' s0 ⟨q',rfl,r⟩
   have s14:=s13.trans sm
   have hla4:=sm _ _ hla3
   refine⟨_,rfl,la,rfl,⟨_,.of hla4⟩,?_⟩
   refine fj (List.map V.str kk.2) (fun D j acc σ' H'=>∃(o0:Option V),σ'=[o0,some (.str u)]/\acc=List.map V.str (eI (kk.2.take j) u)/\Same H4 H'/\H4 D=none) fun Da hDa=>⟨?_,?_,?_,?_⟩
   ·exact⟨none,rfl,rfl,Same.new hDa,hDa⟩
   ·rintro j acc σ' H' _ ⟨o0,rfl,_,sm,_⟩ _
    exact .of (sm _ _ hla4)
   ·rintro j acc σ' H' v hv ⟨o0,rfl,rfl,sm,hD0⟩ hacc
    obtain⟨z,hz,rfl⟩:=dH hv
    have hjl:=(ah.mp hz).1
    have eo:eI (kk.2.take (j+1)) u=eI (kk.2.take j) u++(if decide (z≠u)=true then [z] else []):=by
     unfold eI
     rw[av,hz,br]
     congr 1
     show List.filter _ [z]=_
     rw[bt,bK]
    have alen:(eI (kk.2.take j) u).length<=j:=by
     have:=bd (fun z=>decide (z≠u)) (kk.2.take j)
     rw[aL] at this
     unfold eI
     omega
    dsimp only[eF]
    refine⟨_,rfl,_,rfl,.sc rfl ⟨_,rfl,cR (fun h=>?_) (fun h=>?_)⟩⟩
    ·have hne:z≠u:=fun q=>by rw[q,if_pos rfl,ak rfl] at h;cases h
     rw[if_pos (ak hne)] at eo
     exact⟨_,rfl,hacc,by rw[ae];exact cU (by omega),_,rfl,by rw[eo,aj];rfl,dh sm hD0,hD0⟩
    ·have he:z=u:=Classical.byContradiction fun q=>h (by rw[if_pos rfl,aw (fun w=>q (V.str.inj w))];rfl)
     rw[if_neg (by simpa using he),aS] at eo
     exact⟨hacc,_,rfl,by rw[eo],sm,hD0⟩
   ·rintro acc σ' H5 ⟨o0, rfl, rfl, s5, hD0⟩ hacc
    rw[ae,ap (ac _)] at hacc
    have olen:(eI kk.2 u).length<=60:=aG (bd _ _) klen
    have s15:=s14.trans s5
    have fD:H Da=none:=eG s14 hD0
    refine ii ?_
    dsimp only
    refine jQ (fun σ' H'=>σ'=[some (.ref q),some (.str word),some (.str u),some (.str kk.1),some (.ref la),some (.ref le),o6,some (.ref Da)]/\H' Da=some (.lst (List.map V.str (fc kk.2 word u)))/\Same H H') ?_ ?_
    ·rintro σ' H6 ⟨rfl,hD6,s6⟩
     refine⟨_,rfl,_,rfl,_,rfl,cP ⟨q,Da,ks,ts,ws,wn,kk.1,fc kk.2 word u,rfl,R.same s6,hD6,by omega,fun q2 H7 s7 R7=>?_⟩⟩
     obtain⟨_,a2,b2,c2,d2,e0,hq2,Q1,Q2,Q3,Q4⟩:=dI R7
     cases e0
     obtain⟨_,rw4,e0,hd2,rpw⟩:=dZ Q4
     cases e0
     have rwl:=rpw.len
     rw[ae] at rwl
     refine⟨_,rfl,_,rfl,q2,_,rfl,hq2,fun t8 H8 s8 e8=>?_⟩
     have e8:H8 t8=some (.tup [V.ref a2,V.ref b2,V.ref c2]):=e8
     refine⟨_,rfl,.tup (.of (s8 _ _ hq2)) rfl ⟨_,rfl,_,rfl,cP ⟨(by show 2<=sizeLine;decide),fun t9 h9=>?_⟩⟩⟩
     have s9:=Same.new (o:=.tup [V.str word,V.str u]) h9
     have e9:upd H8 t9 (.tup [V.str word,V.str u]) t9=some (.tup [V.str word,V.str u]):=cE
     have s89:=s8.trans s9
     have e89:=s9 _ _ e8
     generalize upd H8 t9 (.tup [V.str word,V.str u])=H9 at s9 e9 s89 e89 ⊢
     refine cP ⟨(by show 1<=sizeLine;decide),fun tA hA=>?_⟩
     have sA:=Same.new (o:=.tup [V.ref t9]) hA
     have eA:upd H9 tA (.tup [V.ref t9]) tA=some (.tup [V.ref t9]):=cE
     have s8A:=s89.trans sA
     have e9A:=sA _ _ e9
     have e8A:=sA _ _ e89
     generalize upd H9 tA (.tup [V.ref t9])=HA at sA eA s8A e9A e8A ⊢
     refine⟨d2,tA,_,_,rfl,rfl,s8A _ _ hd2,eA,(by show rw4.length+1<=_;omega),fun tB HB sB eB=>?_⟩
     refine cP ⟨(by show 1<=sizeLine;decide),fun tC hC=>?_⟩
     have sC:=Same.new (o:=.tup [V.ref tB]) hC
     have eC:upd HB tC (.tup [V.ref tB]) tC=some (.tup [V.ref tB]):=cE
     have s8C:=(s8A.trans sB).trans sC
     have e8C:=sC _ _ (sB _ _ e8A)
     have eBC:=sC _ _ eB
     have e9C:=sC _ _ (sB _ _ e9A)
     generalize upd HB tC (.tup [V.ref tB])=HC at sC eC s8C e8C eBC e9C ⊢
     refine⟨t8,tC,_,_,rfl,rfl,e8C,eC,(by show 3+1<=sizeLine;decide),fun tE HE sE eE=>?_⟩
     have eE:HE tE=some (.tup [V.ref a2,V.ref b2,V.ref c2,V.ref tB]):=eE
     have s7E:=s8C.trans sE
     refine k tE HE ((s6.trans s7).trans s7E) (fO eE (Q1.same s7E) (Q2.same s7E) (Q3.same s7E) (.tup (sE _ _ eBC) ?_))
     rw[aj]
     exact RepAll.append (rpw.same s7E) (.cons (dG (s:=word) (t:=u) (sE _ _ e9C)) .nil)
    ·intro N hN
     refine⟨_,rfl,.sc rfl ⟨_,rfl,cR (fun h=>?_) (fun h=>?_)⟩⟩
     ·have hf:=iU h
      refine⟨_,rfl,.inl ⟨rfl,_,.of hacc⟩,_,rfl,cP ⟨Da,_,_,0,_,rfl,rfl,rfl,hacc,aP _,by rw[ae];exact cU (by omega),?_⟩⟩
      refine hN _ _ ⟨rfl,?_,dh s15 fD⟩
      rw[cE]
      unfold fc
      rw[if_pos hf];rfl
     ·have hf:=gy h
      refine⟨_,rfl,.inl ⟨rfl,_,.of hacc⟩,_,rfl,cP ⟨Da,_,_,rfl,rfl,hacc,by rw[ae];exact cU (by omega),?_⟩⟩
      refine hN _ _ ⟨rfl,?_,dh s15 fD⟩
      rw[cE]
      unfold fc
      rw[if_neg hf,aj];rfl
theorem yL {X:Cx}(K:W.Frag) {e:Expr}{ta:TE}{f:Str}{pos:Pos}(he:PE X e ta) (hb:attributeBase e f X.env (eval e X.env)=eval e X.env) (hK:X.K=K:=by rfl):PE X (.Attribute e f pos) (ye K ta f):=by
 subst hK
 exact y4 he hb
def ww:Sp:=fun vs H Q _=>∃(q t:Addr) (us:List Str) (ks:Kn) (ts ws wn:Prs) (kk:Str × List Str) (word u:Str),vs=[.ref q,.ref t]/\WD H q t us ks ts ws wn kk word u/\∀x H',Same H H'->DueV H' x ks ts ws wn kk word u (fJ ks ts wn kk word u)->Q x H'
theorem scTold:FnScope ["_law_house_here","_law_deed","_law_ring_here","error"] ["_law_house_here","_law_deed"] (cI mH):=⟨rfl,rfl,rfl,by decide +kernel,rfl,by decide +kernel,by decide +kernel⟩
theorem yC {f:Addr}{fd:FuncData}{ec:Str -> Addr}(F:Fun K "_law_told" "_law_told" mH f fd) (B:Blt mg) (Er:Errs K mg base ec zV xV) (G:XGet K (ec "Ring") "ring") (xbehind:CalX P w K mg base 10 "behind" ["house", "deed"] (nw (ec "Ring"))):FnOk P w K mg base CX0 11 f fd ["_law_house_here", "_law_deed"] ww := by
 refine F.ok scTold (fun vs H Q E h=>?_) (fun cdv A outer s H vs Q E hr h=>?_)
 ·obtain⟨q,t,us,ks,ts,ws,wn,kk,word,u,rfl,_⟩:=h
  rfl
 ·obtain⟨q,t,us,ks,ts,ws,wn,kk,word,u,rfl,D,k⟩:=h
  have nd:=scTold.nd
  obtain⟨bmD,xD,hDb,hin⟩:=Er.at_ "Ring" (by decide)
  have fN:=Er.f "Ring" (by decide)
  refine⟨_,(cF (pst 2 nd i0)
   (cF (y3 (i:=3) (fun _ _ _=>(cH (cL (zC xbehind (hr.mono (by decide)) rfl (p2 (pv 0) (pv 1)))))) rfl rfl rfl (Er.b "Ring" (by decide)) xD hDb nd rfl rfl (fun _ _=>(cH (cX (PW.pt (fu (fU (yo K B (p2 (pv 3) (ik (v:=.ref (ec "OrderError")) rfl (Er.b "OrderError" (by decide)) rfl)))) (eV (fU (yo K B (p2 (pv 3) (li (v:=.ty "ValueError") rfl Er.nv qM rfl))))))) (cH (pst 2 nd (yL K (pv 3) rfl))) cS))))
   (cH (cL (dw (p2 cM (pv 2))))))),?_⟩
  refine⟨_,rfl,_,rfl,cP ⟨rfl,q,t,us,ks,ts,ws,wn,kk,word,u,rfl,D,fun qw q' H1 s1 R1=>?_,fun a b qw l d t1 t2 H1 s1 hd0 hl r1 r2 hd=>⟨ec "Ring",bmD,rfl,xD,?_,fun x hx=>?_⟩⟩⟩
  ·rw[qw] at k
   exact k (.ref q') H1 s1 ⟨q',rfl,R1⟩
  ·simp
  ·rw[qw] at k
   have s2:=Same.new (o:=ja x (ec "Ring") (some d)) hx
   have hx2:upd H1 x (ja x (ec "Ring") (some d)) x=some (ja x (ec "Ring") (some d)):=cE
   have hl2:=s2 _ _ hl
   have hd2:=s2 _ _ hd
   have r12:=r1.same s2
   have r22:=r2.same s2
   have sA:=s1.trans s2
   generalize upd H1 x (ja x (ec "Ring") (some d))=H2 at hx2 hl2 hd2 r12 r22 sA ⊢
   refine⟨_,rfl,x,ec "Ring",some d,_,.ref (ec "OrderError"),true,rfl,hx2,fN,fun v hv=>hv,(Er.kit "Ring" (by decide) (by decide) "OrderError" (by decide)).trans (by decide),?_⟩
   refine⟨true,rfl,gI ?_⟩
   refine⟨_,rfl,x,ec "Ring",some d,_,.type "ValueError",true,rfl,hx2,fN,fun v hv=>hv,Er.val "Ring" (by decide),?_⟩
   refine⟨true,rfl,gI ?_⟩
   refine⟨_,rfl,x,ec "Ring",d,_,.ref l,rfl,hx2,hd2,rfl,fN,G,?_⟩
   refine⟨_,rfl,cP ⟨(by show 2<=sizeLine;decide),fun l3 hl3=>?_⟩⟩
   have s9:=Same.new (o:=.lst [V.str "ring",V.ref l]) hl3
   exact k (.ref l3) _ (sA.trans s9) ⟨l3,l,t1,t2,rfl,cE,s9 _ _ hl2,r12.same s9,r22.same s9⟩
def yy:Sp:=fun vs H Q _=>∃(q:Addr) (us:List Str) (ks:Kn) (ts ws wn:Prs) (kk:Str × List Str) (word u:Str),vs=[.ref q,.str word,.str u]/\GH H q us ks ts ws wn/\kk∈ks/\u∈kk.2/\∀b H',Same H H'->(b=true->(∀e∈wn,e.2≠u)/\wU kk.2 wn word=[])->Q (.bl b) H'
theorem scMay:FnScope ["_law_house_here","_law_word","_law_unit","_law_knot","_law_other","_law_name"] ["_law_house_here","_law_word","_law_unit"] (cI kO):=⟨rfl,rfl,rfl,by decide +kernel,rfl,by decide +kernel,by decide +kernel⟩
theorem zS {f:Addr}{fd:FuncData}(F:Fun K "_law_may_be" "_law_may_be" kO f fd) (B:Blt mg) (c_law_knot_of:Cal P w K mg base 1 "_law_knot_of" ["_law_house_here", "_law_unit"] nN):FnOk P w K mg base CX0 2 f fd ["_law_house_here", "_law_word", "_law_unit"] yy := by
 refine F.ok scMay (fun vs H Q E h=>?_) (fun cdv A outer s H vs Q E hr h=>?_)
 ·obtain⟨q,us,ks,ts,ws,wn,kk,word,u,rfl,_⟩:=h
  rfl
 ·obtain⟨q, us, ks, ts, ws, wn, kk, word, u, rfl, G, hkk, huk, k⟩ := h
  have nd:=scMay.nd
  have T:=G.tre
  have R:=G.rep
  refine⟨_,(cF (pst 3 nd (pc c_law_knot_of hr (p2 (pv 0) (pv 2))))
   (cF (dM PassesOwn.never rfl (dP K (px K hr (pv 0) cG)) (eW (n:=2) K rfl (cY (cN (i:=4) nd rfl (Or.inl rfl)) (cY (cN (i:=5) nd rfl (Or.inl rfl)) eP))) (cH (cX (PW.pt (lI (cK (di hr.units) (pv 5) (pv 2) (cQ _)) (kS (PW.pt (fu (cK (di hr.units) (pv 4) (pv 1) (cQ _)) (eV (cK (di hr.units) (pc c_law_knot_of hr (p2 (pv 0) (pv 5))) (pv 3) (cQ _)))))))) (cH (cL gQ)) cS)))
   (cH (cL gQ)))),?_⟩
  obtain⟨q',a,b,c3,d4,e0,hq,R1,R2,R3,R4⟩:=dI R
  cases e0
  obtain⟨_,rw4,e0,hd4,rpw⟩:=dZ R4
  cases e0
  have rwl:=rpw.len
  rw[ae] at rwl
  refine⟨_,rfl,_,rfl,cP ⟨q,us,ks,ts,ws,wn,kk,u,rfl,R,T,hkk,huk,fun H1 s1=>?_⟩⟩
  refine⟨_,rfl,.tup (.of (s1 _ _ hq)) rfl ⟨d4,rfl,⟨_,.of (s1 _ _ hd4)⟩,?_⟩⟩
  refine gk (xs:=rw4) (fun i σ H'=>∃(o4 o5:Option V),σ=[some (.ref q),some (.str word),some (.str u),some (.str kk.1),o4,o5]/\Same H H'/\∀e∈wn.take i,e.2≠u/\¬ (e.1=word/\e.2∈kk.2)) ?_ ?_ ?_ ?_
  ·exact⟨none,none,rfl,s1,fun e he=>by cases he⟩
  ·rintro i σ H' hi ⟨o4,o5,rfl,sm,_⟩
   exact .of (sm _ _ hd4)
  ·rintro i x σ H' hx ⟨o4, o5, rfl, sm, hn⟩
   obtain⟨e,ta,he,rfl,hta⟩:=fk rpw hx
   have hem:=au he
   have nx:(e.2≠u/\¬ (e.1=word/\e.2∈kk.2))->∀f∈wn.take (i+1),f.2≠u/\¬ (f.1=word/\f.2∈kk.2):=fun q f hf=>by
    rcases (fS he f).mp hf with z | rfl
    ·exact hn f z
    ·exact q
   refine⟨ta,_,rfl,.of (sm _ _ hta),rfl,_,_,rfl,_,_,rfl,rfl,?_⟩
   refine⟨_,rfl,_,rfl,.sc rfl ⟨_,rfl,cR (fun _=>?_) (fun h1=>?_)⟩⟩
   ·exact gI (k false H' sm fun z=>by cases z)
   have h1:=gy h1
   refine⟨_,rfl,_,rfl,.sc rfl ⟨_,rfl,cR (fun h2=>?_) (fun h2=>?_)⟩⟩
   ·obtain⟨ke,hke,fe⟩:=G.wx.at_ e hem
    refine⟨_,rfl,_,rfl,cP ⟨q,us,ks,ts,ws,wn,ke,e.2,rfl,R.same sm,T,hke,fe.mem,fun H2 s2=>?_⟩⟩
    refine⟨_,rfl,.sc rfl ⟨_,rfl,cR (fun _=>?_) (fun h3=>?_)⟩⟩
    ·exact k false H2 (sm.trans s2) fun z=>by cases z
    ·have h3:=gy h3
     exact⟨_,_,rfl,sm.trans s2,nx ⟨h1,fun z=>h3 (by rw[iA T.knd hke hkk fe.mem z.2])⟩⟩
   ·have h2:=gy h2
    exact fB ⟨_,_,rfl,sm,nx ⟨h1,fun z=>h2 z.1⟩⟩
  ·rintro σ H' ⟨o4,o5,rfl,sm,hn⟩
   rw[rwl,ap (ac _)] at hn
   refine k true H' sm fun _=>⟨fun e he=>(hn e he).1,?_⟩
   refine List.eq_nil_iff_forall_not_mem.mpr fun z hz=>?_
   obtain⟨h1,h2⟩:=aT.mp hz
   exact(hn _ (aM h2)).2 ⟨rfl,h1⟩
def pO (K:W.Frag):Sp:=fun vs H Q _=>∃(a:Addr) (ns:List Int),vs=[.ref a]/\SqL K H a (ns.map V.int)/\∀H',Q (.bl true) H'
theorem jk:∀ts:List (Str × Str),PyData.depthAll (ts.map cW)<=1
 | []=>by decide
 | e::es=>by
  show max (PyData.depth (cW e)) (PyData.depthAll (es.map cW))<=1
  have h1:PyData.depth (cW e)=1:=rfl
  have h2:=jk es
  omega
theorem qF:∀ss:List Str,PyData.depthAll (ss.map PyData.str)=0
 | []=>rfl
 | s::ss=>by
  show max (PyData.depth (.str s)) (PyData.depthAll (ss.map PyData.str))=0
  rw[qF ss];rfl
theorem pD:∀ks:Kn,PyData.depthAll (ks.map eM)<=2
 | []=>by decide
 | k::ks=>by
  show max (max 0 (max (PyData.depthAll (k.2.map PyData.str)+1) 0)+1) (PyData.depthAll (ks.map eM))<=2
  have:=pD ks
  rw[qF]
  omega
theorem oF:∀ks:Kn,(∀k∈ks,(k.1=""∨Nm k.1)/\∀u∈k.2,Nm u)->PyData.canLayAll0 (ks.map eM)=true
 | [],_=>rfl
 | k::ks,h=>by
  obtain⟨h1,h2⟩:=h k (bh ..)
  show ((PyData.canLay0 (.str k.1)&&(PyData.canLayAll0 (k.2.map PyData.str)&&true))&&PyData.canLayAll0 (ks.map eM))=true
  rw[oF ks fun x hx=>h x (aK _ hx),lY _ h2,uW h1];rfl
theorem vj {us:List Str}{ks:Kn}{ts ws wn:Prs}(T:Tre us ks) (h1:∀e∈ts,Nm e.1/\Nm e.2) (h2:∀e∈ws,Nm e.1/\Nm e.2) (h3:∀e∈wn,Nm e.1/\Nm e.2):shp (df ks ts ws wn):=by
 show ((PyData.canLayAll0 (ks.map eM)&&(PyData.canLayAll0 (ts.map cW)&&(PyData.canLayAll0 (ws.map cW)&&(PyData.canLayAll0 (wn.map cW)&&true))))&&decide (max (PyData.depthAll (ks.map eM)+1) (max (PyData.depthAll (ts.map cW)+1) (max (PyData.depthAll (ws.map cW)+1) (max (PyData.depthAll (wn.map cW)+1) 0)))+1<=64))=true
 have d0:=pD ks
 have d1:=jk ts
 have d2:=jk ws
 have d3:=jk wn
 rw[oF ks fun k hk=>⟨(T.sub k hk).imp id (T.nm _),fun u hu=>T.nm u (T.isIn hk hu)⟩,dC h1,dC h2,dC h3,ak (by omega)]
 rfl
theorem GH.shp {H:Hp}{q:Addr}{us:List Str}{ks:Kn}{ts ws wn:Prs}(h:GH H q us ks ts ws wn):shp (df ks ts ws wn) :=
 vj h.tre (fun e he=>⟨h.tre.nm _ (h.tok e he).1,h.tre.nm _ (h.tok e he).2.1⟩) (fun e he=>⟨h.tre.nm _ (h.pw e he).1,h.tre.nm _ (h.pw e he).2⟩) (fun e he=>⟨iR (WnX.ok h.tre h.wx e he).1,h.tre.nm _ (WnX.ok h.tre h.wx e he).2⟩)
def K3 (t:T3):Prop:=Nm t.1/\Nm t.2.1/\Nm t.2.2
def rgD (p:T3 × T3):PyData:=.list [.str "ring",.list [t3D p.1,t3D p.2]]
theorem zQ {p:T3 × T3}(h1:K3 p.1) (h2:K3 p.2):shp (rgD p):=by
 have l1:PyData.canLay0 (t3D p.1)=true:=by
  show (PyData.canLay0 (.str p.1.1)&&(PyData.canLay0 (.str p.1.2.1)&&(PyData.canLay0 (.str p.1.2.2)&&true)))=true
  rw[ei h1.1,ei h1.2.1,ei h1.2.2];rfl
 have l2:PyData.canLay0 (t3D p.2)=true:=by
  show (PyData.canLay0 (.str p.2.1)&&(PyData.canLay0 (.str p.2.2.1)&&(PyData.canLay0 (.str p.2.2.2)&&true)))=true
  rw[ei h2.1,ei h2.2.1,ei h2.2.2];rfl
 show ((PyData.canLay0 (.str "ring")&&((PyData.canLay0 (t3D p.1)&&(PyData.canLay0 (t3D p.2)&&true))&&true))&&decide (max 0 (max (max (max 0 (max 0 (max 0 0))+1) (max (max 0 (max 0 (max 0 0))+1) 0)+1) 0)+1<=64))=true
 rw[l1,l2,show PyData.canLay0 (.str "ring")=true by decide +kernel]
 rfl
theorem rN {us:List Str}{ks:Kn}{ts wn:Prs}(T:Tre us ks) (tok:gX us ks ts) {t:T3}(h1:Nm t.2.1) (h2:Nm t.2.2):K3 (eX ks ts wn t):=by
 unfold eX
 split
 ·rename_i e he
  have hm:=List.mem_of_find?_eq_some he
  exact⟨by show Nm "tie";exact isNm_iff.mp (by decide +kernel),T.nm _ (tok e hm).1,T.nm _ (tok e hm).2.1⟩
 ·refine⟨?_,h1,h2⟩
  show Nm (if _ then _ else _)
  split
  ·exact iX
  ·exact oh
theorem yP {us:List Str}{ks:Kn}{ts wn:Prs}(T:Tre us ks) (tok:gX us ks ts) {kk:Str × List Str}{word u:Str}(hkk:kk∈ks) (hu:u∈kk.2) {p:T3 × T3}(h:fJ ks ts wn kk word u=some p):K3 p.1/\K3 p.2:=by
 unfold fJ at h
 rw[Option.map_eq_some_iff] at h
 obtain⟨x,hx,rfl⟩:=h
 have nx:=T.nm _ (T.isIn hkk (List.mem_of_find?_eq_some hx))
 have nu:=T.nm _ (T.isIn hkk hu)
 split
 ·exact⟨⟨iX,nu,nx⟩,rN T tok nx nu⟩
 ·exact⟨⟨oh,nx,nu⟩,rN T tok nu nx⟩
theorem vW {H:Hp}{l l2 t1 t2:Addr}{a b:T3}(h1:H l=some (.lst [.str "ring",.ref l2])) (h2:H l2=some (.lst [.ref t1,.ref t2])) (h3:Rep H (.ref t1) (t3D a)) (h4:Rep H (.ref t2) (t3D b)):Rep H (.ref l) (rgD (a,b)) :=
 .lst h1 (.cons (.str _) (.cons (.lst h2 (.cons h3 (.cons h4 .nil))) .nil))
theorem y9 {us:List Str}{ks:Kn}(T:Tre us ks) {ts:Prs}(h:TsI us ks ts) {kk:Str × List Str}{row:List Str}(hkk:kk∈ks) (p:row.Perm kk.2):TsI us (ks.map (dL kk.1 row)) ts:=fun e he=>⟨(h e he).1,(h e he).2.1,by rw[pq T hkk p];exact(h e he).2.2⟩
theorem nK {D:Ends}{σ:St}{H:Hp}(h:D.nx σ H):yu D σ H:=h
theorem scLaw:FnScope ["_law_script","_law_pen_here","_law_house_here","_law_turn","_law_kids","_law_word","_law_unit","_law_due_here","_law_handed"] ["_law_script"] (cI nX):=⟨rfl,rfl,rfl,by decide +kernel,rfl,by decide +kernel,by decide +kernel⟩
theorem Ao {f:Addr}{fd:FuncData}(F:Fun K "law" "law" nX f fd) (B:Blt mg) (c_law_pen:Cal P w K mg base 1 "_law_pen" ["_law_script"] (vg K)) (c_law_draw:Cal P w K mg base 1 "_law_draw" ["_law_pen_here", "_law_many"] (m7 K)) (c_law_house:Cal P w K mg base 4 "_law_house" ["_law_pen_here", "_law_most"] (sS K)) (c_law_may_be:Cal P w K mg base 2 "_law_may_be" ["_law_house_here", "_law_word", "_law_unit"] yy) (c_law_due:Cal P w K mg base 4 "_law_due" ["_law_house_here", "_law_word", "_law_unit"] vm) (c_law_told:Cal P w K mg base 11 "_law_told" ["_law_house_here", "_law_deed"] ww):FnOk P w K mg base CX0 12 f fd ["_law_script"] (pO K) := by
 refine F.ok scLaw (fun vs H Q E h=>?_) (fun cdv A outer s H vs Q E hr h=>?_)
 ·obtain⟨a,ns,rfl,_⟩:=h
  rfl
 ·obtain⟨sc, ns, rfl, hS, k⟩ := h
  have nd:=scLaw.nd
  have sz:200000<sizeLine:=by decide
  refine⟨_,(cF (pst 1 nd (pc c_law_pen hr (p1 (pv 0))))
   (cF (pst 2 nd (pc c_law_house hr (p2 (pv 1) cG)))
   (cF (dM PassesOwn.never rfl (gZ rfl B.range (p1 (cZ dz cG (pc c_law_draw hr (p2 (pv 1) cG))))) (cN (i:=3) nd rfl (Or.inl rfl)) (cF (pst 4 nd (px K hr (px K hr (px K hr (pv 2) cG) (pc c_law_draw hr (p2 (pv 1) (dO K B (p1 (px K hr (pv 2) cG)))))) cG))
   (cF (pst 5 nd (px K hr (dw (p2 cM cM)) (pc c_law_draw hr (p2 (pv 1) cG))))
   (cH (cX (cK (oT K hr.units) (pv 4) (cV fV) (cQ _)) (cF (pst 6 nd (px K hr (pv 4) (pc c_law_draw hr (p2 (pv 1) (dO K B (p1 (pv 4)))))))
   (cF (cX (cK (di hr.units) (pc c_law_draw hr (p2 (pv 1) cG)) cG (cQ _)) (cH (pst 6 nd (px K hr (dw (p2 (px K hr (pv 4) cG) (px K hr (pv 4) (nH kN cG)))) (t6 B (p1 (hG (di hr.units) (pv 5) cM (cQ _))))))) cS)
   (cH (cX (fU (pc c_law_may_be hr (cT (pv 2) (p2 (pv 5) (pv 6))))) (cF (pst 7 nd (pc c_law_due hr (cT (pv 2) (p2 (pv 5) (pv 6)))))
   (cF (pst 8 nd (cV (cT (px K hr (pv 2) cG) (cT (px K hr (pv 2) cG) (p2 (px K hr (pv 2) cG) (px K hr (pv 2) cG))))))
   (cF (cX (PW.pt (lI (cK (fP hr.units) (pc c_law_told hr (p2 (pv 8) (cV (cT cM (p2 (pv 5) (pv 6)))))) (pv 7) (cQ _)) (kS (cK (fP hr.units) (pv 8) (pv 2) (cQ _))))) (cH (cL gQ)) cS)
   (cH (cX (fU (lG K "tuple" B (p2 (pv 7) (js B)))) (cH (pst 2 nd (pv 7))) cS))))) cS)))) cS)))))
   (cH (cL gQ))))),?_⟩
  refine⟨_,rfl,sc,ns,rfl,hS,fun p H1 hP=>?_⟩
  refine⟨_,rfl,p,sc,rfl,hP,fun q us ks ts ws wn H2 R T _ ul ti pw wl wnd tl wsl wnl v2 b2=>?_⟩
  have J2:GH H2 q us ks ts ws wn:=⟨R,T,ti.ok,AZ wl wnd,pw,by omega,by omega⟩
  refine⟨_,rfl,p,sc,5,rfl,hP.but b2 v2,by decide,by decide,fun r3 H3 r30 r31 v3 b3=>.int ?_⟩
  obtain⟨j3,rfl⟩:=bi r30
  obtain⟨ys2,hp2⟩:=v2.at_dK
  have J3:=J2.but hp2 b3
  have b3:=b2.trans b3
  refine⟨_,rfl,by omega,by omega,?_⟩
  rw[show (1+((j3:Nat):Int)).toNat=1+j3 by omega]
  refine jg (fun i σ H'=>∃q ks wn o3 o4 o5 o6 o7 o8,σ=[some (.ref sc),some (.ref p),some (.ref q),o3,o4,o5,o6,o7,o8]/\GH H' q us ks ts ws wn/\TsI us ks ts/\wn.length<=122+i/\DPV H' p sc/\But p H1 H') ⟨q,ks,wn,none,none,none,none,none,none,rfl,J3,ti,wnl,v3,b3⟩ ?_ ?_
  ·clear J3 J2 R T wl wnd pw ti
   rintro i σ H4 hi ⟨q,ks,wn,o3,o4,o5,o6,o7,o8,rfl,J4,ti,wnl,v4,b4⟩
   have hi:i<5:=by omega
   have T:=J4.tre
   obtain⟨_,a,b,c,d,e0,hq4,R41,_⟩:=dI J4.rep
   cases e0
   obtain⟨_,refs,e0,ha4,rp4⟩:=fQ R41
   cases e0
   have rlen:=rp4.len
   rw[ae] at rlen
   have kfew:=T.few
   have kpos:0<ks.length:=by
    have:=T.top
    cases ks with
    | nil=>cases this
    | cons _ _=>exact Nat.succ_pos _
   refine⟨_,rfl,.tup (.of hq4) rfl ⟨_,rfl,_,rfl,.tup (.of hq4) rfl (cP ⟨_,_,rfl,Or.inr ⟨_,.of ha4,rfl⟩,cP ⟨p,sc,_,rfl,hP.but b4 v4,by omega,by omega,fun r5 H5 r50 r51 v5 b5=>?_⟩⟩)⟩⟩
   obtain⟨ys4,hp4⟩:=v4.at_dK
   have J5:=J4.but hp4 b5
   have ha5:=fh hp4 b5 ha4
   have rp5:=gm (iY hp4 b5) rp4
   have b5:=b4.trans b5
   obtain⟨x,ax,hx⟩:=ue (xs:=refs) r50 (by simpa using r51)
   obtain⟨j5,hj5⟩:=bR hx
   obtain⟨kk,ta,la,hk,rfl,hta,hla⟩:=gT rp5 hj5
   have hkm:=au hk
   have klen:=lV T hkm
   refine .tup (.of ha5) ax (.tup (.of hta) at1 ?_)
   refine⟨(by show 2<=sizeLine;decide),fun lw hlw=>?_⟩
   have s6:=Same.new (o:=.lst [V.str "first",V.str "last"]) hlw
   have e6:upd H5 lw (.lst [V.str "first",V.str "last"]) lw=some (.lst (List.map V.str ["first","last"])):=cE
   have nlw:lw≠p:=Ne.symm (v5.ne hlw)
   have v6:=v5.same s6
   have b6:=b5.trans (But.of_same (p:=p) s6)
   have J6:=J5.same s6
   have hla6:=s6 _ _ hla
   generalize upd H5 lw (.lst [V.str "first",V.str "last"])=H6 at s6 e6 v6 b6 J6 hla6 ⊢
   refine⟨_,rfl,p,sc,2,rfl,hP.but b6 v6,by decide,by decide,fun r7 H7 r70 r71 v7 b7=>?_⟩
   obtain⟨ys6,hp6⟩:=v6.at_dK
   have J7:=J6.but hp6 b7
   have hla7:=fh hp6 b7 hla6
   have e7:=b7 _ _ nlw e6
   have b7:=b6.trans b7
   obtain⟨xw,axw,mxw⟩:=uF (xs:=List.map V.str ["first","last"]) (m:=2) rfl r70 r71
   obtain⟨word,hword,rfl⟩:=ao.mp mxw
   have hw:word="first"∨word="last":=by simpa using hword
   refine .lst (.of e7) axw ?_
   refine⟨_,rfl,(by show 0<=sizeLine;decide),fun t0 h0=>?_⟩
   have s8:=Same.new (o:=.tup []) h0
   have e8:upd H7 t0 (.tup []) t0=some (.tup []):=cE
   have v8:=v7.same s8
   have b8:=b7.trans (But.of_same (p:=p) s8)
   have J8:=J7.same s8
   have hla8:=s8 _ _ hla7
   generalize upd H7 t0 (.tup [])=H8 at s8 e8 v8 b8 J8 hla8 ⊢
   refine⟨la,t0,_,rfl,rfl,.of hla8,e8,_,rfl,?_⟩
   cases ek:kk.2 with
   | nil=>exact fB (nK ⟨q,ks,wn,_,_,_,_,_,_,rfl,J8,ti,by omega,v8,b8⟩)
   | cons z0 zr =>
    refine gI ?_
    have kl:0<kk.2.length:=by rw[ek];exact Nat.succ_pos _
    refine⟨_,rfl,_,rfl,_,rfl,cP ⟨_,_,rfl,Or.inr ⟨_,.of hla8,rfl⟩,cP ⟨p,sc,_,rfl,hP.but b8 v8,by rw[ae];omega,by rw[ae];omega,fun r9 H9 r90 r91 v9 b9=>?_⟩⟩⟩
    obtain⟨ys8,hp8⟩:=v8.at_dK
    have J9:=J8.but hp8 b9
    have hla9:=fh hp8 b9 hla8
    have b9:=b8.trans b9
    obtain⟨xu,axu,mxu⟩:=ue (xs:=List.map V.str kk.2) r90 r91
    obtain⟨u0,hu0,rfl⟩:=ao.mp mxu
    refine .tup (.of hla9) axu ?_
    refine ii ?_
    dsimp only
    refine jQ (fun σ' H'=>∃u,u∈kk.2/\σ'=[some (.ref sc),some (.ref p),some (.ref q),some (.int (0+(i:Int))),some (.ref la),some (.str word),some (.str u),o7,o8]/\GH H' q us ks ts ws wn/\DPV H' p sc/\But p H1 H') ?_ ?_
    ·rintro σ' HA ⟨u, hu, rfl, JA, vA, bA⟩
     refine⟨_,rfl,_,rfl,_,rfl,cP ⟨q,us,ks,ts,ws,wn,kk,word,u,rfl,JA,hkm,hu,fun bb HB sB hbb=>⟨_,rfl,?_⟩⟩⟩
     have JB:=JA.same sB
     have vB:=vA.same sB
     have bB:=bA.trans (But.of_same (p:=p) sB)
     cases bb with
     | false=>exact fB (nK ⟨q,ks,wn,_,_,_,_,_,_,rfl,JB,ti,by omega,vB,bB⟩)
     | true =>
      obtain⟨fr1,fr2⟩:=hbb rfl
      refine gI ?_
      refine⟨_,rfl,_,rfl,_,rfl,cP ⟨q,us,ks,ts,ws,wn,kk,word,u,rfl,JB,ti,hkm,hu,hw,fun y HC sC dv=>?_⟩⟩
      have JC:=JB.same sC
      have vC:=vB.same sC
      have bC:=bB.trans (But.of_same (p:=p) sC)
      obtain⟨_,a2,b2',c2,d2,e0,hqC,Q1,Q2,Q3,Q4⟩:=dI JC.rep
      cases e0
      refine⟨_,rfl,.tup (.of hqC) rfl ⟨_,rfl,.tup (.of hqC) rfl ⟨_,rfl,.tup (.of hqC) rfl ⟨_,rfl,.tup (.of hqC) rfl (cP ⟨(by show 4<=sizeLine;decide),fun tD hD=>?_⟩)⟩⟩⟩⟩
      have sD:=Same.new (o:=.tup [V.ref a2,V.ref b2',V.ref c2,V.ref d2]) hD
      have eD:upd HC tD (.tup [V.ref a2,V.ref b2',V.ref c2,V.ref d2]) tD=some (.tup [V.ref a2,V.ref b2',V.ref c2,V.ref d2]):=cE
      have JD:=JC.same sD
      have vD:=vC.same sD
      have bD:=bC.trans (But.of_same (p:=p) sD)
      have dvD:=dv.same sD
      have RhD:Rep (upd HC tD (.tup [V.ref a2,V.ref b2',V.ref c2,V.ref d2])) (.ref tD) (df ks ts ws wn):=fO eD (Q1.same sD) (Q2.same sD) (Q3.same sD) (Q4.same sD)
      generalize upd HC tD (.tup [V.ref a2,V.ref b2',V.ref c2,V.ref d2])=HD at sD eD JD vD bD dvD RhD ⊢
      refine⟨_,rfl,_,rfl,_,rfl,cP ⟨(by show 3<=sizeLine;decide),fun tE hE=>?_⟩⟩
      have sE:=Same.new (o:=.tup [V.str "want",V.str word,V.str u]) hE
      have eE:upd HD tE (.tup [V.str "want",V.str word,V.str u]) tE=some (.tup [V.str "want",V.str word,V.str u]):=cE
      have JE:=JD.same sE
      have vE:=vD.same sE
      have bE:=bD.trans (But.of_same (p:=p) sE)
      have dvE:=dvD.same sE
      have RhE:=RhD.same sE
      generalize upd HD tE (.tup [V.str "want",V.str word,V.str u])=HE at sE eE JE vE bE dvE RhE ⊢
      refine cP ⟨tD,tE,us,ks,ts,ws,wn,kk,word,u,rfl,⟨eE,RhE,T,JE.tok,JE.wx,JE.tl,JE.wl,hkm,hu,hw,fr1,fr2⟩,fun y2 HF sF dv2=>?_⟩
      have JF:=JE.same sF
      have vF:=vE.same sF
      have bF:=bE.trans (But.of_same (p:=p) sF)
      have dvF:=dvE.same sF
      have RhF:=RhE.same sF
      have shF:=JF.shp
      have pm:=uo (word:=word) (lc T hkm) hu
      cases qw:fJ ks ts wn kk word u with
      | none =>
       rw[qw] at dvF dv2
       obtain⟨q1,rfl,r1⟩:=dvF
       obtain⟨q2,rfl,r2⟩:=dv2
       have JN:GH HF q1 us (jj ks kk word u) ts ws (wn++[(word,u)]):=⟨r1,yZ T hkm pm,wW T JF.tok hkm pm,xF T JF.wx hkm hu hw fr1 fr2,JF.pw,JF.tl,by rw[aJ];show _+1<=_;omega⟩
       have shN:=JN.shp
       refine⟨_,rfl,.tr r2 r1 shN shN ⟨_,rfl,?_⟩⟩
       rw[lT shN]
       refine fB ?_
       refine⟨_,rfl,_,rfl,.tr RhF JF.rep shF shF ⟨_,rfl,?_⟩⟩
       rw[lT shF]
       refine fB ?_
       obtain⟨_,a3,b3',c3,d3,e0,hq1,_⟩:=dI r1
       cases e0
       refine nK ?_
       refine⟨_,rfl,_,_,true,rfl,.tup hq1,rfl,_,rfl,?_⟩
       refine gI ?_
       exact⟨_,rfl,q1,_,_,_,_,_,_,_,_,rfl,JN,y9 T ti hkm pm,by rw[aJ];show _+1<=_;omega,vF,bF⟩
      | some pr =>
       rw[qw] at dvF dv2
       obtain⟨a3,b3'⟩:=pr
       obtain⟨l,l2,t1,t2,rfl,g1,g2,g3,g4⟩:=dvF
       obtain⟨m,m2,w1,w2,rfl,h1,h2,h3,h4⟩:=dv2
       obtain⟨k1,k2⟩:=yP T JF.tok hkm hu qw
       have shR:=zQ (p:=(a3,b3')) k1 k2
       refine⟨_,rfl,.tr (vW h1 h2 h3 h4) (vW g1 g2 g3 g4) shR shR ⟨_,rfl,?_⟩⟩
       rw[lT shR]
       refine fB ?_
       refine⟨_,rfl,_,rfl,.tr RhF JF.rep shF shF ⟨_,rfl,?_⟩⟩
       rw[lT shF]
       refine fB ?_
       refine nK ?_
       refine⟨_,rfl,_,_,false,rfl,.lst g1,rfl,_,rfl,?_⟩
       exact fB (nK ⟨q,ks,wn,_,_,_,_,_,_,rfl,JF,ti,by omega,vF,bF⟩)
    ·intro N hN
     refine⟨_,rfl,p,sc,3,rfl,hP.but b9 v9,by decide,by decide,fun rA HA _ _ vA bA=>.sc rfl ⟨_,rfl,?_⟩⟩
     obtain⟨ys9,hp9⟩:=v9.at_dK
     have JA:=J9.but hp9 bA
     have hlaA:=fh hp9 bA hla9
     have bA:=b9.trans bA
     refine cR (fun _=>?_) (fun _=>hN _ _ ⟨u0,hu0,rfl,JA,vA,bA⟩)
     obtain⟨zl,hzl⟩:∃z,kk.2.getLast? = some z:=by
      cases q:kk.2.getLast? with
      | none=>rw[List.getLast?_eq_none_iff] at q;rw[q] at kl;exact absurd kl (by decide)
      | some z=>exact⟨z,rfl⟩
     have az:atI (kk.2.map V.str) (-1)=some (.str zl):=by
      obtain⟨ys,e⟩:=List.getLast?_eq_some_iff.mp hzl
      rw[e,aj]
      exact mJ _ _
     have az0:atI (kk.2.map V.str) 0=some (.str z0):=by rw[ek];exact at0
     refine⟨_,rfl,.tup (.of hlaA) az0 ⟨_,rfl,_,rfl,.tup (.of hlaA) az (cP ⟨(by show 2<=sizeLine;decide),fun lB hB=>?_⟩)⟩⟩
     have sB:=Same.new (o:=.lst [V.str z0,V.str zl]) hB
     have eB:upd HA lB (.lst [V.str z0,V.str zl]) lB=some (.lst [V.str z0,V.str zl]):=cE
     have JB:=JA.same sB
     have vB:=vA.same sB
     have bB:=bA.trans (But.of_same (p:=p) sB)
     generalize upd HA lB (.lst [V.str z0,V.str zl])=HB at sB eB JB vB bB ⊢
     refine⟨_,rfl,.sc rfl ⟨_,rfl,.bl ?_⟩⟩
     have pick:∀bb:Bool,∃z,z∈kk.2/\atI [V.str z0,V.str zl] (if bb=true then 1 else 0)=some (.str z):=fun bb=>by
      cases bb with
      | true=>exact⟨zl,cA hzl,at1⟩
      | false=>exact⟨z0,by rw[ek];exact bh ..,at0⟩
     obtain⟨z,hz,hzz⟩:=pick (if false=true then !decide (V.str word=V.str "last") else decide (V.str word=V.str "last"))
     exact .lst (.of eB) hzz (hN _ _ ⟨z,hz,rfl,JB,vB,bB⟩)
  ·rintro σ H4 _
   exact k H4
theorem gN {K:W.Frag}{a:Addr}{od:Option Addr}{us:List Value}{n:Nat}{sl:Array (Option Value)}{xs:List V}(l:K.lookup a=some ⟨.type "tuple",od,.seq us.toArray n,sl⟩) (hz:us.length<=1000) (r:Vals xs us):∀H,SqT K H a xs:=fun H =>
 .inr ⟨_,us.toArray,n,l,rfl,rfl,by rw[aE];exact aG hz (by decide),by rw[List.toList_toArray];exact r⟩
structure Ent where
 x:Str
 t:Tok
 a:Addr
def Ent.e (P:Params) (e:Ent):DictEntry:=⟨PyData.keyHash P e.x,.str e.x e.t,.ref e.a⟩
def Ent.kv (e:Ent):Key × Value:=(.inr e.x,.ref e.a)
theorem vt {P:Program}{w:World}{K:W.Frag}{D0:Addr}{ep:Nat}(l:List Ent) (h:K.lookup D0=some ⟨.type "dict",none,.dict (l.map (Ent.e w.params)).toArray ep,#[]⟩) (hs:(D0==sysModules)=false) (nd:(l.map (·.x)).Nodup):KD P w K D0 (l.map Ent.kv):=by
 refine⟨hs,_,_,ep,h,⟨rfl,rfl,rfl⟩,rfl,fun e he=>?_,?_,?_⟩
 ·have he:e∈l.map (Ent.e w.params):=by simpa using he
  obtain⟨q,_,rfl⟩:=ao.mp he
  exact⟨.inr q.x,jn _ _ _ _,rfl⟩
 ·rw[List.toList_toArray]
  clear h nd
  induction l with
  | nil=>exact .nil
  | cons q r ih=>exact .cons (jn _ _ _ _) rfl ih
 ·rw[bS]
  have e:l.map ((·.1) ∘ Ent.kv)=(l.map (·.x)).map (Sum.inr:Str->Key):=by rw[bS];rfl
  rw[e]
  exact List.Pairwise.map _ (fun a b n q=>n (Sum.inr.inj q)) nd
theorem nY {w:Str}:∀ {l:List Ent}{q:List (Str × List Str)}, l.map (·.x)=q.map (·.1) ->
    (q.lookup w=none->valueAt (l.map Ent.kv) (.inr w)=none)/\∀ss,q.lookup w=some ss->∃i:Nat,∃e:Ent,l[i]? = some e/\q[i]? = some (w,ss)/\valueAt (l.map Ent.kv) (.inr w)=some (.ref e.a)
 | [],[],_=>⟨fun _=>rfl,fun ss h=>by cases h⟩
 | e :: l, (x, s) :: q, h => by
  have h0:e.x=x:=(List.cons.inj h).1
  have ih:=nY (w:=w) (l:=l) (q:=q) (List.cons.inj h).2
  by_cases c:x=w
  ·subst c
   refine⟨fun z=>?_,fun ss z=>⟨0,e,rfl,?_,?_⟩⟩
   ·rw[aY,beq_self_eq_true] at z;cases z
   ·rw[aY,beq_self_eq_true] at z;cases z;rfl
   ·unfold valueAt Ent.kv
    rw[aQ,bc]
    simp[h0]
  ·have c2:(w==x)=false:=by rw[beq_eq_false_iff_ne];exact fun z=>c z.symm
   have v:valueAt ((e::l).map Ent.kv) (.inr w)=valueAt (l.map Ent.kv) (.inr w):=by
    unfold valueAt
    rw[aQ,bc]
    have:decide ((Ent.kv e).1=(Sum.inr w:Key))=false:=aw fun z=>c (h0 ▸ Sum.inr.inj z)
    simp only[this]
   refine⟨fun z=>?_,fun ss z=>?_⟩
   ·rw[aY,c2] at z
    rw[v];exact ih.1 z
   ·rw[aY,c2] at z
    obtain⟨i,e',h1,h2,h3⟩:=ih.2 ss z
    exact⟨i+1,e',h1,h2,by rw[v];exact h3⟩
 | [],_::_,h=>by cases h
 | _::_,[],h=>by cases h
theorem nF {α β:Type}{F:α->β->Prop}:∀ {xs:List α}{ys:List β}{i:Nat}{a:α}{b:β},Paired F xs ys->xs[i]? = some a->ys[i]? = some b->F a b
 | _,_,_,_,_,.nil,e,_=>by simp at e
 | _,_,0,_,_,.cons r _,e,g=>by simp at e g;subst e;subst g;exact r
 | _,_,i+1,_,_,.cons _ t,e,g=>nF (i:=i) t (by simpa using e) (by simpa using g)
theorem Bh {P:Program}{w:World}{K:W.Frag}{D0:Addr}{ep:Nat}(l:List Ent) (h:K.lookup D0=some ⟨.type "dict",none,.dict (l.map (Ent.e w.params)).toArray ep,#[]⟩) (hs:(D0==sysModules)=false) (hk:l.map (·.x)=partsA.map (·.1))
    (sq:Paired (fun (e:Ent) (q:Str × List Str)=>∀H,SqT K H e.a (List.map V.str q.2)) l partsA):PK P w K D0 (l.map Ent.kv):=by
 refine⟨vt l h hs (by rw[hk];decide +kernel),fun w ss z=>?_,fun w z=>(nY hk).1 z⟩
 obtain⟨i,e,h1,h2,h3⟩:=(nY hk).2 ss z
 exact⟨e.a,h3,nF sq h1 h2⟩
theorem Am:(["thing","tie","wait","untie","drop","group","open","want","unwant"]:List Str).Nodup:=by decide +kernel
theorem vK {x:Str}{t:Tok}{a:Addr}{l:List Ent}:valueAt (((⟨x,t,a⟩:Ent)::l).map Ent.kv) (.inr x)=some (.ref a):=by simp[valueAt,Ent.kv]
theorem gU {x w:Str}{t:Tok}{a:Addr}{l:List Ent}{v:Value}(h:x≠w) (r:valueAt (l.map Ent.kv) (.inr w)=some v):valueAt (((⟨x,t,a⟩:Ent)::l).map Ent.kv) (.inr w)=some v:=by
 have e:decide ((Ent.kv ⟨x,t,a⟩).1=(Sum.inr w:Key))=false:=aw fun z=>h (Sum.inr.inj z)
 unfold valueAt at r ⊢
 rw[aQ,bc]
 simp only[e]
 exact r
theorem ar1 {us:List Value}(h:us.length=1):∃a,us=[a]:=List.length_eq_one_iff.mp h
theorem ar2 {us:List Value}(h:us.length=2):∃a1 a2,us=[a1,a2]:=by
 obtain⟨a1,t,rfl⟩:=cC h
 obtain⟨a2,rfl⟩:=ar1 (Nat.succ.inj h)
 exact⟨a1,a2,rfl⟩
theorem ar3 {us:List Value}(h:us.length=3):∃a1 a2 a3,us=[a1,a2,a3]:=by
 obtain⟨a1,t,rfl⟩:=cC h
 obtain⟨a2,a3,rfl⟩:=ar2 (Nat.succ.inj h)
 exact⟨a1,a2,a3,rfl⟩
theorem ar4 {us:List Value}(h:us.length=4):∃a1 a2 a3 a4,us=[a1,a2,a3,a4]:=by
 obtain⟨a1,t,rfl⟩:=cC h
 obtain⟨a2,a3,a4,rfl⟩:=ar3 (Nat.succ.inj h)
 exact⟨a1,a2,a3,a4,rfl⟩
structure FH (K:W.Frag) (mg:Str->Option Value) (n:Str) (st:Stmt) (f:Addr) (fd:FuncData):Prop where
 F:Fun K n n st f fd
 g:mg n=some (.ref f)
theorem fh_mk {K:W.Frag}{h:Heap}{mg:Str->Option Value}{n:Str}{st:Stmt}{f:Addr}{od an:Option Addr}{sl:Array (Option Value)}{oc kV dc pm cd ct:Value}(X:K.In h) (G:h.Ns mainGlobals mg) (a:W.nsIn K mainGlobals n=some (some (.ref f)))
    (l:K.lookup f=some ⟨oc,od,.func (W.fnOf n n (fW st) (fv st) (cI st) .none kV dc pm an cd ct),sl⟩) (c:W.codeIn K cd n=true) (k:W.keepIn K (.ref f)=true) :
    FH K mg n st f (W.fnOf n n (fW st) (fv st) (cI st) .none kV dc pm an cd ct):=⟨vT l c k,W.mg_of X G a⟩
section
variable {K:W.Frag}{mg:Str->Option Value}{n:Str}{st:Stmt}{f:Addr}{fd:FuncData}{r:Nat}{sp:Sp}
theorem FH.bn {ps:List Str}(h:FH K mg n st f fd) (b:∀(kV doc pm:Value) (an:Option Addr) (cdv ct:Value) (us:List Value),us.length=ps.length->bindArgs (W.fnOf n n (fW st) (fv st) (cI st) .none kV doc pm an cdv ct) ⟨us,[]⟩=pure (ps.zip us):=by intro _ _ _ _ _ _ us hl;first | (obtain⟨_,rfl⟩:=ar1 hl;rfl) | (obtain⟨_,_,rfl⟩:=ar2 hl;rfl) | (obtain⟨_,_,_,rfl⟩:=ar3 hl;rfl) | (obtain⟨_,_,_,_,rfl⟩:=ar4 hl;rfl)):Binds K fd ps []:=h.F.binds b
theorem FH.cl (h:FH K mg n st f fd) (l:W.OpenLaw) (w:World) (base:Heap) {ps:List Str}(o:FnOk l.prog w K mg base CX0 r f fd ps sp) (b:∀(kV doc pm:Value) (an:Option Addr) (cdv ct:Value) (us:List Value),us.length=ps.length->bindArgs (W.fnOf n n (fW st) (fv st) (cI st) .none kV doc pm an cdv ct) ⟨us,[]⟩=pure (ps.zip us):=by intro _ _ _ _ _ _ us hl;first | (obtain⟨_,rfl⟩:=ar1 hl;rfl) | (obtain⟨_,_,rfl⟩:=ar2 hl;rfl) | (obtain⟨_,_,_,rfl⟩:=ar3 hl;rfl) | (obtain⟨_,_,_,_,rfl⟩:=ar4 hl;rfl)):Cal l.prog w K mg base r n ps sp:=⟨_,_,o,h.g,h.F.kp,h.F.binds b⟩
theorem FH.cx (h:FH K mg n st f fd) (l:W.OpenLaw) (w:World) (base:Heap) {ps:List Str}(o:FnOk l.prog w K mg base (CX1 l.prog w) r f fd ps sp) (b:∀(kV doc pm:Value) (an:Option Addr) (cdv ct:Value) (us:List Value),us.length=ps.length->bindArgs (W.fnOf n n (fW st) (fv st) (cI st) .none kV doc pm an cdv ct) ⟨us,[]⟩=pure (ps.zip us):=by intro _ _ _ _ _ _ us hl;first | (obtain⟨_,rfl⟩:=ar1 hl;rfl) | (obtain⟨_,_,rfl⟩:=ar2 hl;rfl) | (obtain⟨_,_,_,rfl⟩:=ar3 hl;rfl) | (obtain⟨_,_,_,_,rfl⟩:=ar4 hl;rfl)):CalX l.prog w K mg base r n ps sp:=⟨_,_,o,h.g,h.F.kp,h.F.binds b⟩
end
theorem all_mk {l:W.OpenLaw}{w:World}{K:W.Frag}{h:Heap}{mg:Str->Option Value}{fa f1 f2 f3 f4 f5 f6 f7 f8 f9 f10 f11 f12 f13 f14 f15 f16 f17 f18 f19 f20 f21 f22 f23 f24 f25 f26 f27 f28 f29 f30 f31 f32 f33 f34 f35 f36 f37 f38 f39 f40 f41 f42 f43 f44 f45 f46 f47 f48 f49 f50 f51 f52:Addr}{d1 d2 d3 d4 d5 d6 d7 d8 d9 d10 d11 d12 d13 d14 d15 d16 d17 d18 d19 d20 d21 d22 d23 d24 d25 d26 d27 d28 d29 d30 d31 d32 d33 d34 d35 d36 d37 d38 d39 d40 d41 d42 d43 d44 d45 d46 d47 d48 d49 d50 d51 d52:FuncData}(X:K.In h) (G:h.Ns mainGlobals mg) (hfa:mg "law"=some (.ref fa))
    (h1:FH K mg "is_name" lU f1 d1)
    (h2:FH K mg "nexts" kY f2 d2)
    (h3:FH K mg "priors" jy f3 d3)
    (h4:FH K mg "places_of" iT f4 d4)
    (h5:FH K mg "are_unlike_names" qY f5 d5)
    (h6:FH K mg "are_unlike" ow f6 d6)
    (h7:FH K mg "knot_of" n8 f7 d7)
    (h8:FH K mg "children" kR f8 d8)
    (h9:FH K mg "homes" p5 f9 d9)
    (h10:FH K mg "parting_by" j6 f10 d10)
    (h11:FH K mg "line_down" kX f11 d11)
    (h12:FH K mg "view" tT f12 d12)
    (h13:FH K mg "kept_partings" gP f13 d13)
    (h14:FH K mg "view_by" iV f14 d14)
    (h15:FH K mg "wanted" lS f15 d15)
    (h16:FH K mg "ring_of_want" jo f16 d16)
    (h17:FH K mg "steps_along" iu f17 d17)
    (h18:FH K mg "step_of" nU f18 d18)
    (h19:FH K mg "with_row" kj f19 d19)
    (h20:FH K mg "with_want" kW f20 d20)
    (h21:FH K mg "is_single" jf f21 d21)
    (h22:FH K mg "is_many" oz f22 d22)
    (h23:FH K mg "has_word" mC f23 d23)
    (h24:FH K mg "is_part" nV f24 d24)
    (h25:FH K mg "refuse" oa f25 d25)
    (h26:FH K mg "refuse_want" iq f26 d26)
    (h27:FH K mg "need_units" jV f27 d27)
    (h28:FH K mg "led_to" qK f28 d28)
    (h29:FH K mg "led_by_want" ku f29 d29)
    (h30:FH K mg "paper_of" md f30 d30)
    (h31:FH K mg "row_of_want" iI f31 d31)
    (h32:FH K mg "is_deed" om f32 d32)
    (h33:FH K mg "behind" oo f33 d33)
    (h34:FH K mg "is_deed_within" gj f34 d34)
    (h35:FH K mg "singles" ml f35 d35)
    (h36:FH K mg "behind_single" iE f36 d36)
    (h37:FH K mg "_law_pen" xT f37 d37)
    (h38:FH K mg "_law_draw" tL f38 d38)
    (h39:FH K mg "_law_names" kM f39 d39)
    (h40:FH K mg "_law_knots" jh f40 d40)
    (h41:FH K mg "_law_line" jT f41 d41)
    (h42:FH K mg "_law_part" mh f42 d42)
    (h43:FH K mg "_law_edges" kC f43 d43)
    (h44:FH K mg "_law_reached" mF f44 d44)
    (h45:FH K mg "_law_house" kQ f45 d45)
    (h46:FH K mg "_law_step" mm f46 d46)
    (h47:FH K mg "_law_with" jW f47 d47)
    (h48:FH K mg "_law_knot_of" iH f48 d48)
    (h49:FH K mg "_law_due" uk f49 d49)
    (h50:FH K mg "_law_told" mH f50 d50)
    (h51:FH K mg "_law_may_be" kO f51 d51)
    (h52:FH K mg "law" nX f52 d52)
    (B:Blt mg) (Zzip:mg "zip"=none)
    {tk1:Tok} (y1:W.nsIn K mainGlobals "MOST_SIGNS"=some (some (.int 8 tk1)))
    {tk2:Tok} (y2:W.nsIn K mainGlobals "MOST_MANY"=some (some (.int 2 tk2)))
    {x1 x2:Addr} (r1:W.nsIn K mainGlobals "OrderError"=some (some (.ref x1))) (r2:W.nsIn K mainGlobals "Ring"=some (some (.ref x2)))
    (en:W.specialIn K (.builtin "object.__class__") "__get__"=some (some (.builtin "getset_descriptor.__get__"))) (et:W.takesIn K (.builtin "object.__class__")=some true) (ev:W.nsIn K mainGlobals "ValueError"=some none)
    {N1:Addr} {bs1 bm1 su1:List Value} {nm1 q1:Str} {hd1 ab1:Bool} {sn1:List Str} {co1:Option Bool} {dd1:Option Addr} {ka1 kb1 kc1 kd1 ke1:Option Value}
    (o1:K.lookup x1=some (excClassObj nm1 q1 x1 N1 bs1 bm1 hd1 sn1 su1 ab1 co1 dd1 ka1 kb1 kc1 kd1 ke1 "ValueError.__new__"))
    (u1:W.nsOkIn K N1=true) (ni1:W.nsIn K N1 "__init__"=some none) (tl1:W.tailIn K [.type "ValueError",.type "Exception",.type "BaseException",.type "object"] bm1=true)
    (ga1:W.findIn K (.ref x1) "__getattribute__"=some (some (.builtin "BaseException.__getattribute__"))) (gb1:W.findIn K (.ref x1) "__getattr__"=some none) (ha1:W.findIn K (.ref x1) "__class__"=some (some (.builtin "object.__class__")))
    (hm1:W.mroIn K x1 (.type "object")=some true) (hb1:W.mroIn K x1 (.type "BaseException")=some true) (cl1:(W.clsIn K x1).isSome=true)
    (p1:bm1.contains (.type "BaseException")=true) (q_1:(Value.ref x1::bm1).contains (.ref x1)=true) (w1:W.kitOne K (.ref x1) (.type "ValueError")=some true)
    {N2:Addr} {bs2 bm2 su2:List Value} {nm2 q2:Str} {hd2 ab2:Bool} {sn2:List Str} {co2:Option Bool} {dd2:Option Addr} {ka2 kb2 kc2 kd2 ke2:Option Value}
    (o2:K.lookup x2=some (excClassObj nm2 q2 x2 N2 bs2 bm2 hd2 sn2 su2 ab2 co2 dd2 ka2 kb2 kc2 kd2 ke2 "ValueError.__new__"))
    {fi2:Addr} {iod2 ian2:Option Addr} {isl2:Array (Option Value)} {ikV2 idc2 ipm2 icd2 ict2:Value}
    (u2:W.nsOkIn K N2=true) (ni2:W.nsIn K N2 "__init__"=some (some (.ref fi2))) (tl2:W.tailIn K bmV bm2=true)
    (il2:K.lookup fi2=some ⟨.type "function",iod2,.func (W.fnOf "__init__" "Ring.__init__" (fW hI) (fv hI) (cI hI) .none ikV2 idc2 ipm2 ian2 icd2 ict2),isl2⟩) (ic2:W.codeIn K icd2 "Ring.__init__"=true) (ik2:W.keepIn K (.ref fi2)=true) (kc2:W.keepIn K (.ref x2)=true)
    (sa2:W.findIn K (.ref x2) "__setattr__"=some (some (.builtin "object.__setattr__"))) (po2:(W.clsIn K x2).any (fun cd=>pP cd.mro)=true) (na2:W.findIn K (.ref x2) "ring"=some none) (hd_2:W.hasDictIn K x2=true)
    (ga2:W.findIn K (.ref x2) "__getattribute__"=some (some (.builtin "BaseException.__getattribute__"))) (gb2:W.findIn K (.ref x2) "__getattr__"=some none) (ha2:W.findIn K (.ref x2) "__class__"=some (some (.builtin "object.__class__")))
    (hm2:W.mroIn K x2 (.type "object")=some true) (hb2:W.mroIn K x2 (.type "BaseException")=some true) (cl2:(W.clsIn K x2).isSome=true)
    (p2:bm2.contains (.type "BaseException")=true) (q_2:(Value.ref x2::bm2).contains (.ref x1)=true) (w2:W.kitOne K (.ref x2) (.type "ValueError")=some true)
    (g2_1:W.kitOne K (.ref x2) (.ref x1)=some true) (g2_2:W.kitOne K (.ref x2) (.ref x2)=some true)
    {aW:Addr} {odW:Option Addr} {tW1 tW2:Tok} {nW:Nat} {slW:Array (Option Value)} (gW:W.nsIn K mainGlobals "WORDS"=some (some (.ref aW))) (lW:K.lookup aW=some ⟨.type "tuple",odW,.seq ([.str "first" tW1,.str "last" tW2]:List Value).toArray nW,slW⟩)
    {D0:Addr} {epD:Nat} {tD1 tD2 tD3 tD4 tD5 tD6 tD7 tD8 tD9:Tok} {sD1 sD2 sD3 sD4 sD5 sD6 sD7 sD8 sD9:Addr} (gD:W.nsIn K mainGlobals "PARTS"=some (some (.ref D0))) (lD:K.lookup D0=some ⟨.type "dict",none,.dict ([⟨PyData.keyHash w.params "thing",.str "thing" tD1,.ref sD1⟩,⟨PyData.keyHash w.params "tie",.str "tie" tD2,.ref sD2⟩,⟨PyData.keyHash w.params "wait",.str "wait" tD3,.ref sD3⟩,⟨PyData.keyHash w.params "untie",.str "untie" tD4,.ref sD4⟩,⟨PyData.keyHash w.params "drop",.str "drop" tD5,.ref sD5⟩,⟨PyData.keyHash w.params "group",.str "group" tD6,.ref sD6⟩,⟨PyData.keyHash w.params "open",.str "open" tD7,.ref sD7⟩,⟨PyData.keyHash w.params "want",.str "want" tD8,.ref sD8⟩,⟨PyData.keyHash w.params "unwant",.str "unwant" tD9,.ref sD9⟩]:List DictEntry).toArray epD,#[]⟩) (nD:(D0==sysModules)=false)
    {oP1:Option Addr} {uP1_0 uP1_1:Tok} {nP1:Nat} {lP1:Array (Option Value)} (qP1:K.lookup sD1=some ⟨.type "tuple",oP1,.seq ([.str "name" uP1_0,.str "knot" uP1_1]:List Value).toArray nP1,lP1⟩)
    {oP2:Option Addr} {uP2_0 uP2_1:Tok} {nP2:Nat} {lP2:Array (Option Value)} (qP2:K.lookup sD2=some ⟨.type "tuple",oP2,.seq ([.str "name" uP2_0,.str "name" uP2_1]:List Value).toArray nP2,lP2⟩)
    {oP3:Option Addr} {uP3_0 uP3_1:Tok} {nP3:Nat} {lP3:Array (Option Value)} (qP3:K.lookup sD3=some ⟨.type "tuple",oP3,.seq ([.str "name" uP3_0,.str "name" uP3_1]:List Value).toArray nP3,lP3⟩)
    {oP4:Option Addr} {uP4_0 uP4_1:Tok} {nP4:Nat} {lP4:Array (Option Value)} (qP4:K.lookup sD4=some ⟨.type "tuple",oP4,.seq ([.str "name" uP4_0,.str "name" uP4_1]:List Value).toArray nP4,lP4⟩)
    {oP5:Option Addr} {uP5_0:Tok} {nP5:Nat} {lP5:Array (Option Value)} (qP5:K.lookup sD5=some ⟨.type "tuple",oP5,.seq ([.str "name" uP5_0]:List Value).toArray nP5,lP5⟩)
    {oP6:Option Addr} {uP6_0 uP6_1:Tok} {nP6:Nat} {lP6:Array (Option Value)} (qP6:K.lookup sD6=some ⟨.type "tuple",oP6,.seq ([.str "name" uP6_0,.str "members" uP6_1]:List Value).toArray nP6,lP6⟩)
    {oP7:Option Addr} {uP7_0:Tok} {nP7:Nat} {lP7:Array (Option Value)} (qP7:K.lookup sD7=some ⟨.type "tuple",oP7,.seq ([.str "name" uP7_0]:List Value).toArray nP7,lP7⟩)
    {oP8:Option Addr} {uP8_0 uP8_1:Tok} {nP8:Nat} {lP8:Array (Option Value)} (qP8:K.lookup sD8=some ⟨.type "tuple",oP8,.seq ([.str "word" uP8_0,.str "name" uP8_1]:List Value).toArray nP8,lP8⟩)
    {oP9:Option Addr} {uP9_0 uP9_1:Tok} {nP9:Nat} {lP9:Array (Option Value)} (qP9:K.lookup sD9=some ⟨.type "tuple",oP9,.seq ([.str "word" uP9_0,.str "name" uP9_1]:List Value).toArray nP9,lP9⟩)
    {DR:Addr} {epR:Nat} {tR1 tR2 tR3 tR4 tR5 tR6 tR7 tR8 tR9:Tok} {rR1 rR2 rR4 rR5 rR6 rR7 rR9:Addr} (gR:W.nsIn K mainGlobals "REFUSALS"=some (some (.ref DR))) (lR:K.lookup DR=some ⟨.type "dict",none,.dict ([⟨PyData.keyHash w.params "thing",.str "thing" tR1,.ref rR1⟩,⟨PyData.keyHash w.params "tie",.str "tie" tR2,.ref rR2⟩,⟨PyData.keyHash w.params "wait",.str "wait" tR3,.ref rR2⟩,⟨PyData.keyHash w.params "untie",.str "untie" tR4,.ref rR4⟩,⟨PyData.keyHash w.params "drop",.str "drop" tR5,.ref rR5⟩,⟨PyData.keyHash w.params "group",.str "group" tR6,.ref rR6⟩,⟨PyData.keyHash w.params "open",.str "open" tR7,.ref rR7⟩,⟨PyData.keyHash w.params "want",.str "want" tR8,.ref f26⟩,⟨PyData.keyHash w.params "unwant",.str "unwant" tR9,.ref rR9⟩]:List DictEntry).toArray epR,#[]⟩) (nR:(DR==sysModules)=false)
    : ∃fd:FuncData,(∀(s:Shared) (v:Value),BindsTo s fd ⟨[v],[]⟩ [("_law_script",v)])/\∀base:Heap,K.In base->base.Ns mainGlobals mg->FnOk l.prog w K mg base CX0 12 fa fd ["_law_script"] (pO K):=by
 have e:=hfa.symm.trans h52.g
 cases e
 have TMOST_SIGNS:=W.mg_of X G y1
 have TMOST_MANY:=W.mg_of X G y2
 have F52:=h52.F
 obtain⟨_,_,kV,dc,pm,an,cd,ct,_,rfl,_,_⟩:=F52.ex
 refine⟨W.fnOf "law" "law" (fW nX) (fv nX) (cI nX) .none kV dc pm an cd ct,fun s v=>.of_eq rfl,fun base XB GB=>?_⟩
 have eN:(["OrderError","Ring"]:List Str).Nodup:=by decide +kernel
 have eO:jm ([("OrderError",x1),("Ring",x2)]:List (Str × Addr)) "OrderError"=x1:=lQ (ps:=[("OrderError",x1),("Ring",x2)]) eN ("OrderError",x1) (.head _)
 have Er:Errs K mg base (jm ([("OrderError",x1),("Ring",x2)]:List (Str × Addr))) zV xV:=yD (ps:=[("OrderError",x1),("Ring",x2)]) (cs:=[("OrderError",x1),("Ring",x2)]) eN (eR (.head _) (eR (.tail _ (.head _)) iz)) (eR (W.mg_of X G r1) (eR (W.mg_of X G r2) iz)) (eR ⟨ga1,gb1,ha1,en,et,hm1,hb1,cl1⟩ (eR ⟨ga2,gb2,ha2,en,et,hm2,hb2,cl2⟩ iz)) (show ("OrderError":Str)∈xV by decide +kernel) (eR (fun h=>absurd rfl h) (eR (fun _=>(eR (g2_1.trans (congrArg some (show true=(("OrderError":Str)==("Ring":Str)||("OrderError":Str)==("OrderError":Str)) by decide +kernel))) (eR (g2_2.trans (congrArg some (show true=(("Ring":Str)==("Ring":Str)||("Ring":Str)==("OrderError":Str)) by decide +kernel))) iz))) iz)) (eR w1 (eR w2 iz)) (eR ⟨bm1,uR XB o1,p1,(by rw[eO];exact q_1)⟩ (eR ⟨bm2,uR XB o2,p2,(by rw[eO];exact q_2)⟩ iz)) (W.mg_none_of X G ev) (eR (fun _=>AS XB (W.mg_of X G r1) o1 u1 ni1 tl1) (eR (fun h=>absurd (show ("Ring":Str)∈(["NoText","Ring","NoUnit"]:List Str) by decide) h) iz))
 have FIRing:=vT (st:=hI) il2 ic2 ik2
 have bIRing:=FIRing.binds (ps:=["self","ring"]) fun _ _ _ _ _ _ us hl=>by obtain⟨_,_,rfl⟩:=ar2 hl;rfl
 have eeRing:jm ([("OrderError",x1),("Ring",x2)]:List (Str × Addr)) "Ring"=x2:=lQ (ps:=[("OrderError",x1),("Ring",x2)]) eN ("Ring",x2) (.tail _ (.head _))
 have ZRing:XSet K (jm ([("OrderError",x1),("Ring",x2)]:List (Str × Addr)) "Ring") "ring":=eeRing.symm ▸ ⟨sa2,po2,na2,hd_2,hm2⟩
 have GRing:XGet K (jm ([("OrderError",x1),("Ring",x2)]:List (Str × Addr)) "Ring") "ring":=⟨ZRing.na,ZRing.hd⟩
 have mRing:MkI l.prog w K mg base 1 "Ring" (jm ([("OrderError",x1),("Ring",x2)]:List (Str × Addr)) "Ring") ["self","ring"] (lA K "ring"):=eeRing.symm ▸ ⟨_,_,zN XB (W.mg_of X G r2) o2 u2 ni2 tl2 il2,kc2,zq FIRing B,bIRing⟩
 have KW:=gN (xs:=[V.str "first",V.str "last"]) lW (bz rfl) (.cons ⟨_,rfl⟩ (.cons ⟨_,rfl⟩ .nil))
 have TW:=W.mg_of X G gW
 have TP:=W.mg_of X G gD
 have PP:PK l.prog w K D0 _:=Bh [⟨"thing",tD1,sD1⟩,⟨"tie",tD2,sD2⟩,⟨"wait",tD3,sD3⟩,⟨"untie",tD4,sD4⟩,⟨"drop",tD5,sD5⟩,⟨"group",tD6,sD6⟩,⟨"open",tD7,sD7⟩,⟨"want",tD8,sD8⟩,⟨"unwant",tD9,sD9⟩] lD nD rfl (.cons (gN qP1 (bz rfl) (.cons ⟨_,rfl⟩ (.cons ⟨_,rfl⟩ .nil))) (.cons (gN qP2 (bz rfl) (.cons ⟨_,rfl⟩ (.cons ⟨_,rfl⟩ .nil))) (.cons (gN qP3 (bz rfl) (.cons ⟨_,rfl⟩ (.cons ⟨_,rfl⟩ .nil))) (.cons (gN qP4 (bz rfl) (.cons ⟨_,rfl⟩ (.cons ⟨_,rfl⟩ .nil))) (.cons (gN qP5 (bz rfl) (.cons ⟨_,rfl⟩ .nil)) (.cons (gN qP6 (bz rfl) (.cons ⟨_,rfl⟩ (.cons ⟨_,rfl⟩ .nil))) (.cons (gN qP7 (bz rfl) (.cons ⟨_,rfl⟩ .nil)) (.cons (gN qP8 (bz rfl) (.cons ⟨_,rfl⟩ (.cons ⟨_,rfl⟩ .nil))) (.cons (gN qP9 (bz rfl) (.cons ⟨_,rfl⟩ (.cons ⟨_,rfl⟩ .nil))) .nil)))))))))
 have TR:=W.mg_of X G gR
 have KR:KD l.prog w K DR _:=vt [⟨"thing",tR1,rR1⟩,⟨"tie",tR2,rR2⟩,⟨"wait",tR3,rR2⟩,⟨"untie",tR4,rR4⟩,⟨"drop",tR5,rR5⟩,⟨"group",tR6,rR6⟩,⟨"open",tR7,rR7⟩,⟨"want",tR8,f26⟩,⟨"unwant",tR9,rR9⟩] lR nR Am
 have c__law_pen:=h37.cl l w base (AD h37.F B)
 have c__law_draw:=h38.cl l w base (yR h38.F B)
 have c_places_of:=h4.cl l w base (tP h4.F B)
 have c_is_name:=h1.cl l w base (vM h1.F B TMOST_SIGNS)
 have c_are_unlike:=h6.cl l w base (wd h6.F B c_places_of)
 have c_are_unlike_names:=h5.cl l w base (yY h5.F B c_is_name c_are_unlike)
 have c_has_word:=h23.cl l w base (Bp h23.F B)
 have c_is_many:=h22.cl l w base (BG h22.F B c_has_word)
 have c_is_part:=h24.cl l w base (zv h24.F B TW KW c_are_unlike_names c_is_name)
 have c_is_single:=h21.cl l w base (zu h21.F B Zzip TP PP c_has_word c_is_part)
 have c_is_deed_within:=h34.cl l w base (yj h34.F B c_is_many c_is_single (fun _ _ o=>h34.cl l w base o) 2)
 have c_is_deed:=h32.cl l w base (yO h32.F B TMOST_MANY c_is_deed_within)
 have c_homes:=h9.cl l w base (xN h9.F B)
 have c_children:=h8.cl l w base (rF h8.F B)
 have c_wanted:=h15.cl l w base (uO h15.F B)
 have c_with_row:=h19.cl l w base (re h19.F B)
 have c__law_names:=h39.cl l w base (wI h39.F B c__law_draw)
 have c__law_knots:=h40.cl l w base (xp h40.F B c__law_draw)
 have c__law_line:=h41.cl l w base (yG h41.F B)
 have c__law_part:=h42.cl l w base (wZ h42.F B c__law_line)
 have c__law_reached:=h44.cl l w base (wk h44.F B)
 have c__law_edges:=h43.cl l w base (AL h43.F B c__law_part)
 have c__law_house:=h45.cl l w base (wQ h45.F B c__law_draw c__law_names c__law_knots c__law_part c__law_edges c__law_reached)
 have c_places_ofD:=h4.cl l w base (tO h4.F B)
 have c_places_ofS:=h4.cl l w base (uu h4.F B)
 have c_line_down:=h11.cl l w base (wY h11.F B)
 have c_parting_by:=h10.cl l w base (uq h10.F B Zzip c_line_down)
 have c_kept_partings:=h13.cl l w base (x6 h13.F B c_homes c_parting_by)
 have c_view_by:=h14.cl l w base (wg h14.F B c_children c_wanted c_places_ofD)
 have c_view:=h12.cl l w base (zG h12.F B c_view_by c_kept_partings)
 have c_nexts:=h2.cl l w base (xq h2.F B c_places_ofS)
 have c_priors:=h3.cl l w base (u9 h3.F B c_places_ofS)
 have c_knot_of:=h7.cl l w base (wz h7.F B c_homes)
 have c_step_of:=h18.cl l w base (uI h18.F B Zzip)
 have c_steps_along:=h17.cl l w base (xC h17.F B Zzip c_kept_partings c_step_of)
 have c_ring_of_want:=h16.cl l w base (yN h16.F B c_knot_of c_view c_priors c_nexts c_steps_along)
 have c_need_units:=h27.cl l w base (xG h27.F B c_homes)
 have c_refuse_want:=h26.cl l w base (sT h26.F B c_need_units c_wanted c_children c_knot_of)
 have c_refuse:=h25.cl l w base (sZ h25.F B TR KR (gU (show ("thing":Str)≠"want" by decide) (gU (show ("tie":Str)≠"want" by decide) (gU (show ("wait":Str)≠"want" by decide) (gU (show ("untie":Str)≠"want" by decide) (gU (show ("drop":Str)≠"want" by decide) (gU (show ("group":Str)≠"want" by decide) (gU (show ("open":Str)≠"want" by decide) vK))))))) h26.F.kp (sT h26.F B c_need_units c_wanted c_children c_knot_of) h26.bn)
 have c_row_of_want:=h31.cl l w base (yU h31.F B c_ring_of_want c_children c_knot_of)
 have c_paper_of:=h30.cl l w base (uU h30.F B c_is_single c_refuse c_row_of_want)
 have c_with_want:=h20.cl l w base (xO h20.F B)
 have c_led_by_want:=h29.cl l w base (zA h29.F B c_with_want c_with_row c_knot_of)
 have c_led_to:=h28.cl l w base (xz h28.F B c_led_by_want)
 have c_singles:=h35.cl l w base (rj h35.F B)
 have c_behind_singleX:=h36.cx l w base (x8 h36.F B mRing ZRing c_paper_of c_led_to)
 have c_behindX:=h33.cx l w base (zL h33.F B c_is_deed c_singles c_behind_singleX)
 have c__law_step:=h46.cl l w base (xE h46.F B c__law_part)
 have c__law_knot_of:=h48.cl l w base (xK h48.F B)
 have c__law_with:=h47.cl l w base (xJ h47.F B)
 have c__law_due:=h49.cl l w base (yK h49.F B c__law_knot_of c__law_edges c__law_step c__law_with)
 have c__law_told:=h50.cl l w base (yC h50.F B Er GRing c_behindX)
 have c__law_may_be:=h51.cl l w base (zS h51.F B c__law_knot_of)
 exact Ao F52 B c__law_pen c__law_draw c__law_house c__law_may_be c__law_due c__law_told
theorem walk {l:W.OpenLaw}{q:Program}{loose:List Str}{XP:(Str -> Option Value) -> Heap -> Prop}{YP:World -> Heap -> Prop}{d:DefRec}{K:Params -> W.Frag}(hn:l.most=some 63) (hdf:d.params.defaults=[])
    (hY:∀(w:World) (h:Heap),YP w h->(K w.params).In h)
    (F:∀(w:World) (mg:Str->Option Value) (fa:Addr) (h:Heap),(K w.params).In h->h.Ns mainGlobals mg->mg d.name=some (.ref fa) ->
     ∃fd:FuncData,(∀(s:Shared) (u:Value),BindsTo s fd ⟨[u],[]⟩ [("_law_script",u)])/\∀base:Heap,(K w.params).In base->base.Ns mainGlobals mg->FnOk l.prog w (K w.params) mg base CX0 12 fa fd ["_law_script"] (pO (K w.params))) :
    W.WalkO q loose XP YP l.row.toRowW d [] (fun f vs=>PySem.call f vs) :=
 L2.walk_of (n:=63) (k:=12) (x:="_law_script") (CX:=fun _=>CX0) (sp:=fun w=>pO (K w.params)) hn (by decide) hdf ⟨rfl,by decide,by decide,rfl⟩ hY F (fun _ _ a ns hl _ hS=>⟨a,ns,rfl,hS,fun _=>rfl⟩) fun _ _ _ _ _ z=>z
end
end K53
open PySem PySem.W PyProof.Rows
set_option maxRecDepth 100000 in
set_option maxHeartbeats 0 in
theorem PySem.Challenge.cw_orderkeep_k53_wants_told_holds : PySem.Challenge.rw_orderkeep_k53_wants_told.Holds := by
 w_on;o_law;k_head;(case hw=>w_witness2)
 k_fill
 refine K53.walk (l:=PySem.Challenge.rw_orderkeep_k53_wants_told) rfl rfl (fun w h Y=>W.km_in_of Y) ?F
 case F =>
  intro w mg fa h KX G hmg
  refine' K53.all_mk KX G hmg (K53.fh_mk KX G ?a1 ?l1 ?c1 ?k1) (K53.fh_mk KX G ?a2 ?l2 ?c2 ?k2) (K53.fh_mk KX G ?a3 ?l3 ?c3 ?k3) (K53.fh_mk KX G ?a4 ?l4 ?c4 ?k4) (K53.fh_mk KX G ?a5 ?l5 ?c5 ?k5) (K53.fh_mk KX G ?a6 ?l6 ?c6 ?k6) (K53.fh_mk KX G ?a7 ?l7 ?c7 ?k7) (K53.fh_mk KX G ?a8 ?l8 ?c8 ?k8) (K53.fh_mk KX G ?a9 ?l9 ?c9 ?k9) (K53.fh_mk KX G ?a10 ?l10 ?c10 ?k10) (K53.fh_mk KX G ?a11 ?l11 ?c11 ?k11) (K53.fh_mk KX G ?a12 ?l12 ?c12 ?k12) (K53.fh_mk KX G ?a13 ?l13 ?c13 ?k13) (K53.fh_mk KX G ?a14 ?l14 ?c14 ?k14) (K53.fh_mk KX G ?a15 ?l15 ?c15 ?k15) (K53.fh_mk KX G ?a16 ?l16 ?c16 ?k16) (K53.fh_mk KX G ?a17 ?l17 ?c17 ?k17) (K53.fh_mk KX G ?a18 ?l18 ?c18 ?k18) (K53.fh_mk KX G ?a19 ?l19 ?c19 ?k19) (K53.fh_mk KX G ?a20 ?l20 ?c20 ?k20) (K53.fh_mk KX G ?a21 ?l21 ?c21 ?k21) (K53.fh_mk KX G ?a22 ?l22 ?c22 ?k22) (K53.fh_mk KX G ?a23 ?l23 ?c23 ?k23) (K53.fh_mk KX G ?a24 ?l24 ?c24 ?k24) (K53.fh_mk KX G ?a25 ?l25 ?c25 ?k25) (K53.fh_mk KX G ?a26 ?l26 ?c26 ?k26) (K53.fh_mk KX G ?a27 ?l27 ?c27 ?k27) (K53.fh_mk KX G ?a28 ?l28 ?c28 ?k28) (K53.fh_mk KX G ?a29 ?l29 ?c29 ?k29) (K53.fh_mk KX G ?a30 ?l30 ?c30 ?k30) (K53.fh_mk KX G ?a31 ?l31 ?c31 ?k31) (K53.fh_mk KX G ?a32 ?l32 ?c32 ?k32) (K53.fh_mk KX G ?a33 ?l33 ?c33 ?k33) (K53.fh_mk KX G ?a34 ?l34 ?c34 ?k34) (K53.fh_mk KX G ?a35 ?l35 ?c35 ?k35) (K53.fh_mk KX G ?a36 ?l36 ?c36 ?k36) (K53.fh_mk KX G ?a37 ?l37 ?c37 ?k37) (K53.fh_mk KX G ?a38 ?l38 ?c38 ?k38) (K53.fh_mk KX G ?a39 ?l39 ?c39 ?k39) (K53.fh_mk KX G ?a40 ?l40 ?c40 ?k40) (K53.fh_mk KX G ?a41 ?l41 ?c41 ?k41) (K53.fh_mk KX G ?a42 ?l42 ?c42 ?k42) (K53.fh_mk KX G ?a43 ?l43 ?c43 ?k43) (K53.fh_mk KX G ?a44 ?l44 ?c44 ?k44) (K53.fh_mk KX G ?a45 ?l45 ?c45 ?k45) (K53.fh_mk KX G ?a46 ?l46 ?c46 ?k46) (K53.fh_mk KX G ?a47 ?l47 ?c47 ?k47) (K53.fh_mk KX G ?a48 ?l48 ?c48 ?k48) (K53.fh_mk KX G ?a49 ?l49 ?c49 ?k49) (K53.fh_mk KX G ?a50 ?l50 ?c50 ?k50) (K53.fh_mk KX G ?a51 ?l51 ?c51 ?k51) (K53.fh_mk KX G ?a52 ?l52 ?c52 ?k52) ⟨W.mg_none_of KX G ?z1,W.mg_none_of KX G ?z2,W.mg_none_of KX G ?z3,W.mg_none_of KX G ?z4,W.mg_none_of KX G ?z5,W.mg_none_of KX G ?z6,W.mg_none_of KX G ?z7,W.mg_none_of KX G ?z8,W.mg_none_of KX G ?z9,W.mg_none_of KX G ?z10,W.mg_none_of KX G ?z11,W.mg_none_of KX G ?z12,W.mg_none_of KX G ?z13,W.mg_none_of KX G ?z14,W.mg_none_of KX G ?z15⟩ (W.mg_none_of KX G ?z16) ?y1 ?y2 ?r1 ?r2 ?en ?et ?ev ?o1 ?u1 ?ni1 ?tl1 ?ga1 ?gb1 ?ha1 ?hm1 ?hb1 ?cl1 ?p1 ?q_1 ?w1 ?o2 ?u2 ?ni2 ?tl2 ?il2 ?ic2 ?ik2 ?kc2 ?sa2 ?po2 ?na2 ?hd_2 ?ga2 ?gb2 ?ha2 ?hm2 ?hb2 ?cl2 ?p2 ?q_2 ?w2 ?g2_1 ?g2_2 ?gW ?lW ?gD ?lD ?nD ?qP1 ?qP2 ?qP3 ?qP4 ?qP5 ?qP6 ?qP7 ?qP8 ?qP9 ?gR ?lR ?nR
  (case a1 | l1 | c1 | k1 | a2 | l2 | c2 | k2 | a3 | l3 | c3 | k3 | a4 | l4 | c4 | k4 | a5 | l5 | c5 | k5 | a6 | l6 | c6 | k6 | a7 | l7 | c7 | k7 | a8 | l8 | c8 | k8 | a9 | l9 | c9 | k9 | a10 | l10 | c10 | k10=>k_is)
  (case a11 | l11 | c11 | k11 | a12 | l12 | c12 | k12 | a13 | l13 | c13 | k13 | a14 | l14 | c14 | k14 | a15 | l15 | c15 | k15 | a16 | l16 | c16 | k16 | a17 | l17 | c17 | k17 | a18 | l18 | c18 | k18 | a19 | l19=>k_is)
  (case c19 | k19 | a20 | l20 | c20 | k20 | a21 | l21 | c21 | k21 | a22 | l22 | c22 | k22 | a23 | l23 | c23 | k23 | a24 | l24 | c24 | k24 | a25 | l25 | c25 | k25 | a26 | l26 | c26 | k26 | a27 | l27 | c27 | k27=>k_is)
  (case a28 | l28 | c28 | k28 | a29 | l29 | c29 | k29 | a30 | l30 | c30 | k30 | a31 | l31 | c31 | k31 | a32 | l32 | c32 | k32 | a33 | l33 | c33 | k33 | a34 | l34 | c34 | k34 | a35 | l35 | c35 | k35 | a36 | l36=>k_is)
  (case c36 | k36 | a37 | l37 | c37 | k37 | a38 | l38 | c38 | k38 | a39 | l39 | c39 | k39 | a40 | l40 | c40 | k40 | a41 | l41 | c41 | k41 | a42 | l42 | c42 | k42 | a43 | l43 | c43 | k43 | a44 | l44 | c44 | k44=>k_is)
  (case a45 | l45 | c45 | k45 | a46 | l46 | c46 | k46 | a47 | l47 | c47 | k47 | a48 | l48 | c48 | k48 | a49 | l49 | c49 | k49 | a50 | l50 | c50 | k50 | a51 | l51 | c51 | k51 | a52 | l52 | c52 | k52 | z1 | z2 | z3=>k_is)
  (case z4 | z5 | z6 | z7 | z8 | z9 | z10 | z11 | z12 | z13 | z14 | z15 | z16 | y1 | y2 | r1 | r2 | en | et | ev | o1=>k_is)
  (case u1=>kernel_rfl)
  (case ni1=>k_is)
  (case tl1=>kernel_rfl)
  (case ga1 | gb1 | ha1 | hm1 | hb1=>k_is)
  (case cl1 | p1 | q_1 | w1=>exact rfl)
  (case o2=>k_is)
  (case u2=>kernel_rfl)
  (case ni2=>k_is)
  (case tl2=>kernel_rfl)
  (case il2 | ic2 | ik2=>k_is)
  (case kc2=>first | k_is | exact rfl)
  (case sa2=>k_is)
  (case po2=>exact rfl)
  (case na2=>k_is)
  (case hd_2=>first | k_is | exact rfl)
  (case ga2 | gb2 | ha2 | hm2 | hb2=>k_is)
  (case cl2 | p2 | q_2 | w2 | g2_1 | g2_2=>exact rfl)
  (case gW | lW | gD | lD=>k_is)
  (case nD=>exact rfl)
  (case qP1 | qP2 | qP3 | qP4 | qP5 | qP6 | qP7 | qP8 | qP9 | gR | lR=>k_is)
  (case nR=>exact rfl)
end
