import PyProof.Rows.All
import Wide.All
import OpenK.AllK
import Wide.FinOn
import Lean
import PyProof.EqAt
import PyProof.EqKinds
import PyProof.TupleCall
import PyProof.Rows.SumAny
import PyProof.StationsW
import PyProof.ExcClass3
import OpenK.KOwn
import KE.KTryDeep
import KE.KIsAll
import PyProof.ExcAttrAll.ValueError
import PyProof.ExcBaseAll.ValueError
import PyProof.InstStoreFacts
import PyProof.RulesTry
import PyProof.Rows.SortStr
import PyProof.TupleOfSeq
import KE.KxWritten
import PyProof.Conv_bool
import KE.KStrOpen
import PyProof.Rows.FStr
import PyProof.SetRoads
import PyProof.DictKinds
import PyProof.Rows.Range3
import PyProof.FactsAll.tuple_2
import PyProof.CollectIter
import PyProof.TupleOfGen
import KE.KSortTup
import PyProof.StrOps
import PyProof.StrLawsIn
import PyProof.AttrMissHeap
import KE.KDictOf
import PyProof.StrOps2
import PyProof.DictWalks
import KE.KDictList
import PyProof.Rows.ZipGen
import PySem.Challenge.RW_orderkeep_k48_ties_kept
theorem aY9(h:0=0:=by rfl):0=0:=h
def aR9:=aY9._auto_1
theorem aZ9(h:0=0:=by decide):0=0:=h
def aD9:=aZ9._auto_1
namespace PySem.W.Fast
def tw14390158621828088063:=Nat
def tw7893282174199193260:=Nat
def tw16675407582106646032:=Nat
def tw6294747594388272542:=Nat
def tw12347873780597788943:=Nat
def tw14662342871785376:=Nat
def tw7767169463292019323:=Nat
def tw12282859111427185490:=Nat
def tw18057432032013795150:=Nat
def tw4717921141124314218:=Nat
def tw5243840068345071672:=Nat
def tw19648714057546584:=Nat
def tw583558264316498288:=Nat
def tw5938312828082274996:=Nat
def tw17596625928056355846:=Nat
def tw775361011113140674:=Nat
def tw7170851749060309184:=Nat
def tw1119193356014688459:=Nat
def tw8261297041475816961:=Nat
def tw2983559110188151355:=Nat
def tw12485666413237344543:=Nat
def tw16204331694713452508:=Nat
def tw9756260608885811845:=Nat
def tw5900735910021837527:=Nat
def tw16811833703379205862:=Nat
def tw13629531223000143741:=Nat
def tw15938551287914084984:=Nat
def tw6565534537489783384:=Nat
def tw1568500030251669697:=Nat
def tw15626926246937869705:=Nat
def tw5490309453832523121:=Nat
def tw2392177019598943280:=Nat
def tw17186181467050836202:=Nat
def tw6729422825833614534:=Nat
def tw15087944438585661919:=Nat
def tw11489802214139171444:=Nat
def tw10668140846989677967:=Nat
def tw15977182694639273034:=Nat
def tw1088274509954868686:=Nat
def tw3439702463279279954:=Nat
def tw16524073526350346462:=Nat
def tw17171656545433123175:=Nat
def tw12083486261241287908:=Nat
def tw3363409413140089187:=Nat
def tw12419860532370244171:=Nat
def tw12891223757995979720:=Nat
def tw6703944801215501576:=Nat
def tw1940910714062360369:=Nat
def tw16762681863826196039:=Nat
def tw9946595848510428516:=Nat
def tw16528895728059320038:=Nat
def tw8130462108717069588:=Nat
def tw2878600002926505345:=Nat
def tw14292666039608564118:=Nat
def tw3267776366375320969:=Nat
def tw10761419611155642482:=Nat
def tw9832857146799034763:=Nat
def tw15584940713983541112:=Nat
def tw12881808632815752700:=Nat
def tw12152039640261951262:=Nat
def tw2650693737903727423:=Nat
def tw14651433627579733302:=Nat
def tw10774303080406981356:=Nat
def tw677966379794763018:=Nat
def tw11659209610613192256:=Nat
def tw4217544216926658440:=Nat
def tw5733009706203011166:=Nat
def tw6963980044461963913:=Nat
def tw6859174937425044034:=Nat
def tw17998123728187795662:=Nat
def tw13062440705758770808:=Nat
def tw1858509347426162895:=Nat
def tw10658495403841737327:=Nat
def tw7321440281820151576:=Nat
def tw2999175365998290458:=Nat
def tw14660895526077815619:=Nat
def tw3116016071916946774:=Nat
def tw15899728276224385196:=Nat
def tw4951043499916789312:=Nat
def tw9830372312959576605:=Nat
def tw7917745196575708760:=Nat
def tw13203151521496428544:=Nat
def tw16927247570446678050:=Nat
def tw14350599996747669730:=Nat
def tw14724173259254094646:=Nat
def tw8532953049806218961:=Nat
def tw7967989485056916986:=Nat
def tw6279678084994828900:=Nat
def tw8228601279898014967:=Nat
def tw14015603759687741893:=Nat
def tw14210309014708316929:=Nat
def tw909955409410298909:=Nat
def tw15354988322718551677:=Nat
def tw11795215390354603477:=Nat
def tw17243345404887225557:=Nat
def tw13089624919580035943:=Nat
def tw1222426985879127102:=Nat
def tw7345267613938191381:=Nat
def tw2251174064919399744:=Nat
def tw7281557919850997945:=Nat
def tw4278930222598183506:=Nat
def tw15339818909925659634:=Nat
def tw3407799843152602602:=Nat
def tw9700825021663528282:=Nat
def tw737509066639647731:=Nat
def tw12461022520781398677:=Nat
def tw17790118274148752062:=Nat
def tw6596804554240140001:=Nat
def tw15549721106186072023:=Nat
def tw8894266013752423435:=Nat
def tw5764236646589903607:=Nat
def tw4142380174841999203:=Nat
def tw9846491978863319801:=Nat
def tw15246321140950702280:=Nat
def tw17862650388452870593:=Nat
def tw4211486526417567155:=Nat
def tw15362820966046132426:=Nat
def tw9770155692061740518:=Nat
def tw1153662633979164705:=Nat
def tw12179656167700071403:=Nat
def tw9133584764978189303:=Nat
def tw12954651033464734103:=Nat
def tw2738957795464354188:=Nat
def tw17729438779326052929:=Nat
def tw17886183181532085609:=Nat
def tw16486883251529445917:=Nat
def tw16814468934648496435:=Nat
def tw8363778462762940587:=Nat
def tw762832023055473507:=Nat
def tw16351153367734614365:=Nat
def tw12199844563910132333:=Nat
def tw9499863450140261314:=Nat
def tw12460479234822135122:=Nat
def tw8029043711227485:=Nat
def tw18222860521821827782:=Nat
def tw877901212671745116:=Nat
def tw12935241835689058938:=Nat
def tw8019534765145464978:=Nat
def tw11199478551167082643:=Nat
def tw2462659709478372759:=Nat
def tw3610665706810861372:=Nat
def tw11606228206211061743:=Nat
def tw17512093199066064537:=Nat
def tw472373894180188332:=Nat
def tw17762801981718434928:=Nat
def tw7858212635726744011:=Nat
def tw2104260866403347416:=Nat
def tw7105412490952224542:=Nat
def tw14571124286763019788:=Nat
def tw12619211721675305389:=Nat
def tw1237011015583891969:=Nat
def tw10640031805304229029:=Nat
def tw15994807787397583276:=Nat
def tw9706747399352290502:=Nat
def tw11543559120645009061:=Nat
def tw6731025529640775052:=Nat
def tw6341224642492277639:=Nat
def tw8630643497954677237:=Nat
def tw1963372137232494971:=Nat
def tw6661553098598434537:=Nat
def tw1568529307930325493:=Nat
def tw13612687089407639187:=Nat
def tw268136807456657580:=Nat
def tw8300481533679546386:=Nat
def tw13343653542990062477:=Nat
def tw1986867255973633832:=Nat
def tw5342425725059184190:=Nat
def tw8740536319722273601:=Nat
def tw16906827850284736742:=Nat
def tw10031772997707554752:=Nat
def tw11436994280577094274:=Nat
def tw2627821276377110164:=Nat
def tw4977258939674789011:=Nat
def tw5269000700877092286:=Nat
def tw18208524359950564632:=Nat
def tw10219237660761145619:=Nat
def tw10666953226837263548:=Nat
def tw15522493082459919541:=Nat
def tw13183889266470182353:=Nat
def tw1207782576335431994:=Nat
def tw1473648944230470974:=Nat
def tw5674608984330577344:=Nat
def tw3204119810082756106:=Nat
def tw10877330577324878921:=Nat
def tw16462464577117772715:=Nat
def tw13606166583098169799:=Nat
def tw13549036790773726834:=Nat
def tw12028830859217706825:=Nat
def tw5914508523862068748:=Nat
def tw1628493922221901106:=Nat
def tw1130600433523783752:=Nat
def tw10531035925217523149:=Nat
def tw15865572634464759537:=Nat
def tw10078368203791866328:=Nat
def tw4808344951942987022:=Nat
def tw18423893081690914916:=Nat
def tw6525138616419902404:=Nat
def tw5636801468853251535:=Nat
def tw5402315497997695733:=Nat
def tw11542903545407472224:=Nat
def tw12964422064995728796:=Nat
def tw15549001456000817609:=Nat
def tw1955803586100857037:=Nat
def tw16986998243020108063:=Nat
def tw8712818214494823001:=Nat
def tw680309852954392700:=Nat
def tw7849971448816173089:=Nat
def tw6452617303343023548:=Nat
def tw8275250231180042694:=Nat
def tw12243885264280032463:=Nat
def tw11324102014918617672:=Nat
def tw16601369488024101282:=Nat
def tw4770892905300250667:=Nat
def tw18310598262850047626:=Nat
def tw5881976753748615366:=Nat
def tw13232935517734702261:=Nat
def tw12922742511643671116:=Nat
def tw18247160261340095378:=Nat
def tw868159159209774732:=Nat
def tw16493014792423308293:=Nat
def tw10435407565427784295:=Nat
def tw12873163342414807006:=Nat
def tw12244272358307449879:=Nat
def tw13752032354277967822:=Nat
def tw3052593628847148205:=Nat
def tw12561877526268057184:=Nat
def tw3626652141111405263:=Nat
def tw12607159464295056956:=Nat
def tw6681039984040423647:=Nat
def tw7694434337402097604:=Nat
def tw17404196457137116334:=Nat
def tw17612728519688437586:=Nat
def tw14879342745576312528:=Nat
def tw8233686067214251177:=Nat
def tw4137031179279570728:=Nat
def tw3892053654348996397:=Nat
def tw15508800395076640195:=Nat
def tw6672998044386732563:=Nat
def tw4898766965522075447:=Nat
def tw18146411398801978599:=Nat
def tw4902075241808826705:=Nat
def tw18284730682654563862:=Nat
def tw11024713711864342036:=Nat
def tw17635282746766323510:=Nat
def tw11100736777052899367:=Nat
def tw5427564397620669639:=Nat
def tw16848805781557201595:=Nat
def tw14238431888957378967:=Nat
def tw6896808763972209772:=Nat
def tw7206077237420159058:=Nat
def tw9029797951612152905:=Nat
def tw5571516145728615077:=Nat
def tw6813912495154097160:=Nat
def tw3575775636758990449:=Nat
def tw6319577113738712689:=Nat
def tw8441418130344854535:=Nat
def tw13036239770744903663:=Nat
def tw7119125698172629433:=Nat
def tw17490447025064586285:=Nat
def tw15576627070398315025:=Nat
def tw3224247142237010099:=Nat
def tw14522053257795652184:=Nat
def tw1137576092856167560:=Nat
def tw552843023794518166:=Nat
def tw1953237928363651235:=Nat
def tw1320175943063662421:=Nat
def tw7382789779939782839:=Nat
def tw934225447804116876:=Nat
def tw4693304083940689421:=Nat
def tw9405601770764060563:=Nat
def tw17616063520446411782:=Nat
def tw7658823804173150947:=Nat
def tw1626057986349673470:=Nat
def tw18398005512789894071:=Nat
def tw14843873078702143209:=Nat
def tw542214716472865549:=Nat
def tw17567284814585091908:=Nat
def tw10980140957306942342:=Nat
def tw1929637828034131660:=Nat
def tw16215805289715577361:=Nat
def tw17751535235855094668:=Nat
def tw445329871390723956:=Nat
def tw15035735707752851800:=Nat
def tw5846048040738628203:=Nat
def tw9686252648236077869:=Nat
def tw5250603051933811137:=Nat
def tw2628107282783137177:=Nat
def tw4235055627091436762:=Nat
def tw7830933213358798887:=Nat
def tw11205333075359243860:=Nat
def tw12784842168412568050:=Nat
def tw17190322153394082252:=Nat
def tw7404596763273187147:=Nat
def tw1613541975080316605:=Nat
def tw7533042542879127473:=Nat
def tw4299354538550071097:=Nat
def tw1062211798003618101:=Nat
def tw18093298017367482545:=Nat
def tw9181428067429703881:=Nat
def tw7059584399189122254:=Nat
def tw14705348977865772496:=Nat
def tw14514104142707761239:=Nat
def tw14212784547167976798:=Nat
def tw10260015726861560942:=Nat
def tw13034628711650066266:=Nat
def tw16658446253189763375:=Nat
def tw10419445231988542320:=Nat
def tw5862749704289720828:=Nat
def tw3814082428620950803:=Nat
def tw2545349595685998362:=Nat
def tw2587518068018550656:=Nat
def tw11800711596513048915:=Nat
def tw1852552907068093092:=Nat
def tw7428649843482676853:=Nat
def tw3280768996107861781:=Nat
def tw15753744525042603760:=Nat
def tw5440133933376110031:=Nat
def tw581477635626763019:=Nat
def tw6408516536820088403:=Nat
def tw5947748238379446841:=Nat
def tw16800587280859725864:=Nat
def tw1997571111635518010:=Nat
def tw7880459566561527516:=Nat
def tw7704397295853238066:=Nat
def tw6783014936640320251:=Nat
def tw10101965278393637365:=Nat
def tw14223058802225883857:=Nat
def tw12383434631431568830:=Nat
def tw17436784322193835088:=Nat
def tw16623323023259377810:=Nat
def tw9989498618004586770:=Nat
def tw8801369218628713235:=Nat
def tw1695582125170641854:=Nat
def tw1927079540680015124:=Nat
def tw8590721262877122171:=Nat
def tw13841733659207056841:=Nat
def tw10894892909397583793:=Nat
def tw12636028825508908935:=Nat
def tw13999220204606218049:=Nat
def tw8966810178997695732:=Nat
def tw8208295547617110087:=Nat
def tw7721511973049426031:=Nat
def tw4318994970188406814:=Nat
def tw9821770700419957108:=Nat
def tw255722093806355632:=Nat
def tw6881514049978003112:=Nat
def tw885236999904606864:=Nat
def tw247864743711866863:=Nat
def tw2342793414366133640:=Nat
def tw11654136152924023462:=Nat
def tw1363156241865981717:=Nat
def tw17432060178085694247:=Nat
def tw17626363564821178073:=Nat
def tw10395517304881589207:=Nat
def tw12116936255430019846:=Nat
def tw3186393282361756804:=Nat
def tw11330083974117506529:=Nat
def tw17822880926724836430:=Nat
def tw7730063392097410883:=Nat
def tw8032527137208646254:=Nat
def tw8906383098710337622:=Nat
def tw4976779241198159302:=Nat
def tw15468404887325740953:=Nat
def tw5637682791960750021:=Nat
def tw12061800403820466885:=Nat
def tw1348972760251031627:=Nat
def tw8905964953155449151:=Nat
def tw6082073233120143601:=Nat
def tw352929516576883790:=Nat
def tw5192099652568949829:=Nat
def tw14642992764603273401:=Nat
def tw16909045608107677292:=Nat
def tw9766349164021046558:=Nat
def tw7052061189754426859:=Nat
def tw8634940955632589856:=Nat
def tw9628814893558675850:=Nat
def tw8332160372502946802:=Nat
def tw16573316106008032062:=Nat
def tw4841313450763637476:=Nat
def tw8589349690418085067:=Nat
def tw7398389488725255160:=Nat
def tw15314319945072743078:=Nat
def tw6022423823064432476:=Nat
def tw15913325134650522032:=Nat
def tw15313876579294105901:=Nat
def tw11264019599219692044:=Nat
def tw15937455324282558606:=Nat
def tw178152294084847807:=Nat
def tw961504033785871945:=Nat
def tw11208817383373111723:=Nat
def tw12762875256470051463:=Nat
def tw17828512657068146520:=Nat
def tw4011048598794528797:=Nat
def tw3390500204952655704:=Nat
def tw16062542899984800843:=Nat
def tw5028348343912886611:=Nat
def tw4827831676178146665:=Nat
def tw5443752499065197242:=Nat
def tw5457342263143250078:=Nat
def tw13168516475113283336:=Nat
def tw7966064345309597806:=Nat
def tw1654056112982911068:=Nat
def tw15036999903735751870:=Nat
def tw4705950955196922809:=Nat
def tw2366372299564442985:=Nat
def tw11349421723036182553:=Nat
def tw15876397791630270445:=Nat
def tw14027158571160930570:=Nat
def tw2460604290281748546:=Nat
def tw1934342596067720007:=Nat
def tw12894417898688288386:=Nat
def tw5973156067774207542:=Nat
def tw4379799734762662562:=Nat
def tw15004800899096193087:=Nat
def tw16493102256585443298:=Nat
def tw410311546098579613:=Nat
def tw5846642391863174955:=Nat
def tw9718040946693365335:=Nat
def tw12358855008554472860:=Nat
def tw7749300711608007166:=Nat
def tw56945895580029804:=Nat
def tw18195622007767469100:=Nat
def tw6085384150337965574:=Nat
def tw8884640702758288033:=Nat
def tw13214536958603979703:=Nat
def tw10823013160995330259:=Nat
def tw10058254810704038321:=Nat
def tw12363388578842430775:=Nat
def tw4482296891468159647:=Nat
def tw11273675122869948304:=Nat
def tw710371601086903676:=Nat
def tw12769409568277090107:=Nat
def tw4500208452371972544:=Nat
def tw5516893568937923827:=Nat
def tw15961391732997480603:=Nat
def tw13295281489916532184:=Nat
def tw12902968329704710086:=Nat
def tw1799760070272263324:=Nat
def tw11790814666679405605:=Nat
def tw15995251239158473902:=Nat
def tw17141146348976956893:=Nat
def tw4289887905218230569:=Nat
def tw17117731164314799551:=Nat
def tw17944267670548066649:=Nat
def tw11716403787967829979:=Nat
def tw4046984344002557198:=Nat
def tw1339827401558696983:=Nat
def tw13090622436792883832:=Nat
def tw7097828215333378921:=Nat
def tw16128123336336693216:=Nat
def tw712974056526025413:=Nat
def tw10758765264375363219:=Nat
def tw10260872248036071932:=Nat
def tw1430339292225656922:=Nat
def tw12704439488853021738:=Nat
def tw11128885550210291818:=Nat
def tw11514758865953872459:=Nat
def tw441615476927505261:=Nat
def tw15339234125706870097:=Nat
def tw10482529283043124719:=Nat
def tw2935539915413659021:=Nat
def tw13024601987409823878:=Nat
def tw8509605003473913975:=Nat
def tw4521222620148871910:=Nat
def tw14129934723655641022:=Nat
def tw12024116464043859028:=Nat
def tw14466150224921254050:=Nat
def tw14089377429764436055:=Nat
def tw2810212339600529332:=Nat
def tw13833725098243008678:=Nat
def tw15496897746639937888:=Nat
def tw17996812265267318848:=Nat
def tw10627152536014914191:=Nat
def tw12148107693120677721:=Nat
def tw7407520331196062791:=Nat
def tw18170249410197841224:=Nat
def tw2127868107359208689:=Nat
def tw1142420991459801659:=Nat
def tw2027364120149913641:=Nat
def tw16762835273782762707:=Nat
def tw11143069681601113204:=Nat
def tw1989483111834233727:=Nat
def tw15858717605476217831:=Nat
def tw5667711631226681026:=Nat
def tw11769464108617065307:=Nat
def tw4937725864457357425:=Nat
def tw4197828683317792321:=Nat
def tw10281127758010970452:=Nat
def tw11844528358838941943:=Nat
def tw3990383459971123577:=Nat
def tw13618193964276370890:=Nat
def tw2142966273350848781:=Nat
def tw9624349709155026178:=Nat
def tw7570033680412729539:=Nat
def tw2297556009373907240:=Nat
def tw7408994638441419271:=Nat
def tw1634097563852483728:=Nat
def tw10208656721556897740:=Nat
def tw11194539404239343685:=Nat
def tw10277980579424724317:=Nat
def tw8886585629347651:=Nat
def tw16252056115782438557:=Nat
def tw13446411923982487969:=Nat
def tw5621880071790895479:=Nat
def tw10218163332107729561:=Nat
def tw787677702205124528:=Nat
def tw17201968584513920284:=Nat
def tw1041999986029518448:=Nat
def tw13171051842306889443:=Nat
def tw7826491419354717865:=Nat
def tw4164142009416184109:=Nat
def tw9983182370332043843:=Nat
def tw1124343673783921100:=Nat
def tw6305326675665339285:=Nat
def tw1941328941041271718:=Nat
def tw325306965816106953:=Nat
def tw3331160000379713124:=Nat
def tw2024341122269152098:=Nat
def tw4033418658201975997:=Nat
def tw3790500701583469512:=Nat
def tw1897620815961104234:=Nat
def tw1381839141653921252:=Nat
def tw2241842277158172662:=Nat
def tw14567091651397917133:=Nat
def tw8844852775907600511:=Nat
def tw7928406154132251299:=Nat
def tw2001462490998631628:=Nat
def tw12892019192926350832:=Nat
def tw9570477264086912750:=Nat
def tw11019660611670884620:=Nat
def tw14444632249696759088:=Nat
def tw18329294010755300690:=Nat
def tw11505804196212339208:=Nat
def tw1151149147911916968:=Nat
def tw928022176560664115:=Nat
def tw2684358729889648931:=Nat
def tw5374563659939645451:=Nat
def tw17754501156297425380:=Nat
def tw8839017988627291586:=Nat
def tw16744925501086514280:=Nat
def tw10874641663159898717:=Nat
def tw3241126442058624174:=Nat
def tw16064689323403659950:=Nat
def tw858276865469559534:=Nat
def tw6822584021472405557:=Nat
def tw11392163252860784661:=Nat
def tw12085822523345805665:=Nat
def tw9838597327185395790:=Nat
def tw18205501047389890643:=Nat
def tw2268910925404664357:=Nat
def tw1768499621973311874:=Nat
def tw2133069054655557058:=Nat
def tw17223259497362458587:=Nat
def tw10973867317482810817:=Nat
def tw8583511258493353395:=Nat
def tw15311258386219466252:=Nat
def tw3072815560437603736:=Nat
def tw7935539157674085548:=Nat
def tw6129068994415101020:=Nat
def tw5059669671716749261:=Nat
def tw12317709243114728657:=Nat
def tw3696627898189818469:=Nat
def tw14850755169985281848:=Nat
def tw6030219537044923738:=Nat
def tw3818834025770954755:=Nat
def tw13252419682858036780:=Nat
def tw11393317268876757788:=Nat
def tw10305504837415967557:=Nat
def tw11883429453904833396:=Nat
def tw4712586075831426911:=Nat
def tw8930199820755052719:=Nat
def tw15181049512722792021:=Nat
def tw2738963396494864130:=Nat
def tw4089437613822027434:=Nat
def tw12723684521234239924:=Nat
def tw14321043303894792053:=Nat
def tw13874331837576515704:=Nat
def tw9345711575401067302:=Nat
def tw2213099087801958258:=Nat
def tw8971162926498950332:=Nat
def tw9138439128921023914:=Nat
def tw18152724327803089017:=Nat
def tw18142110555298005116:=Nat
def tw624140691097559084:=Nat
def tw6120122422791601291:=Nat
def tw1885158551162615006:=Nat
def tw3476926688638778041:=Nat
def tw2160053920046682815:=Nat
def tw13085702670192791628:=Nat
def tw15241556020333925018:=Nat
def tw8545685084693682022:=Nat
def tw16107761668044689603:=Nat
def tw17629237963749120802:=Nat
def tw14389148419100134047:=Nat
def tw9176534560759371008:=Nat
def tw14133333965319646956:=Nat
def tw15724439694794897784:=Nat
def tw6784401067631619954:=Nat
def tw14548801428729838258:=Nat
def tw15849883375851914689:=Nat
def tw8054794672958092904:=Nat
def tw15289756503888204589:=Nat
def tw5092425214849942009:=Nat
def tw14221291073315749275:=Nat
def tw9146576687740797446:=Nat
def tw16897881268291087303:=Nat
def tw6175428801097591453:=Nat
def tw4850342308734616365:=Nat
def tw3572249225489828118:=Nat
def tw3411666870741299717:=Nat
def tw3369027125273855773:=Nat
def tw201735449517775661:=Nat
def tw7185491996158123306:=Nat
def tw5924789531520540874:=Nat
def tw66541378515045985:=Nat
def tw9448447658450554529:=Nat
def tw14677282505041287746:=Nat
def tw13798042606412817551:=Nat
def tw5230864209099655288:=Nat
def tw18160348955206036660:=Nat
def tw8505105048395668161:=Nat
def tw12707298587395833357:=Nat
def tw18298972245233579937:=Nat
def tw6725940868788698762:=Nat
def tw735399243651532614:=Nat
def tw2057081006876405354:=Nat
def tw16561376064688998673:=Nat
def tw3986229266021942177:=Nat
def tw3462722144255527358:=Nat
def tw16289620859801842916:=Nat
def tw2032487713098456239:=Nat
def tw17533652378632837921:=Nat
def tw1563148646040337963:=Nat
def tw10995505055347531384:=Nat
def tw16593921370630318780:=Nat
def tw3692589280547923679:=Nat
def tw10273729475908746843:=Nat
def tw18184288468682055047:=Nat
def tw8416637218968365963:=Nat
def tw16373270482523094447:=Nat
def tw10691022037856623327:=Nat
def tw15144883116801118500:=Nat
def tw14672345164542464649:=Nat
def tw16407706748710459319:=Nat
def tw633196431966895800:=Nat
def tw10909840567633554966:=Nat
def tw12931317890858547675:=Nat
def tw17999084623044474435:=Nat
def tw6635532668426717174:=Nat
def tw8921780234057264705:=Nat
def tw13232863488899946977:=Nat
def tw17372150137371609828:=Nat
def tw8294455512992315702:=Nat
def tw12284308887676416065:=Nat
def tw8377365692076666432:=Nat
def tw9563976752308867499:=Nat
def tw6189685976426125190:=Nat
def tw2838080233374862892:=Nat
def tw9487888364127460375:=Nat
def tw13288203429890486632:=Nat
def tw8739242423852327917:=Nat
def tw8979742355049684809:=Nat
def tw12469619868899522652:=Nat
def tw662359178439267319:=Nat
def tw15280608042288751299:=Nat
def tw12872037428221211282:=Nat
def tw869633712251078142:=Nat
def tw14886031315977731119:=Nat
def tw2696417846663807511:=Nat
def tw2162044454184425953:=Nat
def tw15376789843611119614:=Nat
def tw16991795864655749574:=Nat
def tw10958349310535077752:=Nat
def tw12172049575734443204:=Nat
def tw2538237108761717639:=Nat
def tw624268759267754128:=Nat
def tw16836628428242659025:=Nat
def tw5465593335186000663:=Nat
def tw58378318441501023:=Nat
def tw2954647951341934273:=Nat
def tw14037655572550614776:=Nat
def tw14943232695508750256:=Nat
def tw4555396398669696351:=Nat
def tw1465944290368889695:=Nat
def tw716963764461095995:=Nat
def tw16417362076170463805:=Nat
def tw7893513444352462601:=Nat
def tw11417461613411743577:=Nat
def tw5545582941790019227:=Nat
def tw14455459862892259264:=Nat
def tw9116096748049905922:=Nat
def tw17425066971011834873:=Nat
def tw9572931291915143008:=Nat
def tw2420313944119661704:=Nat
def tw13094555132782662492:=Nat
def tw14198304935142197887:=Nat
def tw12710454877659747080:=Nat
def tw6892038196156942898:=Nat
def tw10439929798599948345:=Nat
def tw11310760550812455812:=Nat
def tw18246652844153566926:=Nat
def tw12645850504743325641:=Nat
def tw13263076142156704082:=Nat
def tw8994651954592786106:=Nat
def tw15390746386431494319:=Nat
def tw6757600932954326781:=Nat
def tw9834782961649498247:=Nat
def tw46520985908840223:=Nat
def tw662402294320359714:=Nat
def tw7334661303290126524:=Nat
def tw756289891720630047:=Nat
def tw1275556268223808745:=Nat
def tw5912093472483253363:=Nat
def tw16438478262878502230:=Nat
def tw3037352857865942261:=Nat
def tw620701709203098437:=Nat
def tw772448139497009306:=Nat
def tw844496654651141024:=Nat
def tw4632846428537951553:=Nat
def tw9184584901683533571:=Nat
def tw18109837150772063974:=Nat
def tw14067003081820144206:=Nat
def tw5735380898468260442:=Nat
def tw6875250488242484613:=Nat
def tw3448526084683719778:=Nat
def tw5265754231157810568:=Nat
def tw12017089509726328270:=Nat
def tw2916734021006198569:=Nat
def tw14393090414220064188:=Nat
def tw10069887787266945549:=Nat
def tw2354570899121804670:=Nat
def tw7878761849713933089:=Nat
def tw14281118834153150794:=Nat
def tw8236755477136482348:=Nat
def tw17212001540347333091:=Nat
def tw4206572664845153291:=Nat
def tw17157468520498981998:=Nat
def tw1845701461339996046:=Nat
def tw4677048415169399897:=Nat
def tw6503924743849411743:=Nat
def tw7117467554563095542:=Nat
def tw7879361588347002344:=Nat
def tw2581005425379657070:=Nat
def tw12737104097313597443:=Nat
def tw15989719279687819726:=Nat
def tw5003511820857646908:=Nat
def tw3765826030324661961:=Nat
def tw17092359122990562856:=Nat
def tw2977463347725871925:=Nat
def tw8284470501232155542:=Nat
def tw813029206771140718:=Nat
def tw16386165332442727954:=Nat
def tw14390965734789179525:=Nat
def tw8395392645406100251:=Nat
def tw10739595617584214378:=Nat
def tw14561597942322120991:=Nat
def tw17485641325595817498:=Nat
def tw11081570717747645691:=Nat
def tw332110310529346519:=Nat
end PySem.W.Fast
section
open PySem PySem.Spec PyProof.Rows
abbrev BP:=@wpAny_bind
abbrev BQ:=@List.length_map
abbrev BR:=@Nat.le_refl
abbrev BS:=@wpAny_pure
abbrev BU:=@List.getElem?_eq_some_iff
abbrev BV:=@Option.some.inj
abbrev BW:=@List.mem_of_getElem?
abbrev BX:=@List.map_append
abbrev BY:=@List.mem_map
abbrev BZ:=@Heap.lt_size
abbrev Ca:=@decide_eq_true
abbrev Cb:=@List.mem_append
abbrev Cc:=@Heap.get?_push_of_some
abbrev Cd:=@List.take_of_length_le
abbrev Ce:=@List.getElem?_map
abbrev Cf:=@List.take_add_one
abbrev Cg:=@List.mem_filter
abbrev Ch:=@of_decide_eq_true
abbrev Ci:=@List.getElem?_eq_getElem
abbrev Cj:=@List.length_append
abbrev Ck:=@List.length_take
abbrev Cm:=@List.mem_cons
abbrev Cn:=@Nat.le_trans
abbrev Co:=@Heap.get?_push_size
abbrev Cp:=@Nat.ne_of_lt
abbrev Cq:=@List.size_toArray
abbrev Cr:=@List.mem_singleton
abbrev Cs:=@List.length_cons
abbrev Ct:=@decide_eq_false
abbrev Cu:=@Nat.zero_le
abbrev Cv:=@List.map_cons
abbrev Cw:=@List.mem_cons_of_mem
abbrev Cy:=@Bool.false_ne_true
abbrev Cz:=@List.getElem?_of_mem
abbrev CA:=@List.getD_eq_getElem?_getD
abbrev CB:=@List.append_nil
abbrev CC:=@wpAny_holding
abbrev CD:=@wpAny_field
abbrev CF:=@List.idxOf_lt_length_of_mem
abbrev CG:=@List.length_filter_le
abbrev CH:=@List.filter_append
abbrev CI:=@List.nodup_cons
abbrev CJ:=@Nat.lt_of_lt_of_le
abbrev CK:=@List.map_map
abbrev CL:=@List.mem_range
abbrev CM:=@List.mem_append_left
abbrev CN:=@List.mem_append_right
abbrev CO:=@List.getElem?_zip_eq_some
abbrev CP:=@Nat.le_of_lt
abbrev CQ:=@Bool.eq_iff_iff
abbrev CS:=@List.lookup_cons
abbrev CT:=@Bool.and_eq_true
abbrev CU:=@Int.eq_ofNat_of_zero_le
abbrev CV:=@List.length_drop
abbrev CW:=@List.mem_cons_self
abbrev CY:=@wpAny_mono
abbrev CZ:=@List.find?_cons
abbrev Db:=@List.length_zip
abbrev De:=@List.nodup_append
abbrev Df:=@Nat.lt_irrefl
abbrev Dg:=@Heap.size_push
abbrev Dh:=@Nat.le_succ
abbrev Di:=@List.drop_of_length_le
abbrev Dj:=@List.mem_flatMap
abbrev Dk:=@List.mem_of_mem_drop
abbrev Dl:=@Option.isSome_iff_exists
abbrev Dm:=@List.getElem?_append_left
abbrev Dn:=@List.all_eq_true
abbrev Do:=@Int.emod_nonneg
abbrev Dq:=@List.mem_of_mem_take
abbrev Dr:=@Nat.ne_of_gt
abbrev Dt:=@wpAny_pyIter_tuple
abbrev Dv:=@Bool.false_eq_true
abbrev Dw:=@wpAny_seqItems
abbrev Dx:=@wpAny_setField_rec
abbrev Dy:=@List.drop_eq_getElem_cons
abbrev Dz:=@List.getElem?_inj
abbrev DA:=@List.mem_filterMap
abbrev DB:=@List.getElem?_append_right
abbrev DC:=@List.getElem?_take_of_lt
abbrev DE:=@Int.toNat_natCast
abbrev DF:=@List.any_cons
abbrev DG:=@List.nodup_nil
abbrev DH:=@Nat.le_of_not_lt
abbrev DI:=@Int.emod_lt_of_pos
abbrev DJ:=@List.append_assoc
abbrev DK:=@List.take_append_drop
abbrev DL:=@Nat.lt_of_not_le
abbrev DM:=@List.pairwise_iff_getElem
abbrev DN:=@Array.length_toList
abbrev DO:=@wpAny_Call_Name_kw
abbrev DP:=@Heap.get?_update_self
abbrev DQ:=@List.forIn_cons
abbrev DS:=@List.getElem_mem
abbrev DT:=@List.filter_sublist
abbrev DV:=@Nat.eq_zero_or_pos
abbrev DW:=@List.map_take
abbrev DX:=@List.getElem?_set_self
abbrev DY:=@List.getElem?_set_ne
abbrev DZ:=@List.take_sublist
abbrev Ea:=@Heap.get?_update_other
abbrev Eb:=@List.any_eq_true
abbrev Ec:=@Nat.le_add_right
abbrev Ed:=@List.pairwise_lt_range
abbrev Ee:=@List.length_range
abbrev Ef:=@List.getElem?_eq_none
abbrev Eg:=@Array.getElem?_eq_some_iff
abbrev Eh:=@List.flatMap_append
abbrev Ei:=@List.getElem?_drop
abbrev Ej:=@List.filter_congr
abbrev El:=@Heap.get?_none_of_le
abbrev Em:=@Nat.add_sub_cancel_left
abbrev En:=@List.sublist_flatten_of_mem
abbrev Eo:=@List.exists_cons_of_length_eq_add_one
end
noncomputable section
set_option autoImplicit true
set_option Elab.async false
set_option linter.all false
set_option maxRecDepth 100000
namespace L2
open PySem PySem.Spec PyProof.Rows
abbrev _root_.LS:=List Str
abbrev _root_.LW:=List Value
abbrev _root_.QS:=Value->Shared->Prop
abbrev _root_.MS:=Str->Option Value
abbrev _root_.AO_:=List (Addr × Obj)
abbrev _root_.OV:=Option Value
abbrev Key:=Sum Int Str
def ja:Key->Value->Bool
 | .inl k,v=>Value.isInt k v
 | .inr x,v=>Value.isStrOf x v
def keyH (w:World):Key->Int
 | .inl k=>hashInt k
 | .inr x=>hashStr w x
theorem cg:∀ {k:Key}{v:Value},ja k v=true->(∃i t,k=Sum.inl i/\v=Value.int i t)∨(∃x t,k=Sum.inr x/\v=Value.str x t)
 | .inl i,v,h=>by
  obtain⟨t,e⟩:=Value.isInt_shape (k:=i) (v:=v) h;exact .inl ⟨i,t,rfl,e⟩
 | .inr x,v,h=>by
  obtain⟨t,e⟩:=Value.isStrOf_shape (x:=x) (v:=v) h;exact .inr ⟨x,t,rfl,e⟩
theorem uy (i:Int) (t:Tok):ja (.inl i) (.int i t)=true:=by simp[ja,Value.isInt]
theorem vj (x:Str) (t:Tok):ja (.inr x) (.str x t)=true:=by simp[ja,Value.isStrOf]
theorem AE (a b:Int):decide ((Sum.inl a:Key)=Sum.inl b)=(a==b):=by
 by_cases e:a=b
 ·subst e;simp
 ·have h:¬ (Sum.inl a:Key)=Sum.inl b:=λq=>e (Sum.inl.inj q);rw[Ct h];exact(beq_eq_false_iff_ne.mpr e).symm
theorem zV (a b:Str):decide ((Sum.inr a:Key)=Sum.inr b)=decide (a=b):=by
 by_cases e:a=b
 ·subst e;simp
 ·have h:¬ (Sum.inr a:Key)=Sum.inr b:=λq=>e (Sum.inr.inj q);rw[Ct h,Ct e]
theorem zJ (a:Int) (b:Str):decide ((Sum.inl a:Key)=Sum.inr b)=false:=Ct (λq=>nomatch q)
theorem AK (a:Str) (b:Int):decide ((Sum.inr a:Key)=Sum.inl b)=false:=Ct (λq=>nomatch q)
def bu (prog:Program) (w:World):PySem.KeyKind prog w Key where
 is:=ja
 hash:=keyH w
 inj:=λv a b ha hb=>by
  rcases cg ha with⟨i,t,rfl,rfl⟩ | ⟨x,t,rfl,rfl⟩
  ·rcases cg hb with⟨j,u,rfl,e⟩ | ⟨y,u,rfl,e⟩
   ·injection e with e1 _;rw[e1]
   ·exact nomatch e
  ·rcases cg hb with⟨j,u,rfl,e⟩ | ⟨y,u,rfl,e⟩
   ·exact nomatch e
   ·injection e with e1 _;rw[e1]
 byValue:=λk v h=>by rcases cg h with⟨i,t,rfl,rfl⟩ | ⟨x,t,rfl,rfl⟩ <;> rfl
 pyHash:=λhv h=>by
  rcases cg hv with⟨i,t,rfl,rfl⟩ | ⟨x,t,rfl,rfl⟩
  ·exact wpAny_pyHash_int h
  ·exact wpAny_pyHash_str h
 eqBool:=λhu hv h=>by
  rcases cg hu with⟨i,t,rfl,rfl⟩ | ⟨x,t,rfl,rfl⟩
  ·rcases cg hv with⟨j,u,rfl,rfl⟩ | ⟨y,u,rfl,rfl⟩
   ·rw[AE] at h;exact wpAny_eqBool_int h
   ·rw[zJ] at h;exact SeqAt.EqAt.int_str i t y u _ _ _ _ h
  ·rcases cg hv with⟨j,u,rfl,rfl⟩ | ⟨y,u,rfl,rfl⟩
   ·rw[AK] at h;exact SeqAt.EqAt.str_int x t j u _ _ _ _ h
   ·rw[zV] at h;exact wpAny_eqBool_str h
 «strs»:=λk x t v h=>by
  rcases cg h with⟨i,u,rfl,e⟩ | ⟨y,u,rfl,e⟩
  ·exact nomatch e
  ·injection e with e1 _;subst e1;cases v <;> rfl
theorem pJ (prog:Program) (w:World) (i:Int) (t:Tok):(bu prog w).is (.inl i) (.int i t)=true:=uy i t
theorem gl (prog:Program) (w:World) (x:Str) (t:Tok):(bu prog w).is (.inr x) (.str x t)=true:=vj x t
inductive V where
 | non | bl (b:Bool) | int (i:Int) | str (x:Str) | byt (b:Array UInt8) | flt (b:UInt64) | ref (a:Addr) | ty (n:String)
 deriving DecidableEq
abbrev _root_.LV:=List V
abbrev _root_.KV_:=List (Key × V)
def RelV:V->Value->Prop
 | .non,u=>u=Value.none
 | .bl b,u=>u=Value.bool b
 | .int i,u=>∃t,u=Value.int i t
 | .str x,u=>∃t,u=Value.str x t
 | .byt b,u=>∃t,u=Value.bytes b t
 | .flt b,u=>∃t,u=Value.float b t
 | .ref a,u=>u=Value.ref a
 | .ty n,u=>u=Value.type n
abbrev Vals:LV->LW->Prop:=Paired RelV
theorem Vals.length (r:Vals xs us):xs.length=us.length:=Paired.length r
theorem Vals.get:∀ {xs:LV}{us:LW}{i:Nat}{x:V},Vals xs us->xs[i]? = some x->∃u,us[i]? = some u/\RelV x u
 | _,_,_,_,.nil,e=>by simp at e
 | _,_,0,_,.cons r _,e=>by simp at e;subst e;exact⟨_,rfl,r⟩
 | _,_,i+1,x,.cons _ t,e=>by
  obtain⟨u,h1,h2⟩:=Vals.get (i:=i) (x:=x) t (by simpa using e);exact⟨u,by simpa using h1,h2⟩
theorem Vals.set (r:RelV x u):∀ {xs:LV}{us:LW}(i:Nat),Vals xs us->Vals (xs.set i x) (us.set i u)
 | _,_,_,.nil=>.nil
 | _,_,0,.cons _ t=>.cons r t
 | _,_,i+1,.cons q t=>.cons q (Vals.set r i t)
theorem Vals.append:∀ {xs ys:LV}{us ws:LW},Vals xs us->Vals ys ws->Vals (xs++ys) (us++ws)
 | _,_,_,_,.nil,s=>s
 | _,_,_,_,.cons r t,s=>.cons r (Vals.append t s)
theorem Vals.take:∀ {xs:LV}{us:LW}(n:Nat),Vals xs us->Vals (xs.take n) (us.take n)
 | _,_,0,_=>.nil
 | _,_,_+1,.nil=>.nil
 | _,_,n+1,.cons r t=>.cons r (Vals.take n t)
theorem Vals.drop:∀ {xs:LV}{us:LW}(n:Nat),Vals xs us->Vals (xs.drop n) (us.drop n)
 | _,_,0,r=>r
 | _,_,_+1,.nil=>.nil
 | _,_,n+1,.cons _ t=>Vals.drop n t
def RelO:Option V->OV->Prop
 | some v,some u=>RelV v u
 | none,none=>True
 | _,_=>False
def KV:List (κ × V)->List (κ × Value)->Prop:=Paired λ(p:κ × V) (q:κ × Value)=>p.1=q.1/\RelV p.2 q.2
def kV:Key->V
 | .inl i=>.int i
 | .inr x=>.str x
inductive HO where
    | lst (xs:LV)
    | tup (xs:LV)
    | dK (kvs:KV_) | dT (kvs:List (List Key × V))
    | set (S:Int->Bool) (n:Nat)
    | ins (C dx:Addr) (fs:List (Str × V))
    | own (x:Addr)
    | xd (fs:List (Str × V))
    | met (f x:Addr)
    | rng (lo hi:Int)
    | frz (o:Obj) (u:HO)
    | tbl (ps:Array Value)
    | ext (φ:Heap->Prop)
abbrev Hp:=Addr->Option HO
def upd (H:Hp) (a:Addr) (o:HO):Hp:=λb=>if b=a then some o else H b
theorem ae:upd H a o a=some o:=by unfold upd;rw[if_pos rfl]
theorem ag (h:b≠a):upd H a o b=H b:=by unfold upd;rw[if_neg h]
theorem lC:upd (upd H a o) a u=upd H a u:=by
 funext b;unfold upd;split <;> rfl
theorem aZ {H:Hp}{a b:Addr}{o u:HO}(h:H a=some o) (h':H b=some u) (d:o≠u):a≠b:=by
 intro e;subst e;rw[h] at h';exact d (BV h')
theorem ai {H:Hp}{a b:Addr}{o:HO}(h:H a=some o) (h':H b=none):a≠b:=by
 intro e;subst e;rw[h] at h';cases h'
def TupN (h:Heap) (a:Addr) (items:Array Value):Prop:=∃o,h.get? a=some o/\o.cls=.type "tuple"/\∃n,o.data=.seq items n/\o.dict=none
theorem TupN.tup (x:TupN h a items):IsTup h a items:=let ⟨o,e,c,n,d,_⟩:=x;⟨o,e,c,n,d⟩
theorem TupN.new (h:Heap) (items:Array Value):TupN (h.push { cls:=.type "tuple",data:=.seq items }) h.objs.size items:=⟨_,Co _ rfl,rfl,_,rfl,rfl⟩
section
variable (P:Program) (w:World)
def ObjOk (H:Hp) (h:Heap) (a:Addr):HO -> Prop
 | .lst xs=>xs.length<=sizeLine/\∃(its:LW) (n:Nat),Vals xs its/\h.get? a=some { cls:=.type "list",data:=.seq its.toArray n }
 | .tup xs=>xs.length<=sizeLine/\∃its:LW,Vals xs its/\TupN h a its.toArray
 | .dK kvs=>kvs.length<=sizeLine/\(a==sysModules)=false/\∃vs,KV kvs vs/\h.DictOf (bu P w) a vs
 | .dT kvs=>kvs.length<=sizeLine/\(a==sysModules)=false/\∃xs:List (List Key × Addr × Value),
     Paired (λ(p:List Key × V) (q:List Key × Addr × Value)=>p.1=q.1/\H q.2.1=some (.tup (p.1.map kV))/\RelV p.2 q.2.2) kvs xs /\
     ∃o es ep,h.get? a=some o/\o.ExactDict/\o.data=.dict es ep/\es.toList=xs.map (entryOfKey (tupleKind (bu P w)))/\(xs.map (·.1)).Nodup
 | .set S n=>h.SetOf (intKind P w) a S n
 | .ins C dx fs=>H dx=some (.own a)/\fs.length<=1000/\dx≠a/\h.get? a=some (W.instObj C dx) /\
     ∃mA,h.Ns1 dx mA/\(∀f,RelO (fs.lookup f) (mA f))/\PySem.Within mA (fs.map (·.1))
 | .own _=>∃o,h.get? a=some o
 | .xd fs=>∃mA,h.Ns1 a mA/\∀f,RelO (fs.lookup f) (mA f)
 | .rng lo hi=>∃t u v,h.get? a=some { cls:=.type "range",data:=.fields #[.int lo t,.int hi u,.int 1 v] }
 | .frz o u=>h.get? a=some o/\ObjOk H h a u
 | .tbl ps=>h.get? a=some { cls:=.none,data:=.fields ps }
 | .met f x=>h.get? a=some (W.methodObj (.ref f) (.ref x))
 | .ext φ=>φ h/\(∃o,h.get? a=some o)/\∀h1 h2:Heap,φ h1->(∀o,h1.get? a=some o->h2.get? a=some o)->φ h2
def HOk (H:Hp) (h:Heap):Prop:=∀a o,H a=some o->ObjOk P w H h a o
end
section
variable {P:Program}{w:World}{H H':Hp}{h h':Heap}{a:Addr}{o:HO}
theorem ObjOk.lt (x:ObjOk P w H h a o):a<h.objs.size:=by
 cases o with
 | lst xs=>obtain⟨_,_,_,_,e⟩:=x;exact BZ e
 | tup xs=>obtain⟨_,_,_,p⟩:=x;exact p.tup.lt
 | dK kvs=>obtain⟨_,_,_,_,o,_,_,e,_⟩:=x;exact BZ e
 | dT kvs=>obtain⟨_,_,_,_,o,_,_,e,_⟩:=x;exact BZ e
 | set S n=>obtain⟨o,_,_,_,e,_⟩:=x;exact BZ e
 | ins C dx fs=>obtain⟨_,_,_,e,_⟩:=x;exact BZ e
 | own y=>obtain⟨_,e⟩:=x;exact BZ e
 | xd fs=>obtain⟨_,⟨_,_,_,e,_⟩,_⟩:=x;exact BZ e
 | rng lo hi=>obtain⟨_,_,_,e⟩:=x;exact BZ e
 | frz ob u=>obtain⟨e,_⟩:=x;exact BZ e
 | tbl ps=>exact BZ (show h.get? a=some _ from x)
 | met f y=>exact BZ (show h.get? a=some _ from x)
 | ext φ=>obtain⟨_,⟨_,e⟩,_⟩:=x;exact BZ e
theorem Paired.mapP:∀ {l₁:List α}{l₂:List β},Paired F l₁ l₂->(∀a b,F a b->G a b)->Paired G l₁ l₂
 | _,_,.nil,_=>.nil
 | _,_,.cons r t,f=>.cons (f _ _ r) (Paired.mapP t f)
theorem ObjOk.stay (x:ObjOk P w H h a o) (k:∀b u,(b=a∨H b=some (.own a))->h.get? b=some u->h'.get? b=some u)
    (D:∀b,H b=some (.own a)->H' b=some (.own a)) (E:∀b xs,H b=some (.tup xs)->H' b=some (.tup xs)):ObjOk P w H' h' a o:=by
 induction o with
 | lst xs=>obtain⟨z,l,n,r,e⟩:=x;exact⟨z,l,n,r,k _ _ (.inl rfl) e⟩
 | tup xs=>obtain⟨z,l,r,g,e,c⟩:=x;exact⟨z,l,r,g,k _ _ (.inl rfl) e,c⟩
 | dK kvs=>obtain⟨z,y,F,r,g,j,i,e,c⟩:=x;exact⟨z,y,F,r,g,j,i,k _ _ (.inl rfl) e,c⟩
 | dT kvs =>
  obtain⟨z,y,xs,r,g,j,i,e,c⟩:=x;exact⟨z,y,xs,Paired.mapP r λp q z=>⟨z.1,E _ _ z.2.1,z.2.2⟩,g,j,i,k _ _ (.inl rfl) e,c⟩
 | set S n=>obtain⟨g,j,i,t,e,c⟩:=x;exact⟨g,j,i,t,k _ _ (.inl rfl) e,c⟩
 | ins C dx fs =>
  obtain⟨d,z,B,e,m,⟨s,j,i,G,c⟩,r⟩:=x;exact⟨D _ d,z,B,k _ _ (.inl rfl) e,m,⟨s,j,i,k _ _ (.inr d) G,c⟩,r⟩
 | own y=>obtain⟨g,e⟩:=x;exact⟨g,k _ _ (.inl rfl) e⟩
 | xd fs=>obtain⟨m,⟨s,j,i,e,c⟩,r⟩:=x;exact⟨m,⟨s,j,i,k _ _ (.inl rfl) e,c⟩,r⟩
 | rng lo hi=>obtain⟨t,u,v,e⟩:=x;exact⟨t,u,v,k _ _ (.inl rfl) e⟩
 | frz g u ih=>obtain⟨e,q⟩:=x;exact⟨k _ _ (.inl rfl) e,ih q⟩
 | tbl ps =>
  have e:h.get? a=some { cls:=.none,data:=.fields ps }:=x;show h'.get? a=some { cls:=.none,data:=.fields ps };exact k a _ (.inl rfl) e
 | met f y =>
  have e:h.get? a=some (W.methodObj (.ref f) (.ref y)):=x;show h'.get? a=some (W.methodObj (.ref f) (.ref y));exact k a _ (.inl rfl) e
 | ext φ=>obtain⟨p,⟨o,e⟩,A⟩:=x;exact⟨A _ _ p λo q=>k _ _ (.inl rfl) q,⟨o,k _ _ (.inl rfl) e⟩,A⟩
theorem HOk.lt (x:HOk P w H h) (e:H a=some o):a<h.objs.size:=(x a o e).lt
theorem HOk.fresh (x:HOk P w H h) (e:h.objs.size<=a):H a=none:=by
 cases q:H a with
 | none=>rfl
 | some u=>exact absurd (CJ (x.lt q) e) (Df _)
theorem HOk.kept (x:HOk P w H h) (k:∀b u,h.get? b=some u->h'.get? b=some u):HOk P w H h':=λa o e =>
 (x a o e).stay (λb u _ q=>k b u q) (λ_ q=>q) λ_ _ q=>q
theorem HOk.laid (x:HOk P w H h) (k:∀b u,h.get? b=some u->h'.get? b=some u) (i:h.objs.size<=a) (d:ObjOk P w (upd H a o) h' a o):HOk P w (upd H a o) h':=λb u e=>by
 have g:=x.fresh i;by_cases f:b=a
 ·subst f;rw[ae] at e;cases e;exact d
 ·rw[ag f] at e;exact(x b u e).stay (λc v _ q=>k c v q) (λc q=>by rw[ag (ai q g)];exact q) λc j q=>by rw[ag (ai q g)];exact q
end
def Rd (H:Hp) (a:Addr) (u:HO):Prop:=H a=some u∨∃o,H a=some (.frz o u)
theorem Rd.ok (r:Rd H a u) (x:HOk P w H h):ObjOk P w H h a u:=by
 rcases r with r | ⟨o,r⟩
 ·exact x a u r
 ·obtain⟨_,q⟩:=x a _ r;exact q
def Mut:Option HO->Prop
 | some (.lst _)=>True
 | some (.dK _)=>True
 | some (.dT _)=>True
 | some (.set _ _)=>True
 | some (.ins _ _ _)=>True
 | some (.ext _)=>True
 | _=>False
section
variable {P:Program}{w:World}{H:Hp}{h h':Heap}{x e:Addr}{o':HO}
theorem HOk.write (p:HOk P w H h) (g:Mut (H x)) (he:e=x ∨ H e=some (.own x)) (k:∀b u, b ≠ e -> h.get? b=some u -> h'.get? b=some u) (n:∃u, h'.get? e=some u)
    (m:ObjOk P w (upd H x o') h' x o'):HOk P w (upd H x o') h':=λb u q=>by
 have d:∀c y,H c=some (.own y)->c≠x:=λc y r z=>by subst z;rw[r] at g;exact g
 have f:∀c l,H c=some (.tup l)->c≠x:=λc l r z=>by subst z;rw[r] at g;exact g
 by_cases i:b=x
 ·subst i;rw[ae] at q;cases q;exact m
 ·rw[ag i] at q;by_cases a:b=e
  ·have o:H b=some (.own x):=by
      rcases he with z | z
      ·exact absurd (a.trans z) i
      ·rw[a];exact z
   rw[q] at o;cases o;obtain⟨v,s⟩:=n;exact⟨v,by rw[a];exact s⟩
  ·refine(p b u q).stay (λc v j r=>k c v ?_ r) (λc r=>by rw[ag (d c b r)];exact r) λc l r=>by rw[ag (f c l r)];exact r
   rcases j with rfl | j
   ·exact a
   ·rintro rfl;rcases he with z | z
    ·exact d c b j z
    ·rw[j] at z;cases z;exact i rfl
end
structure Un (fs ex:List Addr) (H H':Hp) (h h':Heap):Prop where
 keep:∀b o,h.get? b=some o->H b=none->b∉fs->b∉ex->h'.get? b=some o
 slot:∀b o,h.get? b=some o->H b=none->b∈fs->b∉ex->∃sl,h'.get? b=some { o with slots:=sl }
 free:∀b o,h.get? b=some o->H b=none->b∉ex->H' b=none
 there:∀b o,h.get? b=some o->b∉ex->∃o',h'.get? b=some o'
 tups:∀b xs,H b=some (.tup xs)->H' b=some (.tup xs)
 frzs:∀b o u,H b=some (.frz o u)->H' b=some (.frz o u)
 tbls:∀b ps,H b=some (.tbl ps)->∃more,H' b=some (.tbl (ps++more))
section
variable {fs fs' ex ex':List Addr}{H H1 H2:Hp}{h h1 h2 h':Heap}{a x e:Addr}{o:HO}
theorem Un.any (u:Un fs ex H H1 h h1) (q:h.get? b=some z) (n:H b=none) (a:b∉ex):∃sl,h1.get? b=some { z with slots:=sl }:=by
 by_cases c:b∈fs
 ·exact u.slot b z q n c a
 ·exact⟨z.slots,u.keep b z q n c a⟩
theorem Un.kept (k:∀b u,h.get? b=some u->h'.get? b=some u):Un fs ex H H h h' :=
 ⟨λb a q _ _ _=>k b a q,λb a q _ _ _=>⟨a.slots,k b a q⟩,λ_ _ _ n _=>n,λb a q _=>⟨a,k b a q⟩,λ_ _ q=>q,λ_ _ _ q=>q,λ_ c q=>⟨#[],by rw[q];simp⟩⟩
theorem Un.refl:Un fs ex H H h h:=Un.kept λ_ _ q=>q
theorem Un.laid (k:∀b u,h.get? b=some u->h'.get? b=some u) (hp:h.objs.size<=a) (hn:H a=none):Un fs ex H (upd H a o) h h' where
 keep:=λb u q _ _ _=>k b u q
 slot:=λb u q _ _ _=>⟨u.slots,k b u q⟩
 free:=λb u q n _=>by rw[ag (Cp (CJ (BZ q) hp))];exact n
 there:=λb u q _=>⟨u,k b u q⟩
 tups:=λb xs q=>by rw[ag (ai q hn)];exact q
 frzs:=λb u xs q=>by rw[ag (ai q hn)];exact q
 tbls:=λb ps q=>⟨#[],by rw[ag (ai q hn),q];simp⟩
theorem Un.write (c:Mut (H x)) (he:e=x∨H e=some (.own x)) (k:∀b u,b≠e->h.get? b=some u->h'.get? b=some u) (d:∃u,h'.get? e=some u):Un fs ex H (upd H x o) h h':=by
 have i:∀b,H b=none->b≠x:=λb n z=>by subst z;rw[n] at c;exact c
 have g:∀b,H b=none->b≠e:=λb n z=>by
  subst z;rcases he with r | r
  ·exact i b n r
  ·rw[n] at r;cases r
 have f:∀b u,H b=some u->¬ Mut (some u)->b≠x:=λb u q j z=>by subst z;rw[q] at c;exact j c
 refine⟨λb u q n _ _=>k b u (g b n) q,λb u q n _ _=>⟨u.slots,k b u (g b n) q⟩,λb u q n _=>by rw[ag (i b n)];exact n,λb u q _=>?_,
  λb l q=>by rw[ag (f b _ q λz=>z)];exact q,λb u l q=>by rw[ag (f b _ q λz=>z)];exact q,λb m q=>⟨#[],by rw[ag (f b _ q λz=>z),q];simp⟩⟩
 by_cases a:b=e
 ·subst a;exact d
 ·exact⟨u,k b u a q⟩
end
def trk (h:Heap) (H:Hp):List Addr:=(List.range h.objs.size).filter λa=>(H a).isSome
def hF (h:Heap) (H:Hp):Heap:=W.hideAll h (trk h H)
theorem uK (h:Heap) (H:Hp):(hF h H).objs.size=h.objs.size:=W.hideAll_size _ _
theorem vH (e:h.get? b=some o) (n:H b=none):(hF h H).get? b=some o :=
 W.hideAll_get _ e λa=>by
  have q:(H b).isSome=true:=(Cg.mp a).2;rw[n] at q;simp at q
theorem yh (e:(hF h H).get? b=some o):h.get? b=some o/\H b=none:=by
 have a:h.get? b=some o:=W.of_hideAll (trk h H) e;refine⟨a,?_⟩;cases q:H b with
 | none=>rfl
 | some x =>
  have c:b∈trk h H:=Cg.mpr ⟨CL.mpr (BZ a),by simp[q]⟩;have z:(hF h H).get? b=none:=W.hideAll_none (trk h H) c;rw[z] at e;cases e
def zm (g h:Heap) (L:Addr):AO_:=(List.range h.objs.size).filterMap λa=>if a=L∨(g.get? a).isSome=true then none else (h.get? a).map λo=>(a,o)
def bL (g h:Heap) (L d:Addr):AO_:=(zm g h L).filter λp=>decide (p.1≠d)
structure Mod (K:W.Frag) (mg:MS) (base:Heap):Prop where
 kin:K.In base
 glob:base.Ns mainGlobals mg
 blt:∃mb,base.Ns builtinsNs mb/\∀x:Str,x≠"__name__"->mb x=bootBuiltins x
 nolimit:base.NoLimit
structure Cx where
 prog:Program
 w:World
 K:W.Frag
 mg:MS
 base:Heap
 A:Around
 N:LS
 s₀:Shared
 H₀:Hp
 env:Env
 outer:List Env
 stack:List Env
 ex:List Addr
 fn:Str->Bool
 calm:Bool
 pn:AO_
 xe:QS
def frs (l:List Env):List Addr:=l.filterMap (·.frame)
abbrev Cx.fs (X:Cx):List Addr:=frs X.outer
def Vis (sc:Scope) (x:Str):Prop:=sc.names.lookup x=some .local∨sc.names.lookup x=some .cell∨sc.names.lookup x=some .free
def Loc (sc:Scope) (x:Str):Prop:=sc.names.lookup x=some .local∨sc.names.lookup x=some .cell
def Look (env:Env) (h:Heap) (m:MS) (x:Str) (u:Value):Prop :=
 (env.kindOf x=some .local/\m x=some u)∨((env.kindOf x=some .cell∨env.kindOf x=some .free)/\∃c,env.cells.lookup x=some c/\h.IsCell c (some u))
structure Cx.Ok (X:Cx):Prop where
 mod:Mod X.K X.mg X.base
 kind:X.env.scope.kind=.function
 glob:X.env.globals=mainGlobals
 blt:X.env.builtins=builtinsNs
 above:X.s₀.heap.objs.size<=X.env.locals
 inj:∀x y c,X.env.cells.lookup x=some c->X.env.cells.lookup y=some c->x=y
 has:∀x,(X.env.kindOf x=some .cell∨X.env.kindOf x=some .free)->∃c,X.env.cells.lookup x=some c
 cab:∀x c,X.fn x=true->X.env.cells.lookup x=some c->X.s₀.heap.objs.size<=c
 hd:X.calm=true->X.A.handled=none
 frames:X.A.frames=some X.stack
 stk:X.stack=X.outer∨(X.stack=X.env::X.outer/\X.env.frame=some X.env.locals)
 exf:∀b∈X.ex,b≠X.env.locals/\∀x c,X.env.cells.lookup x=some c->c≠b
 bs:∀b o,X.base.get? b=some o->X.s₀.heap.get? b=some o/\X.H₀ b=none
 bsz:X.base.objs.size<=X.s₀.heap.objs.size
 noex:∀b o,X.base.get? b=some o->b∉X.ex
 exfs:∀b∈X.ex,b∉X.fs
 funs:X.s₀.heap.FunFrames X.base X.outer
 frf:∀b∈X.fs,X.H₀ b=none
structure Inv (X:Cx) (pins:AO_) (σ:List (Option V)) (H:Hp) (s:Shared):Prop where
 ok:X.Ok
 os:s.os=X.s₀.os
 bare:AllBare s.gens
 base:Un X.fs X.ex X.H₀ H X.s₀.heap s.heap
 loc:∃m,s.heap.Ns X.env.locals m/\∀(i:Nat) (x:Str) (v:V),X.N[i]? = some x->σ[i]? = some (some v)->Vis X.env.scope x->∃u,RelV v u/\Look X.env s.heap m x u
 cell:∀x c,X.env.cells.lookup x=some c->∃v,s.heap.IsCell c v
 free:H X.env.locals=none
 freeC:∀x c,X.env.cells.lookup x=some c->H c=none
 pin:∀p∈X.pn++pins,s.heap.get? p.1=some p.2/\H p.1=none/\p.1≠X.env.locals/\p.1∉X.fs/\∀v,p.2.data≠.cell v
 hok:HOk X.prog X.w H s.heap
 len:σ.length=X.N.length
section
variable {X:Cx}{pins:AO_}{σ:List (Option V)}{H H':Hp}{s:Shared}{h':Heap}
theorem Cx.Ok.nofr (a:X.Ok) (e:X.base.get? b=some o):b∉X.fs:=λc=>by
 have:=(a.funs.mem c).1;rw[e] at this;cases this
theorem Inv.bs (I:Inv X pins σ H s):∀b o,X.base.get? b=some o->s.heap.get? b=some o/\H b=none:=λb o e =>
 ⟨I.base.keep b o (I.ok.bs b o e).1 (I.ok.bs b o e).2 (I.ok.nofr e) (I.ok.noex b o e),I.base.free b o (I.ok.bs b o e).1 (I.ok.bs b o e).2 (I.ok.noex b o e)⟩
theorem Inv.bk (I:Inv X pins σ H s):∀b o,X.base.get? b=some o->s.heap.get? b=some o:=λb o e=>(I.bs b o e).1
theorem Inv.mod (I:Inv X pins σ H s):Mod X.K X.mg X.base:=I.ok.mod
theorem Inv.kIn (I:Inv X pins σ H s):X.K.In s.heap:=I.ok.mod.kin.keeps I.bk
theorem Inv.lt (I:Inv X pins σ H s):X.env.locals<s.heap.objs.size:=let ⟨_,a,_⟩:=I.loc;a.lt
theorem Inv.sz (I:Inv X pins σ H s):X.s₀.heap.objs.size<=s.heap.objs.size:=Cn I.ok.above (CP I.lt)
theorem Inv.nofs (I:Inv X pins σ H s) (h:s.heap.objs.size<=a):a∉X.fs:=λc=>by
 obtain⟨_,o,b,_⟩:=I.ok.funs.mem c;exact absurd (CJ (BZ b) (Cn I.sz h)) (Df _)
theorem Inv.cne (I:Inv X pins σ H s):∀x c,X.env.cells.lookup x=some c->c≠X.env.locals:=λx c e z=>by
 obtain⟨v,o,f,d⟩:=I.cell x c e;obtain⟨m,⟨g,i,h,a,b,_⟩,_⟩:=I.loc;rw[z,a] at f;cases f;rw[b] at d;cases d
theorem Inv.funs (I:Inv X pins σ H s):s.heap.FunFrames X.base X.outer := by
 have a:∀(l:List Env),(∀b∈frs l,b∈X.fs)->X.s₀.heap.FunFrames X.base l->s.heap.FunFrames X.base l:=by
  intro l
  induction l with
  | nil=>intro _ _;trivial
  | cons env r ih =>
   intro g i;obtain⟨k,⟨L,o,c,j,h,n⟩,m⟩:=i;have d:L∈X.fs:=g L (by unfold frs;rw[List.filterMap_cons,c];exact CW);obtain⟨p,e⟩:=I.base.slot L o h (I.ok.frf L d) d λz=>I.ok.exfs L z d;exact⟨k,⟨L,_,c,j,e,n⟩,ih (λb f=>g b (by unfold frs;rw[List.filterMap_cons,c];exact Cw _ f)) m⟩
 exact a X.outer (λ_ f=>f) I.ok.funs
theorem Inv.stack (I:Inv X pins σ H s):s.heap.FunFrames X.base X.stack:=by
 rcases I.ok.stk with e | ⟨e,a⟩
 ·rw[e];exact I.funs
 ·rw[e];obtain⟨m,b,_⟩:=I.loc;refine .cons (by rw[I.ok.kind];decide) a b ?_ I.funs;exact El (Cn I.ok.bsz I.ok.above)
theorem Inv.stkSub (I:Inv X pins σ H s):∀b∈frs X.stack,b∈X.env.locals::X.fs:=λb a=>by
 rcases I.ok.stk with e | ⟨e,c⟩
 ·rw[e] at a;exact Cw _ a
 ·rw[e] at a;unfold frs at a;rw[List.filterMap_cons,c] at a;exact a
theorem Inv.stkFree (I:Inv X pins σ H s):∀b∈frs X.stack,H b=none:=λb a=>by
 rcases Cm.mp (I.stkSub b a) with e | a
 ·rw[e];exact I.free
 ·obtain⟨_,o,c,_⟩:=I.ok.funs.mem a;exact I.base.free b o c (I.ok.frf b a) λz=>I.ok.exfs b z a
theorem Inv.step {g':Array GenState}{t':Nat}{d':Drawn}{ch:List Addr}(I:Inv X pins σ H s)
    (j:∀b∈ch,(b∈X.ex∨X.s₀.heap.objs.size<=b)/\b≠X.env.locals/\(∀x c,X.env.cells.lookup x=some c->c≠b)/\∀p∈X.pn++pins,p.1≠b)
    (t:∀b o,b≠X.env.locals->b∉X.fs->b∉ch->s.heap.get? b=some o->H b=none->h'.get? b=some o)
    (A:∀b o,b≠X.env.locals->b∈X.fs->b∉ch->s.heap.get? b=some o->H b=none->∃sl,h'.get? b=some { o with slots:=sl }) (f:∀b o,b∉ch->s.heap.get? b=some o->H b=none->H' b=none)
    (B:∀b o,b∉ch->s.heap.get? b=some o->∃o',h'.get? b=some o')
    (F:∀b xs,H b=some (.tup xs)->H' b=some (.tup xs)) (L:∀b o u,H b=some (.frz o u)->H' b=some (.frz o u)) (E:∀b ps,H b=some (.tbl ps)->∃G,H' b=some (.tbl (ps++G)))
    (ns:∀m,s.heap.Ns X.env.locals m->h'.Ns X.env.locals m) (O:HOk X.prog X.w H' h') (Y:AllBare g') :
    Inv X pins σ H' { s with heap:=h',gens:=g',drawn:=d',toks:=t' }:=by
 have J:∀b o,X.s₀.heap.get? b=some o->b≠X.env.locals:=λb o e=>Cp (CJ (BZ e) I.ok.above);have y:∀b o,X.s₀.heap.get? b=some o->b∉X.ex->b∉ch:=λb o e a C=>by
  rcases (j b C).1 with z | z
  ·exact a z
  ·exact absurd (CJ (BZ e) z) (Df _)
 have h:∀x c,X.env.cells.lookup x=some c->∀v,s.heap.IsCell c v->h'.IsCell c v:=λx c e v ⟨o,D,N⟩=>by
  have g:c∉ch:=λz=>(j c z).2.2.1 x c e rfl;by_cases R:c∈X.fs
  ·obtain⟨sl,q⟩:=A c o (I.cne x c e) R g D (I.freeC x c e);exact⟨_,q,N⟩
  ·exact⟨o,t c o (I.cne x c e) R g D (I.freeC x c e),N⟩
 refine⟨I.ok,I.os,Y,⟨λb o e n C a=>?_,λb o e n C a=>?_,λb o e n a=>?_,λb o e a=>?_,λb xs e=>F b xs (I.base.tups b xs e),λb o xs e=>L b o xs (I.base.frzs b o xs e),λb ps e=>?_⟩,?_,λx c e=>?_,?_,λx c e=>?_,λp S=>?_,O,I.len⟩
 ·exact t b o (J b o e) C (y b o e a) (I.base.keep b o e n C a) (I.base.free b o e n a)
 ·obtain⟨sl,w⟩:=I.base.slot b o e n C a;obtain⟨M,K⟩:=A b _ (J b o e) C (y b o e a) w (I.base.free b o e n a);exact⟨M,K⟩
 ·obtain⟨o',w⟩:=I.base.there b o e a;exact f b o' (y b o e a) w (I.base.free b o e n a)
 ·obtain⟨o',w⟩:=I.base.there b o e a;exact B b o' (y b o e a) w
 ·obtain⟨Z,w⟩:=I.base.tbls b ps e;obtain⟨W,K⟩:=E b _ w;exact⟨Z++W,by rw[K,Array.append_assoc]⟩
 ·obtain⟨m,V,U⟩:=I.loc;refine⟨m,ns m V,λi x v w K T=>?_⟩;obtain⟨u,r,l⟩:=U i x v w K T;refine⟨u,r,?_⟩;rcases l with l | ⟨k,c,e,z⟩
  ·exact .inl l
  ·exact .inr ⟨k,c,e,h x c e _ z⟩
 ·obtain⟨v,z⟩:=I.cell x c e;exact⟨v,h x c e v z⟩
 ·obtain⟨m,⟨o,_,_,D,_⟩,_⟩:=I.loc;exact f _ o (λz=>(j _ z).2.1 rfl) D I.free
 ·obtain⟨v,o,D,N⟩:=I.cell x c e;exact f c o (λz=>(j c z).2.2.1 x c e rfl) D (I.freeC x c e)
 ·obtain⟨e,n,P,Q,d⟩:=I.pin p S;have g:p.1∉ch:=λz=>(j p.1 z).2.2.2 p S rfl;exact⟨t p.1 p.2 P Q g e n,f p.1 p.2 g e n,P,Q,d⟩
theorem Inv.un {t':Nat}(I:Inv X pins σ H s) (u:Un X.fs [] H H' s.heap h') (d:HOk X.prog X.w H' h'):Inv X pins σ H' { s with heap:=h',toks:=t' }:=by
 obtain⟨m,⟨o,q,p,h,r⟩,_⟩:=id I.loc;obtain⟨t,k⟩:=u.any h I.free (by simp);exact I.step (g':=s.gens) (d':=s.drawn) (ch:=[]) (λ_ z=>nomatch z) (λb o _ g _ e n=>u.keep b o e n g (by simp)) (λb o _ g _ e n=>u.slot b o e n g (by simp)) (λb o _ e n=>u.free b o e n (by simp)) (λb o _ e=>u.there b o e (by simp)) u.tups u.frzs u.tbls (λv i=>by
  obtain⟨l,c,f,a,j⟩:=i;rw[h] at a;cases a;exact⟨_,c,f,k,j⟩) d I.bare
theorem Inv.call {g':Array GenState}{t':Nat}{d':Drawn}{ch:List Addr}(I:Inv X pins σ H s) (u:Un (frs X.stack) ch H H' s.heap h') (h:HOk X.prog X.w H' h') (q:AllBare g')
    (f:∀b∈ch,(b∈X.ex∨X.s₀.heap.objs.size<=b)/\b≠X.env.locals/\(∀x c,X.env.cells.lookup x=some c->c≠b)/\∀p∈X.pn++pins,p.1≠b) :
    Inv X pins σ H' { s with heap:=h',gens:=g',drawn:=d',toks:=t' }:=by
 obtain⟨m,⟨o,A,y,k,r⟩,_⟩:=id I.loc;obtain⟨B,j⟩:=u.any k I.free λz=>(f _ z).2.1 rfl;exact I.step (ch:=ch) f (λb o j v a e n=>u.keep b o e n (λz=>(Cm.mp (I.stkSub b z)).elim j v) a) (λb o _ _ a e n=>u.any e n a) (λb o a e n=>u.free b o e n a) (λb o a e=>u.there b o e a) u.tups u.frzs u.tbls (λC l=>by
  obtain⟨w,g,i,d,t⟩:=l;rw[k] at d;cases d;exact⟨_,g,i,j,t⟩) h q
theorem Inv.turned {t':Nat}(I:Inv X pins σ H s) (k:∀b o,b≠it->s.heap.get? b=some o->h'.get? b=some o) (l:H it=none) (f:it≠X.env.locals)
    (i:it∈X.ex∨X.s₀.heap.objs.size<=it) (A:∀x c,X.env.cells.lookup x=some c->c≠it) (h:∀p∈X.pn++pins,p.1≠it):Inv X pins σ H { s with heap:=h',toks:=t' }:=by
 have d:∀b u,H b=some u->b≠it:=λb u e z=>by rw[z,l] at e;cases e
 refine I.step (g':=s.gens) (d':=s.drawn) (ch:=[it]) (λb y=>?_) (λb o _ _ a e _=>k b o (λz=>a (by simp[z])) e) (λb o _ _ a e _=>⟨o.slots,k b o (λz=>a (by simp[z])) e⟩) (λ_ _ _ _ n=>n)
  (λb o a e=>⟨o,k b o (λz=>a (by simp[z])) e⟩) (λ_ _ e=>e) (λ_ _ _ e=>e) (λb B e=>⟨#[],by rw[e];simp⟩) (λm j=>?_) (λb u e=>?_) I.bare
 ·have e:b=it:=by simpa using y
  subst e;exact⟨i,f,A,h⟩
 ·obtain⟨o,w,t,g,r⟩:=j;exact⟨o,w,t,k _ o (Ne.symm f) g,r⟩
 ·refine(I.hok b u e).stay (λc v a q=>k c v ?_ q) (λ_ q=>q) λ_ _ q=>q;rcases a with z | z
  ·rw[z];exact d b u e
  ·exact d c _ z
theorem Inv.tok (I:Inv X pins σ H s) (t:Nat):Inv X pins σ H { s with toks:=t }:=I.un (h':=s.heap) (t':=t) Un.refl I.hok
theorem Inv.kept (I:Inv X pins σ H s) (k:∀b u,s.heap.get? b=some u->h'.get? b=some u):Inv X pins σ H { s with heap:=h',toks:=t' }:=I.un (Un.kept k) (I.hok.kept k)
theorem Inv.laid (I:Inv X pins σ H s) (k:∀b u,s.heap.get? b=some u->h'.get? b=some u) (c:s.heap.objs.size<=a) (d:ObjOk X.prog X.w (upd H a o) h' a o) :
    Inv X pins σ (upd H a o) { s with heap:=h',toks:=t' }:=I.un (Un.laid k c (I.hok.fresh c)) (I.hok.laid k c d)
theorem Inv.write (I:Inv X pins σ H s) (d:Mut (H x)) (he:e=x∨H e=some (.own x)) (k:∀b u,b≠e->s.heap.get? b=some u->h'.get? b=some u) (a:∃u,h'.get? e=some u)
    (c:ObjOk X.prog X.w (upd H x o) h' x o):Inv X pins σ (upd H x o) { s with heap:=h',toks:=t' }:=I.un (Un.write d he k a) (I.hok.write d he k a c)
theorem Inv.pins_of (I:Inv X pins σ H s) (h:∀p∈pins',s.heap.get? p.1=some p.2/\H p.1=none/\p.1≠X.env.locals/\p.1∉X.fs/\∀v,p.2.data≠.cell v):Inv X pins' σ H s :=
 ⟨I.ok,I.os,I.bare,I.base,I.loc,I.cell,I.free,I.freeC,λp a=>(Cb.mp a).elim (λz=>I.pin p (CM _ z)) (h p),I.hok,I.len⟩
theorem jh {N:LS}(c:N.Nodup) {i j:Nat}{x:Str}(a:N[i]? = some x) (b:N[j]? = some x):i=j:=by
 obtain⟨f,d⟩:=BU.mp a;obtain⟨g,e⟩:=BU.mp b;exact(List.getElem_inj c).mp (d.trans e.symm)
theorem lO {M:Model}{i:Nat}{x:Str}{Q:Unit -> Shared -> Prop}(I:Inv X pins σ H s) (hN:X.N.Nodup) (T:X.N[i]? = some x) (w:Loc X.env.scope x) (r:RelV v u)
    (h:∀s',Inv X pins (σ.set i (some v)) H s'->(∃a,Heap.SameBut a s.heap s'.heap/\(a=X.env.locals∨X.env.cells.lookup x=some a))->Q () s') (hf:X.fn x=true∨X.env.scope.names.lookup x=some .local:=by first | exact .inl rfl | exact .inr rfl | assumption):wpAny M A (storeName X.env x u) Q E s:=by
 obtain⟨m,hn,hl⟩:=id I.loc;have U:(X.env.scope.kind==.class||(X.env.scope.kind==.module&&X.env.locals != X.env.globals))=false:=by rw[I.ok.kind];rfl
 have F:i<σ.length:=by rw[I.len];exact(BU.mp T).1
 have L:=I.cne;have l:∀ {a:Addr} {N:Heap},(∃o,s.heap.get? a=some o/\H a=none)->Heap.SameBut a s.heap N->HOk X.prog X.w H N:=λ{a N} ha f b ob e=>by
  obtain⟨_,_,B⟩:=ha;refine(I.hok b ob e).stay (λc Y t q=>(f.2 c ?_).trans q) (λ_ q=>q) λ_ _ q=>q;rintro rfl;rcases t with rfl | t
  ·rw[B] at e;cases e
  ·rw[B] at t;cases t
 rcases w with D | D
 ·refine wpAny_storeName_local D hn (λN a1 f => ?_) U;obtain⟨oL,_,_,a0,_⟩:=id hn;refine h _ ⟨I.ok,I.os,I.bare,⟨λb o e n K w=>?_,λb o e n K w=>?_,I.base.free,λb o e w=>?_,I.base.tups,I.base.frzs,I.base.tbls⟩,⟨_,a1,λj y v' g C e3=>?_⟩,λy c e=>?_,I.free,I.freeC,λp hp=>?_,l ⟨oL,a0,I.free⟩ f,by simpa using I.len⟩ ⟨_,f,.inl rfl⟩
  ·exact(f.2 b (Cp (CJ (BZ e) I.ok.above))).trans (I.base.keep b o e n K w)
  ·obtain⟨sl,g⟩:=I.base.slot b o e n K w;exact⟨sl,(f.2 b (Cp (CJ (BZ e) I.ok.above))).trans g⟩
  ·obtain⟨Z,g⟩:=I.base.there b o e w;exact⟨Z,(f.2 b (Cp (CJ (BZ e) I.ok.above))).trans g⟩
  ·by_cases G:j=i
   ·subst G;rw[T] at g;cases g;rw[DX F] at C;cases C;exact⟨u,r,.inl ⟨D,by simp⟩⟩
   ·rw[DY (Ne.symm G)] at C;obtain⟨u',r',q⟩:=hl j y v' g C e3;refine⟨u',r',?_⟩;rcases q with⟨k,e⟩ | ⟨k,c,e,z⟩
    ·refine .inl ⟨k,?_⟩;have:y≠x:=λe=>G (jh hN g (e ▸ T));simp[this,e]
    ·exact .inr ⟨k,c,e,z.sameBut f (L y c e)⟩
  ·obtain⟨Y,z⟩:=I.cell y c e;exact⟨Y,z.sameBut f (L y c e)⟩
  ·obtain⟨e,n,V,nf,d⟩:=I.pin p hp;exact⟨(f.2 p.1 V).trans e,n,V,nf,d⟩
 ·have J:X.fn x=true := by
     rcases hf with z | z
     ·exact z
     ·rw[z] at D;cases D
  obtain⟨c,t⟩:=I.ok.has x (.inl D);obtain⟨Y,z⟩:=I.cell x c t;refine wpAny_storeName_cell I.ok.kind D t z (λN R f=>?_);obtain⟨oc,O,S⟩:=id z;refine h { s with heap:=N } ⟨I.ok,I.os,I.bare,⟨λb o e n K w=>?_,λb o e n K w=>?_,I.base.free,λb o e w=>?_,I.base.tups,I.base.frzs,I.base.tbls⟩,⟨m,hn.sameBut f (Ne.symm (L x c t)),λj y v' g C e3=>?_⟩,λy W e=>?_,I.free,I.freeC,λp hp=>?_,l ⟨oc,O,I.freeC x c t⟩ f,by simpa using I.len⟩ ⟨c,f,.inr t⟩
  ·exact(f.2 b (Cp (CJ (BZ e) (I.ok.cab x c J t)))).trans (I.base.keep b o e n K w)
  ·obtain⟨sl,g⟩:=I.base.slot b o e n K w;exact⟨sl,(f.2 b (Cp (CJ (BZ e) (I.ok.cab x c J t)))).trans g⟩
  ·obtain⟨Z,g⟩:=I.base.there b o e w;exact⟨Z,(f.2 b (Cp (CJ (BZ e) (I.ok.cab x c J t)))).trans g⟩
  ·by_cases G:j=i
   ·subst G;rw[T] at g;cases g;rw[DX F] at C;cases C;exact⟨u,r,.inr ⟨.inl D,c,t,R⟩⟩
   ·rw[DY (Ne.symm G)] at C;obtain⟨u',r',q⟩:=hl j y v' g C e3;refine⟨u',r',?_⟩;rcases q with q | ⟨k,W,e,z'⟩
    ·exact .inl q
    ·refine .inr ⟨k,W,e,z'.sameBut f ?_⟩;rintro rfl;exact G (jh hN g (I.ok.inj _ _ _ e t ▸ T))
  ·by_cases P:W=c
   ·subst P;exact⟨_,R⟩
   ·obtain⟨w2,z2⟩:=I.cell y W e;exact⟨w2,z2.sameBut f P⟩
  ·obtain⟨e,n,V,nf,d⟩:=I.pin p hp;refine⟨(f.2 p.1 ?_).trans e,n,V,nf,d⟩;intro q;rw[q,O] at e;have q':oc=p.2:=BV e;exact d Y (by rw[<- q'];exact S)
theorem fJ (I:Inv X pins σ H s) (b:X.N.Nodup) (a:X.N[i]? = some x) (e:Loc X.env.scope x) (r:RelV v u)
    (h:∀s',Inv X pins (σ.set i (some v)) H s'->Q () s') (d:X.fn x=true∨X.env.scope.names.lookup x=some .local:=by first | exact .inl rfl | exact .inr rfl | assumption):wpAny M A (storeName X.env x u) Q E s :=
 lO I b a e r (λs' c _=>h s' c) d
theorem Inv.call' (I:Inv X pins σ H s) (g:s'.os=s.os) (u:Un (frs X.stack) ch H H' s.heap s'.heap) (d:HOk X.prog X.w H' s'.heap) (h:AllBare s'.gens)
    (a:∀b∈ch,(b∈X.ex∨X.s₀.heap.objs.size<=b)/\b≠X.env.locals/\(∀x c,X.env.cells.lookup x=some c->c≠b)/\∀p∈X.pn++pins,p.1≠b):Inv X pins σ H' s':=by
 obtain⟨i,g',d',t',f⟩:=s';have e:f=s.os:=g;subst e;exact I.call (g':=g') (t':=t') (d':=d') u d h a
end
abbrev XK:=Value->Option Addr->Hp->Prop
abbrev St:=List (Option V)
abbrev _root_.SH:=St->Hp->Prop
abbrev VK:=V->Hp->Prop
abbrev TE:=St->Hp->VK->Prop
abbrev TT:=St->Hp->(Bool->Hp->Prop)->Prop
abbrev TA:=St->Hp->(LV->Hp->Prop)->Prop
structure Ends where
 nx:SH
 rt:VK
 bk:SH:=λ_ _=>False
 ct:SH:=λ_ _=>False
abbrev TS:=Ends->SH
def EP (X:Cx) (pins:AO_) (σ:St) (Q:VK) (u:Value) (s':Shared):Prop:=∃v H',Inv X pins σ H' s'/\RelV v u/\Q v H'
def TP (X:Cx) (pins:AO_) (σ:St) (Q:Bool->Hp->Prop) (b:Bool) (s':Shared):Prop:=∃H',Inv X pins σ H' s'/\Q b H'
def AP (X:Cx) (pins:AO_) (σ:St) (Q:LV->Hp->Prop) (us:LW) (s':Shared):Prop:=∃vs H',Inv X pins σ H' s'/\Vals vs us/\Q vs H'
def SP (X:Cx) (pins:AO_) (D:Ends) (f:Flow) (s':Shared):Prop :=
 match f with
 | .next=>∃σ' H',Inv X pins σ' H' s'/\D.nx σ' H'
 | .brk=>∃σ' H',Inv X pins σ' H' s'/\D.bk σ' H'
 | .cont=>∃σ' H',Inv X pins σ' H' s'/\D.ct σ' H'
 | .ret u=>∃v σ' H',Inv X pins σ' H' s'/\RelV v u/\D.rt v H'
def PE (X:Cx) (e:Expr) (t:TE):Prop :=
 ∀(pins:AO_) (s:Shared) (σ:St) (H:Hp) (Q:VK),Inv X pins σ H s->t σ H Q->wpAny (model X.prog X.w) X.A (eval e X.env) (EP X pins σ Q) X.xe s
def PT (X:Cx) (e:Expr) (t:TT):Prop :=
 ∀(pins:AO_) (s:Shared) (σ:St) (H:Hp) (Q:Bool->Hp->Prop),Inv X pins σ H s->t σ H Q->wpAny (model X.prog X.w) X.A (isTrue e X.env (eval e X.env)) (TP X pins σ Q) X.xe s
def PW (X:Cx) (e:Expr) (t:TT):Prop :=
 ∀(whole:Sem Value) (pins:AO_) (s:Shared) (σ:St) (H:Hp) (Q:Bool->Hp->Prop),Inv X pins σ H s->t σ H Q->wpAny (model X.prog X.w) X.A (isTrue e X.env whole) (TP X pins σ Q) X.xe s
theorem PW.pt (h:PW X e t):PT X e t:=h _
def PA (X:Cx) (es:List Expr) (t:TA):Prop :=
 ∀(pos:Pos) (pins:AO_) (s:Shared) (σ:St) (H:Hp) (Q:LV->Hp->Prop),Inv X pins σ H s->t σ H Q->wpAny (model X.prog X.w) X.A (spliced (backTo pos (starEach es X.env))) (AP X pins σ Q) X.xe s
def PS (X:Cx) (st:Stmt) (t:TS):Prop :=
 ∀(pins:AO_) (s:Shared) (σ:St) (H:Hp) (D:Ends),Inv X pins σ H s->t D σ H->wpAny (model X.prog X.w) X.A (exec st X.env) (SP X pins D) X.xe s
def PSs (X:Cx) (st:List Stmt) (t:TS):Prop :=
 ∀(pins:AO_) (s:Shared) (σ:St) (H:Hp) (D:Ends),Inv X pins σ H s->t D σ H->wpAny (model X.prog X.w) X.A (execs st X.env) (SP X pins D) X.xe s
theorem thn (h:wpAny M A t Q E s) (b:∀a s,Q a s->z a s):wpAny M A t z E s:=CY h b λ_ _ x=>x
section
variable {X:Cx}
theorem bin (g:PE X a ta) (c:PE X b tb) {R:V->V->Hp->Prop}(I:Inv X pins σ H s) (h:ta σ H λx H1=>tb σ H1 λy H2=>R x y H2)
    {α:Type} {Q:α->Shared->Prop} {f:Value->Value->Sem α}
    (k:∀v u J x y H2,Inv X pins σ H2 J->RelV x v->RelV y u->R x y H2->wpAny (model X.prog X.w) X.A (f v u) Q X.xe J) :
    wpAny (model X.prog X.w) X.A (eval a X.env) (λv z=>wpAny (model X.prog X.w) X.A (eval b X.env) (λu G=>wpAny (model X.prog X.w) X.A (f v u) Q X.xe G) X.xe z) X.xe s:=by
 refine thn (g pins s σ H _ I h) λv n ⟨x,H1,e,i,l⟩=>?_;refine thn (c pins n σ H1 _ e l) λu J ⟨y,H2,d,j,m⟩=>?_;exact k v u J x y H2 d i j m
def AX (i:Nat):TE:=λσ H Q=>∃v,σ[i]? = some (some v)/\Q v H
def tC (v:V):TE:=λ_ H Q=>Q v H
theorem Ae (n:X.N[i]? = some x) (w:Vis X.env.scope x) (j:autoParam ((x==("__debug__":Str))=false) aD9) (g:autoParam ((x==("__classdict__":Str))=false) aD9):PE X (.Name x pos) (AX i):=by
 intro f s t H Q I h;obtain⟨v,e,h⟩:=h;obtain⟨m,q,o⟩:=I.loc;obtain⟨u,r,l⟩:=o i x v n e w;have b:EP X f t Q u s:=⟨v,H,I,r,h⟩
 rcases l with⟨d,p⟩ | ⟨d,c,k,a⟩
 ·exact wpAny_Name (wpAny_loadName_local I.ok.kind d q p b) j
 ·rcases d with d | d
  ·exact wpAny_Name (wpAny_loadName_cell I.ok.kind d k a b) j
  ·exact wpAny_Name (wpAny_loadName_free I.ok.kind d k a b g) j
theorem ac {i j pos}:PE X (.Constant (.int i) j pos) (tC (.int i)):=λ_ _ _ H _ I h=>wpAny_Constant_int ⟨.int i,H,I.tok _,⟨_,rfl⟩,h⟩
theorem se {b j pos}:PE X (.Constant (.bool b) j pos) (tC (.bl b)):=λ_ _ _ H _ I h=>Constant_bool ⟨.bl b,H,I,rfl,h⟩
theorem cm {j pos}:PE X (.Constant .none j pos) (tC .non):=λ_ _ _ H _ I h=>Constant_none ⟨.non,H,I,rfl,h⟩
theorem aA {x j pos}:PE X (.Constant (.str x) j pos) (tC (.str x)):=λ_ _ _ H _ I h=>Calls.Constant_str ⟨.str x,H,I.tok _,⟨_,rfl⟩,h⟩
def Gl (X:Cx) (x:Str):Prop:=X.env.kindOf x=some .globalImplicit
theorem gP (I:Inv X pins σ H s) (c:Gl X x) (b:X.mg x=some u) (h:Q u s)
    (a:autoParam ((x==("__debug__":Str))=false) aD9):wpAny (model X.prog X.w) X.A (eval (.Name x pos) X.env) Q E s :=
 Calls.Name_function_global I.ok.kind c (Calls.loadGlobal_global (by rw[I.ok.glob];exact I.mod.glob.keeps I.bk) b h) a
theorem du (I:Inv X pins σ H s) (c:Gl X x) (e:X.mg x=none) (b:bootBuiltins x=some u) (h:Q u s)
    (f:autoParam (x≠"__name__") aD9) (a:autoParam ((x==("__debug__":Str))=false) aD9):wpAny (model X.prog X.w) X.A (eval (.Name x pos) X.env) Q E s:=by
 obtain⟨i,d,g⟩:=I.mod.blt;exact Calls.Name_function_global I.ok.kind c (Calls.loadGlobal_builtin (by rw[I.ok.glob];exact I.mod.glob.keeps I.bk) e (by rw[I.ok.blt];exact d.keeps I.bk) ((g x f).trans b) h) a
theorem eK (b:Gl X x) (c:X.mg x=some u) (r:RelV v u) (a:autoParam ((x==("__debug__":Str))=false) aD9):PE X (.Name x pos) (tC v) :=
 λ_ _ _ H _ I h=>gP I b c ⟨v,H,I,r,h⟩ a
theorem kY (c:Gl X x) (d:X.mg x=none) (b:bootBuiltins x=some u) (r:RelV v u) (e:autoParam (x≠"__name__") aD9) (a:autoParam ((x==("__debug__":Str))=false) aD9):PE X (.Name x pos) (tC v) :=
 λ_ _ _ H _ I h=>du I c d b ⟨v,H,I,r,h⟩ e a
variable {a b:Expr}{ta tb:TE}{pos:Pos}
def tB (t:TE):TT:=λσ H Q=>t σ H λx H1=>∃c,x=.bl c/\Q c H1
theorem dF (h:PE X e t) (he:∀z,isTrue e X.env z=(do let v ← z;standAt e.pos;holding [v] (truthy v)):=by intro _;rfl):PT X e (tB t):=by
 intro a s c H Q I b;refine isTrue_plain (thn (h a s c H _ I b) λv k ⟨x,f,g,i,j⟩=>?_) (he _);obtain⟨d,rfl,q⟩:=j;cases i;exact wpAny_truthy_bool ⟨f,g,q⟩
variable {tA tB':TT}{bL:List Expr}
def tAnd (t u:TT):TT:=λσ H Q=>t σ H λc H1=>if c=true then u σ H1 Q else Q false H1
def tOr (t u:TT):TT:=λσ H Q=>t σ H λc H1=>if c=true then Q true H1 else u σ H1 Q
def tNot (t:TT):TT:=λσ H Q=>t σ H λc H1=>Q (!c) H1
theorem bR (f:PT X a tA):PW X (.BoolOp .And [a] pos) tA:=by
 intro g b s d H Q I h;refine isTrue_and (thn (f b s d H Q I h) λc i e=>?_);cases c with
 | true=>exact isTrue_and_nil e
 | false=>exact e
theorem gE (f:PT X a tA):PW X (.BoolOp .Or [a] pos) tA:=by
 intro g b s d H Q I h;refine isTrue_or (thn (f b s d H Q I h) λc i e=>?_);cases c with
 | false=>exact isTrue_or_nil e
 | true=>exact e
theorem ck (k:PT X a tA) (l:PW X (.BoolOp .And (b::bL) pos) tB'):PW X (.BoolOp .And (a::b::bL) pos) (tAnd tA tB'):=by
 intro j d s e H Q I h;refine isTrue_and (thn (k d s e H _ I h) λc m ⟨f,g,i⟩=>?_);cases c with
 | true=>exact l j d m e f Q g i
 | false=>exact⟨f,g,i⟩
theorem gW (k:PT X a tA) (l:PW X (.BoolOp .Or (b::bL) pos) tB'):PW X (.BoolOp .Or (a::b::bL) pos) (tOr tA tB'):=by
 intro j d s e H Q I h;refine isTrue_or (thn (k d s e H _ I h) λc m ⟨f,g,i⟩=>?_);cases c with
 | true=>exact⟨f,g,i⟩
 | false=>exact l j d m e f Q g i
theorem gI (f:PT X a tA):PT X (.UnaryOp .Not a pos) (tNot tA):=by
 intro b s d H Q I h;exact isTrue_not (f b s d H (λc e=>Q (!c) e) I h)
def BF (ta tb:TE):TE:=λσ H Q=>ta σ H λx H1=>∃c,x=.bl c/\if c=true then tb σ H1 Q else Q (.bl false) H1
theorem Av {z}(h:PE X a t):PE X (.BoolOp z [a] pos) t:=λb s d H Q I c=>BoolOp_one (h b s d H Q I c)
theorem uP (j:PE X a ta) (l:PE X (.BoolOp .And (b::bL) pos) tb):PE X (.BoolOp .And (a::b::bL) pos) (BF ta tb):=by
 intro d s f H Q I h;refine BoolOp_and (thn (j d s f H _ I h) λv m ⟨x,g,i,k,e⟩=>?_);obtain⟨c,rfl,e⟩:=e;cases k;refine wpAny_truthy_bool ?_;cases c with
 | true=>exact l d m f g Q i e
 | false=>exact⟨.bl false,g,i,rfl,e⟩
def tIf (t:TT) (ta tb:TE):TE:=λσ H Q=>t σ H λc H1=>if c=true then ta σ H1 Q else tb σ H1 Q
theorem oT (n:PT X c tA) (l:PE X a ta) (m:PE X b tb):PE X (.IfExp c a b pos) (tIf tA ta tb):=by
 intro e s f H Q I h;refine wpAny_IfExp (thn (n e s f H _ I h) λd k ⟨g,i,j⟩=>?_);cases d with
 | true=>exact l e k f g Q i j
 | false=>exact m e k f g Q i j
end
def SqL (K:W.Frag) (H:Hp) (a:Addr) (xs:LV):Prop :=
 Rd H a (.lst xs) ∨
  ∃(o:Obj) (its:Array Value) (n:Nat),K.lookup a=some o/\o.cls=.type "list"/\o.dict=none/\o.data=.seq its n/\its.size<=sizeLine/\Vals xs its.toList
def SqT (K:W.Frag) (H:Hp) (a:Addr) (xs:LV):Prop :=
 Rd H a (.tup xs) ∨
  ∃(o:Obj) (its:Array Value) (n:Nat),K.lookup a=some o/\o.cls=.type "tuple"/\o.data=.seq its n/\its.size<=sizeLine/\Vals xs its.toList
def absV:Value->Option V
 | .none=>some .non
 | .bool b=>some (.bl b)
 | .int i _=>some (.int i)
 | .str x _=>some (.str x)
 | .bytes b _=>some (.byt b)
 | .float b _=>some (.flt b)
 | .ref a=>some (.ref a)
 | .type n=>some (.ty n)
 | _=>none
theorem RelV.abs (r:RelV x u):absV u=some x:=by
 cases x with
 | non=>cases r;rfl
 | bl _=>cases r;rfl
 | int _=>obtain⟨t,rfl⟩:=r;rfl
 | str _=>obtain⟨t,rfl⟩:=r;rfl
 | byt _=>obtain⟨t,rfl⟩:=r;rfl
 | flt _=>obtain⟨t,rfl⟩:=r;rfl
 | ref _=>cases r;rfl
 | ty _=>cases r;rfl
theorem RelV.inj (r:RelV x u) (q:RelV y u):x=y:=BV (r.abs.symm.trans q.abs)
theorem Vals.inj:∀ {xs ys:LV}{us:LW},Vals xs us->Vals ys us->xs=ys
 | _,_,_,.nil,.nil=>rfl
 | _,_,_,.cons r t,.cons r' t'=>by rw[r.inj r',Vals.inj t t']
section
variable {X:Cx}{pins:AO_}{σ:St}{H:Hp}{s:Shared}{a:Addr}{xs ys:LV}
theorem SqL.of {K:W.Frag}(h:H a=some (.lst xs)):SqL K H a xs:=.inl (.inl h)
theorem SqT.of {K:W.Frag}(h:H a=some (.tup xs)):SqT K H a xs:=.inl (.inl h)
theorem Inv.list (I:Inv X pins σ H s) (h:SqL X.K H a xs):∃G:LW,Vals xs G/\PlainL s.heap a G.toArray/\xs.length<=sizeLine:=by
 rcases h with h | ⟨o,G,n,f,c,b,d,g,r⟩
 ·obtain⟨z,G,n,r,e⟩:=h.ok I.hok;exact⟨G,r,⟨_,n,e,rfl,rfl,rfl⟩,z⟩
 ·refine⟨G.toList,r,⟨o,n,I.kIn a o f,c,b,by simpa using d⟩,?_⟩;have e:=r.length;simp only[DN] at e;omega
theorem Inv.tuple (I:Inv X pins σ H s) (h:SqT X.K H a xs):∃G:LW,Vals xs G/\IsTup s.heap a G.toArray/\xs.length<=sizeLine:=by
 rcases h with h | ⟨o,G,n,d,b,c,f,r⟩
 ·obtain⟨z,G,r,p⟩:=h.ok I.hok;exact⟨G,r,p.tup,z⟩
 ·refine⟨G.toList,r,⟨o,I.kIn a o d,b,n,by simpa using c⟩,?_⟩;have e:=r.length;simp only[DN] at e;omega
theorem Inv.list_inj (I:Inv X pins σ H s) (h:SqL X.K H a xs) (h':SqL X.K H a ys):xs=ys:=by
 obtain⟨c,r,⟨o,n,e,_,_,d⟩,_⟩:=I.list h;obtain⟨b,j,⟨k,l,g,_,_,f⟩,_⟩:=I.list h';rw[e] at g;cases g;rw[d] at f;injection f with i _;have:c=b:=by simpa using congrArg Array.toList i
 subst this;exact r.inj j
theorem Inv.tuple_inj (I:Inv X pins σ H s) (h:SqT X.K H a xs) (h':SqT X.K H a ys):xs=ys:=by
 obtain⟨c,r,⟨o,e,_,n,d⟩,_⟩:=I.tuple h;obtain⟨b,j,⟨k,g,_,l,f⟩,_⟩:=I.tuple h';rw[e] at g;cases g;rw[d] at f;injection f with i _;have:c=b:=by simpa using congrArg Array.toList i
 subst this;exact r.inj j
end
abbrev Cx.wish (X:Cx) (E:QS):Cx:={ X with xe:=E }
abbrev Cx.nox (X:Cx):Cx:=X.wish λ_ _=>False
theorem Cx.Ok.wish {X:Cx}(a:X.Ok) (E:QS):(X.wish E).Ok :=
 ⟨a.mod,a.kind,a.glob,a.blt,a.above,a.inj,a.has,a.cab,a.hd,a.frames,a.stk,a.exf,a.bs,a.bsz,a.noex,a.exfs,a.funs,a.frf⟩
theorem Cx.Ok.unwish {X:Cx}{E:QS}(a:(X.wish E).Ok):X.Ok :=
 ⟨a.mod,a.kind,a.glob,a.blt,a.above,a.inj,a.has,a.cab,a.hd,a.frames,a.stk,a.exf,a.bs,a.bsz,a.noex,a.exfs,a.funs,a.frf⟩
section
variable {X:Cx}{pins:AO_}{σ:St}{H:Hp}{s:Shared}{E:QS}
theorem Inv.wish (I:Inv X pins σ H s) (E:QS):Inv (X.wish E) pins σ H s:=⟨I.ok.wish E,I.os,I.bare,I.base,I.loc,I.cell,I.free,I.freeC,I.pin,I.hok,I.len⟩
theorem Inv.unwish (I:Inv (X.wish E) pins σ H s):Inv X pins σ H s:=⟨I.ok.unwish,I.os,I.bare,I.base,I.loc,I.cell,I.free,I.freeC,I.pin,I.hok,I.len⟩
theorem SP.unwish (h:SP (X.wish E) pins D f s'):SP X pins D f s':=by
 cases f with
 | next=>obtain⟨a,b,I,q⟩:=h;exact⟨a,b,I.unwish,q⟩
 | brk=>obtain⟨a,b,I,q⟩:=h;exact⟨a,b,I.unwish,q⟩
 | cont=>obtain⟨a,b,I,q⟩:=h;exact⟨a,b,I.unwish,q⟩
 | ret u=>obtain⟨v,a,b,I,r,q⟩:=h;exact⟨v,a,b,I.unwish,r,q⟩
theorem PSs.nox {st:List Stmt}{t:TS}(h:PSs X.nox st t):PSs X st t:=λa s c H D I b =>
 CY (h a s c H D (I.wish _) b) (λ_ _ q=>q.unwish) λ_ _ z=>False.elim z
end
section
variable {X:Cx}{st:Stmt}{bL:List Stmt}{t u:TS}{e:Expr}{te:TE}{pos:Pos}
def xT:TS:=λD σ H=>D.nx σ H
def Be (t u:TS):TS:=λD σ H=>t { D with nx:=u D } σ H
theorem aw:PSs X [] xT:=λ_ _ a H _ I h=>wpAny_execs_nil ⟨a,H,I,h⟩
theorem aa (g:PS X st t) (i:PSs X bL u):PSs X (st::bL) (Be t u):=by
 intro a s c H D I h;refine wpAny_execs_cons (thn (g a s c H { D with nx:=u D } I h) λf e q=>?_);cases f with
 | next =>
  obtain⟨b,j,d,q⟩:=q;exact i a e b j D d q
 | ret v=>exact q
 | brk=>exact q
 | cont=>exact q
theorem af (c:PS X st t):PSs X [st] t:=by
 intro a s b H D I h;refine wpAny_execs_cons (thn (c a s b H D I h) λf d q=>?_);cases f with
 | next=>exact wpAny_execs_nil q
 | ret v=>exact q
 | brk=>exact q
 | cont=>exact q
theorem Inv.quiet (I:Inv X pins σ H s):interactive X.env=false:=by simp[interactive,I.ok.kind]
def BK (te:TE):TS:=λD σ H=>te σ H λ_ H1=>D.nx σ H1
theorem bi (he:PE X e te) (f:autoParam (swapsWith e none pos.line X.env=pure false) aR9):PS X (.Expr e pos) (BK te):=by
 intro a s b H D I h;exact wpAny_Expr_any (thn (he a s b H _ I h) λv j ⟨x,c,d,i,g⟩=>⟨b,c,d,g⟩) I.quiet f
def tRet (te:TE):TS:=λD σ H=>te σ H D.rt
theorem ao (he:PE X e te):PS X (.Return (some e) pos) (tRet te):=by
 intro a s b H D I h;exact wpAny_Return_some (thn (he a s b H _ I h) λv i ⟨x,c,d,f,g⟩=>⟨x,b,c,d,f,g⟩)
def tIfS (c:TT) (t u:TS):TS:=λD σ H=>c σ H λb H1=>if b=true then t D σ H1 else u D σ H1
theorem aJ (n:PT X c tc) (l:PSs X a t) (m:PSs X b u):PS X (.If c a b pos) (tIfS tc t u):=by
 intro e s f H D I h;refine wpAny_If (thn (n e s f H _ I h) λd k ⟨g,i,j⟩=>?_);cases d with
 | true=>exact l e k f g D i j
 | false=>exact m e k f g D i j
def AI:TS:=λ_ _ _=>False
theorem aN:PS X st AI:=λ_ _ _ _ _ _ h=>h.elim
end
abbrev TG:=V->St->Hp->(SH)->Prop
abbrev TGs:=LV->St->Hp->(SH)->Prop
def PG (X:Cx) (target:Expr) (t:TG):Prop :=
 ∀(pins:AO_) (s:Shared) (σ:St) (H:Hp) (v:V) (u:Value) (Q:SH),Inv X pins σ H s->RelV v u->t v σ H Q ->
  wpAny (model X.prog X.w) X.A (assign target X.env u) (λ_ s'=>∃σ' H',Inv X pins σ' H' s'/\Q σ' H') X.xe s
def PGs (X:Cx) (ts:List Expr) (t:TGs):Prop :=
 ∀(pins:AO_) (s:Shared) (σ:St) (H:Hp) (vs:LV) (us:LW) (Q:SH),Inv X pins σ H s->Vals vs us->t vs σ H Q ->
  wpAny (model X.prog X.w) X.A (assignInOrder ((assignEach ts X.env).map (·.2)) us) (λ_ s'=>∃σ' H',Inv X pins σ' H' s'/\Q σ' H') X.xe s
abbrev Aj:=V->V->V->Hp->(Hp->Prop)->Prop
def xq (X:Cx) (t:Aj):Prop :=
 ∀(pins:AO_) (s:Shared) (σ:St) (H:Hp) (o i v:V) (ov iv u:Value) (Q:Hp->Prop),Inv X pins σ H s->RelV o ov->RelV i iv->RelV v u->t o i v H Q ->
  wpAny (model X.prog X.w) X.A (setItem ov iv u) (λ_ s'=>∃H',Inv X pins σ H' s'/\Q H') X.xe s
section
variable {X:Cx}{pos:Pos}
def aX (i:Nat):TG:=λv σ H Q=>Q (σ.set i (some v)) H
theorem am (b:X.N.Nodup) (c:X.N[i]? = some x) (f:Loc X.env.scope x) (e:X.fn x=true∨X.env.scope.names.lookup x=some .local:=by first | exact .inl rfl | exact .inr rfl | assumption):PG X (.Name x pos) (aX i):=by
 intro a s g H v u Q I r h;exact wpAny_assign_Name (fJ I b c f r (λj d=>⟨_,H,d,h⟩) e)
def wm:TGs:=λvs σ H Q=>vs=[]/\Q σ H
def kj (t:TG) (u:TGs):TGs:=λvs σ H Q=>∃v r,vs=v::r/\t v σ H λσ' H'=>u r σ' H' Q
theorem bN:PGs X [] wm:=by
 intro a s b H d c Q I r h;obtain⟨e,h⟩:=h;subst e;cases r;exact assignInOrder_nil ⟨b,H,I,h⟩
theorem aH (g:PG X e t) (l:PGs X es u)
    (f:autoParam ((assignEach (e::es) X.env).map (·.2)=assign e X.env::(assignEach es X.env).map (·.2)) aR9):PGs X (e::es) (kj t u):=by
 intro a s k H n o Q I r h;obtain⟨v,p,d,h⟩:=h;subst d;cases r with
 | cons r rr =>
  rw[f];refine assignInOrder_cons (thn (g a s k H _ _ _ I r h) λ_ m ⟨b,i,c,j⟩=>?_);exact l a m b i _ _ Q c rr j
def wF (K:W.Frag) (n:Nat) (t:TGs):TG:=λv σ H Q=>∃a xs,v=.ref a/\SqT K H a xs/\xs.length=n/\t xs σ H Q
theorem zS (x:X.calm=true) (h:PGs X es t)
    (q:autoParam ((assignEach es X.env).length=n) aR9) (f:autoParam ((assignEach es X.env).findIdx? (·.1)=none) aR9):PG X (.Tuple es k pos) (wF X.K n t):=by
 intro c s i H v u Q I r d;obtain⟨a,A,l,w,m,d⟩:=d;subst l;cases r;obtain⟨y,g,p,C⟩:=I.tuple w;refine assign_Tuple_tuple (I.ok.hd x) p (by simp[q,<- m,g.length]) f λB z=>?_;have j:Inv X c i H { s with heap:=B }:=I.kept (t':=s.toks) λb o e=>z b o (Cp (BZ e)) e;exact h c _ i H A _ Q j (by simpa using g) d
def gSub (to ti:TE) (t:Aj):TG:=λv σ H Q=>to σ H λo H1=>ti σ H1 λi H2=>t o i v H2 λH3=>Q σ H3
theorem cO (d:PE X o to) (p:PE X i J) (j:xq X t)
    (w:∀v,assign (.Subscript o i pos) X.env v=(do
     let z ← holding [v] (eval o X.env)
     let G ← holding [v,z] (eval i X.env)
     standAt pos
     holding [v,z,G] (setItem z G v)
     release [v,z,G] []):=by intro _;rfl):PG X (.Subscript o i pos) (gSub to J t):=by
 intro a s b H v u Q I r h;rw[w];refine BP (CC (thn (d a s b H _ I h) λz D ⟨x,l,f,A,m⟩=>?_));refine BP (CC (thn (p a D b l _ f m) λG k ⟨y,B,e,g,n⟩=>?_));refine BP (wpAny_standAt (BP (CC (thn (j a k b B x y v z G u _ e A g r n) λ_ E ⟨q,C,c⟩=>?_))));exact wpAny_release ⟨b,q,C,c⟩
def sr (te:TE) (g:TG):TS:=λD σ H=>te σ H λx H1=>g x σ H1 D.nx
theorem cn (he:PE X e te) (m:PG X tg g) (f:autoParam (swapsWithSole [tg] e pos.line X.env=pure false) aR9) (c:autoParam (swappedStores [tg] e X.env=pure none) aR9)
    (i:autoParam ((assignEach [tg] X.env).map (·.2)=[assign tg X.env]) aR9):PS X (.Assign [tg] e pos) (sr te g):=by
 intro a s b H D I h;refine wpAny_Assign_stores (thn (he a s b H _ I h) λv n ⟨x,j,d,l,k⟩=>?_) f c;rw[i];exact thn (m a n b j x v _ d l k) λ_ o q=>q
theorem bW (d:X.N.Nodup) (n:X.N[i]? = some x) (l:Loc X.env.scope x) (he:PE X e te) (f:autoParam (swapsWith e (some (.Name x z)) pos.line X.env=pure false) aR9) (g:X.fn x=true∨X.env.scope.names.lookup x=some .local:=by first | exact .inl rfl | exact .inr rfl | assumption) :
    PS X (.Assign [.Name x z] e pos) (sr te (aX i)):=by
 intro a s m H D I h;refine wpAny_Assign_Name (thn (he a s m H _ I h) λv q ⟨y,j,c,o,k⟩=>?_) f;exact fJ c d n l o (λp b=>⟨_,j,b,k⟩) g
def tPar (i j:Nat) (ta:TA):TS:=λD σ H=>ta σ H λvs H1=>∃v w,vs=[v,w]/\D.nx ((σ.set i (some v)).set j (some w)) H1
theorem Bh {G k2 z}(R:X.calm=true) (r:X.N.Nodup) (T:X.N[i]? = some x) (P:X.N[j]? = some y) (n:i ≠ j)
    (A:X.env.scope.names.lookup x=some .local) (t:X.env.scope.names.lookup y=some .local) (U:PA X [a,b] ta)
    (E:swappedStores [.Tuple [.Name x px,.Name y J] G O] (.Tuple [a,b] k2 z) X.env=pure (some [x,y]))
    (M:autoParam (swapsWithSole [.Tuple [.Name x px,.Name y J] G O] (.Tuple [a,b] k2 z) pos.line X.env=pure false) aR9) :
    PS X (.Assign [.Tuple [.Name x px,.Name y J] G O] (.Tuple [a,b] k2 z) pos) (tPar i j ta):=by
 intro c s B H D I h;rw[exec_Assign_arm];refine BP (wpAny_standAt ?_);rw[M];refine BP (BS ?_);rw[if_neg (by decide)];refine BP (Tuple_ (thn (U _ c s B H _ I h) λS g ⟨Z,u,K,V,k⟩=>?_));obtain⟨v,w,L,k⟩:=k;subst L;obtain⟨f, d, rfl, Q, l⟩:∃f d, S=[f, d] /\ RelV v f /\ RelV w d := by
  cases V with
  | cons p q =>
   cases q with
   | cons p' q' =>
    cases q';exact⟨_,_,rfl,p,p'⟩
 refine wpAny_newObj_type ?_ (by show 2<=sizeLine;decide);have F:Inv X c B u { g with heap:=g.heap.push { cls:=.type "tuple",data:=.seq [f,d].toArray } }:=K.kept (t':=g.toks) λb o e=>Cc _ e;rw[E];refine BP (BS ?_);show wpAny (model X.prog X.w) X.A (do rule "assign.swapped-stores";let items ← unpackItems (.ref g.heap.objs.size) 2 none;assignInOrder [λv=>bindName X.env y v,λv=>bindName X.env x v] items.reverse;pure Flow.next) _ _ _;refine BP (wpAny_rule (BP (unpackItems_tuple (items:=#[f,d]) (I.ok.hd R) (IsTup.new g.heap _) λh' m=>?_)));have W:=F.kept (h':=h') (t':=g.toks) λb o e=>m b o (Cp (BZ e)) e;show wpAny _ _ (assignInOrder [λv=>bindName X.env y v,λv=>bindName X.env x v] [d,f] >>= λ_=>pure Flow.next) _ _ _;refine BP (assignInOrder_cons (wpAny_bindName (fJ W r P (.inl t) l (λY N=>?_) (.inr t))));refine assignInOrder_cons (wpAny_bindName (fJ N r T (.inl A) Q (λs3 C=>assignInOrder_nil (BS ?_)) (.inr A)));rw[List.set_comm _ _ (Ne.symm n)] at C;exact⟨_,u,C,k⟩
end
section
variable {X:Cx}{pos:Pos}
def Ba (c:TT) (tb:TS):TS:=λD σ H=>∃W:Nat->SH,(∃m,W m σ H)/\∀m σ H,W m σ H ->
 c σ H λb H1=>if b=true then ∃N:SH,(∀σ' H',N σ' H'->∃m',m'<m/\W m' σ' H')/\tb { D with nx:=N,ct:=N,bk:=D.nx } σ H1 else D.nx σ H1
theorem dM (w:PassesOwn (model X.prog X.w) X.A X.env X.xe) (F:PT X c tc) (J:PSs X z tb):PS X (.While c z [] pos) (Ba tc tb) := by
 intro d s G H D I h;obtain⟨W,⟨L,A⟩,i⟩:=h;refine wpAny_While (codeAny_whileLoop (λn E=>∃σ' H',Inv X d σ' H' E/\W n σ' H') ?_ L ⟨G,H,I,A⟩);rintro n K ⟨e,u,y,B⟩;refine wpAny_passesOwn w (thn (F d K e u _ y (i n e u B)) λb C ⟨x,r,k⟩=>?_);cases b with
 | true =>
  obtain⟨N,t,k⟩:=k;rw[if_pos rfl];refine wpAny_passesOwn w (thn (J d C e x _ r k) λf M j=>?_);cases f with
  | next =>
   obtain⟨a,g,p,o⟩:=j;obtain⟨q,l,m⟩:=t a g o;exact⟨q,l,a,g,p,m⟩
  | cont =>
   obtain⟨a,g,p,o⟩:=j;obtain⟨q,l,m⟩:=t a g o;exact⟨q,l,a,g,p,m⟩
  | brk=>exact j
  | ret v=>exact j
 | false =>
  rw[if_neg Cy];exact wpAny_execs_nil ⟨e,x,r,k⟩
end
structure It where
 go:Nat->Hp->Prop
 yld:Nat->Hp->V->Hp->Prop
 stop:Nat->Hp->Prop
def ed (X:Cx) (pins:AO_) (H:Hp) (b:Addr):Prop :=
 H b=none/\b≠X.env.locals/\b∉X.fs/\(b∈X.ex∨X.s₀.heap.objs.size<=b)/\(∀x c,X.env.cells.lookup x=some c->c≠b)/\∀p∈X.pn++pins,p.1≠b
theorem Inv.fpOk (I:Inv X pins σ H s) (a:s.heap.objs.size<=b) (f:H' b=none):ed X pins H' b:=by
 refine⟨f,Dr (CJ I.lt a),I.nofs a,.inr (Cn I.sz a),λx c e z=>?_,λp d z=>?_⟩
 ·obtain⟨v,q⟩:=I.cell x c e;exact absurd (CJ q.lt (by rw[z];exact a)) (Df _)
 ·exact absurd (CJ (BZ (I.pin p d).1) (by rw[z];exact a)) (Df _)
structure Turn (P:Program) (w:World) (K:W.Frag) (tg:Expr) (J:It) (fp:List Addr) (it:Addr) (tn:Nat -> Heap -> Prop):Prop where
 mem:it∈fp
 obj:∀i h,tn i h->∀b∈fp,∃o,h.get? b=some o/\∀v,o.data≠.cell v
 keep:∀i h h',tn i h->(∀b∈fp,∀o,h.get? b=some o->h'.get? b=some o)->tn i h'
 item:∀(X:Cx),X.prog=P->X.w=w->X.K=K->X.calm=true->∀(i:Nat) (pins:AO_) (s:Shared) (σ:St) (H:Hp) (E:QS),Inv X pins σ H s->(∀b∈fp,ed X pins H b)->tn i s.heap->J.go i H ->
  wpAny (model P w) X.A (pyNext (.ref it)) (λr s1=>∃u,r=some u /\
   wpAny (model P w) X.A (letOwnedTupleGo tg (.ref it) u) (λ_ s2=>∃x H',Inv X pins σ H' s2/\RelV x u/\J.yld i H x H'/\tn (i+1) s2.heap/\∀b∈fp,H' b=none) E s1) E s
 done:∀(X:Cx),X.prog=P->X.w=w->X.K=K->X.calm=true->∀(i:Nat) (pins:AO_) (s:Shared) (σ:St) (H:Hp) (E:QS),Inv X pins σ H s->(∀b∈fp,ed X pins H b)->tn i s.heap->J.stop i H ->
  wpAny (model P w) X.A (pyNext (.ref it)) (λr s1=>r=none/\Inv X pins σ H s1) E s
 self:∀(A:Around) (i:Nat) (s:Shared) (Q:QS) (E:QS),tn i s.heap->Q (.ref it) s->wpAny (model P w) A (pyIter (.ref it)) Q E s
abbrev TI:=St->Hp->(It->Hp->Prop)->Prop
def PIE (X:Cx) (pins:AO_) (σ:St) (tg:Expr) (R:It->Hp->Prop) (itv:Value) (s2:Shared):Prop :=
 ∃(it:Addr) (fp:List Addr) (tn:Nat->Heap->Prop) (J:It) (H':Hp),itv=.ref it/\Inv X pins σ H' s2/\Turn X.prog X.w X.K tg J fp it tn/\tn 0 s2.heap/\(∀b∈fp,ed X pins H' b)/\R J H'
def PI (X:Cx) (tg iter:Expr) (wi:TI):Prop :=
 ∀(pins:AO_) (s:Shared) (σ:St) (H:Hp) (R:It->Hp->Prop),Inv X pins σ H s->wi σ H R ->
  wpAny (model X.prog X.w) X.A (eval iter X.env) (λv s1=>wpAny (model X.prog X.w) X.A (pyIter v) (PIE X pins σ tg R) X.xe s1) X.xe s
theorem mU (c:s.heap.get? it=some o) (d:o.cls=.type n) (b:o.data=.fields z)
    (e:["enumerate","zip","dict_itemiterator","dict_reverseitemiterator","odict_iterator","itertools.zip_longest","itertools.pairwise"].contains n=false) (a:Q () s):wpAny M A (letOwnedTupleGo tg (.ref it) u) Q E s:=by
 unfold letOwnedTupleGo;cases tg <;> first
  | exact BS a
  | (cases u <;> first
      | exact BS a
      | (refine BP (wpAny_load c ?_)
         rw[d,b];show wpAny M A (if (["enumerate","zip","dict_itemiterator","dict_reverseitemiterator","odict_iterator","itertools.zip_longest","itertools.pairwise"].contains n&&z[0]?==some (rawInt _))=true then _ else _) Q E s;rw[if_neg (by intro h;rw[e,Bool.false_and] at h;cases h)];exact BS a))
def Itl (K:W.Frag) (a:Addr):It :=
 ⟨λi H=>∃xs x,SqL K H a xs/\xs[i]? = some x,λi H x H'=>H'=H/\∀xs,SqL K H a xs->xs[i]? = some x,λi H=>∃xs,SqL K H a xs/\xs.length<=i⟩
def Itt (K:W.Frag) (a:Addr):It :=
 ⟨λi H=>∃xs x,SqT K H a xs/\xs[i]? = some x,λi H x H'=>H'=H/\∀xs,SqT K H a xs->xs[i]? = some x,λi H=>∃xs,SqT K H a xs/\xs.length<=i⟩
def Itr (lo:Int) (n:Nat):It:=⟨λi _=>i<n,λi H x H'=>H'=H/\x=.int (lo+i),λi _=>n<=i⟩
theorem uj {P:Program}{w:World}{K:W.Frag}{tg:Expr}(a it:Addr):Turn P w K tg (Itl K a) [it] it (λi h=>h.IsListIter it a i) where
 mem:=by simp
 obj:=λi h st b hb=>by
  have e:b=it:=by simpa using hb
  subst e;obtain⟨o,e,c,d⟩:=st;exact⟨o,e,λv z=>by rw[d] at z;cases z⟩
 keep:=λi h h' st k=>st.at λo e=>k it (by simp) o e
 item:=by
  intro X hP hw hK hc i pins s σ H E I hf st hg;subst hP hw hK;obtain⟨xs,x,hq,hx⟩:=hg;obtain⟨its,rv,p,hz⟩:=I.list hq;obtain⟨u,hu,ru⟩:=rv.get hx;obtain⟨f0,f1,f2,f3,f4,f5⟩:=hf it (by simp);refine wpAny_pyNext_list_item st p.isList (x:=u) (by simpa using hu) λh' st' sb=>?_;have I1:Inv X pins σ H { s with heap:=h' }:=I.turned (t':=s.toks) (λb o hb e=>(sb.2 b hb).trans e) f0 f1 f3 f4 f5;obtain⟨o,e,c,d⟩:=id st';exact⟨u,rfl,mU (s:={ s with heap:=h' }) e c d (by decide) ⟨x,H,I1,ru,⟨rfl,λys hy=>by rw[I.list_inj hy hq];exact hx⟩,st',λb hb=>(hf b hb).1⟩⟩
 done:=by
  intro X hP hw hK hc i pins s σ H E I hf st hg;subst hP hw hK;obtain⟨xs,hq,hx⟩:=hg;obtain⟨its,rv,p,hz⟩:=I.list hq;obtain⟨f0,f1,f2,f3,f4,f5⟩:=hf it (by simp);have hl:=rv.length;exact wpAny_pyNext_list_end (I.ok.hd hc) st p.isList (by simp;omega) λh' eb=>⟨rfl,I.turned (t':=s.toks) (λb o hb e=>eb b o hb e) f0 f1 f3 f4 f5⟩
 self:=λ_ _ _ _ _ st h=>wpAny_pyIter_listiter st h
theorem ku {P:Program}{w:World}{K:W.Frag}{tg:Expr}(a it:Addr):Turn P w K tg (Itt K a) [it] it (λi h=>h.IsTupleIter it a i) where
 mem:=by simp
 obj:=λi h st b hb=>by
  have e:b=it:=by simpa using hb
  subst e;obtain⟨o,e,c,d⟩:=st;exact⟨o,e,λv z=>by rw[d] at z;cases z⟩
 keep:=λi h h' st k=>st.at λo e=>k it (by simp) o e
 item:=by
  intro X hP hw hK hc i pins s σ H E I hf st hg;subst hP hw hK;obtain⟨xs,x,hq,hx⟩:=hg;obtain⟨its,rv,p,hz⟩:=I.tuple hq;obtain⟨u,hu,ru⟩:=rv.get hx;obtain⟨f0,f1,f2,f3,f4,f5⟩:=hf it (by simp);refine wpAny_pyNext_tuple_item st (show s.heap.IsTuple a its.toArray from p) (x:=u) (by simpa using hu) λh' st' sb=>?_;have I1:Inv X pins σ H { s with heap:=h' }:=I.turned (t':=s.toks) (λb o hb e=>(sb.2 b hb).trans e) f0 f1 f3 f4 f5;obtain⟨o,e,c,d⟩:=id st';exact⟨u,rfl,mU (s:={ s with heap:=h' }) e c d (by decide) ⟨x,H,I1,ru,⟨rfl,λys hy=>by rw[I.tuple_inj hy hq];exact hx⟩,st',λb hb=>(hf b hb).1⟩⟩
 done:=by
  intro X hP hw hK hc i pins s σ H E I hf st hg;subst hP hw hK;obtain⟨xs,hq,hx⟩:=hg;obtain⟨its,rv,p,hz⟩:=I.tuple hq;obtain⟨f0,f1,f2,f3,f4,f5⟩:=hf it (by simp);have hl:=rv.length;exact wpAny_pyNext_tuple_end (I.ok.hd hc) st (show s.heap.IsTuple a its.toArray from p) (by simp;omega) λh' eb=>⟨rfl,I.turned (t':=s.toks) (λb o hb e=>eb b o hb e) f0 f1 f3 f4 f5⟩
 self:=λ_ _ _ _ _ st h=>wpAny_pyIter_tupleiter st h
theorem sw {P:Program}{w:World}{K:W.Frag}{tg:Expr}(it:Addr) (lo:Int) (n:Nat):Turn P w K tg (Itr lo n) [it] it (λi h => IsRangeIter h it (lo+(i:Nat) * 1) ((n:Int)-(i:Nat)) 1) where
 mem:=by simp
 obj:=λi h st b hb=>by
  have e:b=it:=by simpa using hb
  subst e;exact⟨_,st,λv z=>by
   have z':Data.fields _=Data.cell v:=z;cases z'⟩
 keep:=λi h h' st k=>k it (by simp) _ st
 item:=by
  intro X hP hw hK hc i pins s σ H E I hf st hg;subst hP hw hK;obtain⟨f0,f1,f2,f3,f4,f5⟩:=hf it (by simp);have W:=Walks.range (prog:=X.prog) (w:=X.w) (I.ok.hd hc) it lo 1 n;refine W.item i s _ _ hg st λv h' tk hv st' kk=>?_;obtain⟨t,rfl⟩:=hv;have I1:Inv X pins σ H { s with heap:=h',toks:=tk }:=I.turned (λb o hb e=>kk b o (by simpa using hb) e) f0 f1 f3 f4 f5;refine⟨_,rfl,mU (s:={ s with heap:=h',toks:=tk }) (n:="range_iterator") st' rfl rfl (by decide) ⟨.int (lo+i),H,I1,⟨t,?_⟩,⟨rfl,rfl⟩,st',λb hb=>(hf b hb).1⟩⟩;rw[Int.mul_one]
 done:=by
  intro X hP hw hK hc i pins s σ H E I hf st hg;subst hP hw hK;obtain⟨f0,f1,f2,f3,f4,f5⟩:=hf it (by simp);exact wpAny_pyNext_range_end (I.ok.hd hc) st (by have:n<=i:=hg;omega) λh' eb=>⟨rfl,I.turned (t':=s.toks) (λb o hb e=>eb b o hb e) f0 f1 f3 f4 f5⟩
 self:=λ_ _ _ _ _ st h=>wpAny_pyIter_rangeiter st h
section
variable {X:Cx}{tg:Expr}
def xV (K:W.Frag) (tl:TE):TI:=λσ H R=>tl σ H λx H1=>∃a,x=.ref a/\(∃xs,SqL K H1 a xs)/\R (Itl K a) H1
def AQ (K:W.Frag) (tl:TE):TI:=λσ H R=>tl σ H λx H1=>∃a,x=.ref a/\(∃xs,SqT K H1 a xs)/\R (Itt K a) H1
theorem yN {l:Expr}{tl:TE}(g:PE X l tl):PI X tg l (xV X.K tl):=by
 intro c s n H R I h;refine thn (g c s n H _ I h) λv f ⟨x,i,d,r,k⟩=>?_;obtain⟨a,e,⟨y,j⟩,q⟩:=k;subst e;cases r;obtain⟨m,w,p,u⟩:=d.list j;refine wpAny_pyIter_list p.isList ?_;refine⟨f.heap.objs.size,[f.heap.objs.size],_,_,i,rfl,d.kept (t':=f.toks) λb o e=>Cc _ e,uj a _,⟨_,Co _ rfl,rfl,rfl⟩,λb t=>?_,q⟩;have e:b=f.heap.objs.size:=by simpa using t
 subst e;exact d.fpOk (BR _) (d.hok.fresh (BR _))
theorem zQ {l:Expr}{tl:TE}(i:PE X l tl):PI X tg l (AQ X.K tl):=by
 intro c s n H R I h;refine thn (i c s n H _ I h) λv d ⟨x,j,f,r,m⟩=>?_;obtain⟨a,e,⟨y,k⟩,q⟩:=m;subst e;cases r;obtain⟨g,w,p,u⟩:=f.tuple k;refine Dt (show d.heap.IsTuple a g.toArray from p) ?_;refine⟨d.heap.objs.size,[d.heap.objs.size],_,_,j,rfl,f.kept (t':=d.toks) λb o e=>Cc _ e,ku a _,⟨_,Co _ rfl,rfl,rfl⟩,λb t=>?_,q⟩;have e:b=d.heap.objs.size:=by simpa using t
 subst e;exact f.fpOk (BR _) (f.hok.fresh (BR _))
theorem vz {R:It->Hp->Prop}{lo hi:Int}{tk:Nat}(I:Inv X pins σ H s) (i:-(2 ^ 62)<=lo) (j:lo<2 ^ 62) (f:-(2 ^ 62)<=hi) (c:hi<2 ^ 62)
    (q:R (Itr lo (hi-lo).toNat) H):wpAny (model X.prog X.w) X.A (pyIter (.ref s.heap.objs.size)) (PIE X pins σ tg R) E { s with heap:=s.heap.push { cls:=.type "range",data:=.fields #[.int lo t,.int hi u,.int 1 v] },toks:=tk }:=by
 refine wpAny_pyIter_range (IsRange.new ..) (small_one i j f c) ?_;have a:Inv X pins σ H { s with heap:=s.heap.push { cls:=.type "range",data:=.fields #[.int lo t,.int hi u,.int 1 v] },toks:=tk }:=I.kept λb o e=>Cc _ e;refine⟨(s.heap.push { cls:=.type "range",data:=.fields #[.int lo t,.int hi u,.int 1 v] }).objs.size,[(s.heap.push { cls:=.type "range",data:=.fields #[.int lo t,.int hi u,.int 1 v] }).objs.size],_,_,H,rfl,
  a.kept (t':=tk) λb o e=>Cc _ e,sw _ lo (hi-lo).toNat,?_,λb d=>?_,q⟩
 ·have g:lo+((0:Nat):Int) * 1=lo:=by simp
  have h:(((hi-lo).toNat:Nat):Int)-((0:Nat):Int)=Builtin.Range.rangeSize lo hi 1:=by rw[rangeSize_one];split <;> omega
  show IsRangeIter _ _ (lo+((0:Nat):Int) * 1) ((((hi-lo).toNat:Nat):Int)-((0:Nat):Int)) 1;rw[g,h];exact Co _ rfl
 ·have e:b=(s.heap.push { cls:=.type "range",data:=.fields #[.int lo t,.int hi u,.int 1 v] }).objs.size:=by simpa using d
  subst e;exact a.fpOk (BR _) (a.hok.fresh (BR _))
def BB (ta:TA):TI:=λσ H R=>ta σ H λvs H1=>∃j:Int,vs=[.int j]/\-(2 ^ 62)<=j/\j<2 ^ 62/\R (Itr 0 j.toNat) H1
theorem dm (n:Gl X "range") (g:X.mg "range"=none) (l:PA X [a] ta) (f:autoParam (starEach [a] X.env=[(false,eval a X.env)]) aR9):PI X tg (.Call (.Name "range" p) [a] [] pos) (BB ta):=by
 intro b s k H R I h;refine Call_ (du I n g boot_range (PyProof.Rows.callWith_type1 (thn (l pos b s k H _ I h) λv w ⟨u,o,d,m,c⟩=>?_) f rfl));obtain⟨j,e,c,i,q⟩:=c;subst e;cases m with
 | cons r rr =>
  cases rr;obtain⟨t,rfl⟩:=r;exact call_range_1 (vz d (by omega) (by omega) c i (by simpa using q))
def tFor (wi:TI) (g:TG) (tb:TS):TS:=λD σ H=>wi σ H λJ H1=>∃W:Nat->Nat->SH,(∃m,W 0 m σ H1)/\∀i m σ H,W i m σ H ->
 (J.stop i H/\D.nx σ H)∨(J.go i H/\∃N:SH,(∀σ' H',N σ' H'->∃m',m'<m/\W (i+1) m' σ' H')/\∀x H',J.yld i H x H'->g x σ H' λσ2 H2=>tb { D with nx:=N,ct:=N,bk:=D.nx } σ2 H2)
def iL (fp:List Addr) (h:Heap):AO_:=fp.filterMap λb=>(h.get? b).map λo=>(b,o)
theorem fA (a:b∈z) (e:h.get? b=some o):(b,o)∈iL z h:=DA.mpr ⟨b,a,by rw[e];rfl⟩
theorem tu (c:p∈iL z h):p.1∈z/\h.get? p.1=some p.2:=by
 obtain⟨b,a,e⟩:=DA.mp c;cases q:h.get? b with
 | none=>rw[q] at e;cases e
 | some o =>
  rw[q] at e;have d:(b,o)=p:=BV e;subst d;exact⟨a,q⟩
theorem Inv.pinned (I:Inv X pins σ H s) (k:∀b∈G,ed X pins H b) (f:∀b∈G,∃o,s.heap.get? b=some o/\∀v,o.data≠.cell v):Inv X (pins++iL G s.heap) σ H s :=
 I.pins_of λp g=>(Cb.mp g).elim (λz=>I.pin p (CN _ z)) λz=>by
  obtain⟨a,e⟩:=tu z;obtain⟨j,h,i,_⟩:=k p.1 a;obtain⟨o,c,d⟩:=f p.1 a;rw[e] at c;cases c;exact⟨e,j,h,i,d⟩
theorem Inv.unpinned (I:Inv X (pins++z) σ H s):Inv X pins σ H s:=I.pins_of λp a=>I.pin p (CN _ (CM _ a))
theorem bc (F:PassesOwn (model X.prog X.w) X.A X.env X.xe) (Y:X.calm=true) (hi:PI X tg iter wi) (hg:PG X tg g) (p:PSs X G tb)
    (hs:∀x,foldedSetIterable iter X.env x=pure x:=by intro _;rfl):PS X (.For tg iter G [] pos) (tFor wi g tb):=by
 intro c s σ H D I h;refine wpAny_For (thn (hi c s σ H _ I h) λv s1 h1=>thn h1 λa0 s2 h2=>?_) hs;obtain⟨it,E,V,J,H2,e,I2,T,R,f2,W,⟨m0,w0⟩,B⟩:=h2;subst e;have q:∀ {H':Hp},(∀b∈E,H' b=none)->∀b∈E,ed X c H' b:=λhn b p=>⟨hn b p,(f2 b p).2⟩
 refine codeAny_forLoop_any (λn Z=>∃i σ' H',Inv X c σ' H' Z/\V i Z.heap/\(∀b∈E,H' b=none)/\W i n σ' H') ?_ m0 ⟨0,σ,H2,I2,R,λb p=>(f2 b p).1,w0⟩;rintro n s3 ⟨i,j,M,I3,C,L,w3⟩;rcases B i n j M w3 with⟨A,qn⟩ | ⟨go,N,hN,K⟩
 ·refine wpAny_passesOwn F (thn (T.done X rfl rfl rfl Y i c s3 j M X.xe I3 (q L) C A) λr s4 ⟨Q,I4⟩=>?_);subst Q;exact wpAny_execs_nil ⟨j,M,I4,qn⟩
 ·refine wpAny_passesOwn F (thn (T.item X rfl rfl rfl Y i c s3 j M X.xe I3 (q L) C go) λr s4 ⟨u,Q,h4⟩=>?_);subst Q;refine wpAny_passesOwn F (thn h4 λ_ s5 ⟨x,H5,I5,r5,y5,y,U⟩=>?_);have S:=I5.pinned (q U) (T.obj _ _ y);refine wpAny_passesOwn F (thn (hg _ s5 j H5 x u _ S r5 (K x H5 y5)) λ_ s6 ⟨P,H6,I6,q6⟩=>?_);refine wpAny_passesOwn F (thn (p _ s6 P H6 _ I6 q6) λf O w=>?_);have l:∀ {a:St} {t:Hp},Inv X (c++iL E s5.heap) a t O->N a t->∃m,m<n/\∃i σ' H',Inv X c σ' H' O/\V i O.heap/\(∀b∈E,H' b=none)/\W i m σ' H':=λ{a t} k z=>by
   obtain⟨m',hm,w7⟩:=hN a t z;refine⟨m',hm,i+1,a,t,k.unpinned,T.keep _ _ _ y λb p o e=>(k.pin (b,o) (CN _ (CN _ (fA p e)))).1,λb p=>?_,w7⟩;obtain⟨o,e,d⟩:=T.obj _ _ y b p;exact(k.pin (b,o) (CN _ (CN _ (fA p e)))).2.1
  cases f with
  | next=>obtain⟨a,t,k,z⟩:=w;exact l k z
  | cont=>obtain⟨a,t,k,z⟩:=w;exact l k z
  | brk=>obtain⟨a,t,k,w⟩:=w;exact⟨a,t,k.unpinned,w⟩
  | ret v=>obtain⟨x7,a,t,k,r7,w⟩:=w;exact⟨x7,a,t,k.unpinned,r7,w⟩
end
theorem vN {K:W.Frag}{a:Addr}{xs:LV}{g:TG}{tb:TS}{D:Ends}{σ:St}{H:Hp}(Pv:Nat -> St -> Hp -> Prop) (j:Pv 0 σ H) (h:∀i σ H, i <= xs.length -> Pv i σ H -> SqL K H a xs)
    (k:∀i x σ H,xs[i]? = some x->Pv i σ H->g x σ H λσ2 H2=>tb { D with nx:=Pv (i+1),ct:=Pv (i+1),bk:=D.nx } σ2 H2) (c:∀σ H,Pv xs.length σ H->D.nx σ H) :
    ∃W:Nat->Nat->SH,(∃m,W 0 m σ H)/\∀i m σ H,W i m σ H ->
     ((Itl K a).stop i H/\D.nx σ H)∨((Itl K a).go i H/\∃N:SH,(∀σ' H',N σ' H'->∃z,z<m/\W (i+1) z σ' H')/\∀x H',(Itl K a).yld i H x H'->g x σ H' λσ2 H2=>tb { D with nx:=N,ct:=N,bk:=D.nx } σ2 H2):=by
 refine⟨λi m σ H=>m=xs.length-i/\i<=xs.length/\Pv i σ H,⟨xs.length,by simp,Cu _,j⟩,?_⟩;rintro i m σ H ⟨rfl,d,p⟩;have q:=h i σ H d p;by_cases b:i<xs.length
 ·refine .inr ⟨⟨xs,xs[i],q,by simp[b]⟩,Pv (i+1),λσ' H' f=>⟨xs.length-(i+1),by omega,rfl,b,f⟩,λx H' y=>?_⟩;obtain⟨e,y⟩:=y;subst e;exact k i x σ _ (y xs q) p
 ·have e:i=xs.length:=by omega
  subst e;exact .inl ⟨⟨xs,q,BR _⟩,c σ H p⟩
theorem yr {K:W.Frag}{a:Addr}{xs:LV}{g:TG}{tb:TS}{D:Ends}{σ:St}{H:Hp}(Pv:Nat -> St -> Hp -> Prop) (j:Pv 0 σ H) (h:∀i σ H, i <= xs.length -> Pv i σ H -> SqT K H a xs)
    (k:∀i x σ H,xs[i]? = some x->Pv i σ H->g x σ H λσ2 H2=>tb { D with nx:=Pv (i+1),ct:=Pv (i+1),bk:=D.nx } σ2 H2) (c:∀σ H,Pv xs.length σ H->D.nx σ H) :
    ∃W:Nat->Nat->SH,(∃m,W 0 m σ H)/\∀i m σ H,W i m σ H ->
     ((Itt K a).stop i H/\D.nx σ H)∨((Itt K a).go i H/\∃N:SH,(∀σ' H',N σ' H'->∃z,z<m/\W (i+1) z σ' H')/\∀x H',(Itt K a).yld i H x H'->g x σ H' λσ2 H2=>tb { D with nx:=N,ct:=N,bk:=D.nx } σ2 H2):=by
 refine⟨λi m σ H=>m=xs.length-i/\i<=xs.length/\Pv i σ H,⟨xs.length,by simp,Cu _,j⟩,?_⟩;rintro i m σ H ⟨rfl,d,p⟩;have q:=h i σ H d p;by_cases b:i<xs.length
 ·refine .inr ⟨⟨xs,xs[i],q,by simp[b]⟩,Pv (i+1),λσ' H' f=>⟨xs.length-(i+1),by omega,rfl,b,f⟩,λx H' y=>?_⟩;obtain⟨e,y⟩:=y;subst e;exact k i x σ _ (y xs q) p
 ·have e:i=xs.length:=by omega
  subst e;exact .inl ⟨⟨xs,q,BR _⟩,c σ H p⟩
theorem uh {lo:Int}{n:Nat}{g:TG}{tb:TS}{D:Ends}{σ:St}{H:Hp}(Pv:Nat -> St -> Hp -> Prop) (d:Pv 0 σ H)
    (f:∀i σ H,i<n->Pv i σ H->g (.int (lo+i)) σ H λσ2 H2=>tb { D with nx:=Pv (i+1),ct:=Pv (i+1),bk:=D.nx } σ2 H2) (b:∀σ H,Pv n σ H->D.nx σ H) :
    ∃W:Nat->Nat->SH,(∃m,W 0 m σ H)/\∀i m σ H,W i m σ H ->
     ((Itr lo n).stop i H/\D.nx σ H)∨((Itr lo n).go i H/\∃N:SH,(∀σ' H',N σ' H'->∃z,z<m/\W (i+1) z σ' H')/\∀x H',(Itr lo n).yld i H x H'->g x σ H' λσ2 H2=>tb { D with nx:=N,ct:=N,bk:=D.nx } σ2 H2):=by
 refine⟨λi m σ H=>m=n-i/\i<=n/\Pv i σ H,⟨n,by simp,Cu _,d⟩,?_⟩;rintro i m σ H ⟨rfl,h,p⟩;by_cases a:i<n
 ·refine .inr ⟨a,Pv (i+1),λσ' H' c=>⟨n-(i+1),by omega,rfl,a,c⟩,λx H' y=>?_⟩;obtain⟨e,y⟩:=y;subst e y;exact f i σ _ a p
 ·have e:i=n:=by omega
  subst e;exact .inl ⟨BR _,b σ H p⟩
abbrev R2:=V->V->Hp->VK->Prop
def OpR (X:Cx) (f:Value->Value->Sem Value) (r:R2):Prop :=
 ∀(pins:AO_) (s:Shared) (σ:St) (H:Hp) (x y:V) (v u:Value) (Q:VK),Inv X pins σ H s->RelV x v->RelV y u->r x y H Q ->
  wpAny (model X.prog X.w) X.A (f v u) (EP X pins σ Q) X.xe s
def UnR (X:Cx) (f:Value->Sem Value) (r:V->Hp->VK->Prop):Prop :=
 ∀(pins:AO_) (s:Shared) (σ:St) (H:Hp) (x:V) (v:Value) (Q:VK),Inv X pins σ H s->RelV x v->r x H Q ->
  wpAny (model X.prog X.w) X.A (f v) (EP X pins σ Q) X.xe s
def dI (X:Cx) (f:Value) (r:LV->Hp->VK->Prop):Prop :=
 ∀(pins:AO_) (s:Shared) (σ:St) (H:Hp) (xs:LV) (us:LW) (Q:VK),Inv X pins σ H s->Vals xs us->r xs H Q ->
  wpAny (model X.prog X.w) X.A (call f us) (EP X pins σ Q) X.xe s
def tOp (r:R2) (ta tb:TE):TE:=λσ H Q=>ta σ H λx H1=>tb σ H1 λy H2=>r x y H2 Q
def tUn (r:V->Hp->VK->Prop) (ta:TE):TE:=λσ H Q=>ta σ H λx H1=>r x H1 Q
def rI (C:Int->Int->Prop) (g:Int->Int->V):R2:=λx y H Q=>∃i j,x=.int i/\y=.int j/\C i j/\Q (g i j) H
def rI0 (g:Int->Int->V):R2:=λx y H Q=>∃i j,x=.int i/\y=.int j/\Q (g i j) H
def rU (g:Int->V):V->Hp->VK->Prop:=λx H Q=>∃i,x=.int i/\Q (g i) H
section
variable {X:Cx}{a b c:Expr}{ta tb tc:TE}{pos:Pos}
theorem xm (g:PE X a ta) (c:PE X b tb) {R:V->V->Hp->Prop}(I:Inv X pins σ H s)
    (h:ta σ H λx H1=>tb σ H1 λy H2=>R x y H2) {f:Value->Value->Sem Value}
    (k:∀v u J x y H2,Inv X pins σ H2 J->RelV x v->RelV y u->R x y H2->wpAny (model X.prog X.w) X.A (f v u) Q X.xe J) :
    wpAny (model X.prog X.w) X.A (eval a X.env) (λv z=>wpAny (model X.prog X.w) X.A (eval b X.env) (λu G=>wpAny (model X.prog X.w) X.A (f v u) Q X.xe G) X.xe z) X.xe s:=by
 refine thn (g pins s σ H _ I h) λv n ⟨x,H1,e,i,l⟩=>?_;refine thn (c pins n σ H1 _ e l) λu J ⟨y,H2,d,j,m⟩=>?_;exact k v u J x y H2 d i j m
theorem aG {z:Operator}{r:R2}(d:OpR X (binaryOp z) r) (j:PE X a ta) (l:PE X b tb):PE X (.BinOp a z b pos) (tOp r ta tb):=by
 intro c s i H Q I h;exact wpAny_BinOp (xm j l I h λv u f x y k e g m q=>d c f i k x y v u Q e g m q)
theorem fw (i:UnR X (unaryOp z) r) (f:PE X a ta):PE X (.UnaryOp z a pos) (tUn r ta):=by
 intro b s c H Q I h;exact UnaryOp_ (thn (f b s c H _ I h) λv k ⟨x,d,e,g,j⟩=>i b k c d x v Q e g j)
theorem opI {f:Value->Value->Sem Value}{C:Int->Int->Prop}{g:Int->Int->Int}
    (a:∀(i j:Int) (t u:Tok) (s:Shared) (Q:QS) (E:QS),C i j->Q (.int (g i j) s.toks) { s with toks:=s.toks+1 }->wpAny (model X.prog X.w) X.A (f (.int i t) (.int j u)) Q E s) :
    OpR X f (rI C λi j=>.int (g i j)):=by
 intro b s l H x y v u Q I e c h;obtain⟨i,j,rfl,rfl,d,q⟩:=h;obtain⟨t,rfl⟩:=e;obtain⟨k,rfl⟩:=c;exact a i j t k s _ _ d ⟨.int (g i j),H,I.tok _,⟨_,rfl⟩,q⟩
theorem Ai {f:Value->Value->Sem Value}{g:Int->Int->Int}
    (a:∀(i j:Int) (t u:Tok) (s:Shared) (Q:QS) (E:QS),Q (.int (g i j) s.toks) { s with toks:=s.toks+1 }->wpAny (model X.prog X.w) X.A (f (.int i t) (.int j u)) Q E s) :
    OpR X f (rI0 λi j=>.int (g i j)):=by
 intro b s k H x y v u Q I d c h;obtain⟨i,j,rfl,rfl,q⟩:=h;obtain⟨t,rfl⟩:=d;obtain⟨e,rfl⟩:=c;exact a i j t e s _ _ ⟨.int (g i j),H,I.tok _,⟨_,rfl⟩,q⟩
theorem ro {f:Value->Value->Sem Value}{g:Int->Int->Bool}
    (a:∀(i j:Int) (t u:Tok) (s:Shared) (Q:QS) (E:QS),Q (.bool (g i j)) s->wpAny (model X.prog X.w) X.A (f (.int i t) (.int j u)) Q E s) :
    OpR X f (rI0 λi j=>.bl (g i j)):=by
 intro b s k H x y v u Q I d c h;obtain⟨i,j,rfl,rfl,q⟩:=h;obtain⟨t,rfl⟩:=d;obtain⟨e,rfl⟩:=c;exact a i j t e s _ _ ⟨.bl (g i j),H,I,rfl,q⟩
def CDiv (i j:Int):Prop:=0<j/\j<1073741824
def CPow (i j:Int):Prop:=0<=j/\j<=1000000/\i.natAbs<2 ^ 64
def CMul (i j:Int):Prop:=(-(2 ^ 64)<i/\i<2 ^ 64)∨(-(2 ^ 64)<j/\j<2 ^ 64)
theorem CMul.ok (h:CMul i j):IntMulOk i j:=by
 rcases h with⟨b,a⟩ | ⟨b,a⟩
 ·exact .of_left (intBits_le_64 b a)
 ·exact .of_right (intBits_le_64 b a)
theorem zI:OpR X (binaryOp .Add) (rI0 λi j=>.int (i+j)):=Ai λ_ _ _ _ _ _ _ q=>add_int q
theorem nq:OpR X (binaryOp .Sub) (rI0 λi j=>.int (i-j)):=Ai λ_ _ _ _ _ _ _ q=>sub_int q
theorem gK:OpR X (binaryOp .Mult) (rI CMul λi j=>.int (i * j)):=opI λ_ _ _ _ _ _ _ a q=>mul_int q a.ok
theorem lv:OpR X (binaryOp .FloorDiv) (rI CDiv λi j=>.int (i / j)):=opI λi j _ _ _ _ _ a q=>by
 have c:(0:Int)<j:=a.1;have b:j<1073741824:=a.2;exact floordiv_int (by omega) (by rw[Int.fdiv_eq_ediv_of_nonneg i (by omega)];exact q) (.inl (PyProof.noPylong_small (by omega)))
theorem ef:OpR X (binaryOp .Mod) (rI (λ_ j=>0<j) λi j=>.int (i % j)):=opI λi j _ _ _ _ _ a q=>by
 have b:(0:Int)<j:=a;exact mod_int' (by omega) (by rw[Int.fmod_eq_emod_of_nonneg i (by omega)];exact q)
theorem Bb:OpR X (binaryOp .Pow) (rI CPow λi j=>.int (i ^ j.toNat)):=opI λ_ _ _ _ _ _ _ a q=>pow_int_small a.1 a.2.1 a.2.2 q
theorem unI {f:Value->Sem Value}{g:Int->Int}
    (a:∀(i:Int) (t:Tok) (s:Shared) (Q:QS) (E:QS),Q (.int (g i) s.toks) { s with toks:=s.toks+1 }->wpAny (model X.prog X.w) X.A (f (.int i t)) Q E s) :
    UnR X f (rU λi=>.int (g i)):=by
 intro b s d H x v Q I c h;obtain⟨i,rfl,q⟩:=h;obtain⟨t,rfl⟩:=c;exact a i t s _ _ ⟨.int (g i),H,I.tok _,⟨_,rfl⟩,q⟩
theorem eA:UnR X (unaryOp .USub) (rU λi=>.int (-i)):=unI λ_ _ _ _ _ q=>neg_int q
end
def wH:V->V->Bool
 | .non,.non=>true | .non,.int _=>true | .int _,.non=>true | .non,.bl _=>true | .bl _,.non=>true | .non,.str _=>true | .str _,.non=>true
 | .int _,.int _=>true | .bl _,.bl _=>true | .str _,.str _=>true | .byt _,.byt _=>true
 | .int _,.str _=>true | .str _,.int _=>true | .bl _,.str _=>true | .str _,.bl _=>true
 | _,_=>false
def rEq:R2:=λx y H Q=>wH x y=true/\Q (.bl (decide (x=y))) H
def rNe:R2:=λx y H Q=>wH x y=true/\Q (.bl (!decide (x=y))) H
theorem qF:decide (V.int i=V.int j)=(i==j):=by
 rw[CQ];simp
theorem uM:decide (V.bl i=V.bl j)=(i==j):=by
 rw[CQ];simp
theorem qT:decide (V.str i=V.str j)=(i==j):=by
 rw[CQ];simp
theorem qf:decide (V.byt i=V.byt j)=(i.toList==j.toList):=by
 rw[CQ];cases i;cases j;simp
section
variable {X:Cx}{a b c:Expr}{ta tb tc:TE}{pos:Pos}
theorem aR (I:Inv X pins σ H s) (q:Q (.bl k) H) (e:k=z):EP X pins σ Q (.bool z) s:=by
 subst e;exact⟨.bl k,H,I,rfl,q⟩
theorem Bl:OpR X (compareOp .Eq) rEq:=by
 intro e s f H x y v u Q I d a h;obtain⟨c,q⟩:=h;cases x with
 | non =>
  cases d;cases y with
  | non=>cases a;exact PySem.EqNone.eq_none_none (aR I q (by simp))
  | bl j=>cases a;exact PySem.EqNone.eq_none_bool (aR I q (by simp))
  | int j=>obtain⟨b,rfl⟩:=a;exact PySem.EqNone.eq_none_int (aR I q (by simp))
  | str j=>obtain⟨b,rfl⟩:=a;exact PySem.EqNone.eq_none_str (aR I q (by simp))
  | _=>exact absurd (show false=true from c) Cy
 | bl i =>
  cases d;cases y with
  | non=>cases a;exact PySem.EqNone.eq_bool_none (aR I q (by simp))
  | bl j=>cases a;exact eq_bool (aR I q uM)
  | str j=>obtain⟨b,rfl⟩:=a;exact PySem.EqMixed.eq_bool_str (aR I q (by simp))
  | _=>exact absurd (show false=true from c) Cy
 | int i =>
  obtain⟨t,rfl⟩:=d;cases y with
  | non=>cases a;exact PySem.EqNone.eq_int_none (aR I q (by simp))
  | int j=>obtain⟨b,rfl⟩:=a;exact eq_int (aR I q qF)
  | str j=>obtain⟨b,rfl⟩:=a;exact PySem.EqMixed.eq_int_str (aR I q (by simp))
  | _=>exact absurd (show false=true from c) Cy
 | str i =>
  obtain⟨t,rfl⟩:=d;cases y with
  | non=>cases a;exact PySem.EqNone.eq_str_none (aR I q (by simp))
  | bl j=>cases a;exact PySem.EqMixed.eq_str_bool (aR I q (by simp))
  | int j=>obtain⟨b,rfl⟩:=a;exact PySem.EqMixed.eq_str_int (aR I q (by simp))
  | str j=>obtain⟨b,rfl⟩:=a;exact eq_str (aR I q qT)
  | _=>exact absurd (show false=true from c) Cy
 | byt i =>
  obtain⟨t,rfl⟩:=d;cases y with
  | byt j=>obtain⟨b,rfl⟩:=a;exact W.eq_bytes (aR I q qf)
  | _=>exact absurd (show false=true from c) Cy
 | _=>cases y <;> exact absurd (show false=true from c) Cy
theorem Bs:OpR X (compareOp .NotEq) rNe:=by
 intro e s f H x y v u Q I d a h;obtain⟨c,q⟩:=h;cases x with
 | non =>
  cases d;cases y with
  | non=>cases a;exact PySem.EqNone.ne_none_none (aR I q (by simp))
  | bl j=>cases a;exact PySem.EqNone.ne_none_bool (aR I q (by simp))
  | int j=>obtain⟨b,rfl⟩:=a;exact PySem.EqNone.ne_none_int (aR I q (by simp))
  | str j=>obtain⟨b,rfl⟩:=a;exact PySem.EqNone.ne_none_str (aR I q (by simp))
  | _=>exact absurd (show false=true from c) Cy
 | bl i =>
  cases d;cases y with
  | non=>cases a;exact PySem.EqNone.ne_bool_none (aR I q (by simp))
  | bl j=>cases a;exact ne_bool (aR I q (congrArg not uM))
  | str j=>obtain⟨b,rfl⟩:=a;exact PySem.EqMixed.ne_bool_str (aR I q (by simp))
  | _=>exact absurd (show false=true from c) Cy
 | int i =>
  obtain⟨t,rfl⟩:=d;cases y with
  | non=>cases a;exact PySem.EqNone.ne_int_none (aR I q (by simp))
  | int j=>obtain⟨b,rfl⟩:=a;exact ne_int (aR I q (congrArg not qF))
  | str j=>obtain⟨b,rfl⟩:=a;exact PySem.EqMixed.ne_int_str (aR I q (by simp))
  | _=>exact absurd (show false=true from c) Cy
 | str i =>
  obtain⟨t,rfl⟩:=d;cases y with
  | non=>cases a;exact PySem.EqNone.ne_str_none (aR I q (by simp))
  | bl j=>cases a;exact PySem.EqMixed.ne_str_bool (aR I q (by simp))
  | int j=>obtain⟨b,rfl⟩:=a;exact PySem.EqMixed.ne_str_int (aR I q (by simp))
  | str j=>obtain⟨b,rfl⟩:=a;exact ne_str (aR I q (congrArg not qT))
  | _=>exact absurd (show false=true from c) Cy
 | byt i =>
  obtain⟨t,rfl⟩:=d;cases y with
  | byt j=>obtain⟨b,rfl⟩:=a;exact W.ne_bytes (aR I q (congrArg not qf))
  | _=>exact absurd (show false=true from c) Cy
 | _=>cases y <;> exact absurd (show false=true from c) Cy
theorem BL:OpR X (compareOp .Lt) (rI0 λi j=>.bl (decide (i<j))):=ro λ_ _ _ _ _ _ _ q=>lt_int q
theorem Bw:OpR X (compareOp .LtE) (rI0 λi j=>.bl (decide (i<=j))):=ro λ_ _ _ _ _ _ _ q=>le_int q
theorem iP:OpR X (compareOp .Gt) (rI0 λi j=>.bl (decide (j<i))):=ro λ_ _ _ _ _ _ _ q=>gt_int q
theorem xU:OpR X (compareOp .GtE) (rI0 λi j=>.bl (decide (j<=i))):=ro λ_ _ _ _ _ _ _ q=>ge_int q
theorem uU:OpR X (compareOp .Lt) (λx y H Q=>∃i j,x=.str i/\y=.str j/\Q (.bl (decide (i.cps.toList<j.cps.toList))) H):=by
 intro a s d H x y v u Q I c b h;obtain⟨i,j,rfl,rfl,q⟩:=h;obtain⟨t,rfl⟩:=c;obtain⟨e,rfl⟩:=b;exact lt_str (aR I q rfl)
theorem AV:OpR X (compareOp .Is) (λx y H Q=>y=.non/\Q (.bl (decide (x=.non))) H):=by
 intro a s d H x y v u Q I b c h;obtain⟨rfl,q⟩:=h;cases c;refine is_none_gen (aR I q ?_);cases x <;> first
  | (cases b;rfl)
  | (obtain⟨t,rfl⟩:=b;rfl)
theorem zi:OpR X (compareOp .IsNot) (λx y H Q=>y=.non/\Q (.bl (!decide (x=.non))) H):=by
 intro a s d H x y v u Q I b c h;obtain⟨rfl,q⟩:=h;cases c;refine isnot_none_gen (aR I q ?_);cases x <;> first
  | (cases b;rfl)
  | (obtain⟨t,rfl⟩:=b;rfl)
theorem aB (b:Expr) (h:autoParam (z≠.In) aD9) (a:autoParam (z≠.NotIn) aD9):behindInMarks z b=false:=by
 have c:(z==CmpOp.In)=false:=by cases z <;> first | rfl | exact absurd rfl h
 have d:(z==CmpOp.NotIn)=false:=by cases z <;> first | rfl | exact absurd rfl a
 cases b <;> simp[behindInMarks,c,d]
theorem lh {z:CmpOp}{r:R2}(d:OpR X (compareOp z) r) (k:PE X a ta) (m:PE X b tb) (f:behindInMarks z b=false):PE X (.Compare a [z] [b] pos) (tOp r ta tb):=by
 intro c s j H Q I h;exact wpAny_Compare1 (xm k m I h λv u g x y l e i n q=>d c g j l x y v u Q e i n q) f
def Bj (t:TE):TT:=λσ H Q=>t σ H λx H'=>∃k,x=.bl k/\Q k H'
theorem ah (i:OpR X (compareOp G) r) (B:PE X a ta) (F:PE X b tb) (n:behindInMarks G b=false):PT X (.Compare a [G] [b] pos) (Bj (tOp r ta tb)):=by
 intro d s f H Q I h;refine wpAny_isTrue_Compare1 (thn (B d s f H _ I h) λv J ⟨x,q,l,C,t⟩=>thn (F d J f q _ l t) λu o ⟨y,D,j,m,w⟩ =>
  thn (i d o f D x y v u _ j C m w) λc K ⟨z,A,E,p,k,e,g⟩=>?_) n
 subst e;cases p;exact wpAny_truthy_bool ⟨A,E,g⟩
def Bg (r r':R2) (ta tb tc:TE):TE:=λσ H Q=>ta σ H λx H1=>tb σ H1 λy H2=>r x y H2 λz H3=>∃k,z=.bl k /\
 (if k=true then tc σ H3 λw' H4=>r' y w' H4 Q else Q (.bl false) H3)
theorem wX (p:OpR X (compareOp J) r) (i:OpR X (compareOp G) U) (P:PE X a ta) (V:PE X b tb) (K:PE X c tc)
    (w:lastMarks [J,G] [b,c]=false:=by with_unfolding_all rfl):PE X (.Compare a [J,G] [b,c] pos) (Bg r U ta tb tc):=by
 intro f s g H Q I h;refine Compare_chain (thn (P f s g H _ I h) λv Y ⟨x,E,t,R,L⟩=>chain_link (thn (V f Y g E _ t L) λu C ⟨y,T,q,l,M⟩ =>
  thn (p f C g T x y v u _ q R l M) λd S ⟨z,m,n,D,k,e,j⟩=>?_)) w
 subst e;cases D;refine wpAny_truthy_bool ?_;cases k with
 | false=>exact ite_ff ⟨.bl false,m,n,rfl,j⟩
 | true=>exact ite_tt (chain_last (thn (K f S g m _ n j) λO N ⟨W,B,F,o,A⟩=>i f N g B y W u O Q F l o A))
theorem gp:(sizeLine:Nat)<2 ^ 63:=by rw[sizeLine_eq];decide
theorem sg:OpR X (binaryOp .Add) (λx y H Q=>∃i j,x=.str i/\y=.str j/\i.length+j.length<=sizeLine/\Q (.str (i++j)) H):=by
 intro a s f H x y v u Q I d c h;obtain⟨i,j,rfl,rfl,b,q⟩:=h;obtain⟨t,rfl⟩:=d;obtain⟨e,rfl⟩:=c;exact add_str (λe g=>⟨.str (i++j),H,I.tok _,⟨_,rfl⟩,q⟩) b
theorem cZ (r:Vals [x] us):∃u,us=[u]/\RelV x u:=by
 cases r with
 | cons r1 r2=>cases r2;exact⟨_,rfl,r1⟩
theorem eY (r:Vals [x,y] us):∃u z,us=[u,z]/\RelV x u/\RelV y z:=by
 cases r with
 | cons r1 r2 =>
  cases r2 with
  | cons r3 r4=>cases r4;exact⟨_,_,rfl,r1,r3⟩
theorem xg:dI X (.builtin "abs") (λxs H Q=>∃i,xs=[.int i]/\Q (.int (if i<0 then -i else i)) H):=by
 intro a s c H xs b Q I r h;obtain⟨i,rfl,q⟩:=h;obtain⟨u,rfl,t,rfl⟩:=cZ r;exact call_abs_int λu d=>⟨.int (if i<0 then -i else i),H,I.tok _,⟨_,rfl⟩,q⟩
theorem ui (c:X.calm=true):dI X (.builtin "min") (λxs H Q=>∃i j,xs=[.int i,.int j]/\Q (.int (if j<i then j else i)) H):=by
 intro b s g H xs e Q I r h;obtain⟨i,j,rfl,q⟩:=h;obtain⟨u,f,rfl,⟨t,rfl⟩,⟨m,rfl⟩⟩:=eY r;refine min_two_ints (I.ok.hd c) λd l k=>⟨_,H,I.kept k,?_,q⟩
 by_cases a:j<i
 ·rw[if_pos a,if_pos a];exact⟨_,rfl⟩
 ·rw[if_neg a,if_neg a];exact⟨_,rfl⟩
theorem lT:dI X (.type "int") (λxs H Q=>(∃i,xs=[.int i]/\Q (.int i) H)∨∃k,xs=[.bl k]/\Q (.int (if k then 1 else 0)) H):=by
 intro a s d H xs c Q I r h;rcases h with⟨i,rfl,q⟩ | ⟨k,rfl,q⟩
 ·obtain⟨u,rfl,t,rfl⟩:=cZ r;exact call_int_int ⟨.int i,H,I,⟨_,rfl⟩,q⟩
 ·obtain⟨u,rfl,b⟩:=cZ r;cases b;exact call_int_bool ⟨.int (if k then 1 else 0),H,I.tok _,⟨_,rfl⟩,q⟩
def AS (K:W.Frag) (x:V) (H:Hp) (n:Nat):Prop :=
 match x with
 | .str y=>y.length<=sizeLine/\n=y.length
 | .byt y=>y.size<=sizeLine/\n=y.size
 | .ref p=>(∃xs,SqL K H p xs/\n=xs.length)∨∃xs,SqT K H p xs/\n=xs.length
 | _=>False
theorem xi:dI X (.builtin "len") (λxs H Q => ∃x n, xs=[x] /\ AS X.K x H n /\ Q (.int n) H) := by
 intro j s w H xs v Q I r h;obtain⟨x,n,rfl,e,q⟩:=h;obtain⟨u,rfl,d⟩:=cZ r;have m:=gp;have o:sizeLine=16777216:=sizeLine_eq;cases x with
 | str y =>
  obtain⟨t,rfl⟩:=d;obtain⟨k,b⟩:y.length<=sizeLine/\n=y.length:=e;subst b;exact len_str (by omega) ⟨.int _,H,I.tok _,⟨_,rfl⟩,q⟩
 | byt y =>
  obtain⟨t,rfl⟩:=d;obtain⟨k,b⟩:y.size<=sizeLine/\n=y.size:=e;subst b;exact W.len_bytes (by omega) ⟨.int _,H,I.tok _,⟨_,rfl⟩,q⟩
 | ref p =>
  cases d;have b:(∃xs,SqL X.K H p xs/\n=xs.length)∨∃xs,SqT X.K H p xs/\n=xs.length:=e;rcases b with⟨xs,g,b⟩ | ⟨xs,g,b⟩
  ·subst b;obtain⟨f,i,c,l⟩:=I.list g;have a:=i.length;exact Calls.call_len_list c.isList (by simp only[Cq];omega) ⟨.int xs.length,H,I.tok _,⟨_,by simp only[Cq];rw[a]⟩,q⟩
  ·subst b;obtain⟨f,i,c,l⟩:=I.tuple g;have a:=i.length;exact len_tuple c (by simp only[Cq];omega) ⟨.int xs.length,H,I.tok _,⟨_,by simp only[Cq];rw[a]⟩,q⟩
 | _=>exact(show False from e).elim
end
structure ObjM (h:Heap) (x dx C:Addr) (mA:MS):Prop where
 obj:h.get? x=some (W.instObj C dx)
 ns:h.Ns1 dx mA
 ne:dx≠x
theorem md {h:Heap}{dx:Addr}{G:Str -> OV}(n:h.Ns1 dx G):∃od, h.get? dx=some od /\ ∀name, W.lookIn name od=some (G name) := by
 obtain⟨o,c,l,f,d,k,_,j⟩:=n;refine⟨o,f,λname=>?_⟩;have e:=j name;unfold nsFind findBy at e;rw[<- Array.find?_toList] at e;unfold W.lookIn;rw[d];dsimp only
 split
 ·rename_i y q
  rw[q] at e;exact congrArg some e
 ·rename_i q
  rw[q] at e;have a:c.toList.any (·.refKey)=false:=by
   rw[List.any_eq_false];intro y g;obtain⟨z,t,b⟩:=k y (Array.mem_toList_iff.mp g);simp[DictEntry.refKey,b]
  have i:¬ c.toList.any (·.refKey)=true:=by rw[a];exact Cy
  rw[if_neg i];exact congrArg some e
theorem ObjM.look (I:ObjM h x dx C z):∃od,W.InstAt h x (W.instObj C dx) C (some od)/\∀name,W.lookIn name od=some (z name) :=
 let ⟨od,a,b⟩:=md I.ns
 ⟨od,⟨I.obj,rfl,rfl,a⟩,b⟩
theorem RelO.some_of (r:RelO (some v) o):∃u,o=some u/\RelV v u:=by
 cases o with
 | none=>exact(show False from r).elim
 | some u=>exact⟨u,rfl,r⟩
theorem uX (r:RelV v u):W.handedIn u=true:=by
 cases v with
 | non=>cases (show u=Value.none from r);rfl
 | bl b=>cases (show u=Value.bool b from r);rfl
 | int i=>obtain⟨t,e⟩:=(show ∃t,u=Value.int i t from r);cases e;rfl
 | str x=>obtain⟨t,e⟩:=(show ∃t,u=Value.str x t from r);cases e;rfl
 | byt b=>obtain⟨t,e⟩:=(show ∃t,u=Value.bytes b t from r);cases e;rfl
 | flt b=>obtain⟨t,e⟩:=(show ∃t,u=Value.float b t from r);cases e;rfl
 | ref a=>cases (show u=Value.ref a from r);rfl
 | ty n=>cases (show u=Value.type n from r);rfl
section
variable {P:Program}{w:World}{H H':Hp}{h h':Heap}{a C dx:Addr}{fs fs':List (Str × V)}
theorem yK (b:HOk P w H h) (e:H a=some (.ins C dx fs)):∃G,ObjM h a dx C G/\(∀f,RelO (fs.lookup f) (G f))/\PySem.Within G (fs.map (·.1))/\fs.length<=1000/\H dx=some (.own a):=by
 obtain⟨d,z,c,g,G,n,r,q⟩:=(show ObjOk P w H h a (.ins C dx fs) from b a _ e)
 exact⟨G,⟨g,n,c⟩,r,q,z,d⟩
end
structure Cls (K:W.Frag) (C:Addr):Prop where
 pg:W.plainGet K C Str.empty=true
 hd:W.hasDictIn K C=true
 po:W.plainOver K C=true
 sa:W.findIn K (.ref C) "__setattr__"=some (some (.builtin "object.__setattr__"))
theorem Cls.get {K:W.Frag}{C:Addr}(c:Cls K C) (f:Str):W.plainGet K C f=true:=c.pg
section
variable {X:Cx}{pins:AO_}{σ:St}{H:Hp}{s:Shared}{a C dx:Addr}{fs:List (Str × V)}{f:Str}{v:V}{A:Around}{E:QS}
theorem yF (a:attributeBase e f env (eval e env)=eval e env)
    (h:wpAny (model prog w) A (eval e env) (λo z=>wpAny (model prog w) A (getAttr o f true) Q E z) E s):wpAny (model prog w) A (eval (.Attribute e f pos) env) Q E s :=
 Attribute_any_ h (by rw[arm_eval_Attribute,a])
end
section
variable {X:Cx}{pins:AO_}{σ:St}{H:Hp}{s:Shared}{A:Around}{E:QS}{Q:QS}{c:Value}{b:Bool}
inductive TyOf (K:W.Frag) (H:Hp):V -> Value -> Prop where
 | non:TyOf K H .non (.type "NoneType")
 | bl (x:Bool):TyOf K H (.bl x) (.type "bool")
 | int (i:Int):TyOf K H (.int i) (.type "int")
 | str (x:Str):TyOf K H (.str x) (.type "str")
 | flt (x:UInt64):TyOf K H (.flt x) (.type "float")
 | lst {a:Addr} {xs:LV} (e:H a=some (.lst xs)):TyOf K H (.ref a) (.type "list")
 | frz {a:Addr} {o:Obj} {xs:LV} (e:H a=some (.frz o (.lst xs))):TyOf K H (.ref a) (.type "list")
 | tup {a:Addr} {xs:LV} (e:H a=some (.tup xs)):TyOf K H (.ref a) (.type "tuple")
 | dK {a:Addr} {kvs:KV_} (e:H a=some (.dK kvs)):TyOf K H (.ref a) (.type "dict")
 | dT {a:Addr} {kvs:List (List Key × V)} (e:H a=some (.dT kvs)):TyOf K H (.ref a) (.type "dict")
 | ins {a C dx:Addr} {fs:List (Str × V)} (e:H a=some (.ins C dx fs)) (cl:Cls K C) (ha:W.findIn K (.ref C) "__class__"=some (some (.builtin "object.__class__")))
     (hn:W.specialIn K (.builtin "object.__class__") "__get__"=some (some (.builtin "getset_descriptor.__get__"))) (htk:W.takesIn K (.builtin "object.__class__")=some true)
     (hm:W.mroIn K C (.type "object")=some true):TyOf K H (.ref a) (.ref C)
theorem uC (I:Inv X pins σ H s) (d:RelV x u) (l:TyOf X.K H x t) (e:W.kitOne X.K t c=some b) (h:∀tk,Q (.bool b) { s with toks:=tk }) :
    wpAny (model X.prog X.w) A (call (.builtin "isinstance") [u,c]) Q E s:=by
 cases l with
 | non=>cases (show u=Value.none from d);exact W.kia_one W.kitx_none I.kIn True.intro e (λz=>nomatch z) h
 | bl y=>cases (show u=Value.bool y from d);exact W.kia_one W.kitx_bool I.kIn True.intro e (λz=>nomatch z) h
 | int i=>obtain⟨t,q⟩:=(show ∃t,u=Value.int i t from d);cases q;exact W.kia_one W.kitx_int I.kIn True.intro e (λz=>nomatch z) h
 | str y=>obtain⟨t,q⟩:=(show ∃t,u=Value.str y t from d);cases q;exact W.kia_one W.kitx_str I.kIn True.intro e (λz=>nomatch z) h
 | flt y=>obtain⟨t,q⟩:=(show ∃t,u=Value.float y t from d);cases q;exact W.kia_one W.kitx_float I.kIn True.intro e (λz=>nomatch z) h
 | @lst a g ea =>
  cases (show u=Value.ref a from d);obtain⟨_,_,n,_,f⟩:=(show ObjOk X.prog X.w H s.heap a (.lst g) from I.hok a _ ea)
  exact W.kia_one W.kitx_list I.kIn ⟨_,f,rfl⟩ e (λz=>nomatch z) h
 | @frz a ob g ea =>
  cases (show u=Value.ref a from d);obtain⟨_,_,_,n,_,f⟩:=(show ObjOk X.prog X.w H s.heap a (.frz ob (.lst g)) from I.hok a _ ea)
  exact W.kia_one W.kitx_list I.kIn ⟨_,f,rfl⟩ e (λz=>nomatch z) h
 | @tup a g ea =>
  cases (show u=Value.ref a from d);obtain⟨_,_,_,p⟩:=(show ObjOk X.prog X.w H s.heap a (.tup g) from I.hok a _ ea)
  obtain⟨o,f,j,_⟩:=p;exact W.kia_one W.kitx_tuple I.kIn ⟨o,f,j⟩ e (λz=>nomatch z) h
 | @dK a kvs ea =>
  cases (show u=Value.ref a from d);obtain⟨_,_,v,_,p⟩:=(show ObjOk X.prog X.w H s.heap a (.dK kvs) from I.hok a _ ea)
  obtain⟨o,m,k,f,j,_⟩:=p;exact W.kia_one W.kitx_dict I.kIn ⟨o,f,j.1⟩ e (λz=>nomatch z) h
 | @dT a kvs ea =>
  cases (show u=Value.ref a from d);obtain⟨_,_,g,_,o,m,k,f,j,_⟩:=(show ObjOk X.prog X.w H s.heap a (.dT kvs) from I.hok a _ ea)
  exact W.kia_one W.kitx_dict I.kIn ⟨o,f,j.1⟩ e (λz=>nomatch z) h
 | @ins a C dx fs ea cl ha hn htk hm =>
  cases (show u=Value.ref a from d);obtain⟨r,O,_⟩:=yK I.hok ea;obtain⟨w,J,_⟩:=O.look;exact W.kia_one (W.kitx_own (cl.get _) cl.hd ha hn htk hm) I.kIn J e (λz=>nomatch z) h
end
structure Room (k:Nat) (A:Around):Prop where
 hd:A.handled=none
 dp:A.depth+3 * k+5<recursionLimit
 un:A.units+16 * k+200<cLine
 gd:A.guards=some []
theorem Room.mono (r:Room k A) (h:j<=k):Room j A:=⟨r.hd,by have:=r.dp;omega,by have:=r.un;omega,r.gd⟩
theorem Room.deeper (r:Room (k+1) A) (env:Env):Room k (A.deeper env) :=
 ⟨r.hd,by have:=r.dp;show A.depth+1+3 * k+5<_;omega,by have:=r.un;show A.units+3+16 * k+200<_;omega,r.gd⟩
theorem sd {A:Around}{C:Addr}{us:LW}{z:List (Str × Value)}:(A.under (.builtin "type.__call__" ⟨.ref C::us,z⟩)).depth=A.depth+1:=by
 first | rfl | simp[Around.under,Code.weight,Code.isCreation,Code.isGuard,Code.isCaller,Code.frames,Code.isFrame,guardIds]
theorem rX {A:Around}{C:Addr}{us:LW}{z:List (Str × Value)}:(A.under (.builtin "type.__call__" ⟨.ref C::us,z⟩)).units=A.units+1:=by
 first | rfl | simp[Around.under,Code.cUnits,Code.frames,Code.isFrame]
theorem Room.make (r:Room (k+1) A) (C:Addr) (us:LW) (a:List (Str × Value)):Room k (A.under (.builtin "type.__call__" ⟨.ref C::us,a⟩)) :=
 ⟨r.hd,by have:=r.dp;rw[sd];omega,by have:=r.un;rw[rX];omega,by first | exact r.gd | (simp[Around.under,Code.isGuard,guardIds];exact r.gd)⟩
theorem Room.depth (r:Room k A):A.depth<recursionLimit:=by have:=r.dp;omega
theorem Room.units (r:Room k A):A.units+64<cLine:=by have:=r.un;omega
def rJ:TA:=λ_ H Q=>Q [] H
def nh (ta:TE) (tr:TA):TA:=λσ H Q=>ta σ H λx H1=>tr σ H1 λxs H2=>Q (x::xs) H2
section
variable {X:Cx}{e:Expr}{es:List Expr}{te:TE}{t:TA}{pos:Pos}
theorem cj:PA X [] rJ:=λ_ _ _ _ H Q I h=>Calls.spliced_nil ⟨[],H,I,.nil,h⟩
theorem ak (o:PE X e te) (n:PA X es t) (i:autoParam (starEach (e::es) X.env=(false,eval e X.env)::starEach es X.env) aR9):PA X (e::es) (nh te t):=by
 intro b a s c H Q I h;rw[i];show wpAny _ _ (spliced ((false,eval e X.env)::backTo b (starEach es X.env))) _ _ s;refine Calls.spliced_cons (thn (o a s c H _ I h) λu r ⟨x,j,f,p,k⟩=>?_);exact thn (n b a r c j _ f k) λw v ⟨m,q,d,g,l⟩=>⟨x::m,q,d,.cons p g,l⟩
def tTup (t:TA):TE:=λσ H Q=>t σ H λxs H1=>xs.length<=sizeLine/\∀p,H1 p=none->Q (.ref p) (upd H1 p (.tup xs))
def tLst (t:TA):TE:=λσ H Q=>t σ H λxs H1=>xs.length<=sizeLine/\∀p,H1 p=none->Q (.ref p) (upd H1 p (.lst xs))
theorem aF {x1}(h:PA X es t):PE X (.Tuple es x1 pos) (tTup t):=by
 intro a s l H Q I i;refine wpAny_Tuple_spliced (thn (h pos a s l H _ I i) λk c ⟨j,f,d,r,z,q⟩=>⟨by rw[<- r.length];exact z,?_⟩);have g:f c.heap.objs.size=none:=d.hok.fresh (BR _);refine⟨.ref c.heap.objs.size,upd f c.heap.objs.size (.tup j),d.laid (t':=c.toks) (λb u e=>Cc _ e) (BR _) ?_,rfl,q _ g⟩;exact⟨z,k,r,⟨_,Co _ rfl,rfl,_,rfl,rfl⟩⟩
theorem aQ (h:PA X es t):PE X (.List es pos) (tLst t):=by
 intro a s l H Q I i;refine wpAny_List_spliced (thn (h pos a s l H _ I i) λk c ⟨j,f,d,r,z,q⟩=>⟨by rw[<- r.length];exact z,?_⟩);have g:f c.heap.objs.size=none:=d.hok.fresh (BR _);refine⟨.ref c.heap.objs.size,upd f c.heap.objs.size (.lst j),d.laid (t':=c.toks) (λb u e=>Cc _ e) (BR _) ?_,rfl,q _ g⟩;exact⟨z,k,0,r,Co _ rfl⟩
end
abbrev Sp:=LV->Hp->VK->XK->Prop
abbrev CXT:=List Env->Hp->Shared->XK->QS
structure Env0 (P:Program) (w:World) (K:W.Frag) (mg:MS) (base:Heap) (A:Around) (outer:List Env) (s:Shared) (H:Hp):Prop where
 frames:A.frames=some outer
 mod:Mod K mg base
 bs:∀b o,base.get? b=some o->s.heap.get? b=some o/\H b=none
 bsz:base.objs.size<=s.heap.objs.size
 funs:s.heap.FunFrames base outer
 frf:∀b∈frs outer,H b=none
 hok:HOk P w H s.heap
 bare:AllBare s.gens
def CE (outer:List Env) (P:Program) (w:World) (H:Hp) (s:Shared) (Q:VK) (u:Value) (s':Shared):Prop :=
 ∃v H',s'.os=s.os/\AllBare s'.gens/\Un (frs outer) [] H H' s.heap s'.heap/\HOk P w H' s'.heap/\RelV v u/\Q v H'
def CR (CX:CXT) (outer:List Env) (P:Program) (w:World) (H:Hp) (s:Shared) (Q:VK) (E:XK) (r:Result) (s':Shared):Prop :=
 match r with
 | .ok (.ret u)=>CE outer P w H s Q u s'
 | .ok _=>False
 | .error e=>CX outer H s E e s'
structure FnOk (P:Program) (w:World) (K:W.Frag) (mg:MS) (base:Heap) (CX:CXT) (k:Nat) (f:Addr) (fd:FuncData) (ps:LS) (sp:Sp):Prop where
 len:∀vs H Q E,sp vs H Q E->vs.length=ps.length
 run:∀(A:Around) (outer:List Env) (s:Shared) (H:Hp) (args:Args) (us:LW) (vs:LV) (Q:VK) (E:XK),Room k A->Env0 P w K mg base A outer s H->BindsTo s fd args (ps.zip us)->Vals vs us->sp vs H Q E ->
  codeAny (model P w) A (.call (.ref f) args) (CR CX outer P w H s Q E) s
theorem Env0.make {P:Program}{w:World}{K:W.Frag}{mg:MS}{base:Heap}{A:Around}{z:List Env}{s:Shared}{H:Hp}(e:Env0 P w K mg base A z s H) (C:Addr) (us:LW) (a:List (Str × Value)) :
    Env0 P w K mg base (A.under (.builtin "type.__call__" ⟨.ref C::us,a⟩)) z s H:=⟨by first | exact e.frames | (simpa [Around.under,Code.envs,Code.isFrame,pushEnvs] using e.frames),e.mod,e.bs,e.bsz,e.funs,e.frf,e.hok,e.bare⟩
section
variable {X:Cx}{pins:AO_}{σ:St}{H:Hp}{s s':Shared}
theorem Inv.env0 (I:Inv X pins σ H s):Env0 X.prog X.w X.K X.mg X.base X.A X.stack s H :=
 ⟨I.ok.frames,I.ok.mod,I.bs,Cn I.ok.bsz I.sz,I.stack,I.stkFree,I.hok,I.bare⟩
theorem Inv.after (I:Inv X pins σ H s) (h:CE X.stack X.prog X.w H s Q u s'):EP X pins σ Q u s':=by
 obtain⟨v,k,i,a,f,e,r,q⟩:=h;obtain⟨j,g,d,t,c⟩:=s';obtain rfl:c=s.os:=i;exact⟨v,k,I.call (h':=j) (g':=g) (d':=d) (t':=t) (ch:=[]) f e a (λb z=>absurd z (by simp)),r,q⟩
end
def mZ (sp:Sp) (dvs:LV) (E:XK) (t:TA):TE:=λσ H Q=>t σ H λvs H1=>sp (vs++dvs) H1 Q E
def Binds (K:W.Frag) (fd:FuncData) (ps:LS) (ds:LW):Prop :=
 ∀(s:Shared) (us:LW),K.In s.heap->(us++ds).length=ps.length->BindsTo s fd ⟨us,[]⟩ (ps.zip (us++ds))
theorem Binds.all {K:W.Frag}{fd:FuncData}{ps:LS}(h:∀us:LW,us.length=ps.length->bindArgs fd ⟨us,[]⟩=pure (ps.zip us)):Binds K fd ps []:=λs us _ a=>by
 rw[CB] at a ⊢;exact .of_eq (h us a)
def iB (CX:CXT) (X:Cx) (E:XK):Prop:=∀(pins:AO_) (σ:St) (H:Hp) (s:Shared) (e:Value) (s':Shared),Inv X pins σ H s->CX X.stack H s E e s'->X.xe e s'
section
variable {X:Cx}{CX:CXT}{k:Nat}{f C:Addr}{fd:FuncData}{ps:LS}{sp:Sp}{dvs:LV}{ds:LW}{E:XK}{x m:Str}{p pos apos:Pos}{e o:Expr}{es:List Expr}{ta:TE}{t:TA}
theorem uN (F:FnOk X.prog X.w X.K X.mg X.base CX k f fd ps sp) (l:Room k X.A) (d:Binds X.K fd ps ds) (c:Vals dvs ds) (j:iB CX X E)
    (I:Inv X pins σ H s) (r:Vals z us) (h:sp (z++dvs) H Q E):wpAny (model X.prog X.w) X.A (call (.ref f) us) (EP X pins σ Q) X.xe s:=by
 have b:Vals (z++dvs) (us++ds):=r.append c;have i:(us++ds).length=ps.length:=by rw[<- b.length];exact F.len _ _ _ _ h
 refine wpAny_call (codeAny_mono (F.run X.A X.stack s H ⟨us,[]⟩ (us++ds) (z++dvs) Q E l I.env0 (d s us I.kIn i) b h) λr g a=>?_);cases r with
 | error e=>exact j pins σ H s e g I a
 | ok fl =>
  cases fl with
  | ret u=>exact I.after a
  | next=>exact False.elim a
  | brk=>exact False.elim a
  | cont=>exact False.elim a
theorem qo (F:FnOk X.prog X.w X.K X.mg X.base CX k f fd ps sp) (i:Room k X.A) (n:Gl X x) (c:X.mg x=some (.ref f)) (d:W.keepIn X.K (.ref f)=true) (o:Binds X.K fd ps ds) (j:Vals dvs ds) (g:iB CX X E)
    (m:PA X (e::es) t) (hdb:autoParam ((x==("__debug__":Str))=false) aD9) (he:autoParam (starEach (e::es) X.env=(false,eval e X.env)::starEach es X.env) aR9) (hpl:autoParam ((backTo pos (starEach es X.env)).any (·.1)=false) aR9) :
    PE X (.Call (.Name x p) (e::es) [] pos) (mZ sp dvs E t):=by
 intro a s l H Q I h;refine DO (gP I n c ?_ hdb);refine W.callWith_K (h₀:=X.base) I.ok.mod.kin d (thn (m pos a s l H _ I h) λw y ⟨v,u,b,r,q⟩=>⟨b.kIn,?_⟩) he hpl;exact uN F i o j g b r q
end
structure FnScope (N P:LS) (sc:Scope):Prop where
 kind:sc.kind=.function
 co:sc.isCoroutine=false
 gen:sc.isGenerator=false
 nd:N.Nodup
 pre:N.take P.length=P
 par:∀x∈P,sc.names.lookup x=some .local∨sc.names.lookup x=some .cell
 nofree:∀y∈sc.names,y.2≠.free
theorem mw {kindOf:Str -> Option NameKind}{x:Str}:∀ {binds:List (Str × Value)}{m:Str -> OV}, (∀v, (x, v) ∉ binds) -> bindL kindOf binds m x=m x
 | [],_,_=>rfl
 | (n,v)::r,m,h=>by
  unfold bindL;rw[mw λw hw=>h w (Cw _ hw)]
  split
  ·have:x≠n:=by rintro rfl;exact h v CW
   simp[this]
  ·rfl
theorem mE {kindOf:Str -> Option NameKind}{x:Str}:∀ {binds:List (Str × Value)}{m:Str -> OV}, (∀v, (x, v) ∉ binds) -> bindC kindOf binds m x=m x
 | [],_,_=>rfl
 | (n,v)::r,m,h=>by
  unfold bindC;rw[mE λw hw=>h w (Cw _ hw)]
  split
  ·rfl
  ·have:x≠n:=by rintro rfl;exact h v CW
   simp[this]
theorem lI {kindOf:Str->Option NameKind}{x:Str}:∀ {P:LS}{vs:LW}{i:Nat}{m:MS},P.Nodup->P[i]? = some x->vs[i]? = some v->kindOf x=some .local ->
    bindL kindOf (P.zip vs) m x=some v
 | [],_,_,_,_,h,_,_=>by simp at h
 | _::_,[],_,_,_,_,h,_=>by simp at h
 | p::P,w::vs,0,m,nd,h1,h2,hk=>by
  simp at h1 h2;subst h1;subst h2;show bindL kindOf ((p,w)::P.zip vs) m p=_;unfold bindL;rw[mw λv hv=>(CI.mp nd).1 (List.of_mem_zip hv).1,if_pos hk];simp
 | p::P,w::vs,i+1,m,nd,h1,h2,hk=>by
  show bindL kindOf ((p,w)::P.zip vs) m x=_;unfold bindL;exact lI (i:=i) (CI.mp nd).2 (by simpa using h1) (by simpa using h2) hk
theorem mI {kindOf:Str->Option NameKind}{x:Str}:∀ {P:LS}{vs:LW}{i:Nat}{m:MS},P.Nodup->P[i]? = some x->vs[i]? = some v->kindOf x≠some .local ->
    bindC kindOf (P.zip vs) m x=some v
 | [],_,_,_,_,h,_,_=>by simp at h
 | _::_,[],_,_,_,_,h,_=>by simp at h
 | p::P,w::vs,0,m,nd,h1,h2,hk=>by
  simp at h1 h2;subst h1;subst h2;show bindC kindOf ((p,w)::P.zip vs) m p=_;unfold bindC;rw[mE λv hv=>(CI.mp nd).1 (List.of_mem_zip hv).1,if_neg hk];simp
 | p::P,w::vs,i+1,m,nd,h1,h2,hk=>by
  show bindC kindOf ((p,w)::P.zip vs) m x=_;unfold bindC;exact mI (i:=i) (CI.mp nd).2 (by simpa using h1) (by simpa using h2) hk
def start (N:LS) (vs:LV):St:=vs.map some++List.replicate (N.length-vs.length) none
def bo (CX:CXT) (P:Program) (w:World) (K:W.Frag) (mg:MS) (base:Heap) (N:LS) (qual:Str) (scope:Scope) (f:Addr) (cd:Value) (A:Around) (outer:List Env) (s:Shared) (H:Hp) (E:XK):Cx where
 prog:=P
 w:=w
 K:=K
 mg:=mg
 base:=base
 A:=A.deeper (envOfC qual scope s.heap.objs.size f cd)
 N:=N
 s₀:=s
 H₀:=H
 env:=envOfC qual scope s.heap.objs.size f cd
 outer:=outer
 stack:=envOfC qual scope s.heap.objs.size f cd::outer
 ex:=[]
 calm:=true
 fn:=λ_=>true
 pn:=[]
 xe:=λe s'=>wpAny (model P w) (A.deeper (envOfC qual scope s.heap.objs.size f cd)) (leaving (envOfC qual scope s.heap.objs.size f cd) e) (λ_ s''=>CX outer H s E e s'') (λe' s''=>CX outer H s E e' s'') s'
theorem pd {z:Scope}{n:Nat}{x:Str}(h:z.names.lookup x=some .cell):∃c,(cellsFrom n z.names []).lookup x=some c:=by
 have q:=W.cellsFrom_some z.names n [] (.inl h);exact Dl.mp q
theorem uk {CX:CXT}{P:Program}{w:World}{K:W.Frag}{mg:Str -> OV}{base:Heap}{N ps:LS}{qual:Str}{scope:Scope}{f:Addr}{J:Value}{A:Around}{G:List Env}{s O:Shared}{H:Hp}{E:XK}{us:LW}{I:LV}
    (S:FnScope N ps scope) (L:A.handled=none) (g:Env0 P w K mg base A G s H) (T:I.length=ps.length) (r:Vals I us)
    (x:InCallC s s.heap.objs.size (bindL (envOfC qual scope s.heap.objs.size f J).kindOf (ps.zip us) λ_=>none) (cellsFrom (s.heap.objs.size+1) scope.names []) (bindC (envOfC qual scope s.heap.objs.size f J).kindOf (ps.zip us) λ_=>none) O) :
    Inv (bo CX P w K mg base N qual scope f J A G s H E) [] (start N I) H O:=by
 have Q:ps.length<=N.length:=by have:=congrArg List.length S.pre;rw[Ck] at this;omega
 obtain⟨t,U,rfl,C⟩:=x.done;have l:∀b:Addr,b∉(bo CX P w K mg base N qual scope f J A G s H E).ex:=λb z=>absurd (show b∈([]:List Addr) from z) (by simp);refine⟨⟨g.mod,S.kind,rfl,rfl,BR _,λy z c t d=>?_,λy j=>?_,λy c _ h=>?_,λ_=>L,Around.frames_deeper g.frames,.inr ⟨rfl,rfl⟩,λb z=>absurd z (l b),g.bs,g.bsz,λb _ _=>l b,λb z=>absurd z (l b),g.funs,g.frf⟩,
  rfl,g.bare,Un.kept C,⟨_,x.toInCall.ns,λi y v t d R=>?_⟩,λy c h=>⟨_,x.cell y c h⟩,g.hok.fresh (BR _),λy c h=>?_,λp m=>absurd (show p∈([]:AO_) from m) (by simp),g.hok.kept C,?_⟩
 ·exact name_of_addr x.apart (PySem.mem_of_lookup t) (PySem.mem_of_lookup d)
 ·have j:scope.names.lookup y=some .cell∨scope.names.lookup y=some .free:=j;rcases j with j | j
  ·exact pd j
  ·exact absurd rfl (S.nofree _ (PySem.mem_of_lookup j))
 ·exact CP (x.above y c (PySem.mem_of_lookup h))
 ·have B:i<I.length := by
     unfold start at d;by_cases B:i<I.length
     ·exact B
     ·rw[DB (by simpa using B)] at d;rw[List.getElem?_replicate] at d
      split at d <;> cases d
  have M:I[i]? = some v:=by
   unfold start at d;rw[Dm (by simpa using B),Ce] at d;cases e:I[i]? with
   | none=>rw[e] at d;cases d
   | some a=>rw[e] at d;cases d;rfl
  obtain⟨u,D,F⟩:=r.get M;have m:ps[i]? = some y:=by rw[<- S.pre,DC (by omega)];exact t
  have o:ps.Nodup:=by rw[<- S.pre];exact S.nd.sublist (DZ _ _)
  refine⟨u,F,?_⟩;rcases S.par y (BW m) with k | k
  ·exact .inl ⟨k,lI o m D k⟩
  ·obtain⟨c,e⟩:=pd (n:=s.heap.objs.size+1) k;refine .inr ⟨.inl k,c,e,?_⟩;have q:=x.cell y c e;rw[mI o m D (by show scope.names.lookup y≠_;rw[k];decide)] at q;exact q
 ·exact g.hok.fresh (CP (x.above y c (PySem.mem_of_lookup h)))
 ·unfold start;show _=N.length;rw[Cj,BQ,List.length_replicate];omega
theorem xZ {CX:CXT}{P:Program}{w:World}{K:W.Frag}{mg:Str -> OV}{base:Heap}{k:Nat}{f:Addr}{name qual:Str}{O:Arguments}{U:List Stmt}{scope:Scope}{dV kV a0 pm G ct oc:Value}{an od:Option Addr}
    {a1:Array (OV)} {N ps:LS} {sp:Sp} (lk:K.lookup f=some ⟨oc,od,.func (W.fnOf name qual O U scope dV kV a0 pm an G ct),a1⟩) (m:W.codeIn K G qual=true) (S:FnScope N ps scope)
    (j:∀Y H Q E,sp Y H Q E->Y.length=ps.length)
    (c:∀(A:Around) (z:List Env) (s:Shared) (H:Hp) (Y:LV) (Q:VK) (E:XK),Room k (A.deeper (envOfC qual scope s.heap.objs.size f G))->sp Y H Q E ->
     ∃t,PSs (bo CX P w K mg base N qual scope f G A z s H E) U t/\t { nx:=λ_ H'=>Q .non H',rt:=Q } (start N Y) H) :
    FnOk P w K mg base CX (k+1) f (W.fnOf name qual O U scope dV kV a0 pm an G ct) ps sp:=by
 refine⟨j,λA z s H L us Y Q E D i hb r l=>?_⟩;have T:=j _ _ _ _ l;have F:K.In s.heap:=i.mod.kin.keeps λb o e=>(i.bs b o e).1;have p:s.heap.NoLimit:=i.mod.nolimit.keeps λb o e=>(i.bs b o e).1;have d:∀y∈ps.zip us,scope.names.lookup y.1=some .local∨(scope.names.lookup y.1=some .cell/\((cellsFrom (s.heap.objs.size+1) scope.names []).lookup y.1).isSome=true):=λ⟨n,v⟩ R=>by
  rcases S.par n (List.of_mem_zip R).1 with q | q
  ·exact .inl q
  ·exact .inr ⟨q,W.cellsFrom_some _ _ _ (.inl q)⟩
 refine codeAny_call_function D.depth (F _ _ lk) rfl S.co S.gen rfl (W.codeRec_of F m) (hb _ _ _ _ ?_);refine wpAny_newFunctionEnv_cells S.kind d λa2 Z M x=>?_;subst Z;refine⟨p.keeps x.toInCall.keep,codeAny_func ?_⟩;obtain⟨t,X,hq⟩:=c A z s H Y Q E (D.deeper _) l;have I:Inv (bo CX P w K mg base N qual scope f G A z s H E) [] (start N Y) H M:=uk S D.hd i T r x;refine CY (X [] M (start N Y) H _ I hq) (λfl C g=>?_) λe C g=>g;have h:∀ {a:St} {H':Hp} {v:V} {u:Value},Inv (bo CX P w K mg base N qual scope f G A z s H E) [] a H' C->RelV v u->Q v H'->CE z P w H s Q u C :=
  λ{a H' v u} J B q=>⟨v,H',J.os,J.bare,J.base,J.hok,B,q⟩
 cases fl with
 | ret u =>
  obtain⟨v,a,H',J,B,q⟩:=g;exact h J B q
 | next =>
  obtain⟨a,H',J,q⟩:=g;exact h (v:=V.non) (u:=Value.none) J rfl q
 | brk =>
  obtain⟨_,_,_,q⟩:=g;exact False.elim q
 | cont =>
  obtain⟨_,_,_,q⟩:=g;exact False.elim q
section
variable {X:Cx}{x:Str}{p pos:Pos}{e:Expr}{es:List Expr}{t:TA}{id T:String}{r:LV->Hp->VK->Prop}
def tCB (r:LV->Hp->VK->Prop) (t:TA):TE:=λσ H Q=>t σ H λvs H1=>r vs H1 Q
theorem dN (j:dI X (.builtin id) r) (q:Gl X x) (d:X.mg x=none) (n:bootBuiltins x=some (.builtin id)) (m:PA X (e::es) t) (f:autoParam (x≠"__name__") aD9) (hdb:autoParam ((x==("__debug__":Str))=false) aD9)
    (he:autoParam (starEach (e::es) X.env=(false,eval e X.env)::starEach es X.env) aR9) (hpl:autoParam ((backTo pos (starEach es X.env)).any (·.1)=false) aR9):PE X (.Call (.Name x p) (e::es) [] pos) (tCB r t):=by
 intro a s b H Q I h;refine DO (du I q d n ?_ f hdb);exact PyProof.Rows.callWith_builtin1 (thn (m pos a s b H _ I h) λl u ⟨i,g,c,o,k⟩=>j a u b g i l Q c o k) he hpl
theorem fk (j:dI X (.type T) r) (q:Gl X x) (d:X.mg x=none) (n:bootBuiltins x=some (.type T)) (m:PA X (e::es) t) (f:autoParam (x≠"__name__") aD9) (hdb:autoParam ((x==("__debug__":Str))=false) aD9)
    (he:autoParam (starEach (e::es) X.env=(false,eval e X.env)::starEach es X.env) aR9) (hpl:autoParam ((backTo pos (starEach es X.env)).any (·.1)=false) aR9):PE X (.Call (.Name x p) (e::es) [] pos) (tCB r t):=by
 intro a s b H Q I h;refine DO (du I q d n ?_ f hdb);exact PyProof.Rows.callWith_type1 (thn (m pos a s b H _ I h) λl u ⟨i,g,c,o,k⟩=>j a u b g i l Q c o k) he hpl
end
end L2
namespace HT
open PySem PyProof.Rows
section
open PySem.SeqAt
open PySem.AutoSeq1 (wpAny_loadPart')
open PySem.MeetsSeq PySem.MeetsSeq2 PySem.MeetsSeq3
end
section
variable {prog:Program}{w:World}{A:Around}{E:QS}{s:Shared}
theorem cat_tup (u:IsTup s.heap t vs.toArray) (x:IsTup s.heap b ws.toArray) (p:vs ≠ [])
    (v:ws=[]->Q (.ref t) s) (y:ws≠[]->Q (.ref s.heap.objs.size) { s with heap:=s.heap.push { cls:=.type "tuple",data:=.seq (vs++ws).toArray } })
    (hsz:vs.length+ws.length<=sizeLine):wpAny (model prog w) A (binaryOp .Add (.ref t) (.ref b)) Q E s:=by
 obtain⟨⟨cls,o,data,q⟩,i,k,n,m⟩:=id u;obtain⟨⟨l,d,j,c⟩,a,f,r,g⟩:=id x;simp only at k m f g;subst k m f g;have e:vs.toArray++ws.toArray=(vs++ws).toArray:=by simp
 by_cases h:ws=[]
 ·exact concat_meets ⟨_,i,rfl⟩ ⟨_,a,rfl⟩ noFill_tuple_add seq_tuple_add PySem.F.slot_tuple_add PySem.F.entry_tuple_add (PySem.F.args_tuple_add_2 _ _)
     (tuple_addW1 t b vs.toArray ws.toArray n r o d q c (by simpa using p) (by simp[h])) ⟨i,a,v h⟩
 ·refine concat_meets ⟨_,i,rfl⟩ ⟨_,a,rfl⟩ noFill_tuple_add seq_tuple_add PySem.F.slot_tuple_add PySem.F.entry_tuple_add (PySem.F.args_tuple_add_2 _ _)
     (tuple_addW2 t b vs.toArray ws.toArray n r o d q c (by simpa using p) (by simpa using h) (by rw[Cq,Cq];exact hsz)) ⟨i,a,?_⟩
  rw[e];exact y h
def sIx (n d:Nat):Option Int->Nat
 | none=>d
 | some v=>if v<0 then (v+(n:Int)).toNat else min v.toNat n
theorem sIx_none (n d:Nat):sIx n d none=d:=rfl
theorem sIx_nat (n d k:Nat):sIx n d (some (k:Int))=min k n:=by
 show (if (k:Int)<0 then ((k:Int)+(n:Int)).toNat else min (k:Int).toNat n)=min k n;rw[if_neg (by omega),DE]
theorem zA (n d:Nat) (b:d<=n) (o:Option Int):sIx n d o<=n:=by
 cases o with
 | none=>exact b
 | some v =>
  show (if v<0 then (v+(n:Int)).toNat else min v.toNat n)<=n;by_cases a:v<0
  ·rw[if_pos a];omega
  ·rw[if_neg a];exact Nat.min_le_right _ _
theorem rg (v:Int) (n d:Nat):(if v<0 then max (v+(n:Int)) 0 else min v (n:Int))=((sIx n d (some v):Nat):Int):=by
 show (if v<0 then max (v+(n:Int)) 0 else min v (n:Int))=(((if v<0 then (v+(n:Int)).toNat else min v.toNat n):Nat):Int)
 by_cases a:v<0
 ·simp only[if_pos a];omega
 ·simp only[if_neg a];omega
theorem rR (a b:Option Int) (n:Nat):Builtin.Slice.sliceAdjust a b 1 (n:Int)=(((sIx n 0 a:Nat):Int),((sIx n n b:Nat):Int)):=by
 have c:¬ ((1:Int)<0):=by omega
 unfold Builtin.Slice.sliceAdjust;simp only[c,if_false];refine Prod.ext ?_ ?_
 ·cases a with
  | none=>rfl
  | some v=>exact rg v n 0
 ·cases b with
  | none=>rfl
  | some v=>exact rg v n n
theorem sJ (i j:Nat):Builtin.Slice.slicePlaces (i:Int) (j:Int) 1=j-i:=by
 unfold Builtin.Slice.slicePlaces;have a:(1:Int) > 0:=by omega
 simp only[a,if_true,Int.ediv_one]
 split <;> omega
theorem kA (p:IsPart v o) (h:Q o s):wpAny (model prog w) A (Builtin.Slice.slicePartIndex v) Q E s:=by
 cases p with
 | none=>exact slicePart_none h
 | int i t=>exact slicePart_int h
theorem fL {lo hi:Option Int}{n:Nat}{Q:Int × Int × Nat->Shared->Prop}(e:s.heap.IsSliceOf I z G .none) (c:IsPart z lo) (d:IsPart G hi)
    (h:Q (((sIx n 0 lo:Nat):Int),1,sIx n n hi-sIx n 0 lo) s):wpAny (model prog w) A (Builtin.Slice.sliceApplied (.ref I) (pure (n:Int))) Q E s:=by
 obtain⟨g,a,f,b⟩:=id e;unfold Builtin.Slice.sliceApplied Builtin.Slice.sliceFields;refine BP (BP (CD a b (x:=z) rfl (BP (CD a b (x:=G) rfl (BP (CD a b (x:=.none) rfl (BS ?_)))))));refine BP (slicePart_none ?_);show wpAny _ _ (if ((1:Int)==0)=true then _ else _) _ _ s;rw[if_neg (by decide)];refine BP (kA c (BP (kA d (BP (BS ?_)))));show wpAny _ _ (match Builtin.Slice.sliceAdjust lo hi 1 (n:Int) with | (lo,hi)=>pure (lo,(1:Int),Builtin.Slice.slicePlaces lo hi 1)) _ _ s;rw[rR lo hi n];show wpAny _ _ (pure (((sIx n 0 lo:Nat):Int),(1:Int),Builtin.Slice.slicePlaces ((sIx n 0 lo:Nat):Int) ((sIx n n hi:Nat):Int) 1)) _ _ s;rw[sJ];exact BS h
theorem xo (xs:Array Value) (i k:Nat):((List.range k).filterMap λ(m:Nat)=>xs[((i:Int)+(m:Int) * 1).toNat]?).toArray=((xs.toList.drop i).take k).toArray:=by
 have e:(λ(m:Nat)=>xs[((i:Int)+(m:Int) * 1).toNat]?)=λm=>xs[i+m]?:=by
  funext m
  have:((i:Int)+(m:Int) * 1).toNat=i+m:=by omega
  rw[this]
 rw[e];have:=pick_run xs i k;rw[List.filterMap_map] at this;have a:((λx=>xs[x]?) ∘ λx=>i+x)=λm=>xs[i+m]?:=rfl;rw[a] at this;rw[this]
theorem getItem_tuple_cut {items:Array Value}{lo hi:Option Int}(b:IsTup s.heap t items) (g:s.heap.IsSliceOf z G I .none) (j:IsPart G lo) (n:IsPart I hi)
    (i:¬ (sIx items.size 0 lo=0/\sIx items.size items.size hi=items.size))
    (h:Q (.ref s.heap.objs.size) { s with heap:=s.heap.push { cls:=.type "tuple",data:=.seq ((items.toList.drop (sIx items.size 0 lo)).take (sIx items.size items.size hi-sIx items.size 0 lo)).toArray } })
    (hsz:items.size<=sizeLine):wpAny (model prog w) A (getItem (.ref t) (.ref z)) Q E s:=by
 have a:sizeOk (.seq ((items.toList.drop (sIx items.size 0 lo)).take (sIx items.size items.size hi-sIx items.size 0 lo)).toArray):=by
  show ((items.toList.drop (sIx items.size 0 lo)).take (sIx items.size items.size hi-sIx items.size 0 lo)).toArray.size<=sizeLine;rw[Cq,Ck,CV,DN];omega
 have o:sIx items.size items.size hi<=items.size:=zA _ _ (BR _) hi;obtain⟨l,d,e,k⟩:=id g;have c:s.TypeIs (.ref z) "slice":=⟨l,d,e⟩
 unfold getItem
 try with_reducible refine CC ?_
 first | refine BP (BS ?_) | skip
 refine BP (wpAny_sequenceKey b.typeIs (by decide) ?_);refine BP (wpAny_callSpecial?_slot (name:=Str.ofString "__getitem__") b.typeIs PyProof.Rows.slot_tuple_getitem
  (wpAny_call_entry PyProof.Rows.slot_tuple_getitem b.typeIs entry_tuple_getitem ?_ (args_tuple_getitem _ _)))
 show wpAny _ _ (Builtin.Tuple.tupleItemsOf (.ref t) >>= _) _ _ s;refine BP (tupleItemsOf_ b ?_);refine BP (wpAny_typeOf c ?_);rw[if_pos (by decide)];refine BP (fL g j n ?_);have f:¬ ((((sIx items.size 0 lo:Nat):Int)==0&&(1:Int)==1&&(sIx items.size items.size hi-sIx items.size 0 lo)==items.size)=true):=by
  intro q;rw[CT,CT] at q;have p:((sIx items.size 0 lo:Nat):Int)=0:=eq_of_beq q.1.1;have r:sIx items.size items.size hi-sIx items.size 0 lo=items.size:=eq_of_beq q.2;exact i ⟨by omega,by omega⟩
 show wpAny _ _ (if (((sIx items.size 0 lo:Nat):Int)==0&&(1:Int)==1&&(sIx items.size items.size hi-sIx items.size 0 lo)==items.size)=true then _ else _) _ _ s;rw[if_neg f,xo]
 first
  | exact BP (m:=Builtin.Tuple.tupleExact _) (wpAny_newObj_type (BS ⟨_,rfl,BS h⟩) a)
  | exact BP (m:=Builtin.Tuple.tupleExact _) (wpAny_newObj_type (BP (BS (BS ⟨_,rfl,BS h⟩))) a)
  | exact BP (BP (m:=Builtin.Tuple.tupleExact _) (wpAny_newObj_type (BS (BS ⟨_,rfl,BS h⟩)) a))
  | exact BP (BP (m:=Builtin.Tuple.tupleExact _) (wpAny_newObj_type (BS ⟨_,rfl,BS h⟩) a))
end
end HT
namespace L2
open PySem PySem.Spec PyProof.Rows
abbrev TO:=St->Hp->(Option Int->Hp->Prop)->Prop
def PO (X:Cx) (e:Option Expr) (t:TO):Prop :=
 ∀(pins:AO_) (s:Shared) (σ:St) (H:Hp) (Q:Option Int->Hp->Prop),Inv X pins σ H s->t σ H Q ->
  wpAny (model X.prog X.w) X.A (evalPart e X.env) (λu s'=>∃o H',Inv X pins σ H' s'/\IsPart u o/\Q o H') X.xe s
def yg:TO:=λ_ H Q=>Q none H
def BJ (t:TE):TO:=λσ H Q=>t σ H λx H1=>∃i,x=.int i/\Q (some i) H1
theorem rV:∀ {us:LW}, Vals (ns.map V.int) us -> IntsAre us ns := by
 induction ns with
 | nil=>intro us r;rw[List.map_nil] at r;cases r;exact .nil
 | cons n ns ih =>
  intro us r;rw[Cv] at r;cases r with
  | cons r1 r2 =>
   obtain⟨t,e⟩:=r1;subst e;exact .cons n t (ih r2)
section
variable {X:Cx}{e:Expr}{te:TE}{lo hi:Option Expr}{tl th:TO}{pos p2:Pos}
theorem cP:PO X none yg:=by
 intro a s b H Q I h;rw[evalPart_none];exact BS ⟨none,H,I,.none,h⟩
theorem ce (h:PE X e te):PO X (some e) (BJ te):=by
 intro a s c H Q I b;rw[evalPart_some];refine thn (h a s c H _ I b) λu k ⟨x,d,f,g,j⟩=>?_;obtain⟨i,rfl,q⟩:=j;obtain⟨t,rfl⟩:=g;exact⟨some i,d,f,.int i t,q⟩
def SlR (X:Cx) (r:V->Option Int->Option Int->Hp->VK->Prop):Prop :=
 ∀(pins:AO_) (s:Shared) (σ:St) (H:Hp) (x:V) (v vl vu:Value) (lo hi:Option Int) (sl:Addr) (Q:VK),Inv X pins σ H s->RelV x v->s.heap.IsSliceOf sl vl vu .none->IsPart vl lo->IsPart vu hi->r x lo hi H Q ->
  ∃T id,typeLookup (.type T) "__getitem__"=pure (some (.builtin id))/\s.TypeIs v T/\wpAny (model X.prog X.w) X.A (getItem v (.ref sl)) (EP X pins σ Q) X.xe s
def tSl (r:V->Option Int->Option Int->Hp->VK->Prop) (te:TE) (tl th:TO):TE:=λσ H Q=>te σ H λx H1=>tl σ H1 λl H2=>th σ H2 λu H3=>r x l u H3 Q
theorem bZ (D:SlR X r) (he:PE X e te) (o:PO X lo tl) (z:PO X hi th):PE X (.Subscript e (.Slice lo hi none p2) pos) (tSl r te tl th):=by
 intro a s d H Q I h;refine Subscript_ (thn (he a s d H _ I h) λv L ⟨x,w,m,E,B⟩=>?_);refine wpAny_Slice (thn (o a L d w _ m B) λf t ⟨l,G,k,n,C⟩=>thn (z a t d G _ k C) λg c ⟨u,i,J,A,j⟩=>?_);rw[evalPart_none];refine BS ?_;have y:Inv X a d i { c with heap:=c.heap.push { cls:=.type "slice",data:=.fields #[f,g,.none] } }:=J.kept (t':=c.toks) λb M q=>Cc _ q;obtain⟨T,N,K,p,F⟩:=D a { c with heap:=c.heap.push { cls:=.type "slice",data:=.fields #[f,g,.none] } } d i x v f g l u c.heap.objs.size Q y E (Heap.IsSliceOf.new ..) n A j;show wpAny (model X.prog X.w) X.A (subscriptTail e (.Slice lo hi none p2) v (.ref c.heap.objs.size)) (EP X a d Q) X.xe { c with heap:=c.heap.push { cls:=.type "slice",data:=.fields #[f,g,.none] } };exact tail_any (ops:=[.ref c.heap.objs.size,v]) p K F (by with_unfolding_all rfl)
def cM (xs:LV) (lo hi:Option Int):LV:=(xs.drop (HT.sIx xs.length 0 lo)).take (HT.sIx xs.length xs.length hi-HT.sIx xs.length 0 lo)
theorem jf (xs:LV) (a b:Option Int):(cM xs a b).length<=xs.length:=by
 unfold cM;rw[Ck,CV];omega
def Af (K:W.Frag):V->Option Int->Option Int->Hp->VK->Prop:=λx lo hi H Q=>∃a xs,x=.ref a/\SqT K H a xs /\
 ¬ (HT.sIx xs.length 0 lo=0/\HT.sIx xs.length xs.length hi=xs.length)/\∀p,H p=none->Q (.ref p) (upd H p (.tup (cM xs lo hi)))
theorem tV:SlR X (Af X.K):=by
 intro k s z H x v w y e g A Q I t n m p h;obtain⟨a,d,rfl,u,l,q⟩:=h;cases t;obtain⟨f,r,i,j⟩:=I.tuple u;have c:f.toArray.size=d.length:=by rw[Cq];exact r.length.symm
 refine⟨"tuple",_,PyProof.Rows.slot_tuple_getitem.lookup,i.typeIs,?_⟩;refine HT.getItem_tuple_cut i n m p (by rw[c];exact l) ?_ (by rw[c];exact j);rw[c];refine⟨.ref s.heap.objs.size,_,I.laid (t':=s.toks) (o:=.tup (cM d e g)) (λb B q=>Cc _ q) (BR _) ?_,rfl,q _ (I.hok.fresh (BR _))⟩;exact⟨Cn (jf d e g) j,_,(r.drop (HT.sIx d.length 0 e)).take (HT.sIx d.length d.length g-HT.sIx d.length 0 e),TupN.new _ _⟩
def Bp (K:W.Frag):R2:=λx y H Q=>∃a b xs ys,x=.ref a/\y=.ref b/\SqT K H a xs/\SqT K H b ys/\xs≠[]/\xs.length+ys.length<=sizeLine /\
 (ys=[]->Q (.ref a) H)/\(ys≠[]->∀p,H p=none->Q (.ref p) (upd H p (.tup (xs++ys))))
theorem Vals.nil_iff (r:Vals xs us):us=[] ↔ xs=[]:=by
 cases r with
 | nil=>simp
 | cons _ _=>simp
theorem yI:OpR X (binaryOp .Add) (Bp X.K):=by
 intro g s B H x y v u Q I i t h;obtain⟨a,b,n,A,rfl,rfl,p,r,m,f,j,k⟩:=h;cases i;cases t;obtain⟨l,d,p1,_⟩:=I.tuple p;obtain⟨e,c,p2,_⟩:=I.tuple r;refine HT.cat_tup p1 p2 (λz=>m (d.nil_iff.mp z)) (λz=>⟨.ref a,H,I,rfl,j (c.nil_iff.mp z)⟩) (λz=>?_) (by rw[<- d.length,<- c.length];exact f);refine⟨.ref s.heap.objs.size,_,I.laid (t':=s.toks) (o:=.tup (n++A)) (λb C q=>Cc _ q) (BR _) ?_,rfl,k (λw=>z (c.nil_iff.mpr w)) _ (I.hok.fresh (BR _))⟩;exact⟨by rw[Cj];exact f,_,d.append c,TupN.new _ _⟩
end
def ixN (n:Nat) (i:Int):Option Nat:=if 0<=i then (if i<n then some i.toNat else none) else if -(n:Int)<=i then some (i+n).toNat else none
def atI {α:Type}(xs:List α) (i:Int):Option α:=(ixN xs.length i).bind λj=>xs[j]?
theorem qc (h:ixN n i=some j):seqIndex? i n=some j /\ j<n /\ -(n:Int) <= i /\ i<n := by
 unfold ixN at h;by_cases b:0<=i
 ·rw[if_pos b] at h;by_cases a:i<n
  ·rw[if_pos a] at h;have e:i.toNat=j:=BV h;exact⟨by rw[seqIndex_of b a,e],by omega,by omega,a⟩
  ·rw[if_neg a] at h;cases h
 ·rw[if_neg b] at h;by_cases a:-(n:Int)<=i
  ·rw[if_pos a] at h;have e:(i+n).toNat=j:=BV h;exact⟨by rw[seqIndex_neg (by omega) a,e],by omega,a,by omega⟩
  ·rw[if_neg a] at h;cases h
theorem lF (h:atI xs i=some v):∃j,seqIndex? i xs.length=some j/\xs[j]? = some v/\j<xs.length/\-(xs.length:Int)<=i/\i<xs.length:=by
 unfold atI at h;cases e:ixN xs.length i with
 | none=>rw[e] at h;cases h
 | some j =>
  rw[e] at h;obtain⟨d,c,b,a⟩:=qc e;exact⟨j,d,h,c,b,a⟩
theorem bJ {α:Type}{xs:List α}{j:Nat}{v:α}(h:xs[j]? = some v):atI xs (j:Int)=some v:=by
 have a:j<xs.length:=(BU.mp h).1;have e:ixN xs.length (j:Int)=some j:=by
  unfold ixN;rw[if_pos (by omega),if_pos (by omega)];simp
 unfold atI;rw[e];exact h
theorem jw (xs:List α) (v:α):atI (xs++[v]) (-1)=some v:=by
 have a:(xs++[v]).length=xs.length+1:=by simp
 have e:ixN (xs++[v]).length (-1)=some xs.length:=by
  unfold ixN;rw[a,if_neg (by decide),if_pos (by omega)];congr 1;omega
 unfold atI;rw[e];show (xs++[v])[xs.length]? = some v;simp
def pR (b:Expr):Prop:=∀o i,subscripted b false o i=operate [o,i] (getItem o i)
def IxR (X:Cx) (r:R2):Prop :=
 ∀(value slice:Expr) (pins:AO_) (s:Shared) (σ:St) (H:Hp) (x y:V) (v u:Value) (Q:VK),Inv X pins σ H s->RelV x v->RelV y u->r x y H Q ->
  subscripted slice false v u=operate [v,u] (getItem v u)->wpAny (model X.prog X.w) X.A (subscriptTail value slice v u) (EP X pins σ Q) X.xe s
def MtR (X:Cx) (id:String) (r:V->LV->Hp->VK->Prop):Prop :=
 ∀(pins:AO_) (s:Shared) (σ:St) (H:Hp) (x:V) (xs:LV) (v:Value) (us:LW) (Q:VK),Inv X pins σ H s->RelV x v->Vals xs us->r x xs H Q ->
  wpAny (model X.prog X.w) X.A (call (.builtin id) (v::us)) (EP X pins σ Q) X.xe s
section
variable {X:Cx}{a b:Expr}{ta tb:TE}{pos:Pos}
theorem rC (i:IxR X r) (k:PE X a ta) (m:PE X b tb) (e:pR b):PE X (.Subscript a b pos) (tOp r ta tb):=by
 intro c s j H Q I h;exact Subscript_ (xm k m I h λv u f x y l d g n q=>i a b c f j l x y v u Q d g n q (e _ _))
def rIxL (K:W.Frag):R2:=λx y H Q=>∃p xs i v,x=.ref p/\y=.int i/\SqL K H p xs/\atI xs i=some v/\Q v H
def rIxT (K:W.Frag):R2:=λx y H Q=>∃p xs i v,x=.ref p/\y=.int i/\SqT K H p xs/\atI xs i=some v/\Q v H
def rIxS:R2:=λx y H Q=>∃z i c,x=.str z/\y=.int i/\z.length<=sizeLine/\atI z.cps.toList i=some c/\Q (.str ⟨#[c]⟩) H
theorem yB:IxR X (rIxL X.K) := by
 intro f l a s A H x y v u Q I J K h n;obtain⟨p,P,i,z,rfl,rfl,F,E,q⟩:=h;cases J;obtain⟨t,rfl⟩:=K;obtain⟨k,r,d,O⟩:=I.list F;obtain⟨j,c,L,M,B,C⟩:=lF E;obtain⟨w,o,g⟩:=r.get L;have D:=r.length;have N:=gp;have b:EP X a A Q w s:=⟨z,H,I,g,q⟩
 by_cases m:0<=i
 ·have e:i.toNat=j:=by
     rw[seqIndex_of m C] at c;exact BV c
  exact item_listR d.isList m (by omega) (by rw[e];simpa using o) b n
 ·have e:(i+(k.toArray.size:Int)).toNat=j:=by
     rw[seqIndex_neg (by omega) B] at c;rw[Cq,<- D];exact BV c
  exact subscriptTail_builtinR (x:=w) d.isList.typeIs slot_list_getitem.lookup
   (wpAny_getItem_list_neg (Q:=λr G=>r=w/\EP X a A Q r G) d.isList (by omega) (by rw[Cq] <;> omega) (by omega) (by rw[e];simpa using o) ⟨rfl,b⟩) n
theorem zY:IxR X (rIxT X.K):=by
 intro c e a s g H x y v u Q I C E h l;obtain⟨p,N,i,z,rfl,rfl,o,n,q⟩:=h;cases C;obtain⟨t,rfl⟩:=E;obtain⟨D,r,f,M⟩:=I.tuple o;obtain⟨j,m,F,J,G,K⟩:=lF n;obtain⟨w,A,d⟩:=r.get F;have k:=r.length;have L:=gp;have b:EP X a g Q w s:=⟨z,H,I,d,q⟩
 exact subscriptTail_builtinR (x:=w) f.typeIs slot_tuple_getitem.lookup
  (getItem_tuple (j:=j) (Q:=λr B=>r=w/\EP X a g Q r B) f (by omega) (by omega) (by rw[Cq,<- k];exact m) (by simpa using A) ⟨rfl,b⟩) l
theorem AA:IxR X rIxS:=by
 intro a b e s E H x y v u Q I o p h m;obtain⟨z,i,c,rfl,rfl,D,n,q⟩:=h;obtain⟨t,rfl⟩:=o;obtain⟨C,rfl⟩:=p;obtain⟨j,d,w,A,f,k⟩:=lF n;have l:z.cps.toList.length=z.length:=by simp[Str.length]
 rw[l] at d f k;have B:=gp;exact tail_any (typeIs_str s z t) slot_str_getitem.lookup (getItem_str (c:=c) (by
  have g:decide (i < -(2 ^ 63:Int))=false:=Ct (by omega);have r:decide (i ≥ 2 ^ 63)=false:=Ct (by omega);rw[g,r,Bool.or_false]) (by rw[d];simpa using w) ⟨.str ⟨#[c]⟩,H,I.tok _,⟨_,rfl⟩,q⟩) m
theorem rO (its:LW) (n j:Nat) (u:Value):Obj.mapSeq (·.setIfInBounds j u) { cls:=.type "list",data:=.seq its.toArray n }={ cls:=.type "list",data:=.seq (its.set j u).toArray n }:=by
 simp[Obj.mapSeq]
theorem Inv.lst (I:Inv X pins σ H s) (h:H p=some (.lst xs)) :
    ∃(its:LW) (n:Nat),Vals xs its/\s.heap.get? p=some { cls:=.type "list",data:=.seq its.toArray n }/\xs.length<=sizeLine:=by
 obtain⟨z,its,n,r,e⟩:=I.hok p _ h;exact⟨its,n,r,e,z⟩
theorem Inv.lstUpd {xs ys:LV}{its its':LW}{n n':Nat}{f:Obj->Obj}(I:Inv X pins σ H s) (h:H p=some (.lst xs))
    (c:s.heap.get? p=some { cls:=.type "list",data:=.seq its.toArray n }) (a:f { cls:=.type "list",data:=.seq its.toArray n }={ cls:=.type "list",data:=.seq its'.toArray n' }) (r:Vals ys its') (g:ys.length<=sizeLine) (t:Nat) :
    Inv X pins σ (upd H p (.lst ys)) { s with heap:=s.heap.update p f,toks:=t }:=by
 have e:(s.heap.update p f).get? p=some { cls:=.type "list",data:=.seq its'.toArray n' }:=by rw[DP f c (by rw[a] <;> rfl),a]
 refine I.write (x:=p) (e:=p) (by rw[h];trivial) (.inl rfl) (λb u d q=>(Ea _ _ (Ne.symm d)).trans q) ⟨_,e⟩ ?_;exact⟨g,its',n',r,e⟩
def BO:V->V->V->Hp->(Hp->Prop)->Prop:=λo i v H Q=>∃p xs k j,o=.ref p/\i=.int k/\H p=some (.lst xs)/\ixN xs.length k=some j/\Q (upd H p (.lst (xs.set j v)))
theorem vL:xq X BO := by
 intro a s D H o i v J G u Q I E y B h;obtain⟨p,C,k,j,rfl,rfl,w,A,q⟩:=h;cases E;obtain⟨t,rfl⟩:=y;obtain⟨b,n,r,d,z⟩:=I.lst w;obtain⟨c,K,l,g⟩:=qc A;have e:=r.length;have F:=gp;have x:Inv X a D (upd H p (.lst (C.set j v))) { s with heap:=s.heap.update p (Obj.mapSeq (·.setIfInBounds j u)) } :=
  I.lstUpd w d (rO b n j u) (r.set B j) (by rw[List.length_set];exact z) s.toks
 by_cases m:0<=k
 ·have f:k.toNat=j:=by
     rw[seqIndex_of m g] at c;exact BV c
  exact W.ki_setAt d m (by omega) (by rw[Cq,<- e];exact g) (by rw[f];exact⟨_,x,q⟩)
 ·have f:(k+(b.toArray.size:Int)).toNat=j:=by
     rw[seqIndex_neg (by omega) l] at c;rw[Cq,<- e];exact BV c
  exact W.ki_setBack d (by omega) (by rw[Cq,<- e];exact l) (by omega) (by rw[f];exact⟨_,x,q⟩)
theorem nP (a b:Option Int) (n:Nat):(sliceBounds a b none n).1=((HT.sIx n 0 a:Nat):Int) /\ (sliceBounds a b none n).2.1=((HT.sIx n n b:Nat):Int) /\ (sliceBounds a b none n).2.2=1 := by
 refine⟨?_,?_,rfl⟩
 ·cases a with
  | none=>simp[sliceBounds,HT.sIx]
  | some i =>
   simp only[sliceBounds,HT.sIx,Option.getD_none,show (1:Int) > 0 by decide,if_true];by_cases h:i<0
   ·simp only[h,if_true] <;> omega
   ·simp only[h,if_false] <;> omega
 ·cases b with
  | none=>simp[sliceBounds,HT.sIx]
  | some i =>
   simp only[sliceBounds,HT.sIx,Option.getD_none,show (1:Int) > 0 by decide,if_true];by_cases h:i<0
   ·simp only[h,if_true] <;> omega
   ·simp only[h,if_false] <;> omega
theorem mP (a:LW) (b c:Option Int):slicePick a.toArray b c none=((a.drop (HT.sIx a.length 0 b)).take (HT.sIx a.length a.length c-HT.sIx a.length 0 b)).toArray:=by
 obtain⟨e,f,d⟩:=nP b c a.toArray.size;unfold slicePick;rw[e,f,d];simp only[sliceRange_one,pick_run,Cq] <;> rfl
def rSlL (K:W.Frag):V->Option Int->Option Int->Hp->VK->Prop:=λx lo hi H Q=>∃a xs,x=.ref a/\SqL K H a xs/\∀p,H p=none->Q (.ref p) (upd H p (.lst (cM xs lo hi)))
theorem yO:SlR X (rSlL X.K):=by
 intro i s y H x v u w e f z Q I n k j m h;obtain⟨a,c,rfl,t,q⟩:=h;cases n;obtain⟨p,r,g,l⟩:=I.list t;have d:=r.length;refine⟨"list",_,slot_list_getitem.lookup,g.isList.typeIs,?_⟩;refine wpAny_getItem_list_slice g.isList k j m .none (by simp) ?_ (by rw[Cq] <;> omega);rw[mP,<- d];refine⟨.ref s.heap.objs.size,_,I.laid (t':=s.toks) (o:=.lst (cM c e f)) (λb A q=>Cc _ q) (BR _) ?_,rfl,q _ (I.hok.fresh (BR _))⟩;exact⟨Cn (jf c e f) l,_,0,(r.drop (HT.sIx c.length 0 e)).take (HT.sIx c.length c.length f-HT.sIx c.length 0 e),Co _ rfl⟩
def df:V->Bool
 | .non=>true
 | .bl _=>true
 | .int _=>true
 | .str _=>true
 | _=>false
def eqV:V->V->Bool
 | .non,.non=>true
 | .bl a,.bl b=>a==b
 | .bl a,.int b=>(if a then 1 else 0)==b
 | .int a,.bl b=>a==(if b then 1 else 0)
 | .int a,.int b=>a==b
 | .str a,.str b=>a==b
 | _,_=>false
theorem zP (e:RelV y u) (c:RelV x v) (g:df y=true) (f:df x=true):SeqAt.EqAt A s u v (eqV y x):=by
 cases y with
 | non =>
  cases e;cases x with
  | non=>cases c;exact SeqAt.EqAt.same _
  | bl b=>cases c;exact SeqAt.EqAt.none_bool b
  | int b=>obtain⟨t,rfl⟩:=c;exact SeqAt.EqAt.none_int b t
  | str b=>obtain⟨t,rfl⟩:=c;exact SeqAt.EqAt.none_str b t
  | _=>exact absurd (show false=true from f) Cy
 | bl a =>
  cases e;cases x with
  | non=>cases c;exact SeqAt.EqAt.bool_none a
  | bl b=>cases c;exact SeqAt.EqAt.bool_bool a b
  | int b=>obtain⟨t,rfl⟩:=c;exact SeqAt.EqAt.bool_int a b t
  | str b=>obtain⟨t,rfl⟩:=c;exact SeqAt.EqAt.bool_str a b t
  | _=>exact absurd (show false=true from f) Cy
 | int a =>
  obtain⟨d,rfl⟩:=e;cases x with
  | non=>cases c;exact SeqAt.EqAt.int_none a d
  | bl b=>cases c;exact SeqAt.EqAt.int_bool a d b
  | int b=>obtain⟨t,rfl⟩:=c;exact SeqAt.EqAt.int_int a d b t
  | str b=>obtain⟨t,rfl⟩:=c;exact SeqAt.EqAt.int_str a d b t
  | _=>exact absurd (show false=true from f) Cy
 | str a =>
  obtain⟨d,rfl⟩:=e;cases x with
  | non=>cases c;exact SeqAt.EqAt.str_none a d
  | bl b=>cases c;exact SeqAt.EqAt.str_bool a d b
  | int b=>obtain⟨t,rfl⟩:=c;exact SeqAt.EqAt.str_int a d b t
  | str b=>obtain⟨t,rfl⟩:=c;exact SeqAt.EqAt.str_str a d b t
  | _=>exact absurd (show false=true from f) Cy
 | _=>exact absurd (show false=true from g) Cy
def eqU (x:V) (u:Value):Bool:=match u with
 | .none=>eqV .non x
 | .bool b=>eqV (.bl b) x
 | .int i _=>eqV (.int i) x
 | .str z _=>eqV (.str z) x
 | _=>false
theorem kh (r:RelV y u) (f:df y=true):eqU x u=eqV y x:=by
 cases y with
 | non=>cases r;rfl
 | bl b=>cases r;rfl
 | int i=>obtain⟨t,rfl⟩:=r;rfl
 | str z=>obtain⟨t,rfl⟩:=r;rfl
 | _=>exact absurd (show false=true from f) Cy
theorem gM:∀ {xs:LV}{us:LW},Vals xs us->xs.all df=true->us.any (eqU x)=xs.any λy=>eqV y x
 | _,_,.nil,_=>rfl
 | y::xs,u::us,.cons r t,f=>by
  rw[List.all_cons,CT] at f;rw[DF,DF,kh r f.1,gM t f.2]
theorem dP (rx:RelV x v) (fx:df x=true):∀ {xs:LV}{us:LW},Vals xs us->xs.all df=true->∀u∈us,SeqAt.EqAt A s u v (eqU x u)
 | _,_,.nil,_=>λu hu=>by cases hu
 | y::xs,u::us,.cons r t,f=>λu' hu=>by
  rw[List.all_cons,CT] at f;rcases Cm.mp hu with rfl | hu
  ·rw[kh r f.1];exact zP r rx f.1 fx
  ·exact dP rx fx t f.2 u' hu
def inV (x:V) (xs:LV):Bool:=xs.any λy=>eqV y x
def rIn (K:W.Frag) (neg:Bool):R2:=λx y H Q=>∃p xs,y=.ref p/\(SqL K H p xs∨SqT K H p xs)/\df x=true/\xs.all df=true/\Q (.bl (if neg then !inV x xs else inV x xs)) H
theorem tI:OpR X (compareOp .In) (rIn X.K false):=by
 intro g s m H x y v u Q I i k h;obtain⟨p,l,rfl,b,f,c,q⟩:=h;cases k;rcases b with b | b
 ·obtain⟨a,r,e,j⟩:=I.list b;refine SeqAt.in_listAt (eqU x) e.isList (λw d=>dP i f r c w (by simpa using d)) ⟨.bl _,H,I,rfl,?_⟩;rw[show a.toArray.any (eqU x)=a.any (eqU x) by simp,gM r c];exact q
 ·obtain⟨a,r,e,j⟩:=I.tuple b;refine SeqAt.in_tupleAt (eqU x) e (λw d=>dP i f r c w (by simpa using d)) ⟨.bl _,H,I,rfl,?_⟩;rw[show a.toArray.any (eqU x)=a.any (eqU x) by simp,gM r c];exact q
theorem oS:OpR X (compareOp .NotIn) (rIn X.K true):=by
 intro g s m H x y v u Q I i k h;obtain⟨p,l,rfl,b,f,c,q⟩:=h;cases k;rcases b with b | b
 ·obtain⟨a,r,e,j⟩:=I.list b;refine SeqAt.notIn_listAt (eqU x) e.isList (λw d=>dP i f r c w (by simpa using d)) ⟨.bl _,H,I,rfl,?_⟩;rw[show a.toArray.any (eqU x)=a.any (eqU x) by simp,gM r c];exact q
 ·obtain⟨a,r,e,j⟩:=I.tuple b;refine SeqAt.notIn_tupleAt (eqU x) e (λw d=>dP i f r c w (by simpa using d)) ⟨.bl _,H,I,rfl,?_⟩;rw[show a.toArray.any (eqU x)=a.any (eqU x) by simp,gM r c];exact q
theorem nB:dI X (.type "list") (λxs H Q => ∃p ys, xs=[.ref p] /\ (SqL X.K H p ys ∨ SqT X.K H p ys) /\ ∀l, H l=none -> Q (.ref l) (upd H l (.lst ys))) := by
 intro m s A H xs B Q I r h;obtain⟨p,ys,rfl,k,q⟩:=h;obtain⟨u,rfl,z⟩:=cZ r;cases z;have g:∀(a:LW),Vals ys a->ys.length<=sizeLine->∀(c:Heap) (d:Nat),(∀b o',s.heap.get? b=some o'->c.get? b=some o') ->
     c.get? s.heap.objs.size=some { cls:=.type "list",dict:=none,data:=.seq a.toArray d,slots:=#[] }->EP X m A Q (.ref s.heap.objs.size) { s with heap:=c }:=λa f j c d i e =>
  ⟨.ref s.heap.objs.size,_,I.laid (t':=s.toks) i (BR _) (show ObjOk X.prog X.w _ c _ (.lst ys) from⟨j,a,d,f,e⟩),rfl,q _ (I.hok.fresh (BR _))⟩
 rcases k with k | k
 ·obtain⟨a,f,w,j⟩:=I.list k;have t:=f.length;obtain⟨o,v,x,n,y⟩:=w.isList;exact call_list_seq p (.inl rfl) v x y (λc d i e=>g a f j c d i e) (by simp only[Cq] <;> omega)
 ·obtain⟨a,f,w,j⟩:=I.tuple k;have t:=f.length;obtain⟨o,v,x,n,y⟩:=w;exact call_list_seq p (.inr rfl) v x y (λc d i e=>g a f j c d i e) (by simp only[Cq] <;> omega)
theorem mR:dI X (.type "tuple") (λxs H Q => ∃p ys, xs=[.ref p] /\ ((SqL X.K H p ys /\ ∀l, H l=none -> Q (.ref l) (upd H l (.tup ys))) ∨ (SqT X.K H p ys /\ Q (.ref p) H))) := by
 intro a s m H xs x Q I r h;obtain⟨p,ys,rfl,h⟩:=h;obtain⟨u,rfl,w⟩:=cZ r;cases w;rcases h with⟨g,q⟩ | ⟨g,q⟩
 ·obtain⟨c,i,f,k⟩:=I.list g;have n:=i.length;refine call_tuple_list f.isList (λd v=>?_) (by simp only[Cq] <;> omega);have j:Inv X a m H { s with heap:=d }:=I.kept (t':=s.toks) v;have t:Inv X a m (upd H d.objs.size (.tup ys)) { s with heap:=d.push { cls:=.type "tuple",data:=.seq c.toArray } } :=
   j.laid (t':=s.toks) (λb o e=>Cc _ e) (BR _) (show ObjOk X.prog X.w _ _ _ (.tup ys) from⟨k,c,i,TupN.new _ _⟩)
  exact⟨.ref d.objs.size,_,t,rfl,q _ (j.hok.fresh (BR _))⟩
 ·obtain⟨c,i,f,k⟩:=I.tuple g;exact call_tuple_same f ⟨.ref p,H,I,rfl,q⟩
def tyV (K:W.Frag) (T:String) (x:V) (H:Hp):Prop := match x with
 | .str _=>T="str"
 | .int _=>T="int"
 | .ref p=>(T="list"/\∃xs,SqL K H p xs)∨(T="tuple"/\∃o,K.lookup p=some o/\o.cls=.type "tuple"/\o.dict=none) ∨
     (T="dict"/\((∃kvs,H p=some (.dK kvs))∨∃kvs,H p=some (.dT kvs)))∨(T="set"/\∃S n,H p=some (.set S n))
 | _=>False
theorem ug (I:Inv X pins σ H s) (r:RelV x v) (f:tyV X.K T x H) :
    s.TypeIs v T/\∀a,v=.ref a->∃G,s.heap.get? a=some G/\G.dict=none:=by
 cases x with
 | str z =>
  obtain⟨t,rfl⟩:=r;cases (show T="str" from f);exact⟨typeIs_str s z t,λ_ e=>nomatch e⟩
 | int i =>
  obtain⟨t,rfl⟩:=r;cases (show T="int" from f);exact⟨typeIs_int s i t,λ_ e=>nomatch e⟩
 | ref p =>
  cases r;rcases f with⟨rfl,u,l⟩ | ⟨rfl,o,b,m,g⟩ | ⟨rfl,b⟩ | ⟨rfl,S,n,b⟩
  ·obtain⟨q,_,k,_⟩:=I.list l;refine⟨k.isList.typeIs,λa e=>?_⟩;cases e;obtain⟨o,n,e,c,g,_⟩:=k;exact⟨o,e,g⟩
  ·refine⟨⟨o,I.kIn p o b,m⟩,λa e=>?_⟩;cases e;exact⟨o,I.kIn _ o b,g⟩
  ·have z:∃o, s.heap.get? p=some o /\ o.ExactDict := by
      rcases b with⟨h,b⟩ | ⟨h,b⟩
      ·obtain⟨_,_,_,_,o,_,_,e,d,_⟩:=I.hok p _ b;exact⟨o,e,d⟩
      ·obtain⟨_,_,_,_,o,_,_,e,d,_⟩:=I.hok p _ b;exact⟨o,e,d⟩
   obtain⟨o,e,d⟩:=z;refine⟨⟨o,e,d.1⟩,λa j=>?_⟩;cases j;exact⟨o,e,d.2.1⟩
  ·obtain⟨o,_,_,_,e,d,_⟩:=I.hok p _ b;refine⟨⟨o,e,d.1⟩,λa j=>?_⟩;cases j;exact⟨o,e,d.2.1⟩
 | _=>exact False.elim f
def zy (K:W.Frag) (T:String) (r:V->LV->Hp->VK->Prop) (to:TE):TE:=λσ H Q=>to σ H λx H1=>tyV K T x H1/\r x [] H1 Q
def tBM (K:W.Frag) (T:String) (r:V->LV->Hp->VK->Prop) (to:TE) (t:TA):TE:=λσ H Q=>to σ H λx H1=>tyV K T x H1/\t σ H1 λxs H2=>r x xs H2 Q
variable {o e:Expr}{es:List Expr}{to:TE}{t:TA}{name:Str}{apos cpos:Pos}{T id:String}{r:V->LV->Hp->VK->Prop}
theorem zZ (m:PlainAttrs T) (d:Slot T name id) (e:typeOf (.builtin id)=pure (.type "method_descriptor")) (l:MtR X id r) (j:PE X o to)
    (b:autoParam (attributeBase o name X.env (eval o X.env)=eval o X.env) aR9) (c:autoParam ((apos.endLine==cpos.line)=true) aR9):PE X (.Call (.Attribute o name apos) [] [] cpos) (zy X.K T r to):=by
 intro a s g H Q I h;refine wpAny_Call_method0_late b c (thn (j a s g H _ I h) λv u ⟨x,n,f,i,p,q⟩=>?_);obtain⟨k,t⟩:=ug f i p;exact⟨T,id,m,d,e,k,t,Calls.callWith_builtin rfl (PySem.evalArgs_none (l a u g n x [] v [] Q f i .nil q))⟩
theorem kf (A:PlainAttrs T) (g:Slot T name id) (i:typeOf (.builtin id)=pure (.type "method_descriptor")) (y:MtR X id r) (n:PE X o to) (J:PA X (e :: es) t)
    (c:autoParam (attributeBase o name X.env (eval o X.env)=eval o X.env) aR9)
    (f:autoParam (((backTo cpos (starEach (e::es) X.env)).all (λx=>!x.1)&&(backToKw cpos (keywordEach [] X.env)).all (λx=>x.1.isSome)
     && decide ((e::es).length+([]:List Keyword).length+(if ([]:List Keyword).isEmpty then 0 else 1)<30))=true) aR9)
    (d:autoParam ((apos.endLine==cpos.line)=true) aR9) (u:autoParam (starEach (e::es) X.env=(false,eval e X.env)::starEach es X.env) aR9) (b:autoParam ((backTo cpos (starEach es X.env)).any (·.1)=false) aR9) :
    PE X (.Call (.Attribute o name apos) (e::es) [] cpos) (tBM X.K T r to t):=by
 intro a s j H Q I h;refine wpAny_Call_method_late c f d rfl (thn (n a s j H _ I h) λv M ⟨x,B,k,m,D,E⟩=>?_);obtain⟨w,L⟩:=ug k m D;refine⟨T,id,A,g,i,w,L,?_⟩;have l:=J cpos a M j B _ k E;rw[u] at l ⊢;refine Calls.callWith_builtin (by show (false||(backTo cpos (starEach es X.env)).any (·.1))=false;rw[b] <;> rfl) (Calls.evalArgs_plain ?_);exact thn l λG z ⟨C,K,p,q,F⟩=>y a z j K x C v G Q p m q F
end
def MtM (X:Cx) (id:String) (r:V->LV->Hp->VK->Prop):Prop :=
 ∀(pins:AO_) (s:Shared) (σ:St) (H:Hp) (x:V) (xs:LV) (v:Value) (us:LW) (Q:VK),Inv X pins σ H s->RelV x v->Vals xs us->r x xs H Q ->
  wpAny (model X.prog X.w) X.A (call (.builtin id) (v::us)) (EP X pins σ Q) X.xe s
theorem Vals.one:∀ {x:V}{us:LW},Vals [x] us->∃u,us=[u]/\RelV x u
 | _,_,.cons r .nil=>⟨_,rfl,r⟩
theorem Vals.zero:∀ {us:LW},Vals [] us->us=[]
 | _,.nil=>rfl
theorem Vals.reverse (h:Vals xs us):Vals xs.reverse us.reverse:=by
 induction h with
 | nil=>exact .nil
 | cons r t ih=>rw[List.reverse_cons,List.reverse_cons];exact Vals.append ih (.cons r .nil)
section
variable {X:Cx}{pins:AO_}{σ:St}{H:Hp}{s:Shared}{l b:Addr}{xs ys zs:LV}
theorem Inv.lset {its its':LW}{n:Nat}{f:Array Value->Array Value}{t':Nat}(I:Inv X pins σ H s) (g:H l=some (.lst xs))
    (e:s.heap.get? l=some { cls:=.type "list",data:=.seq its.toArray n }) (h:f its.toArray=its'.toArray) (c:Vals ys its') (a:ys.length<=sizeLine) :
    Inv X pins σ (upd H l (.lst ys)) { s with heap:=s.heap.update l (Obj.mapSeq f),toks:=t' }:=by
 have q:=PySem.IsL.update e f;rw[h] at q;refine I.write (x:=l) (e:=l) (by rw[g];exact trivial) (.inl rfl) (λi u b d=>(Ea s.heap (Obj.mapSeq f) (Ne.symm b)).trans d) ⟨_,q⟩ ?_;exact⟨a,its',_,c,q⟩
theorem Inv.lnew (I:Inv X pins σ H s) (a:Vals ys its) (b:ys.length<=sizeLine) :
    Inv X pins σ (upd H s.heap.objs.size (.lst ys)) { s with heap:=s.heap.push { cls:=.type "list",data:=.seq its.toArray },toks:=t' } :=
 I.laid (λ_ _ q=>Cc _ q) (BR _) ⟨b,its,0,a,Co _ rfl⟩
theorem Inv.fresh (I:Inv X pins σ H s):H s.heap.objs.size=none:=I.hok.fresh (BR _)
theorem Inv.lstM (I:Inv X pins σ H s) (a:H l=some (.lst xs)):xs.length<=sizeLine/\∃(its:LW) (n:Nat),Vals xs its/\xs.length=its.length/\s.heap.get? l=some { cls:=.type "list",data:=.seq its.toArray n }:=by
 obtain⟨z,its,n,r,e⟩:=I.hok l _ a;exact⟨z,its,n,r,r.length,e⟩
theorem wG (h:n<=sizeLine):Builtin.List.listTooLong n=false:=by
 unfold Builtin.List.listTooLong;exact Ct (by omega)
end
section
variable {X:Cx}
def qJ:V->LV->Hp->VK->Prop:=λx vs H Q=>∃l xs y,x=.ref l/\vs=[y]/\H l=some (.lst xs)/\xs.length<sizeLine/\Q .non (upd H l (.lst (xs++[y])))
theorem mr:MtM X "list.append" qJ:=by
 intro b s p H x k v o Q I f d h;obtain⟨l,m,y,rfl,rfl,c,j,q⟩:=h;cases f;obtain⟨u,rfl,g⟩:=d.one;obtain⟨z,a,n,r,i,e⟩:=I.lstM c;refine call_meets F.slot_list_append ⟨_,e,rfl⟩ F.entry_list_append (F.args_list_append_2 _ _) (PySem.list_append l a.toArray n u (by rw[Cq];omega)) ⟨e,?_⟩;refine⟨.non,_,I.lset (its':=a++[u]) c e (by simp) (r.append (.cons g .nil)) ?_,rfl,q⟩;rw[Cj,List.length_singleton];omega
def kS:V->LV->Hp->VK->Prop:=λx vs H Q=>∃l b xs zs,x=.ref l/\vs=[.ref b]/\H l=some (.lst xs)/\H b=some (.lst zs)/\xs.length+zs.length<=sizeLine/\Q .non (upd H l (.lst (xs++zs)))
theorem tQ:MtM X "list.extend" kS:=by
 intro g s G H x C v E Q I o k h;obtain⟨l,b,D,K,rfl,rfl,i,m,B,q⟩:=h;cases o;obtain⟨u,rfl,t⟩:=k.one;cases t;obtain⟨z,c,n,r,A,e⟩:=I.lstM i;obtain⟨J,a,y,j,p,w⟩:=I.lstM m;have f:c.toArray.size+a.toArray.size<=sizeLine:=by rw[Cq,Cq];omega
 have d:¬ (!c.toArray.isEmpty&&Builtin.List.listTooLong (c.toArray.size+a.toArray.size))=true:=by
  rw[wG f,Bool.and_false];exact Cy
 refine call_meets F.slot_list_extend ⟨_,e,rfl⟩ F.entry_list_extend (F.args_list_extend_2 _ _)
  (AutoSeq1.list_extend_list_list_0 l c.toArray n b a.toArray y d (by rw[Cq];omega) (by omega)) ⟨e,w,?_⟩
 refine⟨.non,_,I.lset (its':=c++a) i e (by simp) (r.append j) ?_,rfl,q⟩;rw[Cj];omega
def ji:V->LV->Hp->VK->Prop:=λx vs H Q=>∃l xs,x=.ref l/\vs=[]/\H l=some (.lst xs)/\Q .non (upd H l (.lst xs.reverse))
theorem rP:MtM X "list.reverse" ji:=by
 intro c s o H x j v m Q I g f h;obtain⟨l,k,rfl,rfl,d,q⟩:=h;cases g;have b:=f.zero;subst b;obtain⟨z,a,n,r,i,e⟩:=I.lstM d;refine call_meets F.slot_list_reverse ⟨_,e,rfl⟩ F.entry_list_reverse (F.args_list_reverse_1 _) (AutoSeq1.list_reverse_list_0 l a.toArray n (by rw[Cq];omega)) ⟨e,?_⟩;refine⟨.non,_,I.lset (its':=a.reverse) d e (by simp) r.reverse ?_,rfl,q⟩;rw[List.length_reverse];omega
def rCat:R2:=λx y H Q=>∃l b xs zs,x=.ref l/\y=.ref b/\H l=some (.lst xs)/\H b=some (.lst zs)/\xs.length+zs.length<=sizeLine/\∀p,H p=none->Q (.ref p) (upd H p (.lst (xs++zs)))
theorem zW:OpR X (binaryOp .Add) rCat:=by
 intro d s B H x y v u Q I j m h;obtain⟨l,b,A,D,rfl,rfl,p,i,w,q⟩:=h;cases j;cases m;obtain⟨z,c,n,r,t,e⟩:=I.lstM p;obtain⟨C,a,E,f,k,o⟩:=I.lstM i;refine PySem.P.add_list e o ?_ (by rw[Cq,Cq];omega);have g:c.toArray++a.toArray=(c++a).toArray:=by simp
 rw[g];exact⟨.ref _,_,I.lnew (t':=s.toks) (r.append f) (by rw[Cj];omega),rfl,q _ I.fresh⟩
end
section
variable {κ:Type} [DecidableEq κ]
def aD (kvs:List (κ × V)) (k:κ):Option V:=(kvs.find? λkv=>decide (kv.1=k)).map (·.2)
def bj (kvs:List (κ × V)) (k:κ) (v:V):List (κ × V) :=
 if (kvs.any λkv=>decide (kv.1=k))=true then kvs.map (λkv=>if kv.1=k then (kv.1,v) else kv) else kvs++[(k,v)]
theorem xf:aD ([]:List (κ × V)) k=none:=rfl
theorem cv {p:κ × V}{r:List (κ × V)}{k:κ}(e:p.1=k):aD (p::r) k=some p.2:=by simp[aD,CZ,e]
theorem cw {p:κ × V}{r:List (κ × V)}{k:κ}(e:¬ p.1=k):aD (p::r) k=aD r k:=by simp[aD,CZ,e]
theorem eS (k:κ):∀kvs:List (κ × V),(kvs.any λkv=>decide (kv.1=k))=(aD kvs k).isSome
 | []=>rfl
 | p::r=>by
  rw[DF];by_cases e:p.1=k
  ·simp only[cv e,Ca e,Bool.true_or,Option.isSome_some]
  ·rw[cw e,Ct e,Bool.false_or];exact eS k r
theorem nQ (k j:κ) (y:V):∀kvs:List (κ × V), aD (kvs.map λkv => if kv.1=k then (kv.1, y) else kv) j=(aD kvs j).map λx => if j=k then y else x
 | []=>rfl
 | p::r=>by
  have ih:=nQ k j y r;rw[Cv];by_cases h:p.1=k
  ·rw[if_pos h];by_cases e:p.1=j
   ·rw[cv (p:=(p.1,y)) e,cv e,Option.map_some,if_pos (e.symm.trans h)]
   ·rw[cw (p:=(p.1,y)) e,cw e,ih]
  ·rw[if_neg h];by_cases e:p.1=j
   ·rw[cv (p:=p) e,cv e,Option.map_some,if_neg (λz=>h (e.trans z))]
   ·rw[cw (p:=p) e,cw e,ih]
theorem lM (k j:κ) (y:V):∀kvs:List (κ × V),aD kvs k=none->aD (kvs++[(k,y)]) j=if j=k then some y else aD kvs j
 | [],_=>by
  by_cases e:k=j
  ·rw[if_pos e.symm];exact cv (p:=(k,y)) e
  ·rw[if_neg (λz=>e z.symm)];exact cw (p:=(k,y)) e
 | p::r,hn=>by
  rw[List.cons_append];have hk:¬ p.1=k:=λz=>by rw[cv z] at hn;cases hn
  rw[cw hk] at hn;have ih:=lM k j y r hn;by_cases e:p.1=j
  ·rw[cv e,cv e,if_neg (λz=>hk (e.trans z))]
  ·rw[cw e,cw e,ih]
theorem cG (kvs:List (κ × V)) (k j:κ) (y:V):aD (bj kvs k y) j=if j=k then some y else aD kvs j := by
 unfold bj;by_cases a:(kvs.any λb=>decide (b.1=k))=true
 ·rw[if_pos a,nQ];rw[eS] at a;by_cases e:j=k
  ·obtain⟨x,c⟩:=Dl.mp a;rw[if_pos e,e,c,Option.map_some,if_pos rfl]
  ·rw[if_neg e];cases aD kvs j with
   | none=>rfl
   | some x=>rw[Option.map_some,if_neg e]
 ·rw[if_neg a];refine lM k j y kvs ?_;rw[eS] at a;cases q:aD kvs k with
  | none=>rfl
  | some x=>rw[q] at a;exact(a rfl).elim
theorem bw (kvs:List (κ × V)) (k:κ) (v:V):(bj kvs k v).length<=kvs.length+1:=by
 unfold bj
 split
 ·rw[BQ];omega
 ·rw[Cj,Cs,List.length_nil];omega
theorem oq {kvs:List (κ × V)}{k:κ}(v:V) (h:aD kvs k=none):bj kvs k v=kvs++[(k,v)]:=by
 unfold bj;rw[eS,h];exact if_neg (by decide)
theorem RelO.isSome_eq (r:RelO o u):o.isSome=u.isSome:=by
 cases o with
 | none=>cases u with
  | none=>rfl
  | some _=>exact(show False from r).elim
 | some _=>cases u with
  | none=>exact(show False from r).elim
  | some _=>rfl
theorem KV.val {kvs:List (κ × V)}{G:List (κ × Value)}(r:KV kvs G) (k:κ):RelO (aD kvs k) (valueAt G k) := by
 unfold KV at r
 induction r with
 | nil=>exact True.intro
 | @cons p q ps qs h t ih =>
  obtain⟨c,d⟩:=h;by_cases e:p.1=k
  ·have a:q.1=k:=c.symm.trans e;have b:valueAt (q::qs) k=some q.2:=by simp[valueAt,CZ,a]
   rw[cv e,b];exact d
  ·have a:¬ q.1=k:=λz=>e (c.trans z);have b:valueAt (q::qs) k=valueAt qs k:=by simp[valueAt,CZ,a]
   rw[cw e,b];exact ih
theorem KV.any (r:KV kvs G) (k:κ):(kvs.any λz=>decide (z.1=k))=G.any λz=>decide (z.1=k):=by
 unfold KV at r
 induction r with
 | nil=>rfl
 | cons h t ih=>rw[DF,DF,ih,h.1]
theorem KV.repl (r:KV kvs I) (k:κ) (b:RelV y u) :
    KV (kvs.map λG=>if G.1=k then (G.1,y) else G) (I.map λG=>if G.1=k then (G.1,u) else G):=by
 unfold KV at r ⊢
 induction r with
 | nil=>exact .nil
 | @cons p q ps qs h t ih =>
  rw[Cv,Cv];refine .cons ?_ ih;obtain⟨a,c⟩:=h;by_cases e:p.1=k
  ·rw[if_pos e,if_pos (a.symm.trans e)];exact⟨a,b⟩
  ·rw[if_neg e,if_neg (λz=>e (a.trans z))];exact⟨a,c⟩
theorem KV.put (r:KV kvs z) (k:κ) (a:RelV y u):KV (bj kvs k y) (stored z k u):=by
 unfold bj stored;rw[r.any k];by_cases e:(z.any λb=>decide (b.1=k))=true
 ·rw[if_pos e,if_pos e];exact r.repl k a
 ·rw[if_neg e,if_neg e];exact Paired.snoc r ⟨rfl,a⟩
theorem KV.length (r:KV kvs z):kvs.length=z.length:=Paired.length r
end
theorem fD (r:RelV (kV k) u):(bu P w).is k u=true:=by
 cases k with
 | inl i=>obtain⟨t,e⟩:=(show ∃t,u=Value.int i t from r);subst e;exact pJ P w i t
 | inr x=>obtain⟨t,e⟩:=(show ∃t,u=Value.str x t from r);subst e;exact gl P w x t
theorem mK:∀ {ks:List Key}{us:LW},Vals (ks.map kV) us->ItemsAre (bu P w) ks us
 | [],_,r=>by rw[List.map_nil] at r;cases r;exact .nil
 | k::ks,_,r=>by
  rw[Cv] at r;cases r with
  | cons h t=>exact .cons (fD h) (mK t)
abbrev KT (H:Hp):List (List Key × V)->List (List Key × Addr × Value)->Prop:=Paired λp q=>p.1=q.1/\H q.2.1=some (.tup (p.1.map kV))/\RelV p.2 q.2.2
theorem KT.val {kvs:List (List Key × V)}{xs:List (List Key × Addr × Value)}(r:KT H kvs xs) (k:List Key):RelO (aD kvs k) ((atKey xs k).map (·.2)) := by
 induction r with
 | nil=>exact True.intro
 | @cons p q ps qs h t ih =>
  obtain⟨c,_,d⟩:=h;by_cases e:p.1=k
  ·have a:q.1=k:=c.symm.trans e;have b:atKey (q::qs) k=some q.2:=by simp[atKey,CZ,a]
   rw[cv e,b];exact d
  ·have a:¬ q.1=k:=λz=>e (c.trans z);have b:atKey (q::qs) k=atKey qs k:=by simp[atKey,CZ,a]
   rw[cw e,b];exact ih
theorem KT.repl (r:KT H kvs xs) (k:List Key) (c:RelV y u) :
    KT H (kvs.map λG=>if G.1=k then (G.1,y) else G) (xs.map (putAt k u)):=by
 induction r with
 | nil=>exact .nil
 | @cons p q ps qs h t ih =>
  rw[Cv,Cv];refine .cons ?_ ih;obtain⟨a,b,d⟩:=h;unfold putAt;by_cases e:p.1=k
  ·rw[if_pos e,if_pos (a.symm.trans e)];exact⟨a,b,c⟩
  ·rw[if_neg e,if_neg (λz=>e (a.trans z))];exact⟨a,b,d⟩
theorem KT.put (r:KT H kvs xs) (k:List Key) (c:H b=some (.tup (k.map kV))) (a:RelV y u) :
    KT H (bj kvs k y) (storedH xs k b u):=by
 have e:(kvs.any λd=>decide (d.1=k))=(atKey xs k).isSome:=by rw[eS,(r.val k).isSome_eq,Option.isSome_map]
 unfold bj storedH;rw[e];by_cases q:(atKey xs k).isSome=true
 ·rw[if_pos q,if_pos q];exact r.repl k a
 ·rw[if_neg q,if_neg q];exact Paired.snoc r ⟨rfl,c,a⟩
theorem KT.keeps (r:KT H kvs xs) (a:∀b ys,H b=some (.tup ys)->H' b=some (.tup ys)):KT H' kvs xs :=
 Paired.mapP r λ_ _ z=>⟨z.1,a _ _ z.2.1,z.2.2⟩
section
variable {P:Program}{w:World}{H:Hp}{h:Heap}{a:Addr}
theorem xK (b:HOk P w H h) (e:Rd H a u):ObjOk P w H h a u:=e.ok b
theorem kC (b:HOk P w H h) (e:Rd H a (.dK kvs)):kvs.length<=sizeLine/\(a==sysModules)=false/\∃z,KV kvs z/\h.DictOf (bu P w) a z :=
 show ObjOk P w H h a (.dK kvs) from xK b e
theorem rA (b:HOk P w H h) (e:H a=some (.dK kvs)):kvs.length<=sizeLine/\(a==sysModules)=false/\∃z,KV kvs z/\h.DictOf (bu P w) a z:=kC b (.inl e)
theorem gH (c:HOk P w H h) (e:H a=some (.tup (ks.map kV))):(tupleKind (bu P w)).is h ks a:=by
 obtain⟨_,b,r,o,f,g,n,d,_⟩:=(show ObjOk P w H h a (.tup (ks.map kV)) from c a _ e)
 exact⟨o,b.toArray,n,f,g,d,by simpa using mK r⟩
theorem kD (d:HOk P w H h) (e:Rd H a (.dT kvs)):kvs.length <= sizeLine /\ (a==sysModules)=false /\
    ∃xs,KT H kvs xs/\h.DictOfH (tupleKind (bu P w)) a xs:=by
 obtain⟨z,y,xs,r,o,k,j,n,s,g,f,i⟩:=(show ObjOk P w H h a (.dT kvs) from xK d e)
 refine⟨z,y,xs,r,o,k,j,n,s,g,f,λx b=>?_,i⟩;have c:∀ {l:List (List Key × V)} {m:List (List Key × Addr × Value)}, KT H l m -> ∀x ∈ m, (tupleKind (bu P w)).is h x.1 x.2.1 := by
  intro l m q
  induction q with
  | nil=>intro x b;exact nomatch b
  | @cons p q ps qs hq t ih =>
   intro x b;rcases Cm.mp b with e | b
   ·subst e;exact gH d (by rw[<- hq.1];exact hq.2.1)
   ·exact ih x b
 exact c r x b
theorem xQ (b:HOk P w H h) (e:H a=some (.dT kvs)):kvs.length<=sizeLine/\(a==sysModules)=false /\
    ∃xs,KT H kvs xs/\h.DictOfH (tupleKind (bu P w)) a xs:=kD b (.inl e)
end
def DGet (H:Hp) (a:Addr) (y:V) (r:Option V):Prop :=
 (∃kvs k,Rd H a (.dK kvs)/\y=kV k/\r=aD kvs k)∨∃kvs k b,Rd H a (.dT kvs)/\y=.ref b/\H b=some (.tup (k.map kV))/\r=aD kvs k
def DPut (H:Hp) (a:Addr) (y v:V) (H':Hp):Prop :=
 (∃kvs k,H a=some (.dK kvs)/\y=kV k/\kvs.length<sizeLine/\H'=upd H a (.dK (bj kvs k v))) ∨
 ∃kvs k b,H a=some (.dT kvs)/\y=.ref b/\H b=some (.tup (k.map kV))/\kvs.length<sizeLine/\H'=upd H a (.dT (bj kvs k v))
theorem DGet.k {kvs:KV_}{k:Key}(e:H a=some (.dK kvs)):DGet H a (kV k) (aD kvs k):=.inl ⟨kvs,k,.inl e,rfl,rfl⟩
theorem DPut.k {kvs:KV_}{k:Key}(e:H a=some (.dK kvs)) (b:kvs.length<sizeLine):DPut H a (kV k) v (upd H a (.dK (bj kvs k v))):=.inl ⟨kvs,k,e,rfl,b,rfl⟩
theorem DPut.t {kvs:List (List Key × V)}{k:List Key}(e:H a=some (.dT kvs)) (d:H b=some (.tup (k.map kV))) (c:kvs.length<sizeLine) :
    DPut H a (.ref b) v (upd H a (.dT (bj kvs k v))):=.inr ⟨kvs,k,b,e,rfl,d,c,rfl⟩
section
variable {X:Cx}{pins:AO_}{σ:St}{H:Hp}{s:Shared}{a:Addr}{y v:V}{u r:Value}{o:Option V}{A:Around}{E:QS}
theorem Inv.big (I:Inv X pins σ H s):sysModules<s.heap.objs.size:=by
 have h:mainGlobals<s.heap.objs.size:=(I.mod.glob.keeps I.bk).lt;exact Nat.lt_trans (by decide) h
theorem ue (t:A.units+1<cLine) (I:Inv X pins σ H s) (g:DGet H a y (some v)) (q:RelV y u) (h:∀G s',Inv X pins σ H s'->RelV v G->Q G s') :
    wpAny (model X.prog X.w) A (getItem (.ref a) u) Q E s:=by
 rcases g with⟨n,k,e,i,l⟩ | ⟨n,k,b,e,i,r,l⟩
 ·subst i;obtain⟨z,B,w,c,m⟩:=kC I.hok e;obtain⟨G,f,d⟩:=RelO.some_of (v:=v) (o:=valueAt w k) (by rw[l];exact c.val k);exact wpAny_getItem_of (fD q) m.mapOf f (h G _ (I.tok _) d)
 ·subst i;cases (show u=Value.ref b from q);obtain⟨z,B,x,c,m⟩:=kD I.hok e;obtain⟨G,f,d⟩:=RelO.some_of (v:=v) (o:=(atKey x k).map (·.2)) (by rw[l];exact c.val k);obtain⟨p,C,j⟩:=Option.map_eq_some_iff.mp f;refine wpAny_getItem_heap (tupleKind_room_in1 t) (gH I.hok r) m C ?_;rw[j];exact h G _ (I.tok _) d
theorem d_in (p:A.units+1<cLine) (I:Inv X pins σ H s) (g:DGet H a y o) (m:RelV y u) (h:∀s',Inv X pins σ H s'->Q (.bool o.isSome) s') :
    wpAny (model X.prog X.w) A (compareOp .In u (.ref a)) Q E s:=by
 rcases g with⟨i,k,e,j,l⟩ | ⟨i,k,b,e,j,n,l⟩
 ·subst j;obtain⟨z,d,r,c,f⟩:=kC I.hok e;refine wpAny_in_of (fD m) d f.mapOf ?_;rw[<- (c.val k).isSome_eq,<- l];exact h _ (I.tok _)
 ·subst j;cases (show u=Value.ref b from m);obtain⟨z,d,t,c,f⟩:=kD I.hok e;refine wpAny_in_heap (tupleKind_room_in1 p) (gH I.hok n) d f ?_;have q:=(c.val k).isSome_eq;rw[Option.isSome_map] at q;rw[<- q,<- l];exact h _ (I.tok _)
theorem yT (p:A.units+1<cLine) (I:Inv X pins σ H s) (g:DGet H a y o) (m:RelV y u) (h:∀s',Inv X pins σ H s'->Q (.bool (!o.isSome)) s') :
    wpAny (model X.prog X.w) A (compareOp .NotIn u (.ref a)) Q E s:=by
 rcases g with⟨i,k,e,j,l⟩ | ⟨i,k,b,e,j,n,l⟩
 ·subst j;obtain⟨z,d,r,c,f⟩:=kC I.hok e;refine wpAny_notIn_of (fD m) d f.mapOf ?_;rw[<- (c.val k).isSome_eq,<- l];exact h _ (I.tok _)
 ·subst j;cases (show u=Value.ref b from m);obtain⟨z,d,t,c,f⟩:=kD I.hok e;refine wpAny_notIn_heap (tupleKind_room_in1 p) (gH I.hok n) d f ?_;have q:=(c.val k).isSome_eq;rw[Option.isSome_map] at q;rw[<- q,<- l];exact h _ (I.tok _)
theorem gO (I:Inv X pins σ H s) (d:Mut (H a)) (g:Heap.SameBut a s.heap h') (he:∃q,h'.get? a=some q) (c:ObjOk X.prog X.w (upd H a G) h' a G) :
    Inv X pins σ (upd H a G) { s with heap:=h',toks:=t' } :=
 I.write (x:=a) (e:=a) d (.inl rfl) (λb q f z=>(g.2 b f).trans z) he c
theorem nj (z:kvs.length<=sizeLine) (c:(a==sysModules)=false) (b:KV kvs G) (d:h'.DictOf (bu P w) a G) :
    ObjOk P w H' h' a (.dK kvs):=⟨z,c,G,b,d⟩
theorem ua (O:A.units+1<cLine) (I:Inv X pins σ H s) (g:DPut H a y v H') (G:RelV y u) (D:RelV v r) (h:∀s',Inv X pins σ H' s'->Q () s') :
    wpAny (model X.prog X.w) A (setItem (.ref a) u r) Q E s:=by
 rcases g with⟨f,k,e,m,l,t⟩ | ⟨f,k,b,e,m,C,l,t⟩
 ·subst m t;obtain⟨z,w,P,d,x⟩:=rA I.hok e;have p:P.length<=sizeLine:=by rw[<- d.length];exact z
  have n:(bj f k v).length<=sizeLine:=by have:=bw f k v;omega
  refine wpAny_setItem_pairs (hsz:=p) (fD G) x λF i o=>h _ ?_;have M:∃q,F.get? a=some q:=let ⟨q,_,_,j,_⟩:=i;⟨q,j⟩;exact gO I (by rw[e];exact True.intro) o M (nj n w (d.put k D) i)
 ·subst m t;cases (show u=Value.ref b from G);obtain⟨z,w,S,d,x⟩:=xQ I.hok e;have p:S.length<=sizeLine:=by rw[<- Paired.length d];exact z
  have n:(bj f k v).length<=sizeLine:=by have:=bw f k v;omega
  refine wpAny_setItem_heap (hsz:=p) (tupleKind_room_in1 O) (gH I.hok C) x λF i o=>h _ ?_;obtain⟨q,R,N,j,T,K,J,_,L⟩:=i;refine gO I (by rw[e];exact True.intro) o ⟨q,j⟩ ⟨n,w,_,(d.put k C D).keeps λc U B=>?_,q,R,N,j,T,K,J,L⟩;rw[ag (aZ B e (λz=>nomatch z))];exact B
end
theorem pD (I:Inv X pins σ H s) (g:DGet H a y o):s.TypeIs (.ref a) "dict":=by
 rcases g with⟨d,k,e,_,_⟩ | ⟨d,k,b,e,_,_,_⟩
 ·obtain⟨_,_,f,_,c⟩:=kC I.hok e;exact c.typeIs
 ·obtain⟨_,_,h,_,c⟩:=kD I.hok e;exact c.typeIs
theorem hO (h:Heap) (a:sysModules<h.objs.size):ObjOk P w H (h.push { cls:=.type "dict",data:=.dict #[] }) h.objs.size (.dK []) :=
 ⟨Cu _,beq_eq_false_iff_ne.mpr (Ne.symm (Cp a)),[],.nil,Heap.DictOf.new h⟩
theorem vV (h:Heap) (a:sysModules<h.objs.size):ObjOk P w H (h.push { cls:=.type "dict",data:=.dict #[] }) h.objs.size (.dT []) :=
 ⟨Cu _,beq_eq_false_iff_ne.mpr (Ne.symm (Cp a)),[],.nil,_,#[],0,Co _ rfl,⟨rfl,rfl,rfl⟩,rfl,rfl,DG⟩
def zC:TE:=λ_ H Q=>∀p,H p=none->Q (.ref p) (upd H p (.dK []))
def zG:TE:=λ_ H Q=>∀p,H p=none->Q (.ref p) (upd H p (.dT []))
section
variable {X:Cx}{pos:Pos}
theorem fG:PE X (.Dict [] [] pos) zC:=λb s c H Q I h =>
 wpAny_Dict_empty ⟨.ref s.heap.objs.size,_,I.laid (a:=s.heap.objs.size) (o:=.dK []) (t':=s.toks) (λ_ _ q=>Cc _ q) (BR _) (hO s.heap I.big),rfl,h _ (I.hok.fresh (BR _))⟩
theorem xk:PE X (.Dict [] [] pos) zG:=λb s c H Q I h =>
 wpAny_Dict_empty ⟨.ref s.heap.objs.size,_,I.laid (a:=s.heap.objs.size) (o:=.dT []) (t':=s.toks) (λ_ _ q=>Cc _ q) (BR _) (vV s.heap I.big),rfl,h _ (I.hok.fresh (BR _))⟩
end
def oZ:List (TE × TE)->St->Hp->(List (V × V)->Hp->Prop)->Prop
 | [],_,H,Q=>Q [] H
 | (tk,tv)::r,σ,H,Q=>tk σ H λx H1=>tv σ H1 λy H2=>oZ r σ H2 λps H3=>Q ((x,y)::ps) H3
abbrev VV:List (V × V)->List (Value × Value)->Prop:=Paired λp q=>RelV p.1 q.1/\RelV p.2 q.2
def PPs (X:Cx) (pos:Pos) (keys:List (Option Expr)) (values:List Expr) (trs:List (TE × TE)):Prop :=
 ∀(pins:AO_) (s:Shared) (σ:St) (H:Hp) (Q:List (V × V)->Hp->Prop),Inv X pins σ H s->oZ trs σ H Q ->
  wpAny (model X.prog X.w) X.A (evalPairs (pairTrees keys values X.env pos)) (λvs s'=>∃ps H',Inv X pins σ H' s'/\VV ps vs/\Q ps H') X.xe s
theorem qh:PPs X pos [] [] []:=λa s b H Q I h=>pairTrees_nil_walk ⟨[],H,I,.nil,h⟩
theorem hG (i:PE X k tk) (r:PE X v J) (p:PPs X pos ks G z) :
    PPs X pos (some k::ks) (v::G) ((tk,J)::z):=λa s c H Q I h =>
 pairTrees_cons_walk (thn (i a s c H _ I h) λu B ⟨x,l,g,m,n⟩=>thn (r a B c l _ g n) λE j ⟨y,t,f,A,o⟩ =>
  thn (p a j c t _ f o) λC D ⟨d,q,w,b,e⟩=>⟨(x,y)::d,q,w,.cons ⟨m,A⟩ b,e⟩)
def eg (kvs more:KV_):KV_:=more.foldl (λacc kv=>bj acc kv.1 kv.2) kvs
theorem KV.merge:∀ {z:KV_}{I:List (Key × Value)}{kvs:KV_}{G:List (Key × Value)}, KV z I -> KV kvs G -> KV (eg kvs z) (merged G I) := by
 intro z I kvs G r;unfold KV at r
 induction r generalizing kvs G with
 | nil=>intro q;exact q
 | @cons p q ps qs h t ih =>
  intro a;have e:KV (bj kvs p.1 p.2) (stored G q.1 q.2):=by
   have:=a.put p.1 h.2;rw[<- h.1];exact this
  exact ih e
theorem ib:∀(more kvs:KV_),(eg kvs more).length<=kvs.length+more.length
 | [],kvs=>by show kvs.length<=kvs.length+0;omega
 | p::r,kvs=>by
  have h1:=ib r (bj kvs p.1 p.2);have h2:=bw kvs p.1 p.2;show (eg (bj kvs p.1 p.2) r).length<=_;rw[Cs];omega
theorem jZ:∀ {kvs:KV_}{ws:List (Value × Value)}, VV (kvs.map λkv => (kV kv.1, kv.2)) ws -> ∃rs, Carries (bu P w) ws rs /\ KV kvs rs
 | [],_,r=>by rw[List.map_nil] at r;cases r;exact⟨[],True.intro,.nil⟩
 | p::kvs,_,r=>by
  rw[Cv] at r;cases r with
  | @cons a b as bs h t =>
   obtain⟨rs,c,q⟩:=jZ (P:=P) (w:=w) t;obtain⟨b1,b2⟩:=b;exact⟨(p.1,b2)::rs,⟨fD h.1,rfl,c⟩,.cons ⟨rfl,h.2⟩ q⟩
def Bk (trs:List (TE × TE)):TE:=λσ H Q=>∀p,H p=none->oZ trs σ (upd H p (.dK [])) λps H2=>H2 p=some (.dK [])/\∃kvs:KV_,ps=kvs.map (λkv=>(kV kv.1,kv.2))/\kvs.length<=15/\Q (.ref p) (upd H2 p (.dK (eg [] kvs)))
theorem qI (h:PPs X pos G J O) (d:G.all (·.isSome)=true) (n:G.length=J.length) (p:G≠[])
    (i:G.length<=15):PE X (.Dict G J pos) (Bk O):=by
 intro f s K H Q I q;have v:=I.hok.fresh (BR s.heap.objs.size);have m:=I.laid (a:=s.heap.objs.size) (o:=.dK []) (h':=s.heap.push { cls:=.type "dict",data:=.dict #[] }) (t':=s.toks) (λ_ _ q=>Cc _ q) (BR _) (hO s.heap I.big);refine wpAny_Dict_walk (knd:=bu X.prog X.w) d n p i (thn (h f _ K _ _ m (q _ v)) λN R ⟨M,T,k,j,e,g,B,S,D⟩=>?_);subst B;obtain⟨C,c,L⟩:=jZ (P:=X.prog) (w:=X.w) j;obtain⟨z,E,l,u,F⟩:=rA k.hok e;cases u;refine⟨C,c,F,λh' b r=>⟨.ref s.heap.objs.size,_,?_,rfl,D⟩⟩;have y:(eg [] g).length<=sizeLine:=by
  have t:=ib g [];rw[List.length_nil] at t;rw[sizeLine_eq];omega
 have x:∃q,h'.get? s.heap.objs.size=some q:=let ⟨q,_,_,A,_⟩:=b;⟨q,A⟩;exact gO k (by rw[e];exact True.intro) r x (nj y E (L.merge .nil) b)
end L2
namespace Att
open PySem PySem.W PySem.Calls PyProof.Rows
theorem kx:∀(ns:List Int) (z:LW), WellAll P h z (ns.map WData.int) -> IntsAre z ns := by
 intro ns
 induction ns with
 | nil =>
  intro z w;rw[List.map_nil] at w;cases w;exact .nil
 | cons n ns ih =>
  intro z w;rw[Cv] at w;cases w with
  | cons a b =>
   cases a;exact .cons _ _ (ih _ b)
theorem uE {l:OpenLaw}{n:Nat}(p:l.most=some n) {P:Params}{args:List WData}{z:LW}
    (b:l.row.toRowW.claim.pre args=true) (g:WellAll P h z args) :
    ∃a vs ns,z=[Value.ref a]/\args=[WData.list (ns.map WData.int)]/\h.get? a=some { cls:=.type "list",data:=.seq vs.toArray }/\IntsAre vs ns/\ns.length<=n:=by
 have i:WShape.hasAll [] args [.list .int]=true:=(pre_splitW b).1;have j:l.pre.holds [] { args:=args }=true:=(pre_splitW b).2;obtain⟨d,r,rfl,o,s⟩:=hasAllW_cons i;obtain rfl:=hasAllW_nil s;obtain⟨t,rfl,m⟩:=hasW_list o;obtain⟨ns,rfl⟩:=items_int m;have c:ns.length<=n:=by
  unfold OpenLaw.pre at j;have e:(WTm.not (.lt (.lit (.int (n:Int))) (.len (.arg 0)))).holds [] { args:=[.list (ns.map .int)] }=true:=by
   have e:=(holds_andW j).1;rw[p] at e;exact e
  have f:=condW_of e (w_not (w_lt w_lit (w_len_list (w_arg rfl))));rw[BQ] at f;refine DH λq=>?_;have k:(n:Int)<((ns.length:Nat):Int):=by omega
  first
   | (rw[Ca k] at f;exact absurd f (by decide))
   | (simp at f;omega)
 cases g with
 | cons w1 w2 =>
  cases w2;cases w1 with
  | list ho hall=>exact⟨_,_,ns,rfl,rfl,ho,kx ns _ hall,c⟩
theorem tP (l:OpenLaw) (args:List WData):l.row.toRowW.claim.post args (.bool true) args=true :=
 postW_of (r:=l.row.toRowW) (X:=(true==true))
  (show WShape.has [] (.bool true) .bool=true by first | rfl | decide | simp[WShape.has,WShape.arms,WShape.armsAll])
  (show (WTm.eq .res (.lit (.bool true))).value [] { args:=args,res:=some (.bool true),after:=args }=some (.bool (true==true)) from w_eq_bool (w_res rfl) w_lit) rfl
theorem attach_call {l:OpenLaw}{n:Nat}{I:LS}{XP:(Str -> OV) -> Heap -> Prop}{YP:World -> Heap -> Prop}{d:DefRec}
    (B:l.most=some n) (j:d.params.defaults=[])
    (c:∀(w:World) (J z:Shared) (mg mb:MS) (U:Addr) (o:Obj) (pm cd O:Value) (a:Addr) (vs:LW) (ns:List Int),
     Ground q I [] XP w J mg mb z.heap->YP w z.heap ->
     z.heap.get? U=some o->o.data=.func (docDef d.name d.params d.body d.scope pm cd O)->z.heap.CodeRec cd d.name->mg d.name=some (.ref U) ->
     z.heap.get? a=some { cls:=.type "list",data:=.seq vs.toArray }->IntsAre vs ns->ns.length<=n->z.gens=#[] ->
     codeAny (model l.prog w) callerA (.call (.ref U) ⟨[.ref a],[]⟩) (λr s'=>r=.ok (.ret (.bool true))/\OldK z.heap s'.heap/\s'.os=z.os/\AllBare s'.gens) z) :
    WalkO q I XP YP l.row.toRowW d [] (λf vs=>PySem.call f vs):=by
 intro w J z mg mb G Y U o pm cd O E kV x F i t k H p s M e u C m K;obtain rfl:E=.none:=Dflts.none t j;obtain rfl:kV=.none:=Dflts.noKw t;obtain⟨a,vs,ns,rfl,rfl,g,b,h⟩:=uE B e m;refine enter_call (codeAny_mono (c w J z mg mb U o pm cd O a vs ns G Y x (fd_plain F) i k g b h H) λr s' D=>?_);obtain⟨rfl,L,y,v⟩:=D;exact⟨.inl ⟨.bool true,.bool true,[],rfl,λ_=>rfl,.bool true,tP l _,λ_=>⟨List.Pairwise.nil,λ_ A=>(nomatch A)⟩⟩,L,y,v⟩
end Att
namespace L2
open PySem PySem.Spec PyProof.Rows
theorem iK:∀ {vs:LW}{ns:List Int},IntsAre vs ns->Vals (ns.map V.int) vs
 | _,_,.nil=>.nil
 | _,_,.cons n t h=>.cons ⟨t,rfl⟩ (iK h)
def xw (H:Hp):Prop:=∀b,H b=none∨∃o xs,H b=some (.frz o (.lst xs))
theorem vP {P:Program}{w:World}{K:W.Frag}{mg O:Str -> OV}{CX:CXT}{k:Nat}{U a:Addr}{fd:FuncData}{x:Str}{sp:Sp}{G:Shared}{vs:LW}{ns:List Int}
    (T:K.In G.heap) (E:G.heap.Ns mainGlobals mg) (f:G.heap.Ns builtinsNs O) (L:∀x:Str,x≠"__name__"->O x=bootBuiltins x) (p:G.heap.NoLimit) (hg:G.gens=#[])
    (J:G.heap.get? a=some { cls:=.type "list",data:=.seq vs.toArray }) (hi:IntsAre vs ns) (Z:ns.length<=sizeLine) (hr:Room k callerA)
    (F:∀base:Heap,K.In base->base.Ns mainGlobals mg->FnOk P w K mg base CX k U fd [x] sp) (j:∀(s:Shared) (u:Value),BindsTo s fd ⟨[u],[]⟩ [(x,u)])
    (Q:∀H:Hp,xw H->SqL K H a (ns.map V.int)->sp [.ref a] H (λv _=>v=.bl true) λ_ _ _=>False)
    (N:∀H e s',CX [] H G (λ_ _ _=>False) e s'->False) :
    codeAny (model P w) callerA (.call (.ref U) ⟨[.ref a],[]⟩) (λr s'=>r=.ok (.ret (.bool true))/\OldK G.heap s'.heap/\s'.os=G.os/\AllBare s'.gens) G:=by
 have rv:=iK hi;have l:=hi.length;have i:∀H:Hp, xw H -> SqL K H a (ns.map V.int) -> HOk P w H G.heap -> (∀b, H b ≠ none -> b=a) -> (H a ≠ none -> K.lookup a=none) ->
     codeAny (model P w) callerA (.call (.ref U) ⟨[.ref a],[]⟩) (λr s'=>r=.ok (.ret (.bool true))/\OldK G.heap s'.heap/\s'.os=G.os/\AllBare s'.gens) G:=by
  intro H S hS D hA hK;have c:∀ {b:Addr} {o:Obj},G.heap.get? b=some o->H b=none->(hF G.heap H).get? b=some o:=λe n=>vH e n;have R:∀ {b:Addr} {o:Obj} {B:Array DictEntry} {A:Nat},G.heap.get? b=some o->o.data=.dict B A->H b=none:=λ{b o B A} e d=>by
   cases q:H b with
   | none=>rfl
   | some u =>
    have M:b=a:=hA b (by rw[q];simp);subst M;rw[J] at e;cases e;have d':Data.seq vs.toArray _=Data.dict B A:=d;cases d'
  have g:∀ {b:Addr} {m:MS},G.heap.Ns b m->(hF G.heap H).Ns b m:=λ{b m} ⟨o,B,A,e,d,r⟩=>⟨o,B,A,c e (R e d),d,r⟩
  have C:K.In (hF G.heap H):=λb o e=>c (T b o e) (by
   cases q:H b with
   | none=>rfl
   | some u =>
    have M:b=a:=hA b (by rw[q];simp);subst M;rw[hK (by rw[q];simp)] at e;cases e)
  have hM:Mod K mg (hF G.heap H):=⟨C,g E,⟨O,g f,L⟩,let ⟨mc,h1,h2⟩:=p;⟨mc,g h1,h2⟩⟩
  have e0:Env0 P w K mg (hF G.heap H) callerA [] G H:=⟨rfl,hM,λb o e=>yh e,Nat.le_of_eq (uK _ _),trivial,λb f=>absurd (show b∈([]:List Addr) from f) (by simp),D,.of_eq hg⟩
  refine codeAny_mono ((F _ C (g E)).run callerA [] G H ⟨[.ref a],[]⟩ [.ref a] [.ref a] _ _ hr e0 (j G (.ref a)) (.cons rfl .nil) (Q H S hS)) λr s' h=>?_;cases r with
  | error e=>exact(N H e s' h).elim
  | ok fl =>
   cases fl with
   | next=>exact False.elim h
   | brk=>exact False.elim h
   | cont=>exact False.elim h
   | ret u =>
    obtain⟨v,H',os,t,X,y,r',q⟩:=h;have q':v=.bl true:=q;subst q';obtain rfl:u=Value.bool true:=r';refine⟨rfl,OldK.of_keep λb o e=>?_,os,t⟩;cases q:H b with
    | none=>exact X.keep b o e q (by intro z;exact absurd (show b∈([]:List Addr) from z) (by simp)) (by simp)
    | some u =>
     rcases S b with z | ⟨ob,xs,z⟩
     ·rw[q] at z;cases z
     ·have z2:=X.frzs b ob _ z;obtain⟨Y,_⟩:=D b _ z;obtain⟨e2,_⟩:=y b _ z2;rw[e] at Y;cases Y;exact e2
 cases hk:K.lookup a with
 | some o =>
  have e:=T a o hk;rw[J] at e;cases e;refine i (λ_=>none) (λ_=>.inl rfl) (.inr ⟨_,vs.toArray,_,hk,rfl,rfl,rfl,by rw[Cq,l];exact Z,by simpa using rv⟩) (λb u z=>by have I:(none:Option HO)=some u:=z;cases I) (λb z=>absurd rfl z) λz=>absurd rfl z
 | none =>
  refine i (λb=>if b=a then some (.frz { cls:=.type "list",data:=.seq vs.toArray } (.lst (ns.map V.int))) else none) (λb=>?_) (.inl (.inr ⟨{ cls:=.type "list",data:=.seq vs.toArray },if_pos rfl⟩)) (λb u z=>?_) (λb z=>?_) λ_=>hk
  ·by_cases f:b=a
   ·exact .inr ⟨_,_,if_pos f⟩
   ·exact .inl (if_neg f)
  ·by_cases f:b=a
   ·have I:=(if_pos f).symm.trans z;cases I;subst f;exact⟨J,by rw[BQ];exact Z,vs,_,rv,J⟩
   ·have I:=(if_neg f).symm.trans z;cases I
  ·by_cases f:b=a
   ·exact f
   ·exact absurd (if_neg f) z
theorem walk_of {l:W.OpenLaw}{n k:Nat}{z:LS}{U:(Str -> OV) -> Heap -> Prop}{O:World -> Heap -> Prop}{d:DefRec}{K:Params -> W.Frag}{CX:World -> CXT}{sp:World -> Sp}{x:Str}
    (E:l.most=some n) (m:n<=sizeLine) (j:d.params.defaults=[]) (N:Room k callerA)
    (Q:∀(w:World) (h:Heap),O w h->(K w.params).In h)
    (F:∀(w:World) (mg:MS) (I:Addr) (h:Heap),(K w.params).In h->h.Ns mainGlobals mg->mg d.name=some (.ref I) ->
     ∃fd:FuncData,(∀(s:Shared) (u:Value),BindsTo s fd ⟨[u],[]⟩ [(x,u)]) /\
      ∀base:Heap,(K w.params).In base->base.Ns mainGlobals mg->FnOk l.prog w (K w.params) mg base (CX w) k I fd [x] (sp w))
    (t:∀(w:World) (H:Hp) (a:Addr) (ns:List Int),ns.length<=n->xw H->SqL (K w.params) H a (ns.map V.int)->sp w [.ref a] H (λv _=>v=.bl true) λ_ _ _=>False)
    (r:∀(w:World) (H:Hp) (s:Shared) (e:Value) (s':Shared),CX w [] H s (λ_ _ _=>False) e s'->False) :
    W.WalkO q z U O l.row.toRowW d [] (λf J=>PySem.call f J):=by
 refine Att.attach_call E j λw A g mg T I o Z cd C a J ns G Y S X L p i c b P=>?_;have y:=Q w _ Y;obtain⟨fd,R,D⟩:=F w mg I _ y G.T.g p;exact vP y G.T.g G.T.b G.T.builtins G.T.nolimit P i c (Cn b m) N D R (λH B M=>t w H a ns b B M) λH e s'=>r w H g e s'
def cQ (s:Stmt):Arguments:=match s with
 | .FunctionDef _ a _ _ _ _ _ _ _ _=>a
 | _=>{ posonlyargs:=[],args:=[],vararg:=none,kwonlyargs:=[],kw_defaults:=[],kwarg:=none,defaults:=[] }
def bY (s:Stmt):List Stmt:=match s with
 | .FunctionDef _ _ b _ _ _ _ _ _ _=>b
 | _=>[]
def au (s:Stmt):Scope:=match s with
 | .FunctionDef _ _ _ _ _ _ sc _ _ _=>sc
 | _=>{ kind:=.function,names:=[],isGenerator:=false,isCoroutine:=false }
abbrev CX0:CXT:=λ_ _ _ _ _ _=>False
abbrev E0:XK:=λ_ _ _=>False
theorem xN:iB CX0 X E0:=λ_ _ _ _ _ _ _ h=>h.elim
structure Fun (K:W.Frag) (x qual:Str) (st:Stmt) (f:Addr) (fd:FuncData):Prop where
 ex:∃(oc:Value) (od:Option Addr) (kV doc pm:Value) (an:Option Addr) (cdv ct:Value) (osl:Array (OV)),
  fd=W.fnOf x qual (cQ st) (bY st) (au st) .none kV doc pm an cdv ct/\K.lookup f=some ⟨oc,od,.func fd,osl⟩/\W.codeIn K cdv qual=true
 kp:W.keepIn K (.ref f)=true
section
variable {P:Program}{w:World}{K:W.Frag}{mg:MS}{base:Heap}
theorem Fun.ok {x qual:Str}{st:Stmt}{f:Addr}{fd:FuncData}{N ps:LS}{k:Nat}{sp:Sp}(F:Fun K x qual st f fd) (S:FnScope N ps (au st)) (c:∀I H Q E, sp I H Q E -> I.length=ps.length)
    (a:∀(G:Value) (A:Around) (z:List Env) (s:Shared) (H:Hp) (I:LV) (Q:VK) (E:XK),Room k (A.deeper (envOfC qual (au st) s.heap.objs.size f G))->sp I H Q E ->
     ∃t,PSs (bo CX0 P w K mg base N qual (au st) f G A z s H E).nox (bY st) t/\t { nx:=λ_ H'=>Q .non H',rt:=Q } (start N I) H):FnOk P w K mg base CX0 (k+1) f fd ps sp:=by
 obtain⟨m,n,kV,e,o,l,G,p,i,rfl,g,b⟩:=F.ex;refine xZ g b S c λA z s H I Q E j d=>?_;obtain⟨t,h,q⟩:=a G A z s H I Q E j d;exact⟨t,h.nox,q⟩
theorem Fun.binds {x qual:Str}{st:Stmt}{f:Addr}{fd:FuncData}{ps:LS}(F:Fun K x qual st f fd)
    (h:∀(kV z J:Value) (I:Option Addr) (G ct:Value) (us:LW),us.length=ps.length->bindArgs (W.fnOf x qual (cQ st) (bY st) (au st) .none kV z J I G ct) ⟨us,[]⟩=pure (ps.zip us)):Binds K fd ps []:=by
 obtain⟨c,e,kV,z,J,I,G,ct,a,rfl,d,b⟩:=F.ex;exact .all (h kV z J I G ct)
theorem vi {x qual:Str}{st:Stmt}{f:Addr}{U:Value}{od J:Option Addr}{I:Array (OV)}{kV G O z ct:Value}(l:K.lookup f=some ⟨U,od,.func (W.fnOf x qual (cQ st) (bY st) (au st) .none kV G O J z ct),I⟩)
    (c:W.codeIn K z qual=true) (k:W.keepIn K (.ref f)=true):Fun K x qual st f (W.fnOf x qual (cQ st) (bY st) (au st) .none kV G O J z ct):=⟨⟨U,od,kV,G,O,J,z,ct,I,rfl,l,c⟩,k⟩
end
theorem aj (h:n<=1000):n<sizeLine:=Nat.lt_of_le_of_lt h (by decide)
section
variable {X:Cx}
theorem pv (i:Nat) (d:autoParam (X.N[i]? = some x) aR9) (c:Vis X.env.scope x:=by first | exact Or.inl rfl | exact Or.inr (Or.inl rfl) | exact Or.inr (Or.inr rfl)) (b:autoParam ((x==("__debug__":Str))=false) aD9)
    (a:autoParam ((x==("__classdict__":Str))=false) aD9):PE X (.Name x pos) (AX i):=Ae d c b a
end
theorem cR {A B:Prop}(h:B):if false=true then A else B:=by
 rw[if_neg Cy];exact h
theorem iJ {A B:Prop}(h:A):if true=true then A else B:=by
 rw[if_pos rfl];exact h
theorem av {c A B:Prop} [Decidable c] (b:c->A) (a:¬ c->B):if c then A else B:=by
 by_cases h:c
 ·rw[if_pos h];exact b h
 ·rw[if_neg h];exact a h
def Same (H H':Hp):Prop:=∀b o,H b=some o->H' b=some o
theorem Same.refl (H:Hp):Same H H:=λ_ _ h=>h
theorem Same.trans (a:Same H H1) (b:Same H1 H2):Same H H2:=λc o h=>b c o (a c o h)
section
variable {κ:Type} [DecidableEq κ]
theorem vK {kvs:List (κ × V)}{k:κ}(h:aD kvs k=none):¬ k∈kvs.map (·.1):=by
 intro m;obtain⟨p,a,e⟩:=BY.mp m;have q:(kvs.any λb=>decide (b.1=k))=true:=Eb.mpr ⟨p,a,Ca e⟩;rw[eS,h] at q;exact absurd q (by simp)
theorem pV:∀ {l:List κ}{k:κ},l.Nodup->¬ k∈l->(l++[k]).Nodup
 | [],k,_,_=>by simp
 | a::r,k,h,hk=>by
  obtain⟨h1,h2⟩:=CI.mp h;show (a::(r++[k])).Nodup;refine CI.mpr ⟨λm=>?_,pV h2 λm=>hk (Cm.mpr (Or.inr m))⟩;rcases Cb.mp m with q | q
  ·exact h1 q
  ·exact hk (Cm.mpr (Or.inl (Cr.mp q).symm))
theorem yn {kvs:List (κ × V)}{k:κ}(v:V) (a:(kvs.map (·.1)).Nodup) (h:aD kvs k=none):((bj kvs k v).map (·.1)).Nodup:=by
 rw[oq v h,BX];exact pV a (vK h)
end
end L2
set_option maxHeartbeats 4000000
namespace L2
open PySem PySem.Spec PyProof.Rows
theorem kP {env:Env}{f:Str × NameKind -> List (Str × Addr) -> Sem (ForInStep (List (Str × Addr)))}
    (f1:∀n k r,k≠NameKind.free->f (n,k) r=pure (.yield r))
    (f2:∀n c r,env.cells.lookup n=some c->f (n,NameKind.free) r=pure (.yield ((n,c)::r))) :
    ∀(names:List (Str × NameKind)) (acc:List (Str × Addr)),
    (∀y∈names,y.2=NameKind.free->∃c,env.cells.lookup y.1=some c) ->
    (∀x c,acc.lookup x=some c->env.cells.lookup x=some c) ->
    ∃cl,forIn names acc f=(pure cl:Sem (List (Str × Addr)))/\(∀x c,cl.lookup x=some c->env.cells.lookup x=some c) /\
     (∀x,(acc.lookup x).isSome=true->(cl.lookup x).isSome=true)/\∀y∈names,y.2=NameKind.free->(cl.lookup y.1).isSome=true
 | [],acc,_,h=>⟨acc,by rw[List.forIn_nil],h,λ_ q=>q,λy hy=>nomatch hy⟩
 | (n, k) :: r, acc, hn, h => by
  by_cases hk:k=NameKind.free
  ·subst hk;obtain⟨c,hc⟩:=hn (n,.free) CW rfl;have hc':env.cells.lookup n=some c:=hc;obtain⟨cl,e,a,b,d⟩:=kP f1 f2 r ((n,c)::acc) (λy hy=>hn y (Cw _ hy)) (λx c' q=>by
    rw[CS] at q;cases e:x==n with
    | true =>
     rw[e] at q;cases q;rw[show x=n from LawfulBEq.eq_of_beq e];exact hc'
    | false =>
     rw[e] at q;exact h x c' q)
   refine⟨cl,?_,a,λx q=>b x ?_,λy hy hf=>?_⟩
   ·rw[DQ,f2 n c acc hc',pure_bind];exact e
   ·rw[CS];cases x==n with
    | true=>rfl
    | false=>exact q
   ·rcases Cm.mp hy with rfl | hy
    ·refine b _ ?_;rw[CS];simp
    ·exact d y hy hf
  ·obtain⟨cl,e,a,b,d⟩:=kP f1 f2 r acc (λy hy=>hn y (Cw _ hy)) h;refine⟨cl,?_,a,b,λy hy hf=>?_⟩
   ·rw[DQ,f1 n k acc hk,pure_bind];exact e
   ·rcases Cm.mp hy with rfl | hy
    ·exact absurd hf hk
    ·exact d y hy hf
theorem pU {scope:Scope}{env:Env}(i:∀y ∈ scope.names, y.2=NameKind.free -> ∃c, env.cells.lookup y.1=some c) :
    ∃G,closureFor scope env=pure G/\(∀x c,G.lookup x=some c->env.cells.lookup x=some c) /\
     ∀y∈scope.names,y.2=NameKind.free->∃c,G.lookup y.1=some c:=by
 have g:=kP (env:=env) (f:=λ(x:Str × NameKind) (r:List (Str × Addr))=>match x with
     | (name,kind)=>if (kind==NameKind.free)=true then do let c ← cellOf env name;pure (ForInStep.yield ((name,c)::r)) else pure (ForInStep.yield r))
  (λn k r j=>by
   have z:(k==NameKind.free)=false:=by simpa using j
   simp only[z,Dv,if_false])
  (λn c r h=>by simp only[beq_self_eq_true,if_true,cellOf,h,pure_bind])
  scope.names [] i (λx c q=>by cases q)
 obtain⟨G,e,a,_,d⟩:=g;refine⟨G,?_,a,λy b z=>Dl.mp (d y b z)⟩;simp only[closureFor]
 first
  | exact e
  | (simp only[bind_pure];exact e)
  | (refine Eq.trans ?_ e;simp only[bind_pure])
def cxC (X:Cx) (scope:Scope) (N:LS) (cl:List (Str × Addr)) (C:Addr) (s₀:Shared) (H₀:Hp) (ex:List Addr):Cx where
 prog:=X.prog
 w:=X.w
 K:=X.K
 mg:=X.mg
 base:=X.base
 A:=X.A
 N:=N
 s₀:=s₀
 H₀:=H₀
 env:=compEnvC scope cl C X.env
 outer:=X.stack
 stack:=X.stack
 ex:=ex
 fn:=λ_=>false
 calm:=X.calm
 pn:=[]
 xe:=λ_ _=>False
def eR (k:Nat) (fr:List Nat) (σ:St):St:=List.replicate k none++fr.map λi=>(σ[i]?).join
def Ax (osc scope:Scope) (NX:LS) (fr:List Nat):Bool:=fr.all λi=>match NX[i]? with
 | some x=>(decide (osc.names.lookup x=some .cell)||decide (osc.names.lookup x=some .free))&&decide (scope.names.lookup x=some .free)
 | none=>false
structure CompSc (osc scope:Scope) (NX own:LS) (fr:List Nat) (N:LS):Prop where
 kind:scope.kind=.function
 nocell:∀y∈scope.names,y.2≠NameKind.cell
 loc:∀y∈scope.names,y.2=NameKind.local->scope.names.lookup y.1=some .local
 free:∀y∈scope.names,y.2=NameKind.free->osc.names.lookup y.1=some .cell∨osc.names.lookup y.1=some .free
 names:N.map some=own.map some++fr.map λi=>NX[i]?
 outer:Ax osc scope NX fr=true
def ig (osc scope:Scope) (NX own:LS) (fr:List Nat) (N:LS):Bool :=
 decide (scope.kind=.function)&&(scope.names.all (λy=>decide (y.2≠NameKind.cell))&&(scope.names.all (λy=>decide (y.2=NameKind.local->scope.names.lookup y.1=some .local)) &&
  (scope.names.all (λy=>decide (y.2=NameKind.free->(osc.names.lookup y.1=some .cell∨osc.names.lookup y.1=some .free)))&&(decide (N.map some=own.map some++fr.map λi=>NX[i]?)&&Ax osc scope NX fr))))
theorem CompSc.of (h:ig G scope I z fr N=true):CompSc G scope I z fr N:=by
 unfold ig at h;simp only[CT,decide_eq_true_eq,Dn] at h;obtain⟨e,f,c,a,d,b⟩:=h;exact⟨e,f,c,a,d,b⟩
theorem CompSc.len (S:CompSc G scope I z fr N):N.length=z.length+fr.length:=by
 have h:=congrArg List.length S.names;simpa using h
theorem eI {env:Env}:∀ {names:List (Str × NameKind)}{x:Str}, names.lookup x=some .free ->
    (names.map λ(n,k)=>if (k==NameKind.free&&env.scope.kind==.function&&env.kindOf n==some .cell) then (n,NameKind.cell) else (n,k)).lookup x=some .cell ∨
    (names.map λ(n,k)=>if (k==NameKind.free&&env.scope.kind==.function&&env.kindOf n==some .cell) then (n,NameKind.cell) else (n,k)).lookup x=some .free
 | [],_,h=>by simp at h
 | (n,k)::r,x,h=>by
  have ih:=@eI env r x;cases hx:x==n with
  | true =>
   simp only[CS,hx] at h;cases h;simp only[Cv]
   split
   ·left;simp[CS,hx]
   ·right;simp[CS,hx]
  | false =>
   simp only[CS,hx] at h;simp only[Cv]
   split
   ·simp only[CS,hx];exact ih h
   ·simp only[CS,hx];exact ih h
theorem jV {env:Env}:∀ {names:List (Str × NameKind)}{x:Str}{k':NameKind},
    (names.map λ(n,k)=>if (k==NameKind.free&&env.scope.kind==.function&&env.kindOf n==some .cell) then (n,NameKind.cell) else (n,k)).lookup x=some k' ->
    k'=.cell∨k'=.free->(∀y∈names,y.2≠NameKind.cell)->∃y∈names,y.1=x/\y.2=.free
 | [],_,_,h,_,_=>by simp at h
 | (n, k) :: r, x, k', h, hk, nc => by
  have ih:=@jV env r x k';simp only[Cv] at h;cases hx:x==n with
  | true =>
   have ex:x=n:=LawfulBEq.eq_of_beq hx;refine⟨(n,k),CW,ex.symm,?_⟩;have nck:k≠.cell:=nc (n,k) CW;by_cases z:k=.free
   ·exact z
   ·have zb:(k==NameKind.free)=false:=by simpa using z
    simp only[zb,Bool.false_and,Dv,if_false,CS,hx] at h;cases h;rcases hk with q | q
    ·exact absurd q nck
    ·exact absurd q z
  | false =>
   have h':(r.map λ(n,k)=>if (k==NameKind.free&&env.scope.kind==.function&&env.kindOf n==some .cell) then (n,NameKind.cell) else (n,k)).lookup x=some k':=by
    split at h
    ·simpa only[CS,hx] using h
    ·simpa only[CS,hx] using h
   obtain⟨y,hy,a,b⟩:=ih h' hk λz hz=>nc z (Cw _ hz);exact⟨y,Cw _ hy,a,b⟩
section
variable {X:Cx}{pins:AO_}{σ:St}{H:Hp}{s:Shared}
def PTs (X:Cx) (ifs:List Expr) (t:TT):Prop :=
 ∀(pins:AO_) (s:Shared) (σ:St) (H:Hp) (Q:Bool->Hp->Prop),Inv X pins σ H s->t σ H Q ->
  wpAny (model X.prog X.w) X.A (forIn ifs true λc r=>if r=true then do let ok ← isTrue c X.env (eval c X.env);pure (ForInStep.yield ok) else pure (ForInStep.yield r)) (TP X pins σ Q) X.xe s
def sO:TT:=λ_ H Q=>Q true H
theorem cS:PTs X [] sO:=λ_ _ _ H _ I h=>wpAny_tests_nil ⟨H,I,h⟩
theorem bx (h:PT X c t):PTs X [c] t:=λa s b H Q I q=>wpAny_tests_one (h a s b H Q I q)
theorem nx (h:wpAny M A t Q (λ_ _=>False) s) (b:∀a s,Q a s->z a s):wpAny M A t z E s :=
 CY h b λ_ _ f=>f.elim
theorem uG {scope:Scope}{G:LS}{fr:List Nat}{N:LS}{I:List (Str × Addr)}{s3 s4:Shared}{J:Hp}{Y:List Addr}{m:Str -> OV}
    (hc:X.calm=true) (S:CompSc X.env.scope scope X.N G fr N)
    (t:∀x c,I.lookup x=some c->X.env.cells.lookup x=some c) (W:∀y∈scope.names,y.2=NameKind.free->∃c,I.lookup y.1=some c)
    (a:Inv X pins σ J s3) (L:∀b∈Y,ed X pins J b/\b<s3.heap.objs.size)
    (D:∀b o,s3.heap.get? b=some o->s4.heap.get? b=some o) (hn:s4.heap.Ns s3.heap.objs.size m) (Z:s4.os=s3.os) (hg:s4.gens=s3.gens) :
    Inv (cxC X scope N I s3.heap.objs.size s3 J Y) [] (eR G.length fr σ) J s4:=by
 have s:(compEnvC scope I s3.heap.objs.size X.env).scope.kind=.function:=by
  show (relabel scope X.env).kind=.function;exact S.kind
 refine⟨⟨a.ok.mod,s,a.ok.glob,a.ok.blt,BR _,?_,?_,?_,a.ok.hd,a.ok.frames,.inl rfl,?_,?_,?_,?_,?_,a.stack,a.stkFree⟩,Z,?_,Un.kept D,⟨m,hn,?_⟩,?_,?_,?_,?_,a.hok.kept D,?_⟩
 ·exact λx y c n d=>a.ok.inj x y c (t x c n) (t y c d)
 ·intro x hx;have Q:(relabel scope X.env).names.lookup x=some .cell∨(relabel scope X.env).names.lookup x=some .free:=hx;obtain⟨F,R,O⟩:∃F,(relabel scope X.env).names.lookup x=some F/\(F=NameKind.cell∨F=NameKind.free):=by
   rcases Q with q | q
   ·exact⟨_,q,.inl rfl⟩
   ·exact⟨_,q,.inr rfl⟩
  obtain⟨y,hy,e,hf⟩:=jV (env:=X.env) R O S.nocell;subst e;exact W y hy hf
 ·exact λx c h=>by cases h
 ·intro b B;obtain⟨f,K⟩:=L b B;refine⟨Cp K,λx c h=>f.2.2.2.2.1 x c (t x c h)⟩
 ·exact λb o e=>a.bs b o e
 ·exact Cn a.ok.bsz a.sz
 ·intro b o e B;obtain⟨f,K⟩:=L b B;rcases f.2.2.2.1 with z | z
  ·exact a.ok.noex b o e z
  ·exact absurd (CJ (BZ e) (Cn a.ok.bsz z)) (Df _)
 ·intro b B;obtain⟨f,K⟩:=L b B;show b∉frs X.stack;intro z;rcases Cm.mp (a.stkSub b z) with q | q
  ·exact f.2.1 q
  ·exact f.2.2.1 q
 ·rw[hg];exact a.bare
 ·intro i x v n d h3;have n:N[i]? = some x:=n;obtain⟨m0,a0,M⟩:=a.loc;have hi:G.length<=i:=by
   refine DH λq=>?_;unfold eR at d;rw[Dm (by simpa using q),List.getElem?_replicate] at d
   split at d <;> cases d
  obtain⟨j,rfl⟩:=Nat.exists_eq_add_of_le hi;have g:(fr.map λi=>(σ[i]?).join)[j]? = some (some v):=by
   unfold eR at d;rw[DB (by simp)] at d;simpa using d
  rw[Ce] at g;cases ej:fr[j]? with
  | none=>rw[ej] at g;cases g
  | some k =>
   rw[ej] at g;have H:(σ[k]?).join=some v:=BV g;have U:σ[k]? = some (some v):=by
    cases q:σ[k]? with
    | none=>rw[q] at H;cases H
    | some o=>rw[q] at H;exact congrArg some H
   have V:X.N[k]? = some x:=by
    have q:=congrArg (λl=>l[G.length+j]?) S.names;simp only[Ce,n,DB (show (G.map some).length<=G.length+j by simp),BQ,Em,ej,Option.map_some] at q;exact(BV q).symm
   have P:=Dn.mp S.outer k (BW ej);rw[V] at P;simp only[CT,Bool.or_eq_true,decide_eq_true_eq] at P;obtain⟨w,A⟩:=P;have T:Vis X.env.scope x:=.inr w;obtain⟨u,r,l⟩:=M k x v V U T;refine⟨u,r,?_⟩;rcases l with⟨l,_⟩ | ⟨_,c,e,z⟩
   ·have l:X.env.scope.names.lookup x=some .local:=l;rcases w with q | q
    ·rw[l] at q;cases q
    ·rw[l] at q;cases q
   ·obtain⟨C,E⟩:=W (x,.free) (PySem.mem_of_lookup A) rfl;have E:I.lookup x=some C:=E;have ec:C=c:=BV ((t x C E).symm.trans e);subst ec;refine .inr ⟨eI (env:=X.env) A,C,E,?_⟩;obtain⟨o,n,d⟩:=z;exact⟨o,D _ _ n,d⟩
 ·intro x c e;obtain⟨v,o,n,d⟩:=a.cell x c (t x c e);exact⟨v,o,D _ _ n,d⟩
 ·exact a.hok.fresh (BR _)
 ·exact λx c e=>a.freeC x c (t x c e)
 ·intro p hp;exact absurd hp (by simp[cxC])
 ·show (eR G.length fr σ).length=N.length;rw[S.len];simp[eR]
end
section
variable {prog:Program}{w:World}{A:Around}{R:Result->Shared->Prop}{s:Shared}
theorem uV (J:Nat -> Shared -> Prop)
    (a:∀k s, J k s -> ∀E:Value -> Shared -> Prop, wpAny (model prog w) A (pyNext it) (λr I => match r with
     | none=>R (.ok .next) I
     | some v => wpAny (model prog w) A (letOwnedTupleGo tg it v) (λ_ Y => wpAny (model prog w) A (assign tg env v) (λ_ s3 =>
         wpAny (model prog w) A (forIn ifs true λc r=>if r=true then do let z ← isTrue c env (eval c env);pure (ForInStep.yield z) else pure (ForInStep.yield r)) (λz s4 =>
          if z=true then wpAny (model prog w) A (eval elt env) (λx O=>wpAny (model prog w) A (call (.builtin "list.append") [G,x]) (λ_ U=>∃m,m<k/\J m U) E O) E s4
          else ∃m,m<k/\J m s4) E s3) E Y) E I) E s)
    (k:Nat) (h:J k s):codeAny (model prog w) A (.compLoop (.ListComp elt [⟨tg,iter,ifs,0⟩] scope pos) 0 it G env) R s:=by
 refine codeAny_loop rfl J (λk s f=>?_) k h;show wpAny _ A ((compTurn (.ListComp elt [⟨tg,iter,ifs,0⟩] scope pos) 0 it G env).onRaise (λe=>do noteFrame e env;theTreesLotGoes e)) _ _ s;refine wpAny_noted ?_;rw[compTurn_list];refine BP (wpAny_standAt (BP (thn (a k s f _) λr I d=>?_)));cases r with
 | none=>exact BS d
 | some v =>
  refine BP (thn d λ_ Y l=>BP (thn l λ_ s3 i=>BP (thn i λz s4 b=>?_)));cases z with
  | false=>exact BS ⟨rfl,b⟩
  | true=>exact BP (BP (thn b λx O j=>BP (thn j λ_ U g=>BS (BS ⟨rfl,g⟩))))
end
def ew (k:Nat) (fr:List Nat) (g:TG) (tc:TT) (te:TE) (J:It) (σ:St) (H1:Hp) (Q:VK):Prop :=
 ∀D,H1 D=none->∃W:Nat->Nat->LV->SH,(∃m,W 0 m [] (eR k fr σ) (upd H1 D (.lst [])))/\∀i m acc σ' H',W i m acc σ' H'->H' D=some (.lst acc) ->
  (J.stop i H'/\Q (.ref D) H')∨(J.go i H'/\∃N:LV->SH,(∀acc' σ2 H2,N acc' σ2 H2->∃m',m'<m/\W (i+1) m' acc' σ2 H2)/\∀x H2,J.yld i H' x H2->g x σ' H2 λσ2 H3=>tc σ2 H3 λb H4 =>
   if b=true then te σ2 H4 λy H5=>H5 D=some (.lst acc)/\acc.length<sizeLine/\N (acc++[y]) σ2 (upd H5 D (.lst (acc++[y])))
   else H4 D=some (.lst acc)/\N acc σ2 H4)
def rE (k:Nat) (fr:List Nat) (wi:TI) (g:TG) (tc:TT) (te:TE):TE:=λσ H Q=>wi σ H λJ H1=>ew k fr g tc te J σ H1 Q
section
variable {X:Cx}{pins:AO_}{σ:St}{H:Hp}{s:Shared}{tg elt iter:Expr}{ifs:List Expr}{scope:Scope}{pos:Pos}
theorem ki {a3:LS}{fr:List Nat}{N:LS}{cl:List (Str × Addr)}{O:List Addr}{J:It}{tn:Nat -> Heap -> Prop}{POST:Value -> Addr -> Result -> Shared -> Prop}
    (hc:X.calm=true) (S:CompSc X.env.scope scope X.N a3 fr N)
    (c1:∀x c,cl.lookup x=some c->X.env.cells.lookup x=some c) (c2:∀y∈scope.names,y.2=NameKind.free->∃c,cl.lookup y.1=some c)
    (hg:∀C Y U ex,PG (cxC X scope N cl C Y U ex) tg g) (ht:∀C Y U ex,PTs (cxC X scope N cl C Y U ex) ifs tc) (he:∀C Y U ex,PE (cxC X scope N cl C Y U ex) elt te)
    (I2:Inv X pins σ H2 G) (T:Turn X.prog X.w X.K tg J O it tn) (t2:tn 0 G.heap) (B:∀b∈O,ed X pins H2 b) (q:ew a3.length fr g tc te J σ H2 Q)
    (b0:∀D C s' H' m,Inv X pins σ H' s'->ed X pins H' C->s'.heap.Ns C m->Q (.ref D) H'->POST (.ref D) C (.ok .next) s') :
    wpAny (model X.prog X.w) X.A (newList []) (λI s3=>wpAny (model X.prog X.w) X.A (newFunctionEnv scope X.env.globals cl [] X.env.qual none .none (some X.env)) (λa0 s4 =>
     codeAny (model X.prog X.w) X.A (.compStart (.ListComp elt [⟨tg,iter,ifs,0⟩] scope pos) 0 (.ref it) I { a0 with scope:=relabel scope X.env }) (POST I a0.locals) s4) E s3) E G:=by
 refine wpAny_newObj_type (wpAny_newFunctionEnv S.nocell (by intro y hy;simp at hy) (λh4 R a6=>?_) S.kind);dsimp only at R a6 ⊢;have hD:H2 G.heap.objs.size=none:=I2.hok.fresh (BR _);obtain⟨W,⟨m0,w0⟩,L⟩:=q G.heap.objs.size hD;have I3:Inv X pins σ (upd H2 G.heap.objs.size (.lst [])) { G with heap:=G.heap.push { cls:=.type "list",dict:=none,data:=.seq ([]:LW).toArray },toks:=G.toks } :=
  I2.laid (λb u q=>Cc _ q) (BR _) ⟨Cu _,[],_,.nil,Co _ rfl⟩
 generalize H:G.heap.push { cls:=.type "list",dict:=none,data:=.seq ([]:LW).toArray }=f at *;have z3:f.objs.size=G.heap.objs.size+1:=by rw[<- H,Dg]
 have a4:∀b o,G.heap.get? b=some o->f.get? b=some o:=λb o e=>by rw[<- H];exact Cc _ e
 have A:∀b o,f.get? b=some o->h4.get? b=some o:=λb o e=>a6.extBut b o (Cp (BZ e)) (Cc _ e);have V:∀b∈O,b<G.heap.objs.size:=λb a=>by
  obtain⟨o,e,_⟩:=T.obj _ _ t2 b a;exact BZ e
 have f3:∀b∈O,ed X pins (upd H2 G.heap.objs.size (.lst [])) b/\b<f.objs.size:=λb a=>by
  refine⟨⟨?_,(B b a).2⟩,by rw[z3];exact Nat.lt_succ_of_lt (V b a)⟩;rw[ag (Cp (V b a))];exact(B b a).1
 generalize s:({ G with heap:=f,toks:=G.toks }:Shared)=s3 at I3;have t:s3.heap=f:=by rw[<- s]
 have c0:({ G with heap:=f }:Shared)=s3:=s;have I4:=uG (s3:=s3) (s4:={ s3 with heap:=h4,toks:=s3.toks+([]:List (Str × Value)).length }) hc S c1 c2 I3 (by rw[t];exact f3) (by rw[t];exact A) (m:=λx=>([]:List (Str × Value)).reverse.lookup x) (by rw[t];exact R) rfl rfl;rw[t] at I4;have k:∀ {H':Hp} {s':Shared} {d:St} {pl:AO_},Inv (cxC X scope N cl f.objs.size s3 (upd H2 G.heap.objs.size (.lst [])) O) pl d H' s'->(∀p∈pl,p.1∉O)->(∀b∈O,H' b=none)->∀b∈O,ed (cxC X scope N cl f.objs.size s3 (upd H2 G.heap.objs.size (.lst [])) O) pl H' b:=λ{H' s' d pl} I' a9 hn b a=>by
  refine⟨hn b a,Cp (f3 b a).2,I'.ok.exfs b a,.inl a,λx c e=>(B b a).2.2.2.2.1 x c (c1 x c e),λp hp=>?_⟩;intro z;exact a9 p (by simpa [cxC] using hp) (z ▸ a)
 have w:∀s4:Shared, s4={ s3 with heap := h4, toks := s3.toks+([]:List (Str × Value)).length } ->
     codeAny (model X.prog X.w) X.A (.compLoop (.ListComp elt [⟨tg,iter,ifs,0⟩] scope pos) 0 (.ref it) (.ref G.heap.objs.size) (compEnvC scope cl f.objs.size X.env)) (POST (.ref G.heap.objs.size) f.objs.size) s4:=by
  rintro s4 rfl;refine uV (λn s'=>∃i I d H',Inv (cxC X scope N cl f.objs.size s3 (upd H2 G.heap.objs.size (.lst [])) O) [] d H' s'/\tn i s'.heap/\(∀b∈O,H' b=none)/\H' G.heap.objs.size=some (.lst I)/\W i n I d H') ?_ m0
   ⟨0,[],_,_,I4,T.keep _ _ _ t2 λb a o e=>A b o (a4 b o e),λb a=>(f3 b a).1.1,ae,w0⟩
  rintro n s5 ⟨i,I,l,H5,I5,t5,P,d5,w5⟩ E';rcases L i n I l H5 w5 d5 with⟨K,qn⟩ | ⟨go,NN,a5,M⟩
  ·refine thn (T.done (cxC X scope N cl f.objs.size s3 (upd H2 G.heap.objs.size (.lst [])) O) rfl rfl rfl hc i [] s5 l H5 E' I5 (k I5 (by simp) P) t5 K) λr s6 ⟨hr,F⟩=>?_;subst hr;obtain⟨m6,n6,_⟩:=id F.loc;have J6:Inv X pins σ H5 s6:=I3.call' (ch:=O) F.os F.base F.hok F.bare λb a=>⟨(B b a).2.2.2.1,(B b a).2.1,(B b a).2.2.2.2.1,(B b a).2.2.2.2.2⟩
   exact b0 _ _ s6 H5 m6 J6 (I2.fpOk (by rw[z3];exact Dh _) F.free) n6 qn
  ·refine thn (T.item (cxC X scope N cl f.objs.size s3 (upd H2 G.heap.objs.size (.lst [])) O) rfl rfl rfl hc i [] s5 l H5 E' I5 (k I5 (by simp) P) t5 go) λr s6 ⟨u,hr,h6⟩=>?_;subst hr;refine thn h6 λ_ s7 ⟨x,H7,I7,r7,y7,t7,a8⟩=>?_;have b2:=I7.pinned (k I7 (by simp) a8) (T.obj _ _ t7);have h:∀ {s':Shared} {H':Hp} {d:St},Inv (cxC X scope N cl f.objs.size s3 (upd H2 G.heap.objs.size (.lst [])) O) ([]++iL O s7.heap) d H' s'->tn (i+1) s'.heap/\∀b∈O,H' b=none:=λ{s' H' d} I'=>by
    refine⟨T.keep _ _ _ t7 λb a o e=>(I'.pin (b,o) (CN _ (CN _ (fA a e)))).1,λb a=>?_⟩;obtain⟨o,e,_⟩:=T.obj _ _ t7 b a;exact(I'.pin (b,o) (CN _ (CN _ (fA a e)))).2.1
   refine nx (hg _ _ _ _ _ s7 l H7 x u _ b2 r7 (M x H7 y7)) λ_ s8 ⟨j,H8,I8,q8⟩=>?_;refine nx (ht _ _ _ _ _ s8 j H8 _ I8 q8) λok s9 ⟨H9,I9,q9⟩=>?_;cases ok with
   | false =>
    obtain⟨d9,n9⟩:=q9;obtain⟨m',hm,w9⟩:=a5 _ _ _ n9;obtain⟨a1,a2⟩:=h I9;exact⟨m',hm,i+1,I,j,H9,I9.unpinned,a1,a2,d9,w9⟩
   | true =>
    rw[if_pos rfl];refine nx (he _ _ _ _ _ s9 j H9 _ I9 q9) λy b8 ⟨v,Z,b7,b4,b9,b5,b1⟩=>?_;obtain⟨m',hm,b3⟩:=a5 _ _ _ b1;refine nx (mr _ b8 j Z (.ref G.heap.objs.size) [v] (.ref G.heap.objs.size) [y] (λ_ H'=>H'=upd Z G.heap.objs.size (.lst (I++[v]))) b7 rfl (.cons b4 .nil) ⟨_,I,v,rfl,rfl,b9,b5,rfl⟩) λ_ c4 ⟨_,c3,a7,_,b6⟩=>?_;subst b6;obtain⟨a1,a2⟩:=h a7;exact⟨m',hm,i+1,_,j,_,a7.unpinned,a1,a2,ae,b3⟩
 exact codeAny_compStart_list (w _ (by rw[<- s])) (T.self _ 0 _ _ _ (T.keep _ _ _ t2 λb a o e=>A b o (a4 b o e)) (w _ (by rw[<- s])))
theorem iY (f:Scope) (p c:LS) (i:List Nat) (N:LS) (V:X.calm=true)
    (hi:PI X tg iter wi) (hg:∀O C G z ex,PG (cxC X scope N O C G z ex) tg g) (E:∀O C G z ex,PTs (cxC X scope N O C G z ex) ifs tc) (he:∀O C G z ex,PE (cxC X scope N O C G z ex) elt te)
    (w:∀x,foldedSetIterable iter X.env x=pure x:=by intro _;rfl) (d:autoParam (X.env.scope=f) aR9) (l:autoParam (X.N=p) aR9) (L:ig f scope p c i N=true:=by decide +kernel) :
    PE X (.ListComp elt [⟨tg,iter,ifs,0⟩] scope pos) (rE c.length i wi g tc te):=by
 intro a s n H Q I h;have S:CompSc X.env.scope scope X.N c i N:=by rw[d,l];exact CompSc.of L
 obtain⟨O,j,Z,U⟩:=pU (scope:=scope) (env:=X.env) λy u B=>I.ok.has y.1 (S.free y u B);rw[eval_ListComp];refine wpAny_comprehension_free (use:=none) rfl w j S.kind S.loc (thn (hi a s n H _ I h) λv s1 A=>thn A λr s2 h2=>?_);obtain⟨it,fp,tn,J,H2,e,t,T,F,R,q⟩:=h2;subst e;refine ki (POST:=λk C=>compPost (model X.prog X.w) X.A X.xe none (EP X a n Q) k C) V S Z U (hg O) (E O) (he O) t T F R q λD C P H' m I' K ns Y=>?_;refine⟨m,ns,λh' M=>⟨.ref D,H',?_,rfl,Y⟩⟩;obtain⟨g0,W,_,g3,g4,g5⟩:=K;exact I'.turned (t':=P.toks) (λb o hb e=>(M.2 b hb).trans e) g0 W g3 g4 g5
theorem dS (hN:X.N.Nodup) (p:X.N[i]? = some x) (F:X.env.scope.names.lookup x=some .local)
    (B:swapsWith (.ListComp elt [⟨tg,iter,ifs,0⟩] scope pos) (some (.Name x px)) Y.line X.env=pure true)
    (j:Scope) (L d:LS) (t:List Nat) (N:LS) (R:X.calm=true)
    (W:PI X tg iter wi) (Z:∀U C O G ex,PG (cxC X scope N U C O G ex) tg g) (ht:∀U C O G ex,PTs (cxC X scope N U C O G ex) ifs tc) (he:∀U C O G ex,PE (cxC X scope N U C O G ex) elt te)
    (hs:∀x,foldedSetIterable iter X.env x=pure x:=by intro _;rfl) (k:autoParam (X.env.scope=j) aR9) (E:autoParam (X.N=L) aR9) (hS:ig j scope L d t N=true:=by decide +kernel) :
    PS X (.Assign [.Name x px] (.ListComp elt [⟨tg,iter,ifs,0⟩] scope pos) Y) (sr (rE d.length t wi g tc te) (aX i)):=by
 intro c s σ H D I h;have S:CompSc X.env.scope scope X.N d t N:=by rw[k,E];exact CompSc.of hS
 obtain⟨U,u,c1,c2⟩:=pU (scope:=scope) (env:=X.env) λy hy hf=>I.ok.has y.1 (S.free y hy hf);rw[exec_Assign_Name_used _ _ _ _ B];refine BP (wpAny_standAt (BP ?_));show wpAny _ X.A (do let _ ← comprehension (.ListComp elt [⟨tg,iter,ifs,0⟩] scope pos) scope X.env _ (newList []) false (eval iter X.env) (some (assign (.Name x px) X.env))) _ _ s;refine BP (thn (wpAny_comprehension_free (use:=some (assign (.Name x px) X.env)) (Q:=λ_ f=>SP X c D .next f) rfl hs u S.kind S.loc (thn (W c s σ H _ I h) λv s1 P=>thn P λa0 s2 h2=>?_)) λ_ f hq=>BS (BS hq));obtain⟨it,fp,tn,J,H2,e,I2,T,t2,f2,q⟩:=h2;subst e;refine ki (POST:=λn C=>compPost (model X.prog X.w) X.A X.xe (some (assign (.Name x px) X.env)) (λ_ f=>SP X c D .next f) n C) R S c1 c2 (Z U) (ht U) (he U) I2 T t2 f2 q λr C f H' m I' fC ns V=>?_;show wpAny _ X.A (assign (.Name x px) X.env (.ref r)) _ _ f;refine wpAny_assign_Name (lO I' hN p (.inl F) (show RelV (.ref r) (.ref r) from rfl) (λs3 I3 A=>?_) (.inr F));obtain⟨a,A,ha⟩:=A;obtain⟨g0,M,g2,g3,K,g5⟩:=fC;have aC:C≠a:=by
  rcases ha with z | z
  ·rw[z];exact M
  ·exact λw=>K x a z w.symm
 refine⟨m,ns.sameBut A aC,λh' l=>⟨_,H',?_,V⟩⟩;exact I3.turned (t':=s3.toks) (λb o hb e=>(l.2 b hb).trans e) g0 M g3 K g5
end
def sgV (x:Str) (i:Nat):Option V:=(x.cps[i]?).map λc=>V.str ⟨#[c]⟩
def Its (x:Str):It:=⟨λi _=>i<x.cps.size,λi H v H'=>H'=H/\sgV x i=some v,λi _=>x.cps.size<=i⟩
theorem rK {P:Program}{w:World}{K:W.Frag}{tg:Expr}(T:String) (it:Addr) (x:Str) (t:Tok)
    (hn:["enumerate","zip","dict_itemiterator","dict_reverseitemiterator","odict_iterator","itertools.zip_longest","itertools.pairwise"].contains T=false)
    (W:∀A:Around,A.handled=none->Walks P w A it [it] [it] x.cps.size (SignAt x) (λi h=>h.IsStrIter it T x t i))
    (hs:∀(A:Around) (i:Nat) (s:Shared) (Q:QS) (E:QS),s.heap.IsStrIter it T x t i->Q (.ref it) s->wpAny (model P w) A (pyIter (.ref it)) Q E s) :
    Turn P w K tg (Its x) [it] it (λi h=>h.IsStrIter it T x t i/\i<=x.cps.size) where
 mem:=by simp
 obj:=λi h st b hb=>by
  have e:b=it:=by simpa using hb
  subst e;obtain⟨o,e,c,d⟩:=st.1;exact⟨o,e,λv z=>by rw[d] at z;cases z⟩
 keep:=λi h h' st k=>⟨by
  obtain⟨o,e,c⟩:=st.1;exact⟨o,k it (by simp) o e,c⟩,st.2⟩
 item:=by
  intro X hP hw hK hc i pins s σ H E I hf st hg;subst hP hw hK;obtain⟨f0,f1,f2,f3,f4,f5⟩:=hf it (by simp);refine(W X.A (I.ok.hd hc)).item i s _ _ hg st.1 λv h' tk hv st' kk=>?_;obtain⟨c,u,hcp,rfl⟩:=hv;have I1:Inv X pins σ H { s with heap:=h',toks:=tk }:=I.turned (λb o hb e=>kk b o (by simpa using hb) e) f0 f1 f3 f4 f5;obtain⟨o,e,cc,d⟩:=id st';refine⟨_,rfl,mU (s:={ s with heap:=h',toks:=tk }) e cc d hn ⟨.str ⟨#[c]⟩,H,I1,⟨u,rfl⟩,⟨rfl,?_⟩,⟨st',?_⟩,λb hb=>(hf b hb).1⟩⟩
  ·unfold sgV;rw[hcp];rfl
  ·exact hg
 done:=by
  intro X hP hw hK hc i pins s σ H E I hf st hg;subst hP hw hK;obtain⟨f0,f1,f2,f3,f4,f5⟩:=hf it (by simp);have e:i=x.cps.size:=Nat.le_antisymm st.2 hg;subst e;exact(W X.A (I.ok.hd hc)).done s _ _ st.1 λh' tk kk=>⟨rfl,I.turned (λb o hb e=>kk b o (by simpa using hb) e) f0 f1 f3 f4 f5⟩
 self:=λA i s Q E st h=>hs A i s Q E st.1 h
def iStr (tl:TE):TI:=λσ H R=>tl σ H λx H1=>∃z,x=.str z/\R (Its z) H1
theorem zR {X:Cx}{tg l:Expr}{tl:TE}(m:PE X l tl):PI X tg l (iStr tl) := by
 intro c s k H R I h;refine thn (m c s k H _ I h) λv a ⟨x,r,f,w,u⟩=>?_;obtain⟨z,e,q⟩:=u;subst e;obtain⟨t,rfl⟩:=w;have d:∀(T:String),["enumerate","zip","dict_itemiterator","dict_reverseitemiterator","odict_iterator","itertools.zip_longest","itertools.pairwise"].contains T=false ->
     (∀A:Around,A.handled=none->Walks X.prog X.w A a.heap.objs.size [a.heap.objs.size] [a.heap.objs.size] z.cps.size (SignAt z) (λi h=>h.IsStrIter a.heap.objs.size T z t i)) ->
     (∀(A:Around) (i:Nat) (s:Shared) (Q:QS) (E:QS),s.heap.IsStrIter a.heap.objs.size T z t i->Q (.ref a.heap.objs.size) s->wpAny (model X.prog X.w) A (pyIter (.ref a.heap.objs.size)) Q E s) ->
     PIE X c k tg R (.ref a.heap.objs.size) { a with heap:=a.heap.push { cls:=.type T,data:=.fields #[.str z t,.int 0 0] } }:=λT p W n=>by
  refine⟨_,[a.heap.objs.size],_,_,r,rfl,f.kept (t':=a.toks) λb o e=>Cc _ e,rK T _ z t p W n,⟨⟨_,Co _ rfl,rfl,rfl⟩,Cu _⟩,λb y=>?_,q⟩;have e:b=a.heap.objs.size:=by simpa using y
  subst e;exact f.fpOk (BR _) (f.hok.fresh (BR _))
 cases ha:z.cps.all (·<128)
 ·exact wpAny_pyIter_wide ha (d "str_iterator" (by decide) (λA g=>Walks.strWide g _ z t) λA i s Q E j h=>wpAny_pyIter_striter_wide j h)
 ·exact wpAny_pyIter_ascii ha (d "str_ascii_iterator" (by decide) (λA g=>Walks.strAscii g _ z t) λA i s Q E j h=>wpAny_pyIter_striter_ascii j h)
def Ite (K:W.Frag) (a:Addr):It :=
 ⟨λi H=>∃xs x,SqL K H a xs/\xs[i]? = some x,λi H v H'=>∃p x,H p=none/\v=.ref p/\(∀xs,SqL K H a xs->xs[i]? = some x)/\H'=upd H p (.tup [.int i,x]),λi H=>∃xs,SqL K H a xs/\xs.length<=i⟩
theorem sW {P:Program}{w:World}{K:W.Frag}{elts:List Expr}{k:Nat}{tp:Pos}(a e it:Addr) (hne:e ≠ it) :
    Turn P w K (.Tuple elts k tp) (Ite K a) [e,it] e (λi h=>(∃old,IsEnum h e it i old)/\h.IsListIter it a i) where
 mem:=by simp
 obj:=λi h st b hb=>by
  obtain⟨⟨old,he⟩,hit⟩:=st;have hb:b=e∨b=it:=by simpa using hb
  rcases hb with z | z
  ·subst z;exact⟨_,he,λv z=>by cases z⟩
  ·subst z;obtain⟨o,e1,c,d⟩:=hit;exact⟨o,e1,λv z=>by rw[d] at z;cases z⟩
 keep:=λi h h' st kk=>by
  obtain⟨⟨old,he⟩,hit⟩:=st;exact⟨⟨old,kk e (by simp) _ he⟩,hit.at λo q=>kk it (by simp) o q⟩
 item := by
  intro X hP hw hK hc i pins s σ H E I hf st hg;subst hP hw hK;obtain⟨⟨old,he⟩,hit⟩:=st;obtain⟨xs,x,hq,hx⟩:=hg;obtain⟨its,rv,p,hz⟩:=I.list hq;obtain⟨u,hu,ru⟩:=rv.get hx;obtain⟨f0,f1,f2,f3,f4,f5⟩:=hf e (by simp);obtain⟨g0,g1,g2,g3,g4,g5⟩:=hf it (by simp);refine wpAny_pyNext_enum_item he hit p.isList (x:=u) (by simpa using hu) hne λh1 ho hit1 ht1 hz1 k1=>?_;have hel:e<s.heap.objs.size:=BZ he;have hil:it<s.heap.objs.size:=by obtain⟨o,q,_⟩:=hit;exact BZ q
  refine⟨_,rfl,wpAny_letOwnedTupleGo_enum ho λh2 he2 sb2=>?_⟩;have sb2:Heap.SameBut e h1 h2:=sb2;have T2:h2.get? s.heap.objs.size=some { cls:=.type "tuple",data:=.seq #[.int i s.toks,u] }:=(sb2.2 _ (Dr hel)).trans ht1;have hp:H s.heap.objs.size=none:=I.hok.fresh (BR _);have nit:∀b v,H b=some v->b≠e/\b≠it:=λb v q=>⟨λz=>(by rw[z,f0] at q;cases q),λz=>(by rw[z,g0] at q;cases q)⟩
  have kk:∀b o,b≠e->b≠it->s.heap.get? b=some o->h2.get? b=some o:=λb o n1 n2 q=>(sb2.2 b n1).trans (k1 b o n1 n2 q);have up:∀b v,H b=some v->upd H s.heap.objs.size (.tup [.int i,x]) b=some v:=λb v q=>by rw[ag (ai q hp)];exact q
  have I1:Inv X pins σ (upd H s.heap.objs.size (.tup [.int i, x])) { s with heap := h2, gens := s.gens, drawn := s.drawn, toks := s.toks+1 } := by
   refine I.step (g':=s.gens) (d':=s.drawn) (ch:=[e,it]) (λb hb=>?_) (λb o _ _ hb q _=>kk b o (λz=>hb (by simp[z])) (λz=>hb (by simp[z])) q) (λb o _ _ hb q _=>⟨o.slots,kk b o (λz=>hb (by simp[z])) (λz=>hb (by simp[z])) q⟩) (λb o _ q n=>?_)
    (λb o hb q=>⟨o,kk b o (λz=>hb (by simp[z])) (λz=>hb (by simp[z])) q⟩) (λb ys q=>up b _ q) (λb o v q=>up b _ q) (λb ps q=>⟨#[],by rw[up b _ q];simp⟩) (λm hm=>?_) (λb v q=>?_) I.bare
   ·have hb:b=e∨b=it:=by simpa using hb
    rcases hb with z | z
    ·subst z;exact⟨f3,f1,f4,f5⟩
    ·subst z;exact⟨g3,g1,g4,g5⟩
   ·rw[ag (Cp (BZ q))];exact n
   ·obtain⟨o,es,ep,ho,r⟩:=hm;exact⟨o,es,ep,kk _ o (Ne.symm f1) (Ne.symm g1) ho,r⟩
   ·by_cases hb:b=s.heap.objs.size
    ·subst hb;rw[ae] at q;have q':HO.tup [V.int i,x]=v:=BV q;subst q';exact⟨by show 2<=sizeLine;decide,[.int i s.toks,u],.cons ⟨_,rfl⟩ (.cons ru .nil),⟨_,T2,rfl,_,rfl,rfl⟩⟩
    ·rw[ag hb] at q;refine(I.hok b v q).stay (λc v' hc q'=>?_) (λc q=>up c _ q) λc ys q=>up c _ q;rcases hc with z | z
     ·rw[z] at q' ⊢;exact kk b v' (nit b v q).1 (nit b v q).2 q'
     ·exact kk c v' (nit c _ z).1 (nit c _ z).2 q'
  refine⟨.ref s.heap.objs.size,upd H s.heap.objs.size (.tup [.int i,x]),I1,rfl,⟨_,x,hp,rfl,λys hy=>by rw[I.list_inj hy hq];exact hx,rfl⟩,⟨⟨u,?_⟩,?_⟩,λb hb=>?_⟩
  ·exact(by simpa using he2)
  ·exact hit1.at λo q=>(sb2.2 it (Ne.symm hne)).trans q
  ·have hb:b=e∨b=it:=by simpa using hb
   rcases hb with z | z
   ·rw[z,ag (Cp hel)];exact f0
   ·rw[z,ag (Cp hil)];exact g0
 done:=by
  intro X hP hw hK hc i pins s σ H E I hf st hg;subst hP hw hK;obtain⟨⟨old,he⟩,hit⟩:=st;obtain⟨xs,hq,hx⟩:=hg;obtain⟨its,rv,p,hz⟩:=I.list hq;obtain⟨g0,g1,g2,g3,g4,g5⟩:=hf it (by simp);have hl:=rv.length;exact wpAny_pyNext_enum_end (I.ok.hd hc) he hit p.isList (by simp;omega) λh' eb=>⟨rfl,I.turned (t':=s.toks) (λb o hb q=>eb b o hb q) g0 g1 g3 g4 g5⟩
 self:=λ_ _ _ _ _ st h=>by
  obtain⟨⟨old,he⟩,_⟩:=st;exact wpAny_pyIter_enum he h
mutual
inductive Rep (H:Hp):V->PyData->Prop
 | non:Rep H .non .none
 | bl (b:Bool):Rep H (.bl b) (.bool b)
 | int (i:Int):Rep H (.int i) (.int i)
 | str (x:Str):Rep H (.str x) (.str x)
 | lst {a:Addr} {xs:LV} {ds:List PyData}:H a=some (.lst xs)->RepAll H xs ds->Rep H (.ref a) (.list ds)
 | tup {a:Addr} {xs:LV} {ds:List PyData}:H a=some (.tup xs)->RepAll H xs ds->Rep H (.ref a) (.tuple ds)
inductive RepAll (H:Hp):LV->List PyData->Prop
 | nil:RepAll H [] []
 | cons {x:V} {xs:LV} {d:PyData} {ds:List PyData}:Rep H x d->RepAll H xs ds->RepAll H (x::xs) (d::ds)
end
mutual
theorem Rep.reads (ok:HOk P w H h):∀ {v:V}{d:PyData}{u:Value},Rep H v d->RelV v u->∃as,Reads h u d as
 | _,_,_,.non,r=>by cases r;exact⟨_,.none⟩
 | _,_,_,.bl b,r=>by cases r;exact⟨_,.bool b⟩
 | _,_,_,.int i,r=>by obtain⟨t,rfl⟩:=r;exact⟨_,.int i t⟩
 | _,_,_,.str x,r=>by obtain⟨t,rfl⟩:=r;exact⟨_,.str x t⟩
 | _,_,_,.lst (a:=a) (xs:=xs) e rs,r=>by
  cases r;obtain⟨_,its,n,rv,eh⟩:=(show ObjOk P w H h a (.lst xs) from ok a _ e)
  obtain⟨as,z⟩:=RepAll.reads ok rs rv;exact⟨_,.list eh rfl rfl (by simpa using z)⟩
 | _,_,_,.tup (a:=a) (xs:=xs) e rs,r=>by
  cases r;obtain⟨_,its,rv,o,eh,hc,n,hd,_⟩:=(show ObjOk P w H h a (.tup xs) from ok a _ e)
  obtain⟨as,z⟩:=RepAll.reads ok rs rv;exact⟨_,.tuple eh hc hd (by simpa using z)⟩
theorem RepAll.reads (ok:HOk P w H h):∀ {vs:LV}{ds:List PyData}{us:LW}, RepAll H vs ds -> Vals vs us -> ∃as, ReadsAll h us ds as
 | _,_,_,.nil,r=>by cases r;exact⟨_,.nil⟩
 | _,_,_,.cons q qs,r=>by
  cases r with
  | cons r1 r2 =>
   obtain⟨as,z⟩:=Rep.reads ok q r1;obtain⟨bs,zs⟩:=RepAll.reads ok qs r2;exact⟨_,.cons z zs⟩
end
mutual
theorem Rep.same (s:Same H H'):∀ {v:V}{d:PyData},Rep H v d->Rep H' v d
 | _,_,.non=>.non
 | _,_,.bl b=>.bl b
 | _,_,.int i=>.int i
 | _,_,.str x=>.str x
 | _,_,.lst e rs=>.lst (s _ _ e) (rs.same s)
 | _,_,.tup e rs=>.tup (s _ _ e) (rs.same s)
theorem RepAll.same (s:Same H H'):∀ {vs:LV}{ds:List PyData},RepAll H vs ds->RepAll H' vs ds
 | _,_,.nil=>.nil
 | _,_,.cons q qs=>.cons (q.same s) (qs.same s)
end
section
variable {X:Cx}
def shp (d:PyData):Prop:=SeqAt.shaped d=true
def rEqD:R2:=λx y H Q=>∃da db,Rep H x da/\Rep H y db/\shp da/\shp db/\Q (.bl (PyData.eqv da db)) H
def rNeD:R2:=λx y H Q=>∃da db,Rep H x da/\Rep H y db/\shp da/\shp db/\Q (.bl (!PyData.eqv da db)) H
theorem Ap (d:X.A.units+64<cLine):OpR X (compareOp .Eq) rEqD:=by
 intro a s m H x y v u Q I e k h;obtain⟨n,l,g,i,b,c,q⟩:=h;obtain⟨o,j⟩:=g.reads I.hok e;obtain⟨p,f⟩:=i.reads I.hok k;exact eq_dataH j f b c d ⟨.bl _,H,I,rfl,q⟩
theorem Ag (d:X.A.units+64<cLine):OpR X (compareOp .NotEq) rNeD:=by
 intro a s m H x y v u Q I e k h;obtain⟨n,l,g,i,b,c,q⟩:=h;obtain⟨o,j⟩:=g.reads I.hok e;obtain⟨p,f⟩:=i.reads I.hok k;exact ne_dataH j f b c d ⟨.bl _,H,I,rfl,q⟩
theorem vx:OpR X (compareOp .LtE) (λx y H Q=>∃i j,x=.str i/\y=.str j/\Q (.bl (!decide (j.cps.toList<i.cps.toList))) H):=by
 intro a s d H x y v u Q I c b h;obtain⟨i,j,rfl,rfl,q⟩:=h;obtain⟨t,rfl⟩:=c;obtain⟨e,rfl⟩:=b;exact PySem.P.le_str (aR I q (by simp))
theorem uB (c:List Bool):((List.range c.length).all λi=>c.getD i false)=c.all id:=by
 rw[CQ,Dn,Dn]
 constructor
 ·intro h b d;obtain⟨i,a,rfl⟩:=List.mem_iff_getElem.mp d;have:=h i (by simpa using a);simpa [CA,a] using this
 ·intro h i a;have a:i<c.length:=by simpa using a
  have:=h c[i] (DS a);simpa [CA,a] using this
theorem zf {bs:List Bool}{z:LW}(r:Vals (bs.map V.bl) z) {i:Nat}(e:z[i]? = some v):v=.bool (bs.getD i false):=by
 have b:=r.length;rw[BQ] at b;have c:i<bs.length:=by rw[b];exact(BU.mp e).1
 obtain⟨u,a,d⟩:=r.get (i:=i) (x:=V.bl (bs.getD i false)) (by rw[Ce];simp[CA,c]);rw[e] at a;cases a;exact d
theorem pF (x:X.calm=true):dI X (.builtin "all") (λxs H Q=>∃p bs,xs=[.ref p]/\H p=some (.lst (List.map V.bl bs))/\Q (.bl (bs.all id)) H):=by
 intro m s E H xs D Q I r h;obtain⟨p,bs,rfl,e,q⟩:=h;obtain⟨u,rfl,y⟩:=cZ r;cases y;obtain⟨z,a,n,l,d⟩:=(show ObjOk X.prog X.w H s.heap p (.lst (List.map V.bl bs)) from I.hok p _ e)
 have t:s.heap.IsList p a.toArray:=⟨_,d,rfl,n,rfl⟩
 have c:a.length=bs.length:=by have:=l.length;rw[BQ] at this;exact this.symm
 have j:p<s.heap.objs.size:=BZ d;refine call_all_walk (wpAny_pyIter_list t ?_);refine⟨s.heap.objs.size,[s.heap.objs.size,p],[s.heap.objs.size],a.toArray.size,_,_,λi=>bs.getD i false,rfl,
  Walks.list (A:=X.A.in1) (I.ok.hd x) _ p (Cp j) a.toArray,⟨⟨_,Co _ rfl,rfl,rfl⟩,⟨_,Cc _ d,rfl,n,rfl⟩⟩,?_,λC F w=>?_⟩
 ·intro i v B G J f g;have f:a[i]? = some v:=by simpa using f
  rw[zf l f];exact BS g
 ·refine⟨.bl _,H,I.kept λb o k=>w b o (by simpa using Cp (BZ k)) (Cc _ k),rfl,?_⟩;rw[Cq,c,uB];exact q
theorem qR:∀ {ys:LS}{us:LW}, Vals (ys.map V.str) us -> StrsAre us ys
 | [],us,r=>by cases r;exact .nil
 | y::ys,us,r=>by
  cases r with
  | cons r1 r2 =>
   obtain⟨t,rfl⟩:=r1;exact .cons y t (qR r2)
def xR:V->LV->Hp->VK->Prop:=λx xs H Q=>∃z p ys,x=.str z/\xs=[.ref p]/\H p=some (.lst (List.map V.str ys))/\(ys.map (·.length)).sum+ys.length * z.length<=16777216/\Q (.str (Txt.join z ys)) H
theorem yM:MtR X "str.join" xR:=by
 intro c s r H x m v o Q I g a h;obtain⟨z,p,l,rfl,rfl,e,f,q⟩:=h;obtain⟨t,rfl⟩:=g;obtain⟨u,rfl,i⟩:=cZ a;cases i;obtain⟨_,b,n,a,j⟩:=(show ObjOk X.prog X.w H s.heap p (.lst (List.map V.str l)) from I.hok p _ e)
 exact join_list (D:=p) (items:=b.toArray) ⟨_,j,rfl,n,rfl⟩ (by simpa using qR a) f λd k=>⟨.str _,H,I.tok k,⟨d,rfl⟩,q⟩
def rSlS:V->Option Int->Option Int->Hp->VK->Prop:=λx lo hi H Q=>∃z,x=.str z/\z.length<=sizeLine/\Q (.str (Txt.slice z lo hi)) H
theorem AF:SlR X rSlS:=by
 intro b s y H x v B C r A D Q I w p n m h;obtain⟨z,rfl,e,q⟩:=h;obtain⟨t,rfl⟩:=w;refine⟨"str",_,PySem.F.slot_str_getitem.lookup,typeIs_str _ _ _,?_⟩;obtain⟨o,d,f,c⟩:=p;have a:∀g k,EP X b y Q (.str (Txt.slice z r A) g) { s with toks:=k }:=λg k=>⟨.str _,H,I.tok k,⟨g,rfl⟩,q⟩
 cases n with
 | none=>cases m with
  | none=>exact wpAny_getItem_str_slice (l:=none) (u:=none) (st:=none) ⟨o,d,f,c⟩ rfl (post_val_or_str ⟨Cn (Txt.slice_le z _ _) e,a⟩)
  | int j tj=>exact wpAny_getItem_str_slice (l:=none) (u:=some (j,tj)) (st:=none) ⟨o,d,f,c⟩ rfl (post_val_or_str ⟨Cn (Txt.slice_le z _ _) e,a⟩)
 | int i ti=>cases m with
  | none=>exact wpAny_getItem_str_slice (l:=some (i,ti)) (u:=none) (st:=none) ⟨o,d,f,c⟩ rfl (post_val_or_str ⟨Cn (Txt.slice_le z _ _) e,a⟩)
  | int j tj=>exact wpAny_getItem_str_slice (l:=some (i,ti)) (u:=some (j,tj)) (st:=none) ⟨o,d,f,c⟩ rfl (post_val_or_str ⟨Cn (Txt.slice_le z _ _) e,a⟩)
def Aa (K:W.Frag) (c:String):LV->Hp->VK->Prop:=λxs H Q=>∃x t b,xs=[x,.ty c]/\TyOf K H x t/\W.kitOne K t (.type c)=some b/\Q (.bl b) H
theorem wf (c:String):dI X (.builtin "isinstance") (Aa X.K c):=by
 intro d s m H j k Q I r h;obtain⟨x,t,b,rfl,f,e,q⟩:=h;obtain⟨u,l,rfl,g,a⟩:=eY r;cases a;exact uC I g f e λi=>⟨.bl b,H,I.tok i,rfl,q⟩
theorem fv (ok:HOk P w H h):∀ {xs:LV}{ds:List PyData}{us:LW}, RepAll H xs ds -> Vals xs us -> PyData.canLayAll0 ds=true -> us.any (λu => PyData.eqv (SeqAt.readOf h u) d)=ds.any λe => PyData.eqv e d
 | _,_,_,.nil,r,_=>by cases r;rfl
 | _,_,_,.cons q qs,r,hl=>by
  cases r with
  | cons r1 r2 =>
   have hl':=Bool.and_eq_true_iff.mp (show (PyData.canLay0 _&&PyData.canLayAll0 _)=true from hl);obtain⟨as,z⟩:=q.reads ok r1;rw[DF,DF,SeqAt.readOf_eq hl'.1 z,fv ok qs r2 hl'.2]
theorem fu {P:Program}{w:World}{H:Hp}{A:Around}{s:Shared}(ok:HOk P w H s.heap) {d:PyData}{x:V}{v:Value}{bs:List Addr}(zx:Reads s.heap v d bs) (hd:d.canLay0=true) (hu:A.units+d.depth<cLine) :
    ∀ {xs:LV} {ds:List PyData} {us:LW},RepAll H xs ds->Vals xs us->PyData.canLayAll0 ds=true->∀u∈us,SeqAt.EqAt A s u v (PyData.eqv (SeqAt.readOf s.heap u) d)
 | _,_,_,.nil,r,_=>by cases r;intro u hu;cases hu
 | _, _, _, .cons q qs, r, hl => by
  cases r with
  | cons r1 r2 =>
   have hl':=Bool.and_eq_true_iff.mp (show (PyData.canLay0 _&&PyData.canLayAll0 _)=true from hl);intro u hm;rcases Cm.mp hm with rfl | hm
   ·obtain⟨as,z⟩:=q.reads ok r1;rw[SeqAt.readOf_eq hl'.1 z];exact SeqAt.eqAt_reads _ _ _ _ _ _ _ _ z zx hl'.1 hd (Nat.lt_of_le_of_lt (Nat.add_le_add_left (Nat.min_le_right _ _) _) hu)
   ·exact fu (x:=x) ok zx hd hu qs r2 hl'.2 u hm
def Aq (neg:Bool):R2:=λx y H Q=>∃p xs ds d,y=.ref p/\H p=some (.lst xs)/\RepAll H xs ds/\Rep H x d/\PyData.canLayAll0 ds=true/\d.canLay0=true/\d.depth<=16 /\
 Q (.bl (if neg then !(ds.any λe=>PyData.eqv e d) else ds.any λe=>PyData.eqv e d)) H
theorem AH (z:X.A.units+64<cLine):OpR X (compareOp .In) (Aq false):=by
 intro f s A H x y v u Q I l t h;obtain⟨p,m,B,d,rfl,e,g,r,i,c,dp,q⟩:=h;cases t;obtain⟨_,a,n,b,o⟩:=(show ObjOk X.prog X.w H s.heap p (.lst m) from I.hok p _ e)
 obtain⟨C,k⟩:=r.reads I.hok l;refine SeqAt.in_listAt (λu=>PyData.eqv (SeqAt.readOf s.heap u) d) ⟨_,o,rfl,n,rfl⟩ (λw j=>fu (x:=x) I.hok k c (by show X.A.units+1+d.depth<cLine;omega) g b i w (by simpa using j)) ⟨.bl _,H,I,rfl,?_⟩;rw[show a.toArray.any (λu=>PyData.eqv (SeqAt.readOf s.heap u) d)=a.any (λu=>PyData.eqv (SeqAt.readOf s.heap u) d) by simp,fv I.hok g b i];exact q
theorem vt (z:X.A.units+64<cLine):OpR X (compareOp .NotIn) (Aq true):=by
 intro f s A H x y v u Q I l t h;obtain⟨p,m,B,d,rfl,e,g,r,i,c,dp,q⟩:=h;cases t;obtain⟨_,a,n,b,o⟩:=(show ObjOk X.prog X.w H s.heap p (.lst m) from I.hok p _ e)
 obtain⟨C,k⟩:=r.reads I.hok l;refine SeqAt.notIn_listAt (λu=>PyData.eqv (SeqAt.readOf s.heap u) d) ⟨_,o,rfl,n,rfl⟩ (λw j=>fu (x:=x) I.hok k c (by show X.A.units+1+d.depth<cLine;omega) g b i w (by simpa using j)) ⟨.bl _,H,I,rfl,?_⟩;rw[show a.toArray.any (λu=>PyData.eqv (SeqAt.readOf s.heap u) d)=a.any (λu=>PyData.eqv (SeqAt.readOf s.heap u) d) by simp,fv I.hok g b i];exact q
end
structure Cal (P:Program) (w:World) (K:W.Frag) (mg:MS) (base:Heap) (k:Nat) (x:Str) (ps:LS) (sp:Sp):Prop where
 ex:∃(f:Addr) (fd:FuncData),FnOk P w K mg base CX0 k f fd ps sp/\mg x=some (.ref f)/\W.keepIn K (.ref f)=true/\Binds K fd ps []
section
variable {X:Cx}{x:Str}{ps:LS}{sp:Sp}{k j:Nat}{p pos:Pos}{e:Expr}{es:List Expr}{t:TA}
theorem oQ (c:Cal X.prog X.w X.K X.mg X.base k x ps sp) (j:Room k X.A) (g:Gl X x) (d:PA X (e::es) t)
    (h:autoParam (starEach (e::es) X.env=(false,eval e X.env)::starEach es X.env) aR9) (hpl:autoParam ((backTo pos (starEach es X.env)).any (·.1)=false) aR9) (hdb:autoParam ((x==("__debug__":Str))=false) aD9) :
    PE X (.Call (.Name x p) (e::es) [] pos) (mZ sp [] E0 t):=by
 obtain⟨f,l,G,a,i,b⟩:=c.ex;exact qo G j g a i b .nil xN d (hdb:=hdb) (he:=h) (hpl:=hpl)
end
section
variable {X:Cx}
inductive AddR (H:Hp):V->V->VK->Prop
 | int {i j:Int} {Q:VK}:Q (.int (i+j)) H->AddR H (.int i) (.int j) Q
 | str {i j:Str} {Q:VK}:i.length+j.length<=sizeLine->Q (.str (i++j)) H->AddR H (.str i) (.str j) Q
 | lst {l b:Addr} {xs zs:LV} {Q:VK}:H l=some (.lst xs)->H b=some (.lst zs)->xs.length+zs.length<=sizeLine->(∀p,H p=none->Q (.ref p) (upd H p (.lst (xs++zs))))->AddR H (.ref l) (.ref b) Q
theorem aM:OpR X (binaryOp .Add) (λx y H Q=>AddR H x y Q):=by
 intro a s c H x y v u Q I d b h;cases h with
 | int q=>exact zI a s c H _ _ v u Q I d b ⟨_,_,rfl,rfl,q⟩
 | str hz q=>exact sg a s c H _ _ v u Q I d b ⟨_,_,rfl,rfl,hz,q⟩
 | lst h1 h2 hz q=>exact zW a s c H _ _ v u Q I d b ⟨_,_,_,_,rfl,rfl,h1,h2,hz,q⟩
inductive EqR (neg:Bool) (H:Hp):V->V->VK->Prop
 | sc {x y:V} {Q:VK}:wH x y=true->Q (.bl (if neg then !decide (x=y) else decide (x=y))) H->EqR neg H x y Q
 | tr {x y:V} {da db:PyData} {Q:VK}:Rep H x da->Rep H y db->shp da->shp db->Q (.bl (if neg then !PyData.eqv da db else PyData.eqv da db)) H->EqR neg H x y Q
theorem br (e:X.A.units+64<cLine):OpR X (compareOp .Eq) (λx y H Q=>EqR false H x y Q):=by
 intro a s c H x y v u Q I d b h;cases h with
 | sc h q=>exact Bl a s c H _ _ v u Q I d b ⟨h,q⟩
 | tr ra rb sa sb q=>exact Ap e a s c H _ _ v u Q I d b ⟨_,_,ra,rb,sa,sb,q⟩
theorem cF (e:X.A.units+64<cLine):OpR X (compareOp .NotEq) (λx y H Q=>EqR true H x y Q):=by
 intro a s c H x y v u Q I d b h;cases h with
 | sc h q=>exact Bs a s c H _ _ v u Q I d b ⟨h,q⟩
 | tr ra rb sa sb q=>exact Ag e a s c H _ _ v u Q I d b ⟨_,_,ra,rb,sa,sb,q⟩
inductive SlX (K:W.Frag) (H:Hp):V->Option Int->Option Int->VK->Prop
 | str {z:Str} {lo hi:Option Int} {Q:VK}:z.length<=sizeLine->Q (.str (Txt.slice z lo hi)) H->SlX K H (.str z) lo hi Q
 | lst {a:Addr} {xs:LV} {lo hi:Option Int} {Q:VK}:SqL K H a xs->(∀p,H p=none->Q (.ref p) (upd H p (.lst (cM xs lo hi))))->SlX K H (.ref a) lo hi Q
theorem sl_X:SlR X (λx lo hi H Q=>SlX X.K H x lo hi Q):=by
 intro a s b H x v d i lo hi j Q I g f c e h;cases h with
 | str hz q=>exact AF a s b H _ v d i lo hi j Q I g f c e ⟨_,rfl,hz,q⟩
 | lst h1 q=>exact yO a s b H _ v d i lo hi j Q I g f c e ⟨_,_,rfl,h1,q⟩
end
section
variable {X:Cx}
inductive CmR (f:Int->Int->Bool) (g:Str->Str->Bool) (H:Hp):V->V->VK->Prop
 | int {i j:Int} {Q:VK}:Q (.bl (f i j)) H->CmR f g H (.int i) (.int j) Q
 | str {i j:Str} {Q:VK}:Q (.bl (g i j)) H->CmR f g H (.str i) (.str j) Q
theorem ur:OpR X (compareOp .LtE) (λx y H Q=>CmR (λi j=>decide (i<=j)) (λi j=>!decide (j.cps.toList<i.cps.toList)) H x y Q):=by
 intro a s c H x y v u Q I d b h;cases h with
 | int q=>exact Bw a s c H _ _ v u Q I d b ⟨_,_,rfl,rfl,q⟩
 | str q=>exact vx a s c H _ _ v u Q I d b ⟨_,_,rfl,rfl,q⟩
theorem ff:OpR X (compareOp .Lt) (λx y H Q=>CmR (λi j=>decide (i<j)) (λi j=>decide (i.cps.toList<j.cps.toList)) H x y Q):=by
 intro a s c H x y v u Q I d b h;cases h with
 | int q=>exact BL a s c H _ _ v u Q I d b ⟨_,_,rfl,rfl,q⟩
 | str q=>exact uU a s c H _ _ v u Q I d b ⟨_,_,rfl,rfl,q⟩
inductive IsB (neg:Bool) (H:Hp):V->V->VK->Prop
 | int {i:Int} {b:Bool} {Q:VK}:Q (.bl neg) H->IsB neg H (.int i) (.bl b) Q
 | bl {c b:Bool} {Q:VK}:Q (.bl (if neg then !decide (c=b) else decide (c=b))) H->IsB neg H (.bl c) (.bl b) Q
 | non {x:V} {Q:VK}:Q (.bl (if neg then !decide (x=.non) else decide (x=.non))) H->IsB neg H x .non Q
theorem gi:OpR X (compareOp .IsNot) (λx y H Q=>IsB true H x y Q):=by
 intro a s f H x y v u Q I e d h;cases h with
 | int q =>
  obtain⟨t,rfl⟩:=e;cases d;exact wpAny_isNot_other (by rfl) (by intro z;cases z) ⟨.bl _,H,I,rfl,q⟩
 | @bl c b _ q =>
  cases e;cases d;exact wpAny_isNot_plain (by rfl) (aR I q (by cases c <;> cases b <;> rfl))
 | non q=>exact zi a s f H _ _ v u Q I e d ⟨rfl,q⟩
theorem iC:OpR X (compareOp .Is) (λx y H Q=>IsB false H x y Q):=by
 intro a s f H x y v u Q I e d h;cases h with
 | int q =>
  obtain⟨t,rfl⟩:=e;cases d;exact wpAny_is_other (by rfl) (by intro z;cases z) ⟨.bl _,H,I,rfl,q⟩
 | @bl c b _ q =>
  cases e;cases d;exact wpAny_is_plain (by rfl) (aR I q (by cases c <;> cases b <;> rfl))
 | non q=>exact AV a s f H _ _ v u Q I e d ⟨rfl,q⟩
theorem AG (K:W.Frag) (f:PE X o to) (g:PA X [e] t)
    (c:autoParam (attributeBase o "join" X.env (eval o X.env)=eval o X.env) aR9)
    (d:autoParam (((backTo cpos (starEach [e] X.env)).all (λx=>!x.1)&&(backToKw cpos (keywordEach [] X.env)).all (λx=>x.1.isSome)
     && decide ([e].length+([]:List Keyword).length+(if ([]:List Keyword).isEmpty then 0 else 1)<30))=true) aR9)
    (b:autoParam ((apos.endLine==cpos.line)=true) aR9) (h:autoParam (starEach [e] X.env=(false,eval e X.env)::starEach [] X.env) aR9) (a:autoParam ((backTo cpos (starEach [] X.env)).any (·.1)=false) aR9) (i:autoParam (X.K=K) aR9) :
    PE X (.Call (.Attribute o "join" apos) [e] [] cpos) (tBM K "str" xR to t):=i ▸ kf PySem.F.plainAttrs_str PySem.F.slot_str_join PySem.F.type_str_join yM f g c d b h a
theorem cz (K:W.Frag) (f:PE X o to) (g:PA X [e] t)
    (c:autoParam (attributeBase o "append" X.env (eval o X.env)=eval o X.env) aR9)
    (d:autoParam (((backTo cpos (starEach [e] X.env)).all (λx=>!x.1)&&(backToKw cpos (keywordEach [] X.env)).all (λx=>x.1.isSome)
     && decide ([e].length+([]:List Keyword).length+(if ([]:List Keyword).isEmpty then 0 else 1)<30))=true) aR9)
    (b:autoParam ((apos.endLine==cpos.line)=true) aR9) (h:autoParam (starEach [e] X.env=(false,eval e X.env)::starEach [] X.env) aR9) (a:autoParam ((backTo cpos (starEach [] X.env)).any (·.1)=false) aR9) (i:autoParam (X.K=K) aR9) :
    PE X (.Call (.Attribute o "append" apos) [e] [] cpos) (tBM K "list" qJ to t):=i ▸ kf PySem.F.plainAttrs_list PySem.F.slot_list_append PySem.F.type_list_append mr f g c d b h a
theorem iD (K:W.Frag) (a:autoParam (X.K=K) aR9):SlR X (λx lo hi H Q=>SlX K H x lo hi Q):=a ▸ sl_X
theorem be (K:W.Frag) (a:PE X l tl) (b:autoParam (X.K=K) aR9):PI X tg l (xV K tl):=b ▸ yN a
theorem bf (K:W.Frag) (a:PE X l tl) (b:autoParam (X.K=K) aR9):PI X tg l (AQ K tl):=b ▸ zQ a
end
theorem ip {i:Nat}{A B:SH}(h:A (σ.set i (some v)) H):aX i v σ H λσ2 G=>sO σ2 G λb z=>if b=true then A σ2 z else B σ2 z:=by
 show (if true=true then A (σ.set i (some v)) H else B (σ.set i (some v)) H);rw[if_pos rfl];exact h
section
variable {K:W.Frag}{k:Nat}{fr:List Nat}{g:TG}{tc:TT}{te:TE}{σ:St}{H1:Hp}{Q:VK}
theorem fB (xs:LV) (f:Hp -> Prop) (j:∀i H, f H -> i<xs.length -> J.go i H) (q:∀i H x H', f H -> i<xs.length -> J.yld i H x H' -> H'=H /\ xs[i]? = some x) (r:∀H, f H -> J.stop xs.length H)
    (c:Addr->Nat->LV->SH)
    (h:∀D,H1 D=none->c D 0 [] (eR k fr σ) (upd H1 D (.lst []))/\(∀i z σ' H',i<=xs.length->c D i z σ' H'->H' D=some (.lst z)->f H') /\
     (∀i z σ' H' x,xs[i]? = some x->c D i z σ' H'->H' D=some (.lst z)->g x σ' H' λσ2 O=>tc σ2 O λb G =>
      if b=true then te σ2 G λy I=>I D=some (.lst z)/\z.length<sizeLine/\c D (i+1) (z++[y]) σ2 (upd I D (.lst (z++[y]))) else G D=some (.lst z)/\c D (i+1) z σ2 G) /\
     ∀z σ' H',c D xs.length z σ' H'->H' D=some (.lst z)->Q (.ref D) H'):ew k fr g tc te J σ H1 Q:=by
 intro D A;obtain⟨t,o,u,w⟩:=h D A;refine⟨λi m z σ' H'=>m=xs.length-i/\i<=xs.length/\c D i z σ' H',⟨xs.length,by simp,Cu _,t⟩,?_⟩;rintro i m z σ' H' ⟨rfl,B,p⟩ a;have l:=o i z σ' H' B p a;by_cases d:i<xs.length
 ·refine .inr ⟨j i H' l d,c D (i+1),λs σ2 n C=>⟨xs.length-(i+1),by omega,rfl,d,C⟩,λx n y=>?_⟩;obtain⟨e,v⟩:=q i H' x n l d y;subst e;exact u i z σ' n x v p a
 ·have e:i=xs.length:=by omega
  subst e;exact .inl ⟨r H' l,w z σ' H' p a⟩
def eQ (n:Nat):LV:=(List.range n).map λi=>V.int (0+(i:Nat))
theorem hW (f:Addr -> Nat -> LV -> St -> Hp -> Prop)
    (h:∀D,H1 D=none->f D 0 [] (eR k fr σ) (upd H1 D (.lst [])) /\
     (∀i z σ' H',i<n->f D i z σ' H'->H' D=some (.lst z)->g (.int (0+(i:Nat))) σ' H' λσ2 J=>tc σ2 J λb G =>
      if b=true then te σ2 G λy I=>I D=some (.lst z)/\z.length<sizeLine/\f D (i+1) (z++[y]) σ2 (upd I D (.lst (z++[y]))) else G D=some (.lst z)/\f D (i+1) z σ2 G) /\
     ∀z σ' H',f D n z σ' H'->H' D=some (.lst z)->Q (.ref D) H'):ew k fr g tc te (Itr 0 n) σ H1 Q:=by
 have l:(eQ n).length=n:=by simp[eQ]
 refine fB (eQ n) (λ_=>True) (λi H _ d=>by rw[l] at d;exact d) (λi H x H' _ d y=>⟨y.1,?_⟩) (λH _=>by show n<=(eQ n).length;rw[l];exact BR _) f λD o=>?_
 ·rw[l] at d;rw[y.2];simp[eQ,d]
 ·obtain⟨a,b,c⟩:=h D o;refine⟨a,λ_ _ _ _ _ _ _=>trivial,λi z σ' H' x m p j=>?_,by rw[l];exact c⟩;have d:i<n:=by rw[<- l];exact(BU.mp m).1
  have e:x=V.int (0+(i:Nat)):=by
   simp[eQ,d] at m;rw[<- m];simp
  subst e;exact b i z σ' H' d p j
theorem bU (xs:LV) (c:Addr -> Nat -> LV -> St -> Hp -> Prop)
    (h:∀D,H1 D=none->c D 0 [] (eR k fr σ) (upd H1 D (.lst []))/\(∀i z σ' H',i<=xs.length->c D i z σ' H'->H' D=some (.lst z)->SqL K H' a xs) /\
     (∀i z σ' H' x,xs[i]? = some x->c D i z σ' H'->H' D=some (.lst z)->g x σ' H' λσ2 J=>tc σ2 J λb G =>
      if b=true then te σ2 G λy I=>I D=some (.lst z)/\z.length<sizeLine/\c D (i+1) (z++[y]) σ2 (upd I D (.lst (z++[y]))) else G D=some (.lst z)/\c D (i+1) z σ2 G) /\
     ∀z σ' H',c D xs.length z σ' H'->H' D=some (.lst z)->Q (.ref D) H'):ew k fr g tc te (Itl K a) σ H1 Q :=
 fB xs (λH=>SqL K H a xs) (λi H q d=>⟨xs,xs[i],q,by simp[d]⟩) (λi H x H' q d y=>⟨y.1,y.2 xs q⟩) (λH q=>⟨xs,q,BR _⟩) c h
theorem cy (xs:LV) (c:Addr -> Nat -> LV -> St -> Hp -> Prop)
    (h:∀D,H1 D=none->c D 0 [] (eR k fr σ) (upd H1 D (.lst []))/\(∀i z σ' H',i<=xs.length->c D i z σ' H'->H' D=some (.lst z)->SqT K H' a xs) /\
     (∀i z σ' H' x,xs[i]? = some x->c D i z σ' H'->H' D=some (.lst z)->g x σ' H' λσ2 J=>tc σ2 J λb G =>
      if b=true then te σ2 G λy I=>I D=some (.lst z)/\z.length<sizeLine/\c D (i+1) (z++[y]) σ2 (upd I D (.lst (z++[y]))) else G D=some (.lst z)/\c D (i+1) z σ2 G) /\
     ∀z σ' H',c D xs.length z σ' H'->H' D=some (.lst z)->Q (.ref D) H'):ew k fr g tc te (Itt K a) σ H1 Q :=
 fB xs (λH=>SqT K H a xs) (λi H q d=>⟨xs,xs[i],q,by simp[d]⟩) (λi H x H' q d y=>⟨y.1,y.2 xs q⟩) (λH q=>⟨xs,q,BR _⟩) c h
def gt (z:Str):LV:=z.cps.toList.map λc=>V.str ⟨#[c]⟩
theorem wB (d:Addr -> Nat -> LV -> St -> Hp -> Prop)
    (h:∀D,H1 D=none->d D 0 [] (eR k fr σ) (upd H1 D (.lst [])) /\
     (∀i G σ' H' c,z.cps.toList[i]? = some c->d D i G σ' H'->H' D=some (.lst G)->g (.str ⟨#[c]⟩) σ' H' λσ2 O=>tc σ2 O λb I =>
      if b=true then te σ2 I λy J=>J D=some (.lst G)/\G.length<sizeLine/\d D (i+1) (G++[y]) σ2 (upd J D (.lst (G++[y]))) else I D=some (.lst G)/\d D (i+1) G σ2 I) /\
     ∀G σ' H',d D z.cps.toList.length G σ' H'->H' D=some (.lst G)->Q (.ref D) H'):ew k fr g tc te (Its z) σ H1 Q:=by
 have m:(gt z).length=z.cps.toList.length:=by simp[gt]
 refine fB (gt z) (λ_=>True) (λi H _ l=>by rw[m] at l;show i<z.cps.size;simpa using l) (λi H x H' _ l y=>⟨y.1,?_⟩) (λH _=>by show z.cps.size<=(gt z).length;rw[m];simp) d λD o=>?_
 ·have n:=y.2;unfold sgV at n;simp only[gt,Ce,Array.getElem?_toList];exact n
 ·obtain⟨a,b,c⟩:=h D o;refine⟨a,λ_ _ _ _ _ _ _=>trivial,λi G σ' H' x j p f=>?_,by rw[m];exact c⟩;simp only[gt,Ce] at j;cases e:z.cps.toList[i]? with
  | none=>rw[e] at j;cases j
  | some cc =>
   rw[e] at j;cases j;exact b i G σ' H' cc e p f
end
def But (p:Addr) (H H':Hp):Prop:=∀b o,b≠p->H b=some o->H' b=some o
theorem But.refl (p:Addr) (H:Hp):But p H H:=λ_ _ _ h=>h
theorem But.trans (a:But p H H1) (b:But p H1 H2):But p H H2:=λc o n h=>b c o n (a c o n h)
theorem But.upd:But p H (upd H p o):=λb a n h=>by rw[ag n];exact h
theorem But.of_same (s:Same H H'):But p H H':=λb o _ h=>s b o h
theorem Same.new (h:H p=none):Same H (upd H p o):=λb a e=>by rw[ag (ai e h)];exact e
theorem Rd.but (b:But p H H') (n:a≠p) (h:Rd H a u):Rd H' a u:=by
 rcases h with h | ⟨o,h⟩
 ·exact .inl (b _ _ n h)
 ·exact .inr ⟨o,b _ _ n h⟩
theorem SqL.but {K:W.Frag}{p:Addr}{H H':Hp}(b:But p H H') {a:Addr}{xs:LV}(n:a≠p) (h:SqL K H a xs):SqL K H' a xs:=by
 rcases h with h | h
 ·exact .inl (h.but b n)
 ·exact .inr h
structure Blt (mg:MS):Prop where
 len:mg "len"=none
 range:mg "range"=none
 abs:mg "abs"=none
 all:mg "all"=none
 repr:mg "repr"=none
 isinstance:mg "isinstance"=none
 str:mg "str"=none
 int:mg "int"=none
 bool:mg "bool"=none
 enumerate:mg "enumerate"=none
 list:mg "list"=none
 tuple:mg "tuple"=none
 dict:mg "dict"=none
 min:mg "min"=none
 max:mg "max"=none
section
variable {X:Cx}{p pos:Pos}{e f:Expr}{t:TA}
def rLen (K:W.Frag):LV->Hp->VK->Prop:=λxs H Q=>∃x n,xs=[x]/\AS K x H n/\Q (.int n) H
def rAbs:LV->Hp->VK->Prop:=λxs H Q=>∃i,xs=[.int i]/\Q (.int (if i<0 then -i else i)) H
def rAll:LV->Hp->VK->Prop:=λxs H Q=>∃p bs,xs=[.ref p]/\H p=some (.lst (List.map V.bl bs))/\Q (.bl (bs.all id)) H
theorem bh (K:W.Frag) (B:Blt X.mg) (a:PA X [e] t) (b:autoParam (Gl X "len") aR9) (he:autoParam (starEach [e] X.env=(false,eval e X.env)::starEach [] X.env) aR9) (hpl:autoParam ((backTo pos (starEach [] X.env)).any (·.1)=false) aR9) (c:autoParam (X.K=K) aR9):PE X (.Call (.Name "len" p) [e] [] pos) (tCB (rLen K) t) :=
 c ▸ dN xi b B.len PySem.boot_len a (by decide) (by decide) he hpl
theorem rT (B:Blt X.mg) (a:PA X [e] t) (b:autoParam (Gl X "abs") aR9) (he:autoParam (starEach [e] X.env=(false,eval e X.env)::starEach [] X.env) aR9) (hpl:autoParam ((backTo pos (starEach [] X.env)).any (·.1)=false) aR9):PE X (.Call (.Name "abs" p) [e] [] pos) (tCB rAbs t) :=
 dN xg b B.abs boot_abs a (by decide) (by decide) he hpl
theorem xF (b:X.calm=true) (B:Blt X.mg) (a:PA X [e] t) (c:autoParam (Gl X "all") aR9) (he:autoParam (starEach [e] X.env=(false,eval e X.env)::starEach [] X.env) aR9) (hpl:autoParam ((backTo pos (starEach [] X.env)).any (·.1)=false) aR9):PE X (.Call (.Name "all" p) [e] [] pos) (tCB rAll t) :=
 dN (pF b) c B.all boot_all a (by decide) (by decide) he hpl
theorem kg (K:W.Frag) (c:String) (B:Blt X.mg) (a:PA X [e,f] t) (b:autoParam (Gl X "isinstance") aR9) (he:autoParam (starEach [e,f] X.env=(false,eval e X.env)::starEach [f] X.env) aR9) (hpl:autoParam ((backTo pos (starEach [f] X.env)).any (·.1)=false) aR9) (d:autoParam (X.K=K) aR9):PE X (.Call (.Name "isinstance" p) [e,f] [] pos) (tCB (Aa K c) t) :=
 d ▸ dN (wf c) b B.isinstance boot_isinstance a (by decide) (by decide) he hpl
theorem rH (B:Blt X.mg) (a:autoParam (Gl X "str") aR9):PE X (.Name "str" p) (tC (.ty "str")):=kY a B.str PyProof.Rows.boot_str rfl
end
end L2
namespace L2
open PySem PySem.Spec PyProof.Rows PySem.Builtin PySem.Builtin.Str
theorem dB (x y:Str):(x++y).length=x.length+y.length:=by
 show (x.cps++y.cps).size=x.cps.size+y.cps.size;rw[Array.size_append]
theorem Ar {ys:LS}{n:Nat}(h:∀y∈ys,y.length<=n):(ys.map (·.length)).sum<=ys.length * n:=by
 induction ys with
 | nil=>simp
 | cons y r ih =>
  have c:=h y (by simp);have b:=ih λz a=>h z (Cw _ a);simp only[Cv,List.sum_cons,Cs];rw[Nat.succ_mul];omega
theorem Bv {α:Type}{xs:List α}{j:Int}(b:0<=j) (c:j<xs.length):∃v,atI xs j=some v/\v∈xs:=by
 obtain⟨k,rfl⟩:=CU b;have a:k<xs.length:=by omega
 exact⟨xs[k],bJ (by simp[a]),DS a⟩
theorem zB {ns:List Int}{j:Int}(a:0<=j) (b:j<(ns.map V.int).length):∃c,atI (ns.map V.int) j=some (.int c):=by
 obtain⟨v,e,m⟩:=Bv a b;obtain⟨c,_,rfl⟩:=BY.mp m;exact⟨c,e⟩
theorem mf (x:Int):-(2 ^ 64)<x % 2147483647/\x % 2147483647<2 ^ 64:=by
 have b:=Do x (show (2147483647:Int)≠0 by decide);have a:=DI x (show (0:Int)<2147483647 by decide);omega
theorem But.at (b:But p H H') (d:H D=none):But p H (L2.upd H' D o):=λc a n h=>by rw[ag (ai h d)];exact b c a n h
theorem But.free (b:But p H H') (n:D≠p) (h:H' D=none):H D=none:=by
 cases e:H D with
 | none=>rfl
 | some o=>rw[b D o n e] at h;cases h
end L2
namespace L2
open PySem PySem.Spec PyProof.Rows
section
variable {X:Cx}
inductive InR (K:W.Frag) (neg:Bool) (H:Hp):V -> V -> VK -> Prop
 | dic {a:Addr} {y:V} {o:Option V} {Q:VK}:DGet H a y o->Q (.bl (if neg then !o.isSome else o.isSome)) H->InR K neg H y (.ref a) Q
 | seq {p:Addr} {x:V} {xs:LV} {Q:VK}:(SqL K H p xs∨SqT K H p xs)->df x=true->xs.all df=true->Q (.bl (if neg then !inV x xs else inV x xs)) H->InR K neg H x (.ref p) Q
 | tr {p:Addr} {x:V} {xs:LV} {ds:List PyData} {d:PyData} {Q:VK}:H p=some (.lst xs)->RepAll H xs ds->Rep H x d->PyData.canLayAll0 ds=true->d.canLay0=true->d.depth<=16 ->
     Q (.bl (if neg then !(ds.any λe=>PyData.eqv e d) else ds.any λe=>PyData.eqv e d)) H->InR K neg H x (.ref p) Q
theorem bK (K:W.Frag) (j:X.A.units+64<cLine) (k:autoParam (X.K=K) aR9):OpR X (compareOp .In) (λx y H Q=>InR K false H x y Q):=by
 subst k;intro a s f H x y v u Q I d b h;cases h with
 | dic g q =>
  cases b;exact d_in (by omega) I g d λl i=>⟨.bl _,H,i,rfl,q⟩
 | seq hq fx fs q=>exact tI a s f H _ _ v u Q I d b ⟨_,_,rfl,hq,fx,fs,q⟩
 | tr e rs r cs c dp q=>exact AH j a s f H _ _ v u Q I d b ⟨_,_,_,_,rfl,e,rs,r,cs,c,dp,q⟩
theorem cJ (K:W.Frag) (j:X.A.units+64<cLine) (k:autoParam (X.K=K) aR9):OpR X (compareOp .NotIn) (λx y H Q=>InR K true H x y Q):=by
 subst k;intro a s f H x y v u Q I d b h;cases h with
 | dic g q =>
  cases b;exact yT (by omega) I g d λl i=>⟨.bl _,H,i,rfl,q⟩
 | seq hq fx fs q=>exact oS a s f H _ _ v u Q I d b ⟨_,_,rfl,hq,fx,fs,q⟩
 | tr e rs r cs c dp q=>exact vt j a s f H _ _ v u Q I d b ⟨_,_,_,_,rfl,e,rs,r,cs,c,dp,q⟩
inductive IxX (K:W.Frag) (H:Hp):V->V->VK->Prop
 | lst {p:Addr} {xs:LV} {i:Int} {v:V} {Q:VK}:SqL K H p xs->atI xs i=some v->Q v H->IxX K H (.ref p) (.int i) Q
 | tup {p:Addr} {xs:LV} {i:Int} {v:V} {Q:VK}:SqT K H p xs->atI xs i=some v->Q v H->IxX K H (.ref p) (.int i) Q
 | str {z:Str} {i:Int} {c:Nat} {Q:VK}:z.length<=sizeLine->atI z.cps.toList i=some c->Q (.str ⟨#[c]⟩) H->IxX K H (.str z) (.int i) Q
 | dic {a:Addr} {y v:V} {Q:VK}:DGet H a y (some v)->Q v H->IxX K H (.ref a) y Q
theorem ix_X (K:W.Frag) (p:X.A.units+64<cLine) (m:autoParam (X.K=K) aR9):IxR X (λx y H Q=>IxX K H x y Q):=by
 subst m;intro b a c s j H x y v u Q I i d h f;cases h with
 | lst hq e q=>exact yB b a c s j H _ _ v u Q I i d ⟨_,_,_,_,rfl,rfl,hq,e,q⟩ f
 | tup hq e q=>exact zY b a c s j H _ _ v u Q I i d ⟨_,_,_,_,rfl,rfl,hq,e,q⟩ f
 | str hz e q=>exact AA b a c s j H _ _ v u Q I i d ⟨_,_,_,rfl,rfl,hz,e,q⟩ f
 | dic g q =>
  cases i;exact tail_any (pD I g) PySem.F.slot_dict_getitem.lookup (ue (by omega) I g d λn o l k=>⟨_,H,l,k,q⟩) f
inductive SetX (H:Hp):V->V->V->(Hp->Prop)->Prop
 | lst {p:Addr} {xs:LV} {k:Int} {j:Nat} {v:V} {Q:Hp->Prop}:H p=some (.lst xs)->ixN xs.length k=some j->Q (upd H p (.lst (xs.set j v)))->SetX H (.ref p) (.int k) v Q
 | dic {a:Addr} {y v:V} {H':Hp} {Q:Hp->Prop}:DPut H a y v H'->Q H'->SetX H (.ref a) y v Q
theorem dy (n:X.A.units+64<cLine):xq X (λo i v H Q=>SetX H o i v Q):=by
 intro a s f H o i v l k u Q I d b c h;cases h with
 | lst e ej q=>exact vL a s f H _ _ _ l k u Q I d b c ⟨_,_,_,_,rfl,rfl,e,ej,q⟩
 | dic g q =>
  cases d;exact ua (by omega) I g b c λm j=>⟨_,j,q⟩
theorem bT (K:W.Frag) (c:X.calm=true) (h:PGs X es t)
    (b:autoParam ((assignEach es X.env).length=n) aR9) (a:autoParam ((assignEach es X.env).findIdx? (·.1)=none) aR9) (d:autoParam (X.K=K) aR9):PG X (.Tuple es k pos) (wF K n t):=d ▸ zS c h b a
variable {p pos p2 pos2:Pos}{e f:Expr}{t:TA}
def qL (K:W.Frag):LV->Hp->VK->Prop:=λxs H Q=>∃a ns,xs=[.ref a]/\SqL K H a (List.map V.int ns)/\ns.length<64/\∀l ns',H l=none->ns'.Perm ns->ns'.Pairwise (·<=·)->Q (.ref l) (upd H l (.lst (List.map V.int ns')))
theorem pE:dI X (.builtin "sorted") (qL X.K):=by
 intro j s E H C D Q I r h;obtain⟨a,z,rfl,v,A,q⟩:=h;obtain⟨u,rfl,w⟩:=cZ r;cases w;obtain⟨c,i,m,B⟩:=I.list v;have x:=rV i;have k:c.length=z.length:=by have:=i.length;rw[BQ] at this;exact this.symm
 refine sorted_ints m.isList x (by omega) λd f t l y=>?_;obtain⟨e,p⟩:=sortedAll_at s.heap c d;have g:(List.map V.int f).length<=sizeLine:=by
  rw[BQ,l.length_eq];exact CP (aj (by omega))
 have n:=I.laid (a:=s.heap.objs.size+1) (o:=.lst (List.map V.int f)) (t':=s.toks) (h':=sortedAll s.heap c d) (λb o e=>sortedAll_old e) (Dh _) ⟨g,d.toList,_,iK t,by simpa [seqObj] using p⟩;exact⟨.ref _,_,n,rfl,q _ _ (I.hok.fresh (Dh _)) l y⟩
end
section
variable {X:Cx}{p pos p2 pos2:Pos}{e f:Expr}{t:TA}
theorem wb (K:W.Frag) (a:X.mg "sorted"=none) (b:PA X [e] t) (c:autoParam (Gl X "sorted") aR9) (he:autoParam (starEach [e] X.env=(false,eval e X.env)::starEach [] X.env) aR9) (hpl:autoParam ((backTo pos (starEach [] X.env)).any (·.1)=false) aR9) (d:autoParam (X.K=K) aR9) :
    PE X (.Call (.Name "sorted" p) [e] [] pos) (tCB (qL K) t):=d ▸ dN pE c a (show bootBuiltins "sorted"=some (.builtin "sorted") by decide +kernel) b (by decide) (by decide) he hpl
def xL (K:W.Frag):LV->Hp->VK->Prop:=λxs H Q=>∃a ys,xs=[.ref a]/\SqL K H a ys/\∀l,H l=none->Q (.ref l) (upd H l (.tup ys))
theorem cq (K:W.Frag) (B:Blt X.mg) (f:PA X [e] t) (i:autoParam (Gl X "tuple") aR9) (he:autoParam (starEach [e] X.env=(false,eval e X.env)::starEach [] X.env) aR9) (hpl:autoParam ((backTo pos (starEach [] X.env)).any (·.1)=false) aR9) (k:autoParam (X.K=K) aR9) :
    PE X (.Call (.Name "tuple" p) [e] [] pos) (tCB (xL K) t):=by
 subst k;refine fk (r:=xL X.K) (λb s d H l c Q I r h=>?_) i B.tuple (show bootBuiltins "tuple"=some (.type "tuple") by decide +kernel) f (by decide) (by decide) he hpl;obtain⟨a,j,rfl,g,q⟩:=h;exact mR b s d H _ c Q I r ⟨a,j,rfl,.inl ⟨g,q⟩⟩
inductive LstR (K:W.Frag) (H:Hp):V->VK->Prop
 | seq {a:Addr} {ys:LV} {Q:VK}:(SqL K H a ys∨SqT K H a ys)->(∀l,H l=none->Q (.ref l) (upd H l (.lst ys)))->LstR K H (.ref a) Q
 | rng {a:Addr} {n:Nat} {Q:VK}:H a=some (.rng 0 (n:Int))->n<=1000->(∀l,H l=none->Q (.ref l) (upd H l (.lst (eQ n))))->LstR K H (.ref a) Q
def AL (K:W.Frag):LV->Hp->VK->Prop:=λxs H Q=>∃x,xs=[x]/\LstR K H x Q
theorem xn (c:z.length=n) (h:∀i v, z[i]? = some v -> ∃t, v=Value.int (0+(i:Nat) * 1) t):Vals (eQ n) z := by
 subst c;have a:∀(z:LW) (k:Nat), (∀i v, z[i]? = some v -> ∃t, v=Value.int (0+((k+i:Nat):Int)) t) -> Vals ((List.range' k z.length).map λi => V.int (0+(i:Nat))) z := by
  intro z
  induction z with
  | nil=>intro k _;exact .nil
  | cons u r ih =>
   intro k h;rw[Cs,List.range'_succ,Cv];refine .cons ?_ (ih (k+1) λi v e=>?_)
   ·obtain⟨t,e⟩:=h 0 u rfl;exact⟨t,by rw[e,Nat.add_zero]⟩
   ·obtain⟨t,b⟩:=h (i+1) v (by simpa using e);exact⟨t,by rw[b,show ((k+(i+1):Nat):Int)=((k+1+i:Nat):Int) by omega]⟩
 have:=a z 0 λi v e=>by
  obtain⟨t,b⟩:=h i v e;exact⟨t,by rw[b,Int.mul_one,Nat.zero_add]⟩
 rw[eQ,List.range_eq_range'];exact this
theorem gs (K:W.Frag) (k:X.calm=true) (B:Blt X.mg) (z:PA X [e] t) (C:autoParam (Gl X "list") aR9) (he:autoParam (starEach [e] X.env=(false,eval e X.env)::starEach [] X.env) aR9) (hpl:autoParam ((backTo pos (starEach [] X.env)).any (·.1)=false) aR9) (D:autoParam (X.K=K) aR9) :
    PE X (.Call (.Name "list" p) [e] [] pos) (tCB (AL K) t):=by
 subst D;refine fk (r:=AL X.K) (λc s y H G w Q I r h=>?_) C B.list (show bootBuiltins "list"=some (.type "list") by decide +kernel) z (by decide) (by decide) he hpl;obtain⟨x,rfl,h⟩:=h;cases h with
 | seq hq q=>exact nB c s y H _ w Q I r ⟨_,_,rfl,hq,q⟩
 | @rng a n _ ea hn q =>
  obtain⟨u,rfl,l⟩:=cZ r;cases l;obtain⟨E,F,M,m⟩:=(show ObjOk X.prog X.w H s.heap a (.rng 0 (n:Int)) from I.hok a _ ea)
  refine call_list_range (n:=n) (I.ok.hd k) m (small_one (by decide) (by decide) (by omega) (by omega)) (by rw[rangeSize_one];split <;> omega) (by omega) λJ L b g j f d=>?_;have A:Vals (eQ n) b.toList:=xn (by simpa using d.1) λi v e=>d.2 i v (by simpa using e);refine⟨.ref _,_,I.laid (o:=.lst (eQ n)) j (BR _) ⟨?_,b.toList,g,A,by simpa using f⟩,rfl,q _ (I.hok.fresh (BR _))⟩;have:(eQ n).length=n:=by simp[eQ]
  rw[this];exact CP (aj hn)
theorem yb (b:X.calm=true) (B:Blt X.mg) (a:PA X [e,f] t) (c:autoParam (Gl X "min") aR9) (he:autoParam (starEach [e,f] X.env=(false,eval e X.env)::starEach [f] X.env) aR9) (hpl:autoParam ((backTo pos (starEach [f] X.env)).any (·.1)=false) aR9) :
    PE X (.Call (.Name "min" p) [e,f] [] pos) (tCB (λxs H Q=>∃i j,xs=[.int i,.int j]/\Q (.int (if j<i then j else i)) H) t) :=
 dN (ui b) c B.min (show bootBuiltins "min"=some (.builtin "min") by decide +kernel) a (by decide) (by decide) he hpl
theorem zD {z:LW}{k:Nat}{x:Int}(b:x=(k:Int)) (a:k<=z.length) :
    (λxs:Array Value=>have k:=if x<0 then (x+(xs.size:Int)).toNat else min x.toNat xs.size;(xs.extract 0 k).push u++xs.extract k) z.toArray=(z.take k++u::z.drop k).toArray:=by
 subst b;simp only[Cq];rw[if_neg (by omega),DE,Nat.min_eq_left a];simp[List.extract_eq_drop_take];exact Cd (by rw[CV];omega)
def qV:V->LV->Hp->VK->Prop:=λx vs H Q=>∃l xs i k y,x=.ref l/\vs=[.int i,y]/\i=((k:Nat):Int)/\H l=some (.lst xs)/\k<=xs.length/\xs.length<sizeLine/\Q .non (upd H l (.lst (xs.take k++y::xs.drop k)))
theorem ub:MtR X "list.insert" qV:=by
 intro d s K H x E v J Q I p o h;obtain⟨l,G,i,k,y,rfl,rfl,u,f,C,D,q⟩:=h;cases p;obtain⟨L,c,rfl,w,g⟩:=eY o;obtain⟨t,rfl⟩:=w;obtain⟨z,a,n,r,B,e⟩:=I.lstM f;have j:a.length<=sizeLine:=by omega
 have b:Builtin.List.listFitsIndex i=true:=by
  have m:i<2 ^ 63:=by have:=gp;omega
  exact fitsIndex_both (by omega) m
 have A:=PySem.AutoSeq1.list_insert_list_int_val_1 l a.toArray n i t c (by simp[b]) (by rw[Cq];exact j);refine call_meets F.slot_list_insert ⟨_,e,rfl⟩ F.entry_list_insert (F.args_list_insert_3 _ _ _) A ⟨e,?_⟩;refine⟨.non,_,I.lset (its':=a.take k++c::a.drop k) f e (zD u (by omega)) (Vals.append (r.take k) (.cons g (r.drop k))) ?_,rfl,q⟩;simp only[Cj,Cs,Ck,CV];omega
theorem hB (K:W.Frag) (g:PE X o to) (h:PA X [e, f] t)
    (c:autoParam (attributeBase o "insert" X.env (eval o X.env)=eval o X.env) aR9)
    (d:autoParam (((backTo cpos (starEach [e,f] X.env)).all (λx=>!x.1)&&(backToKw cpos (keywordEach [] X.env)).all (λx=>x.1.isSome)
     && decide ([e,f].length+([]:List Keyword).length+(if ([]:List Keyword).isEmpty then 0 else 1)<30))=true) aR9)
    (b:autoParam ((apos.endLine==cpos.line)=true) aR9) (i:autoParam (starEach [e,f] X.env=(false,eval e X.env)::starEach [f] X.env) aR9) (a:autoParam ((backTo cpos (starEach [f] X.env)).any (·.1)=false) aR9) (j:autoParam (X.K=K) aR9) :
    PE X (.Call (.Attribute o "insert" apos) [e,f] [] cpos) (tBM K "list" qV to t):=j ▸ kf PySem.F.plainAttrs_list PySem.F.slot_list_insert PySem.F.type_list_insert ub g h c d b i a
end
def Nm (s:Str):Prop:=1<=s.length/\s.length<=8/\∀c∈s.cps.toList,97<=c/\c<=122
def aE (e:Str × Str):PyData:=.tuple [.str e.1,.str e.2]
def Ab (ss:LS) (ts:List (Str × Str)):PyData:=.tuple [.tuple (ss.map .str),.tuple (ts.map aE)]
section
variable {H H':Hp}
theorem Rep.tupI (h:Rep H v (.tuple ds)):∃a xs,v=.ref a/\H a=some (.tup xs)/\RepAll H xs ds:=by
 cases h with
 | tup e r=>exact⟨_,_,rfl,e,r⟩
theorem Rep.strI (h:Rep H v (.str s)):v=.str s:=by cases h;rfl
theorem RepAll.nilI (h:RepAll H xs []):xs=[]:=by cases h;rfl
theorem RepAll.consI (h:RepAll H xs (d::ds)):∃y ys,xs=y::ys/\Rep H y d/\RepAll H ys ds:=by
 cases h with
 | cons a b=>exact⟨_,_,rfl,a,b⟩
theorem RepAll.strs:∀ {xs:LV}{ss:LS},RepAll H xs (ss.map PyData.str)->xs=ss.map V.str
 | _,[],h=>by rw[h.nilI];rfl
 | _,s::ss,h=>by
  obtain⟨y,ys,rfl,a,b⟩:=RepAll.consI h;rw[a.strI,RepAll.strs b];rfl
theorem RepAll.of_strs:∀(ss:LS),RepAll H (ss.map V.str) (ss.map PyData.str)
 | []=>.nil
 | s::ss=>.cons (.str s) (RepAll.of_strs ss)
theorem RepAll.len (h:RepAll H xs ds):xs.length=ds.length:=by
 induction ds generalizing xs with
 | nil=>rw[h.nilI];rfl
 | cons d ds ih =>
  obtain⟨y,c,rfl,a,b⟩:=h.consI;simp[ih b]
theorem RepAll.get {xs:LV}{ds:List PyData}(h:RepAll H xs ds) {i:Nat}(e:xs[i]? = some x):∃d,ds[i]? = some d/\Rep H x d:=by
 induction ds generalizing xs i with
 | nil=>rw[h.nilI] at e;simp at e
 | cons d ds ih =>
  obtain⟨y,c,rfl,a,b⟩:=h.consI;cases i with
  | zero=>simp at e;subst e;exact⟨d,rfl,a⟩
  | succ i=>simpa using ih b (by simpa using e)
theorem RepAll.append (h:RepAll H xs ds) (g:RepAll H ys es):RepAll H (xs++ys) (ds++es):=by
 induction ds generalizing xs with
 | nil=>rw[h.nilI];exact g
 | cons d ds ih =>
  obtain⟨y,c,rfl,a,b⟩:=h.consI;exact .cons a (ih b)
theorem fE (h:Rep H v (aE e)):∃a,v=.ref a/\H a=some (.tup [.str e.1,.str e.2]):=by
 obtain⟨a,j,rfl,b,r⟩:=Rep.tupI h;obtain⟨y,g,rfl,c,r⟩:=r.consI;obtain⟨z,i,rfl,f,r⟩:=r.consI;have d:=RepAll.nilI r;subst d;rw[c.strI,f.strI] at b;exact⟨a,rfl,b⟩
theorem aO (h:H a=some (.tup [.str s,.str t])):Rep H (.ref a) (aE (s,t)):=.tup h (.cons (.str _) (.cons (.str _) .nil))
theorem gx (h:Rep H v (Ab ss ts)):∃q a b xs,v=.ref q/\H q=some (.tup [.ref a,.ref b])/\H a=some (.tup (ss.map V.str))/\H b=some (.tup xs)/\RepAll H xs (ts.map aE):=by
 obtain⟨q,r,rfl,i,f⟩:=Rep.tupI h;obtain⟨y,u,rfl,k,g⟩:=f.consI;obtain⟨z,t,rfl,e,c⟩:=g.consI;obtain⟨a,s,rfl,j,l⟩:=Rep.tupI k;obtain⟨b,p,rfl,n,m⟩:=Rep.tupI e;have d:=RepAll.nilI c;subst d;have o:=RepAll.strs l;subst o;exact⟨q,a,b,p,rfl,i,j,n,m⟩
end
end L2
namespace MG
variable {α:Type}
def Walk (R:α->α->Prop):Nat->α->α->Prop
 | 0,x,y=>x=y
 | n+1,x,y=>∃z,Walk R n x z/\R z y
def Rch (R:α->α->Prop) (x y:α):Prop:=∃n,Walk R n x y
def Dst (R:α->α->Prop) (x:α) (d:Nat) (y:α):Prop:=Walk R d x y/\∀k,k<d->¬ Walk R k x y
variable {R:α->α->Prop}{x:α}
theorem Dst.uniq (a:Dst R x d y) (b:Dst R x e y):d=e:=by
 rcases Nat.lt_trichotomy d e with h | h | h
 ·exact absurd a.1 (b.2 d h)
 ·exact h
 ·exact absurd b.1 (a.2 e h)
theorem Rch.dst (h:Rch R x y):∃d, Dst R x d y := by
 obtain⟨n,h⟩:=h
 induction n using Nat.strongRecOn generalizing y with
 | _ n ih =>
  by_cases e:∃k,k<n/\Walk R k x y
  ·obtain⟨k,a,w⟩:=e;exact ih k a w
  ·exact⟨n,h,λk a w=>e ⟨k,a,w⟩⟩
theorem Dst.rch (h:Dst R x d y):Rch R x y:=⟨d,h.1⟩
theorem Dst.pred (h:Dst R x (d+1) y):∃z,Dst R x d z/\R z y:=by
 obtain⟨⟨z,w,r⟩,m⟩:=h;exact⟨z,⟨w,λk b a=>m (k+1) (by omega) ⟨z,a,r⟩⟩,r⟩
theorem Dst.zero:Dst R x 0 x:=⟨rfl,λk a=>by omega⟩
theorem Dst.of_zero (h:Dst R x 0 y):y=x:=h.1.symm
theorem Dst.below (h:Dst R x d y):∀e, e <= d -> ∃z, Dst R x e z := by
 induction d generalizing y with
 | zero => intro e a; have:e=0 := by omega
           subst this;exact⟨y,h⟩
 | succ d ih =>
  intro e a;by_cases q:e=d+1
  ·subst q;exact⟨y,h⟩
  ·obtain⟨z,b,_⟩:=h.pred;exact ih b e (by omega)
theorem Rch.refl:Rch R x x:=⟨0,rfl⟩
theorem Rch.step (h:Rch R x y) (r:R y z):Rch R x z:=by
 obtain⟨n,w⟩:=h;exact⟨n+1,y,w,r⟩
theorem Rch.closed {S:α -> Prop}(a:S x) (b:∀y z, S y -> R y z -> S z) {y:α}(h:Rch R x y):S y := by
 obtain⟨n,w⟩:=h
 induction n generalizing y with
 | zero => have:x=y := w
           subst this;exact a
 | succ n ih =>
  obtain⟨z,w,r⟩:=w;exact b z y (ih w) r
structure Lev (R:α->α->Prop) (x:α) (L:Nat) (look:α->Option Nat) (edge:List α):Prop where
 snd:∀y k,look y=some k->Dst R x k y/\k<=L
 cmp:∀y k,k<=L->Dst R x k y->look y=some k
 edg:∀y,y∈edge ↔ Dst R x L y
structure Mid (R:α->α->Prop) (x:α) (L:Nat) (look:α->Option Nat) (further:List α) (done:α->α->Prop):Prop where
 snd:∀y k,look y=some k->(Dst R x k y/\k<=L)∨(k=L+1/\y∈further)
 cmp:∀y k,k<=L->Dst R x k y->look y=some k
 fur:∀y,y∈further->Dst R x (L+1) y/\look y=some (L+1)
 dn:∀z y,done z y->(look y).isSome=true
theorem Lev.start [DecidableEq α] (h:∀y,look y=if y=x then some 0 else none):Lev R x 0 look [x]:=by
 refine⟨λy k e=>?_,λy k a d=>?_,λy=>?_⟩
 ·rw[h] at e
  split at e
  ·rename_i q;subst q;cases e;exact⟨Dst.zero,BR _⟩
  ·cases e
 ·have:k=0:=by omega
  subst this;rw[h,if_pos d.of_zero]
 ·rw[Cr];exact⟨λe=>e ▸ Dst.zero,λd=>d.of_zero⟩
theorem Lev.mid (h:Lev R x L look z):Mid R x L look [] (λ_ _=>False) :=
 ⟨λy k e=>.inl (h.snd y k e),h.cmp,λy a=>(nomatch a),λ_ _ f=>f.elim⟩
theorem Mid.skip (h:Mid R x L look G I) (e:(look y).isSome=true):Mid R x L look G (λa b=>I a b∨(a=z/\b=y)) :=
 ⟨h.snd,h.cmp,h.fur,λa b d=>by
  rcases d with d | ⟨_,q⟩
  ·exact h.dn a b d
  ·rw[q];exact e⟩
theorem Mid.add (h:Mid R x L look G J) (l:Dst R x L z) (r:R z y) (e:look y=none)
    [DecidableEq α] (c:∀a,I a=if a=y then some (L+1) else look a):Mid R x L I (G++[y]) (λa b=>J a b∨(a=z/\b=y)):=by
 have g:Dst R x (L+1) y:=by
  refine⟨⟨z,l.1,r⟩,λk i w=>?_⟩;obtain⟨d,f⟩:=Rch.dst ⟨k,w⟩;have p:d<=k:=DH λq=>f.2 k q w;rw[h.cmp y d (by omega) f] at e;cases e
 refine⟨λa k q=>?_,λa k i d=>?_,λa m=>?_,λa b d=>?_⟩
 ·rw[c] at q
  split at q
  ·rename_i ea;cases q;subst ea;exact .inr ⟨rfl,by simp⟩
  ·rcases h.snd a k q with j | ⟨n,o⟩
   ·exact .inl j
   ·exact .inr ⟨n,by simp[o]⟩
 ·rw[c]
  split
  ·rename_i ea;subst ea;have:=d.uniq g;omega
  ·exact h.cmp a k i d
 ·rcases Cb.mp m with q | q
  ·refine⟨(h.fur a q).1,?_⟩;rw[c]
   split
   ·rfl
   ·exact(h.fur a q).2
  ·have:a=y:=by simpa using q
   subst this;exact⟨g,by rw[c,if_pos rfl]⟩
 ·rw[c]
  split
  ·rfl
  ·rename_i nb
   rcases d with d | ⟨_,q⟩
   ·exact h.dn a b d
   ·exact absurd q nb
theorem Mid.wk (h:Mid R x L look z I) (w:∀a b,G a b->I a b):Mid R x L look z G :=
 ⟨h.snd,h.cmp,h.fur,λa b d=>h.dn a b (w a b d)⟩
theorem Mid.next {L:Nat}{look:α->Option Nat}{G J:List α}{I:α->α->Prop}(h:Mid R x L look G I) (he:∀y,y∈J ↔ Dst R x L y) (g:∀z y,z∈J->R z y->I z y):Lev R x (L+1) look G:=by
 have a:∀y,Dst R x (L+1) y->y∈G/\look y=some (L+1):=λy d=>by
  obtain⟨z,i,r⟩:=d.pred;have s:=h.dn z y (g z y ((he z).mpr i) r);obtain⟨k,e⟩:=Dl.mp s;rcases h.snd y k e with⟨q,f⟩ | ⟨b,c⟩
  ·have:=q.uniq d;omega
  ·subst b;exact⟨c,e⟩
 refine⟨λy k e=>?_,λy k f d=>?_,λy=>⟨λq=>(h.fur y q).1,λd=>(a y d).1⟩⟩
 ·rcases h.snd y k e with⟨q,f⟩ | ⟨b,c⟩
  ·exact⟨q,by omega⟩
  ·subst b;exact⟨(h.fur y c).1,BR _⟩
 ·by_cases q:k=L+1
  ·subst q;exact(a y d).2
  ·exact h.cmp y k (by omega) d
theorem Lev.done (h:Lev R x L look []):∀y k,look y=some k ↔ Dst R x k y:=λy k=>by
 refine⟨λe=>(h.snd y k e).1,λd=>?_⟩;by_cases q:k<=L
 ·exact h.cmp y k q d
 ·obtain⟨z,a⟩:=d.below L (by omega);exact(nomatch (h.edg z).mpr a)
end MG
namespace MG
variable {α:Type}{R:α->α->Prop}{x:α}
theorem Dst.lt {ss:List α}(h:∀y, Rch R x y -> y ∈ ss) {L:Nat}{y:α}(d:Dst R x L y):L<ss.length := by
 have i:∀n, n <= L+1 -> ∃c:List α, c.length=n /\ c.Nodup /\ ∀z ∈ c, ∃e, e<n /\ Dst R x e z := by
  intro n
  induction n with
  | zero=>intro _;exact⟨[],rfl,DG,λz b=>by cases b⟩
  | succ n ih =>
   intro o;obtain⟨c,l,a,b⟩:=ih (by omega);obtain⟨z,k⟩:=d.below n (by omega);refine⟨z::c,by simp[l],CI.mpr ⟨λj=>?_,a⟩,λw g=>?_⟩
   ·obtain⟨e,m,f⟩:=b z j;have:=f.uniq k;omega
   ·rcases Cm.mp g with rfl | g
    ·exact⟨n,by omega,k⟩
    ·obtain⟨e,m,f⟩:=b w g;exact⟨e,by omega,f⟩
 obtain⟨c,l,a,b⟩:=i (L+1) (BR _);have:=a.length_le_of_subset (l₂:=ss) λz j=>by
  obtain⟨e,_,f⟩:=b z j;exact h z f.rch
 omega
theorem Rch.map (f:α->β) (h:∀a b,R a b->S (f a) (f b)) (r:Rch R x y):Rch S (f x) (f y):=by
 obtain⟨n,w⟩:=r;refine⟨n,?_⟩
 induction n generalizing y with
 | zero =>
  have w:x=y:=w;subst w;exact rfl
 | succ n ih =>
  obtain⟨z,w,r⟩:=w;exact⟨f z,ih w,h z y r⟩
theorem Rch.back (f:α->β) (h:∀a c,S (f a) c->∃b,c=f b/\R a b) (r:Rch S (f x) c):∃y,c=f y/\Rch R x y:=by
 refine Rch.closed (S:=λc=>∃y,c=f y/\Rch R x y) ⟨x,rfl,Rch.refl⟩ (λy z g r=>?_) r;obtain⟨a,rfl,e⟩:=g;obtain⟨b,rfl,d⟩:=h a z r;exact⟨b,rfl,e.step d⟩
end MG
namespace L2
open PySem PySem.Spec PyProof.Rows
theorem bM (h:Nm s):PyData.canLay0 (.str s)=true:=by
 show (s.cps.all (·<0x110000))=true;rw[<- Array.all_toList,Dn];intro c a;have:=h.2.2 c a;exact Ca (by omega)
theorem je:∀ss:LS,(∀s∈ss,Nm s)->PyData.canLayAll0 (ss.map PyData.str)=true
 | [],_=>rfl
 | s::ss,h=>by
  show (PyData.canLay0 (.str s)&&PyData.canLayAll0 (ss.map PyData.str))=true;rw[je ss λx hx=>h x (Cw _ hx),bM (h s (by simp))]
  rfl
theorem hY:∀ss:LS,PyData.depthAll (ss.map PyData.str)=0
 | []=>rfl
 | s::ss=>by
  show max (PyData.depth (.str s)) (PyData.depthAll (ss.map PyData.str))=0;rw[hY ss];rfl
theorem iT (h:shp d):PyData.eqv d d=true:=SeqAt.eqv_refl d (SeqAt.canLay_of_shaped h)
theorem nH {K:W.Frag}{a:Addr}{xs:LV}{g:TG}{tb:TS}{D:Ends}{σ:St}{H:Hp}(Pv:Nat -> St -> Hp -> Prop) (k:Pv 0 σ H) (j:∀i σ H, i <= xs.length -> Pv i σ H -> SqL K H a xs)
    (l:∀i x σ H p,xs[i]? = some x->Pv i σ H->H p=none->g (.ref p) σ (upd H p (.tup [.int i,x])) λσ2 H2=>tb { D with nx:=Pv (i+1),ct:=Pv (i+1),bk:=D.nx } σ2 H2) (c:∀σ H,Pv xs.length σ H->D.nx σ H) :
    ∃W:Nat->Nat->SH,(∃m,W 0 m σ H)/\∀i m σ H,W i m σ H ->
     ((Ite K a).stop i H/\D.nx σ H)∨((Ite K a).go i H/\∃N:SH,(∀σ' H',N σ' H'->∃G,G<m/\W (i+1) G σ' H')/\∀x H',(Ite K a).yld i H x H'->g x σ H' λσ2 H2=>tb { D with nx:=N,ct:=N,bk:=D.nx } σ2 H2):=by
 refine⟨λi m σ H=>m=xs.length-i/\i<=xs.length/\Pv i σ H,⟨xs.length,by simp,Cu _,k⟩,?_⟩;rintro i m σ H ⟨rfl,f,p⟩;have q:=j i σ H f p;by_cases b:i<xs.length
 ·refine .inr ⟨⟨xs,xs[i],q,by simp[b]⟩,Pv (i+1),λσ' H' h=>⟨xs.length-(i+1),by omega,rfl,b,h⟩,λx H' y=>?_⟩;obtain⟨r,z,n,rfl,d,rfl⟩:=y;exact l i z σ H r (d xs q) p n
 ·have e:i=xs.length:=by omega
  subst e;exact .inl ⟨⟨xs,q,BR _⟩,c σ H p⟩
def fS:Sp:=λvs H Q _=>∃a xs,vs=[.ref a]/\H a=some (.lst (List.map V.str xs))/\xs.length<=1000 /\
 ∀d kvs H',Same H H'->H d=none->H' d=some (.dK kvs)->(∀s,(aD kvs (.inr s)).isSome=true ↔ s∈xs)->(∀s v,aD kvs (.inr s)=some v->∃j:Nat,v=.int j/\xs[j]? = some s)->Q (.ref d) H'
structure Web (H:Hp) (v:V) (ss:LS) (ts:List (Str × Str)):Prop where
 rep:Rep H v (Ab ss ts)
 nd:ss.Nodup
 nm:∀s∈ss,Nm s
 len:ss.length<=60
 few:ts.length<=401
 inn:∀e∈ts,e.1∈ss/\e.2∈ss
theorem Web.same (h:Web H v ss ts) (s:Same H H'):Web H' v ss ts:=⟨h.rep.same s,h.nd,h.nm,h.len,h.few,h.inn⟩
def dJ (ss:LS) (ts:List (Str × Str)) (s:Str):LS:=ss.filter λt=>decide ((s,t)∈ts)
def aY (ts:List (Str × Str)):List (Str × Str):=ts.map λe=>(e.2,e.1)
theorem mem_flip:(a,b)∈aY ts ↔ (b,a)∈ts:=by
 unfold aY;rw[BY]
 constructor
 ·rintro⟨⟨x,y⟩,h,e⟩;cases e;exact h
 ·intro h;exact⟨(b,a),h,rfl⟩
def gJ (rev:Bool):Sp:=λvs H Q _=>∃q ss ts s,vs=[q,.str s]/\Web H q ss ts /\
 ∀l H',Same H H'->H l=none->H' l=some (.lst (List.map V.str (dJ ss (if rev then aY ts else ts) s)))->Q (.ref l) H'
def Tab (H:Hp) (d:Addr) (ss:LS) (f:Str->LS):Prop:=∃kvs,H d=some (.dK kvs)/\∀s∈ss,∃l,aD kvs (.inr s)=some (.ref l)/\H l=some (.lst (List.map V.str (f s)))
theorem Tab.same (h:Tab H d ss f) (s:Same H H'):Tab H' d ss f:=let ⟨g,a,b⟩:=h;⟨g,s _ _ a,λx i=>let ⟨l,c,e⟩:=b x i;⟨l,c,s _ _ e⟩⟩
def dX (rev:Bool):Sp:=λvs H Q _=>∃q ss ts,vs=[q]/\Web H q ss ts /\
 ∀d H',Same H H'->H d=none->Tab H' d ss (dJ ss (if rev then aY ts else ts))->Q (.ref d) H'
def Ner (ss:LS) (f:Str->LS) (a b:Str):Prop:=a∈ss/\b∈f a
def spSteps:Sp:=λvs H Q _=>∃d s ss f,vs=[.ref d,.str s]/\Tab H d ss f/\s∈ss/\ss.length<=60/\(∀t∈ss,∀u∈f t,u∈ss) /\
 ∀e kvs H',Same H H'->H e=none->H' e=some (.dK kvs)->(∀t v,aD kvs (.inr t)=some v ↔ ∃k:Nat,v=.int k/\MG.Dst (Ner ss f) s k t)->Q (.ref e) H'
def Tie (ts:List (Str × Str)) (a b:Str):Prop:=(a,b)∈ts
def fW (rev:Bool):Sp:=λvs H Q _=>∃q ss ts s,vs=[q,.str s]/\Web H q ss ts/\s∈ss /\
 ∀l H' (g:Str->Bool),Same H H'->H l=none->(∀t,g t=true ↔ MG.Rch (Tie (if rev then aY ts else ts)) s t)->H' l=some (.lst (List.map V.str (ss.filter g)))->Q (.ref l) H'
end L2
namespace MG
variable {α:Type}{R:α->α->Prop}{x:α}
theorem Walk.map (f:α->β) (h:∀a b,R a b->S (f a) (f b)) (w:Walk R n x y):Walk S n (f x) (f y):=by
 induction n generalizing y with
 | zero =>
  have w:x=y:=w;subst w;exact rfl
 | succ n ih =>
  obtain⟨z,w,r⟩:=w;exact⟨f z,ih w,h z y r⟩
theorem Walk.back (f:α->β) (h:∀a c,S (f a) c->∃b,c=f b/\R a b) (w:Walk S n (f x) c):∃y,c=f y/\Walk R n x y:=by
 induction n generalizing c with
 | zero =>
  have w:f x=c:=w;exact⟨x,w.symm,rfl⟩
 | succ n ih =>
  obtain⟨z,w,r⟩:=w;obtain⟨y,rfl,d⟩:=ih w;obtain⟨b,rfl,e⟩:=h y c r;exact⟨b,rfl,y,d,e⟩
def swp (es:List (Nat × Nat)):List (Nat × Nat):=es.map λe=>(e.2,e.1)
theorem mem_swp:(a,b)∈swp es ↔ (b,a)∈es:=by
 unfold swp;rw[BY]
 constructor
 ·rintro⟨⟨x,y⟩,h,e⟩;cases e;exact h
 ·intro h;exact⟨(b,a),h,rfl⟩
def Arr (es:List (Nat × Nat)) (a b:Nat):Prop:=(a,b)∈es
def To (es:List (Nat × Nat)) (goal k a:Nat):Prop:=Dst (Arr (swp es)) goal k a
variable {es:List (Nat × Nat)}{goal:Nat}
theorem To.pred (h:To es goal (k+1) a):∃c,(a,c)∈es/\To es goal k c:=by
 obtain⟨z,d,r⟩:=Dst.pred h;exact⟨z,mem_swp.mp r,d⟩
theorem To.step (r:(a,c)∈es) (h:To es goal k c) (g:To es goal m a):m<=k+1:=by
 refine DH λq=>?_;exact g.2 (k+1) q ⟨c,h.1,mem_swp.mpr r⟩
theorem To.zero (h:To es goal 0 a):a=goal:=h.of_zero
theorem To.here:To es goal 0 goal:=Dst.zero
theorem To.rch (h:To es goal k a):Rch (Arr (swp es)) goal a:=h.1 |> λw=>⟨k,w⟩
theorem To.inn (b:∀e∈es,e.1<n/\e.2<n) (c:goal<n) (h:To es goal k a):a<n :=
 Rch.closed (S:=λy=>y<n) c (λx y _ r=>(b _ (mem_swp.mp r)).1) h.rch
theorem To.lt (b:∀e∈es,e.1<n/\e.2<n) (c:goal<n) (h:To es goal k a):k<n:=by
 have:=Dst.lt (ss:=List.range n) (λy r=>CL.mpr (Rch.closed (S:=λy=>y<n) c (λx y _ r=>(b _ (mem_swp.mp r)).1) r)) h;simpa using this
def Lst (es:List (Nat × Nat)) (goal k a b:Nat):Prop:=(a,b)∈es/\To es goal k b/\∀c,(a,c)∈es->To es goal k c->b<=c
theorem Lst.uniq (h:Lst es goal k a b) (g:Lst es goal k a c):b=c:=Nat.le_antisymm (h.2.2 c g.1 g.2.1) (g.2.2 b h.1 h.2.1)
def Wy (es:List (Nat × Nat)) (goal:Nat):Nat->Nat->List Nat->Prop
 | 0,a,ws=>a=goal/\ws=[a]
 | k+1,a,ws=>∃b r,ws=a::r/\Lst es goal k a b/\Wy es goal k b r
theorem Wy.uniq (h:Wy es goal k a ws) (g:Wy es goal k a z):ws=z:=by
 induction k generalizing a ws z with
 | zero=>rw[h.2,g.2]
 | succ k ih =>
  obtain⟨b,r,rfl,l,w⟩:=h;obtain⟨c,q,rfl,m,v⟩:=g;have e:=l.uniq m;subst e;rw[ih w v]
theorem Wy.len (h:Wy es goal k a ws):ws.length=k+1:=by
 induction k generalizing a ws with
 | zero=>rw[h.2];rfl
 | succ k ih =>
  obtain⟨b,r,rfl,l,w⟩:=h;simp[ih w]
theorem Wy.inn (d:∀e∈es,e.1<n/\e.2<n) (f:goal<n) (h:Wy es goal k a ws):∀x∈ws,x<n:=by
 induction k generalizing a ws with
 | zero =>
  rw[h.2,h.1];intro x c;have:x=goal:=by simpa using c
  omega
 | succ k ih =>
  obtain⟨b,r,rfl,l,w⟩:=h;intro x c;rcases Cm.mp c with rfl | c
  ·exact(d _ l.1).1
  ·exact ih w x c
def Pre (es:List (Nat × Nat)) (goal k one j a:Nat) (ws:List Nat):Prop:=To es goal j a/\(∃us,ws=us++[a])/\(∀r,Wy es goal j a (a::r)->Wy es goal k one (ws++r))/\ws.length+j=k+1
theorem Pre.start (h:To es goal k one):Pre es goal k one k one [one]:=⟨h,⟨[],rfl⟩,λr w=>w,by simp;omega⟩
theorem Pre.add (h:Pre es goal k one (j+1) a ws) (l:Lst es goal j a b):Pre es goal k one j b (ws++[b]):=by
 obtain⟨e,f,c,d⟩:=h;refine⟨l.2.1,⟨ws,rfl⟩,λr w=>?_,by simp;omega⟩;rw[DJ];exact c (b::r) ⟨b,b::r,rfl,l,w⟩
theorem Pre.done (h:Pre es goal k one 0 a ws):Wy es goal k one ws:=by
 have:=h.2.2.1 [] ⟨h.1.zero,rfl⟩;simpa using this
end MG
namespace MG
variable {es:List (Nat × Nat)}
theorem Walk.cons (r:R x y) (w:Walk R n y z):Walk R (n+1) x z:=by
 induction n generalizing z with
 | zero =>
  have w:y=z:=w;subst w;exact⟨x,rfl,r⟩
 | succ n ih =>
  obtain⟨v,w,q⟩:=w;exact⟨v,ih w,q⟩
theorem oz (w:Walk (Arr es) n a b):Walk (Arr (swp es)) n b a:=by
 induction n generalizing b with
 | zero =>
  have w:a=b:=w;exact w.symm
 | succ n ih =>
  obtain⟨z,w,r⟩:=w;exact Walk.cons (mem_swp.mpr r) (ih w)
theorem zo (es:List (Nat × Nat)):swp (swp es)=es:=by
 unfold swp;rw[CK];exact List.map_id'' (λe=>rfl) es
theorem rch_to:Rch (Arr es) a goal ↔ ∃k,To es goal k a:=by
 constructor
 ·rintro⟨n,w⟩;exact Rch.dst ⟨n,oz w⟩
 ·rintro⟨k,h⟩;have:=oz h.1;rw[zo] at this;exact⟨k,this⟩
end MG
namespace L2
open PySem PySem.Spec PyProof.Rows
theorem aW (s:Same H H') (h:H' b=none):H b=none:=by
 cases q:H b with
 | none=>rfl
 | some o=>rw[s _ _ q] at h;cases h
theorem aV (s:Same H H') (h:H b=none):Same H (upd H' b o):=λc d a=>by
 rw[ag (ai a h)];exact s _ _ a
section
variable {X:Cx}{p pos p2 pos2:Pos}{e f:Expr}{t:TA}
def uv:V->LV->Hp->VK->Prop:=λx vs H Q=>∃l xs y j z,x=.ref l/\vs=[y]/\H l=some (.lst xs)/\df y=true/\xs.all df=true/\xs[j]? = some z/\eqV z y=true/\(∀(m:Nat) z',m<j->xs[m]? = some z'->eqV z' y=false)/\Q (.int ((j:Nat):Int)) H
theorem oY {xs:LV}{us:LW}(r:Vals xs us) {j:Nat}(e:us[j]? = some u):∃x,xs[j]? = some x/\RelV x u:=by
 induction r generalizing j with
 | nil=>simp at e
 | @cons a b as bs h t ih =>
  cases j with
  | zero=>simp at e;subst e;exact⟨a,rfl,h⟩
  | succ j=>simpa using ih (by simpa using e)
theorem wh:MtR X "list.index" uv:=by
 intro C s Z H x W v Y Q I R O h;obtain⟨l,D,y,j,z,rfl,rfl,T,K,E,B,N,A,q⟩:=h;cases R;obtain⟨u,rfl,S⟩:=cZ O;obtain⟨V,a,n,r,U,e⟩:=I.lstM T;have P:=(BU.mp B).1;have G:=r.length;have g:∀m (i:m<a.length),∃c,D[m]? = some c/\eqU y a[m]=eqV c y:=λm i=>by
  obtain⟨c,f,L⟩:=oY r (Ci i);refine⟨c,f,kh L ?_⟩;exact Dn.mp E c (BW f)
 have p:(j:Int)<2 ^ 63-1:=by
  have d:D.length<=sizeLine:=by omega
  have k:(sizeLine:Nat)<2 ^ 62:=by decide
  omega
 refine call_meets F.slot_list_index ⟨_,e,rfl⟩ F.entry_list_index (F.args_list_index_2 _ _)
  (SeqAt.list_indexAt l a.toArray n _ _ u (eqU y) j (by simpa using (by omega:j<a.length)) p ?_ ?_) ⟨e,λw J=>dP S K r E w (by simpa using J),⟨.int _,H,?_,⟨_,rfl⟩,q⟩⟩
 ·obtain⟨c,d,k⟩:=g j (by omega);rw[B] at d;cases d;simpa using k.trans N
 ·intro m i t;obtain⟨c,d,k⟩:=g m (by simpa using i);simpa using k.trans (A m c t d)
 ·exact I.kept λb o M=>M
theorem qr (K:W.Frag) (f:PE X o to) (g:PA X [e] t)
    (c:autoParam (attributeBase o "index" X.env (eval o X.env)=eval o X.env) aR9)
    (d:autoParam (((backTo cpos (starEach [e] X.env)).all (λx=>!x.1)&&(backToKw cpos (keywordEach [] X.env)).all (λx=>x.1.isSome)
     && decide ([e].length+([]:List Keyword).length+(if ([]:List Keyword).isEmpty then 0 else 1)<30))=true) aR9)
    (b:autoParam ((apos.endLine==cpos.line)=true) aR9) (h:autoParam (starEach [e] X.env=(false,eval e X.env)::starEach [] X.env) aR9) (a:autoParam ((backTo cpos (starEach [] X.env)).any (·.1)=false) aR9) (i:autoParam (X.K=K) aR9) :
    PE X (.Call (.Attribute o "index" apos) [e] [] cpos) (tBM K "list" uv to t):=i ▸ kf PySem.F.plainAttrs_list PySem.F.slot_list_index PySem.F.type_list_index wh f g c d b h a
end
end L2
namespace MG
section
variable {α:Type} [DecidableEq α]
def ix:List α->α->Nat
 | [],_=>0
 | a::r,x=>if a=x then 0 else ix r x+1
theorem qg (a:α) (r:List α):ix (a::r) a=0:=by show (if a=a then 0 else _)=0;rw[if_pos rfl]
theorem qx (r:List α) (h:a≠x):ix (a::r) x=ix r x+1:=by show (if a=x then 0 else _)=_;rw[if_neg h]
theorem ix_at (c:l.Nodup):∀ {i:Nat}{x:α}, l[i]? = some x -> ix l x=i := by
 induction l with
 | nil=>intro i x e;simp at e
 | cons a r ih =>
  intro i x e;have ⟨d,f⟩:=CI.mp c;cases i with
  | zero=>simp at e;subst e;exact qg a r
  | succ i =>
   have b:r[i]? = some x:=by simpa using e
   have g:=BW b;rw[qx r (λq:a=x=>d (q ▸ g)),ih f b]
theorem at_ix {l:List α}{x:α}(h:x ∈ l):l[ix l x]? = some x := by
 induction l with
 | nil=>cases h
 | cons a r ih =>
  by_cases q:a=x
  ·subst q;rw[qg];rfl
  ·rw[qx r q];rcases Cm.mp h with h | h
   ·exact absurd h.symm q
   ·simpa using ih h
theorem ix_lt {l:List α}{x:α}(h:x∈l):ix l x<l.length:=(BU.mp (at_ix h)).1
end
variable {es:List (Nat × Nat)}
def Fwd (es:List (Nat × Nat)):Prop:=∃r:Nat->Nat,∀e∈es,r e.1<r e.2
end MG
namespace L2
open PySem PySem.Spec PyProof.Rows
open PySem.AutoSeq1 (wpAny_loadPart')
section
variable {prog:Program}{w:World}{A:Around}{E:QS}{s:Shared}
theorem kw (d:s.heap.IsTupleIter G z i) (c:s.heap.IsTuple z I) (f:I[i]? = some y)
    (g:∀h',h'.IsTupleIter G z (i+1)->Heap.SameBut G s.heap h'->Q y { s with heap:=h' }):wpAny (model prog w) A (Builtin.SmallTypes.nextOf (.ref G)) Q E s:=by
 obtain⟨k,a,h,b⟩:=id d;obtain⟨l,e,_,m,j⟩:=c;unfold Builtin.SmallTypes.nextOf;refine BP (wpAny_callSpecial?_slot (name:=Str.ofString "__next__") d.typeIs F.slot_tuple_iterator_next (wpAny_call_entry F.slot_tuple_iterator_next d.typeIs F.entry_tuple_iterator_next ?_ (F.args_tuple_iterator_next_1 _)));show wpAny _ _ (field (.ref G) 0 >>= _) _ _ s;refine BP (CD a b (x:=.ref z) rfl ?_);show wpAny _ _ (if (Value.ref z==Value.none)=true then _ else _) _ _ s;rw[if_neg (show ¬ ((Value.ref z==Value.none)=true) from Cy)];show wpAny _ _ (field (.ref G) 1 >>= _) _ _ s;refine BP (CD a b (x:=.int i 0) rfl (BP (Dw e j ?_)));simp only[DE,f];refine BP (wpAny_setField a b (by simp) (BS ⟨y,rfl,BS (g _ ?_ (Heap.SameBut.update ..))⟩));exact⟨_,DP _ a (Obj.isFreed_of_fields (Obj.data_mapFields b _)),(Obj.cls_mapFields ..).trans h,by rw[Obj.data_mapFields b];simp[rawInt]⟩
theorem ik (h:A.handled=none) (d:s.heap.IsTupleIter G z i) (c:s.heap.IsTuple z I) (j:I[i]? = none)
    (k:∀h' e,Heap.ExtBut G s.heap h'->(∃o,h'.get? e=some o/\o.cls=.type "StopIteration")->E (.ref e) { s with heap:=h' }):wpAny (model prog w) A (Builtin.SmallTypes.nextOf (.ref G)) Q E s:=by
 obtain⟨n,b,r,f⟩:=id d;obtain⟨q,g,_,p,l⟩:=c;unfold Builtin.SmallTypes.nextOf;refine BP (wpAny_callSpecial?_slot (name:=Str.ofString "__next__") d.typeIs F.slot_tuple_iterator_next (wpAny_call_entry F.slot_tuple_iterator_next d.typeIs F.entry_tuple_iterator_next ?_ (F.args_tuple_iterator_next_1 _)));show wpAny _ _ (field (.ref G) 0 >>= _) _ _ s;refine BP (CD b f (x:=.ref z) rfl ?_);show wpAny _ _ (if (Value.ref z==Value.none)=true then _ else _) _ _ s;rw[if_neg (show ¬ ((Value.ref z==Value.none)=true) from Cy)];show wpAny _ _ (field (.ref G) 1 >>= _) _ _ s;refine BP (CD b f (x:=.int i 0) rfl (BP (Dw g l ?_)));simp only[DE,j];refine BP (wpAny_rule (BP (wpAny_setField b f (by simp) ?_)));show wpAny _ _ (newExc (.type "StopIteration") [] >>= _) _ _ _;refine BP ?_;simp only[newExc,newTuple];refine BP (wpAny_newObj_type (BP (m:=firstArgMember _ _) (wpAny_of_eq (a:=Value.none) (by first | rfl | (simp only[firstArgMember];rfl)) ?_)) (by size_fits));refine wpAny_newObj_type ?_ (by size_fits);simp only[raiseNew];refine BP (wpAny_handled ?_)
 first | rw[show A.in1.handled=none from h] | rw[h]
 refine BP (BS (wpAny_throw (k _ _ (((Heap.SameBut.update ..).extBut.push _).push _) ⟨_,Co _ rfl,rfl⟩)))
theorem Ao (hh:A.handled=none) (jt tt:Addr) (hne:tt≠jt) (its:Array Value) :
    Draws prog w A jt [jt,tt] its.size (λi y=>its[i]? = some y) (λi h=>h.IsTupleIter jt tt i/\h.IsTuple tt its) where
 live:=λi h st=>let ⟨o,e,_⟩:=st.1;⟨o,e⟩
 frame:=λi h h' st k=>⟨let ⟨o,e,r⟩:=st.1;⟨o,k jt (by simp) o e,r⟩,let ⟨o,e,r⟩:=st.2;⟨o,k tt (by simp) o e,r⟩⟩
 item:=λi s Q E hi st hQ=>kw st.1 st.2 (y:=its[i]) (by simp[hi]) λh' j' sb=>hQ _ h' s.toks (by simp[hi]) ⟨j',st.2.extBut sb.extBut hne⟩ sb
 done:=λs Q E st hE=>ik hh st.1 st.2 (by simp) hE
set_option maxHeartbeats 1000000 in
theorem pC (l:Addr) (its:Array Value) (n:Nat) (dct:Option Addr) (sl:Array (OV)) :
    Meets (Builtin.«enumerate.__new__» ⟨[.type "enumerate",.ref l],[]⟩) (λ_ R s=>s.heap.get? l=some { cls:=.type "tuple",dict:=dct,data:=.seq its n,slots:=sl } /\
     R (.ok (.ret (.ref (s.heap.push { cls:=.type "tuple_iterator",data:=.fields #[.ref l,.int 0 0] }).objs.size)))
      { s with heap:=(s.heap.push { cls:=.type "tuple_iterator",data:=.fields #[.ref l,.int 0 0] }).push { cls:=.type "enumerate",data:=.fields #[.none,.bool false,.ref s.heap.objs.size,rawInt 0,.none,.none] } }) :=
 .of_wp λf w A R s h => by
  obtain⟨j,g,k,i,d⟩:=s;obtain⟨a,h⟩:=h;have e:=sub_enumerate;have b:Heap.IsTuple (Shared.heap ⟨j,g,k,i,d⟩) l its:=⟨_,a,rfl,n,rfl⟩
  wp_walk using wpAny_loadPart' a
  refine wpAny_stack_any λm=>BS ?_
  split
  ·rename_i c _ _ _ _ _
   cases (c==Value.type "enumerate")
   ·wp_walk using wpAny_loadPart' a,Dt b
    exact⟨_,rfl,h⟩
   ·wp_walk using wpAny_loadPart' a,Dt b
    exact⟨_,rfl,h⟩
  ·wp_walk using wpAny_loadPart' a,Dt b
   exact⟨_,rfl,h⟩
theorem sf (j:s.heap.IsTuple l z)
    (h:∀h',IsEnum h' (s.heap.objs.size+1) s.heap.objs.size 0 .none->h'.IsTupleIter s.heap.objs.size l 0->(∀b o,s.heap.get? b=some o->h'.get? b=some o)->Q (.ref (s.heap.objs.size+1)) { s with heap:=h' }) :
    wpAny (model prog w) A (call (.type "enumerate") [.ref l]) Q E s:=by
 obtain⟨⟨c,f,p,k⟩,m,e,n,a⟩:=j
 replace e:c=.type "tuple":=e
 replace a:p=.seq z n:=a
 subst e a;refine callType_new F.called_enumerate (by decide) (F.typeCall_enumerate_1 _) (F.newCall_enumerate_1 _) (λd=>F.args_object_init_2 d _) F.entry_enumerate_new (pC l z n f k) ⟨m,?_⟩;have g:(s.heap.push { cls:=.type "tuple_iterator",data:=.fields #[.ref l,.int 0 0] }).objs.size=s.heap.objs.size+1:=Dg ..;show _/\_;rw[g];have i:IsEnum ((s.heap.push { cls:=.type "tuple_iterator",data:=.fields #[.ref l,.int 0 0] }).push { cls:=.type "enumerate",data:=.fields #[.none,.bool false,.ref s.heap.objs.size,rawInt 0,.none,.none] }) (s.heap.objs.size+1) s.heap.objs.size 0 .none:=by
  have:=Co (s.heap.push { cls:=.type "tuple_iterator",data:=.fields #[.ref l,.int 0 0] }) (o:={ cls:=.type "enumerate",data:=.fields #[.none,.bool false,.ref s.heap.objs.size,rawInt 0,.none,.none] }) rfl;rw[g] at this;exact this
 exact⟨⟨_,i,rfl⟩,h _ i ⟨_,Cc _ (Co _ rfl),rfl,rfl⟩ λb o x=>Cc _ (Cc _ x)⟩
end
def Ac (K:W.Frag) (a:Addr):It :=
 ⟨λi H=>∃xs x,SqT K H a xs/\xs[i]? = some x,λi H v H'=>∃p x,H p=none/\v=.ref p/\(∀xs,SqT K H a xs->xs[i]? = some x)/\H'=upd H p (.tup [.int i,x]),λi H=>∃xs,SqT K H a xs/\xs.length<=i⟩
theorem rM {P:Program}{w:World}{K:W.Frag}{elts:List Expr}{k:Nat}{tp:Pos}(a e it:Addr) (hne:e ≠ it) :
    Turn P w K (.Tuple elts k tp) (Ac K a) [e,it] e (λi h=>(∃old,IsEnum h e it i old)/\h.IsTupleIter it a i) where
 mem:=by simp
 obj:=λi h st b hb=>by
  obtain⟨⟨old,he⟩,hit⟩:=st;have hb:b=e∨b=it:=by simpa using hb
  rcases hb with z | z
  ·subst z;exact⟨_,he,λv z=>by cases z⟩
  ·subst z;obtain⟨o,e1,c,d⟩:=hit;exact⟨o,e1,λv z=>by rw[d] at z;cases z⟩
 keep:=λi h h' st kk=>by
  obtain⟨⟨old,he⟩,hit⟩:=st;exact⟨⟨old,kk e (by simp) _ he⟩,let ⟨o,q,r⟩:=hit;⟨o,kk it (by simp) o q,r⟩⟩
 item := by
  intro X hP hw hK hc i pins s σ H E I hf st hg;subst hP hw hK;obtain⟨⟨old,he⟩,hit⟩:=st;obtain⟨xs,x,hq,hx⟩:=hg;obtain⟨its,rv,p,hz⟩:=I.tuple hq;obtain⟨u,hu,ru⟩:=rv.get hx;obtain⟨f0,f1,f2,f3,f4,f5⟩:=hf e (by simp);obtain⟨g0,g1,g2,g3,g4,g5⟩:=hf it (by simp);have hel:e<s.heap.objs.size:=BZ he;have hil:it<s.heap.objs.size:=by obtain⟨o,q,_⟩:=hit;exact BZ q
  have hae:a≠e:=λz=>by
   obtain⟨o,q,c,_⟩:=p;rw[z,he] at q;cases q;simp at c
  have hai:a≠it:=λz=>by
   obtain⟨o,q,c,_⟩:=p;obtain⟨o',q',c',_⟩:=hit;rw[z,q'] at q;cases q;rw[c] at c';simp at c'
  have hul:=(BU.mp hu).1;refine wpAny_pyNext_enum_itemD (Ao (A:=X.A.in1) (show X.A.in1.handled=none from I.ok.hd hc) it a hai its.toArray) he ⟨hit,p⟩ (by simpa using hul) hne (by simp[hne,Ne.symm hae]) λu' h1 tk hu' ho hit1 ht1 hz1 k1=>?_;have eu:u'=u:=by
   have:its[i]? = some u':=by simpa using hu'
   rw[hu] at this;exact(BV this).symm
  subst eu;refine⟨_,rfl,wpAny_letOwnedTupleGo_enum ho λh2 he2 sb2=>?_⟩;have sb2:Heap.SameBut e h1 h2:=sb2;have T2:h2.get? s.heap.objs.size=some { cls:=.type "tuple",data:=.seq #[.int i tk,u'] }:=(sb2.2 _ (Dr hel)).trans ht1;have hp:H s.heap.objs.size=none:=I.hok.fresh (BR _);have nit:∀b v,H b=some v->b≠e/\b≠it:=λb v q=>⟨λz=>(by rw[z,f0] at q;cases q),λz=>(by rw[z,g0] at q;cases q)⟩
  have kk:∀b o,b≠e->b≠it->s.heap.get? b=some o->h2.get? b=some o:=λb o n1 n2 q=>(sb2.2 b n1).trans (k1 b o n1 n2 q);have up:∀b v,H b=some v->upd H s.heap.objs.size (.tup [.int i,x]) b=some v:=λb v q=>by rw[ag (ai q hp)];exact q
  have I1:Inv X pins σ (upd H s.heap.objs.size (.tup [.int i, x])) { s with heap := h2, gens := s.gens, drawn := s.drawn, toks := tk+1 } := by
   refine I.step (g':=s.gens) (d':=s.drawn) (ch:=[e,it]) (λb hb=>?_) (λb o _ _ hb q _=>kk b o (λz=>hb (by simp[z])) (λz=>hb (by simp[z])) q) (λb o _ _ hb q _=>⟨o.slots,kk b o (λz=>hb (by simp[z])) (λz=>hb (by simp[z])) q⟩) (λb o _ q n=>?_)
    (λb o hb q=>⟨o,kk b o (λz=>hb (by simp[z])) (λz=>hb (by simp[z])) q⟩) (λb ys q=>up b _ q) (λb o v q=>up b _ q) (λb ps q=>⟨#[],by rw[up b _ q];simp⟩) (λm hm=>?_) (λb v q=>?_) I.bare
   ·have hb:b=e∨b=it:=by simpa using hb
    rcases hb with z | z
    ·subst z;exact⟨f3,f1,f4,f5⟩
    ·subst z;exact⟨g3,g1,g4,g5⟩
   ·rw[ag (Cp (BZ q))];exact n
   ·obtain⟨o,es,ep,ho,r⟩:=hm;exact⟨o,es,ep,kk _ o (Ne.symm f1) (Ne.symm g1) ho,r⟩
   ·by_cases hb:b=s.heap.objs.size
    ·subst hb;rw[ae] at q;have q':HO.tup [V.int i,x]=v:=BV q;subst q';exact⟨by show 2<=sizeLine;decide,[.int i tk,u'],.cons ⟨_,rfl⟩ (.cons ru .nil),⟨_,T2,rfl,_,rfl,rfl⟩⟩
    ·rw[ag hb] at q;refine(I.hok b v q).stay (λc v' hc q'=>?_) (λc q=>up c _ q) λc ys q=>up c _ q;rcases hc with z | z
     ·rw[z] at q' ⊢;exact kk b v' (nit b v q).1 (nit b v q).2 q'
     ·exact kk c v' (nit c _ z).1 (nit c _ z).2 q'
  refine⟨.ref s.heap.objs.size,upd H s.heap.objs.size (.tup [.int i,x]),I1,rfl,⟨_,x,hp,rfl,λys hy=>by rw[I.tuple_inj hy hq];exact hx,rfl⟩,⟨⟨u',?_⟩,?_⟩,λb hb=>?_⟩
  ·exact(by simpa using he2)
  ·obtain⟨o,q,r⟩:=hit1.1;exact⟨o,(sb2.2 it (Ne.symm hne)).trans q,r⟩
  ·have hb:b=e∨b=it:=by simpa using hb
   rcases hb with z | z
   ·rw[z,ag (Cp hel)];exact f0
   ·rw[z,ag (Cp hil)];exact g0
 done:=by
  intro X hP hw hK hc i pins s σ H E I hf st hg;subst hP hw hK;obtain⟨⟨old,he⟩,hit⟩:=st;obtain⟨xs,hq,hx⟩:=hg;obtain⟨its,rv,p,hz⟩:=I.tuple hq;obtain⟨g0,g1,g2,g3,g4,g5⟩:=hf it (by simp);have hl:=rv.length;have hT:s.TypeIs (.ref e) "enumerate":=⟨_,he,rfl⟩
  unfold pyNext;refine BP (wpAny_attempt (wpAny_callSpecial?_slot (name:=Str.ofString "__next__") hT F.slot_enumerate_next (wpAny_call_entry F.slot_enumerate_next hT F.entry_enumerate_next ?_ (F.args_enumerate_next_1 _))));show wpAny _ _ (field (.ref e) 2 >>= _) _ _ _;refine BP (CD he rfl (x:=.ref it) rfl (BP (ik (I.ok.hd hc) hit p (by simp;omega) λh' x he' hx'=>?_)));obtain⟨o,ho,hc'⟩:=hx';refine BP (wpAny_isInstance (T:="StopIteration") (b:=true) ⟨o,ho,hc'⟩ isSubtype_stop ?_);exact BS ⟨rfl,I.turned (t':=s.toks) (λb o hb q=>he' b o hb q) g0 g1 g3 g4 g5⟩
 self:=λ_ _ _ _ _ st h=>by
  obtain⟨⟨old,he⟩,_⟩:=st;exact wpAny_pyIter_enum he h
inductive EnmR (K:W.Frag) (H:Hp):V->(It->Hp->Prop)->Prop
 | lst {a:Addr} {xs:LV} {R:It->Hp->Prop}:SqL K H a xs->R (Ite K a) H->EnmR K H (.ref a) R
 | tup {a:Addr} {xs:LV} {R:It->Hp->Prop}:SqT K H a xs->R (Ac K a) H->EnmR K H (.ref a) R
def AN (K:W.Frag) (ta:TA):TI:=λσ H R=>ta σ H λvs H1=>∃x,vs=[x]/\EnmR K H1 x R
theorem oV (K:W.Frag) {X:Cx}{elts:List Expr}{k:Nat}{tp:Pos}{a:Expr}{ta:TA}{p pos:Pos}(G:Gl X "enumerate") (y:X.mg "enumerate"=none) (E:PA X [a] ta) (w:autoParam (starEach [a] X.env=[(false,eval a X.env)]) aR9) (L:autoParam (X.K=K) aR9) :
    PI X (.Tuple elts k tp) (.Call (.Name "enumerate" p) [a] [] pos) (AN K ta):=by
 subst L;intro f s D H R I h;refine Call_ (du I G y boot_enumerate (PyProof.Rows.callWith_type1 (thn (E pos f s D H _ I h) λN c ⟨M,n,d,F,C⟩=>?_) w rfl));obtain⟨x,e,q⟩:=C;subst e;obtain⟨u,rfl,v⟩:=cZ F;have i:∀b,b=c.heap.objs.size+1∨b=c.heap.objs.size->ed X f n b:=λb l=>by
  rcases l with z | z
  ·subst z;exact d.fpOk (Dh _) (d.hok.fresh (Dh _))
  ·subst z;exact d.fpOk (BR _) (d.hok.fresh (BR _))
 cases q with
 | lst hq q =>
  cases v;obtain⟨o,B,m,A⟩:=d.list hq;refine call_enumerate_list m.isList λr j g J t=>wpAny_pyIter_enum (s:={ c with heap:=r }) j ?_;exact⟨_,[c.heap.objs.size+1,c.heap.objs.size],_,_,n,rfl,d.kept (t':=c.toks) t,sW _ _ _ (Nat.succ_ne_self _),⟨⟨_,j⟩,g⟩,λb l=>i b (by simpa using l),q⟩
 | tup hq q =>
  cases v;obtain⟨o,B,m,A⟩:=d.tuple hq;refine sf m λr j g t=>wpAny_pyIter_enum (s:={ c with heap:=r }) j ?_;exact⟨_,[c.heap.objs.size+1,c.heap.objs.size],_,_,n,rfl,d.kept (t':=c.toks) t,rM _ _ _ (Nat.succ_ne_self _),⟨⟨_,j⟩,g⟩,λb l=>i b (by simpa using l),q⟩
end L2
namespace L2
open PySem PySem.Spec PyProof.Rows
abbrev Zp (h:Heap) (z TI TO:Addr) (f0:Value) (f1:Bool):Prop:=h.get? z=some { cls:=.type "zip",dict:=none,data:=.fields #[f0,.bool f1,.bool false,.ref TI,.ref TO],slots:=#[] }
def F0 (f0:Value):Prop:=f0=.none∨∃T:Nat,f0=rawInt (T:Int)
def ItI:Bool->Heap->Addr->Addr->Nat->Prop
 | true,h,i,l,k=>h.IsTupleIter i l k
 | false,h,i,l,k=>h.IsListIter i l k
def SqI:Bool->Heap->Addr->Array Value->Prop
 | true,h,l,xs=>h.IsTuple l xs
 | false,h,l,xs=>h.IsList l xs
theorem ItI.at (j:ItI t h i l k) (f:∀o,h.get? i=some o->h'.get? i=some o):ItI t h' i l k:=by
 cases t
 ·exact Heap.IsListIter.at (h:=h) j f
 ·exact Heap.IsTupleIter.at (h:=h) j f
theorem SqI.at (j:SqI t h l xs) (f:∀o,h.get? l=some o->h'.get? l=some o):SqI t h' l xs:=by
 cases t
 ·exact Heap.IsList.at (h:=h) j f
 ·exact Heap.IsTuple.at (h:=h) j f
section
variable {prog:Program}{w:World}{A:Around}{E:QS}{s:Shared}
theorem tN (h:Q (s.heap.get? a) s):wpAny (model prog w) A (loadIfAlive a) Q E s:=λ_ _ _=>h
theorem qz {z TI TO:Addr}{J:Value}{G:Bool}(e:F0 J) (a:Zp s.heap z TI TO J G) {Q:Bool -> Shared -> Prop}(h:∀b I h', Zp h' z TI TO J I -> Heap.SameBut z s.heap h' -> Q b { s with heap := h' }) :
    wpAny (model prog w) A (Builtin.SmallTypes.ownedTupleIsFree (.ref z)) Q E s:=by
 unfold Builtin.SmallTypes.ownedTupleIsFree;rcases e with rfl | ⟨T,rfl⟩
 ·exact BP (CD a rfl (x:=.none) rfl (BS (h true G s.heap a (Heap.SameBut.refl ..))))
 ·refine BP (CD a rfl (x := rawInt (T:Int)) rfl ?_);refine BP (tN ?_);cases s.heap.get? (T:Int).toNat with
  | none=>exact BS (h true G s.heap a (Heap.SameBut.refl ..))
  | some o =>
   show wpAny _ _ (field (.ref z) 1 >>= _) _ _ _;refine BP (CD a rfl (x:=.bool G) rfl ?_);cases G with
   | true=>exact BS (h false true s.heap a (Heap.SameBut.refl ..))
   | false =>
    show wpAny _ _ (setField (.ref z) 1 (.bool true) >>= _) _ _ _;exact BP (Dx a (by simp) λf c d=>BS (h false true f c d))
theorem dC (c:ItI t s.heap z I i) (a:SqI t s.heap I G) (d:G[i]? = some y)
    (b:∀h',ItI t h' z I (i+1)->Heap.SameBut z s.heap h'->Q y { s with heap:=h' }):wpAny (model prog w) A (Builtin.SmallTypes.nextOf (.ref z)) Q E s:=by
 cases t
 ·exact wpAny_nextOf_list_item c a d b
 ·exact kw c a d b
theorem fY (f:A.handled=none) (b:ItI t s.heap G I i) (a:SqI t s.heap I z) (c:z[i]? = none)
    (d:∀h' e,Heap.ExtBut G s.heap h'->(∃o,h'.get? e=some o/\o.cls=.type "StopIteration")->E (.ref e) { s with heap:=h' }):wpAny (model prog w) A (Builtin.SmallTypes.nextOf (.ref G)) Q E s:=by
 cases t
 ·exact wpAny_nextOf_list_end f b a c d
 ·exact ik f b a c d
theorem xB {t1 t2:Bool}{z TI TO I J l1 U:Addr}{k1 k2:Nat}{f0:Value}{f1:Bool}{xs ys:Array Value}{x y a b:Value}{Q:Value -> Shared -> Prop}(D:ZipApart z TI TO I J l1 U) (hf:F0 f0)
    (hz:Zp s.heap z TI TO f0 f1) (a8:IsPair s.heap TI (.ref I) (.ref J)) (P:IsPair s.heap TO a b)
    (h1:ItI t1 s.heap I l1 k1) (h2:ItI t2 s.heap J U k2) (V:SqI t1 s.heap l1 xs) (W:SqI t2 s.heap U ys) (hx:xs[k1]? = some x) (hy:ys[k2]? = some y)
    (hQ:∀h' O G,F0 O->Zp h' z TI TO O G->(∃a b,IsPair h' TO a b)->ItI t1 h' I l1 (k1+1)->ItI t2 h' J U (k2+1)->IsPair h' s.heap.objs.size x y ->
     (∀c o,c≠z->c≠TO->c≠I->c≠J->s.heap.get? c=some o->h'.get? c=some o)->Q (.ref s.heap.objs.size) { s with heap:=h' }) :
    wpAny (model prog w) A (Builtin.«zip.__next__» ⟨[.ref z],[]⟩) (λa3 s'=>∃v,a3=.done (.ret v)/\Q v s') E s:=by
 show wpAny _ _ (field (.ref z) 2 >>= _) _ _ _;refine BP (CD hz rfl (x:=.bool false) rfl ?_);show wpAny _ _ (field (.ref z) 3 >>= _) _ _ _;refine BP (CD hz rfl (x:=.ref TI) rfl (BP (Dw a8 rfl ?_)));refine BP (qz hf hz λa6 G N L F=>?_);have X:N.objs.size=s.heap.objs.size:=F.1;cases a6 with
 | true =>
  simp only[if_true];refine BP (wpAny_rule ?_);refine BP (CD (s:={ s with heap:=N }) L rfl (x:=.ref TO) rfl ?_);refine BP (Dx (s:={ s with heap:=N }) L (by simp) λg1 K R=>?_)
  replace K:Zp g1 z TI TO .ellipsis G:=K
  refine BP ?_;simp only[List.zipIdx_cons,List.zipIdx_nil,DQ,List.forIn_nil];refine BP (BP (wpAny_onRaise ?_));show wpAny _ _ (Builtin.SmallTypes.nextOf (.ref I) >>= _) _ _ _;have up1:∀c o,c≠z->s.heap.get? c=some o->g1.get? c=some o:=λc o n e=>R.extBut _ _ n (F.extBut _ _ n e);refine BP (dC (h1.at λo e=>up1 _ o D.i1z e) (V.at λo e=>up1 _ o D.l1z e) hx λZ j1 f=>BS ?_);have B:IsPair Z TO a b:=f.extBut _ _ D.TOi1 (up1 _ _ D.TOz P);refine BP (Dw B rfl (BP (wpAny_updateSeq_pair B λg3 k r=>?_)))
  replace k:IsPair g3 TO x b:=k
  refine BP (wpAny_letGo (BS (BP (BP (wpAny_onRaise ?_)))));show wpAny _ _ (Builtin.SmallTypes.nextOf (.ref J) >>= _) _ _ _;have C:∀c o,c≠z->c≠I->c≠TO->s.heap.get? c=some o->g3.get? c=some o:=λc o n1 n2 n3 e=>r.extBut _ _ n3 (f.extBut _ _ n2 (up1 _ _ n1 e));refine BP (dC (h2.at λo e=>C _ o D.i2z D.i12.symm D.TOi2.symm e) (W.at λo e=>C _ o D.l2z D.l2i1 D.l2TO e) hy λq j2 d=>BS ?_);have t:IsPair q TO x b:=d.extBut _ _ D.TOi2 k;refine BP (Dw t rfl (BP (wpAny_updateSeq_pair t λg h j=>?_)))
  replace h:IsPair g TO x y:=h
  refine BP (wpAny_letGo (BS (BS ?_)));refine BP (Dw h rfl (BP (wpAny_newTuple ?_)));have M:g.objs.size=s.heap.objs.size:=by rw[j.1,d.1,r.1,f.1,R.1,X]
  have Y:Zp g z TI TO .ellipsis G:=j.extBut _ _ D.TOz.symm (d.extBut _ _ D.i2z.symm (r.extBut _ _ D.TOz.symm (f.extBut _ _ D.i1z.symm K)));have a4:ItI t1 g I l1 (k1+1):=j1.at λo e=>j.extBut _ _ D.TOi1.symm (d.extBut _ _ D.i12 (r.extBut _ _ D.TOi1.symm e));have a5:ItI t2 g J U (k2+1):=j2.at λo e=>j.extBut _ _ D.TOi2.symm e;have a2:∀c o,c≠z->c≠TO->c≠I->c≠J->s.heap.get? c=some o->g.get? c=some o:=λc o p S c3 c4 e=>j.extBut _ _ S (d.extBut _ _ c4 (C _ _ p c3 S e));have u:z<g.objs.size:=BZ Y;show wpAny _ _ (Builtin.SmallTypes.ownedTupleHandOut (.ref z) (.ref g.objs.size) >>= _) _ _ _;refine BP ?_;unfold Builtin.SmallTypes.ownedTupleHandOut;have a7:Zp (g.push { cls:=.type "tuple",data:=.seq #[x,y] }) z TI TO .ellipsis G:=Cc _ Y;refine BP (Dx a7 (by simp) λg7 H a0=>?_)
  replace H:Zp g7 z TI TO (rawInt g.objs.size) G:=H
  refine Dx H (by simp) λg8 l a1=>?_
  replace l:Zp g8 z TI TO (rawInt g.objs.size) false:=l
  have up:∀c o,c≠z->g.get? c=some o->g8.get? c=some o:=λc o p e=>a1.extBut _ _ p (a0.extBut _ _ p (Cc _ e));have i:IsPair g8 g.objs.size x y:=a1.extBut _ _ (Dr u) (a0.extBut _ _ (Dr u) (Co _ rfl));refine BS ⟨_,rfl,?_⟩;show Q (.ref g.objs.size) _;rw[M] at l i ⊢;exact hQ g8 _ _ (.inr ⟨_,rfl⟩) l ⟨x,y,up _ _ D.TOz h⟩ (a4.at λo e=>up _ o D.i1z e) (a5.at λo e=>up _ o D.i2z e) i λc o p S c3 c4 e=>up c o p (a2 c o p S c3 c4 e)
 | false =>
  simp only[Dv,if_false];refine BP ?_;rw[<- Array.forIn_toList];simp only[DQ,List.forIn_nil];refine BP (BP (CC ?_));show wpAny _ _ (Builtin.SmallTypes.nextOf (.ref I) >>= _) _ _ _;have up1:∀c o,c≠z->s.heap.get? c=some o->N.get? c=some o:=λc o n e=>F.extBut _ _ n e;refine BP (dC (s:={ s with heap:=N }) (h1.at λo e=>up1 _ o D.i1z e) (V.at λo e=>up1 _ o D.l1z e) hx λZ j1 f=>BS ?_)
  replace f:Heap.SameBut I N Z:=f
  refine BS (BP (BP (CC ?_)));show wpAny _ _ (Builtin.SmallTypes.nextOf (.ref J) >>= _) _ _ _;have m:∀c o,c≠z->c≠I->s.heap.get? c=some o->Z.get? c=some o:=λc o n1 n2 e=>f.extBut _ _ n2 (up1 _ _ n1 e);refine BP (dC (h2.at λo e=>m _ o D.i2z D.i12.symm e) (W.at λo e=>m _ o D.l2z D.l2i1 e) hy λq j2 d=>BS ?_)
  replace d:Heap.SameBut J Z q:=d
  refine BS (BS ?_);show wpAny _ _ (newTuple [x,y] >>= _) _ _ _;refine BP (wpAny_newTuple (BS ⟨_,rfl,?_⟩));have M:q.objs.size=s.heap.objs.size:=by rw[d.1,f.1,X]
  show Q (.ref q.objs.size) _;have T:∀c o,q.get? c=some o->(q.push { cls:=.type "tuple",data:=.seq #[x,y] }).get? c=some o:=λc o e=>Cc _ e;have i:IsPair (q.push { cls:=.type "tuple",data:=.seq #[x,y] }) q.objs.size x y:=Co _ rfl;rw[M] at i ⊢;exact hQ _ _ _ hf (T _ _ (d.extBut _ _ D.i2z.symm (f.extBut _ _ D.i1z.symm L))) ⟨a,b,T _ _ (d.extBut _ _ D.TOi2 (m _ _ D.TOz D.TOi1 P))⟩ (j1.at λo e=>T _ o (d.extBut _ _ D.i12 e)) (j2.at λo e=>T _ o e) i λc o p S c3 c4 e=>T _ _ (d.extBut _ _ c4 (m _ _ p c3 e))
theorem yV {t1 t2:Bool}{z TI TO G I l1 U:Addr}{k1 k2:Nat}{f0:Value}{f1:Bool}{xs ys:Array Value}{a b:Value}{Q:Fin -> Shared -> Prop}(P:A.handled=none) (D:ZipApart z TI TO G I l1 U) (hf:F0 f0)
    (Y:Zp s.heap z TI TO f0 f1) (a0:IsPair s.heap TI (.ref G) (.ref I)) (T:IsPair s.heap TO a b)
    (O:ItI t1 s.heap G l1 k1) (h2:ItI t2 s.heap I U k2) (j:SqI t1 s.heap l1 xs) (K:SqI t2 s.heap U ys) (m:xs[k1]? = none∨ys[k2]? = none)
    (R:∀h' e,(∀c o,c≠z->c≠TO->c≠G->c≠I->s.heap.get? c=some o->h'.get? c=some o)->(∃o,h'.get? e=some o/\o.cls=.type "StopIteration")->E (.ref e) { s with heap:=h' }) :
    wpAny (model prog w) A (Builtin.«zip.__next__» ⟨[.ref z],[]⟩) Q E s:=by
 show wpAny _ _ (field (.ref z) 2 >>= _) _ _ _;refine BP (CD Y rfl (x:=.bool false) rfl ?_);show wpAny _ _ (field (.ref z) 3 >>= _) _ _ _;refine BP (CD Y rfl (x:=.ref TI) rfl (BP (Dw a0 rfl ?_)));refine BP (qz hf Y λZ y F N J=>?_);cases Z with
 | true =>
  simp only[if_true];refine BP (wpAny_rule ?_);refine BP (CD (s:={ s with heap:=F }) N rfl (x:=.ref TO) rfl ?_);refine BP (Dx (s:={ s with heap:=F }) N (by simp) λg1 l V=>?_)
  replace l:Zp g1 z TI TO .ellipsis y:=l
  refine BP ?_;simp only[List.zipIdx_cons,List.zipIdx_nil,DQ,List.forIn_nil];refine BP (BP (wpAny_onRaise ?_));show wpAny _ _ (Builtin.SmallTypes.nextOf (.ref G) >>= _) _ _ _;have up1:∀c o,c≠z->s.heap.get? c=some o->g1.get? c=some o:=λc o n e=>V.extBut _ _ n (J.extBut _ _ n e);cases hx:xs[k1]? with
  | none =>
   refine BP (fY P (O.at λo e=>up1 _ o D.i1z e) (j.at λo e=>up1 _ o D.l1z e) hx λr e d t=>?_);obtain⟨W,f,g⟩:=t;have M:Zp r z TI TO .ellipsis y:=d _ _ D.i1z.symm l;have B:e≠z:=λq=>by subst q;rw[M] at f;cases f;simp at g
   exact Dx M (by simp) λg3 _ h=>R g3 e (λc o k _ C _ q=>h.extBut _ _ k (d _ _ C (up1 _ _ k q))) ⟨W,h.extBut _ _ B f,g⟩
  | some x =>
   have S:ys[k2]? = none:=by rcases m with q | q;rw[hx] at q;cases q;exact q
   refine BP (dC (O.at λo e=>up1 _ o D.i1z e) (j.at λo e=>up1 _ o D.l1z e) hx λr j1 d=>BS ?_);have p:IsPair r TO a b:=d.extBut _ _ D.TOi1 (up1 _ _ D.TOz T);refine BP (Dw p rfl (BP (wpAny_updateSeq_pair p λg3 a1 h=>?_)));refine BP (wpAny_letGo (BS (BP (BP (wpAny_onRaise ?_)))));show wpAny _ _ (Builtin.SmallTypes.nextOf (.ref I) >>= _) _ _ _;have u:∀c o,c≠z->c≠G->c≠TO->s.heap.get? c=some o->g3.get? c=some o:=λc o X n2 n3 e=>h.extBut _ _ n3 (d.extBut _ _ n2 (up1 _ _ X e));refine BP (fY P (h2.at λo e=>u _ o D.i2z D.i12.symm D.TOi2.symm e) (K.at λo e=>u _ o D.l2z D.l2i1 D.l2TO e) S λg4 e i t=>?_);obtain⟨W,f,g⟩:=t;have H:Zp g4 z TI TO .ellipsis y:=i _ _ D.i2z.symm (h.extBut _ _ D.TOz.symm (d.extBut _ _ D.i1z.symm l));have B:e≠z:=λq=>by subst q;rw[H] at f;cases f;simp at g
   exact Dx H (by simp) λg5 _ L=>R g5 e (λc o k c2 C c4 q=>L.extBut _ _ k (i _ _ c4 (u _ _ k C c2 q))) ⟨W,L.extBut _ _ B f,g⟩
 | false =>
  simp only[Dv,if_false];refine BP ?_;rw[<- Array.forIn_toList];simp only[DQ,List.forIn_nil];refine BP (BP (CC ?_));show wpAny _ _ (Builtin.SmallTypes.nextOf (.ref G) >>= _) _ _ _;have up1:∀c o,c≠z->s.heap.get? c=some o->F.get? c=some o:=λc o n e=>J.extBut _ _ n e;cases hx:xs[k1]? with
  | none =>
   refine BP (fY (s:={ s with heap:=F }) P (O.at λo e=>up1 _ o D.i1z e) (j.at λo e=>up1 _ o D.l1z e) hx λr e d t=>?_);exact R r e (λc o k _ C _ q=>d _ _ C (up1 _ _ k q)) t
  | some x =>
   have S:ys[k2]? = none:=by rcases m with q | q;rw[hx] at q;cases q;exact q
   refine BP (dC (s:={ s with heap:=F }) (O.at λo e=>up1 _ o D.i1z e) (j.at λo e=>up1 _ o D.l1z e) hx λr j1 d=>BS ?_)
   replace d:Heap.SameBut G F r:=d
   refine BS (BP (BP (CC ?_)));show wpAny _ _ (Builtin.SmallTypes.nextOf (.ref I) >>= _) _ _ _;have v:∀c o,c≠z->c≠G->s.heap.get? c=some o->r.get? c=some o:=λc o X n2 e=>d.extBut _ _ n2 (up1 _ _ X e);refine BP (fY P (h2.at λo e=>v _ o D.i2z D.i12.symm e) (K.at λo e=>v _ o D.l2z D.l2i1 e) S λg4 e i t=>?_);exact R g4 e (λc o k c2 C c4 q=>i _ _ c4 (v _ _ k C q)) t
end
theorem gL (c:s.TypeIs (.ref z) "zip")
    (h:wpAny (model prog w) A.in1 (Builtin.«zip.__next__» ⟨[.ref z],[]⟩) (λG s'=>∃v,G=.done (.ret v)/\Q (some v) s') (λe s'=>(∃o,s'.heap.get? (match e with | .ref a=>a | _=>0)=some o/\o.cls=.type "StopIteration")/\(∃a,e=.ref a)/\Q none s') s) :
    wpAny (model prog w) A (pyNext (.ref z)) Q E s:=by
 unfold pyNext;refine BP (wpAny_attempt (wpAny_callSpecial?_slot (name:=Str.ofString "__next__") c F.slot_zip_next (wpAny_call_entry F.slot_zip_next c F.entry_zip_next (CY h (λG s' ⟨v,e,q⟩=>⟨v,e,BS q⟩) λe s' q=>?_) (F.args_zip_next_1 _))));obtain⟨⟨o,f,d⟩,⟨a,rfl⟩,q⟩:=q;exact BP (wpAny_isInstance (T:="StopIteration") (b:=true) ⟨o,f,d⟩ isSubtype_stop (BS q))
def SqK:Bool->W.Frag->Hp->Addr->LV->Prop
 | true,K,H,a,xs=>SqT K H a xs
 | false,K,H,a,xs=>SqL K H a xs
theorem ItI.obj (j:ItI t h i l k):∃o,h.get? i=some o/\∀v,o.data≠.cell v:=by
 cases t
 ·obtain⟨o,e,_,d⟩:Heap.IsListIter h i l k:=j;exact⟨o,e,λv q=>by rw[d] at q;cases q⟩
 ·obtain⟨o,e,_,d⟩:Heap.IsTupleIter h i l k:=j;exact⟨o,e,λv q=>by rw[d] at q;cases q⟩
theorem Inv.sqK (I:Inv X pins σ H s) (h:SqK t X.K H a xs):∃z:LW,Vals xs z/\SqI t s.heap a z.toArray:=by
 cases t
 ·obtain⟨z,r,p,_⟩:=I.list h;exact⟨z,r,p.isList⟩
 ·obtain⟨z,r,p,_⟩:=I.tuple h;exact⟨z,r,p⟩
theorem Inv.sqK_inj (I:Inv X pins σ H s) (h:SqK t X.K H a xs) (h':SqK t X.K H a ys):xs=ys:=by
 cases t
 ·exact I.list_inj h h'
 ·exact I.tuple_inj h h'
def Itg (t1 t2:Bool) (K:W.Frag) (a b:Addr):It :=
 ⟨λi H=>∃xs ys x y,SqK t1 K H a xs/\SqK t2 K H b ys/\xs[i]? = some x/\ys[i]? = some y,
  λi H v H'=>∃p x y,H p=none/\v=.ref p/\(∀xs,SqK t1 K H a xs->xs[i]? = some x)/\(∀ys,SqK t2 K H b ys->ys[i]? = some y)/\H'=upd H p (.tup [x,y]),
  λi H=>∃xs ys,SqK t1 K H a xs/\SqK t2 K H b ys/\(xs.length<=i∨ys.length<=i)⟩
theorem mM {t1 t2:Bool}{P:Program}{w:World}{K:W.Frag}{nm:Str}{tp:Pos}(a b z TI TO i1 i2:Addr) (D:ZipApart z TI TO i1 i2 a b) :
    Turn P w K (.Name nm tp) (Itg t1 t2 K a b) [z,TI,TO,i1,i2] z (λi h=>(∃f0 f1,F0 f0/\Zp h z TI TO f0 f1)/\IsPair h TI (.ref i1) (.ref i2)/\(∃c d,IsPair h TO c d)/\ItI t1 h i1 a i/\ItI t2 h i2 b i) where
 mem:=by simp
 obj:=λi h st c hc=>by
  obtain⟨⟨f0,f1,_,hz⟩,hTI,⟨u,v,hTO⟩,h1,h2⟩:=st;obtain⟨o1,e1,d1⟩:=h1.obj;obtain⟨o2,e2,d2⟩:=h2.obj;have hc:c=z∨c=TI∨c=TO∨c=i1∨c=i2:=by simpa using hc
  rcases hc with rfl | rfl | rfl | rfl | rfl
  ·exact⟨_,hz,λv q=>by cases q⟩
  ·exact⟨_,hTI,λv q=>by cases q⟩
  ·exact⟨_,hTO,λv q=>by cases q⟩
  ·exact⟨_,e1,d1⟩
  ·exact⟨_,e2,d2⟩
 keep:=λi h h' st k=>by
  obtain⟨⟨f0,f1,hf,hz⟩,hTI,⟨u,v,hTO⟩,h1,h2⟩:=st;exact⟨⟨f0,f1,hf,k z (by simp) _ hz⟩,k TI (by simp) _ hTI,⟨u,v,k TO (by simp) _ hTO⟩,h1.at λo e=>k i1 (by simp) o e,h2.at λo e=>k i2 (by simp) o e⟩
 item := by
  intro X hP hw hK hc i pins s σ H E I hf st hg;subst hP hw hK;obtain⟨⟨f0,f1,hf0,hz⟩,hTI,⟨ta,tb,hTO⟩,h1,h2⟩:=st;obtain⟨xs,ys,x,y,hqa,hqb,hx,hy⟩:=hg;obtain⟨its,rv,pa⟩:=I.sqK hqa;obtain⟨jts,rw',pb⟩:=I.sqK hqb;obtain⟨u,hu,ru⟩:=rv.get hx;obtain⟨v,hv,rv'⟩:=rw'.get hy;refine gL ⟨_,hz,rfl⟩ (xB D hf0 hz hTI hTO h1 h2 pa pb (x:=u) (y:=v) (by simpa using hu) (by simpa using hv) λh' f0' f1' hf' hz' hTO' j1 j2 hpr k=>⟨_,rfl,?_⟩);refine BS (s:={ s with heap:=h' }) ?_;have hp:H s.heap.objs.size=none:=I.hok.fresh (BR _);have fr:∀c∈[z,TI,TO,i1,i2],H c=none:=λc hc=>(hf c hc).1;have nit:∀c o,H c=some o->c≠z/\c≠TO/\c≠i1/\c≠i2:=λc o q=>by refine⟨?_,?_,?_,?_⟩ <;> (intro e;rw[e,fr _ (by simp)] at q;cases q)
  have up:∀c o,H c=some o->upd H s.heap.objs.size (.tup [x,y]) c=some o:=λc o q=>by rw[ag (ai q hp)];exact q
  have kk:∀c o,c∉[z,TO,i1,i2]->s.heap.get? c=some o->h'.get? c=some o:=λc o n q=>k c o (λe=>n (by simp[e])) (λe=>n (by simp[e])) (λe=>n (by simp[e])) (λe=>n (by simp[e])) q;have mem5:∀c∈[z,TO,i1,i2],c∈[z,TI,TO,i1,i2]:=λc hc=>by simp at hc ⊢;rcases hc with e | e | e | e <;> simp[e]
  have hlt:∀c∈[z,TI,TO,i1,i2],c<s.heap.objs.size:=λc hc=>by
   have hc:c=z∨c=TI∨c=TO∨c=i1∨c=i2:=by simpa using hc
   rcases hc with rfl | rfl | rfl | rfl | rfl
   ·exact BZ hz
   ·exact BZ hTI
   ·exact BZ hTO
   ·obtain⟨o,e,_⟩:=h1.obj;exact BZ e
   ·obtain⟨o,e,_⟩:=h2.obj;exact BZ e
  have I1:Inv X pins σ (upd H s.heap.objs.size (.tup [x, y])) { s with heap := h', gens := s.gens, drawn := s.drawn, toks := s.toks } := by
   refine I.step (g':=s.gens) (d':=s.drawn) (ch:=[z,TO,i1,i2]) (λc hc=>?_) (λc o _ _ n q _=>kk c o n q) (λc o _ _ n q _=>⟨o.slots,kk c o n q⟩) (λc o _ q n=>?_) (λc o n q=>⟨o,kk c o n q⟩) (λc ys q=>up c _ q) (λc o v q=>up c _ q) (λc ps q=>⟨#[],by rw[up c _ q];simp⟩) (λm hm=>?_) (λc o q=>?_) I.bare
   ·obtain⟨_,g1,_,g3,g4,g5⟩:=hf c (mem5 c hc);exact⟨g3,g1,g4,g5⟩
   ·rw[ag (Cp (BZ q))];exact n
   ·obtain⟨o,es,ep,ho,r⟩:=hm;refine⟨o,es,ep,kk _ o (λn=>?_) ho,r⟩;exact(hf _ (mem5 _ n)).2.1 rfl
   ·by_cases hb:c=s.heap.objs.size
    ·subst hb;rw[ae] at q;have q':HO.tup [x,y]=o:=BV q;subst q';exact⟨by show 2<=sizeLine;decide,[u,v],.cons ru (.cons rv' .nil),⟨_,hpr,rfl,_,rfl,rfl⟩⟩
    ·rw[ag hb] at q;refine(I.hok c o q).stay (λd o' hd q'=>?_) (λd q=>up d _ q) λd ys q=>up d _ q;rcases hd with e | e
     ·rw[e] at q' ⊢;obtain⟨n1,n2,n3,n4⟩:=nit c o q;exact k c o' n1 n2 n3 n4 q'
     ·obtain⟨n1,n2,n3,n4⟩:=nit d _ e;exact k d o' n1 n2 n3 n4 q'
  refine⟨.ref s.heap.objs.size,upd H s.heap.objs.size (.tup [x,y]),I1,rfl,⟨_,x,y,hp,rfl,λzs hz=>by rw[I.sqK_inj hz hqa];exact hx,λzs hz=>by rw[I.sqK_inj hz hqb];exact hy,rfl⟩,⟨⟨f0',f1',hf',hz'⟩,?_,hTO',j1,j2⟩,λc hc=>?_⟩
  ·exact k TI _ D.TIz D.TITO D.TIi1 D.TIi2 hTI
  ·rw[ag (Cp (hlt c hc))];exact fr c hc
 done:=by
  intro X hP hw hK hc i pins s σ H E I hf st hg;subst hP hw hK;obtain⟨⟨f0,f1,hf0,hz⟩,hTI,⟨ta,tb,hTO⟩,h1,h2⟩:=st;obtain⟨xs,ys,hqa,hqb,hxy⟩:=hg;obtain⟨its,rv,pa⟩:=I.sqK hqa;obtain⟨jts,rw',pb⟩:=I.sqK hqb;have l1:=rv.length;have l2:=rw'.length;have hend:its.toArray[i]? = none∨jts.toArray[i]? = none:=by
   rcases hxy with q | q
   ·exact .inl (by simp;omega)
   ·exact .inr (by simp;omega)
  refine gL ⟨_,hz,rfl⟩ (yV (A:=X.A.in1) (show X.A.in1.handled=none from I.ok.hd hc) D hf0 hz hTI hTO h1 h2 pa pb hend λh' e k he=>⟨he,⟨e,rfl⟩,rfl,?_⟩);have fr:∀c∈[z,TI,TO,i1,i2],H c=none:=λc hc=>(hf c hc).1;have nit:∀c o,H c=some o->c≠z/\c≠TO/\c≠i1/\c≠i2:=λc o q=>by refine⟨?_,?_,?_,?_⟩ <;> (intro e;rw[e,fr _ (by simp)] at q;cases q)
  have kk:∀c o,c∉[z,TO,i1,i2]->s.heap.get? c=some o->h'.get? c=some o:=λc o n q=>k c o (λe=>n (by simp[e])) (λe=>n (by simp[e])) (λe=>n (by simp[e])) (λe=>n (by simp[e])) q;have mem5:∀c∈[z,TO,i1,i2],c∈[z,TI,TO,i1,i2]:=λc hc=>by simp at hc ⊢;rcases hc with e | e | e | e <;> simp[e]
  refine I.step (h':=h') (g':=s.gens) (d':=s.drawn) (t':=s.toks) (ch:=[z,TO,i1,i2]) (λc hc=>?_) (λc o _ _ n q _=>kk c o n q) (λc o _ _ n q _=>⟨o.slots,kk c o n q⟩) (λc o _ q n=>n) (λc o n q=>⟨o,kk c o n q⟩) (λc ys q=>q) (λc o v q=>q) (λc ps q=>⟨#[],by rw[q];simp⟩) (λm hm=>?_) (λc o q=>?_) I.bare
  ·obtain⟨_,g1,_,g3,g4,g5⟩:=hf c (mem5 c hc);exact⟨g3,g1,g4,g5⟩
  ·obtain⟨o,es,ep,ho,r⟩:=hm;refine⟨o,es,ep,kk _ o (λn=>?_) ho,r⟩;exact(hf _ (mem5 _ n)).2.1 rfl
  ·refine(I.hok c o q).stay (λd o' hd q'=>?_) (λd q=>q) λd ys q=>q;rcases hd with e | e
   ·rw[e] at q' ⊢;obtain⟨n1,n2,n3,n4⟩:=nit c o q;exact k c o' n1 n2 n3 n4 q'
   ·obtain⟨n1,n2,n3,n4⟩:=nit d _ e;exact k d o' n1 n2 n3 n4 q'
 self:=λA i s Q E st h=>by
  obtain⟨⟨f0,f1,hf0,hz⟩,_⟩:=st;have hT:s.TypeIs (.ref z) "zip":=⟨_,hz,rfl⟩
  refine wpAny_pyIter_slot hT F.slot_zip_iter (wpAny_call_entry F.slot_zip_iter hT F.entry_zip_iter ?_ (F.args_zip_iter_1 _));show wpAny _ _ (ret (.ref z)) _ _ s;exact BS ⟨_,rfl,"zip",_,hT,F.slot_zip_next.lookup,h⟩
def Itz (K:W.Frag) (a b:Addr):It :=
 ⟨λi H=>∃xs ys x y,SqL K H a xs/\SqL K H b ys/\xs[i]? = some x/\ys[i]? = some y,
  λi H v H'=>∃p x y,H p=none/\v=.ref p/\(∀xs,SqL K H a xs->xs[i]? = some x)/\(∀ys,SqL K H b ys->ys[i]? = some y)/\H'=upd H p (.tup [x,y]),
  λi H=>∃xs ys,SqL K H a xs/\SqL K H b ys/\(xs.length<=i∨ys.length<=i)⟩
theorem pf {P:Program}{w:World}{K:W.Frag}{nm:Str}{tp:Pos}(a b z TI TO f e:Addr) (D:ZipApart z TI TO f e a b) :
    Turn P w K (.Name nm tp) (Itz K a b) [z,TI,TO,f,e] z (λi h=>(∃G I,F0 G/\Zp h z TI TO G I)/\IsPair h TI (.ref f) (.ref e)/\(∃c d,IsPair h TO c d)/\h.IsListIter f a i/\h.IsListIter e b i) :=
 mM (t1:=false) (t2:=false) a b z TI TO f e D
def Au (K:W.Frag) (ta:TA):TI:=λσ H R=>ta σ H λvs H1=>∃a b xs ys,vs=[.ref a,.ref b]/\SqL K H1 a xs/\SqL K H1 b ys/\R (Itz K a b) H1
theorem vw (K:W.Frag) {X:Cx}{nm:Str}{tp:Pos}{a b:Expr}{ta:TA}{p pos:Pos}(V:Gl X "zip") (F:X.mg "zip"=none) (U:PA X [a,b] ta) (E:autoParam (starEach [a,b] X.env=(false,eval a X.env)::starEach [b] X.env) aR9) (hpl:autoParam ((backTo pos (starEach [b] X.env)).any (·.1)=false) aR9) (Z:autoParam (X.K=K) aR9) :
    PI X (.Name nm tp) (.Call (.Name "zip" p) [a,b] [] pos) (Au K ta):=by
 subst Z;intro k s S H R I h;refine Call_ (du I V F (show bootBuiltins "zip"=some (.type "zip") by decide +kernel) (PyProof.Rows.callWith_type1 (thn (U pos k s S H _ I h) λus f ⟨vs,L,i,r,N⟩=>?_) E hpl));obtain⟨t,y,xs,ys,e,m,n,q⟩:=N;subst e;obtain⟨u1,u2,rfl,r,D⟩:=eY r;cases r;cases D;obtain⟨Q,rv,A,_⟩:=i.list m;obtain⟨C,O,B,_⟩:=i.list n;have J:t<f.heap.objs.size:=by obtain⟨_,e,_⟩:=A.isList;exact BZ e
 have Y:y<f.heap.objs.size:=by obtain⟨_,e,_⟩:=B.isList;exact BZ e
 refine call_zip_2 A.isList B.isList λg M x l o v _ G=>?_;have T:=pf (P:=X.prog) (w:=X.w) (K:=X.K) (nm:=nm) (tp:=tp) t y _ _ _ _ _ (zipApart_new J Y);have z:(∃f0 f1,F0 f0/\Zp g (f.heap.objs.size+4) (f.heap.objs.size+2) (f.heap.objs.size+3) f0 f1)/\IsPair g (f.heap.objs.size+2) (.ref f.heap.objs.size) (.ref (f.heap.objs.size+1))/\(∃c d,IsPair g (f.heap.objs.size+3) c d)/\g.IsListIter f.heap.objs.size t 0/\g.IsListIter (f.heap.objs.size+1) y 0:=⟨⟨_,_,.inl rfl,M⟩,x,⟨_,_,l⟩,o,v⟩
 refine T.self X.A 0 { f with heap:=g } _ _ z ?_;refine⟨_,_,_,_,L,rfl,i.kept (t':=f.toks) G,T,z,λb u=>?_,q⟩;have u:b=f.heap.objs.size+4∨b=f.heap.objs.size+2∨b=f.heap.objs.size+3∨b=f.heap.objs.size∨b=f.heap.objs.size+1:=by simpa using u
 have j:f.heap.objs.size<=b:=by rcases u with e | e | e | e | e <;> rw[e] <;> first | exact BR _ | exact Ec _ _
 exact i.fpOk j (i.hok.fresh j)
theorem wW {K:W.Frag}{k:Nat}{fr:List Nat}{g:TG}{tc:TT}{te:TE}{σ:St}{H1:Hp}{Q:VK}{a b:Addr}(xs ys:LV) (d:Addr -> Nat -> LV -> St -> Hp -> Prop)
    (h:∀D,H1 D=none->d D 0 [] (eR k fr σ) (upd H1 D (.lst []))/\(∀i z σ' H',i<=(xs.zip ys).length->d D i z σ' H'->H' D=some (.lst z)->SqL K H' a xs/\SqL K H' b ys) /\
     (∀i z σ' H' x y p,(xs.zip ys)[i]? = some (x,y)->d D i z σ' H'->H' D=some (.lst z)->H' p=none->g (.ref p) σ' (upd H' p (.tup [x,y])) λσ2 J=>tc σ2 J λb G =>
      if b=true then te σ2 G λy I=>I D=some (.lst z)/\z.length<sizeLine/\d D (i+1) (z++[y]) σ2 (upd I D (.lst (z++[y]))) else G D=some (.lst z)/\d D (i+1) z σ2 G) /\
     ∀z σ' H',d D (xs.zip ys).length z σ' H'->H' D=some (.lst z)->Q (.ref D) H'):ew k fr g tc te (Itz K a b) σ H1 Q:=by
 intro D B;obtain⟨s,l,t,A⟩:=h D B;refine⟨λi m z σ' H'=>m=(xs.zip ys).length-i/\i<=(xs.zip ys).length/\d D i z σ' H',⟨(xs.zip ys).length,by simp,Cu _,s⟩,?_⟩;rintro i m z σ' H' ⟨rfl,C,p⟩ c;obtain⟨j,f⟩:=l i z σ' H' C p c;have L:(xs.zip ys).length=min xs.length ys.length:=Db;by_cases n:i<(xs.zip ys).length
 ·refine .inr ⟨⟨xs,ys,xs[i]'(by omega),ys[i]'(by omega),j,f,by simp,by simp⟩,d D (i+1),λo σ2 F E=>⟨(xs.zip ys).length-(i+1),by omega,rfl,n,E⟩,λv F H=>?_⟩;obtain⟨q,x,y,u,rfl,w,r,rfl⟩:=H;refine t i z σ' H' x y q ?_ p c u;rw[CO];exact⟨w xs j,r ys f⟩
 ·have e:i=(xs.zip ys).length:=by omega
  subst e;exact .inl ⟨⟨xs,ys,j,f,by omega⟩,A z σ' H' p c⟩
inductive Thg (H:Hp):V->Prop
 | non:Thg H .non
 | bl (b:Bool):Thg H (.bl b)
 | int (i:Int):Thg H (.int i)
 | str {z:Str}:z.length<=sizeLine->Thg H (.str z)
 | lst {a:Addr} {xs:LV}:H a=some (.lst xs)->Thg H (.ref a)
 | tup {a:Addr} {xs:LV}:H a=some (.tup xs)->Thg H (.ref a)
 | dK {a:Addr} {kvs:KV_}:H a=some (.dK kvs)->Thg H (.ref a)
 | dT {a:Addr} {kvs:List (List Key × V)}:H a=some (.dT kvs)->Thg H (.ref a)
def isS:V->Bool
 | .str _=>true
 | _=>false
def isI:V->Bool
 | .int _ | .bl _=>true
 | _=>false
def isB:V->Bool
 | .bl _=>true
 | _=>false
def isL (H:Hp):V->Bool
 | .ref a=>match H a with
  | some (.lst _)=>true
  | _=>false
 | _=>false
def isT (H:Hp):V->Bool
 | .ref a=>match H a with
  | some (.tup _)=>true
  | _=>false
 | _=>false
theorem Bd (e:H a=some (.lst xs)):isL H (.ref a)=true:=by show (match H a with | some (.lst _)=>true | _=>false)=true;rw[e]
theorem zE (e:H a=some (.tup xs)):isT H (.ref a)=true:=by show (match H a with | some (.tup _)=>true | _=>false)=true;rw[e]
theorem lG (e:H a=some o) (n:∀xs,o≠.lst xs):isL H (.ref a)=false:=by
 show (match H a with | some (.lst _)=>true | _=>false)=false;rw[e];split
 ·rename_i xs q;exact absurd (BV q) (n xs)
 ·rfl
theorem kO (e:H a=some o) (n:∀xs,o≠.tup xs):isT H (.ref a)=false:=by
 show (match H a with | some (.tup _)=>true | _=>false)=false;rw[e];split
 ·rename_i xs q;exact absurd (BV q) (n xs)
 ·rfl
theorem ol {K:W.Frag}{H:Hp}{x:V}(h:Thg H x):∃t,TyOf K H x t/\W.kitOne K t (.type "str")=some (isS x)/\W.kitOne K t (.type "int")=some (isI x)/\W.kitOne K t (.type "bool")=some (isB x) /\
    W.kitOne K t (.type "list")=some (isL H x)/\W.kitOne K t (.type "tuple")=some (isT H x):=by
 cases h with
 | non=>exact⟨_,.non,by rfl,by rfl,by rfl,by rfl,by rfl⟩
 | bl b=>exact⟨_,.bl b,by rfl,by rfl,by rfl,by rfl,by rfl⟩
 | int i=>exact⟨_,.int i,by rfl,by rfl,by rfl,by rfl,by rfl⟩
 | str z=>exact⟨_,.str _,by rfl,by rfl,by rfl,by rfl,by rfl⟩
 | lst e=>exact⟨_,.lst e,by rfl,by rfl,by rfl,by rw[Bd e];rfl,by rw[kO e (λ_ z=>by cases z)];rfl⟩
 | tup e=>exact⟨_,.tup e,by rfl,by rfl,by rfl,by rw[lG e (λ_ z=>by cases z)];rfl,by rw[zE e];rfl⟩
 | dK e=>exact⟨_,.dK e,by rfl,by rfl,by rfl,by rw[lG e (λ_ z=>by cases z)];rfl,by rw[kO e (λ_ z=>by cases z)];rfl⟩
 | dT e=>exact⟨_,.dT e,by rfl,by rfl,by rfl,by rw[lG e (λ_ z=>by cases z)];rfl,by rw[kO e (λ_ z=>by cases z)];rfl⟩
def mV (c:Nat):Bool:=decide (97<=c)&&decide (c<=122)
def isNm:V->Bool
 | .str z=>decide (1<=z.length)&&(decide (z.length<=8)&&z.cps.toList.all mV)
 | _=>false
theorem isNm_iff:isNm (.str z)=true ↔ Nm z:=by
 show (decide (1<=z.length)&&(decide (z.length<=8)&&z.cps.toList.all mV))=true ↔ _;rw[CT,CT,decide_eq_true_iff,decide_eq_true_iff,Dn];unfold Nm
 constructor
 ·rintro⟨d,e,a⟩;refine⟨d,e,λc b=>?_⟩;have h:=a c b;unfold mV at h;rw[CT,decide_eq_true_iff,decide_eq_true_iff] at h;exact h
 ·rintro⟨d,e,a⟩;refine⟨d,e,λc b=>?_⟩;unfold mV;rw[CT,decide_eq_true_iff,decide_eq_true_iff];exact a c b
theorem uD (c d:Nat):decide ([c]<[d])=decide (c<d):=by
 by_cases h:c<d
 ·rw[Ca h];exact Ca (List.Lex.rel h)
 ·rw[Ct h];refine Ct λz=>?_;cases z with
  | rel z=>exact h z
  | cons z=>cases z
def pK (e:Str × Str):List Key:=[.inr e.1,.inr e.2]
theorem AU (h:pK e=pK f):e=f:=by
 unfold pK at h;have a:=List.cons.inj h;have b:=List.cons.inj a.2;exact Prod.ext (Sum.inr.inj a.1) (Sum.inr.inj b.1)
section
variable {X:Cx}{p pos p2 pos2:Pos}{e f:Expr}{t:TA}
inductive IntR (H:Hp):V->VK->Prop
 | int {i:Int} {Q:VK}:Q (.int i) H->IntR H (.int i) Q
 | bl {b:Bool} {Q:VK}:Q (.int (if b then 1 else 0)) H->IntR H (.bl b) Q
theorem xO (B:Blt X.mg) (d:PA X [e] t) (f:autoParam (Gl X "int") aR9) (he:autoParam (starEach [e] X.env=(false,eval e X.env)::starEach [] X.env) aR9) (hpl:autoParam ((backTo pos (starEach [] X.env)).any (·.1)=false) aR9) :
    PE X (.Call (.Name "int" p) [e] [] pos) (tCB (λxs H Q=>∃x,xs=[x]/\IntR H x Q) t):=by
 refine fk (r:=λxs H Q=>∃x,xs=[x]/\IntR H x Q) (λa s c H xs b Q I r h=>?_) f B.int PyProof.Rows.boot_int d (by decide) (by decide) he hpl;obtain⟨x,rfl,h⟩:=h;cases h with
 | int q=>exact lT a s c H _ b Q I r (.inl ⟨_,rfl,q⟩)
 | bl q=>exact lT a s c H _ b Q I r (.inr ⟨_,rfl,q⟩)
theorem qw (B:Blt X.mg) (a:autoParam (Gl X "tuple") aR9):PE X (.Name "tuple" p) (tC (.ty "tuple")):=kY a B.tuple (show bootBuiltins "tuple"=some (.type "tuple") by decide +kernel) rfl
end
end L2
namespace MG
variable {es:List (Nat × Nat)}{goal:Nat}
theorem Wy.last (h:Wy es goal k a ws):ws.getLast? = some goal:=by
 induction k generalizing a ws with
 | zero=>rw[h.2,h.1];rfl
 | succ k ih =>
  obtain⟨b,r,rfl,_,w⟩:=h;have:=ih w;cases r with
  | nil=>simp at this
  | cons c r=>rw[List.getLast?_cons_cons];exact this
end MG
namespace L2
open PySem PySem.Spec PyProof.Rows PySem.Builtin PySem.Builtin.Str
theorem om {z:Str}{j:Nat}(h:j<=z.length):(Txt.slice z none (some (j:Int))).length=j:=by
 have e:Txt.slice z none (some (j:Int))=StrLaws.sliceText z none (some (j:Int)):=rfl;rw[e,StrLaws.sliceText_to ⟨by omega,by simp[Str.length] at h ⊢;omega⟩];show (List.take _ _).toArray.size=j;rw[Cq];simp[Str.length] at h ⊢;omega
def Lo (t:Str):Prop:=∀x∈t.cps.toList,97<=x/\x<=122
theorem Lo.nil:Lo "":=λc a=>by
 have a:c∈("":Str).cps.toList:=a;rw[show ("":Str).cps.toList=[] by decide +kernel] at a;cases a
theorem Lo.one (h:97<=c/\c<=122):Lo ⟨#[c]⟩:=λd a=>by
 have:d=c:=by simpa using a
 omega
theorem Lo.app (d:Lo x) (b:Lo y):Lo (x++y):=λc a=>by
 have a:c∈(x.cps++y.cps).toList:=a;rw[Array.toList_append] at a;rcases Cb.mp a with h | h
 ·exact d c h
 ·exact b c h
theorem Lo.slice (h:Lo x) (l u:Option Int):Lo (Txt.slice x l u):=by
 unfold Txt.slice
 split
 ·exact h
 ·intro c a;have a:c∈(List.filterMap (x.cps[·]?) (strSliceIndices l u 1 x.length)).toArray.toList:=a;rw[List.toList_toArray] at a;obtain⟨i,_,e⟩:=DA.mp a;exact h c (by simpa using Array.mem_of_getElem? e)
theorem Lo.joinS (hs:Lo sep):∀ {ys:LS},(∀y∈ys,Lo y)->Lo (Str.join sep ys)
 | [],_=>λc hc=>by
  have hc:c∈(#[]:Array Nat).toList:=hc;simp at hc
 | [y],h=>h y (by simp)
 | y::z::r,h=>by
  show Lo (y++sep++Str.join sep (z::r));exact((h y (by simp)).app hs).app (Lo.joinS hs λx hx=>h x (Cw _ hx))
theorem Lo.join (a:Lo z) (h:∀y∈ys,Lo y):Lo (Txt.join z ys):=by
 unfold Txt.join;rw[StrLaws.glued_eq_join];exact Lo.joinS a h
theorem Lo.nm (h:Lo z) (b:1<=z.length) (a:z.length<=8):Nm z:=⟨b,a,h⟩
def abc (j:Int):Str:=⟨#[97+j.toNat]⟩
theorem zN (a:0<=j) (b:j<26):Lo (abc j):=Lo.one (by omega)
theorem nN (a:0<=j) (c:j<26):atI ("abcdefghijklmnopqrstuvwxyz":Str).cps.toList j=some (97+j.toNat):=by
 obtain⟨k,rfl⟩:=CU a;have b:k<26:=by omega
 exact(by decide +kernel:∀k:Nat,k<26->atI ("abcdefghijklmnopqrstuvwxyz":Str).cps.toList (k:Int)=some (97+(k:Int).toNat)) k b
theorem vX (h:∀y∈ys,y.length=1):(Txt.join "" ys).length=ys.length:=by
 have b:("":Str).length=0:=by decide +kernel
 unfold Txt.join;rw[size_glued,b,Nat.mul_zero,Nat.add_zero]
 induction ys with
 | nil=>rfl
 | cons y r ih =>
  have c:=h y (by simp);have d:=ih λz a=>h z (Cw _ a);simp only[Cv,List.sum_cons,Cs];omega
theorem nV (f:Nat->α) (m:Nat) (h:∀i j,i<j->j<m->f i≠f j):((List.range m).map f).Nodup:=by
 rw[List.nodup_iff_pairwise_ne,List.pairwise_map];refine List.Pairwise.imp_of_mem ?_ (Ed (n:=m));intro a b e d c;exact h a b c (CL.mp d)
theorem sk (f:Nat->α) (i:Nat):(List.range (i+1)).map f=(List.range i).map f++[f i]:=by rw[List.range_succ,BX];rfl
theorem iA:starEach (.Constant c j p::es) env=(false,eval (.Constant c j p) env)::starEach es env:=rfl
end L2
namespace L2
open PySem PySem.Spec PyProof.Rows
section
variable {X:Cx}{p pos p2 pos2:Pos}{e f:Expr}{t:TA}
theorem rN:MtR X "list.extend" kS:=tQ
theorem pj:MtR X "list.reverse" ji:=rP
theorem nE (K:W.Frag) (f:PE X o to) (g:PA X [e] t)
    (c:autoParam (attributeBase o "extend" X.env (eval o X.env)=eval o X.env) aR9)
    (d:autoParam (((backTo cpos (starEach [e] X.env)).all (λx=>!x.1)&&(backToKw cpos (keywordEach [] X.env)).all (λx=>x.1.isSome)
     && decide ([e].length+([]:List Keyword).length+(if ([]:List Keyword).isEmpty then 0 else 1)<30))=true) aR9)
    (b:autoParam ((apos.endLine==cpos.line)=true) aR9) (h:autoParam (starEach [e] X.env=(false,eval e X.env)::starEach [] X.env) aR9) (a:autoParam ((backTo cpos (starEach [] X.env)).any (·.1)=false) aR9) (i:autoParam (X.K=K) aR9) :
    PE X (.Call (.Attribute o "extend" apos) [e] [] cpos) (tBM K "list" kS to t):=i ▸ kf PySem.F.plainAttrs_list PySem.F.slot_list_extend PySem.F.type_list_extend rN f g c d b h a
theorem uu (K:W.Frag) (c:PE X o to) (a:autoParam (attributeBase o "reverse" X.env (eval o X.env)=eval o X.env) aR9) (b:autoParam ((apos.endLine==cpos.line)=true) aR9) (d:autoParam (X.K=K) aR9) :
    PE X (.Call (.Attribute o "reverse" apos) [] [] cpos) (zy K "list" ji to):=d ▸ zZ PySem.F.plainAttrs_list PySem.F.slot_list_reverse PySem.F.type_list_reverse pj c a b
end
theorem iI (xs:LV) (k:Nat):cM xs (some (k:Int)) none=xs.drop k:=by
 unfold cM;rw[HT.sIx_nat,HT.sIx_none];by_cases h:k<=xs.length
 ·rw[Nat.min_eq_left h,Cd (by rw[CV];omega)]
 ·rw[Nat.min_eq_right (by omega),Di (BR _),Di (by omega)];simp
theorem yD (xs:LV) (k:Nat) (h:k<=xs.length):cM xs none (some (k:Int))=xs.take k:=by
 unfold cM;rw[HT.sIx_nat,HT.sIx_none,Nat.min_eq_left h,List.drop_zero,Nat.sub_zero]
theorem sQ {α:Type}{M:Model}{m:Sem (Option α)}{P:α->Shared->Prop}
    (h:wpAny M A m (λr G=>∃u,r=some u/\wpAny M A (pure ():Sem Unit) (λ_ I=>P u I) E G) E s):wpAny M A m (λr G=>∃u,r=some u/\P u G) E s:=by
 intro b p a;exact Sem.wp_mono M b m (λr c G ⟨u,e,q⟩=>⟨u,e,q b c a⟩) (λ_ _ _ z=>z) p s (h b p a)
theorem Inv.atA (I:Inv X pins σ H s) (A':Around) (b:A'.handled=X.A.handled) (a:A'.frames=X.A.frames):Inv { X with A:=A' } pins σ H s :=
 ⟨⟨I.ok.mod,I.ok.kind,I.ok.glob,I.ok.blt,I.ok.above,I.ok.inj,I.ok.has,I.ok.cab,λc=>b.trans (I.ok.hd c),a.trans I.ok.frames,I.ok.stk,I.ok.exf,I.ok.bs,I.ok.bsz,I.ok.noex,I.ok.exfs,I.ok.funs,I.ok.frf⟩,
  I.os,I.bare,I.base,I.loc,I.cell,I.free,I.freeC,I.pin,I.hok,I.len⟩
theorem Inv.ofA (a:X.Ok) (I:Inv { X with A:=A' } pins σ H s):Inv X pins σ H s :=
 ⟨a,I.os,I.bare,I.base,I.loc,I.cell,I.free,I.freeC,I.pin,I.hok,I.len⟩
theorem jX:typeLookup (.type "tuple") "keys"=pure none:=am_miss_of_fast (by decide +kernel)
theorem mO:typeLookup (.type "zip") "keys"=pure none:=am_miss_of_fast (by decide +kernel)
section
variable {prog:Program}{w:World}{A:Around}{E:QS}{s:Shared}
theorem oC 
    (m:s.heap.get? a=some o) (l:o.cls=.type "tuple") (f:o.data=.seq xs k) (n:o.dict=none) (q:A.handled=none)
    (h:∀h' tk,(∀b z,s.heap.get? b=some z->h'.get? b=some z)->Q none { s with heap:=h',toks:=tk }) :
    wpAny (model prog w) A (getAttr? (.ref a) "keys") Q E s:=by
 obtain⟨c,r,v,u⟩:=o;simp only at l f n;subst l f n;obtain⟨t,g,d,tk,x⟩:=s;have p:∀j,(⟨t,g,d,j,x⟩:Shared).TypeIs (.ref a) "tuple":=λ_=>⟨_,m,rfl⟩
 have H:=sub_AttributeError;have B:=F.slot_tuple_getattribute.lookup;have G:=F.slot_tuple_getattribute.bind (.ref a);have I:=am_tuple_getattr_none;unfold getAttr? getAttrBy? getAttrBy
 repeat (any_goals (first | assumption | exact p _ | ((with_reducible show wpAny _ _ (call (Value.builtin "tuple.__getattribute__") _ _) _ _ _);refine call_meets F.slot_tuple_getattribute (p _) am_entry_tuple_getattribute (F.args_tuple_getattribute_2 _ _) (meets_getattribute_miss_tuple a xs k u "keys" _ jX (by decide +kernel)) ⟨m,q,λh' j e i=>?_⟩) | wp_step))
 obtain⟨C,D,y⟩:=i.there;show wpAny _ _ (getattributeRaised _ _ _ _ _ _ _) _ _ _;unfold getattributeRaised
 repeat (any_goals (first | assumption | wp_step))
 exact h _ _ i.keeps
end
namespace DU
theorem entry_loop:entryFor table "dict.update.loop"=some Builtin.«dict.update.loop»:=entryFor_of_fast (by kernel_rfl)
theorem plain_loop:plainId "dict.update.loop"=true:=by decide +kernel
end DU
section
variable {X:Cx}{pins:AO_}{σ:St}{H:Hp}{s:Shared}{a:Addr}{y v:V}{u r:Value}{A:Around}{E:QS}
theorem tU (R:A.units<cLine) (I:Inv X pins σ H s) (g:DPut H a y v H') (K:RelV y u) (G:RelV v r) (h:∀s',Inv X pins σ H' s'->(∀b o,b≠a->s.heap.get? b=some o->s'.heap.get? b=some o)->Q () s') :
    wpAny (model X.prog X.w) A (dictSet a u r) Q E s:=by
 rcases g with⟨f,k,e,p,l,x⟩ | ⟨f,k,b,e,p,F,l,x⟩
 ·subst p x;obtain⟨z,B,S,d,C⟩:=rA I.hok e;have w:S.length<=sizeLine:=by rw[<- d.length];exact z
  have t:(bj f k v).length<=sizeLine:=by have:=bw f k v;omega
  refine wpAny_dictSet_pairs (hsz:=w) (fD K) C λJ i j=>h _ ?_ λb o n q=>j.extBut _ _ n q;have O:∃q,J.get? a=some q:=let ⟨q,_,_,m,_⟩:=i;⟨q,m⟩;exact gO I (by rw[e];exact True.intro) j O (nj t B (d.put k G) i)
 ·subst p x;cases (show u=Value.ref b from K);obtain⟨z,B,U,d,C⟩:=xQ I.hok e;have w:U.length<=sizeLine:=by rw[<- Paired.length d];exact z
  have t:(bj f k v).length<=sizeLine:=by have:=bw f k v;omega
  refine wpAny_dictSet_heap (hsz:=w) R (gH I.hok F) C λJ i j=>h _ ?_ λb o n q=>j.extBut _ _ n q;obtain⟨q,T,P,m,V,M,L,_,N⟩:=i;refine gO I (by rw[e];exact True.intro) j ⟨q,m⟩ ⟨t,B,_,(d.put k F G).keeps λc W D=>?_,q,T,P,m,V,M,L,N⟩;rw[ag (aZ D e (λz=>nomatch z))];exact D
theorem DPut.at_ (g:DPut H a y v H'):(∃o,H a=some o)/\∀b,b≠a->H' b=H b:=by
 rcases g with⟨c,k,e,f,l,d⟩ | ⟨c,k,b,e,f,h,l,d⟩
 ·exact⟨⟨_,e⟩,λb n=>by rw[d,ag n]⟩
 ·exact⟨⟨_,e⟩,λb n=>by rw[d,ag n]⟩
end
theorem lK (T:Turn X.prog X.w X.K (.Name nm tp) J O it tn) (M:X.calm=true) (hu:X.A.units+64<cLine) (d:Addr) (n:Nat) (f:Nat -> Hp -> Prop)
    (go:∀i H,i<n->f i H->J.go i H/\∀x H1,J.yld i H x H1->∃b k v H2,x=.ref b/\SqT X.K H1 b [k,v]/\DPut H1 d k v H2/\f (i+1) H2)
    (g:∀H,f n H->J.stop n H):∀(k i:Nat) (j:Int) (s:Shared) (H:Hp),n-i=k->i<=n->Inv X pins σ H s->(∀b∈O,ed X pins H b)->tn i s.heap->f i H ->
     (∀H' s',Inv X pins σ H' s'->f n H'->R (.ok (.ret .none)) s')->codeAny (model X.prog X.w) X.A.in1 (.builtin "dict.update.loop" ⟨[.ref d,.ref it,rawInt j,.none],[]⟩) R s:=by
 intro k
 induction k with
 | zero =>
  intro i j s H hk hi I l w p t;have B:i=n:=by omega
  subst B;refine codeAny_builtin DU.entry_loop ?_;rw[Around.under_plainId DU.plain_loop _];show wpAny _ X.A.in1.in1 (pyNext (.ref it) >>= _) _ _ s;refine BP (CY (T.done { X with A:=X.A.in1.in1 } rfl rfl rfl M i pins s σ H _ (I.atA _ rfl rfl) l w (g H p)) (λr Q ⟨e,c⟩=>?_) λ_ _ z=>z);subst e;show wpAny _ _ (Builtin.Dict.addKeywords d [] >>= _) _ _ _;exact BP (BS (BS (t H Q (Inv.ofA I.ok c) p)))
 | succ k ih =>
  intro i j s H hk hi I l w p t;have h:i<n:=by omega
  obtain⟨hg,W⟩:=go i H h p;refine codeAny_builtin DU.entry_loop ?_;rw[Around.under_plainId DU.plain_loop _];show wpAny _ X.A.in1.in1 (pyNext (.ref it) >>= _) _ _ s;refine BP (CY (sQ (T.item { X with A:=X.A.in1.in1 } rfl rfl rfl M i pins s σ H _ (I.atA _ rfl rfl) l w hg)) (λr Q ⟨u,e,x,H1,c,rx,yl,U,L⟩=>?_) λ_ _ z=>z);subst e
  replace c:=Inv.ofA I.ok c
  obtain⟨b,kk,v,H2,S,sq,dp,dv⟩:=W x H1 yl;subst S;cases (show u=Value.ref b from rx);obtain⟨a0,rv,pt,hz⟩:=c.tuple sq;obtain⟨P,K,e2,r1,Y⟩:=eY rv;subst e2;obtain⟨o,G,E,m,C⟩:=pt;show wpAny _ _ (holding [Value.ref b] _ >>= _) _ _ _;refine BP (CC ?_);show wpAny _ _ (Sem.tryCatch (Builtin.Dict.pairItems (Value.ref b)) _ >>= _) _ _ _;refine BP (wpAny_tryCatch ?_);unfold Builtin.Dict.pairItems;refine BP (wpAny_typeOf (T:="tuple") ⟨o,G,E⟩ ?_);simp only[show ((Value.type "tuple"==Value.type "list")||(Value.type "tuple"==Value.type "tuple"))=true from rfl,if_true];unfold seqItems?;refine BP (BP (wpAny_load G ?_));rw[C];refine BS (BS ?_);show wpAny _ _ (holding [P,K] (dictSet d P K)) _ _ _;have D:X.A.in1.in1.units<cLine:=by show X.A.units+1+1<cLine;omega
  refine CC (tU D c dp r1 Y λs2 V y=>?_);have N:∀b∈O,b≠d:=λb a q=>by
   obtain⟨o,F⟩:=dp.at_.1;rw[<- q,L b a] at F;cases F
  refine BS ⟨plainId_quiet DU.plain_loop _,ih (i+1) (j+1) s2 H2 (by omega) h V (λb a=>?_) (T.keep _ _ _ U λb a o q=>y b o (N b a) q) dv t⟩;obtain⟨_,f1,f2,Z,f4,f5⟩:=l b a;exact⟨(dp.at_.2 b (N b a)).trans (L b a),f1,f2,Z,f4,f5⟩
theorem Rd.fresh (r:Rd H a u) (b:H l=none):Rd (upd H l o) a u:=by
 have n:a≠l:=λe=>by subst e;rcases r with r | ⟨_,r⟩ <;> rw[b] at r <;> cases r
 unfold Rd;rw[ag n];exact r
theorem SqT.fresh {K:W.Frag}{H:Hp}{a l:Addr}{xs:LV}{o:HO}(r:SqT K H a xs) (b:H l=none):SqT K (upd H l o) a xs:=by
 rcases r with r | r
 ·exact Or.inl (r.fresh b)
 ·exact Or.inr r
theorem wQ [DecidableEq κ]:∀(ps:List (κ × V)) (m:List (κ × V)),(ps.foldl (λm q=>bj m q.1 q.2) m).length<=m.length+ps.length:=by
 intro ps
 induction ps with
 | nil=>intro m;exact BR _
 | cons q r ih =>
  intro m;have b:=ih (bj m q.1 q.2);have a:=bw m q.1 q.2;rw[List.foldl_cons,Cs];omega
def mkK [DecidableEq κ] (ps:List (κ × V)):List (κ × V):=ps.foldl (λm q=>bj m q.1 q.2) []
theorem uI [DecidableEq κ] (ps:List (κ × V)):(mkK ps).length<=ps.length:=by
 have:=wQ ps [];rw[List.length_nil,Nat.zero_add] at this;exact this
theorem nI [DecidableEq κ] (ps:List (κ × V)) (i:Nat) (q:κ × V) (h:ps[i]? = some q):mkK (ps.take (i+1))=bj (mkK (ps.take i)) q.1 q.2:=by
 unfold mkK;rw[Cf,h,List.foldl_append]
 rfl
namespace SP
open PySem.Builtin PySem.Builtin.Str PySem.StrLaws
abbrev one (c:Nat):Str:=⟨#[c]⟩
end SP
end L2
namespace L2
open PySem PySem.Spec PyProof.Rows
section
variable {prog:Program}{w:World}{A:Around}{E:QS}{s:Shared}
theorem jT (hne:t≠it):∀(n i:Nat) (s:Shared) (Q:LW->Shared->Prop),s.heap.IsListIter it t i->s.heap.IsList t items->i+n<=items.size ->
    (∀h',h'.IsListIter it t (i+n)->Heap.SameBut it s.heap h'->Q ((items.toList.drop i).take n) { s with heap:=h' })->wpAny (model prog w) A (draw (.ref it) n) Q E s
 | 0,i,s,Q,hit,_,_,hQ=>by
  show wpAny _ _ (pure []) Q E s;exact BS (by simpa using hQ s.heap hit (Heap.SameBut.refl ..))
 | n+1,i,s,Q,hit,ht,hle,hQ=>by
  have hlt:i<items.size:=by omega
  show wpAny _ _ (pyNext (.ref it) >>= _) Q E s;refine BP (wpAny_pyNext_list_item hit ht (x:=items[i]) (by simp[hlt]) λh₁ hit₁ hs₁=>?_);refine BP (CC (jT hne n (i+1) _ _ hit₁ (ht.at λo e=>hs₁.extBut _ _ hne e) (by omega) λh₂ hit₂ hs₂=>BS ?_));have hd:items.toList.drop i=items[i]::items.toList.drop (i+1):=by simp[Dy,hlt]
  have:=hQ h₂ (by rw[show i+(n+1)=i+1+n by omega];exact hit₂) (hs₁.trans hs₂);rw[hd,List.take_succ_cons] at this;exact this
theorem jb (r:A.handled=none) (j:s.heap.IsList t items)
    (q:∀h',Heap.ExtBut s.heap.objs.size s.heap h'->Q items.toList { s with heap:=h' }):wpAny (model prog w) A (unpackItems (.ref t) items.size none) Q E s:=by
 have k:t≠s.heap.objs.size:=by obtain⟨o,l,_⟩:=j;exact Cp (BZ l)
 have n:s.TypeIs (.ref t) "list":=by obtain⟨o,l,p,_⟩:=j;exact⟨o,l,p⟩
 unfold unpackItems;refine BP ?_
 ·unfold notIterableAtAll;refine BP (wpAny_specialOf n F.slot_list_iter.lookup ?_);refine BS ?_;simp only[Dv,if_false];refine BP (CC (wpAny_pyIter_list j ?_));refine BP (CC (jT k items.size 0 _ _ ⟨_,Co _ rfl,rfl,rfl⟩ (j.at λo e=>Cc _ e) (by omega) λi c a=>?_));have h:List.take items.size (List.drop 0 items.toList)=items.toList:=by rw[List.drop_zero];exact Cd (by simp)
  rw[h];rw[if_neg (by simp)];have f:i.IsList t items:=j.at λo e=>a.extBut _ _ k (Cc _ e);refine BP (CC (wpAny_pyNext_list_end r c f (by simp) λg d=>?_));simp only[Option.isSome_none,Dv,if_false];refine BS (q g λb o m e=>d b o m (a.extBut b o m (Cc _ e)))
end
def Ah (K:W.Frag) (n:Nat) (t:TGs):TG:=λv σ H Q=>∃a xs,v=.ref a/\SqL K H a xs/\xs.length=n/\t xs σ H Q
theorem ze (K:W.Frag) (y:X.calm=true) (h:PGs X es t)
    (w:autoParam ((assignEach es X.env).length=n) aR9) (g:autoParam ((assignEach es X.env).findIdx? (·.1)=none) aR9) (C:autoParam (X.K=K) aR9):PG X (.Tuple es k pos) (Ah K n t):=by
 subst C;intro c s j H v u Q I r d;obtain⟨a,A,m,x,p,d⟩:=d;subst m;cases r;obtain⟨f,i,q,D⟩:=I.list x;rw[assign_Tuple];refine BP (wpAny_standAt ?_);unfold unpack;rw[show (assignEach es X.env).length=f.toArray.size by simp[w,<- p,i.length],g];refine BP (CC (jb (I.ok.hd y) q.isList λB z=>?_));have l:Inv X c j H { s with heap:=B }:=I.kept (t':=s.toks) λb o e=>z b o (Cp (BZ e)) e;exact h c _ j H A _ Q l (by simpa using i) d
end L2
namespace MG
variable {es:List (Nat × Nat)}{goal:Nat}
theorem Wy.split (h:Wy es goal k a ws):ws=ws.dropLast++[goal]:=by
 have c:=h.last;have b:ws≠[]:=λz=>by rw[z] at c;cases c
 have e:=List.dropLast_concat_getLast b;rw[List.getLast?_eq_getLast b] at c;rw[BV c] at e;exact e.symm
end MG
set_option maxHeartbeats 400000
namespace L2
open PySem PySem.Spec PyProof.Rows
theorem kr (r:s.heap.IsList l items) (y:s.heap.IsList b z) (hsz:(items.size != z.size)=true) (t:A.units<cLine) (h:Q (Value.bool true) s):wpAny (model prog w) A (compareOp CmpOp.NotEq (Value.ref l) (Value.ref b)) Q E s:=by
 obtain⟨⟨k,u,g,v⟩,p,m,n,o⟩:=id r;obtain⟨⟨f,j,c,i⟩,e,a,q,d⟩:=id y;have m:k=.type "list":=m;have o:g=.seq items n:=o;have a:f=.type "list":=a;have d:c=.seq z q:=d;subst m o a d;show wpAny (model prog w) A (richCompare CmpOp.NotEq (Value.ref l) (Value.ref b)) Q E s;refine richCompare_meets_room ⟨_,p,rfl⟩ ⟨_,e,rfl⟩ F.slot_list_ne F.entry_list_ne (F.args_list_ne_2 _ _) (SeqAt.list_ne_lengthsAt l b items z n q u j v i hsz) ⟨p,e,?_⟩ t;exact⟨(λx=>nomatch x),h⟩
section
variable {X:Cx}
def By (neg:Bool):V->V->Hp->VK->Prop:=λx y H Q=>∃p xs ds d,y=.ref p/\H p=some (.tup xs)/\RepAll H xs ds/\Rep H x d/\PyData.canLayAll0 ds=true/\d.canLay0=true/\d.depth<=16/\Q (.bl (if neg then !(ds.any λe=>PyData.eqv e d) else ds.any λe=>PyData.eqv e d)) H
theorem fF (t:X.A.units+64<cLine):OpR X (compareOp .In) (By false):=by
 intro g s z H x y v u Q I n o h;obtain⟨p,xs,A,d,rfl,e,i,r,j,c,dp,q⟩:=h;cases o;obtain⟨b,f,l,_⟩:=I.tuple (a:=p) (xs:=xs) (.of e);obtain⟨B,m⟩:=r.reads I.hok n;refine SeqAt.in_tupleAt (λu=>PyData.eqv (SeqAt.readOf s.heap u) d) l (λw k=>fu (x:=x) I.hok m c (by show X.A.units+1+d.depth<cLine;omega) i f j w (by simpa using k)) ⟨.bl _,H,I,rfl,?_⟩;rw[show b.toArray.any (λu=>PyData.eqv (SeqAt.readOf s.heap u) d)=b.any (λu=>PyData.eqv (SeqAt.readOf s.heap u) d) by simp,fv I.hok i f j];exact q
end
end L2
set_option maxHeartbeats 4000000
namespace L2
open PySem PySem.Spec PyProof.Rows
section
variable {prog:Program}{w:World}{A:Around}{E:QS}{s:Shared}
abbrev zq1 (h:Heap) (l:Addr):Heap:=h.push { cls:=.type "tuple_iterator",data:=.fields #[.ref l,.int 0 0] }
abbrev zq2 (h:Heap) (l m:Addr):Heap:=(zq1 h l).push { cls:=.type "list_iterator",data:=.fields #[.ref m,.int 0 0] }
abbrev zq3 (h:Heap) (l m:Addr):Heap:=(zq2 h l m).push { cls:=.type "tuple",data:=.seq #[.ref h.objs.size,.ref (zq1 h l).objs.size] }
abbrev zq4 (h:Heap) (l m:Addr):Heap:=(zq3 h l m).push { cls:=.type "tuple",data:=.seq #[.none,.none] }
abbrev zq5 (h:Heap) (l m:Addr):Heap:=(zq4 h l m).push { cls:=.type "zip",data:=.fields #[.none,.bool false,.bool false,.ref (zq2 h l m).objs.size,.ref (zq3 h l m).objs.size] }
theorem si (l m:Addr) (xs ys:Array Value):Meets (Builtin.«zip.__new__» ⟨[.type "zip",.ref l,.ref m],[]⟩) (λ_ R s=>s.heap.IsTuple l xs/\s.heap.IsList m ys/\R (.ok (.ret (.ref (zq4 s.heap l m).objs.size))) { s with heap:=zq5 s.heap l m }) :=
 .of_wp λg w A R s h=>by
  obtain⟨d,b,e,c,a⟩:=s;obtain⟨k,n,h⟩:=h;have f:=sub_zip;have i:Heap.IsTuple (Shared.heap ⟨d,b,e,c,a⟩) l xs:=k;have j:Heap.IsList (Shared.heap ⟨zq1 d l,b,e,c,a⟩) m ys:=Heap.IsList.push n _
  wp_walk using Dt i,wpAny_pyIter_list j
  exact⟨_,rfl,h⟩
theorem uF (v:s.heap.IsTuple l xs) (u:s.heap.IsList m ys)
    (h:∀h',Zp h' (s.heap.objs.size+4) (s.heap.objs.size+2) (s.heap.objs.size+3) .none false->IsPair h' (s.heap.objs.size+2) (.ref s.heap.objs.size) (.ref (s.heap.objs.size+1))->IsPair h' (s.heap.objs.size+3) .none .none ->
     h'.IsTupleIter s.heap.objs.size l 0->h'.IsListIter (s.heap.objs.size+1) m 0->(∀c o,s.heap.get? c=some o->h'.get? c=some o)->Q (.ref (s.heap.objs.size+4)) { s with heap:=h' }) :
    wpAny (model prog w) A (call (.type "zip") [.ref l,.ref m]) Q E s:=by
 have a:(zq1 s.heap l).objs.size=s.heap.objs.size+1:=Dg ..;have b:(zq2 s.heap l m).objs.size=s.heap.objs.size+2:=(Dg ..).trans (by rw[a]);have e:(zq3 s.heap l m).objs.size=s.heap.objs.size+3:=(Dg ..).trans (by rw[b]);have r:(zq4 s.heap l m).objs.size=s.heap.objs.size+4:=(Dg ..).trans (by rw[e]);have i:∀ {c:Addr} {o:Obj},(zq4 s.heap l m).get? c=some o->(zq5 s.heap l m).get? c=some o:=λq=>Cc _ q;have g:∀ {c:Addr} {o:Obj},(zq3 s.heap l m).get? c=some o->(zq5 s.heap l m).get? c=some o:=λq=>i (Cc _ q);have p:∀ {c:Addr} {o:Obj},(zq2 s.heap l m).get? c=some o->(zq5 s.heap l m).get? c=some o:=λq=>g (Cc _ q);have j:∀ {c:Addr} {o:Obj},(zq1 s.heap l).get? c=some o->(zq5 s.heap l m).get? c=some o:=λq=>p (Cc _ q);have d:(zq5 s.heap l m).get? (zq4 s.heap l m).objs.size=some { cls:=.type "zip",data:=.fields #[.none,.bool false,.bool false,.ref (zq2 s.heap l m).objs.size,.ref (zq3 s.heap l m).objs.size] }:=Co _ rfl;have f:=i (Co (zq3 s.heap l m) (o:={ cls:=.type "tuple",data:=.seq #[.none,.none] }) rfl);have k:=g (Co (zq2 s.heap l m) (o:={ cls:=.type "tuple",data:=.seq #[.ref s.heap.objs.size,.ref (zq1 s.heap l).objs.size] }) rfl);have n:=p (Co (zq1 s.heap l) (o:={ cls:=.type "list_iterator",data:=.fields #[.ref m,.int 0 0] }) rfl);have t:=j (Co s.heap (o:={ cls:=.type "tuple_iterator",data:=.fields #[.ref l,.int 0 0] }) rfl);rw[b,e,r] at d;rw[e] at f;rw[a,b] at k;rw[a] at n;refine callType_new F.called_zip (by decide) (F.typeCall_zip_2 _ _) (F.newCall_zip_2 _ _) (λx=>F.args_object_init_3 x _ _) F.entry_zip_new (si l m xs ys) ⟨v,u,?_⟩;show _/\_;rw[r];exact⟨⟨_,d,rfl⟩,h _ d k f ⟨_,t,rfl,rfl⟩ ⟨_,n,rfl,rfl⟩ λc o q=>j (Cc _ q)⟩
theorem jx:typeLookup (.type "zip") "__getattr__"=pure none:=by rw[typeLookup_type,builtinLookup_eq_fast];kernel_rfl
theorem gn:entryFor table "zip.__getattribute__"=some Builtin.«object.__getattribute__» :=
 entryFor_alias (id':="object.__getattribute__") (by kernel_rfl) (by decide +kernel) (by decide +kernel) (by kernel_rfl)
theorem kX (a:Addr) (fs:Array Value) (sl:Array (OV)) (u:Tok) :
    Meets (Builtin.«object.__getattribute__» ⟨[.ref a,.str "keys" u],[]⟩) (λA R s=>s.heap.get? a=some { cls:=.type "zip",dict:=none,data:=.fields fs,slots:=sl }/\raisesAttr (.ref a) "keys" A R s) :=
 Meets.of_wp λf w A R s b=>by
  obtain⟨j,h,k,i,d⟩:=s;obtain⟨g,b⟩:=b;have l:(⟨j,h,k,i,d⟩:Shared).TypeIs (.ref a) "zip":=⟨_,g,rfl⟩
  have e:=mO;have c:(["__module__","__name__","__qualname__","__doc__","__annotations__"]:LS).contains ("keys":Str)=false:=by decide +kernel
  unfold Builtin.«object.__getattribute__»
  repeat any_goals first | assumption | wp_step
  exact wpAny_raiseAttrError b.1 b.2 (attrMsg_fits (name:="keys") (by decide +kernel) (by size_fits))
theorem rZ 
    (k:s.heap.get? a=some o) (j:o.cls=.type "zip") (d:o.data=.fields fs) (l:o.dict=none) (p:A.handled=none)
    (h:∀h' tk,(∀b z,s.heap.get? b=some z->h'.get? b=some z)->Q none { s with heap:=h',toks:=tk }) :
    wpAny (model prog w) A (getAttr? (.ref a) "keys") Q E s:=by
 obtain⟨c,q,u,t⟩:=o;simp only at j d l;subst j d l;obtain⟨n,r,v,x,i⟩:=s;have m:∀g,(⟨n,r,v,g,i⟩:Shared).TypeIs (.ref a) "zip":=λ_=>⟨_,k,rfl⟩
 have H:=sub_AttributeError;have B:=F.slot_zip_getattribute.lookup;have G:=F.slot_zip_getattribute.bind (.ref a);have I:=jx;unfold getAttr? getAttrBy? getAttrBy
 repeat (any_goals (first | assumption | exact m _ | ((with_reducible show wpAny _ _ (call (Value.builtin "zip.__getattribute__") _ _) _ _ _);refine call_meets F.slot_zip_getattribute (m _) gn (F.args_zip_getattribute_2 _ _) (kX a fs t _) ⟨k,p,λh' g e f=>?_⟩) | wp_step))
 obtain⟨C,D,y⟩:=f.there;show wpAny _ _ (getattributeRaised _ _ _ _ _ _ _) _ _ _;unfold getattributeRaised
 repeat (any_goals (first | assumption | wp_step))
 exact h _ _ f.keeps
end
def nY (K:W.Frag) (a b:Addr):It :=
 ⟨λi H=>∃xs ys x y,SqT K H a xs/\SqL K H b ys/\xs[i]? = some x/\ys[i]? = some y,
  λi H v H'=>∃p x y,H p=none/\v=.ref p/\(∀xs,SqT K H a xs->xs[i]? = some x)/\(∀ys,SqL K H b ys->ys[i]? = some y)/\H'=upd H p (.tup [x,y]),
  λi H=>∃xs ys,SqT K H a xs/\SqL K H b ys/\(xs.length<=i∨ys.length<=i)⟩
theorem Rd.same' (r:Rd H a u) (s:Same H H'):Rd H' a u:=by
 rcases r with r | ⟨o,r⟩
 ·exact .inl (s _ _ r)
 ·exact .inr ⟨o,s _ _ r⟩
theorem SqL.same' {K:W.Frag}{H H':Hp}{a:Addr}{xs:LV}(r:SqL K H a xs) (s:Same H H'):SqL K H' a xs:=by
 rcases r with r | r
 ·exact .inl (r.same' s)
 ·exact .inr r
def ci (ks:LS) (ys:LV):KV_:=(ks.map Sum.inr).zip ys
theorem tZ {kvs:KV_}{k:Key}(h:k∉kvs.map (·.1)):bj kvs k v=kvs++[(k,v)]:=by
 unfold bj;rw[if_neg];intro z;obtain⟨a,b,e⟩:=Eb.mp z;exact h (BY.mpr ⟨a,b,Ch e⟩)
theorem qt:∀(ks:LS) (ys:LV), ks.Nodup -> mkK (ci ks ys)=ci ks ys := by
 have a:∀(ks:LS) (ys:LV) (m:KV_), ks.Nodup -> (∀k ∈ ks, (Sum.inr k:Key) ∉ m.map (·.1)) -> (ci ks ys).foldl (λm q => bj m q.1 q.2) m=m ++ ci ks ys := by
  intro ks
  induction ks with
  | nil=>intro ys m _ _;unfold ci;simp
  | cons k ks ih =>
   intro ys m b c;cases ys with
   | nil=>unfold ci;simp
   | cons y ys =>
    obtain⟨f,g⟩:=CI.mp b;have e:ci (k::ks) (y::ys)=(.inr k,y)::ci ks ys:=rfl;rw[e,List.foldl_cons];show List.foldl _ (bj m (.inr k) y) _=_;rw[tZ (c k (by simp)),ih ys _ g (λx d=>?_)]
    ·simp
    ·rw[BX,Cb];rintro (z | z)
     ·exact c x (Cw _ d) z
     ·have:(Sum.inr x:Key)=Sum.inr k:=by simpa using z
      exact f (Sum.inr.inj this ▸ d)
 intro ks ys b;unfold mkK;rw[a ks ys [] b (λk _ h=>by cases h)]
 rfl
theorem ju:∀ {ks:LS}{ys:LV}{i:Nat}{k:Str}{y:V},ks.Nodup->ks[i]? = some k->ys[i]? = some y->aD (ci ks ys) (.inr k)=some y
 | [],_,_,_,_,_,h,_=>by simp at h
 | k::ks,[],_,_,_,_,_,h=>by simp at h
 | k::ks,y::ys,0,k',y',nd,h1,h2=>by
  have e1:k=k':=by simpa using h1
  have e2:y=y':=by simpa using h2
  subst e1 e2;exact cv (p:=(Sum.inr k,y)) rfl
 | k::ks,y::ys,i+1,k',y',nd,h1,h2=>by
  obtain⟨n1,n2⟩:=CI.mp nd;have h1:ks[i]? = some k':=by simpa using h1
  have h2:ys[i]? = some y':=by simpa using h2
  have ne:¬ (Sum.inr k:Key)=Sum.inr k':=λz=>n1 (by rw[Sum.inr.inj z];exact BW h1);show aD ((Sum.inr k,y)::ci ks ys) _=_;rw[cw ne];exact ju n2 h1 h2
theorem once {G T:Prop}(m:T->G) (t:T):G:=m t
end L2
namespace MG
def mx:List Int->Int
 | []=>0
 | x::l=>max x (mx l)
def dp (es:List (Nat × Nat)) (W:Nat->Int):Nat->Nat->Int
 | 0,_=>0
 | k+1,v=>W v+mx ((es.filter λe=>decide (e.2=v)).map λe=>dp es W k e.1)
end MG
namespace L2
open PySem PySem.Spec PyProof.Rows
section
variable {prog:Program}{w:World}{A:Around}{E:QS}{s:Shared}
abbrev jm (h:Heap) (l:Addr):Heap:=h.push { cls:=.type "tuple_iterator",data:=.fields #[.ref l,.int 0 0] }
abbrev kQ (h:Heap) (l m:Addr):Heap:=(jm h l).push { cls:=.type "tuple_iterator",data:=.fields #[.ref m,.int 0 0] }
abbrev kW (h:Heap) (l m:Addr):Heap:=(kQ h l m).push { cls:=.type "tuple",data:=.seq #[.ref h.objs.size,.ref (jm h l).objs.size] }
abbrev nt (h:Heap) (l m:Addr):Heap:=(kW h l m).push { cls:=.type "tuple",data:=.seq #[.none,.none] }
abbrev lu (h:Heap) (l m:Addr):Heap:=(nt h l m).push { cls:=.type "zip",data:=.fields #[.none,.bool false,.bool false,.ref (kQ h l m).objs.size,.ref (kW h l m).objs.size] }
theorem pz (l m:Addr) (xs ys:Array Value):Meets (Builtin.«zip.__new__» ⟨[.type "zip",.ref l,.ref m],[]⟩) (λ_ R s=>s.heap.IsTuple l xs/\s.heap.IsTuple m ys/\R (.ok (.ret (.ref (nt s.heap l m).objs.size))) { s with heap:=lu s.heap l m }) :=
 .of_wp λg w A R s h=>by
  obtain⟨d,b,e,c,a⟩:=s;obtain⟨k,n,h⟩:=h;have f:=sub_zip;have i:Heap.IsTuple (Shared.heap ⟨d,b,e,c,a⟩) l xs:=k;have j:Heap.IsTuple (Shared.heap ⟨jm d l,b,e,c,a⟩) m ys:=Heap.IsTuple.push n _
  wp_walk using Dt i,Dt j
  exact⟨_,rfl,h⟩
theorem sv (v:s.heap.IsTuple l xs) (u:s.heap.IsTuple m ys)
    (h:∀h',Zp h' (s.heap.objs.size+4) (s.heap.objs.size+2) (s.heap.objs.size+3) .none false->IsPair h' (s.heap.objs.size+2) (.ref s.heap.objs.size) (.ref (s.heap.objs.size+1))->IsPair h' (s.heap.objs.size+3) .none .none ->
     h'.IsTupleIter s.heap.objs.size l 0->h'.IsTupleIter (s.heap.objs.size+1) m 0->(∀c o,s.heap.get? c=some o->h'.get? c=some o)->Q (.ref (s.heap.objs.size+4)) { s with heap:=h' }) :
    wpAny (model prog w) A (call (.type "zip") [.ref l,.ref m]) Q E s:=by
 have a:(jm s.heap l).objs.size=s.heap.objs.size+1:=Dg ..;have b:(kQ s.heap l m).objs.size=s.heap.objs.size+2:=(Dg ..).trans (by rw[a]);have e:(kW s.heap l m).objs.size=s.heap.objs.size+3:=(Dg ..).trans (by rw[b]);have r:(nt s.heap l m).objs.size=s.heap.objs.size+4:=(Dg ..).trans (by rw[e]);have i:∀ {c:Addr} {o:Obj},(nt s.heap l m).get? c=some o->(lu s.heap l m).get? c=some o:=λq=>Cc _ q;have g:∀ {c:Addr} {o:Obj},(kW s.heap l m).get? c=some o->(lu s.heap l m).get? c=some o:=λq=>i (Cc _ q);have p:∀ {c:Addr} {o:Obj},(kQ s.heap l m).get? c=some o->(lu s.heap l m).get? c=some o:=λq=>g (Cc _ q);have j:∀ {c:Addr} {o:Obj},(jm s.heap l).get? c=some o->(lu s.heap l m).get? c=some o:=λq=>p (Cc _ q);have d:(lu s.heap l m).get? (nt s.heap l m).objs.size=some { cls:=.type "zip",data:=.fields #[.none,.bool false,.bool false,.ref (kQ s.heap l m).objs.size,.ref (kW s.heap l m).objs.size] }:=Co _ rfl;have f:=i (Co (kW s.heap l m) (o:={ cls:=.type "tuple",data:=.seq #[.none,.none] }) rfl);have k:=g (Co (kQ s.heap l m) (o:={ cls:=.type "tuple",data:=.seq #[.ref s.heap.objs.size,.ref (jm s.heap l).objs.size] }) rfl);have n:=p (Co (jm s.heap l) (o:={ cls:=.type "tuple_iterator",data:=.fields #[.ref m,.int 0 0] }) rfl);have t:=j (Co s.heap (o:={ cls:=.type "tuple_iterator",data:=.fields #[.ref l,.int 0 0] }) rfl);rw[b,e,r] at d;rw[e] at f;rw[a,b] at k;rw[a] at n;refine callType_new F.called_zip (by decide) (F.typeCall_zip_2 _ _) (F.newCall_zip_2 _ _) (λx=>F.args_object_init_3 x _ _) F.entry_zip_new (pz l m xs ys) ⟨v,u,?_⟩;show _/\_;rw[r];exact⟨⟨_,d,rfl⟩,h _ d k f ⟨_,t,rfl,rfl⟩ ⟨_,n,rfl,rfl⟩ λc o q=>j (Cc _ q)⟩
end
def sj (K:W.Frag) (a b:Addr):It :=
 ⟨λi H=>∃xs ys x y,SqT K H a xs/\SqT K H b ys/\xs[i]? = some x/\ys[i]? = some y,
  λi H v H'=>∃p x y,H p=none/\v=.ref p/\(∀xs,SqT K H a xs->xs[i]? = some x)/\(∀ys,SqT K H b ys->ys[i]? = some y)/\H'=upd H p (.tup [x,y]),
  λi H=>∃xs ys,SqT K H a xs/\SqT K H b ys/\(xs.length<=i∨ys.length<=i)⟩
section
variable {X:Cx}
def zK (K:W.Frag):R2:=λx y H Q=>∃a b xs ys,x=.ref a/\y=.ref b/\SqT K H a xs/\SqT K H b ys/\xs.length+ys.length<=sizeLine /\
 (xs=[]->Q (.ref b) H)/\(xs≠[]->ys=[]->Q (.ref a) H)/\(xs≠[]->ys≠[]->∀p,H p=none->Q (.ref p) (upd H p (.tup (xs++ys))))
theorem vT (K:W.Frag) (U:autoParam (X.K=K) aR9):OpR X (binaryOp .Add) (zK K):=by
 subst U;intro f s N H x y v u Q I q C h;obtain⟨a,b,t,T,rfl,rfl,z,B,E,P,J,L⟩:=h;by_cases i:t=[]
 ·cases q;cases C;obtain⟨g,O,p1,_⟩:=I.tuple z;obtain⟨d,V,p2,_⟩:=I.tuple B;have D:g=[]:=O.nil_iff.mpr i;obtain⟨⟨G,M,A,R⟩,o,p,n,w⟩:=id p1;obtain⟨⟨r,l,m,k⟩,c,e,S,j⟩:=id p2;simp only at p w e j;subst p w e j;exact concat_meets ⟨_,o,rfl⟩ ⟨_,c,rfl⟩ noFill_tuple_add seq_tuple_add F.slot_tuple_add F.entry_tuple_add (F.args_tuple_add_2 _ _) (tuple_addW0 a b g.toArray d.toArray n S M l R k (by simp[D])) ⟨o,c,⟨.ref b,H,I,rfl,P i⟩⟩
 ·exact yI f s N H _ _ v u Q I q C ⟨a,b,t,T,rfl,rfl,z,B,i,E,J i,L i⟩
end
end L2
namespace L2
open PySem
theorem ll [DecidableEq α]:∀ {l m:List α},l.Nodup->(∀x∈l,x∈m)->m.length<=l.length->l.Perm m
 | [],m,_,_,h=>by
  have:m=[]:=List.length_eq_zero_iff.mp (by have:=h;rw[List.length_nil] at this;omega);rw[this]
 | x::l,m,nd,sub,h=>by
  obtain⟨n1,n2⟩:=CI.mp nd;have hx:=sub x (by simp);have pe:=(List.perm_cons_erase hx)
  have le:=pe.length_eq;rw[Cs] at le h;refine(List.Perm.cons x (ll n2 (λy hy=>?_) (by omega))).trans pe.symm;exact(List.mem_erase_of_ne (λz:y=x=>n1 (z ▸ hy))).mpr (sub y (Cw _ hy))
def bQ (r:LS) (ps:List (Nat × Str)):LS:=ps.foldl (λr p=>r.set p.1 p.2) r
theorem dw:∀(ps:List (Nat × Str)) (r:LS),(bQ r ps).length=r.length
 | [],r=>rfl
 | p::ps,r=>by
  show (bQ (r.set p.1 p.2) ps).length=_;rw[dw ps,List.length_set]
theorem em:∀(ps:List (Nat × Str)) (r:LS) (k:Nat),k∉ps.map (·.1)->(bQ r ps)[k]? = r[k]?
 | [],r,k,_=>rfl
 | p::ps,r,k,h=>by
  show (bQ (r.set p.1 p.2) ps)[k]? = _;rw[Cv,Cm] at h;rw[em ps _ k (λz=>h (.inr z)),DY (λz=>h (.inl z.symm))]
theorem fg:∀(ps:List (Nat × Str)) (r:LS) (k:Nat) (x:Str), (ps.map (·.1)).Nodup -> (k, x) ∈ ps -> k<r.length -> (bQ r ps)[k]? = some x
 | p::ps,r,k,x,nd,h,hk=>by
  show (bQ (r.set p.1 p.2) ps)[k]? = _;rw[Cv] at nd;obtain⟨n1,n2⟩:=CI.mp nd;rcases Cm.mp h with e | h
  ·subst e;rw[em ps _ k n1,DX hk]
  ·exact fg ps _ k x n2 h (by rw[List.length_set];exact hk)
def plc (os A:LS):List Nat:=(List.range os.length).filter λk=>decide (os.getD k ""∈A)
def bH (os A:LS):LS:=bQ os ((plc os A).zip A)
theorem fj {os A:LS}{k:Nat}(h:k∈plc os A):k<os.length:=CL.mp (Cg.mp h).1
theorem nM {os A:LS}{k:Nat}(h:k∈plc os A):os.getD k ""∈A:=Ch (Cg.mp h).2
theorem ij (os A:LS):(plc os A).Nodup:=List.Nodup.sublist DT List.nodup_range
theorem oW (os:LS):os=(List.range os.length).map λk=>os.getD k "":=by
 apply List.ext_getElem
 ·rw[BQ,Ee]
 ·intro i a b;rw[List.getElem_map,List.getElem_range,CA,Ci a];rfl
theorem yG (os A:LS):(plc os A).map (λk=>os.getD k "")=os.filter λx=>decide (x∈A):=by
 have e:os.filter (λx=>decide (x∈A))=((List.range os.length).map λk=>os.getD k "").filter λx=>decide (x∈A):=by rw[<- oW]
 rw[e,List.filter_map]
 rfl
theorem eU {os A:LS}(c:os.Nodup) (a:A.Nodup) (d:∀x∈A,x∈os):(plc os A).length=A.length:=by
 have h:=congrArg List.length (yG os A);rw[BQ] at h;rw[h];have e:(os.filter λx=>decide (x∈A)).Nodup:=List.Nodup.sublist DT c;have f:(os.filter λx=>decide (x∈A)).length<=A.length:=e.length_le_of_subset λx b=>Ch (Cg.mp b).2;have g:A.length<=(os.filter λx=>decide (x∈A)).length:=a.length_le_of_subset λx b=>Cg.mpr ⟨d x b,Ca b⟩;omega
theorem hR (os A:LS):(bH os A).length=os.length:=dw _ _
theorem jy {os A:LS}(h:(plc os A).length<=A.length):((plc os A).zip A).map (·.1)=plc os A:=List.map_fst_zip h
theorem gz {os A:LS}(c:os.Nodup) (a:A.Nodup) (d:∀x∈A,x∈os) {k:Nat}(f:k<os.length) :
    (∃(i:Nat) (x:Str),(plc os A)[i]? = some k/\A[i]? = some x/\(bH os A)[k]? = some x)∨(k∉plc os A/\(bH os A)[k]? = os[k]?/\os.getD k ""∉A):=by
 have j:=eU c a d;have e:=jy (os:=os) (A:=A) (by omega);by_cases q:k∈plc os A
 ·obtain⟨i,b⟩:=Cz q;have h:=(BU.mp b).1;obtain⟨x,g⟩:∃x,A[i]? = some x:=⟨_,Ci (by omega)⟩
  refine .inl ⟨i,x,b,g,fg _ _ k x (by rw[e];exact ij os A) ?_ f⟩;exact BW (i:=i) (by rw[CO];exact⟨b,g⟩)
 ·refine .inr ⟨q,em _ _ k (by rw[e];exact q),λz=>q (Cg.mpr ⟨CL.mpr f,Ca z⟩)⟩
theorem iH {os A:LS}(h:os.Nodup) (c:A.Nodup) (d:∀x ∈ A, x ∈ os):(bH os A).Perm os := by
 have g:∀k,k<os.length->os[k]? = some (os.getD k ""):=λk m=>by rw[CA,Ci m];rfl
 refine ll ?_ (λx w=>?_) (by rw[hR];exact BR _)
 ·rw[oW (bH os A), hR];refine nV _ _ λi j z s e=>?_;have e:(bH os A)[i]? = (bH os A)[j]?:=by
   have f:∀k,k<os.length->(bH os A)[k]? = some ((bH os A).getD k ""):=λk m=>by rw[CA,Ci (by rw[hR];exact m)];rfl
   rw[f i (by omega),f j s,e]
  rcases gz h c d (show i<os.length by omega) with⟨a,x,r,l,n⟩ | ⟨r,l,n⟩
  ·rcases gz h c d s with⟨b,y,t,o,p⟩ | ⟨t,o,p⟩
   ·have u:x=y:=BV (n.symm.trans (e.trans p));subst u;have v:a=b:=(Dz (BU.mp l).1 c).mp (l.trans o.symm);subst v;have:=BV (r.symm.trans t);omega
   ·rw[n,o,g j s] at e;have:=BV e;exact p (this ▸ BW l)
  ·rcases gz h c d s with⟨b,y,t,o,p⟩ | ⟨t,o,p⟩
   ·rw[l,p,g i (by omega)] at e;have:=BV e;exact n (this ▸ BW o)
   ·rw[l,o] at e;have:=(Dz (show i<os.length by omega) h).mp e;omega
 ·obtain⟨k,m⟩:=Cz w;have q:=(BU.mp m).1;rw[hR] at q;rcases gz h c d q with⟨a,y,r,l,n⟩ | ⟨r,l,n⟩
  ·have:y=x:=BV (n.symm.trans m);exact this ▸ d y (BW l)
  ·rw[l] at m;exact BW m
end L2
namespace L2
open PySem PySem.Spec PyProof.Rows
section
variable {prog:Program}{w:World}{A:Around}{E:QS}{s:Shared}
theorem zd {elts:List Expr}{x1}{pos:Pos}{z TI TO T:Addr}{I:Value}{J:Bool}{Q:Unit->Shared->Prop}(e:F0 I) (a:Zp s.heap z TI TO I J)
    (c:∀h' G,F0 G->Zp h' z TI TO G J->Heap.SameBut z s.heap h'->Q () { s with heap:=h' }):wpAny (model prog w) A (letOwnedTupleGo (.Tuple elts x1 pos) (.ref z) (.ref T)) Q E s:=by
 unfold letOwnedTupleGo;refine BP (wpAny_load a ?_);show wpAny _ A (if (["enumerate","zip","dict_itemiterator","dict_reverseitemiterator","odict_iterator","itertools.zip_longest","itertools.pairwise"].contains "zip"&&_)=true then _ else _) Q E s
 split
 ·refine BP (wpAny_rule ?_);show wpAny _ A (setField (.ref z) 0 .none) Q E s;exact Dx a (by simp) λh' b d=>c h' _ (.inl rfl) b d
 ·exact BS (c s.heap I e a (Heap.SameBut.refl _ _))
end
theorem gT {t1 t2:Bool}{P:Program}{w:World}{K:W.Frag}{elts:List Expr}{x1}{tp:Pos}(a b z TI TO j k:Addr) (D:ZipApart z TI TO j k a b) :
    Turn P w K (.Tuple elts x1 tp) (Itg t1 t2 K a b) [z,TI,TO,j,k] z (λi h=>(∃G J,F0 G/\Zp h z TI TO G J)/\IsPair h TI (.ref j) (.ref k)/\(∃c d,IsPair h TO c d)/\ItI t1 h j a i/\ItI t2 h k b i):=by
 have T:=mM (t1:=t1) (t2:=t2) (P:=P) (w:=w) (K:=K) (nm:="x") (tp:=tp) a b z TI TO j k D;refine⟨T.mem,T.obj,T.keep,?_,T.done,T.self⟩;intro X hP hw hK t i g s Z H E I F st hg;refine thn (T.item X hP hw hK t i g s Z H E I F st hg) λr s1 ⟨u,hr,h⟩=>⟨u,hr,?_⟩
 have O:wpAny (model P w) X.A (letOwnedTupleGo (.Name "x" tp) (.ref z) u >>= λ_=>letOwnedTupleGo (.Tuple elts x1 tp) (.ref z) u) (λ_ f=>∃x A,Inv X g Z A f/\RelV x u/\(Itg t1 t2 K a b).yld i H x A/\((∃G J,F0 G/\Zp f.heap z TI TO G J)/\IsPair f.heap TI (.ref j) (.ref k)/\(∃c d,IsPair f.heap TO c d)/\ItI t1 f.heap j a (i+1)/\ItI t2 f.heap k b (i+1))/\∀c∈[z,TI,TO,j,k],A c=none) E s1:=by
  refine BP (thn h λ_ f ⟨x,A,R,rx,yl,tn,Y⟩=>?_);obtain⟨p,x0,y0,hp,rfl,a0,a1,rfl⟩:=id yl;cases rx;obtain⟨⟨G,J,M,hz⟩,S,⟨ta,tb,C⟩,h1,h2⟩:=tn;refine zd M hz λh' B L Q sb=>?_;have l:∀c o,c≠z->f.heap.get? c=some o->h'.get? c=some o:=λc o n e=>sb.extBut c o n e;have V:∀c o,upd H p (.tup [x0,y0]) c=some o->c≠z:=λc o q e=>by rw[e,Y z (by simp)] at q;cases q
  refine⟨.ref p,_,?_,rfl,yl,⟨⟨B,J,L,Q⟩,l _ _ D.TIz S,⟨ta,tb,l _ _ D.TOz C⟩,h1.at λo e=>l _ o D.i1z e,h2.at λo e=>l _ o D.i2z e⟩,Y⟩;have y:∀c o,c∉[z]->f.heap.get? c=some o->h'.get? c=some o:=λc o n e=>l c o (λq=>n (by simp[q])) e;refine R.step (h':=h') (g':=f.gens) (d':=f.drawn) (t':=f.toks) (ch:=[z]) (λc t=>?_) (λc o _ _ n q _=>y c o n q) (λc o _ _ n q _=>⟨o.slots,y c o n q⟩) (λc o _ q n=>n) (λc o n q=>⟨o,y c o n q⟩) (λc ys q=>q) (λc o v q=>q) (λc ps q=>⟨#[],by rw[q];simp⟩) (λm hm=>?_) (λc o q=>?_) R.bare
  ·have t:c=z:=by simpa using t
   subst t;obtain⟨_,g1,_,g3,g4,g5⟩:=F c (by simp);exact⟨g3,g1,g4,g5⟩
  ·obtain⟨o,es,ep,ho,r⟩:=hm;refine⟨o,es,ep,y _ o (λn=>?_) ho,r⟩;exact(F _ (by rw[Cr.mp n];simp)).2.1 rfl
  ·refine(R.hok c o q).stay (λd U hd N=>?_) (λd q=>q) λd ys q=>q;rcases hd with e | e
   ·rw[e] at N ⊢;exact l c U (V c o q) N
   ·exact l d U (V d _ e) N
 exact O
theorem tm {P:Program}{w:World}{K:W.Frag}{elts:List Expr}{x1}{tp:Pos}(a b z TI TO f e:Addr) (D:ZipApart z TI TO f e a b) :
    Turn P w K (.Tuple elts x1 tp) (Itz K a b) [z,TI,TO,f,e] z (λi h=>(∃G I,F0 G/\Zp h z TI TO G I)/\IsPair h TI (.ref f) (.ref e)/\(∃c d,IsPair h TO c d)/\h.IsListIter f a i/\h.IsListIter e b i) :=
 gT (t1:=false) (t2:=false) a b z TI TO f e D
theorem yd (K:W.Frag) {X:Cx}{elts:List Expr}{x1}{tp:Pos}{a b:Expr}{ta:TA}{p pos:Pos}(V:Gl X "zip") (F:X.mg "zip"=none) (U:PA X [a,b] ta) (E:autoParam (starEach [a,b] X.env=(false,eval a X.env)::starEach [b] X.env) aR9) (hpl:autoParam ((backTo pos (starEach [b] X.env)).any (·.1)=false) aR9) (Z:autoParam (X.K=K) aR9) :
    PI X (.Tuple elts x1 tp) (.Call (.Name "zip" p) [a,b] [] pos) (Au K ta):=by
 subst Z;intro k s S H R I h;refine Call_ (du I V F (show bootBuiltins "zip"=some (.type "zip") by decide +kernel) (PyProof.Rows.callWith_type1 (thn (U pos k s S H _ I h) λus f ⟨vs,L,i,r,N⟩=>?_) E hpl));obtain⟨t,y,xs,ys,e,m,n,q⟩:=N;subst e;obtain⟨u1,u2,rfl,r,D⟩:=eY r;cases r;cases D;obtain⟨Q,rv,A,_⟩:=i.list m;obtain⟨C,O,B,_⟩:=i.list n;have J:t<f.heap.objs.size:=by obtain⟨_,e,_⟩:=A.isList;exact BZ e
 have Y:y<f.heap.objs.size:=by obtain⟨_,e,_⟩:=B.isList;exact BZ e
 refine call_zip_2 A.isList B.isList λg M x l o v _ G=>?_;have T:=tm (P:=X.prog) (w:=X.w) (K:=X.K) (elts:=elts) (x1:=x1) (tp:=tp) t y _ _ _ _ _ (zipApart_new J Y);have z:(∃f0 f1,F0 f0/\Zp g (f.heap.objs.size+4) (f.heap.objs.size+2) (f.heap.objs.size+3) f0 f1)/\IsPair g (f.heap.objs.size+2) (.ref f.heap.objs.size) (.ref (f.heap.objs.size+1))/\(∃c d,IsPair g (f.heap.objs.size+3) c d)/\g.IsListIter f.heap.objs.size t 0/\g.IsListIter (f.heap.objs.size+1) y 0:=⟨⟨_,_,.inl rfl,M⟩,x,⟨_,_,l⟩,o,v⟩
 refine T.self X.A 0 { f with heap:=g } _ _ z ?_;refine⟨_,_,_,_,L,rfl,i.kept (t':=f.toks) G,T,z,λb u=>?_,q⟩;have u:b=f.heap.objs.size+4∨b=f.heap.objs.size+2∨b=f.heap.objs.size+3∨b=f.heap.objs.size∨b=f.heap.objs.size+1:=by simpa using u
 have j:f.heap.objs.size<=b:=by rcases u with e | e | e | e | e <;> rw[e] <;> first | exact BR _ | exact Ec _ _
 exact i.fpOk j (i.hok.fresh j)
theorem qb {K:W.Frag}{a b:Addr}{xs ys:LV}{g:TG}{tb:TS}{D:Ends}{σ:St}{H:Hp}(Pv:Nat -> St -> Hp -> Prop) (l:Pv 0 σ H) (k:∀i σ H, i <= (xs.zip ys).length -> Pv i σ H -> SqL K H a xs /\ SqL K H b ys)
    (n:∀i x y p σ H,(xs.zip ys)[i]? = some (x,y)->Pv i σ H->H p=none->g (.ref p) σ (upd H p (.tup [x,y])) λσ2 H2=>tb { D with nx:=Pv (i+1),ct:=Pv (i+1),bk:=D.nx } σ2 H2) (f:∀σ H,Pv (xs.zip ys).length σ H->D.nx σ H) :
    ∃W:Nat->Nat->SH,(∃m,W 0 m σ H)/\∀i m σ H,W i m σ H ->
     ((Itz K a b).stop i H/\D.nx σ H)∨((Itz K a b).go i H/\∃N:SH,(∀σ' H',N σ' H'->∃z,z<m/\W (i+1) z σ' H')/\∀x H',(Itz K a b).yld i H x H'->g x σ H' λσ2 H2=>tb { D with nx:=N,ct:=N,bk:=D.nx } σ2 H2):=by
 refine⟨λi m σ H=>m=(xs.zip ys).length-i/\i<=(xs.zip ys).length/\Pv i σ H,⟨(xs.zip ys).length,by simp,Cu _,l⟩,?_⟩;rintro i m σ H ⟨rfl,h,p⟩;obtain⟨d,c⟩:=k i σ H h p;have r:(xs.zip ys).length=min xs.length ys.length:=Db;by_cases w:i<(xs.zip ys).length
 ·have o:i<xs.length:=by omega
  have A:i<ys.length:=by omega
  refine .inr ⟨⟨xs,ys,xs[i],ys[i],d,c,Ci o,Ci A⟩,Pv (i+1),λσ' H' q=>⟨(xs.zip ys).length-(i+1),by omega,rfl,by omega,q⟩,?_⟩;rintro x H' ⟨q,u,v,s,rfl,t,j,rfl⟩;exact n i u v q σ H (by rw[CO];exact⟨t xs d,j ys c⟩) p s
 ·have e:i=(xs.zip ys).length:=by omega
  refine .inl ⟨⟨xs,ys,d,c,by omega⟩,f σ H (e ▸ p)⟩
theorem pA {X:Cx}(g:X.calm=true) (hu:X.A.units+64<cLine) {pins:AO_}{s:Shared}{σ:St}{H:Hp}{a b z TI TO G J:Addr}{ks:LS}{ys:LV}{Q:VK}(I:Inv X pins σ H s) (D:ZipApart z TI TO G J a b)
    (R:(∃O f1,F0 O/\Zp s.heap z TI TO O f1)/\IsPair s.heap TI (.ref G) (.ref J)/\(∃c d,IsPair s.heap TO c d)/\s.heap.IsListIter G a 0/\s.heap.IsListIter J b 0) (hf:∀c∈[z,TI,TO,G,J],ed X pins H c)
    (m:SqL X.K H a (List.map V.str ks)) (n:SqL X.K H b ys) (hl:ks.length=ys.length) (hn:ks.length<=1000) (q:∀l H2,H l=none->Same H H2->H2 l=some (.dK (mkK (ci ks ys)))->Q (.ref l) H2) :
    wpAny (model X.prog X.w) X.A (call (.type "dict") [.ref z]) (EP X pins σ Q) X.xe s:=by
 have T:=pf (P:=X.prog) (w:=X.w) (K:=X.K) (nm:="x") (tp:=default) a b z TI TO G J D;have M:∀c∈[z,TI,TO,G,J],c<s.heap.objs.size:=λc g=>by
  obtain⟨o,e,_⟩:=T.obj 0 s.heap R c g;exact BZ e
 have zl:(ci ks ys).length=ks.length:=by unfold ci;rw[Db,BQ];omega
 refine callType_codes (Q₁:=λob s1=>ob=.ref s.heap.objs.size/\s1={ s with heap:=s.heap.push { cls:=.type "dict",data:=.dict #[] } }) F.kt_called_dict (F.kt_typeCall_dict_1 _) F.entry_dict_init (kt_code_dict_new _ ⟨rfl,rfl⟩) ?_;rintro ob s1 ⟨rfl,rfl⟩;have f:H s.heap.objs.size=none:=I.hok.fresh (BR _);have I1:Inv X pins σ (upd H s.heap.objs.size (.dK [])) { s with heap:=s.heap.push { cls:=.type "dict",data:=.dict #[] } } :=
  I.laid (a:=s.heap.objs.size) (o:=.dK []) (t':=s.toks) (λ_ _ q=>Cc _ q) (BR _) (hO s.heap I.big)
 have j:(⟨s.heap.push { cls:=.type "dict",data:=.dict #[] },s.gens,s.drawn,s.toks,s.os⟩:Shared).TypeIs (.ref s.heap.objs.size) "dict":=⟨_,Co _ rfl,rfl⟩
 refine⟨j,F.args_dict_init_2 _ _,?_⟩;unfold Builtin.«dict.__init__»;refine BP ?_;unfold Builtin.Dict.selfAndRest;refine BP (wpAny_notOrdered_dict j ?_);show wpAny _ _ (pure (s.heap.objs.size,[Value.ref z])) _ _ _;refine BS ?_;show wpAny _ _ (Builtin.Dict.updateFrom "dict.__init__" s.heap.objs.size (.ref z) [] .none) _ _ _;unfold Builtin.Dict.updateFrom;have hA:X.A.in1.in1.handled=none:=I.ok.hd g;have N:=T.keep 0 s.heap (s.heap.push { cls:=.type "dict",data:=.dict #[] }) R λc _ o e=>Cc _ e;obtain⟨⟨O,f1,a0,Y⟩,_⟩:=id N;refine BP (wpAny_typeOf (T:="zip") ⟨_,Y,rfl⟩ ?_);rw[if_pos (by decide)];refine BP (rZ Y rfl rfl rfl hA λh' tk U=>?_);have I2:=I1.kept (h':=h') (t':=tk) U;have W:=T.keep 0 _ h' N λc _ o e=>U c o e;refine BP (wpAny_rule (BP ?_));refine T.self X.A.in1.in1 0 { s with heap:=h',toks:=tk } _ _ W ?_;refine BS ⟨plainId_quiet DU.plain_loop _,?_⟩;refine lK (nm:="x") (tp:=default) T g hu s.heap.objs.size ks.length (λi t=>Same H t/\t s.heap.objs.size=some (.dK (mkK ((ci ks ys).take i)))) (λi t hi e=>?_) (λt e=>?_) _ 0 0 _ _ rfl (Cu _) I2 (λc g=>?_) W ?_ ?_
 ·obtain⟨h,r⟩:=e;have Z:(List.map V.str ks)[i]? = some (V.str ks[i]):=by simp[hi]
  have A:ys[i]? = some (ys[i]'(by omega)):=Ci (by omega);refine⟨⟨_,_,_,_,m.same' h,n.same' h,Z,A⟩,λx H1 yl=>?_⟩;obtain⟨p,u,v,hp,rfl,y,B,rfl⟩:=yl;have e1:V.str ks[i]=u:=BV (Z.symm.trans (y _ (m.same' h)));have e2:ys[i]'(by omega)=v:=BV (A.symm.trans (B _ (n.same' h)));subst e1 e2;have C:s.heap.objs.size≠p:=ai r hp;have E:(ci ks ys)[i]? = some (.inr ks[i],ys[i]'(by omega)):=by
   unfold ci;rw[CO];exact⟨by simp[hi],A⟩
  have L:(mkK ((ci ks ys).take i)).length<sizeLine:=by
   have:=uI ((ci ks ys).take i);rw[Ck] at this;exact aj (by omega)
  refine⟨p,V.str ks[i],_,_,rfl,.of ae,DPut.k (k:=.inr ks[i]) (by rw[ag C];exact r) L,λc o g=>?_,?_⟩
  ·have S:=h c o g;rw[ag (ai g f),ag (ai S hp)];exact S
  ·rw[ae,nI _ i _ E]
 ·obtain⟨h,r⟩:=e;exact⟨_,_,m.same' h,n.same' h,.inl (by rw[BQ];exact BR _)⟩
 ·obtain⟨g0,g1,g2,g3,g4,g5⟩:=hf c g;exact⟨by rw[ag (Cp (M c g))];exact g0,g1,g2,g3,g4,g5⟩
 ·exact⟨Same.new f,by rw[ae];rfl⟩
 ·intro t s' I' e;obtain⟨h,r⟩:=e;rw[<- zl,Cd (BR _)] at r;exact⟨rfl,.ref _,_,I',rfl,q _ _ f h r⟩
def At (K:W.Frag) (ta:TA):TE:=λσ H Q=>ta σ H λvs H1=>∃a b ks ys,vs=[.ref a,.ref b]/\SqL K H1 a (List.map V.str ks)/\SqL K H1 b ys/\ks.length=ys.length/\ks.length<=1000/\∀l H2,H1 l=none->Same H1 H2->H2 l=some (.dK (mkK (ci ks ys)))->Q (.ref l) H2
theorem wz (K:W.Frag) (r:X.calm=true) (P:X.A.units+64<cLine) (B:Blt X.mg) (J:X.mg "zip"=none) (V:PA X [a,b] ta) (o:autoParam (Gl X "dict") aR9) (w:autoParam (Gl X "zip") aR9)
    (he:autoParam (starEach [.Call (.Name "zip" p2) [a,b] [] pos2] X.env=(false,eval (.Call (.Name "zip" p2) [a,b] [] pos2) X.env)::starEach [] X.env) aR9) (hpl:autoParam ((backTo pos (starEach [] X.env)).any (·.1)=false) aR9)
    (G:autoParam (starEach [a,b] X.env=(false,eval a X.env)::starEach [b] X.env) aR9) (t:autoParam ((backTo pos2 (starEach [b] X.env)).any (·.1)=false) aR9) (hK:autoParam (X.K=K) aR9) :
    PE X (.Call (.Name "dict" p) [.Call (.Name "zip" p2) [a,b] [] pos2] [] pos) (At K ta):=by
 subst hK;intro k s U H Q I h;refine DO (du I o B.dict (show bootBuiltins "dict"=some (.type "dict") by decide +kernel) ?_ (by decide) (by decide));refine PyProof.Rows.callWith_type1 ?_ he hpl;rw[he];show wpAny _ _ (spliced ((false,eval (.Call (.Name "zip" p2) [a,b] [] pos2) X.env)::backTo pos (starEach [] X.env))) _ _ s;refine Calls.spliced_cons ?_;refine Call_ (du I w J (show bootBuiltins "zip"=some (.type "zip") by decide +kernel) (PyProof.Rows.callWith_type1 (thn (V pos2 k s U H _ I h) λus d ⟨vs,H1,f,v,R⟩=>?_) G t));obtain⟨l,m,ks,ys,rfl,g,j,E,L,q⟩:=R;obtain⟨u1,u2,rfl,v,F⟩:=eY v;cases v;cases F;obtain⟨T,rv,z,_⟩:=f.list g;obtain⟨C,S,A,_⟩:=f.list j;have N:l<d.heap.objs.size:=by obtain⟨_,e,_⟩:=z.isList;exact BZ e
 have Z:m<d.heap.objs.size:=by obtain⟨_,e,_⟩:=A.isList;exact BZ e
 refine call_zip_2 z.isList A.isList λh' O y n u x _ M=>?_;refine Calls.spliced_nil ?_;have D:=f.kept (t':=d.toks) M;refine pA r P D (zipApart_new N Z) ⟨⟨_,_,.inl rfl,O⟩,y,⟨_,_,n⟩,u,x⟩ (λc r=>?_) g j E L q;have Y:c=d.heap.objs.size+4∨c=d.heap.objs.size+2∨c=d.heap.objs.size+3∨c=d.heap.objs.size∨c=d.heap.objs.size+1:=by simpa using r
 have i:d.heap.objs.size<=c:=by rcases Y with e | e | e | e | e <;> rw[e] <;> first | exact BR _ | exact Ec _ _
 exact f.fpOk i (f.hok.fresh i)
end L2
namespace L2
open PySem
theorem cr {os:LS}(c:os.Nodup) {j:Nat}{s:Str}(h:os[j]? = some s):os.idxOf s=j:=by
 have b:=(BU.mp h).1;have d:=BW h;have a:=CF d;have e:os[os.idxOf s]? = some s:=by rw[Ci a,List.getElem_idxOf]
 exact((Dz b c).mp (h.trans e.symm)).symm
theorem gS {os:LS}{s:Str}(a:s∈os):os[os.idxOf s]? = some s:=by
 have b:=CF a;rw[Ci b,List.getElem_idxOf]
theorem bI {os:LS}{s:Str}(a:s∈os):os.getD (os.idxOf s) ""=s:=by rw[CA,gS a];rfl
theorem gw {os A:LS}(a:∀x∈A,x∈os) {x:Str}(b:x∈A):os.idxOf x∈plc os A :=
 Cg.mpr ⟨CL.mpr (CF (a x b)),Ca (by rw[bI (a x b)];exact b)⟩
theorem jY {α β:Type}{l:List α}{f:α->β}(h:l.Nodup) (c:∀x∈l,∀y∈l,f x=f y->x=y):(l.map f).Nodup:=by
 rw[List.Nodup,List.pairwise_map];exact List.Pairwise.imp_of_mem (λ{a b} g e d z=>d (c a g b e z)) h
theorem wK {os A:LS}(c:os.Nodup) (b:A.Nodup) (a:∀x∈A,x∈os):(A.map λx=>os.idxOf x).Perm (plc os A):=by
 refine ll (jY b λx d y f e=>?_) (λk g=>?_) (by rw[BQ,eU c b a];exact BR _)
 ·have:=bI (a x d);rw[e,bI (a y f)] at this;exact this.symm
 ·obtain⟨x,d,rfl⟩:=BY.mp g;exact gw a d
theorem zj {os A:LS}(d:os.Nodup) (c:A.Nodup) (f:∀x∈A,x∈os) {ns:List Int}(g:ns.Perm (A.map λx=>((os.idxOf x:Nat):Int))) (i:ns.Pairwise (·<=·)):ns=(plc os A).map λk:Nat=>(k:Int):=by
 have e:(A.map λx=>((os.idxOf x:Nat):Int))=(A.map λx=>os.idxOf x).map λk:Nat=>(k:Int):=by rw[CK];rfl
 rw[e] at g;refine List.Perm.eq_of_pairwise (le:=(·<=·)) (λa b _ _ j l=>Int.le_antisymm j l) i ?_ (g.trans ((wK d c f).map _));rw[List.pairwise_map];refine List.Pairwise.imp ?_ ((Ed (n:=os.length)).filter _);intro a b h;omega
def fM (os A:LS) (k:Nat):Nat:=(plc os A).getD (A.idxOf (os.getD k "")) 0
def mvs (os A:LS):List (Str × Nat × Nat):=(plc os A).map λk=>(os.getD k "",k,fM os A k)
theorem dW {os A:LS}(b:os.Nodup) (a:A.Nodup) (c:∀x∈A,x∈os) {k:Nat}(f:k∈plc os A):(plc os A)[A.idxOf (os.getD k "")]? = some (fM os A k)/\A[A.idxOf (os.getD k "")]? = some (os.getD k ""):=by
 have d:=nM f;have e:=CF d;refine⟨?_,gS d⟩;unfold fM;rw[CA (l:=plc os A),Ci (by rw[eU b a c];exact e)];rfl
theorem Am {os A:LS}(f:os.Nodup) (c:A.Nodup) (d:∀x∈A,x∈os) (k:Nat) (x:Str):(k,x)∈(mvs os A).map (λm=>(m.2.2,m.1)) ↔ (k,x)∈(plc os A).zip A:=by
 constructor
 ·intro h;obtain⟨m,t,e⟩:=BY.mp h;obtain⟨j,q,rfl⟩:=BY.mp t;obtain⟨a,b⟩:=dW f c d q;have p:fM os A j=k:=congrArg Prod.fst e;have r:os.getD j ""=x:=congrArg Prod.snd e;rw[p] at a;rw[r] at a b;exact BW (i:=A.idxOf x) (by rw[CO];exact⟨a,b⟩)
 ·intro h;obtain⟨i,o⟩:=Cz h;obtain⟨s,l⟩:=CO.mp o;have n:=BW l;have g:=gw d n;refine BY.mpr ⟨(os.getD (os.idxOf x) "",os.idxOf x,fM os A (os.idxOf x)),BY.mpr ⟨_,g,rfl⟩,?_⟩;have e:=bI (d x n);obtain⟨a,_⟩:=dW f c d g;rw[e,cr c l] at a;have:=BV (a.symm.trans s);show (fM os A (os.idxOf x),os.getD (os.idxOf x) "")=(k,x)
  rw[this,e]
theorem yy {os A:LS}(b:os.Nodup) (a:A.Nodup) (c:∀x∈A,x∈os):(((mvs os A).map (λm=>(m.2.2,m.1))).map (·.1)).Nodup:=by
 have e:((mvs os A).map (λm=>(m.2.2,m.1))).map (·.1)=(plc os A).map (fM os A):=by unfold mvs;rw[CK,CK];rfl
 rw[e];refine jY (ij os A) λx f y h e=>?_;obtain⟨d,g⟩:=dW b a c f;obtain⟨j,o⟩:=dW b a c h;rw[e] at d;have l:=(BU.mp d).1;have k:=(Dz l (ij os A)).mp (d.trans j.symm);rw[k] at g;have n:=BV (g.symm.trans o);have i:os[x]? = some (os.getD x ""):=by rw[CA,Ci (fj f)];rfl
 have p:os[y]? = some (os.getD y ""):=by rw[CA,Ci (fj h)];rfl
 rw[n] at i;exact(Dz (fj f) b).mp (i.trans p.symm)
theorem rL (d:(ps.map (·.1)).Nodup) (f:(G.map (·.1)).Nodup) (h:∀k x, (k, x) ∈ ps ↔ (k, x) ∈ G):bQ r ps=bQ r G := by
 apply List.ext_getElem?;intro k;by_cases c:k<r.length
 ·by_cases q:k ∈ ps.map (·.1)
  ·obtain⟨⟨a,x⟩,b,e⟩:=BY.mp q;have e:a=k:=e;subst e;rw[fg ps r a x d b c,fg G r a x f ((h _ _).mp b) c]
  ·have g:k∉G.map (·.1):=λz=>by
      obtain⟨⟨a,x⟩,b,e⟩:=BY.mp z;have e:a=k:=e;subst e;exact q (BY.mpr ⟨_,(h _ _).mpr b,rfl⟩)
   rw[em _ _ _ q,em _ _ _ g]
 ·rw[Ef (by rw[dw];omega),Ef (by rw[dw];omega)]
theorem wE {os A:LS}(b:os.Nodup) (a:A.Nodup) (c:∀x∈A,x∈os):bQ os ((mvs os A).map (λm=>(m.2.2,m.1)))=bH os A:=by
 unfold bH;refine rL (yy b a c) ?_ (Am b a c);rw[jy (by rw[eU b a c];exact BR _)];exact ij os A
theorem xb {os A:LS}(d:os.Nodup) (c:A.Nodup) (e:∀x∈A,x∈os) {k:Nat}(h:k∈plc os A):(bH os A).idxOf (os.getD k "")=fM os A k:=by
 obtain⟨a,b⟩:=dW d c e h;have f:(bH os A).Nodup:=(iH d c e).nodup_iff.mpr d;refine cr f ?_;have g:=BW a;unfold bH;refine fg _ _ _ _ ?_ ?_ (fj g)
 ·rw[jy (by rw[eU d c e];exact BR _)];exact ij os A
 ·exact BW (i:=A.idxOf (os.getD k "")) (by rw[CO];exact⟨a,b⟩)
end L2
namespace L2
open PySem PySem.Spec PyProof.Rows
def XF (B:Heap) (l:List Env) (a:Addr) (c:Value) (dd:Option Addr) (fl:Value) (h:Heap):Prop :=
 B.StaysIn h/\B.get? a=none/\h.FunFrames B l/\∃o vs T p ts,h.get? a=some o/\o.cls=c/\o.dict=dd/\o.data=.fields vs/\vs[1]? = some (.ref T)/\B.get? T=none/\T≠a/\h.get? T=some p/\p.data=.fields ts/\ts[3]? = some fl
theorem XF.there (x:XF B l a c dd z h):∃o,h.get? a=some o/\o.cls=c/\o.dict=dd:=by
 obtain⟨_,_,_,o,_,_,_,_,e,d,b,_⟩:=x;exact⟨o,e,d,b⟩
theorem XF.rec (x:XF B l a c dd G h):∃o z,h.get? a=some o/\o.data=.fields z:=by
 obtain⟨_,_,_,o,z,_,_,_,e,_,_,k,_⟩:=x;exact⟨o,z,e,k⟩
theorem XF.out (x:XF B (e0::l) a c dd z h):XF B l a c dd z h:=⟨x.1,x.2.1,x.2.2.1.2.2,x.2.2.2⟩
theorem wA (f:Array Value->Array Value) (o:Obj):(Obj.mapFields f o).dict=o.dict:=by
 unfold Obj.mapFields
 split <;> rfl
section
variable {M:Model}{A:Around}{E:QS}{s:Shared}{B:Heap}{e0:Env}{out:List Env}{a L:Addr}{Q:Unit->Shared->Prop}
theorem uR (K:A.frames=some (e0 :: out)) (i:s.heap.FunFrames B (e0 :: out)) (P:e0.frame=some L) (j:s.heap.get? a=some o) (st:B.StaysIn s.heap) (w:B.get? a=none) (g:o.data=.fields I) (x:1<I.size)
    (k:∀h',XF B (e0::out) a o.cls o.dict (rawInt L) h'->s.heap.UpToSlots h'->Q () { s with heap:=h' }) :
    wpAny M A (do let f ← frameOf e0;let G ← entryPlaceOf L U;let b ← EntryCells.newEntry O f .none (rawInt L) .none G;setField (.ref a) 1 b) Q E s:=by
 have J:a∉(e0::out).filterMap (·.frame):=λz=>by
  obtain⟨_,p,l,q⟩:=i.mem z;exact q I (BV (j.symm.trans l) ▸ g)
 refine BP (wpAny_frameOf_fun K i P λd n=>BP (wpAny_entryPlaceOf λG D=>?_));unfold EntryCells.newEntry newFields;refine BP (wpAny_newObj_type ?_ (D.sizeOk5 _ _ _ _ _));generalize l:([O,Value.ref L,Value.none,rawInt L,Value.none]++(if G.isEmpty then List.replicate 6 Value.none else G)).toArray=e;have N:e[3]? = some (rawInt L):=by rw[<- l];first | (simp;done) | (rcases D with rfl | ⟨_,_,_,_,_,_,_,rfl⟩ <;> simp)
 have r:d.get? a=some o:=(n.2.1 a J).trans j;have H:=Cc (h:=d) { cls:=.type "traceback",dict:=none,data:=.fields e } r;have t:d.objs.size≠a:=Dr (BZ r);have v:=Obj.data_mapFields g (·.setIfInBounds 1 (Value.ref d.objs.size));have u:∀b p,b≠a->d.get? b=some p->((d.push { cls:=.type "traceback",dict:=none,data:=.fields e }).update a (Obj.mapFields (·.setIfInBounds 1 (Value.ref d.objs.size)))).get? b=some p:=λb p R c=>by
  rw[Ea _ _ (Ne.symm R)];exact Cc _ c
 have C:s.heap.UpToSlots ((d.push { cls:=.type "traceback",dict:=none,data:=.fields e }).update a (Obj.mapFields (·.setIfInBounds 1 (Value.ref d.objs.size)))):=λb p c q=>by
  obtain⟨F,m⟩:=n.2.2 b p c;exact⟨F,u b _ (λz=>q I (BV (j.symm.trans (z ▸ c)) ▸ g)) m⟩
 refine wpAny_setField H g x (k _ ?_ ?_)
 ·have y:B.StaysIn d:=λb p c=>(n.2.1 b λz=>by have:=(i.mem z).1;rw[c] at this;cases this).trans (st b p c);refine⟨λb p c=>u b p (λz=>by rw[z,w] at c;cases c) (y b p c),w,i.of_keeps λb p c q=>?_,_,_,d.objs.size,{ cls:=.type "traceback",dict:=none,data:=.fields e },e,DP _ H (Obj.isFreed_of_fields v),Obj.cls_mapFields _ _,wA _ _,v,by simp[x],y.fresh,t,?_,rfl,N⟩
  ·obtain⟨F,m⟩:=C b p c q;exact⟨_,m,rfl⟩
  ·rw[Ea _ _ (Ne.symm t)];exact Co d rfl
 ·exact C
theorem pP (X:XF B l a c dd I s.heap):∃T p ts,(∀h',h'=s.heap.update T (Obj.mapFields (·.setIfInBounds 3 x))->XF B l a c dd x h'/\s.heap.UpToSlots h') /\
    s.heap.get? T=some p/\p.data=.fields ts/\ts[3]? = some I/\∃o G,s.heap.get? a=some o/\o.data=.fields G/\G[1]? = some (.ref T):=by
 obtain⟨F,y,E,o,G,T,p,ts,k,D,w,m,r,j,i,h,f,t⟩:=X;have A:3<ts.size:=(Eg.mp t).1;refine⟨T,p,ts,λh' e=>?_,h,f,t,o,G,k,m,r⟩;have g:∀b,b≠T->h'.get? b=s.heap.get? b:=λb v=>by rw[e];exact Ea _ _ (Ne.symm v)
 have n:s.heap.UpToSlots h':=λb u d q=>⟨u.slots,(g b λz=>q ts (BV (h.symm.trans (z ▸ d)) ▸ f)).trans d⟩
 refine⟨⟨λb u d=>(g b λz=>by rw[z,j] at d;cases d).trans (F b u d),y,E.of_keeps λb u d q=>?_,o,G,T,Obj.mapFields (·.setIfInBounds 3 x) p,ts.setIfInBounds 3 x,(g a (Ne.symm i)).trans k,D,w,m,r,j,i,?_,Obj.data_mapFields f _,by simp[A]⟩,n⟩
 ·obtain⟨H,C⟩:=n b u d q;exact⟨_,C,rfl⟩
 ·rw[e];exact DP _ h (Obj.isFreed_of_fields (Obj.data_mapFields f _))
theorem ng (X:XF B l a c dd G s.heap) (k:∀h',XF B l a c dd .none h'->s.heap.UpToSlots h'->Q () { s with heap:=h' }):wpAny M A (setFlight (.ref a) none) Q E s:=by
 obtain⟨T,p,n,z,i,d,f,o,m,e,h,b⟩:=pP (x:=.none) X;unfold setFlight;refine BP (CD e h b ?_);rw[if_pos (show (Value.ref T != Value.none)=true by simp)];obtain⟨g,j⟩:=z _ rfl;exact wpAny_setField i d (Eg.mp f).1 (k _ g j)
theorem xP (i:A.frames=some (e0::out)) (d:e0.frame=some L) (X:XF B (e0::out) a c dd .none s.heap)
    (k:∀h',XF B (e0::out) a c dd (rawInt L) h'->s.heap.UpToSlots h'->Q () { s with heap:=h' }):wpAny M A (noteFrame (.ref a) e0) Q E s:=by
 obtain⟨T,p,K,z,b,e,f,o,H,j,m,D⟩:=pP (x:=.none) X;unfold noteFrame;simp only[d];refine BP (CD j m D ?_);rw[if_pos (show (Value.ref T != Value.none)=true by simp)];refine BP (CD b e f ?_);rw[if_neg (show ¬ ((Value.none==rawInt L)=true) by simp[rawInt])];obtain⟨h,u⟩:=z _ rfl;refine BP (wpAny_setField b e (Eg.mp f).1 ?_);obtain⟨n,r,g,G,C,I,J,l,q,w,t,v,F,_⟩:=h;subst w t;exact uR (s:={ s with heap:=s.heap.update T (Obj.mapFields (·.setIfInBounds 3 Value.none)) }) i g d q n r v (Eg.mp F).1 λh' x y=>k h' x (u.trans y)
theorem zF (d:A.frames=some (e0::out)) (b:e0.frame=some L) (X:XF B (e0::out) a c dd .none s.heap)
    (k:∀h',XF B out a c dd .none h'->s.heap.UpToSlots h'->Q () { s with heap:=h' }):wpAny M A (leaving e0 (.ref a)) Q E s:=by
 unfold leaving;refine BP (xP d b X λh' x y=>?_);exact ng (s:={ s with heap:=h' }) x λg f e=>k g f.out (y.trans e)
theorem zq (g:A.frames=some (e0::out)) (f:s.heap.FunFrames B (e0::out)) (b:e0.frame=some L) (d:s.heap.get? a=some o) (st:B.StaysIn s.heap) (j:B.get? a=none) (e:o.data=.fields z) (c:z[1]? = some .none)
    (k:∀h',XF B out a o.cls o.dict .none h'->s.heap.UpToSlots h'->Q () { s with heap:=h' }):wpAny M A (leaving e0 (.ref a)) Q E s:=by
 unfold leaving noteFrame;simp only[b];refine BP (BP (CD d e c ?_));rw[if_neg (by decide)];refine uR g f b d st j e (Eg.mp c).1 λh' x y=>?_;exact ng (s:={ s with heap:=h' }) x λl i h=>k l i.out (y.trans h)
end
theorem ObjOk.obj (x:ObjOk P w H h a o):∃z,h.get? a=some z:=by
 cases o with
 | lst xs=>obtain⟨_,_,_,_,e⟩:=x;exact⟨_,e⟩
 | tup xs=>obtain⟨_,_,_,z,e,_⟩:=x;exact⟨_,e⟩
 | dK kvs=>obtain⟨_,_,_,_,o,_,_,e,_⟩:=x;exact⟨_,e⟩
 | dT kvs=>obtain⟨_,_,_,_,o,_,_,e,_⟩:=x;exact⟨_,e⟩
 | set S n=>obtain⟨o,_,_,_,e,_⟩:=x;exact⟨_,e⟩
 | ins C dx fs=>obtain⟨_,_,_,e,_⟩:=x;exact⟨_,e⟩
 | own y=>obtain⟨_,e⟩:=x;exact⟨_,e⟩
 | xd fs=>obtain⟨_,⟨_,_,_,e,_⟩,_⟩:=x;exact⟨_,e⟩
 | rng lo hi=>obtain⟨_,_,_,e⟩:=x;exact⟨_,e⟩
 | frz z u=>obtain⟨e,_⟩:=x;exact⟨_,e⟩
 | tbl ps=>exact⟨_,(show h.get? a=some _ from x)⟩
 | met f y=>exact⟨_,(show h.get? a=some _ from x)⟩
 | ext φ=>obtain⟨_,e,_⟩:=x;exact e
def CX1 (P:Program) (w:World):CXT:=λouter H s E e s' =>
 ∃(a:Addr) (cls:Value) (dd:Option Addr) (B:Heap) (H':Hp),e=.ref a/\s'.os=s.os/\AllBare s'.gens/\Un (frs outer) [] H H' s.heap s'.heap/\HOk P w H' s'.heap/\XF B outer a cls dd .none s'.heap/\H' a=none /\
  (∀b u,H' b=some u->∃o,s'.heap.get? b=some o/\B.get? b=some o)/\(∀b o,s.heap.get? b=some o->H b=none->b∉frs outer->B.get? b=some o)/\(∀b o,s.heap.get? b=some o->b∉frs outer->∃o',B.get? b=some o')/\E cls dd H'
theorem BD {P:Program}{w:World}{K:W.Frag}{mg:Str -> OV}{base:Heap}{N:LS}{qual:Str}{scope:Scope}{f:Addr}{O:Value}{A:Around}{G:List Env}{s:Shared}{H:Hp}{E:XK} :
    iB (CX1 P w) (bo (CX1 P w) P w K mg base N qual scope f O A G s H E) E:=by
 intro V σ Hc Z e s' I h;obtain⟨a,T,dd,B,M,rfl,os,k,un,D,fl,R,X,KB,AB,q⟩:=h;obtain⟨v,Y,J,_,rfl⟩:=I.after (Q:=λ_ Y=>M=Y) (u:=.none) ⟨.non,M,os,k,un,D,rfl,rfl⟩;show wpAny (model P w) (A.deeper (envOfC qual scope s.heap.objs.size f O)) (leaving (envOfC qual scope s.heap.objs.size f O) (.ref a)) (λ_ m=>CX1 P w G H s E (.ref a) m) (λe' m=>CX1 P w G H s E e' m) s';refine zF (out:=G) (L:=s.heap.objs.size) I.ok.frames rfl fl λh2 p x2=>?_;have t:∀b o,s.heap.get? b=some o->H b=none->b∉frs G->B.get? b=some o:=λb o q n g=>by
  have j:Z.heap.get? b=some o:=I.base.keep b o q n g (by intro z;cases z);have l:Hc b=none:=I.base.free b o q n (by intro z;cases z);refine KB b o j l λz=>?_;rcases Cm.mp (I.stkSub b z) with r | r
  ·have r:b=s.heap.objs.size:=r;exact absurd (r ▸ BZ q) (Df _)
  ·exact g r
 have y:∀b o,s.heap.get? b=some o->b∉frs G->b∉frs (envOfC qual scope s.heap.objs.size f O::G):=λb o q g z=>by
  rcases Cm.mp (I.stkSub b z) with r | r
  ·have r:b=s.heap.objs.size:=r;exact absurd (r ▸ BZ q) (Df _)
  ·exact g r
 have C:∀b o,s.heap.get? b=some o->b∉frs G->∃F,B.get? b=some F:=λb o q g=>by
  obtain⟨oc,ec⟩:=I.base.there b o q (by intro z;cases z);exact AB b oc ec (y b o q g)
 refine⟨a,T,dd,B,M,rfl,J.os,k,?_,λc o e=>(D c o e).stay (λd u hd q'=>?_) (λ_ z=>z) λ_ _ z=>z,p,R,λb u e=>?_,t,C,q⟩
 ·refine⟨λb o q n g x => p.1 b o (t b o q n g), λb o q n g x => ?_, λb o q n x => J.base.free b o q n x, λb o q x => ?_, J.base.tups, J.base.frzs, J.base.tbls⟩
  ·obtain⟨sl,j⟩:=J.base.slot b o q n g x;obtain⟨_,i,U,g2⟩:=(I.ok.funs.mem g)
   have:i=o:=BV (U.symm.trans q);subst this;obtain⟨S,l⟩:=x2 b _ j (by intro vs z;exact g2 vs z);exact⟨S,l⟩
  ·by_cases g:b∈frs G
   ·obtain⟨_,i,U,_⟩:=p.2.2.1.mem g;exact⟨_,U⟩
   ·obtain⟨F,j⟩:=C b o q g;exact⟨F,p.1 b F j⟩
 ·have tr:∃z,M d=some z:=by
     rcases hd with r | r
     ·exact⟨_,r ▸ e⟩
     ·exact⟨_,r⟩
  obtain⟨z,hz⟩:=tr;obtain⟨i,j,l⟩:=X d z hz;have:u=i:=BV (q'.symm.trans j);rw[this];exact p.1 d i l
 ·obtain⟨i,j,l⟩:=X b u e;exact⟨i,p.1 b i l,l⟩
theorem Ad {P:Program}{w:World}{K:W.Frag}{mg:Str -> OV}{base:Heap}{N:LS}{qual:Str}{scope:Scope}{f:Addr}{J:Value}{A:Around}{G:List Env}{s:Shared}{H:Hp}{E:XK}{pins:AO_}{σ:St}{H1:Hp}{O:Shared}{e:Addr}{U:Obj}{Y:Array Value}
    (I:Inv (bo (CX1 P w) P w K mg base N qual scope f J A G s H E) pins σ H1 O) (he:H1 e=none) (X:O.heap.get? e=some U) (V:U.data=.fields Y) (v1:Y[1]? = some .none) (x:s.heap.get? e=none) (q:E U.cls U.dict H1) :
    (bo (CX1 P w) P w K mg base N qual scope f J A G s H E).xe (.ref e) O:=by
 show wpAny (model P w) (A.deeper (envOfC qual scope s.heap.objs.size f J)) (leaving (envOfC qual scope s.heap.objs.size f J) (.ref e)) (λ_ k=>CX1 P w G H s E (.ref e) k) (λe' k=>CX1 P w G H s E e' k) O;have M:∀j∈(envOfC qual scope s.heap.objs.size f J::G),∀b,j.frame=some b->b∈e::frs (envOfC qual scope s.heap.objs.size f J::G):=λj he b a=>Cw _ (DA.mpr ⟨j,he,a⟩);refine zq (B:=W.hideAll O.heap (e::frs (envOfC qual scope s.heap.objs.size f J::G))) (out:=G) (L:=s.heap.objs.size) I.ok.frames (W.funFrames_hide I.stack M) rfl X (λb o z=>W.of_hideAll _ z) (W.hideAll_none _ (.head _)) V v1 λh2 p S=>?_;have trk:∀b u,H1 b=some u->∃o,O.heap.get? b=some o/\(W.hideAll O.heap (e::frs (envOfC qual scope s.heap.objs.size f J::G))).get? b=some o:=λb u l=>by
  obtain⟨o,Q⟩:=ObjOk.obj (I.hok b u l);refine⟨o,Q,W.hideAll_get _ Q λz=>?_⟩;rcases Cm.mp z with z | z
  ·rw[z,he] at l;cases l
  ·have:=I.stkFree b z;rw[l] at this;cases this
 have t:∀b o,s.heap.get? b=some o->H b=none->b∉frs G->(W.hideAll O.heap (e::frs (envOfC qual scope s.heap.objs.size f J::G))).get? b=some o:=λb o z n a=>by
  have h:O.heap.get? b=some o:=I.base.keep b o z n a (by intro y;cases y);refine W.hideAll_get _ h λy=>?_;rcases Cm.mp y with y | y
  ·rw[y,x] at z;cases z
  rcases Cm.mp (I.stkSub b y) with r | r
  ·have r:b=s.heap.objs.size:=r;exact absurd (r ▸ BZ z) (Df _)
  ·exact a r
 have v:∀b o,s.heap.get? b=some o->b∉frs G->∃C,(W.hideAll O.heap (e::frs (envOfC qual scope s.heap.objs.size f J::G))).get? b=some C:=λb o z a=>by
  obtain⟨g,h⟩:=I.base.there b o z (by intro y;cases y);refine⟨g,W.hideAll_get _ h λy=>?_⟩;rcases Cm.mp y with y | y
  ·rw[y,x] at z;cases z
  rcases Cm.mp (I.stkSub b y) with r | r
  ·have r:b=s.heap.objs.size:=r;exact absurd (r ▸ BZ z) (Df _)
  ·exact a r
 refine⟨e,U.cls,U.dict,_,H1,rfl,I.os,I.bare,?_,λc o R=>(I.hok c o R).stay (λd u Z q'=>?_) (λ_ z=>z) λ_ _ z=>z,p,he,λb u l=>?_,t,v,q⟩
 ·refine⟨λb o z n a _ => p.1 b o (t b o z n a), λb o z n a i => ?_, λb o z n i => I.base.free b o z n i, λb o z i => ?_, I.base.tups, I.base.frzs, I.base.tbls⟩
  ·obtain⟨sl,h⟩:=I.base.slot b o z n a i;obtain⟨_,g,F,g2⟩:=(I.ok.funs.mem a)
   have:g=o:=BV (F.symm.trans z);subst this;obtain⟨D,m⟩:=S b _ h (by intro Y y;exact g2 Y y);exact⟨D,m⟩
  ·by_cases a:b∈frs G
   ·obtain⟨_,g,F,_⟩:=p.2.2.1.mem a;exact⟨_,F⟩
   ·obtain⟨C,h⟩:=v b o z a;exact⟨C,p.1 b C h⟩
 ·have tr:∃z,H1 d=some z:=by
     rcases Z with r | r
     ·exact⟨_,r ▸ R⟩
     ·exact⟨_,r⟩
  obtain⟨z,T⟩:=tr;obtain⟨g,h,m⟩:=trk d z T;have:u=g:=BV (q'.symm.trans h);rw[this];exact p.1 d g m
 ·obtain⟨g,h,m⟩:=trk b u l;exact⟨g,p.1 b g m,m⟩
section
variable {M:Model}{A:Around}{E:QS}{nm q nm' q':Str}{C N D N':Addr}{bs bm bs' bm':LW}{hdct hdct':Bool}{sn sn':LS}{sub sub':LW}{ab ab':Bool}{col col':Option Bool}{dd dd':Option Addr}{k0 k1 k2 k3 k5 j0 j1 j2 j3 j5:OV}{newId newId':String}
theorem pG {g:Array GenState}{d:Drawn}{t:Nat}{os:OsState}{Q:Bool -> Shared -> Prop}
    (l:h.get? C=some (excClassObj nm q C N bs bm hdct sn sub ab col dd k0 k1 k2 k3 k5 newId)) (he:h.get? e=some z) (a:z.cls=.ref C)
    (i:h.get? D=some (excClassObj nm' q' D N' bs' bm' hdct' sn' sub' ab' col' dd' j0 j1 j2 j3 j5 newId')) (j:bm'.contains (.type "BaseException")=true)
    (b:(Value.ref C::bm).contains (.ref D)=true) (k:Q true ⟨h,g,d,t,os⟩):wpAny M A (excMatches (.ref e) (.ref D)) Q E ⟨h,g,d,t,os⟩:=by
 have c:(Value.ref D::bm').contains (.type "BaseException")=true:=by rw[List.contains_cons,j,Bool.or_true]
 have f:=tc_notTuple;unfold excMatches
 repeat first
  | (with_reducible refine wpAny_loadPart_at he ?_
     rw[a])
  | with_reducible refine wpAny_loadPart_at i ?_
  | (with_reducible refine wpAny_isSubtype_exc i ?_
     rw[c])
  | (with_reducible refine wpAny_isSubtype_exc l ?_
     rw[b])
  | wp_step
 exact k
end
theorem qC {X:Cx}{pins:AO_}{σ:St}{H1 H':Hp}{G s':Shared}{B h5:Heap}{a:Addr}{cls U:Value}{dd:Option Addr}(I:Inv X pins σ H1 G) (L:X.stack=X.env :: X.outer) (M:X.env.frame=some X.env.locals)
    (os:s'.os=G.os) (l:AllBare s'.gens) (k:Un (frs X.stack) [] H1 H' G.heap s'.heap) (E:HOk X.prog X.w H' s'.heap) (t:XF B X.stack a cls dd U h5) (W:s'.heap.UpToSlots h5)
    (Z:∀b u,H' b=some u->∃o,s'.heap.get? b=some o/\B.get? b=some o) (KB:∀b o,G.heap.get? b=some o->H1 b=none->b∉frs X.stack->B.get? b=some o) (R:∀b o,G.heap.get? b=some o->b∉frs X.stack->∃o',B.get? b=some o') :
    Inv X pins σ H' { s' with heap:=h5 }:=by
 obtain⟨hh,g,d,O,y⟩:=s';obtain rfl:y=G.os:=os;have j:frs X.stack=X.env.locals::X.fs:=by rw[L];unfold frs;rw[List.filterMap_cons,M];rfl
 have H:∀b,b≠X.env.locals->b∉X.fs->b∉frs X.stack:=λb A K z=>by
  rw[j] at z;rcases Cm.mp z with r | r
  ·exact A r
  ·exact K r
 have v:∀b,b∈X.fs->b∈frs X.stack:=λb f=>by rw[j];exact Cw _ f
 have w:∀ {b:Addr} {o:Obj},b∈frs X.stack->G.heap.get? b=some o->∀p,o.data≠.fields p:=λf e p=>by
  obtain⟨_,q,C,g2⟩:=I.stack.mem f;have:=BV (C.symm.trans e);exact this ▸ g2 p
 have h:∀b o,b∈frs X.stack->G.heap.get? b=some o->H1 b=none->∃F,h5.get? b=some { o with slots:=F }:=λb o f e n=>by
  obtain⟨F,i⟩:=k.slot b o e n f (by intro z;cases z);obtain⟨x,J⟩:=W b _ i (λp z=>w f e p z);exact⟨x,J⟩
 show Inv X pins σ H' { G with heap:=h5,gens:=g,drawn:=d,toks:=O };refine Inv.step (s:=G) (h':=h5) (g':=g) (d':=d) (t':=O) (ch:=[]) I (λb f=>by cases f) (λb o A K _ e n=>t.1 b o (KB b o e n (H b A K))) (λb o _ f _ e n=>h b o (v b f) e n) (λb o _ e n=>k.free b o e n (by intro z;cases z)) (λb o _ e=>?_) k.tups k.frzs k.tbls (λm Q=>?_) (λc o N=>(E c o N).stay (λd u D Y=>?_) (λ_ z=>z) λ_ _ z=>z) l
 ·by_cases f:b∈frs X.stack
  ·obtain⟨_,q,C,_⟩:=t.2.2.1.mem f;exact⟨_,C⟩
  ·obtain⟨o',i⟩:=R b o e f;exact⟨o',t.1 b o' i⟩
 ·obtain⟨o,V,T,P,D,r⟩:=Q;obtain⟨F,i⟩:=h X.env.locals o (by rw[j];simp) P I.free;exact⟨_,V,T,i,D,r⟩
 ·have tr:∃z,H' d=some z:=by
     rcases D with r | r
     ·exact⟨_,r ▸ N⟩
     ·exact⟨_,r⟩
  obtain⟨z,S⟩:=tr;obtain⟨q,i,J⟩:=Z d z S;have:u=q:=BV (Y.symm.trans i);rw[this];exact t.1 d q J
abbrev Cx.mark (X:Cx) (e:Value) (E:QS):Cx:={ X with A:=X.A.mark (some e),calm:=false,xe:=E }
section
variable {X:Cx}{pins:AO_}{σ:St}{H:Hp}{s:Shared}{e:Value}{E:QS}
theorem Cx.Ok.mark (a:X.Ok):(X.mark e E).Ok :=
 ⟨a.mod,a.kind,a.glob,a.blt,a.above,a.inj,a.has,a.cab,λz=>(by cases z),a.frames,a.stk,a.exf,a.bs,a.bsz,a.noex,a.exfs,a.funs,a.frf⟩
theorem Inv.mark (I:Inv X pins σ H s):Inv (X.mark e E) pins σ H s:=⟨I.ok.mark,I.os,I.bare,I.base,I.loc,I.cell,I.free,I.freeC,I.pin,I.hok,I.len⟩
theorem Inv.unmark (a:X.Ok) (I:Inv (X.mark e E) pins σ H s):Inv X pins σ H s:=⟨a,I.os,I.bare,I.base,I.loc,I.cell,I.free,I.freeC,I.pin,I.hok,I.len⟩
theorem jR (I:Inv X pins σ H s) (O:X.N.Nodup) (K:X.N[i]? = some n) (T:X.env.kindOf n=some .local)
    (h:∀s',Inv X pins (σ.set i none) H s'->Q () s'):wpAny M A (do bindName X.env n .none;unbindBehindTheSuite X.env n pos) Q E s:=by
 obtain⟨m,G,S⟩:=id I.loc;have r:(X.env.scope.kind==.class||(X.env.scope.kind==.module&&X.env.locals != X.env.globals))=false:=by rw[I.ok.kind];rfl
 have u:i<σ.length:=by rw[I.len];exact(BU.mp K).1
 have t:=I.cne;refine wpAny_nameGoes_keeps T G r λW v D f=>?_;obtain⟨oL,_,_,P,_⟩:=id G;have a:HOk X.prog X.w H W:=λb ob e=>by
  refine(I.hok b ob e).stay (λc J w q=>(f.2 c ?_).trans q) (λ_ q=>q) λ_ _ q=>q;rintro rfl;rcases w with z | w
  ·have:=I.free;rw[z] at this;rw[this] at e;cases e
  ·rw[I.free] at w;cases w
 refine h _ ⟨I.ok,I.os,I.bare,⟨λb o e n C l=>?_,λb o e n C l=>?_,I.base.free,λb o e l=>?_,I.base.tups,I.base.frzs,I.base.tbls⟩,⟨_,D,λj y U g x R=>?_⟩,λy c e=>?_,I.free,I.freeC,λp Y=>?_,a,by simpa using I.len⟩
 ·exact(f.2 b (Cp (CJ (BZ e) I.ok.above))).trans (I.base.keep b o e n C l)
 ·obtain⟨sl,g⟩:=I.base.slot b o e n C l;exact⟨sl,(f.2 b (Cp (CJ (BZ e) I.ok.above))).trans g⟩
 ·obtain⟨L,g⟩:=I.base.there b o e l;exact⟨L,(f.2 b (Cp (CJ (BZ e) I.ok.above))).trans g⟩
 ·by_cases B:j=i
  ·subst B;rw[DX u] at x;cases x
  ·rw[DY (Ne.symm B)] at x;obtain⟨V,Z,q⟩:=S j y U g x R;refine⟨V,Z,?_⟩;rcases q with⟨k,e⟩ | ⟨k,c,e,z⟩
   ·refine .inl ⟨k,?_⟩;have:y≠n:=λe=>B (jh O g (e ▸ K));simp[this,e]
   ·exact .inr ⟨k,c,e,z.sameBut f (t y c e)⟩
 ·obtain⟨J,z⟩:=I.cell y c e;exact⟨J,z.sameBut f (t y c e)⟩
 ·obtain⟨e,n,F,N,d⟩:=I.pin p Y;exact⟨(f.2 p.1 F).trans e,n,F,N,d⟩
theorem Inv.track (j:Inv X pins σ1 H1 G) (I:Inv X pins σ H s) (t:G.heap.get? a=none) (K:H a=none) (m:ObjOk X.prog X.w (upd H a o) s.heap a o):Inv X pins σ (upd H a o) s := by
 have F:∀d,X.s₀.heap.get? a=some d->a∈X.ex:=λd e=>by
  by_cases h:a∈X.ex
  ·exact h
  ·obtain⟨M,B⟩:=j.base.there a d e h;rw[t] at B;cases B
 have g:∀ {b:Addr} {u:HO},H b=some u->b≠a:=λe z=>by rw[z,K] at e;cases e
 have f:∀ {b:Addr} {d:Obj},G.heap.get? b=some d->b≠a:=λe z=>by rw[z,t] at e;cases e
 obtain⟨O,l,_⟩:=id j.loc;obtain⟨P,_,_,k,_⟩:=l;refine⟨I.ok,I.os,I.bare,⟨I.base.keep,I.base.slot,λb d e n h=>?_,I.base.there,λb w e=>?_,λb x y e=>?_,λb D e=>?_⟩,I.loc,I.cell,?_,λx c e=>?_,λp A=>?_,λb u e=>?_,I.len⟩
 ·have:b≠a:=λz=>h (z ▸ F d (z ▸ e));rw[ag this];exact I.base.free b d e n h
 ·have z:=I.base.tups b w e;rw[ag (g z)];exact z
 ·have z:=I.base.frzs b x y e;rw[ag (g z)];exact z
 ·obtain⟨i,z⟩:=I.base.tbls b D e;exact⟨i,by rw[ag (g z)];exact z⟩
 ·rw[ag (f k)];exact I.free
 ·obtain⟨v,N,z,_⟩:=j.cell x c e;rw[ag (f z)];exact I.freeC x c e
 ·obtain⟨E,J,r⟩:=I.pin p A;obtain⟨L,_⟩:=j.pin p A;exact⟨E,by rw[ag (f L)];exact J,r⟩
 ·by_cases C:b=a
  ·subst C;rw[ae] at e;cases e;exact m
  ·rw[ag C] at e;exact(I.hok b u e).stay (λ_ _ _ z=>z) (λc q=>by rw[ag (g q)];exact q) λc w q=>by rw[ag (g q)];exact q
end
def XAt (h:Heap) (C:Addr) (bm:LW):Prop :=
 ∃nm q N bs hdct sn sub ab col dd k0 k1 k2 k3 k5 newId,h.get? C=some (excClassObj nm q C N bs bm hdct sn sub ab col dd k0 k1 k2 k3 k5 newId)
def jp (a C:Addr) (dd:Option Addr):HO:=.ext λh=>∃o,h.get? a=some o/\o.cls=.ref C/\o.dict=dd/\W.notCls o=true
section
open PySem.W PySem.Calls Builtin Builtin.ObjectAttr Builtin.Getset_descriptor
structure XFacts (K:Frag) (C:Addr):Prop where
 ga:findIn K (.ref C) "__getattribute__"=some (some (.builtin "BaseException.__getattribute__"))
 gb:findIn K (.ref C) "__getattr__"=some none
 ha:findIn K (.ref C) "__class__"=some (some (.builtin "object.__class__"))
 hn:specialIn K (.builtin "object.__class__") "__get__"=some (some (.builtin "getset_descriptor.__get__"))
 ht:takesIn K (.builtin "object.__class__")=some true
 hm:mroIn K C (.type "object")=some true
 hb:mroIn K C (.type "BaseException")=some true
 cl:(clsIn K C).isSome=true
def XIs (x C:Addr) (h:Heap):Prop:=∃o,h.get? x=some o/\o.cls=.ref C
variable {K:Frag}{x C:Addr}{h:Heap}{M:Model}
theorem XIs.type (p:XIs x C h):Looks M h (typeOf (.ref x)) (.ref C):=by
 obtain⟨o,e,c⟩:=p;exact c ▸ (Looks.ld e).andThen .now
theorem XFacts.found (Z:XFacts K C) (X:K.In h):Looks M h (find (.ref x) (.ref C) "__class__") (.bind (.builtin "getset_descriptor.__get__") (.builtin "object.__class__")):=by
 have c:=looks_findIn (M:=M) X Z.ha;have b:Looks M h (getOf (some (.builtin "object.__class__"))) (some (.builtin "getset_descriptor.__get__")):=looks_specialIn X Z.hn;have a:Looks M h (dataDescriptor? (some (.builtin "object.__class__")) (some (.builtin "getset_descriptor.__get__"))) (some (.builtin "getset_descriptor.__get__",.builtin "object.__class__")):=(looks_takesIn (M:=M) X Z.ht).andThen .now;exact c.andThen (b.andThen (a.andThen (Looks.tag .now)))
variable {prog:Program}{w:World}{A:Around}{E:QS}{s:Shared}
theorem Bc (Z:XFacts K C) (X:K.In s.heap) (p:XIs x C s.heap) (h:R (.ok (.ret (.ref C))) s) :
    codeAny (model prog w) A (.call (.builtin "getset_descriptor.__get__") ⟨[.builtin "object.__class__",.ref x,tp],[]⟩) R s:=by
 have c:=p.type (M:=model prog w);have e:=looks_mroIn (M:=model prog w) X Z.hm;obtain⟨d,g,a,t,b⟩:=s;refine codeAny_call_builtin KF.slot_gs.plain KF.entry_gs (KF.slot_gs.check _ _ _ _ _ _ _ _ KF.type_class (KF.args_gs _ _ _) ?_);simp only[Builtin.«getset_descriptor.__get__»,descrGet,dga_obj];refine BP (BS ?_);simp only[descrGetter,descrCheckInstance,descrNameAndClass,isInstance,KF.owner_class]
 repeat lk
 refine⟨Code.quiet_builtin _ (by decide +kernel),codeAny_builtin KF.entry_class ?_⟩;simp only[Builtin.«object.__class__»,shownTypeOf]
 repeat lk
 exact h
theorem BC (Z:XFacts K C) (X:K.In s.heap) (p:XIs x C s.heap) (h:R (.ok (.ret (.ref C))) s) :
    codeAny (model prog w) A (.call (.builtin "BaseException.__getattribute__") ⟨[.ref x,.str "__class__" tk],[]⟩) R s:=by
 have i:=p.type (M:=model prog w);have k:=looks_mroIn (M:=model prog w) X Z.hb;have d:=Z.found (M:=model prog w) (x:=x) X;have b:builtinKind "BaseException.__getattribute__"=some .slot:=by decide +kernel
 have a:splitId "BaseException.__getattribute__"=some ("BaseException","__getattribute__"):=by decide +kernel
 have f:=PySem.F.args_bexc_ga (.ref x) (.str "__class__" tk);obtain⟨j,g,c,t,e⟩:=s;refine codeAny_call_builtin PySem.F.attr_ValueError.ga.plain PySem.F.entry_bexc_ga ?_;simp only[checkBuiltinCall,b,a];refine BP ?_;unfold isInstance
 repeat lk
 show wpAny _ _ (run (.call (.builtin "getset_descriptor.__get__") ⟨[.builtin "object.__class__",.ref x,.ref C],[]⟩) none) _ _ _;refine wpAny_run (Bc Z X p ?_);exact BS (BS h)
theorem wY (Z:XFacts K C) (X:K.In s.heap) (p:XIs x C s.heap) (h:Q (some (.ref C)) { s with toks:=s.toks+1 }):wpAny (model prog w) A (getAttr? (.ref x) "__class__") Q E s:=by
 have a:=p.type (M:=model prog w);have d:=looks_findIn (M:=model prog w) X Z.ga;have b:=looks_findIn (M:=model prog w) X Z.gb;have c:=PySem.F.attr_ValueError.ga.bind (.ref x);obtain⟨i,g,e,t,f⟩:=s;simp only[getAttr?,getAttrBy?,getAttrBy];refine BP (wpAny_mkText (BP (wpAny_attempt (CC (BP (a.at (BP (d.at ?_))))))));show wpAny _ _ (getAttrByItsOwn _ _ _ _ _ _) _ _ _;refine BP ?_;show wpAny _ _ (typeLookup (.ref C) "__getattr__") _ _ _;refine b.at (BP (wpAny_attempt (CC ?_)));show wpAny _ _ (boundAndCalled _ _ _) _ _ _;unfold boundAndCalled;rw[c];refine BP (BS ?_);show wpAny _ _ (call (.builtin "BaseException.__getattribute__") [.ref x,.str "__class__" t]) _ _ _;refine wpAny_call (BC Z X p ?_);show wpAny _ _ (handedOut (Value.ref C)) _ _ _;exact handed_on rfl (BS h)
theorem xp (Z:XFacts K C):KitX K (.ref x) (.ref C) (XIs x C) where
 ty:=λ_ _ _ p=>p.type
 it:=λM h X _=>by
  obtain⟨cd,hc⟩:=Dl.mp Z.cl;unfold clsIn at hc
  split at hc
  ·rename_i ho
   intro A' Q' E' s' k q;unfold isType loadHead;exact BP (wpAny_loadPart (k _ _ (X _ _ ho)) (BS q))
  ·cases hc
 ne:=λh tp dd its n sl X htp=>by
  obtain⟨cd,hc⟩:=Dl.mp Z.cl;refine Bool.eq_false_iff.mpr λq=>?_;cases Value.ref.inj (beq_iff_eq.mp q);unfold clsIn at hc
  split at hc
  ·rename_i ho
   cases (X _ _ ho).symm.trans htp
  ·cases hc
 ca:=λX p k=>wY Z X p k
end
section
variable {X:Cx}{pins:AO_}{σ:St}{H:Hp}{s:Shared}{A:Around}{E:QS}{Q:QS}{e f:Expr}{t:TA}{p pos:Pos}
theorem ym (I:Inv X pins σ H s) (h:H a=some (jp a C dd)):XIs a C s.heap:=let ⟨o,e,c,_⟩:=(show ObjOk X.prog X.w H s.heap a (jp a C dd) from I.hok a _ h).1;⟨o,e,c⟩
def Ay (K:W.Frag):LV->Hp->VK->Prop:=λxs H Q=>∃a C dd c u b,xs=[.ref a,c]/\H a=some (jp a C dd)/\XFacts K C/\(∀v,RelV c v->v=u)/\W.kitOne K (.ref C) u=some b/\Q (.bl b) H
theorem vY:dI X (.builtin "isinstance") (Ay X.K):=by
 intro d s p H m o Q I r h;obtain⟨a,C,n,c,u,b,rfl,g,Z,i,e,q⟩:=h;obtain⟨t,l,rfl,j,f⟩:=eY r;cases j;cases i l f;exact W.kia_one (xp Z) I.kIn (ym I g) e (λz=>nomatch z) λk=>⟨.bl b,H,I.tok k,rfl,q⟩
theorem yc (K:W.Frag) (B:Blt X.mg) (a:PA X [e,f] t) (b:autoParam (Gl X "isinstance") aR9) (he:autoParam (starEach [e,f] X.env=(false,eval e X.env)::starEach [f] X.env) aR9) (hpl:autoParam ((backTo pos (starEach [f] X.env)).any (·.1)=false) aR9) (c:autoParam (X.K=K) aR9) :
    PE X (.Call (.Name "isinstance" p) [e,f] [] pos) (tCB (Ay K) t) :=
 c ▸ dN vY b B.isinstance boot_isinstance a (by decide) (by decide) he hpl
end
section
variable {P:Program}{w:World}{K:W.Frag}{mg:MS}{base:Heap}
theorem Fun.okX {x qual:Str}{st:Stmt}{f:Addr}{fd:FuncData}{N ps:LS}{k:Nat}{sp:Sp}(F:Fun K x qual st f fd) (S:FnScope N ps (au st)) (b:∀I H Q E, sp I H Q E -> I.length=ps.length)
    (a:∀(G:Value) (A:Around) (z:List Env) (s:Shared) (H:Hp) (I:LV) (Q:VK) (E:XK),Room k (A.deeper (envOfC qual (au st) s.heap.objs.size f G))->sp I H Q E ->
     ∃t,PSs (bo (CX1 P w) P w K mg base N qual (au st) f G A z s H E) (bY st) t/\t { nx:=λ_ H'=>Q .non H',rt:=Q } (start N I) H):FnOk P w K mg base (CX1 P w) (k+1) f fd ps sp:=by
 obtain⟨l,n,kV,e,o,j,G,m,h,rfl,g,d⟩:=F.ex;exact xZ g d S b λA z s H I Q E i c=>a G A z s H I Q E i c
structure CalX (P:Program) (w:World) (K:W.Frag) (mg:MS) (base:Heap) (k:Nat) (x:Str) (ps:LS) (sp:Sp):Prop where
 ex:∃(f:Addr) (fd:FuncData),FnOk P w K mg base (CX1 P w) k f fd ps sp/\mg x=some (.ref f)/\W.keepIn K (.ref f)=true/\Binds K fd ps []
theorem yv 
    (c:CalX P w K mg base k x ps sp) (l:Room k (bo (CX1 P w) P w K mg base N qual scope f I A z s H E).A) (h:Gl (bo (CX1 P w) P w K mg base N qual scope f I A z s H E) x)
    (d:PA (bo (CX1 P w) P w K mg base N qual scope f I A z s H E) (e::es) t)
    (i:autoParam (starEach (e::es) (bo (CX1 P w) P w K mg base N qual scope f I A z s H E).env=(false,eval e (bo (CX1 P w) P w K mg base N qual scope f I A z s H E).env)::starEach es (bo (CX1 P w) P w K mg base N qual scope f I A z s H E).env) aR9)
    (hpl:autoParam ((backTo pos (starEach es (bo (CX1 P w) P w K mg base N qual scope f I A z s H E).env)).any (·.1)=false) aR9) (hdb:autoParam ((x==("__debug__":Str))=false) aD9) :
    PE (bo (CX1 P w) P w K mg base N qual scope f I A z s H E) (.Call (.Name x p) (e::es) [] pos) (mZ sp [] E t):=by
 obtain⟨g,m,G,a,j,b⟩:=c.ex;exact qo G l h a j b .nil BD d (hdb:=hdb) (he:=i) (hpl:=hpl)
variable {x:Str}{C N:Addr}{bmB bm bs:LW}{newId:String}{nm q:Str}{hdct:Bool}{sn:LS}{sub:LW}{ab:Bool}{col:Option Bool}{dd:Option Addr}{k0 k1 k2 k3 k5:OV}{h:Heap}
theorem AR (X:K.In h) (a:mg x=some (.ref C)) (e:K.lookup C=some (excClassObj nm q C N bs bm hdct sn sub ab col dd k0 k1 k2 k3 k5 newId)) (b:W.nsOkIn K N=true) (d:W.nsIn K N "__init__"=some none)
    (c:W.tailIn K bmB bm=true):OwnCls x C bmB newId mg h :=
 ⟨a,bm,N,nm,q,bs,hdct,sn,sub,ab,col,dd,k0,k1,k2,k3,k5,_,X _ _ e,.of_isNs (W.isNs_of_in X b),W.nsMap_none_of_in X b d,W.tail_of_in X c⟩
theorem ve (X:K.In h) (a:K.lookup C=some (excClassObj nm q C N bs bm hdct sn sub ab col dd k0 k1 k2 k3 k5 newId)):XAt h C bm :=
 ⟨nm,q,N,bs,hdct,sn,sub,ab,col,dd,k0,k1,k2,k3,k5,newId,X _ _ a⟩
end
structure Errs (K:W.Frag) (mg:MS) (base:Heap) (ec:Str->Addr) (l c:LS):Prop where
 b:∀x∈l,mg x=some (.ref (ec x))
 f:∀x∈c,XFacts K (ec x)
 ord:("OrderError":Str)∈c
 kit:∀x∈c,x≠"OrderError"->∀y∈l,W.kitOne K (.ref (ec x)) (.ref (ec y))=some (y==x||y==("OrderError":Str))
 val:∀x∈c,W.kitOne K (.ref (ec x)) (.type "ValueError")=some true
 at_:∀x∈c,∃bm,XAt base (ec x) bm/\bm.contains (.type "BaseException")=true/\(Value.ref (ec x)::bm).contains (.ref (ec "OrderError"))=true
 nv:mg "ValueError"=none
 own:∀x∈c,x∉(["NoText","Ring","NoUnit"]:LS)->OwnCls x (ec x) [.type "ValueError",.type "Exception",.type "BaseException",.type "object"] "ValueError.__new__" mg base
theorem oG:bootBuiltins "ValueError"=some (.type "ValueError"):=by decide +kernel
abbrev dY (C:Addr) (dd:Option Addr) (t:Addr):Obj:={ cls:=.ref C,dict:=dd,data:=.fields #[.ref t,.none,.none,.none,.bool false,.none] }
abbrev we (us:LW):Obj:={ cls:=.type "tuple",data:=.seq us.toArray }
def cY (a C:Addr) (dd:Option Addr):HO:=.ext λh=>∃t,h.get? a=some (dY C dd t)
section
variable {prog:Program}{w:World}{A:Around}{E:QS}{h:Heap}{g:Array GenState}{d:Drawn}{tk:Nat}{os:OsState}
variable {nm q:Str}{C N fI:Addr}{oI:Obj}{bs bm bmB bmN:LW}{hdct:Bool}{sn:LS}{sub:LW}{ab:Bool}{col:Option Bool}{dd:Option Addr}{k0 k1 k2 k3 k5:OV}{B Bn newId nid initId inN:String}{mN:MS}{us:LW}
theorem sU (i:ExcBaseFacts Bn newId inN bmN) (c:bmB.contains (.type Bn)=true) (F:ExcBaseFacts B nid initId bmB) (T:OwnTail h bmB bm) (f:h.get? C=some (excClassObj nm q C N bs bm hdct sn sub ab col dd k0 k1 k2 k3 k5 newId)) (v:h.Ns N mN)
    (p:mN "__init__"=some (.ref fI)) (t:h.get? fI=some oI) (s:oI.cls=.type "function") (u:us.length<=sizeLine)
    (k:∀h' e,Heap.MadeExcOf h h' e (.ref C) us->wpAny (model prog w) A (call (.ref fI) (.ref e::us)) (λr s'=>r=.none/\Q (.done (.ret (.ref e))) s') E ⟨h',g,d,tk,os⟩) :
    wpAny (model prog w) A (Builtin.«type.__call__» ⟨.ref C::us,[]⟩) Q E ⟨h,g,d,tk,os⟩:=by
 repeat (first | with_reducible refine wpAny_madeBy_exc f ?_ | with_reducible refine wpAny_loadPart_at f ?_ | wp_step)
 refine codeAny_call_builtin_code (Code.quiet_builtin _ i.quiet) (wpAny_check_new_subU i c T f (codeAny_exc_new_subU i c F T f ?_ u));show wpAny _ _ _ _ _ _;have a:∀b o,h.get? b=some o->((h.push (we us)).push (dY C none h.objs.size)).get? b=some o:=λb o z=>Cc _ (Cc _ z);have m:((h.push (we us)).push (dY C none h.objs.size)).get? (h.objs.size+1)=some (dY C none h.objs.size):=by heap_get
 have l:=a _ _ f;have n:(Value.ref C::bm).contains (.ref C)=true:=by simp
 have j:((h.push (we us)).push (dY C none h.objs.size)).Ns N mN:=v.keeps a;unfold isInstance
 repeat (first | with_reducible refine wpAny_loadPart_at m ?_ | (with_reducible refine wpAny_isSubtype_exc l ?_;rw[n]) | wp_step)
 show wpAny _ _ (typeLookup (.ref C) "__init__") _ _ _;refine wpAny_typeLookup_tail l j (T.keeps a) F.mroIs F.init.lookup ?_;rw[p];refine CC (BP ?_);unfold bindSpecial;refine BP (wpAny_typeOf (T:="function") ⟨oI,a _ _ t,s⟩ ?_);rw[if_pos (by decide)];refine BS (BP (CY (k _ (h.objs.size+1) ⟨a,El (Dh _),h.objs.size,m,El (BR _),Cc _ (Heap.get?_push_at rfl rfl)⟩) (λr s' z=>?_) λ_ _ x=>x));obtain⟨rfl,z⟩:=z
 wp_walk
 exact z
theorem sZ (c:ExcBaseFacts Bn newId inN bmN) (b:bmB.contains (.type Bn)=true) (F:ExcBaseFacts B nid initId bmB) (T:OwnTail h bmB bm) (a:h.get? C=some (excClassObj nm q C N bs bm hdct sn sub ab col dd k0 k1 k2 k3 k5 newId)) (n:h.Ns N mN)
    (f:mN "__init__"=some (.ref fI)) (i:h.get? fI=some oI) (l:oI.cls=.type "function") (j:us.length<=sizeLine)
    (k:∀h' e,Heap.MadeExcOf h h' e (.ref C) us->wpAny (model prog w) (A.under (.builtin "type.__call__" ⟨.ref C::us,[]⟩)) (call (.ref fI) (.ref e::us)) (λr s'=>r=.none/\Q (.ref e) s') E ⟨h',g,d,tk,os⟩) :
    wpAny (model prog w) A (call (.ref C) us) Q E ⟨h,g,d,tk,os⟩:=by
 have p:=tc_lookup;have s:=tc_bind (.ref C);have o:(⟨h,g,d,tk,os⟩:Shared).TypeIs (.ref C) "type":=⟨_,a,rfl⟩
 refine wpAny_call (codeAny_of_tree ?_);show wpAny _ _ (callAny (.ref C) _) _ _ _
 repeat (any_goals (first | assumption | wp_step | with_reducible refine wpAny_loadPart_at a ?_))
 refine⟨rfl,codeAny_call_builtin_at (Code.quiet_builtin _ (by decide +kernel)) entry_typeCall (wpAny_check_type_call_sub a (sU c b F T a n f i l j λh' e m=>?_))⟩;exact k h' e m
end
section
variable {M:Model}{A:Around}{E:QS}{env:Env}{s:Shared}{bm:LW}{C:Addr}
theorem rQ (m:bm.contains (.type "BaseException")=true) (f:A.handled=none)
    (h:wpAny M A x (λv G=>∃e t I,v=.ref e/\XAt G.heap C bm/\G.heap.get? e=some (dY C I t)/\E (.ref e) G) E s):wpAny M A (raiseStmt env (some x) none) Q E s:=by
 have i:(Value.ref C::bm).contains (.type "BaseException")=true:=by rw[List.contains_cons,m,Bool.or_true]
 unfold raiseStmt;refine BP (CY h (λv G z=>?_) λ_ _ y=>y);obtain⟨e,t,I,rfl,⟨K,q,N,L,b,F,d,H,j,u,r,D,n,O,p,a,c⟩,k,l⟩:=z;obtain⟨w,g,o,B,J⟩:=G
 repeat (first | (with_reducible refine wpAny_isSubtype_exc c ?_;rw[i]) | with_reducible refine wpAny_loadPart_at k ?_ | with_reducible refine wpAny_loadPart_at c ?_ | wp_step)
 exact wpAny_raiseNew_none f l
end
def bmV:LW:=[.type "ValueError",.type "Exception",.type "BaseException",.type "object"]
def mY (l:LW):Bool:=match l with
 | .ref _::.ref _::r=>r==bmV
 | _=>false
theorem pI (a:Value) (e:mY l=true):refuseLoop a "__setattr__" l=pure ():=by
 unfold mY at e
 split at e
 ·rw[refuseLoop_ref,refuseLoop_ref,beq_iff_eq.mp e];exact PySem.F.store_ValueError.passes a
 ·cases e
structure XSet (K:W.Frag) (C:Addr) (f:Str):Prop where
 sa:W.findIn K (.ref C) "__setattr__"=some (some (.builtin "object.__setattr__"))
 po:(W.clsIn K C).any (λcd=>mY cd.mro)=true
 na:W.findIn K (.ref C) f=some none
 hd:W.hasDictIn K C=true
 hm:W.mroIn K C (.type "object")=some true
section
open PySem.W Builtin Builtin.ObjectAttr
variable {prog:Program}{w:World}{A:Around}{E:QS}{s:Shared}{K:Frag}{x C t:Addr}{f:Str}{v:Value}
theorem Bt (a:h.get? x=some (dY C none t)):InstAt h x (dY C none t) C none:=⟨a,rfl,rfl,True.intro⟩
theorem setX (X:K.In s.heap) (Z:XSet K C f) (c:s.heap.get? x=some (dY C none t))
    (k:∀h' d,s.heap.objs.size<=d->h'.get? x=some (dY C (some d) t)->h'.Ns1 d (λy=>if y=f then some v else none)->(∀b o,b≠x->s.heap.get? b=some o->h'.get? b=some o)->Q () { s with heap:=h',toks:=s.toks+2 }) :
    wpAny (model prog w) A (setAttr (.ref x) f v) Q E s:=by
 have I:=Bt c;obtain⟨R,i,u⟩:=any_some Z.po;obtain⟨M,g,j⟩:=any_some Z.hd;cases BV (g.symm.trans i);refine set_plain X I Z.sa ?_;have G:=PySem.F.store_object;have T:Looks (model prog w) s.heap (isInstance (.ref x) (.type "object")) true:=I.type.andThen (looks_mroIn X Z.hm);have S:Looks (model prog w) s.heap (mroOf (.ref C)) R.mro:=(looks_clsIn X i).andThen .now;refine codeAny_call_builtin G.slot.plain G.entry (@check_slot (model prog w) _ _ { s with toks:=s.toks+1 } "object.__setattr__" "object" "__setattr__" (.ref x) [.str f s.toks,v] [] _ G.kind G.split T (G.args (.ref x) (.str f s.toks) v) ?_);rw[osa_eq,refuse_eq];refine BP (BP (Looks.here (s:={ s with toks:=s.toks+1 }) I.type (BP (Looks.here (s:={ s with toks:=s.toks+1 }) S ?_))));rw[pI _ u];refine BS (BP (Looks.here (s:={ s with toks:=s.toks+1 }) I.type (BP (Looks.here (s:={ s with toks:=s.toks+1 }) (looks_findIn X Z.na) (BP (BS ?_))))));have nx:x≠s.heap.objs.size:=Cp (BZ c);refine BP (BS (BP (BP (wpAny_loadPart c (BP (Looks.here (s:={ s with toks:=s.toks+1 }) (looks_clsIn X i) ?_))))));rw[j];show wpAny _ _ (alloc { cls:=Value.type "dict",data:=Data.dict #[] } >>= _) _ _ _;have p:=Cc (h:=s.heap) { cls:=.type "dict",data:=.dict #[] } c;refine BP (wpAny_alloc' (BP (wpAny_update' p (BS ?_))));generalize l:(s.heap.push { cls:=.type "dict",data:=.dict #[] }).update x (λo=>{ cls:=o.cls,dict:=some s.heap.objs.size,data:=o.data,slots:=o.slots })=a;have P:a.get? s.heap.objs.size=some { cls:=.type "dict",data:=.dict #[] }:=by rw[<- l];exact(Heap.get?_update_ne _ _ _ _ (Ne.symm nx)).trans (Heap.get?_push_at rfl rfl)
 have B:a.get? x=some (dY C (some s.heap.objs.size) t):=by rw[<- l];exact DP _ p rfl
 have r:∀b o,b≠x->s.heap.get? b=some o->a.get? b=some o:=λb o m z=>by rw[<- l];exact(Heap.get?_update_ne _ _ _ _ m).trans (Cc _ z)
 have H:a.Ns s.heap.objs.size (λ_=>none):=⟨_,#[],_,P,rfl,(λe D=>absurd D (by simp)),λ_=>rfl⟩
 show wpAny _ _ (storeInDict s.heap.objs.size (.str f s.toks) f v) _ _ _;unfold storeInDict newKeyGuard;refine BP (BS (BP (wpAny_nsSet1 (Heap.Ns1.of_empty H) λh' q n=>?_)));obtain⟨U,O,L,F,J,N⟩:=q.count (Within.cons f v Within.nil);refine BP (wpAny_lookBehind F (by rw[J];exact pastItsLine_dict (Cn N (by rw[Cs,List.length_nil,sizeLine_eq];omega))) ?_);refine BS ?_;exact k h' s.heap.objs.size (BR _) ((n.2 x nx).trans B) q λb o m z=>(n.2 b (Cp (BZ z))).trans (r b o m z)
end
section
variable {X:Cx}{pins:AO_}{σ:St}{H:Hp}{s:Shared}{A:Around}{E:QS}{a C:Addr}{f:Str}
theorem ql (I:Inv X pins σ H s) (h:H a=some (cY a C dd)):∃t,s.heap.get? a=some (dY C dd t):=(show ObjOk X.prog X.w H s.heap a (cY a C dd) from I.hok a _ h).1
theorem rm (e:h.get? a=some (dY C dd t)):ObjOk P w H h a (cY a C dd) :=
 ⟨⟨t,e⟩,⟨_,e⟩,λ_ _ ⟨u,q⟩ z=>⟨u,z _ q⟩⟩
theorem yL (I:Inv X pins σ H s) (e:H a=some (cY a C none)) (Z:XSet X.K C f) (V:RelV y u)
    (k:∀d s',H d=none->d≠a->Inv X pins σ (upd (upd H d (.xd [(f,y)])) a (cY a C (some d))) s'->Q () s'):wpAny (model X.prog X.w) A (setAttr (.ref a) f u) Q E s:=by
 obtain⟨t,R⟩:=ql I e;refine setX I.kIn Z R λY d J F T p=>?_;have D:H d=none:=I.hok.fresh J;have U:d≠a:=λz=>by rw[z,e] at D;cases D
 have gd:s.heap.get? d=none:=El J;refine k d _ D U ?_;have K:∀ {b:Addr} {v:HO},H b=some v->b≠d:=λh l=>by rw[l,D] at h;cases h
 have x:∀ {b:Addr},H b=none->b≠a:=λh l=>by rw[l,e] at h;cases h
 have i:∀b,b≠a->b≠d->upd (upd H d (.xd [(f,y)])) a (cY a C (some d)) b=H b:=λb h l=>by rw[ag h,ag l]
 have g:∀(b:Addr) (v:HO),H b=some v->v≠cY a C none->upd (upd H d (.xd [(f,y)])) a (cY a C (some d)) b=some v:=λb v h l=>by rw[i b (λz=>by rw[z,e] at h;exact l (BV h).symm) (K h)];exact h
 refine Inv.step (g':=s.gens) (d':=s.drawn) (t':=s.toks+2) (ch:=[]) I (λb j=>by cases j) (λb o _ _ _ z n=>p b o (x n) z) (λb o _ _ _ z n=>⟨o.slots,p b o (x n) z⟩) (λb o _ z n=>?_) (λb o _ z=>?_)
  (λb S z=>g b _ z (by intro q;cases q)) (λb o v z=>g b _ z (by intro q;cases q)) (λb W z=>⟨#[],by rw[Array.append_empty];exact g b _ z (by intro q;cases q)⟩) (λm M=>?_) (λb v z=>?_) I.bare
 ·rw[i b (x n) λq=>by rw[q,gd] at z;cases z];exact n
 ·by_cases j:b=a
  ·exact⟨_,j ▸ F⟩
  ·exact⟨o,p b o j z⟩
 ·obtain⟨o,P,N,L,r⟩:=M;exact⟨o,P,N,p _ o (x I.free) L,r⟩
 ·by_cases j:b=a
  ·subst j;rw[ae] at z;cases z;exact rm F
  ·by_cases G:b=d
   ·subst G;rw[ag j,ae] at z;cases z;refine⟨_,T,λB=>?_⟩;show RelO (List.lookup B [(f,y)]) (if B=f then some u else none);by_cases q:B=f
    ·subst q;simp only[List.lookup,beq_self_eq_true,if_pos];exact V
    ·have:(B==f)=false:=beq_eq_false_iff_ne.mpr q;simp only[List.lookup,this,if_neg q];exact True.intro
   ·rw[i b j G] at z;refine(I.hok b v z).stay (λc w O q=>p c w ?_ q) (λc q=>g c _ q (by intro q;cases q)) λc S q=>g c _ q (by intro q;cases q);rintro rfl;rcases O with r | r
    ·exact j r.symm
    ·rw[e] at r;cases r
def BI (K:W.Frag) (ta tv:TE) (f:Str):TS:=λD σ H=>tv σ H λy H1=>ta σ H1 λx H2=>∃a C,x=.ref a/\H2 a=some (cY a C none)/\XSet K C f/\∀d,H2 d=none->d≠a->D.nx σ (upd (upd H2 d (.xd [(f,y)])) a (cY a C (some d)))
theorem yU (v:PE X o ta) (w:PE X z J) (k:swapsWith z (some (.Attribute o f G)) pos.line X.env=pure false):PS X (.Assign [.Attribute o f G] z pos) (BI X.K ta J f):=by
 intro b s c H D I h;refine plainObj_wpAny_Assign_Attribute (thn (w b s c H _ I h) λu E ⟨y,l,j,B,q⟩=>thn (v b E c l _ j q) λr F ⟨x,L,i,n,a,C,g,m,Z,p⟩=>?_) k;subst g;obtain rfl:r=Value.ref a:=n;exact yL i m Z B λd K t e A=>⟨c,_,A,p d t e⟩
end
theorem yq {K:W.Frag}{h:Heap}{N:Addr}{mN:Str -> OV}{n:Str}{v:Value}(X:K.In h) (G:h.Ns N mN) (e:W.nsIn K N n=some (some v)):mN n=some v := by
 obtain⟨o,f,d,c,b,_,a⟩:=G;unfold W.nsIn at e
 split at e
 ·rename_i q
  have z:=X _ _ q;rw[c] at z;cases z;cases b
  split at e
  ·rename_i en he
   cases e;rw[<- a];unfold nsFind findBy;rw[<- Array.find?_toList,he];rfl
  ·split at e <;> cases e
 ·cases e
structure OwnI (x:Str) (C fI:Addr) (mg:MS) (h:Heap):Prop where
 bound:mg x=some (.ref C)
 obj:∃tl N nm q bs hdct sn sub ab col dd k0 k1 k2 k3 k5 mN oI,h.get? C=some (excClassObj nm q C N bs tl hdct sn sub ab col dd k0 k1 k2 k3 k5 "ValueError.__new__")/\h.Ns N mN/\mN "__init__"=some (.ref fI)/\OwnTail h bmV tl/\h.get? fI=some oI/\oI.cls=.type "function"
def del (H:Hp) (e:Addr):Hp:=λb=>if b=e then none else H b
theorem vW:del H e e=none:=by unfold del;rw[if_pos rfl]
theorem jS (h:b≠e):del H e b=H b:=by unfold del;rw[if_neg h]
theorem Inv.del (I:Inv X pins σ H s) (he:H e=some (cY e C dd)):Inv X pins σ (del H e) s := by
 have a:∀(b:Addr) (v:HO),H b=some v->v≠cY e C dd->L2.del H e b=some v:=λb v z n=>by rw[jS λq=>by rw[q,he] at z;exact n (BV z).symm];exact z
 have f:∀b,H b=none->L2.del H e b=none:=λb z=>by
  unfold L2.del;split
  ·rfl
  ·exact z
 refine⟨I.ok,I.os,I.bare,⟨I.base.keep,I.base.slot,λb o z n j=>f b (I.base.free b o z n j),I.base.there,λb g z=>a b _ (I.base.tups b g z) (by intro q;cases q),λb o u z=>a b _ (I.base.frzs b o u z) (by intro q;cases q),λb h z=>?_⟩,I.loc,I.cell,f _ I.free,λx c z=>f _ (I.freeC x c z),λp k=>?_,λb v z=>?_,I.len⟩
 ·obtain⟨d,q⟩:=I.base.tbls b h z;exact⟨d,a b _ q (by intro q;cases q)⟩
 ·obtain⟨i,m,l⟩:=I.pin p k;exact⟨i,f _ m,l⟩
 ·have r:H b=some v:=by
     unfold L2.del at z;split at z
     ·cases z
     ·exact z
  exact(I.hok b v r).stay (λ_ _ _ q=>q) (λc q=>a c _ q (by intro q;cases q)) λc g q=>a c _ q (by intro q;cases q)
def ri (E:XK) (C:Addr) (sp:Sp) (ta:TA):TS:=λ_ σ H=>ta σ H λvs H1=>vs.length<=sizeLine/\∀e,H1 e=none->sp (.ref e::vs) (upd H1 e (cY e C none)) (λv H2=>v=.non/\∃dd,H2 e=some (cY e C dd)/\E (.ref C) dd (del H2 e)) E0
theorem vd {P:Program}{w:World}{K:W.Frag}{mg:Str -> OV}{base:Heap}{N:LS}{qual:Str}{scope:Scope}{f:Addr}{U:Value}{A:Around}{G:List Env}{s:Shared}{H:Hp}{E:XK}
    {x:Str} {C fI:Addr} {fd:FuncData} {ps:LS} {sp:Sp} {k:Nat} {np cpos pos:Pos} {J:Expr} {bL:List Expr} {ta:TA} (O:OwnI x C fI mg base) (kp:W.keepIn K (.ref C)=true)
    (F:FnOk P w K mg base CX0 k fI fd ps sp) (hb:Binds K fd ps []) (hr:Room (k+1) (bo (CX1 P w) P w K mg base N qual scope f U A G s H E).A)
    (hg:Gl (bo (CX1 P w) P w K mg base N qual scope f U A G s H E) x) (ha:PA (bo (CX1 P w) P w K mg base N qual scope f U A G s H E) (J::bL) ta)
    (he:autoParam (starEach (J::bL) (bo (CX1 P w) P w K mg base N qual scope f U A G s H E).env=(false,eval J (bo (CX1 P w) P w K mg base N qual scope f U A G s H E).env)::starEach bL (bo (CX1 P w) P w K mg base N qual scope f U A G s H E).env) aR9)
    (hpl:autoParam ((backTo cpos (starEach bL (bo (CX1 P w) P w K mg base N qual scope f U A G s H E).env)).any (·.1)=false) aR9) (hdb:autoParam ((x==("__debug__":Str))=false) aD9) :
    PS (bo (CX1 P w) P w K mg base N qual scope f U A G s H E) (.Raise (some (.Call (.Name x np) (J::bL) [] cpos)) none pos) (ri E C sp ta):=by
 intro a s1 σ H1 D I h;obtain⟨tl,Nn,nm,q,bs,j,sn,S,ab,L,dd,k0,k1,k2,k3,k5,mN,oI,hC,hN,hi,T,gf,cf⟩:=O.obj;rw[arm_exec_Raise];refine BP (wpAny_standAt (rQ (C:=C) (bm:=tl) (T.hasType PySem.F.excBase_ValueError.hasBase) (I.ok.hd rfl) ?_));show wpAny _ _ (do let v ← eval (.Call (.Name x np) (J::bL) [] cpos) _;standAt pos;pure v) _ _ _;refine BP (thn (Q:=λv n=>∃e t R,v=.ref e/\XAt n.heap C tl/\n.heap.get? e=some (dY C R t)/\(bo (CX1 P w) P w K mg base N qual scope f U A G s H E).xe (.ref e) n) ?_ λv n z=>BP (wpAny_standAt (BS z)));refine DO (gP I hg O.bound ?_ hdb);refine W.callWith_K (h₀:=base) I.ok.mod.kin kp (thn (ha cpos a s1 σ H1 _ I h) λb s2 ⟨Z,M,c,r,hl,q2⟩=>⟨c.kIn,?_⟩) he hpl;have p:=c.bk;obtain⟨hh,g,d,tk,os⟩:=s2;refine sZ PySem.F.excBase_ValueError (by decide) PySem.F.excBase_ValueError (T.keeps p) (p _ _ hC) (hN.keeps p) hi (p _ _ gf) cf (by rw[List.nil_append,<- r.length];exact hl) λh' e i=>?_;rw[List.nil_append] at i ⊢;obtain⟨t,ge,_,_⟩:=i.there;have ne:M e=none:=by
  cases z:M e with
  | none=>rfl
  | some u =>
   obtain⟨o,Y⟩:=ObjOk.obj (c.hok e u z);rw[i.new] at Y;cases Y
 have n0:s.heap.get? e=none:=by
  cases z:s.heap.get? e with
  | none=>rfl
  | some o =>
   obtain⟨o',e'⟩:=c.base.there e o z (by intro y;cases y);rw[i.new] at e';cases e'
 have X:Inv (bo (CX1 P w) P w K mg base N qual scope f U A G s H E) a σ (upd M e (cY e C none)) ⟨h',g,d,tk,os⟩ :=
  Inv.track c (c.kept (t':=tk) i.keeps) i.new ne (rm ge)
 have hs:=q2 e ne;have r2:Vals (V.ref e::Z) (Value.ref e::b):=.cons rfl r;have l:(Value.ref e::b++[]).length=ps.length:=by rw[CB,<- r2.length];exact F.len _ _ _ _ hs
 refine wpAny_call (codeAny_mono (F.run _ _ _ _ ⟨Value.ref e::b,[]⟩ (Value.ref e::b++[]) (V.ref e::Z) _ _ (hr.make C b []) (X.env0.make C b []) (hb _ (Value.ref e::b) X.kIn l) (by rw[CB];exact r2) hs) λr s' m=>?_);cases r with
 | error ev=>exact False.elim m
 | ok fl =>
  cases fl with
  | ret u =>
   obtain⟨v,H4,B,rv,rfl,R,e4,qE⟩:=X.after m;obtain⟨t4,g4⟩:=ql B e4;refine⟨rv,e,t4,R,rfl,⟨nm,q,Nn,bs,j,sn,S,ab,L,dd,k0,k1,k2,k3,k5,_,B.bk _ _ hC⟩,g4,?_⟩;exact Ad (B.del e4) vW g4 rfl rfl n0 qE
  | next=>exact False.elim m
  | brk=>exact False.elim m
  | cont=>exact False.elim m
structure XGet (K:W.Frag) (C:Addr) (f:Str):Prop where
 na:W.findIn K (.ref C) f=some none
 hd:W.hasDictIn K C=true
section
open PySem.W PySem.Calls Builtin Builtin.ObjectAttr
variable {K:Frag}{x C:Addr}{h:Heap}{M:Model}{prog:Program}{w:World}{A:Around}{E:QS}{s:Shared}{ox od:Obj}{f:Str}{u:Value}
theorem BE (Z:XFacts K C) (X:K.In s.heap) (I:InstAt s.heap x ox C (some od)) (b:findObj K C (some od) f=some (.value u)) (h:R (.ok (.ret u)) s) :
    codeAny (model prog w) A (.call (.builtin "BaseException.__getattribute__") ⟨[.ref x,.str f tk],[]⟩) R s:=by
 have k:=I.type (M:=model prog w);have m:=looks_mroIn (M:=model prog w) X Z.hb;have e:=looks_find (M:=model prog w) X I b;have c:builtinKind "BaseException.__getattribute__"=some .slot:=by decide +kernel
 have a:splitId "BaseException.__getattribute__"=some ("BaseException","__getattribute__"):=by decide +kernel
 have j:=PySem.F.args_bexc_ga (.ref x) (.str f tk);obtain⟨l,g,d,t,i⟩:=s;refine codeAny_call_builtin PySem.F.attr_ValueError.ga.plain PySem.F.entry_bexc_ga ?_;simp only[checkBuiltinCall,c,a];refine BP ?_;unfold isInstance
 repeat lk
 exact h
theorem AD (Z:XFacts K C) (X:K.In s.heap) (I:InstAt s.heap x ox C (some od)) (c:findObj K C (some od) f=some (.value u)) (a:handedIn u=true) (h:Q u { s with toks:=s.toks+1 }) :
    wpAny (model prog w) A (getAttr (.ref x) f b) Q E s:=by
 have d:=I.type (M:=model prog w);have j:=looks_findIn (M:=model prog w) X Z.ga;have e:=looks_findIn (M:=model prog w) X Z.gb;have i:=PySem.F.attr_ValueError.ga.bind (.ref x);obtain⟨m,g,k,t,l⟩:=s;simp only[getAttr,getAttrBy];refine BP (wpAny_mkText (CC (BP (d.at (BP (j.at ?_))))));show wpAny _ _ (getAttrByItsOwn _ _ _ _ _ _) _ _ _;refine BP ?_;show wpAny _ _ (typeLookup (.ref C) "__getattr__") _ _ _;refine e.at (BP (wpAny_attempt (CC ?_)));unfold callGetattribute;rw[if_neg (by cases b <;> decide)];unfold boundAndCalled;rw[i];refine BP (BS ?_);show wpAny _ _ (call (.builtin "BaseException.__getattribute__") [.ref x,.str f t]) _ _ _;refine wpAny_call (BE Z X I c ?_);show wpAny _ _ (handedOut u) _ _ _;exact handed_on a (by exact h)
end
section
variable {X:Cx}{e:Expr}{f:Str}{pos:Pos}{ta:TE}
def xM (K:W.Frag) (ta:TE) (f:Str):TE:=λσ H Q=>ta σ H λx H1=>∃a C d fs v,x=.ref a/\H1 a=some (jp a C (some d))/\H1 d=some (.xd fs)/\fs.lookup f=some v/\XFacts K C/\XGet K C f/\Q v H1
theorem yx (he:PE X e ta) (L:attributeBase e f X.env (eval e X.env)=eval e X.env):PE X (.Attribute e f pos) (xM X.K ta f):=by
 intro b s D H Q I h;refine yF L (thn (he b s D H _ I h) λu i ⟨x,g,c,A,a,C,d,K,v,k,w,p,l,Z,G,q⟩=>?_);subst k;obtain rfl:u=Value.ref a:=A;obtain⟨o,E,m,B,n⟩:=(show ObjOk X.prog X.w g i.heap a (jp a C (some d)) from c.hok a _ w).1;obtain⟨t,M,r⟩:=(show ObjOk X.prog X.w g i.heap d (.xd K) from c.hok d _ p)
 obtain⟨F,gd,z⟩:=md M;obtain⟨N,y,j⟩:=RelO.some_of (v:=v) (o:=t f) (by rw[<- l];exact r f);have J:W.InstAt i.heap a o C (some F):=⟨E,m,n,by rw[B];exact gd⟩
 exact AD Z c.kIn J (W.findObj_own G.hd G.na rfl (by rw[z,y])) (uX j) ⟨v,g,c.tok _,j,q⟩
end
end L2
namespace L2
open PySem
theorem tL {R J:SH}{G:Prop}(a:(∀σ H,J σ H->R σ H)->G) (bL:∀σ H,J σ H->R σ H):G:=a bL
end L2
namespace L2
open PySem PySem.Spec PyProof.Rows
def gm (ps:List (Str × Addr)) (x:Str):Addr:=(ps.lookup x).getD 0
theorem iV:∀ {ps:List (Str × Addr)}, (ps.map (·.1)).Nodup -> ∀p ∈ ps, gm ps p.1=p.2
 | [],_,p,h=>by cases h
 | q::ps,nd,p,h=>by
  rw[Cv,CI] at nd;unfold gm;rcases Cm.mp h with rfl | h
  ·rw[CS];simp
  ·have ne:p.1≠q.1:=λz=>nd.1 (z ▸ BY.mpr ⟨p,h,rfl⟩);have:(p.1==q.1)=false:=by simpa using ne
   rw[CS,this];exact iV nd.2 p h
theorem fc {α:Type}{P:α->Prop}:∀x∈([]:List α),P x:=λx h=>by cases h
theorem bS {α:Type}{P:α->Prop}{a:α}{l:List α}(h:P a) (g:∀x∈l,P x):∀x∈a::l,P x:=λx b=>by
 rcases Cm.mp b with rfl | b
 ·exact h
 ·exact g x b
variable {K:W.Frag}{mg:MS}{base:Heap}
theorem yJ {ps cs:List (Str × Addr)}(s:(ps.map (·.1)).Nodup) (c:∀p∈cs,p∈ps) (b:∀p∈ps,mg p.1=some (.ref p.2)) (f:∀p∈cs,XFacts K p.2) (j:("OrderError":Str)∈cs.map (·.1))
    (i:∀p∈cs,p.1≠"OrderError"->∀q∈ps,W.kitOne K (.ref p.2) (.ref q.2)=some (q.1==p.1||q.1==("OrderError":Str))) (m:∀p∈cs,W.kitOne K (.ref p.2) (.type "ValueError")=some true)
    (k:∀p∈cs,∃bm,XAt base p.2 bm/\bm.contains (.type "BaseException")=true/\(Value.ref p.2::bm).contains (.ref (gm ps "OrderError"))=true) (t:mg "ValueError"=none)
    (l:∀p∈cs,p.1∉(["NoText","Ring","NoUnit"]:LS)->OwnCls p.1 p.2 [.type "ValueError",.type "Exception",.type "BaseException",.type "object"] "ValueError.__new__" mg base):Errs K mg base (gm ps) (ps.map (·.1)) (cs.map (·.1)):=by
 have e:=iV s;have q:∀ {x:Str},x∈ps.map (·.1)->∃p∈ps,p.1=x:=λh=>by obtain⟨p,a,rfl⟩:=BY.mp h;exact⟨p,a,rfl⟩
 have r:∀ {x:Str},x∈cs.map (·.1)->∃p∈cs,p.1=x:=λh=>by obtain⟨p,a,rfl⟩:=BY.mp h;exact⟨p,a,rfl⟩
 refine⟨λx d=>?_,λx d=>?_,j,λx d n y o=>?_,λx d=>?_,λx d=>?_,t,λx d n=>?_⟩
 ·obtain⟨p,a,rfl⟩:=q d;rw[e p a];exact b p a
 ·obtain⟨p,a,rfl⟩:=r d;rw[e p (c p a)];exact f p a
 ·obtain⟨p,a,rfl⟩:=r d;obtain⟨p2,g,rfl⟩:=q o;rw[e p (c p a),e p2 g];exact i p a n p2 g
 ·obtain⟨p,a,rfl⟩:=r d;rw[e p (c p a)];exact m p a
 ·obtain⟨p,a,rfl⟩:=r d;rw[e p (c p a)];exact k p a
 ·obtain⟨p,a,rfl⟩:=r d;rw[e p (c p a)];exact l p a n
end L2
namespace MG
variable {es:List (Nat × Nat)}{n:Nat}{ks ls:List Nat}
def dueB (es:List (Nat × Nat)) (ks:List Nat) (v:Nat):Bool:=!decide (v∈ks)&&es.all λe=>!decide (e.2=v)||decide (e.1∈ks)
end MG
namespace L2
open PySem PySem.Spec PyProof.Rows
def BH (s:Stmt) (i:Nat):Stmt:=match s with
 | .ClassDef _ _ _ b _ _ _ _ _ _ _=>b.getD i (.Pass ⟨0,0,0,0⟩)
 | s=>s
section
variable {P:Program}{w:World}{K:W.Frag}{mg:MS}{base:Heap}
variable {x:Str}{C N fI:Addr}{bm bs:LW}{nm q:Str}{hdct:Bool}{sn:LS}{sub:LW}{ab:Bool}{col:Option Bool}{dd:Option Addr}{k0 k1 k2 k3 k5:OV}{h:Heap}
theorem yp (X:K.In h) (a:mg x=some (.ref C)) (f:K.lookup C=some (excClassObj nm q C N bs bm hdct sn sub ab col dd k0 k1 k2 k3 k5 "ValueError.__new__")) (b:W.nsOkIn K N=true)
    (e:W.nsIn K N "__init__"=some (some (.ref fI))) (d:W.tailIn K bmV bm=true) (c:K.lookup fI=some ⟨.type "function",od,z,G⟩):OwnI x C fI mg h :=
 ⟨a,bm,N,nm,q,bs,hdct,sn,sub,ab,col,dd,k0,k1,k2,k3,k5,_,_,X _ _ f,.of_isNs (W.isNs_of_in X b),yq X (.of_isNs (W.isNs_of_in X b)) e,W.tail_of_in X d,X _ _ c,rfl⟩
structure MkI (P:Program) (w:World) (K:W.Frag) (mg:MS) (base:Heap) (k:Nat) (x:Str) (C:Addr) (ps:LS) (sp:Sp):Prop where
 ex:∃(fI:Addr) (fd:FuncData),OwnI x C fI mg base/\W.keepIn K (.ref C)=true/\FnOk P w K mg base CX0 k fI fd ps sp/\Binds K fd ps []
theorem vb {I:LS}{qual:Str}{scope:Scope}{f:Addr}{J:Value}{A:Around}{z:List Env}{s:Shared}{H:Hp}{E:XK}{ps:LS}{sp:Sp}{k:Nat}{U cpos pos:Pos}{G:Expr}{bL:List Expr}{ta:TA}
    (m:MkI P w K mg base k x C ps sp) (e:Room (k+1) (bo (CX1 P w) P w K mg base I qual scope f J A z s H E).A)
    (c:Gl (bo (CX1 P w) P w K mg base I qual scope f J A z s H E) x) (a:PA (bo (CX1 P w) P w K mg base I qual scope f J A z s H E) (G::bL) ta)
    (he:autoParam (starEach (G::bL) (bo (CX1 P w) P w K mg base I qual scope f J A z s H E).env=(false,eval G (bo (CX1 P w) P w K mg base I qual scope f J A z s H E).env)::starEach bL (bo (CX1 P w) P w K mg base I qual scope f J A z s H E).env) aR9)
    (hpl:autoParam ((backTo cpos (starEach bL (bo (CX1 P w) P w K mg base I qual scope f J A z s H E).env)).any (·.1)=false) aR9) (hdb:autoParam ((x==("__debug__":Str))=false) aD9) :
    PS (bo (CX1 P w) P w K mg base I qual scope f J A z s H E) (.Raise (some (.Call (.Name x U) (G::bL) [] cpos)) none pos) (ri E C sp ta):=by
 obtain⟨g,h,O,d,F,b⟩:=m.ex;exact vd O d F b e c a he hpl hdb
def iM (K:W.Frag) (fl:Str):Sp:=λvs H Q _=>∃(e C l:Addr) (xs:LV),vs=[.ref e,.ref l]/\H e=some (cY e C none)/\H l=some (.lst xs)/\XSet K C fl /\
 ∀r d,H r=none->H d=none->r≠d->Q .non (upd (upd (upd H r (.lst xs)) d (.xd [(fl,.ref r)])) e (cY e C (some d)))
theorem pB {E:XK}{C l e:Addr}{G:Str}{xs:LV}{H1:Hp}(n:H1 l=some (.lst xs)) (Z:XSet K C G) (he:H1 e=none) (k:∀r d H',Same H1 H'->H1 r=none->H1 d=none->H' r=some (.lst xs)->H' d=some (.xd [(G,.ref r)])->E (.ref C) (some d) H') :
    iM K G [.ref e,.ref l] (upd H1 e (cY e C none)) (λv H2=>v=.non/\∃dd,H2 e=some (cY e C dd)/\E (.ref C) dd (del H2 e)) E0:=by
 have m:l≠e:=ai n he;refine⟨e,C,l,xs,rfl,ae,by rw[ag m];exact n,Z,λr d g f j=>⟨rfl,some d,ae,?_⟩⟩;have a:r≠e:=λz=>by rw[z,ae] at g;cases g
 have c:d≠e:=λz=>by rw[z,ae] at f;cases f
 rw[ag a] at g;rw[ag c] at f;refine k r d _ (λb o h=>?_) g f ?_ ?_
 ·have i:b≠e:=ai h he;rw[jS i,ag i,ag (ai h f),ag (ai h g),ag i];exact h
 ·rw[jS a,ag a,ag j,ae]
 ·rw[jS c,ag c,ae]
end
def Cx.catch (X:Cx) (pins:AO_) (σ:St) (E:XK):Cx:={ X with pn:=X.pn++pins,xe:=λev s'=>∃H1 s1,Inv X pins σ H1 s1/\CX1 X.prog X.w X.stack H1 s1 E ev s' }
section
variable {X:Cx}{pins pins':AO_}{σ σ0:St}{H:Hp}{s:Shared}{E:XK}
theorem Cx.Ok.catch (a:X.Ok):(X.catch pins σ0 E).Ok :=
 ⟨a.mod,a.kind,a.glob,a.blt,a.above,a.inj,a.has,a.cab,a.hd,a.frames,a.stk,a.exf,a.bs,a.bsz,a.noex,a.exfs,a.funs,a.frf⟩
theorem Inv.catch (I:Inv X pins σ H s):Inv (X.catch pins σ0 E) [] σ H s :=
 ⟨I.ok.catch,I.os,I.bare,I.base,I.loc,I.cell,I.free,I.freeC,λp a=>I.pin p (by rw[CB] at a;exact a),I.hok,I.len⟩
theorem Inv.ofCatch (b:X.Ok) (I:Inv (X.catch pins σ0 E) pins' σ H s):Inv X pins σ H s :=
 ⟨b,I.os,I.bare,I.base,I.loc,I.cell,I.free,I.freeC,λp a=>I.pin p (CM _ a),I.hok,I.len⟩
theorem Inv.okC (I:Inv (X.catch pins σ0 E) pins' σ H s):X.Ok :=
 ⟨I.ok.mod,I.ok.kind,I.ok.glob,I.ok.blt,I.ok.above,I.ok.inj,I.ok.has,I.ok.cab,I.ok.hd,I.ok.frames,I.ok.stk,I.ok.exf,I.ok.bs,I.ok.bsz,I.ok.noex,I.ok.exfs,I.ok.funs,I.ok.frf⟩
def AC (σ0:St) (sp:Sp) (E:XK) (t:TA):TE:=λσ H Q=>t σ H λvs H1=>σ=σ0/\sp vs H1 Q E
theorem yw (c:CalX X.prog X.w X.K X.mg X.base k x ps sp) (y:Room k X.A) (B:Gl X x) (A:PA (X.catch pins σ0 E) (e::es) t)
    (he:autoParam (starEach (e::es) X.env=(false,eval e X.env)::starEach es X.env) aR9) (hpl:autoParam ((backTo pos (starEach es X.env)).any (·.1)=false) aR9) (hdb:autoParam ((x==("__debug__":Str))=false) aD9) :
    PE (X.catch pins σ0 E) (.Call (.Name x p) (e::es) [] pos) (AC σ0 sp E t):=by
 intro a s z H Q I h;obtain⟨f,D,F,n,v,b⟩:=c.ex;refine DO (gP (X:=X.catch pins σ0 E) I B n ?_ hdb);refine W.callWith_K (h₀:=X.base) I.ok.mod.kin v (thn (A pos a s z H _ I h) λi l ⟨w,m,d,r,j,q⟩=>⟨d.kIn,?_⟩) he hpl;subst j;have o:(i++[]).length=ps.length:=by rw[CB,<- r.length];exact F.len _ _ _ _ q
 refine wpAny_call (codeAny_mono (F.run X.A X.stack l m ⟨i,[]⟩ (i++[]) w Q E y d.env0 (b l i d.kIn o) (by rw[CB];exact r) q) λr C g=>?_);cases r with
 | error ev=>exact⟨m,l,d.ofCatch I.okC,g⟩
 | ok fl =>
  cases fl with
  | ret u=>exact d.after g
  | next=>exact False.elim g
  | brk=>exact False.elim g
  | cont=>exact False.elim g
def Br (base:Heap) (Dc:Addr) (i:Nat) (th:TS) (D:Ends) (σ:St):XK:=λcls dd H2=>∃C bm,cls=.ref C/\XAt base C bm/\(Value.ref C::bm).contains (.ref Dc)=true/\∀a,H2 a=none ->
    th { nx:=λσ' H'=>D.nx (σ'.set i none) H',rt:=D.rt,bk:=λσ' H'=>D.bk (σ'.set i none) H',ct:=λσ' H'=>D.ct (σ'.set i none) H' } (σ.set i (some (.ref a))) (upd H2 a (jp a C dd))
def Bi (base:Heap) (tb:St->XK->TS) (Dc:Addr) (i:Nat) (th:TS):TS:=λD σ H=>tb σ (Br base Dc i th D σ) D σ H
theorem yi 
    (Q:∀pins σ E,PSs (X.catch pins σ E) O (tb σ E)) (d:X.stack=X.env::X.outer) (m:X.env.frame=some X.env.locals) (a9:Gl X Y) (a7:X.mg Y=some (.ref Dc)) (hD:XAt X.base Dc U) (a8:U.contains (.type "BaseException")=true)
    (N:X.N.Nodup) (y:X.N[i]? = some n) (t:X.env.scope.names.lookup n=some .local) (hs:∀a xe,PSs (X.mark (.ref a) xe) (J::G) th) (a1:autoParam ((Y==("__debug__":Str))=false) aD9) :
    PS X (.Try O [.ExceptHandler (some (.Name Y q)) (some n) (J::G) b4] [] [] b1) (Bi X.base tb Dc i th):=by
 intro pins s σ H D I h;refine wpAny_Try_except (CY (Q pins σ _ [] s σ H D I.catch h) (λj e w=>?_) λev e w=>?_)
 ·have R:=I.ok;cases j with
  | next =>
   obtain⟨b,f,c,l⟩:=w;exact wpAny_execs_nil ⟨b,f,c.ofCatch R,l⟩
  | brk =>
   obtain⟨b,f,c,l⟩:=w;exact⟨b,f,c.ofCatch R,l⟩
  | cont =>
   obtain⟨b,f,c,l⟩:=w;exact⟨b,f,c.ofCatch R,l⟩
  | ret u =>
   obtain⟨v,b,f,c,r',l⟩:=w;exact⟨v,b,f,c.ofCatch R,r',l⟩
 ·obtain⟨H1, s1, I1, a, c0, dq, B, f, rfl, os, g, un, A, j, F, TB, KB, AB, C, bm, rfl, hC, a4, a3⟩ := w;have S:XF B (X.env::X.outer) a (.ref C) dq .none e.heap:=d ▸ j;have a5:s1.heap.get? a=none := by
   cases z:s1.heap.get? a with
   | none=>rfl
   | some ob =>
    by_cases Q:a∈frs X.stack
    ·obtain⟨_,o1,g1,g2⟩:=j.2.2.1.mem Q;obtain⟨oe,Z,K,a6⟩:=j.rec;rw[g1] at K;cases K;exact absurd a6 (g2 Z)
    ·obtain⟨o',e'⟩:=AB a ob z Q;have:=j.2.1;rw[e'] at this;cases this
  have L:X.A.frames=some (X.env::X.outer):=d ▸ I.ok.frames;refine xP L m S λh4 f4 x=>?_;refine ng (s:={ e with heap:=h4 }) f4 λh5 f5 M=>?_;have I5:Inv X pins σ f { e with heap:=h5 }:=qC I1 d m os g un A (d ▸ f5) (x.trans M) TB KB AB;refine wpAny_handleBy_cons (codeAny_handlers_test (gP (X:=X.mark (.ref a) (λ_ _=>False)) I5.mark a9 a7 ?_ a1)) (by intro z;cases z);obtain⟨oe,ge,gc,_⟩:=f5.there;obtain⟨nm,qq,NN,bs,b0,sn,c3,ab,c1,dd,k0,k1,k2,k3,k5,T,gC⟩:=hC;obtain⟨b8,c2,b6,b9,a2,c4,b3,b5,b2,c5,j0,j1,j2,j3,j5,P,gD⟩:=hD;refine pG (I5.bk _ _ gC) ge gc (I5.bk _ _ gD) a8 a4 (codeAny_handlers_suite_as (ng (s:={ e with heap:=h5 }) f5 λh6 f6 a0=>?_));have I6:Inv X pins σ f { e with heap:=h6 }:=qC I1 d m os g un A (d ▸ f6) ((x.trans M).trans a0) TB KB AB;obtain⟨o6,g6,c6,d6⟩:=f6.there;have n6:W.notCls o6=true:=by
   obtain⟨o7,b7,g7,k7⟩:=f6.rec;have z7:=BV (g7.symm.trans g6);rw[<- z7];unfold W.notCls;rw[k7]
  have I7:Inv X pins σ (upd f a (jp a C dq)) { e with heap:=h6 }:=Inv.track I1 I6 a5 F ⟨⟨o6,g6,c6,d6,n6⟩,⟨o6,g6⟩,λh1 h2 ⟨o,e1,e2⟩ z=>⟨o,z o e1,e2⟩⟩;refine fJ (v:=.ref a) I7 N y (.inl t) rfl (λs8 I8=>?_) (.inr t);refine CY (hs a _ pins s8 _ _ _ I8.mark (a3 a F)) (λj s9 r=>?_) λev s9 r=>r;cases j with
  | next =>
   obtain⟨b,V,p,k⟩:=r;exact jR (p.unmark I.ok) N y t λe c=>⟨_,_,c,k⟩
  | brk =>
   obtain⟨b,V,p,k⟩:=r;exact jR (p.unmark I.ok) N y t λe c=>⟨_,_,c,k⟩
  | cont =>
   obtain⟨b,V,p,k⟩:=r;exact jR (p.unmark I.ok) N y t λe c=>⟨_,_,c,k⟩
  | ret u =>
   obtain⟨v,b,V,p,r9,k⟩:=r;exact jR (p.unmark I.ok) N y t λe c=>⟨v,_,_,c,r9,k⟩
end
section
variable {X:Cx}{p pos:Pos}{e:Expr}{t:TA}
theorem kU (K:W.Frag) (a:autoParam (X.K=K) aR9):SlR X (Af K):=a ▸ tV
end
end L2
namespace L2
open PySem PySem.Spec PyProof.Rows PySem.W
def up1 (c:Nat):Nat:=if 97<=c/\c<=122 then c-32 else c
end L2
namespace L2
open PySem PySem.Spec PyProof.Rows
namespace SU
theorem entry_loop:entryFor table "set.update.loop"=some Builtin.«set.update.loop»:=entryFor_of_tree (by kernel_rfl)
theorem plain_loop:plainId "set.update.loop"=true:=by decide +kernel
end SU
def zT (K:W.Frag) (ta:TA):TI:=λσ H R=>ta σ H λvs H1=>∃a b xs ys,vs=[.ref a,.ref b]/\SqT K H1 a xs/\SqT K H1 b ys/\R (sj K a b) H1
theorem pN {P:Program}{w:World}{K:W.Frag}{elts:List Expr}{x1}{tp:Pos}(a b z TI TO f e:Addr) (D:ZipApart z TI TO f e a b) :
    Turn P w K (.Tuple elts x1 tp) (sj K a b) [z,TI,TO,f,e] z (λi h=>(∃G I,F0 G/\Zp h z TI TO G I)/\IsPair h TI (.ref f) (.ref e)/\(∃c d,IsPair h TO c d)/\h.IsTupleIter f a i/\h.IsTupleIter e b i) :=
 gT (t1:=true) (t2:=true) a b z TI TO f e D
theorem sY (K:W.Frag) {X:Cx}{elts:List Expr}{x1}{tp:Pos}{a b:Expr}{ta:TA}{p pos:Pos}(V:Gl X "zip") (G:X.mg "zip"=none) (U:PA X [a,b] ta) (F:autoParam (starEach [a,b] X.env=(false,eval a X.env)::starEach [b] X.env) aR9) (hpl:autoParam ((backTo pos (starEach [b] X.env)).any (·.1)=false) aR9) (Z:autoParam (X.K=K) aR9) :
    PI X (.Tuple elts x1 tp) (.Call (.Name "zip" p) [a,b] [] pos) (zT K ta):=by
 subst Z;intro k s S H R I h;refine Call_ (du I V G (show bootBuiltins "zip"=some (.type "zip") by decide +kernel) (PyProof.Rows.callWith_type1 (thn (U pos k s S H _ I h) λus f ⟨vs,M,i,x,O⟩=>?_) F hpl));obtain⟨l,m,xs,ys,e,r,t,q⟩:=O;subst e;obtain⟨u1,u2,rfl,x,E⟩:=eY x;cases x;cases E;obtain⟨u,rv,C,_⟩:=i.tuple r;obtain⟨n,Q,D,_⟩:=i.tuple t;have L:l<f.heap.objs.size:=by obtain⟨_,e,_⟩:=C;exact BZ e
 have Y:m<f.heap.objs.size:=by obtain⟨_,e,_⟩:=D;exact BZ e
 refine sv (show f.heap.IsTuple l u.toArray from C) (show f.heap.IsTuple m n.toArray from D) λg N A o v z J=>?_;have T:=pN (P:=X.prog) (w:=X.w) (K:=X.K) (elts:=elts) (x1:=x1) (tp:=tp) l m _ _ _ _ _ (zipApart_new L Y);have B:(∃f0 f1,F0 f0/\Zp g (f.heap.objs.size+4) (f.heap.objs.size+2) (f.heap.objs.size+3) f0 f1)/\IsPair g (f.heap.objs.size+2) (.ref f.heap.objs.size) (.ref (f.heap.objs.size+1))/\(∃c d,IsPair g (f.heap.objs.size+3) c d)/\g.IsTupleIter f.heap.objs.size l 0/\g.IsTupleIter (f.heap.objs.size+1) m 0:=⟨⟨_,_,.inl rfl,N⟩,A,⟨_,_,o⟩,v,z⟩
 refine T.self X.A 0 { f with heap:=g } _ _ B ?_;refine⟨_,_,_,_,M,rfl,i.kept (t':=f.toks) J,T,B,λb y=>?_,q⟩;have y:b=f.heap.objs.size+4∨b=f.heap.objs.size+2∨b=f.heap.objs.size+3∨b=f.heap.objs.size∨b=f.heap.objs.size+1:=by simpa using y
 have j:f.heap.objs.size<=b:=by rcases y with e | e | e | e | e <;> rw[e] <;> first | exact BR _ | exact Ec _ _
 exact i.fpOk j (i.hok.fresh j)
theorem sR {K:W.Frag}{k:Nat}{fr:List Nat}{g:TG}{tc:TT}{te:TE}{σ:St}{H1:Hp}{Q:VK}{a b:Addr}(xs ys:LV) (d:Addr -> Nat -> LV -> St -> Hp -> Prop)
    (h:∀D,H1 D=none->d D 0 [] (eR k fr σ) (upd H1 D (.lst []))/\(∀i z σ' H',i<=(xs.zip ys).length->d D i z σ' H'->H' D=some (.lst z)->SqT K H' a xs/\SqT K H' b ys) /\
     (∀i z σ' H' x y p,(xs.zip ys)[i]? = some (x,y)->d D i z σ' H'->H' D=some (.lst z)->H' p=none->g (.ref p) σ' (upd H' p (.tup [x,y])) λσ2 J=>tc σ2 J λb G =>
      if b=true then te σ2 G λy I=>I D=some (.lst z)/\z.length<sizeLine/\d D (i+1) (z++[y]) σ2 (upd I D (.lst (z++[y]))) else G D=some (.lst z)/\d D (i+1) z σ2 G) /\
     ∀z σ' H',d D (xs.zip ys).length z σ' H'->H' D=some (.lst z)->Q (.ref D) H'):ew k fr g tc te (sj K a b) σ H1 Q:=by
 intro D B;obtain⟨s,l,t,A⟩:=h D B;refine⟨λi m z σ' H'=>m=(xs.zip ys).length-i/\i<=(xs.zip ys).length/\d D i z σ' H',⟨(xs.zip ys).length,by simp,Cu _,s⟩,?_⟩;rintro i m z σ' H' ⟨rfl,C,p⟩ c;obtain⟨j,f⟩:=l i z σ' H' C p c;have L:(xs.zip ys).length=min xs.length ys.length:=Db;by_cases n:i<(xs.zip ys).length
 ·refine .inr ⟨⟨xs,ys,xs[i]'(by omega),ys[i]'(by omega),j,f,by simp,by simp⟩,d D (i+1),λo σ2 F E=>⟨(xs.zip ys).length-(i+1),by omega,rfl,n,E⟩,λv F H=>?_⟩;obtain⟨q,x,y,u,rfl,w,r,rfl⟩:=H;refine t i z σ' H' x y q ?_ p c u;rw[CO];exact⟨w xs j,r ys f⟩
 ·have e:i=(xs.zip ys).length:=by omega
  subst e;exact .inl ⟨⟨xs,ys,j,f,by omega⟩,A z σ' H' p c⟩
def KD (P:Program) (w:World) (K:W.Frag) (a:Addr) (vs:List (Key × Value)):Prop :=
 (a==sysModules)=false/\∃o es ep,K.lookup a=some o/\o.ExactDict/\o.data=.dict es ep/\KeysOf (bu P w) es/\Pairs (bu P w) es.toList vs/\(vs.map (·.1)).Nodup
theorem KD.dict {P:Program}{w:World}{K:W.Frag}{a:Addr}{z:List (Key × Value)}{h:Heap}(k:KD P w K a z) (X:K.In h):h.DictOf (bu P w) a z :=
 let ⟨_,o,c,b,e,r⟩:=k;⟨o,c,b,X a o e,r⟩
section
variable {X:Cx}
theorem sS {G:List (Key × Value)}{a:Addr}(k:KD X.prog X.w X.K a G):OpR X (compareOp .NotIn) (λx y H Q=>∃z,x=kV z/\y=.ref a/\Q (.bl (!(valueAt G z).isSome)) H):=by
 intro b s e H x y v u Q I d c ⟨z,ex,ey,q⟩;subst ex;subst ey;cases c;exact wpAny_notIn_of (fD d) k.1 (k.dict I.kIn).mapOf ⟨.bl _,H,I.tok _,rfl,q⟩
theorem xY {G:List (Key × Value)}{a:Addr}(k:KD X.prog X.w X.K a G):IxR X (λx y H Q=>∃z v u,x=.ref a/\y=kV z/\valueAt G z=some v/\RelV u v/\Q u H):=by
 intro c b e s h H x y v u Q I g f ⟨z,v',u',ex,ey,hv,rv,q⟩ hs;subst ex;subst ey;cases g;have d:=k.dict I.kIn;exact tail_any d.typeIs PySem.F.slot_dict_getitem.lookup (wpAny_getItem_of (fD f) d.mapOf hv ⟨_,H,I.tok _,rv,q⟩) hs
end
section
variable {X:Cx}
def rNil (K:W.Frag) (neg:Bool):V->V->Hp->VK->Prop:=λx y H Q=>∃a b xs,x=.ref a/\y=.ref b/\SqL K H a xs/\H b=some (.lst [])/\Q (.bl (if neg then !xs.isEmpty else xs.isEmpty)) H
theorem wJ (K:W.Frag) (t:X.A.units+64<cLine) (L:autoParam (X.K=K) aR9):OpR X (compareOp .NotEq) (rNil K true) := by
 subst L;intro l s N H x y v u Q I z G h;obtain⟨a,b,xs,rfl,rfl,A,F,q⟩:=h;cases z;cases G;obtain⟨g,k,j,M⟩:=I.list A;obtain⟨p,f,m,_⟩:=I.list (a:=b) (xs:=[]) (.of F);cases f;have D:=k.length;cases xs with
 | nil =>
  cases k;obtain⟨o,e,c,n,d⟩:=j.isList;obtain⟨O,J,w,P,B⟩:=m.isList;have E:Reads s.heap (.ref a) (.list []) _:=.list e c d (by simpa using ReadsAll.nil);have C:Reads s.heap (.ref b) (.list []) _:=.list J w B (by simpa using ReadsAll.nil);exact ne_dataH E C rfl rfl t ⟨.bl _,H,I,rfl,q⟩
 | cons x r =>
  have i:(g.toArray.size != ([]:LW).toArray.size)=true:=by
   rw[bne_iff_ne,Cq,<- D];simp
  exact kr j.isList m.isList i (by omega) ⟨.bl true,H,I,rfl,q⟩
end
def dD (a:Addr) (i n:Int):KV_:=[(.inr "script",.ref a),(.inr "at",.int i),(.inr "left",.int n)]
def DPV (H:Hp) (p a:Addr):Prop:=∃(i n:Int),H p=some (.dK (dD a i n))/\0<=i/\0<=n
def DPen (K:W.Frag) (H:Hp) (p a:Addr):Prop:=(∃ns:List Int,∀H',But p H H'->SqL K H' a (ns.map V.int))/\DPV H p a
theorem DPen.but {K:W.Frag}{H H':Hp}{p a:Addr}(h:DPen K H p a) (b:But p H H') (v:DPV H' p a):DPen K H' p a:=⟨let ⟨d,q⟩:=h.1;⟨d,λe c=>q e (b.trans c)⟩,v⟩
theorem DPV.upd (h:DPV H p a) (n:p≠D):DPV (L2.upd H D o) p a:=let ⟨i,m,e,q⟩:=h;⟨i,m,by rw[ag n];exact e,q⟩
theorem DPV.ne (h:DPV H p a) (e:H D=none):p≠D:=let ⟨_,_,q,_⟩:=h;ai q e
theorem DPV.same (h:DPV H p a) (s:Same H H'):DPV H' p a:=let ⟨i,m,e,q⟩:=h;⟨i,m,s _ _ e,q⟩
theorem DPen.new {K:W.Frag}{H H':Hp}{p a:Addr}{ns:List Int}(h:SqL K H a (ns.map V.int)) (f:H p=none) (s:Same H H') (v:DPV H' p a):DPen K H' p a := by
 refine⟨⟨ns,λj b=>?_⟩,v⟩;rcases h with h | h
 ·have n:a≠p:=by
     rcases h with h | ⟨i,h⟩
     ·exact ai h f
     ·exact ai h f
  exact SqL.but (λc d g e=>b c d g (s c d e)) n (.inl h)
 ·exact .inr h
theorem km (h:H p=some (.dK (dD a i n))):DGet H p (.str "script") (some (.ref a)):=DGet.k (k:=.inr "script") h
theorem zM (h:H p=some (.dK (dD a i n))):DGet H p (.str "at") (some (.int i)):=DGet.k (k:=.inr "at") h
theorem no (h:H p=some (.dK (dD a i n))):DGet H p (.str "left") (some (.int n)):=DGet.k (k:=.inr "left") h
theorem zO (h:H p=some (.dK (dD a i n))):DPut H p (.str "at") (.int j) (upd H p (.dK (dD a j n))):=DPut.k (k:=.inr "at") h (by show 3<sizeLine;decide)
theorem tH (h:H p=some (.dK (dD a i n))):DPut H p (.str "left") (.int j) (upd H p (.dK (dD a i j))):=DPut.k (k:=.inr "left") h (by show 3<sizeLine;decide)
def iR (K:W.Frag):Sp:=λvs H Q _=>∃(p a:Addr) (m:Int),vs=[.ref p,.int m]/\DPen K H p a/\0<m/\m<1073741824/\∀r H',0<=r->r<m->DPV H' p a->But p H H'->Q (.int r) H'
end L2
open PySem
namespace PySem.SeqAt
theorem tuple_indexAt (l:Addr) (items:Array Value) (n:Nat) (dd:Option Addr) (sl:Array (OV)) (x:Value) (e:Value -> Bool) (j:Nat) (I:j<items.size)
    (f:e items[j]=true) (r:∀m (z:m<items.size),m<j->e items[m]=false) :
    Meets (Builtin.«tuple.index» ⟨[.ref l,x],[]⟩)
     (λA R s=>s.heap.get? l=some { cls:=.type "tuple",dict:=dd,data:=.seq items n,slots:=sl }/\(∀y,y∈items->EqAt A.in1 s y x (e y))/\R (.ok (.ret (.int j s.toks))) { s with toks:=s.toks+1 }) :=
 .of_wp λa w A R s h => by
  obtain⟨D,g,d,E,H⟩:=s;obtain⟨t,u,h⟩:=h;unfold Builtin.«tuple.index»;simp only[Std.Legacy.Range.forIn_eq_forIn_range']
  wp_walk using wpAny_loadPart' t,wpAny_forIn_list _ (λbL b o=>b.1=none/\o=⟨D,g,d,E,H⟩/\∃i,i<=j/\bL=List.range' i (items.size-i)) _
  ·rintro i bL ⟨B,F⟩ o ⟨G,rfl,k,v,c⟩;have p:0<items.size-k:=by omega
   obtain⟨m,z⟩:∃m,items.size-k=m+1:=⟨_,(Nat.succ_pred_eq_of_pos p).symm⟩
   rw[z,List.range'_succ] at c;obtain⟨rfl,rfl⟩:=List.cons.inj c;have C:items[i]? = some (items[i]'(by omega)):=by simp
   rw[C];refine BP (u _ (Array.getElem_mem (by omega)) a w _ _ ?_);by_cases q:i=j
   ·subst q;rw[f]
    wp_walk
    exact⟨_,rfl,h⟩
   ·rw[r i (by omega) (by omega)]
    wp_walk
    refine⟨rfl,rfl,i+1,by omega,?_⟩;rw[show items.size-(i+1)=m by omega]
  ·rintro⟨B,F⟩ o ⟨G,rfl,k,v,c⟩;exfalso;have:=congrArg List.length c;simp at this;omega
  ·refine⟨rfl,rfl,0,Cu _,?_⟩;rw[Std.Legacy.Range.size];simp
end PySem.SeqAt
namespace L2
open PySem PySem.Spec PyProof.Rows
section
variable {X:Cx}
def lj:V->LV->Hp->VK->Prop:=λx vs H Q=>∃l xs y j z,x=.ref l/\vs=[y]/\H l=some (.tup xs)/\df y=true/\xs.all df=true/\xs[j]? = some z/\eqV z y=true/\(∀(m:Nat) z',m<j->xs[m]? = some z'->eqV z' y=false)/\Q (.int ((j:Nat):Int)) H
theorem iu (a b:Value):argsOk "tuple.index" ⟨[a,b],[]⟩:=by
 unfold argsOk;rw[signature?_of (id:="tuple.index") (n:=['x','e','d','n','i']) (o:=['e','l','p','u','t']) (by kernel_rfl) F.owner_tuple];kernel_rfl
theorem vn:MtR X "tuple.index" lj:=by
 intro C s σ H x vs v us Q I T R h;obtain⟨l,E,y,j,z,rfl,rfl,W,M,J,B,P,A,q⟩:=h;cases T;obtain⟨u,rfl,U⟩:=cZ R;obtain⟨zz,a,r,⟨Z,od,V,Y⟩,e,D,n,G,_⟩:=(show ObjOk X.prog X.w H s.heap l (.tup E) from I.hok l _ W)
 simp only at D G;subst D G;have S:=(BU.mp B).1;have K:=r.length;have c:∀m (i:m<a.length),∃d,E[m]? = some d/\eqU y a[m]=eqV d y:=λm i=>by
  obtain⟨d,f,N⟩:=oY r (Ci i);exact⟨d,f,kh N (Dn.mp J d (BW f))⟩
 have k:j<a.toArray.size:=by simpa using (by omega:j<a.length)
 refine call_meets F.slot_tuple_index ⟨_,e,rfl⟩ F.entry_tuple_index (iu _ _) (SeqAt.tuple_indexAt l a.toArray n _ _ u (eqU y) j k ?_ ?_) ⟨e,λw L=>dP U M r J w (by simpa using L),⟨.int _,H,?_,⟨_,rfl⟩,q⟩⟩
 ·obtain⟨d,g,t⟩:=c j (by omega);rw[B] at g;cases g;simpa using t.trans P
 ·intro m i p;obtain⟨d,g,t⟩:=c m (by simpa using i);simpa using t.trans (A m d p g)
 ·exact I.kept λb o O=>O
end
theorem sK (G:X.calm=true) (P:X.A.units+64<cLine) {xs:LV}{oi:Nat->HO}(I:Inv X pins σ H s) (w:H p=some (.tup xs)) (N:oi 0=.dK [])
    (y:∀(i:Nat) (x:V),xs[i]? = some x->∃b k v,x=V.ref b/\SqT X.K H b [k,v]/\∀l,H l=none->DPut (upd H l (oi i)) l k v (upd H l (oi (i+1)))) (q:∀l,H l=none->Q (.ref l) (upd H l (oi xs.length))) :
    wpAny (model X.prog X.w) X.A (call (.type "dict") [.ref p]) (EP X pins σ Q) X.xe s:=by
 refine callType_codes (Q₁:=λh c=>h=.ref s.heap.objs.size/\c={ s with heap:=s.heap.push { cls:=.type "dict",data:=.dict #[] } }) F.kt_called_dict (F.kt_typeCall_dict_1 _) F.entry_dict_init (kt_code_dict_new _ ⟨rfl,rfl⟩) ?_;rintro h c ⟨rfl,rfl⟩;have r:H s.heap.objs.size=none:=I.hok.fresh (BR _);have j:p≠s.heap.objs.size:=ai w r;have C:Inv X pins σ (upd H s.heap.objs.size (oi 0)) { s with heap:=s.heap.push { cls:=.type "dict",data:=.dict #[] } }:=by
  refine I.laid (a:=s.heap.objs.size) (o:=oi 0) (t':=s.toks) (λ_ _ q=>Cc _ q) (BR _) ?_;rw[N];exact hO s.heap I.big
 have E:(⟨s.heap.push { cls:=.type "dict",data:=.dict #[] },s.gens,s.drawn,s.toks,s.os⟩:Shared).TypeIs (.ref s.heap.objs.size) "dict":=⟨_,Co _ rfl,rfl⟩
 refine⟨E,F.args_dict_init_2 _ _,?_⟩;unfold Builtin.«dict.__init__» Builtin.Dict.selfAndRest;refine BP (BP (wpAny_notOrdered_dict E ?_));show wpAny _ _ (pure (s.heap.objs.size,[Value.ref p])) _ _ _;refine BS ?_;show wpAny _ _ (Builtin.Dict.updateFrom "dict.__init__" s.heap.objs.size (.ref p) [] .none) _ _ _;unfold Builtin.Dict.updateFrom;have R:X.A.in1.in1.handled=none:=I.ok.hd G;have g:upd H s.heap.objs.size (oi 0) p=some (.tup xs):=by rw[ag j];exact w
 obtain⟨hz,S,rv,o,B,f,n,z,u⟩:=(show ObjOk X.prog X.w _ _ p (.tup xs) from C.hok p _ g)
 refine BP (wpAny_typeOf (T:="tuple") ⟨o,B,f⟩ ?_);rw[if_pos (by decide)];refine BP (oC B f z u R λh' J O=>?_);have m:=C.kept (h':=h') (t':=J) O;refine BP (wpAny_rule (BP ?_));obtain⟨D,K,A,Y⟩:=m.tuple (SqT.of g);refine Dt A ?_;refine BS ⟨plainId_quiet DU.plain_loop _,?_⟩;have d:∀i,SqT X.K (upd H s.heap.objs.size (oi i)) p xs:=λi=>.of (by rw[ag j];exact w);refine lK (nm:="x") (tp:=default) (ku p h'.objs.size) G P s.heap.objs.size xs.length (λi t=>t=upd H s.heap.objs.size (oi i)) (λi t U e=>?_) (λt e=>?_) _ 0 0 _ _ rfl (Cu _) (m.kept (t':=J) λb o e=>Cc _ e) (λb W=>?_) ⟨_,Co _ rfl,rfl,rfl⟩ rfl λt s' Z e=>?_
 ·subst e;refine⟨⟨xs,xs[i],d i,Ci U⟩,λx H1 ⟨M,e2⟩=>?_⟩;subst M;obtain⟨b,k,v,L,sq,dp⟩:=y i x (e2 xs (d i));exact⟨b,k,v,_,L,sq.fresh r,dp _ r,rfl⟩
 ·subst e;exact⟨xs,d _,BR _⟩
 ·have e:b=h'.objs.size:=by simpa using W
  subst e;exact m.fpOk (BR _) (m.hok.fresh (BR _))
 ·subst e;exact⟨rfl,.ref _,_,Z,rfl,q _ r⟩
def oM (K:W.Frag):LV->Hp->VK->Prop:=λvs H Q=>∃p xs,∃ps:KV_,vs=[.ref p]/\H p=some (.tup xs)/\xs.length=ps.length/\xs.length<=1000 /\
 (∀(i:Nat) (q:Key × V) (x:V),ps[i]? = some q->xs[i]? = some x->∃b,x=V.ref b/\SqT K H b [kV q.1,q.2])/\∀l,H l=none->Q (.ref l) (upd H l (.dK (mkK ps)))
section
variable {X:Cx}{p pos:Pos}{e:Expr}{t:TA}
theorem gB (K:W.Frag) (z:X.calm=true) (y:X.A.units+64<cLine) (B:Blt X.mg) (E:PA X [e] t) (F:autoParam (Gl X "dict") aR9) (he:autoParam (starEach [e] X.env=(false,eval e X.env)::starEach [] X.env) aR9) (hpl:autoParam ((backTo pos (starEach [] X.env)).any (·.1)=false) aR9) (J:autoParam (X.K=K) aR9) :
    PE X (.Call (.Name "dict" p) [e] [] pos) (tCB (oM K) t):=by
 subst J;refine fk (r:=oM X.K) (λj s O H C N Q I r h=>?_) F B.dict (show bootBuiltins "dict"=some (.type "dict") by decide +kernel) E (by decide) (by decide) he hpl;obtain⟨p,C,c,rfl,w,g,M,D,q⟩:=h;obtain⟨u,rfl,A⟩:=cZ r;cases A;have L:1000<sizeLine:=by decide
 refine sK z y (oi:=λi=>.dK (mkK (c.take i))) I w rfl (λi x m=>?_) λl f=>?_
 ·have n:i<c.length:=by rw[<- g];exact(BU.mp m).1
  obtain⟨b,o,G⟩:=D i c[i] x (Ci n) m;refine⟨b,kV c[i].1,c[i].2,o,G,λl f=>?_⟩;have d:=DPut.k (H:=upd H l (.dK (mkK (c.take i)))) (a:=l) (kvs:=mkK (c.take i)) (k:=c[i].1) (v:=c[i].2) ae (by have:=uI (c.take i);rw[Ck] at this;omega);rw[lC,<- nI c i c[i] (Ci n)] at d;exact d
 ·rw[g,List.take_length];exact q l f
end
end L2
namespace L2
open PySem
abbrev Kn:=List (Str × LS)
def aT (ks:Kn):LS:=ks.flatMap (·.2)
def bq (ks:Kn) (u:Str):Str:=((ks.find? λk=>decide (u∈k.2)).map (·.1)).getD ""
theorem fH {xs ys:LS}(a:xs.Nodup) (h:∀x∈xs,x∈ys):xs.length<=ys.length:=by
 induction xs generalizing ys with
 | nil=>exact Cu _
 | cons x xs ih =>
  rw[CI] at a;have c:=h x (by simp);have p:=(List.perm_cons_erase c).length_eq;rw[Cs] at p ⊢;have:=ih (ys:=ys.erase x) a.2 λz b=>(List.mem_erase_of_ne (λq:z=x=>a.1 (q ▸ b))).mpr (h z (Cw _ b));omega
structure Tre (us:LS) (ks:Kn):Prop where
 perm:(aT ks).Perm us
 nd:us.Nodup
 nm:∀u∈us,Nm u
 len:us.length<=60
 top:("":Str)∈ks.map (·.1)
 kn:(ks.map (·.1)).Nodup
 sub:∀k∈ks,k.1=""∨k.1∈us
 up:∀k∈ks,∀u∈k.2,k.1=""∨MG.ix us k.1<MG.ix us u
section
variable {us:LS}{ks:Kn}
theorem Tre.knd (T:Tre us ks):(aT ks).Nodup:=T.perm.nodup_iff.mpr T.nd
theorem Tre.has (T:Tre us ks) (h:u∈us):∃k∈ks,u∈k.2:=by
 have:=T.perm.mem_iff.mpr h;exact Dj.mp this
theorem Tre.isIn (T:Tre us ks) (b:k∈ks) (a:u∈k.2):u∈us:=T.perm.mem_iff.mp (Dj.mpr ⟨k,b,a⟩)
theorem fe:∀ {ks:Kn}, (aT ks).Nodup -> ∀ {k k':Str × LS}{u:Str}, k ∈ ks -> k' ∈ ks -> u ∈ k.2 -> u ∈ k'.2 -> k=k'
 | [],_,_,_,_,h,_,_,_=>by cases h
 | q :: ks, nd, k, k', u, h, h', hu, hu' => by
  have nd:(q.2++aT ks).Nodup:=nd;rw[De] at nd;obtain⟨_,n2,n3⟩:=nd;rcases Cm.mp h with e | g
  ·rcases Cm.mp h' with e' | g'
   ·rw[e,e']
   ·subst e;exact absurd rfl (n3 u hu u (Dj.mpr ⟨k',g',hu'⟩))
  ·rcases Cm.mp h' with e' | g'
   ·subst e';exact absurd rfl (n3 u hu' u (Dj.mpr ⟨k,g,hu⟩))
   ·exact fe n2 g g' hu hu'
theorem qP:∀ {ks:Kn}, (ks.map (·.1)).Nodup -> ∀ {k k':Str × LS}, k ∈ ks -> k' ∈ ks -> k.1=k'.1 -> k=k'
 | [],_,_,_,h,_,_=>by cases h
 | q :: ks, nd, k, k', h, h', e0 => by
  rw[Cv,CI] at nd;rcases Cm.mp h with e | g
  ·rcases Cm.mp h' with e' | g'
   ·rw[e,e']
   ·subst e;exact absurd (e0 ▸ BY.mpr ⟨k',g',rfl⟩) nd.1
  ·rcases Cm.mp h' with e' | g'
   ·subst e';exact absurd (e0 ▸ BY.mpr ⟨k,g,rfl⟩) nd.1
   ·exact qP nd.2 g g' e0
theorem Tre.par (T:Tre us ks) (b:k∈ks) (a:u∈k.2):bq ks u=k.1:=by
 unfold bq;cases q:ks.find? λk=>decide (u∈k.2) with
 | none =>
  have:=List.find?_eq_none.mp q k b;exact absurd (Ca a) this
 | some k' =>
  have d:=List.find?_some q;have c:=List.mem_of_find?_eq_some q;rw[fe T.knd b c a (Ch d)];rfl
theorem Tre.par_in (T:Tre us ks) (h:u∈us):(bq ks u=""∨bq ks u∈us)/\bq ks u∈ks.map (·.1):=by
 obtain⟨k,a,b⟩:=T.has h;rw[T.par a b];exact⟨T.sub k a,BY.mpr ⟨k,a,rfl⟩⟩
theorem Tre.kid (T:Tre us ks) (h:u∈us) (d:(bq ks u,c)∈ks):u∈c:=by
 obtain⟨k,a,b⟩:=T.has h;rw[T.par a b] at d;have:k=(k.1,c):=qP T.kn a d rfl;rw[this] at b;exact b
theorem Tre.few (T:Tre us ks):ks.length<=61:=by
 have:=fH (ys:=""::us) T.kn λx b=>by
  obtain⟨k,a,rfl⟩:=BY.mp b;rcases T.sub k a with q | q
  ·rw[q];simp
  ·exact Cw _ q
 rw[BQ,Cs] at this;have:=T.len;omega
def rkU (us:LS) (u:Str):Nat:=if u="" then 0 else MG.ix us u+1
theorem Tre.nn (T:Tre us ks) (h:u∈us):u≠"":=λz=>by
 have:=(T.nm u h).1;rw[z] at this;exact absurd this (by decide)
theorem Tre.rk (T:Tre us ks) (h:u∈us):rkU us (bq ks u)<rkU us u:=by
 obtain⟨k,b,a⟩:=T.has h;rw[T.par b a];unfold rkU;rw[if_neg (T.nn h)];rcases T.up k b u a with q | q
 ·rw[if_pos q];omega
 ·split
  ·omega
  ·omega
theorem Tre.rk60 (T:Tre us ks) (h:u∈us):rkU us u<=60:=by
 unfold rkU;rw[if_neg (T.nn h)];have:=MG.ix_lt h;have:=T.len;omega
def jP (par:Str->Str):Nat->Str->LS
 | 0,_=>[]
 | n+1,u=>if u="" then [] else jP par n (par u)++[u]
theorem Tre.stable (T:Tre us ks):∀(n m:Nat) (u:Str), u="" ∨ u ∈ us -> rkU us u<n -> rkU us u<m -> jP (bq ks) n u=jP (bq ks) m u
 | 0,_,_,_,h,_=>absurd h (Nat.not_lt_zero _)
 | _,0,_,_,_,h=>absurd h (Nat.not_lt_zero _)
 | n+1,m+1,u,hu,h1,h2=>by
  show (if u="" then [] else jP (bq ks) n (bq ks u)++[u])=(if u="" then [] else jP (bq ks) m (bq ks u)++[u])
  by_cases q:u=""
  ·rw[if_pos q,if_pos q]
  ·have hu:u∈us:=hu.resolve_left q;have:=T.rk hu;rw[if_neg q,if_neg q,T.stable n m (bq ks u) (T.par_in hu).1 (by omega) (by omega)]
def lin (ks:Kn) (u:Str):LS:=jP (bq ks) 100 u
theorem zn:lin ks ""=[]:=rfl
theorem Tre.lin (T:Tre us ks) (h:u∈us):lin ks u=L2.lin ks (bq ks u)++[u]:=by
 have b:=T.rk h;have a:=T.rk60 h;show (if u="" then [] else jP (bq ks) 99 (bq ks u)++[u])=_;rw[if_neg (T.nn h),T.stable 99 100 (bq ks u) (T.par_in h).1 (by omega) (by omega)];rfl
theorem Tre.lin_ind (T:Tre us ks) {P:Str -> Prop}(c:P "") (d:∀u ∈ us, P (bq ks u) -> P u):∀u:Str, u="" ∨ u ∈ us -> P u := by
 have b:∀n u, rkU us u<n -> u="" ∨ u ∈ us -> P u := by
  intro n
  induction n with
  | zero=>intro u h;omega
  | succ n ih =>
   intro u h a;by_cases q:u=""
   ·rw[q];exact c
   ·have a:=a.resolve_left q;have:=T.rk a;exact d u a (ih _ (by omega) (T.par_in a).1)
 intro u a;exact b _ u (Nat.lt_succ_self _) a
theorem Tre.lin_in (T:Tre us ks):∀u:Str,u=""∨u∈us->∀z∈L2.lin ks u,z∈us:=by
 refine T.lin_ind (P:=λu=>∀z∈L2.lin ks u,z∈us) (λz a=>by cases a) λu b c z a=>?_;rw[T.lin b] at a;rcases Cb.mp a with q | q
 ·exact c z q
 ·rw[Cr.mp q];exact b
theorem Tre.lin_len (T:Tre us ks):∀u:Str,u=""∨u∈us->(L2.lin ks u).length<=rkU us u:=by
 refine T.lin_ind (P:=λu=>(L2.lin ks u).length<=rkU us u) (Cu _) λu a b=>?_;rw[T.lin a,Cj];have:=T.rk a;show _+1<=_;omega
def Chn (par:Str->Str):Str->LS->Prop
 | _,[]=>True
 | k,x::r=>par x=k/\Chn par x r
theorem Chn.snoc:∀ {k:Str}{l:LS},Chn par k l->par u=(l.getLast?).getD k->Chn par k (l++[u])
 | k,[],_,h=>⟨h,trivial⟩
 | k,[x],c,h=>⟨c.1,h,trivial⟩
 | k,x::y::r,c,h=>⟨c.1,Chn.snoc (l:=y::r) c.2 (by rw[List.getLast?_cons_cons] at h;rw[h];cases q:(y::r).getLast? with | none=>simp at q | some z=>rfl)⟩
theorem Tre.lin_last (T:Tre us ks):∀u:Str,u=""∨u∈us->((L2.lin ks u).getLast?).getD ""=u:=by
 refine T.lin_ind (P:=λu=>((L2.lin ks u).getLast?).getD ""=u) rfl λu a _=>?_;rw[T.lin a];simp
theorem Tre.lin_chn (T:Tre us ks):∀u:Str,u=""∨u∈us->Chn (bq ks) "" (L2.lin ks u):=by
 refine T.lin_ind (P:=λu=>Chn (bq ks) "" (L2.lin ks u)) trivial λu a b=>?_;rw[T.lin a];exact b.snoc (T.lin_last _ (T.par_in a).1).symm
def prt:Str->LS->LS->Option (Str × Str × Str)
 | k,x::a,y::b=>if x=y then prt x a b else some (k,x,y)
 | _,_,_=>none
theorem oP:∀ {k:Str}{a b:LS}{q x y:Str}, Chn par k a -> Chn par k b -> prt k a b=some (q, x, y) -> par x=q /\ par y=q /\ x ∈ a /\ y ∈ b /\ x ≠ y
 | k,[],_,_,_,_,_,_,h=>by simp[prt] at h
 | k,_::_,[],_,_,_,_,_,h=>by simp[prt] at h
 | k,u::a,v::b,q,x,y,ca,cb,h=>by
  have h:(if u=v then prt u a b else some (k,u,v))=some (q,x,y):=h;by_cases e:u=v
  ·rw[if_pos e] at h;rw[<- e] at cb;obtain⟨h1,h2,h3,h4,h5⟩:=oP ca.2 cb.2 h;exact⟨h1,h2,Cw _ h3,Cw _ h4,h5⟩
  ·rw[if_neg e] at h;injection h with h;injection h with h1 h;injection h with h2 h3;subst h1 h2 h3;exact⟨ca.1,cb.1,by simp,by simp,e⟩
theorem jQ:∀(k:Str) (a b:LS), prt k b a=(prt k a b).map λt => (t.1, t.2.2, t.2.1)
 | k,[],b=>by cases b <;> rfl
 | k,x::a,[]=>rfl
 | k,x::a,y::b=>by
  show (if y=x then prt y b a else some (k,y,x))=(if x=y then prt x a b else some (k,x,y)).map _;by_cases e:x=y
  ·subst e;rw[if_pos rfl,if_pos rfl];exact jQ x a b
  ·rw[if_neg (λz=>e z.symm),if_neg e];rfl
def aI (ks:Kn) (u v:Str):Option (Str × Str × Str):=prt "" (lin ks u) (lin ks v)
theorem Tre.part (T:Tre us ks) (b:u∈us) (a:v∈us) (h:aI ks u v=some (q,x,y)):bq ks x=q/\bq ks y=q/\x∈us/\y∈us/\x≠y:=by
 obtain⟨f,g,d,c,e⟩:=oP (T.lin_chn u (.inr b)) (T.lin_chn v (.inr a)) h;exact⟨f,g,T.lin_in u (.inr b) x d,T.lin_in v (.inr a) y c,e⟩
abbrev tp (a:LS):LS:=("":Str)::a
def Gon (a b:LS) (i:Nat):Prop:=i=0∨(1<=i/\prt "" a b=prt ((tp a).getD (i-1) "") ((tp a).drop i) ((tp b).drop i))
theorem Gon.step (g:Gon a b i) (c:(tp a)[i]? = some x) (h:(tp b)[i]? = some x):Gon a b (i+1):=by
 right
 refine⟨by omega,?_⟩;rcases g with rfl | ⟨j,g⟩
 ·rfl
 ·have d:=(BU.mp c)
  have f:=(BU.mp h)
  have e:(tp a).getD (i+1-1) ""=x:=by rw[Nat.add_sub_cancel,CA,c];rfl
  rw[g,Dy d.1,Dy f.1,d.2,f.2,e];show (if x=x then _ else _)=_;rw[if_pos rfl]
theorem Gon.stop (g:Gon a b i) (h:i=min (a.length+1) (b.length+1)):prt "" a b=none := by
 rcases g with rfl | ⟨c,g⟩
 ·omega
 ·rw[g];by_cases q:a.length<=b.length
  ·rw[Di (l:=tp a) (by rw[Cs];omega)];rfl
  ·rw[Di (l:=tp b) (by rw[Cs];omega)];cases (tp a).drop i <;> rfl
theorem Gon.part (g:Gon a b i) (c:(tp a)[i]? = some x) (d:(tp b)[i]? = some y) (e:x≠y):1<=i/\prt "" a b=some ((tp a).getD (i-1) "",x,y):=by
 rcases g with rfl | ⟨j,g⟩
 ·exfalso;injection c with c;injection d with d;exact e (c.symm.trans d)
 ·have f:=(BU.mp c)
  have h:=(BU.mp d)
  refine⟨j,?_⟩;rw[g,Dy f.1,Dy h.1,f.2,h.2];show (if x=y then _ else _)=_;rw[if_neg e]
end
def bP (k:Str × LS):PyData:=.tuple [.str k.1,.tuple (k.2.map PyData.str)]
def cA (ks:Kn):PyData:=.tuple (ks.map bP)
def bX (ps:List (Str × Str)):PyData:=.tuple (ps.map aE)
def aK (ks:Kn) (ts ws wn:List (Str × Str)):PyData:=.tuple [cA ks,bX ts,bX ws,bX wn]
section
variable {H H':Hp}
theorem iN (h:Rep H v (bP k)):∃ta G,v=.ref ta/\H ta=some (.tup [.str k.1,.ref G])/\H G=some (.tup (k.2.map V.str)):=by
 obtain⟨q,o,rfl,g,e⟩:=Rep.tupI h;obtain⟨y,r,rfl,j,f⟩:=e.consI;obtain⟨z,p,rfl,d,a⟩:=f.consI;have c:=RepAll.nilI a;subst c;have i:=Rep.strI j;subst i;obtain⟨b,s,rfl,m,l⟩:=Rep.tupI d;have n:=RepAll.strs l;subst n;exact⟨q,b,rfl,g,m⟩
theorem eV {z:LV}{ks:Kn}(b:RepAll H z (ks.map bP)) {i:Nat}{x:V}(h:z[i]? = some x):∃k ta G,ks[i]? = some k/\x=.ref ta/\H ta=some (.tup [.str k.1,.ref G])/\H G=some (.tup (k.2.map V.str)):=by
 obtain⟨d,a,rd⟩:=b.get h;rw[Ce] at a;cases q:ks[i]? with
 | none=>rw[q] at a;cases a
 | some e =>
  rw[q] at a;have a:bP e=d:=BV a;rw[<- a] at rd;obtain⟨ta,G,f,g,c⟩:=iN rd;exact⟨e,ta,G,rfl,f,g,c⟩
theorem de (h:Rep H v (cA ks)):∃a z,v=.ref a/\H a=some (.tup z)/\RepAll H z (ks.map bP):=Rep.tupI h
theorem ba (h:Rep H v (bX ps)):∃a z,v=.ref a/\H a=some (.tup z)/\RepAll H z (ps.map aE):=Rep.tupI h
theorem bd (h:Rep H v (aK ks ts ws wn)):∃q a b c d,v=.ref q/\H q=some (.tup [.ref a,.ref b,.ref c,.ref d])/\Rep H (.ref a) (cA ks)/\Rep H (.ref b) (bX ts)/\Rep H (.ref c) (bX ws)/\Rep H (.ref d) (bX wn):=by
 obtain⟨q,u,rfl,o,m⟩:=Rep.tupI h;obtain⟨y,A,rfl,i,n⟩:=m.consI;obtain⟨z,x,rfl,e,j⟩:=n.consI;obtain⟨w,s,rfl,f,r⟩:=j.consI;obtain⟨t,p,rfl,g,k⟩:=r.consI;have l:=RepAll.nilI k;subst l;obtain⟨a,_,rfl,_⟩:=Rep.tupI i;obtain⟨b,_,rfl,_⟩:=Rep.tupI e;obtain⟨c,_,rfl,_⟩:=Rep.tupI f;obtain⟨d,_,rfl,_⟩:=Rep.tupI g;exact⟨q,a,b,c,d,rfl,o,i,e,f,g⟩
theorem cK (g:H q=some (.tup [.ref a,.ref b,.ref c,.ref d])) (h:Rep H (.ref a) (cA ks)) (i:Rep H (.ref b) (bX ts)) (f:Rep H (.ref c) (bX ws)) (e:Rep H (.ref d) (bX wn)):Rep H (.ref q) (aK ks ts ws wn) :=
 .tup g (.cons h (.cons i (.cons f (.cons e .nil))))
theorem cB (c:H p=some (.lst ys)) (b:But p H H') (h:H a=some (.tup xs)):H' a=some (.tup xs):=b a _ (aZ h c (by intro z;cases z)) h
theorem aU (c:H p=some (.lst ys)) (b:But p H H') (h:Rep H v (aE e)):Rep H' v (aE e):=by
 obtain⟨a,rfl,d⟩:=fE h;exact aO (cB c b d)
theorem aP (k:∀ {v:V}{e:α},Rep H v (f e)->Rep H' v (f e)):∀ {es:List α}{xs:LV},RepAll H xs (es.map f)->RepAll H' xs (es.map f)
 | [],xs,h=>by rw[RepAll.nilI h];exact .nil
 | e::es,xs,h=>by
  obtain⟨y,ys',rfl,a,c⟩:=RepAll.consI h;exact .cons (k a) (aP k c)
theorem fK (c:H p=some (.lst ys)) (b:But p H H') (h:Rep H v (bX ps)):Rep H' v (bX ps):=by
 obtain⟨a,e,rfl,d,r⟩:=ba h;exact .tup (cB c b d) (aP (aU c b) r)
theorem dh (a:H p=some (.lst ys)) (b:But p H H') (h:Rep H v (bP k)):Rep H' v (bP k):=by
 obtain⟨f,e,rfl,c,d⟩:=iN h;exact .tup (cB a b c) (.cons (.str _) (.cons (.tup (cB a b d) (RepAll.of_strs _)) .nil))
theorem fO (c:H p=some (.lst ys)) (b:But p H H') (h:Rep H v (cA ks)):Rep H' v (cA ks):=by
 obtain⟨a,e,rfl,d,r⟩:=de h;exact .tup (cB c b d) (aP (dh c b) r)
theorem nz (f:H p=some (.lst ys)) (b:But p H H') (h:Rep H v (aK ks ts ws wn)):Rep H' v (aK ks ts ws wn):=by
 obtain⟨q,a,c,d,e,rfl,j,k,l,i,g⟩:=bd h;exact cK (cB f b j) (fO f b k) (fK f b l) (fK f b i) (fK f b g)
end
def ArK (kvs:KV_) (us:LS) (ks:Kn):Prop:=∀u∈us,aD kvs (.inr u)=some (.str (bq ks u))
theorem dL (a b:Kn):aT (a++b)=aT a++aT b:=Eh
theorem iz {ks:Kn}{i:Nat}{k:Str × LS}(h:ks[i]? = some k):aT (ks.take (i+1))=aT (ks.take i)++k.2:=by
 rw[Cf,h,dL];show _++([k].flatMap (·.2))=_;simp
structure ArN (H H':Hp) (d:Addr) (ks:Kn) (i j:Nat) (kvs:KV_):Prop where
 sm:Same H H'
 at_:H' d=some (.dK kvs)
 len:kvs.length<=(aT (ks.take i)).length+j
 old:∀k∈ks.take i,∀u∈k.2,aD kvs (.inr u)=some (.str k.1)
 cur:∀k,ks[i]? = some k->∀u∈k.2.take j,aD kvs (.inr u)=some (.str k.1)
section
variable {H H':Hp}{d:Addr}{ks:Kn}{i j:Nat}{kvs:KV_}
theorem ArN.put (h:ArN H H' d ks i j kvs) (t:H d=none) (r:(aT ks).Nodup) {k:Str × LS}(l:ks[i]? = some k) {u:Str}(s:k.2[j]? = some u) :
    ArN H (upd H' d (.dK (bj kvs (.inr u) (.str k.1)))) d ks i (j+1) (bj kvs (.inr u) (.str k.1)):=by
 have g:(aT (ks.take i)++k.2).Nodup:=by
  rw[<- iz l];have e:aT ks=aT (ks.take (i+1))++aT (ks.drop (i+1)):=by rw[<- dL,DK]
  rw[e] at r;exact(De.mp r).1
 obtain⟨_,w,v⟩:=De.mp g;have n:=BW s;refine⟨λb o p=>?_,ae,?_,λm a f c=>?_,λm a f c=>?_⟩
 ·rw[ag (ai p t)];exact h.sm _ _ p
 ·have:=bw kvs (.inr u) (V.str k.1);have:=h.len;omega
 ·rw[cG,if_neg (λz=>v f (Dj.mpr ⟨m,a,c⟩) u n (by injection z))];exact h.old m a f c
 ·rw[l] at a;cases a;rw[Cf,s] at c;rw[cG];by_cases q:f=u
  ·subst q;rw[if_pos rfl]
  ·rw[if_neg (λz=>q (by injection z))];rcases Cb.mp c with z | z
   ·exact h.cur k l f z
   ·exact absurd (by simpa using z) q
theorem ArN.next (h:ArN H H' d ks i j kvs) {k:Str × LS}(e:ks[i]? = some k) (f:j=k.2.length):ArN H H' d ks (i+1) 0 kvs := by
 subst f;refine⟨h.sm,h.at_,?_,λc a u b=>?_,λc _ u b=>by simp at b⟩
 ·rw[iz e,Cj];exact h.len
 ·rw[Cf,e] at a;rcases Cb.mp a with z | z
  ·exact h.old c z u b
  ·have:c=k:=by simpa using z
   subst this;exact h.cur c e u (by rw[Cd (BR _)];exact b)
theorem ArN.room (h:ArN H H' d ks i j kvs) {k:Str × LS}(b:ks[i]? = some k) (c:j<k.2.length) (a:(aT ks).length<=60):kvs.length<=60:=by
 have e:aT ks=aT (ks.take (i+1))++aT (ks.drop (i+1)):=by rw[<- dL,DK]
 rw[e,iz b,Cj,Cj] at a;have:=h.len;omega
theorem ArN.fin (h:ArN H H' d ks i 0 kvs) (T:Tre us ks) (c:i=ks.length):ArK kvs us ks:=λu e=>by
 obtain⟨k,b,a⟩:=T.has e;rw[T.par b a];subst c;exact h.old k (by rw[Cd (BR _)];exact b) u a
end
def PrtV (H:Hp) (v:V):Option (Str × Str × Str)->Prop
 | none=>v=.non
 | some (k,x,y)=>∃t,v=.ref t/\H t=some (.tup [.str k,.str x,.str y])
theorem PrtV.same (h:PrtV H v o) (s:Same H H'):PrtV H' v o:=by
 cases o with
 | none=>exact h
 | some q=>obtain⟨t,e,a⟩:=h;exact⟨t,e,s _ _ a⟩
abbrev KL:=List (Addr × Addr × (Str × LS))
abbrev cH (kl:KL):Kn:=kl.map λq=>q.2.2
section
variable {H H':Hp}{L p:Addr}{kl:KL}
theorem fz {α:Type}{l:List α}{j:Nat}{b x:α}(h:x∈l.set j b):x=b∨∃m,m≠j/\l[m]? = some x:=by
 obtain⟨m,a⟩:=Cz h;by_cases q:m=j
 ·subst q;rw[List.getElem?_set] at a;rw[if_pos rfl] at a
  split at a
  ·exact .inl (BV a).symm
  ·cases a
 ·rw[DY (Ne.symm q)] at a;exact .inr ⟨m,q,a⟩
theorem fR {α β:Type}{f:α->β}{l:List α}{j:Nat}{x y:α}(h:l[j]? = some x) (e:f y=f x):(l.set j y).map f=l.map f:=by
 rw[List.map_set,e];refine List.ext_getElem? λm=>?_;rw[List.getElem?_set]
 split
 ·rename_i q
  subst q;have:=(BU.mp h).1;rw[BQ,if_pos this,Ce,h];rfl
 ·rfl
theorem gy {α:Type}{l:List α}{k:Nat}{x y:α}(h:y∈l.take k++x::l.drop k):y=x∨y∈l:=by
 rcases Cb.mp h with q | q
 ·exact .inr (Dq q)
 ·rcases Cm.mp q with q | q
  ·exact .inl q
  ·exact .inr (Dk q)
theorem lQ (l:List α) (k:Nat) (x:α):(l.take k++x::l.drop k).Perm (x::l):=by
 have:=List.perm_middle (a:=x) (l₁:=l.take k) (l₂:=l.drop k);rw[DK] at this;exact this
end
structure TrN (us:LS) (i:Nat) (ks:Kn):Prop where
 perm:(aT ks).Perm (us.take i)
 top:("":Str)∈ks.map (·.1)
 kn:(ks.map (·.1)).Nodup
 sub:∀k∈ks,k.1=""∨k.1∈us.take i
 up:∀k∈ks,∀u∈k.2,k.1=""∨MG.ix us k.1<MG.ix us u
section
variable {us:LS}{i:Nat}{ks:Kn}
theorem TrN.start:TrN us 0 [("",[])]:=⟨by show ([]:LS).Perm _;rw[List.take_zero],by simp,by simp,λk a=>by rw[Cr.mp a];exact .inl rfl,λk a u b=>by rw[Cr.mp a] at b;cases b⟩
theorem ph (pc:ch'.Perm (u::ch)):∀ {ks:Kn}{j:Nat},ks[j]? = some (nm,ch)->(aT (ks.set j (nm,ch'))).Perm (u::aT ks)
 | [],j,h=>by simp at h
 | k::ks,0,h=>by
  have h:k=(nm,ch):=by simpa using h
  subst h;show (ch'++aT ks).Perm (u::(ch++aT ks));exact(pc.append_right _)
 | k::ks,j+1,h=>by
  have h:ks[j]? = some (nm,ch):=by simpa using h
  have ih:=ph pc (ks:=ks) (j:=j) h;show (k.2++aT (ks.set j (nm,ch'))).Perm (u::(k.2++aT ks));exact(ih.append_left _).trans List.perm_middle
theorem TrN.step (h:TrN us i ks) (t:us.Nodup) {u:Str}(l:us[i]? = some u) {j:Nat}{nm:Str}{ch ch':LS}(g:ks[j]? = some (nm, ch)) (pc:ch'.Perm (u :: ch)):TrN us (i+1) (ks.set j (nm, ch')) := by
 have w:=(BU.mp l).1;have s:us.take (i+1)=us.take i++[u]:=by rw[Cf,l];rfl
 have a:=BW g;have c:((ks.set j (nm,ch')).map λk=>k.1)=ks.map λk=>k.1:=fR g rfl;have n:MG.ix us u=i:=MG.ix_at t l;have r:∀x∈us.take i,MG.ix us x<i:=λx b=>by
  obtain⟨m,a⟩:=Cz b;have o:=(BU.mp a).1;rw[Ck] at o;rw[DC (by omega)] at a;rw[MG.ix_at t a];omega
 refine⟨?_,by rw[c];exact h.top,by rw[c];exact h.kn,λk d=>?_,λk d x b=>?_⟩
 ·rw[s];refine(ph (j:=j) pc g).trans (((h.perm.cons u)).trans ?_);exact(List.perm_append_singleton u _).symm
 ·have:k.1∈ks.map λk=>k.1:=by rw[<- c];exact BY.mpr ⟨k,d,rfl⟩
  obtain⟨v,p,e⟩:=BY.mp this;rw[<- e,s];rcases h.sub v p with q | q
  ·exact .inl q
  ·exact .inr (CM _ q)
 ·rcases fz d with rfl | ⟨m, _, f⟩
  ·rcases Cm.mp (pc.mem_iff.mp b) with rfl | b
   ·rcases h.sub _ a with q | q
    ·exact .inl q
    ·right
     rw[n];exact r _ q
   ·exact h.up _ a x b
  ·exact h.up _ (BW f) x b
theorem TrN.knot (h:TrN us (i+1) ks) (l:us.Nodup) (n:∀u ∈ us, u ≠ "") {u:Str}(d:us[i]? = some u) (c:u ∉ ks.map (·.1)) (k:Nat):TrN us (i+1) (ks.take k ++ (u, []) :: ks.drop k) := by
 have m:=BW d;have j:=lQ ks k (u,([]:LS));have f:=j.map λk:Str × LS=>k.1;refine⟨?_,f.mem_iff.mpr (Cw _ h.top),f.nodup_iff.mpr (by rw[Cv,CI];exact⟨c,h.kn⟩),λq b=>?_,λq b x g=>?_⟩
 ·have e:aT (ks.take k++(u,[])::ks.drop k)=aT ks:=by
     have a:aT ((u,([]:LS))::ks.drop k)=aT (ks.drop k):=rfl;rw[dL,a,<- dL,DK]
  rw[e];exact h.perm
 ·rcases gy b with rfl | b
  ·right
   show u∈us.take (i+1);rw[Cf,d];simp
  ·exact h.sub q b
 ·rcases gy b with rfl | b
  ·cases g
  ·exact h.up q b x g
theorem TrN.fin (h:TrN us us.length ks) (c:us.Nodup) (nm:∀u∈us,Nm u) (a:us.length<=60):Tre us ks :=
 ⟨by have:=h.perm;rwa [Cd (BR _)] at this,c,nm,a,h.top,h.kn,λk b=>by have:=h.sub k b;rwa [Cd (BR _)] at this,h.up⟩
end
theorem lX:∀ {ks:Kn}{refs:LV}, RepAll H refs (ks.map bP) -> ∃ls:LV, ls.length=ks.length /\ ∀(i:Nat) (k:Str × LS), ks[i]? = some k -> ∃ta la, refs[i]? = some (.ref ta) /\ ls[i]? = some (.ref la) /\ H ta=some (.tup [.str k.1, .ref la]) /\ H la=some (.tup (k.2.map V.str))
 | [],refs,_=>⟨[],rfl,λi k h=>by simp at h⟩
 | k::ks,refs,h=>by
  obtain⟨y,ys,rfl,r1,r2⟩:=RepAll.consI h;obtain⟨ta,la,rfl,h1,h2⟩:=iN r1;obtain⟨ls,hl,ih⟩:=lX r2;refine⟨.ref la::ls,by rw[Cs,Cs,hl],λi k' hk=>?_⟩;cases i with
  | zero =>
   have:k=k':=by simpa using hk
   subst this;exact⟨ta,la,rfl,rfl,h1,h2⟩
  | succ i=>exact ih i k' (by simpa using hk)
theorem vZ (xs:LS) (ys:LV) (h:ys.length=xs.length):(ci xs ys).length=xs.length:=by
 unfold ci;rw[Db,BQ];omega
theorem yE {xs:LS}{ys:LV}{i:Nat}{q:Key × V}(h:(ci xs ys)[i]? = some q):∃x,xs[i]? = some x/\q.1=.inr x/\ys[i]? = some q.2:=by
 unfold ci at h;rw[CO,Ce] at h;cases e:xs[i]? with
 | none=>rw[e] at h;cases h.1
 | some x =>
  rw[e] at h;exact⟨x,rfl,(BV h.1).symm,h.2⟩
theorem ei {us:LS}(R:Rep H (.ref a) (cA ks)) (T:Tre us ks)
    (h:∀D G,H D=none->(∀k∈ks,∃z,aD G (.inr k.1)=some (.ref z)/\H z=some (.tup (k.2.map V.str)))->Q (.ref D) (upd H D (.dK G))):oM K [.ref a] H Q:=by
 obtain⟨N,d,F,J,t⟩:=de R;cases F;obtain⟨m,B,f⟩:=lX t;have b:=t.len;rw[BQ] at b;have u:=T.few;have w:(ci (ks.map (·.1)) m).length=ks.length:=by rw[vZ _ _ (by rw[BQ];exact B),BQ]
 refine⟨a,d,ci (ks.map (·.1)) m,rfl,J,by rw[w];exact b,by omega,λi q x E o=>?_,λD I=>?_⟩
 ·obtain⟨L,c,M,l⟩:=yE E;rw[Ce] at c;cases e:ks[i]? with
  | none=>rw[e] at c;cases c
  | some k =>
   rw[e] at c;obtain⟨g,z,n,j,r,s⟩:=f i k e;rw[n] at o;rw[j] at l;have v:V.ref g=x:=BV o;have A:V.ref z=q.2:=BV l;have y:k.1=L:=BV c;refine⟨g,v.symm,.of ?_⟩;rw[M,<- A,<- y];exact r
 ·refine h D _ I λk C=>?_;obtain⟨i,p⟩:=Cz C;obtain⟨g,z,n,j,r,s⟩:=f i k p;refine⟨z,?_,s⟩;rw[qt _ _ T.kn];exact ju T.kn (by rw[Ce,p];rfl) j
theorem aS:∀ {ps:List (Str × Str)},(∀e∈ps,Nm e.1/\Nm e.2)->PyData.canLayAll0 (ps.map aE)=true
 | [],_=>rfl
 | e::ps,h=>by
  have:=h e (by simp);show (PyData.canLay0 (aE e)&&PyData.canLayAll0 (ps.map aE))=true;rw[aS λx hx=>h x (Cw _ hx)];show ((PyData.canLay0 (.str e.1)&&(PyData.canLay0 (.str e.2)&&true))&&true)=true;rw[bM this.1,bM this.2];rfl
theorem eH (h:Nm e.1/\Nm e.2):PyData.canLay0 (aE e)=true:=by
 show (PyData.canLay0 (.str e.1)&&(PyData.canLay0 (.str e.2)&&true))=true;rw[bM h.1,bM h.2];rfl
theorem cp (xs:LS):(List.map V.str xs).all df=true:=by
 rw[List.all_map,Dn];intro x _;rfl
theorem dU (x:Str) (xs:LS):inV (V.str x) (List.map V.str xs)=decide (x∈xs):=by
 rw[CQ,decide_eq_true_iff];unfold inV;rw[List.any_map,Eb]
 constructor
 ·rintro⟨y,a,q⟩;have q:(y==x)=true:=q;have q:y=x:=by simpa using q
  exact q ▸ a
 ·intro h;refine⟨x,h,?_⟩;show (x==x)=true;simp
def tBMT (r:V->LV->Hp->VK->Prop) (to:TE) (t:TA):TE:=λσ H Q=>to σ H λx H1=>(∃p xs,x=.ref p/\H1 p=some (.tup xs))/\t σ H1 λxs H2=>r x xs H2 Q
theorem mL (w:PE X o to) (N:PA X [e] t)
    (d:autoParam (attributeBase o "index" X.env (eval o X.env)=eval o X.env) aR9)
    (g:autoParam (((backTo cpos (starEach [e] X.env)).all (λx=>!x.1)&&(backToKw cpos (keywordEach [] X.env)).all (λx=>x.1.isSome)
     && decide ([e].length+([]:List Keyword).length+(if ([]:List Keyword).isEmpty then 0 else 1)<30))=true) aR9)
    (f:autoParam ((apos.endLine==cpos.line)=true) aR9) (B:autoParam (starEach [e] X.env=(false,eval e X.env)::starEach [] X.env) aR9) (c:autoParam ((backTo cpos (starEach [] X.env)).any (·.1)=false) aR9) :
    PE X (.Call (.Attribute o "index" apos) [e] [] cpos) (tBMT lj to t):=by
 intro b s i H Q I h;refine wpAny_Call_method_late d g f rfl (thn (w b s i H _ I h) λv r ⟨x,l,j,O,⟨p,K,u,M⟩,F⟩=>?_);subst u;cases O;obtain⟨_,J,T,q,k,R,n,S,D⟩:=(show ObjOk X.prog X.w l r.heap p (.tup K) from j.hok p _ M)
 refine⟨"tuple","tuple.index",PySem.F.plainAttrs_tuple,PySem.F.slot_tuple_index,PySem.F.type_tuple_index,⟨q,k,R⟩,λa z=>?_,?_⟩
 ·cases z;exact⟨q,k,D⟩
 ·have m:=N cpos b r i l _ j F;rw[B] at m ⊢;refine Calls.callWith_builtin (by show (false||(backTo cpos (starEach [] X.env)).any (·.1))=false;rw[c] <;> rfl) (Calls.evalArgs_plain (thn m λL C ⟨E,P,y,A,G⟩=>?_));exact vn b C i P (.ref p) E (.ref p) L Q y rfl A G
end L2
namespace PySem
open PySem.Spec PyProof.Rows
def Raw (h:Heap) (d:Addr) (es:Array DictEntry) (ep:Nat):Prop:=∃o,h.get? d=some o/\o.ExactDict/\o.data=.dict es ep
section
variable {prog:Program}{w:World}{A:Around}{E:QS}{s:Shared}{it d:Addr}{i ep:Nat}{es:Array DictEntry}
theorem Raw.typ (c:Raw s.heap d es ep):s.TypeIs (.ref d) "dict":=let ⟨o,a,b,_⟩:=c;⟨o,a,b.1⟩
theorem wo (f:(d==sysModules)=false) (e:Raw s.heap d es ep)
    (g:Q (.ref s.heap.objs.size) { s with heap:=s.heap.push { cls:=.type "dict_keyiterator",data:=.fields #[.ref d,.int 0 0,.int es.size 0,.int ep 0] } }):wpAny (model prog w) A (pyIter (.ref d)) Q E s:=by
 have b:=e.typ;obtain⟨o,c,h,a⟩:=e;refine wpAny_pyIter_slot b F.slot_dict_iter (wpAny_call_entry F.slot_dict_iter b F.entry_dict_iter ?_ (F.args_dict_iter_1 _));unfold Builtin.«dict.__iter__» Builtin.Dict.dictSlotNone;refine BP (BP (wpAny_notOrdered_dict b ?_));show wpAny _ _ (pure (Value.ref d)) _ _ s;refine BS ?_;show wpAny _ _ (Builtin.Dict.showsAll d >>= _) _ _ s;unfold Builtin.Dict.showsAll;rw[if_neg (by rw[f];exact Cy)];refine BP (BS (BP (wpAny_dictEntries c a (BP (wpAny_dictEpoch c a ?_)))));refine BP (wpAny_newObj_type (BS ⟨_,rfl,"dict_keyiterator",_,⟨_,Co _ rfl,rfl⟩,F.slot_dict_keyiterator_next.lookup,?_⟩));simpa [rawInt] using g
theorem vU (a:s.heap.IsKeyIter it d i es.size ep) (k:Raw s.heap d es ep) (j:i<es.size)
    (m:∀h',h'.IsKeyIter it d (i+1) es.size ep->Heap.SameBut it s.heap h'->Q (some es[i].key) { s with heap:=h' }):wpAny (model prog w) A (pyNext (.ref it)) Q E s:=by
 obtain⟨o,g,l,b⟩:=id a;obtain⟨p,f,n,e⟩:=k;have c:Builtin.Dict_items.ownsTuple "dict_keyiterator"=false:=by decide
 unfold pyNext;refine BP (wpAny_attempt (wpAny_callSpecial?_slot (name:=Str.ofString "__next__") a.typeIs F.slot_dict_keyiterator_next (wpAny_call_entry F.slot_dict_keyiterator_next a.typeIs F.entry_dict_keyiterator_next ?_ (F.args_dict_keyiterator_next_1 _))));refine BP (BS (BP (BP ?_)))
 first | refine BP (wpAny_typeNameOfWhole_keyiter a.typeIs (BS (BP (wpAny_fieldsOf g b ?_)))) | refine BP (wpAny_typeNameOf_keyiter a.typeIs (BS (BP (wpAny_fieldsOf g b ?_))))
 simp only[c,Dv,if_false];show wpAny _ _ (if (Value.ref d==Value.none)=true then _ else _) _ _ s;rw[if_neg (show ¬ ((Value.ref d==Value.none)=true) from Cy)];refine BP (BS (BP (wpAny_dictEntries f e ?_)));rw[if_neg (by simp)];refine BP (BS (BP (wpAny_dictEpoch f e ?_)));rw[if_neg (by simp)];refine BS ?_;simp only[show ¬ ((i:Int)<0) from by omega,if_false,DE,Array.getElem?_eq_getElem j];refine BP ?_
 first | refine BP (wpAny_typeNameOfWhole_keyiter a.typeIs (BS (BP (wpAny_isOneOf_keyiter a.typeIs ?_)))) | refine BP (wpAny_typeNameOf_keyiter a.typeIs (BS (BP (wpAny_isOneOf_keyiter a.typeIs ?_))))
 show wpAny _ _ (setField (.ref it) 1 (rawInt ((i:Int)+1)) >>= _) _ _ s;refine BP (wpAny_setField g b (by simp) ?_);have h:(s.heap.update it (Obj.mapFields (·.setIfInBounds 1 (rawInt ((i:Int)+1))))).IsKeyIter it d (i+1) es.size ep :=
  ⟨_,DP _ g (Obj.isFreed_of_fields (Obj.data_mapFields b _)),(Obj.cls_mapFields ..).trans l,by rw[Obj.data_mapFields b];simp[rawInt]⟩
 refine BP (CC (BP (wpAny_isOneOf_keyiter (s:={ s with heap:=s.heap.update it (Obj.mapFields (·.setIfInBounds 1 (rawInt ((i:Int)+1)))) }) h.typeIs ?_)));show wpAny _ _ (pure es[i].key) _ _ _;exact BS (BS ⟨_,rfl,BS (m _ h (Heap.SameBut.update ..))⟩)
theorem zv (p:A.handled=none) (c:s.heap.IsKeyIter it d i es.size ep) (n:Raw s.heap d es ep) (j:es.size<=i)
    (l:∀h',Heap.ExtBut it s.heap h'->Q none { s with heap:=h' }):wpAny (model prog w) A (pyNext (.ref it)) Q E s:=by
 obtain⟨o,k,t,h⟩:=id c;obtain⟨r,g,q,f⟩:=n;have e:Builtin.Dict_items.ownsTuple "dict_keyiterator"=false:=by decide
 unfold pyNext;refine BP (wpAny_attempt (wpAny_callSpecial?_slot (name:=Str.ofString "__next__") c.typeIs F.slot_dict_keyiterator_next (wpAny_call_entry F.slot_dict_keyiterator_next c.typeIs F.entry_dict_keyiterator_next ?_ (F.args_dict_keyiterator_next_1 _))));refine BP (BS (BP (BP ?_)))
 first | refine BP (wpAny_typeNameOfWhole_keyiter c.typeIs (BS (BP (wpAny_fieldsOf k h ?_)))) | refine BP (wpAny_typeNameOf_keyiter c.typeIs (BS (BP (wpAny_fieldsOf k h ?_))))
 simp only[e,Dv,if_false];show wpAny _ _ (if (Value.ref d==Value.none)=true then _ else _) _ _ s;rw[if_neg (show ¬ ((Value.ref d==Value.none)=true) from Cy)];refine BP (BS (BP (wpAny_dictEntries g f ?_)));rw[if_neg (by simp)];refine BP (BS (BP (wpAny_dictEpoch g f ?_)));rw[if_neg (by simp)];refine BS ?_;simp only[show ¬ ((i:Int)<0) from by omega,if_false,DE,Array.getElem?_eq_none j];refine BP ?_
 first | refine BP (wpAny_typeNameOfWhole_keyiter c.typeIs (BS ?_)) | refine BP (wpAny_typeNameOf_keyiter c.typeIs (BS ?_))
 show wpAny _ _ (setField (.ref it) 0 .none >>= _) _ _ s;refine BP (wpAny_setField k h (by simp) ?_);show wpAny _ _ (newExc (.type "StopIteration") [] >>= _) _ _ _;refine BP ?_;simp only[newExc,newTuple];refine BP (wpAny_newObj_type (BP (m:=firstArgMember _ _) (wpAny_of_eq (a:=Value.none) (by first | rfl | (simp only[firstArgMember];rfl)) (wpAny_newObj_type ?_ (by size_fits)))) (by size_fits));simp only[raiseNew];refine BP (wpAny_handled ?_);rw[show A.in1.handled=none from p];refine BP (BS (wpAny_throw ?_));refine BP (wpAny_isInstance (T:="StopIteration") (b:=true) ⟨_,Co _ rfl,rfl⟩ isSubtype_stop ?_);exact BS (l _ (((Heap.SameBut.update ..).extBut.push _).push _))
theorem Raw.at (x:Raw h d es ep) (e:∀o,h.get? d=some o->h'.get? d=some o):Raw h' d es ep:=let ⟨o,a,r⟩:=x;⟨o,e o a,r⟩
theorem uO (hh:A.handled=none) (I d:Addr) (hne:d≠I) (es:Array DictEntry) (ep:Nat) :
    Walks prog w A I [I,d] [I] es.size (λi v=>∃h:i<es.size,v=es[i].key) (λi h=>h.IsKeyIter I d i es.size ep/\Raw h d es ep) where
 sub:=λb hb=>by simp at hb;simp[hb]
 frame:=λ_ _ _ st hk=>⟨st.1.at λo e=>hk I (by simp) o e,st.2.at λo e=>hk d (by simp) o e⟩
 item:=λi s Q E hi st hQ=>vU st.1 st.2 hi λh' hit' hs'=>hQ _ h' s.toks ⟨hi,rfl⟩ ⟨hit',st.2.at λo e=>hs'.extBut d o hne e⟩ λb o hb e=>hs'.extBut b o (λh=>hb (by simp[h])) e
 done:=λs Q E st hQ=>zv hh st.1 st.2 (BR _) λh' he'=>hQ h' s.toks λb o hb e=>he' b o (λh=>hb (by simp[h])) e
 self:=λ_ _ _ _ st hQ=>wpAny_pyIter_keyiter st.1 hQ
theorem ye (lo:(d==sysModules)=false):W.KdlSrc prog w "dict" d d es.size (λi v=>∃h:i<es.size,v=es[i].key) (λh=>Raw h d es ep) where
 type:=λ_ hm=>hm.typ
 there:=λ_ hm=>let ⟨_,ho,_⟩:=hm;⟨BZ ho,BZ ho⟩
 keep:=λ_ _ hm hk=>hm.at λo e=>hk d (.inl rfl) o e
 notList:=by decide
 notTuple:=by decide
 hint:=λ_ _ _ _ hm hq=>W.kdl_hint_dict hm.typ hq
 iter:=λ_ _ hh hm=>⟨_,_,(λ_ _ hq=>wo lo hm hq),uO hh _ d (by obtain⟨_,ho,_⟩:=hm;exact Cp (BZ ho)) es ep,⟨⟨_,Co _ rfl,rfl,rfl⟩,hm.at λ_ e=>Cc _ e⟩⟩
theorem pi (x:A.handled=none) (r:(d==sysModules)=false) (p:Raw s.heap d es ep) (y:es.size <= sizeLine)
    (u:∀h' tk z,(∀b o,s.heap.get? b=some o->h'.get? b=some o)->ItemsOf (λi v=>∃h:i<es.size,v=es[i].key) z es.size->Q z.toList { s with heap:=h',toks:=tk }):wpAny (model prog w) A (collect (.ref d)) Q E s:=by
 have c:d<s.heap.objs.size:=by obtain⟨_,t,_⟩:=p;exact BZ t
 have m:∀R:Result->Shared->Prop,(∀h' tk z g,(∀b o,s.heap.get? b=some o->h'.get? b=some o)->h'.get? s.heap.objs.size=some { cls:=.type "list",dict:=none,data:=.seq z g,slots:=#[] }->ItemsOf (λi v=>∃h:i<es.size,v=es[i].key) z es.size->R (.ok (.ret (.ref s.heap.objs.size))) { s with heap:=h',toks:=tk }) ->
     codeAny (model prog w) A (.builtin "proto.collect" ⟨[.ref d],[]⟩) R s:=by
  intro R q;refine codeAny_builtin F.entry_proto_collect ?_;rw[Around.under_plainId F.plain_proto_collect _];show wpAny _ A.in1 (newList [] >>= λl=>again (.builtin "list.__iadd__" ⟨[l,.ref d],[]⟩)) _ _ s;refine BP (wpAny_newObj_type (BS ⟨plainId_quiet F.plain_list_iadd _,codeAny_builtin F.entry_list_iadd ?_⟩));rw[Around.under_plainId F.plain_list_iadd _];show wpAny _ A.in1 (Builtin.List.listExtendWith (.ref s.heap.objs.size) (.ref d) (.ref s.heap.objs.size)) _ _ _;have k:(s.heap.push { cls:=.type "list",data:=.seq ([]:LW).toArray }).get? s.heap.objs.size=some { cls:=.type "list",data:=.seq #[] }:=Co _ rfl;refine W.kdl_extend (R:=R) (s:={ s with heap:=s.heap.push { cls:=.type "list",data:=.seq ([]:LW).toArray } }) (ye (es:=es) (ep:=ep) r) x (p.at λ_ e=>Cc _ e) s.heap.objs.size (Dr c) (Dr c) _ 0 k (λh' tk f g n j a=>?_) y;exact q h' tk f g (λb o e=>n b o (Cp (BZ e)) (Cc _ e)) j a
 unfold collect;refine BP (wpAny_runValue (m _ λh' tk z g n j a=>?_));show wpAny _ A (load s.heap.objs.size >>= _) _ _ _;refine BP (wpAny_load j ?_);exact BS (u h' tk z n a)
theorem ly (t:A.handled=none) (p:(d==sysModules)=false) (l:Raw s.heap d es ep) (m:es.size<=sizeLine)
    (q:∀(h':Heap) tk acc,(∀b o,s.heap.get? b=some o->h'.get? b=some o)->ItemsOf (λi v=>∃h:i<es.size,v=es[i].key) acc es.size->Q (.ref h'.objs.size) { s with heap:=h'.push { cls:=.type "tuple",data:=.seq acc },toks:=tk }) :
    wpAny (model prog w) A (call (.type "tuple") [.ref d]) Q E s:=by
 refine callType_codes (Q₁:=λf a=>a.TypeIs f "tuple"/\Q f a) F.called_tuple (F.typeCall_tuple_1 _) F.entry_object_init ?_ λf a c=>?_
 ·refine codeAny_of_tree ?_;show wpAny _ A.in1.in1 (do checkBuiltinCall "tuple.__new__" ⟨[.type "tuple",.ref d],[]⟩;again (.builtin "tuple.__new__" ⟨[.type "tuple",.ref d],[]⟩)) _ _ s;refine BP (wpAny_of_eq (F.newCall_tuple_1 _) (BS ⟨plainId_quiet F.plain_tuple_new _,codeAny_builtin F.entry_tuple_new ?_⟩));rw[Around.under_plainId F.plain_tuple_new _];have n:=sub_tuple_self;have j:=init_tuple_lookup;have r:=madeHere_tuple;have k:=l.typ
  wp_walk using wpAny_typeOf k,pi (es:=es) (ep:=ep) (by exact t) p l m
  intro h' tk acc u g;show wpAny _ _ (Builtin.Tuple.tupleExact acc.toList.toArray >>= λv=>ret v) _ _ _;unfold Builtin.Tuple.tupleExact;refine BP (wpAny_newObj_type ?_ (by show acc.toList.toArray.size<=sizeLine;simp only[Array.toArray_toList];rw[g.1];exact m));refine BS ?_;have e:acc.toList.toArray=acc:=by simp
  rw[e];exact⟨⟨_,Co _ rfl,rfl⟩,q h' tk acc u g⟩
 ·exact⟨c.1,F.args_object_init_2 f _,object_init_meets F.called_tuple.init.lookup F.called_tuple.made (by decide) prog w A.in1 _ a ⟨c.1,rfl,c.2⟩⟩
end
end PySem
namespace L2
open PySem PySem.Spec PyProof.Rows
theorem Paired.at:∀ {l:List α}{m:List β}, Paired F l m -> l.length=m.length /\ ∀(i:Nat) (a:α), l[i]? = some a -> ∃b, m[i]? = some b /\ F a b
 | _,_,.nil=>⟨rfl,λi a h=>by simp at h⟩
 | _,_,.cons r t=>by
  obtain⟨hl,ih⟩:=Paired.at t;refine⟨by rw[Cs,Cs,hl],λi a h=>?_⟩;cases i with
  | zero =>
   have h:=BV h;subst h;exact⟨_,rfl,r⟩
  | succ i=>exact ih i a (by simpa using h)
theorem kJ:∀(ys:List (List Key × Addr × Value)),Vals (ys.map λy=>V.ref y.2.1) (ys.map λy=>Value.ref y.2.1)
 | []=>.nil
 | y::ys=>.cons rfl (kJ ys)
section
variable {X:Cx}{p pos:Pos}{e:Expr}{t:TA}
def uH:LV->Hp->VK->Prop:=λxs H Q=>∃a kvs,xs=[V.ref a]/\H a=some (.dT kvs)/\∀l rs,H l=none->rs.length=kvs.length->(∀(i:Nat) (k:List Key × V),kvs[i]? = some k->∃q,rs[i]? = some (V.ref q)/\H q=some (.tup (k.1.map kV)))->Q (.ref l) (upd H l (.tup rs))
theorem za (N:X.calm=true) (B:Blt X.mg) (S:PA X [e] t) (W:autoParam (Gl X "tuple") aR9) (he:autoParam (starEach [e] X.env=(false, eval e X.env) :: starEach [] X.env) aR9) (hpl:autoParam ((backTo pos (starEach [] X.env)).any (·.1)=false) aR9) :
    PE X (.Call (.Name "tuple" p) [e] [] pos) (tCB uH t):=by
 refine fk (r:=uH) (λF s σ H xs us Q I r h=>?_) W B.tuple (show bootBuiltins "tuple"=some (.type "tuple") by decide +kernel) S (by decide) (by decide) he hpl;obtain⟨a,x,rfl,P,q⟩:=h;obtain⟨u,rfl,O⟩:=cZ r;cases O;obtain⟨hz,g,f,T,o,es,ep,G,R,z,C,h5⟩:=(show ObjOk X.prog X.w H s.heap a (.dT x) from I.hok a _ P)
 obtain⟨pl,w⟩:=Paired.at T;have A:es.size=f.length:=by rw[<- DN,C,BQ]
 refine ly (es:=es) (ep:=ep) (I.ok.hd N) g ⟨o,G,R,z⟩ (by omega) λh' Y c v d=>?_;have D:=I.kept (h':=h') (t':=Y) v;have K:c.toList=f.map λy=>Value.ref y.2.1:=by
  refine List.ext_getElem (by rw[DN,d.1,BQ,A]) λj n l=>?_;rw[BQ] at l;have m:j<c.size:=by rw[DN] at n;exact n
  obtain⟨L,Z⟩:=d.2 j c[j] (Array.getElem?_eq_getElem m);have E:es.toList[j]? = some (entryOfKey (tupleKind (bu X.prog X.w)) f[j]):=by rw[C,Ce,Ci l];rfl
  have M:es[j]=entryOfKey (tupleKind (bu X.prog X.w)) f[j]:=by
   have:es.toList[j]? = some es[j]:=by rw[Array.getElem?_toList,Array.getElem?_eq_getElem L]
   rw[this] at E;exact BV E
  rw[Array.getElem_toList,List.getElem_map,Z,M];rfl
 have U:Vals (f.map λy=>V.ref y.2.1) c.toList:=by
  rw[K];exact kJ f
 refine⟨.ref _,_,D.laid (o:=.tup (f.map λy=>V.ref y.2.1)) (λb ob q=>Cc _ q) (BR _) ⟨by rw[BQ];omega,c.toList,U,?_⟩,rfl,q _ _ (D.hok.fresh (BR _)) (by rw[BQ];omega) λi k v=>?_⟩
 ·have e:c.toList.toArray=c:=by simp
  rw[e];exact TupN.new _ _
 ·obtain⟨y,J,n,l,_⟩:=w i k v;exact⟨y.2.1,by rw[Ce,J];rfl,l⟩
end
end L2
namespace L2
open PySem
abbrev Prs:=List (Str × Str)
def bO:Prs->Prs->Prs
 | acc,[]=>acc
 | acc,x::xs=>if x∈acc then bO acc xs else bO (acc++[x]) xs
theorem iw:∀(xs ys acc:Prs),bO acc (xs++ys)=bO (bO acc xs) ys
 | [],ys,acc=>rfl
 | x::xs,ys,acc=>by
  show (if x∈acc then bO acc (xs++ys) else bO (acc++[x]) (xs++ys))=bO (if x∈acc then bO acc xs else bO (acc++[x]) xs) ys
  split
  ·exact iw xs ys acc
  ·exact iw xs ys (acc++[x])
theorem iq:∀(xs acc:Prs),(bO acc xs).length<=acc.length+xs.length
 | [],acc=>BR _
 | x::xs,acc=>by
  show (if x∈acc then bO acc xs else bO (acc++[x]) xs).length<=_
  split
  ·have:=iq xs acc;rw[Cs];omega
  ·have:=iq xs (acc++[x]);rw[Cj] at this;rw[Cs];simp at this;omega
theorem fV:∀(xs acc:Prs) (e:Str × Str), e ∈ bO acc xs ↔ e ∈ acc ∨ e ∈ xs
 | [],acc,e=>by simp[bO]
 | x :: xs, acc, e => by
  show e∈(if x∈acc then bO acc xs else bO (acc++[x]) xs) ↔ _
  split
  ·rename_i h
   rw[fV xs acc e,Cm]
   constructor
   ·rintro (q | q)
    ·exact .inl q
    ·exact .inr (.inr q)
   ·rintro (q | rfl | q)
    ·exact .inl q
    ·exact .inl h
    ·exact .inr q
  ·rw[fV xs _ e,Cb,Cr,Cm,or_assoc]
def cE (ks:Kn) (knot:Str) (e:Str × Str):Option (Str × Str):=match aI ks e.1 e.2 with
 | some (q,x,y)=>if q=knot then some (x,y) else none
 | none=>none
def bV (last:Bool) (c:LS) (u:Str):Prs:=(c.filter λv=>decide (v≠u)).map λv=>if last then (v,u) else (u,v)
def wU (c:LS) (wn:Prs) (word:Str):LS:=c.filter λu=>decide ((word,u)∈wn)
def aL (ks:Kn) (ts wn:Prs) (knot:Str) (c:LS):Prs:=bO [] (ts.filterMap (cE ks knot)++((wU c wn "first").flatMap (bV false c)++(wU c wn "last").flatMap (bV true c)))
def FL (k:Str × LS) (e:Str × Str):Prop:=(e.1="first"/\k.2.head? = some e.2)∨(e.1="last"/\k.2.getLast? = some e.2)
theorem FL.mem (h:FL k e):e.2∈k.2:=by
 rcases h with⟨_,h⟩ | ⟨_,h⟩
 ·exact List.mem_of_head? h
 ·exact List.mem_of_getLast? h
structure WnX (ks:Kn) (wn:Prs):Prop where
 nd:wn.Nodup
 at_:∀e∈wn,∃k∈ks,FL k e
end L2
namespace L2
open PySem PySem.Spec PyProof.Rows
def BM (K:W.Frag) (ta:TA):TI:=λσ H R=>ta σ H λvs H1=>∃a b xs ys,vs=[.ref a,.ref b]/\SqT K H1 a xs/\SqL K H1 b ys/\R (nY K a b) H1
theorem sP {P:Program}{w:World}{K:W.Frag}{elts:List Expr}{x1}{tp:Pos}(a b z TI TO f e:Addr) (D:ZipApart z TI TO f e a b) :
    Turn P w K (.Tuple elts x1 tp) (nY K a b) [z,TI,TO,f,e] z (λi h=>(∃G I,F0 G/\Zp h z TI TO G I)/\IsPair h TI (.ref f) (.ref e)/\(∃c d,IsPair h TO c d)/\h.IsTupleIter f a i/\h.IsListIter e b i) :=
 gT (t1:=true) (t2:=false) a b z TI TO f e D
theorem wP (K:W.Frag) {X:Cx}{elts:List Expr}{x1}{tp:Pos}{a b:Expr}{ta:TA}{p pos:Pos}(V:Gl X "zip") (G:X.mg "zip"=none) (U:PA X [a,b] ta) (F:autoParam (starEach [a,b] X.env=(false,eval a X.env)::starEach [b] X.env) aR9) (hpl:autoParam ((backTo pos (starEach [b] X.env)).any (·.1)=false) aR9) (Z:autoParam (X.K=K) aR9) :
    PI X (.Tuple elts x1 tp) (.Call (.Name "zip" p) [a,b] [] pos) (BM K ta):=by
 subst Z;intro k s S H R I h;refine Call_ (du I V G (show bootBuiltins "zip"=some (.type "zip") by decide +kernel) (PyProof.Rows.callWith_type1 (thn (U pos k s S H _ I h) λus f ⟨vs,M,i,u,O⟩=>?_) F hpl));obtain⟨l,z,xs,ys,e,n,o,q⟩:=O;subst e;obtain⟨u1,u2,rfl,u,E⟩:=eY u;cases u;cases E;obtain⟨r,rv,B,_⟩:=i.tuple n;obtain⟨D,Q,C,_⟩:=i.list o;have L:l<f.heap.objs.size:=by obtain⟨_,e,_⟩:=B;exact BZ e
 have Y:z<f.heap.objs.size:=by obtain⟨_,e,_⟩:=C.isList;exact BZ e
 refine uF (show f.heap.IsTuple l r.toArray from B) C.isList λg N y m t x J=>?_;have T:=sP (P:=X.prog) (w:=X.w) (K:=X.K) (elts:=elts) (x1:=x1) (tp:=tp) l z _ _ _ _ _ (zipApart_new L Y);have A:(∃f0 f1,F0 f0/\Zp g (f.heap.objs.size+4) (f.heap.objs.size+2) (f.heap.objs.size+3) f0 f1)/\IsPair g (f.heap.objs.size+2) (.ref f.heap.objs.size) (.ref (f.heap.objs.size+1))/\(∃c d,IsPair g (f.heap.objs.size+3) c d)/\g.IsTupleIter f.heap.objs.size l 0/\g.IsListIter (f.heap.objs.size+1) z 0:=⟨⟨_,_,.inl rfl,N⟩,y,⟨_,_,m⟩,t,x⟩
 refine T.self X.A 0 { f with heap:=g } _ _ A ?_;refine⟨_,_,_,_,M,rfl,i.kept (t':=f.toks) J,T,A,λb v=>?_,q⟩;have v:b=f.heap.objs.size+4∨b=f.heap.objs.size+2∨b=f.heap.objs.size+3∨b=f.heap.objs.size∨b=f.heap.objs.size+1:=by simpa using v
 have j:f.heap.objs.size<=b:=by rcases v with e | e | e | e | e <;> rw[e] <;> first | exact BR _ | exact Ec _ _
 exact i.fpOk j (i.hok.fresh j)
theorem wC {K:W.Frag}{a b:Addr}{xs ys:LV}{g:TG}{tb:TS}{D:Ends}{σ:St}{H:Hp}(Pv:Nat -> St -> Hp -> Prop) (l:Pv 0 σ H) (k:∀i σ H, i <= (xs.zip ys).length -> Pv i σ H -> SqT K H a xs /\ SqL K H b ys)
    (n:∀i x y p σ H,(xs.zip ys)[i]? = some (x,y)->Pv i σ H->H p=none->g (.ref p) σ (upd H p (.tup [x,y])) λσ2 H2=>tb { D with nx:=Pv (i+1),ct:=Pv (i+1),bk:=D.nx } σ2 H2) (f:∀σ H,Pv (xs.zip ys).length σ H->D.nx σ H) :
    ∃W:Nat->Nat->SH,(∃m,W 0 m σ H)/\∀i m σ H,W i m σ H ->
     ((nY K a b).stop i H/\D.nx σ H)∨((nY K a b).go i H/\∃N:SH,(∀σ' H',N σ' H'->∃z,z<m/\W (i+1) z σ' H')/\∀x H',(nY K a b).yld i H x H'->g x σ H' λσ2 H2=>tb { D with nx:=N,ct:=N,bk:=D.nx } σ2 H2):=by
 refine⟨λi m σ H=>m=(xs.zip ys).length-i/\i<=(xs.zip ys).length/\Pv i σ H,⟨(xs.zip ys).length,by simp,Cu _,l⟩,?_⟩;rintro i m σ H ⟨rfl,h,p⟩;obtain⟨d,c⟩:=k i σ H h p;have r:(xs.zip ys).length=min xs.length ys.length:=Db;by_cases w:i<(xs.zip ys).length
 ·have o:i<xs.length:=by omega
  have A:i<ys.length:=by omega
  refine .inr ⟨⟨xs,ys,xs[i],ys[i],d,c,Ci o,Ci A⟩,Pv (i+1),λσ' H' q=>⟨(xs.zip ys).length-(i+1),by omega,rfl,by omega,q⟩,?_⟩;rintro x H' ⟨q,u,v,s,rfl,t,j,rfl⟩;exact n i u v q σ H (by rw[CO];exact⟨t xs d,j ys c⟩) p s
 ·have e:i=(xs.zip ys).length:=by omega
  refine .inl ⟨⟨xs,ys,d,c,by omega⟩,f σ H (e ▸ p)⟩
end L2
namespace MG
structure Bf (es:List (Nat × Nat)) (s n P t L:Nat) (me par:Nat->Nat) (rw:Nat->List Nat):Prop where
 pos:0<L
 at0:me 0=s
 rw0:rw 0=[s]
 lt:∀i,i<L->me i<n
 inj:∀i j,i<L->j<L->me i=me j->i=j
 low:∀i,0<i->i<L->par i<i
 lep:∀i,0<i->i<L->par i<=P
 arr:∀i,0<i->i<L->(me (par i),me i)∈es
 row:∀i,0<i->i<L->rw i=rw (par i)++[me i]
 mono:∀i j,0<i->i<=j->j<L->par i<=par j
 ord:∀i j,0<i->i<j->j<L->par i=par j->me i<me j
 top:∀i,0<i->i<L->par i=P->me i<t
 old:∀p v,p<L->(me p,v)∈es->(p<P∨(p=P/\v<t))->∃i,i<L/\me i=v/\(i=0∨par i<=p)
variable {es:List (Nat × Nat)}{s n P t L:Nat}{me par:Nat->Nat}{rw:Nat->List Nat}
theorem Bf.start (hs:s<n):Bf es s n 0 0 1 (λ_=>s) (λ_=>0) (λ_=>[s]) where
 pos:=by omega
 at0:=rfl
 rw0:=rfl
 lt:=λ_ _=>hs
 inj:=λi j hi hj _=>by omega
 low:=λi h1 h2=>by omega
 lep:=λi h1 h2=>by omega
 arr:=λi h1 h2=>by omega
 row:=λi h1 h2=>by omega
 mono:=λi j h1 h2 h3=>by omega
 ord:=λi j h1 h2 h3=>by omega
 top:=λi h1 h2=>by omega
 old:=λp v h1 h2 h3=>by omega
theorem Bf.skip (b:Bf es s n P t L me par rw) (h:(me P, t) ∉ es ∨ ∃i, i<L /\ me i=t):Bf es s n P (t+1) L me par rw :=
 { b with
  top:=λi c a f=>Nat.lt_succ_of_lt (b.top i c a f)
  old := λp v c a f => by
   by_cases q:p=P/\v=t
   ·obtain⟨rfl,rfl⟩:=q;rcases h with h | ⟨i,d,e⟩
    ·exact absurd a h
    ·refine⟨i,d,e,?_⟩;rcases DV i with z | z
     ·exact .inl z
     ·exact .inr (b.lep i z d)
   ·exact b.old p v c a (by omega) }
theorem Bf.add (b:Bf es s n P t L me par rw) (hP:P<L) (h:(me P, t) ∈ es) (hn:∀i, i<L -> me i ≠ t) (ht:t<n) :
    Bf es s n P (t+1) (L+1) (λi=>if i=L then t else me i) (λi=>if i=L then P else par i) (λi=>if i=L then rw P++[t] else rw i) where
 pos:=by omega
 at0:=by rw[if_neg (by have:=b.pos;omega)];exact b.at0
 rw0:=by rw[if_neg (by have:=b.pos;omega)];exact b.rw0
 lt:=λi hi=>by
  split
  ·exact ht
  ·exact b.lt i (by omega)
 inj := λi j hi hj e => by
  by_cases q:i=L
  ·by_cases q2:j=L
   ·omega
   ·rw[if_pos q,if_neg q2] at e;exact absurd e.symm (hn j (by omega))
  ·by_cases q2:j=L
   ·rw[if_neg q,if_pos q2] at e;exact absurd e (hn i (by omega))
   ·rw[if_neg q,if_neg q2] at e;exact b.inj i j (by omega) (by omega) e
 low:=λi h1 h2=>by
  split
  ·omega
  ·exact b.low i h1 (by omega)
 lep:=λi h1 h2=>by
  split
  ·exact BR _
  ·exact b.lep i h1 (by omega)
 arr:=λi h1 h2=>by
  by_cases q:i=L
  ·subst q;rw[if_pos rfl,if_pos rfl,if_neg (by omega)];exact h
  ·have:=b.low i h1 (by omega);rw[if_neg q,if_neg q,if_neg (by omega)];exact b.arr i h1 (by omega)
 row:=λi h1 h2=>by
  by_cases q:i=L
  ·subst q;rw[if_pos rfl,if_pos rfl,if_pos rfl,if_neg (by omega)]
  ·have:=b.low i h1 (by omega);rw[if_neg q,if_neg q,if_neg q,if_neg (by omega)];exact b.row i h1 (by omega)
 mono:=λi j h1 h2 h3=>by
  by_cases q:j=L
  ·rw[if_pos q]
   split
   ·exact BR _
   ·exact b.lep i h1 (by omega)
  ·rw[if_neg q,if_neg (by omega)];exact b.mono i j h1 h2 (by omega)
 ord:=λi j h1 h2 h3=>by
  by_cases q:j=L
  ·rw[if_pos q,if_pos q,if_neg (by omega),if_neg (by omega)];exact b.top i h1 (by omega)
  ·rw[if_neg q,if_neg q,if_neg (by omega),if_neg (by omega)];exact b.ord i j h1 h2 (by omega)
 top:=λi h1 h2=>by
  by_cases q:i=L
  ·rw[if_pos q,if_pos q];omega
  ·rw[if_neg q,if_neg q];intro e;exact Nat.lt_succ_of_lt (b.top i h1 (by omega) e)
 old := λp v h1 h2 h3 => by
  by_cases q:p=L
  ·omega
  ·rw[if_neg q] at h2;by_cases r:p=P/\v=t
   ·refine⟨L,by omega,by rw[if_pos rfl];exact r.2.symm,.inr ?_⟩;rw[if_pos rfl];omega
   ·obtain⟨i,hi,e,o⟩:=b.old p v (by omega) h2 (by omega);refine⟨i,by omega,?_,?_⟩
    ·rw[if_neg (by omega)];exact e
    ·rw[if_neg (by omega)];exact o
theorem Bf.next (b:Bf es s n P n L me par rw) (d:∀e∈es,e.1<n/\e.2<n):Bf es s n (P+1) 0 L me par rw :=
 { b with
  lep:=λi c a=>Nat.le_succ_of_le (b.lep i c a)
  top:=λi c a f=>by have:=b.lep i c a;omega
  old:=λp v c a f=>b.old p v c a (by have:=(d _ a).2;simp only at this;omega) }
theorem Bf.deep (b:Bf es s n P t L me par rw) (j:Nat):∀i, i <= j -> j<L -> (rw i).length <= (rw j).length := by
 induction j using Nat.strongRecOn with
 | ind j ih =>
  intro i d a;rcases DV j with z | z
  ·have:i=j:=by omega
   rw[this];exact BR _
  ·rw[b.row j z a,Cj];have c:=b.low j z a;rcases DV i with y | y
   ·have:=ih (par j) c 0 (Cu _) (by omega);rw[y];omega
   ·rw[b.row i y (by omega),Cj];have:=ih (par j) c (par i) (b.mono i j y d a) (by omega);simp only[List.length_singleton];omega
theorem Bf.far (b:Bf es s n P t L me par rw) (d:P<L) (m:Nat):∀i, i<L -> Walk (Arr (swp es)) m (me P) (me i) -> (rw P).length <= (rw i).length+m := by
 induction m with
 | zero =>
  intro i a w;have w:me P=me i:=w;rw[b.inj P i d a w];omega
 | succ m ih =>
  intro i a w;obtain⟨v,w,r⟩:=w;rcases Nat.lt_or_ge i P with q | q
  ·obtain⟨j, c, e, o⟩ := b.old i v a (mem_swp.mp r) (.inl q);rw[<- e] at w;have h:=ih j c w;have:(rw j).length <= (rw i).length+1 := by
    rcases DV j with z | z
    ·have:=b.deep i 0 (Cu _) a;rw[z];omega
    ·rcases o with o | o
     ·omega
     ·have:=b.deep i (par j) o a;rw[b.row j z c,Cj];simp only[List.length_singleton];omega
   omega
  ·have:=b.deep i P q a;omega
inductive Chn (P:Nat) (me par:Nat->Nat):Nat->Nat->List Nat->Prop
 | done:Chn P me par P 0 []
 | step {j m:Nat} {w:List Nat}:0<j->Chn P me par j m w->Chn P me par (par j) (m+1) (me j::w)
theorem Bf.chn_le (b:Bf es s n P t L me par rw) (a:P<L) (c:Chn P me par j m w):j<=P/\rw P=rw j++w/\w.length=m:=by
 induction c with
 | done=>exact⟨BR _,(CB _).symm,rfl⟩
 | step h c ih =>
  have:=b.low _ h (by omega);refine⟨by omega,?_,by rw[Cs,ih.2.2]⟩;rw[ih.2.1,b.row _ h (by omega),DJ];rfl
theorem Bf.none_ahead (b:Bf es s n P t L me par rw) (f:P<L) (c:Chn P me par j m w):∀i,i<j->¬ Walk (Arr (swp es)) m (me P) (me i):=by
 induction c with
 | done =>
  intro i g w;have w:me P=me i:=w;have:=b.inj P i f (by omega) w;omega
 | step h c ih =>
  intro i g w;obtain⟨v,w,r⟩:=w;have k:=(b.chn_le f c).1;have l:=b.low _ h (by omega);obtain⟨d,a,e,o⟩:=b.old i v (by omega) (mem_swp.mp r) (.inl (by omega));rw[<- e] at w;refine ih d ?_ w;refine DL λq=>?_;have:=b.mono _ d h q a;omega
theorem Bf.walk (b:Bf es s n P t L me par rw) (a:P<L) (c:Chn P me par j m w):Walk (Arr (swp es)) m (me P) (me j):=by
 induction c with
 | done=>exact rfl
 | step h c ih=>exact⟨_,ih,mem_swp.mpr (b.arr _ h (by have:=(b.chn_le a c).1;omega))⟩
theorem Bf.to (b:Bf es s n P t L me par rw) (a:P<L) (c:Chn P me par j m w):To es (me P) m (me j):=by
 refine⟨b.walk a c,λe g f=>?_⟩;have d:=b.chn_le a c;have:=b.far a e j (by omega) f;rw[d.2.1,Cj,d.2.2] at this;omega
theorem Bf.wy (b:Bf es s n P t L me par rw) (a:P<L) (c:Chn P me par j m w):Wy es (me P) m (me j) (me j :: w) := by
 induction c with
 | done=>exact⟨rfl,rfl⟩
 | @step j m w h c ih =>
  have l:=(b.chn_le a c).1;have p:=b.low _ h (by omega);refine⟨me j,me j::w,rfl,⟨b.arr j h (by omega),b.to a c,λv f k=>?_⟩,ih⟩;refine DH λq=>?_;obtain⟨i,d,e,o⟩:=b.old (par j) v (by omega) f (.inl (by omega));refine b.none_ahead a c i ?_ (e ▸ k.1);refine DL λr=>?_;have:=b.mono j i h r d;have g:par j=par i:=by omega
  rcases Nat.lt_or_ge j i with z | z
  ·have:=b.ord j i h z d g;omega
  ·have:i=j:=by omega
   rw[this] at e;omega
theorem Bf.chn (b:Bf es s n P t L me par rw) (a:P<L) (j:Nat):∀ {m:Nat}{w:List Nat},Chn P me par j m w->∃m w,Chn P me par 0 m w:=by
 induction j using Nat.strongRecOn with
 | ind j ih =>
  intro m w c;rcases DV j with z | z
  ·rw[z] at c;exact⟨m,w,c⟩
  ·exact ih (par j) (b.low j z (by have:=(b.chn_le a c).1;omega)) (.step z c)
theorem Bf.told (b:Bf es s n P t L me par rw) (a:P<L):∃k,To es (me P) k s/\Wy es (me P) k s (rw P):=by
 obtain⟨m,w,c⟩:=b.chn a P .done;have e:=b.to a c;have f:=b.wy a c;have d:=(b.chn_le a c).2.1;rw[b.at0] at e f;rw[b.rw0] at d;rw[d];exact⟨m,e,f⟩
theorem Bf.shut (b:Bf es s n P t L me par rw) (f:P=L) (d:∀i, i<L -> me i ≠ goal):∀k, ¬ To es goal k s := by
 intro k h;have w:=h.1;have:∀m i,i<L->¬ Walk (Arr (swp es)) m goal (me i):=by
  intro m
  induction m with
  | zero =>
   intro i a w;have w:goal=me i:=w;exact d i a w.symm
  | succ m ih =>
   intro i a w;obtain⟨v,w,r⟩:=w;obtain⟨j,c,e,_⟩:=b.old i v a (mem_swp.mp r) (.inl (by omega));exact ih j c (e ▸ w)
 rw[<- b.at0] at w;exact this k 0 b.pos w
theorem Bf.few (b:Bf es s n P t L me par rw):L<=n:=by
 have f:((List.range L).map me).Nodup:=by
  refine List.pairwise_map.mpr (List.Pairwise.imp_of_mem (λa d l e=>?_) Ed);have:=b.inj _ _ (CL.mp a) (CL.mp d) e;omega
 have:=f.length_le_of_subset (l₂:=List.range n) λx a=>by
  obtain⟨i,c,rfl⟩:=BY.mp a;exact CL.mpr (b.lt i (CL.mp c))
 simpa using this
end MG
open PySem
namespace L2
open PySem
def kdO (ks:Kn) (u:Str):LS:=((ks.find? λk=>decide (k.1=u)).map (·.2)).getD []
section
variable {us:LS}{ks:Kn}
def rd (ks:Kn):Nat->Str->LS
 | 0,u=>[u]
 | n+1,u=>u::(kdO ks u).flatMap (rd ks n)
end
theorem oK (os A:LS):(plc os A).Pairwise (·<·):=(Ed (n:=os.length)).filter _
section
variable {os A B:LS}(ond:os.Nodup) (cnd:(A++B).Nodup) (sub:∀x∈A++B,x∈os)
theorem fP {i:Nat}{x:Str}(h:(A++B)[i]? = some x) (d:os.Nodup) (c:(A++B).Nodup) (b:∀x∈A++B,x∈os):(plc os (A++B))[i]? = some ((bH os (A++B)).idxOf x):=by
 have j:=BW h;have f:=gw b j;have g:=bI (b x j);have e:=xb d c b f;rw[g] at e;obtain⟨a,_⟩:=dW d c b f;rw[g,cr c h] at a;rw[e];exact a
theorem hH (d:x∈os) (g:x∉A++B) (a:os.Nodup) (b:(A++B).Nodup) (c:∀x∈A++B,x∈os):(bH os (A++B)).idxOf x=os.idxOf x:=by
 have h:=CF d;rcases gz a b c h with⟨i,y,f,e,j⟩ | ⟨_,e,_⟩
 ·exact absurd (bI d ▸ nM (BW f)) g
 ·refine cr ((iH a b c).nodup_iff.mpr a) ?_;rw[e];exact gS d
theorem iW {i j:Nat}{x y:Str}(g:(A++B)[i]? = some x) (h:(A++B)[j]? = some y) (f:i<j) (d:os.Nodup) (c:(A++B).Nodup) (e:∀x∈A++B,x∈os):(bH os (A++B)).idxOf x<(bH os (A++B)).idxOf y:=by
 have a:=fP g d c e;have b:=fP h d c e;obtain⟨m,k⟩:=BU.mp a;obtain⟨n,l⟩:=BU.mp b;have:=DM.mp (oK os (A++B)) i j m n f;rw[k,l] at this;exact this
theorem oE {x:Str}(g:x∈A++B) (b:os.Nodup) (c:(A++B).Nodup) (d:∀x∈A++B,x∈os):∃y∈A++B,(bH os (A++B)).idxOf x=os.idxOf y:=by
 obtain⟨i,e⟩:=Cz g;have a:=BW (fP e b c d);refine⟨_,nM a,?_⟩;have f:=fj a;exact(cr b (by rw[CA,Ci f];rfl)).symm
theorem qu (a:x∈os) (b:y∈os) (h:os.idxOf x=os.idxOf y):x=y:=by rw[<- bI a,h,bI b]
theorem vf (C:A.Pairwise λx y => os.idxOf x<os.idxOf y) {x:Str}(H:x ∈ A) (q:os.Nodup) (c:(A ++ B).Nodup) (b:∀x ∈ A ++ B, x ∈ os):(bH os (A ++ B)).idxOf x <= os.idxOf x := by
 obtain⟨i,g⟩:=Cz H;have h:=(BU.mp g).1;have r:(A++B)[i]? = some x:=by rw[Dm h];exact g
 have a:=fP r q c b;obtain⟨D,s⟩:=BU.mp a;refine DH λO=>?_;have p:((A.take (i+1)).map os.idxOf).length <= ((plc os (A ++ B)).take i).length := by
  refine List.Nodup.length_le_of_subset (jY ((De.mp c).1.sublist (DZ _ _)) λu f v J e=>qu (b u (CM _ (Dq f))) (b v (CM _ (Dq J))) e) λk E=>?_;obtain⟨u,f,rfl⟩:=BY.mp E;have n:=Dq f;have F:os.idxOf u<=os.idxOf x:=by
   obtain⟨j,d⟩:=Cz f;have l:=(BU.mp d).1;rw[Ck] at l;rw[DC (by omega)] at d;by_cases z:j=i
   ·subst z;rw[g] at d;cases d;exact BR _
   ·obtain⟨G,M⟩:=BU.mp d;obtain⟨K,L⟩:=BU.mp g;have:=DM.mp C j i G K (by omega);rw[M,L] at this;omega
  have I:=gw b (CM B n);obtain⟨m,t⟩:=Cz I;obtain⟨N,w⟩:=BU.mp t;have o:m<i:=by
   refine DL λz=>?_;rcases Nat.lt_or_eq_of_le z with z | z
   ·have:=DM.mp (oK os (A++B)) i m D N z;rw[s,w] at this;omega
   ·subst z;rw[s] at w;omega
  exact BW (i:=m) (by rw[DC o];exact t)
 rw[BQ,Ck,Ck] at p;omega
theorem yW (M:B.Pairwise λx y => os.idxOf x<os.idxOf y) {x:Str}(F:x ∈ B) (f:os.Nodup) (c:(A ++ B).Nodup) (b:∀x ∈ A ++ B, x ∈ os):os.idxOf x <= (bH os (A ++ B)).idxOf x := by
 obtain⟨i,h⟩:=Cz F;have s:=(BU.mp h).1;have o:(A++B)[A.length+i]? = some x:=by rw[DB (by omega),Em];exact h
 have a:=fP o f c b;obtain⟨w,p⟩:=BU.mp a;have t:=eU f c b;rw[Cj] at t;refine DH λO=>?_;have n:((B.drop i).map os.idxOf).length <= ((plc os (A ++ B)).drop (A.length+i+1)).length := by
  refine List.Nodup.length_le_of_subset (jY ((De.mp c).2.1.sublist (List.drop_sublist _ _)) λu g v H e=>qu (b u (CN _ (Dk g))) (b v (CN _ (Dk H))) e) λk C=>?_;obtain⟨u,g,rfl⟩:=BY.mp C;have l:=Dk g;have D:os.idxOf x<=os.idxOf u:=by
   obtain⟨j,d⟩:=Cz g;rw[Ei] at d;by_cases z:j=0
   ·subst z;have d:B[i]? = some u:=d;rw[h] at d;cases d;exact BR _
   ·obtain⟨E,L⟩:=BU.mp d;obtain⟨J,K⟩:=BU.mp h;have:=DM.mp M i (i+j) J E (by omega);rw[L,K] at this;omega
  have G:=gw b (CN A l);obtain⟨m,q⟩:=Cz G;obtain⟨N,r⟩:=BU.mp q;have I:A.length+i<m:=by
   refine DL λz=>?_;rcases Nat.lt_or_eq_of_le z with z | z
   ·have:=DM.mp (oK os (A++B)) m (A.length+i) N w z;rw[p,r] at this;omega
   ·subst z;rw[p] at r;omega
  refine BW (i:=m-(A.length+i+1)) ?_;rw[Ei,show A.length+i+1+(m-(A.length+i+1))=m by omega];exact q
 rw[BQ,CV,CV] at n;omega
end
theorem rW {os A B:LS}(c:os.Nodup) (b:(A ++ B).Nodup) (a:∀x ∈ A ++ B, x ∈ os) (D:A.Pairwise λx y => os.idxOf x<os.idxOf y) (E:B.Pairwise λx y => os.idxOf x<os.idxOf y) {lo hi:Nat}
    (s:∀x∈A++B,lo<=os.idxOf x/\os.idxOf x<=hi) {x y:Str} (K:x∈os) (C:y∈os) (f:os.idxOf x<os.idxOf y)
    (L:y∈A->lo<=os.idxOf x->x∈A) (R:x∈B->os.idxOf y<=hi->y∈B) (F:¬ (x∈B/\y∈A)):(bH os (A++B)).idxOf x<(bH os (A++B)).idxOf y:=by
 have q:∀ {l:LS} {u v:Str},l.Pairwise (λx y=>os.idxOf x<os.idxOf y)->u∈l->v∈l->os.idxOf u<os.idxOf v->∃i j,i<j/\l[i]? = some u/\l[j]? = some v:=λ{l u v} H p O J=>by
  obtain⟨i,hi⟩:=Cz p;obtain⟨j,w⟩:=Cz O;obtain⟨M,S⟩:=BU.mp hi;obtain⟨Q,G⟩:=BU.mp w;refine⟨i,j,DL λz=>?_,hi,w⟩;rcases Nat.lt_or_eq_of_le z with z | z
  ·have:=DM.mp H j i Q M z;rw[S,G] at this;omega
  ·subst z;rw[hi] at w;cases w;omega
 have m:∀ {i:Nat} {u:Str},A[i]? = some u->(A++B)[i]? = some u:=λ{i u} h=>by rw[Dm (BU.mp h).1];exact h
 have k:∀ {i:Nat} {u:Str},B[i]? = some u->(A++B)[A.length+i]? = some u:=λ{i u} h=>by rw[DB (by omega),Em];exact h
 by_cases n:x∈A
 ·by_cases e:y ∈ A
  ·obtain⟨i,j,r,g,t⟩:=q D n e f;exact iW (m g) (m t) r c b a
  ·by_cases d:y∈B
   ·obtain⟨i,g⟩:=Cz n;obtain⟨j,t⟩:=Cz d;have:=(BU.mp g).1;exact iW (m g) (k t) (by omega) c b a
   ·have g:=vf (B:=B) D n c b a;rw[hH C (λz=>(Cb.mp z).elim e d) c b a];omega
 ·by_cases o:x ∈ B
  ·by_cases e:y ∈ A
   ·exact absurd ⟨o,e⟩ F
   ·by_cases d:y∈B
    ·obtain⟨i,j,r,g,t⟩:=q E o d f;exact iW (k g) (k t) (by omega) c b a
    ·have I:hi<os.idxOf y:=DL λz=>d (R o z);obtain⟨u,p,N⟩:=oE (CN A o) c b a;have:=(s u p).2;rw[hH C (λz=>(Cb.mp z).elim e d) c b a];omega
  ·rw[hH K (λz => (Cb.mp z).elim n o) c b a];by_cases e:y∈A
   ·have P:os.idxOf x<lo:=DL λz=>n (L e z);obtain⟨u,p,N⟩:=oE (CM B e) c b a;have:=(s u p).1;omega
   ·by_cases d:y∈B
    ·have:=yW (A:=A) E d c b a;omega
    ·rw[hH C (λz=>(Cb.mp z).elim e d) c b a];exact f
section
variable {H H':Hp}
theorem di (c:H p=some (.dK ys)) (b:But p H H') (h:H a=some (.tup xs)):H' a=some (.tup xs):=b a _ (aZ h c (by intro z;cases z)) h
theorem iy (c:H p=some (.dK ys)) (b:But p H H') (h:Rep H v (aE e)):Rep H' v (aE e):=by
 obtain⟨a,rfl,d⟩:=fE h;exact aO (di c b d)
theorem dG (k:∀ {v:V}{e:α},Rep H v (f e)->Rep H' v (f e)):∀ {es:List α}{xs:LV},RepAll H xs (es.map f)->RepAll H' xs (es.map f)
 | [],xs,h=>by rw[RepAll.nilI h];exact .nil
 | e::es,xs,h=>by
  obtain⟨y,ys',rfl,a,c⟩:=RepAll.consI h;exact .cons (k a) (dG k c)
theorem fo (c:H p=some (.dK ys)) (b:But p H H') (h:Rep H v (bX ps)):Rep H' v (bX ps):=by
 obtain⟨a,e,rfl,d,r⟩:=ba h;exact .tup (di c b d) (dG (iy c b) r)
theorem io (a:H p=some (.dK ys)) (b:But p H H') (h:Rep H v (bP k)):Rep H' v (bP k):=by
 obtain⟨f,e,rfl,c,d⟩:=iN h;exact .tup (di a b c) (.cons (.str _) (.cons (.tup (di a b d) (RepAll.of_strs _)) .nil))
theorem dg (c:H p=some (.dK ys)) (b:But p H H') (h:Rep H v (cA ks)):Rep H' v (cA ks):=by
 obtain⟨a,e,rfl,d,r⟩:=de h;exact .tup (di c b d) (dG (io c b) r)
theorem ia (f:H p=some (.dK ys)) (b:But p H H') (h:Rep H v (aK ks ts ws wn)):Rep H' v (aK ks ts ws wn):=by
 obtain⟨q,a,c,d,e,rfl,j,k,l,i,g⟩:=bd h;exact cK (di f b j) (dg f b k) (fo f b l) (fo f b i) (fo f b g)
end
theorem DPV.at_dK (h:DPV H p a):∃ys,H p=some (.dK ys):=let ⟨_,_,q,_⟩:=h;⟨_,q⟩
structure KLL (H:Hp) (L:Addr) (kl:KL):Prop where
 l:H L=some (.lst (kl.map λq=>V.ref q.1))
 t:∀q∈kl,H q.1=some (.lst [.str q.2.2.1,.ref q.2.1])
 c:∀q∈kl,H q.2.1=some (.lst (List.map V.str q.2.2.2))
 nd:(kl.map λq=>q.2.1).Nodup
 nl:∀q∈kl,q.2.1≠L
theorem xS:HO.lst [.str s,.ref r]≠HO.lst (List.map V.str ch):=λz=>by
 have z:[V.str s,V.ref r]=List.map V.str ch:=HO.lst.inj z;have:V.ref r∈List.map V.str ch:=by rw[<- z];simp
 obtain⟨y,_,e⟩:=BY.mp this;cases e
theorem sH {s:Str}{α:Type}{f:α->Addr}{l:List α}:HO.lst [.str s,.ref r]≠HO.lst (l.map λq=>V.ref (f q)):=λz=>by
 have z:[V.str s,V.ref r]=l.map λq=>V.ref (f q):=HO.lst.inj z;have:V.str s∈l.map λq=>V.ref (f q):=by rw[<- z];simp
 obtain⟨y,_,e⟩:=BY.mp this;cases e
section
variable {H H':Hp}{L p:Addr}{kl:KL}
theorem KLL.draw (h:KLL H L kl) (c:H p=some (.dK ys)) (b:But p H H'):KLL H' L kl :=
 ⟨b _ _ (aZ h.l c (by intro z;cases z)) h.l,λq a=>b _ _ (aZ (h.t q a) c (by intro z;cases z)) (h.t q a),λq a=>b _ _ (aZ (h.c q a) c (by intro z;cases z)) (h.c q a),h.nd,h.nl⟩
theorem KLL.same (h:KLL H L kl) (s:Same H H'):KLL H' L kl:=⟨s _ _ h.l,λq a=>s _ _ (h.t q a),λq a=>s _ _ (h.c q a),h.nd,h.nl⟩
theorem KLL.put (h:KLL H L kl) (c:kl[j]? = some (ta, G, (nm, ch))) :
    KLL (upd H G (.lst (List.map V.str ch'))) L (kl.set j (ta,G,(nm,ch'))):=by
 have f:=BW c;have g:=h.nl _ f;have i:=h.c _ f;have l:((kl.set j (ta,G,(nm,ch'))).map λq=>q.1)=kl.map λq=>q.1:=fR c rfl;have n:((kl.set j (ta,G,(nm,ch'))).map λq=>q.2.1)=kl.map λq=>q.2.1:=fR c rfl;refine⟨?_,λq b=>?_,λq b=>?_,by rw[n];exact h.nd,λq b=>?_⟩
 ·rw[ag (Ne.symm g),h.l];have:=congrArg (List.map V.ref) l;rw[CK,CK] at this;exact congrArg (λz=>some (HO.lst z)) this.symm
 ·rcases fz b with rfl | ⟨m,_,a⟩
  ·have:=h.t _ f;rw[ag (aZ this i xS)];exact this
  ·have:=h.t _ (BW a);rw[ag (aZ this i xS)];exact this
 ·rcases fz b with rfl | ⟨m, e, a⟩
  ·exact ae
  ·have d:q.2.1≠G:=λz=>by
      have k:(kl.map λq=>q.2.1)[m]? = some G:=by rw[Ce,a];exact congrArg some z
      have o:(kl.map λq=>q.2.1)[j]? = some G:=by rw[Ce,c];rfl
      exact e ((Dz (BU.mp k).1 h.nd).mp (k.trans o.symm))
   rw[ag d];exact h.c _ (BW a)
 ·rcases fz b with rfl | ⟨m,_,a⟩
  ·exact g
  ·exact h.nl _ (BW a)
theorem KLL.add (h:KLL H L kl) (d:H ta=some (.lst [.str u, .ref z])) (e:H z=some (.lst [])) (b:z ∉ kl.map λq => q.2.1) (c:z ≠ L) :
    KLL (upd H L (.lst ((kl.map λq=>V.ref q.1)++[V.ref ta]))) L (kl++[(ta,z,(u,[]))]):=by
 refine⟨?_,λq a=>?_,λq a=>?_,?_,λq a=>?_⟩
 ·rw[ae,BX];rfl
 ·rcases Cb.mp a with a | a
  ·have:=h.t q a;rw[ag (aZ this h.l sH)];exact this
  ·rw[Cr.mp a];rw[ag (aZ d h.l sH)];exact d
 ·rcases Cb.mp a with a | a
  ·rw[ag (h.nl q a)];exact h.c q a
  ·rw[Cr.mp a];rw[ag c];exact e
 ·rw[BX];refine(List.perm_append_singleton _ _).nodup_iff.mpr ?_;exact CI.mpr ⟨b,h.nd⟩
 ·rcases Cb.mp a with a | a
  ·exact h.nl q a
  ·rw[Cr.mp a];exact c
theorem KLL.dic (h:KLL H L kl) (b:H D=some (.dK I)):KLL (upd H D (.dK G)) L kl :=
 ⟨by rw[ag (aZ h.l b (by intro z;cases z))];exact h.l,λq a=>by rw[ag (aZ (h.t q a) b (by intro z;cases z))];exact h.t q a,λq a=>by rw[ag (aZ (h.c q a) b (by intro z;cases z))];exact h.c q a,h.nd,h.nl⟩
theorem TrN.addKnot (h:TrN us (i+1) ks) (d:us.Nodup) (c:∀u∈us,u≠"") (b:us[i]? = some u) (a:u∉ks.map (·.1)):TrN us (i+1) (ks++[(u,[])]):=by
 have:=h.knot d c b a ks.length
 rwa [Cd (BR _),Di (BR _)] at this
end
end L2
namespace L2
open PySem PySem.Spec PyProof.Rows
section
variable {X:Cx}
def yu (K:W.Frag):V->V->Hp->VK->Prop:=λx y H Q=>∃a b xs,x=.ref a/\y=.ref b/\SqT K H a xs/\H b=some (.tup [])/\Q (.bl (!xs.isEmpty)) H
theorem mH (K:W.Frag) (B:X.A.units+64<cLine) (w:autoParam (X.K=K) aR9):OpR X (compareOp .NotEq) (yu K) := by
 subst w;intro g s C H x y v u Q I l p h;obtain⟨a,b,xs,rfl,rfl,n,o,q⟩:=h;cases l;cases p;obtain⟨c,d,k,A⟩:=I.tuple n;obtain⟨j,f,m,_⟩:=I.tuple (a:=b) (xs:=[]) (.of o);cases f;have D:=d.length;refine SeqAt.RcNeAt.tuples (e:=λ_=>true) (show s.heap.IsTuple a c.toArray from k) (show s.heap.IsTuple b (List.toArray []) from m) (by omega) (λi z t=>absurd t (by simp)) X.prog X.w X.xe _ ⟨.bl _,H,I,rfl,?_⟩;have e:(!((List.range (min c.toArray.size (List.toArray ([]:LW)).size)).all (λ_=>true)&&c.toArray.size==(List.toArray ([]:LW)).size))=!xs.isEmpty:=by
  cases xs with
  | nil=>cases d;rfl
  | cons x r =>
   cases c with
   | nil=>cases d
   | cons y q=>simp
 rw[e];exact q
end
def Aw (f:Addr) (sp:Sp) (E:XK) (tf:TE) (t:TA):TE:=λσ H Q=>tf σ H λv H1=>v=.ref f/\t σ H1 λvs H2=>sp (vs++[]) H2 Q E
theorem wI (F:FnOk X.prog X.w X.K X.mg X.base CX k f fd ps sp) (p:Room k X.A) (j:W.keepIn X.K (.ref f)=true) (y:Binds X.K fd ps []) (o:iB CX X E)
    (i:PE X z G) (w:PA X (e::es) t) (he:autoParam (starEach (e::es) X.env=(false,eval e X.env)::starEach es X.env) aR9) (hpl:autoParam ((backTo pos (starEach es X.env)).any (·.1)=false) aR9)
    (b:autoParam (eval (.Call z (e::es) [] pos) X.env=(eval z X.env >>= λv=>callWith pos v [] (backTo pos (starEach (e::es) X.env)) (backToKw pos (keywordEach [] X.env)))) aR9) :
    PE X (.Call z (e::es) [] pos) (Aw f sp E G t):=by
 intro a s g H Q I h;rw[b];refine BP (thn (i a s g H _ I h) λu A ⟨v,l,d,x,m,n⟩=>?_);subst m;obtain rfl:u=Value.ref f:=x;refine W.callWith_K (h₀:=X.base) d.ok.mod.kin j (thn (w pos a A g l _ d n) λD B ⟨C,J,c,r,q⟩=>⟨c.kIn,?_⟩) he hpl;exact uN F p y .nil o c r q
open _root_.HT PySem.SeqAt PySem.MeetsSeq PySem.MeetsSeq2 PySem.MeetsSeq3
namespace HTW
variable {prog:Program}{w:World}{A:Around}{E:QS}{s:Shared}
theorem getItem_tuple_whole {items:Array Value}{lo hi:Option Int}(b:IsTup s.heap t items) (f:s.heap.IsSliceOf z G I .none) (i:IsPart G lo) (j:IsPart I hi)
    (k:sIx items.size 0 lo=0) (m:sIx items.size items.size hi=items.size)
    (h:Q (.ref t) s):wpAny (model prog w) A (getItem (.ref t) (.ref z)) Q E s:=by
 obtain⟨g,d,e,l⟩:=id f;have c:s.TypeIs (.ref z) "slice":=⟨g,d,e⟩
 unfold getItem
 try with_reducible refine CC ?_
 first | refine BP (BS ?_) | skip
 refine BP (wpAny_sequenceKey b.typeIs (by decide) ?_);refine BP (wpAny_callSpecial?_slot (name:=Str.ofString "__getitem__") b.typeIs PyProof.Rows.slot_tuple_getitem
  (wpAny_call_entry PyProof.Rows.slot_tuple_getitem b.typeIs entry_tuple_getitem ?_ (args_tuple_getitem _ _)))
 show wpAny _ _ (Builtin.Tuple.tupleItemsOf (.ref t) >>= _) _ _ s;refine BP (tupleItemsOf_ b ?_);refine BP (wpAny_typeOf c ?_);rw[if_pos (by decide)];refine BP (fL f i j ?_);have a:(((sIx items.size 0 lo:Nat):Int)==0&&(1:Int)==1&&(sIx items.size items.size hi-sIx items.size 0 lo)==items.size)=true:=by rw[k,m];simp
 show wpAny _ _ (if (((sIx items.size 0 lo:Nat):Int)==0&&(1:Int)==1&&(sIx items.size items.size hi-sIx items.size 0 lo)==items.size)=true then _ else _) _ _ s;rw[if_pos a];unfold Builtin.Tuple.tupleIsExact;refine BP (BP (wpAny_typeOf b.typeIs (BS ?_)));rw[if_pos (by decide)];refine BP (wpAny_rule (BS ⟨_,rfl,BS h⟩))
end HTW
section
variable {X:Cx}
theorem tW {xs:LV}{lo hi:Option Int}(a:HT.sIx xs.length 0 lo=0) (b:HT.sIx xs.length xs.length hi=xs.length):cM xs lo hi=xs:=by
 unfold cM;rw[a,b,List.drop_zero,Nat.sub_zero,Cd (BR _)]
def Bx:V->Option Int->Option Int->Hp->VK->Prop:=λx lo hi H Q=>∃a xs,x=.ref a/\H a=some (.tup xs)/\∀p H',Same H H'->H' p=some (.tup (cM xs lo hi))->Q (.ref p) H'
theorem qN:SlR X Bx:=by
 intro e s w H x v t u l o z Q I n j i m h;obtain⟨a,c,rfl,g,q⟩:=h;by_cases d:HT.sIx c.length 0 l=0/\HT.sIx c.length c.length o=c.length
 ·cases n;obtain⟨f,r,k,A⟩:=I.tuple (.of g);have b:f.toArray.size=c.length:=by rw[Cq];exact r.length.symm
  refine⟨"tuple",_,PyProof.Rows.slot_tuple_getitem.lookup,k.typeIs,?_⟩;refine HTW.getItem_tuple_whole k j i m (by rw[b];exact d.1) (by rw[b];exact d.2) ?_;exact⟨.ref a,H,I,rfl,q a H (Same.refl H) (by rw[tW d.1 d.2];exact g)⟩
 ·exact tV e s w H _ v t u l o z Q I n j i m ⟨a,c,rfl,.of g,d,λp y=>q p _ (Same.new y) ae⟩
def zX:R2:=λx y H Q=>∃a b xs ys,x=.ref a/\y=.ref b/\H a=some (.tup xs)/\H b=some (.tup ys)/\xs.length+ys.length<=sizeLine/\∀p H',Same H H'->H' p=some (.tup (xs++ys))->Q (.ref p) H'
theorem fT:OpR X (binaryOp .Add) zX:=by
 intro c s k H x y v u Q I i m h;obtain⟨a,b,j,n,rfl,rfl,d,f,g,q⟩:=h;refine vT X.K rfl c s k H _ _ v u Q I i m ⟨a,b,j,n,rfl,rfl,.of d,.of f,g,λe=>q b H (Same.refl H) (by rw[e];exact f),λ_ e=>q a H (Same.refl H) (by rw[e,CB];exact d),λ_ _ p l=>q p _ (Same.new l) ae⟩
end
end L2
namespace L2
open PySem PySem.Spec PyProof.Rows
section
variable {X:Cx}{e e':Expr}{te te':TE}
theorem p1 (a:PE X e te) (b:autoParam (starEach [e] X.env=(false,eval e X.env)::starEach [] X.env) aR9):PA X [e] (nh te rJ):=ak a cj b
theorem p2 (b:PE X e te) (d:PE X e' te') (c:autoParam (starEach [e,e'] X.env=(false,eval e X.env)::starEach [e'] X.env) aR9) (a:autoParam (starEach [e'] X.env=(false,eval e' X.env)::starEach [] X.env) aR9):PA X [e,e'] (nh te (nh te' rJ)):=ak b (ak d cj a) c
theorem px (K:W.Frag) (f:Room k X.A) (b:PE X e te) (a:PE X e' te') (c:pR e':=by exact λ_ _=>rfl) (d:autoParam (X.K=K) aR9):PE X (.Subscript e e' pos) (tOp (λx y H Q=>IxX K H x y Q) te te'):=rC (ix_X K f.units d) b a c
theorem pc (c:Cal X.prog X.w X.K X.mg X.base k x ps sp) (g:Room j X.A) (b:PA X (e::es) t) (a:autoParam (k<=j) aD9) (d:Gl X x:=by exact rfl)
    (f:autoParam (starEach (e::es) X.env=(false,eval e X.env)::starEach es X.env) aR9) (hpl:autoParam ((backTo pos (starEach es X.env)).any (·.1)=false) aR9) (hdb:autoParam ((x==("__debug__":Str))=false) aD9) :
    PE X (.Call (.Name x p) (e::es) [] pos) (mZ sp [] E0 t):=oQ c (g.mono a) d b f hpl hdb
theorem pst (i:Nat) (b:X.N.Nodup) (he:PE X e te) (a:autoParam (X.N[i]? = some x) aR9) (f:Loc X.env.scope x:=by exact Or.inl rfl) (c:autoParam (swapsWith e (some (.Name x z)) pos.line X.env=pure false) aR9)
    (d:X.fn x=true∨X.env.scope.names.lookup x=some .local:=by first | exact .inl rfl | exact .inr rfl | assumption):PS X (.Assign [.Name x z] e pos) (sr te (aX i)):=bW b a f he c d
end
theorem fsc (f:autoParam (z.kind=.function) aR9) (g:autoParam (z.isCoroutine=false) aR9) (c:autoParam (z.isGenerator=false) aR9) (a:N.Nodup:=by decide +kernel) (e:autoParam (N.take P.length=P) aR9)
    (b:∀x∈P,z.names.lookup x=some .local∨z.names.lookup x=some .cell:=by decide +kernel) (d:∀y∈z.names,y.2≠.free:=by decide +kernel):FnScope N P z:=⟨f,g,c,a,e,b,d⟩
section
variable {P:Program}{w:World}{K:W.Frag}{mg:MS}{base:Heap}{x qual:Str}{st:Stmt}{f:Addr}{fd:FuncData}{ps:LS}{k:Nat}{sp:Sp}
theorem Fun.ok1 (F:Fun K x qual st f fd) (N:LS)
    (a:∀ {G:Value} {A:Around} {z:List Env} {s:Shared} {vs:LV},N.Nodup->∀(H:Hp) (Q:VK) (E:XK),Room k (A.deeper (envOfC qual (au st) s.heap.objs.size f G))->sp vs H Q E ->
     ∃t,PSs (bo CX0 P w K mg base N qual (au st) f G A z s H E).nox (bY st) t/\t { nx:=λ_ H'=>Q .non H',rt:=Q } (start N vs) H)
    (S:FnScope N ps (au st):=by exact fsc) (b:∀vs H Q E,sp vs H Q E->vs.length=ps.length:=by intro vs H Q E h;repeat (first | (obtain⟨rfl,_⟩:=h;rfl) | obtain⟨_,h⟩:=h)):FnOk P w K mg base CX0 (k+1) f fd ps sp :=
 F.ok S b λ_ _ _ _ H _ Q E c h=>a S.nd H Q E c h
theorem Fun.ok2 (F:Fun K x qual st f fd) (N:LS)
    (a:∀ {G:Value} {A:Around} {z:List Env} {s:Shared} {vs:LV},N.Nodup->∀(H:Hp) (Q:VK) (E:XK),Room k (A.deeper (envOfC qual (au st) s.heap.objs.size f G))->sp vs H Q E ->
     ∃t,PSs (bo (CX1 P w) P w K mg base N qual (au st) f G A z s H E) (bY st) t/\t { nx:=λ_ H'=>Q .non H',rt:=Q } (start N vs) H)
    (S:FnScope N ps (au st):=by exact fsc) (b:∀vs H Q E,sp vs H Q E->vs.length=ps.length:=by intro vs H Q E h;repeat (first | (obtain⟨rfl,_⟩:=h;rfl) | obtain⟨_,h⟩:=h)):FnOk P w K mg base (CX1 P w) (k+1) f fd ps sp :=
 F.okX S b λ_ _ _ _ H _ Q E c h=>a S.nd H Q E c h
end
theorem szl (n:Nat) (h:autoParam (n<=sizeLine) aD9):n<=sizeLine:=h
@[elab_as_elim] theorem nw {M:Hp->Prop}(h:H a=none) (k:∀H',Same H H'->H' a=some o->M H'):M (upd H a o):=k _ (Same.new h) ae
example {H:Hp} {a:Addr} {xs:LV} {Q:V->Hp->Prop} (h:H a=none) (q:∀H',Same H H'->H' a=some (.lst xs)->Q .non H'):Q .non (upd H a (.lst xs)):=by
 refine nw h λH2 s2 e2=>?_;exact q H2 s2 e2
end L2
namespace L2
open PySem PySem.W PyProof.Rows
section
variable {lt:Nat->Nat->Bool}{N:Nat}
theorem gd {p:Array Nat}{i:Nat}:p.getD i 0=(p[i]?).getD 0:=by simp
end
end L2
namespace L2
open PySem PySem.Spec PyProof.Rows
section
variable {X:Cx}{elt iter:Expr}{ifs:List Expr}{scope:Scope}{pos px:Pos}{x:Str}{r:LS}{wi:TI}{tc:TT}{te:TE}
theorem cC (a:Scope) (e:LS) (d:List Nat) (x:Str) (r:LS) (h:PI X (.Name x px) iter wi) (l:∀ {I C z G ex},PTs (cxC X scope (x::r) I C z G ex) ifs tc) (he:∀ {I C z G ex},PE (cxC X scope (x::r) I C z G ex) elt te)
    (m:autoParam ((x::r).Nodup) aD9) (j:autoParam (X.calm=true) aR9) (f:∀ {I C z G ex},(cxC X scope (x::r) I C z G ex).env.scope.names.lookup x=some .local:=by intros;rfl)
    (k:∀x,foldedSetIterable iter X.env x=pure x:=by intro _;rfl) (b:autoParam (X.env.scope=a) aR9) (c:autoParam (X.N=e) aR9) (g:ig a scope e [x] d (x::r)=true:=by decide +kernel) :
    PE X (.ListComp elt [⟨.Name x px,iter,ifs,0⟩] scope pos) (rE 1 d wi (aX 0) tc te) :=
 iY a e [x] d (x::r) j h (λ_ _ _ _ _=>am (i:=0) m rfl (Or.inl f) (Or.inr f)) (λ_ _ _ _ _=>l) (λ_ _ _ _ _=>he) k b c g
end
end L2
namespace K48
open PySem L2
def top (i:Nat):Stmt:=PySem.Challenge.pw_orderkeep_k48_ties_kept.main.body.getD i (.Pass ⟨0,0,0,0⟩)
abbrev kR:Stmt:=top 14
abbrev kH:Stmt:=top 16
abbrev iX:Stmt:=top 17
abbrev kZ:Stmt:=top 18
abbrev jJ:Stmt:=top 22
abbrev kT:Stmt:=top 23
abbrev AW:Stmt:=top 24
abbrev lB:Stmt:=top 25
abbrev mm:Stmt:=top 26
abbrev ko:Stmt:=top 27
abbrev tJ:Stmt:=top 28
abbrev qB:Stmt:=top 30
abbrev lY:Stmt:=top 33
abbrev nF:Stmt:=top 35
abbrev tx:Stmt:=top 36
abbrev kz:Stmt:=top 38
abbrev lN:Stmt:=top 39
abbrev xH:Stmt:=top 41
abbrev fq:Stmt:=top 42
abbrev gv:Stmt:=top 43
abbrev lA:Stmt:=top 44
abbrev kL:Stmt:=top 46
abbrev gk:Stmt:=top 49
abbrev qk:Stmt:=top 50
abbrev jH:Stmt:=top 54
abbrev nT:Stmt:=top 56
abbrev jq:Stmt:=top 62
abbrev ii:Stmt:=top 70
abbrev rf:Stmt:=top 71
abbrev ny:Stmt:=top 72
abbrev qW:Stmt:=top 73
abbrev hX:Stmt:=top 75
abbrev hV:Stmt:=top 77
abbrev tR:Stmt:=top 78
abbrev qv:Stmt:=top 80
abbrev kK:Stmt:=top 82
abbrev kE:Stmt:=top 90
abbrev ir:Stmt:=top 92
abbrev vk:Stmt:=top 98
abbrev lU:Stmt:=top 100
abbrev mG:Stmt:=top 102
abbrev nJ:Stmt:=top 106
abbrev lV:Stmt:=top 107
abbrev rj:Stmt:=top 114
abbrev qa:Stmt:=top 115
abbrev ie:Stmt:=top 116
abbrev oJ:Stmt:=top 117
abbrev ic:Stmt:=top 118
abbrev As:Stmt:=top 120
abbrev ya:Stmt:=top 121
abbrev nL:Stmt:=top 122
abbrev im:Stmt:=top 123
abbrev jn:Stmt:=top 124
abbrev nk:Stmt:=top 125
abbrev mJ:Stmt:=top 126
abbrev oD:Stmt:=top 127
abbrev lW:Stmt:=top 128
abbrev oB:Stmt:=top 129
abbrev jv:Stmt:=top 130
abbrev jo:Stmt:=top 131
abbrev iS:Stmt:=top 132
abbrev oU:Stmt:=top 133
abbrev xJ:Stmt:=top 134
abbrev oj:Stmt:=top 135
abbrev fi:Stmt:=BH (top 2) 0
section
variable {P:Program}{w:World}{K:W.Frag}{mg:MS}{base:Heap}
def uY (K:W.Frag):Sp:=λvs H Q _=>∃(a:_) (ns:List Int),vs=[.ref a]/\SqL K H a (ns.map V.int)/\∀p H',DPen K H' p a->Q (.ref p) H'
theorem zU (F:Fun K "_law_pen" "_law_pen" As f fd) (B:Blt mg):FnOk P w K mg base CX0 1 f fd ["_law_script"] (uY K):=by
 refine F.ok1 ["_law_script"] λg H Q E e h=>?_;obtain⟨a,i,rfl,c,k⟩:=h;refine⟨_,(af (ao (qI (hG aA (pv 0) (hG aA ac (hG aA ac qh))) rfl rfl (by simp) (by decide)))),?_⟩;refine λp b=>⟨_,rfl,?_⟩
 refine⟨ae,dD a 0 0,rfl,(by show 3<=15;decide),?_⟩;have d:Same H (upd (upd H p (.dK [])) p (.dK (eg [] (dD a 0 0)))):=by rw[lC];exact Same.new b
 exact k p _ (DPen.new c b d ⟨0,0,ae,by decide,by decide⟩)
theorem zH (h:SqL K H a xs) (e:H l=none):SqL K (upd H l o) a xs:=by
 have s:=Same.new (o:=o) e;rcases h with (h | ⟨ob,h⟩) | h
 ·exact .inl (.inl (s _ _ h))
 ·exact .inl (.inr ⟨ob,s _ _ h⟩)
 ·exact .inr h
theorem zh (F:Fun K "_law_draw" "_law_draw" ya f fd) (B:Blt mg):FnOk P w K mg base CX0 1 f fd ["_law_pen_here", "_law_many"] (iR K) := by
 refine F.ok1 ["_law_pen_here","_law_many","_law_found","_law_at","_law_cell","_law_number"] λu H Q E e h=>?_;obtain⟨p,a,m,rfl,⟨⟨ns,L⟩,i,n,t,O,J⟩,g,y,k⟩:=h;refine⟨_,(aa (aJ (ah iP (px K e (pv 0) aA) ac (aB _)) (aa (pst 2 u (aG ef (px K e (pv 0) aA) (pv 1)))
  (aa (cn (aG lv (px K e (pv 0) aA) (pv 1)) (cO (pv 0) aA (dy e.units)))
  (af (ao (pv 2))))) aw)
  (aa (pst 3 u (px K e (pv 0) aA))
  (aa (cn (aG aM (pv 3) ac) (cO (pv 0) aA (dy e.units)))
  (aa (pst 4 u ac)
  (aa (aJ (ah (wJ K e.units) (px K e (pv 0) aA) (aQ cj) (aB _)) (af (pst 4 u (px K e (px K e (pv 0) aA) (aG ef (pv 3) (bh K B (p1 (px K e (pv 0) aA))))))) aw)
  (aa (aJ (PW.pt (ck (ah ff (pv 3) (bh K B (p1 (px K e (pv 0) aA))) (aB _)) (bR (ah xU (rT B (p1 (pv 4))) (aG Bb ac ac) (aB _))))) (aa (cn (aG lv (rT B (p1 (pv 4))) (pv 1)) (cO (pv 0) aA (dy e.units)))
  (af (ao (aG ef (rT B (p1 (pv 4))) (pv 1))))) aw)
  (aa (pst 5 u (aG ef (aG gK (aG aM (aG aM (aG ef (pv 4) ac) (aG gK ac (pv 3))) ac) ac) ac))
  (aa (pst 5 u (aG ef (aG aM (aG aM (aG gK (pv 5) (pv 5)) (aG gK ac (pv 5))) (pv 3)) ac))
  (af (ao (aG ef (aG lv (pv 5) ac) (pv 1)))))))))))),?_⟩
 refine⟨_,rfl,.dic (no t) ⟨_,_,rfl,rfl,_,rfl,?_⟩⟩;refine av (λh=>?_) (λh=>?_)
 ·refine⟨_,rfl,.dic (no t) ⟨_,rfl,_,_,rfl,rfl,g,?_⟩⟩;refine⟨_,rfl,.dic (no t) ⟨_,rfl,_,_,rfl,rfl,⟨g,y⟩,?_⟩⟩;refine⟨_,rfl,.dic (tH t) ?_⟩;refine⟨_,rfl,?_⟩;exact k _ _ (Do _ (by omega)) (DI _ g) ⟨i,n / m,ae,O,Int.ediv_nonneg J (by omega)⟩ But.upd
 ·refine⟨_, rfl, .dic (zM t) ?_⟩;refine⟨_,rfl,.int ?_⟩;refine⟨_,rfl,.dic (zO t) ?_⟩;have l:(upd H p (.dK (dD a (i+1) n))) p=some (.dK (dD a (i+1) n)):=ae;have A:SqL K (upd H p (.dK (dD a (i+1) n))) a (ns.map V.int):=L _ But.upd;have z:But p H (upd H p (.dK (dD a (i+1) n))):=But.upd;generalize upd H p (.dK (dD a (i+1) n))=D at l A z ⊢;refine⟨_,rfl,.dic (km l) ⟨(szl 0),λC s=>⟨_,_,_,rfl,rfl,zH A s,ae,_,rfl,?_⟩⟩⟩;have G:p≠C:=ai l s;have d:(upd D C (.lst [])) p=some (.dK (dD a (i+1) n)):=by rw[ag G];exact l
  have o:But p H (upd D C (.lst [])):=z.trans (But.of_same (Same.new s));have q:SqL K (upd D C (.lst [])) a (ns.map V.int):=L _ o;generalize upd D C (.lst [])=R at d q o ⊢;have v:∀c:Int,0<=c->Q (.int (c % m)) R:=λc M=>k _ _ (Do _ (by omega)) (DI _ g) ⟨i+1,n,d,by omega,J⟩ o;refine av (λh=>?a) (λh=>?b)
  case' a =>
   have I:(0:Int)<((ns.map V.int).length:Nat):=by
    cases ns with
    | nil=>exact absurd h (by simp)
    | cons x r=>show (0:Int)<((r.map V.int).length+1:Nat);omega
   obtain⟨c,M⟩:=zB (ns:=ns) (j:=i % ((ns.map V.int).length:Nat)) (Do _ (by omega)) (DI _ I);refine⟨_,rfl,.dic (km d) ⟨_,rfl,_,rfl,.dic (km d) ⟨_,_,rfl,Or.inl ⟨_,q,rfl⟩,_,_,rfl,rfl,I,.lst q M ?_⟩⟩⟩
  all_goals
   refine⟨_,rfl,_,rfl,.dic (km d) ⟨_,_,rfl,Or.inl ⟨_,q,rfl⟩,.int ⟨_,rfl,?_⟩⟩⟩;refine av (λN=>?_) (λN=>?_)
   ·refine⟨_,rfl,_,rfl,_,_,rfl,rfl,⟨by decide,by decide,by decide⟩,_,_,rfl,rfl,_,rfl,?_⟩;refine av (λS=>?_) (λS=>?_)
    ·refine⟨_,rfl,_,rfl,_,rfl,_,_,rfl,rfl,⟨g,y⟩,?_⟩;refine⟨_,rfl,.dic (tH d) ?_⟩;refine⟨_,rfl,_,rfl,_,rfl,_,_,rfl,rfl,g,?_⟩;refine k _ _ (Do _ (by omega)) (DI _ g) ⟨i+1,_,ae,by omega,Int.ediv_nonneg (by split <;> omega) (by omega)⟩ (o.trans But.upd)
    ·refine⟨_,rfl,_,_,rfl,rfl,(by show (0:Int)<_;decide),_,rfl,_,_,rfl,rfl,.inl ⟨by decide,by decide⟩,.int (.int ⟨_,_,rfl,rfl,.inr ⟨by decide,by decide⟩,_,_,rfl,rfl,(by show (0:Int)<_;decide),?_⟩)⟩;refine⟨_,rfl,_,rfl,_,_,rfl,rfl,.inl (mf _),_,rfl,_,_,rfl,rfl,.inl ⟨by decide,by decide⟩,.int ⟨_,rfl,.int ⟨_,_,rfl,rfl,(by show (0:Int)<_;decide),?_⟩⟩⟩;refine⟨_,rfl,_,_,rfl,rfl,⟨by decide,by decide⟩,_,rfl,_,_,rfl,rfl,g,?_⟩;exact v _ (Int.ediv_nonneg (Do _ (by decide)) (by decide))
   ·refine⟨_,rfl,_,_,rfl,rfl,(by show (0:Int)<_;decide),_,rfl,_,_,rfl,rfl,.inl ⟨by decide,by decide⟩,.int (.int ⟨_,_,rfl,rfl,.inr ⟨by decide,by decide⟩,_,_,rfl,rfl,(by show (0:Int)<_;decide),?_⟩)⟩;refine⟨_,rfl,_,rfl,_,_,rfl,rfl,.inl (mf _),_,rfl,_,_,rfl,rfl,.inl ⟨by decide,by decide⟩,.int ⟨_,rfl,.int ⟨_,_,rfl,rfl,(by show (0:Int)<_;decide),?_⟩⟩⟩;refine⟨_,rfl,_,_,rfl,rfl,⟨by decide,by decide⟩,_,rfl,_,_,rfl,rfl,g,?_⟩;exact v _ (Int.ediv_nonneg (Do _ (by decide)) (by decide))
section
variable {g:TG}{tb:TS}{D:Ends}{R:VK}{σ:St}{H:Hp}
theorem cu {a:Addr}{xs:LV}(Pv:Nat -> St -> Hp -> Prop) (e:Pv 0 σ H) (d:∀i σ H, i <= xs.length -> Pv i σ H -> SqT K H a xs)
    (f:∀ {B:SH},∀i x σ H,xs[i]? = some x->Pv i σ H->g x σ H λσ2 H2=>tb { nx:=Pv (i+1),rt:=R,bk:=B,ct:=Pv (i+1) } σ2 H2) (b:∀σ H,Pv xs.length σ H->D.nx σ H) (c:autoParam (D.rt=R) aR9) :
    ∃W:Nat->Nat->SH,(∃m,W 0 m σ H)/\∀i m σ H,W i m σ H ->
     ((Itt K a).stop i H/\D.nx σ H)∨((Itt K a).go i H/\∃N:SH,(∀σ' H',N σ' H'->∃z,z<m/\W (i+1) z σ' H')/\∀x H',(Itt K a).yld i H x H'->g x σ H' λσ2 H2=>tb { D with nx:=N,ct:=N,bk:=D.nx } σ2 H2) :=
 yr Pv e d (λi x σ H h p=>c ▸ f i x σ H h p) b
theorem cI {a:Addr}{xs:LV}(Pv:Nat -> St -> Hp -> Prop) (e:Pv 0 σ H) (d:∀i σ H, i <= xs.length -> Pv i σ H -> SqL K H a xs)
    (f:∀ {B:SH},∀i x σ H,xs[i]? = some x->Pv i σ H->g x σ H λσ2 H2=>tb { nx:=Pv (i+1),rt:=R,bk:=B,ct:=Pv (i+1) } σ2 H2) (b:∀σ H,Pv xs.length σ H->D.nx σ H) (c:autoParam (D.rt=R) aR9) :
    ∃W:Nat->Nat->SH,(∃m,W 0 m σ H)/\∀i m σ H,W i m σ H ->
     ((Itl K a).stop i H/\D.nx σ H)∨((Itl K a).go i H/\∃N:SH,(∀σ' H',N σ' H'->∃z,z<m/\W (i+1) z σ' H')/\∀x H',(Itl K a).yld i H x H'->g x σ H' λσ2 H2=>tb { D with nx:=N,ct:=N,bk:=D.nx } σ2 H2) :=
 vN Pv e d (λi x σ H h p=>c ▸ f i x σ H h p) b
theorem fy {lo:Int}{n:Nat}(Pv:Nat -> St -> Hp -> Prop) (c:Pv 0 σ H)
    (d:∀ {B:SH},∀i σ H,i<n->Pv i σ H->g (.int (lo+i)) σ H λσ2 H2=>tb { nx:=Pv (i+1),rt:=R,bk:=B,ct:=Pv (i+1) } σ2 H2) (a:∀σ H,Pv n σ H->D.nx σ H) (b:autoParam (D.rt=R) aR9) :
    ∃W:Nat->Nat->SH,(∃m,W 0 m σ H)/\∀i m σ H,W i m σ H ->
     ((Itr lo n).stop i H/\D.nx σ H)∨((Itr lo n).go i H/\∃N:SH,(∀σ' H',N σ' H'->∃z,z<m/\W (i+1) z σ' H')/\∀x H',(Itr lo n).yld i H x H'->g x σ H' λσ2 H2=>tb { D with nx:=N,ct:=N,bk:=D.nx } σ2 H2) :=
 uh Pv c (λi σ H e p=>b ▸ d i σ H e p) a
end
theorem cW {z:LV}{ps:List (Str × Str)}(b:RepAll H z (ps.map aE)) {j:Nat}(g:z[j]? = some x):∃e ta,ps[j]? = some e/\x=.ref ta/\H ta=some (.tup [.str e.1,.str e.2]):=by
 obtain⟨d,a,rd⟩:=b.get g;rw[Ce] at a;cases q:ps[j]? with
 | none=>rw[q] at a;cases a
 | some e =>
  rw[q] at a;have a:aE e=d:=BV a;rw[<- a] at rd;obtain⟨ta,c,f⟩:=fE rd;exact⟨e,ta,rfl,c,f⟩
theorem bp {ss:LS}{i:Nat}(h:(List.map V.str ss)[i]? = some x):∃s,ss[i]? = some s/\V.str s=x:=by
 rw[Ce] at h;cases q:ss[i]? with
 | none=>rw[q] at h;cases h
 | some e=>rw[q] at h;exact⟨e,rfl,BV h⟩
theorem at0 {α:Type}{y:α}{r:List α}:atI (y::r) 0=some y:=bJ (j:=0) rfl
theorem at1 {α:Type}{x y:α}{r:List α}:atI (x::y::r) 1=some y:=bJ (j:=1) rfl
theorem xE {A B:SH}(a:x=.ref q) (c:SqT K H q [u,v]) (h:A ((σ.set 0 (some u)).set 1 (some v)) H) :
    wF K 2 (kj (aX 0) (kj (aX 1) wm)) x σ H λσ2 G=>sO σ2 G λb z=>if b=true then A σ2 z else B σ2 z:=by
 subst a;refine⟨q,_,rfl,c,rfl,_,_,rfl,_,_,rfl,rfl,?_⟩;show (if true=true then A ((σ.set 0 (some u)).set 1 (some v)) H else B ((σ.set 0 (some u)).set 1 (some v)) H);rw[if_pos rfl];exact h
def Al:Sp:=λvs H Q _=>∃z:Str,vs=[.str z]/\Nm z/\∀H',Same H H'->Q (.bl true) H'
theorem oh (s:Same H H') (h:H D=none):Same H (upd H' D o):=λb u e=>by
 rw[ag (ai e h)];exact s b u e
theorem lg:∀n,(List.replicate n true).all id=true
 | 0=>rfl
 | n+1=>lg n
theorem nA:List.map V.bl (List.replicate n true)++[V.bl true]=List.map V.bl (List.replicate (n+1) true):=by
 rw[List.replicate_succ',BX];rfl
theorem uT (F:Fun K "is_name" "is_name" kR f fd) (B:Blt mg) (T:mg "MOST_SIGNS"=some (.int 8 tk)):FnOk P w K mg base CX0 1 f fd ["thing"] Al := by
 refine F.ok1 ["thing"] λN H Q E L h=>?_;obtain⟨z,rfl,u,k⟩:=h;obtain⟨C,y,r⟩:=u;have g:z.length<=sizeLine:=Cn y (by decide);obtain⟨t,x,q,_⟩:=ol (K:=K) (H:=H) (.str g);refine⟨_,(aa (aJ (gI (dF (kg K "str" B (p2 (pv 0) (rH B))))) (af aN) aw)
  (aa (aJ (PW.pt (gW (ah ff (bh K B (p1 (pv 0))) ac (aB _)) (gE (ah iP (bh K B (p1 (pv 0))) (eK (v:=.int 8) rfl T ⟨_,rfl⟩) (aB _))))) (af aN) aw)
  (af (ao (xF rfl B (p1 (cC (au kR) ["thing"] [] "sign" [] (zR (pv 0)) cS (wX ur ur aA (pv 0) aA)))))))),?_⟩
 refine⟨_,rfl,_,t,_,rfl,x,q,_,rfl,av (λh=>by cases (show false=true from h)) λ_=>?_⟩;refine⟨_,rfl,_,_,rfl,⟨g,rfl⟩,.int ⟨_,rfl,av (λh=>absurd (Ch h) (by omega)) λ_=>?_⟩⟩;refine⟨_,rfl,_,_,rfl,⟨g,rfl⟩,_,_,rfl,rfl,_,rfl,av (λh=>absurd (Ch h) (by omega)) λ_=>?_⟩;refine⟨_,rfl,z,rfl,?_⟩
 let j:Addr->Nat->LV->SH:=λD i b d l=>∃o,d=[o]/\b=List.map V.bl (List.replicate i true)/\Same H l/\H D=none
 refine wB j λD p=>⟨⟨none,rfl,rfl,Same.new p,p⟩,?_,?_⟩
 ·rintro i b d l c n ⟨o,rfl,rfl,m,e⟩ a;have G:=(BU.mp n).1;have I:z.cps.toList.length=z.length:=by simp[Str.length]
  obtain⟨M,J⟩:=r c (BW n);have s:(!decide ((⟨#[c]⟩:Str).cps.toList<("a":Str).cps.toList))=true:=by
   show (!decide ([c]<[97]))=_;rw[uD,Ct (by omega)];rfl
  have A:(!decide (("z":Str).cps.toList<(⟨#[c]⟩:Str).cps.toList))=true:=by
   show (!decide ([122]<[c]))=_;rw[uD,Ct (by omega)];rfl
  refine ip ⟨_,rfl,.str ⟨_,rfl,?_⟩⟩;rw[s];refine iJ (.str ?_);rw[A];exact⟨a,by rw[BQ,List.length_replicate];exact aj (by omega),_,rfl,nA,oh m e,e⟩
 ·rintro b d l ⟨o,rfl,rfl,m,e⟩ a;refine⟨D,_,rfl,a,?_⟩;rw[lg];exact k l m
structure Dd (H:Hp) (t:Addr) (wd u v:Str):Prop where
 at_:H t=some (.tup [.str wd,.str u,.str v])
 hw:wd="tie"∨wd="wait"
 nu:Nm u
 nv:Nm v
theorem Dd.same (h:Dd H t wd u v) (s:Same H H'):Dd H' t wd u v:=⟨s _ _ h.at_,h.hw,h.nu,h.nv⟩
def spD (b:Bool):Sp:=λvs H Q _=>∃t wd u v,vs=[.ref t]/\Dd H t wd u v/\∀H',Same H H'->Q (.bl b) H'
theorem Bm (F:Fun K "has_word" "has_word" ny f fd) (B:Blt mg):FnOk P w K mg base CX0 1 f fd ["thing"] (spD true):=by
 refine F.ok1 ["thing"] λn H Q E j h=>?_;obtain⟨x,d,u,v,rfl,D,k⟩:=h;obtain⟨t,i,_,_,_,_,b⟩:=ol (K:=K) (Thg.tup D.at_);have m:d.length<=sizeLine:=by rcases D.hw with e | e <;> rw[e] <;> decide
 obtain⟨g,a,c,_⟩:=ol (K:=K) (H:=H) (.str m);refine⟨_,(af (ao (uP (kg K "tuple" B (p2 (pv 0) (qw B))) (uP (lh iP (bh K B (p1 (pv 0))) ac (aB _)) (Av (kg K "str" B (p2 (px K j (pv 0) ac) (rH B)))))))),?_⟩;have l:isT H (.ref x)=true:=by show (match H x with | some (.tup _)=>true | _=>false)=true;rw[D.at_]
 rw[l] at b;refine⟨_,rfl,_,t,_,rfl,i,b,_,rfl,iJ ⟨_,rfl,_,_,rfl,Or.inr ⟨_,.of D.at_,rfl⟩,_,_,rfl,rfl,_,rfl,av (λ_=>?_) λh=>absurd rfl h⟩⟩;exact⟨_,rfl,.tup (.of D.at_) at0 ⟨_,g,_,rfl,a,c,k H (Same.refl H)⟩⟩
theorem BA (F:Fun K "is_many" "is_many" rf f fd) (B:Blt mg) (a:Cal P w K mg base 1 "has_word" ["thing"] (spD true)):FnOk P w K mg base CX0 2 f fd ["thing"] (spD false):=by
 refine F.ok1 ["thing"] λj H Q E b h=>?_;obtain⟨x,c,u,v,rfl,D,k⟩:=h;refine⟨_,(aa (aJ (PW.pt (gW (gI (dF (pc a b (p1 (pv 0))))) (gW (ah (cF b.units) (px K b (pv 0) ac) aA (aB _)) (gE (ah (cF b.units) (bh K B (p1 (pv 0))) ac (aB _)))))) (af (ao se)) aw)
  (af aN)),?_⟩
 have i:c≠"many":=by rcases D.hw with e | e <;> rw[e] <;> decide
 refine⟨_,rfl,x,c,u,v,rfl,D,λg d=>⟨_,rfl,cR ?_⟩⟩;refine⟨_,rfl,.tup (.of (D.same d).at_) at0 (.sc rfl ⟨_,rfl,?_⟩)⟩;refine av (λ_=>iJ (k g d)) λh=>absurd ?_ h;show (!decide (V.str c=V.str "many"))=true;rw[Ct λe=>i (V.str.inj e)];rfl
def tF:Sp:=λvs H Q _=>∃z:Str,vs=[.str "name",.str z]/\Nm z/\∀H',Same H H'->Q (.bl true) H'
theorem yA (F:Fun K "is_part" "is_part" qW f fd) (B:Blt mg) (a:Cal P w K mg base 1 "is_name" ["thing"] Al):FnOk P w K mg base CX0 4 f fd ["sort","part"] tF:=by
 refine F.ok1 ["sort","part"] λd H Q E b h=>?_;obtain⟨z,rfl,c,k⟩:=h;refine⟨_,(aa (aJ (ah (br b.units) (pv 0) aA (aB _)) (af aN) aw)
  (aa (aJ (ah (br b.units) (pv 0) aA (aB _)) (af aN) aw)
  (aa (aJ (PW.pt (ck (ah (br b.units) (pv 0) aA (aB _)) (ck (dF (kg K "str" B (p2 (pv 1) (rH B)))) (bR (ah (br b.units) (pv 1) aA (aB _)))))) (af aN) aw)
  (af (ao (pc a b (p1 (pv 1)))))))),?_⟩
 refine⟨_,rfl,.sc rfl ⟨_,rfl,av (λh=>absurd h (by decide)) λ_=>?_⟩⟩;refine⟨_,rfl,.sc rfl ⟨_,rfl,av (λh=>absurd h (by decide)) λ_=>?_⟩⟩;refine⟨_,rfl,.sc rfl ⟨_,rfl,av (λh=>absurd h (by decide)) λ_=>?_⟩⟩;exact cR ⟨_,rfl,z,rfl,c,k⟩
theorem ow:cM (x::xs) (some 1) none=xs:=by
 exact iI (x::xs) 1
theorem oR:¬ (HT.sIx (x::xs).length 0 (some 1)=0/\HT.sIx (x::xs).length (x::xs).length none=(x::xs).length):=λh=>by
 have h:=h.1;have e:HT.sIx (x::xs).length 0 (some ((1:Nat):Int))=min 1 (x::xs).length:=HT.sIx_nat _ _ _;have h:HT.sIx (x::xs).length 0 (some ((1:Nat):Int))=0:=h;rw[e,Cs] at h;omega
theorem zu (F:Fun K "is_single" "is_single" ii f fd) (B:Blt mg) (Zz:mg "zip"=none) (TP:mg "PARTS"=some (.ref J)) (T:KD P w K J vs) (VP:∀wd:Str, wd="tie" ∨ wd="wait" -> ∃b, valueAt vs (.inr wd)=some (.ref b) /\ ∀H, SqT K H b [.str "name", .str "name"])
    (c:Cal P w K mg base 1 "has_word" ["thing"] (spD true)) (d:Cal P w K mg base 4 "is_part" ["sort","part"] tF):FnOk P w K mg base CX0 5 f fd ["thing"] (spD true):=by
 refine F.ok1 ["thing","sorts"] λnd H Q E s h=>?_;obtain⟨a,wd,u,v,rfl,D,k⟩:=h;obtain⟨b,X,I⟩:=VP wd D.hw;refine⟨_,(aa (aJ (PW.pt (gW (gI (dF (pc c s (p1 (pv 0))))) (gE (ah (sS T) (px K s (pv 0) ac) (eK (v:=.ref J) rfl TP rfl) (by with_unfolding_all rfl))))) (af aN) aw)
  (aa (pst 1 nd (rC (xY T) (eK (v:=.ref J) rfl TP rfl) (px K s (pv 0) ac) (λ_ _=>rfl)))
  (aa (aJ (ah (cF s.units) (bh K B (p1 (pv 0))) (aG aM (bh K B (p1 (pv 1))) ac) (aB _)) (af aN) aw)
  (af (ao (xF rfl B (p1 (iY (au ii) ["thing","sorts"] ["sort","part"] [] ["sort","part"] rfl (sY K rfl Zz (p2 (pv 1) (bZ (kU K) (pv 0) (ce ac) cP))) (λ_ _ _ _ _=>(bT (n:=2) K rfl (aH (am (i:=0) (show (["sort","part"]:LS).Nodup by decide) rfl (Or.inl rfl)) (aH (am (i:=1) (show (["sort","part"]:LS).Nodup by decide) rfl (Or.inl rfl)) bN)))) (λ_ _ _ _ _=>cS) (λ_ _ _ _ _=>(pc d s (p2 (pv 0) (pv 1)))))))))))),?_⟩
 refine⟨_,rfl,a,wd,u,v,rfl,D,λH1 s1=>⟨_,rfl,cR ?_⟩⟩;have e:=(D.same s1).at_;refine⟨_,rfl,.tup (.of e) at0 ⟨.inr wd,rfl,rfl,_,rfl,?_⟩⟩;rw[X];refine cR ⟨_,rfl,.tup (.of e) at0 ⟨.inr wd,.ref b,.ref b,rfl,rfl,X,rfl,?_⟩⟩;refine⟨_,rfl,_,_,rfl,Or.inr ⟨_,.of e,rfl⟩,_,rfl,_,_,rfl,Or.inr ⟨_,I H1,rfl⟩,.int (.sc rfl ⟨_,rfl,av (λh=>absurd h (by show ¬ (!decide (V.int 3=V.int 3))=true;decide)) λ_=>?_⟩)⟩;refine⟨_,rfl,_,rfl,_,rfl,a,_,rfl,.of e,oR,λpp O=>?_⟩;rw[ow];refine nw O λN R S=>?_;have R:=s1.trans R;refine⟨b,pp,_,_,rfl,I N,.of S,?_⟩
 let r:Addr->Nat->LV->SH:=λD i j l G=>∃t C,l=[t,C]/\j=List.map V.bl (List.replicate i true)/\Same N G/\N D=none
 refine sR [.str "name",.str "name"] [.str u,.str v] r λD' W=>⟨?_,?_,?_,?_⟩
 ·exact⟨none,none,rfl,rfl,Same.new W,W⟩
 ·rintro i j l G _ ⟨t,C,rfl,_,M,_⟩ _;exact⟨I G,.of (M _ _ S)⟩
 ·rintro i j l G x y p U ⟨t,C,rfl,rfl,M,q⟩ g L;have il:i<2:=(BU.mp U).1;obtain⟨z,ez,hz⟩:∃z,(x,y)=(V.str "name",V.str z)/\Nm z:=by
   have m:=BW U;simp only[List.zip_cons_cons,List.zip_nil_right,Cm,List.not_mem_nil,or_false] at m;rcases m with m | m
   ·exact⟨u,m,D.nu⟩
   ·exact⟨v,m,D.nv⟩
  cases ez;have Y:=Same.new (o:=.tup [V.str "name",V.str z]) L;refine xE rfl (.of ae) ⟨_,rfl,_,rfl,z,rfl,hz,λZ A=>?_⟩;exact⟨A _ _ (Y _ _ g),by rw[BQ,List.length_replicate];exact aj (by omega),_,_,rfl,nA,oh ((M.trans Y).trans A) q,q⟩
 ·rintro j l Z ⟨t,C,rfl,rfl,A,q⟩ g;refine⟨D',_,rfl,g,?_⟩;rw[lg];exact k Z (R.trans A)
def An:Sp:=λvs H Q _=>∃t wd u v,vs=[.ref t,.int 2]/\Dd H t wd u v/\∀H',Same H H'->Q (.bl true) H'
theorem BG (F:Fun K "is_deed_within" "is_deed_within" ie f fd) (B:Blt mg) (c:Cal P w K mg base 2 "is_many" ["thing"] (spD false)) (b:Cal P w K mg base 5 "is_single" ["thing"] (spD true)):FnOk P w K mg base CX0 8 f fd ["thing","many"] An:=by
 refine F.ok1 ["thing","many"] λo H Q E e h=>?_;obtain⟨a,d,u,v,rfl,D,k⟩:=h;have i:5<=7:=by decide
 have m:2<=7:=by decide
 refine⟨_,(aa (aJ (gI (dF (oQ c (e.mono m) rfl (p1 (pv 0))))) (af (ao (oQ b (e.mono i) rfl (p1 (pv 0))))) aw)
  (af aN)),?_⟩
 exact⟨_,rfl,a,d,u,v,rfl,D,λn g=>⟨_,rfl,iJ ⟨_,rfl,a,d,u,v,rfl,D.same g,λl j=>k l (g.trans j)⟩⟩⟩
theorem yS (F:Fun K "is_deed" "is_deed" rj f fd) (B:Blt mg) (d:mg "MOST_MANY"=some (.int 2 tk)) (b:Cal P w K mg base 8 "is_deed_within" ["thing","many"] An):FnOk P w K mg base CX0 9 f fd ["thing"] (spD true):=by
 refine F.ok1 ["thing"] λg H Q E c h=>?_;obtain⟨a,e,u,v,rfl,D,k⟩:=h;refine⟨_,(af (ao (pc b c (p2 (pv 0) (eK (v:=.int 2) rfl d ⟨_,rfl⟩))))),?_⟩;exact⟨_,rfl,a,e,u,v,rfl,D,k⟩
abbrev letters:Str:="abcdefghijklmnopqrstuvwxyz"
theorem ap (h:k [] H):rJ σ H k:=h
theorem dA (h:k (σ.set i (some v)) H):aX i v σ H k:=h
theorem gF (Inv:SH) (b:∀σ' H',Inv σ' H'->r D σ' H') (a:∀N:SH,(∀σ' H',Inv σ' H'->N σ' H')->s { D with nx:=N } σ H):Be s r D σ H:=a _ b
theorem tO {xs:LV}{m:Nat}{r:Int}(c:xs.length=m) (b:0<=r) (d:r<m):∃x,atI xs r=some x/\x∈xs:=by
 obtain⟨j,rfl⟩:=CU b;have a:j<xs.length:=by omega
 exact⟨xs[j],bJ (Ci a),DS a⟩
def nmF (z:Str) (sp:Nat) (st r:Int) (i:Nat):Str:=Txt.slice z none (some (sp:Int))++⟨#[97+((st+7 * (0+(i:Int))) % 26).toNat]⟩++Txt.slice z (some (sp:Int)) none++(if i % 2=0 then ("":Str) else ⟨#[97+r.toNat]⟩)
theorem mid4 {x y w z:Str}{c d:Nat}(h:(x++⟨#[c]⟩++y++w:Str)=x++⟨#[d]⟩++y++z):c=d:=by
 have h:(x.cps++#[c]++y.cps++w.cps).toList=(x.cps++#[d]++y.cps++z.cps).toList:=congrArg (λs:Str=>s.cps.toList) h;simp only[Array.toList_append,DJ,List.append_cancel_left_eq] at h;have h:c::(y.cps.toList++w.cps.toList)=d::(y.cps.toList++z.cps.toList):=by simpa using h
 exact(List.cons.inj h).1
theorem AT {z:Str}{sp:Nat}{st r:Int}{m:Nat}(c:m<=26):((List.range m).map (nmF z sp st r)).Nodup:=nV _ m λi j a b e=>by
 have:=mid4 e;omega
theorem jc {z:Str}{j:Nat}(h:j<=z.length):(Txt.slice z (some (j:Int)) none).length<=z.length-j:=by
 have e:Txt.slice z (some (j:Int)) none=StrLaws.sliceText z (some (j:Int)) none:=rfl;rw[e,StrLaws.sliceText_from ⟨by omega,by simp[Str.length] at h ⊢;omega⟩];show (List.take _ _).toArray.size<=_;rw[Cq];simp[Str.length]
theorem Az {z:Str}{sp:Nat}{st r:Int}{i:Nat}(a:Lo z) (f:z.length <= 6) (d:sp <= z.length) (g:0 <= r) (k:r<26):Nm (nmF z sp st r i) := by
 have j:=Do (st+7 * (0+(i:Int))) (show (26:Int)≠0 by decide);have h:=DI (st+7 * (0+(i:Int))) (show (0:Int)<26 by decide);have e:=om d;have l:=jc d;have b:∀c:Nat,(⟨#[c]⟩:Str).length=1:=λ_=>rfl;unfold nmF;refine Lo.nm (((Lo.app (Lo.app (a.slice _ _) (Lo.one (by omega))) (a.slice _ _))).app ?_) ?_ ?_
 ·split
  ·exact Lo.nil
  ·exact Lo.one (by omega)
 ·rw[dB,dB,dB,b];omega
 ·rw[dB,dB,dB,b,e];have:(if i % 2=0 then ("":Str) else ⟨#[97+r.toNat]⟩).length<=1:=by
   split
   ·decide +kernel
   ·exact BR _
  omega
def qy (K:W.Frag):Sp:=λvs H Q _=>∃(p a:_) (m:Nat),vs=[.ref p,.int (m:Int)]/\DPen K H p a/\m<=13 /\
 ∀l ss H',ss.length=m->ss.Nodup->(∀s∈ss,Nm s)->H' l=some (.lst (List.map V.str ss))->H l=none->l≠p->DPV H' p a->But p H H'->Q (.ref l) H'
theorem wS (F:Fun K "_law_names" "_law_names" nL f fd) (B:Blt mg) (d:Cal P w K mg base 1 "_law_draw" ["_law_pen_here", "_law_many"] (iR K)):FnOk P w K mg base CX0 2 f fd ["_law_pen_here", "_law_many"] (qy K) := by
 refine F.ok1 ["_law_pen_here","_law_many","_law_letters","_law_base","_law_spot","_law_start","_law_more","_law_found","_law_k","_law_letter"] λM H Q E A h=>?_;obtain⟨p,a,m,rfl,S,hm,k⟩:=h;have v0:=S.2;have lL:letters.length<=sizeLine:=by decide +kernel
 refine⟨_,(aa (bW (i:=2) M rfl (Or.inr rfl) aA)
  (aa (pst 3 M (AG K aA (p1 (cC (au nL) ["_law_pen_here","_law_many","_law_letters","_law_base","_law_spot","_law_start","_law_more","_law_found","_law_k","_law_letter"] [2,0] "_law_k" ["_law_letters","_law_pen_here"] (dm rfl B.range (p1 (pc d A (p2 (pv 0) ac)))) cS (px K A (pv 1) (pc d A (p2 (pv 2) ac)))))))
  (aa (aJ (ah (br A.units) (pc d A (p2 (pv 0) ac)) ac (aB _)) (af (pst 3 M (px K A (aQ (ak aA (ak aA (ak aA (p2 aA aA iA iA) iA) iA) iA)) (pc d A (p2 (pv 0) ac))))) aw)
  (aa (pst 4 M (pc d A (p2 (pv 0) (aG aM (bh K B (p1 (pv 3))) ac))))
  (aa (pst 5 M (pc d A (p2 (pv 0) ac)))
  (aa (pst 6 M (aQ (p2 aA (px K A (pv 2) (pc d A (p2 (pv 0) ac))))))
  (aa (pst 7 M (aQ cj))
  (aa (bc PassesOwn.never rfl (dm rfl B.range (p1 (pv 1))) (am (i:=8) M rfl (Or.inl rfl)) (aa (pst 9 M (px K A (pv 2) (aG ef (aG aM (pv 5) (aG gK ac (pv 8))) ac)))
  (af (bi (cz K (pv 7) (p1 (aG aM (aG aM (aG aM (bZ (iD K) (pv 3) cP (ce (pv 4))) (pv 9)) (bZ (iD K) (pv 3) (ce (pv 4)) cP)) (px K A (pv 6) (aG ef (pv 8) ac)))))))))
  (af (ao (pv 7))))))))))),?_⟩
 refine⟨rfl,_,rfl,p,a,7,rfl,S,by decide,by decide,λr1 H1 c5 c8 v1 b1=>?_⟩;obtain⟨n1,rfl⟩:=CU c5;refine⟨_,rfl,by omega,by omega,?_⟩
 let a5:Addr->Nat->LV->SH:=λD i U t G=>∃o C,t=[o,some (.str letters),some (.ref p)]/\U=List.map V.str C/\C.length=i/\(∀y∈C,y.length=1/\Lo y)/\DPV G p a/\But p H1 G/\H1 D=none/\p≠D
 refine hW a5 λD hD=>⟨?_,?_,?_⟩
 ·have e:=v1.ne hD;exact⟨none,[],rfl,rfl,rfl,(λy g=>by cases g),v1.upd e,(But.refl p H1).at hD,hD,e⟩
 ·rintro i U t G hi ⟨o, C, rfl, rfl, hl, u, v, b, J, e⟩ l;refine ip ?_;refine⟨_,rfl,_,rfl,p,a,26,rfl,S.but (b1.trans b) v,by decide,by decide,λr5 H5 a9 a6 v5 I=>?_⟩;refine .str lL (nN a9 a6) ⟨I _ _ (Ne.symm e) l,?_,_,C++[abc r5],rfl,by simp[abc],by simp[hl],?_,v5.upd e,(b.trans I).at J,J,e⟩
  ·rw[BQ,hl];exact aj (by simp at hi;omega)
  ·intro y g;rcases Cb.mp g with g | g
   ·exact u y g
   ·have:y=abc r5:=by simpa using g
    subst this;exact⟨rfl,zN a9 a6⟩
 ·rintro U t H5 ⟨o, C, rfl, rfl, hl, u, v5, I, J, e⟩ l;have hj:Lo (Txt.join "" C):=Lo.join Lo.nil λy g=>(u y g).2;have yl:C.length<=6:=by simp at hl;omega
  have Z:(Txt.join "" C).length<=6:=by rw[vX λy g=>(u y g).1];exact yl
  have e0:("":Str).length=0:=by decide +kernel
  have a8:=Ar (n:=1) λy g=>Nat.le_of_eq (u y g).1;have c6:1000<=sizeLine:=by decide
  refine⟨_,D,C,rfl,rfl,l,by rw[e0];omega,?_⟩;have I:=b1.trans I;generalize Txt.join "" C=z at hj Z ⊢;clear l u hl a8 yl J e b1 v1;refine dA ?_;dsimp only;refine gF (λt G=>∃z,t=[some (.ref p),some (.int (m:Int)),some (.str letters),some (.str z),none,none,none,none,none,none]/\Lo z/\z.length<=6/\DPV G p a/\But p H G) ?_ ?_
  ·clear hj Z z v5 I;rintro t H6 ⟨z,rfl,hj,hz,v6,b6⟩;have zl:z.length<=sizeLine:=by omega
   refine⟨_,rfl,_,rfl,_,_,rfl,⟨zl,rfl⟩,.int ⟨p,a,_,rfl,S.but b6 v6,by omega,by omega,λr7 H7 c7 d3 v7 T=>?_⟩⟩;have T:=b6.trans T;refine⟨_,rfl,p,a,26,rfl,S.but T v7,by decide,by decide,λr8 H8 c9 d1 v8 Y=>?_⟩;have Y:=T.trans Y;refine⟨_,rfl,_,rfl,p,a,26,rfl,S.but Y v8,by decide,by decide,λr9 H9 b3 b2 v9 b9=>?_⟩;have b9:=Y.trans b9;refine .str lL (nN b3 b2) (ap ⟨(szl 2),λlm c2=>?_⟩);have d0:p≠lm:=v9.ne c2;refine nw c2 λd2 c3 b0=>?_;have a4:=v9.same c3;have c1:=b9.trans (But.of_same (p:=p) c3);refine⟨(szl 0),λfl a2=>?_⟩;have L:=a4.ne a2;have a1:=c1.free (Ne.symm L) a2;have c0:lm≠fl:=ai b0 a2;obtain⟨sp,rfl⟩:=CU c7;have X:sp<=z.length:=by omega
   refine⟨_,rfl,_,rfl,by omega,by omega,?_⟩
   let b4:Nat->SH:=λi σ G=>∃o8 o9,σ=[some (.ref p),some (.int (m:Int)),some (.str letters),some (.str z),some (.int (sp:Int)),some (.int r8),some (.ref lm),some (.ref fl),o8,o9]/\G fl=some (.lst (List.map V.str ((List.range i).map (nmF z sp r8 r9))))/\G lm=some (.lst [V.str "",V.str ⟨#[97+r9.toNat]⟩])/\DPV G p a/\But p H G
   refine fy (R:=Q) b4
    ⟨none,none,rfl,ae,by rw[ag c0];exact b0,a4.upd L,c1.at a1⟩ ?_ ?_
   ·rintro _ i σ a7 hi ⟨o8,o9,rfl,hf,O,a0,W⟩;have hi:i<m:=by simpa using hi
    refine⟨_,rfl,_,rfl,_,rfl,_,_,rfl,rfl,.inl ⟨by decide,by decide⟩,.int ⟨_,_,rfl,rfl,(by show (0:Int)<_;decide),?_⟩⟩;have q0:=Do (r8+7 * (0+(i:Nat):Int)) (show (26:Int)≠0 by decide);have q1:=DI (r8+7 * (0+(i:Nat):Int)) (show (0:Int)<26 by decide);refine .str lL (nN q0 q1) ?_;refine⟨_,rfl,.inl ⟨rfl,_,.of hf⟩,?_⟩;have l1:=om X;have l2:=jc X;have le:∀c:Nat,(⟨#[c]⟩:Str).length=1:=λ_=>rfl;have hx:atI [V.str "",V.str ⟨#[97+r9.toNat]⟩] ((0+(i:Int)) % 2)=some (.str (if i % 2=0 then ("":Str) else ⟨#[97+r9.toNat]⟩)):=by
     by_cases q:i % 2=0
     ·rw[if_pos q,show (0+(i:Int)) % 2=((0:Nat):Int) by omega];exact bJ rfl
     ·rw[if_neg q,show (0+(i:Int)) % 2=((1:Nat):Int) by omega];exact bJ rfl
    have l3:(if i % 2=0 then ("":Str) else ⟨#[97+r9.toNat]⟩).length<=1:=by
     split
     ·decide +kernel
     ·exact BR _
    refine⟨_,rfl,_,rfl,_,rfl,.str zl ⟨_,rfl,.str (by rw[le,l1];omega) ⟨_,rfl,_,rfl,_,rfl,.str zl (.str (by rw[dB,le,l1];omega) ⟨_,rfl,_,rfl,_,_,rfl,rfl,(by show (0:Int)<_;decide),.lst (.of O) hx (.str (by rw[dB,dB,le,l1];omega) (ap ⟨fl,_,_,rfl,rfl,hf,?_,?_⟩))⟩)⟩⟩⟩
    ·rw[BQ,BQ,Ee];exact aj (by omega)
    ·refine⟨_,_,rfl,?_,by rw[ag c0];exact O,a0.upd L,W.at a1⟩;rw[ae,sk,BX];rfl
   ·rintro σ a7 ⟨o8,o9,rfl,hf,_,a0,W⟩;exact⟨_,rfl,k fl _ a7 (by rw[BQ,Ee];omega) (AT (by omega)) (λs hs=>by
     obtain⟨j,_,rfl⟩:=BY.mp hs;exact Az hj hz X b3 b2) hf a1 (Ne.symm L) a0 W⟩
  ·intro N hN;refine⟨_,rfl,p,a,5,rfl,S.but I v5,by decide,by decide,λr6 H6 _ _ v6 b6=>.sc rfl ⟨_,rfl,av (λ_=>?_) (λ_=>?_)⟩⟩
   ·refine⟨(szl 5),λlz a3=>?_⟩;have c4:lz≠p:=Ne.symm (v6.ne a3);have s7:=Same.new (o:=.lst (List.map V.str ["tie","top","first","wait","group"])) a3;have e7:upd H6 lz (.lst (List.map V.str ["tie","top","first","wait","group"])) lz=some (.lst (List.map V.str ["tie","top","first","wait","group"])):=ae;have T:=(I.trans b6).trans (But.of_same (p:=p) s7);refine⟨_,rfl,p,a,5,rfl,S.but T (v6.same s7),by decide,by decide,λr H8 r0 r1 v8 Y=>?_⟩;obtain⟨x,hx,mx⟩:=tO (xs:=List.map V.str ["tie","top","first","wait","group"]) (m:=5) rfl r0 r1;obtain⟨y,g,rfl⟩:=BY.mp mx;refine .lst (.of (Y _ _ c4 e7)) hx (hN _ _ ⟨y,rfl,?_,?_,v8,T.trans Y⟩)
    ·have:∀y∈(["tie","top","first","wait","group"]:LS),∀c∈y.cps.toList,97<=c/\c<=122:=by decide +kernel
     exact this y g
    ·have:∀y∈(["tie","top","first","wait","group"]:LS),y.length<=6:=by decide +kernel
     exact this y g
   ·exact hN _ _ ⟨z,rfl,hj,Z,v6,I.trans b6⟩
theorem Bo {A B:SH}(a:x=.ref q) (c:SqL K H q [u,v]) (h:A ((σ.set 0 (some u)).set 1 (some v)) H) :
    Ah K 2 (kj (aX 0) (kj (aX 1) wm)) x σ H λσ2 G=>sO σ2 G λb z=>if b=true then A σ2 z else B σ2 z:=by
 subst a;refine⟨q,_,rfl,c,rfl,_,_,rfl,_,_,rfl,rfl,?_⟩;show (if true=true then A ((σ.set 0 (some u)).set 1 (some v)) H else B ((σ.set 0 (some u)).set 1 (some v)) H);rw[if_pos rfl];exact h
theorem oo {H:Hp}{D:Addr}{xs ys:LV}{ks:Kn}{z:LV}(a:H D=some (.lst xs)) (b:RepAll H z (ks.map bP)):RepAll (upd H D (.lst ys)) z (ks.map bP) :=
 aP (λh=>dh a But.upd h) b
def qZ (K:W.Frag):Sp:=λvs H Q _=>∃(p a n:_) (us:LS),vs=[.ref p,.ref n]/\DPen K H p a/\H n=some (.lst (List.map V.str us))/\us.Nodup/\(∀u∈us,Nm u)/\us.length<=60 /\
 ∀q ks H',Rep H' (.ref q) (cA ks)->Tre us ks->ks.head?.map (·.1)=some ("":Str)->DPV H' p a->But p H H'->Q (.ref q) H'
theorem vR (F:Fun K "_law_knots" "_law_knots" im f fd) (B:Blt mg) (l:Cal P w K mg base 1 "_law_draw" ["_law_pen_here", "_law_many"] (iR K)):FnOk P w K mg base CX0 2 f fd ["_law_pen_here", "_law_names_here"] (qZ K) := by
 refine F.ok1 ["_law_pen_here","_law_names_here","_law_knots_here","_law_deep","_law_name","_law_where"] λnd H Q E U h=>?_;obtain⟨p,a,n,us,rfl,hP,hn,c3,f1,e9,k⟩:=h;have v0:=hP.2;obtain⟨k1,i4⟩:=v0.at_dK;have f5:n≠p:=aZ hn i4 (by intro z;cases z);refine⟨_,(aa (pst 2 nd (aQ (p1 (aQ (p2 aA (aQ cj))))))
  (aa (pst 3 nd (qI (hG aA ac qh) rfl rfl (by simp) (by decide)))
  (aa (bc PassesOwn.never rfl (be K (pv 1)) (am (i:=4) nd rfl (Or.inl rfl)) (aa (pst 5 nd (px K U (pv 2) (pc l U (p2 (pv 0) (bh K B (p1 (pv 2)))))))
  (aa (bi (hB K (px K U (pv 5) ac) (p2 (pc l U (p2 (pv 0) (aG aM (bh K B (p1 (px K U (pv 5) ac))) ac))) (pv 4))))
  (af (aJ (PW.pt (ck (ah (br U.units) (pc l U (p2 (pv 0) ac)) ac (aB _)) (bR (ah ff (px K U (pv 3) (px K U (pv 5) ac)) ac (aB _))))) (aa (bi (cz K (pv 2) (p1 (aQ (p2 (pv 4) (aQ cj))))))
  (af (cn (aG aM (px K U (pv 3) (px K U (pv 5) ac)) ac) (cO (pv 3) (pv 4) (dy U.units))))) aw)))))
  (af (ao (cq K B (p1 (iY (au im) ["_law_pen_here","_law_names_here","_law_knots_here","_law_deep","_law_name","_law_where"] ["_law_name","_law_inside"] [] ["_law_name","_law_inside"] rfl (be K (pv 2)) (λ_ _ _ _ _=>(ze (n:=2) K rfl (aH (am (i:=0) (show (["_law_name","_law_inside"]:LS).Nodup by decide) rfl (Or.inl rfl)) (aH (am (i:=1) (show (["_law_name","_law_inside"]:LS).Nodup by decide) rfl (Or.inl rfl)) bN)))) (λ_ _ _ _ _=>cS) (λ_ _ _ _ _=>(aF (p2 (pv 0) (cq K B (p1 (pv 1)))))))))))))),?_⟩
 have nn:∀u∈us,u≠"":=λu hu z=>by have:=(f1 u hu).1;rw[z] at this;exact absurd this (by decide)
 refine⟨(szl 0),λl0 h0=>?_⟩;have b0:But p H (upd H l0 (.lst [])):=(But.refl p H).at h0;have e0:upd H l0 (.lst []) l0=some (.lst []):=ae;have v1:DPV (upd H l0 (.lst [])) p a:=v0.upd (v0.ne h0);generalize upd H l0 (.lst [])=H1 at b0 e0 v1 ⊢;refine ap ⟨(szl 2),λt0 i5=>?_⟩;refine nw i5 λH2 O et=>?_;have e0:=O _ _ e0;have v2:=v1.same O;have b2:=b0.trans (But.of_same (p:=p) O);refine ap ⟨(szl 1),λL hL=>?_⟩;refine nw hL λH3 s3 eL=>?_;have h9:l0≠L:=ai e0 hL;have g0:L≠p:=Ne.symm (v2.ne hL);have e0:=s3 _ _ e0;have et:=s3 _ _ et;have v3:=v2.same s3;have b3:=b2.trans (But.of_same (p:=p) s3);have c:KLL H3 L [(t0,l0,("",[]))]:=⟨eL,λq y=>by rw[Cr.mp y];exact et,λq y=>by rw[Cr.mp y];exact e0,by simp,λq y=>by rw[Cr.mp y];exact h9⟩
 intro D hD;refine⟨ae,[(.inr "",.int 0)],rfl,(by decide),?_⟩;rw[lC];have s4:=Same.new (o:=.dK (eg [] [((.inr "":Key),V.int 0)])) hD;have eD:upd H3 D (.dK (eg [] [((.inr "":Key),V.int 0)])) D=some (.dK [((.inr "":Key),V.int 0)]):=ae;have c:=c.same s4;have v4:=v3.same s4;have b4:=b3.trans (But.of_same (p:=p) s4);have W:D≠p:=Ne.symm (v3.ne hD);have hf:H D=none:=b3.free W hD;generalize upd H3 D (.dK (eg [] [((.inr "":Key),V.int 0)]))=H4 at eD c v4 b4 ⊢;have i0:H L=none:=b2.free g0 hL;refine⟨_,rfl,n,rfl,⟨_,.of (b4 n _ f5 hn)⟩,?_⟩
 let g2:Nat->SH:=λi σ H'=>∃(o5 o6:Option V) (g:KL) (A:KV_),σ=[some (.ref p),some (.ref n),some (.ref L),some (.ref D),o5,o6]/\KLL H' L g/\TrN us i (cH g)/\H' D=some (.dK A)/\A.length<=i+1/\g.length<=i+1/\(∀k∈cH g,∃m:Int,aD A (.inr k.1)=some (.int m))/\(∀q∈g,H q.2.1=none)/\(cH g).head?.map (·.1)=some ("":Str)/\DPV H' p a/\But p H H'
 refine cI (R:=Q) (xs:=List.map V.str us) g2 ?_ ?_ ?_ ?_
 ·refine⟨none,none,_,_,rfl,c,TrN.start,eD,BR _,BR _,λk J=>?_,λq y=>?_,rfl,v4,b4⟩
  ·rw[Cr.mp J];exact⟨0,rfl⟩
  ·rw[Cr.mp y];exact h0
 ·rintro i σ H' hi ⟨o5,o6,g,A,rfl,_,_,_,_,_,_,_,_,_,b⟩;exact .of (b n _ f5 hn)
 ·rintro _ i x σ H5 hx ⟨o5, o6, g, A, rfl, c, tr, e7, h6, c9, c0, frs, d9, v5, b5⟩;obtain⟨u,hu,rfl⟩:=bp hx;have i8:=(BU.mp hu).1;have i7:=BW hu;obtain⟨j9,g8⟩:=v5.at_dK;have d1:(g.map λq=>V.ref q.1).length=g.length:=BQ ..;have j3:0<g.length:=by
   have:=List.length_pos_of_mem tr.top;rw[BQ,BQ] at this;exact this
  refine⟨_,rfl,_,rfl,_,rfl,_,_,rfl,Or.inl ⟨_,.of c.l,rfl⟩,p,a,_,rfl,hP.but b5 v5,by rw[d1];omega,by rw[d1];omega,λr H6 h8 h4 v6 d5=>?_⟩;have c:=c.draw g8 d5;have g7:H6 D=some (.dK A):=d5 D _ W e7;have b6:=b5.trans d5;obtain⟨j,rfl⟩:=CU h8;rw[d1] at h4;obtain⟨⟨C,v,t,d⟩,hj⟩:∃q,g[j]? = some q:=⟨_,Ci (by omega)⟩
  have M:=BW hj;have Z:(cH g)[j]? = some (t,d):=by rw[Ce,hj];rfl
  have c7:=c.t _ M;have G:=c.c _ M;have i6:=c.nl _ M;refine .lst (.of c.l) (bJ (by rw[Ce,hj];rfl)) ?_;have k3:d.length<=i:=by
   have h1:=tr.perm.length_eq;rw[Ck] at h1;have h3:d.length<=(aT (cH g)).length:=by
    have:=(En (L:=(cH g).map (·.2)) (BY.mpr ⟨(t,d),BW Z,rfl⟩)).length_le;rw[<- List.flatMap_def] at this;exact this
   omega
  have a5:(List.map V.str d).length=d.length:=BQ ..;obtain⟨j4,h5⟩:=v6.at_dK;have a1:atI [V.str t,V.ref v] 1=some (.ref v):=bJ (j:=1) rfl;have a0:atI [V.str t,V.ref v] 0=some (.str t):=bJ (j:=0) rfl;refine⟨_,rfl,.lst (.of c7) a1 ⟨.inl ⟨rfl,_,.of G⟩,_,rfl,_,rfl,.lst (.of c7) a1 ⟨_,_,rfl,Or.inl ⟨_,.of G,rfl⟩,.int ⟨p,a,_,rfl,hP.but b6 v6,by rw[a5];omega,by rw[a5];omega,λr2 H7 i9 j0 v7 e3=>?_⟩⟩⟩⟩;have c:=c.draw h5 e3;have e4:H7 D=some (.dK A):=e3 D _ W g7;have b7:=b6.trans e3;have G:=c.c _ M;obtain⟨m,rfl⟩:=CU i9;rw[a5] at j0;refine⟨_,rfl,v,_,_,m,_,rfl,rfl,rfl,G,by rw[a5];omega,by rw[a5];exact aj (by omega),?_⟩;have e8:(List.map V.str d).take m++V.str u::(List.map V.str d).drop m=List.map V.str (d.take m++u::d.drop m):=by simp[DW,List.map_drop]
  rw[e8];have pc:=lQ d m u;have c2:=tr.step c3 hu Z pc;have c:=c.put (ch':=d.take m++u::d.drop m) hj;have c8:cH (g.set j (C,v,(t,d.take m++u::d.drop m)))=(cH g).set j (t,d.take m++u::d.drop m):=List.map_set ..;have a3:=c.t _ (BW (show (g.set j (C,v,(t,d.take m++u::d.drop m)))[j]? = some (C,v,(t,d.take m++u::d.drop m)) by rw[DX (by omega)]));rw[<- c8] at c2;have f6:upd H7 v (.lst (List.map V.str (d.take m++u::d.drop m))) D=some (.dK A):=by rw[ag (aZ e4 G (by intro z;cases z))];exact e4
  have j2:p≠v:=by obtain⟨j8,h7⟩:=v7.at_dK;exact aZ h7 G (by intro z;cases z)
  have v8:=v7.upd (o:=.lst (List.map V.str (d.take m++u::d.drop m))) j2;have b8:=b7.at (o:=.lst (List.map V.str (d.take m++u::d.drop m))) (frs _ M);generalize upd H7 v (.lst (List.map V.str (d.take m++u::d.drop m)))=H8 at c f6 v8 b8 a3 ⊢;have e1:((g.set j (C,v,(t,d.take m++u::d.drop m))).map λq=>q.2.1)=g.map λq=>q.2.1:=fR hj rfl;have en:((cH (g.set j (C,v,(t,d.take m++u::d.drop m)))).map λk=>k.1)=(cH g).map λk=>k.1:=by rw[c8];exact fR Z rfl
  have S:(cH (g.set j (C,v,(t,d.take m++u::d.drop m)))).head?.map (·.1)=some ("":Str):=by rw[<- List.head?_map,en,List.head?_map];exact d9
  have X:∀q∈g.set j (C,v,(t,d.take m++u::d.drop m)),H q.2.1=none:=λq y=>by
   have:q.2.1∈g.map λq=>q.2.1:=by rw[<- e1];exact BY.mpr ⟨q,y,rfl⟩
   obtain⟨q',i1,e⟩:=BY.mp this;rw[<- e];exact frs q' i1
  have a7:∀k∈cH (g.set j (C,v,(t,d.take m++u::d.drop m))),∃m:Int,aD A (.inr k.1)=some (.int m):=λk J=>by
   have:k.1∈(cH g).map λk=>k.1:=by rw[<- en];exact BY.mpr ⟨k,J,rfl⟩
   obtain⟨k',d8,e⟩:=BY.mp this;rw[<- e];exact c0 k' d8
  have c6:u∉(cH (g.set j (C,v,(t,d.take m++u::d.drop m)))).map (·.1):=λz=>by
   rw[en] at z;obtain⟨k',d8,e⟩:=BY.mp z;rcases tr.sub k' d8 with q | q
   ·exact nn u i7 (e.symm.trans q)
   ·rw[e] at q;obtain⟨m',d7⟩:=Cz q;have i3:=(BU.mp d7).1;rw[Ck] at i3;rw[DC (by omega)] at d7;have:=(Dz (by omega) c3).mp (d7.trans hu.symm);omega
  have d4:(g.set j (C,v,(t,d.take m++u::d.drop m))).length<=i+1:=by rw[List.length_set];exact c9
  obtain⟨lm,f9⟩:=c0 (t,d) (BW Z);have k2:atI [V.str t,V.ref v] 0=some (.str t):=a0;clear e8 c8 en e1 c0 frs Z hj M tr c7 G i6;generalize g.set j (C,v,(t,d.take m++u::d.drop m))=s at c c2 X a7 c6 d4 S;obtain⟨k0,f8⟩:=v8.at_dK;refine⟨_,rfl,p,a,4,rfl,hP.but b8 v8,by decide,by decide,λr3 H9 j7 j6 v9 b1=>.sc rfl ⟨_,rfl,?_⟩⟩;have c:=c.draw f8 b1;have d2:H9 D=some (.dK A):=b1 D _ W f6;have c5:H9 C=some (.lst [.str t,.ref v]):=b1 _ _ (aZ a3 f8 (by intro z;cases z)) a3;have b9:=b8.trans b1;have d0:∃(o5 o6:Option V) (g:KL) (A:KV_),[some (V.ref p),some (.ref n),some (.ref L),some (.ref D),some (.str u),some (.ref C)]=[some (V.ref p),some (.ref n),some (.ref L),some (.ref D),o5,o6]/\KLL H9 L g/\TrN us (i+1) (cH g)/\H9 D=some (.dK A)/\A.length<=i+1+1/\g.length<=i+1+1/\(∀k∈cH g,∃m:Int,aD A (.inr k.1)=some (.int m))/\(∀q∈g,H q.2.1=none)/\(cH g).head?.map (·.1)=some ("":Str)/\DPV H9 p a/\But p H H9 :=
   ⟨_,_,s,A,rfl,c,c2,d2,by omega,by omega,a7,X,S,v9,b9⟩
  refine av (λ_=>?_) (λ_=>cR d0);refine⟨_,rfl,_,rfl,.lst (.of c5) a0 (.dic (.inl ⟨A,.inr t,.inl d2,rfl,f9.symm⟩) (.int ⟨_,rfl,av (λ_=>?_) (λ_=>d0)⟩))⟩;clear d0;have i2:(s.map λq=>V.ref q.1).length=s.length:=BQ ..;refine⟨_,rfl,.inl ⟨rfl,_,.of c.l⟩,?_⟩;refine⟨_,rfl,(szl 0),λln a6=>ap ⟨(szl 2),λtn f3=>?_⟩⟩;have s1:=Same.new (o:=.lst []) a6;have el:upd H9 ln (.lst []) ln=some (.lst []):=ae;have j1:ln≠p:=Ne.symm (v9.ne a6);have g5:ln≠L:=Ne.symm (ai c.l a6);have g4:ln∉s.map λq=>q.2.1:=λz=>by
   obtain⟨q,y,e⟩:=BY.mp z;have:=c.c q y;rw[e,a6] at this;cases this
  have h2:H ln=none:=b9.free j1 a6;have c:=c.same s1;have e5:=s1 _ _ d2;have f4:=s1 _ _ c5;have vC:=v9.same s1;have bC:=b9.trans (But.of_same (p:=p) s1);generalize upd H9 ln (.lst [])=HC at el c e5 vC bC f3 f4 ⊢;refine nw f3 λHD O g6=>?_;have el:=O _ _ el;have c:=c.same O;have a4:=O _ _ e5;have f2:=O _ _ f4;have vD:=vC.same O;have bD:=bC.trans (But.of_same (p:=p) O);refine ap ⟨L,_,_,rfl,rfl,c.l,by rw[i2];exact aj (by omega),?_⟩;have c1:upd HD L (.lst ((s.map λq=>V.ref q.1)++[V.ref tn])) D=some (.dK A):=by rw[ag (aZ a4 c.l (by intro z;cases z))];exact a4
  have g1:upd HD L (.lst ((s.map λq=>V.ref q.1)++[V.ref tn])) C=some (.lst [.str t,.ref v]):=by rw[ag (aZ f2 c.l sH)];exact f2
  have vE:=vD.upd (o:=.lst ((s.map λq=>V.ref q.1)++[V.ref tn])) (Ne.symm g0);have bE:=bD.at (o:=.lst ((s.map λq=>V.ref q.1)++[V.ref tn])) i0;have c4:=c.add g6 el g4 g5;generalize upd HD L (.lst ((s.map λq=>V.ref q.1)++[V.ref tn]))=HE at c1 vE bE c4 g1 ⊢;refine⟨_,rfl,_,rfl,.lst (.of g1) a0 (.dic (.inl ⟨A,.inr t,.inl c1,rfl,f9.symm⟩) (.int ⟨_,rfl,_,rfl,.dic (DPut.k (k:=.inr u) c1 (aj (by omega))) ?_⟩))⟩;have f0:∀k:Str,(k=u∨∃m:Int,aD A (.inr k)=some (.int m))->∃m:Int,aD (bj A (.inr u) (.int (lm+1))) (.inr k)=some (.int m):=λk J=>by
   rw[cG];by_cases q:k=u
   ·rw[if_pos (by rw[q])];exact⟨_,rfl⟩
   ·rw[if_neg (λz=>q (by injection z))];exact J.resolve_left q
  have j5:=bw A (.inr u) (V.int (lm+1));have a2:cH (s++[(tn,ln,(u,[]))])=cH s++[(u,[])]:=BX;refine⟨_,_,s++[(tn,ln,(u,[]))],_,rfl,c4.dic c1,?_,ae,by omega,by rw[Cj];show s.length+1<=_;omega,λk J=>?_,λq y=>?_,?_,vE.upd (Ne.symm W),bE.at hf⟩
  ·rw[a2];exact c2.addKnot c3 nn hu c6
  ·rw[a2] at J;refine f0 k.1 ?_;rcases Cb.mp J with J | J
   ·exact .inr (a7 k J)
   ·rw[Cr.mp J];exact .inl rfl
  ·rcases Cb.mp y with y | y
   ·exact X q y
   ·rw[Cr.mp y];exact h2
  ·rw[a2];cases q:cH s with
   | nil=>rw[q] at S;cases S
   | cons x r=>rw[q] at S;exact S
 ·rintro σ H5 ⟨o5, o6, g, A, rfl, c, tr, e7, h6, c9, c0, frs, d9, v5, b5⟩;rw[BQ] at tr c9;have T:=tr.fin c3 f1 e9;refine⟨_,rfl,L,rfl,⟨_,.of c.l⟩,?_⟩
  let e6:Addr->Nat->LV->SH:=λDD i N a9 H'=>∃o1 o2,a9=[o1,o2]/\RepAll H' N (((cH g).take i).map bP)/\Same H5 H'/\H5 DD=none
  refine bU (g.map λq=>V.ref q.1) e6 λDD a4=>⟨?_,?_,?_,?_⟩
  ·exact⟨none,none,rfl,.nil,Same.new a4,a4⟩
  ·rintro i N a9 H' _ ⟨o1,o2,rfl,_,sm,_⟩ _;exact .of (sm _ _ c.l)
  ·rintro i N a9 H' x hx ⟨o1,o2,rfl,rp,sm,Y⟩ a8;obtain⟨⟨C,v,t,d⟩,y,rfl⟩:∃q:Addr × Addr × (Str × LS),g[i]? = some q/\V.ref q.1=x:=by
    rw[Ce] at hx;cases q:g[i]? with
    | none=>rw[q] at hx;cases hx
    | some e=>rw[q] at hx;exact⟨e,rfl,BV hx⟩
   have i8:=(BU.mp y).1;have g3:=BW y;have ht:=sm _ _ (c.t _ g3);have hc:=sm _ _ (c.c _ g3);have al:=rp.len;rw[BQ,Ck,BQ] at al;refine Bo rfl (.of ht) ?_;refine⟨_,rfl,_,rfl,v,_,rfl,.of hc,λlt g9=>ap ⟨(szl 2),λtt d3=>?_⟩⟩;revert d3;refine nw g9 λH6 s1 e1=>?_;intro d3;refine nw d3 λH7 O e2=>?_;have e1:=O _ _ e1;have d6:=s1.trans O;have I:=d6 _ _ a8;have f7:∀ {b:Addr} {o:HO},H7 b=some o->(∀xs,o≠.lst xs)->b≠DD:=λh n=>aZ h I (n _);refine⟨I,aj (by omega),_,_,rfl,?_,aV (sm.trans d6) Y,Y⟩;have J:(cH g)[i]? = some (t,d):=by rw[Ce,y];rfl
   rw[Cf,J,BX];refine RepAll.append ?_ (.cons (.tup (by rw[ag (f7 e2 (λ_ z=>by cases z))];exact e2) (.cons (.str _) (.cons (.tup (by rw[ag (f7 e1 (λ_ z=>by cases z))];exact e1) (RepAll.of_strs _)) .nil))) .nil);exact oo I (rp.same d6)
  ·rintro N a9 H6 ⟨o1,o2,rfl,rp,s6,Y⟩ a8;rw[BQ,Cd (by rw[BQ];exact BR _)] at rp;refine ap ⟨DD,N,rfl,.of a8,λq y=>?_⟩;have s7:=Same.new (o:=.tup N) y;exact k q (cH g) _ (.tup ae (rp.same s7)) T d9 (v5.same (s6.trans s7)) (b5.trans (But.of_same (s6.trans s7)))
def vm (g:Kn->Str->LS):Sp:=λvs H Q _=>∃kt us ks u,vs=[.ref kt,.str u]/\Rep H (.ref kt) (cA ks)/\Tre us ks/\u∈us/\∀l H',Same H H'->H l=none->H' l=some (.lst (List.map V.str (g ks u)))->Q (.ref l) H'
theorem xz (T:Tre us ks) (g:x∈us):∃r,(ks.filter λk=>decide (x∈k.2)).map (λk=>V.str k.1)=V.str (bq ks x)::r:=by
 obtain⟨k,f,c⟩:=T.has g;have a:k∈ks.filter λk=>decide (x∈k.2):=Cg.mpr ⟨f,Ca c⟩;cases q:ks.filter λk=>decide (x∈k.2) with
 | nil=>rw[q] at a;cases a
 | cons k' r =>
  have b:k'∈ks.filter λk=>decide (x∈k.2):=by rw[q];simp
  obtain⟨d,e⟩:=Cg.mp b;refine⟨r.map λk=>V.str k.1,?_⟩;rw[T.par d (Ch e)];rfl
theorem yZ (F:Fun K "_law_line" "_law_line" jn f fd) (B:Blt mg):FnOk P w K mg base CX0 1 f fd ["_law_knots_here", "_law_unit"] (vm λks u => tp (lin ks u)) := by
 refine F.ok1 ["_law_knots_here","_law_unit","_law_line_here"] λnd H Q E O h=>?_;obtain⟨kt,R,ks,u,rfl,rk,T,hu,k⟩:=h;obtain⟨_,L,e,a4,N⟩:=de rk;cases e;have kl:=N.len;rw[BQ] at kl;have a5:=T.few;refine⟨_,(aa (bW (i:=2) nd rfl (Or.inr rfl) (aQ (p1 (pv 1))))
  (aa (dM PassesOwn.never (ah (cF O.units) (px K O (pv 2) ac) aA (aB _)) (af (bi (hB K (pv 2) (p2 ac (px K O (iY (au jn) ["_law_knots_here","_law_unit","_law_line_here"] ["_law_name","_law_inside"] [2] ["_law_name","_law_inside","_law_line_here"] rfl (bf K (pv 0)) (λ_ _ _ _ _=>(bT (n:=2) K rfl (aH (am (i:=0) (show (["_law_name","_law_inside","_law_line_here"]:LS).Nodup by decide) rfl (Or.inl rfl)) (aH (am (i:=1) (show (["_law_name","_law_inside","_law_line_here"]:LS).Nodup by decide) rfl (Or.inl rfl)) bN)))) (λ_ _ _ _ _=>(bx (ah (bK K O.units) (px K O (pv 2) ac) (pv 1) (by with_unfolding_all rfl)))) (λ_ _ _ _ _=>(pv 0))) ac))))))
  (af (ao (pv 2))))),?_⟩
 refine⟨_,rfl,(szl 1),λp t=>?_⟩;have s0:=Same.new (o:=.lst [V.str u]) t
 let I:Nat->SH:=λm σ g=>∃(x:Str) (r:LS),m=rkU R x/\σ=[some (.ref kt),some (.str u),some (.ref p)]/\g p=some (.lst (List.map V.str (x::r)))/\(x=""∨x∈R)/\tp (lin ks u)=tp (lin ks x)++r/\Same H g
 refine⟨I,
  ⟨_,u,[],rfl,rfl,ae,.inr hu,(CB _).symm,s0⟩,?_⟩
 rintro m σ H1 ⟨x,r,rfl,rfl,c,A,d,Z⟩;have pl:=T.lin_len u (.inr hu);have a7:=T.rk60 hu;have S:=congrArg List.length d;rw[Cj,Cs,Cs] at S;refine⟨_,rfl,.lst (.of c) at0 (.sc rfl ⟨_,rfl,?_⟩)⟩;refine av (λh=>?_) (λh=>?_)
 ·have a0:x ≠ "" := λz => by rw[z] at h; exact absurd h (by decide)
  have A:=A.resolve_left a0;have a3:=T.rk A
  let M:SH:=λb g=>∃(y:Str) (r:LS),rkU R y<rkU R x/\b=[some (.ref kt),some (.str u),some (.ref p)]/\g p=some (.lst (List.map V.str (y::r)))/\(y=""∨y∈R)/\tp (lin ks u)=tp (lin ks y)++r/\Same H g
  refine⟨M,
   λb g ⟨y,r,h1,h2⟩=>⟨_,h1,y,r,rfl,h2⟩,?_⟩
  have s:=Z _ _ a4;refine⟨_,rfl,.inl ⟨rfl,_,.of c⟩,_,rfl,kt,rfl,⟨_,.of s⟩,?_⟩
  let G:Addr->Nat->LV->SH:=λD i j b g=>∃U Y,b=[U,Y,some (.ref p)]/\j=((ks.take i).filter λk=>decide (x∈k.2)).map (λk=>V.str k.1)/\Same H1 g/\H1 D=none
  refine cy L G λD hD=>⟨?_,?_,?_,?_⟩
  ·exact⟨none,none,rfl,rfl,Same.new hD,hD⟩
  ·rintro i j b g _ ⟨U,Y,rfl,_,C,_⟩ _;exact .of (C _ _ s)
  ·rintro i j b g v hv ⟨U,Y,rfl,rfl,C,l⟩ a;obtain⟨W,ta,la,J,rfl,a1,a2⟩:=eV (N.same (Z.trans C)) hv;have a6:=(BU.mp J).1;have fl:(((ks.take i).filter λk=>decide (x∈k.2)).map (λk=>V.str k.1)).length<=61:=by
    rw[BQ];refine Cn (CG ..) ?_;rw[Ck];omega
   refine⟨ta,_,rfl,.of a1,rfl,_,_,rfl,_,_,rfl,rfl,?_⟩;refine⟨_,rfl,.lst (.of (C _ _ c)) at0 ⟨_,rfl,.seq (.inr (.of a2)) rfl (cp _) ⟨_,rfl,?_⟩⟩⟩;show if inV (V.str x) (List.map V.str W.2)=true then _ else _
   rw[dU];have X:(ks.take (i+1)).filter (λk=>decide (x∈k.2))=(ks.take i).filter (λk=>decide (x∈k.2))++if decide (x∈W.2)=true then [W] else []:=by
    rw[Cf,J,CH];by_cases q:x∈W.2 <;> simp[q]
   refine av (λh=>?_) (λh=>?_)
   ·rw[if_pos h] at X;exact⟨_,rfl,a,aj (by omega),_,_,rfl,by rw[X,BX];rfl,aV C l,l⟩
   ·rw[if_neg h,CB] at X;exact⟨a,_,_,rfl,by rw[X],C,l⟩
  ·rintro j b H2 ⟨U,Y,rfl,rfl,s2,l⟩ a;rw[kl,Cd (BR _)] at a;obtain⟨rr,er⟩:=xz T A;rw[er] at a;refine .lst (.of a) at0 (ap ⟨p,_,_,0,_,rfl,rfl,rfl,s2 _ _ c,Cu _,by rw[BQ,Cs];exact aj (by omega),?_⟩);refine⟨bq ks x,x::r,a3,rfl,ae,(T.par_in A).1,?_,aV (Z.trans s2) t⟩;rw[d,T.lin A];show ("":Str)::(_++_)++_=("":Str)::_++_;simp
 ·have hz:x="":=Classical.byContradiction λz=>h (by rw[if_pos rfl,Ct (λq=>z (V.str.inj q))];rfl);subst hz;refine⟨_,rfl,k p _ Z t ?_⟩;show H1 p=some (.lst (List.map V.str (tp (lin ks u))));rw[d];exact c
theorem iF {ss:LS}{i:Nat}(h:i<ss.length):atI (List.map V.str ss) (i:Int)=some (.str (ss.getD i "")):=bJ (by simp[h,CA])
def eX:Sp:=λvs H Q _=>∃kt us ks u v,vs=[.ref kt,.str u,.str v]/\Rep H (.ref kt) (cA ks)/\Tre us ks/\u∈us/\v∈us/\∀x H',Same H H'->PrtV H' x (aI ks u v)->Q x H'
theorem xh (F:Fun K "_law_part" "_law_part" nk f fd) (B:Blt mg) (c:Cal P w K mg base 1 "_law_line" ["_law_knots_here", "_law_unit"] (vm λks u => tp (lin ks u))):FnOk P w K mg base CX0 2 f fd ["_law_knots_here", "_law_one", "_law_other"] eX := by
 refine F.ok1 ["_law_knots_here","_law_one","_law_other","_law_ones","_law_others","_law_k"] λC H Q E l h=>?_;obtain⟨d,Z,ks,u,v,rfl,Y,T,hu,hv,k⟩:=h;refine⟨_,(aa (pst 3 C (pc c l (p2 (pv 0) (pv 1))))
  (aa (pst 4 C (pc c l (p2 (pv 0) (pv 2))))
  (aa (pst 5 C ac)
  (aa (dM PassesOwn.never (PW.pt (ck (ah ff (pv 5) (yb rfl B (p2 (bh K B (p1 (pv 3))) (bh K B (p1 (pv 4))))) (aB _)) (bR (ah (br l.units) (px K l (pv 3) (pv 5)) (px K l (pv 4) (pv 5)) (aB _))))) (af (pst 5 C (aG aM (pv 5) ac))))
  (aa (aJ (ah (br l.units) (pv 5) (yb rfl B (p2 (bh K B (p1 (pv 3))) (bh K B (p1 (pv 4))))) (aB _)) (af (ao cm)) aw)
  (af (ao (aF (ak (px K l (pv 3) (aG nq (pv 5) ac)) (p2 (px K l (pv 3) (pv 5)) (px K l (pv 4) (pv 5)))))))))))),?_⟩
 refine⟨_,rfl,_,rfl,d,Z,ks,u,rfl,Y,T,hu,λla H1 s1 S J=>?_⟩;refine⟨_,rfl,_,rfl,d,Z,ks,v,rfl,Y.same s1,T,hv,λlb H2 X W g=>?_⟩;have e:=X _ _ J;have s:=s1.trans X;have L:(List.map V.str (tp (lin ks u))).length=(lin ks u).length+1:=by rw[BQ,Cs]
 have N:(List.map V.str (tp (lin ks v))).length=(lin ks v).length+1:=by rw[BQ,Cs]
 let p:Nat->SH:=λm σ D=>∃i:Nat,m=(lin ks u).length+2-i/\σ=[some (.ref d),some (.str u),some (.str v),some (.ref la),some (.ref lb),some (.int (i:Int))]/\i<=min ((lin ks u).length+1) ((lin ks v).length+1)/\Gon (lin ks u) (lin ks v) i/\D=H2
 refine⟨p,
  ⟨_,0,rfl,rfl,Cu _,.inl rfl,rfl⟩,?_⟩
 rintro m σ H3 ⟨i,rfl,rfl,hi,o,rfl⟩;have n:∀a b:Nat,(if ((b:Nat):Int)<((a:Nat):Int) then ((b:Nat):Int) else ((a:Nat):Int))=((min a b:Nat):Int):=λa b=>by split <;> omega
 refine⟨_,rfl,_,rfl,_,_,rfl,Or.inl ⟨_,.of e,rfl⟩,_,rfl,_,_,rfl,Or.inl ⟨_,.of g,rfl⟩,_,_,rfl,.int ⟨_,rfl,?_⟩⟩;rw[L,N,n];have mn:∀j,j<min ((lin ks u).length+1) ((lin ks v).length+1)->∃x y,(tp (lin ks u))[j]? = some x/\(tp (lin ks v))[j]? = some y:=λj hj =>
  ⟨_,_,Ci (by rw[Cs];omega),Ci (by rw[Cs];omega)⟩
 refine av (λh=>?_) (λh=>?_)
 ·have h:(i:Int)<((min ((lin ks u).length+1) ((lin ks v).length+1):Nat):Int) := Ch h;have hi:i<min ((lin ks u).length+1) ((lin ks v).length+1):=by omega
  obtain⟨x,y,M,I⟩:=mn i hi;have ax:atI (List.map V.str (tp (lin ks u))) (i:Int)=some (.str x):=bJ (by rw[Ce,M];rfl);have R:atI (List.map V.str (tp (lin ks v))) (i:Int)=some (.str y):=bJ (by rw[Ce,I];rfl);refine⟨_,rfl,_,rfl,.lst (.of e) ax ⟨_,rfl,_,rfl,.lst (.of g) R (.sc rfl ⟨_,rfl,?_⟩)⟩⟩;refine av (λA=>?_) (λA=>?_)
  ·have he:x=y:=Classical.byContradiction λz=>by rw[if_neg (by decide),Ct (λq=>z (V.str.inj q))] at A;cases A
   subst he;refine⟨λr D=>r=[some (.ref d),some (.str u),some (.str v),some (.ref la),some (.ref lb),some (.int ((i+1:Nat):Int))]/\D=H3,λr D ⟨U,O⟩=>⟨(lin ks u).length+2-(i+1),by omega,i+1,rfl,U,by omega,o.step M I,O⟩,?_⟩;exact⟨_,rfl,.int ⟨rfl,rfl⟩⟩
  ·have G:x ≠ y := λz => A (by rw[z, if_neg (by decide), Ca rfl]);obtain⟨U,hp⟩:=o.part M I G;refine⟨_,rfl,_,rfl,_,_,rfl,Or.inl ⟨_,.of e,rfl⟩,_,rfl,_,_,rfl,Or.inl ⟨_,.of g,rfl⟩,_,_,rfl,.sc rfl ⟨_,rfl,?_⟩⟩;rw[L,N,n];refine av (λh=>?_) (λ_=>?_)
   ·exfalso;have h:V.int (i:Int)=V.int ((min ((lin ks u).length+1) ((lin ks v).length+1):Nat):Int):=Ch h;have:=V.int.inj h;omega
   ·have aq:atI (List.map V.str (tp (lin ks u))) ((i:Int)-1)=some (.str ((tp (lin ks u)).getD (i-1) "")):=by
       rw[show (i:Int)-1=((i-1:Nat):Int) by omega];exact iF (by rw[Cs];omega)
    refine⟨_,rfl,_,rfl,_,_,rfl,rfl,.lst (.of e) aq ⟨_,rfl,_,rfl,.lst (.of e) ax ⟨_,rfl,_,rfl,.lst (.of g) R ⟨(szl 3),λt ht=>?_⟩⟩⟩⟩;refine k (.ref t) _ (s.trans (Same.new ht)) ?_;show PrtV _ _ (prt "" (lin ks u) (lin ks v));rw[hp];exact⟨t,rfl,ae⟩
 ·have h:¬ (i:Int)<((min ((lin ks u).length+1) ((lin ks v).length+1):Nat):Int):=λz=>h (Ca z);have hz:=o.stop (by omega);refine cR ?_;refine⟨_,rfl,_,rfl,_,_,rfl,Or.inl ⟨_,.of e,rfl⟩,_,rfl,_,_,rfl,Or.inl ⟨_,.of g,rfl⟩,_,_,rfl,.sc rfl ⟨_,rfl,?_⟩⟩;rw[L,N,n];refine av (λ_=>?_) (λO=>?_)
  ·refine k .non H3 s ?_;show PrtV _ _ (prt "" (lin ks u) (lin ks v));rw[hz];rfl
  ·exfalso;refine O ?_;rw[if_neg (by decide),decide_eq_true_iff];congr 1;omega
def jr:Sp:=λvs H Q _=>∃(wq refs:_) (ss:LS) (ts:List (Str × Str)) (one:_),vs=[.ref wq,.str one]/\H wq=some (.lst refs)/\RepAll H refs (ts.map aE)/\(∀e∈ts,e.1∈ss/\e.2∈ss)/\one∈ss/\ss.length<=60 /\
 ∀l (seen:LS) H',Same H H'->H l=none->H' l=some (.lst (List.map V.str seen))->(∀t,t∈seen ↔ MG.Rch (Tie ts) one t)->seen.length<=60->Q (.ref l) H'
theorem uo (F:Fun K "_law_reached" "_law_reached" oD f fd) (B:Blt mg):FnOk P w K mg base CX0 1 f fd ["_law_edges_here", "_law_one"] jr := by
 refine F.ok1 ["_law_edges_here","_law_one","_law_found","_law_at","_law_first","_law_other"] λnd H Q E hr h=>?_;obtain⟨wq,a7,ss,O,one,rfl,hb,rp,b1,a5,hn,k⟩:=h;refine⟨_,(aa (pst 2 nd (aQ (p1 (pv 1))))
  (aa (pst 3 nd ac)
  (aa (dM PassesOwn.never (ah ff (pv 3) (bh K B (p1 (pv 2))) (aB _)) (aa (bc PassesOwn.never rfl (be K (pv 0)) (bT (n:=2) K rfl (aH (am (i:=4) nd rfl (Or.inl rfl)) (aH (am (i:=5) nd rfl (Or.inl rfl)) bN))) (af (aJ (PW.pt (ck (ah (br hr.units) (pv 4) (px K hr (pv 2) (pv 3)) (aB _)) (bR (ah (cJ K hr.units) (pv 5) (pv 2) (by with_unfolding_all rfl))))) (af (bi (cz K (pv 2) (p1 (pv 5))))) aw)))
  (af (pst 3 nd (aG aM (pv 3) ac)))))
  (af (ao (pv 2)))))),?_⟩
 have Z:=rp.len;rw[BQ] at Z;refine⟨_,rfl,(szl 1),λY a0=>?_⟩;have a4:∀y,MG.Rch (Tie O) one y->y∈ss:=λy r=>MG.Rch.closed (S:=λy=>y∈ss) a5 (λa b _ r=>(b1 _ r).2) r
 let a1:Nat->SH:=λm σ M=>∃(l:Nat) (g:LS) (J I:Option V),m+l=ss.length/\σ=[some (.ref wq),some (.str one),some (.ref Y),some (.int ((l:Nat):Int)),J,I]/\Same H M/\M Y=some (.lst (List.map V.str g))/\g.Nodup/\(∀x∈g,MG.Rch (Tie O) one x)/\one∈g/\l<=g.length/\∀i x,i<l->g[i]? = some x->∀y,(x,y)∈O->y∈g
 refine⟨a1,
  ⟨ss.length,0,[one],none,none,by omega,rfl,Same.new a0,ae,by simp,(λx A=>(show x=one by simpa using A) ▸ MG.Rch.refl),by simp,by omega,λi x hi=>by omega⟩,?_⟩
 rintro m σ H1 ⟨l,g,J,I,hm,rfl,L,N,C,v,u,b3,s⟩;have b0:g.length<=ss.length:=C.length_le_of_subset λx A=>a4 x (v x A);have b4:(List.map V.str g).length=g.length:=BQ ..;refine⟨_,rfl,_,rfl,_,_,rfl,Or.inl ⟨_,.of N,rfl⟩,.int ⟨_,rfl,?_⟩⟩;refine av (λW=>?_) (λW=>?_)
 ·have W:(l:Int)<((List.map V.str g).length:Nat) := Ch W;have D:l<g.length:=by omega
  obtain⟨z,U⟩:∃z,g[l]? = some z:=⟨_,Ci D⟩
  have rz:=v z (BW U)
  let a2:SH:=λa3 M=>∃(g:LS) (J I:Option V),a3=[some (.ref wq),some (.str one),some (.ref Y),some (.int ((l+1:Nat):Int)),J,I]/\Same H M/\M Y=some (.lst (List.map V.str g))/\g.Nodup/\(∀x∈g,MG.Rch (Tie O) one x)/\one∈g/\l+1<=g.length/\∀i x,i<l+1->g[i]? = some x->∀y,(x,y)∈O->y∈g
  refine⟨a2,
   λa3 M ⟨g,J,I,p⟩=>⟨m-1,by omega,l+1,g,J,I,by omega,p⟩,?_⟩
  refine⟨_,rfl,wq,rfl,⟨_,.of (L _ _ hb)⟩,?_⟩
  let a6:Nat->SH:=λj σ M=>∃(g:LS) (J I:Option V),σ=[some (.ref wq),some (.str one),some (.ref Y),some (.int ((l:Nat):Int)),J,I]/\Same H M/\M Y=some (.lst (List.map V.str g))/\g.Nodup/\(∀x∈g,MG.Rch (Tie O) one x)/\one∈g/\l<g.length/\g[l]? = some z/\(∀i x,i<l->g[i]? = some x->∀y,(x,y)∈O->y∈g)/\∀f∈O.take j,f.1=z->f.2∈g
  refine cI (R:=Q) (xs:=a7) a6 ?_ ?_ ?_ ?_
  ·exact⟨g,J,I,rfl,L,N,C,v,u,D,U,s,λe he=>by simp at he⟩
  ·rintro j σ M hj ⟨g,J,I,rfl,L,_⟩;exact .of (L _ _ hb)
  ·rintro _ j x σ M A ⟨g, J, I, rfl, L, N, C, v, u, D, U, s, T⟩;obtain⟨d,hd,rd⟩:=(rp.same L).get A;rw[Ce] at hd;obtain⟨e,he,rfl⟩:∃e,O[j]? = some e/\aE e=d:=by
    cases q:O[j]? with
    | none=>rw[q] at hd;cases hd
    | some e=>rw[q] at hd;exact⟨e,rfl,BV hd⟩
   obtain⟨ta,rfl,a8⟩:=fE rd;have a9:=BW he;have b0:g.length<=ss.length:=C.length_le_of_subset λx A=>a4 x (v x A);have X:(e.1=z->e.2∈g)->∀f∈O.take (j+1),f.1=z->f.2∈g:=λh f G q=>by
    rw[Cf,he,Cb] at G;rcases G with G | G
    ·exact T f G q
    ·have:f=e:=by simpa using G
     subst this;exact h q
   have b2:atI (List.map V.str g) (l:Int)=some (.str z):=bJ (by rw[Ce,U];rfl);refine⟨ta,_,rfl,.of a8,rfl,_,_,rfl,_,_,rfl,rfl,?_⟩;refine⟨_,rfl,_,rfl,_,rfl,.lst (.of N) b2 (.sc rfl ⟨_,rfl,?_⟩)⟩;refine av (λh1=>?_) (λh1=>?_)
   ·have h1:e.1=z := V.str.inj (Ch h1);refine⟨_,rfl,_,rfl,.seq (.inl (.of N)) rfl (cp _) ⟨_,rfl,?_⟩⟩;rw[dU];refine av (λh2=>?_) (λh2=>?_)
    ·have h2:e.2 ∉ g := by simpa using h2
     refine⟨_,rfl,.inl ⟨rfl,_,.of N⟩,?_⟩;refine⟨_,rfl,Y,_,_,rfl,rfl,N,by rw[BQ];exact aj (by omega),?_⟩;refine⟨g++[e.2],_,_,rfl,?_,?_,?_,?_,?_,?_,?_,?_,?_⟩
     ·intro c o W;rw[ag (ai W a0)];exact L _ _ W
     ·rw[ae];simp
     ·rw[De];refine⟨C,by simp,λa ha b hb=>?_⟩;have:b=e.2:=by simpa using hb
      subst this;rintro rfl;exact h2 ha
     ·intro x A;rcases Cb.mp A with A | A
      ·exact v x A
      ·have:x=e.2:=by simpa using A
       subst this;exact MG.Rch.step rz (by rw[<- h1];exact a9)
     ·exact CM _ u
     ·simp;omega
     ·rw[Dm D];exact U
     ·intro i x hi A y hy;rw[Dm (by omega)] at A;exact CM _ (s i x hi A y hy)
     ·intro f G q;rw[Cf,he,Cb] at G;rcases G with G | G
      ·exact CM _ (T f G q)
      ·have:f=e:=by simpa using G
       subst this;simp
    ·have h2:e.2∈g:=by simpa using h2
     exact⟨g,_,_,rfl,L,N,C,v,u,D,U,s,X λ_=>h2⟩
   ·have h1:e.1≠z:=λq=>h1 (Ca (by rw[q]));exact cR ⟨g,_,_,rfl,L,N,C,v,u,D,U,s,X λq=>absurd q h1⟩
  ·rintro σ M ⟨g,J,I,rfl,L,N,C,v,u,D,U,s,T⟩;rw[Z,Cd (BR _)] at T;refine⟨_,rfl,.int ⟨g,J,I,rfl,L,N,C,v,u,D,λi x hi A y hy=>?_⟩⟩;by_cases q:i<l
   ·exact s i x q A y hy
   ·have:i=l:=by omega
    subst this;rw[U] at A;cases A;exact T _ hy rfl
 ·have W:¬ (l:Int)<((List.map V.str g).length:Nat):=λq=>W (Ca q);refine⟨_,rfl,k Y g H1 L a0 N (λt=>⟨v t,λr=>?_⟩) (by omega)⟩;refine MG.Rch.closed (S:=λy=>y∈g) u (λa b ha r=>?_) r;obtain⟨j,hj,ej⟩:=List.mem_iff_getElem.mp ha;exact s j a (by omega) (by rw[Ci hj,ej]) b r
abbrev Prs:=List (Str × Str)
def dE (us:LS) (ps:List (Str × Str)):Prop:=∀e∈ps,e.1∈us/\e.2∈us
def TsI (us:LS) (ks:Kn) (ts:List (Str × Str)):Prop:=∀e∈ts,e.1∈us/\e.2∈us/\(aI ks e.1 e.2).isSome=true
structure FnM (H H':Hp) (lf:Addr) (us:LS) (fr:LV) (ps:List (Str × Str)) (n:Nat) (M:Str × Str->Prop):Prop where
 m:∀x,x∈ps ↔ M x
 f:H' lf=some (.lst fr)
 r:RepAll H' fr (ps.map aE)
 i:dE us ps
 l:ps.length<=n
 s:Same H H'
theorem FnM.more {us:LS}{fr:LV}{ps:List (Str × Str)}{n m:Nat}{M:Str × Str->Prop}(h:FnM H H' z us fr ps n M) (s:Same H' H2) (a:n<=m):FnM H H2 z us fr ps m M:=⟨h.m,s _ _ h.f,h.r.same s,h.i,Cn h.l a,h.s.trans s⟩
theorem FnM.app (h:FnM H H' G us fr ps n M) (c:H' t=some (.tup [.str x,.str y])) (f:x∈us) (a:y∈us) (b:H G=none):FnM H (upd H' G (.lst (fr++[.ref t]))) G us (fr++[.ref t]) (ps++[(x,y)]) (n+1) (λz=>M z∨z=(x,y)):=by
 refine⟨λz=>by rw[Cb,Cr,h.m z],ae,?_,λe d=>?_,by rw[Cj];have:=h.l;show _+1<=_;omega,aV h.s b⟩
 ·rw[BX];exact RepAll.append (aP (aU h.f But.upd) h.r) (.cons (aU h.f But.upd (aO c)) .nil)
 ·rcases Cb.mp d with q | q
  ·exact h.i e q
  ·rw[Cr.mp q];exact⟨f,a⟩
theorem FnM.len (h:FnM H H' z us fr ps n M):fr.length<=n:=by
 have:=h.r.len;rw[BQ] at this;have:=h.l;omega
theorem FnM.to {us:LS}{fr:LV}{ps:List (Str × Str)}{n m:Nat}{M z:Str × Str->Prop}(h:FnM H H' G us fr ps n M) (a:n<=m) (q:∀x,M x ↔ z x):FnM H H' G us fr ps m z:=⟨λx=>(h.m x).trans (q x),h.f,h.r,h.i,Cn h.l a,h.s⟩
theorem FnM.has (h:FnM H H' G us fr ps n M) (a:y∈ps) (x:Str × Str):M x ↔ M x∨x=y:=⟨.inl,λz=>z.elim id λe=>by rw[e];exact(h.m y).mp a⟩
theorem eM (e f:Str × Str):PyData.eqv (aE e) (aE f)=decide (e=f):=by
 obtain⟨a,b⟩:=e;obtain⟨c,d⟩:=f;show ((a==c)&&((b==d)&&true))=_;rw[Bool.and_true,CQ];simp only[CT,beq_iff_eq,decide_eq_true_eq,Prod.mk.injEq]
theorem dQ (ps:Prs) (x:Str × Str):((ps.map aE).any λe=>PyData.eqv e (aE x))=decide (x∈ps):=by
 rw[List.any_map,CQ,Eb,decide_eq_true_iff]
 constructor
 ·rintro⟨e,a,q⟩;have q:PyData.eqv (aE e) (aE x)=true:=q;rw[eM,decide_eq_true_iff] at q;exact q ▸ a
 ·intro h;exact⟨x,h,by show PyData.eqv (aE x) (aE x)=true;rw[eM];simp⟩
theorem qS {ps:Prs}{x:Str × Str}(h:¬ (if true=true then !((ps.map aE).any λe=>PyData.eqv e (aE x)) else (ps.map aE).any λe=>PyData.eqv e (aE x))=true):x∈ps:=by
 rw[if_pos rfl,dQ] at h;simpa using h
theorem cX (a:Nm e.1) (b:Nm e.2):(aE e).canLay0=true:=by
 have h:(PyData.canLay0 (aE e)&&true)=true:=aS (ps:=[e]) λx c=>by rw[Cr.mp c];exact⟨a,b⟩
 rwa [Bool.and_true] at h
def eP (e:Str × Str) (c:LS):Prs:=(c.filter λv=>decide (v≠e.2)).map λv=>if e.1="first" then (e.2,v) else (v,e.2)
def EdT (ks:Kn) (knot:Str) (ts:Prs) (x:Str × Str):Prop:=∃e∈ts,cE ks knot e=some x
def EdW (wn:Prs) (c:LS) (x:Str × Str):Prop:=∃e∈wn,e.2∈c/\x∈eP e c
def EdM (ks:Kn) (ts wn:Prs) (knot:Str) (c:LS) (x:Str × Str):Prop:=EdT ks knot ts x∨EdW wn c x
theorem cU {α:Type}{l:List α}{i:Nat}{e:α}(he:l[i]? = some e) (x:α):x∈l.take (i+1) ↔ x∈l.take i∨x=e:=by
 rw[Cf,he,Cb];show _∨x∈[e] ↔ _;rw[Cr]
theorem oH {ks:Kn}{knot:Str}{ts:Prs}{i:Nat}{e:Str × Str}(he:ts[i]? = some e) (x:Str × Str):EdT ks knot (ts.take (i+1)) x ↔ EdT ks knot (ts.take i) x∨cE ks knot e=some x:=by
 unfold EdT
 constructor
 ·rintro⟨f,a,q⟩;rcases (cU he f).mp a with z | rfl
  ·exact .inl ⟨f,z,q⟩
  ·exact .inr q
 ·rintro (⟨f,a,q⟩ | q)
  ·exact⟨f,(cU he f).mpr (.inl a),q⟩
  ·exact⟨e,(cU he e).mpr (.inr rfl),q⟩
theorem fN {wn:Prs}{c:LS}{i:Nat}{e:Str × Str}(he:wn[i]? = some e) (x:Str × Str):EdW (wn.take (i+1)) c x ↔ EdW (wn.take i) c x∨(e.2∈c/\x∈eP e c):=by
 unfold EdW
 constructor
 ·rintro⟨f,a,q⟩;rcases (cU he f).mp a with z | rfl
  ·exact .inl ⟨f,z,q⟩
  ·exact .inr q
 ·rintro (⟨f,a,q⟩ | q)
  ·exact⟨f,(cU he f).mpr (.inl a),q⟩
  ·exact⟨e,(cU he e).mpr (.inr rfl),q⟩
theorem rowE_mem:x∈eP e c ↔ ∃v∈c,v≠e.2/\x=if e.1="first" then (e.2,v) else (v,e.2):=by
 unfold eP;rw[BY]
 constructor
 ·rintro⟨v,d,rfl⟩;obtain⟨b,a⟩:=Cg.mp d;exact⟨v,b,Ch a,rfl⟩
 ·rintro⟨v,b,a,rfl⟩;exact⟨v,Cg.mpr ⟨b,Ca a⟩,rfl⟩
theorem uS {e:Str × Str}{c:LS}{j:Nat}{z:Str}(a:c[j]? = some z) (x:Str × Str):x∈eP e (c.take (j+1)) ↔ x∈eP e (c.take j)∨(z≠e.2/\x=if e.1="first" then (e.2,z) else (z,e.2)):=by
 rw[rowE_mem,rowE_mem]
 constructor
 ·rintro⟨v,b,q⟩;rcases (cU a v).mp b with h | rfl
  ·exact .inl ⟨v,h,q⟩
  ·exact .inr q
 ·rintro (⟨v,b,q⟩ | q)
  ·exact⟨v,(cU a v).mpr (.inl b),q⟩
  ·exact⟨z,(cU a z).mpr (.inr rfl),q⟩
def mW:Sp:=λvs H Q _=>∃(q us ks:_) (ts ws wn:List (Str × Str)) (knot c:_),vs=[.ref q,.str knot]/\Rep H (.ref q) (aK ks ts ws wn)/\Tre us ks/\TsI us ks ts/\(∀e∈wn,e.2∈us)/\(knot,c)∈ks/\ts.length<=200/\wn.length<=200 /\
 ∀(l:Addr) (refs:LV) (es:Prs) (H':Hp),Same H H'->H l=none->H' l=some (.lst refs)->RepAll H' refs (es.map aE)->es.length<=100000->dE us es->(∀x,x∈es ↔ EdM ks ts wn knot c x)->Q (.ref l) H'
theorem zw {f:Addr}{fd:FuncData}(F:Fun K "_law_edges" "_law_edges" mJ f fd) (B:Blt mg) (A:Cal P w K mg base 2 "_law_part" ["_law_knots_here", "_law_one", "_law_other"] eX):FnOk P w K mg base CX0 3 f fd ["_law_house_here", "_law_knot"] mW := by
 refine F.ok1 ["_law_house_here","_law_knot","_law_knots_here","_law_ties","_law_waiting","_law_wants","_law_kids","_law_found","_law_one","_law_other","_law_part_here","_law_word","_law_unit","_law_pair_here"] λX H Q E Z h=>?_;obtain⟨q,us,U,ts,ws,wn,d,O,rfl,R,T,d1,d5,b1,tl,wl,k⟩:=h;refine⟨_,(aa (cn (pv 0) (bT (n:=4) K rfl (aH (am (i:=2) X rfl (Or.inl rfl)) (aH (am (i:=3) X rfl (Or.inl rfl)) (aH (am (i:=4) X rfl (Or.inl rfl)) (aH (am (i:=5) X rfl (Or.inl rfl)) bN))))))
  (aa (pst 6 X (px K Z (gB K rfl Z.units B (p1 (pv 2))) (pv 1)))
  (aa (pst 7 X (aQ cj))
  (aa (bc PassesOwn.never rfl (bf K (pv 3)) (bT (n:=2) K rfl (aH (am (i:=8) X rfl (Or.inl rfl)) (aH (am (i:=9) X rfl (Or.inl rfl)) bN))) (aa (pst 10 X (pc A Z (ak (pv 2) (p2 (pv 8) (pv 9)))))
  (af (aJ (PW.pt (ck (ah (br Z.units) (px K Z (pv 10) ac) (pv 1) (aB _)) (bR (ah (cJ K Z.units) (bZ (kU K) (pv 10) (ce ac) cP) (pv 7) (by with_unfolding_all rfl))))) (af (bi (cz K (pv 7) (p1 (bZ (kU K) (pv 10) (ce ac) cP))))) aw))))
  (aa (bc PassesOwn.never rfl (bf K (pv 5)) (bT (n:=2) K rfl (aH (am (i:=11) X rfl (Or.inl rfl)) (aH (am (i:=12) X rfl (Or.inl rfl)) bN))) (af (aJ (ah (bK K Z.units) (pv 12) (pv 6) (by with_unfolding_all rfl)) (af (bc PassesOwn.never rfl (bf K (pv 6)) (am (i:=8) X rfl (Or.inl rfl)) (aa (pst 13 X (px K Z (aQ (p2 (aF (p2 (pv 8) (pv 12))) (aF (p2 (pv 12) (pv 8))))) (xO B (p1 (lh (br Z.units) (pv 11) aA (aB _))))))
  (af (aJ (PW.pt (ck (ah (cF Z.units) (pv 8) (pv 12) (aB _)) (bR (ah (cJ K Z.units) (pv 13) (pv 7) (by with_unfolding_all rfl))))) (af (bi (cz K (pv 7) (p1 (pv 13))))) aw))))) aw)))
  (af (ao (pv 7)))))))),?_⟩
 have b8:∀ {m:List (Str × Str)},dE us m->∀e∈m,Nm e.1/\Nm e.2:=λh e C=>⟨T.nm _ (h e C).1,T.nm _ (h e C).2⟩
 have sz:200000<sizeLine:=by decide
 have e4:=T.len;obtain⟨q',a,b,c,d4,e0,hq,R1,R2,_,R4⟩:=bd R;cases e0;refine⟨_,rfl,q,_,rfl,.of hq,rfl,_,_,rfl,_,_,rfl,_,_,rfl,_,_,rfl,rfl,?_⟩;refine⟨_,rfl,ap (ei R1 T λD dk hD d6=>?_)⟩;obtain⟨la,d9,c9⟩:=d6 _ b1;have s1:=Same.new (o:=.dK dk) hD;refine⟨_,rfl,.dic (.inl ⟨dk,.inr d,.inl ae,rfl,d9.symm⟩) ?_⟩;generalize upd H D (.dK dk)=H1 at s1 ⊢;refine⟨(szl 0),λW b6=>?_⟩;have s3:=Same.new (o:=.lst []) b6;have b2:=s1.trans s3;have a6:H W=none:=aW s1 b6;have b5:FnM H (upd H1 W (.lst [])) W us [] [] 0 (EdT U d (ts.take 0)):=⟨(λx=>⟨(λh=>by cases h),(λ⟨_,h,_⟩=>by cases h)⟩),ae,.nil,(λe C=>by cases C),BR _,b2⟩
 generalize upd H1 W (.lst [])=H3 at b2 b5 ⊢;obtain⟨b',rb,e0,hb,b3⟩:=ba R2;cases e0;obtain⟨e7,d7,e0,c7,c1⟩:=ba R4;cases e0;have a0:=b3.len;have Y:=c1.len;rw[BQ] at a0 Y;refine⟨_,rfl,b,rfl,⟨_,.of (b2 _ _ hb)⟩,?_⟩
 let d0:Nat->SH:=λi S H'=>∃(J I g:Option V) (p:LV) (m:List (Str × Str)),S=[some (.ref q),some (.str d),some (.ref a),some (.ref b),some (.ref c),some (.ref d4),some (.ref la),some (.ref W),J,I,g,none,none,none]/\FnM H H' W us p m i (EdT U d (ts.take i))
 refine cu (R:=Q) (xs:=rb) d0 ?_ ?_ ?_ ?_
 ·exact⟨none,none,none,[],[],rfl,b5⟩
 ·rintro i S H' hi ⟨J,I,g,p,m,rfl,l⟩;exact .of (l.s _ _ hb)
 ·rintro _ i x S H' hx ⟨J, I, g, p, m, rfl, l⟩;obtain⟨e,ta,C,rfl,a7⟩:=cW (b3.same l.s) hx;have d8:=(BU.mp C).1;obtain⟨m1,m2,po⟩:=d1 e (BW C);refine⟨ta,_,rfl,.of a7,rfl,_,_,rfl,_,_,rfl,rfl,?_⟩;refine⟨_,rfl,_,rfl,_,rfl,a,us,U,e.1,e.2,rfl,R1.same l.s,T,m1,m2,λx H4 s4 b4=>?_⟩;cases qp:aI U e.1 e.2 with
  | none=>rw[qp] at po;cases po
  | some pp =>
   obtain⟨kq,u1,v1⟩:=pp;rw[qp] at b4;obtain⟨t,rfl,ht⟩:=b4;obtain⟨_,_,n1,n2,_⟩:=T.part m1 m2 qp;have a5:=l.more s4 (BR i);have fl:=a5.len;refine⟨_,rfl,.tup (.of ht) at0 ⟨_,rfl,.sc rfl ⟨_,rfl,av (λM=>?_) (λM=>?_)⟩⟩⟩
   ·have M:kq=d:=by simpa using M
    have a4:cE U d e=some (u1,v1):=by unfold cE;rw[qp];show (if kq=d then _ else _)=_;rw[if_pos M]
    have c2:∀x,EdT U d (ts.take (i+1)) x ↔ EdT U d (ts.take i) x∨x=(u1,v1):=λx=>by rw[oH C,a4,Option.some.injEq,eq_comm (a:=(u1,v1))]
    refine⟨_,rfl,_,rfl,t,_,rfl,.of ht,oR,λt2 h2=>?_⟩;rw[ow];refine nw h2 λH5 s5 e5=>?_;have N:=a5.more s5 (BR i);have d3:=s5 _ _ ht;refine⟨_,rfl,.tr N.f N.r (aO (s:=u1) (t:=v1) e5) (aS (b8 N.i)) ?_ ?_ ⟨_,rfl,?_⟩⟩
    ·exact cX (T.nm _ n1) (T.nm _ n2)
    ·show 1<=16;decide
    ·refine av (λ_=>?_) (λb0=>⟨_,_,_,p,m,rfl,N.to (Dh i) λx=>(N.has (qS b0) x).trans (c2 x).symm⟩);refine⟨_,rfl,.inl ⟨rfl,_,.of N.f⟩,_,rfl,_,rfl,t,_,rfl,.of d3,oR,λt3 h3=>?_⟩;rw[ow];refine nw h3 λH6 s6 e6=>?_;have b7:=N.more s6 (BR i);refine ap ⟨W,_,_,rfl,rfl,b7.f,by omega,?_⟩;exact⟨_,_,_,_,_,rfl,(b7.app e6 n1 n2 a6).to (BR _) λx=>(c2 x).symm⟩
   ·have M:kq≠d:=λz=>M (by simpa using z);have a4:cE U d e=none:=by unfold cE;rw[qp];show (if kq=d then _ else _)=_;rw[if_neg M]
    exact⟨_,_,_,p,m,rfl,a5.to (Dh i) λx=>by rw[oH C,a4];simp⟩
 ·rintro S H4 ⟨J, I, g, p, m, rfl, l⟩;rw[a0,Cd (BR _)] at l;refine⟨_,rfl,d4,rfl,⟨_,.of (l.s _ _ c7)⟩,?_⟩;have e8:O.length<=60:=by
   have h3:O.length<=(aT U).length:=by
    have:=(En (L:=U.map (·.2)) (BY.mpr ⟨(d,O),b1,rfl⟩)).length_le;rw[<- List.flatMap_def] at this;exact this
   have:=T.perm.length_eq;omega
  have d2:∀z∈O,z∈us:=λz hz=>T.isIn b1 hz
  let c5:Nat->SH:=λi S H'=>∃(J I g a3 a1 u:Option V) (p:LV) (m:List (Str × Str)),S=[some (.ref q),some (.str d),some (.ref a),some (.ref b),some (.ref c),some (.ref d4),some (.ref la),some (.ref W),J,I,g,a3,a1,u]/\FnM H H' W us p m (200+i * 60) (λx=>EdT U d ts x∨EdW (wn.take i) O x)
  refine cu (R:=Q) (xs:=d7) c5 ?_ ?_ ?_ ?_
  ·exact⟨J,I,g,none,none,none,p,m,rfl,l.to (by omega) λx=>⟨.inl,λz=>z.elim id λ⟨_,h,_⟩=>by cases h⟩⟩
  ·rintro i S H' hi ⟨J,I,g,a3,a1,u,p,m,rfl,l⟩;exact .of (l.s _ _ c7)
  ·rintro _ i x S H' hx ⟨J, I, g, a3, a1, u, p, m, rfl, l⟩;obtain⟨e,ta,C,rfl,a7⟩:=cW (c1.same l.s) hx;have d8:=(BU.mp C).1;have m2:=d5 e (BW C);have c3:=l.s _ _ c9;refine⟨ta,_,rfl,.of a7,rfl,_,_,rfl,_,_,rfl,rfl,?_⟩;refine⟨_,rfl,_,rfl,.seq (.inr (.of c3)) rfl (cp _) ⟨_,rfl,av (λa2=>?_) (λa2=>?_)⟩⟩
   all_goals rw[if_neg (show ¬ false=true by decide),dU] at a2
   ·refine⟨_, rfl, la, rfl, ⟨_, .of c3⟩, ?_⟩
    let c4:Nat->SH:=λj S H'=>∃(J I g u:Option V) (p:LV) (m:List (Str × Str)),S=[some (.ref q),some (.str d),some (.ref a),some (.ref b),some (.ref c),some (.ref d4),some (.ref la),some (.ref W),J,I,g,some (.str e.1),some (.str e.2),u]/\FnM H H' W us p m (200+i * 60+j) (λx=>(EdT U d ts x∨EdW (wn.take i) O x)∨x∈eP e (O.take j))
    refine cu (R:=Q) (xs:=List.map V.str O) c4 ?_ ?_ ?_ ?_
    ·exact⟨J,I,g,u,p,m,rfl,l.to (BR _) λx=>⟨.inl,λz=>z.elim id λh=>by cases h⟩⟩
    ·rintro j S H' hj ⟨J,I,g,u,p,m,rfl,l⟩;exact .of (l.s _ _ c9)
    ·rintro _ j x S H5 hx ⟨J, I, g, u, p, m, rfl, l⟩;obtain⟨z,hz,rfl⟩:=bp hx;have e9:=(BU.mp hz).1;have mz:=d2 z (BW hz);have f0:j<60:=by omega
     refine⟨_,rfl,_,rfl,(szl 2),λt1 h1=>?_⟩;refine nw h1 λH6 s1 e1=>?_;refine⟨_,rfl,_,rfl,(szl 2),λt2 h2=>ap ⟨(szl 2),λl2 a9=>?_⟩⟩;revert a9;refine nw h2 λH7 sn e2=>?_;intro a9;have s2:=s1.trans sn;have e1:=sn _ _ e1;refine nw a9 λH8 sn e3=>?_;have s3:=s2.trans sn;have e2:=sn _ _ e2;have e1:=sn _ _ e1;have r:=l.more s3 (BR _);have fl:=r.len;refine⟨_,rfl,.sc rfl ⟨_,rfl,.bl ?_⟩⟩;have c8:∀bb:Bool,∃(t:Addr) (x y:Str),atI [V.ref t1,V.ref t2] (if bb=true then 1 else 0)=some (.ref t)/\H8 t=some (.tup [.str x,.str y])/\x∈us/\y∈us/\(x,y)=(if bb=true then (e.2,z) else (z,e.2)):=λbb=>by
      cases bb with
      | true=>exact⟨t2,e.2,z,at1,e2,m2,mz,rfl⟩
      | false=>exact⟨t1,z,e.2,at0,e1,mz,m2,rfl⟩
     obtain⟨t,x,y,hx,ht,mx,my,a8⟩:=c8 (if false=true then !decide (V.str e.1=V.str "first") else decide (V.str e.1=V.str "first"));have a8:(x,y)=if e.1="first" then (e.2,z) else (z,e.2):=by
      rw[a8];by_cases q:e.1="first"
      ·rw[if_pos q,if_pos (by rw[if_neg (by decide),q];simp)]
      ·rw[if_neg q,if_neg (by rw[if_neg (by decide)];simpa using q)]
     have c6:∀v,v∈eP e (O.take (j+1)) ↔ v∈eP e (O.take j)∨(z≠e.2/\v=(x,y)):=λv=>by rw[uS hz,a8]
     refine .lst (.of e3) hx ?_;refine⟨_,rfl,_,rfl,.sc rfl ⟨_,rfl,av (λG=>?_) (λG=>?_)⟩⟩
     ·have G:z≠e.2:=λq=>by rw[q,if_pos rfl,Ca rfl] at G;cases G
      have b9:∀v,((EdT U d ts v∨EdW (wn.take i) O v)∨v∈eP e (O.take j))∨v=(x,y) ↔ (EdT U d ts v∨EdW (wn.take i) O v)∨v∈eP e (O.take (j+1)):=λv=>by
       rw[c6 v,or_assoc];simp only[ne_eq,G,not_false_eq_true,true_and]
      refine⟨_,rfl,_,rfl,.tr r.f r.r (aO (s:=x) (t:=y) ht) (aS (b8 r.i)) (cX (T.nm _ mx) (T.nm _ my)) (by show 1<=16;decide) ⟨_,rfl,av (λ_=>?_) (λb0=>?_)⟩⟩
      ·refine⟨_,rfl,.inl ⟨rfl,_,.of r.f⟩,_,rfl,ap ⟨W,_,_,rfl,rfl,r.f,by omega,?_⟩⟩;exact⟨_,_,_,_,_,_,rfl,(r.app ht mx my a6).to (BR _) b9⟩
      ·exact⟨_,_,_,_,p,m,rfl,r.to (Dh _) λv=>(r.has (qS b0) v).trans (b9 v)⟩
     ·have G:z=e.2:=Classical.byContradiction λq=>G (by rw[if_pos rfl,Ct (λw=>q (V.str.inj w))];rfl);exact cR ⟨_,_,_,_,p,m,rfl,r.to (Dh _) λv=>by rw[c6 v];simp[G]⟩
    ·rintro S H5 ⟨J,I,g,u,p,m,rfl,l⟩;rw[BQ,Cd (BR _)] at l;exact⟨_,_,_,_,_,_,p,m,rfl,l.to (by omega) λx=>⟨λq=>q.elim (λq=>q.imp id λw=>(fN C x).mpr (.inl w)) λw=>.inr ((fN C x).mpr (.inr ⟨Ch a2,w⟩)),λq=>q.elim (λw=>.inl (.inl w)) λw=>((fN C x).mp w).elim (λz=>.inl (.inr z)) λz=>.inr z.2⟩⟩
   ·exact⟨_,_,_,_,_,_,p,m,rfl,l.to (by omega) λx=>⟨λq=>q.imp id λw=>(fN C x).mpr (.inl w),λq=>q.imp id λw=>((fN C x).mp w).elim id λz=>absurd (Ca z.1) a2⟩⟩
  ·rintro S H5 ⟨J,I,g,a3,a1,u,p,m,rfl,l⟩;refine⟨_,rfl,k W p m H5 l.s a6 l.f l.r ?_ l.i λx=>?_⟩;rotate_left
   ·rw[Y,Cd (BR _)] at l;exact l.m x
   have:=l.l;omega
def Lp (H:Hp) (l:Addr) (ps:Prs):Prop:=∃refs,H l=some (.lst refs)/\RepAll H refs (ps.map aE)
section
variable {H H':Hp}{l p:Addr}{ps:Prs}
theorem Lp.but (h:Lp H l ps) (a:H p=some (.dK ys)) (b:But p H H'):Lp H' l ps :=
 let ⟨r,c,d⟩:=h;⟨r,b _ _ (aZ c a (by intro z;cases z)) c,dG (iy a b) d⟩
theorem Lp.same (h:Lp H l ps) (s:Same H H'):Lp H' l ps:=let ⟨r,b,a⟩:=h;⟨r,s _ _ b,a.same s⟩
theorem Lp.other (h:Lp H l ps) (b:H z=some (.lst xs)) (n:l≠z):Lp (upd H z (.lst ys)) l ps :=
 let ⟨r,a,c⟩:=h;⟨r,by rw[ag n];exact a,aP (aU b But.upd) c⟩
theorem Lp.app (a:H l=some (.lst z)) (b:RepAll H z (ps.map aE)) (c:H t=some (.tup [.str e.1,.str e.2])):Lp (upd H l (.lst (z++[.ref t]))) l (ps++[e]):=by
 refine⟨_,ae,?_⟩;rw[BX];exact RepAll.append (aP (aU a But.upd) b) (.cons (aU a But.upd (aO (s:=e.1) (t:=e.2) c)) .nil)
theorem RepAll.takeP:∀ {xs:LV}{ds:List PyData}(k:Nat),RepAll H xs ds->RepAll H (xs.take k) (ds.take k)
 | _,_,0,_=>.nil
 | _,_,_+1,.nil=>.nil
 | _,_,k+1,.cons a b=>.cons a (RepAll.takeP k b)
theorem RepAll.dropP:∀ {xs:LV}{ds:List PyData}(k:Nat),RepAll H xs ds->RepAll H (xs.drop k) (ds.drop k)
 | _,_,0,r=>r
 | _,_,_+1,.nil=>.nil
 | _,_,k+1,.cons _ b=>RepAll.dropP k b
theorem Lp.ins (b:H l=some (.lst z)) (d:RepAll H z (ps.map aE)) (k:Nat) (c:H t=some (.tup [.str e.1,.str e.2])):Lp (upd H l (.lst (z.take k++.ref t::z.drop k))) l (ps.take k++e::ps.drop k):=by
 refine⟨_,ae,?_⟩;rw[BX,Cv,DW,List.map_drop];have a:RepAll (upd H l (.lst (z.take k++.ref t::z.drop k))) z (ps.map aE):=aP (aU b But.upd) d;exact RepAll.append (RepAll.takeP k a) (.cons (aU b But.upd (aO (s:=e.1) (t:=e.2) c)) (RepAll.dropP k a))
end
theorem pZ (g:H l=some (.tup (c.map V.str))) (f:c.Nodup) (h:x∈c) (q:Q (.int ((MG.ix c x:Nat):Int)) H):lj (.ref l) [.str x] H Q:=by
 refine⟨l,_,.str x,MG.ix c x,.str x,rfl,rfl,g,rfl,cp c,by rw[Ce,MG.at_ix h];rfl,by show (x==x)=true;simp,λm j i d=>?_,q⟩;obtain⟨z,a,rfl⟩:=bp d;have b:z≠x:=λe=>by rw[e] at a;have:=MG.ix_at f a;omega
 show (z==x)=false;simpa using b
theorem at2 {α:Type}{x y z:α}{r:List α}:atI (x::y::z::r) 2=some z:=bJ (j:=2) rfl
def WnL (ks:Kn) (wn:Prs):Prop:=∀e∈wn,(e.1="first"/\∃k∈ks,k.2.head? = some e.2)∨(e.1="last"/\∃k∈ks,k.2.getLast? = some e.2)
theorem AO (h:WnL ks wn) (n:wn.Nodup):WnX ks wn:=⟨n,λe d=>by
 rcases h e d with⟨a,k,c,b⟩ | ⟨a,k,c,b⟩
 ·exact⟨k,c,.inl ⟨a,b⟩⟩
 ·exact⟨k,c,.inr ⟨a,b⟩⟩⟩
theorem nO (T:Tre us ks) (h:ks[i]? = some G) (d:z∈G.2):¬ ∃k∈ks.take i,z∈k.2:=λ⟨k,c,b⟩=>by
 have e:=fe T.knd (Dq c) (BW h) b d;subst e;obtain⟨j,a⟩:=Cz c;have f:=(BU.mp a).1;rw[Ck] at f;rw[List.getElem?_take,if_pos (by omega)] at a;have g:(ks.map (·.1))[j]? = some k.1:=by rw[Ce,a];rfl
 have l:(ks.map (·.1))[i]? = some k.1:=by rw[Ce,h];rfl
 have:=(MG.ix_at T.kn g).symm.trans (MG.ix_at T.kn l);omega
theorem uW {wn:Prs}{m:Nat}{e:Str × Str}(n:wn.Nodup) (h:e∉wn):(wn.take m++e::wn.drop m).Nodup:=by
 have p:(wn.take m++e::wn.drop m).Perm (e::wn):=by
  have:=List.perm_middle (a:=e) (l₁:=wn.take m) (l₂:=wn.drop m)
  rwa [DK] at this
 exact p.nodup_iff.mpr (CI.mpr ⟨h,n⟩)
theorem dO {ks:Kn}{ts wn:Prs}{knot:Str}{c:LS}(g:∀e ∈ wn, e.1="first" ∨ e.1="last") (x:Str × Str):EdM ks ts wn knot c x ↔ x ∈ aL ks ts wn knot c := by
 unfold aL EdM;rw[fV,Cb,Cb,DA,Dj,Dj];have d:∀(e:Str × Str) (b:Bool), (b=true ↔ e.1 ≠ "first") -> (x ∈ bV b c e.2 ↔ x ∈ eP e c) := λe b k => by
  unfold bV eP;by_cases q:e.1="first"
  ·have:b=false:=by
      cases b with
      | false=>rfl
      | true=>exact absurd q (k.mp rfl)
   subst this;simp[q]
  ·have:b=true:=k.mpr q;subst this;simp[q]
 constructor
 ·rintro (⟨e, a, q⟩ | ⟨e, a, l, q⟩)
  ·exact .inr (.inl ⟨e,a,q⟩)
  ·refine .inr (.inr ?_);rcases (g e a) with w | w
   ·left
    exact⟨e.2,Cg.mpr ⟨l,Ca (by rw[<- w];exact a)⟩,(d e false ⟨(λh=>by cases h),λh=>absurd w h⟩).mpr q⟩
   ·right
    exact⟨e.2,Cg.mpr ⟨l,Ca (by rw[<- w];exact a)⟩,(d e true ⟨λ_ h=>absurd (w.symm.trans h) (by decide),λ_=>rfl⟩).mpr q⟩
 ·rintro (h | ⟨e,a,q⟩ | ⟨u,f,q⟩ | ⟨u,f,q⟩)
  ·cases h
  ·exact .inl ⟨e,a,q⟩
  ·obtain⟨i,j⟩:=Cg.mp f;exact .inr ⟨(("first":Str),u),Ch j,i,(d (("first":Str),u) false ⟨(λh=>by cases h),λh=>absurd rfl h⟩).mp q⟩
  ·obtain⟨i,j⟩:=Cg.mp f;exact .inr ⟨(("last":Str),u),Ch j,i,(d (("last":Str),u) true ⟨λ_ h=>absurd h (by show ¬ ("last":Str)="first";decide),λ_=>rfl⟩).mp q⟩
def TsF (ks:Kn) (ts:Prs):Prop:=∀e∈ts,∀k∈ks,∀x y,aI ks e.1 e.2=some (k.1,x,y)->MG.ix k.2 x<MG.ix k.2 y
def WsR (ks:Kn) (ts wn ws:Prs):Prop:=∀e∈ws,∃k∈ks,∃x y,aI ks e.1 e.2=some (k.1,x,y)/\MG.Rch (Tie (aL ks ts wn k.1 k.2)) y x
theorem rn (T:Tre us ks) (f:kk∈ks) (h:k∈ks) (e:k.1=kk.1):k=kk:=by
 obtain⟨i,g⟩:=Cz h;obtain⟨j,b⟩:=Cz f;have c:(ks.map (·.1))[i]? = some k.1:=by rw[Ce,g];rfl
 have d:(ks.map (·.1))[j]? = some k.1:=by rw[Ce,b,e];rfl
 have a:i=j:=by rw[<- MG.ix_at T.kn c,<- MG.ix_at T.kn d]
 subst a;rw[g] at b;exact BV b
theorem iO (h:∀x∈es,x∈fs) (r:MG.Rch (Tie es) a b):MG.Rch (Tie fs) a b:=MG.Rch.map (λx=>x) (λa b q=>h _ q) r
def pT (K:W.Frag):Sp:=λvs H Q _=>∃p a,vs=[.ref p,.int 13]/\DPen K H p a /\
 ∀q us ks ts ws wn H',Rep H' (.ref q) (aK ks ts ws wn)->Tre us ks->ks.head?.map (·.1)=some ("":Str)->0<us.length/\us.length<=13->TsI us ks ts->dE us ws->WnL ks wn->wn.Nodup->TsF ks ts->WsR ks ts wn ws->ts.length<=26->ws.length<=7->wn.length<=122->DPV H' p a->But p H H'->Q (.ref q) H'
theorem wg {f:Addr}{fd:FuncData}(F:Fun K "_law_house" "_law_house" lW f fd) (B:Blt mg) (d:Cal P w K mg base 1 "_law_draw" ["_law_pen_here","_law_many"] (iR K)) (c3:Cal P w K mg base 2 "_law_names" ["_law_pen_here","_law_many"] (qy K)) (c7:Cal P w K mg base 2 "_law_knots" ["_law_pen_here","_law_names_here"] (qZ K)) (Z:Cal P w K mg base 2 "_law_part" ["_law_knots_here","_law_one","_law_other"] eX) (c8:Cal P w K mg base 3 "_law_edges" ["_law_house_here","_law_knot"] mW) (a3:Cal P w K mg base 1 "_law_reached" ["_law_edges_here","_law_one"] jr):FnOk P w K mg base CX0 4 f fd ["_law_pen_here","_law_most"] (pT K):=by
 refine F.ok1 ["_law_pen_here","_law_most","_law_names_here","_law_knots_here","_law_ties","_law_k","_law_one","_law_other","_law_part_here","_law_kids","_law_wants","_law_name","_law_pick","_law_house_here","_law_waiting"] λnd H Q E M h=>?_;obtain⟨p,a,rfl,hP,k⟩:=h;refine⟨_,(aa (pst 2 nd (pc c3 M (p2 (pv 0) (aG aM ac (pc d M (p2 (pv 0) (aG nq (pv 1) ac)))))))
  (aa (pst 3 nd (pc c7 M (p2 (pv 0) (pv 2))))
  (aa (pst 4 nd (aQ cj))
  (aa (bc PassesOwn.never rfl (dm rfl B.range (p1 (pc d M (p2 (pv 0) (aG gK ac (bh K B (p1 (pv 2)))))))) (am (i:=5) nd rfl (Or.inl rfl)) (aa (pst 6 nd (px K M (pv 2) (pc d M (p2 (pv 0) (bh K B (p1 (pv 2)))))))
  (aa (pst 7 nd (px K M (pv 2) (pc d M (p2 (pv 0) (bh K B (p1 (pv 2)))))))
  (aa (pst 8 nd (pc Z M (ak (pv 3) (p2 (pv 6) (pv 7)))))
  (af (aJ (ah gi (pv 8) cm (aB _)) (aa (pst 9 nd (px K M (gB K rfl M.units B (p1 (pv 3))) (px K M (pv 8) ac)))
  (aa (aJ (ah iP (mL (pv 9) (p1 (px K M (pv 8) ac))) (mL (pv 9) (p1 (px K M (pv 8) ac))) (aB _)) (af (Bh (i:=6) (j:=7) rfl nd rfl rfl (by decide) rfl rfl (p2 (pv 7) (pv 6)) rfl)) aw)
  (af (aJ (ah (cJ K M.units) (aF (p2 (pv 6) (pv 7))) (pv 4) (by with_unfolding_all rfl)) (af (bi (cz K (pv 4) (p1 (aF (p2 (pv 6) (pv 7))))))) aw)))) aw))))))
  (aa (pst 10 nd (aQ cj))
  (aa (bc PassesOwn.never rfl (bf K (pv 3)) (bT (n:=2) K rfl (aH (am (i:=11) nd rfl (Or.inl rfl)) (aH (am (i:=9) nd rfl (Or.inl rfl)) bN))) (aa (pst 12 nd (pc d M (p2 (pv 0) ac)))
  (aa (aJ (PW.pt (ck (ah (mH K M.units) (pv 9) (aF cj) (aB _)) (bR (ah (bK K M.units) (pv 12) (aF (p2 ac ac)) (by with_unfolding_all rfl))))) (af (bi (hB K (pv 10) (p2 (pc d M (p2 (pv 0) (aG aM (bh K B (p1 (pv 10))) ac))) (aF (p2 aA (px K M (pv 9) ac))))))) aw)
  (af (aJ (PW.pt (ck (ah iP (bh K B (p1 (pv 9))) ac (aB _)) (bR (ah (bK K M.units) (pv 12) (aF (p2 ac ac)) (by with_unfolding_all rfl))))) (af (bi (hB K (pv 10) (p2 (pc d M (p2 (pv 0) (aG aM (bh K B (p1 (pv 10))) ac))) (aF (p2 aA (px K M (pv 9) (fw eA ac)))))))) aw)))))
  (aa (pst 13 nd (aF (ak (pv 3) (ak (cq K B (p1 (pv 4))) (p2 (aF cj) (cq K B (p1 (pv 10))))))))
  (aa (pst 14 nd (aQ cj))
  (aa (bc PassesOwn.never rfl (dm rfl B.range (p1 (pc d M (p2 (pv 0) ac)))) (am (i:=5) nd rfl (Or.inl rfl)) (aa (pst 6 nd (px K M (pv 2) (pc d M (p2 (pv 0) (bh K B (p1 (pv 2)))))))
  (aa (pst 7 nd (px K M (pv 2) (pc d M (p2 (pv 0) (bh K B (p1 (pv 2)))))))
  (aa (pst 8 nd (pc Z M (ak (pv 3) (p2 (pv 6) (pv 7)))))
  (af (aJ (PW.pt (ck (ah gi (pv 8) cm (aB _)) (bR (ah (cJ K M.units) (aF (p2 (pv 6) (pv 7))) (aG aM (pv 4) (pv 14)) (by with_unfolding_all rfl))))) (af (aJ (ah (bK K M.units) (px K M (pv 8) ac) (pc a3 M (p2 (pc c8 M (p2 (pv 13) (px K M (pv 8) ac))) (px K M (pv 8) ac))) (by with_unfolding_all rfl)) (af (bi (cz K (pv 14) (p1 (aF (p2 (pv 6) (pv 7))))))) aw)) aw))))))
  (af (ao (aF (ak (pv 3) (ak (cq K B (p1 (pv 4))) (p2 (cq K B (p1 (pv 14))) (cq K B (p1 (pv 10)))))))))))))))))),?_⟩
 refine⟨_,rfl,_,rfl,_,rfl,_,_,rfl,rfl,p,a,_,rfl,hP,by decide,by decide,λr1 H1 q7 l8 v1 b1=>.int (ap ?_)⟩;obtain⟨n1,rfl⟩:=CU q7;have l8:(n1:Int)<12:=l8;refine⟨p,a,n1+2,(by show [V.ref p,V.int (2+(n1:Int))]=_;rw[show (2+(n1:Int))=((n1+2:Nat):Int) by omega]),hP.but b1 v1,by omega,λln W H2 ul w2 d6 n7 x1 f5 v2 b2=>?_⟩;have b2:=b1.trans b2;refine⟨_,rfl,_,rfl,p,a,ln,W,rfl,hP.but b2 v2,n7,w2,d6,by omega,λkt G H3 rk T hd v3 b3=>?_⟩;obtain⟨x2,q6⟩:=v2.at_dK;have g9:=b3 _ _ f5 n7;have b3:=b2.trans b3;have a4:(List.map V.str W).length=W.length:=BQ ..;refine⟨(szl 0),λlt f7=>?_⟩;have s4:=Same.new (o:=.lst []) f7;have l1:Lp (upd H3 lt (.lst [])) lt []:=⟨[],ae,.nil⟩
 have m7:lt≠p:=Ne.symm (v3.ne f7);have p6:ln≠lt:=ai g9 f7;have u5:H lt=none:=b3.free m7 f7;have v4:=v3.same s4;have b4:=b3.trans (But.of_same (p:=p) s4);have k6:=rk.same s4;have e9:=s4 _ _ g9;generalize upd H3 lt (.lst [])=H4 at s4 l1 v4 b4 k6 e9 ⊢;refine⟨_,rfl,_,rfl,_,_,rfl,Or.inl ⟨_,.of e9,rfl⟩,_,_,rfl,rfl,?_⟩;refine⟨.inl ⟨by decide,by decide⟩,p,a,_,rfl,hP.but b4 v4,by rw[a4];omega,by rw[a4];omega,λr5 H5 x9 u3 v5 b5=>?_⟩;rw[a4] at u3;obtain⟨y2,j1⟩:=v4.at_dK;have n8:=l1.but j1 b5;have i9:=b5 _ _ f5 e9;have o1:=dg j1 b5 k6;have b5:=b4.trans b5;have c4:∀r:Int,0<=r->r<(((List.map V.str W).length:Nat):Int)->∃u∈W,atI (List.map V.str W) r=some (.str u):=λr h0 h1=>by
  obtain⟨x,hx,mx⟩:=tO (xs:=List.map V.str W) (m:=(List.map V.str W).length) rfl h0 h1;obtain⟨u,hu,rfl⟩:=BY.mp mx;exact⟨u,hu,hx⟩
 have o4:∀ {ps:List (Str × Str)},dE W ps->∀e∈ps,Nm e.1/\Nm e.2:=λh e A=>⟨d6 _ (h e A).1,d6 _ (h e A).2⟩
 have u8:1000<=sizeLine:=by decide
 clear f7 s4 q6 j1 rk v1 b1 v2 b2 v3 v4 b4 e9 g9 k6 l1;refine⟨_,rfl,by omega,by omega,?_⟩
 let p8:Nat->SH:=λi σ g=>∃(o5 o6 o7 o8 o9:Option V) (X:Prs),σ=[some (.ref p),some (.int 13),some (.ref ln),some (.ref kt),some (.ref lt),o5,o6,o7,o8,o9,none,none,none,none,none]/\Lp g lt X/\TsI W G X/\TsF G X/\X.length<=i/\g ln=some (.lst (List.map V.str W))/\Rep g (.ref kt) (cA G)/\DPV g p a/\But p H g
 refine fy (R:=Q) p8 ⟨none,none,none,none,none,[],rfl,n8,(λe A=>by cases A),(λe A=>by cases A),BR 0,i9,o1,v5,b5⟩ ?_ ?_
 ·rintro _ i σ H6 hi ⟨o5, o6, o7, o8, o9, X, rfl, g0, ti, tf, tl, c1, i3, v6, b6⟩;have hi:i<26:=by
   have:i<(r5-0).toNat:=by simpa using hi
   omega
  obtain⟨x8,o3⟩:=v6.at_dK;refine⟨_,rfl,_,rfl,_,rfl,_,_,rfl,Or.inl ⟨_,.of c1,rfl⟩,p,a,_,rfl,hP.but b6 v6,by rw[a4];omega,by rw[a4];omega,λr7 H7 j6 l2 v7 b7=>?_⟩;obtain⟨u,hu,ax⟩:=c4 r7 j6 l2;have u0:=g0.but o3 b7;have g3:=b7 _ _ f5 c1;have u9:=dg o3 b7 i3;have b7:=b6.trans b7;refine .lst (.of g3) ax ?_;obtain⟨y1,m8⟩:=v7.at_dK;refine⟨_,rfl,_,rfl,_,rfl,_,_,rfl,Or.inl ⟨_,.of g3,rfl⟩,p,a,_,rfl,hP.but b7 v7,by rw[a4];omega,by rw[a4];omega,λr8 H8 j3 k1 v8 b8=>?_⟩;obtain⟨v,hv,ay⟩:=c4 r8 j3 k1;have s7:=u0.but m8 b8;have d1:=b8 _ _ f5 g3;have n3:=dg m8 b8 u9;have b8:=b7.trans b8;refine .lst (.of d1) ay ?_;refine⟨_,rfl,_,rfl,_,rfl,kt,W,G,u,v,rfl,n3,T,hu,hv,λx H9 s9 f4=>?_⟩;have n4:=s7.same s9;have e7:=s9 _ _ d1;have f8:=n3.same s9;have v9:=v8.same s9;have b9:=b8.trans (But.of_same (p:=p) s9);cases qp:aI G u v with
  | none =>
   rw[qp] at f4;have f4:x=.non:=f4;subst f4;refine⟨_,rfl,.non ⟨_,rfl,av (λh=>absurd h (by decide)) (λ_=>?_)⟩⟩;exact⟨_,_,_,_,_,X,rfl,n4,ti,tf,by omega,e7,f8,v9,b9⟩
  | some pp =>
   obtain⟨kq,u1,v1⟩:=pp;rw[qp] at f4;obtain⟨t,rfl,ht⟩:=f4;obtain⟨pu,pv,mu,mv,ne⟩:=T.part hu hv qp;refine⟨_,rfl,.non ⟨_,rfl,av (λ_=>?_) (λh=>absurd (by simp) h)⟩⟩;obtain⟨kn,c5,c2⟩:=BY.mp (T.par_in mu).2;rw[pu] at c2;obtain⟨a8,c⟩:=kn;have c2:a8=kq:=c2;subst c2;have uc:u1∈c:=T.kid mu (by rw[pu];exact c5);have vc:v1∈c:=T.kid mv (by rw[pv];exact c5);have m2:c.Nodup:=by
    have:=T.knd;unfold aT at this;rw[List.flatMap_def] at this;exact(En (BY.mpr ⟨(a8,c),c5,rfl⟩)).nodup this
   refine⟨_,rfl,ap (ei f8 T λD dk hD u6=>?_)⟩;obtain⟨la,w5,l0⟩:=u6 _ c5;have sA:=Same.new (o:=.dK dk) hD;refine⟨_,rfl,.tup (.of (sA _ _ ht)) at0 (.dic (.inl ⟨dk,.inr a8,.inl ae,rfl,w5.symm⟩) ?_)⟩;have p7:=n4.same sA;have i8:=sA _ _ e7;have n2:=f8.same sA;have vA:=v9.same sA;have bA:=b9.trans (But.of_same (p:=p) sA);have l5:=sA _ _ ht;have I:=sA _ _ l0;generalize upd H9 D (.dK dk)=HA at sA p7 i8 n2 vA bA l5 I ⊢;refine dA ?_;dsimp only;refine gF (λg5 g=>g=HA/\∃(x y:Str) (o5:Option V),g5=[some (.ref p),some (.int 13),some (.ref ln),some (.ref kt),some (.ref lt),o5,some (.str x),some (.str y),some (.ref t),some (.ref la),none,none,none,none,none]/\x∈W/\y∈W/\(aI G x y).isSome=true/\(∀k∈G,∀a b,aI G x y=some (k.1,a,b)->MG.ix k.2 a<MG.ix k.2 b)) ?_ ?_
   ·rintro g5 g ⟨rfl,x,y,o5,rfl,hx,hy,t5,u4⟩;refine⟨_,rfl,_,rfl,(szl 2),λt1 h1=>?_⟩;obtain⟨C,L,a5⟩:=p7;have s1:=Same.new (o:=.tup [V.str x,V.str y]) h1;have e1:upd g t1 (.tup [V.str x,V.str y]) t1=some (.tup [V.str x,V.str y]):=ae;have k3:dE W X:=λe A=>⟨(ti e A).1,(ti e A).2.1⟩
    have rl:=a5.len;rw[BQ] at rl;refine⟨_,rfl,.tr (s1 _ _ L) (a5.same s1) (aO (s:=x) (t:=y) e1) (aS (o4 k3)) (cX (d6 _ hx) (d6 _ hy)) (by show 1<=16;decide) ⟨_,rfl,?_⟩⟩;have vB:=vA.same s1;have bB:=bA.trans (But.of_same (p:=p) s1);have g8:=s1 _ _ i8;have k4:=n2.same s1;have e6:=s1 _ _ L;have g4:=a5.same s1;generalize upd g t1 (.tup [V.str x,V.str y])=HB at s1 e1 vB bB g8 k4 e6 g4 ⊢;refine av (λ_=>?_) (λ_=>⟨_,_,_,_,_,X,rfl,⟨C,e6,g4⟩,ti,tf,by omega,g8,k4,vB,bB⟩);refine⟨_,rfl,.inl ⟨rfl,_,.of e6⟩,_,rfl,_,rfl,(szl 2),λt2 U=>?_⟩;refine nw U λHC Y e2=>?_;have vC:=vB.same Y;have bC:=bB.trans (But.of_same (p:=p) Y);have d4:=Y _ _ g8;have i5:=k4.same Y;have g1:=Y _ _ e6;have n0:=g4.same Y;refine ap ⟨lt,_,_,rfl,rfl,g1,by omega,?_⟩;refine⟨_,_,_,_,_,X++[(x,y)],rfl,Lp.app (e:=(x,y)) g1 n0 e2,λe A=>?_,λe A=>?_,by rw[Cj];show X.length+1<=_;omega,by rw[ag p6];exact d4,fO g1 But.upd i5,vC.upd (Ne.symm m7),bC.at u5⟩
    ·rcases Cb.mp A with A | A
     ·exact ti e A
     ·rw[Cr.mp A];exact⟨hx,hy,t5⟩
    ·rcases Cb.mp A with A | A
     ·exact tf e A
     ·rw[Cr.mp A];exact u4
   ·intro N hN;refine⟨_,rfl,⟨_,_,rfl,I⟩,_,rfl,.tup (.of l5) at1 (ap (pZ I m2 uc ⟨_,rfl,⟨_,_,rfl,I⟩,_,rfl,.tup (.of l5) at2 (ap (pZ I m2 vc ⟨_,_,rfl,rfl,_,rfl,av (λf9=>?_) (λf9=>?_)⟩))⟩))⟩
    ·refine⟨_,rfl,_,rfl,ap ⟨_,_,rfl,hN _ _ ⟨rfl,v,u,_,rfl,hv,hu,?_,?_⟩⟩⟩
     ·have e:aI G v u=_:=jQ "" (lin G u) (lin G v);rw[e];show ((aI G u v).map _).isSome=true;rw[qp];rfl
     ·have e:aI G v u=_:=jQ "" (lin G u) (lin G v);have e2:prt "" (lin G u) (lin G v)=some (a8,u1,v1):=qp;intro k hk a b a6;rw[e,e2] at a6;have a6:some (a8,v1,u1)=some (k.1,a,b):=a6;injection a6 with a6;injection a6 with h1 U;injection U with U h3;subst U h3;have:=rn T c5 hk h1.symm;subst this;have f9:((MG.ix c v1:Nat):Int)<((MG.ix c u1:Nat):Int):=Ch f9;show MG.ix c v1<MG.ix c u1;omega
    ·refine hN _ _ ⟨rfl,u,v,_,rfl,hu,hv,by rw[qp];rfl,λk hk a b a6=>?_⟩;rw[qp] at a6;injection a6 with a6;injection a6 with h1 U;injection U with U h3;subst U h3;have:=rn T c5 hk h1.symm;subst this;have f9:¬ ((MG.ix c v1:Nat):Int)<((MG.ix c u1:Nat):Int):=λz=>f9 (Ca z);have x7:MG.ix c u1≠MG.ix c v1:=λz=>ne (by
      have e1:=MG.at_ix uc;have e2:=MG.at_ix vc;rw[z,e2] at e1;exact(BV e1).symm)
     show MG.ix c u1<MG.ix c v1;omega
 ·rintro σ H6 ⟨o5, o6, o7, o8, o9, X, rfl, g0, ti, tf, tl, c1, i3, v6, b6⟩;have tl:X.length<=26:=by omega
  clear n8 i9 o1 v5 b5;refine⟨(szl 0),λlw f2=>?_⟩;have n9:lw≠p:=Ne.symm (v6.ne f2);have m0:ln≠lw:=ai c1 f2;have l7:lt≠lw:=by obtain⟨r,h1,_⟩:=g0;exact ai h1 f2
  have q9:H lw=none:=b6.free n9 f2;obtain⟨_,a7,e0,p0,k0⟩:=de i3;cases e0;have r0:=k0.len;rw[BQ] at r0;have x5:=T.few;obtain⟨J,eJ⟩:∃J:Prs->Hp->Prop,J=λl g=>Lp g lw l/\(WnL G l/\l.Nodup)/\Lp g lt X/\g ln=some (.lst (List.map V.str W))/\g kt=some (.tup a7)/\RepAll g a7 (G.map bP)/\DPV g p a/\But p H g:=⟨_,rfl⟩
  have Js:∀l g S,J l g->Same g S->J l S:=λl g S h s=>by
   rw[eJ] at h ⊢;obtain⟨h1,U,h3,h4,h5,h6,h7,h8⟩:=h;exact⟨h1.same s,U,h3.same s,s _ _ h4,s _ _ h5,h6.same s,h7.same s,h8.trans (But.of_same s)⟩
  have Jd:∀l g S,J l g->But p g S->DPV S p a->J l S:=λl g S h b v=>by
   rw[eJ] at h ⊢;obtain⟨h1,U,h3,h4,h5,h6,h7,h8⟩:=h;obtain⟨ys,hp⟩:=h7.at_dK;exact⟨h1.but hp b,U,h3.but hp b,b _ _ f5 h4,di hp b h5,dG (io hp b) h6,v,h8.trans b⟩
  have Ji:∀l g (C:LV) (t:Addr) (e:Str × Str) (m:Nat),J l g->g lw=some (.lst C)->RepAll g C (l.map aE)->g t=some (.tup [.str e.1,.str e.2])->((e.1="first"/\∃k∈G,k.2.head? = some e.2)∨(e.1="last"/\∃k∈G,k.2.getLast? = some e.2))->e∉l->J (l.take m++e::l.drop m) (upd g lw (.lst (C.take m++.ref t::C.drop m))):=λl g C t e m h L a5 ht A q3=>by
   rw[eJ] at h ⊢;obtain⟨h1,U,h3,h4,h5,h6,h7,h8⟩:=h;refine⟨Lp.ins L a5 m ht,⟨λx hx=>?_,uW U.2 q3⟩,h3.other L l7,by rw[ag m0];exact h4,by rw[ag (aZ h5 L (by intro z;cases z))];exact h5,aP (dh L But.upd) h6,h7.upd (Ne.symm n9),h8.at q9⟩;rcases gy hx with rfl | hx
   ·exact A
   ·exact U.1 x hx
  have J0:J [] (upd H6 lw (.lst [])):=by
   rw[eJ];have s:=Same.new (o:=.lst []) f2;exact⟨⟨[],ae,.nil⟩,⟨(λe A=>by cases A),DG⟩,g0.same s,s _ _ c1,s _ _ p0,k0.same s,v6.same s,b6.trans (But.of_same s)⟩
  have Jv:∀l g,J l g->DPV g p a/\But p H g/\g kt=some (.tup a7)/\RepAll g a7 (G.map bP)/\Lp g lw l:=λl g h=>by rw[eJ] at h;exact⟨h.2.2.2.2.2.2.1,h.2.2.2.2.2.2.2,h.2.2.2.2.1,h.2.2.2.2.2.1,h.1⟩
  generalize upd H6 lw (.lst [])=H7 at J0 ⊢;refine⟨_,rfl,kt,rfl,⟨_,.of (Jv _ _ J0).2.2.1⟩,?_⟩
  let n6:Nat->SH:=λi σ g=>∃(o5 o6 o7 o8 o9 d2 d5:Option V) (l:Prs),σ=[some (.ref p),some (.int 13),some (.ref ln),some (.ref kt),some (.ref lt),o5,o6,o7,o8,o9,some (.ref lw),d2,d5,none,none]/\J l g/\(∀e∈l,∃k∈G.take i,e.2∈k.2)/\l.length<=2 * i
  refine cu (R:=Q) (xs:=a7) n6 ⟨o5,o6,o7,o8,o9,none,none,[],rfl,J0,(λe A=>by cases A),Cu _⟩ ?_ ?_ ?_
  ·rintro i σ g hi ⟨_,_,_,_,_,_,_,l,rfl,j,_⟩;exact .of (Jv _ _ j).2.2.1
  ·rintro _ i x σ H8 hx ⟨o5, o6, o7, o8, o9, d2, d5, l, rfl, j8, wt, wl⟩;obtain⟨v8,b8,f0,d0,_⟩:=Jv _ _ j8;obtain⟨kn,ta,la,f6,rfl,s8,l0⟩:=eV d0 hx;have l6:=BW f6;have x4:=(BU.mp f6).1;have up1:∀k,k∈G.take i->k∈G.take (i+1):=λk hk=>by rw[Cf];exact CM _ hk
   have p5:kn∈G.take (i+1):=by rw[Cf,f6];exact CN _ (by show kn∈[kn];simp)
   refine⟨ta,_,rfl,.of s8,rfl,_,_,rfl,_,_,rfl,rfl,?_⟩;refine⟨_,rfl,p,a,6,rfl,hP.but b8 v8,by decide,by decide,λpk H9 _ _ v9 b9=>?_⟩;obtain⟨x6,v0⟩:=v8.at_dK;have j9:=Jd _ _ _ j8 b9 v9;have p3:=di v0 b9 l0;refine dA ?_;dsimp only;refine gF (λg5 g=>∃(l:Prs) (o5 o6 o7 o8:Option V),g5=[some (.ref p),some (.int 13),some (.ref ln),some (.ref kt),some (.ref lt),o5,o6,o7,o8,some (.ref la),some (.ref lw),some (.str kn.1),some (.int pk),none,none]/\J l g/\(∀e∈l,(∃k∈G.take i,e.2∈k.2)∨(e.1="first"/\e.2∈kn.2))/\l.length<=2 * i+1/\g la=some (.tup (kn.2.map V.str))) ?_ ?_
   ·rintro g5 HA ⟨l,o5,o6,o7,o8,rfl,jA,o0,x3,I⟩;have k5:∀e∈l,∃k∈G.take (i+1),e.2∈k.2:=λe A=>by
     rcases o0 e A with⟨k,hk,q⟩ | ⟨_,q⟩
     ·exact⟨k,up1 k hk,q⟩
     ·exact⟨kn,p5,q⟩
    refine⟨_,rfl,_,_,rfl,Or.inr ⟨_,.of I,rfl⟩,_,_,rfl,rfl,_,rfl,av (λh=>?_) (λ_=>cR ⟨_,_,_,_,_,_,_,l,rfl,jA,k5,by omega⟩)⟩;have h:(1:Int)<(((kn.2.map V.str).length:Nat):Int):=Ch h;rw[BQ] at h;refine⟨_,rfl,(szl 2),λtq j0=>.seq (.inr (.of ae)) rfl rfl ⟨_,rfl,?_⟩⟩;refine nw j0 λHB sB _=>?_;have jB:=Js _ _ _ jA sB;have e5:=sB _ _ I;refine av (λ_=>?_) (λ_=>⟨_,_,_,_,_,_,_,l,rfl,jB,k5,by omega⟩);obtain⟨vB,bB,_,_,C,L,a5⟩:=Jv _ _ jB;have rl:=a5.len;rw[BQ] at rl;obtain⟨w6,k7⟩:=vB.at_dK;refine⟨_,rfl,.inl ⟨rfl,_,.of L⟩,_,rfl,_,rfl,_,_,rfl,Or.inl ⟨_,.of L,rfl⟩,.int ⟨p,a,_,rfl,hP.but bB vB,by omega,by omega,λr3 HC l4 w7 vC bC=>?_⟩⟩;have jC:=Jd _ _ _ jB bC vC;have e8:=di k7 bC e5;obtain⟨_,_,_,_,d8,a9,c6⟩:=Jv _ _ jC;have j2:=c6.len;rw[BQ] at j2;obtain⟨m,rfl⟩:=CU l4;obtain⟨z,hz⟩:∃z,kn.2.getLast? = some z:=by
     cases q:kn.2.getLast? with
     | none=>rw[List.getLast?_eq_none_iff] at q;rw[q] at h;exact absurd h (by decide)
     | some z=>exact⟨z,rfl⟩
    have az:atI (kn.2.map V.str) (-1)=some (.str z):=by
     obtain⟨ys,e⟩:=List.getLast?_eq_some_iff.mp hz;rw[e,BX];exact jw _ _
    refine⟨_,rfl,_,rfl,.tup (.of e8) az (ap ⟨(szl 2),λt2 U=>?_⟩)⟩;refine nw U λHD Y e2=>?_;have jD:=Js _ _ _ jC Y;have a9:=Y _ _ a9;have c6:=c6.same Y;refine ap ⟨lw,_,_,m,_,rfl,rfl,rfl,a9,by omega,by omega,?_⟩;have g7:z∈kn.2:=List.mem_of_getLast? hz;refine⟨_,_,_,_,_,_,_,_,rfl,Ji _ _ d8 t2 ("last",z) m jD a9 c6 e2 (.inr ⟨rfl,kn,l6,hz⟩) (λw=>?_),λe A=>?_,?_⟩
    ·rcases o0 _ w with q | ⟨q,_⟩
     ·exact nO T f6 g7 q
     ·exact absurd (show ("last":Str)="first" from q) (by decide)
    ·rcases gy A with rfl | A
     ·exact⟨kn,p5,g7⟩
     ·exact k5 e A
    rw[Cj,Cs,Ck,CV];omega
   ·intro N hN;have o2:∀g,J l g->g la=some (.tup (kn.2.map V.str))->N [some (.ref p),some (.int 13),some (.ref ln),some (.ref kt),some (.ref lt),o5,o6,o7,o8,some (.ref la),some (.ref lw),some (.str kn.1),some (.int pk),none,none] g:=λg j h=>hN _ _ ⟨l,_,_,_,_,rfl,j,λe A=>.inl (wt e A),by omega,h⟩;refine⟨_,rfl,(szl 0),λt0 h0=>?_⟩;have sA:=Same.new (o:=.tup []) h0;have jA:=Js _ _ _ j9 sA;have I:=sA _ _ p3;refine⟨la,t0,_,rfl,rfl,.of I,ae,_,rfl,?_⟩;generalize upd H9 t0 (.tup [])=HA at sA jA I ⊢;cases ek:kn.2 with
    | nil=>exact cR (o2 _ jA I)
    | cons z r =>
     refine iJ ⟨_,rfl,(szl 2),λtq j0=>.seq (.inr (.of ae)) rfl rfl ⟨_,rfl,?_⟩⟩;refine nw j0 λHB sB _=>?_;have jB:=Js _ _ _ jA sB;have e5:=sB _ _ I;refine av (λ_=>?_) (λ_=>o2 _ jB e5);obtain⟨vB,bB,_,_,C,L,a5⟩:=Jv _ _ jB;have rl:=a5.len;rw[BQ] at rl;obtain⟨w6,k7⟩:=vB.at_dK;refine⟨_,rfl,.inl ⟨rfl,_,.of L⟩,_,rfl,_,rfl,_,_,rfl,Or.inl ⟨_,.of L,rfl⟩,.int ⟨p,a,_,rfl,hP.but bB vB,by omega,by omega,λr3 HC l4 w7 vC bC=>?_⟩⟩;have jC:=Jd _ _ _ jB bC vC;have e8:=di k7 bC e5;obtain⟨_,_,_,_,d8,a9,c6⟩:=Jv _ _ jC;have j2:=c6.len;rw[BQ] at j2;obtain⟨m,rfl⟩:=CU l4;have az:atI (kn.2.map V.str) 0=some (.str z):=by rw[ek];exact at0
     refine⟨_,rfl,.tup (.of e8) az (ap ⟨(szl 2),λt2 U=>?_⟩)⟩;refine nw U λHD Y e2=>?_;have jD:=Js _ _ _ jC Y;have i6:=Y _ _ e8;have a9:=Y _ _ a9;have c6:=c6.same Y;refine ap ⟨lw,_,_,m,_,rfl,rfl,rfl,a9,by omega,by omega,?_⟩;have g7:z∈kn.2:=by rw[ek];exact CW ..
     refine hN _ _ ⟨_,_,_,_,_,rfl,Ji _ _ d8 t2 ("first",z) m jD a9 c6 e2 (.inl ⟨rfl,kn,l6,by rw[ek];rfl⟩) (λw=>nO T f6 g7 (wt _ w)),λe A=>(gy A).elim (λq=>.inr (by rw[q];exact⟨rfl,g7⟩)) λq=>.inl (wt e q),?_,by rw[ag (aZ i6 a9 (by intro z;cases z))];exact i6⟩;rw[Cj,Cs,Ck,CV];omega
  ·rintro σ H8 ⟨o5, o6, o7, o8, o9, d2, d5, l, rfl, j8, _, wl⟩;have wl:l.length<=122:=by omega
   rw[eJ] at j8;obtain⟨⟨g2,g6,i0⟩,⟨k8,q0⟩,⟨k9,c9,c0⟩,d1,f0,d0,v8,b8⟩:=j8;clear Js Jd Ji J0 Jv eJ;refine⟨_,rfl,_,rfl,lt,_,rfl,.of c9,λtt d7=>⟨(szl 0),λte b0=>⟨_,rfl,lw,g2,rfl,.of (Same.new b0 _ _ (Same.new d7 _ _ g6)),λtw a0=>ap ⟨(szl 4),λhq d3=>?_⟩⟩⟩⟩
   ·revert b0 a0 d3; refine nw d7 λH9 s1 e1 => ?_; intro b0 a0 d3;revert a0 d3;refine nw b0 λHA Y e2=>?_;intro a0 d3;have e1:=Y _ _ e1;have i4:=s1.trans Y;revert d3;refine nw a0 λHB s3 e3=>?_;intro d3;have e1:=s3 _ _ e1;have e2:=s3 _ _ e2;have i2:=i4.trans s3;have s4:=Same.new (o:=.tup [V.ref kt,V.ref tt,V.ref te,V.ref tw]) d3;have e4:upd HB hq (.tup [V.ref kt,V.ref tt,V.ref te,V.ref tw]) hq=some (.tup [V.ref kt,V.ref tt,V.ref te,V.ref tw]):=ae;have sC:=i2.trans s4;have rh:Rep (upd HB hq (.tup [V.ref kt,V.ref tt,V.ref te,V.ref tw])) (.ref hq) (aK G X [] l):=cK e4 (.tup (sC _ _ f0) (d0.same sC)) (.tup (s4 _ _ e1) (c0.same sC)) (.tup (s4 _ _ e2) .nil) (.tup (s4 _ _ e3) (i0.same sC));have i5:Rep (upd HB hq (.tup [V.ref kt,V.ref tt,V.ref te,V.ref tw])) (.ref kt) (cA G):=.tup (sC _ _ f0) (d0.same sC);have vC:=v8.same sC;have bC:=b8.trans (But.of_same (p:=p) sC);have d4:=sC _ _ d1;have j4:Lp (upd HB hq (.tup [V.ref kt,V.ref tt,V.ref te,V.ref tw])) lt X:=⟨k9,sC _ _ c9,c0.same sC⟩
    have l3:Lp (upd HB hq (.tup [V.ref kt,V.ref tt,V.ref te,V.ref tw])) lw l:=⟨g2,sC _ _ g6,i0.same sC⟩
    generalize upd HB hq (.tup [V.ref kt,V.ref tt,V.ref te,V.ref tw])=HC at rh i5 vC bC d4 j4 l3 ⊢;clear s1 i4 i2 s4 sC e1 e2 e3 e4 d3 a0 b0 d7 g6 i0 c9 c0 d1 f0 d0 v8 b8 g0 c1 i3 v6 b6 p0 k0 f2;refine⟨(szl 0),λlx f3=>?_⟩;have m6:lx≠p:=Ne.symm (vC.ne f3);have m3:ln≠lx:=ai d4 f3;have l9:lt≠lx:=by obtain⟨r,h1,_⟩:=j4;exact ai h1 f3
    have m5:lw≠lx:=by obtain⟨r,h1,_⟩:=l3;exact ai h1 f3
    have w4:H lx=none:=bC.free m6 f3;have k3:dE W X:=λe A=>⟨(ti e A).1,(ti e A).2.1⟩
    obtain⟨J,eJ⟩:∃J:Prs->Hp->Prop,J=λO g=>Lp g lx O/\(dE W O/\WsR G X l O)/\Lp g lt X/\Lp g lw l/\g ln=some (.lst (List.map V.str W))/\Rep g (.ref hq) (aK G X [] l)/\Rep g (.ref kt) (cA G)/\DPV g p a/\But p H g:=⟨_,rfl⟩
    have Js:∀O g S,J O g->Same g S->J O S:=λO g S h s=>by
     rw[eJ] at h ⊢;obtain⟨h1,U,h3,h4,h5,h6,h7,h8,h9⟩:=h;exact⟨h1.same s,U,h3.same s,h4.same s,s _ _ h5,h6.same s,h7.same s,h8.same s,h9.trans (But.of_same s)⟩
    have Jd:∀O g S,J O g->But p g S->DPV S p a->J O S:=λO g S h b v=>by
     rw[eJ] at h ⊢;obtain⟨h1,U,h3,h4,h5,h6,h7,h8,h9⟩:=h;obtain⟨ys,hp⟩:=h8.at_dK;exact⟨h1.but hp b,U,h3.but hp b,h4.but hp b,b _ _ f5 h5,ia hp b h6,dg hp b h7,v,h9.trans b⟩
    have J0:J [] (upd HC lx (.lst [])):=by
     rw[eJ];have s:=Same.new (o:=.lst []) f3;exact⟨⟨[],ae,.nil⟩,⟨(λe A=>by cases A),(λe A=>by cases A)⟩,j4.same s,l3.same s,s _ _ d4,rh.same s,i5.same s,vC.same s,bC.trans (But.of_same s)⟩
    have Jv:∀O g,J O g->DPV g p a/\But p H g/\g ln=some (.lst (List.map V.str W))/\Rep g (.ref hq) (aK G X [] l)/\Rep g (.ref kt) (cA G)/\Lp g lx O/\Lp g lt X/\(dE W O/\WsR G X l O)/\Lp g lw l:=λO g h=>by rw[eJ] at h;exact⟨h.2.2.2.2.2.2.2.1,h.2.2.2.2.2.2.2.2,h.2.2.2.2.1,h.2.2.2.2.2.1,h.2.2.2.2.2.2.1,h.1,h.2.2.1,h.2.1,h.2.2.2.1⟩
    have Ja:∀O g (C:LV) (t:Addr) (e:Str × Str),J O g->g lx=some (.lst C)->RepAll g C (O.map aE)->g t=some (.tup [.str e.1,.str e.2])->e.1∈W->e.2∈W->(∃k∈G,∃x y,aI G e.1 e.2=some (k.1,x,y)/\MG.Rch (Tie (aL G X l k.1 k.2)) y x)->J (O++[e]) (upd g lx (.lst (C++[.ref t]))):=λO g C t e h L a5 ht q1 s5 q5=>by
     rw[eJ] at h ⊢;obtain⟨h1,U,h3,h4,h5,h6,h7,h8,h9⟩:=h;refine⟨Lp.app L a5 ht,⟨λx hx=>?_,λx hx=>?_⟩,h3.other L l9,h4.other L m5,by rw[ag m3];exact h5,nz L But.upd h6,fO L But.upd h7,h8.upd (Ne.symm m6),h9.at w4⟩
     ·rcases Cb.mp hx with hx | hx
      ·exact U.1 x hx
      ·rw[Cr.mp hx];exact⟨q1,s5⟩
     ·rcases Cb.mp hx with hx | hx
      ·exact U.2 x hx
      ·rw[Cr.mp hx];exact q5
    generalize upd HC lx (.lst [])=HD at J0 ⊢;obtain⟨vD,bD,_⟩:=Jv _ _ J0;refine⟨_,rfl,p,a,7,rfl,hP.but bD vD,by decide,by decide,λs6 HE w0 w1 vE bE=>?_⟩;have jE:=Jd _ _ _ J0 bE vE;refine⟨_,rfl,by omega,by omega,?_⟩
    let n5:Nat->SH:=λi σ g=>∃(o5 o6 o7 o8 o9 d2 d5:Option V) (O:Prs),σ=[some (.ref p),some (.int 13),some (.ref ln),some (.ref kt),some (.ref lt),o5,o6,o7,o8,o9,some (.ref lw),d2,d5,some (.ref hq),some (.ref lx)]/\J O g/\O.length<=i
    refine fy (R:=Q) n5 ⟨o5,o6,o7,o8,o9,d2,d5,[],rfl,jE,Cu _⟩ ?_ ?_
    ·rintro _ i σ H9 hi ⟨o5,o6,o7,o8,o9,d2,d5,O,rfl,j9,j7⟩;have hi:i<7:=by
      have:i<(s6-0).toNat:=by simpa using hi
      omega
     obtain⟨v9,b9,e7,_⟩:=Jv _ _ j9;refine⟨_,rfl,_,rfl,_,rfl,_,_,rfl,Or.inl ⟨_,.of e7,rfl⟩,p,a,_,rfl,hP.but b9 v9,by rw[a4];omega,by rw[a4];omega,λr7 HF j6 l2 t3 r9=>?_⟩;obtain⟨u,hu,ax⟩:=c4 r7 j6 l2;have jF:=Jd _ _ _ j9 r9 t3;obtain⟨vF,bF,i7,_⟩:=Jv _ _ jF;refine .lst (.of i7) ax ?_;refine⟨_,rfl,_,rfl,_,rfl,_,_,rfl,Or.inl ⟨_,.of i7,rfl⟩,p,a,_,rfl,hP.but bF vF,by rw[a4];omega,by rw[a4];omega,λr8 HG j3 k1 s0 u7=>?_⟩;obtain⟨v,hv,ay⟩:=c4 r8 j3 k1;have jG:=Jd _ _ _ jF u7 s0;obtain⟨vG,bG,m4,_,w3,_⟩:=Jv _ _ jG;refine .lst (.of m4) ay ?_;refine⟨_,rfl,_,rfl,_,rfl,kt,W,G,u,v,rfl,w3,T,hu,hv,λx HI sI f1=>?_⟩;have jI:=Js _ _ _ jG sI;cases qp:aI G u v with
     | none =>
      rw[qp] at f1;have f1:x=.non:=f1;subst f1;refine⟨_,rfl,.non ⟨_,rfl,av (λh=>absurd h (by decide)) (λ_=>cR ?_)⟩⟩;exact⟨_,_,_,_,_,_,_,O,rfl,jI,by omega⟩
     | some pp =>
      obtain⟨kq,u1,v1⟩:=pp;rw[qp] at f1;obtain⟨t,rfl,ht⟩:=f1;obtain⟨pu,pv,mu,mv,ne⟩:=T.part hu hv qp;refine⟨_,rfl,.non ⟨_,rfl,av (λ_=>?_) (λh=>absurd (by simp) h)⟩⟩;obtain⟨_,_,_,_,_,⟨xr,a1,a2⟩,⟨tr,c9,c0⟩,⟨j5,_⟩,_⟩:=Jv _ _ jI;have xl:=a2.len;have t8:=c0.len;rw[BQ] at xl t8;refine⟨_,rfl,_,rfl,(szl 2),λt1 h1=>?_⟩;refine nw h1 λHK s1 e1=>?_;have jK:=Js _ _ _ jI s1;have r2:=s1 _ _ ht;have a1:=s1 _ _ a1;have c9:=s1 _ _ c9;have a2:=a2.same s1;have c0:=c0.same s1;refine⟨_,rfl,_,rfl,.lst c9 a1 (by omega) λlq t7=>?_⟩;have Y:=Same.new (o:=.lst (tr++xr)) t7;have e2:upd HK lq (.lst (tr++xr)) lq=some (.lst (tr++xr)):=ae;have jL:=Js _ _ _ jK Y;have i1:=Y _ _ r2;have e1:=Y _ _ e1;have rq:RepAll (upd HK lq (.lst (tr++xr))) (tr++xr) ((X++O).map aE):=by rw[BX];exact RepAll.append (c0.same Y) (a2.same Y)
      generalize upd HK lq (.lst (tr++xr))=HL at Y e2 jL i1 e1 rq ⊢;have u2:dE W (X++O):=λe A=>(Cb.mp A).elim (k3 e) (j5 e);refine .tr e2 rq (aO (s:=u) (t:=v) e1) (aS (o4 u2)) (cX (d6 _ hu) (d6 _ hv)) (by show 1<=16;decide) ⟨_,rfl,?_⟩;refine av (λ_=>?_) (λ_=>⟨_,_,_,_,_,_,_,O,rfl,jL,by omega⟩);obtain⟨kn,c5,c2⟩:=BY.mp (T.par_in mu).2;rw[pu] at c2;obtain⟨a8,c⟩:=kn;have c2:a8=kq:=c2;subst c2;obtain⟨_,_,_,t4,_⟩:=Jv _ _ jL;refine⟨_,rfl,.tup (.of i1) at1 ⟨_,rfl,_,rfl,.tup (.of i1) at0 (ap ⟨hq,W,G,X,[],l,a8,c,rfl,t4,T,ti,λe A=>?_,c5,by omega,by omega,λle er es HM sM w8 t6 q8 el r6 q2=>?_⟩)⟩⟩
      ·rcases k8 e A with⟨_,k',k2,hh⟩ | ⟨_,k',k2,hh⟩
       ·exact T.isIn k2 (List.mem_of_mem_head? hh)
       ·exact T.isIn k2 (List.mem_of_getLast? hh)
      ·have jM:=Js _ _ _ jL sM;have r4:=sM _ _ i1;refine⟨_,rfl,.tup (.of r4) at2 (ap ⟨le,er,W,es,v1,rfl,t6,q8,r6,mv,T.len,λlr w9 HN sN x0 t9 p4 p9=>?_⟩)⟩;have jN:=Js _ _ _ jM sN;refine .seq (.inl (.of t9)) rfl (cp _) ⟨_,rfl,av (λm9=>?_) (λ_=>⟨_,_,_,_,_,_,_,O,rfl,jN,by omega⟩)⟩;rw[if_neg (show ¬ false=true by decide),dU] at m9;have m1:MG.Rch (Tie (aL G X l a8 c)) v1 u1:=iO (λx hx=>(dO (λe A=>(k8 e A).elim (λz=>.inl z.1) λz=>.inr z.1) x).mp ((q2 x).mp hx)) ((p4 u1).mp (Ch m9));obtain⟨_,_,_,_,_,⟨xr,a1,a2⟩,_⟩:=Jv _ _ jN;have xl:=a2.len;rw[BQ] at xl;refine⟨_,rfl,.inl ⟨rfl,_,.of a1⟩,_,rfl,_,rfl,(szl 2),λt2 U=>?_⟩;refine nw U λy0 s3 e3=>?_;have jO:=Js _ _ _ jN s3;have a1:=s3 _ _ a1;have a2:=a2.same s3;refine ap ⟨lx,_,_,rfl,rfl,a1,by omega,?_⟩;refine⟨_,_,_,_,_,_,_,O++[(u,v)],rfl,Ja _ _ xr t2 (u,v) jO a1 a2 e3 hu hv ⟨(a8,c),c5,u1,v1,qp,m1⟩,?_⟩;rw[Cj];show O.length+1<=i+1;omega
    ·rintro σ H9 ⟨o5,o6,o7,o8,o9,d2,d5,O,rfl,j9,j7⟩;have j7:O.length<=7:=by omega
     obtain⟨v9,b9,_,_,f8,⟨xr,a1,a2⟩,⟨tr,c9,c0⟩,⟨j5,q4⟩,⟨wr,g6,i0⟩⟩:=Jv _ _ j9;refine⟨_,rfl,_,rfl,lt,tr,rfl,.of c9,λtt d7=>⟨_,rfl,lx,xr,rfl,.of (Same.new d7 _ _ a1),λte b0=>⟨_,rfl,lw,wr,rfl,.of (Same.new b0 _ _ (Same.new d7 _ _ g6)),λtw a0=>ap ⟨(szl 4),λq d9=>?_⟩⟩⟩⟩;revert b0 a0 d9;refine nw d7 λHF s1 e1=>?_;intro b0 a0 d9;revert a0 d9;refine nw b0 λHG Y e2=>?_;intro a0 d9;have e1:=Y _ _ e1;have i4:=s1.trans Y;revert d9;refine nw a0 λHI s3 e3=>?_;intro d9;have e1:=s3 _ _ e1;have e2:=s3 _ _ e2;have i2:=i4.trans s3;have s4:=Same.new (o:=.tup [V.ref kt,V.ref tt,V.ref te,V.ref tw]) d9;have sC:=i2.trans s4;exact k q W G X O l _ (cK ae (f8.same sC) (.tup (s4 _ _ e1) (c0.same sC)) (.tup (s4 _ _ e2) (a2.same sC)) (.tup (s4 _ _ e3) (i0.same sC))) T hd ⟨by omega,by omega⟩ ti j5 k8 q0 tf q4 tl j7 wl (v9.same sC) (b9.trans (But.of_same sC))
def KI (kvs:KV_) (us:LS):Prop:=∀z,aD kvs z≠none->∃u∈us,z=.inr u
theorem KI.nil {us:LS}:KI [] us:=λz h=>absurd rfl h
theorem KI.put {kvs:KV_}{us:LS}{u:Str}{v:V}(h:KI kvs us) (b:u∈us):KI (bj kvs (.inr u) v) us:=λz a=>by
 by_cases q:z=.inr u
 ·exact⟨u,b,q⟩
 ·rw[cG,if_neg q] at a;exact h z a
def iQ:Sp:=λvs H Q _=>∃(q:_) (us:LS) (ks ts ws wn:_),vs=[.ref q]/\Rep H (.ref q) (aK ks ts ws wn)/\Tre us ks/\∀d kvs H',Same H H'->H d=none->H' d=some (.dK kvs)->ArK kvs us ks->KI kvs us->kvs.length<=us.length->Q (.ref d) H'
theorem wu {f:Addr}{fd:FuncData}(F:Fun K "homes" "homes" tx f fd) (B:Blt mg):FnOk P w K mg base CX0 1 f fd ["house"] iQ := by
 refine F.ok1 ["house","table","knot","child"] λS H Q E D h=>?_;obtain⟨q,X,M,ts,ws,wn,rfl,R,T,k⟩:=h;refine⟨_,(aa (pst 1 S fG)
  (aa (bc PassesOwn.never rfl (bf K (px K D (pv 0) ac)) (am (i:=2) S rfl (Or.inl rfl)) (af (bc PassesOwn.never rfl (bf K (px K D (pv 2) ac)) (am (i:=3) S rfl (Or.inl rfl)) (af (cn (px K D (pv 2) ac) (cO (pv 1) (pv 3) (dy D.units)))))))
  (af (ao (pv 1))))),?_⟩
 obtain⟨q',a,b,c,d4,L,hq,R1,_⟩:=bd R;cases L;obtain⟨a',t,L,Y,Z⟩:=de R1;cases L;have l:=Z.len;rw[BQ] at l;have J:(aT M).length<=60:=by rw[T.perm.length_eq];exact T.len
 intro d N;have O:=Same.new (o:=.dK []) N;refine⟨_,rfl,.tup (.of (O _ _ hq)) rfl ⟨a,rfl,⟨_,.of (O _ _ Y)⟩,?_⟩⟩
 let A:Nat->SH:=λi r n=>∃I m e,r=[some (.ref q),some (.ref d),I,m]/\ArN H n d M i 0 e/\KI e X
 refine cu (R:=Q) (xs:=t) A ?_ ?_ ?_ ?_
 ·exact⟨none,none,[],rfl,⟨O,ae,Cu _,(λk s=>by simp at s),λk _ u C=>by simp at C⟩,KI.nil⟩
 ·rintro i r n hi ⟨I,m,e,rfl,g,p⟩;exact .of (g.sm _ _ Y)
 ·rintro _ i x r n hx ⟨I,m,e,rfl,g,p⟩;obtain⟨U,ta,la,s,rfl,v,z⟩:=eV Z hx;refine⟨_,rfl,.tup (.of (g.sm _ _ v)) rfl ⟨la,rfl,⟨_,.of (g.sm _ _ z)⟩,?_⟩⟩
  let G:Nat->SH:=λj r n=>∃m e,r=[some (.ref q),some (.ref d),some (.ref ta),m]/\ArN H n d M i j e/\KI e X
  refine cu (R:=Q) (xs:=U.2.map V.str) G ?_ ?_ ?_ ?_
  ·exact⟨m,e,rfl,g,p⟩
  ·rintro j r n hj ⟨m,e,rfl,g,p⟩;exact .of (g.sm _ _ z)
  ·rintro _ j y r n hy ⟨m,e,rfl,g,p⟩;obtain⟨u,C,rfl⟩:=bp hy;have D:=g.room s (BU.mp C).1 J;exact⟨_,rfl,.tup (.of (g.sm _ _ v)) rfl ⟨_,rfl,_,rfl,.dic (DPut.k (k:=.inr u) g.at_ (aj (by omega))) ⟨_,_,rfl,g.put N T.knd s C,p.put (T.perm.mem_iff.mp (Dj.mpr ⟨U,BW s,BW C⟩))⟩⟩⟩
  ·rintro r n ⟨m,e,rfl,g,p⟩;rw[BQ] at g;exact⟨_,_,e,rfl,g.next s rfl,p⟩
 ·rintro r n ⟨I,m,e,rfl,g,p⟩;exact⟨_,rfl,k d e n g.sm N g.at_ (g.fin T l) p (by have W:=g.len;rw[l,Cd (BR _),T.perm.length_eq] at W;exact W)⟩
def ft:Sp:=λvs H Q _=>∃(q us ks ts ws wn:_) (k:Str × LS),vs=[.ref q,.str k.1]/\Rep H (.ref q) (aK ks ts ws wn)/\Tre us ks/\k∈ks/\∀l H',Same H H'->H l=none->H' l=some (.lst (List.map V.str k.2))->Q (.ref l) H'
theorem pM {f:Addr}{fd:FuncData}(F:Fun K "children" "children" lY f fd) (B:Blt mg):FnOk P w K mg base CX0 1 f fd ["house","knot"] ft:=by
 refine F.ok1 ["house","knot"] λL H Q E i h=>?_;obtain⟨q,I,C,M,y,A,r,rfl,R,T,g,k⟩:=h;refine⟨_,(af (ao (gs K rfl B (p1 (px K i (gB K rfl i.units B (p1 (px K i (pv 0) ac))) (pv 1)))))),?_⟩;obtain⟨G,a,b,c,x,t,s,u,_⟩:=bd R;cases t;refine⟨_,rfl,.tup (.of s) rfl (ap (ei u T λD j v m=>?_))⟩;obtain⟨J,n,e⟩:=m r g;have d:=Same.new (o:=.dK j) v;refine⟨_,rfl,.dic (.inl ⟨j,.inr r.1,.inl ae,rfl,n.symm⟩) ?_⟩;generalize upd H D (.dK j)=z at d ⊢;refine ap ⟨_,rfl,.seq (.inr (.of (d _ _ e))) λl p=>?_⟩;exact k l _ (d.trans (Same.new p)) (aW d p) ae
theorem gQ:Nm "first":=by refine⟨by decide +kernel,by decide +kernel,?_⟩;decide +kernel
theorem pY:Nm "last":=by refine⟨by decide +kernel,by decide +kernel,?_⟩;decide +kernel
theorem gN {z:Str}(h:z="first"∨z="last"):Nm z:=by
 rcases h with rfl | rfl
 ·exact gQ
 ·exact pY
def nK (us:LS) (wn:List (Str × Str)):Prop:=∀e∈wn,(e.1="first"∨e.1="last")/\e.2∈us
def oF:Sp:=λvs H Q _=>∃(q l:_) (us c:LS) (ks ts ws wn word:_),vs=[.ref q,.ref l,.str word]/\Rep H (.ref q) (aK ks ts ws wn)/\Tre us ks/\nK us wn/\(word="first"∨word="last")/\H l=some (.lst (List.map V.str c))/\(∀u∈c,Nm u)/\c.length<=60/\∀D H',Same H H'->H D=none->H' D=some (.lst (List.map V.str (wU c wn word)))->Q (.ref D) H'
theorem tz {f:Addr}{fd:FuncData}(F:Fun K "wanted" "wanted" lA f fd) (B:Blt mg):FnOk P w K mg base CX0 1 f fd ["house", "row", "word"] oF := by
 refine F.ok1 ["house","row","word"] λnd H Q E X h=>?_;obtain⟨q,l,us,c,ks,ts,ws,s,d,rfl,R,T,x,hw,S,I,cl,k⟩:=h;refine⟨_,(af (ao (cC (au lA) ["house","row","word"] [2,0] "child" ["word","house"] (be K (pv 1)) (bx (ah (fF X.units) (aF (p2 (pv 1) (pv 0))) (px K X (pv 2) ac) (by with_unfolding_all rfl))) (pv 0)))),?_⟩;obtain⟨q',a,b,c3,d4,J,hq,_,_,_,R4⟩:=bd R;cases J;obtain⟨a1,G,J,C,O⟩:=ba R4;cases J;have N:PyData.canLayAll0 (s.map aE)=true:=aS λe W=>⟨gN (x e W).1,T.nm _ (x e W).2⟩
 refine⟨_,rfl,l,rfl,⟨_,.of S⟩,?_⟩;refine bU (List.map V.str c) (λD j p r z=>∃(A:Option V),r=[A,some (.str d),some (.ref q)]/\p=List.map V.str (wU (c.take j) s d)/\Same H z/\H D=none) λD Y=>⟨?_,?_,?_,?_⟩
 ·exact⟨none,rfl,rfl,Same.new Y,Y⟩
 ·rintro j p r z _ ⟨A,rfl,_,y,_⟩ _;exact .of (y _ _ S)
 ·rintro j p r z v hv ⟨A,rfl,rfl,y,i⟩ g;obtain⟨u,L,rfl⟩:=bp hv;have a0:=(BU.mp L).1;have o:wU (c.take (j+1)) s d=wU (c.take j) s d++(if (decide ((d,u)∈s))=true then [u] else []):=by
   unfold wU;rw[Cf,L,CH];congr 1;show List.filter _ [u]=_;rw[List.filter_cons,List.filter_nil]
  have U:(wU (c.take j) s d).length<=j:=by
   have:=CG (λu=>decide ((d,u)∈s)) (c.take j);rw[Ck] at this;unfold wU;omega
  dsimp only[aX];refine⟨_,rfl,_,rfl,(szl 2),λt ht=>?_⟩;refine nw ht λH2 Z et=>?_;have m:=Z _ _ g;have n:=y.trans Z;refine⟨_,rfl,.tup (.of (n _ _ hq)) rfl ⟨d4,G,_,aE (d,u),rfl,n _ _ C,O.same n,aO et,N,eH (e:=(d,u)) ⟨gN hw,I u (BW L)⟩,(by show 1<=16;decide),_,rfl,?_⟩⟩;rw[if_neg (show ¬ false=true by decide),dQ];refine av (λM=>?_) (λM=>?_)
  ·rw[if_pos M] at o;exact⟨_,rfl,m,by rw[BQ];exact aj (by omega),_,rfl,by rw[o,BX];rfl,aV n i,i⟩
  ·rw[if_neg M,CB] at o;exact⟨m,_,rfl,by rw[o],n,i⟩
 ·rintro p r z ⟨A,rfl,rfl,y,i⟩ g;rw[BQ,Cd (BR _)] at g;exact k D z y i g
theorem jz (b:H ta=some (.tup [.str k.1,.ref z])) (a:H z=some (.tup (k.2.map V.str))):Rep H (.ref ta) (bP k):=.tup b (.cons (.str _) (.cons (.tup a (RepAll.of_strs _)) .nil))
def bg (knot:Str) (row:LS) (k:Str × LS):Str × LS:=if k.1=knot then (knot,row) else k
def mq:Sp:=λvs H Q _=>∃(q l:_) (ks:Kn) (ts ws wn knot row:_),vs=[.ref q,.str knot,.ref l]/\Rep H (.ref q) (aK ks ts ws wn)/\H l=some (.lst (List.map V.str row))/\ks.length<=100/\∀q' H',Same H H'->Rep H' (.ref q') (aK (ks.map (bg knot row)) ts ws wn)->Q (.ref q') H'
theorem pO (F:Fun K "with_row" "with_row" jH f fd) (B:Blt mg):FnOk P w K mg base CX0 1 f fd ["house", "knot", "row"] mq := by
 refine F.ok1 ["house","knot","row","knots"] λnd H Q E A h=>?_;obtain⟨q,l,ks,ts,ws,wn,c,g,rfl,R,hl,kl,k⟩:=h;refine⟨_,(aa (dS (i:=3) nd rfl rfl (by rfl) (au jH) ["house","knot","row","knots"] ["held"] [1,2] ["held","knot","row"] rfl (bf K (px K A (pv 0) ac)) (λ_ _ _ _ _=>(am (i:=0) (show (["held","knot","row"]:LS).Nodup by decide) rfl (Or.inl rfl))) (λ_ _ _ _ _=>cS) (λ_ _ _ _ _=>(oT (ah (br A.units) (px K A (pv 0) ac) (pv 1) (aB _)) (aF (p2 (pv 1) (cq K B (p1 (pv 2))))) (pv 0))))
  (af (ao (aF (ak (cq K B (p1 (pv 3))) (ak (px K A (pv 0) ac) (p2 (px K A (pv 0) ac) (px K A (pv 0) ac)))))))),?_⟩
 obtain⟨q',a,b,c3,d4,e0,S,R1,R2,R3,R4⟩:=bd R;cases e0;obtain⟨a',I,e0,ha,rp⟩:=de R1;cases e0;have t:=rp.len;rw[BQ] at t;refine⟨_,rfl,.tup (.of S) rfl ⟨a,rfl,⟨_,.of ha⟩,?_⟩⟩;refine cy I (λD j m r M=>∃(U:Option V),r=[U,some (.str c),some (.ref l)]/\RepAll M m (((ks.take j).map (bg c g)).map bP)/\Same H M/\H D=none) λD hD=>⟨?_,?_,?_,?_⟩
 ·exact⟨none,rfl,.nil,Same.new hD,hD⟩
 ·rintro j m r M _ ⟨U,rfl,_,p,_⟩ _;exact .of (p _ _ ha)
 ·rintro j m r M v hv ⟨U,rfl,s,p,n⟩ d;obtain⟨x,ta,la,hk,rfl,J,Z⟩:=eV rp hv;have a0:=(BU.mp hk).1;have G:=s.len;rw[BQ,BQ,Ck] at G;have L:(ks.take (j+1)).map (bg c g)=(ks.take j).map (bg c g)++[bg c g x]:=by rw[Cf,hk,BX];rfl
  refine ip ?_;refine⟨_,rfl,.tup (.of (p _ _ J)) rfl ⟨_,rfl,.sc rfl ⟨_,rfl,?_⟩⟩⟩;refine av (λh=>?_) (λh=>?_)
  ·have Y:x.1=c:=by simpa using h
   refine⟨_,rfl,_,rfl,l,_,rfl,.of (p _ _ hl),λt1 X=>ap ⟨(szl 2),λt2 N=>?_⟩⟩;revert N;refine nw X λH1 W C=>?_;intro N;refine nw N λH2 y e2=>?_;have C:=y _ _ C;have u:=W.trans y;have e:=u _ _ d;refine⟨e,aj (by omega),_,rfl,?_,aV (p.trans u) n,n⟩;rw[L,BX];refine RepAll.append (aP (dh e But.upd) (s.same u)) (.cons ?_ .nil);rw[show bg c g x=(c,g) by unfold bg;rw[if_pos Y]];exact jz (k:=(c,g)) (cB e But.upd e2) (cB e But.upd C)
  ·have Y:x.1≠c:=λz=>h (by simpa using z);refine⟨_,rfl,d,aj (by omega),_,rfl,?_,aV p n,n⟩;rw[L,BX];refine RepAll.append (aP (dh d But.upd) s) (.cons ?_ .nil);rw[show bg c g x=x by unfold bg;rw[if_neg Y]];exact jz (cB d But.upd (p _ _ J)) (cB d But.upd (p _ _ Z))
 ·rintro m r M ⟨U,rfl,s,p,n⟩ d;rw[t,Cd (BR _)] at s;refine⟨_,rfl,D,m,rfl,.of d,λt1 X=>?_⟩;refine nw X λH1 W C=>?_;have O:=p.trans W;have s:=s.same W;refine⟨_,rfl,.tup (.of (O _ _ S)) rfl ⟨_,rfl,.tup (.of (O _ _ S)) rfl ⟨_,rfl,.tup (.of (O _ _ S)) rfl (ap ⟨(szl 4),λt2 N=>?_⟩)⟩⟩⟩;have y:=Same.new (o:=.tup [V.ref t1,V.ref b,V.ref c3,V.ref d4]) N;have T:=O.trans y;exact k t2 _ T (cK ae (.tup (y _ _ C) (s.same y)) (R2.same T) (R3.same T) (R4.same T))
theorem pS (T:Tre us ks) (c:k∈ks):k.2.length<=60:=by
 have f:=fH (xs:=k.2) (ys:=us) ?_ λx d=>T.isIn c d
 ·have:=T.len;omega
 ·have:=T.knd;obtain⟨a,b,e⟩:=List.append_of_mem c;rw[e,dL] at this;have:=(De.mp this).2.1;rw[show k::b=[k]++b from rfl,dL] at this;have:=(De.mp this).1;rw[show aT [k]=k.2 by show [k].flatMap (·.2)=_;simp] at this;exact this
def tG (f:Kn->Str->LS):Sp:=λvs H Q _=>∃d kvs us ks u,vs=[.ref d,.str u]/\H d=some (.dK kvs)/\ArK kvs us ks/\Tre us ks/\u∈us/\∀l H',Same H H'->H l=none->H' l=some (.lst (List.map V.str (f ks u)))->Q (.ref l) H'
theorem vS (F:Fun K "line_down" "line_down" lN f fd) (B:Blt mg):FnOk P w K mg base CX0 1 f fd ["table", "one"] (tG lin) := by
 refine F.ok1 ["table","one","line"] λW H Q E s h=>?_;obtain⟨d,v,t,c,u,rfl,L,N,T,C,k⟩:=h;refine⟨_,(aa (pst 2 W (aQ (p1 (pv 1))))
  (aa (dM PassesOwn.never (ah (cF s.units) (px K s (pv 0) (px K s (pv 2) (fw eA ac))) aA (aB _)) (af (bi (cz K (pv 2) (p1 (px K s (pv 0) (px K s (pv 2) (fw eA ac))))))))
  (aa (bi (uu K (pv 2)))
  (af (ao (pv 2)))))),?_⟩
 refine⟨_,rfl,(szl 1),λg e=>?_⟩;have U:=Same.new (o:=.lst [V.str u]) e
 let j:Nat->SH:=λm M i=>∃(x:Str) (r:LS),m=rkU t x/\M=[some (.ref d),some (.str u),some (.ref g)]/\i g=some (.lst (List.map V.str (r.reverse++[x])))/\x∈t/\lin c u=lin c (bq c x)++(x::r)/\Same H i
 refine⟨j,
  ⟨_,u,[],rfl,rfl,ae,C,T.lin C,U⟩,?_⟩
 rintro m M Z ⟨x,r,rfl,rfl,b,D,a,G⟩;have at1:atI (List.map V.str (r.reverse++[x])) (-1)=some (.str x):=by rw[BX];exact jw _ _
 have Y:=T.lin_len u (.inr C);have S:=T.rk60 C;have A:=congrArg List.length a;rw[Cj,Cs] at A;refine⟨_,rfl,_,rfl,_,rfl,.lst (.of b) at1 (.dic (.inl ⟨v,.inr x,.inl (G _ _ L),rfl,(N x D).symm⟩) (.sc rfl ⟨_,rfl,?_⟩))⟩;refine av (λh=>?_) (λh=>?_)
 ·have I:bq c x≠"":=λz=>by rw[z] at h;exact absurd h (by decide)
  have p:=(T.par_in D).1.resolve_left I;have J:=T.rk D
  let l:SH:=λn i=>∃(y:Str) (r:LS),rkU t y<rkU t x/\n=[some (.ref d),some (.str u),some (.ref g)]/\i g=some (.lst (List.map V.str (r.reverse++[y])))/\y∈t/\lin c u=lin c (bq c y)++(y::r)/\Same H i
  refine⟨l,
   λn i ⟨y,r,O,X⟩=>⟨_,O,y,r,rfl,X⟩,?_⟩
  refine⟨_,rfl,.inl ⟨rfl,_,.of b⟩,_,rfl,_,rfl,_,rfl,.lst (.of b) at1 (.dic (.inl ⟨v,.inr x,.inl (G _ _ L),rfl,(N x D).symm⟩) ⟨g,_,_,rfl,rfl,b,by rw[BQ,Cj,List.length_reverse];exact aj (by show _+1<=_;omega),?_⟩)⟩;refine⟨bq c x,x::r,J,rfl,?_,p,?_,aV G e⟩
  ·rw[ae,List.reverse_cons];simp
  ·rw[a,T.lin p,DJ];rfl
 ·have R:bq c x="":=Classical.byContradiction λz=>h (by rw[if_pos rfl,Ct (λq=>z (V.str.inj q))];rfl);rw[R,zn,List.nil_append] at a;refine⟨_,rfl,.inl ⟨rfl,_,.of b⟩,g,_,rfl,rfl,b,?_⟩;refine⟨_,rfl,k g _ (aV G e) e ?_⟩;rw[ae,a,<- List.map_reverse,List.reverse_append,List.reverse_reverse];rfl
def jk:Sp:=λvs H Q _=>∃d kvs us ks u v,vs=[.ref d,.str u,.str v]/\H d=some (.dK kvs)/\ArK kvs us ks/\Tre us ks/\u∈us/\v∈us/\∀x H',Same H H'->PrtV H' x (aI ks u v)->Q x H'
theorem sL (F:Fun K "parting_by" "parting_by" kz f fd) (B:Blt mg) (Zz:mg "zip"=none) (a:Cal P w K mg base 1 "line_down" ["table", "one"] (tG lin)):FnOk P w K mg base CX0 2 f fd ["table", "one", "other"] jk := by
 refine F.ok1 ["table","one","other","knot","pair"] λR H Q E j h=>?_;obtain⟨d,C,Z,b,u,v,rfl,X,W,T,hu,hv,k⟩:=h;refine⟨_,(aa (pst 3 R aA)
  (aa (bc PassesOwn.never rfl (vw K rfl Zz (p2 (pc a j (p2 (pv 0) (pv 1))) (pc a j (p2 (pv 0) (pv 2))))) (am (i:=4) R rfl (Or.inl rfl)) (aa (aJ (ah (cF j.units) (px K j (pv 4) ac) (px K j (pv 4) ac) (aB _)) (af (ao (aF (ak (pv 3) (p2 (px K j (pv 4) ac) (px K j (pv 4) ac)))))) aw)
  (af (pst 3 R (px K j (pv 4) ac)))))
  (af (ao cm)))),?_⟩
 refine⟨_,rfl,_,rfl,d,C,Z,b,u,rfl,X,W,T,hu,λla H1 O S M=>?_⟩;refine⟨_,rfl,_,rfl,d,C,Z,b,v,rfl,O _ _ X,W,T,hv,λlb H2 L U D=>?_⟩;have g:=L _ _ M;refine⟨la,lb,_,_,rfl,.of g,.of D,?_⟩
 let A:Nat->SH:=λi I r=>∃G,I=[some (.ref d),some (.str u),some (.str v),some (.str ((tp (lin b u)).getD i "")),G]/\Same H2 r/\aI b u v=prt ((tp (lin b u)).getD i "") ((lin b u).drop i) ((lin b v).drop i)
 refine qb (xs:=List.map V.str (lin b u)) (ys:=List.map V.str (lin b v)) A ?_ ?_ ?_ ?_
 ·exact⟨none,rfl,Same.refl H2,rfl⟩
 ·rintro i I r hi ⟨G,rfl,n,_⟩;exact⟨.of (n _ _ g),.of (n _ _ D)⟩
 ·rintro i x y p I r m ⟨G,rfl,n,c⟩ N;rw[CO] at m;obtain⟨x,Y,rfl⟩:=bp m.1;obtain⟨y,hy,rfl⟩:=bp m.2;have sp:=Same.new (o:=.tup [V.str x,V.str y]) N;have s:upd r p (.tup [V.str x,V.str y]) p=some (.tup [V.str x,V.str y]):=ae;have l1:=BU.mp Y;have l2:=BU.mp hy;rw[Dy l1.1,Dy l2.1,l1.2,l2.2] at c;have c:aI b u v=if x=y then prt x ((lin b u).drop (i+1)) ((lin b v).drop (i+1)) else some ((tp (lin b u)).getD i "",x,y):=c
  refine⟨_,rfl,.tup (.of s) rfl ⟨_,rfl,.tup (.of s) rfl (.sc rfl ⟨_,rfl,?_⟩)⟩⟩;refine av (λh=>?_) (λh=>?_)
  ·have J:x≠y:=λz=>by rw[z,if_pos rfl,Ca rfl] at h;cases h
   rw[if_neg J] at c;refine⟨_,rfl,_,rfl,.tup (.of s) rfl ⟨_,rfl,.tup (.of s) rfl ⟨(szl 3),λt ht=>?_⟩⟩⟩;refine k (.ref t) _ (((O.trans L).trans n).trans (sp.trans (Same.new ht))) ?_;rw[c];exact⟨t,rfl,ae⟩
  ·have he:x=y:=Classical.byContradiction λz=>h (by rw[if_pos rfl,Ct (λq=>z (V.str.inj q))];rfl);rw[if_pos he] at c;have e:(tp (lin b u)).getD (i+1) ""=x:=by rw[CA];show ((lin b u)[i]?).getD ""=x;rw[Y];rfl
   refine⟨_,rfl,.tup (.of s) rfl ⟨some (.ref p),?_,n.trans sp,?_⟩⟩
   ·rw[e];rfl
   ·rw[e];exact c
 ·rintro I r ⟨G, rfl, n, c⟩;have hn:aI b u v=none:=by
   rw[c,Db,BQ,BQ];by_cases q:(lin b u).length<=(lin b v).length
   ·rw[Di (l:=lin b u) (by omega)];rfl
   ·rw[Di (l:=lin b v) (by omega)];cases (lin b u).drop (min (lin b u).length (lin b v).length) <;> rfl
  refine k .non r ((O.trans L).trans n) ?_;rw[hn];rfl
def gG:Sp:=λvs H Q _=>∃q us ks ts ws wn u v,vs=[.ref q,.str u,.str v]/\Rep H (.ref q) (aK ks ts ws wn)/\Tre us ks/\u∈us/\v∈us/\∀x H',Same H H'->PrtV H' x (aI ks u v)->Q x H'
theorem wO (F:Fun K "parting" "parting" nF f fd) (B:Blt mg) (b:Cal P w K mg base 1 "homes" ["house"] iQ) (a:Cal P w K mg base 2 "parting_by" ["table","one","other"] jk):FnOk P w K mg base CX0 3 f fd ["house","one","other"] gG:=by
 refine F.ok1 ["house","one","other"] λD H Q E g h=>?_;obtain⟨q,i,e,A,j,m,u,v,rfl,R,T,n,r,k⟩:=h;refine⟨_,(af (ao (pc a g (ak (pc b g (p1 (pv 0))) (p2 (pv 1) (pv 2)))))),?_⟩;refine⟨_,rfl,q,i,e,A,j,m,rfl,R,T,λd c C z t p y _ _=>?_⟩;exact⟨_,rfl,_,rfl,d,c,i,e,u,v,rfl,p,y,T,n,r,λx s l o=>k x s (z.trans l) o⟩
def jl:Option (Str × Str × Str)->PyData
 | none=>.none
 | some (k,x,y)=>.tuple [.str k,.str x,.str y]
theorem iZ (h:PrtV H v o):Rep H v (jl o):=by
 cases o with
 | none =>
  have h:v=.non:=h;rw[h];exact .non
 | some t =>
  obtain⟨q,rfl,a⟩:=h;exact .tup a (.cons (.str _) (.cons (.str _) (.cons (.str _) .nil)))
theorem bv (T:Tre us ks) (a:k∈ks):k.2.Nodup:=by
 have:=T.knd;unfold aT at this;rw[List.flatMap_def] at this;exact(En (BY.mpr ⟨k,a,rfl⟩)).nodup this
theorem WnX.ok (T:Tre us ks) (W:WnX ks wn):nK us wn:=λe a=>by
 obtain⟨k,b,f⟩:=W.at_ e a;exact⟨by rcases f with⟨q,_⟩ | ⟨q,_⟩;exact .inl q;exact .inr q,T.isIn b f.mem⟩
def dZ (us:LS) (ks:Kn) (ts:List (Str × Str)):Prop:=∀e∈ts,e.1∈us/\e.2∈us/\aI ks e.1 e.2≠none
theorem TsI.ok (h:TsI us ks ts):dZ us ks ts:=λe a=>⟨(h e a).1,(h e a).2.1,λz=>by have:=(h e a).2.2;rw[z] at this;cases this⟩
theorem vM (h:kvs.map (·.1)=ds.map pK) (e:Str × Str) (v:V):(bj kvs (pK e) v).map (·.1)=(if e ∈ ds then ds else ds ++ [e]).map pK := by
 have c:(kvs.any λp=>decide (p.1=pK e))=decide (e∈ds):=by
  rw[CQ,Eb,decide_eq_true_iff]
  constructor
  ·rintro⟨p,b,q⟩;have:p.1∈kvs.map (·.1):=BY.mpr ⟨p,b,rfl⟩;rw[h] at this;obtain⟨f,d,g⟩:=BY.mp this;have q:=Ch q;rw[<- AU (g.trans q)];exact d
  ·intro a;have:pK e∈kvs.map (·.1):=by rw[h];exact BY.mpr ⟨e,a,rfl⟩
   obtain⟨p,b,g⟩:=BY.mp this;exact⟨p,b,Ca g⟩
 unfold bj;by_cases a:e∈ds
 ·rw[if_pos (by rw[c];exact Ca a),if_pos a,<- h,CK];refine List.map_congr_left λp _=>?_;show (if p.1=pK e then (p.1,v) else p).1=p.1
  split <;> rfl
 ·rw[if_neg (by rw[c];simpa using a),if_neg a,BX,BX,h];rfl
def lS:Sp:=λvs H Q _=>∃(a refs:_) (ps:Prs),vs=[.ref a]/\H a=some (.lst refs)/\RepAll H refs (ps.map aE)/\ps.length<=100000/\∀d kvs H',Same H H'->H d=none->H' d=some (.dT kvs)->kvs.map (·.1)=(bO [] ps).map pK->Q (.ref d) H'
theorem rG (F:Fun K "places_of" "places_of" kZ f fd) (B:Blt mg):FnOk P w K mg base CX0 1 f fd ["things"] lS := by
 refine F.ok1 ["things","places","place","thing"] λD H Q E U h=>?_;obtain⟨a,q,R,rfl,J,N,W,k⟩:=h;have X:200000<sizeLine:=by decide
 refine⟨_,(aa (pst 1 D xk)
  (aa (bc PassesOwn.never rfl (oV K rfl B.enumerate (p1 (pv 0))) (bT (n:=2) K rfl (aH (am (i:=2) D rfl (Or.inl rfl)) (aH (am (i:=3) D rfl (Or.inl rfl)) bN))) (af (cn (pv 2) (cO (pv 1) (pv 3) (dy U.units)))))
  (af (ao (pv 1))))),?_⟩
 have j:=N.len;rw[BQ] at j;intro d z;have L:=Same.new (o:=.dT []) z;refine⟨_,rfl,_,rfl,.lst (.of (L _ _ J)) ?_⟩
 let r:Nat->SH:=λi u m=>∃s v c,u=[some (.ref a),some (.ref d),s,v]/\Same H m/\m d=some (.dT c)/\c.length<=i/\c.map (·.1)=(bO [] (R.take i)).map pK
 refine nH (xs:=q) r ?_ ?_ ?_ ?_
 ·exact⟨none,none,[],rfl,L,ae,BR _,rfl⟩
 ·rintro i u m Z ⟨s,v,c,rfl,l,_⟩;exact .of (l _ _ J)
 ·rintro i x u m p T ⟨s,v,c,rfl,l,t,G,g⟩ A;obtain⟨e,Y,I,rfl,y⟩:=cW (N.same l) T;have S:=(BU.mp I).1;have C:d≠p:=ai t A;have O:=bw c (pK e) (V.int (i:Nat));refine⟨p,_,rfl,.of ae,rfl,_,_,rfl,_,_,rfl,rfl,?_⟩;refine⟨_,rfl,_,rfl,_,rfl,.dic (DPut.t (k:=pK e) (by rw[ag C];exact t) (Same.new A _ _ y) (by omega)) ⟨_,_,_,rfl,?_,ae,by omega,?_⟩⟩
  ·intro b o M;rw[ag (ai M z)];exact Same.new A _ _ (l _ _ M)
  ·rw[vM g,Cf,I,iw];rfl
 ·rintro u m ⟨s,v,c,rfl,l,t,G,g⟩;rw[j,Cd (BR _)] at g;exact⟨_,rfl,k d c m l z t g⟩
def li (ks:Kn) (e:Str × Str):PyData:=jl (aI ks e.1 e.2)
theorem qQ (h:Rep H v (jl o)):PrtV H v o:=by
 cases o with
 | none =>
  have h:Rep H v .none:=h;cases h
  rfl
 | some t =>
  obtain⟨k,x,y⟩:=t;obtain⟨q,c,rfl,b,a⟩:=Rep.tupI h;have a:RepAll H c (List.map PyData.str [k,x,y]):=a;have e:=RepAll.strs a;subst e;exact⟨q,rfl,b⟩
theorem kI (c:H p=some (.lst ys)) (b:But p H H') (h:Rep H v (jl o)):Rep H' v (jl o):=by
 have g:=qQ h;refine iZ ?_;cases o with
 | none=>exact g
 | some t=>obtain⟨q,e,a⟩:=g;exact⟨q,e,cB c b a⟩
def lE:Sp:=λvs H Q _=>∃(q us ks:_) (ts ws wn:Prs),vs=[.ref q]/\Rep H (.ref q) (aK ks ts ws wn)/\Tre us ks/\dZ us ks ts/\ts.length<=200/\∀l refs H',Same H H'->H l=none->H' l=some (.lst refs)->RepAll H' refs (ts.map (li ks))->Q (.ref l) H'
theorem wZ (F:Fun K "kept_partings" "kept_partings" fq f fd) (B:Blt mg) (p:Cal P w K mg base 1 "homes" ["house"] iQ) (g:Cal P w K mg base 2 "parting_by" ["table","one","other"] jk):FnOk P w K mg base CX0 3 f fd ["house"] lE:=by
 refine F.ok1 ["house","table"] λnd H Q E C h=>?_;obtain⟨q,Z,O,ts,ws,wn,rfl,R,T,J,tl,k⟩:=h;refine⟨_,(aa (bW (i:=1) nd rfl (Or.inr rfl) (pc p C (p1 (pv 0))))
  (af (ao (cC (au fq) ["house","table"] [1] "tie" ["table"] (bf K (px K C (pv 0) ac)) cS (pc g C (ak (pv 1) (p2 (px K C (pv 0) ac) (px K C (pv 0) ac)))))))),?_⟩
 refine⟨_,rfl,q,Z,O,ts,ws,wn,rfl,R,T,λd U X W a1 hd ar _ _=>?_⟩;obtain⟨q',a,b,c,d4,N,hq,_,R2,_⟩:=bd (R.same W);cases N;obtain⟨b',rb,N,hb,z⟩:=ba R2;cases N;have n:=z.len;rw[BQ] at n;refine⟨_,rfl,.tup (.of hq) rfl ⟨b,rfl,⟨_,.of hb⟩,?_⟩⟩;refine cy rb (λD j m r u=>∃(I:Option V),r=[I,some (.ref d)]/\RepAll u m ((ts.take j).map (li O))/\Same X u/\X D=none) λD Y=>⟨?_,?_,?_,?_⟩
 ·exact⟨none,rfl,.nil,Same.new Y,Y⟩
 ·rintro j m r u _ ⟨I,rfl,_,t,_⟩ _;exact .of (t _ _ hb)
 ·rintro j m r u v hv ⟨I,rfl,G,t,s⟩ o;obtain⟨e,ta,M,rfl,A⟩:=cW z hv;have a0:=(BU.mp M).1;obtain⟨hu,L,_⟩:=J e (BW M);have y:=G.len;rw[BQ,Ck] at y;refine ip ?_;refine⟨_,rfl,_,rfl,.tup (.of (t _ _ A)) rfl ⟨_,rfl,.tup (.of (t _ _ A)) rfl (ap ⟨d,U,Z,O,e.1,e.2,rfl,t _ _ hd,ar,T,hu,L,λx H3 S px=>?_⟩)⟩⟩;have l:=S _ _ o;refine⟨l,aj (by omega),_,rfl,?_,aV (t.trans S) s,s⟩;rw[Cf,M,BX];exact RepAll.append (aP (kI l But.upd) (G.same S)) (.cons (kI l But.upd (iZ px)) .nil)
 ·rintro m r u ⟨I,rfl,G,t,s⟩ o;rw[n,Cd (BR _)] at G;exact k D m u (W.trans t) (aW W s) o G
structure Fnd (H H':Hp) (lf:Addr) (us:LS) (fr:LV) (ps:List (Str × Str)) (n:Nat):Prop where
 f:H' lf=some (.lst fr)
 r:RepAll H' fr (ps.map aE)
 i:dE us ps
 l:ps.length<=n
 s:Same H H'
theorem Fnd.more (h:Fnd H H' z us fr ps n) (s:Same H' H2) (a:n<=m):Fnd H H2 z us fr ps m:=⟨s _ _ h.f,h.r.same s,h.i,Cn h.l a,h.s.trans s⟩
theorem Fnd.len (h:Fnd H H' z us fr ps n):fr.length<=n:=by
 have:=h.r.len;rw[BQ] at this;have:=h.l;omega
def mT (ks:Kn) (ts wn:Prs) (k:Str × LS):PyData:=.tuple [.tuple (k.2.map PyData.str),bX (aL ks ts wn k.1 k.2)]
theorem pX {H:Hp}{ks:Kn}{z:LV}{ts:Prs}(b:RepAll H z (ts.map (li ks))) {j:Nat}{x:V}(c:z[j]? = some x):∃e,ts[j]? = some e/\PrtV H x (aI ks e.1 e.2):=by
 obtain⟨d,a,rd⟩:=b.get c;rw[Ce] at a;cases q:ts[j]? with
 | none=>rw[q] at a;cases a
 | some e =>
  rw[q] at a;have a:li ks e=d:=BV a;rw[<- a] at rd;exact⟨e,rfl,qQ rd⟩
theorem Fnd.ext (h:Fnd H H' G us fr ps n) (r:RepAll H' z (I.map aE)) (i:dE us I) (c:I.length<=m) (a:H G=none):Fnd H (upd H' G (.lst (fr++z))) G us (fr++z) (ps++I) (n+m):=by
 refine⟨ae,?_,λe b=>?_,by rw[Cj];have:=h.l;omega,aV h.s a⟩
 ·rw[BX];exact RepAll.append (aP (aU h.f But.upd) h.r) (aP (aU h.f But.upd) r)
 ·rcases Cb.mp b with q | q
  ·exact h.i e q
  ·exact i e q
theorem mB (a:Bool) {c:LS}{j:Nat}{u ch:Str}(h:c[j]? = some ch):bV a (c.take (j+1)) u=bV a (c.take j) u++(if ch=u then [] else [if a then (ch,u) else (u,ch)]):=by
 unfold bV;rw[Cf,h,CH,BX];congr 1;show List.map _ (List.filter _ [ch])=_;rw[List.filter_cons,List.filter_nil];by_cases b:ch=u
 ·rw[if_neg (by simpa using b),if_pos b];rfl
 ·rw[if_pos (by simpa using b),if_neg b];rfl
theorem hJ (a:Bool) (c:LS) (u:Str):(bV a c u).length<=c.length:=by
 unfold bV;rw[BQ];exact CG _ _
theorem iU (a:Bool) (g:∀z∈c,z∈us) (d:u∈us):dE us (bV a c u):=λe f=>by
 unfold bV at f;obtain⟨z,b,rfl⟩:=BY.mp f;have b:=g z (Cg.mp b).1;cases a
 ·exact⟨d,b⟩
 ·exact⟨b,d⟩
theorem kG (c:LS) (wn:Prs) (word:Str):(wU c wn word).length<=c.length:=by
 unfold wU;exact CG _ _
theorem mX (h:u∈wU c wn word):u∈c:=by
 unfold wU at h;exact(Cg.mp h).1
theorem va {H:Hp}{kvs:List (List Key × V)}{es:Prs}{z:LV}(a:kvs.map (·.1)=es.map pK) (c:z.length=kvs.length) (h:∀(i:Nat) (k:List Key × V), kvs[i]? = some k -> ∃q, z[i]? = some (V.ref q) /\ H q=some (.tup (k.1.map kV))):RepAll H z (es.map aE) := by
 induction es generalizing kvs z with
 | nil =>
  have:kvs=[]:=by simpa using a
  subst this;have:z=[]:=by simpa using c
  subst this;exact .nil
 | cons e es ih =>
  cases kvs with
  | nil=>simp at a
  | cons k kvs =>
   cases z with
   | nil=>simp at c
   | cons r z =>
    rw[Cv,Cv] at a;injection a with g l;obtain⟨q,d,f⟩:=h 0 k rfl;have d:r=.ref q:=BV d;subst d;rw[g] at f;exact .cons (aO f) (ih l (by simpa using c) λi j b=>h (i+1) j b)
theorem zg (T:Tre us ks) (d:dZ us ks ts) (knot:Str):dE us (ts.filterMap (cE ks knot)) := λe k => by
 obtain⟨z,a,q⟩:=DA.mp k;obtain⟨h,f,_⟩:=d z a;unfold cE at q;cases hpo:aI ks z.1 z.2 with
 | none=>rw[hpo] at q;cases q
 | some t3 =>
  obtain⟨g,j,i⟩:=t3;rw[hpo] at q;obtain⟨_,_,b,c,_⟩:=T.part h f hpo;have q:(if g=knot then some (j,i) else none)=some e:=q;by_cases a:g=knot
  ·rw[if_pos a] at q;rw[<- BV q];exact⟨b,c⟩
  ·rw[if_neg a] at q;cases q
def og:Sp:=λvs H Q _=>∃(q lp us ks:_) (ts ws wn:Prs) (k:Str × LS) (refs:_),vs=[.ref q,.str k.1,.ref lp]/\Rep H (.ref q) (aK ks ts ws wn)/\Tre us ks/\dZ us ks ts/\WnX ks wn/\k∈ks/\ts.length<=200/\H lp=some (.lst refs)/\RepAll H refs (ts.map (li ks))/\∀x H',Same H H'->Rep H' x (mT ks ts wn k)->Q x H'
theorem uQ {f:Addr}{fd:FuncData}(F:Fun K "view_by" "view_by" gv f fd) (B:Blt mg) (O:Cal P w K mg base 1 "children" ["house", "knot"] ft) (L:Cal P w K mg base 1 "wanted" ["house", "row", "word"] oF) (J:Cal P w K mg base 1 "places_of" ["things"] lS):FnOk P w K mg base CX0 2 f fd ["house", "knot", "partings"] og := by
 refine F.ok1 ["house","knot","partings","row","pairs","unit"] λnd H Q E hr h=>?_;obtain⟨q,lp,us,Z,ts,ws,A,a,d4,rfl,R,T,c1,WX,b9,tl,c9,c7,k⟩:=h;have c6:=WnX.ok T WX;have f1:=T.len;have sz:200000<sizeLine:=by decide
 have S:∀u∈a.2,u∈us:=λu X=>T.isIn b9 X;have p:a.2.length<=60:=by
  have:=fH (bv T b9) S;omega
 refine⟨_,(aa (pst 3 nd (pc O hr (p2 (pv 0) (pv 1))))
  (aa (dS (i:=4) nd rfl rfl (by rfl) (au gv) ["house","knot","partings","row","pairs","unit"] ["part"] [1] ["part","knot"] rfl (be K (pv 2)) (λ_ _ _ _ _=>(am (i:=0) (show (["part","knot"]:LS).Nodup by decide) rfl (Or.inl rfl))) (λ_ _ _ _ _=>(bx (ah (br hr.units) (px K hr (pv 0) ac) (pv 1) (aB _)))) (λ_ _ _ _ _=>(aF (p2 (px K hr (pv 0) ac) (px K hr (pv 0) ac)))))
  (aa (bc PassesOwn.never rfl (be K (pc L hr (ak (pv 0) (p2 (pv 3) aA)))) (am (i:=5) nd rfl (Or.inr rfl)) (af (bi (nE K (pv 4) (p1 (cC (au gv) ["house","knot","partings","row","pairs","unit"] [5] "child" ["unit"] (be K (pv 3)) (bx (ah (cF hr.units) (pv 0) (pv 1) (aB _))) (aF (p2 (pv 1) (pv 0)))))))))
  (aa (bc PassesOwn.never rfl (be K (pc L hr (ak (pv 0) (p2 (pv 3) aA)))) (am (i:=5) nd rfl (Or.inr rfl)) (af (bi (nE K (pv 4) (p1 (cC (au gv) ["house","knot","partings","row","pairs","unit"] [5] "child" ["unit"] (be K (pv 3)) (bx (ah (cF hr.units) (pv 0) (pv 1) (aB _))) (aF (p2 (pv 0) (pv 1)))))))))
  (af (ao (aF (p2 (cq K B (p1 (pv 3))) (za rfl B (p1 (pc J hr (p1 (pv 4))))))))))))),?_⟩
 refine⟨_,rfl,_,rfl,q,us,Z,ts,ws,A,a,rfl,R,T,b9,λla H1 s1 f0 d5=>?_⟩;have b3:=c7.len;rw[BQ] at b3;refine⟨_,rfl,lp,rfl,⟨_,.of (s1 _ _ c9)⟩,?_⟩;refine bU d4 (λD j g l s=>∃(W:Option V),l=[W,some (.str a.1)]/\RepAll s g (((ts.take j).filterMap (cE Z a.1)).map aE)/\g.length<=j/\Same H1 s/\H1 D=none) λY c5=>⟨?_,?_,?_,?_⟩
 ·exact⟨none,rfl,.nil,BR _,Same.new c5,c5⟩
 ·rintro j g l s _ ⟨W,rfl,_,_,r,_⟩ _;exact .of (r _ _ (s1 _ _ c9))
 ·rintro j g l s v hv ⟨W, rfl, M, al, r, C⟩ c;obtain⟨e,he,pv⟩:=pX (c7.same (s1.trans r)) hv;have d3:=(BU.mp he).1;obtain⟨X,f4,e2⟩:=c1 e (BW he);cases hpo:aI Z e.1 e.2 with
  | none=>exact absurd hpo e2
  | some t3 =>
   obtain⟨kq,x1,y1⟩:=t3;rw[hpo] at pv;obtain⟨t,rfl,ht⟩:=pv;have eb:cE Z a.1 e=if kq=a.1 then some (x1,y1) else none:=by unfold cE;rw[hpo]
   have a9:(ts.take (j+1)).filterMap (cE Z a.1)=(ts.take j).filterMap (cE Z a.1)++(if kq=a.1 then some (x1,y1) else none:Option (Str × Str)).toList:=by
    rw[Cf,he,List.filterMap_append,<- eb];cases h:cE Z a.1 e <;> simp[h]
   clear eb;dsimp only[aX];refine⟨_,rfl,.tup (.of ht) rfl ⟨_,rfl,.sc rfl ⟨_,rfl,?_⟩⟩⟩;refine av (λhq=>?_) (λhq=>?_)
   ·have hq:kq=a.1:=Classical.byContradiction λz=>by rw[if_neg (by decide),Ct (λw=>z (V.str.inj w))] at hq;cases hq
    rw[if_pos hq] at a9;refine⟨_,rfl,.tup (.of ht) rfl ⟨_,rfl,.tup (.of ht) rfl ⟨(szl 2),λt2 a4=>?_⟩⟩⟩;refine nw a4 λH2 st et=>?_;have b:=st _ _ c;have a7:=r.trans st;have a5:=M.same st;refine⟨b,aj (by omega),_,rfl,?_,by rw[Cj];show _+1<=_;omega,aV a7 C,C⟩;rw[a9,BX];exact RepAll.append (aP (aU b But.upd) a5) (.cons (aU b But.upd (aO et)) .nil)
   ·have hq:kq≠a.1:=λz=>hq (by rw[if_neg (by decide),z,Ca rfl]);rw[if_neg hq] at a9;refine⟨c,_,rfl,?_,by omega,r,C⟩;rw[a9,show (none:Option (Str × Str)).toList=[] from rfl,CB];exact M
 ·rintro g l H2 ⟨W, rfl, M, al, r, C⟩ c;rw[b3,Cd (BR _)] at M;have s2:=s1.trans r;have c2:H Y=none:=aW s1 C;have b2:=r _ _ d5;have d2:la≠Y:=ai d5 C;have b5:Fnd H H2 Y us g (ts.filterMap (cE Z a.1)) 200:=by
   refine⟨c,M,λe he=>?_,?_,s2⟩
   ·exact zg T c1 _ e he
   ·exact Cn (List.length_filterMap_le _ _) tl
  generalize e4:ts.filterMap (cE Z a.1)=bs at b5;refine⟨_,rfl,_,rfl,q,la,us,a.2,Z,ts,ws,A,"first",rfl,R.same s2,T,c6,(.inl rfl),b2,(λu X=>T.nm _ (S u X)),p,λD1 H3 s3 b8 hD=>?_⟩;have c0:=b5.more s3 (BR _);have nD:D1≠Y:=Ne.symm (ai b5.f b8);have a8:=s3 _ _ b2;refine⟨D1,rfl,⟨_,.of hD⟩,?_⟩
  let d6:Nat->SH:=λi σ s=>∃(o5:Option V) (fr:LV),σ=[some (.ref q),some (.str a.1),some (.ref lp),some (.ref la),some (.ref Y),o5]/\Fnd H s Y us fr (bs++((wU a.2 A "first").take i).flatMap (bV false a.2)) (200+i * 60)/\s la=some (.lst (List.map V.str a.2))/\s D1=some (.lst (List.map V.str (wU a.2 A "first")))
  refine cI (R:=Q) (xs:=List.map V.str (wU a.2 A "first")) d6 ?_ ?_ ?_ ?_
  ·exact⟨_,_,rfl,by rw[List.take_zero,List.flatMap_nil,CB];exact c0,a8,hD⟩
  ·rintro i σ s hi ⟨o5,fr,rfl,_,_,hD⟩;exact .of hD
  ·rintro _ i x σ H4 hx ⟨o5, fr, rfl, N, y, b7⟩;obtain⟨u,X,rfl⟩:=bp hx;have d3:=(BU.mp X).1;have a1:=Cn (kG a.2 A "first") p;have b6:=S u (mX (BW X));have c8:=N.len;refine⟨_,rfl,.inl ⟨rfl,_,.of N.f⟩,_,rfl,la,rfl,⟨_,.of y⟩,?_⟩;refine bU (List.map V.str a.2) (λD j g l s=>∃(W:Option V),l=[W,some (.str u)]/\RepAll s g ((bV false (a.2.take j) u).map aE)/\g.length<=j/\Same H4 s/\H4 D=none) λD a3=>⟨?_,?_,?_,?_⟩
   ·exact⟨none,rfl,.nil,BR _,Same.new a3,a3⟩
   ·rintro j g l s _ ⟨W,rfl,_,_,r,_⟩ _;exact .of (r _ _ y)
   ·rintro j g l s v hv ⟨W,rfl,M,al,r,n⟩ c;obtain⟨ch,a0,rfl⟩:=bp hv;have e1:=(BU.mp a0).1;have G:=mB false (u:=u) a0;dsimp only[aX];refine⟨_,rfl,_,rfl,.sc rfl ⟨_,rfl,?_⟩⟩;refine av (λI=>?_) (λI=>?_)
    ·have I:ch≠u:=λz=>by rw[if_pos rfl,z,Ca rfl] at I;cases I
     rw[if_neg I] at G;refine⟨_,rfl,_,rfl,(szl 2),λt2 a4=>?_⟩;refine nw a4 λH5 st et=>?_;have b:=st _ _ c;have a7:=r.trans st;have a5:=M.same st;refine⟨b,aj (by omega),_,rfl,?_,by rw[Cj];show _+1<=_;omega,aV a7 n,n⟩;rw[G,BX];exact RepAll.append (aP (aU b But.upd) a5) (.cons (aU b But.upd (aO et)) .nil)
    ·have I:ch=u:=Classical.byContradiction λz=>I (by rw[if_pos rfl,Ct (λw=>z (V.str.inj w))];rfl);rw[if_pos I,CB] at G;exact⟨c,_,rfl,by rw[G];exact M,by omega,r,n⟩
   ·rintro g l H5 ⟨W,rfl,M,al,r,n⟩ c;rw[BQ] at al;rw[BQ,Cd (BR _)] at M;have a2:=N.more r (BR _);have fx:=a2.ext (m:=60) M (iU false S b6) (Cn (hJ false a.2 u) p) c2;refine ap ⟨Y,D,_,_,rfl,rfl,a2.f,c,by omega,?_⟩;refine⟨_,fr++g,rfl,?_,by rw[ag d2];exact r _ _ y,by rw[ag nD];exact r _ _ b7⟩;have e:bs++((wU a.2 A "first").take (i+1)).flatMap (bV false a.2)=bs++((wU a.2 A "first").take i).flatMap (bV false a.2)++bV false a.2 u:=by
     rw[Cf,X,Eh,DJ];simp
    rw[e];exact fx.more (Same.refl _) (by omega)
  ·rintro σ H6 ⟨o5, f2, rfl, U, b4, _⟩;have a1:=Cn (kG a.2 A "first") p;rw[BQ,Cd (BR _)] at U;have U:=U.more (m:=3800) (Same.refl _) (by omega);generalize e9:bs++(wU a.2 A "first").flatMap (bV false a.2)=fs at U;refine⟨_,rfl,_,rfl,q,la,us,a.2,Z,ts,ws,A,"last",rfl,R.same U.s,T,c6,(.inr rfl),b4,(λu X=>T.nm _ (S u X)),p,λD2 H3 s3 b8 hD=>?_⟩;have c0:=U.more s3 (BR _);have nD:D2≠Y:=Ne.symm (ai U.f b8);have a8:=s3 _ _ b4;refine⟨D2,rfl,⟨_,.of hD⟩,?_⟩
   let d0:Nat->SH:=λi σ s=>∃(o5:Option V) (fr:LV),σ=[some (.ref q),some (.str a.1),some (.ref lp),some (.ref la),some (.ref Y),o5]/\Fnd H s Y us fr (fs++((wU a.2 A "last").take i).flatMap (bV true a.2)) (3800+i * 60)/\s la=some (.lst (List.map V.str a.2))/\s D2=some (.lst (List.map V.str (wU a.2 A "last")))
   refine cI (R:=Q) (xs:=List.map V.str (wU a.2 A "last")) d0 ?_ ?_ ?_ ?_
   ·exact⟨_,_,rfl,by rw[List.take_zero,List.flatMap_nil,CB];exact c0,a8,hD⟩
   ·rintro i σ s hi ⟨o5,fr,rfl,_,_,hD⟩;exact .of hD
   ·rintro _ i x σ H4 hx ⟨o5, fr, rfl, N, y, b7⟩;obtain⟨u,X,rfl⟩:=bp hx;have d3:=(BU.mp X).1;have a1:=Cn (kG a.2 A "last") p;have b6:=S u (mX (BW X));have c8:=N.len;refine⟨_,rfl,.inl ⟨rfl,_,.of N.f⟩,_,rfl,la,rfl,⟨_,.of y⟩,?_⟩;refine bU (List.map V.str a.2) (λD j g l s=>∃(W:Option V),l=[W,some (.str u)]/\RepAll s g ((bV true (a.2.take j) u).map aE)/\g.length<=j/\Same H4 s/\H4 D=none) λD a3=>⟨?_,?_,?_,?_⟩
    ·exact⟨none,rfl,.nil,BR _,Same.new a3,a3⟩
    ·rintro j g l s _ ⟨W,rfl,_,_,r,_⟩ _;exact .of (r _ _ y)
    ·rintro j g l s v hv ⟨W,rfl,M,al,r,n⟩ c;obtain⟨ch,a0,rfl⟩:=bp hv;have e1:=(BU.mp a0).1;have G:=mB true (u:=u) a0;dsimp only[aX];refine⟨_,rfl,_,rfl,.sc rfl ⟨_,rfl,?_⟩⟩;refine av (λI=>?_) (λI=>?_)
     ·have I:ch≠u:=λz=>by rw[if_pos rfl,z,Ca rfl] at I;cases I
      rw[if_neg I] at G;refine⟨_,rfl,_,rfl,(szl 2),λt2 a4=>?_⟩;refine nw a4 λH5 st et=>?_;have b:=st _ _ c;have a7:=r.trans st;have a5:=M.same st;refine⟨b,aj (by omega),_,rfl,?_,by rw[Cj];show _+1<=_;omega,aV a7 n,n⟩;rw[G,BX];exact RepAll.append (aP (aU b But.upd) a5) (.cons (aU b But.upd (aO et)) .nil)
     ·have I:ch=u:=Classical.byContradiction λz=>I (by rw[if_pos rfl,Ct (λw=>z (V.str.inj w))];rfl);rw[if_pos I,CB] at G;exact⟨c,_,rfl,by rw[G];exact M,by omega,r,n⟩
    ·rintro g l H5 ⟨W,rfl,M,al,r,n⟩ c;rw[BQ] at al;rw[BQ,Cd (BR _)] at M;have a2:=N.more r (BR _);have fx:=a2.ext (m:=60) M (iU true S b6) (Cn (hJ true a.2 u) p) c2;refine ap ⟨Y,D,_,_,rfl,rfl,a2.f,c,by omega,?_⟩;refine⟨_,fr++g,rfl,?_,by rw[ag d2];exact r _ _ y,by rw[ag nD];exact r _ _ b7⟩;have e:fs++((wU a.2 A "last").take (i+1)).flatMap (bV true a.2)=fs++((wU a.2 A "last").take i).flatMap (bV true a.2)++bV true a.2 u:=by
      rw[Cf,X,Eh,DJ];simp
     rw[e];exact fx.more (Same.refl _) (by omega)
   ·rintro σ H7 ⟨o5,f6,rfl,a6,c4,_⟩;have a1:=Cn (kG a.2 A "last") p;rw[BQ,Cd (BR _)] at a6;have a6:=a6.more (m:=7400) (Same.refl _) (by omega);have c3:aL Z ts A a.1 a.2=bO [] (fs++(wU a.2 A "last").flatMap (bV true a.2)):=by
     unfold aL;rw[e4,<- DJ,e9]
    generalize fs++(wU a.2 A "last").flatMap (bV true a.2)=ps at a6 c3;refine⟨_,rfl,la,_,rfl,.of c4,λl1 e7=>?_⟩;refine nw e7 λH8 s8 e8=>?_;have b1:=a6.more s8 (BR _);have pl:=b1.l;refine⟨_,rfl,ap ⟨Y,_,ps,rfl,b1.f,b1.r,by omega,λd d8 H9 s9 f5 hd e5=>?_⟩⟩;refine⟨d,d8,rfl,hd,λl2 rs e0 rl e3=>?_⟩;refine nw e0 λf3 d7 d9=>?_;have e6:=(va e5 rl e3).same d7;have d1:=s9.trans d7;refine ap ⟨(szl 2),λt ht=>?_⟩;have b0:=Same.new (o:=.tup [V.ref l1,V.ref l2]) ht;refine k (.ref t) _ ((b1.s.trans d1).trans b0) ?_;unfold mT;rw[c3];exact .tup ae (.cons (.tup (b0 _ _ (d1 _ _ e8)) (RepAll.of_strs _)) (.cons (.tup (b0 _ _ d9) (e6.same b0)) .nil))
theorem jg {α β:Type}{f:α->List β}{m:Nat}:∀ {l:List α},(∀x∈l,(f x).length<=m)->(l.flatMap f).length<=l.length * m
 | [],_=>Cu _
 | x::l,h=>by
  rw[List.flatMap_cons,Cj,Cs];have h1:=h x (by simp);have h2:=jg (l:=l) λy hy=>h y (Cw _ hy);rw[Nat.add_mul];omega
def nW:Sp:=λvs H Q _=>∃(q us ks:_) (ts ws wn:Prs) (k:Str × LS),vs=[.ref q,.str k.1]/\Rep H (.ref q) (aK ks ts ws wn)/\Tre us ks/\dZ us ks ts/\WnX ks wn/\k∈ks/\ts.length<=200/\∀x H',Same H H'->Rep H' x (mT ks ts wn k)->Q x H'
theorem zc (F:Fun K "view" "view" xH f fd) (B:Blt mg) (b:Cal P w K mg base 2 "view_by" ["house","knot","partings"] og) (a:Cal P w K mg base 3 "kept_partings" ["house"] lE):FnOk P w K mg base CX0 4 f fd ["house","knot"] nW:=by
 refine F.ok1 ["house","knot"] λG H Q E n h=>?_;obtain⟨q,o,m,r,i,j,z,rfl,R,T,c,C,e,g,k⟩:=h;refine⟨_,(af (ao (pc b n (ak (pv 0) (p2 (pv 1) (pc a n (p1 (pv 0)))))))),?_⟩;refine⟨_,rfl,_,rfl,_,rfl,q,o,m,r,i,j,rfl,R,T,c,g,λl d D p u s A=>?_⟩;refine ap ⟨q,l,o,m,r,i,j,z,d,rfl,R.same p,T,c,C,e,g,s,A,λx y t v=>?_⟩;exact k x y (p.trans t) v
abbrev T3:=Str × Str × Str
def t3D (t:T3):PyData:=.tuple [.str t.1,.str t.2.1,.str t.2.2]
theorem qH (o:Option T3) (t:T3):PyData.eqv (jl o) (t3D t)=decide (o=some t):=by
 cases o with
 | none=>rfl
 | some q =>
  obtain⟨a,b,c⟩:=q;obtain⟨d,e,f⟩:=t;show ((a==d)&&((b==e)&&((c==f)&&true)))=_;rw[Bool.and_true,CQ];simp only[CT,beq_iff_eq,decide_eq_true_eq,Option.some.injEq,Prod.mk.injEq]
def Kt (t:T3):Prop:=(t.1=""∨Nm t.1)/\Nm t.2.1/\Nm t.2.2
theorem vr {z:Str}(h:z=""∨Nm z):PyData.canLay0 (.str z)=true:=by
 rcases h with rfl | h
 ·decide +kernel
 ·exact bM h
theorem op {t:T3}(h:Kt t):shp (t3D t):=by
 show ((PyData.canLay0 (.str t.1)&&(PyData.canLay0 (.str t.2.1)&&(PyData.canLay0 (.str t.2.2)&&true)))&&decide (PyData.depthAll (List.map PyData.str [t.1,t.2.1,t.2.2])+1<=64))=true;rw[vr h.1,bM h.2.1,bM h.2.2,hY];rfl
theorem qX {o:Option T3}(h:∀t,o=some t->Kt t):shp (jl o):=by
 cases o with
 | none=>show SeqAt.shaped .none=true;decide +kernel
 | some q=>exact op (h q rfl)
theorem qO {us:LS}{ks:Kn}(T:Tre us ks) {u v:Str}(d:u∈us) (b:v∈us) {t:T3}(h:aI ks u v=some t):Kt t:=by
 obtain⟨q,x,y⟩:=t;obtain⟨e,_,a,c,_⟩:=T.part d b h;refine⟨?_,T.nm _ a,T.nm _ c⟩;show q=""∨Nm q;rw[<- e];rcases (T.par_in a).1 with w | w
 ·exact .inl w
 ·exact .inr (T.nm _ w)
def dj (ks:Kn) (ts wn:Prs) (t:T3):T3:=match ts.find? λe=>decide (aI ks e.1 e.2=some t) with
 | some e=>((("tie":Str),e.1,e.2):T3)
 | none=>(if ((("first":Str),t.2.1):Str × Str)∈wn then ("first":Str) else "last",t.2.1,t.2.2)
theorem oO {ks:Kn}{ts wn:Prs}{t:T3}{i:Nat}{e:Str × Str}(b:(ts.take i).find? (λe=>decide (aI ks e.1 e.2=some t))=none) (he:ts[i]? = some e) (h:aI ks e.1 e.2=some t):dj ks ts wn t=((("tie":Str),e.1,e.2):T3):=by
 have a:=(BU.mp he)
 have:ts.find? (λe=>decide (aI ks e.1 e.2=some t))=some e:=by
  conv=>lhs;rw[<- DK i ts]
  rw[List.find?_append,b,Option.none_or,Dy a.1,a.2,CZ,Ca h]
 unfold dj;rw[this]
theorem mh {ks:Kn}{ts:Prs}{t:T3}{i:Nat}{e:Str × Str}(a:(ts.take i).find? (λe=>decide (aI ks e.1 e.2=some t))=none) (he:ts[i]? = some e) (h:aI ks e.1 e.2≠some t):(ts.take (i+1)).find? (λe=>decide (aI ks e.1 e.2=some t))=none:=by
 rw[Cf,he,List.find?_append,a,Option.none_or];show List.find? _ [e]=none;rw[CZ,Ct h];rfl
theorem ma {ks:Kn}{ts wn:Prs}{t:T3}(a:ts.find? (λe=>decide (aI ks e.1 e.2=some t))=none):dj ks ts wn t=(if ((("first":Str),t.2.1):Str × Str)∈wn then ("first":Str) else "last",t.2.1,t.2.2):=by
 unfold dj;rw[a]
theorem xI {H:Hp}{v:V}{t:T3}(h:Rep H v (t3D t)):∃q,v=.ref q/\H q=some (.tup [.str t.1,.str t.2.1,.str t.2.2]):=by
 obtain⟨q,d,rfl,b,a⟩:=Rep.tupI h;have a:RepAll H d (List.map PyData.str [t.1,t.2.1,t.2.2]):=a;have c:=RepAll.strs a;subst c;exact⟨q,rfl,b⟩
theorem dH {H:Hp}{q:Addr}{t:T3}(h:H q=some (.tup [.str t.1,.str t.2.1,.str t.2.2])):Rep H (.ref q) (t3D t):=.tup h (.cons (.str _) (.cons (.str _) (.cons (.str _) .nil)))
theorem gh {H H':Hp}{p:Addr}{ys:LV}(a:H p=some (.lst ys)) (b:But p H H') {v:V}{t:T3}(h:Rep H v (t3D t)):Rep H' v (t3D t):=by
 obtain⟨q,rfl,c⟩:=xI h;exact dH (cB a b c)
def oa:Sp:=λvs H Q _=>∃(q lp pt us ks:_) (ts ws wn:Prs) (refs t:_),vs=[.ref q,.ref lp,.ref pt]/\Rep H (.ref q) (aK ks ts ws wn)/\Tre us ks/\nK us wn/\dZ us ks ts/\H lp=some (.lst refs)/\RepAll H refs (ts.map (li ks))/\Rep H (.ref pt) (t3D t)/\Kt t/\∀x H',Same H H'->H x=none->Rep H' (.ref x) (t3D (dj ks ts wn t))->Q (.ref x) H'
theorem vh {f:Addr}{fd:FuncData}(F:Fun K "step_of" "step_of" qk f fd) (B:Blt mg) (Zz:mg "zip"=none):FnOk P w K mg base CX0 1 f fd ["house", "partings", "part"] oa := by
 refine F.ok1 ["house","partings","part","tie","found","word"] λnd H Q E j h=>?_;obtain⟨q,lp,pt,us,ks,ts,ws,wn,G,t,rfl,R,T,N,A,U,S,Rt,W,k⟩:=h;refine⟨_,(aa (bc PassesOwn.never rfl (wP K rfl Zz (p2 (px K j (pv 0) ac) (pv 1))) (bT (n:=2) K rfl (aH (am (i:=3) nd rfl (Or.inl rfl)) (aH (am (i:=4) nd rfl (Or.inl rfl)) bN))) (af (aJ (ah (br j.units) (pv 4) (pv 2) (aB _)) (af (ao (aF (ak aA (p2 (px K j (pv 3) ac) (px K j (pv 3) ac)))))) aw)))
  (aa (pst 5 nd (oT (ah (fF j.units) (aF (p2 aA (px K j (pv 2) ac))) (px K j (pv 0) ac) (by with_unfolding_all rfl)) aA aA))
  (af (ao (aF (ak (pv 5) (p2 (px K j (pv 2) ac) (px K j (pv 2) ac)))))))),?_⟩
 obtain⟨q',a,b,c3,d4,o,hq,_,R2,_,R4⟩:=bd R;cases o;obtain⟨b',rb,o,hb,D⟩:=ba R2;cases o;obtain⟨a3,Z,o,X,a2⟩:=ba R4;cases o;obtain⟨a4,o,r⟩:=xI Rt;cases o;have g:=D.len;have d:=S.len;rw[BQ] at g d;have a1:PyData.canLayAll0 (wn.map aE)=true:=aS λe l=>⟨gN (N e l).1,T.nm _ (N e l).2⟩
 refine⟨_,rfl,.tup (.of hq) rfl ⟨_,rfl,b,lp,_,_,rfl,.of hb,.of U,?_⟩⟩
 let M:Nat->SH:=λi v H'=>∃(L O:Option V),v=[some (.ref q),some (.ref lp),some (.ref pt),L,O,none]/\Same H H'/\(ts.take i).find? (λe=>decide (aI ks e.1 e.2=some t))=none
 refine wC (xs:=rb) (ys:=G) M ?_ ?_ ?_ ?_
 ·exact⟨none,none,rfl,Same.refl H,rfl⟩
 ·rintro i v H' hi ⟨L,O,rfl,u,_⟩;exact⟨.of (u _ _ hb),.of (u _ _ U)⟩
 ·rintro i x y p v H' m ⟨L,O,rfl,u,C⟩ hp;rw[CO] at m;obtain⟨e,ta,l,rfl,I⟩:=cW D m.1;obtain⟨e',Y,pv⟩:=pX S m.2;have ee:e=e':=BV (l.symm.trans Y);subst ee;refine nw hp λH2 sp ep=>?_;have c:=u.trans sp;refine⟨p,_,rfl,.of ep,rfl,_,_,rfl,_,_,rfl,rfl,?_⟩;refine⟨_,rfl,_,rfl,.tr (iZ (pv.same c)) (Rt.same c) (qX λt h=>qO T (A e (BW l)).1 (A e (BW l)).2.1 h) (op W) ⟨_,rfl,?_⟩⟩;rw[if_neg (show ¬ false=true by decide),qH];refine av (λh=>?_) (λh=>?_)
  ·have h:=Ch h;refine⟨_,rfl,.tup (.of (c _ _ I)) rfl ⟨_,rfl,.tup (.of (c _ _ I)) rfl ⟨(szl 3),λx s=>?_⟩⟩⟩;refine k x _ (c.trans (Same.new s)) (aW c s) ?_;rw[oO C l h];exact dH ae
  ·have h:aI ks e.1 e.2≠some t:=λz=>h (Ca z);exact⟨_,_,rfl,c,mh C l h⟩
 ·rintro v H1 ⟨L, O, rfl, u, C⟩;rw[Db,g,d,Nat.min_self,Cd (BR _)] at C;have a0:=ma (wn:=wn) C;apply tL (J:=λv HZ=>v=[some (.ref q),some (.ref lp),some (.ref pt),L,O,some (.str (if ((("first":Str),t.2.1):Str × Str)∈wn then "first" else "last"))]/\Same H HZ)
  ·intro bL;refine⟨_,rfl,.tup (.of (u _ _ r)) rfl ⟨(szl 2),λx s=>?_⟩⟩;refine nw s λH2 c et=>?_;have c:=u.trans c;refine⟨_,rfl,.tup (.of (c _ _ hq)) rfl ⟨d4,Z,_,aE ((("first":Str),t.2.1):Str × Str),rfl,c _ _ X,a2.same c,aO et,a1,eH (e:=((("first":Str),t.2.1):Str × Str)) ⟨gQ,W.2.1⟩,(by show 1<=16;decide),_,rfl,?_⟩⟩;rw[if_neg (show ¬ false=true by decide),dQ];refine av (λh=>?_) (λh=>?_)
   ·have h:=Ch h;dsimp only[tC,aX];exact bL _ _ ⟨by rw[if_pos h];rfl,c⟩
   ·have h:¬ ((("first":Str),t.2.1):Str × Str)∈wn:=λz=>h (Ca z);dsimp only[tC,aX];exact bL _ _ ⟨by rw[if_neg h];rfl,c⟩
  ·rintro v H2 ⟨rfl,c⟩;refine⟨_,rfl,_,rfl,.tup (.of (c _ _ r)) rfl ⟨_,rfl,.tup (.of (c _ _ r)) rfl ⟨(szl 3),λx s=>?_⟩⟩⟩;refine k x _ (c.trans (Same.new s)) (aW c s) ?_;rw[a0];exact dH ae
def spSteps:Sp:=λvs H Q _=>∃(q l us ks:_) (ts ws wn:Prs) (knot:_) (row:LS),vs=[.ref q,.str knot,.ref l]/\Rep H (.ref q) (aK ks ts ws wn)/\Tre us ks/\nK us wn/\dZ us ks ts/\ts.length<=200/\(knot=""∨Nm knot)/\H l=some (.lst (List.map V.str row))/\(∀u∈row,Nm u)/\row.length<=100 /\
 ∀x refs H',Same H H'->H x=none->H' x=some (.lst refs)->RepAll H' refs ((row.zip (row.drop 1)).map λe=>t3D (dj ks ts wn (knot,e.1,e.2)))->Q (.ref x) H'
theorem xj {f:Addr}{fd:FuncData}(F:Fun K "steps_along" "steps_along" gk f fd) (B:Blt mg) (Zz:mg "zip"=none) (c:Cal P w K mg base 3 "kept_partings" ["house"] lE) (g:Cal P w K mg base 1 "step_of" ["house","partings","part"] oa):FnOk P w K mg base CX0 4 f fd ["house","knot","row"] spSteps:=by
 refine F.ok1 ["house","knot","row","partings"] λnd H Q E Z h=>?_;obtain⟨q,l,us,ks,ts,ws,wn,b,a,rfl,R,T,a0,J,tl,a6,hl,Y,rl,k⟩:=h;refine⟨_,(aa (bW (i:=3) nd rfl (Or.inr rfl) (pc c Z (p1 (pv 0))))
  (af (ao (cC (au gk) ["house","knot","row","partings"] [0,3,1] "pair" ["house","partings","knot"] (vw K rfl Zz (p2 (pv 2) (bZ (iD K) (pv 2) (ce ac) cP))) cS (pc g Z (ak (pv 1) (p2 (pv 2) (aF (ak (pv 3) (p2 (px K Z (pv 0) ac) (px K Z (pv 0) ac))))))))))),?_⟩
 refine⟨_,rfl,q,us,ks,ts,ws,wn,rfl,R,T,J,tl,λlp W H1 s1 a8 a5 a1=>?_⟩;refine⟨_,rfl,_,rfl,_,rfl,.lst (.of (s1 _ _ hl)) λl2 a2=>?_⟩;rw[show (1:Int)=((1:Nat):Int) from rfl,iI,<- List.map_drop];refine nw a2 λH2 s2 e2=>?_;have z:=s1.trans s2;have U:=s2 _ _ a5;have O:=a1.same s2;have R2:=R.same z;have X:=z _ _ hl;refine ap ⟨l,l2,_,_,rfl,.of X,.of e2,?_⟩;have zl:((List.map V.str a).zip (List.map V.str (a.drop 1))).length=(a.zip (a.drop 1)).length:=by simp
 have a9:(a.zip (a.drop 1)).length<=100:=by rw[Db];omega
 let L:Addr->Nat->LV->SH:=λD i j s I=>∃o,s=[o,some (.ref q),some (.ref lp),some (.str b)]/\RepAll I j (((a.zip (a.drop 1)).take i).map λe=>t3D (dj ks ts wn (b,e.1,e.2)))/\Same H2 I/\H2 D=none
 refine wW (List.map V.str a) (List.map V.str (a.drop 1)) L λD hD=>⟨?_,?_,?_,?_⟩
 ·exact⟨none,rfl,.nil,Same.new hD,hD⟩
 ·rintro i j s I _ ⟨o,rfl,_,G,_⟩ _;exact⟨.of (G _ _ X),.of (G _ _ e2)⟩
 ·rintro i j s I x y p C ⟨o,rfl,S,G,t⟩ r hp;rw[CO] at C;obtain⟨u,hu,rfl⟩:=bp C.1;obtain⟨v,hv,rfl⟩:=bp C.2;have hz:(a.zip (a.drop 1))[i]? = some (u,v):=by rw[CO];exact⟨hu,hv⟩
  have b0:=(BU.mp hz).1;have M:=S.len;rw[BQ,Ck] at M;have a7:v∈a:=Dk (BW hv);have kt:Kt (b,u,v):=⟨a6,Y u (BW hu),Y v a7⟩
  refine nw hp λH3 sp ep=>?_;have s3:=G.trans sp;have A:=sp _ _ r;have a3:=S.same sp;refine ip ?_;refine⟨_,rfl,_,rfl,_,rfl,_,rfl,.tup (.of ep) rfl ⟨_,rfl,.tup (.of ep) rfl ⟨(szl 3),λpt a4=>?_⟩⟩⟩;have s4:=Same.new (o:=.tup [V.str b,V.str u,V.str v]) a4;have rt:Rep (upd H3 pt (.tup [V.str b,V.str u,V.str v])) (.ref pt) (t3D (b,u,v)):=dH ae;have n:=s3.trans s4;have m:=s4 _ _ A;have N:=a3.same s4;generalize upd H3 pt (.tup [V.str b,V.str u,V.str v])=H4 at rt n m N ⊢;refine ap ⟨q,lp,pt,us,ks,ts,ws,wn,W,(b,u,v),rfl,R2.same n,T,a0,J,n _ _ U,O.same n,rt,kt,λx H5 s5 hx rx=>?_⟩;have d:=s5 _ _ m;refine⟨d,aj (by omega),_,rfl,?_,aV (n.trans s5) t,t⟩;rw[Cf,hz,BX];exact RepAll.append (aP (gh d But.upd) (N.same s5)) (.cons (gh d But.upd rx) .nil)
 ·rintro j s I ⟨o,rfl,S,G,t⟩ r;rw[zl,Cd (BR _)] at S;exact k D j I (z.trans G) (aW z t) r S
theorem fQ {ss:LS}{i:Nat}(h:i<ss.length):ss.getD i ""∈ss:=by
 rw[CA,Ci h];exact DS h
def nmP (ss:LS) (e:Nat × Nat):Str × Str:=(ss.getD e.1 "",ss.getD e.2 "")
theorem dR {ss:LS}(g:ss.Nodup) (nm:∀s∈ss,Nm s) {a b:Nat}(c:a<ss.length) (h:ss.getD a ""=ss.getD b ""):a=b:=by
 by_cases f:b<ss.length
 ·rw[CA,CA,Ci c,Ci f] at h;exact(List.getElem_inj g).mp h
 ·have e:ss.getD b ""="":=by rw[CA,Ef (by omega)];rfl
  have d:=(nm _ (fQ c)).1;rw[h,e] at d;exact absurd d (by decide)
def jW (es:List (Nat × Nat)):List (Nat × Nat):=es.map λe=>(e.2,e.1)
theorem yk (ss:LS) (es:List (Nat × Nat)):aY (es.map (nmP ss))=(jW es).map (nmP ss):=by
 unfold aY jW;rw[CK,CK];rfl
theorem xa {ss:LS}{es:List (Nat × Nat)}(a:∀e∈es,e.1<ss.length/\e.2<ss.length):∀e∈jW es,e.1<ss.length/\e.2<ss.length:=λe c=>by
 obtain⟨f,b,rfl⟩:=BY.mp c;exact⟨(a f b).2,(a f b).1⟩
theorem mQ:t ∈ (ts.filter λe => decide (e.1=s)).map (λe => e.2) ↔ (s, t) ∈ (if false then aY ts else ts) := by
 rw[BY]
 constructor
 ·rintro⟨⟨x,y⟩,h,rfl⟩;have h:=Cg.mp h;have a:=Ch h.2;subst a
  first
   | exact h.1
   | exact mem_flip.mpr h.1
 ·intro h
  first
   | exact⟨(s,t),Cg.mpr ⟨h,Ca rfl⟩,rfl⟩
   | exact⟨(t,s),Cg.mpr ⟨mem_flip.mp h,Ca rfl⟩,rfl⟩
theorem vO (F:Fun K "nexts" "nexts" kH f fd) (B:Blt mg) (p:Cal P w K mg base 1 "places_of" ["things"] fS):FnOk P w K mg base CX0 2 f fd ["web", "one"] (gJ false) := by
 refine F.ok1 ["web","one","found"] λnd H Q E I h=>?_;obtain⟨q,L,G,s,rfl,W,k⟩:=h;refine⟨_,(aa (bW (i:=2) nd rfl (Or.inr rfl) (pc p I (p1 (cC (au kH) ["web","one","found"] [1] "tie" ["one"] (bf K (px K I (pv 0) ac)) (bx (ah (br I.units) (px K I (pv 0) ac) (pv 1) (aB _))) (px K I (pv 0) ac)))))
  (af (ao (cC (au kH) ["web","one","found"] [2] "thing" ["found"] (bf K (px K I (pv 0) ac)) (bx (ah (bK K I.units) (pv 0) (pv 1) (by with_unfolding_all rfl))) (pv 0))))),?_⟩
 obtain⟨q,a,b,xs,rfl,hq,ha,hb,rp⟩:=gx W.rep;have A:=rp.len;rw[BQ] at A;refine⟨_,rfl,.tup (.of hq) rfl ⟨_,rfl,⟨_,.of hb⟩,?_⟩⟩
 let R:Addr->Nat->LV->SH:=λD i m n C=>∃o,n=[o,some (.str s)]/\m=((G.take i).filter λe=>decide (e.1=s)).map (λe=>V.str e.2)/\Same H C/\H D=none
 refine cy xs R λD hD=>⟨?_,?_,?_,?_⟩
 ·exact⟨none,rfl,rfl,Same.new hD,hD⟩
 ·rintro i m n C _ ⟨o,rfl,_,u,_⟩ _;exact .of (u _ _ hb)
 ·rintro i m n C x J ⟨o, rfl, g, u, l⟩ j;obtain⟨d,T,rd⟩:=(rp.same u).get J;rw[Ce] at T;obtain⟨e,Z,rfl⟩:∃e,G[i]? = some e/\aE e=d:=by
   cases q:G[i]? with
   | none=>rw[q] at T;cases T
   | some e=>rw[q] at T;exact⟨e,rfl,BV T⟩
  obtain⟨ta,rfl,O⟩:=fE rd;have X:=(BU.mp Z).1;refine⟨_,rfl,.tup (.of O) rfl ⟨_,rfl,.sc rfl ⟨_,rfl,?_⟩⟩⟩;refine av (λr=>?_) (λr=>?_)
  ·have r:e.1=s:=V.str.inj (Ch r);refine⟨_,rfl,.tup (.of O) rfl ⟨j,?_,_,rfl,?_,?_,l⟩⟩
   ·rw[g,BQ];have U:=CG (λe:Str × Str=>decide (e.1=s)) (G.take i);rw[Ck] at U;have:=W.few;exact aj (by omega)
   ·rw[Cf,Z,g,CH,BX];simp[r]
   ·intro c o S;rw[ag (ai S l)];exact u _ _ S
  ·have r:¬ e.1=s:=λz=>r (Ca (congrArg V.str z));refine⟨j,_,rfl,?_,u,l⟩;rw[Cf,Z,g,CH,BX];simp[r]
 ·rintro m n H1 ⟨o, rfl, g, s1, l⟩ j;rw[A,Cd (BR _)] at g;have ea:m=List.map V.str ((G.filter λe=>decide (e.1=s)).map (λe=>e.2)):=by rw[g,CK];rfl
  refine⟨D,_,rfl,by rw[<- ea];exact j,?_,?_⟩
  ·rw[BQ];have U:=CG (λe:Str × Str=>decide (e.1=s)) G;have:=W.few;omega
  ·intro d v H2 s2 a1 hk a0 a2;have y:=s1.trans s2;refine⟨_,rfl,.tup (.of (y _ _ hq)) rfl ⟨_,rfl,⟨_,.of (y _ _ ha)⟩,?_⟩⟩
   let N:Addr->Nat->LV->SH:=λD i m n C=>∃o,n=[o,some (.ref d)]/\m=List.map V.str ((L.take i).filter λt=>(aD v (.inr t)).isSome)/\Same H2 C/\H2 D=none
   refine cy (List.map V.str L) N λD' M=>⟨?_,?_,?_,?_⟩
   ·exact⟨none,rfl,rfl,Same.new M,M⟩
   ·rintro i m n C _ ⟨o,rfl,_,u,_⟩ _;exact .of (u _ _ (y _ _ ha))
   ·rintro i m n C x J ⟨o, rfl, g, u, l⟩ j;rw[Ce] at J;obtain⟨t,Y,rfl⟩:∃t,L[i]? = some t/\V.str t=x:=by
     cases q:L[i]? with
     | none=>rw[q] at J;cases J
     | some e=>rw[q] at J;exact⟨e,rfl,BV J⟩
    have X:=(BU.mp Y).1;refine⟨_,rfl,_,rfl,.dic (DGet.k (k:=.inr t) (u _ _ hk)) ⟨_,rfl,?_⟩⟩;refine av (λr=>?_) (λr=>?_)
    ·refine⟨_,rfl,j,?_,_,rfl,?_,?_,l⟩
     ·rw[g,BQ];have U:=CG (λt:Str=>(aD v (.inr t)).isSome) (L.take i);rw[Ck] at U;have:=W.len;exact aj (by omega)
     ·have r:(aD v (.inr t)).isSome=true:=r;rw[Cf,Y,g,CH,BX];simp[r]
     ·intro c o S;rw[ag (ai S l)];exact u _ _ S
    ·have r:¬ (aD v (.inr t)).isSome=true:=r;refine⟨j,_,rfl,?_,u,l⟩;rw[Cf,Y,g,CH,BX];simp[r]
   ·rintro m n C ⟨o, rfl, g, u, l⟩ j;rw[BQ,Cd (BR _)] at g;refine k _ _ (y.trans u) ?_ ?_
    ·cases e:H D' with
     | none=>rfl
     | some o=>rw[y _ _ e] at l;cases l
    ·rw[j,g];have:(L.filter λt=>(aD v (.inr t)).isSome)=dJ L (if false then aY G else G) s:=by
      unfold dJ;refine Ej λt _=>?_;rw[CQ,a0 t,mQ,decide_eq_true_iff]
     rw[this]
theorem oN:t ∈ (ts.filter λe => decide (e.2=s)).map (λe => e.1) ↔ (s, t) ∈ (if true then aY ts else ts) := by
 rw[BY]
 constructor
 ·rintro⟨⟨x,y⟩,h,rfl⟩;have h:=Cg.mp h;have a:=Ch h.2;subst a
  first
   | exact h.1
   | exact mem_flip.mpr h.1
 ·intro h
  first
   | exact⟨(s,t),Cg.mpr ⟨h,Ca rfl⟩,rfl⟩
   | exact⟨(t,s),Cg.mpr ⟨mem_flip.mp h,Ca rfl⟩,rfl⟩
theorem uA (F:Fun K "priors" "priors" iX f fd) (B:Blt mg) (p:Cal P w K mg base 1 "places_of" ["things"] fS):FnOk P w K mg base CX0 2 f fd ["web", "one"] (gJ true) := by
 refine F.ok1 ["web","one","found"] λnd H Q E I h=>?_;obtain⟨q,L,G,s,rfl,W,k⟩:=h;refine⟨_,(aa (bW (i:=2) nd rfl (Or.inr rfl) (pc p I (p1 (cC (au iX) ["web","one","found"] [1] "tie" ["one"] (bf K (px K I (pv 0) ac)) (bx (ah (br I.units) (px K I (pv 0) ac) (pv 1) (aB _))) (px K I (pv 0) ac)))))
  (af (ao (cC (au iX) ["web","one","found"] [2] "thing" ["found"] (bf K (px K I (pv 0) ac)) (bx (ah (bK K I.units) (pv 0) (pv 1) (by with_unfolding_all rfl))) (pv 0))))),?_⟩
 obtain⟨q,a,b,xs,rfl,hq,ha,hb,rp⟩:=gx W.rep;have A:=rp.len;rw[BQ] at A;refine⟨_,rfl,.tup (.of hq) rfl ⟨_,rfl,⟨_,.of hb⟩,?_⟩⟩
 let M:Addr->Nat->LV->SH:=λD i m n C=>∃o,n=[o,some (.str s)]/\m=((G.take i).filter λe=>decide (e.2=s)).map (λe=>V.str e.1)/\Same H C/\H D=none
 refine cy xs M λD hD=>⟨?_,?_,?_,?_⟩
 ·exact⟨none,rfl,rfl,Same.new hD,hD⟩
 ·rintro i m n C _ ⟨o,rfl,_,u,_⟩ _;exact .of (u _ _ hb)
 ·rintro i m n C x J ⟨o, rfl, g, u, l⟩ j;obtain⟨d,T,rd⟩:=(rp.same u).get J;rw[Ce] at T;obtain⟨e,Z,rfl⟩:∃e,G[i]? = some e/\aE e=d:=by
   cases q:G[i]? with
   | none=>rw[q] at T;cases T
   | some e=>rw[q] at T;exact⟨e,rfl,BV T⟩
  obtain⟨ta,rfl,O⟩:=fE rd;have X:=(BU.mp Z).1;refine⟨_,rfl,.tup (.of O) rfl ⟨_,rfl,.sc rfl ⟨_,rfl,?_⟩⟩⟩;refine av (λr=>?_) (λr=>?_)
  ·have r:e.2=s:=V.str.inj (Ch r);refine⟨_,rfl,.tup (.of O) rfl ⟨j,?_,_,rfl,?_,?_,l⟩⟩
   ·rw[g,BQ];have U:=CG (λe:Str × Str=>decide (e.2=s)) (G.take i);rw[Ck] at U;have:=W.few;exact aj (by omega)
   ·rw[Cf,Z,g,CH,BX];simp[r]
   ·intro c o R;rw[ag (ai R l)];exact u _ _ R
  ·have r:¬ e.2=s:=λz=>r (Ca (congrArg V.str z));refine⟨j,_,rfl,?_,u,l⟩;rw[Cf,Z,g,CH,BX];simp[r]
 ·rintro m n H1 ⟨o, rfl, g, s1, l⟩ j;rw[A,Cd (BR _)] at g;have ea:m=List.map V.str ((G.filter λe=>decide (e.2=s)).map (λe=>e.1)):=by rw[g,CK];rfl
  refine⟨D,_,rfl,by rw[<- ea];exact j,?_,?_⟩
  ·rw[BQ];have U:=CG (λe:Str × Str=>decide (e.2=s)) G;have:=W.few;omega
  ·intro d v H2 s2 a1 hk a0 a2;have y:=s1.trans s2;refine⟨_,rfl,.tup (.of (y _ _ hq)) rfl ⟨_,rfl,⟨_,.of (y _ _ ha)⟩,?_⟩⟩
   let S:Addr->Nat->LV->SH:=λD i m n C=>∃o,n=[o,some (.ref d)]/\m=List.map V.str ((L.take i).filter λt=>(aD v (.inr t)).isSome)/\Same H2 C/\H2 D=none
   refine cy (List.map V.str L) S λD' N=>⟨?_,?_,?_,?_⟩
   ·exact⟨none,rfl,rfl,Same.new N,N⟩
   ·rintro i m n C _ ⟨o,rfl,_,u,_⟩ _;exact .of (u _ _ (y _ _ ha))
   ·rintro i m n C x J ⟨o, rfl, g, u, l⟩ j;rw[Ce] at J;obtain⟨t,Y,rfl⟩:∃t,L[i]? = some t/\V.str t=x:=by
     cases q:L[i]? with
     | none=>rw[q] at J;cases J
     | some e=>rw[q] at J;exact⟨e,rfl,BV J⟩
    have X:=(BU.mp Y).1;refine⟨_,rfl,_,rfl,.dic (DGet.k (k:=.inr t) (u _ _ hk)) ⟨_,rfl,?_⟩⟩;refine av (λr=>?_) (λr=>?_)
    ·refine⟨_,rfl,j,?_,_,rfl,?_,?_,l⟩
     ·rw[g,BQ];have U:=CG (λt:Str=>(aD v (.inr t)).isSome) (L.take i);rw[Ck] at U;have:=W.len;exact aj (by omega)
     ·have r:(aD v (.inr t)).isSome=true:=r;rw[Cf,Y,g,CH,BX];simp[r]
     ·intro c o R;rw[ag (ai R l)];exact u _ _ R
    ·have r:¬ (aD v (.inr t)).isSome=true:=r;refine⟨j,_,rfl,?_,u,l⟩;rw[Cf,Y,g,CH,BX];simp[r]
   ·rintro m n C ⟨o, rfl, g, u, l⟩ j;rw[BQ,Cd (BR _)] at g;refine k _ _ (y.trans u) ?_ ?_
    ·cases e:H D' with
     | none=>rfl
     | some o=>rw[y _ _ e] at l;cases l
    ·rw[j,g];have:(L.filter λt=>(aD v (.inr t)).isSome)=dJ L (if true then aY G else G) s:=by
      unfold dJ;refine Ej λt _=>?_;rw[CQ,a0 t,oN,decide_eq_true_iff]
     rw[this]
theorem js (F:Fun K "priors_of_all" "priors_of_all" ko f fd) (B:Blt mg) (m:Cal P w K mg base 2 "priors" ["web", "one"] (gJ true)):FnOk P w K mg base CX0 3 f fd ["web"] (dX true) := by
 refine F.ok1 ["web","table","thing"] λY H Q E M h=>?_;obtain⟨q,v,O,rfl,W,k⟩:=h;refine⟨_,(aa (pst 1 Y fG)
  (aa (bc PassesOwn.never rfl (bf K (px K M (pv 0) ac)) (am (i:=2) Y rfl (Or.inl rfl)) (af (cn (pc m M (p2 (pv 0) (pv 2))) (cO (pv 1) (pv 2) (dy M.units)))))
  (af (ao (pv 1))))),?_⟩
 intro d I;have W1:=W.same (Same.new (o:=.dK []) I);obtain⟨q,a,b,xs,rfl,hq,U,hb,rp⟩:=gx W.rep;have N:=Same.new (o:=.dK []) I;refine⟨_,rfl,.tup (.of (N _ _ hq)) rfl ⟨_,rfl,⟨_,.of (N _ _ U)⟩,?_⟩⟩
 let y:Nat->SH:=λi J r=>∃D g,J=[some (.ref q),some (.ref d),D]/\Same H r/\r d=some (.dK g)/\g.length<=i/\∀s∈v.take i,∃l,aD g (.inr s)=some (.ref l)/\r l=some (.lst (List.map V.str (dJ v (if true then aY O else O) s)))
 refine cu (R:=Q) (xs:=List.map V.str v) y ?_ ?_ ?_ ?_
 ·exact⟨none,[],rfl,N,ae,BR _,λs n=>by simp at n⟩
 ·rintro i J r hi ⟨D,g,rfl,u,_⟩;exact .of (u _ _ U)
 ·rintro _ i x J r C ⟨D, g, rfl, u, L, a0, j⟩;rw[Ce] at C;obtain⟨t,S,rfl⟩:∃t,v[i]? = some t/\V.str t=x:=by
   cases q:v[i]? with
   | none=>rw[q] at C;cases C
   | some e=>rw[q] at C;exact⟨e,rfl,BV C⟩
  have Z:=(BU.mp S).1;refine⟨_,rfl,_,rfl,.ref q,v,O,t,rfl,W.same u,λl H2 G hl A=>?_⟩;have p:=G _ _ L;have:=W.len;refine⟨_,rfl,_,rfl,.dic (DPut.k (k:=.inr t) p (aj (by omega))) ⟨_,_,rfl,?_,ae,?_,?_⟩⟩
  ·intro c o T;rw[ag (ai T I)];exact G _ _ (u _ _ T)
  ·have:=bw g (.inr t) (V.ref l);omega
  ·intro s n;rw[Cf,S,Cb] at n;by_cases q:s=t
   ·subst q;refine⟨l,by rw[cG,if_pos rfl],?_⟩;rw[ag (aZ A p (by intro z;cases z))];exact A
   ·rcases n with n | n
    ·obtain⟨l',e1,X⟩:=j s n;refine⟨l',by rw[cG,if_neg (λz=>q (Sum.inr.inj z))];exact e1,?_⟩;rw[ag (aZ (G _ _ X) p (by intro z;cases z))];exact G _ _ X
    ·exact absurd (by simpa using n) q
 ·rintro J r ⟨D,g,rfl,u,L,_,j⟩;rw[BQ,Cd (BR _)] at j;exact⟨_,rfl,k d r u I ⟨g,L,j⟩⟩
structure Stp (H H':Hp) (ss:LS) (e:Addr) (look:Str->Option Nat) (kvs:KV_):Prop where
 sm:Same H H'
 at_:H' e=some (.dK kvs)
 lk:∀t,aD kvs (.inr t)=(look t).map λk:Nat=>V.int (k:Int)
 nd:(kvs.map (·.1)).Nodup
 ks:∀k∈kvs.map (·.1),∃t∈ss,k=Sum.inr t
theorem Stp.len (h:Stp H H' ss e look kvs):kvs.length<=ss.length:=by
 have:=h.nd.length_le_of_subset (l₂:=ss.map (Sum.inr:Str->Key)) λk a=>by
  obtain⟨t,b,rfl⟩:=h.ks k a;exact BY.mpr ⟨t,b,rfl⟩
 simpa using this
theorem Stp.oth (h:Stp H H' ss e look kvs) (d:H b=none) (n:e≠b):Stp H (upd H' b o) ss e look kvs :=
 ⟨λc f a=>by rw[ag (ai a d)];exact h.sm _ _ a,by rw[ag n];exact h.at_,h.lk,h.nd,h.ks⟩
theorem Stp.put (h:Stp H H' ss e look kvs) (he:H e=none) (g:t ∈ ss) (i:look t=none) (k:Nat) :
    Stp H (upd H' e (.dK (bj kvs (.inr t) (.int (k:Int))))) ss e (λa=>if a=t then some k else look a) (bj kvs (.inr t) (.int (k:Int))):=by
 have d:aD kvs (.inr t)=none:=by rw[h.lk,i];rfl
 refine⟨λc j f=>by rw[ag (ai f he)];exact h.sm _ _ f,ae,λu=>?_,yn _ h.nd d,λq b=>?_⟩
 ·rw[cG];by_cases q:u=t
  ·subst q;rw[if_pos rfl];simp
  ·rw[if_neg (λz=>q (Sum.inr.inj z)),h.lk u];simp[q]
 ·rw[oq _ d,BX] at b;rcases Cb.mp b with b | b
  ·exact h.ks q b
  ·have:q=Sum.inr t:=by simpa using b
   exact⟨t,g,this⟩
def gX:Sp:=λvs H Q _=>∃d st s ss f,vs=[.ref d,.ref st]/\H st=some (.lst [V.str s])/\Tab H d ss f/\s∈ss/\ss.length<=60/\(∀t∈ss,∀u∈f t,u∈ss) /\
 ∀e kvs H',Same H H'->H e=none->H' e=some (.dK kvs)->(∀t v,aD kvs (.inr t)=some v ↔ ∃k:Nat,v=.int k/\MG.Dst (Ner ss f) s k t)->Q (.ref e) H'
theorem tX (F:Fun K "steps_from" "steps_from" tJ f fd) (B:Blt mg):FnOk P w K mg base CX0 1 f fd ["table", "starts"] gX := by
 refine F.ok1 ["table","starts","steps","start","edge","further","thing","near"] λnd H Q E hr h=>?_;obtain⟨d,st,s,G,Y,rfl,a9,T,hs,c8,b8,k⟩:=h;refine⟨_,(aa (pst 2 nd fG)
  (aa (bc PassesOwn.never rfl (be K (pv 1)) (am (i:=3) nd rfl (Or.inl rfl)) (af (cn ac (cO (pv 2) (pv 3) (dy hr.units)))))
  (aa (pst 4 nd (gs K rfl B (p1 (pv 1))))
  (aa (dM PassesOwn.never (ah iP (bh K B (p1 (pv 4))) ac (aB _)) (aa (pst 5 nd (aQ cj))
  (aa (bc PassesOwn.never rfl (be K (pv 4)) (am (i:=6) nd rfl (Or.inl rfl)) (af (bc PassesOwn.never rfl (be K (px K hr (pv 0) (pv 6))) (am (i:=7) nd rfl (Or.inl rfl)) (af (aJ (ah (cJ K hr.units) (pv 7) (pv 2) (by with_unfolding_all rfl)) (aa (cn (aG aM (px K hr (pv 2) (pv 6)) ac) (cO (pv 2) (pv 7) (dy hr.units)))
  (af (bi (cz K (pv 5) (p1 (pv 7)))))) aw)))))
  (af (pst 4 nd (pv 5))))))
  (af (ao (pv 2))))))),?_⟩
 have b7:∀y,MG.Rch (Ner G Y) s y->y∈G:=λy r=>MG.Rch.closed (S:=λy=>y∈G) hs (λa b ha r=>b8 a ha b r.2) r;intro e he;have a3:st≠e:=ai a9 he;refine⟨_,rfl,st,rfl,⟨_,.of (by rw[ag a3];exact a9)⟩,?_⟩
 let c0:Nat->SH:=λi O C=>∃o3 o4 N I o7,O=[some (.ref d),some (.ref st),some (.ref e),o3,o4,N,I,o7]/\C st=some (.lst [V.str s])/\(i=0->C=upd H e (.dK []))/\(i≠0->∃kvs,Stp H C G e (λa=>if a=s then some 0 else none) kvs)
 refine cI (R:=Q) (xs:=[V.str s]) c0 ?_ ?_ ?_ ?_
 ·exact⟨none,none,none,none,none,rfl,by rw[ag a3];exact a9,λ_=>rfl,λz=>absurd rfl z⟩
 ·rintro i O C hi ⟨o3,o4,N,I,o7,rfl,X,_⟩;exact .of X
 ·rintro _ i x O C W ⟨o3,o4,N,I,o7,rfl,X,h2,_⟩;have hi:i<1:=(BU.mp W).1;have hi:i=0:=by omega
  subst hi;have W:V.str s=x:=BV W;subst W;have h2:=h2 rfl;subst h2;have h0:Stp H (upd (upd H e (.dK [])) e (.dK (bj [] (.inr s) (.int ((0:Nat):Int))))) G e (λa=>if a=s then some 0 else none) (bj [] (.inr s) (.int ((0:Nat):Int))) :=
   Stp.put (kvs:=[]) (look:=λ_=>none) ⟨Same.new he,ae,λt=>rfl,DG,λk hk=>by cases hk⟩ he hs rfl 0
  refine⟨_,rfl,_,rfl,.dic (DPut.k (k:=.inr s) ae (by show 0<sizeLine;decide)) ⟨_,_,_,_,_,rfl,by rw[ag a3];exact X,λz=>absurd z (by omega),λ_=>⟨_,h0⟩⟩⟩
 rintro O H1 ⟨o3,o4,N,I,o7,rfl,b2,_,hS⟩;obtain⟨d2,h0⟩:=hS (by show 1≠0;omega);refine⟨_,rfl,_,rfl,.seq (.inl (.of b2)) λl0 a8=>?_⟩;have a5:H l0=none:=by
  cases q:H l0 with
  | none=>rfl
  | some o=>rw[h0.sm _ _ q] at a8;cases a8
 have X:=h0.oth (o:=.lst [V.str s]) a5 (ai h0.at_ a8)
 let b9:Nat->SH:=λm O C=>∃L U c kvs look o3 o4 N I,m+L=G.length/\O=[some (.ref d),some (.ref st),some (.ref e),o3,some (.ref U),o4,N,I]/\Stp H C G e look kvs/\H U=none/\C U=some (.lst (List.map V.str c))/\c.length<=60/\MG.Lev (Ner G Y) s L look c
 refine⟨b9,
  ⟨G.length,0,l0,[s],_,_,o3,N,I,o7,by omega,rfl,X,a5,ae,by show 1<=60;decide,MG.Lev.start λy=>rfl⟩,?_⟩
 rintro m O H2 ⟨L,U,c,kvs,look,o3,o4,N,I,hm,rfl,S,c9,A,d1,a0⟩;refine⟨_,rfl,_,_,rfl,Or.inl ⟨_,.of A,rfl⟩,_,_,rfl,rfl,_,rfl,?_⟩;refine av (λZ=>?_) (λZ=>?_)
 ·have Z:(0:Int)<((List.map V.str c).length:Nat) := Ch Z;rw[BQ] at Z;have hL:L<G.length:=by
   cases c with
   | nil=>simp at Z
   | cons y r=>exact MG.Dst.lt b7 ((a0.edg y).mp (by simp))
  let c1:SH:=λb1 C=>∃U c kvs look o3 o4 N I,b1=[some (.ref d),some (.ref st),some (.ref e),o3,some (.ref U),o4,N,I]/\Stp H C G e look kvs/\H U=none/\C U=some (.lst (List.map V.str c))/\c.length<=60/\MG.Lev (Ner G Y) s (L+1) look c
  refine⟨c1,
   λb1 C ⟨U,c,kvs,look,o3,o4,N,I,p⟩=>⟨m-1,by omega,L+1,U,c,kvs,look,o3,o4,N,I,by omega,p⟩,?_⟩
  refine⟨(szl 0),λlf u=>?_⟩;have a4:H lf=none:=by
   cases q:H lf with
   | none=>rfl
   | some o=>rw[S.sm _ _ q] at u;cases u
  have a6:U≠lf:=ai A u;have S1:=S.oth (o:=.lst []) a4 (ai S.at_ u);refine⟨_,rfl,U,rfl,⟨_,.of (by rw[ag a6];exact A)⟩,?_⟩
  let b4:Nat->SH:=λi O C=>∃kvs look g N I,O=[some (.ref d),some (.ref st),some (.ref e),o3,some (.ref U),some (.ref lf),N,I]/\Stp H C G e look kvs/\C U=some (.lst (List.map V.str c))/\C lf=some (.lst (List.map V.str g))/\g.Nodup/\(∀t∈g,t∈G)/\MG.Mid (Ner G Y) s L look g (λz y=>z∈c.take i/\Ner G Y z y)
  refine cI (R:=Q) (xs:=List.map V.str c) b4 ?_ ?_ ?_ ?_
  ·exact⟨kvs,look,[],N,I,rfl,S1,by rw[ag a6];exact A,ae,DG,(λt ht=>by cases ht),a0.mid.wk λa b h=>by simp at h⟩
  ·rintro i O C hi ⟨kvs,look,g,N,I,rfl,S,A,_⟩;exact .of A
  ·rintro _ i x O C W ⟨kvs, look, g, N, I, rfl, S, A, u, M, J, D⟩;rw[Ce] at W;obtain⟨z,hz,rfl⟩:∃z,c[i]? = some z/\V.str z=x:=by
    cases q:c[i]? with
    | none=>rw[q] at W;cases W
    | some e=>rw[q] at W;exact⟨e,rfl,BV W⟩
   have dz:=(a0.edg z).mp (BW hz);have a7:=b7 z dz.rch;obtain⟨c2,hd,ht⟩:=T;obtain⟨l,el,hl⟩:=ht z a7;have c6:=S.sm _ _ hl;refine⟨_,rfl,_,rfl,.dic (.inl ⟨c2,.inr z,.inl (S.sm _ _ hd),rfl,el.symm⟩) ⟨l,rfl,⟨_,.of c6⟩,?_⟩⟩
   let b0:Nat->SH:=λj O C=>∃kvs look g I,O=[some (.ref d),some (.ref st),some (.ref e),o3,some (.ref U),some (.ref lf),some (.str z),I]/\Stp H C G e look kvs/\C U=some (.lst (List.map V.str c))/\C lf=some (.lst (List.map V.str g))/\g.Nodup/\(∀t∈g,t∈G)/\MG.Mid (Ner G Y) s L look g (λa y=>(a∈c.take i/\Ner G Y a y)∨(a=z/\y∈(Y z).take j))
   refine cI (R:=Q) (xs:=List.map V.str (Y z)) b0 ?_ ?_ ?_ ?_
   ·exact⟨kvs,look,g,I,rfl,S,A,u,M,J,D.wk λa b h=>by simpa using h⟩
   ·rintro j O C hj ⟨kvs,look,g,I,rfl,S,_⟩;exact .of (S.sm _ _ hl)
   ·rintro _ j x O C W ⟨kvs, look, g, I, rfl, S, A, u, M, J, D⟩;rw[Ce] at W;obtain⟨y,hy,rfl⟩:∃y,(Y z)[j]? = some y/\V.str y=x:=by
     cases q:(Y z)[j]? with
     | none=>rw[q] at W;cases W
     | some e=>rw[q] at W;exact⟨e,rfl,BV W⟩
    have b3:=BW hy;have b6:=b8 z a7 y b3;have a2:∀a b,((a∈c.take i/\Ner G Y a b)∨(a=z/\b∈(Y z).take (j+1)))->((a∈c.take i/\Ner G Y a b)∨(a=z/\b∈(Y z).take j))∨(a=z/\b=y):=by
     intro a b h;rcases h with h | ⟨X,h2⟩
     ·exact .inl (.inl h)
     ·rw[Cf,hy,Cb] at h2;rcases h2 with h2 | h2
      ·exact .inl (.inr ⟨X,h2⟩)
      ·exact .inr ⟨X,by simpa using h2⟩
    refine⟨_,rfl,_,rfl,.dic (DGet.k (k:=.inr y) S.at_) ⟨_,rfl,?_⟩⟩;rw[S.lk y];refine av (λZ=>?_) (λZ=>?_)
    ·have Z:¬ (look y).isSome=true := by simpa using Z
     have hn:look y=none:=by simpa using Z
     have c4:aD kvs (.inr z)=some (V.int (L:Int)):=by rw[S.lk,D.cmp z L (BR _) dz];rfl
     refine⟨_,rfl,_,rfl,.dic (.inl ⟨kvs,.inr z,.inl S.at_,rfl,c4.symm⟩) (.int ?_)⟩;have d0:=S.len;refine⟨_,rfl,_,rfl,.dic (DPut.k (k:=.inr y) S.at_ (aj (by omega))) ?_⟩;have S':=S.put he b6 hn (L+1);have c5:U≠e:=aZ A S.at_ (by intro z;cases z);have a1:lf≠e:=aZ u S.at_ (by intro z;cases z);refine⟨_,rfl,.inl ⟨rfl,_,.of (by rw[ag a1];exact u)⟩,?_⟩;have c7:g.length<=G.length:=M.length_le_of_subset J;refine⟨_,rfl,lf,_,_,rfl,rfl,by rw[ag a1];exact u,by rw[BQ];exact aj (by omega),?_⟩;refine⟨_,_,g++[y],_,rfl,S'.oth a4 (Ne.symm a1),?_,?_,?_,?_,(D.add (z:=z) (y:=y) dz ⟨a7,b3⟩ hn λa=>rfl).wk a2⟩
     ·rw[ag a6,ag c5];exact A
     ·rw[ae,BX];rfl
     ·rw[De];refine⟨M,by simp,λa ha b hb=>?_⟩;have:b=y:=by simpa using hb
      subst this;rintro rfl;rw[(D.fur a ha).2] at hn;cases hn
     ·intro t ht;rcases Cb.mp ht with ht | ht
      ·exact J t ht
      ·have:t=y:=by simpa using ht
       rw[this];exact b6
    ·have Z:(look y).isSome=true:=by
        cases q:look y with
        | none=>rw[q] at Z;exact absurd rfl Z
        | some v=>rfl
     exact⟨kvs,look,g,_,rfl,S,A,u,M,J,(D.skip (z:=z) Z).wk a2⟩
   ·rintro O C ⟨kvs,look,g,I,rfl,S,A,u,M,J,D⟩;rw[BQ,Cd (BR _)] at D;refine⟨kvs,look,g,_,_,rfl,S,A,u,M,J,D.wk λa b h=>?_⟩;obtain⟨X,h2⟩:=h;rw[Cf,hz,Cb] at X;rcases X with X | X
    ·exact .inl ⟨X,h2⟩
    ·have:a=z:=by simpa using X
     subst this;exact .inr ⟨rfl,h2.2⟩
  ·rintro O C ⟨kvs,look,g,N,I,rfl,S,A,u,M,J,D⟩;rw[BQ,Cd (BR _)] at D;have c7:g.length<=G.length:=M.length_le_of_subset J;exact⟨_,rfl,lf,g,kvs,look,_,_,_,_,rfl,S,a4,u,by omega,D.next a0.edg λz y hz r=>⟨hz,r⟩⟩
 ·have c3:c=[] := by
     cases c with
     | nil=>rfl
     | cons y r=>exact absurd (Ca (by simp)) Z
  subst c3;have b5:=a0.done;refine⟨_,rfl,k e kvs H2 S.sm he S.at_ λt v=>?_⟩;rw[S.lk t]
  constructor
  ·intro q;cases q2:look t with
   | none=>rw[q2] at q;cases q
   | some n =>
    rw[q2] at q;exact⟨n,(BV q).symm,(b5 t n).mp q2⟩
  ·rintro⟨n,rfl,dn⟩;rw[(b5 t n).mpr dn];rfl
def nmA (ss:LS) (i:Nat):Str:=ss.getD i ""
theorem BN (ss:LS):ss=(List.range ss.length).map (nmA ss):=by
 apply List.ext_getElem?;intro i;rw[Ce];by_cases a:i<ss.length
 ·rw[Ci a,List.getElem?_range a];simp[nmA,a]
 ·rw[Ef (by omega),Ef (by simpa using a)]
  rfl
theorem yf {ss:LS}{es:List (Nat × Nat)}(f:ss.Nodup) (nm:∀s∈ss,Nm s) (c:∀e∈es,e.1<ss.length/\e.2<ss.length) {a b:Nat}:(nmA ss a,nmA ss b)∈es.map (nmP ss) ↔ (a,b)∈es:=by
 rw[BY]
 constructor
 ·rintro⟨e,d,q⟩;have g:=dR f nm (c e d).1 (Prod.mk.inj q).1;have i:=dR f nm (c e d).2 (Prod.mk.inj q).2;rw[<- g,<- i];exact d
 ·intro h;exact⟨(a,b),h,rfl⟩
def nxn (n:Nat) (es:List (Nat × Nat)) (a:Nat):List Nat:=(List.range n).filter λb=>decide ((a,b)∈es)
theorem yH {ss:LS}{es:List (Nat × Nat)}(d:ss.Nodup) (nm:∀s∈ss,Nm s) (b:∀e∈es,e.1<ss.length/\e.2<ss.length) (a:Nat):dJ ss (es.map (nmP ss)) (nmA ss a)=(nxn ss.length es a).map (nmA ss):=by
 unfold dJ nxn;have c:∀g:Str->Bool,ss.filter g=((List.range ss.length).map (nmA ss)).filter g:=λg=>by rw[<- BN ss]
 rw[c,List.filter_map];congr 1;refine Ej λi f=>?_;show decide ((nmA ss a,nmA ss i)∈es.map (nmP ss))=decide ((a,i)∈es);rw[CQ,decide_eq_true_iff,decide_eq_true_iff,yf d nm b]
theorem so (h:(List.range n).filter q=b::r):b<n/\q b=true/\∀c,c<n->q c=true->b<=c:=by
 have e:b∈(List.range n).filter q:=by rw[h];simp
 obtain⟨i,j⟩:=Cg.mp e;refine⟨CL.mp i,j,λc g f=>?_⟩;have a:c∈(List.range n).filter q:=Cg.mpr ⟨CL.mpr g,f⟩;have d:=(Ed (n:=n)).filter q;rw[h] at a d;rcases Cm.mp a with rfl | a
 ·exact BR _
 ·exact CP ((List.pairwise_cons.mp d).1 c a)
theorem sh (f:ss.Nodup) (nm:∀s ∈ ss, Nm s) (d:∀e ∈ es, e.1<ss.length /\ e.2<ss.length) (l:i<ss.length) :
    MG.Walk (Tie (es.map (nmP ss))) k (nmA ss one) (nmA ss i) ↔ MG.Walk (MG.Arr es) k one i:=by
 constructor
 ·intro r;obtain⟨y,m,j⟩:=MG.Walk.back (R:=MG.Arr es) (x:=one) (nmA ss) (λa c h=>by
   obtain⟨e,g,q⟩:=BY.mp h;have n:ss.getD e.1 ""=ss.getD a "":=(Prod.mk.inj q).1;have o:ss.getD e.2 ""=c:=(Prod.mk.inj q).2;have:=dR f nm (d e g).1 n;exact⟨e.2,o.symm,by unfold MG.Arr;rw[<- this];exact g⟩) r
  have:=dR f nm l m;rw[this];exact j
 ·intro r;exact MG.Walk.map (nmA ss) (λa b h=>BY.mpr ⟨(a,b),h,rfl⟩) r
theorem mD (g:ss.Nodup) (nm:∀s∈ss,Nm s) (d:∀e∈es,e.1<ss.length/\e.2<ss.length) (f:i<ss.length) :
    MG.Dst (Tie (aY (es.map (nmP ss)))) (nmA ss goal) k (nmA ss i) ↔ MG.To es goal k i:=by
 rw[yk];have w:∀k,MG.Walk (Tie ((jW es).map (nmP ss))) k (nmA ss goal) (nmA ss i) ↔ MG.Walk (MG.Arr (jW es)) k goal i:=λk=>sh g nm (xa d) f
 constructor
 ·rintro⟨a,c⟩;exact⟨(w k).mp a,λm b q=>c m b ((w m).mpr q)⟩
 ·rintro⟨a,c⟩;exact⟨(w k).mpr a,λm b q=>c m b ((w m).mp q)⟩
theorem wD (W:Web H q ss ts):Ner ss (dJ ss (if true then aY ts else ts))=Tie (aY ts):=by
 funext a b
 refine propext ⟨λh=>?_,λh=>?_⟩
 ·have c:=Ch (Cg.mp h.2).2;exact c
 ·have g:=W.inn _ (mem_flip.mp h);exact⟨g.2,Cg.mpr ⟨g.1,Ca h⟩⟩
def xD (kvs:KV_) (ss:LS) (es:List (Nat × Nat)) (goal:Nat):Prop:=∀i v,i<ss.length->(aD kvs (.inr (nmA ss i))=some v ↔ ∃k:Nat,v=.int (k:Int)/\MG.To es goal k i)
def ou (ss:LS) (es:List (Nat × Nat)):Prop:=∀e∈es,e.1<ss.length/\e.2<ss.length
def ot:Sp:=λvs H Q _=>∃(q:_) (ss:LS) (es:List (Nat × Nat)) (dl kvs:_) (goal j a:Nat),vs=[q,.str (nmA ss a),.ref dl]/\Web H q ss (es.map (nmP ss))/\ou ss es/\H dl=some (.dK kvs)/\xD kvs ss es goal/\a<ss.length/\MG.To es goal (j+1) a /\
 ∀b H',MG.Lst es goal j a b->Same H H'->Q (.str (nmA ss b)) H'
theorem vp (F:Fun K "first_nearer" "first_nearer" lB f fd) (B:Blt mg) (z:Cal P w K mg base 2 "nexts" ["web", "one"] (gJ false)):FnOk P w K mg base CX0 3 f fd ["web", "thing", "left"] ot := by
 refine F.ok1 ["web","thing","left","nearer"] λnd H Q E S h=>?_;obtain⟨q,d,m,dl,g,T,j,a,rfl,W,A,a3,t,ha,J,k⟩:=h;refine⟨_,(aa (dS (i:=3) nd rfl rfl (by rfl) (au lB) ["web","thing","left","nearer"] ["near"] [2,1] ["near","left","thing"] rfl (be K (pc z S (p2 (pv 0) (pv 1)))) (λ_ _ _ _ _=>(am (i:=0) (show (["near","left","thing"]:LS).Nodup by decide) rfl (Or.inl rfl))) (λ_ _ _ _ _=>(bx (PW.pt (ck (ah (bK K S.units) (pv 0) (pv 1) (by with_unfolding_all rfl)) (bR (ah ff (px K S (pv 1) (pv 0)) (px K S (pv 1) (pv 2)) (aB _))))))) (λ_ _ _ _ _=>(pv 0)))
  (af (ao (px K S (pv 3) ac)))),?_⟩
 refine⟨_,rfl,_,rfl,q,d,_,_,rfl,W,λl1 H1 s1 b0 C=>⟨l1,rfl,⟨_,.of C⟩,?_⟩⟩;have C:H1 l1=some (.lst (List.map V.str ((nxn d.length m a).map (nmA d)))):=by rw[<- yH W.nd W.nm A a];exact C
 have b1:(nxn d.length m a).length<=d.length:=by
  have:=CG (λb=>decide ((a,b)∈m)) (List.range d.length);rw[Ee] at this;exact this
 have a8:=W.len
 let O:Addr->Nat->LV->SH:=λD i u y H'=>∃o,y=[o,some (.ref dl),some (.str (nmA d a))]/\u=List.map V.str ((((nxn d.length m a).take i).filter λb=>decide (aD g (.inr (nmA d b))=some (.int (j:Int)))).map (nmA d))/\Same H1 H'/\H1 D=none
 refine bU (List.map V.str ((nxn d.length m a).map (nmA d))) O λD hD=>⟨?_,?_,?_,?_⟩
 ·exact⟨none,rfl,rfl,Same.new hD,hD⟩
 ·rintro i u y H' _ ⟨o,rfl,_,L,_⟩ _;exact .of (L _ _ C)
 ·rintro i u y H' x R ⟨o, rfl, rfl, L, s⟩ l;rw[CK,Ce] at R;obtain⟨b,M,rfl⟩:∃b,(nxn d.length m a)[i]? = some b/\V.str (nmA d b)=x:=by
   cases q:(nxn d.length m a)[i]? with
   | none=>rw[q] at R;cases R
   | some e=>rw[q] at R;exact⟨e,rfl,BV R⟩
  have a9:=(BU.mp M).1;obtain⟨a7,a4⟩:=Cg.mp (BW M);have a0:=CL.mp a7;have a5:=Ch a4;have I:=L _ _ (s1 _ _ a3);have U:¬ aD g (.inr (nmA d b))=some (.int (j:Int))->(((nxn d.length m a).take (i+1)).filter λb=>decide (aD g (.inr (nmA d b))=some (.int (j:Int))))=(((nxn d.length m a).take i).filter λb=>decide (aD g (.inr (nmA d b))=some (.int (j:Int)))):=λq=>by
   rw[Cf,M,CH];simp[q]
  refine⟨_,rfl,_,rfl,.dic (DGet.k (k:=.inr (nmA d b)) I) ⟨_,rfl,?_⟩⟩;refine av (λn=>?_) (λn=>?_)
  ·obtain⟨v, X⟩ := Dl.mp n;obtain⟨Y,rfl,a6⟩:=(t b v a0).mp X;have a1:aD g (.inr (nmA d a))=some (.int ((j+1:Nat):Int)):=(t a _ ha).mpr ⟨j+1,rfl,J⟩;have b2:=MG.To.step a5 a6 J;refine⟨_,rfl,_,rfl,.dic (.inl ⟨g,.inr (nmA d b),.inl I,rfl,X.symm⟩) ⟨_,rfl,_,rfl,.dic (.inl ⟨g,.inr (nmA d a),.inl I,rfl,a1.symm⟩) (.int ⟨_,rfl,?_⟩)⟩⟩;refine av (λp=>?_) (λp=>?_)
   ·have p:(Y:Int)<((j+1:Nat):Int):=Ch p;have:Y=j:=by omega
    subst this;refine⟨_,rfl,l,?_,_,rfl,?_,aV L s,s⟩
    ·rw[BQ,BQ];have p:=CG (λb=>decide (aD g (.inr (nmA d b))=some (.int (Y:Int)))) ((nxn d.length m a).take i);rw[Ck] at p;exact aj (by omega)
    ·rw[Cf,M,CH,BX,BX];simp[X]
   ·have p:¬ (Y:Int)<((j+1:Nat):Int):=λq=>p (Ca q);refine⟨l,_,rfl,?_,L,s⟩;rw[U λq=>?_];rw[X] at q;have:=V.int.inj (BV q);omega
  ·have n:¬ (aD g (.inr (nmA d b))).isSome=true:=n;refine cR ⟨l,_,rfl,?_,L,s⟩;rw[U λq=>?_];rw[q] at n;exact n rfl
 ·rintro u y H2 ⟨o, rfl, rfl, s2, s⟩ l;rw[BQ,BQ,Cd (BR _)] at l;have hf:((nxn d.length m a).filter λb=>decide (aD g (.inr (nmA d b))=some (.int (j:Int))))=(List.range d.length).filter λb=>decide (aD g (.inr (nmA d b))=some (.int (j:Int)))&&decide ((a,b)∈m):=by
   unfold nxn;rw[List.filter_filter]
  rw[hf] at l;have hq:∀b,b<d.length->((decide (aD g (.inr (nmA d b))=some (.int (j:Int)))&&decide ((a,b)∈m))=true ↔ (a,b)∈m/\MG.To m T j b):=λb M=>by
   rw[CT,decide_eq_true_iff,decide_eq_true_iff,t b _ M]
   constructor
   ·rintro⟨⟨k,n,p⟩,h3⟩;have:(j:Int)=k:=V.int.inj n;have:j=k:=by omega
    subst this;exact⟨h3,p⟩
   ·rintro⟨n,p⟩;exact⟨⟨j,rfl,p⟩,n⟩
  cases hl:(List.range d.length).filter λb=>decide (aD g (.inr (nmA d b))=some (.int (j:Int)))&&decide ((a,b)∈m) with
  | nil =>
   obtain⟨c,G,a2⟩:=MG.To.pred J;have N:=(A _ G).2;have:c∈(List.range d.length).filter λb=>decide (aD g (.inr (nmA d b))=some (.int (j:Int)))&&decide ((a,b)∈m):=Cg.mpr ⟨CL.mpr N,(hq c N).mpr ⟨G,a2⟩⟩;rw[hl] at this;cases this
  | cons b r =>
   obtain⟨g1,Z,g3⟩:=so hl;rw[hl] at l;have Z:=(hq b g1).mp Z;refine⟨_,rfl,.lst (.of l) (bJ (j:=0) rfl) (k b H2 ⟨Z.1,Z.2,λc n p=>g3 c (A _ n).2 ((hq c (A _ n).2).mpr ⟨n,p⟩)⟩ (s1.trans s2))⟩
def xW:Sp:=λvs H Q _=>∃(q:_) (ss:LS) (es:List (Nat × Nat)) (goal one:Nat),vs=[q,.str (nmA ss one),.str (nmA ss goal)]/\Web H q ss (es.map (nmP ss))/\ou ss es/\one<ss.length/\goal<ss.length /\
 ((∀k,¬ MG.To es goal k one)->∀H',Same H H'->Q .non H')/\∀l k ws H',MG.To es goal k one->MG.Wy es goal k one ws->Same H H'->H l=none->H' l=some (.lst (List.map V.str (ws.map (nmA ss))))->Q (.ref l) H'
theorem hZ (ss:LS) (us:List Nat) (a:Nat):atI (List.map V.str ((us++[a]).map (nmA ss))) (-1)=some (.str (nmA ss a)):=by
 rw[BX,BX];exact jw _ _
theorem AM (F:Fun K "way" "way" AW f fd) (B:Blt mg) (s:Cal P w K mg base 1 "steps_from" ["table", "starts"] gX) (n:Cal P w K mg base 3 "priors_of_all" ["web"] (dX true)) (r:Cal P w K mg base 3 "first_nearer" ["web", "thing", "left"] ot):FnOk P w K mg base CX0 4 f fd ["web", "one", "other"] xW := by
 refine F.ok1 ["web","one","other","left","told"] λnd H Q E N h=>?_;obtain⟨q,g,es,c,one,rfl,W,C,J,hg,k0,k⟩:=h;refine⟨_,(aa (pst 3 nd (pc s N (p2 (pc n N (p1 (pv 0))) (aQ (p1 (pv 2))))))
  (aa (aJ (ah (cJ K N.units) (pv 1) (pv 3) (by with_unfolding_all rfl)) (af (ao cm)) aw)
  (aa (pst 4 nd (aQ (p1 (pv 1))))
  (aa (dM PassesOwn.never (ah (cF N.units) (px K N (pv 4) (fw eA ac)) (pv 2) (aB _)) (af (bi (cz K (pv 4) (p1 (pc r N (ak (pv 0) (p2 (px K N (pv 4) (fw eA ac)) (pv 3)))))))))
  (af (ao (pv 4))))))),?_⟩
 refine⟨_,rfl,q,g,_,rfl,W,λdt H0 s0 a7 T=>⟨_,rfl,(szl 1),λls Z=>⟨dt,ls,nmA g c,g,_,rfl,ae,T.same (Same.new Z),fQ hg,W.len,λt _ u hu=>(Cg.mp hu).1,λdl y H2 s2 a5 hk a1=>?_⟩⟩⟩;have s1:=s0.trans (Same.new (o:=.lst [V.str (nmA g c)]) Z);rw[wD W] at a1;have x:xD y g es c:=λi v hi=>by
  rw[a1]
  constructor
  ·rintro⟨k,e,d⟩;exact⟨k,e,(mD W.nd W.nm C hi).mp d⟩
  ·rintro⟨k,e,d⟩;exact⟨k,e,(mD W.nd W.nm C hi).mpr d⟩
 have I:=s1.trans s2;refine⟨_,rfl,_,rfl,.dic (DGet.k (k:=.inr (nmA g one)) hk) ⟨_,rfl,?_⟩⟩;refine av (λD=>?_) (λD=>?_)
 ·have D:(!(aD y (.inr (nmA g one))).isSome)=true:=D;refine k0 (λk tk=>?_) H2 I;rw[(x one _ J).mpr ⟨k,rfl,tk⟩] at D;cases D
 ·have D:¬ (!(aD y (.inr (nmA g one))).isSome)=true := D;obtain⟨L,R⟩:∃L,MG.To es c L one:=by
   cases q:aD y (.inr (nmA g one)) with
   | none=>rw[q] at D;exact(D rfl).elim
   | some v =>
    obtain⟨L,_,t⟩:=(x one v J).mp q;exact⟨L,t⟩
  refine⟨_,rfl,(szl 1),λl hl=>?_⟩;have a4:=aW I hl;refine⟨λm σ U=>∃A a,σ=[some q,some (.str (nmA g one)),some (.str (nmA g c)),some (.ref dl),some (.ref l)]/\Same H2 U/\U l=some (.lst (List.map V.str ((A++[a]).map (nmA g))))/\MG.Pre es c L one m a (A++[a]),⟨L,[],one,rfl,Same.new hl,ae,MG.Pre.start R⟩,?_⟩;rintro m σ H3 ⟨A,a,rfl,s3,X,S⟩;have G:=S.1;have ha:=MG.To.inn C hg G;refine⟨_,rfl,_,rfl,.lst (.of X) (hZ g A a) ⟨_,rfl,.sc rfl ⟨_,rfl,?_⟩⟩⟩;refine av (λO=>?_) (λO=>?_)
  ·have O:(!decide (V.str (nmA g a)=V.str (nmA g c)))=true:=O;have a3:a≠c:=λq=>by subst q;simp at O
   obtain⟨j,rfl⟩:∃j,m=j+1:=by
    cases m with
    | zero=>exact absurd (MG.To.zero G) a3
    | succ j=>exact⟨j,rfl⟩
   refine⟨λY U=>∃A a,Y=[some q,some (.str (nmA g one)),some (.str (nmA g c)),some (.ref dl),some (.ref l)]/\Same H2 U/\U l=some (.lst (List.map V.str ((A++[a]).map (nmA g))))/\MG.Pre es c L one j a (A++[a]),λY U p=>⟨j,by omega,p⟩,?_⟩;refine⟨_,rfl,.inl ⟨rfl,_,.of X⟩,?_⟩;refine⟨_,rfl,_,rfl,_,rfl,.lst (.of X) (hZ g A a) ⟨_,rfl,q,g,es,dl,y,c,j,a,rfl,(W.same I).same s3,C,s3 _ _ hk,x,ha,G,λb H4 a2 s4=>?_⟩⟩;have M:=S.add a2;have a0:=M.2.2.2;have a6:=MG.To.lt C hg R;have a8:=W.len;have e4:=s4 _ _ X;refine⟨l,_,_,rfl,rfl,e4,?_,?_⟩
   ·rw[BQ,BQ];rw[Cj] at a0;exact aj (by omega)
   ·refine⟨A++[a],b,rfl,aV (s3.trans s4) hl,?_,M⟩;rw[ae,BX (l₁:=A++[a]),BX (l₁:=(A++[a]).map (nmA g))];rfl
  ·have O:¬ (!decide (V.str (nmA g a)=V.str (nmA g c)))=true:=O;have he:nmA g a=nmA g c:=by
    refine Classical.byContradiction λq=>O ?_;have:¬ V.str (nmA g a)=V.str (nmA g c):=λz=>q (V.str.inj z);simp[this]
   have he:=dR W.nd W.nm ha he;subst he;have hm:m=0:=MG.Dst.uniq G MG.To.here;subst hm;exact⟨_,rfl,k l L _ H3 R S.done (I.trans s3) a4 X⟩
theorem hI (a:ou ss es) (c:goal<ss.length) (t:MG.To es goal k one) (b:MG.Wy es goal k one ws):ws.length<=ss.length/\∀x∈ws,x<ss.length:=by
 have d:=b.len;have e:=MG.To.lt a c t;exact⟨by omega,MG.Wy.inn a c b⟩
theorem wR (xs:LV):cM xs none (some (-1))=xs.dropLast:=by
 unfold cM;have b:HT.sIx xs.length 0 none=0:=rfl;have a:HT.sIx xs.length xs.length (some (-1))=xs.length-1:=by
  show (if (-1:Int)<0 then ((-1:Int)+(xs.length:Int)).toNat else min (-1:Int).toNat xs.length)=xs.length-1;rw[if_pos (by decide)];omega
 rw[b,a,List.drop_zero,Nat.sub_zero,List.dropLast_eq_take]
theorem nS (ss:LS) (a:List Nat):(List.map V.str (a.map (nmA ss))).dropLast=List.map V.str (a.dropLast.map (nmA ss)):=by
 rw[List.dropLast_eq_take,List.dropLast_eq_take,BQ,BQ,DW,DW]
def oA:Sp:=λvs H Q _=>∃(q:_) (ss:LS) (es:List (Nat × Nat)) (one other:Nat),vs=[q,.str (nmA ss one),.str (nmA ss other)]/\Web H q ss (es.map (nmP ss))/\ou ss es/\one<ss.length/\other<ss.length /\
 ((∀k,¬ MG.To es one k other)->∀H',Same H H'->Q .non H')/\∀l k ws H',MG.To es one k other->MG.Wy es one k other ws->Same H H'->H l=none->H' l=some (.lst (List.map V.str ((one::ws.dropLast).map (nmA ss))))->Q (.ref l) H'
theorem rS (F:Fun K "ring_by" "ring_by" qB f fd) (B:Blt mg) (c:Cal P w K mg base 4 "way" ["web", "one", "other"] xW):FnOk P w K mg base CX0 5 f fd ["web", "one", "other"] oA := by
 refine F.ok1 ["web","one","other","back"] λN H Q E D h=>?_;obtain⟨q,t,A,one,b,rfl,W,g,a,e,z,k⟩:=h;refine⟨_,(aa (pst 3 N (pc c D (ak (pv 0) (p2 (pv 2) (pv 1)))))
  (aa (aJ (ah iC (pv 3) cm (aB _)) (af (ao cm)) aw)
  (af (ao (aG aM (aQ (p1 (pv 1))) (bZ (iD K) (pv 3) cP (ce (fw eA ac)))))))),?_⟩
 refine⟨_,rfl,_,rfl,_,rfl,q,t,A,one,b,rfl,W,g,e,a,λu x i=>?_,λI G j x d y i C r=>?_⟩
 ·refine⟨_,rfl,.non ⟨_,rfl,?_⟩⟩;refine av (λ_=>?_) (λh=>(h (Ca (rfl:V.non=V.non))).elim);exact z u x i
 ·obtain⟨J, M⟩ := hI g a d y;have L:=W.len;refine⟨_,rfl,.non ⟨_,rfl,?_⟩⟩;refine av (λh=>?_) (λ_=>?_)
  ·have h:V.ref I=V.non:=Ch h;cases h
  ·refine⟨_,rfl,(szl 1),λR p=>?_⟩;have n:=Same.new (o:=.lst [V.str (nmA t one)]) p;refine⟨_,rfl,_,rfl,_,rfl,.lst (.of (n _ _ r)) λO m=>?_⟩;rw[wR,nS];have s:=Same.new (o:=.lst (List.map V.str (j.dropLast.map (nmA t)))) m;refine .lst (s _ _ ae) ae ?_ λl v=>?_
   ·rw[BQ,BQ,List.length_dropLast];show 1+(j.length-1)<=sizeLine;exact CP (aj (by omega))
   ·exact k l G j _ d y (i.trans (n.trans (s.trans (Same.new v)))) (aW (i.trans (n.trans s)) v) ae
theorem jU (F:Fun K "nexts_of_all" "nexts_of_all" mm f fd) (B:Blt mg) (m:Cal P w K mg base 2 "nexts" ["web", "one"] (gJ false)):FnOk P w K mg base CX0 3 f fd ["web"] (dX false) := by
 refine F.ok1 ["web","table","thing"] λY H Q E M h=>?_;obtain⟨q,v,O,rfl,W,k⟩:=h;refine⟨_,(aa (pst 1 Y fG)
  (aa (bc PassesOwn.never rfl (bf K (px K M (pv 0) ac)) (am (i:=2) Y rfl (Or.inl rfl)) (af (cn (pc m M (p2 (pv 0) (pv 2))) (cO (pv 1) (pv 2) (dy M.units)))))
  (af (ao (pv 1))))),?_⟩
 intro d I;have W1:=W.same (Same.new (o:=.dK []) I);obtain⟨q,a,b,xs,rfl,hq,U,hb,rp⟩:=gx W.rep;have N:=Same.new (o:=.dK []) I;refine⟨_,rfl,.tup (.of (N _ _ hq)) rfl ⟨_,rfl,⟨_,.of (N _ _ U)⟩,?_⟩⟩
 let y:Nat->SH:=λi J r=>∃D g,J=[some (.ref q),some (.ref d),D]/\Same H r/\r d=some (.dK g)/\g.length<=i/\∀s∈v.take i,∃l,aD g (.inr s)=some (.ref l)/\r l=some (.lst (List.map V.str (dJ v (if false then aY O else O) s)))
 refine cu (R:=Q) (xs:=List.map V.str v) y ?_ ?_ ?_ ?_
 ·exact⟨none,[],rfl,N,ae,BR _,λs n=>by simp at n⟩
 ·rintro i J r hi ⟨D,g,rfl,u,_⟩;exact .of (u _ _ U)
 ·rintro _ i x J r C ⟨D, g, rfl, u, L, a0, j⟩;rw[Ce] at C;obtain⟨t,S,rfl⟩:∃t,v[i]? = some t/\V.str t=x:=by
   cases q:v[i]? with
   | none=>rw[q] at C;cases C
   | some e=>rw[q] at C;exact⟨e,rfl,BV C⟩
  have Z:=(BU.mp S).1;refine⟨_,rfl,_,rfl,.ref q,v,O,t,rfl,W.same u,λl H2 G hl A=>?_⟩;have p:=G _ _ L;have:=W.len;refine⟨_,rfl,_,rfl,.dic (DPut.k (k:=.inr t) p (aj (by omega))) ⟨_,_,rfl,?_,ae,?_,?_⟩⟩
  ·intro c o T;rw[ag (ai T I)];exact G _ _ (u _ _ T)
  ·have:=bw g (.inr t) (V.ref l);omega
  ·intro s n;rw[Cf,S,Cb] at n;by_cases q:s=t
   ·subst q;refine⟨l,by rw[cG,if_pos rfl],?_⟩;rw[ag (aZ A p (by intro z;cases z))];exact A
   ·rcases n with n | n
    ·obtain⟨l',e1,X⟩:=j s n;refine⟨l',by rw[cG,if_neg (λz=>q (Sum.inr.inj z))];exact e1,?_⟩;rw[ag (aZ (G _ _ X) p (by intro z;cases z))];exact G _ _ X
    ·exact absurd (by simpa using n) q
 ·rintro J r ⟨D,g,rfl,u,L,_,j⟩;rw[BQ,Cd (BR _)] at j;exact⟨_,rfl,k d r u I ⟨g,L,j⟩⟩
theorem nC (W:Web H q ss ts) (a b:Str):Ner ss (dJ ss (if false then aY ts else ts)) a b ↔ Tie (if false then aY ts else ts) a b := by
 have c:Tie (if false then aY ts else ts) a b->a∈ss/\b∈ss:=λh=>by
  first
   | exact(W.inn _ h)
   | (have:=W.inn _ (mem_flip.mp h);exact⟨this.2,this.1⟩)
 constructor
 ·rintro⟨f,e⟩;have d:=Ch (Cg.mp e).2;exact d
 ·intro h;exact⟨(c h).1,Cg.mpr ⟨(c h).2,Ca h⟩⟩
theorem sV (F:Fun K "behinds" "behinds" jJ f fd) (B:Blt mg) (l:Cal P w K mg base 1 "steps_from" ["table", "starts"] gX) (j:Cal P w K mg base 3 "nexts_of_all" ["web"] (dX false)):FnOk P w K mg base CX0 4 f fd ["web", "one"] (fW false) := by
 refine F.ok1 ["web","one","reached"] λnd H Q E S h=>?_;obtain⟨q,C,R,s,rfl,W,hs,k⟩:=h;refine⟨_,(aa (bW (i:=2) nd rfl (Or.inr rfl) (pc l S (p2 (pc j S (p1 (pv 0))) (aQ (p1 (pv 1))))))
  (af (ao (cC (au jJ) ["web","one","reached"] [2] "thing" ["reached"] (bf K (px K S (pv 0) ac)) (bx (ah (bK K S.units) (pv 0) (pv 1) (by with_unfolding_all rfl))) (pv 0))))),?_⟩
 obtain⟨q,a,b,xs,rfl,hq,ha,hb,rp⟩:=gx W.rep;refine⟨_,rfl,.ref q,C,R,rfl,W,λdt H0 s0 a2 T=>⟨_,rfl,(szl 1),λls N=>⟨dt,ls,s,C,_,rfl,ae,T.same (Same.new N),hs,W.len,λt _ u hu=>(Cg.mp hu).1,λd r H2 s2 a1 hk O=>?_⟩⟩⟩;have s1:=s0.trans (Same.new (o:=.lst [V.str s]) N);have y:=s1.trans s2;refine⟨_,rfl,.tup (.of (y _ _ hq)) rfl ⟨_,rfl,⟨_,.of (y _ _ ha)⟩,?_⟩⟩
 let L:Addr->Nat->LV->SH:=λD i z A U=>∃o,A=[o,some (.ref d)]/\z=List.map V.str ((C.take i).filter λt=>(aD r (.inr t)).isSome)/\Same H2 U/\H2 D=none
 refine cy (List.map V.str C) L λD' J=>⟨?_,?_,?_,?_⟩
 ·exact⟨none,rfl,rfl,Same.new J,J⟩
 ·rintro i z A U _ ⟨o,rfl,_,I,_⟩ _;exact .of (I _ _ (y _ _ ha))
 ·rintro i z A U x M ⟨o, rfl, g, I, p⟩ m;rw[Ce] at M;obtain⟨t,X,rfl⟩:∃t,C[i]? = some t/\V.str t=x:=by
   cases q:C[i]? with
   | none=>rw[q] at M;cases M
   | some e=>rw[q] at M;exact⟨e,rfl,BV M⟩
  have a0:=(BU.mp X).1;refine⟨_,rfl,_,rfl,.dic (DGet.k (k:=.inr t) (I _ _ hk)) ⟨_,rfl,?_⟩⟩;refine av (λG=>?_) (λG=>?_)
  ·refine⟨_,rfl,m,?_,_,rfl,?_,?_,p⟩
   ·rw[g,BQ];have h2:=CG (λt:Str=>(aD r (.inr t)).isSome) (C.take i);rw[Ck] at h2;have:=W.len;exact aj (by omega)
   ·have G:(aD r (.inr t)).isSome=true:=G;rw[Cf,X,g,CH,BX];simp[G]
   ·intro c o Z;rw[ag (ai Z p)];exact I _ _ Z
  ·have G:¬ (aD r (.inr t)).isSome=true:=G;refine⟨m,_,rfl,?_,I,p⟩;rw[Cf,X,g,CH,BX];simp[G]
 ·rintro z A U ⟨o, rfl, g, I, p⟩ m;rw[BQ,Cd (BR _)] at g;refine k _ _ (λt=>(aD r (.inr t)).isSome) (y.trans I) ?_ (λt=>?_) (by rw[m,g])
  ·cases e:H D' with
   | none=>rfl
   | some o=>rw[y _ _ e] at p;cases p
  ·have e:Ner C (dJ C (if false then aY R else R))=Tie (if false then aY R else R):=funext λa=>funext λb=>propext (nC W a b);rw[<- e]
   constructor
   ·intro h;obtain⟨v,hv⟩:=Dl.mp h;obtain⟨n,_,Y⟩:=(O t v).mp hv;exact Y.rch
   ·intro h;obtain⟨n,Y⟩:=h.dst;rw[(O t (V.int n)).mpr ⟨n,rfl,Y⟩];rfl
theorem pr (W:Web H q ss ts) (a b:Str):Ner ss (dJ ss (if true then aY ts else ts)) a b ↔ Tie (if true then aY ts else ts) a b := by
 have c:Tie (if true then aY ts else ts) a b->a∈ss/\b∈ss:=λh=>by
  first
   | exact(W.inn _ h)
   | (have:=W.inn _ (mem_flip.mp h);exact⟨this.2,this.1⟩)
 constructor
 ·rintro⟨f,e⟩;have d:=Ch (Cg.mp e).2;exact d
 ·intro h;exact⟨(c h).1,Cg.mpr ⟨(c h).2,Ca h⟩⟩
theorem tY (F:Fun K "aheads" "aheads" kT f fd) (B:Blt mg) (l:Cal P w K mg base 1 "steps_from" ["table", "starts"] gX) (j:Cal P w K mg base 3 "priors_of_all" ["web"] (dX true)):FnOk P w K mg base CX0 4 f fd ["web", "one"] (fW true) := by
 refine F.ok1 ["web","one","reaching"] λnd H Q E S h=>?_;obtain⟨q,C,R,s,rfl,W,hs,k⟩:=h;refine⟨_,(aa (bW (i:=2) nd rfl (Or.inr rfl) (pc l S (p2 (pc j S (p1 (pv 0))) (aQ (p1 (pv 1))))))
  (af (ao (cC (au kT) ["web","one","reaching"] [2] "thing" ["reaching"] (bf K (px K S (pv 0) ac)) (bx (ah (bK K S.units) (pv 0) (pv 1) (by with_unfolding_all rfl))) (pv 0))))),?_⟩
 obtain⟨q,a,b,xs,rfl,hq,ha,hb,rp⟩:=gx W.rep;refine⟨_,rfl,.ref q,C,R,rfl,W,λdt H0 s0 a2 T=>⟨_,rfl,(szl 1),λls N=>⟨dt,ls,s,C,_,rfl,ae,T.same (Same.new N),hs,W.len,λt _ u hu=>(Cg.mp hu).1,λd r H2 s2 a1 hk O=>?_⟩⟩⟩;have s1:=s0.trans (Same.new (o:=.lst [V.str s]) N);have y:=s1.trans s2;refine⟨_,rfl,.tup (.of (y _ _ hq)) rfl ⟨_,rfl,⟨_,.of (y _ _ ha)⟩,?_⟩⟩
 let L:Addr->Nat->LV->SH:=λD i z A U=>∃o,A=[o,some (.ref d)]/\z=List.map V.str ((C.take i).filter λt=>(aD r (.inr t)).isSome)/\Same H2 U/\H2 D=none
 refine cy (List.map V.str C) L λD' J=>⟨?_,?_,?_,?_⟩
 ·exact⟨none,rfl,rfl,Same.new J,J⟩
 ·rintro i z A U _ ⟨o,rfl,_,I,_⟩ _;exact .of (I _ _ (y _ _ ha))
 ·rintro i z A U x M ⟨o, rfl, g, I, p⟩ m;rw[Ce] at M;obtain⟨t,X,rfl⟩:∃t,C[i]? = some t/\V.str t=x:=by
   cases q:C[i]? with
   | none=>rw[q] at M;cases M
   | some e=>rw[q] at M;exact⟨e,rfl,BV M⟩
  have a0:=(BU.mp X).1;refine⟨_,rfl,_,rfl,.dic (DGet.k (k:=.inr t) (I _ _ hk)) ⟨_,rfl,?_⟩⟩;refine av (λG=>?_) (λG=>?_)
  ·refine⟨_,rfl,m,?_,_,rfl,?_,?_,p⟩
   ·rw[g,BQ];have h2:=CG (λt:Str=>(aD r (.inr t)).isSome) (C.take i);rw[Ck] at h2;have:=W.len;exact aj (by omega)
   ·have G:(aD r (.inr t)).isSome=true:=G;rw[Cf,X,g,CH,BX];simp[G]
   ·intro c o Z;rw[ag (ai Z p)];exact I _ _ Z
  ·have G:¬ (aD r (.inr t)).isSome=true:=G;refine⟨m,_,rfl,?_,I,p⟩;rw[Cf,X,g,CH,BX];simp[G]
 ·rintro z A U ⟨o, rfl, g, I, p⟩ m;rw[BQ,Cd (BR _)] at g;refine k _ _ (λt=>(aD r (.inr t)).isSome) (y.trans I) ?_ (λt=>?_) (by rw[m,g])
  ·cases e:H D' with
   | none=>rfl
   | some o=>rw[y _ _ e] at p;cases p
  ·have e:Ner C (dJ C (if true then aY R else R))=Tie (if true then aY R else R):=funext λa=>funext λb=>propext (pr W a b);rw[<- e]
   constructor
   ·intro h;obtain⟨v,hv⟩:=Dl.mp h;obtain⟨n,_,Y⟩:=(O t v).mp hv;exact Y.rch
   ·intro h;obtain⟨n,Y⟩:=h.dst;rw[(O t (V.int n)).mpr ⟨n,rfl,Y⟩];rfl
theorem uz (T:Tre us ks) (W:WnX ks wn) (o:k ∈ ks) (q:word="first" ∨ word="last"):(wU k.2 wn word).length <= 1 := by
 have a:∀ {x y:Str},FL k (word,x)->FL k (word,y)->x=y:=λ{x y} p m=>by
  have n:("first":Str)≠"last":=by decide
  rcases p with⟨d,e⟩ | ⟨d,e⟩
  ·rcases m with⟨_,j⟩ | ⟨h,_⟩
   ·exact BV (e.symm.trans j)
   ·exact absurd (d.symm.trans h) n
  ·rcases m with⟨h,_⟩ | ⟨_,j⟩
   ·exact absurd (h.symm.trans d) n
   ·exact BV (e.symm.trans j)
 have b:∀u∈wU k.2 wn word,FL k (word,u):=λu c=>by
  unfold wU at c;rw[Cg,decide_eq_true_iff] at c;obtain⟨r,g,f⟩:=W.at_ _ c.2;have:=fe T.knd o g c.1 f.mem;rw[this];exact f
 have i:(wU k.2 wn word).Nodup:=(bv T o).filter _;generalize wU k.2 wn word=l at b i
 match l with
 | []=>exact Cu _
 | [x]=>exact BR _
 | x::y::l =>
  have:=a (b x (by simp)) (b y (by simp));rw[this,CI] at i;exact absurd (by simp) i.1
theorem vg (T:Tre us ks) (W:WnX ks wn) (a:k∈ks) (i:ts.length<=200):(aL ks ts wn k.1 k.2).length<=401:=by
 have g:=fH (bv T a) λu b=>T.isIn a b;have n:=T.len;unfold aL;have c:=iq (ts.filterMap (cE ks k.1)++((wU k.2 wn "first").flatMap (bV false k.2)++(wU k.2 wn "last").flatMap (bV true k.2))) [];rw[Cj,Cj] at c;have o:=List.length_filterMap_le (cE ks k.1) ts;have p:=jg (f:=bV false k.2) (l:=wU k.2 wn "first") (m:=60) λu _=>Cn (hJ _ k.2 u) (by omega);have h:=jg (f:=bV true k.2) (l:=wU k.2 wn "last") (m:=60) λu _=>Cn (hJ _ k.2 u) (by omega);have d:=uz T W a (word:="first") (.inl rfl);have j:=uz T W a (word:="last") (.inr rfl);have e:([]:Prs).length=0:=rfl;omega
theorem cN (T:Tre us ks) (a:k∈ks) (d:u∈us) (b:v∈us) (h:aI ks u v=some (k.1,x,y)):x∈k.2/\y∈k.2:=by
 obtain⟨e,f,g,c,_⟩:=T.part d b h;have a:(k.1,k.2)∈ks:=a;exact⟨T.kid g (by rw[e];exact a),T.kid c (by rw[f];exact a)⟩
theorem cD (T:Tre us ks) (d:dZ us ks ts) (j:k ∈ ks):∀e ∈ aL ks ts wn k.1 k.2, e.1 ∈ k.2 /\ e.2 ∈ k.2 := λe a => by
 unfold aL at a;rw[fV,Cb,Cb] at a;rcases a with a | a | a | a
 ·cases a
 ·obtain⟨z, b, q⟩ := DA.mp a;obtain⟨c,f,_⟩:=d z b;unfold cE at q;cases hpo:aI ks z.1 z.2 with
  | none=>rw[hpo] at q;cases q
  | some t3 =>
   obtain⟨g,i,h⟩:=t3;rw[hpo] at q;have q:(if g=k.1 then some (i,h) else none)=some e:=q;by_cases b:g=k.1
   ·rw[if_pos b] at q;have q:=BV q;subst q;rw[b] at hpo;exact cN T j c f hpo
   ·rw[if_neg b] at q;cases q
 ·obtain⟨u,c,a⟩:=Dj.mp a;exact iU (us:=k.2) false (λz b=>b) (mX c) e a
 ·obtain⟨u,c,a⟩:=Dj.mp a;exact iU (us:=k.2) true (λz b=>b) (mX c) e a
def cL (c:LS) (ps:Prs):List (Nat × Nat):=ps.map λe=>(c.idxOf e.1,c.idxOf e.2)
theorem iE (h:∀e∈ps,e.1∈c/\e.2∈c):(cL c ps).map (nmP c)=ps:=by
 unfold cL;rw[CK]
 conv=>rhs;rw[<- List.map_id ps]
 refine List.map_congr_left λe a=>?_;show (c.getD (c.idxOf e.1) "",c.getD (c.idxOf e.2) "")=e;rw[bI (h e a).1,bI (h e a).2]
theorem gV (h:∀e∈ps,e.1∈c/\e.2∈c):ou c (cL c ps):=λe b=>by
 obtain⟨f,a,rfl⟩:=BY.mp b;exact⟨CF (h f a).1,CF (h f a).2⟩
theorem wV (f:c.Nodup) (h:∀e∈ps,e.1∈c/\e.2∈c) (j:a<c.length) (g:b<c.length):(a,b)∈cL c ps ↔ (nmA c a,nmA c b)∈ps:=by
 have i:c.idxOf (nmA c a)=a:=cr f (by unfold nmA;rw[CA,Ci j];rfl);have k:c.idxOf (nmA c b)=b:=cr f (by unfold nmA;rw[CA,Ci g];rfl)
 constructor
 ·intro q;obtain⟨e,d,z⟩:=BY.mp q;obtain⟨m,o⟩:=Prod.mk.inj z;have l:nmA c a=e.1:=by rw[<- m];exact bI (h e d).1
  have n:nmA c b=e.2:=by rw[<- o];exact bI (h e d).2
  rw[l,n];exact d
 ·intro q;exact BY.mpr ⟨_,q,by rw[i,k]⟩
theorem td (T:Tre us ks) (b:dZ us ks ts) (W:WnX ks wn) (a:k∈ks) (d:ts.length<=200) (r:Rep H v (mT ks ts wn k)):Web H v k.2 ((cL k.2 (aL ks ts wn k.1 k.2)).map (nmP k.2)):=by
 have c:=cD (wn:=wn) T b a;have g:=fH (bv T a) λu e=>T.isIn a e;have h:=T.len;rw[iE c];exact⟨r,bv T a,λs f=>T.nm _ (T.isIn a f),by omega,vg T W a d,c⟩
def TieO (es:List (Nat × Nat)) (goal a:Nat):Option (List Nat)->Prop
 | none=>∀k,¬ MG.To es goal k a
 | some ws=>∃k,MG.To es goal k a/\MG.Wy es goal k a ws
theorem TieO.uniq (h:TieO es goal a o) (g:TieO es goal a p):o=p := by
 cases o with
 | none =>
  cases p with
  | none=>rfl
  | some ws =>
   obtain⟨k,t,_⟩:=g;exact absurd t (h k)
 | some ws =>
  obtain⟨k,t,w⟩:=h;cases p with
  | none=>exact absurd t (g k)
  | some vs =>
   obtain⟨d,c,b⟩:=g;have:=t.uniq c;subst this;rw[w.uniq b]
def gu (ks:Kn) (ts wn:Prs) (knot:Str) (row:LS):List PyData:=(row.zip (row.drop 1)).map λe=>t3D (dj ks ts wn (knot,e.1,e.2))
def TrV (H:Hp) (z:V) (ks:Kn) (ts wn:Prs) (kk:Str × LS) (u v:Str):Option (List Nat)->Prop
 | none=>z=.non
 | some ws=>∃l refs,z=.ref l/\H l=some (.lst refs)/\RepAll H refs (t3D ((("tie":Str),u,v):T3)::gu ks ts wn kk.1 (ws.map (nmA kk.2)))
theorem qe (T:Tre us ks) (a:k∈ks):k.1=""∨Nm k.1:=by
 rcases T.sub k a with w | w
 ·exact .inl w
 ·exact .inr (T.nm _ w)
def lH:Sp:=λvs H Q _=>∃(q us ks:_) (ts ws wn:Prs) (kk:Str × LS) (u v x y:_),vs=[.ref q,.str u,.str v]/\Rep H (.ref q) (aK ks ts ws wn)/\Tre us ks/\dZ us ks ts/\WnX ks wn/\ts.length<=200/\kk∈ks/\u∈us/\v∈us/\aI ks u v=some (kk.1,x,y) /\
 ∀o z H',Same H H'->(∀l,z=.ref l->H l=none)->TieO (cL kk.2 (aL ks ts wn kk.1 kk.2)) (kk.2.idxOf x) (kk.2.idxOf y) o->TrV H' z ks ts wn kk u v o->Q z H'
theorem pq (F:Fun K "ring_of_tie" "ring_of_tie" kL f fd) (B:Blt mg) (g:Cal P w K mg base 3 "parting" ["house", "one", "other"] gG) (C:Cal P w K mg base 4 "view" ["house", "knot"] nW) (j:Cal P w K mg base 5 "ring_by" ["web", "one", "other"] oA) (a:Cal P w K mg base 4 "steps_along" ["house", "knot", "row"] spSteps):FnOk P w K mg base CX0 6 f fd ["house", "one", "other"] lH := by
 refine F.ok1 ["house","one","other","part","ring"] λnd H Q E A h=>?_;obtain⟨q,us,ks,ts,ws,wn,c,u,v,x,y,rfl,R,T,m,WX,tl,d,hu,hv,X,k⟩:=h;have b0:=WnX.ok T WX;obtain⟨a0,S⟩:=cN T d hu hv X;refine⟨_,(aa (pst 3 nd (pc g A (ak (pv 0) (p2 (pv 1) (pv 2)))))
  (aa (pst 4 nd (pc j A (ak (pc C A (p2 (pv 0) (px K A (pv 3) ac))) (p2 (px K A (pv 3) ac) (px K A (pv 3) ac)))))
  (aa (aJ (ah iC (pv 4) cm (aB _)) (af (ao cm)) aw)
  (af (ao (aG aM (aQ (p1 (aF (ak aA (p2 (pv 1) (pv 2)))))) (pc a A (ak (pv 0) (p2 (px K A (pv 3) ac) (aG aM (bZ (iD K) (pv 4) (ce ac) cP) (bZ (iD K) (pv 4) cP (ce ac)))))))))))),?_⟩
 refine⟨_,rfl,_,rfl,_,rfl,q,us,ks,ts,ws,wn,u,v,rfl,R,T,hu,hv,λp0 H1 s1 a5=>?_⟩;rw[X] at a5;obtain⟨t,rfl,ht⟩:=a5;dsimp only[aX];have c0:c.2.length<=60:=by
  have:=fH (bv T d) λu hu=>T.isIn d hu;have:=T.len;omega
 have ex:nmA c.2 (c.2.idxOf x)=x:=bI a0;have ey:nmA c.2 (c.2.idxOf y)=y:=bI S;have a3:=CF a0;have a6:=CF S;refine⟨_,rfl,_,rfl,.tup (.of ht) rfl (ap ⟨q,us,ks,ts,ws,wn,c,rfl,R.same s1,T,m,WX,d,tl,λvy H2 s2 ry=>?_⟩)⟩;have Z:=s1.trans s2;have W:=td T m WX d tl ry;have G:=gV (cD (wn:=wn) T m d);have D:=s2 _ _ ht;generalize cL c.2 (aL ks ts wn c.1 c.2)=es at W G k;refine⟨_,rfl,.tup (.of D) rfl ⟨_,rfl,.tup (.of D) rfl (ap ?_)⟩⟩;refine⟨vy,c.2,es,c.2.idxOf x,c.2.idxOf y,by rw[ex,ey];rfl,W,G,a3,a6,λb9 H3 s3=>?_,λl3 k3 b H3 O wy s3 c2 b4=>?_⟩
 ·refine⟨_,rfl,.non ⟨_,rfl,?_⟩⟩;refine av (λ_=>?_) (λh=>(h (Ca (rfl:V.non=V.non))).elim);exact k none .non H3 (Z.trans s3) (λl e=>by cases e) b9 rfl
 ·obtain⟨c3, b3⟩ := hI G a3 O wy;have a8:=wy.split;have k:=k (some b) |> λk z H' s n r=>k z H' s n ⟨k3,O,wy⟩ r;have b8:=Z.trans s3;refine⟨_,rfl,.non ⟨_,rfl,?_⟩⟩;refine av (λh=>?_) (λ_=>?_)
  ·have h:V.ref l3=V.non:=Ch h;cases h
  ·refine⟨_, rfl, _, rfl, (szl 3), λt1 b5 => ?_⟩;have s4:=Same.new (o:=.tup [V.str "tie",V.str u,V.str v]) b5;have r4:Rep (upd H3 t1 (.tup [V.str "tie",V.str u,V.str v])) (.ref t1) (t3D (((("tie":Str),u,v):T3))):=dH ae;have Y:=b8.trans s4;have U:=s4 _ _ b4;have M:=(s3.trans s4) _ _ D;generalize upd H3 t1 (.tup [V.str "tie",V.str u,V.str v])=H4 at r4 Y U M ⊢;refine ap ⟨(szl 1),λl1 b6=>?_⟩;refine nw b6 λH5 s5 e5=>?_;have r5:=r4.same s5;have b1:=Y.trans s5;have I:=s5 _ _ U;have a9:=s5 _ _ M;refine⟨_,rfl,_,rfl,.tup (.of a9) rfl ?_⟩;rw[Cv,ex,Cv] at I;refine⟨_,rfl,_,rfl,.lst (.of I) λl6 b2=>?_⟩;rw[show (1:Int)=((1:Nat):Int) from rfl,iI,List.drop_one,List.tail_cons];have s6:=Same.new (o:=.lst (List.map V.str (b.dropLast.map (nmA c.2)))) b2;refine⟨_,rfl,_,rfl,.lst (.of (s6 _ _ I)) λl7 a7=>?_⟩;rw[yD _ _ (by show 1<=_+1;omega)];have s7:=Same.new (o:=.lst [V.str x]) a7;rw[show List.take 1 (V.str x::List.map V.str (b.dropLast.map (nmA c.2)))=[V.str x] from rfl];refine .lst (s7 _ _ ae) ae ?_ λl8 b7=>?_
   ·rw[BQ,BQ,List.length_dropLast];show b.length-1+1<=sizeLine;exact CP (aj (by omega))
   have N:List.map V.str (b.dropLast.map (nmA c.2))++[V.str x]=List.map V.str (b.map (nmA c.2)):=by
    conv=>rhs;rw[a8]
    rw[BX,BX,List.map_singleton,List.map_singleton,ex]
   rw[N];have s8:=Same.new (o:=.lst (List.map V.str (b.map (nmA c.2)))) b7;have a4:=(s6.trans s7).trans s8;have L:=b1.trans a4;refine ap ⟨q,l8,us,ks,ts,ws,wn,c.1,b.map (nmA c.2),rfl,R.same L,T,b0,m,tl,qe T d,ae,λz hz=>?_,by rw[BQ];omega,λl9 a1 H9 s9 c1 e9 r9=>?_⟩
   ·obtain⟨i,hi,rfl⟩:=BY.mp hz;exact T.nm _ (T.isIn d (fQ (b3 i hi)))
   ·have rl:=r9.len;rw[BQ,Db,BQ] at rl;have a2:=a4.trans s9;refine .lst (a2 _ _ e5) e9 ?_ λp X=>?_
    ·rw[rl];show 1+min b.length _<=sizeLine;exact CP (aj (by omega))
    ·have J:=Same.new (o:=.lst ([V.ref t1]++a1)) X;refine k (.ref p) _ ((L.trans s9).trans J) (λl e=>?_) ⟨p,_,rfl,ae,.cons ((r5.same a2).same J) (r9.same J)⟩;cases e;exact aW (L.trans s9) X
def Fwd (os:LS) (ts:List (Str × Str)):Prop:=∀e∈ts,∃i j:Nat,i<j/\os[i]? = some e.1/\os[j]? = some e.2
structure WebO (H:Hp) (wq:V) (ss:LS) (ts:List (Str × Str)) (lo:Addr) (os:LS):Prop where
 web:Web H wq ss ts
 tnd:ts.Nodup
 ord:H lo=some (.lst (List.map V.str os))
 pm:os.Perm ss
theorem WebO.same {ss:LS}{ts:List (Str × Str)}{os:LS}(h:WebO H z ss ts lo os) (s:Same H H'):WebO H' z ss ts lo os:=⟨h.web.same s,h.tnd,s _ _ h.ord,h.pm⟩
open Classical in
def rB (ts:List (Str × Str)) (a b:Str):Bool:=decide (MG.Rch (Tie ts) a b)
open Classical in
theorem rB_iff:rB ts a b=true ↔ MG.Rch (Tie ts) a b:=by unfold rB;exact decide_eq_true_iff
def dueB (os:LS) (ts:List (Str × Str)) (one other:Str):LS:=if os.idxOf one<os.idxOf other then [] else ((os.take (os.idxOf one+1)).drop (os.idxOf other)).filter λt=>rB (aY ts) one t
def bz (os:LS) (ts:List (Str × Str)) (one other:Str):LS:=if os.idxOf one<os.idxOf other then [] else ((os.take (os.idxOf one+1)).drop (os.idxOf other)).filter λt=>rB ts other t
def eG (os:LS) (ts:List (Str × Str)) (one other:Str):Prop:=¬ os.idxOf one<os.idxOf other/\MG.Rch (Tie ts) other one
theorem ux {os:LS}(c:os.Nodup) {j:Nat}{s:Str}(h:os[j]? = some s):j=os.idxOf s:=by
 have b:=(BU.mp h).1;have d:=BW h;have a:=CF d;have e:os[os.idxOf s]? = some s:=by rw[Ci a,List.getElem_idxOf]
 exact(Dz b c).mp (h.trans e.symm)
theorem yo {os:LS}{s:Str}(a:s∈os):os[os.idxOf s]? = some s:=by
 have b:=CF a;rw[Ci b,List.getElem_idxOf]
theorem nG (xs:LV) (i j:Nat) (h:j<=xs.length):cM xs (some (i:Int)) (some (j:Int))=(xs.take j).drop i:=by
 unfold cM;rw[HT.sIx_nat,HT.sIx_nat,Nat.min_eq_left h,List.drop_take];by_cases a:i<=xs.length
 ·rw[Nat.min_eq_left a]
 ·rw[Nat.min_eq_right (by omega),Di (BR _),Di (by omega)];simp
theorem cT (l:List α) (g:α->Bool) (i:Nat) (x:α) (h:l[i]? = some x):(l.take (i+1)).filter g=(l.take i).filter g++(if g x=true then [x] else []):=by
 rw[Cf,h,CH];by_cases q:g x=true
 ·simp[q]
 ·simp[q]
theorem nU {os:LS}(b:os.Nodup) {s:Str}(d:s∈os):∃z,(List.map V.str os)[os.idxOf s]? = some z/\eqV z (.str s)=true/\∀(m:Nat) G,m<os.idxOf s->(List.map V.str os)[m]? = some G->eqV G (.str s)=false:=by
 refine⟨.str s,by rw[Ce,yo d];rfl,?_,λm G e a=>?_⟩
 ·show (s==s)=true;simp
 ·obtain⟨u,c,rfl⟩:=bp a;show (u==s)=false;rw[beq_eq_false_iff_ne];rintro rfl;have:=ux b c;omega
theorem sT {kvs:KV_}{os:LS}(b:os.Nodup) (c:∀s,(aD kvs (.inr s)).isSome=true ↔ s∈os) (f:∀s v,aD kvs (.inr s)=some v->∃j:Nat,v=.int j/\os[j]? = some s) {s:Str}(d:s∈os):aD kvs (.inr s)=some (.int ((os.idxOf s:Nat):Int)):=by
 cases e:aD kvs (.inr s) with
 | none=>have:=(c s).mpr d;rw[e] at this;cases this
 | some v =>
  obtain⟨j,rfl,a⟩:=f s v e;rw[ux b a]
def lJ:Sp:=λvs H Q _=>∃wq lo ss ts os one other,vs=[.ref wq,.ref lo,.str one,.str other]/\WebO H (.ref wq) ss ts lo os/\one∈ss/\other∈ss/\¬ eG os ts one other /\
 ∀q a b H',Same H H'->H' q=some (.tup [.ref a,.ref b])->H' a=some (.lst (List.map V.str (dueB os ts one other)))->H' b=some (.lst (List.map V.str (bz os ts one other)))->H a=none->H b=none->a≠b->Q (.ref q) H'
theorem rY (F:Fun K "stretch" "stretch" hX f fd) (B:Blt mg) (b:Cal P w K mg base 1 "places_of" ["things"] fS) (s:Cal P w K mg base 4 "behinds" ["web", "one"] (fW false)) (v:Cal P w K mg base 4 "aheads" ["web", "one"] (fW true)):FnOk P w K mg base CX0 5 f fd ["web", "order", "one", "other"] lJ := by
 refine F.ok1 ["web","order","one","other","places","reached","reaching","between","back","forward"] λX H Q E u h=>?_;obtain⟨wq,lo,O,ts,c,one,a,rfl,W,h1,h2,nr,k⟩:=h;have d7:=W.pm.length_eq;have d5:=W.web.len;have b0:c.Nodup:=W.pm.nodup_iff.mpr W.web.nd;have m1:one∈c:=W.pm.mem_iff.mpr h1;have m2:a∈c:=W.pm.mem_iff.mpr h2;have i1:=CF m1;have i2:=CF m2;refine⟨_,(aa (pst 4 X (pc b u (p1 (pv 1))))
  (aa (aJ (ah ff (px K u (pv 4) (pv 2)) (px K u (pv 4) (pv 3)) (aB _)) (af (ao (aF (p2 (aQ cj) (aQ cj))))) aw)
  (aa (bW (i:=5) X rfl (Or.inr rfl) (pc b u (p1 (pc s u (p2 (pv 0) (pv 3))))))
  (aa (aJ (ah (bK K u.units) (pv 2) (pv 5) (by with_unfolding_all rfl)) (af aN) aw)
  (aa (bW (i:=6) X rfl (Or.inr rfl) (pc b u (p1 (pc v u (p2 (pv 0) (pv 2))))))
  (aa (pst 7 X (bZ (iD K) (pv 1) (ce (px K u (pv 4) (pv 3))) (ce (aG aM (px K u (pv 4) (pv 2)) ac))))
  (aa (dS (i:=8) X rfl rfl (by rfl) (au hX) ["web","order","one","other","places","reached","reaching","between","back","forward"] ["thing"] [6] ["thing","reaching"] rfl (be K (pv 7)) (λ_ _ _ _ _=>(am (i:=0) (show (["thing","reaching"]:LS).Nodup by decide) rfl (Or.inl rfl))) (λ_ _ _ _ _=>(bx (ah (bK K u.units) (pv 0) (pv 1) (by with_unfolding_all rfl)))) (λ_ _ _ _ _=>(pv 0)))
  (aa (dS (i:=9) X rfl rfl (by rfl) (au hX) ["web","order","one","other","places","reached","reaching","between","back","forward"] ["thing"] [5] ["thing","reached"] rfl (be K (pv 7)) (λ_ _ _ _ _=>(am (i:=0) (show (["thing","reached"]:LS).Nodup by decide) rfl (Or.inl rfl))) (λ_ _ _ _ _=>(bx (ah (bK K u.units) (pv 0) (pv 1) (by with_unfolding_all rfl)))) (λ_ _ _ _ _=>(pv 0)))
  (af (ao (aF (p2 (pv 8) (pv 9))))))))))))),?_⟩
 refine⟨_,rfl,lo,c,rfl,W.ord,by omega,λd d4 H1 s1 d8 hd a5 b5=>?_⟩;have g1:=sT b0 a5 b5 m1;have g2:=sT b0 a5 b5 m2;refine⟨_,rfl,_,rfl,.dic (.inl ⟨_,.inr one,.inl hd,rfl,g1.symm⟩) ⟨_,rfl,_,rfl,.dic (.inl ⟨_,.inr a,.inl hd,rfl,g2.symm⟩) (.int ⟨_,rfl,?_⟩)⟩⟩;refine av (λG=>?_) (λC=>?_)
 ·have G:((c.idxOf one:Nat):Int)<((c.idxOf a:Nat):Int):=Ch G;have G:c.idxOf one<c.idxOf a:=by omega
  refine⟨(szl 0),λla b4=>⟨(szl 0),λlb T=>⟨(szl 2),λq hq=>?_⟩⟩⟩;have s2:=Same.new (o:=.lst []) b4;have s3:=Same.new (o:=.lst []) T;have S:=Same.new (o:=.tup [V.ref la,V.ref lb]) hq;have ea:upd H1 la (.lst []) la=some (.lst []):=ae;refine k q la lb _ (s1.trans (s2.trans (s3.trans S))) ae ?_ ?_ (aW s1 b4) (aW (s1.trans s2) T) (ai ea T)
  ·unfold dueB;rw[if_pos G];exact(s3.trans S) _ _ ea
  ·unfold bz;rw[if_pos G];exact S _ _ ae
 ·have C:¬ c.idxOf one<c.idxOf a := λz => C (Ca (by show ((c.idxOf one:Nat):Int)<((c.idxOf a:Nat):Int); omega));have a0:¬ MG.Rch (Tie ts) a one:=λz=>nr ⟨C,z⟩;refine⟨_,rfl,_,rfl,.ref wq,O,ts,a,rfl,W.web.same s1,h2,λl2 H2 gr s2 c8 b3 c2=>?_⟩;have fl:=CG gr O;refine⟨l2,O.filter gr,rfl,c2,by omega,λdr U H3 s3 c9 a7 a8 d2=>?_⟩;refine⟨_,rfl,_,rfl,.dic (DGet.k (k:=.inr one) a7) ⟨_,rfl,?_⟩⟩;have c0:(aD U (.inr one)).isSome=false:=by
   rw[Bool.eq_false_iff];intro z;exact a0 ((b3 one).mp (Cg.mp ((a8 one).mp z)).2)
  rw[c0];refine cR ?_;have b7:=(s1.trans s2).trans s3;refine⟨_,rfl,_,rfl,.ref wq,O,ts,one,rfl,W.web.same b7,h1,λl4 H4 gb S d0 c6 c7=>?_⟩;have d3:=CG gb O;refine⟨l4,O.filter gb,rfl,c7,by omega,λdb kb H5 s5 d1 c5 bin d9=>?_⟩;have a2:=(b7.trans S).trans s5;have b9:=((s2.trans s3).trans (S.trans s5)) _ _ hd;have W5:=W.same a2;refine⟨_,rfl,_,rfl,_,rfl,.dic (.inl ⟨_,.inr a,.inl b9,rfl,g2.symm⟩) ⟨_,rfl,_,rfl,_,rfl,.dic (.inl ⟨_,.inr one,.inl b9,rfl,g1.symm⟩) (.int ⟨_,rfl,.lst (.of W5.ord) λls c1=>?_⟩)⟩⟩;obtain⟨r,I⟩:∃r,r=(c.take (c.idxOf one+1)).drop (c.idxOf a):=⟨_,rfl⟩
  have a4:cM (List.map V.str c) (some ((c.idxOf a:Nat):Int)) (some (((c.idxOf one:Nat):Int)+1))=List.map V.str r:=by rw[show ((c.idxOf one:Nat):Int)+1=((c.idxOf one+1:Nat):Int) by omega,nG _ _ _ (by rw[BQ];omega),I,List.map_drop,DW]
  rw[a4];refine nw c1 λH6 s6 y=>?_;have d6:r.length<=60:=by rw[I,CV,Ck];omega
  have b6:∀z∈r,z∈O:=λz t=>W.pm.mem_iff.mp (Dq (Dk (by rw[<- I];exact t)));have b1:=s6 _ _ c5;have a6:=((S.trans s5).trans s6) _ _ a7;refine⟨_,rfl,ls,rfl,⟨_,.of y⟩,?_⟩
  let Z:Addr->Nat->LV->SH:=λD i j g R=>∃o,g=[o,some (.ref db)]/\j=List.map V.str ((r.take i).filter λz=>(aD kb (.inr z)).isSome)/\Same H6 R/\H6 D=none
  refine bU (List.map V.str r) Z λA1 a9=>⟨?_,?_,?_,?_⟩
  ·exact⟨none,rfl,rfl,Same.new a9,a9⟩
  ·rintro i j g R _ ⟨o,rfl,_,A,_⟩ _;exact .of (A _ _ y)
  ·rintro i j g R x hx ⟨o,rfl,rfl,A,n⟩ m;obtain⟨z,t,rfl⟩:=bp hx;have c4:=(BU.mp t).1;have fl:=CG (λz=>(aD kb (.inr z)).isSome) (r.take i);rw[Ck] at fl;refine⟨_,rfl,_,rfl,.dic (DGet.k (k:=.inr z) (A _ _ b1)) ⟨_,rfl,?_⟩⟩;refine av (λh=>?_) (λh=>?_)
   ·have h:(aD kb (.inr z)).isSome=true:=h;exact⟨_,rfl,m,by rw[BQ];exact aj (by omega),_,rfl,by rw[cT _ _ _ _ t,if_pos h,BX];rfl,aV A n,n⟩
   ·have h:¬ (aD kb (.inr z)).isSome=true:=h;exact⟨m,_,rfl,by rw[cT _ _ _ _ t,if_neg h,CB],A,n⟩
  rintro j g H7 ⟨o,rfl,rfl,J,b8⟩ l;rw[BQ,Cd (BR _)] at l;have L:=J _ _ y;have a1:=J _ _ a6;refine⟨_,rfl,ls,rfl,⟨_,.of L⟩,?_⟩
  let Y:Addr->Nat->LV->SH:=λD i j g R=>∃o,g=[o,some (.ref dr)]/\j=List.map V.str ((r.take i).filter λz=>(aD U (.inr z)).isSome)/\Same H7 R/\H7 D=none
  refine bU (List.map V.str r) Y λA2 a3=>⟨?_,?_,?_,?_⟩
  ·exact⟨none,rfl,rfl,Same.new a3,a3⟩
  ·rintro i j g R _ ⟨o,rfl,_,A,_⟩ _;exact .of (A _ _ L)
  ·rintro i j g R x hx ⟨o,rfl,rfl,A,n⟩ m;obtain⟨z,t,rfl⟩:=bp hx;have c4:=(BU.mp t).1;have fl:=CG (λz=>(aD U (.inr z)).isSome) (r.take i);rw[Ck] at fl;refine⟨_,rfl,_,rfl,.dic (DGet.k (k:=.inr z) (A _ _ a1)) ⟨_,rfl,?_⟩⟩;refine av (λh=>?_) (λh=>?_)
   ·have h:(aD U (.inr z)).isSome=true:=h;exact⟨_,rfl,m,by rw[BQ];exact aj (by omega),_,rfl,by rw[cT _ _ _ _ t,if_pos h,BX];rfl,aV A n,n⟩
   ·have h:¬ (aD U (.inr z)).isSome=true:=h;exact⟨m,_,rfl,by rw[cT _ _ _ _ t,if_neg h,CB],A,n⟩
  rintro j g H8 ⟨o,rfl,rfl,b2,M⟩ p;rw[BQ,Cd (BR _)] at p;refine⟨_,rfl,_,rfl,(szl 2),λq c3=>?_⟩;have s9:=Same.new (o:=.tup [V.ref A1,V.ref A2]) c3;have N:=a2.trans s6;refine k q A1 A2 _ ((N.trans J).trans (b2.trans s9)) ae ?_ ?_ (aW N b8) (aW (N.trans J) M) (ai l M)
  ·have e:dueB c ts one a=r.filter λz=>(aD kb (.inr z)).isSome:=by
      unfold dueB;rw[if_neg C,<- I];refine Ej λz t=>?_;rw[CQ,rB_iff,bin,Cg,c6];exact⟨λh=>⟨b6 z t,h⟩,λh=>h.2⟩
   rw[e];exact(b2.trans s9) _ _ l
  ·have e:bz c ts one a=r.filter λz=>(aD U (.inr z)).isSome:=by
      unfold bz;rw[if_neg C,<- I];refine Ej λz t=>?_;rw[CQ,rB_iff,a8,Cg,b3];exact⟨λh=>⟨b6 z t,h⟩,λh=>h.2⟩
   rw[e];exact s9 _ _ p
theorem fX (h:MG.Rch (Tie ts) a b) (g:MG.Rch (Tie ts) b c):MG.Rch (Tie ts) a c:=MG.Rch.closed (S:=λz=>MG.Rch (Tie ts) a z) h (λy z d r=>d.step r) g
theorem jj (h:MG.Rch (Tie (aY ts)) a b):MG.Rch (Tie ts) b a:=MG.Rch.closed (S:=λz=>MG.Rch (Tie ts) z a) MG.Rch.refl (λy z c r=>fX (MG.Rch.refl.step (mem_flip.mp r)) c) h
theorem xC {os:LS}{ts:List (Str × Str)}{one other:Str}:∀x∈dueB os ts one other,x∈os:=λx a=>by
 unfold dueB at a
 split at a
 ·cases a
 ·exact Dq (Dk (Cg.mp a).1)
theorem xy {os:LS}{ts:List (Str × Str)}{one other:Str}:∀x∈bz os ts one other,x∈os:=λx a=>by
 unfold bz at a
 split at a
 ·cases a
 ·exact Dq (Dk (Cg.mp a).1)
theorem iG {os:LS}{ts:List (Str × Str)}{one other:Str}(b:os.Nodup) (d:¬ eG os ts one other):(dueB os ts one other++bz os ts one other).Nodup:=by
 unfold dueB bz
 split
 ·exact DG
 ·rename_i hge
  have a:((os.take (os.idxOf one+1)).drop (os.idxOf other)).Nodup:=(b.sublist (DZ _ _)).sublist (List.drop_sublist _ _);rw[De];refine⟨a.sublist DT,a.sublist DT,λx g y c=>?_⟩;rintro rfl;have e:=rB_iff.mp (Cg.mp g).2;have f:=rB_iff.mp (Cg.mp c).2;exact d ⟨hge,fX f (jj e)⟩
theorem gq {os:LS}{ts:List (Str × Str)}{one other:Str}:∀x∈dueB os ts one other++bz os ts one other,x∈os:=λx a=>by
 rcases Cb.mp a with h | h
 ·exact xC x h
 ·exact xy x h
def cV (xs:List Nat):LV:=xs.map λx:Nat=>V.int (x:Int)
theorem jd (r:LS) (ps:List (Nat × Str)) (p:Nat × Str):bQ r (ps++[p])=(bQ r ps).set p.1 p.2:=by
 unfold bQ;rw[List.foldl_append];rfl
theorem ww (g:Nat->Bool) (i:Nat):(List.range (i+1)).filter g=(List.range i).filter g++(if g i=true then [i] else []):=by
 rw[List.range_succ,CH];by_cases q:g i=true
 ·simp[q]
 ·simp[q]
theorem vq (h:j<n):ixN n (j:Int)=some j:=by
 unfold ixN;rw[if_pos (by omega),if_pos (by omega),DE]
def mvD (m:Str × Nat × Nat):PyData:=.tuple [.str m.1,.int (m.2.1:Nat),.int (m.2.2:Nat)]
theorem uw (h:H a=some (.tup [.str s,.int (k:Int),.int (n:Int)])):Rep H (.ref a) (mvD (s,k,n)):=.tup h (.cons (.str _) (.cons (.int _) (.cons (.int _) .nil)))
theorem xX (h:Rep H v (mvD m)):∃a,v=.ref a/\H a=some (.tup [.str m.1,.int (m.2.1:Nat),.int (m.2.2:Nat)]):=by
 cases h with
 | tup e r =>
  obtain⟨k,i,rfl,b,r⟩:=RepAll.consI r;obtain⟨j,l,rfl,c,r⟩:=RepAll.consI r;obtain⟨g,f,rfl,d,r⟩:=RepAll.consI r;rw[RepAll.nilI r] at e;cases b;cases c;cases d;exact⟨_,rfl,e⟩
theorem xG (hp:H p=some (.lst ys)) (b:But p H H'):∀ {es:List (Str × Nat × Nat)}{xs:LV},RepAll H xs (es.map mvD)->RepAll H' xs (es.map mvD)
 | [],xs,h=>by rw[RepAll.nilI h];exact .nil
 | e::es,xs,h=>by
  obtain⟨y,ys',rfl,a,c⟩:=RepAll.consI h;obtain⟨q,rfl,hq⟩:=xX a;exact .cons (uw (b q _ (aZ hq hp (by intro z;cases z)) hq)) (xG hp b c)
def mo:Sp:=λvs H Q _=>∃wq lo ss ts os one other,vs=[.ref wq,.ref lo,.str one,.str other]/\WebO H (.ref wq) ss ts lo os/\one∈ss/\other∈ss/\¬ eG os ts one other /\
 ∀l refs H',Same H H'->H l=none->H' l=some (.lst refs)->RepAll H' refs ((mvs os (dueB os ts one other++bz os ts one other)).map mvD)->Q (.ref l) H'
theorem pL (F:Fun K "moves_of" "moves_of" hV f fd) (B:Blt mg) (Z:mg "sorted"=none) (Zz:mg "zip"=none) (u:Cal P w K mg base 5 "stretch" ["web","order","one","other"] lJ) (n:Cal P w K mg base 1 "places_of" ["things"] fS):FnOk P w K mg base CX0 6 f fd ["web","order","one","other"] mo:=by
 refine F.ok1 ["web","order","one","other","sorts","row","places","olds","news"] λnd H Q E J h=>?_;obtain⟨wq,lo,ss,ts,os,one,other,rfl,W,h1,h2,nr,k⟩:=h;have c2:=W.pm.length_eq;have c1:=W.web.len;have A:os.Nodup:=W.pm.nodup_iff.mpr W.web.nd;have g:=iG A nr;have t:=gq (os:=os) (ts:=ts) (one:=one) (other:=other);have al:(dueB os ts one other++bz os ts one other).length<=os.length:=g.length_le_of_subset t;have b0:=al;rw[Cj] at b0;refine⟨_,(aa (pst 4 nd (pc u J (ak (pv 0) (ak (pv 1) (p2 (pv 2) (pv 3))))))
  (aa (pst 5 nd (aG aM (px K J (pv 4) ac) (px K J (pv 4) ac)))
  (aa (bW (i:=6) nd rfl (Or.inr rfl) (pc n J (p1 (pv 1))))
  (aa (pst 7 nd (wb K Z (p1 (cC (au hV) ["web","order","one","other","sorts","row","places","olds","news"] [6] "thing" ["places"] (be K (pv 5)) cS (px K J (pv 1) (pv 0))))))
  (aa (bW (i:=8) nd rfl (Or.inr rfl) (wz K rfl J.units B Zz (p2 (pv 5) (pv 7))))
  (af (ao (cC (au hV) ["web","order","one","other","sorts","row","places","olds","news"] [1,8] "old" ["order","news"] (be K (pv 7)) cS (aF (ak (px K J (pv 1) (pv 0)) (p2 (pv 0) (px K J (pv 2) (px K J (pv 1) (pv 0)))))))))))))),?_⟩
 refine⟨_,rfl,_,rfl,_,rfl,_,rfl,wq,lo,ss,ts,os,one,other,rfl,W,h1,h2,nr,λq a b H1 s1 hq ha hb fa fb c3=>?_⟩;refine⟨_,rfl,.tup (.of hq) rfl ⟨_,rfl,.tup (.of hq) rfl (.lst ha hb (by rw[BQ,BQ];exact CP (aj (by omega))) λlr b4=>?_)⟩⟩;rw[<- BX];refine nw b4 λH2 s2 L=>?_;generalize dueB os ts one other++bz os ts one other=C at g t al L k ⊢;have a6:=s1.trans s2;refine⟨_,rfl,lo,os,rfl,a6 _ _ W.ord,by omega,λd c0 H3 s3 c4 hd b3 b6=>?_⟩;have G:=s3 _ _ L;refine⟨_,rfl,lr,rfl,⟨_,.of G⟩,?_⟩
 let Y:Addr->Nat->LV->SH:=λD i l m N=>∃o,m=[o,some (.ref d)]/\l=List.map V.int ((C.take i).map λx=>((os.idxOf x:Nat):Int))/\Same H3 N/\H3 D=none
 refine bU (List.map V.str C) Y λD hD=>⟨?_,?_,?_,?_⟩
 ·exact⟨none,rfl,rfl,Same.new hD,hD⟩
 ·rintro i l m N _ ⟨o,rfl,_,v,_⟩ _;exact .of (v _ _ G)
 ·rintro i l m N x hx ⟨o,rfl,rfl,v,S⟩ s;obtain⟨z,hz,rfl⟩:=bp hx;have b5:=(BU.mp hz).1;refine ip ?_;refine⟨_,rfl,_,rfl,.dic (.inl ⟨_,.inr z,.inl (v _ _ hd),rfl,(sT A b3 b6 (t z (BW hz))).symm⟩) ?_⟩;exact⟨s,by rw[BQ,BQ,Ck];exact aj (by omega),_,rfl,by rw[Cf,hz,BX,BX];rfl,aV v S,S⟩
 rintro l m H4 ⟨o,rfl,rfl,s4,S⟩ s;rw[BQ,Cd (BR _)] at s;refine⟨D,_,rfl,.of s,by rw[BQ];omega,λa0 b9 a1 hp ho=>?_⟩;rw[zj A g t hp ho];have en:List.map V.int ((plc os C).map λk:Nat=>(k:Int))=cV (plc os C):=by unfold cV;rw[CK];rfl
 rw[en];refine nw a1 λH5 s5 O=>?_;have pl:=eU A g t;have nl:(cV (plc os C)).length=C.length:=by unfold cV;rw[BQ,pl]
 have a3:=(s4.trans s5) _ _ G;refine⟨_,rfl,_,rfl,lr,a0,C,cV (plc os C),rfl,.of a3,.of O,nl.symm,by omega,λdn H6 b8 s6 a8=>?_⟩;rw[qt C _ g] at a8;have M:=s6 _ _ O;have R:=(a6.trans s3).trans ((s4.trans s5).trans s6);have a7:=R _ _ W.ord;refine⟨_,rfl,a0,rfl,⟨_,.of M⟩,?_⟩;have b2:∀ {i:Nat} {x:V},(cV (plc os C))[i]? = some x->∃k,(plc os C)[i]? = some k/\V.int ((k:Nat):Int)=x:=λ{i x} h=>by
  unfold cV at h;rw[Ce] at h;cases z:(plc os C)[i]? with
  | none=>rw[z] at h;cases h
  | some e=>rw[z] at h;exact⟨e,rfl,BV h⟩
 let X:Addr->Nat->LV->SH:=λD i l m N=>∃o,m=[o,some (.ref lo),some (.ref dn)]/\RepAll N l (((mvs os C).take i).map mvD)/\Same H6 N/\H6 D=none
 refine bU (cV (plc os C)) X λD' a4=>⟨?_,?_,?_,?_⟩
 ·exact⟨none,rfl,.nil,Same.new a4,a4⟩
 ·rintro i l m N _ ⟨o,rfl,_,v,_⟩ _;exact .of (v _ _ M)
 ·rintro i l m N x hx ⟨o,rfl,I,v,r⟩ j;obtain⟨y,hk,rfl⟩:=b2 hx;have b5:=(BU.mp hk).1;have U:=BW hk;have b1:=fj U;obtain⟨n1,n2⟩:=dW A g t U;have a5:atI (List.map V.str os) (y:Int)=some (.str (os.getD y "")):=iF b1;have a9:aD (ci C (cV (plc os C))) (.inr (os.getD y ""))=some (.int ((fM os C y:Nat):Int)):=ju g n2 (by unfold cV;rw[Ce,n1];rfl);have hm:(mvs os C)[i]? = some (os.getD y "",y,fM os C y):=by unfold mvs;rw[Ce,hk];rfl
  have a2:=I.len;rw[BQ,Ck] at a2;refine ip ?_;refine⟨_,rfl,_,rfl,.lst (.of (v _ _ a7)) a5 ⟨_,rfl,_,rfl,_,rfl,_,rfl,.lst (.of (v _ _ a7)) a5 (.dic (.inl ⟨_,.inr (os.getD y ""),.inl (v _ _ a8),rfl,a9.symm⟩) ⟨(szl 3),λtq T=>?_⟩)⟩⟩;have sq:=Same.new (o:=.tup [V.str (os.getD y ""),V.int (y:Int),V.int ((fM os C y:Nat):Int)]) T;have b7:D'≠tq:=ai j T;refine⟨sq _ _ j,aj (by omega),_,rfl,?_,?_,r⟩
  ·rw[Cf,hm,BX];refine RepAll.append (xG (p:=D') (sq _ _ j) But.upd (I.same sq)) (.cons (uw ?_) .nil);rw[ag (Ne.symm b7)];exact ae
  ·intro c o' hc;rw[ag (ai hc r)];exact sq _ _ (v _ _ hc)
 rintro l m H7 ⟨o,rfl,I,s7,r⟩ j;have ml:(cV (plc os C)).length=(mvs os C).length:=by unfold cV mvs;rw[BQ,BQ]
 rw[ml,Cd (BR _)] at I;exact k D' l H7 (R.trans s7) (aW R r) j I
def qG:Sp:=λvs H Q _=>∃(lo l refs:_) (os:LS) (ms:List (Str × Nat × Nat)),vs=[.ref lo,.ref l]/\H lo=some (.lst (List.map V.str os))/\H l=some (.lst refs)/\RepAll H refs (ms.map mvD)/\(∀m∈ms,m.2.2<os.length) /\
 ∀ln H',Same H H'->H ln=none->H' ln=some (.lst (List.map V.str (bQ os (ms.map λm=>(m.2.2,m.1)))))->Q (.ref ln) H'
theorem AZ {z:LV}{G:List (Str × Nat × Nat)}(b:RepAll H z (G.map mvD)) {j:Nat}(g:z[j]? = some x):∃m ta,G[j]? = some m/\x=.ref ta/\H ta=some (.tup [.str m.1,.int (m.2.1:Nat),.int (m.2.2:Nat)]):=by
 obtain⟨d,a,rd⟩:=b.get g;rw[Ce] at a;cases q:G[j]? with
 | none=>rw[q] at a;cases a
 | some e =>
  rw[q] at a;have a:mvD e=d:=BV a;rw[<- a] at rd;obtain⟨ta,c,f⟩:=xX rd;exact⟨e,ta,rfl,c,f⟩
theorem vJ (F:Fun K "moved" "moved" tR f fd) (B:Blt mg):FnOk P w K mg base CX0 1 f fd ["order","moves"] qG:=by
 refine F.ok1 ["order","moves","row","move"] λG H Q E s h=>?_;obtain⟨J,l,c,D,z,rfl,I,q,C,u,k⟩:=h;have A:=C.len;rw[BQ] at A;refine⟨_,(aa (pst 2 G (gs K rfl B (p1 (pv 0))))
  (aa (bc PassesOwn.never rfl (be K (pv 1)) (am (i:=3) G rfl (Or.inl rfl)) (af (cn (px K s (pv 3) ac) (cO (pv 2) (px K s (pv 3) ac) (dy s.units)))))
  (af (ao (pv 2))))),?_⟩
 refine⟨_,rfl,_,rfl,.seq (.inl (.of I)) λo a=>?_⟩;have r:l≠o:=ai q a;refine⟨_,rfl,l,rfl,⟨_,.of (by rw[ag r];exact q)⟩,?_⟩
 let e:Nat->SH:=λi n t=>∃g,n=[some (.ref J),some (.ref l),some (.ref o),g]/\t o=some (.lst (List.map V.str (bQ D ((z.take i).map λm=>(m.2.2,m.1)))))/\Same H t
 refine cI (R:=Q) (xs:=c) e ?_ ?_ ?_ ?_
 ·exact⟨none,rfl,ae,Same.new a⟩
 ·rintro i n t O ⟨g,rfl,_,L⟩;exact .of (L _ _ q)
 ·rintro _ i x n y M ⟨g,rfl,b,p⟩;obtain⟨m,N,v,rfl,d⟩:=AZ (C.same p) M;refine⟨_,rfl,.tup (.of d) rfl ⟨_,rfl,_,rfl,.tup (.of d) rfl (.lst (j:=m.2.2) b (by rw[BQ,dw];exact vq (u m (BW v))) ?_)⟩⟩;refine⟨_,rfl,?_,aV p a⟩;rw[ae,Cf,v,BX];show _=some (HO.lst (List.map V.str (bQ D ((z.take i).map (λm=>(m.2.2,m.1))++[(m.2.2,m.1)]))));rw[jd,List.map_set]
 ·rintro n y ⟨g,rfl,b,p⟩;rw[A,Cd (BR _)] at b;exact⟨_,rfl,k o y p a b⟩
theorem pW {os:LS}{l h:Nat}{x:Str}:x∈(os.take (h+1)).drop l ↔ ∃i,l<=i/\i<=h/\os[i]? = some x:=by
 constructor
 ·intro c;obtain⟨i,a⟩:=Cz c;rw[Ei] at a;have b:=(BU.mp a).1;rw[Ck] at b;rw[DC (by omega)] at a;exact⟨l+i,by omega,by omega,a⟩
 ·rintro⟨i,d,f,e⟩;refine BW (i:=i-l) ?_;rw[Ei,show l+(i-l)=i by omega,DC (by omega)];exact e
theorem tT {os:LS}(a:os.Nodup):os.Pairwise λx y=>os.idxOf x<os.idxOf y:=by
 rw[DM];intro i j c d b;rw[cr a (Ci c),cr a (Ci d)];exact b
def eZ (os:LS) (ts:List (Str × Str)) (one other:Str):LS:=bH os (dueB os ts one other++bz os ts one other)
theorem rF {os:LS}{ts:List (Str × Str)}{one other:Str}(a:os.Nodup) (b:¬ eG os ts one other):(eZ os ts one other).Perm os:=iH a (iG a b) (gq (os:=os) (ts:=ts) (one:=one) (other:=other))
theorem wa {os:LS}{ts:List (Str × Str)}{one other:Str}(a:os.Nodup) (B:Fwd os ts) (W:one ∈ os) (Q:other ∈ os) (F:¬ eG os ts one other):∀e ∈ ts ++ [(one, other)], (eZ os ts one other).idxOf e.1<(eZ os ts one other).idxOf e.2 := by
 have q:=iG a F;have p:=gq (os:=os) (ts:=ts) (one:=one) (other:=other);unfold eZ;by_cases d:os.idxOf one<os.idxOf other
 ·have T:dueB os ts one other=[]:=if_pos d;have U:bz os ts one other=[]:=if_pos d;rw[T,U];have N:bH os ([]++[])=os:=by
   unfold bH;simp[bQ]
  rw[N];intro e f;rcases Cb.mp f with f | f
  ·obtain⟨i,j,m,h,k⟩:=B e f;rw[cr a h,cr a k];exact m
  ·rw[Cr.mp f];exact d
 ·have s:¬ MG.Rch (Tie ts) other one := λz => F ⟨d, z⟩;have A:dueB os ts one other=((os.take (os.idxOf one+1)).drop (os.idxOf other)).filter λt=>rB (aY ts) one t:=if_neg d;have C:bz os ts one other=((os.take (os.idxOf one+1)).drop (os.idxOf other)).filter λt=>rB ts other t:=if_neg d;have c:∀x,x∈dueB os ts one other ↔ (∃i,os.idxOf other<=i/\i<=os.idxOf one/\os[i]? = some x)/\MG.Rch (Tie (aY ts)) one x:=λx=>by rw[A,Cg,pW,rB_iff]
  have b:∀x,x∈bz os ts one other ↔ (∃i,os.idxOf other<=i/\i<=os.idxOf one/\os[i]? = some x)/\MG.Rch (Tie ts) other x:=λx=>by rw[C,Cg,pW,rB_iff]
  have I:(dueB os ts one other).Pairwise λx y=>os.idxOf x<os.idxOf y:=by
   rw[A];exact(tT a).sublist (DT.trans ((List.drop_sublist _ _).trans (DZ _ _)))
  have V:(bz os ts one other).Pairwise λx y=>os.idxOf x<os.idxOf y:=by
   rw[C];exact(tT a).sublist (DT.trans ((List.drop_sublist _ _).trans (DZ _ _)))
  have w:∀x∈dueB os ts one other++bz os ts one other,os.idxOf other<=os.idxOf x/\os.idxOf x<=os.idxOf one:=λx g=>by
   rcases Cb.mp g with g | g
   ·obtain⟨⟨i,h,k,e⟩,_⟩:=(c x).mp g;rw[cr a e];exact⟨h,k⟩
   ·obtain⟨⟨i,h,k,e⟩,_⟩:=(b x).mp g;rw[cr a e];exact⟨h,k⟩
  intro e f;rcases Cb.mp f with f | f
  ·have n:=f;obtain⟨i,j,m,h,k⟩:=B e n;have G:=BW h;have D:=BW k;have u:os.idxOf e.1<os.idxOf e.2:=by rw[cr a h,cr a k];exact m
   have l:Tie ts e.1 e.2:=n;refine rW a q p I V w G D u (λo g=>?_) (λg o=>?_) (λ⟨g,o⟩=>?_)
   ·obtain⟨⟨O,_,S,v⟩,r⟩:=(c e.2).mp o;rw[<- cr a v] at S;exact(c e.1).mpr ⟨⟨_,g,by omega,gS G⟩,r.step (mem_flip.mpr l)⟩
   ·obtain⟨⟨O,P,_,v⟩,r⟩:=(b e.1).mp g;rw[<- cr a v] at P;exact(b e.2).mpr ⟨⟨_,by omega,o,gS D⟩,r.step l⟩
   ·have R:=((b e.1).mp g).2;have J:=jj ((c e.2).mp o).2;exact s (fX (R.step l) J)
  ·rw[Cr.mp f];have L:one∈dueB os ts one other:=(c one).mpr ⟨⟨_,by omega,BR _,gS W⟩,MG.Rch.refl⟩;have M:other∈bz os ts one other:=(b other).mpr ⟨⟨_,BR _,by omega,gS Q⟩,MG.Rch.refl⟩;obtain⟨i,E⟩:=Cz L;obtain⟨j,K⟩:=Cz M;have H:=(BU.mp E).1;exact iW (i:=i) (j:=(dueB os ts one other).length+j) (by rw[Dm H];exact E) (by rw[DB (by omega),Em];exact K) (by omega) a q p
theorem gj:∀(xs acc:Prs), acc.Nodup -> (bO acc xs).Nodup
 | [],acc,h=>h
 | x::xs,acc,h=>by
  show (if x∈acc then bO acc xs else bO (acc++[x]) xs).Nodup
  split
  ·exact gj xs acc h
  ·rename_i q
   exact gj xs _ (De.mpr ⟨h,by simp,λa ha b hb=>by rw[Cr.mp hb];rintro rfl;exact q ha⟩)
theorem tM {c:LS}(a:c.Nodup) {x:Str}(h:x∈c):c.idxOf x=MG.ix c x:=cr a (MG.at_ix h)
structure GT (H:Hp) (q:Addr) (us:LS) (ks:Kn) (ts ws wn:Prs):Prop where
 rep:Rep H (.ref q) (aK ks ts ws wn)
 tre:Tre us ks
 ti:TsI us ks ts
 wx:WnX ks wn
 pw:dE us ws
 tf:TsF ks ts
 wr:WsR ks ts wn ws
 tl:ts.length+ws.length<=100
 wl:wn.length<=200
section
variable {H H':Hp}{q:Addr}{us:LS}{ks:Kn}{ts ws wn:Prs}
theorem GT.same (h:GT H q us ks ts ws wn) (s:Same H H'):GT H' q us ks ts ws wn:=⟨h.rep.same s,h.tre,h.ti,h.wx,h.pw,h.tf,h.wr,h.tl,h.wl⟩
theorem GT.but (h:GT H q us ks ts ws wn) (a:H p=some (.dK ys)) (b:But p H H'):GT H' q us ks ts ws wn:=⟨ia a b h.rep,h.tre,h.ti,h.wx,h.pw,h.tf,h.wr,h.tl,h.wl⟩
theorem GT.words (h:GT H q us ks ts ws wn):∀e∈wn,e.1="first"∨e.1="last":=λe a=>(WnX.ok h.tre h.wx e a).1
theorem GT.fwd (h:GT H q us ks ts ws wn) (o:kk ∈ ks):Fwd kk.2 (aL ks ts wn kk.1 kk.2) := λe D => by
 have T:=h.tre;have m:=bv T o;have g:∀ {a b:Str},a∈kk.2->b∈kk.2->MG.ix kk.2 a<MG.ix kk.2 b->∃i j:Nat,i<j/\kk.2[i]? = some a/\kk.2[j]? = some b:=λI K l=>⟨_,_,l,MG.at_ix I,MG.at_ix K⟩
 rcases (dO h.words e).mpr D with⟨f,n,q⟩ | ⟨f,n,c,q⟩
 ·obtain⟨F, k, _⟩ := h.ti f n;unfold cE at q;cases hpo:aI ks f.1 f.2 with
  | none=>rw[hpo] at q;cases q
  | some t3 =>
   obtain⟨B,C,x⟩:=t3;rw[hpo] at q;have q:(if B=kk.1 then some (C,x) else none)=some e:=q;by_cases s:B=kk.1
   ·rw[if_pos s] at q;have q:=BV q;subst q;rw[s] at hpo;obtain⟨M,G⟩:=cN T o F k hpo;exact g M G (h.tf f n kk o C x hpo)
   ·rw[if_neg s] at q;cases q
 ·obtain⟨v,k,p,rfl⟩:=rowE_mem.mp q;obtain⟨d,t,y⟩:=h.wx.at_ f n;have J:=fe T.knd t o y.mem c;subst J;have N:=MG.ix_lt k;have A:MG.ix d.2 v≠MG.ix d.2 f.2:=λz=>p (by
   have u:=MG.at_ix k;have L:=MG.at_ix c;rw[z,L] at u;exact(BV u).symm)
  rcases y with⟨w,r⟩ | ⟨w,r⟩
  ·rw[if_pos w];have E:MG.ix d.2 f.2=0:=MG.ix_at m (by rw[<- List.head?_eq_getElem?];exact r);have l:MG.ix d.2 f.2<MG.ix d.2 v:=by omega
   exact g c k l
  ·rw[if_neg (λz=>absurd (z.symm.trans w) (by decide))];have E:MG.ix d.2 f.2=d.2.length-1:=MG.ix_at m (by rw[<- List.getLast?_eq_getElem?];exact r);have l:MG.ix d.2 v<MG.ix d.2 f.2:=by omega
   exact g k c l
theorem GT.tok (h:GT H q us ks ts ws wn):dZ us ks ts:=h.ti.ok
end
structure TD (H:Hp) (q t:Addr) (us:LS) (ks:Kn) (ts ws wn:Prs) (kk:Str × LS) (wd u v x y:Str):Prop where
 at_:H t=some (.tup [.str wd,.str u,.str v])
 g:GT H q us ks ts ws wn
 hw:wd="tie"∨wd="wait"
 kin:kk∈ks
 uin:u∈us
 vin:v∈us
 hp:aI ks u v=some (kk.1,x,y)
 n1:(u,v)∉ts
 n2:(u,v)∉ws
section
variable {H H':Hp}{q t:Addr}{us:LS}{ks:Kn}{ts ws wn:Prs}{kk:Str × LS}{wd u v x y:Str}
theorem TD.same (h:TD H q t us ks ts ws wn kk wd u v x y) (s:Same H H'):TD H' q t us ks ts ws wn kk wd u v x y:=⟨s _ _ h.at_,h.g.same s,h.hw,h.kin,h.uin,h.vin,h.hp,h.n1,h.n2⟩
theorem TD.dd (h:TD H q t us ks ts ws wn kk wd u v x y):Dd H t wd u v:=⟨h.at_,h.hw,h.g.tre.nm _ h.uin,h.g.tre.nm _ h.vin⟩
theorem TD.ne_xy (h:TD H q t us ks ts ws wn kk wd u v x y):x∈kk.2/\y∈kk.2:=cN h.g.tre h.kin h.uin h.vin h.hp
end
def qK:Sp:=λvs H Q _=>∃q l us ks ts ws wn ns,vs=[.ref q,.ref l]/\Rep H (.ref q) (aK ks ts ws wn)/\Tre us ks/\H l=some (.tup (List.map V.str ns))/\(∀u∈ns,u∈us)/\∀H',Same H H'->Q .non H'
theorem xc (F:Fun K "need_units" "need_units" kE f fd) (B:Blt mg) (a:Cal P w K mg base 1 "homes" ["house"] iQ):FnOk P w K mg base CX0 2 f fd ["house","names"] qK:=by
 refine F.ok1 ["house","names","table","name"] λr H Q E p h=>?_;obtain⟨q,l,D,z,L,s,v,J,rfl,R,T,o,j,k⟩:=h;refine⟨_,(aa (pst 2 r (pc a p (p1 (pv 0))))
  (af (bc PassesOwn.never rfl (bf K (pv 1)) (am (i:=3) r rfl (Or.inl rfl)) (af (aJ (ah (cJ K p.units) (pv 3) (pv 2) (by with_unfolding_all rfl)) (af aN) aw))))),?_⟩
 refine⟨_,rfl,q,D,z,L,s,v,rfl,R,T,λd m t n G C I M O=>?_⟩;refine⟨_,rfl,l,rfl,⟨_,.of (n _ _ o)⟩,?_⟩
 let b:Nat->SH:=λi g c=>∃e,g=[some (.ref q),some (.ref l),some (.ref d),e]/\c=t
 refine cu (R:=Q) (xs:=List.map V.str J) b ⟨none,rfl,rfl⟩ ?_ ?_ ?_
 ·rintro i g c N ⟨e,rfl,rfl⟩;exact .of (n _ _ o)
 ·rintro _ i x g c A ⟨e,rfl,rfl⟩;obtain⟨u,y,rfl⟩:=bp A;refine⟨_,rfl,_,rfl,.dic (.inl ⟨m,.inr u,.inl C,rfl,(I u (j u (BW y))).symm⟩) ⟨_,rfl,av (λh=>by cases (show false=true from h)) (λ_=>⟨_,rfl,rfl⟩)⟩⟩
 ·rintro g c ⟨e,rfl,rfl⟩;exact k c n
def qA:Sp:=λvs H Q _=>∃q l us ks ts ws wn u v p,vs=[.ref q,.ref l]/\Rep H (.ref q) (aK ks ts ws wn)/\Tre us ks/\H l=some (.tup [.str u,.str v])/\u∈us/\v∈us/\aI ks u v=some p/\∀H',Same H H'->Q .non H'
theorem xA (F:Fun K "need_parting" "need_parting" ir f fd) (B:Blt mg) (b:Cal P w K mg base 3 "parting" ["house","one","other"] gG):FnOk P w K mg base CX0 4 f fd ["house","units"] qA:=by
 refine F.ok1 ["house","units"] λA H Q E c h=>?_;obtain⟨q,l,o,n,x,g,j,u,v,p,rfl,R,T,d,m,s,r,k⟩:=h;refine⟨_,(af (aJ (ah iC (pc b c (ak (pv 0) (p2 (px K c (pv 1) ac) (px K c (pv 1) ac)))) cm (aB _)) (af aN) aw)),?_⟩;refine⟨_,rfl,_,rfl,.tup (.of d) rfl ⟨_,rfl,.tup (.of d) rfl (ap ⟨q,o,n,x,g,j,u,v,rfl,R,T,m,s,λz i t e=>?_⟩)⟩⟩;rw[r] at e;obtain⟨a,rfl,y⟩:=e;refine .non ⟨_,rfl,av (λh=>?_) (λ_=>k i t)⟩;have h:V.ref a=V.non:=Ch h;cases h
def kB:Sp:=λvs H Q _=>∃q t us ks ts ws wn kk wd u v x y,vs=[.ref q,.ref t]/\TD H q t us ks ts ws wn kk wd u v x y/\∀H',Same H H'->Q .non H'
theorem qU {ps:Prs}{u v:Str}(h:(u,v)∉ps):((ps.map aE).any λe=>PyData.eqv e (aE (u,v)))=false:=by
 rw[dQ];exact Ct h
theorem qi {f:Addr}{fd:FuncData}{tk:Tok}(F:Fun K "refuse_tie" "refuse_tie" kK f fd) (B:Blt mg) (TT:mg "MOST_TIES"=some (.int 200 tk)) (d:Cal P w K mg base 2 "need_units" ["house","names"] qK) (c:Cal P w K mg base 4 "need_parting" ["house","units"] qA):FnOk P w K mg base CX0 5 f fd ["house","deed"] kB:=by
 refine F.ok1 ["house","deed","tie"] λnd H Q E j h=>?_;obtain⟨q,t,C,U,J,I,O,kk,wd,u,v,x,y,rfl,D,k⟩:=h;have T:=D.g.tre;refine⟨_,(aa (pst 2 nd (bZ qN (pv 1) (ce ac) cP))
  (aa (bi (pc d j (p2 (pv 0) (pv 2))))
  (aa (bi (pc c j (p2 (pv 0) (pv 2))))
  (aa (aJ (PW.pt (gW (ah (fF j.units) (pv 2) (px K j (pv 0) ac) (by with_unfolding_all rfl)) (gE (ah (fF j.units) (pv 2) (px K j (pv 0) ac) (by with_unfolding_all rfl))))) (af aN) aw)
  (af (aJ (ah xU (aG aM (bh K B (p1 (px K j (pv 0) ac))) (bh K B (p1 (px K j (pv 0) ac)))) (eK (v:=.int 200) rfl TT ⟨_,rfl⟩) (aB _)) (af aN) aw)))))),?_⟩
 refine⟨_,rfl,_,rfl,t,_,rfl,D.at_,λG H1 Y l=>?_⟩;have l:H1 G=some (.tup [V.str u,V.str v]):=l;have W:=D.same Y;refine dA ?_;dsimp only;refine⟨_,rfl,_,rfl,ap ⟨q,G,C,U,J,I,O,[u,v],rfl,W.g.rep,T,l,λz r=>?_,λH2 p=>?_⟩⟩
 ·simp only[Cm,List.not_mem_nil,or_false] at r;rcases r with rfl | rfl
  ·exact D.uin
  ·exact D.vin
 have M:=W.same p;refine⟨_,rfl,_,rfl,ap ⟨q,G,C,U,J,I,O,u,v,_,rfl,M.g.rep,T,p _ _ l,D.uin,D.vin,D.hp,λH3 L=>?_⟩⟩;have D3:=M.same L;have N:=(p.trans L) _ _ l;obtain⟨q',a,b,c3,d4,n,A,R1,R2,R3,R4⟩:=bd D3.g.rep;cases n;obtain⟨b',rb,n,X,m⟩:=ba R2;cases n;obtain⟨c',rc,n,S,o⟩:=ba R3;cases n;have bl:=m.len;have Z:=o.len;rw[BQ] at bl Z;have tl:=D.g.tl;have g:∀z∈C,Nm z:=λz r=>T.nm z r;have R:dE C J:=λe i=>⟨(D.g.ti e i).1,(D.g.ti e i).2.1⟩
 refine⟨_,rfl,_,rfl,.tup (.of A) rfl ⟨b,_,_,_,rfl,X,m,aO (s:=u) (t:=v) N,aS (λe i=>⟨g _ (R e i).1,g _ (R e i).2⟩),cX (g _ D.uin) (g _ D.vin),(by show 1<=16;decide),_,rfl,?_⟩⟩;rw[if_neg (show ¬ false=true by decide),qU D.n1];refine av (λh=>by cases (show false=true from h)) (λ_=>?_);have pw:∀e∈I,Nm e.1/\Nm e.2:=λe i=>⟨g _ (D.g.pw e i).1,g _ (D.g.pw e i).2⟩
 refine⟨_,rfl,_,rfl,.tup (.of A) rfl ⟨c3,_,_,_,rfl,S,o,aO (s:=u) (t:=v) N,aS pw,cX (g _ D.uin) (g _ D.vin),(by show 1<=16;decide),_,rfl,?_⟩⟩;rw[if_neg (show ¬ false=true by decide),qU D.n2];refine av (λh=>by cases (show false=true from h)) (λ_=>?_);refine⟨_,rfl,.tup (.of A) rfl (ap ⟨_,_,rfl,Or.inr ⟨_,.of X,rfl⟩,?_⟩)⟩;refine⟨_,rfl,.tup (.of A) rfl (ap ⟨_,_,rfl,Or.inr ⟨_,.of S,rfl⟩,.int ?_⟩)⟩;refine⟨_,_,rfl,rfl,_,rfl,av (λh=>?_) (λ_=>k H3 ((Y.trans p).trans L))⟩;have h:(200:Int)<=(rb.length:Int)+(rc.length:Int):=Ch h;omega
theorem sy (F:Fun K "refuse" "refuse" qv f fd) (B:Blt mg) (b:mg "REFUSALS"=some (.ref I)) (j:KD P w K I J) (m:∀wd:Str,wd="tie"∨wd="wait"->valueAt J (.inr wd)=some (.ref G)) (d:W.keepIn K (.ref G)=true) (e:FnOk P w K mg base CX0 5 G z ["house","deed"] kB) (o:Binds K z ["house","deed"] []):FnOk P w K mg base CX0 6 f fd ["house","deed"] kB:=by
 refine F.ok1 ["house","deed"] λr H Q E a h=>?_;obtain⟨q,t,l,i,p,c,g,n,wd,u,v,x,y,rfl,D,k⟩:=h;refine⟨_,(af (bi (wI e (a.mono (by decide)) d o xN (rC (xY j) (eK (v:=.ref I) rfl b rfl) (px K a (pv 1) ac) (λ_ _=>rfl)) (p2 (pv 0) (pv 1))))),?_⟩;refine⟨_,rfl,.tup (.of D.at_) rfl ⟨.inr wd,_,.ref G,rfl,rfl,m wd D.hw,rfl,rfl,?_⟩⟩;refine⟨_,rfl,_,rfl,ap ⟨q,t,l,i,p,c,g,n,wd,u,v,x,y,rfl,D,k⟩⟩
def wv (es:List (Nat × Nat)) (a b:Nat):Prop:=(a,b)∈es
theorem uq (f:ss.Nodup) (nm:∀s ∈ ss, Nm s) (d:∀e ∈ es, e.1<ss.length /\ e.2<ss.length) (o:one<ss.length) (k:i<ss.length) :
    MG.Rch (Tie (es.map (nmP ss))) (ss.getD one "") (ss.getD i "") ↔ MG.Rch (wv es) one i:=by
 constructor
 ·intro r;obtain⟨y,l,j⟩:=MG.Rch.back (R:=wv es) (x:=one) (λa:Nat=>ss.getD a "") (λa c h=>by
   obtain⟨e,g,q⟩:=BY.mp h;have m:ss.getD e.1 ""=ss.getD a "":=(Prod.mk.inj q).1;have n:ss.getD e.2 ""=c:=(Prod.mk.inj q).2;have:=dR f nm (d e g).1 m;exact⟨e.2,n.symm,by unfold wv;rw[<- this];exact g⟩) r
  have:=dR f nm k l;rw[this];exact j
 ·intro r;exact MG.Rch.map (λa:Nat=>ss.getD a "") (λa b h=>BY.mpr ⟨(a,b),h,rfl⟩) r
theorem wj (h:ss.Nodup) (nm:∀s∈ss,Nm s) (b:∀e∈ts,e.1∈ss/\e.2∈ss) (c:one∈ss) (d:other∈ss) :
    (∃k,MG.To (cL ss ts) (ss.idxOf one) k (ss.idxOf other)) ↔ MG.Rch (Tie ts) other one:=by
 have f:=CF c;have g:=CF d;have a:=uq h nm (gV b) g f;rw[iE b,bI c,bI d] at a;rw[a];exact MG.rch_to.symm
theorem gg (b:ss.Nodup) (nm:∀s∈ss,Nm s) (a:∀e∈ts,e.1∈ss/\e.2∈ss) (c:x∈ss) (d:y∈ss) (h:TieO (cL ss ts) (ss.idxOf x) (ss.idxOf y) o):o=none ↔ ¬ MG.Rch (Tie ts) y x:=by
 rw[<- wj b nm a c d];cases o with
 | none=>exact⟨λ_ ⟨k,t⟩=>h k t,λ_=>rfl⟩
 | some w=>exact⟨λz=>by (cases z),λz=>by obtain⟨k,t,_⟩:=h;exact absurd ⟨k,t⟩ z⟩
def TRow (H:Hp) (r:Addr) (ks:Kn) (ts wn:Prs) (kk:Str × LS) (u v x y:Str):Option (List Nat)->Prop
 | none=>∃l refs,H r=some (.tup [.str "lay",.str u,.str v,.ref l])/\H l=some (.lst refs)/\RepAll H refs ((mvs kk.2 (dueB kk.2 (aL ks ts wn kk.1 kk.2) x y++bz kk.2 (aL ks ts wn kk.1 kk.2) x y)).map mvD)
 | some wy=>∃l refs,H r=some (.tup [.str "ring",.str u,.str v,.ref l])/\H l=some (.lst refs)/\RepAll H refs (t3D ((("tie":Str),u,v):T3)::gu ks ts wn kk.1 (wy.map (nmA kk.2)))
theorem TRow.same (h:TRow H r ks ts wn kk u v x y o) (s:Same H H'):TRow H' r ks ts wn kk u v x y o:=by
 cases o with
 | none=>obtain⟨l,a,c,d,b⟩:=h;exact⟨l,a,s _ _ c,s _ _ d,b.same s⟩
 | some w=>obtain⟨l,a,c,d,b⟩:=h;exact⟨l,a,s _ _ c,s _ _ d,b.same s⟩
def vo:Sp:=λvs H Q _=>∃(q us ks ts ws wn:_) (kk:Str × LS) (u v x y:_),vs=[.ref q,.str u,.str v]/\GT H q us ks ts ws wn/\kk∈ks/\u∈us/\v∈us/\aI ks u v=some (kk.1,x,y) /\
 ∀o r H',Same H H'->TieO (cL kk.2 (aL ks ts wn kk.1 kk.2)) (kk.2.idxOf x) (kk.2.idxOf y) o->TRow H' r ks ts wn kk u v x y o->Q (.ref r) H'
theorem yt (F:Fun K "row_of_tie" "row_of_tie" lV f fd) (B:Blt mg) (a:Cal P w K mg base 6 "ring_of_tie" ["house","one","other"] lH) (i:Cal P w K mg base 3 "parting" ["house","one","other"] gG) (c:Cal P w K mg base 6 "moves_of" ["web","order","one","other"] mo) (n:Cal P w K mg base 4 "view" ["house","knot"] nW) (d:Cal P w K mg base 1 "children" ["house","knot"] ft):FnOk P w K mg base CX0 7 f fd ["house","one","other"] vo:=by
 refine F.ok1 ["house","one","other","ring","part"] λnd H Q E m h=>?_;obtain⟨q,W,I,C,U,wn,g,u,v,x,y,rfl,G,b,hu,Y,hp,k⟩:=h;have T:=G.tre;have tl:=G.tl;have A:C.length<=200:=by omega
 obtain⟨O,M⟩:=cN T b hu Y hp;have N:=cD (wn:=wn) T G.tok b;have a0:=bv T b;have a2:∀s∈g.2,Nm s:=λs hs=>T.nm _ (T.isIn b hs);refine⟨_,(aa (pst 3 nd (pc a m (ak (pv 0) (p2 (pv 1) (pv 2)))))
  (aa (aJ (ah gi (pv 3) cm (aB _)) (af (ao (aF (ak aA (ak (pv 1) (p2 (pv 2) (pv 3))))))) aw)
  (aa (pst 4 nd (pc i m (ak (pv 0) (p2 (pv 1) (pv 2)))))
  (af (ao (aF (ak aA (ak (pv 1) (p2 (pv 2) (pc c m (ak (pc n m (p2 (pv 0) (px K m (pv 4) ac))) (ak (pc d m (p2 (pv 0) (px K m (pv 4) ac))) (p2 (px K m (pv 4) ac) (px K m (pv 4) ac)))))))))))))),?_⟩
 refine⟨_,rfl,_,rfl,_,rfl,ap ⟨q,W,I,C,U,wn,g,u,v,x,y,rfl,G.rep,T,G.tok,G.wx,A,b,hu,Y,hp,λo z H1 s1 _ ti X=>?_⟩⟩;have k:=k o;cases o with
 | some wy =>
  obtain⟨l,j,rfl,hl,rp⟩:=X;refine⟨_,rfl,.non ⟨_,rfl,av (λ_=>?_) (λh=>absurd (by simp) h)⟩⟩;refine⟨_,rfl,_,rfl,_,rfl,ap ⟨(szl 4),λr p=>?_⟩⟩;have J:=Same.new (o:=.tup [V.str "ring",V.str u,V.str v,V.ref l]) p;exact k r _ (s1.trans J) ti ⟨l,j,ae,J _ _ hl,rp.same J⟩
 | none =>
  have X:z=.non:=X;subst X;refine⟨_,rfl,.non ⟨_,rfl,av (λh=>absurd h (by decide)) (λ_=>?_)⟩⟩;have G1:=G.same s1;refine⟨_,rfl,_,rfl,_,rfl,ap ⟨q,W,I,C,U,wn,u,v,rfl,G1.rep,T,hu,Y,λp0 H2 J S=>?_⟩⟩;rw[hp] at S;obtain⟨t,rfl,ht⟩:=S;have G2:=G1.same J;refine dA ?_;dsimp only;refine⟨_,rfl,_,rfl,_,rfl,_,rfl,.tup (.of ht) rfl (ap ⟨q,W,I,C,U,wn,g,rfl,G2.rep,T,G.tok,G.wx,b,A,λvy H3 s3 ry=>?_⟩)⟩;have G3:=G2.same s3;have R:=s3 _ _ ht;refine⟨_,rfl,_,rfl,.tup (.of R) rfl (ap ⟨q,W,I,C,U,wn,g,rfl,G3.rep,T,b,λlo H4 s4 a3 hl=>?_⟩)⟩;have L:=s4 _ _ R;have Wb:=td T G.tok G.wx b A (ry.same s4);rw[iE N] at Wb;obtain⟨D,e0⟩:∃D,vy=.ref D:=by obtain⟨D,_,e,_⟩:=Rep.tupI ry;exact⟨D,e⟩
  subst e0;have WO:WebO H4 (.ref D) g.2 (aL I C wn g.1 g.2) lo g.2:=⟨Wb,gj _ _ DG,hl,List.Perm.refl _⟩
  have nr:¬ eG g.2 (aL I C wn g.1 g.2) x y:=λz=>(gg a0 a2 N O M ti).mp rfl z.2;refine⟨_,rfl,.tup (.of L) rfl ⟨_,rfl,.tup (.of L) rfl (ap ⟨D,lo,g.2,_,g.2,x,y,rfl,WO,O,M,nr,λl j H5 s5 _ a1 Z=>ap ⟨(szl 4),λr p=>?_⟩⟩)⟩⟩;have s6:=Same.new (o:=.tup [V.str "lay",V.str u,V.str v,V.ref l]) p;exact k r _ (((((s1.trans J).trans s3).trans s4).trans s5).trans s6) ti ⟨l,j,ae,s6 _ _ a1,Z.same s6⟩
def oy:Sp:=λvs H Q _=>∃(q t us ks ts ws wn:_) (kk:Str × LS) (wd u v x y:_),vs=[.ref q,.ref t]/\TD H q t us ks ts ws wn kk wd u v x y /\
 ∀o l r H',Same H H'->TieO (cL kk.2 (aL ks ts wn kk.1 kk.2)) (kk.2.idxOf x) (kk.2.idxOf y) o->H' l=some (.lst [.ref r])->TRow H' r ks ts wn kk u v x y o->Q (.ref l) H'
theorem sX (F:Fun K "paper_of" "paper_of" nJ f fd) (B:Blt mg) (b:Cal P w K mg base 5 "is_single" ["thing"] (spD true)) (c:Cal P w K mg base 6 "refuse" ["house","deed"] kB) (a:Cal P w K mg base 7 "row_of_tie" ["house","one","other"] vo):FnOk P w K mg base CX0 8 f fd ["house","deed"] oy:=by
 refine F.ok1 ["house","deed"] λnd H Q E d h=>?_;obtain⟨q,t,I,G,A,p,C,N,g,u,v,x,y,rfl,D,k⟩:=h;refine⟨_,(aa (aJ (gI (dF (pc b d (p1 (pv 1))))) (af aN) aw)
  (aa (bi (pc c d (p2 (pv 0) (pv 1))))
  (aa (aJ (ah (bK K d.units) (px K d (pv 1) ac) (aF (p2 aA aA)) (by with_unfolding_all rfl)) (af (ao (aQ (p1 (pc a d (ak (pv 0) (p2 (px K d (pv 1) ac) (px K d (pv 1) ac)))))))) aw)
  (aa aN
  (aa aN
  (aa aN
  (af aN))))))),?_⟩
 refine⟨_,rfl,t,g,u,v,rfl,D.dd,λH1 O=>?_⟩;refine⟨_,rfl,av (λh=>by cases (show false=true from h)) (λ_=>?_)⟩;have M:=D.same O;refine⟨_,rfl,_,rfl,ap ⟨q,t,I,G,A,p,C,N,g,u,v,x,y,rfl,M,λH2 z=>?_⟩⟩;have s:=M.same z;have j:=O.trans z;refine⟨_,rfl,.tup (.of s.at_) rfl ⟨(szl 2),λY S=>?_⟩⟩;refine nw S λH3 L R=>?_;have n:=s.same L;have i:=j.trans L;have m:inV (V.str g) [V.str "tie",V.str "wait"]=true:=by rcases D.hw with e | e <;> rw[e] <;> rfl
 refine .seq (.inr (.of R)) rfl rfl ⟨_,rfl,av (λ_=>?_) (λh=>absurd (by rw[if_neg (by decide)];exact m) h)⟩;refine⟨_,rfl,_,rfl,.tup (.of n.at_) rfl ⟨_,rfl,.tup (.of n.at_) rfl (ap ⟨q,I,G,A,p,C,N,u,v,x,y,rfl,n.g,D.kin,D.uin,D.vin,D.hp,λo r Z W X U=>ap ⟨(szl 1),λl T=>?_⟩⟩)⟩⟩;have J:=Same.new (o:=.lst [V.ref r]) T;exact k o l r _ ((i.trans W).trans J) X ae (U.same J)
theorem gU (b:Nm e.1) (a:Nm e.2):shp (aE e):=by
 show ((PyData.canLay0 (.str e.1)&&(PyData.canLay0 (.str e.2)&&true))&&decide (PyData.depthAll (List.map PyData.str [e.1,e.2])+1<=64))=true;rw[bM b,bM a,hY];rfl
def mC:Sp:=λvs H Q _=>∃(a t:_) (ps:Prs) (u v:_),vs=[.ref a,.ref t]/\Rep H (.ref a) (bX ps)/\(∀e∈ps,Nm e.1/\Nm e.2)/\H t=some (.tup [.str u,.str v])/\Nm u/\Nm v/\ps.length<=400/\∀r H',Same H H'->Rep H' (.ref r) (bX (ps.filter λe=>decide (e≠(u,v))))->Q (.ref r) H'
theorem su (F:Fun K "without" "without" jq f fd) (B:Blt mg):FnOk P w K mg base CX0 1 f fd ["some", "one"] mC := by
 refine F.ok1 ["some","one"] λnd H Q E hr h=>?_;obtain⟨a,t,A,u,v,rfl,R,pn,U,nu,X,pl,k⟩:=h;refine⟨_,(af (ao (cq K B (p1 (cC (au jq) ["some","one"] [1] "other" ["one"] (bf K (pv 0)) (bx (ah (cF hr.units) (pv 0) (pv 1) (aB _))) (pv 0)))))),?_⟩;obtain⟨a',ra,Z,M,m⟩:=ba R;cases Z;have p:=m.len;rw[BQ] at p;refine⟨_,rfl,a,rfl,⟨_,.of M⟩,?_⟩;refine cy ra (λD j c g y=>∃(x:Option V),g=[x,some (.ref t)]/\RepAll y c (((A.take j).filter λe=>decide (e≠(u,v))).map aE)/\c.length<=j/\Same H y/\H D=none) λDa q=>⟨?_,?_,?_,?_⟩
 ·exact⟨none,rfl,.nil,BR _,Same.new q,q⟩
 ·rintro j c g y _ ⟨x,rfl,_,_,l,_⟩ _;exact .of (l _ _ M)
 ·rintro j c g y z Y ⟨x,rfl,d,T,l,i⟩ b;obtain⟨e,ta,G,rfl,n⟩:=cW m Y;have O:=(BU.mp G).1;have re:=aO (s:=e.1) (t:=e.2) (l _ _ n);have S:=aO (s:=u) (t:=v) (l _ _ U);have L:=pn e (BW G);have r:((A.take (j+1)).filter λe=>decide (e≠(u,v)))=((A.take j).filter λe=>decide (e≠(u,v)))++(if decide (e≠(u,v))=true then [e] else []):=by
   rw[Cf,G,CH];congr 1;show List.filter _ [e]=_;rw[List.filter_cons,List.filter_nil]
  dsimp only[aX];refine⟨_,rfl,_,rfl,.tr re S (gU L.1 L.2) (gU nu X) ⟨_,rfl,av (λh=>?_) (λh=>?_)⟩⟩
  ·rw[if_pos rfl,eM] at h;have C:e≠(u,v):=λz=>by rw[z,Ca (show (((u,v):Str × Str).1,((u,v):Str × Str).2)=(u,v) from rfl)] at h;cases h
   rw[if_pos (Ca C)] at r;refine⟨_,rfl,b,(by exact aj (by omega)),_,rfl,?_,by rw[Cj];show _+1<=_;omega,aV l i,i⟩;rw[r,BX];exact RepAll.append (aP (aU b But.upd) d) (.cons (aO (s:=e.1) (t:=e.2) (cB b But.upd (l _ _ n))) .nil)
  ·rw[if_pos rfl,eM] at h;have I:e=(u,v):=Classical.byContradiction λz=>h (by rw[Ct (show (e.1,e.2)≠(u,v) from z)];rfl);rw[if_neg (by simpa using I),CB] at r;exact⟨b,_,rfl,by rw[r];exact d,by omega,l,i⟩
 ·rintro c g H1 ⟨x,rfl,d,T,s1,i⟩ b;rw[p,Cd (BR _)] at d;refine ap ⟨Da,c,rfl,.of b,λN W=>?_⟩;have J:=Same.new (o:=.tup c) W;exact k N _ (s1.trans J) (.tup ae (d.same J))
def mF:Sp:=λvs H Q _=>∃(q t ks:_) (ts ws wn:Prs) (u v:_),vs=[.ref q,.ref t]/\Rep H (.ref q) (aK ks ts ws wn)/\(∀e∈ws,Nm e.1/\Nm e.2)/\Nm u/\Nm v/\H t=some (.tup [.str u,.str v])/\ts.length<=400/\ws.length<=400/\∀q' H',Same H H'->Rep H' (.ref q') (aK ks (ts++[(u,v)]) (ws.filter λe=>decide (e≠(u,v))) wn)->Q (.ref q') H'
theorem rD (F:Fun K "with_tie" "with_tie" nT f fd) (B:Blt mg) (c:Cal P w K mg base 1 "without" ["some","one"] mC):FnOk P w K mg base CX0 2 f fd ["house","tie"] mF:=by
 refine F.ok1 ["house","tie"] λnd H Q E i h=>?_;obtain⟨q,t,ks,ts,L,wn,u,v,rfl,R,p,W,N,z,tl,Z,k⟩:=h;have sz:200000<sizeLine:=by decide
 refine⟨_,(af (ao (aF (ak (px K i (pv 0) ac) (ak (aG fT (px K i (pv 0) ac) (aF (p1 (pv 1)))) (p2 (pc c i (p2 (px K i (pv 0) ac) (pv 1))) (px K i (pv 0) ac))))))),?_⟩;obtain⟨q',a,b,c3,G,x,l,U,R2,S,X⟩:=bd R;cases x;obtain⟨b',Y,x,hb,g⟩:=ba R2;cases x;have m:=g.len;rw[BQ] at m;refine⟨_,rfl,.tup (.of l) rfl ⟨_,rfl,.tup (.of l) rfl ⟨_,rfl,ap ⟨(szl 1),λD M=>?_⟩⟩⟩⟩;refine nw M λH1 C I=>?_;refine⟨b,D,_,_,rfl,rfl,C _ _ hb,I,(by show Y.length+1<=_;omega),λT H2 O e2=>?_⟩;have d:=C.trans O;refine⟨_,rfl,.tup (.of (d _ _ l)) rfl ⟨_,rfl,ap ⟨c3,t,L,u,v,rfl,S.same d,p,d _ _ z,W,N,Z,λr H3 A n=>?_⟩⟩⟩;have j:=d.trans A;refine⟨_,rfl,.tup (.of (j _ _ l)) rfl (ap ⟨(szl 4),λt3 J=>?_⟩)⟩;have y:=Same.new (o:=.tup [V.ref a,V.ref T,V.ref r,V.ref G]) J;have e:=j.trans y;refine k t3 _ e (cK ae (U.same e) (.tup (y _ _ (A _ _ e2)) ?_) (n.same y) (X.same e));rw[BX];exact RepAll.append (g.same e) (.cons (aO (s:=u) (t:=v) (e _ _ z)) .nil)
def eW (ks:Kn) (ts wn:Prs) (kk:Str × LS) (x y:Str):Kn:=ks.map (bg kk.1 (eZ kk.2 (aL ks ts wn kk.1 kk.2) x y))
def nZ:Sp:=λvs H Q _=>∃(q r us ks:_) (ts ws wn:Prs) (kk:Str × LS) (u v x y:_),vs=[.ref q,.ref r]/\GT H q us ks ts ws wn/\kk∈ks/\u∈us/\v∈us/\aI ks u v=some (kk.1,x,y)/\¬ MG.Rch (Tie (aL ks ts wn kk.1 kk.2)) y x/\TRow H r ks ts wn kk u v x y none /\
 ∀q' H',Same H H'->Rep H' (.ref q') (aK (eW ks ts wn kk x y) (ts++[(u,v)]) (ws.filter λe=>decide (e≠(u,v))) wn)->Q (.ref q') H'
theorem uZ (F:Fun K "led_by_row" "led_by_row" lU f fd) (B:Blt mg) (g:Cal P w K mg base 3 "parting" ["house","one","other"] gG) (c:Cal P w K mg base 1 "with_row" ["house","knot","row"] mq) (l:Cal P w K mg base 1 "moved" ["order","moves"] qG) (a:Cal P w K mg base 1 "children" ["house","knot"] ft) (b:Cal P w K mg base 2 "with_tie" ["house","tie"] mF):FnOk P w K mg base CX0 4 f fd ["house","row"] nZ:=by
 refine F.ok1 ["house","row","knot","laid"] λnd H Q E d h=>?_;obtain⟨q,r,Z,A,ts,R,p,i,u,v,x,y,rfl,G,D,hu,Y,hp,S,rv,k⟩:=h;have T:=G.tre;have a0:=T.few;have tl:=G.tl;have s:=bv T D;have nr:¬ eG i.2 (aL A ts p i.1 i.2) x y:=λz=>S z.2;have o:=iG s nr;have C:=gq (os:=i.2) (ts:=aL A ts p i.1 i.2) (one:=x) (other:=y);obtain⟨lm,L,j,X,U⟩:=rv;refine⟨_,(aa (aJ (ah (br d.units) (px K d (pv 1) ac) aA (aB _)) (af (ao (pv 0))) aw)
  (aa (pst 2 nd (px K d (pc g d (ak (pv 0) (p2 (px K d (pv 1) ac) (px K d (pv 1) ac)))) ac))
  (aa (pst 3 nd (pc c d (ak (pv 0) (p2 (pv 2) (pc l d (p2 (pc a d (p2 (pv 0) (pv 2))) (px K d (pv 1) ac)))))))
  (af (ao (pc b d (p2 (pv 3) (aF (p2 (px K d (pv 1) ac) (px K d (pv 1) ac)))))))))),?_⟩
 refine⟨_,rfl,.tup (.of j) rfl (.sc rfl ⟨_,rfl,av (λh=>absurd h (by decide)) (λ_=>?_)⟩)⟩;refine⟨_,rfl,_,rfl,.tup (.of j) rfl ⟨_,rfl,.tup (.of j) rfl (ap ⟨q,Z,A,ts,R,p,u,v,rfl,G.rep,T,hu,Y,λp0 H1 s1 O=>?_⟩)⟩⟩;rw[hp] at O;obtain⟨t,rfl,ht⟩:=O;have G1:=G.same s1;refine .tup (.of ht) rfl ?_;refine dA ?_;dsimp only;refine⟨_,rfl,_,rfl,_,rfl,_,rfl,ap ⟨q,Z,A,ts,R,p,i,rfl,G1.rep,T,D,λlo H2 s2 a1 W=>?_⟩⟩;have n:=s1.trans s2;refine⟨_,rfl,.tup (.of (n _ _ j)) rfl (ap ⟨lo,lm,L,i.2,_,rfl,W,n _ _ X,U.same n,λm hm=>?_,λln H3 s3 _ I=>?_⟩)⟩
 ·obtain⟨kq,hk,rfl⟩:=BY.mp hm;exact fj (BW (dW s o C hk).1)
 rw[wE s o C] at I;have N:=n.trans s3;have G3:=G.same N;refine ap ⟨q,ln,A,ts,R,p,i.1,eZ i.2 (aL A ts p i.1 i.2) x y,rfl,G3.rep,I,by omega,λq4 H4 s4 R4=>?_⟩;have J:=N.trans s4;have M:=J _ _ j;refine dA ?_;dsimp only;refine⟨_,rfl,_,rfl,.tup (.of M) rfl ⟨_,rfl,.tup (.of M) rfl (ap ⟨(szl 2),λt1 h1=>?_⟩)⟩⟩;refine nw h1 λH5 s5 e5=>?_;have R5:=R4.same s5;have V:=J.trans s5;exact ap ⟨q4,t1,_,ts,R,p,u,v,rfl,R5,λe he=>⟨T.nm _ (G.pw e he).1,T.nm _ (G.pw e he).2⟩,T.nm _ hu,T.nm _ Y,e5,by omega,by omega,λq' H6 s6 R6=>k q' H6 (V.trans s6) R6⟩
def kM (ks:Kn) (ts ws wn:Prs) (kk:Str × LS) (u v x y:Str):Option (List Nat)->Kn × Prs × Prs
 | none=>(eW ks ts wn kk x y,ts++[(u,v)],ws)
 | some _=>(ks,ts,ws++[(u,v)])
theorem lP {ws:Prs}{e:Str × Str}(h:e∉ws):(ws.filter λf=>decide (f≠e))=ws:=by
 rw[List.filter_eq_self];exact λf a=>Ca λz=>h (z ▸ a)
def ut:Sp:=λvs H Q _=>∃(q t r us ks ts ws wn:_) (kk:Str × LS) (u v x y:_),vs=[.ref q,.ref t,.ref r]/\TD H q t us ks ts ws wn kk "tie" u v x y/\TieO (cL kk.2 (aL ks ts wn kk.1 kk.2)) (kk.2.idxOf x) (kk.2.idxOf y) none/\TRow H r ks ts wn kk u v x y none /\
 ∀q' H',Same H H'->Rep H' (.ref q') (aK (eW ks ts wn kk x y) (ts++[(u,v)]) ws wn)->Q (.ref q') H'
theorem yC {f:Addr}{fd:FuncData}(F:Fun K "led_by_tie" "led_by_tie" mG f fd) (B:Blt mg) (a:Cal P w K mg base 4 "led_by_row" ["house","row"] nZ):FnOk P w K mg base CX0 5 f fd ["house","deed","row"] ut:=by
 refine F.ok1 ["house","deed","row"] λG H Q E b h=>?_;obtain⟨q,t,r,n,l,A,e,wn,z,u,v,x,y,rfl,D,p,j,k⟩:=h;have T:=D.g.tre;have C:=D.g.tl;obtain⟨c,d⟩:=D.ne_xy;refine⟨_,(aa (aJ (PW.pt (ck (ah (br b.units) (px K b (pv 1) ac) aA (aB _)) (bR (ah (br b.units) (px K b (pv 2) ac) aA (aB _))))) (af aN) aw)
  (af (ao (pc a b (p2 (pv 0) (pv 2)))))),?_⟩
 refine⟨_,rfl,.tup (.of D.at_) rfl (.sc rfl ⟨_,rfl,av (λh=>absurd h (by decide)) (λ_=>cR ?_)⟩)⟩;refine⟨_,rfl,_,rfl,ap ⟨q,r,n,l,A,e,wn,z,u,v,x,y,rfl,D.g,D.kin,D.uin,D.vin,D.hp,?_,j,λm o i R2=>k m o i ?_⟩⟩
 ·exact(gg (bv T D.kin) (λs g=>T.nm _ (T.isIn D.kin g)) (cD (wn:=wn) T D.g.tok D.kin) c d p).mp rfl
 ·rw[lP D.n2] at R2;exact R2
def qY:Sp:=λvs H Q _=>∃(q t l r us ks ts ws wn:_) (kk:Str × LS) (u v x y:_),vs=[.ref q,.ref t,.ref l]/\TD H q t us ks ts ws wn kk "tie" u v x y/\TieO (cL kk.2 (aL ks ts wn kk.1 kk.2)) (kk.2.idxOf x) (kk.2.idxOf y) none/\H l=some (.lst [.ref r])/\TRow H r ks ts wn kk u v x y none /\
 ∀q' H',Same H H'->Rep H' (.ref q') (aK (eW ks ts wn kk x y) (ts++[(u,v)]) ws wn)->Q (.ref q') H'
theorem xx (F:Fun K "led_to" "led_to" vk f fd) (B:Blt mg) (a:Cal P w K mg base 5 "led_by_tie" ["house","deed","row"] ut):FnOk P w K mg base CX0 6 f fd ["house","deed","paper"] qY:=by
 refine F.ok1 ["house","deed","paper"] λR H Q E b h=>?_;obtain⟨q,t,l,r,C,s,M,i,p,J,u,v,x,y,rfl,D,I,g,o,k⟩:=h;refine⟨_,(aa (aJ (ah (br b.units) (px K b (pv 1) ac) aA (aB _)) (af aN) aw)
  (aa (aJ (ah (bK K b.units) (px K b (pv 1) ac) (aF (p2 aA aA)) (by with_unfolding_all rfl)) (af (ao (pc a b (ak (pv 0) (p2 (pv 1) (px K b (pv 2) ac)))))) aw)
  (aa aN
  (aa aN
  (af aN))))),?_⟩
 refine⟨_,rfl,.tup (.of D.at_) rfl (.sc rfl ⟨_,rfl,av (λh=>absurd h (by decide)) (λ_=>?_)⟩)⟩;refine⟨_,rfl,.tup (.of D.at_) rfl ⟨(szl 2),λN m=>?_⟩⟩;refine nw m λO c j=>?_;have L:=D.same c;have e:=o.same c;have d:=c _ _ g;refine .seq (.inr (.of j)) rfl rfl ⟨_,rfl,av (λ_=>?_) (λh=>absurd rfl h)⟩;exact⟨_,rfl,_,rfl,_,rfl,.lst (.of d) at0 (ap ⟨q,t,r,C,s,M,i,p,J,u,v,x,y,rfl,L,I,e,λA n z G=>k A n (c.trans z) G⟩)⟩
abbrev AY:LS:=["OrderError","Ring"]
abbrev wc:LS:=["OrderError","Ring"]
theorem zp (F:Fun K "__init__" "Ring.__init__" fi f fd) (B:Blt mg):FnOk P w K mg base CX0 1 f fd ["self","ring"] (iM K "ring"):=by
 refine F.ok1 ["self","ring"] λo H Q E n h=>?_;obtain⟨e,C,l,m,rfl,g,i,Z,k⟩:=h;refine⟨_,(af (yU (pv 0) (gs K rfl B (p1 (pv 1))) rfl)),?_⟩;refine⟨_,rfl,_,rfl,.seq (.inl (.of i)) λr b=>?_⟩;refine⟨_,rfl,e,C,rfl,by rw[ag (ai g b)];exact g,Z,λd c j=>?_⟩;have a:r≠d:=λz=>by rw[<- z,ae] at c;cases c
 rw[ag (Ne.symm a)] at c;exact k r d b c a
def kF (ks:Kn) (ts wn:Prs) (kk:Str × LS) (u v:Str) (wy:List Nat):List PyData:=t3D ((("tie":Str),u,v):T3)::gu ks ts wn kk.1 (wy.map (nmA kk.2))
def ky (C:Addr):Sp:=λvs H Q E=>∃(q t:Addr) (us:LS) (ks:Kn) (ts ws wn:Prs) (kk:Str × LS) (u v x y:Str),vs=[.ref q,.ref t]/\TD H q t us ks ts ws wn kk "tie" u v x y /\
 (TieO (cL kk.2 (aL ks ts wn kk.1 kk.2)) (kk.2.idxOf x) (kk.2.idxOf y) none->∀q' H',Same H H'->Rep H' (.ref q') (aK (eW ks ts wn kk x y) (ts++[(u,v)]) ws wn)->Q (.ref q') H') /\
 (∀wy l refs d H',TieO (cL kk.2 (aL ks ts wn kk.1 kk.2)) (kk.2.idxOf x) (kk.2.idxOf y) (some wy)->Same H H'->H d=none->H' l=some (.lst refs)->RepAll H' refs (kF ks ts wn kk u v wy)->H' d=some (.xd [("ring",.ref l)])->E (.ref C) (some d) H')
theorem xt (F:Fun K "behind_single" "behind_single" ic f fd) (B:Blt mg) (k:MkI P w K mg base 1 "Ring" C ["self","ring"] (iM K "ring")) (Z:XSet K C "ring") (a:Cal P w K mg base 8 "paper_of" ["house","deed"] oy) (b:Cal P w K mg base 6 "led_to" ["house","deed","paper"] qY):FnOk P w K mg base (CX1 P w) 9 f fd ["house","deed"] (ky C):=by
 refine F.ok2 ["house","deed","paper"] λnd H Q E c h=>?_;obtain⟨q,t,U,T,Y,R,S,W,u,v,x,y,rfl,D,k0,k1⟩:=h;refine⟨_,(aa (pst 2 nd (pc a c (p2 (pv 0) (pv 1))))
  (aa (aJ (PW.pt (ck (ah (bK K c.units) (px K c (pv 1) ac) (aF (ak aA (p2 aA aA))) (by with_unfolding_all rfl)) (bR (ah (bK K c.units) (px K c (px K c (pv 2) ac) ac) (aF (p2 aA aA)) (by with_unfolding_all rfl))))) (af (vb k (c.mono (by decide)) rfl (p1 (px K c (px K c (pv 2) ac) (fw eA ac))))) aw)
  (af (ao (pc b c (ak (pv 0) (p2 (pv 1) (pv 2)))))))),?_⟩
 refine⟨_,rfl,_,rfl,ap ⟨q,t,U,T,Y,R,S,W,"tie",u,v,x,y,rfl,D,λo l r H1 X L hl rv=>?_⟩⟩;have V:=D.same X;refine⟨_,rfl,.tup (.of V.at_) rfl ⟨szl 3,λt1 h1=>?_⟩⟩;refine nw h1 λH3 s e3=>?_;have D3:=V.same s;have e:=s _ _ hl;have m:=rv.same s;have n:=X.trans s;refine .seq (.inr (.of e3)) rfl rfl ⟨_,rfl,av (λ_=>?_) (λh=>absurd rfl h)⟩;cases o with
 | some wy =>
  obtain⟨lr,j,i,I,J⟩:=m;refine⟨_,rfl,.lst (.of e) at0 (.tup (.of i) rfl ⟨szl 2,λt2 O=>?_⟩)⟩;refine nw O λH4 d A=>?_;have g:=n.trans d;refine .seq (.inr (.of A)) rfl rfl ⟨_,rfl,av (λ_=>?_) (λh=>absurd rfl h)⟩;refine⟨_,rfl,.lst (.of (d _ _ e)) at0 ⟨_,rfl,.tup (.of (d _ _ i)) rfl (ap ⟨szl 1,λe1 G=>?_⟩)⟩⟩;exact pB (d _ _ I) Z G λr5 d5 N p a0 M h3 h4=>k1 wy r5 j d5 N L (g.trans p) (aW g M) h3 ((J.same d).same p) h4
 | none =>
  have z:=m;obtain⟨lr,j,i,_⟩:=m;refine⟨_,rfl,.lst (.of e) at0 (.tup (.of i) rfl ⟨szl 2,λt2 O=>?_⟩)⟩;refine nw O λH4 d A=>?_;have g:=n.trans d;refine .seq (.inr (.of A)) rfl rfl ⟨_,rfl,av (λh=>absurd h (by decide)) (λ_=>?_)⟩;exact⟨_,rfl,_,rfl,_,rfl,ap ⟨q,t,l,r,U,T,Y,R,S,W,u,v,x,y,rfl,D3.same d,L,d _ _ e,z.same d,λq' N p R5=>k0 L q' N (g.trans p) R5⟩⟩
def ke:Sp:=λvs H Q _=>∃q t us ks ts ws wn kk wd u v x y,vs=[.ref t]/\TD H q t us ks ts ws wn kk wd u v x y/\∀l H',Same H H'->H' l=some (.lst [.ref t])->Q (.ref l) H'
theorem pH (F:Fun K "singles" "singles" oJ f fd) (B:Blt mg):FnOk P w K mg base CX0 1 f fd ["deed"] ke:=by
 refine F.ok1 ["deed","told","part"] λo H Q E b h=>?_;obtain⟨q,t,m,j,p,g,i,n,d,u,v,x,y,rfl,D,k⟩:=h;have a:d≠"many":=by rcases D.hw with e | e <;> rw[e] <;> decide
 refine⟨_,(aa (aJ (ah (cF b.units) (px K b (pv 0) ac) aA (aB _)) (af (ao (aQ (p1 (pv 0))))) aw)
  (aa aN
  (aa aN
  (af aN)))),?_⟩
 refine⟨_,rfl,.tup (.of D.at_) rfl (.sc rfl ⟨_,rfl,av (λ_=>?_) (λh=>?_)⟩)⟩
 ·exact⟨_,rfl,(szl 1),λl c=>k l _ (Same.new c) ae⟩
 ·exact absurd (by rw[if_pos rfl,Ct (λz=>a (V.str.inj z))];rfl) h
theorem yX (F:Fun K "behind" "behind" qa f fd) (B:Blt mg) (b:Cal P w K mg base 9 "is_deed" ["thing"] (spD true)) (c:Cal P w K mg base 1 "singles" ["deed"] ke) (a:CalX P w K mg base 9 "behind_single" ["house", "deed"] (ky C)):FnOk P w K mg base (CX1 P w) 10 f fd ["house", "deed"] (ky C) := by
 refine F.ok2 ["house","deed","left","single"] λN H Q E L h=>?_;obtain⟨q,t,T,A,z,I,p,d,u,v,x,y,rfl,D,k0,k1⟩:=h;refine⟨_,(aa (aJ (gI (dF (pc b L (p1 (pv 1))))) (af aN) aw)
  (aa (pst 2 N (pv 0))
  (aa (bc PassesOwn.leaving rfl (be K (pc c L (p1 (pv 1)))) (am (i:=3) N rfl (Or.inl rfl)) (af (pst 2 N (yv a (L.mono (by decide)) rfl (p2 (pv 2) (pv 3))))))
  (af (ao (pv 2)))))),?_⟩
 refine⟨_,rfl,t,_,u,v,rfl,D.dd,λH1 Y=>?_⟩;refine⟨_,rfl,av (λh=>by cases (show false=true from h)) (λ_=>?_)⟩;have X:=D.same Y;refine⟨_,rfl,⟨_,rfl,ap ⟨q,t,T,A,z,I,p,d,"tie",u,v,x,y,rfl,X,λl W O G=>?_⟩⟩⟩;have D2:=X.same O;have j:=Y.trans O;refine⟨l,rfl,⟨_,.of G⟩,?_⟩
 let o:Nat->SH:=λi r k=>(i=0/\k=W/\∃m,r=[some (.ref q),some (.ref t),some (.ref q),m])∨(i=1/\∃e m,r=[some (.ref q),some (.ref t),some (.ref e),m]/\TieO (cL d.2 (aL A z p d.1 d.2)) (d.2.idxOf x) (d.2.idxOf y) none/\Same W k/\Rep k (.ref e) (aK (eW A z p d x y) (z++[(u,v)]) I p))
 refine cI (R:=Q) (xs:=[V.ref t]) o ?_ ?_ ?_ ?_
 ·exact .inl ⟨rfl,rfl,none,rfl⟩
 ·rintro i r k hi (⟨_,rfl,_⟩ | ⟨_,e,m,rfl,_,g,_⟩)
  ·exact .of G
  ·exact .of (g _ _ G)
 ·rintro _ i x' r k S (⟨rfl,rfl,m,rfl⟩ | ⟨rfl,_⟩)
  ·have Z:V.ref t=x':=BV S;subst Z;refine⟨_,rfl,_,rfl,ap ⟨q,t,T,A,z,I,p,d,u,v,x,y,rfl,D2,λs e U g J=>?_,λwy l3 n d3 U s g M h1 h2 h3=>?_⟩⟩
   ·exact .inr ⟨rfl,e,_,rfl,s,g,J⟩
   ·exact k1 wy l3 n d3 U s (j.trans g) (aW j M) h1 h2 h3
  ·cases S
 ·rintro r k (⟨h,_⟩ | ⟨_,e,m,rfl,s,g,J⟩)
  ·exact absurd h (by show ¬ (1:Nat)=0;decide)
  ·exact⟨_,rfl,k0 s e k (j.trans g) J⟩
theorem fh (k:Str × LS):(bg knot row k).1=k.1:=by
 unfold bg
 split
 ·rename_i h;exact h.symm
 ·rfl
theorem gZ (T:Tre us ks) (f:kk∈ks) (h:k∈ks) (e:k.1=kk.1):k=kk:=by
 obtain⟨i,g⟩:=Cz h;obtain⟨j,b⟩:=Cz f;have c:(ks.map (·.1))[i]? = some k.1:=by rw[Ce,g];rfl
 have d:(ks.map (·.1))[j]? = some k.1:=by rw[Ce,b,e];rfl
 have a:i=j:=by rw[<- MG.ix_at T.kn c,<- MG.ix_at T.kn d]
 subst a;rw[g] at b;exact BV b
theorem gY (T:Tre us ks) (a:kk∈ks) (b:k∈ks) (p:row.Perm kk.2) (u:Str):u∈(bg kk.1 row k).2 ↔ u∈k.2:=by
 unfold bg
 split
 ·rename_i h
  rw[gZ T a b h];exact p.mem_iff
 ·exact Iff.rfl
theorem gA:∀ {l:List α},(∀x∈l,p (f x)=p x)->(l.map f).find? p=(l.find? p).map f
 | [],_=>rfl
 | x::l,h=>by
  rw[Cv,CZ,CZ,h x (CW ..)];cases p x with
  | true=>rfl
  | false=>exact gA λy hy=>h y (Cw _ hy)
theorem wM (T:Tre us ks) (a:kk∈ks) (p:row.Perm kk.2) (u:Str):bq (ks.map (bg kk.1 row)) u=bq ks u:=by
 unfold bq;rw[gA (f:=bg kk.1 row) λk b=>decide_eq_decide.mpr (gY T a b p u),Option.map_map];congr 2
 funext k
 exact fh k
theorem uL (T:Tre us ks) (a:kk∈ks) (p:row.Perm kk.2) (u v:Str):aI (ks.map (bg kk.1 row)) u v=aI ks u v:=by
 have e:bq (ks.map (bg kk.1 row))=bq ks:=funext λu=>wM T a p u;unfold aI lin;rw[e]
theorem ni (p:row.Perm kk.2):∀ {ks:Kn}, (∀k ∈ ks, k.1=kk.1 -> k=kk) -> (aT (ks.map (bg kk.1 row))).Perm (aT ks)
 | [],_=>.refl _
 | k::ks,h=>by
  show ((bg kk.1 row k).2++aT (ks.map (bg kk.1 row))).Perm (k.2++aT ks);refine List.Perm.append ?_ (ni p λx hx=>h x (Cw _ hx));unfold bg
  split
  ·rename_i e
   rw[h k (CW ..) e];exact p
  ·exact .refl _
theorem yQ (T:Tre us ks) (a:kk∈ks) (p:row.Perm kk.2):Tre us (ks.map (bg kk.1 row)):=by
 have f:(ks.map (bg kk.1 row)).map (·.1)=ks.map (·.1):=by
  rw[CK];exact List.map_congr_left λk _=>fh k
 refine⟨(ni p λk b e=>gZ T a b e).trans T.perm,T.nd,T.nm,T.len,by rw[f];exact T.top,by rw[f];exact T.kn,λk b=>?_,λk b u g=>?_⟩
 ·obtain⟨d,c,rfl⟩:=BY.mp b;rw[fh];exact T.sub d c
 ·obtain⟨d,c,rfl⟩:=BY.mp b;rw[fh];exact T.up d c u ((gY T a c p u).mp g)
def qj:Sp:=λvs H Q _=>∃(q us ks ts ws wn:_) (t:T3),vs=[.ref q,.str t.1,.str t.2.1,.str t.2.2]/\Rep H (.ref q) (aK ks ts ws wn)/\Tre us ks/\nK us wn/\dZ us ks ts/\Kt t/\∀x H',Same H H'->Rep H' (.ref x) (t3D (dj ks ts wn t))->Q (.ref x) H'
theorem xv (F:Fun K "_law_step" "_law_step" oB f fd) (B:Blt mg) (c:Cal P w K mg base 2 "_law_part" ["_law_knots_here", "_law_one", "_law_other"] eX):FnOk P w K mg base CX0 3 f fd ["_law_house_here", "_law_knot", "_law_one", "_law_other"] qj := by
 refine F.ok1 ["_law_house_here","_law_knot","_law_one","_law_other","_law_tie"] λnd H Q E p h=>?_;obtain⟨q,us,Y,ts,ws,wn,t,rfl,R,T,G,S,J,k⟩:=h;refine⟨_,(aa (bc PassesOwn.never rfl (bf K (px K p (pv 0) ac)) (am (i:=4) nd rfl (Or.inl rfl)) (af (aJ (ah (br p.units) (pc c p (ak (px K p (pv 0) ac) (p2 (px K p (pv 4) ac) (px K p (pv 4) ac)))) (aF (ak (pv 1) (p2 (pv 2) (pv 3)))) (aB _)) (af (ao (aG fT (aF (p1 aA)) (pv 4)))) aw)))
  (aa (aJ (ah (fF p.units) (aF (p2 aA (pv 2))) (px K p (pv 0) ac) (by with_unfolding_all rfl)) (af (ao (aF (ak aA (p2 (pv 2) (pv 3)))))) aw)
  (af (ao (aF (ak aA (p2 (pv 2) (pv 3)))))))),?_⟩
 obtain⟨q',a,b,c3,d4,D,W,R1,R2,_,R4⟩:=bd R;cases D;obtain⟨b',rb,D,hb,A⟩:=ba R2;cases D;obtain⟨a2,U,D,O,a1⟩:=ba R4;cases D;have g:=A.len;rw[BQ] at g;have a0:PyData.canLayAll0 (wn.map aE)=true:=aS λe u=>⟨gN (G e u).1,T.nm _ (G e u).2⟩
 have N:=Same.refl H;refine⟨_,rfl,.tup (.of W) rfl ⟨b,rfl,⟨_,.of hb⟩,?_⟩⟩
 let C:Nat->SH:=λi M H'=>∃(L:Option V),M=[some (.ref q),some (.str t.1),some (.str t.2.1),some (.str t.2.2),L]/\Same H H'/\(ts.take i).find? (λe=>decide (aI Y e.1 e.2=some t))=none
 refine cu (R:=Q) (xs:=rb) C ?_ ?_ ?_ ?_
 ·exact⟨none,rfl,Same.refl H,rfl⟩
 ·rintro i M H' hi ⟨L,rfl,l,_⟩;exact .of (l _ _ (N _ _ hb))
 ·rintro _ i x M H' r ⟨L,rfl,l,v⟩;obtain⟨e,ta,u,rfl,d⟩:=cW A r;obtain⟨hu,hv,_⟩:=S e (BW u);have d:=N _ _ d;dsimp only[aX];refine⟨_,rfl,.tup (.of (l _ _ W)) rfl ⟨_,rfl,.tup (.of (l _ _ d)) rfl ⟨_,rfl,.tup (.of (l _ _ d)) rfl (ap ⟨a,us,Y,e.1,e.2,rfl,R1.same l,T,hu,hv,λy H2 j py=>?_⟩)⟩⟩⟩;have s:=l.trans j;refine⟨_,rfl,_,rfl,_,rfl,(szl 3),λpt X=>?_⟩;have s3:=Same.new (o:=.tup [V.str t.1,V.str t.2.1,V.str t.2.2]) X;have rt:Rep (upd H2 pt (.tup [V.str t.1,V.str t.2.1,V.str t.2.2])) (.ref pt) (t3D t):=dH ae;have I:=iZ (py.same s3);have m:=s.trans s3;generalize upd H2 pt (.tup [V.str t.1,V.str t.2.1,V.str t.2.2])=H3 at rt I m ⊢;refine .tr I rt (qX λt h=>qO T hu hv h) (op J) ⟨_,rfl,?_⟩;rw[if_neg (show ¬ false=true by decide),qH];refine av (λh=>?_) (λh=>?_)
  ·have h:=Ch h;refine⟨(szl 1),λl1 Z=>?_⟩;have s4:=Same.new (o:=.tup [V.str "tie"]) Z;refine⟨_,rfl,l1,ta,_,_,rfl,rfl,ae,s4 _ _ (m _ _ d),(by show 1+2<=sizeLine;decide),λx H5 s5 e5=>?_⟩;refine k x _ ((N.trans m).trans (s4.trans s5)) ?_;rw[oO v u h];exact dH e5
  ·have h:aI Y e.1 e.2≠some t:=λz=>h (Ca z);exact⟨_,rfl,m,mh v u h⟩
 ·rintro M H2 ⟨L,rfl,l,v⟩;rw[g,Cd (BR _)] at v;have n:=ma (wn:=wn) v;have s:=N.trans l;refine⟨_,rfl,(szl 2),λx r=>?_⟩;refine nw r λH3 j et=>?_;have j:=s.trans j;refine⟨_,rfl,.tup (.of (j _ _ W)) rfl ⟨d4,U,_,aE ("first",t.2.1),rfl,j _ _ O,a1.same j,aO et,a0,eH (e:=("first",t.2.1)) ⟨gQ,J.2.1⟩,(by show 1<=16;decide),_,rfl,?_⟩⟩;rw[if_neg (show ¬ false=true by decide),dQ];refine av (λh=>?_) (λh=>?_)
  ·have h:=Ch h;rw[if_pos h] at n;refine⟨_,rfl,_,rfl,(szl 3),λx r=>?_⟩;refine k x _ (j.trans (Same.new r)) ?_;rw[n];exact dH ae
  ·have h:¬ ((("first":Str),t.2.1):Str × Str)∈wn:=λz=>h (Ca z);rw[if_neg h] at n;refine⟨_,rfl,_,rfl,(szl 3),λx r=>?_⟩;refine k x _ (j.trans (Same.new r)) ?_;rw[n];exact dH ae
def qd:Sp:=λvs H Q _=>∃(q l:_) (ks:Kn) (ts ws wn knot row:_),vs=[.ref q,.str knot,.ref l]/\Rep H (.ref q) (aK ks ts ws wn)/\H l=some (.lst (List.map V.str row))/\ks.length<=100/\∀q' H',Same H H'->Rep H' (.ref q') (aK (ks.map (bg knot row)) ts ws wn)->Q (.ref q') H'
theorem wp (F:Fun K "_law_with" "_law_with" jo f fd) (B:Blt mg):FnOk P w K mg base CX0 1 f fd ["_law_house_here", "_law_knot", "_law_order"] qd := by
 refine F.ok1 ["_law_house_here","_law_knot","_law_order","_law_knots_here"] λnd H Q E hr h=>?_;obtain⟨q,l,ks,ts,ws,wn,c,e,rfl,R,hl,kl,k⟩:=h;refine⟨_,(aa (dS (i:=3) nd rfl rfl (by rfl) (au jo) ["_law_house_here","_law_knot","_law_order","_law_knots_here"] ["_law_name","_law_kids"] [2,1] ["_law_name","_law_kids","_law_order","_law_knot"] rfl (bf K (px K hr (pv 0) ac)) (λ_ _ _ _ _=>(bT (n:=2) K rfl (aH (am (i:=0) (show (["_law_name","_law_kids","_law_order","_law_knot"]:LS).Nodup by decide) rfl (Or.inl rfl)) (aH (am (i:=1) (show (["_law_name","_law_kids","_law_order","_law_knot"]:LS).Nodup by decide) rfl (Or.inl rfl)) bN)))) (λ_ _ _ _ _=>cS) (λ_ _ _ _ _=>(aF (p2 (pv 0) (px K hr (aQ (p2 (pv 1) (cq K B (p1 (pv 2))))) (xO B (p1 (lh (br hr.units) (pv 0) (pv 3) (aB _)))))))))
  (af (ao (aG fT (aF (p1 (cq K B (p1 (pv 3))))) (bZ qN (pv 0) (ce ac) cP))))),?_⟩
 obtain⟨q',a,b,c3,d4,e0,hq,R1,R2,R3,R4⟩:=bd R;cases e0;obtain⟨a',S,e0,ha,rp⟩:=de R1;cases e0;have u:=rp.len;rw[BQ] at u;refine⟨_,rfl,.tup (.of hq) rfl ⟨a,rfl,⟨_,.of ha⟩,?_⟩⟩;refine cy S (λD j g o N=>∃(W U:Option V),o=[W,U,some (.ref l),some (.str c)]/\RepAll N g (((ks.take j).map (bg c e)).map bP)/\Same H N/\H D=none) λD hD=>⟨?_,?_,?_,?_⟩
 ·exact⟨none,none,rfl,.nil,Same.new hD,hD⟩
 ·rintro j g o N _ ⟨W,U,rfl,_,t,_⟩ _;exact .of (t _ _ ha)
 ·rintro j g o N v hv ⟨W, U, rfl, p, t, z⟩ m;obtain⟨s,ta,la,hk,rfl,a1,a8⟩:=eV rp hv;have a9:=(BU.mp hk).1;have M:=p.len;rw[BQ,BQ,Ck] at M;have a3:(ks.take (j+1)).map (bg c e)=(ks.take j).map (bg c e)++[bg c e s]:=by rw[Cf,hk,BX];rfl
  refine xE rfl (.of (t _ _ a1)) ?_;refine⟨_,rfl,_,rfl,_,rfl,l,_,rfl,.of (t _ _ hl),λt1 h1=>ap ⟨(szl 2),λl2 C=>?_⟩⟩;revert C;refine nw h1 λH1 Y y=>?_;intro C;refine nw C λH2 J e2=>?_;have y:=J _ _ y;have r:=Y.trans J;refine⟨_,rfl,_,rfl,.sc rfl ⟨_,rfl,.bl ?_⟩⟩;have I:=r _ _ m;have a6:=p.same r;have O:=r _ _ (t _ _ a8);have a7:=t.trans r;have T:∃x,atI [V.ref la,V.ref t1] (if (if false=true then !decide (V.str s.1=V.str c) else decide (V.str s.1=V.str c))=true then 1 else 0)=some (.ref x)/\H2 x=some (.tup ((bg c e s).2.map V.str)):=by
   by_cases X:s.1=c
   ·rw[if_pos (by rw[if_neg (by decide),X];simp),show bg c e s=(c,e) by unfold bg;rw[if_pos X]];exact⟨t1,rfl,y⟩
   ·rw[if_neg (by rw[if_neg (by decide)];simpa using X),show bg c e s=s by unfold bg;rw[if_neg X]];exact⟨la,rfl,O⟩
  obtain⟨x,hx,a5⟩:=T;refine .lst (.of e2) hx (ap ⟨(szl 2),λt3 h3=>?_⟩);refine nw h3 λH3 A L=>?_;have a2:=a7.trans A;have d:=A _ _ I;have a0:=a6.same A;have a4:=A _ _ a5;refine⟨d,aj (by omega),_,_,rfl,?_,aV a2 z,z⟩;rw[a3,BX];refine RepAll.append (aP (dh d But.upd) a0) (.cons ?_ .nil);exact jz (by rw[fh];exact cB d But.upd L) (cB d But.upd a4)
 ·rintro g o N ⟨W,U,rfl,p,t,z⟩ m;rw[u,Cd (BR _)] at p;refine dA ?_;dsimp only;refine⟨_,rfl,D,g,rfl,.of m,λt1 h1=>ap ⟨(szl 1),λt2 C=>?_⟩⟩;revert C;refine nw h1 λH1 Y y=>?_;intro C;have sA:=t.trans Y;have p:=p.same Y;refine nw C λH2 J e2=>?_;have sB:=sA.trans J;have y:=J _ _ y;have p:=p.same J;refine⟨_,rfl,_,rfl,q,_,rfl,sB _ _ hq,λt3 H3 A L=>?_⟩;have L:H3 t3=some (.tup [V.ref b,V.ref c3,V.ref d4]):=L;refine⟨t2,t3,_,_,rfl,rfl,A _ _ e2,L,(by show 1+3<=sizeLine;decide),λt4 H4 s4 e4=>?_⟩;have G:=A.trans s4;have Z:=sB.trans G;exact k t4 H4 Z (cK e4 (.tup (G _ _ y) (p.same G)) (R2.same Z) (R3.same Z) (R4.same Z))
theorem pQ {es:List (Nat × Nat)}{s n P t L:Nat}{me par:Nat->Nat}{rw:Nat->List Nat}(b:MG.Bf es s n P t L me par rw) {i:Nat}(a:i<L):∃us,rw i=us++[me i]:=by
 rcases DV i with z | z
 ·rw[z,b.rw0,b.at0];exact⟨[],rfl⟩
 ·exact⟨_,b.row i z a⟩
structure Rws (H0 H:Hp) (lr lm:Addr) (c:LS) (L:Nat) (me:Nat->Nat) (rw:Nat->List Nat) (refs:LV):Prop where
 hr:H lr=some (.lst refs)
 rl:refs.length=L
 at_:∀i,i<L->∃a,refs[i]? = some (.ref a)/\H a=some (.lst (List.map V.str ((rw i).map (nmA c))))/\a≠lm/\a≠lr
 hm:H lm=some (.lst (List.map V.str ((List.range L).map λi=>nmA c (me i))))
 s:Same H0 H
 fr:H0 lr=none
 fm:H0 lm=none
 ne:lr≠lm
theorem Rws.same (h:Rws I H J G c L me rw z) (s:Same H H'):Rws I H' J G c L me rw z :=
 ⟨s _ _ h.hr,h.rl,λi b=>let ⟨a,f,e,d⟩:=h.at_ i b;⟨a,f,s _ _ e,d⟩,s _ _ h.hm,h.s.trans s,h.fr,h.fm,h.ne⟩
theorem Rws.add (h:Rws O H J I c L me rw G)
    (s:Same (upd H I (.lst (List.map V.str ((List.range L).map λi=>nmA c (me i))++[V.str (nmA c t)]))) H1) (f:H a=none) (r:H1 a=some (.lst (List.map V.str (row.map (nmA c))))) :
    Rws O (upd H1 J (.lst (G++[V.ref a]))) J I c (L+1) (λi=>if i=L then t else me i) (λi=>if i=L then row else rw i) (G++[V.ref a]):=by
 have k:a≠I:=λz=>by rw[z,h.hm] at f;cases f
 have e:a≠J:=λz=>by rw[z,h.hr] at f;cases f
 refine⟨ae,by rw[Cj,h.rl];rfl,λi m=>?_,?_,?_,h.fr,h.fm,h.ne⟩
 ·by_cases q:i=L
  ·refine⟨a,?_,?_,k,e⟩
   ·rw[q,DB (by rw[h.rl];exact BR _),h.rl,Nat.sub_self];rfl
   ·rw[ag e,if_pos q];exact r
  ·obtain⟨b,u,p,l,n⟩:=h.at_ i (by omega);refine⟨b,?_,?_,l,n⟩
   ·rw[Dm (by rw[h.rl];omega)];exact u
   ·rw[ag n,if_neg q];exact s _ _ (by rw[ag l];exact p)
 ·rw[ag (Ne.symm h.ne),s _ _ ae,List.range_succ,BX,BX];congr 3
  ·refine congrArg _ (List.map_congr_left λi m=>?_);have:=CL.mp m;rw[if_neg (by omega)]
  ·show [V.str (nmA c t)]=[V.str (nmA c (if L=L then t else me L))]
   rw[if_pos rfl]
 ·intro b o d;have g:b≠I:=λz=>by rw[z,h.fm] at d;cases d
  have j:b≠J:=λz=>by rw[z,h.fr] at d;cases d
  rw[ag j];exact s _ _ (by rw[ag g];exact h.s _ _ d)
theorem yP (h:(if false=true then !decide (V.str z=V.str y) else decide (V.str z=V.str y))=true):z=y:=Classical.byContradiction λq=>by rw[if_neg (by decide),Ct (λw=>q (V.str.inj w))] at h;cases h
theorem yz (h:¬ (if false=true then !decide (V.str z=V.str y) else decide (V.str z=V.str y))=true):z≠y:=λq=>h (by rw[if_neg (by decide),q,Ca rfl])
theorem kN {c:LS}(a:c.Nodup) {i:Nat}(b:i<c.length):c.idxOf (nmA c i)=i:=cr a (by unfold nmA;rw[CA,Ci b];rfl)
def qD:Sp:=λvs H Q _=>∃(q us ks ts ws wn:_) (kk:Str × LS) (u v x y:_),vs=[.ref q,.str u,.str v]/\GT H q us ks ts ws wn/\kk∈ks/\u∈us/\v∈us/\aI ks u v=some (kk.1,x,y) /\
 ∀o z H',Same H H'->TieO (cL kk.2 (aL ks ts wn kk.1 kk.2)) (kk.2.idxOf x) (kk.2.idxOf y) o->TrV H' z ks ts wn kk u v o->Q z H'
theorem vI (F:Fun K "_law_ring" "_law_ring" jv f fd) (B:Blt mg) (a6:Cal P w K mg base 2 "_law_part" ["_law_knots_here", "_law_one", "_law_other"] eX) (X:Cal P w K mg base 3 "_law_edges" ["_law_house_here", "_law_knot"] mW) (a4:Cal P w K mg base 3 "_law_step" ["_law_house_here", "_law_knot", "_law_one", "_law_other"] qj):FnOk P w K mg base CX0 4 f fd ["_law_house_here", "_law_one", "_law_other"] qD := by
 refine F.ok1 ["_law_house_here","_law_one","_law_other","_law_knot","_law_child","_law_goal","_law_edges_here","_law_rows","_law_met","_law_at","_law_row","_law_steps","_law_kid"] λnd H Q E hr h=>?_;obtain⟨q,us,ks,ts,ws,wn,c,u,v,x,y,rfl,G,b0,hu,hv,hp,k⟩:=h;have R:=G.rep;have T:=G.tre;have f0:=G.tok;have WX:=G.wx;have k5:=G.tl;have f9:=WnX.ok T WX;obtain⟨g7,f5⟩:=cN T b0 hu hv hp;have b5:=bv T b0;have b9:∀u∈c.2,u∈us:=λu hu=>T.isIn b0 hu;have k0:c.2.length<=60:=by
  have:=fH b5 b9;have:=T.len;omega
 have ex:nmA c.2 (c.2.idxOf x)=x:=bI g7;have ey:nmA c.2 (c.2.idxOf y)=y:=bI f5;have j3:=CF g7;have h0:=CF f5;refine⟨_,(aa (cn (pc a6 hr (ak (px K hr (pv 0) ac) (p2 (pv 1) (pv 2)))) (bT (n:=3) K rfl (aH (am (i:=3) nd rfl (Or.inr rfl)) (aH (am (i:=4) nd rfl (Or.inl rfl)) (aH (am (i:=5) nd rfl (Or.inl rfl)) bN)))))
  (aa (pst 6 nd (pc X hr (p2 (pv 0) (pv 3))))
  (aa (pst 7 nd (aQ (p1 (aQ (p1 (pv 5))))))
  (aa (pst 8 nd (aQ (p1 (pv 5))))
  (aa (pst 9 nd ac)
  (aa (dM PassesOwn.never (ah ff (pv 9) (bh K B (p1 (pv 7))) (aB _)) (aa (bW (i:=10) nd rfl (Or.inr rfl) (px K hr (pv 7) (pv 9)))
  (aa (aJ (ah (br hr.units) (px K hr (pv 10) (fw eA ac)) (pv 4) (aB _)) (aa (dS (i:=11) nd rfl rfl (by rfl) (au jv) ["_law_house_here","_law_one","_law_other","_law_knot","_law_child","_law_goal","_law_edges_here","_law_rows","_law_met","_law_at","_law_row","_law_steps","_law_kid"] ["_law_k"] [0,3,10] ["_law_k","_law_house_here","_law_knot","_law_row"] rfl (dm rfl B.range (p1 (aG nq (bh K B (p1 (pv 10))) ac))) (λ_ _ _ _ _=>(am (i:=0) (show (["_law_k","_law_house_here","_law_knot","_law_row"]:LS).Nodup by decide) rfl (Or.inl rfl))) (λ_ _ _ _ _=>cS) (λ_ _ _ _ _=>(pc a4 hr (ak (pv 1) (ak (pv 2) (p2 (px K hr (pv 3) (pv 0)) (px K hr (pv 3) (aG aM (pv 0) ac))))))))
  (af (ao (aG aM (aQ (p1 (aF (ak aA (p2 (pv 1) (pv 2)))))) (pv 11))))) aw)
  (aa (bc PassesOwn.never rfl (bf K (px K hr (gB K rfl hr.units B (p1 (px K hr (pv 0) ac))) (pv 3))) (am (i:=12) nd rfl (Or.inl rfl)) (af (aJ (PW.pt (ck (ah (bK K hr.units) (aF (p2 (px K hr (pv 10) (fw eA ac)) (pv 12))) (pv 6) (by with_unfolding_all rfl)) (bR (ah (cJ K hr.units) (pv 12) (pv 8) (by with_unfolding_all rfl))))) (aa (bi (cz K (pv 8) (p1 (pv 12))))
  (af (bi (cz K (pv 7) (p1 (aG aM (pv 10) (aQ (p1 (pv 12))))))))) aw)))
  (af (pst 9 nd (aG aM (pv 9) ac)))))))
  (af (ao cm)))))))),?_⟩
 obtain⟨q',a,b,c3,d4,e0,hq,R1,_⟩:=bd R;cases e0;refine⟨_,rfl,.tup (.of hq) rfl ⟨_,rfl,_,rfl,ap ⟨a,us,ks,u,v,rfl,R1,T,hu,hv,λp0 H2 s2 g9=>?_⟩⟩⟩;rw[hp] at g9;obtain⟨t,rfl,ht⟩:=g9;refine⟨t,_,rfl,.of ht,rfl,_,_,rfl,_,_,rfl,_,_,rfl,rfl,?_⟩;dsimp only[aX];have a7:=s2;refine⟨_,rfl,_,rfl,ap ⟨q,us,ks,ts,ws,wn,c.1,c.2,rfl,R.same a7,T,G.ti,λe he=>(f9 e he).2,b0,by omega,G.wl,λle j6 fs H3 s3 k2 h9 i7 _ g2 e9=>?_⟩⟩;have e9:∀x,x∈fs ↔ x∈aL ks ts wn c.1 c.2:=λx=>(e9 x).trans (dO G.words x);have a8:=a7.trans s3;have d3:=cD (wn:=wn) T f0 b0;have i1:PyData.canLayAll0 (fs.map aE)=true:=aS λe he=>⟨T.nm _ (g2 e he).1,T.nm _ (g2 e he).2⟩
 have c2:=gV d3;have mn:=λ{a b:Nat}=>wV (a:=a) (b:=b) b5 d3;generalize cL c.2 (aL ks ts wn c.1 c.2)=es at c2 mn k;refine⟨_,rfl,(szl 1),λl0 j7=>?_⟩;refine nw j7 λH4 s4 e4=>?_;refine ap ⟨(szl 1),λlr e3=>?_⟩;refine nw e3 λH5 s5 e5=>?_;have h4:l0≠lr:=ai e4 e3;refine⟨_,rfl,(szl 1),λlm c4=>?_⟩;refine nw c4 λH6 s6 e6=>?_;have i3:l0≠lm:=ai (s5 _ _ e4) c4;have i4:lr≠lm:=ai e5 c4;have f3:Rws H3 H6 lr lm c.2 1 (λ_=>c.2.idxOf y) (λ_=>[c.2.idxOf y]) [V.ref l0]:=by
  refine⟨s6 _ _ e5,rfl,λi hi=>⟨l0,?_,?_,i3,h4⟩,?_,(s4.trans s5).trans s6,aW s4 e3,aW (s4.trans s5) c4,i4⟩
  ·have:i=0:=by omega
   rw[this];rfl
  ·rw[List.map_singleton,ey];exact s6 _ _ (s5 _ _ e4)
  ·show H6 lm=some (.lst [V.str (nmA c.2 (c.2.idxOf y))]);rw[ey];exact e6
 let f1:Nat->SH:=λm σ Y=>∃(p L:Nat) (C J:Nat->Nat) (M:Nat->List Nat) (g:LV) (b3 U S:Option V),m=c.2.length+1-p/\σ=[some (.ref q),some (.str u),some (.str v),some (.str c.1),some (.str x),some (.str y),some (.ref le),some (.ref lr),some (.ref lm),some (.int (p:Int)),b3,U,S]/\p<=L/\MG.Bf es (c.2.idxOf y) c.2.length p 0 L C J M/\(∀i,i<p->C i≠c.2.idxOf x)/\Rws H3 Y lr lm c.2 L C M g
 refine⟨f1,
  ⟨_,0,1,_,_,_,_,none,none,none,rfl,rfl,by omega,MG.Bf.start h0,λi hi=>by omega,f3⟩,?_⟩
 rintro m σ H7 ⟨p,L,C,J,M,g,b3,U,S,rfl,rfl,k6,Z,a5,A⟩;have Ln:=Z.few;refine⟨_,rfl,_,rfl,_,_,rfl,Or.inl ⟨_,.of A.hr,rfl⟩,.int ⟨_,rfl,?_⟩⟩;rw[A.rl];refine av (λh=>?_) (λh=>?_)
 ·have h:(p:Int)<((L:Nat):Int) := Ch h;have I:p<L:=by omega
  let f2:SH:=λb1 Y=>∃(L:Nat) (C J:Nat->Nat) (M:Nat->List Nat) (g:LV) (b3 U S:Option V),b1=[some (.ref q),some (.str u),some (.str v),some (.str c.1),some (.str x),some (.str y),some (.ref le),some (.ref lr),some (.ref lm),some (.int ((p+1:Nat):Int)),b3,U,S]/\p+1<=L/\MG.Bf es (c.2.idxOf y) c.2.length (p+1) 0 L C J M/\(∀i,i<p+1->C i≠c.2.idxOf x)/\Rws H3 Y lr lm c.2 L C M g
  refine⟨f2,
   λb1 Y ⟨L,C,J,M,g,b3,U,S,h1,h2⟩=>⟨c.2.length+1-(p+1),by omega,p+1,L,C,J,M,g,b3,U,S,rfl,h1,h2⟩,?_⟩
  obtain⟨ra,a3,W,c8,h6⟩:=A.at_ p I;obtain⟨j5,d9⟩:=pQ Z I;have a0:=Z.lt p I;refine⟨_,rfl,_,rfl,.lst (.of A.hr) (bJ a3) ?_⟩;dsimp only[aX];have a9:atI (List.map V.str ((M p).map (nmA c.2))) (-1)=some (.str (nmA c.2 (C p))):=by rw[d9];exact hZ _ _ _
  refine⟨_,rfl,_,rfl,.lst (.of W) a9 ⟨_,rfl,.sc rfl ⟨_,rfl,?_⟩⟩⟩;refine av (λhc=>?_) (λhc=>?_)
  ·have hx := yP hc;have hm:C p=c.2.idxOf x:=by rw[<- hx];exact(kN b5 a0).symm
   obtain⟨k1,b6,b4⟩:=Z.told I;rw[hm] at b6 b4;obtain⟨k4,i2⟩:=hI c2 j3 b6 b4;have k:=k (some (M p)) |> λk z Y s r=>k z Y s ⟨k1,b6,b4⟩ r;have d7:∀z∈(M p).map (nmA c.2),Nm z:=λz hz=>by
    obtain⟨i,hi,rfl⟩:=BY.mp hz;exact T.nm _ (b9 _ (fQ (i2 i hi)))
   have k:=λ(z:V) (Y:Hp) (s0:Same H Y) (r:∃(l:Addr) (g:LV),z=V.ref l/\Y l=some (.lst g)/\RepAll Y g (t3D ((("tie":Str),u,v):T3)::gu ks ts wn c.1 ((M p).map (nmA c.2))))=>k z Y s0 r;have d5:((M p).map (nmA c.2)).length<=60:=by rw[BQ];omega
   unfold gu at k;generalize (M p).map (nmA c.2)=row at W d7 k d5;have c1:(List.map V.str row).length=row.length:=BQ ..;refine⟨_,rfl,_,_,rfl,Or.inl ⟨_,.of W,rfl⟩,_,_,rfl,rfl,?_⟩;refine ap ⟨_,rfl,by rw[c1];omega,by rw[c1];omega,?_⟩;have c9:(row.zip (row.drop 1)).length=row.length-1:=by rw[Db,CV];exact Nat.min_eq_right (Nat.sub_le ..)
   have g3:=A.s;have hn:(((row.length:Nat):Int)-1).toNat=row.length-1:=Int.toNat_sub row.length 1
   let f6:Addr->Nat->LV->SH:=λD i c0 b1 Y=>∃o,b1=[o,some (.ref q),some (.str c.1),some (.ref ra)]/\RepAll Y c0 (((row.zip (row.drop 1)).take i).map λe=>t3D (dj ks ts wn (c.1,e.1,e.2)))/\Same H7 Y/\H7 D=none
   refine hW f6 λD hD=>⟨?_,?_,?_⟩
   ·exact⟨none,rfl,.nil,Same.new hD,hD⟩
   ·rintro i c0 b1 H8 hi ⟨o,rfl,b2,s8,e2⟩ b8;rw[c1,hn] at hi;refine ip ?_;have h7:row[i]? = some (row.getD i ""):=by rw[CA,Ci (by omega)];rfl
    have i5:(row.drop 1)[i]? = some (row.getD (i+1) ""):=by rw[Ei,Nat.add_comm,CA,Ci (by omega)];rfl
    have hz:(row.zip (row.drop 1))[i]? = some (row.getD i "",row.getD (i+1) ""):=by rw[CO];exact⟨h7,i5⟩
    have kt:Kt (c.1,row.getD i "",row.getD (i+1) ""):=⟨qe T b0,d7 _ (fQ (by omega)),d7 _ (fQ (by omega))⟩
    have a1:atI (List.map V.str row) (0+(i:Nat):Int)=some (.str (row.getD i "")):=by rw[Int.zero_add];exact iF (by omega)
    have a2:atI (List.map V.str row) ((0+(i:Nat):Int)+1)=some (.str (row.getD (i+1) "")):=by
     rw[show ((0+(i:Nat):Int)+1)=((i+1:Nat):Int) by omega];exact iF (by omega)
    refine⟨_,rfl,_,rfl,_,rfl,_,rfl,.lst (.of (s8 _ _ W)) a1 ⟨_,rfl,_,rfl,.int (.lst (.of (s8 _ _ W)) a2 (ap ?_))⟩⟩;refine⟨q,us,ks,ts,ws,wn,(c.1,row.getD i "",row.getD (i+1) ""),rfl,R.same ((a8.trans g3).trans s8),T,f9,f0,kt,λx9 H9 s9 r9=>?_⟩;have N:=s9 _ _ b8;have al:=b2.len;rw[BQ,Ck] at al;refine⟨N,aj (Cn (Nat.le_of_eq al) (Cn (Nat.min_le_left ..) (Cn (CP hi) (Cn (Nat.sub_le ..) (Cn d5 (by decide)))))),_,rfl,?_,aV (s8.trans s9) e2,e2⟩;rw[Cf,hz,BX];exact RepAll.append (aP (gh N But.upd) (b2.same s9)) (.cons (gh N But.upd r9) .nil)
   ·rintro c0 b1 H8 ⟨o,rfl,b2,s8,e2⟩ b8;rw[c1,hn,<- c9,Cd (BR _)] at b2;have al:=b2.len;rw[BQ,c9] at al;have i9:=g3.trans s8;dsimp only[aX];refine⟨_,rfl,_,rfl,(szl 3),λt1 j4=>?_⟩;have s9:=Same.new (o:=.tup [V.str "tie",V.str u,V.str v]) j4;have r9:Rep (upd H8 t1 (.tup [V.str "tie",V.str u,V.str v])) (.ref t1) (t3D (((("tie":Str),u,v):T3))):=dH ae;have N:=s9 _ _ b8;have f7:=b2.same s9;have g4:=i9.trans s9;generalize upd H8 t1 (.tup [V.str "tie",V.str u,V.str v])=H9 at r9 N f7 g4 ⊢;refine ap ⟨(szl 1),λl1 e7=>?_⟩;have c5:=Same.new (o:=.lst [V.ref t1]) e7;refine⟨_,rfl,.lst ae (c5 _ _ N) ?_ λpp i8=>?_⟩
    ·rw[al];show 1+(row.length-1)<=sizeLine;exact CP (aj (by omega))
    ·have e1:=Same.new (o:=.lst ([V.ref t1]++c0)) i8;exact k (.ref pp) _ (((a8.trans g4).trans c5).trans e1) ⟨pp,_,rfl,ae,.cons ((r9.same c5).same e1) ((f7.same c5).same e1)⟩
  ·have hx := yz hc;have hm:C p≠c.2.idxOf x:=λz=>hx (by rw[z];exact ex);have g5:=a8.trans A.s;refine⟨_,rfl,.tup (.of (g5 _ _ hq)) rfl (ap (ei (R1.same g5) T λD dk hD i0=>?_))⟩;obtain⟨la,j8,j2⟩:=i0 c b0;have s8:=Same.new (o:=.dK dk) hD;refine⟨_,rfl,.dic (.inl ⟨dk,.inr c.1,.inl ae,rfl,j8.symm⟩) ?_⟩;have b7:=s8 _ _ j2;have d2:=A.same s8;generalize upd H7 D (.dK dk)=H8 at b7 d2 ⊢;refine⟨la,rfl,⟨_,.of b7⟩,?_⟩
   let f4:Nat->SH:=λj σ Y=>∃(L:Nat) (C J:Nat->Nat) (M:Nat->List Nat) (g:LV) (U S:Option V),σ=[some (.ref q),some (.str u),some (.str v),some (.str c.1),some (.str x),some (.str y),some (.ref le),some (.ref lr),some (.ref lm),some (.int (p:Int)),some (.ref ra),U,S]/\p<L/\MG.Bf es (c.2.idxOf y) c.2.length p j L C J M/\(∀i,i<p+1->C i≠c.2.idxOf x)/\g[p]? = some (.ref ra)/\Rws H3 Y lr lm c.2 L C M g/\Y la=some (.tup (List.map V.str c.2))
   refine cu (R:=Q) (xs:=List.map V.str c.2) f4 ?_ ?_ ?_ ?_
   ·exact⟨L,C,J,M,g,U,S,rfl,I,Z,λi hi=>by
       by_cases z:i=p
       ·rw[z];exact hm
       ·exact a5 i (by omega),a3,d2,b7⟩
   ·rintro j σ Y hj ⟨_,_,_,_,_,_,_,rfl,_,_,_,_,_,f8⟩;exact .of f8
   ·rintro _ j z σ H9 hz ⟨L, C, J, M, g, U, S, rfl, I, Z, a5, a3, A, d0⟩;obtain⟨ch,d8,rfl⟩:=bp hz;have hj:=(BU.mp d8).1;have c7:nmA c.2 j=ch:=by unfold nmA;rw[CA,d8];rfl
    have g0:=b9 ch (BW d8);have a0:=Z.lt p I;have g8:=b9 _ (fQ a0);have Ln:=Z.few;obtain⟨k3,d6,W,c8,h6⟩:=A.at_ p I;rw[a3] at d6;cases d6;obtain⟨j5,d9⟩:=pQ Z I;have a9:atI (List.map V.str ((M p).map (nmA c.2))) (-1)=some (.str (nmA c.2 (C p))):=by rw[d9];exact hZ _ _ _
    dsimp only[aX];refine⟨_,rfl,_,rfl,.lst (.of W) a9 ⟨_,rfl,(szl 2),λtt i6=>?_⟩⟩;refine nw i6 λg6 st et=>?_;have A:=A.same st;have O:=st _ _ d0;have W:=st _ _ W;refine⟨_,rfl,.tr (d:=aE (nmA c.2 (C p),ch)) (A.s _ _ h9) (i7.same A.s) (aO et) i1 (eH (e:=(nmA c.2 (C p),ch)) ⟨T.nm _ g8,T.nm _ g0⟩) (by show 1<=16;decide) ⟨_,rfl,?_⟩⟩;rw[if_neg (show ¬ false=true by decide),dQ];have mj:=mn a0 hj;rw[c7,<- e9] at mj;refine av (λhc=>?_) (λhc=>?_)
    ·have j0 := mj.mpr (Ch hc);refine⟨_,rfl,_,rfl,.seq (.inl (.of A.hm)) rfl (cp _) ⟨_,rfl,?_⟩⟩;rw[dU];refine av (λhn=>?_) (λhn=>?_)
     ·have hn:ch ∉ (List.range L).map λi => nmA c.2 (C i) := by simpa using hn
      have h5:∀i,i<L->C i≠j:=λi hi e=>hn (BY.mpr ⟨i,CL.mpr hi,by rw[e];exact c7⟩);have ml:(List.map V.str ((List.range L).map λi=>nmA c.2 (C i))).length=L:=by simp
      refine⟨_,rfl,.inl ⟨rfl,_,.of A.hm⟩,_,rfl,lm,_,_,rfl,rfl,A.hm,by rw[ml];exact aj (by omega),?_⟩;have d1:upd g6 lm (.lst (List.map V.str ((List.range L).map λi=>nmA c.2 (C i))++[V.str ch])) lr=some (.lst g):=by rw[ag A.ne];exact A.hr
      have e8:upd g6 lm (.lst (List.map V.str ((List.range L).map λi=>nmA c.2 (C i))++[V.str ch])) ra=some (.lst (List.map V.str ((M p).map (nmA c.2)))):=by rw[ag c8];exact W
      refine⟨_,rfl,.inl ⟨rfl,_,.of d1⟩,_,rfl,_,rfl,(szl 1),λl1 e7=>?_⟩;subst c7;have a7:=Same.new (o:=.lst [V.str (nmA c.2 j)]) e7;have h3:(List.map V.str ((M p).map (nmA c.2))).length<=1000:=by
       obtain⟨k1,b6,b4⟩:=Z.told I;have:=(hI c2 a0 b6 b4).1;rw[BQ,BQ];omega
      refine .lst (a7 _ _ e8) ae ?_ λl2 g1=>?_
      ·show _+1<=sizeLine;exact aj h3
      ·have a8:=Same.new (o:=.lst (List.map V.str ((M p).map (nmA c.2))++[V.str (nmA c.2 j)])) g1;have c6:=aW a7 g1;have j9:l2≠lm:=λz=>by rw[z,ae] at c6;cases c6
       rw[ag j9] at c6;refine ap ⟨lr,_,_,rfl,rfl,a8 _ _ (a7 _ _ d1),by rw[A.rl];exact aj (by omega),?_⟩;have h8:la≠lm:=aZ O A.hm (by intro z;cases z);have j1:la≠lr:=aZ O A.hr (by intro z;cases z);refine⟨L+1,_,_,_,g++[V.ref l2],_,_,rfl,by omega,Z.add I j0 h5 hj,λi hi=>?_,?_,A.add (t:=j) (row:=M p++[j]) (a7.trans a8) c6 ?_,?_⟩
       ·rw[if_neg (by omega)];exact a5 i hi
       ·rw[Dm (by rw[A.rl];omega)];exact a3
       ·rw[ae,BX,BX];rfl
       ·rw[ag j1];exact a8 _ _ (a7 _ _ (by rw[ag h8];exact O))
     ·have hn:∃i,i<L/\C i=j:=by
         have hn:ch∈(List.range L).map λi=>nmA c.2 (C i):=Classical.byContradiction λz=>hn (by simpa using z);obtain⟨i,hi,e⟩:=BY.mp hn;have hi:=CL.mp hi;refine⟨i,hi,?_⟩;have e:nmA c.2 (C i)=nmA c.2 j:=e.trans c7.symm;rw[<- kN b5 (Z.lt i hi),e,kN b5 hj]
      exact⟨L,C,J,M,g,_,_,rfl,I,Z.skip (.inr hn),a5,a3,A,O⟩
    ·have hc:(C p,j)∉es:=λz=>hc (Ca (mj.mp z));refine cR ?_;exact⟨L,C,J,M,g,_,_,rfl,I,Z.skip (.inl hc),a5,a3,A,O⟩
   ·rintro σ H9 ⟨L,C,J,M,g,U,S,rfl,I,Z,a5,a3,A,d0⟩;rw[BQ] at Z;refine⟨_,rfl,.int ?_⟩;exact⟨L,C,J,M,g,_,_,_,rfl,I,Z.next c2,a5,A⟩
 ·have h:¬ (p:Int)<((L:Nat):Int):=λz=>h (Ca z);have e:p=L:=by omega
  refine k none .non H7 (a8.trans A.s) (Z.shut e λi hi=>a5 i (by omega)) rfl
theorem xu (h:MG.Rch (Tie ts) a b):MG.Rch (Tie (aY ts)) b a:=MG.Rch.closed (S:=λz=>MG.Rch (Tie (aY ts)) z a) MG.Rch.refl (λy z c r=>fX (MG.Rch.refl.step (show Tie (aY ts) z y from mem_flip.mpr r)) c) h
theorem nX {os:LS}{i j:Nat}(h:i<j):(os.take (i+1)).drop j=[]:=Di (by rw[Ck];omega)
def qM:Sp:=λvs H Q _=>∃(q us ks:_) (ts ws wn:Prs) (kk:Str × LS) (u v x y:_),vs=[.ref q,.str u,.str v]/\GT H q us ks ts ws wn/\kk∈ks/\u∈us/\v∈us/\aI ks u v=some (kk.1,x,y)/\¬ MG.Rch (Tie (aL ks ts wn kk.1 kk.2)) y x /\
 ∀q' H',Same H H'->Rep H' (.ref q') (aK (eW ks ts wn kk x y) (ts++[(u,v)]) (ws.filter λe=>decide (e≠(u,v))) wn)->Q (.ref q') H'
theorem vQ (F:Fun K "_law_laid" "_law_laid" iS f fd) (B:Blt mg) (Zz:mg "zip"=none) (W:Cal P w K mg base 2 "_law_part" ["_law_knots_here","_law_one","_law_other"] eX) (O:Cal P w K mg base 3 "_law_edges" ["_law_house_here","_law_knot"] mW) (A:Cal P w K mg base 1 "_law_reached" ["_law_edges_here","_law_one"] jr) (X:Cal P w K mg base 1 "_law_with" ["_law_house_here","_law_knot","_law_order"] qd):FnOk P w K mg base CX0 4 f fd ["_law_house_here","_law_one","_law_other"] qM:=by
 refine F.ok1 ["_law_house_here","_law_one","_law_other","_law_knot","_law_child","_law_goal","_law_kids","_law_region","_law_edges_here","_law_ups","_law_downs","_law_places","_law_place","_law_kid","_law_waiting"] λnd H Q E N h=>?_;obtain⟨q,us,ks,ts,ws,wn,d,u,v,x,y,rfl,G,a5,hu,hv,hp,k3,k⟩:=h;have R:=G.rep;have T:=G.tre;have tl:=G.tl;have n0:=T.few;have k5:=WnX.ok T G.wx;obtain⟨m1,m2⟩:=cN T a5 hu hv hp;have d8:=bv T a5;have c0:=pS T a5;have k0:=cD (wn:=wn) T G.tok a5;have i1:=CF m1;have i2:=CF m2;have nr:¬ eG d.2 (aL ks ts wn d.1 d.2) x y:=λz=>k3 z.2;have a8:=iG d8 nr;have e5:=gq (os:=d.2) (ts:=aL ks ts wn d.1 d.2) (one:=x) (other:=y);obtain⟨z1,a1,a2,a3⟩:=nU d8 m1;obtain⟨z2,c1,c2,c3⟩:=nU d8 m2;refine⟨_,(aa (cn (pc W N (ak (px K N (pv 0) ac) (p2 (pv 1) (pv 2)))) (bT (n:=3) K rfl (aH (am (i:=3) nd rfl (Or.inl rfl)) (aH (am (i:=4) nd rfl (Or.inr rfl)) (aH (am (i:=5) nd rfl (Or.inr rfl)) bN)))))
  (aa (bW (i:=6) nd rfl (Or.inr rfl) (gs K rfl B (p1 (px K N (gB K rfl N.units B (p1 (px K N (pv 0) ac))) (pv 3)))))
  (aa (pst 7 nd (bZ (iD K) (pv 6) (ce (qr K (pv 6) (p1 (pv 5)))) (ce (aG aM (qr K (pv 6) (p1 (pv 4))) ac))))
  (aa (bW (i:=8) nd rfl (Or.inr rfl) (pc O N (p2 (pv 0) (pv 3))))
  (aa (bW (i:=9) nd rfl (Or.inr rfl) (cC (au iS) ["_law_house_here","_law_one","_law_other","_law_knot","_law_child","_law_goal","_law_kids","_law_region","_law_edges_here","_law_ups","_law_downs","_law_places","_law_place","_law_kid","_law_waiting"] [8,5] "_law_kid" ["_law_edges_here","_law_goal"] (be K (pv 7)) (bx (ah (bK K N.units) (pv 0) (pc A N (p2 (pv 1) (pv 2))) (by with_unfolding_all rfl))) (pv 0)))
  (aa (bW (i:=10) nd rfl (Or.inr rfl) (cC (au iS) ["_law_house_here","_law_one","_law_other","_law_knot","_law_child","_law_goal","_law_kids","_law_region","_law_edges_here","_law_ups","_law_downs","_law_places","_law_place","_law_kid","_law_waiting"] [4,8] "_law_kid" ["_law_child","_law_edges_here"] (be K (pv 7)) (bx (ah (bK K N.units) (pv 1) (pc A N (p2 (pv 2) (pv 0))) (by with_unfolding_all rfl))) (pv 0)))
  (aa (dS (i:=11) nd rfl rfl (by rfl) (au iS) ["_law_house_here","_law_one","_law_other","_law_knot","_law_child","_law_goal","_law_kids","_law_region","_law_edges_here","_law_ups","_law_downs","_law_places","_law_place","_law_kid","_law_waiting"] ["_law_k"] [6,9,10] ["_law_k","_law_kids","_law_ups","_law_downs"] rfl (dm rfl B.range (p1 (bh K B (p1 (pv 6))))) (λ_ _ _ _ _=>(am (i:=0) (show (["_law_k","_law_kids","_law_ups","_law_downs"]:LS).Nodup by decide) rfl (Or.inl rfl))) (λ_ _ _ _ _=>(bx (ah (bK K N.units) (px K N (pv 1) (pv 0)) (aG aM (pv 2) (pv 3)) (by with_unfolding_all rfl)))) (λ_ _ _ _ _=>(pv 0)))
  (aa (bc PassesOwn.never rfl (yd K rfl Zz (p2 (pv 11) (aG aM (pv 10) (pv 9)))) (bT (n:=2) K rfl (aH (am (i:=12) nd rfl (Or.inl rfl)) (aH (am (i:=13) nd rfl (Or.inl rfl)) bN))) (af (cn (pv 13) (cO (pv 6) (pv 12) (dy N.units)))))
  (aa (pst 0 nd (pc X N (ak (pv 0) (p2 (pv 3) (pv 6)))))
  (aa (pst 14 nd (cq K B (p1 (cC (au iS) ["_law_house_here","_law_one","_law_other","_law_knot","_law_child","_law_goal","_law_kids","_law_region","_law_edges_here","_law_ups","_law_downs","_law_places","_law_place","_law_kid","_law_waiting"] [1,2] "_law_tie" ["_law_one","_law_other"] (bf K (px K N (pv 0) ac)) (bx (ah (cF N.units) (pv 0) (aF (p2 (pv 1) (pv 2))) (aB _))) (pv 0)))))
  (af (ao (aF (ak (px K N (pv 0) ac) (ak (aG fT (px K N (pv 0) ac) (aF (p1 (aF (p2 (pv 1) (pv 2)))))) (p2 (pv 14) (px K N (pv 0) ac))))))))))))))))),?_⟩
 obtain⟨q',a,b,n9,d4,e0,hq,R1,R2,R3,R4⟩:=bd R;cases e0;refine⟨_,rfl,.tup (.of hq) rfl ⟨_,rfl,_,rfl,ap ⟨a,us,ks,u,v,rfl,R1,T,hu,hv,λp0 H1 s1 i9=>?_⟩⟩⟩;rw[hp] at i9;obtain⟨t,rfl,ht⟩:=i9;refine⟨t,_,rfl,.of ht,rfl,_,_,rfl,_,_,rfl,_,_,rfl,rfl,?_⟩;dsimp only[aX];refine⟨_,rfl,.tup (.of (s1 _ _ hq)) rfl (ap (ei (R1.same s1) T λD dk hD k9=>?_))⟩;obtain⟨la,m0,l7⟩:=k9 d a5;have s2:=Same.new (o:=.dK dk) hD;refine⟨_,rfl,.dic (.inl ⟨dk,.inr d.1,.inl ae,rfl,m0.symm⟩) ?_⟩;have d0:=s2 _ _ l7;have e9:=s1.trans s2;generalize upd H1 D (.dK dk)=H2 at d0 s2 e9 ⊢;refine ap ⟨_,rfl,.seq (.inr (.of d0)) λlk h8=>?_⟩;refine nw h8 λH3 s3 e3=>?_;have h2:H lk=none:=aW e9 h8;have m4:=e9.trans s3;dsimp only[aX];refine⟨_,rfl,_,rfl,.inl ⟨rfl,_,.of e3⟩,_,rfl,lk,_,_,_,z2,rfl,rfl,e3,rfl,cp _,c1,c2,c3,_,rfl,_,rfl,.inl ⟨rfl,_,.of e3⟩,_,rfl,lk,_,_,_,z1,rfl,rfl,e3,rfl,cp _,a1,a2,a3,.int ⟨_,rfl,.lst (.of e3) λls f5=>?_⟩⟩;obtain⟨bt,Z⟩:∃bt,bt=(d.2.take (d.2.idxOf x+1)).drop (d.2.idxOf y):=⟨_,rfl⟩
 have g4:cM (List.map V.str d.2) (some ((d.2.idxOf y:Nat):Int)) (some (((d.2.idxOf x:Nat):Int)+1))=List.map V.str bt:=by rw[show ((d.2.idxOf x:Nat):Int)+1=((d.2.idxOf x+1:Nat):Int) by omega,nG _ _ _ (by rw[BQ];omega),Z,List.map_drop,DW]
 rw[g4];refine nw f5 λH4 s4 e4=>?_;have n1:lk≠ls:=ai e3 f5;have n4:=s4 _ _ e3;have h4:=m4.trans s4;have n8:bt.length<=60:=by rw[Z,CV,Ck];omega
 have i4:∀z∈bt,z∈d.2:=λz hz=>by rw[Z] at hz;exact Dq (Dk hz)
 refine⟨_,rfl,_,rfl,ap ⟨q,us,ks,ts,ws,wn,d.1,d.2,rfl,R.same h4,T,G.ti,λe he=>(k5 e he).2,a5,by omega,G.wl,λle b1 fs H5 s5 _ g1 g8 _ n6 b5=>?_⟩⟩;have b5:∀x,x∈fs ↔ x∈aL ks ts wn d.1 d.2:=λx=>(b5 x).trans (dO G.words x);have f9:∀e∈fs,e.1∈d.2/\e.2∈d.2:=λe he=>k0 e ((b5 e).mp he);have b6:∀ {a b:Str},MG.Rch (Tie fs) a b ↔ MG.Rch (Tie (aL ks ts wn d.1 d.2)) a b:=λ{a b}=>⟨iO λx hx=>(b5 x).mp hx,iO λx hx=>(b5 x).mpr hx⟩
 have k6:=h4.trans s5;have f0:=s5 _ _ e4;dsimp only[aX];unfold eW at k;generalize aL ks ts wn d.1 d.2=m at b6 nr a8 e5 k;refine⟨_,rfl,ls,rfl,⟨_,.of f0⟩,?_⟩
 let f4:Addr->Nat->LV->SH:=λD i l r M=>∃o,r=[o,some (.ref le),some (.str y)]/\l=List.map V.str ((bt.take i).filter λz=>rB m y z)/\Same H5 M/\H5 D=none
 refine bU (List.map V.str bt) f4 λDu h5=>⟨?_,?_,?_,?_⟩
 ·exact⟨none,rfl,rfl,Same.new h5,h5⟩
 ·rintro i l r M _ ⟨o,rfl,_,J,_⟩ _;exact .of (J _ _ f0)
 ·rintro i l r M x' hx ⟨o,rfl,rfl,J,I⟩ g;obtain⟨z,hz,rfl⟩:=bp hx;have h6:=(BU.mp hz).1;have fl:=CG (λz=>rB m y z) (bt.take i);rw[Ck] at fl;refine⟨_,rfl,_,rfl,_,rfl,ap ⟨le,b1,d.2,fs,y,rfl,J _ _ g1,g8.same J,f9,m2,c0,λlr S H6 s6 _ e7 L _=>?_⟩⟩;have b0:=s6 _ _ g;refine .seq (.inl (.of e7)) rfl (cp _) ⟨_,rfl,?_⟩;rw[dU];refine av (λh=>?_) (λh=>?_)
  ·have h:decide (z∈S)=true:=h;have h:rB m y z=true:=rB_iff.mpr (b6.mp ((L z).mp (Ch h)));exact⟨_,rfl,b0,by rw[BQ];exact aj (by omega),_,rfl,by rw[cT _ _ _ _ hz,if_pos h,BX];rfl,aV (J.trans s6) I,I⟩
  ·have h:¬ decide (z∈S)=true:=h;have h:¬ rB m y z=true:=λw=>h (Ca ((L z).mpr (b6.mpr (rB_iff.mp w))));exact⟨b0,_,rfl,by rw[cT _ _ _ _ hz,if_neg h,CB],J.trans s6,I⟩
 rintro l r H6 ⟨o,rfl,rfl,s6,m7⟩ hU;rw[BQ,Cd (BR _)] at hU;have eF:(bt.filter λz=>rB m y z)=bz d.2 m x y:=by
  unfold bz;by_cases Y:d.2.idxOf x<d.2.idxOf y
  ·rw[if_pos Y,Z,nX Y];rfl
  ·rw[if_neg Y,<- Z]
 rw[eF] at hU;have g0:=s6 _ _ f0;have g2:=s6 _ _ g1;have i5:=g8.same s6;dsimp only[aX];refine⟨_,rfl,ls,rfl,⟨_,.of g0⟩,?_⟩
 let f2:Addr->Nat->LV->SH:=λD i l r M=>∃o,r=[o,some (.str x),some (.ref le)]/\l=List.map V.str ((bt.take i).filter λz=>rB (aY m) x z)/\Same H6 M/\H6 D=none
 refine bU (List.map V.str bt) f2 λDd i6=>⟨?_,?_,?_,?_⟩
 ·exact⟨none,rfl,rfl,Same.new i6,i6⟩
 ·rintro i l r M _ ⟨o,rfl,_,J,_⟩ _;exact .of (J _ _ g0)
 ·rintro i l r M x' hx ⟨o,rfl,rfl,J,I⟩ g;obtain⟨z,hz,rfl⟩:=bp hx;have h6:=(BU.mp hz).1;have fl:=CG (λz=>rB (aY m) x z) (bt.take i);rw[Ck] at fl;refine⟨_,rfl,_,rfl,_,rfl,ap ⟨le,b1,d.2,fs,z,rfl,J _ _ g2,i5.same J,f9,i4 z (BW hz),c0,λlr S H7 s7 _ e7 L _=>?_⟩⟩;have b3:=s7 _ _ g;refine .seq (.inl (.of e7)) rfl (cp _) ⟨_,rfl,?_⟩;rw[dU];refine av (λh=>?_) (λh=>?_)
  ·have h:decide (x∈S)=true:=h;have h:rB (aY m) x z=true:=rB_iff.mpr (xu (b6.mp ((L x).mp (Ch h))));exact⟨_,rfl,b3,by rw[BQ];exact aj (by omega),_,rfl,by rw[cT _ _ _ _ hz,if_pos h,BX];rfl,aV (J.trans s7) I,I⟩
  ·have h:¬ decide (x∈S)=true:=h;have h:¬ rB (aY m) x z=true:=λw=>h (Ca ((L x).mpr (b6.mpr (jj (rB_iff.mp w)))));exact⟨b3,_,rfl,by rw[cT _ _ _ _ hz,if_neg h,CB],J.trans s7,I⟩
 rintro l r H7 ⟨o,rfl,rfl,s7,m6⟩ b9;rw[BQ,Cd (BR _)] at b9;have eB:(bt.filter λz=>rB (aY m) x z)=dueB d.2 m x y:=by
  unfold dueB;by_cases Y:d.2.idxOf x<d.2.idxOf y
  ·rw[if_pos Y,Z,nX Y];rfl
  ·rw[if_neg Y,<- Z]
 rw[eB] at b9;have i7:=s7 _ _ hU;have a0:=((s4.trans s5).trans (s6.trans s7)) _ _ e3;have l0:=(k6.trans s6).trans s7;dsimp only[aX];have al:(dueB d.2 m x y++bz d.2 m x y).length<=d.2.length:=a8.length_le_of_subset e5;have j2:=al;rw[Cj] at j2;have c5:∀z,z∈bz d.2 m x y++dueB d.2 m x y ↔ z∈dueB d.2 m x y++bz d.2 m x y:=λz=>by rw[Cb,Cb];exact or_comm
 refine⟨_,rfl,_,_,rfl,Or.inl ⟨_,.of a0,rfl⟩,?_⟩;rw[BQ];refine⟨_,rfl,by omega,by omega,?_⟩
 let f8:Addr->Nat->LV->SH:=λD i l r M=>∃o,r=[o,some (.ref lk),some (.ref Du),some (.ref Dd)]/\l=cV ((List.range i).filter λk=>decide (d.2.getD k ""∈dueB d.2 m x y++bz d.2 m x y))/\Same H7 M/\H7 D=none
 refine hW f8 λDp b7=>⟨?_,?_,?_⟩
 ·exact⟨none,rfl,rfl,Same.new b7,b7⟩
 ·rintro i l r M hi ⟨o,rfl,rfl,J,I⟩ g;have hi:i<d.2.length:=by simpa using hi
  have fl:=CG (λk=>decide (d.2.getD k ""∈dueB d.2 m x y++bz d.2 m x y)) (List.range i);rw[Ee] at fl;have c7:=ww (λk=>decide (d.2.getD k ""∈dueB d.2 m x y++bz d.2 m x y)) i;refine⟨_,rfl,_,rfl,.lst (.of (J _ _ a0)) (show atI _ (0+(i:Nat):Int)=some (.str (d.2.getD i "")) from by rw[Int.zero_add];exact iF hi) ⟨_,rfl,_,rfl,.lst (J _ _ i7) (J _ _ b9) (by rw[BQ,BQ];exact CP (aj (by omega))) λlz j0=>?_⟩⟩;rw[<- BX];have sz:=Same.new (o:=.lst (List.map V.str (bz d.2 m x y++dueB d.2 m x y))) j0;have a6:=sz _ _ g;refine .seq (.inl (.of ae)) rfl (cp _) ⟨_,rfl,?_⟩;rw[dU];refine av (λh=>?_) (λh=>?_)
  ·have h:decide (d.2.getD i ""∈bz d.2 m x y++dueB d.2 m x y)=true:=h;have h:decide (d.2.getD i ""∈dueB d.2 m x y++bz d.2 m x y)=true:=Ca ((c5 _).mp (Ch h));refine⟨_,rfl,a6,by unfold cV;rw[BQ];exact aj (by omega),_,rfl,?_,aV (J.trans sz) I,I⟩;rw[c7,if_pos h];unfold cV;rw[BX];show _++[V.int (0+(i:Nat):Int)]=_;rw[Int.zero_add];rfl
  ·have h:¬ decide (d.2.getD i ""∈bz d.2 m x y++dueB d.2 m x y)=true:=h;have h:¬ decide (d.2.getD i ""∈dueB d.2 m x y++bz d.2 m x y)=true:=λw=>h (Ca ((c5 _).mpr (Ch w)));exact⟨a6,_,rfl,by rw[c7,if_neg h,CB],J.trans sz,I⟩
 rintro l r H8 ⟨o,rfl,rfl,s8,m9⟩ g;obtain⟨C,eC⟩:∃C,C=dueB d.2 m x y++bz d.2 m x y:=⟨_,rfl⟩
 have j6:H8 Dp=some (.lst (cV (plc d.2 C))):=by rw[eC];unfold plc;simpa using g
 have k2:=s8 _ _ i7;have h9:=s8 _ _ b9;have c9:=s8 _ _ a0;have l9:=l0.trans s8;dsimp only[aX];refine⟨_,rfl,_,rfl,_,rfl,.lst h9 k2 (by rw[BQ,BQ];exact CP (aj (by omega))) λlc d9=>?_⟩;rw[<- BX,<- eC];refine nw d9 λH9 s9 d1=>?_;have g9:=s9 _ _ c9;have d5:=s9 _ _ j6;have j3:lc≠lk:=λz=>by rw[z,c9] at d9;cases d9
 have m3:Dp≠lk:=λz=>by rw[z,a0] at b7;cases b7
 have k7:=l9.trans s9;rw[<- eC] at a8 e5 al;have zl:((cV (plc d.2 C)).zip (List.map V.str C))=((plc d.2 C).zip C).map λp=>(V.int ((p.1:Nat):Int),V.str p.2):=by
  unfold cV;rw[List.zip_map];rfl
 refine ap ⟨Dp,lc,_,_,rfl,.of d5,.of d1,?_⟩
 let f7:Nat->SH:=λi σ M=>∃o12 o13,σ=[some (.ref q),some (.str u),some (.str v),some (.str d.1),some (.str x),some (.str y),some (.ref lk),some (.ref ls),some (.ref le),some (.ref Du),some (.ref Dd),some (.ref Dp),o12,o13,none]/\M lk=some (.lst (List.map V.str (bQ d.2 (((plc d.2 C).zip C).take i))))/\But lk H9 M
 refine qb (xs:=cV (plc d.2 C)) (ys:=List.map V.str C) f7 ?_ ?_ ?_ ?_
 ·exact⟨none,none,rfl,g9,But.refl lk H9⟩
 ·rintro i σ M hi ⟨o5,o6,rfl,_,b'⟩;exact⟨.of (b' _ _ m3 d5),.of (b' _ _ j3 d1)⟩
 ·rintro i x' y' pp σ e8 a7 ⟨o5,o6,rfl,g5,b4⟩ h0;rw[zl,Ce] at a7;obtain⟨e,he,g6⟩:∃e,((plc d.2 C).zip C)[i]? = some e/\(V.int ((e.1:Nat):Int),V.str e.2)=(x',y'):=by
   cases z:((plc d.2 C).zip C)[i]? with
   | none=>rw[z] at a7;cases a7
   | some e=>rw[z] at a7;exact⟨e,rfl,BV a7⟩
  have e1:x'=V.int ((e.1:Nat):Int):=(congrArg Prod.fst g6).symm;have e2:y'=V.str e.2:=(congrArg Prod.snd g6).symm;subst e1 e2;have ek:e.1<d.2.length:=by
   have:=CO.mp he;exact fj (BW this.1)
  have m5:lk≠pp:=ai g5 h0;refine⟨pp,_,rfl,.of ae,rfl,_,_,rfl,_,_,rfl,rfl,?_⟩;refine⟨_,rfl,_,rfl,_,rfl,.lst (j:=e.1) (by rw[ag m5];exact g5) (by rw[BQ,dw];exact vq ek) ?_⟩;refine⟨_,_,rfl,?_,?_⟩
  ·rw[ae,Cf,he];show _=some (HO.lst (List.map V.str (bQ d.2 (((plc d.2 C).zip C).take i++[e]))));rw[jd,List.map_set]
  ·intro c o hc hh;have i0:=b4 c o hc hh;rw[ag hc,ag (ai i0 h0)];exact i0
 ·rintro σ e8 ⟨o5, o6, rfl, hf, b4⟩;rw[zl,BQ,Cd (BR _)] at hf;have hf:e8 lk=some (.lst (List.map V.str (eZ d.2 m x y))):=by rw[hf,eC];rfl
  have sA:Same H e8:=λc o hc=>b4 c o (ai hc h2) (k7 _ _ hc);refine⟨_,rfl,_,rfl,_,rfl,ap ⟨q,lk,ks,ts,ws,wn,d.1,eZ d.2 m x y,rfl,R.same sA,hf,by omega,λq2 f6 k4 j7=>?_⟩⟩;have sB:=sA.trans k4;dsimp only[aX];obtain⟨n3,a2,b2,k1,d2,e0,b8,S1,S2,S3,S4⟩:=bd j7;cases e0;obtain⟨o2,j8,e0,l8,c8⟩:=ba S2;cases e0;obtain⟨m8,l2,e0,h7,c4⟩:=ba S3;cases e0;have l6:=c8.len;have i8:=c4.len;rw[BQ] at l6 i8;have j1:∀e∈ws,Nm e.1/\Nm e.2:=λe he=>⟨T.nm _ (G.pw e he).1,T.nm _ (G.pw e he).2⟩
  refine⟨_,rfl,.tup (.of b8) rfl ⟨k1,rfl,⟨_,.of h7⟩,?_⟩⟩;refine cy l2 (λD j l r M=>∃(o0:Option V),r=[o0,some (.str u),some (.str v)]/\RepAll M l (((ws.take j).filter λe=>decide (e≠(u,v))).map aE)/\l.length<=j/\Same f6 M/\f6 D=none) λDa g7=>⟨?_,?_,?_,?_⟩
  ·exact⟨none,rfl,.nil,BR _,Same.new g7,g7⟩
  ·rintro j l r M _ ⟨o0,rfl,_,_,J,_⟩ _;exact .of (J _ _ h7)
  ·rintro j l r M z hz ⟨o0,rfl,U,al,J,I⟩ g;obtain⟨e,ta,he,rfl,f3⟩:=cW c4 hz;have h6:=(BU.mp he).1;have en:=j1 e (BW he);have m:((ws.take (j+1)).filter λe=>decide (e≠(u,v)))=((ws.take j).filter λe=>decide (e≠(u,v)))++(if decide (e≠(u,v))=true then [e] else []):=by
    rw[Cf,he,CH];congr 1;show List.filter _ [e]=_;rw[List.filter_cons,List.filter_nil]
   dsimp only[aX];refine⟨_,rfl,_,rfl,_,rfl,(szl 2),λtt e6=>?_⟩;have st:=Same.new (o:=.tup [V.str u,V.str v]) e6;have rt:Rep (upd M tt (.tup [V.str u,V.str v])) (.ref tt) (aE (u,v)):=aO (s:=u) (t:=v) ae;have g:=st _ _ g;have U:=U.same st;have J:=J.trans st;generalize upd M tt (.tup [V.str u,V.str v])=d7 at rt g U J ⊢;have re:=aO (s:=e.1) (t:=e.2) (J _ _ f3);refine .tr re rt (gU en.1 en.2) (gU (T.nm _ hu) (T.nm _ hv)) ⟨_,rfl,av (λh=>?_) (λh=>?_)⟩
   ·rw[if_pos rfl,eM] at h;have l5:e≠(u,v):=λz=>by rw[z,Ca (show (((u,v):Str × Str).1,((u,v):Str × Str).2)=(u,v) from rfl)] at h;cases h
    rw[if_pos (Ca l5)] at m;refine⟨_,rfl,g,(by exact aj (by omega)),_,rfl,?_,by rw[Cj];show _+1<=_;omega,aV J I,I⟩;rw[m,BX];exact RepAll.append (aP (aU g But.upd) U) (.cons (aO (s:=e.1) (t:=e.2) (cB g But.upd (J _ _ f3))) .nil)
   ·rw[if_pos rfl,eM] at h;have j9:e=(u,v):=Classical.byContradiction λz=>h (by rw[Ct (show (e.1,e.2)≠(u,v) from z)];rfl);rw[if_neg (by simpa using j9),CB] at m;exact⟨g,_,rfl,by rw[m];exact U,by omega,J,I⟩
  rintro l r d7 ⟨o0,rfl,U,al,g3,I⟩ g;rw[i8,Cd (BR _)] at U;refine ap ⟨Da,l,rfl,.of g,λtw j4=>?_⟩;have c6:=Same.new (o:=.tup l) j4;have f1:Rep (upd d7 tw (.tup l)) (.ref tw) (bX (ws.filter λe=>decide (e≠(u,v)))):=.tup ae (U.same c6);have sC:=g3.trans c6;generalize upd d7 tw (.tup l)=n7 at f1 sC ⊢;dsimp only[aX];refine⟨_,rfl,.tup (.of (sC _ _ b8)) rfl ⟨_,rfl,.tup (.of (sC _ _ b8)) rfl ⟨_,rfl,_,rfl,(szl 2),λtt e6=>?_⟩⟩⟩;refine nw e6 λn5 d3 l3=>?_;have sD:=sC.trans d3;have l1:=f1.same d3;refine ap ⟨(szl 1),λt1 h1=>?_⟩;refine nw h1 λo1 a9 k8=>?_;have sE:=sD.trans a9;have l4:=l1.same a9;have i3:=a9 _ _ l3;have sz:200000<sizeLine:=by decide
  refine⟨b2,t1,_,_,rfl,rfl,sE _ _ l8,k8,(by show j8.length+1<=_;omega),λt2 n2 d6 j5=>?_⟩;have sF:=sE.trans d6;refine⟨_,rfl,_,rfl,.tup (.of (sF _ _ b8)) rfl (ap ⟨(szl 4),λt3 h3=>?_⟩)⟩;have a4:=Same.new (o:=.tup [V.ref a2,V.ref t2,V.ref tw,V.ref d2]) h3;have sG:=sF.trans a4;refine k t3 _ (sB.trans sG) (cK ae (S1.same sG) (.tup (a4 _ _ j5) ?_) ((l4.same d6).same a4) (S4.same sG));rw[BX];exact RepAll.append (c8.same sG) (.cons (aO (s:=u) (t:=v) (a4 _ _ (d6 _ _ i3))) .nil)
theorem yj {c:LS}{z:Str}(a:z ∈ c) (h:∀v ∈ c, v ≠ z -> c.idxOf z<c.idxOf v):c.head? = some z := by
 cases c with
 | nil=>cases a
 | cons w r =>
  by_cases q:w=z
  ·rw[q];rfl
  ·have:=h w (by simp) q;rw[List.idxOf_cons_self] at this;exact absurd this (Nat.not_lt_zero _)
theorem yR {c:LS}(d:c.Nodup) {z:Str}(b:z∈c) (h:∀v∈c,v≠z->c.idxOf v<c.idxOf z):c.getLast? = some z:=by
 have f:=List.length_pos_of_mem b;rw[List.getLast?_eq_getElem?];obtain⟨w,a⟩:∃w,c[c.length-1]? = some w:=⟨_,Ci (by omega)⟩
 by_cases q:w=z
 ·rw[a,q]
 ·have e:=h w (BW a) q;rw[cr d a] at e;have:=CF b;omega
section
variable {H H':Hp}{q q':Addr}{us:LS}{ks:Kn}{ts ws wn:Prs}{kk:Str × LS}{u v x y:Str}
theorem GT.laid (G:GT H q us ks ts ws wn) (i:kk ∈ ks) (S:u ∈ us) (V:v ∈ us) (J:aI ks u v=some (kk.1, x, y)) (L:¬ MG.Rch (Tie (aL ks ts wn kk.1 kk.2)) y x) (Z:ts.length+ws.length<100)
    (R:Rep H' (.ref q') (aK (eW ks ts wn kk x y) (ts++[(u,v)]) ws wn)):GT H' q' us (eW ks ts wn kk x y) (ts++[(u,v)]) ws wn:=by
 have T:=G.tre;obtain⟨W,U⟩:=cN T i S V J;have s:=bv T i;have X:¬ eG kk.2 (aL ks ts wn kk.1 kk.2) x y:=λz=>L z.2;have m:(eZ kk.2 (aL ks ts wn kk.1 kk.2) x y).Perm kk.2:=rF s X;have I:=wa s (G.fwd i) W U X;have Y:=λz=>dO (ks:=ks) (ts:=ts) (knot:=kk.1) (c:=kk.2) G.words z;unfold eW at R ⊢;generalize eZ kk.2 (aL ks ts wn kk.1 kk.2) x y=g at m I R ⊢;have t:g.Nodup:=m.nodup_iff.mpr s;have C:∀a b,aI (ks.map (bg kk.1 g)) a b=aI ks a b:=uL T i m;refine⟨R,yQ T i m,λe d=>?_,⟨G.wx.nd,λe d=>?_⟩,G.pw,λe d k' P a b j=>?_,λe d=>?_,by rw[Cj];show _+1+_<=_;omega,G.wl⟩
 ·rcases Cb.mp d with d | d
  ·exact⟨(G.ti e d).1,(G.ti e d).2.1,by rw[C];exact(G.ti e d).2.2⟩
  ·rw[Cr.mp d];exact⟨S,V,by rw[C,J];rfl⟩
 ·obtain⟨k, n, f⟩ := G.wx.at_ e d;refine⟨bg kk.1 g k,BY.mpr ⟨k,n,rfl⟩,?_⟩;unfold bg
  split
  ·rename_i h
   have O:=gZ T i n h;subst O;have F:e.2∈g:=m.mem_iff.mpr f.mem;have o:∀w∈g,w≠e.2->(if e.1="first" then (e.2,w) else (w,e.2))∈aL ks ts wn k.1 k.2:=λw p l=>(Y _).mp (.inr ⟨e,d,f.mem,rowE_mem.mpr ⟨w,m.mem_iff.mp p,l,rfl⟩⟩);rcases f with⟨D,f2⟩ | ⟨D,f2⟩
   ·refine Or.inl ⟨D,yj F λw p l=>?_⟩;have B:=o w p l;rw[if_pos D] at B;exact I _ (CM _ B)
   ·refine Or.inr ⟨D,yR t F λw p l=>?_⟩;have B:=o w p l;rw[if_neg (λz=>absurd (z.symm.trans D) (by decide))] at B;exact I _ (CM _ B)
  ·exact f
 ·obtain⟨k, n, rfl⟩ := BY.mp P;rw[C,fh] at j;by_cases h:k.1=kk.1
  ·have O := gZ T i n h;subst O;have Q:(bg k.1 g k).2=g:=by unfold bg;rw[if_pos rfl]
   rw[Q];have A:(a,b)∈aL ks ts wn k.1 k.2++[(x,y)]:=by
    rcases Cb.mp d with d | d
    ·refine CM _ ((Y _).mp (.inl ⟨e,d,?_⟩));unfold cE;rw[j];show (if k.1=k.1 then some (a,b) else none)=_;rw[if_pos rfl]
    ·rw[Cr.mp d,J] at j;cases j;simp
   have E:a∈g/\b∈g:=by
    rcases Cb.mp A with A | A
    ·have:=cD (wn:=wn) T G.tok i _ A;exact⟨m.mem_iff.mpr this.1,m.mem_iff.mpr this.2⟩
    ·cases Cr.mp A;exact⟨m.mem_iff.mpr W,m.mem_iff.mpr U⟩
   rw[<- tM t E.1,<- tM t E.2];exact I _ A
  ·have Q:bg kk.1 g k=k:=by unfold bg;rw[if_neg h]
   rw[Q];rcases Cb.mp d with d | d
   ·exact G.tf e d k n a b j
   ·rw[Cr.mp d,J] at j;exact absurd (congrArg Prod.fst (BV j)).symm h
 ·obtain⟨k,n,a,b,j,r⟩:=G.wr e d;refine⟨bg kk.1 g k,BY.mpr ⟨k,n,rfl⟩,a,b,by rw[C,fh];exact j,iO (λz hz=>?_) r⟩;rw[fh];refine(dO G.words z).mp ?_;rcases (dO G.words z).mpr hz with⟨f,N,K⟩ | ⟨f,N,M,K⟩
  ·refine .inl ⟨f,CM _ N,?_⟩;unfold cE at K ⊢;rw[C];exact K
  ·obtain⟨w,p,l,rfl⟩:=rowE_mem.mp K;exact .inr ⟨f,N,(gY T i n m f.2).mpr M,rowE_mem.mpr ⟨w,(gY T i n m w).mpr p,l,rfl⟩⟩
theorem GT.tie (G:GT H q us ks ts ws wn) (a:kk ∈ ks) (g:u ∈ us) (f:v ∈ us) (d:aI ks u v=some (kk.1, x, y)) (m:TieO (cL kk.2 (aL ks ts wn kk.1 kk.2)) (kk.2.idxOf x) (kk.2.idxOf y) o) (c:ts.length+ws.length<100)
    (R:Rep H' (.ref q') (aK (kM ks ts ws wn kk u v x y o).1 (kM ks ts ws wn kk u v x y o).2.1 (kM ks ts ws wn kk u v x y o).2.2 wn)):GT H' q' us (kM ks ts ws wn kk u v x y o).1 (kM ks ts ws wn kk u v x y o).2.1 (kM ks ts ws wn kk u v x y o).2.2 wn:=by
 have T:=G.tre;obtain⟨k,i⟩:=cN T a g f d;have h:=gg (bv T a) (λs l=>T.nm _ (T.isIn a l)) (cD (wn:=wn) T G.tok a) k i m;cases o with
 | none=>exact G.laid a g f d (h.mp rfl) c R
 | some w =>
  have j:MG.Rch (Tie (aL ks ts wn kk.1 kk.2)) y x:=Classical.byContradiction λz=>by have:=h.mpr z;cases this
  refine⟨R,T,G.ti,G.wx,λe b=>?_,G.tf,λe b=>?_,by show ts.length+(ws++[(u,v)]).length<=_;rw[Cj];show ts.length+(ws.length+1)<=_;omega,G.wl⟩
  ·rcases Cb.mp b with b | b
   ·exact G.pw e b
   ·rw[Cr.mp b];exact⟨g,f⟩
  ·rcases Cb.mp b with b | b
   ·exact G.wr e b
   ·rw[Cr.mp b];exact⟨kk,a,x,y,d,j⟩
end
theorem zt (K:W.Frag) (he:PE X e ta) (a:attributeBase e f X.env (eval e X.env)=eval e X.env) (b:autoParam (X.K=K) aR9):PE X (.Attribute e f pos) (xM K ta f):=by
 subst b;exact yx he a
def TellV (H:Hp) (z:V) (ks:Kn) (ts ws wn:Prs) (kk:Str × LS) (u v x y:Str):Option (List Nat)->Prop
 | none=>∃q',z=.ref q'/\Rep H (.ref q') (aK (eW ks ts wn kk x y) (ts++[(u,v)]) ws wn)
 | some wy=>∃l,z=.ref l/\Rep H (.ref l) (.list [.str "ring",.list (kF ks ts wn kk u v wy)])
theorem TellV.same (h:TellV H z ks ts ws wn kk u v x y o) (s:Same H H'):TellV H' z ks ts ws wn kk u v x y o:=by
 cases o with
 | none=>obtain⟨a,e,R⟩:=h;exact⟨a,e,R.same s⟩
 | some wy=>obtain⟨l,e,R⟩:=h;exact⟨l,e,R.same s⟩
def tS:Sp:=λvs H Q _=>∃(q us ks ts ws wn:_) (kk:Str × LS) (u v x y:_),vs=[.ref q,.str u,.str v]/\GT H q us ks ts ws wn/\kk∈ks/\u∈us/\v∈us/\aI ks u v=some (kk.1,x,y)/\(u,v)∉ts/\(u,v)∉ws/\∀o z H',TieO (cL kk.2 (aL ks ts wn kk.1 kk.2)) (kk.2.idxOf x) (kk.2.idxOf y) o->Same H H'->TellV H' z ks ts ws wn kk u v x y o->Q z H'
theorem zr (F:Fun K "_law_told" "_law_told" oU f fd) (B:Blt mg) (e:Errs K mg base z AY wc) (G:XGet K (z "Ring") "ring") (b:CalX P w K mg base 10 "behind" ["house","deed"] (ky (z "Ring"))):FnOk P w K mg base CX0 11 f fd ["_law_house_here","_law_one","_law_other"] tS:=by
 refine F.ok1 ["_law_house_here","_law_one","_law_other","_law_ring_here","error"] λM H Q E hr h=>?_;obtain⟨q,us,ks,ts,X,wn,kk,u,v,x,y,rfl,J,D,C,I,hp,Z,n2,k⟩:=h;obtain⟨j,T,p,a1⟩:=e.at_ "Ring" (by decide);have m:=e.f "Ring" (by decide);refine⟨_,(aa (pst 3 M cm)
  (aa (yi (i:=4) (λ_ _ _=>(af (ao (yw b (hr.mono (by decide)) rfl (p2 (pv 0) (aF (ak aA (p2 (pv 1) (pv 2))))))))) rfl rfl rfl (e.b "Ring" (by decide)) T p M rfl rfl (λ_ _=>(af (aJ (PW.pt (ck (dF (yc K B (p2 (pv 4) (eK (v:=.ref (z "OrderError")) rfl (e.b "OrderError" (by decide)) rfl)))) (bR (dF (yc K B (p2 (pv 4) (kY (v:=.ty "ValueError") rfl e.nv oG rfl))))))) (af (pst 3 M (zt K (pv 4) rfl))) aw))))
  (af (ao (aQ (p2 aA (pv 3))))))),?_⟩
 refine⟨_,rfl,_,rfl,_,rfl,ap ⟨szl 3,λtE hE=>?_⟩⟩;refine nw hE λHE s eE=>?_;refine ap ⟨rfl,q,tE,us,ks,ts,X,wn,kk,u,v,x,y,rfl,⟨eE,J.same s,.inl rfl,D,C,I,hp,Z,n2⟩,λA U R N R1=>?_,λwy l O d R A N a0 Y rp hd=>⟨z "Ring",j,rfl,T,?_,λa ha=>?_⟩⟩
 ·exact k none (.ref U) R A (s.trans N) ⟨U,rfl,R1⟩
 ·simp
 ·refine nw ha λH2 g c=>?_;have L:=g _ _ hd;have W:=(s.trans N).trans g;refine⟨_,rfl,a,z "Ring",some d,_,.ref (z "OrderError"),true,rfl,c,m,λv t=>t,(e.kit "Ring" (by decide) (by decide) "OrderError" (by decide)).trans (by decide),?_⟩;refine⟨true,rfl,iJ ?_⟩;refine⟨_,rfl,a,z "Ring",some d,_,.type "ValueError",true,rfl,c,m,λv t=>t,e.val "Ring" (by decide),?_⟩;refine⟨true,rfl,iJ ?_⟩;refine⟨_,rfl,a,z "Ring",d,_,.ref l,rfl,c,L,rfl,m,G,?_⟩;refine⟨_,rfl,ap ⟨szl 2,λS n=>?_⟩⟩;have r:=Same.new (o:=.lst [V.str "ring",V.ref l]) n;exact k (some wy) (.ref S) _ A (W.trans r) ⟨S,rfl,.lst ae (.cons (.str _) (.cons (.lst (r _ _ (g _ _ Y)) ((rp.same g).same r)) .nil))⟩
def qm (K:W.Frag):Sp:=λvs H Q _=>∃(p a q ln:_) (us ns:LS) (ks ts ws wn:_),vs=[.ref p,.ref q,.ref ln]/\DPen K H p a/\GT H q us ks ts ws wn/\H ln=some (.lst (List.map V.str ns))/\(∀z∈ns,z∈us)/\0<ns.length/\ns.length<=60 /\
 (∀H',DPV H' p a->But p H H'->Q .non H') /\
 ∀t u v p3 H',DPV H' p a->But p H H'->H' t=some (.tup [.str u,.str v])->u∈us->v∈us->aI ks u v=some p3->(u,v)∉ts->(u,v)∉ws->Q (.ref t) H'
theorem wT (F:Fun K "_law_pair" "_law_pair" xJ f fd) (B:Blt mg) (b:Cal P w K mg base 1 "_law_draw" ["_law_pen_here", "_law_many"] (iR K)) (d:Cal P w K mg base 2 "_law_part" ["_law_knots_here", "_law_one", "_law_other"] eX):FnOk P w K mg base CX0 3 f fd ["_law_pen_here", "_law_house_here", "_law_names_here"] (qm K) := by
 refine F.ok1 ["_law_pen_here","_law_house_here","_law_names_here","_law_one","_law_other"] λnd H Q E c h=>?_;obtain⟨p,a,q,ln,us,X,ks,ts,ws,wn,rfl,hP,G,I,b8,n0,nl,kn,kt⟩:=h;have T:=G.tre;have tl:=G.tl;have k:(List.map V.str X).length=X.length:=BQ ..;have j:∀r:Int,0<=r->r<((List.map V.str X).length:Int)->∃z∈us,atI (List.map V.str X) r=some (.str z):=λr r0 r1=>by
  rw[k] at r1;obtain⟨n,rfl⟩:=CU r0;have hn:n<X.length:=by omega
  exact⟨X[n],b8 _ (DS hn),bJ (by rw[Ce,Ci hn];rfl)⟩
 refine⟨_,(aa (pst 3 nd (px K c (pv 2) (pc b c (p2 (pv 0) (bh K B (p1 (pv 2)))))))
  (aa (pst 4 nd (px K c (pv 2) (pc b c (p2 (pv 0) (bh K B (p1 (pv 2)))))))
  (aa (aJ (PW.pt (ck (ah (mH K c.units) (px K c (pv 1) ac) (aF cj) (aB _)) (bR (ah (br c.units) (pc b c (p2 (pv 0) ac)) ac (aB _))))) (af (cn (px K c (px K c (pv 1) ac) (pc b c (p2 (pv 0) (bh K B (p1 (px K c (pv 1) ac)))))) (bT (n:=2) K rfl (aH (am (i:=4) nd rfl (Or.inl rfl)) (aH (am (i:=3) nd rfl (Or.inl rfl)) bN))))) aw)
  (aa (aJ (PW.pt (gW (ah iC (pc d c (ak (px K c (pv 1) ac) (p2 (pv 3) (pv 4)))) cm (aB _)) (gE (ah (fF c.units) (aF (p2 (pv 3) (pv 4))) (aG fT (px K c (pv 1) ac) (px K c (pv 1) ac)) (by with_unfolding_all rfl))))) (af (ao cm)) aw)
  (af (ao (aF (p2 (pv 3) (pv 4))))))))),?_⟩
 refine⟨_,rfl,_,rfl,_,rfl,_,_,rfl,Or.inl ⟨_,.of I,rfl⟩,p,a,_,rfl,hP,by rw[k];omega,by rw[k];omega,λr1 H1 c1 b0 v1 b1=>?_⟩;obtain⟨u,hu,ax⟩:=j r1 c1 b0;obtain⟨ys,l⟩:=hP.2.at_dK;have a2:ln≠p:=aZ I l (by intro z;cases z);have L:=b1 _ _ a2 I;have G1:=G.but l b1;refine .lst (.of L) ax ?_;dsimp only[aX];refine⟨_,rfl,_,rfl,_,rfl,_,_,rfl,Or.inl ⟨_,.of L,rfl⟩,p,a,_,rfl,hP.but b1 v1,by rw[k];omega,by rw[k];omega,λr2 H2 c3 a9 v2 b2=>?_⟩;obtain⟨v,hv,ay⟩:=j r2 c3 a9;have U:=b1.trans b2;have a7:=U _ _ a2 I;have G2:=G.but l U;refine .lst (.of a7) ay ?_;dsimp only[aX];refine gF (λa1 H'=>∃x y,a1=[some (.ref p),some (.ref q),some (.ref ln),some (.str x),some (.str y)]/\x∈us/\y∈us/\DPV H' p a/\But p H H') ?_ ?_
 ·rintro a1 H3 ⟨x, y, rfl, hx, hy, v3, S⟩;have G3:=G.but l S;obtain⟨q',ka,kb,kc,kd,g,O,R1,R2,R3,R4⟩:=bd G3.rep;cases g;obtain⟨b',rb,g,hb,A⟩:=ba R2;cases g;obtain⟨c',rc,g,hc,a3⟩:=ba R3;cases g;have bl:=A.len;have cl:=a3.len;rw[BQ] at bl cl;refine⟨_,rfl,.tup (.of O) rfl ⟨_,rfl,_,rfl,ap ⟨ka,us,ks,x,y,rfl,R1,T,hx,hy,λz H4 s4 Z=>?_⟩⟩⟩;have Y:=v3.same s4;have b4:=S.trans (But.of_same (p:=p) s4);cases hpo:aI ks x y with
  | none =>
   rw[hpo] at Z;have Z:z=.non:=Z;subst Z;refine .non ⟨_,rfl,av (λ_=>?_) (λh=>(h (Ca (rfl:V.non=V.non))).elim)⟩;exact kn H4 Y b4
  | some p3 =>
   rw[hpo] at Z;obtain⟨pt,rfl,d0⟩:=Z;refine .non ⟨_,rfl,av (λh=>?_) (λ_=>?_)⟩
   ·have h:V.ref pt=V.non:=Ch h;cases h
   refine⟨_,rfl,_,rfl,(szl 2),λtt c4=>?_⟩;refine nw c4 λH5 s5 e5=>?_;have m:=s4.trans s5;have sz:200000<sizeLine:=by decide
   refine⟨_,rfl,.tup (.of (m _ _ O)) rfl ⟨_,rfl,.tup (.of (m _ _ O)) rfl ⟨kb,kc,_,_,rfl,rfl,m _ _ hb,m _ _ hc,(by omega),λt2 H6 s6 e6=>?_⟩⟩⟩;have C:=m.trans s6;have a8:∀e∈ts++ws,Nm e.1/\Nm e.2:=λe D=>by
    rcases Cb.mp D with D | D
    ·exact⟨T.nm _ (G.ti e D).1,T.nm _ (G.ti e D).2.1⟩
    ·exact⟨T.nm _ (G.pw e D).1,T.nm _ (G.pw e D).2⟩
   have ra:=RepAll.append (A.same C) (a3.same C);rw[<- BX] at ra;refine⟨t2,_,_,_,rfl,e6,ra,aO (s:=x) (t:=y) (s6 _ _ e5),aS a8,cX (T.nm _ hx) (T.nm _ hy),(by show 1<=16;decide),_,rfl,?_⟩;rw[if_neg (show ¬ false=true by decide),dQ];have v6:=v3.same C;have b6:=S.trans (But.of_same (p:=p) C);refine av (λ_=>kn H6 v6 b6) (λh=>?_);have hn:(x,y)∉ts++ws:=λz=>h (Ca z);refine⟨_,rfl,_,rfl,(szl 2),λt3 h3=>?_⟩;have s7:=Same.new (o:=.tup [V.str x,V.str y]) h3;exact kt t3 x y p3 _ (v6.same s7) (b6.trans (But.of_same (p:=p) s7)) ae hx hy hpo (λz=>hn (CM _ z)) (λz=>hn (CN _ z))
 ·intro N hN;obtain⟨q',ka,kb,kc,kd,g,O,R1,R2,R3,R4⟩:=bd G2.rep;cases g;obtain⟨b',rb,g,hb,A⟩:=ba R2;cases g;have bl:=A.len;rw[BQ] at bl;refine⟨_,rfl,.tup (.of O) rfl ⟨(szl 0),λte c0=>?_⟩⟩;refine nw c0 λH3 s3 e3=>?_;have v3:=v2.same s3;have S:=U.trans (But.of_same (p:=p) s3);refine⟨kb,te,rb,rfl,rfl,.of (s3 _ _ hb),e3,_,rfl,av (λh=>?_) (λ_=>hN _ _ ⟨u,v,rfl,hu,hv,v3,S⟩)⟩;have c8:0<rb.length:=by cases rb with | nil=>exact absurd h (by decide) | cons z zs=>exact Nat.succ_pos _
  refine⟨_,rfl,p,a,4,rfl,hP.but S v3,by decide,by decide,λr4 H4 c9 d1 Y b4=>?_⟩;have J:=S.trans b4;refine .sc rfl ⟨_,rfl,av (λ_=>?_) (λ_=>hN _ _ ⟨u,v,rfl,hu,hv,Y,J⟩)⟩;have G4:=G.but l J;obtain⟨q',ka,kb,kc,kd,g,O,R1,R2,R3,R4⟩:=bd G4.rep;cases g;obtain⟨b',a6,g,W,M⟩:=ba R2;cases g;have b9:=M.len;rw[BQ] at b9;refine⟨_,rfl,.tup (.of O) rfl ⟨_,rfl,_,rfl,.tup (.of O) rfl (ap ⟨_,_,rfl,Or.inr ⟨_,.of W,rfl⟩,?_⟩)⟩⟩;refine ap ⟨p,a,_,rfl,hP.but J Y,by omega,by omega,λr5 H5 b7 d2 v5 b5=>?_⟩;have c6:=J.trans b5;obtain⟨n5,rfl⟩:=CU b7;have c2:n5<a6.length:=by omega
  have c5:kb≠p:=by
   obtain⟨c7,R⟩:=Y.at_dK;exact aZ W R (by intro z;cases z)
  obtain⟨z,hz⟩:∃z,a6[n5]? = some z:=⟨_,Ci c2⟩
  obtain⟨e,ta,D,rfl,a0⟩:=cW M hz;have a4:=BW D;have a5:H5 ta=some (.tup [V.str e.1,V.str e.2]):=by
   obtain⟨c7,R⟩:=Y.at_dK;exact b5 _ _ (aZ a0 R (by intro z;cases z)) a0
  refine .tup (.of (b5 _ _ c5 W)) (bJ hz) ?_;refine⟨ta,_,rfl,.of a5,rfl,_,_,rfl,_,_,rfl,rfl,?_⟩;exact hN _ _ ⟨e.2,e.1,rfl,(G.ti e a4).2.1,(G.ti e a4).1,v5,c6⟩
theorem zk (T:Tre us ks) (d:u∈us) (c:v∈us) (h:aI ks u v=some (z,x,y)):∃kk∈ks,kk.1=z:=by
 obtain⟨e,_,f,_⟩:=T.part d c h;obtain⟨k,b,a⟩:=T.has f;exact⟨k,b,(T.par b a).symm.trans e⟩
def mS (K:W.Frag):Sp:=λvs H Q _=>∃(a:_) (ns:List Int),vs=[.ref a]/\SqL K H a (ns.map V.int)/\∀H',Q (.bl true) H'
theorem fU:∀ts:List (Str × Str),PyData.depthAll (ts.map aE)<=1
 | []=>by decide
 | e::es=>by
  show max (PyData.depth (aE e)) (PyData.depthAll (es.map aE))<=1;have h1:PyData.depth (aE e)=1:=rfl;have h2:=fU es;omega
theorem oX:∀ss:LS,PyData.depthAll (ss.map PyData.str)=0
 | []=>rfl
 | s::ss=>by
  show max (PyData.depth (.str s)) (PyData.depthAll (ss.map PyData.str))=0;rw[oX ss];rfl
theorem mi:∀ks:Kn,PyData.depthAll (ks.map bP)<=2
 | []=>by decide
 | k::ks=>by
  show max (max 0 (max (PyData.depthAll (k.2.map PyData.str)+1) 0)+1) (PyData.depthAll (ks.map bP))<=2;have:=mi ks;rw[oX];omega
theorem lZ:∀ks:Kn,(∀k∈ks,(k.1=""∨Nm k.1)/\∀u∈k.2,Nm u)->PyData.canLayAll0 (ks.map bP)=true
 | [],_=>rfl
 | k::ks,h=>by
  obtain⟨h1,h2⟩:=h k (CW ..);show ((PyData.canLay0 (.str k.1)&&(PyData.canLayAll0 (k.2.map PyData.str)&&true))&&PyData.canLayAll0 (ks.map bP))=true;rw[lZ ks λx hx=>h x (Cw _ hx),je _ h2,vr h1];rfl
theorem um (T:Tre us ks) (h:∀e∈ts,Nm e.1/\Nm e.2) (j:∀e∈ws,Nm e.1/\Nm e.2) (c:∀e∈wn,Nm e.1/\Nm e.2):shp (aK ks ts ws wn):=by
 show ((PyData.canLayAll0 (ks.map bP)&&(PyData.canLayAll0 (ts.map aE)&&(PyData.canLayAll0 (ws.map aE)&&(PyData.canLayAll0 (wn.map aE)&&true))))&&decide (max (PyData.depthAll (ks.map bP)+1) (max (PyData.depthAll (ts.map aE)+1) (max (PyData.depthAll (ws.map aE)+1) (max (PyData.depthAll (wn.map aE)+1) 0)))+1<=64))=true;have g:=mi ks;have d:=fU ts;have b:=fU ws;have i:=fU wn;rw[lZ ks λk a=>⟨(T.sub k a).imp id (T.nm _),λu f=>T.nm u (T.isIn a f)⟩,aS h,aS j,aS c,Ca (Nat.succ_le_of_lt (Nat.lt_of_le_of_lt (Nat.max_le.mpr ⟨Nat.succ_le_succ g,Nat.max_le.mpr ⟨Cn (Nat.succ_le_succ d) (by decide),Nat.max_le.mpr ⟨Cn (Nat.succ_le_succ b) (by decide),Nat.max_le.mpr ⟨Cn (Nat.succ_le_succ i) (by decide),Cu 3⟩⟩⟩⟩) (show 3<64 by decide)))]
 rfl
theorem sx (h:D.nx σ H):xT D σ H:=h
theorem GT.shp (h:GT H q us ks ts ws wn):shp (aK ks ts ws wn) :=
 um h.tre (λe a=>⟨h.tre.nm _ (h.ti e a).1,h.tre.nm _ (h.ti e a).2.1⟩) (λe a=>⟨h.tre.nm _ (h.pw e a).1,h.tre.nm _ (h.pw e a).2⟩) (λe a=>⟨gN (WnX.ok h.tre h.wx e a).1,h.tre.nm _ (WnX.ok h.tre h.wx e a).2⟩)
def K3 (t:T3):Prop:=Nm t.1/\Nm t.2.1/\Nm t.2.2
theorem yY (T:Tre us ks) (a:dZ us ks ts) (d:Nm t.2.1) (c:Nm t.2.2):K3 (dj ks ts wn t):=by
 unfold dj
 split
 ·rename_i e he
  have b:=List.mem_of_find?_eq_some he;exact⟨by show Nm "tie";exact isNm_iff.mp (by decide +kernel),T.nm _ (a e b).1,T.nm _ (a e b).2.1⟩
 ·refine⟨?_,d,c⟩;show Nm (if _ then _ else _)
  split
  ·exact gQ
  ·exact pY
theorem uf:∀l:List T3, (∀t ∈ l, K3 t) -> PyData.canLayAll0 (l.map t3D)=true /\ PyData.depthAll (l.map t3D) <= 1
 | [],_=>⟨rfl,by decide⟩
 | t::l,h=>by
  obtain⟨h1,h2,h3⟩:=h t (CW ..);obtain⟨i1,i2⟩:=uf l λx hx=>h x (Cw _ hx);refine⟨?_,?_⟩
  ·show ((PyData.canLay0 (.str t.1)&&(PyData.canLay0 (.str t.2.1)&&(PyData.canLay0 (.str t.2.2)&&true)))&&PyData.canLayAll0 (l.map t3D))=true;rw[bM h1,bM h2,bM h3,i1];rfl
  ·show max (max 0 (max 0 (max 0 0))+1) (PyData.depthAll (l.map t3D))<=1;omega
theorem zL (h:Rep H (.ref l) (.list ds)):∃xs,H l=some (.lst xs)/\RepAll H xs ds:=by
 cases h with
 | lst a b=>exact⟨_,a,b⟩
theorem Bz (h:i<ss.length):nmA ss i∈ss:=by
 unfold nmA;rw[CA,Ci h];exact DS h
theorem Ak (h:∀e∈ps,e.1∈c/\e.2∈c) (a:x∈c) (t:TieO (cL c ps) (c.idxOf x) (c.idxOf y) (some z)):∀i∈z,i<c.length:=by
 obtain⟨k,_,w⟩:=t;exact w.inn (gV h) (CF a)
theorem wN (T:Tre us ks) (b:dZ us ks ts) (a:kk ∈ ks) (k:u ∈ us) (j:v ∈ us) (f:∀i ∈ z, i<kk.2.length):shp (.list [.str "ring", .list (kF ks ts wn kk u v z)]) := by
 have d:∀s∈z.map (nmA kk.2),Nm s:=λs l=>by
  obtain⟨i,g,rfl⟩:=BY.mp l;exact T.nm _ (T.isIn a (Bz (f i g)))
 have e:kF ks ts wn kk u v z=((("tie",u,v):T3)::((z.map (nmA kk.2)).zip ((z.map (nmA kk.2)).drop 1)).map λe=>dj ks ts wn (kk.1,e.1,e.2)).map t3D:=by
  unfold kF gu;rw[Cv,CK];rfl
 obtain⟨m,n⟩:=uf ((("tie",u,v):T3)::((z.map (nmA kk.2)).zip ((z.map (nmA kk.2)).drop 1)).map λe=>dj ks ts wn (kk.1,e.1,e.2)) λt c=>by
  rcases Cm.mp c with rfl | c
  ·exact⟨by show Nm "tie";exact isNm_iff.mp (by decide +kernel),T.nm _ k,T.nm _ j⟩
  ·obtain⟨p,h,rfl⟩:=BY.mp c;obtain⟨p1,p2⟩:=List.of_mem_zip h;exact yY T b (d _ p1) (d _ (Dk p2))
 rw[e];show ((PyData.canLay0 (.str "ring")&&(PyData.canLayAll0 (List.map t3D _)&&true))&&decide (max 0 (max (PyData.depthAll (List.map t3D _)+1) 0)+1<=64))=true;rw[m,Ca (by omega),show PyData.canLay0 (.str "ring")=true by decide +kernel]
 rfl
theorem AJ (F:Fun K "law" "law" oj f fd) (B:Blt mg) (L:Cal P w K mg base 1 "_law_pen" ["_law_script"] (uY K)) (C:Cal P w K mg base 1 "_law_draw" ["_law_pen_here", "_law_many"] (iR K)) (m:Cal P w K mg base 4 "_law_house" ["_law_pen_here", "_law_most"] (pT K)) (G:Cal P w K mg base 3 "_law_pair" ["_law_pen_here", "_law_house_here", "_law_names_here"] (qm K)) (I:Cal P w K mg base 4 "_law_ring" ["_law_house_here", "_law_one", "_law_other"] qD) (D:Cal P w K mg base 4 "_law_laid" ["_law_house_here", "_law_one", "_law_other"] qM) (A:Cal P w K mg base 11 "_law_told" ["_law_house_here", "_law_one", "_law_other"] tS):FnOk P w K mg base CX0 12 f fd ["_law_script"] (mS K) := by
 refine F.ok1 ["_law_script","_law_pen_here","_law_house_here","_law_names_here","_law_knot","_law_kids","_law_turn","_law_pair_here","_law_due","_law_handed"] λU H Q E g h=>?_;obtain⟨sc,ns,rfl,hS,k⟩:=h;have sz:200000<sizeLine:=by decide
 refine⟨_,(aa (pst 1 U (pc L g (p1 (pv 0))))
  (aa (pst 2 U (pc m g (p2 (pv 1) ac)))
  (aa (pst 3 U (aQ cj))
  (aa (bc PassesOwn.never rfl (bf K (px K g (pv 2) ac)) (bT (n:=2) K rfl (aH (am (i:=4) U rfl (Or.inl rfl)) (aH (am (i:=5) U rfl (Or.inl rfl)) bN))) (af (pst 3 U (aG aM (pv 3) (gs K rfl B (p1 (pv 5)))))))
  (aa (bc PassesOwn.never rfl (dm rfl B.range (p1 (aG aM ac (pc C g (p2 (pv 1) ac))))) (am (i:=6) U rfl (Or.inl rfl)) (aa (pst 7 U (pc G g (ak (pv 1) (p2 (pv 2) (pv 3)))))
  (af (aJ (ah gi (pv 7) cm (aB _)) (aa (pst 8 U (aQ (p2 aA (pc I g (ak (pv 2) (p2 (px K g (pv 7) ac) (px K g (pv 7) ac)))))))
  (aa (aJ (ah iC (px K g (pv 8) ac) cm (aB _)) (af (pst 8 U (pc D g (ak (pv 2) (p2 (px K g (pv 7) ac) (px K g (pv 7) ac)))))) aw)
  (aa (pst 9 U (aF (ak (px K g (pv 2) ac) (ak (px K g (pv 2) ac) (p2 (px K g (pv 2) ac) (px K g (pv 2) ac))))))
  (aa (aJ (PW.pt (gW (ah (cF g.units) (pc A g (ak (pv 9) (p2 (px K g (pv 7) ac) (px K g (pv 7) ac)))) (pv 8) (aB _)) (gE (ah (cF g.units) (pv 9) (pv 2) (aB _))))) (af (ao se)) aw)
  (af (aJ (dF (kg K "tuple" B (p2 (pv 8) (qw B)))) (af (pst 2 U (pv 8))) aw)))))) aw))))
  (af (ao se))))))),?_⟩
 refine⟨_,rfl,sc,ns,rfl,hS,λp H1 hP=>?_⟩;refine⟨_,rfl,p,sc,rfl,hP,λq us e r J wn H2 R T _ ul ti pw wl c4 tf wr tl f8 f5 v2 b2=>?_⟩;have J2:GT H2 q us e r J wn:=⟨R,T,ti,AO wl c4,pw,tf,wr,by omega,by omega⟩
 have kl:=T.perm.length_eq;refine⟨(szl 0),λl0 f1=>?_⟩;have s3:=Same.new (o:=.lst []) f1;have e3:upd H2 l0 (.lst []) l0=some (.lst (List.map V.str (aT (e.take 0)))):=ae;have J3:=J2.same s3;have v3:=v2.same s3;have b3:=b2.trans (But.of_same (p:=p) s3);generalize upd H2 l0 (.lst [])=H3 at s3 e3 J3 v3 b3 ⊢;dsimp only[aX];obtain⟨_,a,b,c,d,e0,hq,R1,_⟩:=bd J3.rep;cases e0;obtain⟨_,a6,e0,ha,rp⟩:=de R1;cases e0;have a5:=rp.len;rw[BQ] at a5;refine⟨_,rfl,.tup (.of hq) rfl ⟨a,rfl,⟨_,.of ha⟩,?_⟩⟩
 let d5:Nat->SH:=λi σ W=>∃(ln:Addr) (o4 o5:Option V),σ=[some (.ref sc),some (.ref p),some (.ref q),some (.ref ln),o4,o5,none,none,none,none]/\W ln=some (.lst (List.map V.str (aT (e.take i))))/\Same H3 W
 refine cu (R:=Q) (xs:=a6) d5 ?_ ?_ ?_ ?_
 ·exact⟨l0,none,none,rfl,e3,Same.refl H3⟩
 ·rintro i σ W hi ⟨ln,o4,o5,rfl,_,sm⟩;exact .of (sm _ _ ha)
 ·rintro _ i z σ H4 hz ⟨ln,o4,o5,rfl,O,sm⟩;obtain⟨Z,ta,la,hk,rfl,d8,f0⟩:=eV rp hz;have d7:=BW hk;have f2:=pS T d7;have d9:aT (e.take (i+1))=aT (e.take i)++Z.2:=by
   unfold aT;rw[Cf,hk,Eh];show _++List.flatMap _ [Z]=_;rw[List.flatMap_singleton]
  have f4:(aT (e.take i)).length<=13:=by
   have h1:aT e=aT (e.take i)++aT (e.drop i):=by unfold aT;rw[<- Eh,DK]
   have h2:=congrArg List.length h1;rw[Cj] at h2;omega
  refine⟨ta,_,rfl,.of (sm _ _ d8),rfl,_,_,rfl,_,_,rfl,rfl,?_⟩;dsimp only[aX];refine⟨_,rfl,_,rfl,_,rfl,.seq (.inr (.of (sm _ _ f0))) λlb e8=>?_⟩;have s5:=Same.new (o:=.lst (List.map V.str Z.2)) e8;refine .lst (s5 _ _ O) ae (by rw[BQ,BQ];exact CP (aj (by omega))) λlc e6=>?_;have s6:=Same.new (o:=.lst (List.map V.str (aT (e.take i))++List.map V.str Z.2)) e6;refine⟨lc,_,_,rfl,?_,(sm.trans s5).trans s6⟩;rw[ae,d9,BX]
 rintro σ H4 ⟨ln,o4,o5,rfl,O,s4⟩;rw[a5,Cd (BR _)] at O;have J4:=J3.same s4;have v4:=v3.same s4;have b4:=b3.trans (But.of_same (p:=p) s4);have c9:∀z∈aT e,z∈us:=λz hz=>T.perm.mem_iff.mp hz;generalize aT e=nm at O c9 kl;obtain⟨f9,c6⟩:=v4.at_dK;have b1:ln≠p:=aZ O c6 (by intro z;cases z);refine⟨_,rfl,p,sc,8,rfl,hP.but b4 v4,by decide,by decide,λr5 H5 e4 g2 v5 b5=>.int ?_⟩;obtain⟨j5,rfl⟩:=CU e4;have J5:=J4.but c6 b5;have d6:=b5 _ _ b1 O;have b5:=b4.trans b5;refine⟨_,rfl,by omega,by omega,?_⟩;rw[show (1+((j5:Nat):Int)).toNat=1+j5 by omega]
 let d1:Nat->SH:=λi σ W=>∃q e r J o4 o5 o6 o7 o8 o9,σ=[some (.ref sc),some (.ref p),some (.ref q),some (.ref ln),o4,o5,o6,o7,o8,o9]/\GT W q us e r J wn/\r.length+J.length<=33+i/\W ln=some (.lst (List.map V.str nm))/\DPV W p sc/\But p H1 W
 refine fy (R:=Q) d1 ⟨q,e,r,J,_,_,_,_,_,_,rfl,J5,by omega,d6,v5,b5⟩ ?_ ?_
 ·intro _; clear J2 J3 J4 J5 R T wl c4 pw ti tf wr;rintro i σ H6 hi ⟨q,e,r,J,o4,o5,o6,o7,o8,o9,rfl,J6,f3,X,v6,b6⟩;have hi:i<8:=by omega
  have T:=J6.tre;dsimp only[aX];refine⟨_,rfl,_,rfl,_,rfl,ap ⟨p,sc,q,ln,us,nm,e,r,J,wn,rfl,hP.but b6 v6,J6,X,c9,by omega,by omega,λH7 v7 b7=>?_,λt u v p3 H7 v7 b7 ht hu hv M n1 n2=>?_⟩⟩
  ·obtain⟨e2,c0⟩:=v6.at_dK;have J7:=J6.but c0 b7;have Y:=b7 _ _ b1 X;refine⟨_,rfl,.non ⟨_,rfl,av (λh=>absurd h (by decide)) (λ_=>?_)⟩⟩;exact⟨q,e,r,J,_,_,_,_,_,_,rfl,J7,by omega,Y,v7,b6.trans b7⟩
  ·obtain⟨e2, c0⟩ := v6.at_dK;have J7:=J6.but c0 b7;have Y:=b7 _ _ b1 X;have b7:=b6.trans b7;obtain⟨kn,x,y⟩:=p3;obtain⟨Z,j,ek⟩:=zk T hu hv M;subst ek;obtain⟨m1,m2⟩:=cN T j hu hv M;refine⟨_,rfl,.non ⟨_,rfl,av (λ_=>?_) (λh=>absurd (by simp) h)⟩⟩;have a8:=J7.tok;refine⟨_,rfl,_,rfl,.tup (.of ht) rfl ⟨_,rfl,.tup (.of ht) rfl (ap ⟨q,us,e,r,J,wn,Z,u,v,x,y,rfl,J7,j,hu,hv,M,λo z HB sB d4 tv=>?_⟩)⟩⟩;have on:=gg (bv T j) (λs hs=>T.nm _ (T.isIn j hs)) (cD (wn:=wn) T a8 j) m1 m2 d4;refine ap ⟨szl 2,λl3 e9=>?_⟩;refine nw e9 λH3 s3 e3=>?_;have a0:=sB.trans s3;refine dA ?_;dsimp only;refine gF (λc5 W=>∃a9:Addr,c5=[some (.ref sc),some (.ref p),some (.ref q),some (.ref ln),o4,o5,some (.int (0+(i:Int))),some (.ref t),some (.ref a9),o9]/\TellV W (.ref a9) e r J wn Z u v x y o/\Same H7 W) ?_ ?_
   ·rintro c5 HC ⟨a9,rfl,dv,sC⟩;have JC:=J7.same sC;have f7:=sC _ _ ht;obtain⟨_,a2,g0,c2,d2,e0,a4,Q1,Q2,Q3,Q4⟩:=bd JC.rep;cases e0;refine⟨_,rfl,.tup (.of a4) rfl ⟨_,rfl,.tup (.of a4) rfl ⟨_,rfl,.tup (.of a4) rfl ⟨_,rfl,.tup (.of a4) rfl (ap ⟨szl 4,λtD hD=>?_⟩)⟩⟩⟩⟩;refine nw hD λHD sD eD=>?_;have JD:GT HD tD us e r J wn:=⟨cK eD (Q1.same sD) (Q2.same sD) (Q3.same sD) (Q4.same sD),T,JC.ti,JC.wx,JC.pw,JC.tf,JC.wr,JC.tl,JC.wl⟩
    have b8:=sC.trans sD;have e5:=dv.same sD;refine⟨_,rfl,_,rfl,.tup (.of (b8 _ _ ht)) rfl ⟨_,rfl,.tup (.of (b8 _ _ ht)) rfl (ap ⟨tD,us,e,r,J,wn,Z,u,v,x,y,rfl,JD,j,hu,hv,M,n1,n2,λo2 z HG b9 sG d0=>?_⟩)⟩⟩;have eo:=TieO.uniq b9 d4;subst eo;have a1:=b8.trans sG;have c8:=e5.same sG;have JG:=JD.same sG;have JH:=J7.same a1;have S:=JG.shp;have vG:=v7.same a1;have bG:=b7.trans (But.of_same (p:=p) a1);have a7:=a1 _ _ Y;cases o2 with
    | none =>
     obtain⟨q1,e1,r1⟩:=c8;cases e1;obtain⟨q2,rfl,r2⟩:=d0;have JN:=JG.tie j hu hv M b9 (by omega) r1;have b0:shp (aK (eW e r wn Z x y) (r++[(u,v)]) J wn):=JN.shp;refine⟨_,rfl,.tr r2 r1 b0 b0 ⟨_,rfl,?_⟩⟩;rw[iT b0];refine cR ?_;refine⟨_,rfl,_,rfl,.tr JG.rep JH.rep S S ⟨_,rfl,?_⟩⟩;rw[iT S];refine cR ?_;obtain⟨_,a3,g1,c3,d3,e0,e7,_⟩:=bd r1;cases e0;refine sx ?_;refine⟨_,rfl,_,_,true,rfl,.tup e7,rfl,_,rfl,iJ ?_⟩;exact⟨_,rfl,_,_,_,_,_,_,_,_,_,_,rfl,JN,by show (r++[(u,v)]).length+J.length<=_;rw[Cj];show r.length+1+_<=_;omega,a7,vG,bG⟩
    | some wy =>
     obtain⟨l1,e1,r1⟩:=c8;cases e1;obtain⟨l2,rfl,r2⟩:=d0;have c1:=wN (u:=u) (v:=v) (wn:=wn) T a8 j hu hv (Ak (cD (wn:=wn) T a8 j) m1 b9);refine⟨_,rfl,.tr r2 r1 c1 c1 ⟨_,rfl,?_⟩⟩;rw[iT c1];refine cR ?_;refine⟨_,rfl,_,rfl,.tr JG.rep JH.rep S S ⟨_,rfl,?_⟩⟩;rw[iT S];refine cR ?_;obtain⟨f6,h1,_⟩:=zL r1;refine sx ?_;refine⟨_,rfl,_,_,false,rfl,.lst h1,rfl,_,rfl,cR ?_⟩;exact sx ⟨q,e,r,J,_,_,_,_,_,_,rfl,JH,by omega,a7,vG,bG⟩
   ·intro N hN;cases o with
    | some wy =>
     obtain⟨l,a6,rfl,hl,rp⟩:=tv;refine⟨_,rfl,.lst (.of e3) rfl (.non ⟨_,rfl,av (λh=>?_) (λ_=>hN _ _ ⟨l3,rfl,⟨l3,rfl,.lst e3 (.cons (.str _) (.cons (.lst (s3 _ _ hl) (rp.same s3)) .nil))⟩,a0⟩)⟩)⟩;have h:V.ref l=V.non:=Ch h;cases h
    | none =>
     have tv:z=.non:=tv;subst tv;refine⟨_,rfl,.lst (.of e3) rfl (.non ⟨_,rfl,av (λ_=>?_) (λh=>(h (Ca (rfl:V.non=V.non))).elim)⟩)⟩;have c7:=a0 _ _ ht;refine⟨_,rfl,_,rfl,.tup (.of c7) rfl ⟨_,rfl,.tup (.of c7) rfl (ap ⟨q,us,e,r,J,wn,Z,u,v,x,y,rfl,J7.same a0,j,hu,hv,M,on.mp rfl,λq' HC sC RC=>?_⟩)⟩⟩;rw[lP n2] at RC;exact hN _ _ ⟨q',rfl,⟨q',rfl,RC⟩,a0.trans sC⟩
 ·rintro σ H6 _;exact k H6
theorem uJ (F:Fun K "places_of" "places_of" kZ f fd) (B:Blt mg):FnOk P w K mg base CX0 1 f fd ["things"] fS := by
 refine F.ok1 ["things","places","place","thing"] λN H Q E U h=>?_;obtain⟨a,xs,rfl,L,X,k⟩:=h;refine⟨_,(aa (pst 1 N fG)
  (aa (bc PassesOwn.never rfl (oV K rfl B.enumerate (p1 (pv 0))) (bT (n:=2) K rfl (aH (am (i:=2) N rfl (Or.inl rfl)) (aH (am (i:=3) N rfl (Or.inl rfl)) bN))) (af (cn (pv 2) (cO (pv 1) (pv 3) (dy U.units)))))
  (af (ao (pv 1))))),?_⟩
 intro d D;have O:a≠d:=ai L D;refine⟨_,rfl,_,rfl,.lst (.of (by rw[ag O];exact L)) ?_⟩
 let r:Nat->SH:=λi G m=>∃A I c,G=[some (.ref a),some (.ref d),A,I]/\Same H m/\m d=some (.dK c)/\c.length<=i/\(∀s,(aD c (.inr s)).isSome=true ↔ s∈xs.take i)/\(∀s v,aD c (.inr s)=some v->∃j:Nat,v=.int j/\xs[j]? = some s)
 refine nH (xs:=List.map V.str xs) r ?_ ?_ ?_ ?_
 ·refine⟨none,none,[],rfl,Same.new D,ae,BR _,λs=>?_,λs v e=>by cases e⟩;simp[xf]
 ·rintro i G m Y ⟨A,I,c,rfl,y,_⟩;exact .of (y _ _ L)
 ·rintro i x G m p u ⟨A, I, c, rfl, y, C, W, g, l⟩ R;rw[Ce] at u;obtain⟨t,J,rfl⟩:∃t,xs[i]? = some t/\V.str t=x:=by
   cases q:xs[i]? with
   | none=>rw[q] at u;cases u
   | some e=>rw[q] at u;exact⟨e,rfl,BV u⟩
  have T:=(BU.mp J).1;have M:d≠p:=ai C R;refine⟨p,_,rfl,.of ae,rfl,_,_,rfl,_,_,rfl,rfl,?_⟩;refine⟨_,rfl,_,rfl,_,rfl,.dic (DPut.k (k:=.inr t) (by rw[ag M];exact C) (aj (by omega))) ⟨_,_,_,rfl,?_,ae,?_,?_,?_⟩⟩
  ·intro b o S;rw[ag (ai S D)];exact Same.new R _ _ (y _ _ S)
  ·have:=bw c (.inr t) (V.int i);omega
  ·intro s;rw[cG,Cf,J,Cb];by_cases q:s=t
   ·subst q;simp
   ·rw[if_neg (λz=>q (Sum.inr.inj z)),g s];simp[q]
  ·intro s v e;rw[cG] at e;by_cases q:s=t
   ·subst q;rw[if_pos rfl] at e;exact⟨i,(BV e).symm,J⟩
   ·rw[if_neg (λz=>q (Sum.inr.inj z))] at e;exact l s v e
 ·rintro G m ⟨A,I,c,rfl,y,C,_,g,l⟩;rw[BQ,Cd (BR _)] at g;exact⟨_,rfl,k d c m y D C g l⟩
theorem tK (l:K.lookup a=some ⟨.type "tuple",od,.seq us.toArray n,z⟩) (b:us.length<=1000) (r:Vals xs us):∀H,SqT K H a xs:=λH =>
 .inr ⟨_,us.toArray,n,l,rfl,rfl,by rw[Cq];exact Cn b (by decide),by rw[List.toList_toArray];exact r⟩
structure Ent where
 x:Str
 t:Tok
 a:Addr
def Ent.e (P:Params) (e:Ent):DictEntry:=⟨PyData.keyHash P e.x,.str e.x e.t,.ref e.a⟩
def Ent.kv (e:Ent):Key × Value:=(.inr e.x,.ref e.a)
theorem ud (l:List Ent) (h:K.lookup z=some ⟨.type "dict",none,.dict (l.map (Ent.e w.params)).toArray ep,#[]⟩) (f:(z==sysModules)=false) (d:(l.map (·.x)).Nodup):KD P w K z (l.map Ent.kv):=by
 refine⟨f,_,_,ep,h,⟨rfl,rfl,rfl⟩,rfl,λe c=>?_,?_,?_⟩
 ·have c:e∈l.map (Ent.e w.params):=by simpa using c
  obtain⟨q,_,rfl⟩:=BY.mp c;exact⟨.inr q.x,gl _ _ _ _,rfl⟩
 ·rw[List.toList_toArray];clear h d
  induction l with
  | nil=>exact .nil
  | cons q r ih=>exact .cons (gl _ _ _ _) rfl ih
 ·rw[CK];have e:l.map ((·.1) ∘ Ent.kv)=(l.map (·.x)).map (Sum.inr:Str->Key):=by rw[CK];rfl
  rw[e];exact List.Pairwise.map _ (λa b n q=>n (Sum.inr.inj q)) d
theorem vv:(["thing","tie","wait","untie","drop","group","open","want","unwant"]:LS).Nodup:=by decide +kernel
theorem fZ {x:Str}{t:Tok}{a:Addr}{l:List Ent}:valueAt (((⟨x,t,a⟩:Ent)::l).map Ent.kv) (.inr x)=some (.ref a):=by simp[valueAt,Ent.kv]
theorem eT {x w:Str}{t:Tok}{a:Addr}{l:List Ent}{v:Value}(h:x≠w) (r:valueAt (l.map Ent.kv) (.inr w)=some v):valueAt (((⟨x,t,a⟩:Ent)::l).map Ent.kv) (.inr w)=some v:=by
 have e:decide ((Ent.kv ⟨x,t,a⟩).1=(Sum.inr w:Key))=false:=Ct λz=>h (Sum.inr.inj z);unfold valueAt at r ⊢;rw[Cv,CZ];simp only[e];exact r
theorem ar1 {us:LW}(h:us.length=1):∃a,us=[a]:=List.length_eq_one_iff.mp h
theorem ar2 {us:LW}(h:us.length=2):∃z G,us=[z,G]:=by
 obtain⟨z,t,rfl⟩:=Eo h;obtain⟨G,rfl⟩:=ar1 (Nat.succ.inj h);exact⟨z,G,rfl⟩
theorem ar3 {us:LW}(h:us.length=3):∃G I z,us=[G,I,z]:=by
 obtain⟨G,t,rfl⟩:=Eo h;obtain⟨I,z,rfl⟩:=ar2 (Nat.succ.inj h);exact⟨G,I,z,rfl⟩
theorem ar4 {us:LW}(h:us.length=4):∃G I z J,us=[G,I,z,J]:=by
 obtain⟨G,t,rfl⟩:=Eo h;obtain⟨I,z,J,rfl⟩:=ar3 (Nat.succ.inj h);exact⟨G,I,z,J,rfl⟩
structure FH (K:W.Frag) (mg:MS) (n:Str) (st:Stmt) (f:Addr) (fd:FuncData):Prop where
 F:Fun K n n st f fd
 g:mg n=some (.ref f)
theorem fh_mk {K:W.Frag}{h:Heap}{mg:MS}{n:Str}{st:Stmt}{f:Addr}{od J:Option Addr}{U:Array (OV)}{Y kV I O z ct:Value}(X:K.In h) (G:h.Ns mainGlobals mg) (a:W.nsIn K mainGlobals n=some (some (.ref f)))
    (l:K.lookup f=some ⟨Y,od,.func (W.fnOf n n (cQ st) (bY st) (au st) .none kV I O J z ct),U⟩) (c:W.codeIn K z n=true) (k:W.keepIn K (.ref f)=true) :
    FH K mg n st f (W.fnOf n n (cQ st) (bY st) (au st) .none kV I O J z ct):=⟨vi l c k,W.mg_of X G a⟩
section
variable {K:W.Frag}{mg:MS}{n:Str}{st:Stmt}{f:Addr}{fd:FuncData}{r:Nat}{sp:Sp}
theorem FH.bn {ps:LS}(h:FH K mg n st f fd) (b:∀(kV z I:Value) (J:Option Addr) (G ct:Value) (us:LW),us.length=ps.length->bindArgs (W.fnOf n n (cQ st) (bY st) (au st) .none kV z I J G ct) ⟨us,[]⟩=pure (ps.zip us):=by intro _ _ _ _ _ _ us hl;first | (obtain⟨_,rfl⟩:=ar1 hl;rfl) | (obtain⟨_,_,rfl⟩:=ar2 hl;rfl) | (obtain⟨_,_,_,rfl⟩:=ar3 hl;rfl) | (obtain⟨_,_,_,_,rfl⟩:=ar4 hl;rfl)):Binds K fd ps []:=h.F.binds b
theorem FH.cl (h:FH K mg n st f fd) (l:W.OpenLaw) (w:World) (a:Heap) {ps:LS}(o:FnOk l.prog w K mg a CX0 r f fd ps sp) (b:∀(kV z J:Value) (I:Option Addr) (G ct:Value) (us:LW),us.length=ps.length->bindArgs (W.fnOf n n (cQ st) (bY st) (au st) .none kV z J I G ct) ⟨us,[]⟩=pure (ps.zip us):=by intro _ _ _ _ _ _ us hl;first | (obtain⟨_,rfl⟩:=ar1 hl;rfl) | (obtain⟨_,_,rfl⟩:=ar2 hl;rfl) | (obtain⟨_,_,_,rfl⟩:=ar3 hl;rfl) | (obtain⟨_,_,_,_,rfl⟩:=ar4 hl;rfl)):Cal l.prog w K mg a r n ps sp:=⟨_,_,o,h.g,h.F.kp,h.F.binds b⟩
theorem FH.cx (h:FH K mg n st f fd) (l:W.OpenLaw) (w:World) (a:Heap) {ps:LS}(o:FnOk l.prog w K mg a (CX1 l.prog w) r f fd ps sp) (b:∀(kV z J:Value) (I:Option Addr) (G ct:Value) (us:LW),us.length=ps.length->bindArgs (W.fnOf n n (cQ st) (bY st) (au st) .none kV z J I G ct) ⟨us,[]⟩=pure (ps.zip us):=by intro _ _ _ _ _ _ us hl;first | (obtain⟨_,rfl⟩:=ar1 hl;rfl) | (obtain⟨_,_,rfl⟩:=ar2 hl;rfl) | (obtain⟨_,_,_,rfl⟩:=ar3 hl;rfl) | (obtain⟨_,_,_,_,rfl⟩:=ar4 hl;rfl)):CalX l.prog w K mg a r n ps sp:=⟨_,_,o,h.g,h.F.kp,h.F.binds b⟩
end
theorem all_mk {l:W.OpenLaw}{w:World}{K:W.Frag}{h:Heap}{mg:MS}{fa f1 f2 f3 f4 f5 f6 f7 f8 f9 B3 E8 J2 y5 A7 I1 E4 B4 K1 u3 G9 A1 A3 x5 D1 E9 x4 B1 D3 I6 z9 w8 G3 y9 y7 v9 e1 D7 C5 t2 J9 J0 G5 C3 J8 D5 v7 F1 J1 J7 t8 x0 y0 J6 H6 C9 H0 w7 w3 x3 w4 z1 I8 t7 A0:Addr}{d1 d2 d3 d4 d5 d6 d7 d8 d9 K0 E2 u5 s5 K2 E1 F6 F7 x8 G1 w0 G7 F4 E5 I7 A8 G0 A9 G8 H3 E6 z6 z3 H9 v1 D8 v2 s9 t0 v8 x9 E7 z0 z8 z7 F9 v4 B7 t6 u8 D4 s6 y6 G4 I2 y8 u6 J3 w5 w9 A2 A5 x7 t3 t4:FuncData}(X:K.In h) (G:h.Ns mainGlobals mg) (u0:mg "law"=some (.ref fa))
    (h1:FH K mg "is_name" kR f1 d1)
    (h2:FH K mg "nexts" kH f2 d2)
    (h3:FH K mg "priors" iX f3 d3)
    (h4:FH K mg "places_of" kZ f4 d4)
    (h5:FH K mg "behinds" jJ f5 d5)
    (h6:FH K mg "aheads" kT f6 d6)
    (h7:FH K mg "way" AW f7 d7)
    (h8:FH K mg "first_nearer" lB f8 d8)
    (h9:FH K mg "nexts_of_all" mm f9 d9)
    (n7:FH K mg "priors_of_all" ko B3 K0)
    (m4:FH K mg "steps_from" tJ E8 E2)
    (q3:FH K mg "ring_by" qB J2 u5)
    (j5:FH K mg "children" lY y5 s5)
    (n1:FH K mg "parting" nF A7 K2)
    (l0:FH K mg "homes" tx I1 E1)
    (l4:FH K mg "parting_by" kz E4 F6)
    (l7:FH K mg "line_down" lN B4 F7)
    (k1:FH K mg "view" xH K1 x8)
    (o6:FH K mg "kept_partings" fq u3 G1)
    (q6:FH K mg "view_by" gv G9 w0)
    (o8:FH K mg "wanted" lA A1 G7)
    (k2:FH K mg "ring_of_tie" kL A3 F4)
    (k8:FH K mg "steps_along" gk x5 E5)
    (m7:FH K mg "step_of" qk D1 I7)
    (l6:FH K mg "with_row" jH E9 A8)
    (p8:FH K mg "with_tie" nT x4 G0)
    (k5:FH K mg "without" jq B1 A9)
    (p4:FH K mg "is_single" ii D3 G8)
    (j8:FH K mg "is_many" rf I6 H3)
    (l2:FH K mg "has_word" ny z9 E6)
    (n0:FH K mg "is_part" qW w8 z6)
    (n4:FH K mg "stretch" hX G3 z3)
    (j3:FH K mg "moves_of" hV y9 H9)
    (m3:FH K mg "moved" tR y7 v1)
    (q4:FH K mg "refuse" qv v9 D8)
    (e2:FH K mg "refuse_tie" kK e1 v2)
    (k9:FH K mg "need_units" kE D7 s9)
    (r4:FH K mg "need_parting" ir C5 t0)
    (q8:FH K mg "led_to" vk t2 v8)
    (r8:FH K mg "led_by_row" lU J9 x9)
    (p5:FH K mg "led_by_tie" mG J0 E7)
    (p6:FH K mg "paper_of" nJ G5 z0)
    (r5:FH K mg "row_of_tie" lV C3 z8)
    (j2:FH K mg "is_deed" rj J8 z7)
    (n5:FH K mg "behind" qa D5 F9)
    (m0:FH K mg "is_deed_within" ie v7 v4)
    (j1:FH K mg "singles" oJ F1 B7)
    (o7:FH K mg "behind_single" ic J1 t6)
    (s1:FH K mg "_law_pen" As J7 u8)
    (n3:FH K mg "_law_draw" ya t8 D4)
    (m9:FH K mg "_law_names" nL x0 s6)
    (r9:FH K mg "_law_knots" im y0 y6)
    (r7:FH K mg "_law_line" jn J6 G4)
    (l8:FH K mg "_law_part" nk H6 I2)
    (j9:FH K mg "_law_edges" mJ C9 y8)
    (l5:FH K mg "_law_reached" oD H0 u6)
    (o0:FH K mg "_law_house" lW w7 J3)
    (m5:FH K mg "_law_step" oB w3 w5)
    (r0:FH K mg "_law_ring" jv x3 w9)
    (k3:FH K mg "_law_with" jo w4 A2)
    (n8:FH K mg "_law_laid" iS z1 A5)
    (p0:FH K mg "_law_told" oU I8 x7)
    (l9:FH K mg "_law_pair" xJ t7 t3)
    (n9:FH K mg "law" oj A0 t4)
    (B:Blt mg) (Q:mg "zip"=none) (e3:mg "sorted"=none)
    {H8:Tok} (y1:W.nsIn K mainGlobals "MOST_SIGNS"=some (some (.int 8 H8)))
    {G6:Tok} (y2:W.nsIn K mainGlobals "MOST_MANY"=some (some (.int 2 G6)))
    {t5:Tok} (y3:W.nsIn K mainGlobals "MOST_TIES"=some (some (.int 200 t5)))
    {x1 z:Addr} (r1:W.nsIn K mainGlobals "OrderError"=some (some (.ref x1))) (r2:W.nsIn K mainGlobals "Ring"=some (some (.ref z)))
    (en:W.specialIn K (.builtin "object.__class__") "__get__"=some (some (.builtin "getset_descriptor.__get__"))) (et:W.takesIn K (.builtin "object.__class__")=some true) (ev:W.nsIn K mainGlobals "ValueError"=some none)
    {N1:Addr} {G2 d0 B8:LW} {C2 q1:Str} {I9 F2:Bool} {J4:LS} {D6:Option Bool} {A4:Option Addr} {D2 v6 x6 t1 u4:OV}
    (o1:K.lookup x1=some (excClassObj C2 q1 x1 N1 G2 d0 I9 J4 B8 F2 D6 A4 D2 v6 x6 t1 u4 "ValueError.__new__"))
    (u1:W.nsOkIn K N1=true) (z5:W.nsIn K N1 "__init__"=some none) (C1:W.tailIn K [.type "ValueError",.type "Exception",.type "BaseException",.type "object"] d0=true)
    (K3:W.findIn K (.ref x1) "__getattribute__"=some (some (.builtin "BaseException.__getattribute__"))) (w6:W.findIn K (.ref x1) "__getattr__"=some none) (y4:W.findIn K (.ref x1) "__class__"=some (some (.builtin "object.__class__")))
    (E0:W.mroIn K x1 (.type "object")=some true) (C8:W.mroIn K x1 (.type "BaseException")=some true) (z2:(W.clsIn K x1).isSome=true)
    (p1:d0.contains (.type "BaseException")=true) (u7:(Value.ref x1::d0).contains (.ref x1)=true) (w1:W.kitOne K (.ref x1) (.type "ValueError")=some true)
    {N2:Addr} {C4 e4 u9:LW} {H7 q2:Str} {B6 H5:Bool} {C7:LS} {v0:Option Bool} {E3:Option Addr} {s7 C6 j0 F5 J5:OV}
    (o2:K.lookup z=some (excClassObj H7 q2 z N2 C4 e4 B6 C7 u9 H5 v0 E3 s7 C6 j0 F5 J5 "ValueError.__new__"))
    {i0:Addr} {k4 p3:Option Addr} {s3:Array (OV)} {r3 m6 o5 e9 n6:Value}
    (u2:W.nsOkIn K N2=true) (v3:W.nsIn K N2 "__init__"=some (some (.ref i0))) (F0:W.tailIn K bmV e4=true)
    (o9:K.lookup i0=some ⟨.type "function",k4,.func (W.fnOf "__init__" "Ring.__init__" (cQ fi) (bY fi) (au fi) .none r3 m6 o5 p3 e9 n6),s3⟩) (A6:W.codeIn K e9 "Ring.__init__"=true) (C0:W.keepIn K (.ref i0)=true) (j0:W.keepIn K (.ref z)=true)
    (H1:W.findIn K (.ref z) "__setattr__"=some (some (.builtin "object.__setattr__"))) (B5:(W.clsIn K z).any (λcd=>mY cd.mro)=true) (H2:W.findIn K (.ref z) "ring"=some none) (o4:W.hasDictIn K z=true)
    (B2:W.findIn K (.ref z) "__getattribute__"=some (some (.builtin "BaseException.__getattribute__"))) (B0:W.findIn K (.ref z) "__getattr__"=some none) (I4:W.findIn K (.ref z) "__class__"=some (some (.builtin "object.__class__")))
    (s0:W.mroIn K z (.type "object")=some true) (I5:W.mroIn K z (.type "BaseException")=some true) (s4:(W.clsIn K z).isSome=true)
    (p2:e4.contains (.type "BaseException")=true) (t9:(Value.ref z::e4).contains (.ref x1)=true) (w2:W.kitOne K (.ref z) (.type "ValueError")=some true)
    (k0:W.kitOne K (.ref z) (.ref x1)=some true) (q5:W.kitOne K (.ref z) (.ref z)=some true)
    {D0:Addr} {H4:Nat} {j4 g9 i1 g6 g3 g5 g4 i6 i3:Tok} {g7 e8 e6 g1 g2 g0 i5 i9 f0:Addr} (gD:W.nsIn K mainGlobals "PARTS"=some (some (.ref D0))) (lD:K.lookup D0=some ⟨.type "dict",none,.dict ([⟨PyData.keyHash w.params "thing",.str "thing" j4,.ref g7⟩,⟨PyData.keyHash w.params "tie",.str "tie" g9,.ref e8⟩,⟨PyData.keyHash w.params "wait",.str "wait" i1,.ref e6⟩,⟨PyData.keyHash w.params "untie",.str "untie" g6,.ref g1⟩,⟨PyData.keyHash w.params "drop",.str "drop" g3,.ref g2⟩,⟨PyData.keyHash w.params "group",.str "group" g5,.ref g0⟩,⟨PyData.keyHash w.params "open",.str "open" g4,.ref i5⟩,⟨PyData.keyHash w.params "want",.str "want" i6,.ref i9⟩,⟨PyData.keyHash w.params "unwant",.str "unwant" i3,.ref f0⟩]:List DictEntry).toArray H4,#[]⟩) (nD:(D0==sysModules)=false)
    {I0:Option Addr} {i2 i7:Tok} {F3:Nat} {B9:Array (OV)} (I3:K.lookup e8=some ⟨.type "tuple",I0,.seq ([.str "name" i2,.str "name" i7]:LW).toArray F3,B9⟩)
    {z4:Option Addr} {j6 g8:Tok} {D9:Nat} {s8:Array (OV)} (v5:K.lookup e6=some ⟨.type "tuple",z4,.seq ([.str "name" j6,.str "name" g8]:LW).toArray D9,s8⟩)
    {DR:Addr} {F8:Nat} {j7 k7 m8 q7 p9 o3 q9 s2 k6:Tok} {n2 l1 p7 l3 m1 r6 q0:Addr} (gR:W.nsIn K mainGlobals "REFUSALS"=some (some (.ref DR))) (lR:K.lookup DR=some ⟨.type "dict",none,.dict ([⟨PyData.keyHash w.params "thing",.str "thing" j7,.ref n2⟩,⟨PyData.keyHash w.params "tie",.str "tie" k7,.ref e1⟩,⟨PyData.keyHash w.params "wait",.str "wait" m8,.ref e1⟩,⟨PyData.keyHash w.params "untie",.str "untie" q7,.ref l1⟩,⟨PyData.keyHash w.params "drop",.str "drop" p9,.ref p7⟩,⟨PyData.keyHash w.params "group",.str "group" o3,.ref l3⟩,⟨PyData.keyHash w.params "open",.str "open" q9,.ref m1⟩,⟨PyData.keyHash w.params "want",.str "want" s2,.ref r6⟩,⟨PyData.keyHash w.params "unwant",.str "unwant" k6,.ref q0⟩]:List DictEntry).toArray F8,#[]⟩) (nR:(DR==sysModules)=false)
    : ∃fd:FuncData,(∀(s:Shared) (v:Value),BindsTo s fd ⟨[v],[]⟩ [("_law_script",v)])/\∀base:Heap,K.In base->base.Ns mainGlobals mg->FnOk l.prog w K mg base CX0 12 fa fd ["_law_script"] (mS K):=by
 have e:=u0.symm.trans n9.g;cases e;have Z:=W.mg_of X G y1;have a3:=W.mg_of X G y2;have x:=W.mg_of X G y3;have m2:=n9.F;obtain⟨_,_,kV,dc,pm,an,cd,ct,_,rfl,_,_⟩:=m2.ex;refine⟨W.fnOf "law" "law" (cQ oj) (bY oj) (au oj) .none kV dc pm an cd ct,λs v=>.of_eq rfl,λbase XB GB=>?_⟩;have eN:(["OrderError","Ring"]:LS).Nodup:=by decide +kernel
 have eO:gm ([("OrderError",x1),("Ring",z)]:List (Str × Addr)) "OrderError"=x1:=iV (ps:=[("OrderError",x1),("Ring",z)]) eN ("OrderError",x1) (.head _);have Er:Errs K mg base (gm ([("OrderError",x1),("Ring",z)]:List (Str × Addr))) AY wc:=yJ (ps:=[("OrderError",x1),("Ring",z)]) (cs:=[("OrderError",x1),("Ring",z)]) eN (bS (.head _) (bS (.tail _ (.head _)) fc)) (bS (W.mg_of X G r1) (bS (W.mg_of X G r2) fc)) (bS ⟨K3,w6,y4,en,et,E0,C8,z2⟩ (bS ⟨B2,B0,I4,en,et,s0,I5,s4⟩ fc)) (show ("OrderError":Str)∈wc by decide +kernel) (bS (λh=>absurd rfl h) (bS (λ_=>(bS (k0.trans (congrArg some (show true=(("OrderError":Str)==("Ring":Str)||("OrderError":Str)==("OrderError":Str)) by decide +kernel))) (bS (q5.trans (congrArg some (show true=(("Ring":Str)==("Ring":Str)||("Ring":Str)==("OrderError":Str)) by decide +kernel))) fc))) fc)) (bS w1 (bS w2 fc)) (bS ⟨d0,ve XB o1,p1,(by rw[eO];exact u7)⟩ (bS ⟨e4,ve XB o2,p2,(by rw[eO];exact t9)⟩ fc)) (W.mg_none_of X G ev) (bS (λ_=>AR XB (W.mg_of X G r1) o1 u1 z5 C1) (bS (λh=>absurd (show ("Ring":Str)∈(["NoText","Ring","NoUnit"]:LS) by decide) h) fc));have c3:=vi (st:=fi) o9 A6 C0;have e7:=c3.binds (ps:=["self","ring"]) λ_ _ _ _ _ _ us hl=>by obtain⟨_,_,rfl⟩:=ar2 hl;rfl
 have c4:gm ([("OrderError",x1),("Ring",z)]:List (Str × Addr)) "Ring"=z:=iV (ps:=[("OrderError",x1),("Ring",z)]) eN ("Ring",z) (.tail _ (.head _));have b0:XSet K (gm ([("OrderError",x1),("Ring",z)]:List (Str × Addr)) "Ring") "ring":=c4.symm ▸ ⟨H1,B5,H2,o4,s0⟩;have i8:XGet K (gm ([("OrderError",x1),("Ring",z)]:List (Str × Addr)) "Ring") "ring":=⟨b0.na,b0.hd⟩
 have h0:MkI l.prog w K mg base 1 "Ring" (gm ([("OrderError",x1),("Ring",z)]:List (Str × Addr)) "Ring") ["self","ring"] (iM K "ring"):=c4.symm ▸ ⟨_,_,yp XB (W.mg_of X G r2) o2 u2 v3 F0 o9,j0,zp c3 B,e7⟩;have TP:=W.mg_of X G gD;have KP:KD l.prog w K D0 _:=ud [⟨"thing",j4,g7⟩,⟨"tie",g9,e8⟩,⟨"wait",i1,e6⟩,⟨"untie",g6,g1⟩,⟨"drop",g3,g2⟩,⟨"group",g5,g0⟩,⟨"open",g4,i5⟩,⟨"want",i6,i9⟩,⟨"unwant",i3,f0⟩] lD nD vv;have VP:=λ(wd:Str) (hw:wd="tie"∨wd="wait")=>(show ∃b,valueAt (List.map Ent.kv [⟨"thing",j4,g7⟩,⟨"tie",g9,e8⟩,⟨"wait",i1,e6⟩,⟨"untie",g6,g1⟩,⟨"drop",g3,g2⟩,⟨"group",g5,g0⟩,⟨"open",g4,i5⟩,⟨"want",i6,i9⟩,⟨"unwant",i3,f0⟩]) (.inr wd)=some (.ref b)/\∀H,SqT K H b [.str "name",.str "name"] by
  rcases hw with e | e <;> rw[e]
  ·exact⟨_,(eT (show ("thing":Str)≠"tie" by decide) fZ),tK I3 (Nat.le_of_ble_eq_true rfl) (.cons ⟨_,rfl⟩ (.cons ⟨_,rfl⟩ .nil))⟩
  ·exact⟨_,(eT (show ("thing":Str)≠"wait" by decide) (eT (show ("tie":Str)≠"wait" by decide) fZ)),tK v5 (Nat.le_of_ble_eq_true rfl) (.cons ⟨_,rfl⟩ (.cons ⟨_,rfl⟩ .nil))⟩)
 have TR:=W.mg_of X G gR;have KR:KD l.prog w K DR _:=ud [⟨"thing",j7,n2⟩,⟨"tie",k7,e1⟩,⟨"wait",m8,e1⟩,⟨"untie",q7,l1⟩,⟨"drop",p9,p7⟩,⟨"group",o3,l3⟩,⟨"open",q9,m1⟩,⟨"want",s2,r6⟩,⟨"unwant",k6,q0⟩] lR nR vv;have a5:=s1.cl l w base (zU s1.F B);have c:=n3.cl l w base (zh n3.F B);have b8:=h1.cl l w base (uT h1.F B Z);have y:=l2.cl l w base (Bm l2.F B);have b4:=j8.cl l w base (BA j8.F B y);have b3:=n0.cl l w base (yA n0.F B b8);have u:=p4.cl l w base (zu p4.F B Q TP KP VP y b3);have r:=m0.cl l w base (BG m0.F B b4 u);have c0:=j2.cl l w base (yS j2.F B a3 r);have F:=l0.cl l w base (wu l0.F B);have o:=j5.cl l w base (pM j5.F B);have c5:=o8.cl l w base (tz o8.F B);have a7:=l6.cl l w base (pO l6.F B);have O:=m9.cl l w base (wS m9.F B c);have J:=r9.cl l w base (vR r9.F B c);have a0:=r7.cl l w base (yZ r7.F B);have a:=l8.cl l w base (xh l8.F B a0);have m:=l5.cl l w base (uo l5.F B);have g:=j9.cl l w base (zw j9.F B a);have I:=o0.cl l w base (wg o0.F B c O J a g m);have M:=h4.cl l w base (rG h4.F B);have d:=h4.cl l w base (uJ h4.F B);have T:=l7.cl l w base (vS l7.F B);have q:=l4.cl l w base (sL l4.F B Q T);have k:=n1.cl l w base (wO n1.F B F q);have i:=o6.cl l w base (wZ o6.F B F q);have b9:=q6.cl l w base (uQ q6.F B o c5 M);have c2:=k1.cl l w base (zc k1.F B b9 i);have a8:=h2.cl l w base (vO h2.F B d);have c8:=h3.cl l w base (uA h3.F B d);have j:=n7.cl l w base (js n7.F B c8);have C:=h9.cl l w base (jU h9.F B a8);have f:=m4.cl l w base (tX m4.F B);have A:=h8.cl l w base (vp h8.F B a8);have i4:=h7.cl l w base (AM h7.F B f j A);have b7:=q3.cl l w base (rS q3.F B i4);have b6:=h5.cl l w base (sV h5.F B f C);have c6:=h6.cl l w base (tY h6.F B f j);have c1:=m7.cl l w base (vh m7.F B Q);have D:=k8.cl l w base (xj k8.F B Q i c1);have E:=k2.cl l w base (pq k2.F B k c2 b7 D);have b1:=n4.cl l w base (rY n4.F B d b6 c6);have a6:=j3.cl l w base (pL j3.F B e3 Q b1 d);have e0:=m3.cl l w base (vJ m3.F B);have p:=k9.cl l w base (xc k9.F B F);have n:=r4.cl l w base (xA r4.F B k);have e5:=e2.cl l w base (qi e2.F B x p n);have c7:=q4.cl l w base (sy q4.F B TR KR (λwd hw=>by rcases hw with e | e <;> rw[e];exact(eT (show ("thing":Str)≠"tie" by decide) fZ);exact(eT (show ("thing":Str)≠"wait" by decide) (eT (show ("tie":Str)≠"wait" by decide) fZ))) e2.F.kp (qi e2.F B x p n) e2.bn);have N:=r5.cl l w base (yt r5.F B E k a6 c2 o);have a4:=p6.cl l w base (sX p6.F B u c7 N);have a9:=k5.cl l w base (su k5.F B);have a2:=p8.cl l w base (rD p8.F B a9);have P:=r8.cl l w base (uZ r8.F B k a7 e0 o a2);have L:=p5.cl l w base (yC p5.F B P);have c9:=q8.cl l w base (xx q8.F B L);have b2:=j1.cl l w base (pH j1.F B);have t:=o7.cx l w base (xt o7.F B h0 b0 a4 c9);have b5:=n5.cx l w base (yX n5.F B c0 b2 t);have V:=m5.cl l w base (xv m5.F B a);have R:=r0.cl l w base (vI r0.F B a g V);have Y:=k3.cl l w base (wp k3.F B);have S:=n8.cl l w base (vQ n8.F B Q a g m Y);have a1:=l9.cl l w base (wT l9.F B c a);have U:=p0.cl l w base (zr p0.F B Er i8 b5);exact AJ m2 B a5 c I a1 R S U
theorem walk {l:W.OpenLaw}{q:Program}{G:LS}{U:(Str -> OV) -> Heap -> Prop}{I:World -> Heap -> Prop}{d:DefRec}{K:Params -> W.Frag}(i:l.most=some 63) (b:d.params.defaults=[])
    (g:∀(w:World) (h:Heap),I w h->(K w.params).In h)
    (F:∀(w:World) (mg:MS) (J:Addr) (h:Heap),(K w.params).In h->h.Ns mainGlobals mg->mg d.name=some (.ref J) ->
     ∃fd:FuncData,(∀(s:Shared) (u:Value),BindsTo s fd ⟨[u],[]⟩ [("_law_script",u)])/\∀base:Heap,(K w.params).In base->base.Ns mainGlobals mg->FnOk l.prog w (K w.params) mg base CX0 12 J fd ["_law_script"] (mS (K w.params))) :
    W.WalkO q G U I l.row.toRowW d [] (λf O=>PySem.call f O) :=
 L2.walk_of (n:=63) (k:=12) (x:="_law_script") (CX:=λ_=>CX0) (sp:=λw=>mS (K w.params)) i (by decide) b ⟨rfl,by decide,by decide,rfl⟩ g F (λ_ _ a e j _ c=>⟨a,e,rfl,c,λ_=>rfl⟩) λ_ _ _ _ _ z=>z
end
end K48
open PySem PySem.W PyProof.Rows
set_option maxRecDepth 100000 in
set_option maxHeartbeats 0 in
theorem PySem.Challenge.cw_orderkeep_k48_ties_kept_holds : PySem.Challenge.rw_orderkeep_k48_ties_kept.Holds := by
 w_on;o_law;k_head;(case hw=>w_witness2)
 k_fill
 refine K48.walk (l:=PySem.Challenge.rw_orderkeep_k48_ties_kept) rfl rfl (λw h Y=>W.km_in_of Y) ?F
 case F =>
  intro w mg fa h KX G hmg;refine' K48.all_mk KX G hmg (K48.fh_mk KX G ?_ ?_ ?_ ?_) (K48.fh_mk KX G ?_ ?_ ?_ ?_) (K48.fh_mk KX G ?_ ?_ ?_ ?_) (K48.fh_mk KX G ?_ ?_ ?_ ?_) (K48.fh_mk KX G ?_ ?_ ?_ ?_) (K48.fh_mk KX G ?_ ?_ ?_ ?_) (K48.fh_mk KX G ?_ ?_ ?_ ?_) (K48.fh_mk KX G ?_ ?_ ?_ ?_) (K48.fh_mk KX G ?_ ?_ ?_ ?_) (K48.fh_mk KX G ?_ ?_ ?_ ?_) (K48.fh_mk KX G ?_ ?_ ?_ ?_) (K48.fh_mk KX G ?_ ?_ ?_ ?_) (K48.fh_mk KX G ?_ ?_ ?_ ?_) (K48.fh_mk KX G ?_ ?_ ?_ ?_) (K48.fh_mk KX G ?_ ?_ ?_ ?_) (K48.fh_mk KX G ?_ ?_ ?_ ?_) (K48.fh_mk KX G ?_ ?_ ?_ ?_) (K48.fh_mk KX G ?_ ?_ ?_ ?_) (K48.fh_mk KX G ?_ ?_ ?_ ?_) (K48.fh_mk KX G ?_ ?_ ?_ ?_) (K48.fh_mk KX G ?_ ?_ ?_ ?_) (K48.fh_mk KX G ?_ ?_ ?_ ?_) (K48.fh_mk KX G ?_ ?_ ?_ ?_) (K48.fh_mk KX G ?_ ?_ ?_ ?_) (K48.fh_mk KX G ?_ ?_ ?_ ?_) (K48.fh_mk KX G ?_ ?_ ?_ ?_) (K48.fh_mk KX G ?_ ?_ ?_ ?_) (K48.fh_mk KX G ?_ ?_ ?_ ?_) (K48.fh_mk KX G ?_ ?_ ?_ ?_) (K48.fh_mk KX G ?_ ?_ ?_ ?_) (K48.fh_mk KX G ?_ ?_ ?_ ?_) (K48.fh_mk KX G ?_ ?_ ?_ ?_) (K48.fh_mk KX G ?_ ?_ ?_ ?_) (K48.fh_mk KX G ?_ ?_ ?_ ?_) (K48.fh_mk KX G ?_ ?_ ?_ ?_) (K48.fh_mk KX G ?_ ?_ ?_ ?_) (K48.fh_mk KX G ?_ ?_ ?_ ?_) (K48.fh_mk KX G ?_ ?_ ?_ ?_) (K48.fh_mk KX G ?_ ?_ ?_ ?_) (K48.fh_mk KX G ?_ ?_ ?_ ?_) (K48.fh_mk KX G ?_ ?_ ?_ ?_) (K48.fh_mk KX G ?_ ?_ ?_ ?_) (K48.fh_mk KX G ?_ ?_ ?_ ?_) (K48.fh_mk KX G ?_ ?_ ?_ ?_) (K48.fh_mk KX G ?_ ?_ ?_ ?_) (K48.fh_mk KX G ?_ ?_ ?_ ?_) (K48.fh_mk KX G ?_ ?_ ?_ ?_) (K48.fh_mk KX G ?_ ?_ ?_ ?_) (K48.fh_mk KX G ?_ ?_ ?_ ?_) (K48.fh_mk KX G ?_ ?_ ?_ ?_) (K48.fh_mk KX G ?_ ?_ ?_ ?_) (K48.fh_mk KX G ?_ ?_ ?_ ?_) (K48.fh_mk KX G ?_ ?_ ?_ ?_) (K48.fh_mk KX G ?_ ?_ ?_ ?_) (K48.fh_mk KX G ?_ ?_ ?_ ?_) (K48.fh_mk KX G ?_ ?_ ?_ ?_) (K48.fh_mk KX G ?_ ?_ ?_ ?_) (K48.fh_mk KX G ?_ ?_ ?_ ?_) (K48.fh_mk KX G ?_ ?_ ?_ ?_) (K48.fh_mk KX G ?_ ?_ ?_ ?_) (K48.fh_mk KX G ?_ ?_ ?_ ?_) (K48.fh_mk KX G ?_ ?_ ?_ ?_) (K48.fh_mk KX G ?_ ?_ ?_ ?_) (K48.fh_mk KX G ?_ ?_ ?_ ?_) ⟨W.mg_none_of KX G ?_,W.mg_none_of KX G ?_,W.mg_none_of KX G ?_,W.mg_none_of KX G ?_,W.mg_none_of KX G ?_,W.mg_none_of KX G ?_,W.mg_none_of KX G ?_,W.mg_none_of KX G ?_,W.mg_none_of KX G ?_,W.mg_none_of KX G ?_,W.mg_none_of KX G ?_,W.mg_none_of KX G ?_,W.mg_none_of KX G ?_,W.mg_none_of KX G ?_,W.mg_none_of KX G ?_⟩ (W.mg_none_of KX G ?_) (W.mg_none_of KX G ?_) ?_ ?_ ?_ ?_ ?_ ?_ ?_ ?_ ?_ ?_ ?_ ?_ ?_ ?_ ?_ ?_ ?_ ?_ ?_ ?_ ?_ ?_ ?_ ?_ ?_ ?_ ?_ ?_ ?_ ?_ ?_ ?_ ?_ ?_ ?_ ?_ ?_ ?_ ?_ ?_ ?_ ?_ ?_ ?_ ?_ ?_ ?_ ?_ ?_ ?_ ?_ ?_
  all_goals try k_is
  all_goals try kernel_rfl
  all_goals exact rfl
end
