import PyProof.Rows.All
import Wide.All
import OpenK.AllK
import Wide.FinOn
import Lean
import PyProof.EqAt
import PyProof.EqKinds
import PyProof.TupleCall
import KE.KMinKey
import PyProof.StationsW
import PyProof.ExcClass3
import OpenK.KOwn
import KE.KTryDeep
import KE.KIsAll
import PyProof.ExcAttrAll.ValueError
import PyProof.ExcBaseAll.ValueError
import PyProof.FactsAll.tuple_2
import PyProof.CollectIter
import PyProof.TupleOfGen
import PyProof.InstStoreFacts
import PyProof.AttrMissHeap
import KE.KDictOf
import PyProof.StrOps2
import PyProof.DictWalks
import KE.KDictList
import PyProof.Rows.ZipGen
import PySem.Challenge.RW_orderkeep_k26_webs_and_weights_refused
namespace PySem.W.Fast
def tw11703710799274164297:=0
def tw12971015477231631716:=0
def tw16637051698770412097:=0
def tw8719682994160825907:=0
def tw16894578280526266836:=0
def tw14761852666063738021:=0
def tw212688496889815367:=0
def tw13924169684405373146:=0
def tw9993803314208409400:=0
def tw18439844995507313675:=0
def tw7967888741397563612:=0
def tw12320998935725754103:=0
def tw8452887420277069468:=0
def tw14156222238654823581:=0
def tw921291782976103385:=0
def tw17857849326205506415:=0
def tw10529456992050691375:=0
def tw14964804228241190186:=0
def tw5494321273300484958:=0
def tw1328492043095332383:=0
def tw10385277036765823973:=0
def tw6518201695371975886:=0
def tw17828117759600329745:=0
def tw17756946573230226228:=0
def tw11261300265003436069:=0
def tw2241224530978773678:=0
def tw6141483062771904811:=0
def tw4004189613845776755:=0
def tw754683915997143444:=0
def tw7205022150631201150:=0
def tw9357337956106571581:=0
def tw13477641579520877227:=0
def tw2039349153462363257:=0
def tw14561156767478944889:=0
def tw13338985804121378137:=0
def tw17193048823310433884:=0
def tw6029076655429202492:=0
def tw5413447977845248954:=0
def tw1365712631832036357:=0
def tw10128552921837062893:=0
def tw6776432075847755394:=0
def tw6177504843312097536:=0
def tw12727774573252164319:=0
def tw12575424854822449453:=0
def tw17920539767715437237:=0
def tw6678298699461099344:=0
def tw18292185319314140656:=0
def tw848267445310626927:=0
def tw4004385435709654097:=0
def tw16041026018522784271:=0
def tw7953809055042715543:=0
def tw9824563447083795225:=0
def tw13223201730531312847:=0
def tw10270997659112758440:=0
def tw14736456902838565273:=0
def tw3502591568510088302:=0
def tw625263617110527880:=0
def tw9110624625502047795:=0
def tw2698645695255276735:=0
def tw13451134163903345244:=0
def tw10567460673042477339:=0
def tw14634307514848390479:=0
def tw14618818141210218050:=0
def tw2573700397654002642:=0
def tw3343115663548729734:=0
def tw8060044879761358180:=0
def tw9192034618221366927:=0
def tw12502962196272012385:=0
def tw16638959644867484524:=0
def tw3343473342835844930:=0
def tw13888271300937415546:=0
def tw3187026105378114569:=0
def tw6271872053558727346:=0
def tw13785252056415193077:=0
def tw14938994395494254928:=0
def tw8806999402185793759:=0
def tw14594224160331635462:=0
def tw15972966690439760392:=0
def tw2343227695742572813:=0
def tw953808424893985140:=0
def tw6234812033308993331:=0
def tw10147926343391629081:=0
def tw5666641523581971187:=0
def tw17862986020617336641:=0
def tw1620953174726333599:=0
def tw15579221185713014162:=0
def tw159109117271474802:=0
def tw15149911357165640684:=0
def tw8768944490208202745:=0
def tw6913038828958546887:=0
def tw16641194131182396204:=0
def tw16666530029985294108:=0
def tw11444548665558750877:=0
def tw9221443453727175861:=0
def tw1032107962630998384:=0
def tw4235478273737168636:=0
def tw9099538915293364949:=0
def tw2406798423320005395:=0
def tw12779489080045261665:=0
def tw100210827817764172:=0
def tw12062106252171403060:=0
def tw7635190204117603759:=0
def tw8657096083378961298:=0
def tw1019434799952970808:=0
def tw5230059632674768139:=0
def tw1621430862881331206:=0
def tw563022984895559611:=0
def tw5081029835347602802:=0
def tw15707308061184007732:=0
def tw16756987781161512911:=0
def tw7670123880467068254:=0
def tw16722031421167443327:=0
def tw2164784561949600618:=0
def tw12919892007476135674:=0
def tw1450978678582101802:=0
def tw8913567449513573740:=0
def tw11427651189744625157:=0
def tw3695808813465379509:=0
def tw13277905510480398812:=0
def tw17440966619325637200:=0
def tw11027944275873491406:=0
def tw7439956738366225494:=0
def tw10678203822017368072:=0
def tw8557333180819285452:=0
def tw11974497860517640091:=0
def tw5646877295267449895:=0
def tw8883669843609884860:=0
def tw12808169426942421891:=0
def tw10406996239434529889:=0
def tw1371816711173666492:=0
def tw2058539250361323129:=0
def tw8780436764276336129:=0
def tw535209184732293568:=0
def tw6208400541330320397:=0
def tw14000203833028121476:=0
def tw11349550029904917554:=0
def tw318210010661475721:=0
def tw6867556050876819002:=0
def tw13428068341971223012:=0
def tw15276775104706271681:=0
def tw17603301574434635844:=0
def tw16381232976084901083:=0
def tw15102232323815778660:=0
def tw15469006216317181401:=0
def tw13833675055710928157:=0
def tw8166507548192995091:=0
def tw11634857526375874779:=0
def tw4266336218631744068:=0
def tw7327494391107460357:=0
def tw17329157192211737507:=0
def tw6484795796151444359:=0
def tw9996113387694702364:=0
def tw8452549680655364181:=0
def tw7515869773656962858:=0
def tw9590818607250665592:=0
def tw15689698784479737626:=0
def tw74785121728036496:=0
def tw16423942205832029964:=0
def tw11736651963374827163:=0
def tw10091833309362607953:=0
def tw1102338301937663411:=0
def tw6834236419273328542:=0
def tw2951512976422143116:=0
def tw12219844222799943780:=0
def tw12695439030467504335:=0
def tw4587591995305248047:=0
def tw7140551606880535747:=0
def tw7891184381250861676:=0
def tw11323396812687872497:=0
def tw868123029343947929:=0
def tw6493654029355893219:=0
def tw5028322333830000476:=0
def tw6239002617693608209:=0
def tw8062797029074920676:=0
def tw5675238714768879530:=0
def tw6510587781910365110:=0
def tw3387207086564901001:=0
def tw15394446689245253885:=0
def tw16382442187365860197:=0
def tw14385579114852617967:=0
def tw14885678493650560316:=0
def tw8553093433642276258:=0
def tw1196185566447836372:=0
def tw10968983753668902995:=0
def tw8722204827639459775:=0
def tw11884852503555241921:=0
def tw530873530967390364:=0
def tw8900679839826576794:=0
def tw14425998436203594226:=0
def tw5647015189302896186:=0
def tw12435131555279328569:=0
def tw16580222315326249565:=0
def tw17419056365431358621:=0
def tw10037830930531033235:=0
def tw12258387217020749483:=0
def tw6588215093991746217:=0
def tw16454408631093600426:=0
def tw6441968368290784089:=0
def tw9203022198530505158:=0
def tw12592370386226832655:=0
def tw14317862919125919542:=0
def tw3097700366469334250:=0
def tw13175471386796440234:=0
def tw9640980806239062806:=0
def tw10223696550601659062:=0
def tw149909743447649528:=0
def tw1746356727697510071:=0
def tw2122485838652427888:=0
def tw6490209077764614267:=0
def tw4774162925728523182:=0
def tw6003641338704064312:=0
def tw15296322134720885001:=0
def tw5506816798580316161:=0
def tw8882916382564361106:=0
def tw1097609869736129820:=0
def tw1466690651111905777:=0
def tw1557859770417982440:=0
def tw5821811553296812699:=0
def tw18219502938661366309:=0
def tw4963895052289801414:=0
def tw7027850797610922630:=0
def tw3376063091998885113:=0
def tw150412956073823526:=0
def tw342324290793876790:=0
def tw16683675644094922528:=0
def tw2262599565754749444:=0
def tw17206943844072027341:=0
def tw8707034441347518256:=0
def tw13275467606174215228:=0
def tw8051229866149441810:=0
def tw6654770297579051078:=0
def tw5477973712986249359:=0
def tw2914295069819212491:=0
def tw13788829341509249723:=0
def tw14135487772765690957:=0
def tw7582819431970969896:=0
def tw14956150988923343098:=0
def tw5177385689446051523:=0
def tw5321391948716890530:=0
def tw3540240188723214186:=0
def tw9531508311150644257:=0
def tw6051545030961685460:=0
def tw10926301225971724597:=0
def tw7577676382638039764:=0
def tw17364820014715796163:=0
def tw4824463231459375679:=0
def tw18405292151697091529:=0
def tw17354430148572642413:=0
def tw229917522729441307:=0
def tw8564417658093853672:=0
def tw13768044368945677759:=0
def tw11973801222190613242:=0
def tw3526900768337486315:=0
def tw10835516321919314812:=0
def tw14723554645554063914:=0
def tw7791579901685259212:=0
def tw16223262985931003813:=0
def tw10289183800622266841:=0
def tw6620638270522156648:=0
def tw1518615086650422116:=0
def tw15354949336471826603:=0
def tw12242874421684529254:=0
def tw6225495530671716801:=0
def tw15723011528032721446:=0
def tw15754812667930390401:=0
def tw10083847319599189545:=0
def tw6514620150310192469:=0
def tw5125748718680227950:=0
def tw9734761233925057560:=0
def tw12433059426758665801:=0
def tw8322402760627069218:=0
def tw6812159496494741946:=0
def tw9408265687374364072:=0
def tw9005971777429880996:=0
def tw17381189294237041752:=0
def tw11003843688992380896:=0
def tw10180192316411624747:=0
def tw1630290275519635032:=0
def tw1683163742218492803:=0
def tw12303994596900683079:=0
def tw4134823861075413910:=0
def tw11739140268338134968:=0
def tw3044304311865276741:=0
def tw13153218510715328661:=0
def tw13489194177007296141:=0
def tw14461102023396598355:=0
def tw2695051394413074145:=0
def tw2269780520575388230:=0
def tw16468560719764738789:=0
def tw6433698872358403092:=0
def tw18293781836769711864:=0
def tw18334605635729112492:=0
def tw8381024250631463453:=0
def tw1706308260711977411:=0
def tw8278751775154183878:=0
def tw3921508146065292418:=0
def tw12872232961453306432:=0
def tw1927593346886255696:=0
def tw15871874196795901257:=0
def tw17902609060053783148:=0
def tw4878888289973791266:=0
def tw15171383436173308804:=0
def tw12873057073624830481:=0
def tw11653825324933275024:=0
def tw13408088338621666454:=0
def tw7081342175642669725:=0
def tw11043811730394991353:=0
def tw13295768895077846263:=0
def tw3862520845699456561:=0
def tw14738889794883262826:=0
def tw7526057934462562807:=0
def tw9206356854815378195:=0
def tw1485272378265510055:=0
def tw352831122703679260:=0
def tw1259904125961640340:=0
def tw14591232565325157668:=0
def tw8424496080529540169:=0
def tw9173472605255043450:=0
def tw3266048793677159244:=0
def tw8474614161119503839:=0
def tw11216803387825615614:=0
def tw1445477399156281810:=0
def tw10811820596532820100:=0
def tw6270470651764232207:=0
def tw12870560087546524442:=0
def tw16440384134091486192:=0
def tw2577474828950067985:=0
def tw15814246135217812902:=0
def tw15294243657723406439:=0
def tw7981417074035889934:=0
def tw16724451577816359067:=0
def tw563908769084604978:=0
def tw15102577910944540330:=0
def tw4944593689872580395:=0
def tw9066970052439563283:=0
def tw1765966842443149125:=0
def tw4863345813342130:=0
def tw1298781960924894101:=0
def tw3822156980706619159:=0
def tw14208776129672910152:=0
def tw4946174838026914283:=0
def tw12850630141843971077:=0
def tw14152406744332280275:=0
def tw15066452055772154414:=0
def tw6932320928755072385:=0
def tw7315942912630702230:=0
def tw16684987957160821333:=0
def tw11675255322603888772:=0
def tw8374584222937772660:=0
def tw11391967574548094272:=0
def tw14092007346811846704:=0
def tw910938866692797471:=0
def tw5119231972128025828:=0
def tw10005860630468652106:=0
def tw5531677544769194072:=0
def tw11755290416921028164:=0
def tw14319389112842198752:=0
def tw4085662199927283839:=0
def tw2241165402233435207:=0
def tw2505077671687123883:=0
def tw13963885907020355910:=0
def tw14483312741845559532:=0
def tw17628158286534438611:=0
def tw8253687995777126318:=0
def tw16569014646991153005:=0
def tw2608316844388736820:=0
def tw17592829505333400326:=0
def tw7076342672731013223:=0
def tw12244847034565767626:=0
def tw12311343845036904385:=0
def tw7929560889521165284:=0
def tw15425751241205416529:=0
def tw15940618794423798457:=0
def tw14164772682442478148:=0
def tw4488216999024027063:=0
def tw1899375222921907764:=0
def tw8662578320874786360:=0
def tw1804445399077635589:=0
def tw5389851611180159700:=0
def tw10285771394551196037:=0
def tw3027890602104766891:=0
def tw8233894815337219995:=0
def tw18101304206359432126:=0
def tw1203699616723978545:=0
def tw7368585142644519897:=0
def tw9473606197536601403:=0
def tw4917492451454964826:=0
def tw6902008595962032460:=0
def tw1667126841864888573:=0
def tw2584558436684733837:=0
def tw16525429730505698813:=0
def tw2574833705774171539:=0
def tw6818385703068695253:=0
def tw411099415732405119:=0
def tw762517230645093456:=0
def tw5385959433827236718:=0
def tw3807120033703361493:=0
def tw3994575537860214002:=0
def tw11777785876928220685:=0
def tw10413566464378816921:=0
def tw9229103857374272487:=0
def tw3873523697547112551:=0
def tw17551446604782704063:=0
def tw12924897467590012573:=0
def tw7083216979616953033:=0
def tw13218817202688228519:=0
def tw7033260269511399957:=0
def tw1198364058108563433:=0
def tw14718667499315763444:=0
def tw14847118702276415115:=0
def tw16239206131186469479:=0
def tw18028176609623913503:=0
def tw11102988174703187678:=0
def tw4765405338823617857:=0
def tw9869832716438511005:=0
def tw10578227003406287729:=0
def tw2242258165386801852:=0
def tw15171830064886639298:=0
def tw3738792992016794210:=0
def tw8389057820882754002:=0
def tw6386764841877682324:=0
def tw12815906622675077738:=0
def tw911161658630665188:=0
def tw12136571639353579757:=0
def tw2263610856201321095:=0
def tw14882241461447236357:=0
def tw16807510232406525510:=0
def tw4762321113160378563:=0
def tw5308916346270698391:=0
def tw13218678040344202206:=0
def tw17373572859864042256:=0
def tw7416937587175651674:=0
def tw4722583390193099589:=0
def tw4497954597809746097:=0
def tw16801136208150676800:=0
def tw5781518918273070640:=0
def tw2082353576091143786:=0
def tw7179257465961274135:=0
def tw15069886660660926742:=0
def tw18409821105004982841:=0
def tw13361252007200302478:=0
def tw10661514522193247996:=0
def tw2915055260997589200:=0
def tw17277339754263044862:=0
def tw7477630948198679866:=0
def tw4903108905071513766:=0
def tw12214879674489247972:=0
def tw8945745074144971588:=0
def tw5200356677169036634:=0
def tw13405635965250534090:=0
def tw6551870152960170462:=0
def tw6075529047688822498:=0
def tw5646170006132535370:=0
def tw3049508105580356316:=0
def tw17821444964145218069:=0
def tw425941072967230872:=0
def tw1164431490667184486:=0
def tw8066655274900396989:=0
def tw3638654736393603845:=0
def tw16419864562790195845:=0
def tw1414266019010152016:=0
def tw15785619296086571713:=0
def tw12311977286122048054:=0
def tw5137933212787611517:=0
def tw11795941427040702805:=0
def tw7641353080126792730:=0
def tw5320264189773231401:=0
def tw4445941272526901311:=0
def tw16794619057990129182:=0
def tw5997787107267485861:=0
def tw3340030245318583464:=0
def tw6080610490312717174:=0
def tw18210782910445829906:=0
def tw10655859332955504729:=0
def tw13487239063721715247:=0
def tw13806647624403624782:=0
def tw17845464302503200746:=0
def tw16026571481012102825:=0
def tw6905787024614642391:=0
def tw17763570120695179392:=0
def tw1694753701822264981:=0
def tw7955287540592721190:=0
def tw11979567280601660561:=0
def tw10211272917625827701:=0
def tw1267420566324980652:=0
def tw4760735928560597948:=0
def tw6298144358113694295:=0
def tw3854504362236641002:=0
def tw11685969851207246405:=0
def tw11509708305090195167:=0
def tw5475002393269840437:=0
def tw787881314939721255:=0
def tw2504952769502234026:=0
def tw2191667576461351692:=0
def tw13813740178492556472:=0
def tw9992790690279038987:=0
def tw18122968897146339556:=0
def tw11061060501612139446:=0
def tw11095899404442822371:=0
def tw6796958998007334349:=0
def tw13049697488225734799:=0
def tw2770160594859967293:=0
def tw9759580650534980643:=0
def tw3685432407691621037:=0
def tw194177146333847020:=0
def tw12171734699125513124:=0
def tw6567331166907302202:=0
def tw6282748442355024135:=0
def tw13561305402522798875:=0
def tw11475737036124441321:=0
def tw8476621558046361789:=0
def tw15758278979754445923:=0
def tw7594447345953007384:=0
def tw8511105690803074970:=0
def tw5340529978316106700:=0
def tw2117067711434144112:=0
def tw8694274062819931426:=0
def tw7434698865036922642:=0
def tw6476988789644548827:=0
def tw5097274843425260021:=0
def tw13431125188974159003:=0
def tw15312630782822128812:=0
def tw17769565632447875564:=0
def tw11451457453396959236:=0
def tw17560444423497969286:=0
def tw1474217702928253871:=0
def tw6970689838257529903:=0
def tw809771934097064816:=0
def tw8425828589635382391:=0
def tw17194530614920509861:=0
def tw1626444102484933582:=0
def tw4206342457661933985:=0
def tw14650155442393378690:=0
def tw8931825804168752720:=0
def tw15293446776634555309:=0
def tw11881580490055480792:=0
def tw2621640211908179102:=0
def tw13441614605560417009:=0
end PySem.W.Fast
section
open PySem PySem.Spec PyProof.Rows
abbrev aa:=@wpAny_bind
abbrev ac:=@List.length_map
abbrev ad:=@Nat.le_refl
abbrev ae:=@wpAny_pure
abbrev af:=@Option.some.inj
abbrev ag:=@Heap.lt_size
abbrev ah:=@Heap.get?_push_of_some
abbrev ai:=@List.getElem?_eq_some_iff
abbrev aj:=@List.map_append
abbrev ak:=@Nat.ne_of_lt
abbrev al:=@List.getElem?_map
abbrev am:=@List.mem_cons
abbrev ao:=@decide_eq_true
abbrev ap:=@Heap.get?_push_size
abbrev aq:=@List.mem_map
abbrev ar:=@List.mem_append
abbrev au:=@of_decide_eq_true
abbrev av:=@List.mem_of_getElem?
abbrev aw:=@List.mem_filter
abbrev az:=@List.length_append
abbrev aA:=@List.take_add_one
abbrev aB:=@List.take_of_length_le
abbrev aD:=@Nat.lt_of_lt_of_le
abbrev aE:=@List.mem_append_right
abbrev aF:=@List.length_take
abbrev aG:=@List.getElem?_eq_getElem
abbrev aH:=@Bool.false_ne_true
abbrev aI:=@List.mem_singleton
abbrev aJ:=@wpAny_holding
abbrev aK:=@List.size_toArray
abbrev aL:=@wpAny_field
abbrev aM:=@List.mem_cons_of_mem
abbrev aN:=@List.length_cons
abbrev aO:=@wpAny_mono
abbrev aQ:=@List.getD_eq_getElem?_getD
abbrev aR:=@List.mem_range
abbrev aS:=@Nat.le_of_lt
abbrev aT:=@Nat.zero_le
abbrev aU:=@List.nodup_cons
abbrev aV:=@List.map_map
abbrev aW:=@wpAny_seqItems
abbrev aX:=@Nat.le_trans
abbrev aY:=@List.lookup_cons
abbrev aZ:=@List.map_cons
abbrev ba:=@decide_eq_false
abbrev bb:=@Nat.lt_irrefl
abbrev bd:=@List.length_filter_le
abbrev be:=@List.filter_append
abbrev bf:=@Int.eq_ofNat_of_zero_le
abbrev bg:=@wpAny_setField_rec
abbrev bh:=@List.all_eq_true
abbrev bi:=@Int.emod_nonneg
abbrev bj:=@List.length_range
abbrev bn:=@Bool.eq_iff_iff
abbrev bo:=@Bool.and_eq_true
abbrev bp:=@List.forIn_cons
abbrev bq:=@Heap.size_push
abbrev br:=@Int.emod_lt_of_pos
abbrev bv:=@Option.isSome_iff_exists
abbrev bw:=@List.getElem?_append_right
abbrev bz:=@List.nodup_nil
abbrev bA:=@List.forIn_nil
abbrev bB:=@Array.length_toList
abbrev bC:=@Nat.ne_of_gt
abbrev bD:=@wpAny_pyIter_tuple
abbrev bE:=@List.append_nil
abbrev bF:=@wpAny_Call_Name_kw
abbrev bG:=@List.getElem?_append_left
abbrev bH:=@Int.toNat_natCast
abbrev bL:=@Nat.le_succ
abbrev bM:=@List.mem_cons_self
abbrev bO:=@List.length_drop
abbrev bP:=@List.any_cons
abbrev bQ:=@Bool.false_eq_true
abbrev bR:=@List.mem_iff_getElem
abbrev bU:=@List.getElem_mem
abbrev bV:=@List.filter_cons_of_pos
abbrev bW:=@List.not_mem_nil
abbrev bX:=@List.mem_filterMap
abbrev bY:=@List.length_replicate
abbrev bZ:=@List.find?_cons
abbrev cb:=@Option.map_some
abbrev cc:=@List.getElem?_of_mem
abbrev ce:=@Array.toList_append
abbrev cg:=@List.map_take
abbrev ci:=@List.mem_append_left
abbrev ck:=@Heap.get?_update_self
abbrev cm:=@Heap.get?_update_other
abbrev cn:=@List.replicate_succ
abbrev cp:=@List.filter_cons_of_neg
abbrev cq:=@Array.getElem?_eq_some_iff
abbrev cr:=@List.getElem?_eq_none
abbrev cu:=@List.dropLast_eq_take
abbrev cw:=@Heap.get?_none_of_le
abbrev cx:=@List.getElem?_take_of_lt
abbrev cy:=@List.mem_of_mem_take
abbrev cz:=@List.replicate_succ'
abbrev cA:=@List.length_dropLast
abbrev cB:=@List.exists_cons_of_length_eq_add_one
end
noncomputable section
set_option Elab.async false
set_option linter.all false
set_option maxRecDepth 100000
namespace L2
open PySem PySem.Spec PyProof.Rows
abbrev Key:=Sum Int Str
def kF:Key->Value->Bool
 | .inl k,v=>Value.isInt k v
 | .inr x,v=>Value.isStrOf x v
def keyH (w:World):Key->Int
 | .inl k=>hashInt k
 | .inr x=>hashStr w x
theorem ef:∀ {k:Key}{v:Value},kF k v=true->(∃i t,k=Sum.inl i/\v=Value.int i t)∨(∃x t,k=Sum.inr x/\v=Value.str x t)
 | .inl i,v,h=>by
  obtain⟨t,e⟩:=Value.isInt_shape (k:=i) (v:=v) h
  exact .inl ⟨i,t,rfl,e⟩
 | .inr x,v,h=>by
  obtain⟨t,e⟩:=Value.isStrOf_shape (x:=x) (v:=v) h
  exact .inr ⟨x,t,rfl,e⟩
theorem sx (i:Int) (t:Tok):kF (.inl i) (.int i t)=true:=by simp[kF,Value.isInt]
theorem sU (x:Str) (t:Tok):kF (.inr x) (.str x t)=true:=by simp[kF,Value.isStrOf]
theorem yt (a b:Int):decide ((Sum.inl a:Key)=Sum.inl b)=(a==b):=by
 by_cases e:a=b
 ·subst e;simp
 ·have h:¬ (Sum.inl a:Key)=Sum.inl b:=fun q=>e (Sum.inl.inj q)
  rw[ba h]
  exact(beq_eq_false_iff_ne.mpr e).symm
theorem yD (a b:Str):decide ((Sum.inr a:Key)=Sum.inr b)=decide (a=b):=by
 by_cases e:a=b
 ·subst e;simp
 ·have h:¬ (Sum.inr a:Key)=Sum.inr b:=fun q=>e (Sum.inr.inj q)
  rw[ba h,ba e]
theorem yo (a:Int) (b:Str):decide ((Sum.inl a:Key)=Sum.inr b)=false:=ba (fun q=>nomatch q)
theorem yP (a:Str) (b:Int):decide ((Sum.inr a:Key)=Sum.inl b)=false:=ba (fun q=>nomatch q)
def dW (prog:Program) (w:World):PySem.KeyKind prog w Key where
 is:=kF
 hash:=keyH w
 inj:=fun v a b ha hb=>by
  rcases ef ha with⟨i,t,rfl,rfl⟩ | ⟨x,t,rfl,rfl⟩
  ·rcases ef hb with⟨j,u,rfl,e⟩ | ⟨y,u,rfl,e⟩
   ·injection e with e1 _;rw[e1]
   ·exact nomatch e
  ·rcases ef hb with⟨j,u,rfl,e⟩ | ⟨y,u,rfl,e⟩
   ·exact nomatch e
   ·injection e with e1 _;rw[e1]
 byValue:=fun k v h=>by
  rcases ef h with⟨i,t,rfl,rfl⟩ | ⟨x,t,rfl,rfl⟩ <;> rfl
 pyHash:=fun hv h=>by
  rcases ef hv with⟨i,t,rfl,rfl⟩ | ⟨x,t,rfl,rfl⟩
  ·exact wpAny_pyHash_int h
  ·exact wpAny_pyHash_str h
 eqBool:=fun hu hv h=>by
  rcases ef hu with⟨i,t,rfl,rfl⟩ | ⟨x,t,rfl,rfl⟩
  ·rcases ef hv with⟨j,u,rfl,rfl⟩ | ⟨y,u,rfl,rfl⟩
   ·rw[yt] at h;exact wpAny_eqBool_int h
   ·rw[yo] at h;exact SeqAt.EqAt.int_str i t y u _ _ _ _ h
  ·rcases ef hv with⟨j,u,rfl,rfl⟩ | ⟨y,u,rfl,rfl⟩
   ·rw[yP] at h;exact SeqAt.EqAt.str_int x t j u _ _ _ _ h
   ·rw[yD] at h;exact wpAny_eqBool_str h
 «strs»:=fun k x t v h=>by
  rcases ef h with⟨i,u,rfl,e⟩ | ⟨y,u,rfl,e⟩
  ·exact nomatch e
  ·injection e with e1 _
   subst e1
   cases v <;> rfl
theorem pG (prog:Program) (w:World) (i:Int) (t:Tok):(dW prog w).is (.inl i) (.int i t)=true:=sx i t
theorem pw (prog:Program) (w:World) (x:Str) (t:Tok):(dW prog w).is (.inr x) (.str x t)=true:=sU x t
inductive V where
 | non | bl (b:Bool) | int (i:Int) | str (x:Str) | byt (b:Array UInt8) | flt (b:UInt64) | ref (a:Addr) | ty (n:String)
 deriving DecidableEq
def RelV:V->Value->Prop
 | .non,u=>u=Value.none
 | .bl b,u=>u=Value.bool b
 | .int i,u=>∃t,u=Value.int i t
 | .str x,u=>∃t,u=Value.str x t
 | .byt b,u=>∃t,u=Value.bytes b t
 | .flt b,u=>∃t,u=Value.float b t
 | .ref a,u=>u=Value.ref a
 | .ty n,u=>u=Value.type n
abbrev Vals:List V->List Value->Prop:=Paired RelV
theorem Vals.length {xs:List V}{us:List Value}(r:Vals xs us):xs.length=us.length:=Paired.length r
theorem Vals.get:∀ {xs:List V}{us:List Value}{i:Nat}{x:V},Vals xs us->xs[i]? = some x->∃u,us[i]? = some u/\RelV x u
 | _,_,_,_,.nil,e=>by simp at e
 | _,_,0,_,.cons r _,e=>by simp at e;subst e;exact⟨_,rfl,r⟩
 | _,_,i+1,x,.cons _ t,e=>by
  obtain⟨u,h1,h2⟩:=Vals.get (i:=i) (x:=x) t (by simpa using e)
  exact⟨u,by simpa using h1,h2⟩
theorem Vals.set {x:V}{u:Value}(r:RelV x u):∀ {xs:List V}{us:List Value}(i:Nat),Vals xs us->Vals (xs.set i x) (us.set i u)
 | _,_,_,.nil=>.nil
 | _,_,0,.cons _ t=>.cons r t
 | _,_,i+1,.cons q t=>.cons q (Vals.set r i t)
theorem Vals.append:∀ {xs ys:List V}{us ws:List Value},Vals xs us->Vals ys ws->Vals (xs++ys) (us++ws)
 | _,_,_,_,.nil,s=>s
 | _,_,_,_,.cons r t,s=>.cons r (Vals.append t s)
theorem Vals.take:∀ {xs:List V}{us:List Value}(n:Nat),Vals xs us->Vals (xs.take n) (us.take n)
 | _,_,0,_=>.nil
 | _,_,_+1,.nil=>.nil
 | _,_,n+1,.cons r t=>.cons r (Vals.take n t)
theorem Vals.drop:∀ {xs:List V}{us:List Value}(n:Nat),Vals xs us->Vals (xs.drop n) (us.drop n)
 | _,_,0,r=>r
 | _,_,_+1,.nil=>.nil
 | _,_,n+1,.cons _ t=>Vals.drop n t
def RelO:Option V->Option Value->Prop
 | some v,some u=>RelV v u
 | none,none=>True
 | _,_=>False
def KV {κ:Type}:List (κ × V)->List (κ × Value)->Prop:=Paired fun (p:κ × V) (q:κ × Value)=>p.1=q.1/\RelV p.2 q.2
def kV:Key->V
 | .inl i=>.int i
 | .inr x=>.str x
inductive HO where
    | lst (xs:List V)
    | tup (xs:List V)
    | dK (kvs:List (Key × V)) | dT (kvs:List (List Key × V))
    | set (S:Int->Bool) (n:Nat)
    | ins (C dx:Addr) (fs:List (Str × V))
    | own (x:Addr)
    | xd (fs:List (Str × V))
    | met (f x:Addr)
    | rng (lo hi:Int)
    | frz (o:Obj) (u:HO)
    | tbl (ps:Array Value)
    | ext (φ:Heap->Prop)
abbrev Hp:=Addr->Option HO
def upd (H:Hp) (a:Addr) (o:HO):Hp:=fun b=>if b=a then some o else H b
theorem cF {H:Hp}{a:Addr}{o:HO}:upd H a o a=some o:=by unfold upd;rw[if_pos rfl]
theorem cH {H:Hp}{a b:Addr}{o:HO}(h:b≠a):upd H a o b=H b:=by unfold upd;rw[if_neg h]
theorem xh {H:Hp}{a:Addr}{o u:HO}:upd (upd H a o) a u=upd H a u:=by
 funext b;unfold upd;split <;> rfl
theorem ft {H:Hp}{a b:Addr}{o u:HO}(h:H a=some o) (h':H b=some u) (d:o≠u):a≠b:=by
 intro e;subst e;rw[h] at h';exact d (af h')
theorem cL {H:Hp}{a b:Addr}{o:HO}(h:H a=some o) (h':H b=none):a≠b:=by
 intro e;subst e;rw[h] at h';cases h'
def TupN (h:Heap) (a:Addr) (items:Array Value):Prop:=∃o,h.get? a=some o/\o.cls=.type "tuple"/\∃n,o.data=.seq items n/\o.dict=none
theorem TupN.tup {h:Heap}{a:Addr}{items:Array Value}(x:TupN h a items):IsTup h a items:=let ⟨o,e,c,n,d,_⟩:=x;⟨o,e,c,n,d⟩
theorem TupN.new (h:Heap) (items:Array Value):TupN (h.push { cls:=.type "tuple",data:=.seq items }) h.objs.size items:=⟨_,ap _ rfl,rfl,_,rfl,rfl⟩
section
variable (P:Program) (w:World)
def ObjOk (H:Hp) (h:Heap) (a:Addr):HO -> Prop
 | .lst xs=>xs.length<=sizeLine/\∃(its:List Value) (n:Nat),Vals xs its/\h.get? a=some { cls:=.type "list",data:=.seq its.toArray n }
 | .tup xs=>xs.length<=sizeLine/\∃its:List Value,Vals xs its/\TupN h a its.toArray
 | .dK kvs=>kvs.length<=sizeLine/\(a==sysModules)=false/\∃vs,KV kvs vs/\h.DictOf (dW P w) a vs
 | .dT kvs=>kvs.length<=sizeLine/\(a==sysModules)=false/\∃xs:List (List Key × Addr × Value),
     Paired (fun (p:List Key × V) (q:List Key × Addr × Value)=>p.1=q.1/\H q.2.1=some (.tup (p.1.map kV))/\RelV p.2 q.2.2) kvs xs /\
     ∃o es ep,h.get? a=some o/\o.ExactDict/\o.data=.dict es ep/\es.toList=xs.map (entryOfKey (tupleKind (dW P w)))/\(xs.map (·.1)).Nodup
 | .set S n=>h.SetOf (intKind P w) a S n
 | .ins C dx fs=>H dx=some (.own a)/\fs.length<=1000/\dx≠a/\h.get? a=some (W.instObj C dx) /\
     ∃mA,h.Ns1 dx mA/\(∀f,RelO (fs.lookup f) (mA f))/\PySem.Within mA (fs.map (·.1))
 | .own _=>∃o,h.get? a=some o
 | .xd fs=>∃mA,h.Ns1 a mA/\∀f,RelO (fs.lookup f) (mA f)
 | .rng lo hi=>∃t u v,h.get? a=some { cls:=.type "range",data:=.fields #[.int lo t,.int hi u,.int 1 v] }
 | .frz o u=>h.get? a=some o/\ObjOk H h a u
 | .tbl ps=>h.get? a=some { cls:=.none,data:=.fields ps }
 | .met f x=>h.get? a=some (W.methodObj (.ref f) (.ref x))
 | .ext φ=>φ h/\(∃o,h.get? a=some o)/\∀h1 h2:Heap,φ h1->(∀o,h1.get? a=some o->h2.get? a=some o)->φ h2
def HOk (H:Hp) (h:Heap):Prop:=∀a o,H a=some o->ObjOk P w H h a o
end
section
variable {P:Program}{w:World}{H H':Hp}{h h':Heap}{a:Addr}{o:HO}
theorem ObjOk.lt (x:ObjOk P w H h a o):a<h.objs.size:=by
 cases o with
 | lst xs=>obtain⟨_,_,_,_,e⟩:=x;exact ag e
 | tup xs=>obtain⟨_,_,_,p⟩:=x;exact p.tup.lt
 | dK kvs=>obtain⟨_,_,_,_,o,_,_,e,_⟩:=x;exact ag e
 | dT kvs=>obtain⟨_,_,_,_,o,_,_,e,_⟩:=x;exact ag e
 | set S n=>obtain⟨o,_,_,_,e,_⟩:=x;exact ag e
 | ins C dx fs=>obtain⟨_,_,_,e,_⟩:=x;exact ag e
 | own y=>obtain⟨_,e⟩:=x;exact ag e
 | xd fs=>obtain⟨_,⟨_,_,_,e,_⟩,_⟩:=x;exact ag e
 | rng lo hi=>obtain⟨_,_,_,e⟩:=x;exact ag e
 | frz ob u=>obtain⟨e,_⟩:=x;exact ag e
 | tbl ps=>exact ag (show h.get? a=some _ from x)
 | met f y=>exact ag (show h.get? a=some _ from x)
 | ext φ=>obtain⟨_,⟨_,e⟩,_⟩:=x;exact ag e
theorem Paired.mapP {α β:Type}{F G:α->β->Prop}:∀ {l₁:List α}{l₂:List β},Paired F l₁ l₂->(∀a b,F a b->G a b)->Paired G l₁ l₂
 | _,_,.nil,_=>.nil
 | _,_,.cons r t,f=>.cons (f _ _ r) (Paired.mapP t f)
theorem ObjOk.stay (x:ObjOk P w H h a o) (k:∀b u,(b=a∨H b=some (.own a))->h.get? b=some u->h'.get? b=some u)
    (ho:∀b,H b=some (.own a)->H' b=some (.own a)) (ht:∀b xs,H b=some (.tup xs)->H' b=some (.tup xs)):ObjOk P w H' h' a o:=by
 induction o with
 | lst xs=>obtain⟨z,its,n,r,e⟩:=x;exact⟨z,its,n,r,k _ _ (.inl rfl) e⟩
 | tup xs=>obtain⟨z,its,r,ob,e,c⟩:=x;exact⟨z,its,r,ob,k _ _ (.inl rfl) e,c⟩
 | dK kvs=>obtain⟨z,y,vs,r,ob,es,ep,e,c⟩:=x;exact⟨z,y,vs,r,ob,es,ep,k _ _ (.inl rfl) e,c⟩
 | dT kvs =>
  obtain⟨z,y,xs,r,ob,es,ep,e,c⟩:=x
  exact⟨z,y,xs,Paired.mapP r fun p q z=>⟨z.1,ht _ _ z.2.1,z.2.2⟩,ob,es,ep,k _ _ (.inl rfl) e,c⟩
 | set S n=>obtain⟨ob,es,ep,t,e,c⟩:=x;exact⟨ob,es,ep,t,k _ _ (.inl rfl) e,c⟩
 | ins C dx fs =>
  obtain⟨d,z,ne,e,mA,⟨od,es,ep,e2,c⟩,r⟩:=x
  exact⟨ho _ d,z,ne,k _ _ (.inl rfl) e,mA,⟨od,es,ep,k _ _ (.inr d) e2,c⟩,r⟩
 | own y=>obtain⟨ob,e⟩:=x;exact⟨ob,k _ _ (.inl rfl) e⟩
 | xd fs=>obtain⟨mA,⟨od,es,ep,e,c⟩,r⟩:=x;exact⟨mA,⟨od,es,ep,k _ _ (.inl rfl) e,c⟩,r⟩
 | rng lo hi=>obtain⟨t,u,v,e⟩:=x;exact⟨t,u,v,k _ _ (.inl rfl) e⟩
 | frz ob u ih=>obtain⟨e,q⟩:=x;exact⟨k _ _ (.inl rfl) e,ih q⟩
 | tbl ps =>
  have e:h.get? a=some { cls:=.none,data:=.fields ps }:=x
  show h'.get? a=some { cls:=.none,data:=.fields ps }
  exact k a _ (.inl rfl) e
 | met f y =>
  have e:h.get? a=some (W.methodObj (.ref f) (.ref y)):=x
  show h'.get? a=some (W.methodObj (.ref f) (.ref y))
  exact k a _ (.inl rfl) e
 | ext φ=>obtain⟨p,⟨o,e⟩,st⟩:=x;exact⟨st _ _ p fun o q=>k _ _ (.inl rfl) q,⟨o,k _ _ (.inl rfl) e⟩,st⟩
theorem HOk.lt (x:HOk P w H h) (e:H a=some o):a<h.objs.size:=(x a o e).lt
theorem HOk.fresh (x:HOk P w H h) (e:h.objs.size<=a):H a=none:=by
 cases q:H a with
 | none=>rfl
 | some u=>exact absurd (aD (x.lt q) e) (bb _)
theorem HOk.kept (x:HOk P w H h) (k:∀b u,h.get? b=some u->h'.get? b=some u):HOk P w H h':=fun a o e =>
 (x a o e).stay (fun b u _ q=>k b u q) (fun _ q=>q) fun _ _ q=>q
theorem HOk.laid (x:HOk P w H h) (k:∀b u,h.get? b=some u->h'.get? b=some u) (hp:h.objs.size<=a) (new:ObjOk P w (upd H a o) h' a o):HOk P w (upd H a o) h':=fun b u e=>by
 have hn:=x.fresh hp
 by_cases hb:b=a
 ·subst hb;rw[cF] at e;cases e;exact new
 ·rw[cH hb] at e
  exact(x b u e).stay (fun c v _ q=>k c v q) (fun c q=>by rw[cH (cL q hn)];exact q) fun c xs q=>by rw[cH (cL q hn)];exact q
end
def Rd (H:Hp) (a:Addr) (u:HO):Prop:=H a=some u∨∃o,H a=some (.frz o u)
theorem Rd.ok {P:Program}{w:World}{H:Hp}{h:Heap}{a:Addr}{u:HO}(r:Rd H a u) (x:HOk P w H h):ObjOk P w H h a u:=by
 rcases r with r | ⟨o,r⟩
 ·exact x a u r
 ·obtain⟨_,q⟩:=x a _ r
  exact q
def Mut:Option HO->Prop
 | some (.lst _)=>True
 | some (.dK _)=>True
 | some (.dT _)=>True
 | some (.set _ _)=>True
 | some (.ins _ _ _)=>True
 | some (.ext _)=>True
 | _=>False
section
variable {P:Program}{w:World}{H:Hp}{h h':Heap}{x e:Addr}{o':HO}
theorem HOk.write (ok:HOk P w H h) (mu:Mut (H x)) (he:e=x ∨ H e=some (.own x)) (k:∀b u, b ≠ e -> h.get? b=some u -> h'.get? b=some u) (heo:∃u, h'.get? e=some u)
    (new:ObjOk P w (upd H x o') h' x o'):HOk P w (upd H x o') h':=fun b u q=>by
 have nown:∀c y,H c=some (.own y)->c≠x:=fun c y r z=>by subst z;rw[r] at mu;exact mu
 have ntup:∀c xs,H c=some (.tup xs)->c≠x:=fun c xs r z=>by subst z;rw[r] at mu;exact mu
 by_cases hb:b=x
 ·subst hb;rw[cF] at q;cases q;exact new
 ·rw[cH hb] at q
  by_cases hbe:b=e
  ·have q':H b=some (.own x):=by
      rcases he with z | z
      ·exact absurd (hbe.trans z) hb
      ·rw[hbe];exact z
   rw[q] at q';cases q'
   obtain⟨v,hv⟩:=heo
   exact⟨v,by rw[hbe];exact hv⟩
  ·refine(ok b u q).stay (fun c v hc r=>k c v ?_ r) (fun c r=>by rw[cH (nown c b r)];exact r) fun c xs r=>by rw[cH (ntup c xs r)];exact r
   rcases hc with rfl | hc
   ·exact hbe
   ·rintro rfl
    rcases he with z | z
    ·exact nown c b hc z
    ·rw[hc] at z;cases z;exact hb rfl
end
structure Un (fs ex:List Addr) (H H':Hp) (h h':Heap):Prop where
 keep:∀b o,h.get? b=some o->H b=none->b∉fs->b∉ex->h'.get? b=some o
 slot:∀b o,h.get? b=some o->H b=none->b∈fs->b∉ex->∃sl,h'.get? b=some { o with slots:=sl }
 free:∀b o,h.get? b=some o->H b=none->b∉ex->H' b=none
 there:∀b o,h.get? b=some o->b∉ex->∃o',h'.get? b=some o'
 tups:∀b xs,H b=some (.tup xs)->H' b=some (.tup xs)
 frzs:∀b o u,H b=some (.frz o u)->H' b=some (.frz o u)
 tbls:∀b ps,H b=some (.tbl ps)->∃more,H' b=some (.tbl (ps++more))
section
variable {fs fs' ex ex':List Addr}{H H1 H2:Hp}{h h1 h2 h':Heap}{a x e:Addr}{o:HO}
theorem Un.any (u:Un fs ex H H1 h h1) {b:Addr}{ob:Obj}(q:h.get? b=some ob) (n:H b=none) (hx:b∉ex):∃sl,h1.get? b=some { ob with slots:=sl }:=by
 by_cases hb:b∈fs
 ·exact u.slot b ob q n hb hx
 ·exact⟨ob.slots,u.keep b ob q n hb hx⟩
theorem Un.kept (k:∀b u,h.get? b=some u->h'.get? b=some u):Un fs ex H H h h' :=
 ⟨fun b ob q _ _ _=>k b ob q,fun b ob q _ _ _=>⟨ob.slots,k b ob q⟩,fun _ _ _ n _=>n,fun b ob q _=>⟨ob,k b ob q⟩,fun _ _ q=>q,fun _ _ _ q=>q,fun _ ps q=>⟨#[],by rw[q];simp⟩⟩
theorem Un.refl:Un fs ex H H h h:=Un.kept fun _ _ q=>q
theorem Un.laid (k:∀b u,h.get? b=some u->h'.get? b=some u) (hp:h.objs.size<=a) (hn:H a=none):Un fs ex H (upd H a o) h h' where
 keep:=fun b u q _ _ _=>k b u q
 slot:=fun b u q _ _ _=>⟨u.slots,k b u q⟩
 free:=fun b u q n _=>by rw[cH (ak (aD (ag q) hp))];exact n
 there:=fun b u q _=>⟨u,k b u q⟩
 tups:=fun b xs q=>by rw[cH (cL q hn)];exact q
 frzs:=fun b u xs q=>by rw[cH (cL q hn)];exact q
 tbls:=fun b ps q=>⟨#[],by rw[cH (cL q hn),q];simp⟩
theorem Un.write (mu:Mut (H x)) (he:e=x∨H e=some (.own x)) (k:∀b u,b≠e->h.get? b=some u->h'.get? b=some u) (heo:∃u,h'.get? e=some u):Un fs ex H (upd H x o) h h':=by
 have hx:∀b,H b=none->b≠x:=fun b n z=>by subst z;rw[n] at mu;exact mu
 have hb:∀b,H b=none->b≠e:=fun b n z=>by
  subst z
  rcases he with r | r
  ·exact hx b n r
  ·rw[n] at r;cases r
 have hm:∀b u,H b=some u->¬ Mut (some u)->b≠x:=fun b u q nm z=>by subst z;rw[q] at mu;exact nm mu
 refine⟨fun b u q n _ _=>k b u (hb b n) q,fun b u q n _ _=>⟨u.slots,k b u (hb b n) q⟩,fun b u q n _=>by rw[cH (hx b n)];exact n,fun b u q _=>?_,
  fun b xs q=>by rw[cH (hm b _ q fun z=>z)];exact q,fun b u xs q=>by rw[cH (hm b _ q fun z=>z)];exact q,fun b ps q=>⟨#[],by rw[cH (hm b _ q fun z=>z),q];simp⟩⟩
 by_cases hbe:b=e
 ·subst hbe;exact heo
 ·exact⟨u,k b u hbe q⟩
end
def trk (h:Heap) (H:Hp):List Addr:=(List.range h.objs.size).filter fun a=>(H a).isSome
def i0 (h:Heap) (H:Hp):Heap:=W.hideAll h (trk h H)
theorem si (h:Heap) (H:Hp):(i0 h H).objs.size=h.objs.size:=W.hideAll_size _ _
theorem vo {h:Heap}{H:Hp}{b:Addr}{o:Obj}(e:h.get? b=some o) (n:H b=none):(i0 h H).get? b=some o :=
 W.hideAll_get _ e fun hm=>by
  have q:(H b).isSome=true:=(aw.mp hm).2
  rw[n] at q;simp at q
theorem xV {h:Heap}{H:Hp}{b:Addr}{o:Obj}(e:(i0 h H).get? b=some o):h.get? b=some o/\H b=none:=by
 have e':h.get? b=some o:=W.of_hideAll (trk h H) e
 refine⟨e',?_⟩
 cases q:H b with
 | none=>rfl
 | some x =>
  have hm:b∈trk h H:=aw.mpr ⟨aR.mpr (ag e'),by simp[q]⟩
  have z:(i0 h H).get? b=none:=W.hideAll_none (trk h H) hm
  rw[z] at e;cases e
def xM (g h:Heap) (L:Addr):List (Addr × Obj):=(List.range h.objs.size).filterMap fun a=>if a=L∨(g.get? a).isSome=true then none else (h.get? a).map fun o=>(a,o)
def dH (g h:Heap) (L d:Addr):List (Addr × Obj):=(xM g h L).filter fun p=>decide (p.1≠d)
structure Mod (K:W.Frag) (mg:Str->Option Value) (base:Heap):Prop where
 kin:K.In base
 glob:base.Ns mainGlobals mg
 blt:∃mb,base.Ns builtinsNs mb/\∀x:Str,x≠"__name__"->mb x=bootBuiltins x
 nolimit:base.NoLimit
structure Cx where
 prog:Program
 w:World
 K:W.Frag
 mg:Str->Option Value
 base:Heap
 A:Around
 N:List Str
 s₀:Shared
 H₀:Hp
 env:Env
 outer:List Env
 stack:List Env
 ex:List Addr
 fn:Str->Bool
 calm:Bool
 pn:List (Addr × Obj)
 xe:Value->Shared->Prop
def frs (l:List Env):List Addr:=l.filterMap (·.frame)
abbrev Cx.fs (X:Cx):List Addr:=frs X.outer
def Vis (sc:Scope) (x:Str):Prop:=sc.names.lookup x=some .local∨sc.names.lookup x=some .cell∨sc.names.lookup x=some .free
def Loc (sc:Scope) (x:Str):Prop:=sc.names.lookup x=some .local∨sc.names.lookup x=some .cell
def Look (env:Env) (h:Heap) (m:Str->Option Value) (x:Str) (u:Value):Prop :=
 (env.kindOf x=some .local/\m x=some u)∨((env.kindOf x=some .cell∨env.kindOf x=some .free)/\∃c,env.cells.lookup x=some c/\h.IsCell c (some u))
structure Cx.Ok (X:Cx):Prop where
 mod:Mod X.K X.mg X.base
 kind:X.env.scope.kind=.function
 glob:X.env.globals=mainGlobals
 blt:X.env.builtins=builtinsNs
 above:X.s₀.heap.objs.size<=X.env.locals
 inj:∀x y c,X.env.cells.lookup x=some c->X.env.cells.lookup y=some c->x=y
 has:∀x,(X.env.kindOf x=some .cell∨X.env.kindOf x=some .free)->∃c,X.env.cells.lookup x=some c
 cab:∀x c,X.fn x=true->X.env.cells.lookup x=some c->X.s₀.heap.objs.size<=c
 hd:X.calm=true->X.A.handled=none
 frames:X.A.frames=some X.stack
 stk:X.stack=X.outer∨(X.stack=X.env::X.outer/\X.env.frame=some X.env.locals)
 exf:∀b∈X.ex,b≠X.env.locals/\∀x c,X.env.cells.lookup x=some c->c≠b
 bs:∀b o,X.base.get? b=some o->X.s₀.heap.get? b=some o/\X.H₀ b=none
 bsz:X.base.objs.size<=X.s₀.heap.objs.size
 noex:∀b o,X.base.get? b=some o->b∉X.ex
 exfs:∀b∈X.ex,b∉X.fs
 funs:X.s₀.heap.FunFrames X.base X.outer
 frf:∀b∈X.fs,X.H₀ b=none
structure Inv (X:Cx) (pins:List (Addr × Obj)) (σ:List (Option V)) (H:Hp) (s:Shared):Prop where
 ok:X.Ok
 os:s.os=X.s₀.os
 bare:AllBare s.gens
 base:Un X.fs X.ex X.H₀ H X.s₀.heap s.heap
 loc:∃m,s.heap.Ns X.env.locals m/\∀(i:Nat) (x:Str) (v:V),X.N[i]? = some x->σ[i]? = some (some v)->Vis X.env.scope x->∃u,RelV v u/\Look X.env s.heap m x u
 cell:∀x c,X.env.cells.lookup x=some c->∃v,s.heap.IsCell c v
 free:H X.env.locals=none
 freeC:∀x c,X.env.cells.lookup x=some c->H c=none
 pin:∀p∈X.pn++pins,s.heap.get? p.1=some p.2/\H p.1=none/\p.1≠X.env.locals/\p.1∉X.fs/\∀v,p.2.data≠.cell v
 hok:HOk X.prog X.w H s.heap
 len:σ.length=X.N.length
section
variable {X:Cx}{pins:List (Addr × Obj)}{σ:List (Option V)}{H H':Hp}{s:Shared}{h':Heap}
theorem Cx.Ok.nofr (ok:X.Ok) {b:Addr}{o:Obj}(e:X.base.get? b=some o):b∉X.fs:=fun hb=>by
 have:=(ok.funs.mem hb).1
 rw[e] at this;cases this
theorem Inv.bs (I:Inv X pins σ H s):∀b o,X.base.get? b=some o->s.heap.get? b=some o/\H b=none:=fun b o e =>
 ⟨I.base.keep b o (I.ok.bs b o e).1 (I.ok.bs b o e).2 (I.ok.nofr e) (I.ok.noex b o e),I.base.free b o (I.ok.bs b o e).1 (I.ok.bs b o e).2 (I.ok.noex b o e)⟩
theorem Inv.bk (I:Inv X pins σ H s):∀b o,X.base.get? b=some o->s.heap.get? b=some o:=fun b o e=>(I.bs b o e).1
theorem Inv.mod (I:Inv X pins σ H s):Mod X.K X.mg X.base:=I.ok.mod
theorem Inv.kIn (I:Inv X pins σ H s):X.K.In s.heap:=I.ok.mod.kin.keeps I.bk
theorem Inv.lt (I:Inv X pins σ H s):X.env.locals<s.heap.objs.size:=let ⟨_,hn,_⟩:=I.loc;hn.lt
theorem Inv.sz (I:Inv X pins σ H s):X.s₀.heap.objs.size<=s.heap.objs.size:=aX I.ok.above (aS I.lt)
theorem Inv.nofs (I:Inv X pins σ H s) {a:Addr}(h:s.heap.objs.size<=a):a∉X.fs:=fun hb=>by
 obtain⟨_,o,ho,_⟩:=I.ok.funs.mem hb
 exact absurd (aD (ag ho) (aX I.sz h)) (bb _)
theorem Inv.cne (I:Inv X pins σ H s):∀x c,X.env.cells.lookup x=some c->c≠X.env.locals:=fun x c e z=>by
 obtain⟨v,o,ho,hd⟩:=I.cell x c e
 obtain⟨m,⟨o',es,ep,ho',hd',_⟩,_⟩:=I.loc
 rw[z,ho'] at ho;cases ho;rw[hd'] at hd;cases hd
theorem Inv.funs (I:Inv X pins σ H s):s.heap.FunFrames X.base X.outer := by
 have all:∀(l:List Env),(∀b∈frs l,b∈X.fs)->X.s₀.heap.FunFrames X.base l->s.heap.FunFrames X.base l:=by
  intro l
  induction l with
  | nil=>intro _ _;trivial
  | cons env r ih =>
   intro hs hl
   obtain⟨hk,⟨L,o,hf,hn,ho,hd⟩,hr⟩:=hl
   have hL:L∈X.fs:=hs L (by unfold frs;rw[List.filterMap_cons,hf];exact bM)
   obtain⟨sl,e⟩:=I.base.slot L o ho (I.ok.frf L hL) hL fun z=>I.ok.exfs L z hL
   exact⟨hk,⟨L,_,hf,hn,e,hd⟩,ih (fun b hb=>hs b (by unfold frs;rw[List.filterMap_cons,hf];exact aM _ hb)) hr⟩
 exact all X.outer (fun _ hb=>hb) I.ok.funs
theorem Inv.stack (I:Inv X pins σ H s):s.heap.FunFrames X.base X.stack:=by
 rcases I.ok.stk with e | ⟨e,hf⟩
 ·rw[e];exact I.funs
 ·rw[e]
  obtain⟨m,hn,_⟩:=I.loc
  refine .cons (by rw[I.ok.kind];decide) hf hn ?_ I.funs
  exact cw (aX I.ok.bsz I.ok.above)
theorem Inv.stkSub (I:Inv X pins σ H s):∀b∈frs X.stack,b∈X.env.locals::X.fs:=fun b hb=>by
 rcases I.ok.stk with e | ⟨e,hf⟩
 ·rw[e] at hb;exact aM _ hb
 ·rw[e] at hb
  unfold frs at hb
  rw[List.filterMap_cons,hf] at hb
  exact hb
theorem Inv.stkFree (I:Inv X pins σ H s):∀b∈frs X.stack,H b=none:=fun b hb=>by
 rcases am.mp (I.stkSub b hb) with e | hb
 ·rw[e];exact I.free
 ·obtain⟨_,o,ho,_⟩:=I.ok.funs.mem hb
  exact I.base.free b o ho (I.ok.frf b hb) fun z=>I.ok.exfs b z hb
theorem Inv.step {g':Array GenState}{t':Nat}{d':Drawn}{ch:List Addr}(I:Inv X pins σ H s)
    (hch:∀b∈ch,(b∈X.ex∨X.s₀.heap.objs.size<=b)/\b≠X.env.locals/\(∀x c,X.env.cells.lookup x=some c->c≠b)/\∀p∈X.pn++pins,p.1≠b)
    (keep:∀b o,b≠X.env.locals->b∉X.fs->b∉ch->s.heap.get? b=some o->H b=none->h'.get? b=some o)
    (slot:∀b o,b≠X.env.locals->b∈X.fs->b∉ch->s.heap.get? b=some o->H b=none->∃sl,h'.get? b=some { o with slots:=sl }) (free:∀b o,b∉ch->s.heap.get? b=some o->H b=none->H' b=none)
    (there:∀b o,b∉ch->s.heap.get? b=some o->∃o',h'.get? b=some o')
    (tups:∀b xs,H b=some (.tup xs)->H' b=some (.tup xs)) (frzs:∀b o u,H b=some (.frz o u)->H' b=some (.frz o u)) (tbls:∀b ps,H b=some (.tbl ps)->∃more,H' b=some (.tbl (ps++more)))
    (ns:∀m,s.heap.Ns X.env.locals m->h'.Ns X.env.locals m) (hok:HOk X.prog X.w H' h') (hg:AllBare g') :
    Inv X pins σ H' { s with heap:=h',gens:=g',drawn:=d',toks:=t' }:=by
 have neL:∀b o,X.s₀.heap.get? b=some o->b≠X.env.locals:=fun b o e=>ak (aD (ag e) I.ok.above)
 have neC:∀b o,X.s₀.heap.get? b=some o->b∉X.ex->b∉ch:=fun b o e hx hb=>by
  rcases (hch b hb).1 with z | z
  ·exact hx z
  ·exact absurd (aD (ag e) z) (bb _)
 have cellK:∀x c,X.env.cells.lookup x=some c->∀v,s.heap.IsCell c v->h'.IsCell c v:=fun x c e v ⟨o,ho,hd⟩=>by
  have nch:c∉ch:=fun z=>(hch c z).2.2.1 x c e rfl
  by_cases hc:c∈X.fs
  ·obtain⟨sl,q⟩:=slot c o (I.cne x c e) hc nch ho (I.freeC x c e)
   exact⟨_,q,hd⟩
  ·exact⟨o,keep c o (I.cne x c e) hc nch ho (I.freeC x c e),hd⟩
 refine⟨I.ok,I.os,hg,⟨fun b o e n hb hx=>?_,fun b o e n hb hx=>?_,fun b o e n hx=>?_,fun b o e hx=>?_,fun b xs e=>tups b xs (I.base.tups b xs e),fun b o xs e=>frzs b o xs (I.base.frzs b o xs e),fun b ps e=>?_⟩,?_,fun x c e=>?_,?_,fun x c e=>?_,fun p hp=>?_,hok,I.len⟩
 ·exact keep b o (neL b o e) hb (neC b o e hx) (I.base.keep b o e n hb hx) (I.base.free b o e n hx)
 ·obtain⟨sl,e1⟩:=I.base.slot b o e n hb hx
  obtain⟨sl',e2⟩:=slot b _ (neL b o e) hb (neC b o e hx) e1 (I.base.free b o e n hx)
  exact⟨sl',e2⟩
 ·obtain⟨o',e1⟩:=I.base.there b o e hx
  exact free b o' (neC b o e hx) e1 (I.base.free b o e n hx)
 ·obtain⟨o',e1⟩:=I.base.there b o e hx
  exact there b o' (neC b o e hx) e1
 ·obtain⟨m1,e1⟩:=I.base.tbls b ps e
  obtain⟨m2,e2⟩:=tbls b _ e1
  exact⟨m1++m2,by rw[e2,Array.append_assoc]⟩
 ·obtain⟨m,hn,hl⟩:=I.loc
  refine⟨m,ns m hn,fun i x v e1 e2 e3=>?_⟩
  obtain⟨u,r,l⟩:=hl i x v e1 e2 e3
  refine⟨u,r,?_⟩
  rcases l with l | ⟨k,c,e,z⟩
  ·exact .inl l
  ·exact .inr ⟨k,c,e,cellK x c e _ z⟩
 ·obtain⟨v,z⟩:=I.cell x c e
  exact⟨v,cellK x c e v z⟩
 ·obtain⟨m,⟨o,_,_,ho,_⟩,_⟩:=I.loc
  exact free _ o (fun z=>(hch _ z).2.1 rfl) ho I.free
 ·obtain⟨v,o,ho,hd⟩:=I.cell x c e
  exact free c o (fun z=>(hch c z).2.2.1 x c e rfl) ho (I.freeC x c e)
 ·obtain⟨e,n,ne,nf,d⟩:=I.pin p hp
  have nch:p.1∉ch:=fun z=>(hch p.1 z).2.2.2 p hp rfl
  exact⟨keep p.1 p.2 ne nf nch e n,free p.1 p.2 nch e n,ne,nf,d⟩
theorem Inv.un {t':Nat}(I:Inv X pins σ H s) (u:Un X.fs [] H H' s.heap h') (hok:HOk X.prog X.w H' h'):Inv X pins σ H' { s with heap:=h',toks:=t' }:=by
 obtain⟨m,⟨o,es,ep,ho,r⟩,_⟩:=id I.loc
 obtain⟨sl,hL⟩:=u.any ho I.free (by simp)
 exact I.step (g':=s.gens) (d':=s.drawn) (ch:=[]) (fun _ z=>nomatch z) (fun b o _ hb _ e n=>u.keep b o e n hb (by simp)) (fun b o _ hb _ e n=>u.slot b o e n hb (by simp)) (fun b o _ e n=>u.free b o e n (by simp)) (fun b o _ e=>u.there b o e (by simp)) u.tups u.frzs u.tbls (fun m' hm=>by
  obtain⟨o',es',ep',ho',r'⟩:=hm
  rw[ho] at ho';cases ho'
  exact⟨_,es',ep',hL,r'⟩) hok I.bare
theorem Inv.call {g':Array GenState}{t':Nat}{d':Drawn}{ch:List Addr}(I:Inv X pins σ H s) (u:Un (frs X.stack) ch H H' s.heap h') (hok:HOk X.prog X.w H' h') (hg:AllBare g')
    (hch:∀b∈ch,(b∈X.ex∨X.s₀.heap.objs.size<=b)/\b≠X.env.locals/\(∀x c,X.env.cells.lookup x=some c->c≠b)/\∀p∈X.pn++pins,p.1≠b) :
    Inv X pins σ H' { s with heap:=h',gens:=g',drawn:=d',toks:=t' }:=by
 obtain⟨m,⟨o,es,ep,ho,r⟩,_⟩:=id I.loc
 obtain⟨sl,hL⟩:=u.any ho I.free fun z=>(hch _ z).2.1 rfl
 exact I.step (ch:=ch) hch (fun b o hL hb hc e n=>u.keep b o e n (fun z=>(am.mp (I.stkSub b z)).elim hL hb) hc) (fun b o _ _ hc e n=>u.any e n hc) (fun b o hc e n=>u.free b o e n hc) (fun b o hc e=>u.there b o e hc) u.tups u.frzs u.tbls (fun m' hm=>by
  obtain⟨o',es',ep',ho',r'⟩:=hm
  rw[ho] at ho';cases ho'
  exact⟨_,es',ep',hL,r'⟩) hok hg
theorem Inv.turned {t':Nat}{it:Addr}(I:Inv X pins σ H s) (k:∀b o,b≠it->s.heap.get? b=some o->h'.get? b=some o) (hn:H it=none) (hL:it≠X.env.locals)
    (h1:it∈X.ex∨X.s₀.heap.objs.size<=it) (h2:∀x c,X.env.cells.lookup x=some c->c≠it) (h3:∀p∈X.pn++pins,p.1≠it):Inv X pins σ H { s with heap:=h',toks:=t' }:=by
 have nit:∀b u,H b=some u->b≠it:=fun b u e z=>by rw[z,hn] at e;cases e
 refine I.step (g':=s.gens) (d':=s.drawn) (ch:=[it]) (fun b hb=>?_) (fun b o _ _ hc e _=>k b o (fun z=>hc (by simp[z])) e) (fun b o _ _ hc e _=>⟨o.slots,k b o (fun z=>hc (by simp[z])) e⟩) (fun _ _ _ _ n=>n)
  (fun b o hc e=>⟨o,k b o (fun z=>hc (by simp[z])) e⟩) (fun _ _ e=>e) (fun _ _ _ e=>e) (fun b ps e=>⟨#[],by rw[e];simp⟩) (fun m hm=>?_) (fun b u e=>?_) I.bare
 ·have e:b=it:=by simpa using hb
  subst e
  exact⟨h1,hL,h2,h3⟩
 ·obtain⟨o,es,ep,ho,r⟩:=hm
  exact⟨o,es,ep,k _ o (Ne.symm hL) ho,r⟩
 ·refine(I.hok b u e).stay (fun c v hc q=>k c v ?_ q) (fun _ q=>q) fun _ _ q=>q
  rcases hc with z | z
  ·rw[z];exact nit b u e
  ·exact nit c _ z
theorem Inv.tok (I:Inv X pins σ H s) (t:Nat):Inv X pins σ H { s with toks:=t }:=I.un (h':=s.heap) (t':=t) Un.refl I.hok
theorem Inv.kept {t':Nat}(I:Inv X pins σ H s) (k:∀b u,s.heap.get? b=some u->h'.get? b=some u):Inv X pins σ H { s with heap:=h',toks:=t' }:=I.un (Un.kept k) (I.hok.kept k)
theorem Inv.laid {a:Addr}{o:HO}{t':Nat}(I:Inv X pins σ H s) (k:∀b u,s.heap.get? b=some u->h'.get? b=some u) (hp:s.heap.objs.size<=a) (new:ObjOk X.prog X.w (upd H a o) h' a o) :
    Inv X pins σ (upd H a o) { s with heap:=h',toks:=t' }:=I.un (Un.laid k hp (I.hok.fresh hp)) (I.hok.laid k hp new)
theorem Inv.write {x e:Addr}{o:HO}{t':Nat}(I:Inv X pins σ H s) (mu:Mut (H x)) (he:e=x∨H e=some (.own x)) (k:∀b u,b≠e->s.heap.get? b=some u->h'.get? b=some u) (heo:∃u,h'.get? e=some u)
    (new:ObjOk X.prog X.w (upd H x o) h' x o):Inv X pins σ (upd H x o) { s with heap:=h',toks:=t' }:=I.un (Un.write mu he k heo) (I.hok.write mu he k heo new)
theorem Inv.pins_of {pins':List (Addr × Obj)}(I:Inv X pins σ H s) (h:∀p∈pins',s.heap.get? p.1=some p.2/\H p.1=none/\p.1≠X.env.locals/\p.1∉X.fs/\∀v,p.2.data≠.cell v):Inv X pins' σ H s :=
 ⟨I.ok,I.os,I.bare,I.base,I.loc,I.cell,I.free,I.freeC,fun p hp=>(ar.mp hp).elim (fun z=>I.pin p (ci _ z)) (h p),I.hok,I.len⟩
theorem ll {N:List Str}(hN:N.Nodup) {i j:Nat}{x:Str}(a:N[i]? = some x) (b:N[j]? = some x):i=j:=by
 obtain⟨h1,e1⟩:=ai.mp a
 obtain⟨h2,e2⟩:=ai.mp b
 exact(List.getElem_inj hN).mp (e1.trans e2.symm)
theorem nn {M:Model}{A:Around}{E:Value -> Shared -> Prop}{i:Nat}{x:Str}{v:V}{u:Value}{Q:Unit -> Shared -> Prop}(I:Inv X pins σ H s) (hN:X.N.Nodup) (hi:X.N[i]? = some x) (hx:Loc X.env.scope x) (r:RelV v u)
    (h:∀s',Inv X pins (σ.set i (some v)) H s'->(∃a,Heap.SameBut a s.heap s'.heap/\(a=X.env.locals∨X.env.cells.lookup x=some a))->Q () s') (hf:X.fn x=true∨X.env.scope.names.lookup x=some .local:=by first | exact .inl rfl | exact .inr rfl | assumption):wpAny M A (storeName X.env x u) Q E s:=by
 obtain⟨m,hn,hl⟩:=id I.loc
 have hcls:(X.env.scope.kind==.class||(X.env.scope.kind==.module&&X.env.locals != X.env.globals))=false:=by rw[I.ok.kind];rfl
 have hiσ:i<σ.length:=by rw[I.len];exact(ai.mp hi).1
 have cne:=I.cne
 have tracked:∀ {a:Addr} {h':Heap},(∃o,s.heap.get? a=some o/\H a=none)->Heap.SameBut a s.heap h'->HOk X.prog X.w H h':=fun {a h'} ha hs b ob e=>by
  obtain⟨_,_,hfree⟩:=ha
  refine(I.hok b ob e).stay (fun c w' hc q=>(hs.2 c ?_).trans q) (fun _ q=>q) fun _ _ q=>q
  rintro rfl
  rcases hc with rfl | hc
  ·rw[hfree] at e;cases e
  ·rw[hfree] at hc;cases hc
 rcases hx with hk | hk
 ·refine wpAny_storeName_local hk hn (fun h' hn' hs => ?_) hcls
  obtain⟨oL,_,_,hoL,_⟩:=id hn
  refine h _ ⟨I.ok,I.os,I.bare,⟨fun b o e n hb hx=>?_,fun b o e n hb hx=>?_,I.base.free,fun b o e hx=>?_,I.base.tups,I.base.frzs,I.base.tbls⟩,⟨_,hn',fun j y v' e1 e2 e3=>?_⟩,fun y c e=>?_,I.free,I.freeC,fun p hp=>?_,tracked ⟨oL,hoL,I.free⟩ hs,by simpa using I.len⟩ ⟨_,hs,.inl rfl⟩
  ·exact(hs.2 b (ak (aD (ag e) I.ok.above))).trans (I.base.keep b o e n hb hx)
  ·obtain⟨sl,e1⟩:=I.base.slot b o e n hb hx
   exact⟨sl,(hs.2 b (ak (aD (ag e) I.ok.above))).trans e1⟩
  ·obtain⟨o',e1⟩:=I.base.there b o e hx
   exact⟨o',(hs.2 b (ak (aD (ag e) I.ok.above))).trans e1⟩
  ·by_cases hj:j=i
   ·subst hj
    rw[hi] at e1;cases e1
    rw[List.getElem?_set_self hiσ] at e2
    cases e2
    exact⟨u,r,.inl ⟨hk,by simp⟩⟩
   ·rw[List.getElem?_set_ne (Ne.symm hj)] at e2
    obtain⟨u',r',q⟩:=hl j y v' e1 e2 e3
    refine⟨u',r',?_⟩
    rcases q with⟨k,e⟩ | ⟨k,c,e,z⟩
    ·refine .inl ⟨k,?_⟩
     have:y≠x:=fun e=>hj (ll hN e1 (e ▸ hi))
     simp[this,e]
    ·exact .inr ⟨k,c,e,z.sameBut hs (cne y c e)⟩
  ·obtain⟨w',z⟩:=I.cell y c e
   exact⟨w',z.sameBut hs (cne y c e)⟩
  ·obtain⟨e,n,ne,nf,d⟩:=I.pin p hp
   exact⟨(hs.2 p.1 ne).trans e,n,ne,nf,d⟩
 ·have hfn:X.fn x=true := by
     rcases hf with z | z
     ·exact z
     ·rw[z] at hk;cases hk
  obtain⟨c,hc⟩:=I.ok.has x (.inl hk)
  obtain⟨w',z⟩:=I.cell x c hc
  refine wpAny_storeName_cell I.ok.kind hk hc z (fun h' hc' hs=>?_)
  obtain⟨oc,hoc,hocd⟩:=id z
  refine h { s with heap:=h' } ⟨I.ok,I.os,I.bare,⟨fun b o e n hb hx=>?_,fun b o e n hb hx=>?_,I.base.free,fun b o e hx=>?_,I.base.tups,I.base.frzs,I.base.tbls⟩,⟨m,hn.sameBut hs (Ne.symm (cne x c hc)),fun j y v' e1 e2 e3=>?_⟩,fun y c' e=>?_,I.free,I.freeC,fun p hp=>?_,tracked ⟨oc,hoc,I.freeC x c hc⟩ hs,by simpa using I.len⟩ ⟨c,hs,.inr hc⟩
  ·exact(hs.2 b (ak (aD (ag e) (I.ok.cab x c hfn hc)))).trans (I.base.keep b o e n hb hx)
  ·obtain⟨sl,e1⟩:=I.base.slot b o e n hb hx
   exact⟨sl,(hs.2 b (ak (aD (ag e) (I.ok.cab x c hfn hc)))).trans e1⟩
  ·obtain⟨o',e1⟩:=I.base.there b o e hx
   exact⟨o',(hs.2 b (ak (aD (ag e) (I.ok.cab x c hfn hc)))).trans e1⟩
  ·by_cases hj:j=i
   ·subst hj
    rw[hi] at e1;cases e1
    rw[List.getElem?_set_self hiσ] at e2
    cases e2
    exact⟨u,r,.inr ⟨.inl hk,c,hc,hc'⟩⟩
   ·rw[List.getElem?_set_ne (Ne.symm hj)] at e2
    obtain⟨u',r',q⟩:=hl j y v' e1 e2 e3
    refine⟨u',r',?_⟩
    rcases q with q | ⟨k,c',e,z'⟩
    ·exact .inl q
    ·refine .inr ⟨k,c',e,z'.sameBut hs ?_⟩
     rintro rfl
     exact hj (ll hN e1 (I.ok.inj _ _ _ e hc ▸ hi))
  ·by_cases hcc:c'=c
   ·subst hcc;exact⟨_,hc'⟩
   ·obtain⟨w2,z2⟩:=I.cell y c' e
    exact⟨w2,z2.sameBut hs hcc⟩
  ·obtain⟨e,n,ne,nf,d⟩:=I.pin p hp
   refine⟨(hs.2 p.1 ?_).trans e,n,ne,nf,d⟩
   intro q
   rw[q,hoc] at e
   have q':oc=p.2:=af e
   exact d w' (by rw[<- q'];exact hocd)
theorem la {M:Model}{A:Around}{E:Value->Shared->Prop}{i:Nat}{x:Str}{v:V}{u:Value}{Q:Unit->Shared->Prop}(I:Inv X pins σ H s) (hN:X.N.Nodup) (hi:X.N[i]? = some x) (hx:Loc X.env.scope x) (r:RelV v u)
    (h:∀s',Inv X pins (σ.set i (some v)) H s'->Q () s') (hf:X.fn x=true∨X.env.scope.names.lookup x=some .local:=by first | exact .inl rfl | exact .inr rfl | assumption):wpAny M A (storeName X.env x u) Q E s :=
 nn I hN hi hx r (fun s' I' _=>h s' I') hf
theorem Inv.call' {s':Shared}{ch:List Addr}(I:Inv X pins σ H s) (ho:s'.os=s.os) (u:Un (frs X.stack) ch H H' s.heap s'.heap) (hok:HOk X.prog X.w H' s'.heap) (hg:AllBare s'.gens)
    (hch:∀b∈ch,(b∈X.ex∨X.s₀.heap.objs.size<=b)/\b≠X.env.locals/\(∀x c,X.env.cells.lookup x=some c->c≠b)/\∀p∈X.pn++pins,p.1≠b):Inv X pins σ H' s':=by
 obtain⟨h',g',d',t',o'⟩:=s'
 have e:o'=s.os:=ho
 subst e
 exact I.call (g':=g') (t':=t') (d':=d') u hok hg hch
end
abbrev XK:=Value->Option Addr->Hp->Prop
abbrev St:=List (Option V)
abbrev VK:=V->Hp->Prop
abbrev TE:=St->Hp->VK->Prop
abbrev TT:=St->Hp->(Bool->Hp->Prop)->Prop
abbrev TA:=St->Hp->(List V->Hp->Prop)->Prop
structure Ends where
 nx:St->Hp->Prop
 rt:VK
 bk:St->Hp->Prop:=fun _ _=>False
 ct:St->Hp->Prop:=fun _ _=>False
abbrev TS:=Ends->St->Hp->Prop
def EP (X:Cx) (pins:List (Addr × Obj)) (σ:St) (Q:VK) (u:Value) (s':Shared):Prop:=∃v H',Inv X pins σ H' s'/\RelV v u/\Q v H'
def TP (X:Cx) (pins:List (Addr × Obj)) (σ:St) (Q:Bool->Hp->Prop) (b:Bool) (s':Shared):Prop:=∃H',Inv X pins σ H' s'/\Q b H'
def AP (X:Cx) (pins:List (Addr × Obj)) (σ:St) (Q:List V->Hp->Prop) (us:List Value) (s':Shared):Prop:=∃vs H',Inv X pins σ H' s'/\Vals vs us/\Q vs H'
def SP (X:Cx) (pins:List (Addr × Obj)) (D:Ends) (f:Flow) (s':Shared):Prop :=
 match f with
 | .next=>∃σ' H',Inv X pins σ' H' s'/\D.nx σ' H'
 | .brk=>∃σ' H',Inv X pins σ' H' s'/\D.bk σ' H'
 | .cont=>∃σ' H',Inv X pins σ' H' s'/\D.ct σ' H'
 | .ret u=>∃v σ' H',Inv X pins σ' H' s'/\RelV v u/\D.rt v H'
def PE (X:Cx) (e:Expr) (t:TE):Prop :=
 ∀(pins:List (Addr × Obj)) (s:Shared) (σ:St) (H:Hp) (Q:VK),Inv X pins σ H s->t σ H Q->wpAny (model X.prog X.w) X.A (eval e X.env) (EP X pins σ Q) X.xe s
def PT (X:Cx) (e:Expr) (t:TT):Prop :=
 ∀(pins:List (Addr × Obj)) (s:Shared) (σ:St) (H:Hp) (Q:Bool->Hp->Prop),Inv X pins σ H s->t σ H Q->wpAny (model X.prog X.w) X.A (isTrue e X.env (eval e X.env)) (TP X pins σ Q) X.xe s
def PW (X:Cx) (e:Expr) (t:TT):Prop :=
 ∀(whole:Sem Value) (pins:List (Addr × Obj)) (s:Shared) (σ:St) (H:Hp) (Q:Bool->Hp->Prop),Inv X pins σ H s->t σ H Q->wpAny (model X.prog X.w) X.A (isTrue e X.env whole) (TP X pins σ Q) X.xe s
theorem PW.pt {X:Cx}{e:Expr}{t:TT}(h:PW X e t):PT X e t:=h _
def PA (X:Cx) (es:List Expr) (t:TA):Prop :=
 ∀(pos:Pos) (pins:List (Addr × Obj)) (s:Shared) (σ:St) (H:Hp) (Q:List V->Hp->Prop),Inv X pins σ H s->t σ H Q->wpAny (model X.prog X.w) X.A (spliced (backTo pos (starEach es X.env))) (AP X pins σ Q) X.xe s
def PS (X:Cx) (st:Stmt) (t:TS):Prop :=
 ∀(pins:List (Addr × Obj)) (s:Shared) (σ:St) (H:Hp) (D:Ends),Inv X pins σ H s->t D σ H->wpAny (model X.prog X.w) X.A (exec st X.env) (SP X pins D) X.xe s
def PSs (X:Cx) (st:List Stmt) (t:TS):Prop :=
 ∀(pins:List (Addr × Obj)) (s:Shared) (σ:St) (H:Hp) (D:Ends),Inv X pins σ H s->t D σ H->wpAny (model X.prog X.w) X.A (execs st X.env) (SP X pins D) X.xe s
theorem thn {α:Type}{t:Sem α}{Q Q':α->Shared->Prop}{M:Model}{A:Around}{E:Value->Shared->Prop}{s:Shared}(h:wpAny M A t Q E s) (hQ:∀a s,Q a s->Q' a s):wpAny M A t Q' E s:=aO h hQ fun _ _ x=>x
section
variable {X:Cx}
def kU (i:Nat):TE:=fun σ H Q=>∃v,σ[i]? = some (some v)/\Q v H
def tC (v:V):TE:=fun _ H Q=>Q v H
theorem yc {i:Nat}{x:Str}{pos:Pos}(hN:X.N[i]? = some x) (hv:Vis X.env.scope x) (hd:(x==("__debug__":Str))=false:=by decide) (hcd:(x==("__classdict__":Str))=false:=by decide):PE X (.Name x pos) (kU i):=by
 intro pins s σ H Q I h
 obtain⟨v,e,h⟩:=h
 obtain⟨m,hn,hl⟩:=I.loc
 obtain⟨u,r,l⟩:=hl i x v hN e hv
 have fin:EP X pins σ Q u s:=⟨v,H,I,r,h⟩
 rcases l with⟨hk,hm⟩ | ⟨hk,c,hc,hcell⟩
 ·exact wpAny_Name (wpAny_loadName_local I.ok.kind hk hn hm fin) hd
 ·rcases hk with hk | hk
  ·exact wpAny_Name (wpAny_loadName_cell I.ok.kind hk hc hcell fin) hd
  ·exact wpAny_Name (wpAny_loadName_free I.ok.kind hk hc hcell fin hcd) hd
theorem cK {i j pos}:PE X (.Constant (.int i) j pos) (tC (.int i)):=fun _ _ _ H _ I h=>wpAny_Constant_int ⟨.int i,H,I.tok _,⟨_,rfl⟩,h⟩
theorem jF {b j pos}:PE X (.Constant (.bool b) j pos) (tC (.bl b)):=fun _ _ _ H _ I h=>Constant_bool ⟨.bl b,H,I,rfl,h⟩
theorem dX {j pos}:PE X (.Constant .none j pos) (tC .non):=fun _ _ _ H _ I h=>Constant_none ⟨.non,H,I,rfl,h⟩
theorem fm {x j pos}:PE X (.Constant (.str x) j pos) (tC (.str x)):=fun _ _ _ H _ I h=>Calls.Constant_str ⟨.str x,H,I.tok _,⟨_,rfl⟩,h⟩
def Gl (X:Cx) (x:Str):Prop:=X.env.kindOf x=some .globalImplicit
theorem iz {E:Value->Shared->Prop}{pins:List (Addr × Obj)}{s:Shared}{σ:St}{H:Hp}{x:Str}{u:Value}{pos:Pos}{Q:Value->Shared->Prop}(I:Inv X pins σ H s) (hg:Gl X x) (hm:X.mg x=some u) (h:Q u s)
    (hd:(x==("__debug__":Str))=false:=by decide):wpAny (model X.prog X.w) X.A (eval (.Name x pos) X.env) Q E s :=
 Calls.Name_function_global I.ok.kind hg (Calls.loadGlobal_global (by rw[I.ok.glob];exact I.mod.glob.keeps I.bk) hm h) hd
theorem gs {E:Value->Shared->Prop}{pins:List (Addr × Obj)}{s:Shared}{σ:St}{H:Hp}{x:Str}{u:Value}{pos:Pos}{Q:Value->Shared->Prop}(I:Inv X pins σ H s) (hg:Gl X x) (hm:X.mg x=none) (hv:bootBuiltins x=some u) (h:Q u s)
    (hn:x≠"__name__":=by decide) (hd:(x==("__debug__":Str))=false:=by decide):wpAny (model X.prog X.w) X.A (eval (.Name x pos) X.env) Q E s:=by
 obtain⟨mb,h1,h2⟩:=I.mod.blt
 exact Calls.Name_function_global I.ok.kind hg (Calls.loadGlobal_builtin (by rw[I.ok.glob];exact I.mod.glob.keeps I.bk) hm (by rw[I.ok.blt];exact h1.keeps I.bk) ((h2 x hn).trans hv) h) hd
theorem dP {x:Str}{v:V}{u:Value}{pos:Pos}(hg:Gl X x) (hm:X.mg x=some u) (r:RelV v u) (hd:(x==("__debug__":Str))=false:=by decide):PE X (.Name x pos) (tC v) :=
 fun _ _ _ H _ I h=>iz I hg hm ⟨v,H,I,r,h⟩ hd
theorem i9 {x:Str}{v:V}{u:Value}{pos:Pos}(hg:Gl X x) (hm:X.mg x=none) (hv:bootBuiltins x=some u) (r:RelV v u) (hn:x≠"__name__":=by decide) (hd:(x==("__debug__":Str))=false:=by decide):PE X (.Name x pos) (tC v) :=
 fun _ _ _ H _ I h=>gs I hg hm hv ⟨v,H,I,r,h⟩ hn hd
variable {a b:Expr}{ta tb:TE}{pos:Pos}
def tB (t:TE):TT:=fun σ H Q=>t σ H fun x H1=>∃c,x=.bl c/\Q c H1
theorem gr {e:Expr}{t:TE}(h:PE X e t) (he:∀whole,isTrue e X.env whole=(do let v ← whole;standAt e.pos;holding [v] (truthy v)):=by intro _;rfl):PT X e (tB t):=by
 intro pins s σ H Q I hw
 refine isTrue_plain (thn (h pins s σ H _ I hw) fun v s1 ⟨x,H1,I1,r1,q1⟩=>?_) (he _)
 obtain⟨d,rfl,q⟩:=q1
 cases r1
 exact wpAny_truthy_bool ⟨H1,I1,q⟩
variable {tA tB':TT}{dH:List Expr}
def tAnd (t u:TT):TT:=fun σ H Q=>t σ H fun c H1=>if c=true then u σ H1 Q else Q false H1
def tOr (t u:TT):TT:=fun σ H Q=>t σ H fun c H1=>if c=true then Q true H1 else u σ H1 Q
def tNot (t:TT):TT:=fun σ H Q=>t σ H fun c H1=>Q (!c) H1
theorem gE (ha:PT X a tA):PW X (.BoolOp .And [a] pos) tA:=by
 intro wh pins s σ H Q I h
 refine isTrue_and (thn (ha pins s σ H Q I h) fun c s1 e=>?_)
 cases c with
 | true=>exact isTrue_and_nil e
 | false=>exact e
theorem lI (ha:PT X a tA):PW X (.BoolOp .Or [a] pos) tA:=by
 intro wh pins s σ H Q I h
 refine isTrue_or (thn (ha pins s σ H Q I h) fun c s1 e=>?_)
 cases c with
 | false=>exact isTrue_or_nil e
 | true=>exact e
theorem ic (ha:PT X a tA) (hb:PW X (.BoolOp .And (b::dH) pos) tB'):PW X (.BoolOp .And (a::b::dH) pos) (tAnd tA tB'):=by
 intro wh pins s σ H Q I h
 refine isTrue_and (thn (ha pins s σ H _ I h) fun c s1 ⟨H1,I1,q1⟩=>?_)
 cases c with
 | true=>exact hb wh pins s1 σ H1 Q I1 q1
 | false=>exact⟨H1,I1,q1⟩
theorem nR (ha:PT X a tA) (hb:PW X (.BoolOp .Or (b::dH) pos) tB'):PW X (.BoolOp .Or (a::b::dH) pos) (tOr tA tB'):=by
 intro wh pins s σ H Q I h
 refine isTrue_or (thn (ha pins s σ H _ I h) fun c s1 ⟨H1,I1,q1⟩=>?_)
 cases c with
 | true=>exact⟨H1,I1,q1⟩
 | false=>exact hb wh pins s1 σ H1 Q I1 q1
theorem ib (ha:PT X a tA):PT X (.UnaryOp .Not a pos) (tNot tA):=by
 intro pins s σ H Q I h
 exact isTrue_not (ha pins s σ H (fun c H1=>Q (!c) H1) I h)
def zH (ta tb:TE):TE:=fun σ H Q=>ta σ H fun x H1=>∃c,x=.bl c/\if c=true then tb σ H1 Q else Q (.bl false) H1
def zO (ta:TE):TE:=fun σ H Q=>ta σ H fun x H1=>∃c,x=.bl c/\Q (.bl (!c)) H1
theorem hZ {op}{t:TE}(h:PE X a t):PE X (.BoolOp op [a] pos) t:=fun pins s σ H Q I hw=>BoolOp_one (h pins s σ H Q I hw)
theorem ii (ha:PE X a ta) (hb:PE X (.BoolOp .And (b::dH) pos) tb):PE X (.BoolOp .And (a::b::dH) pos) (zH ta tb):=by
 intro pins s σ H Q I h
 refine BoolOp_and (thn (ha pins s σ H _ I h) fun v s1 ⟨x,H1,I1,r1,q1⟩=>?_)
 obtain⟨c,rfl,q1⟩:=q1
 cases r1
 refine wpAny_truthy_bool ?_
 cases c with
 | true=>exact hb pins s1 σ H1 Q I1 q1
 | false=>exact⟨.bl false,H1,I1,rfl,q1⟩
theorem oG (ha:PE X a ta):PE X (.UnaryOp .Not a pos) (zO ta):=by
 intro pins s σ H Q I h
 refine UnaryOp_ (thn (ha pins s σ H _ I h) fun v s1 ⟨x,H1,I1,r1,q1⟩=>?_)
 obtain⟨c,rfl,q1⟩:=q1
 cases r1
 exact not_of (wpAny_truthy_bool ⟨.bl (!c),H1,I1,rfl,q1⟩)
end
def SqL (K:W.Frag) (H:Hp) (a:Addr) (xs:List V):Prop :=
 Rd H a (.lst xs) ∨
  ∃(o:Obj) (its:Array Value) (n:Nat),K.lookup a=some o/\o.cls=.type "list"/\o.dict=none/\o.data=.seq its n/\its.size<=sizeLine/\Vals xs its.toList
def SqT (K:W.Frag) (H:Hp) (a:Addr) (xs:List V):Prop :=
 Rd H a (.tup xs) ∨
  ∃(o:Obj) (its:Array Value) (n:Nat),K.lookup a=some o/\o.cls=.type "tuple"/\o.data=.seq its n/\its.size<=sizeLine/\Vals xs its.toList
def absV:Value->Option V
 | .none=>some .non
 | .bool b=>some (.bl b)
 | .int i _=>some (.int i)
 | .str x _=>some (.str x)
 | .bytes b _=>some (.byt b)
 | .float b _=>some (.flt b)
 | .ref a=>some (.ref a)
 | .type n=>some (.ty n)
 | _=>none
theorem RelV.abs {x:V}{u:Value}(r:RelV x u):absV u=some x:=by
 cases x with
 | non=>cases r;rfl
 | bl _=>cases r;rfl
 | int _=>obtain⟨t,rfl⟩:=r;rfl
 | str _=>obtain⟨t,rfl⟩:=r;rfl
 | byt _=>obtain⟨t,rfl⟩:=r;rfl
 | flt _=>obtain⟨t,rfl⟩:=r;rfl
 | ref _=>cases r;rfl
 | ty _=>cases r;rfl
theorem RelV.inj {x y:V}{u:Value}(r:RelV x u) (q:RelV y u):x=y:=af (r.abs.symm.trans q.abs)
theorem Vals.inj:∀ {xs ys:List V}{us:List Value},Vals xs us->Vals ys us->xs=ys
 | _,_,_,.nil,.nil=>rfl
 | _,_,_,.cons r t,.cons r' t'=>by rw[r.inj r',Vals.inj t t']
section
variable {X:Cx}{pins:List (Addr × Obj)}{σ:St}{H:Hp}{s:Shared}{a:Addr}{xs ys:List V}
theorem SqL.of {K:W.Frag}(h:H a=some (.lst xs)):SqL K H a xs:=.inl (.inl h)
theorem SqT.of {K:W.Frag}(h:H a=some (.tup xs)):SqT K H a xs:=.inl (.inl h)
theorem Inv.list (I:Inv X pins σ H s) (h:SqL X.K H a xs):∃its:List Value,Vals xs its/\PlainL s.heap a its.toArray/\xs.length<=sizeLine:=by
 rcases h with h | ⟨o,its,n,hk,hc,hd,hs,hz,r⟩
 ·obtain⟨z,its,n,r,e⟩:=h.ok I.hok
  exact⟨its,r,⟨_,n,e,rfl,rfl,rfl⟩,z⟩
 ·refine⟨its.toList,r,⟨o,n,I.kIn a o hk,hc,hd,by simpa using hs⟩,?_⟩
  have e:=r.length
  simp only[bB] at e
  omega
theorem Inv.tuple (I:Inv X pins σ H s) (h:SqT X.K H a xs):∃its:List Value,Vals xs its/\IsTup s.heap a its.toArray/\xs.length<=sizeLine:=by
 rcases h with h | ⟨o,its,n,hk,hc,hs,hz,r⟩
 ·obtain⟨z,its,r,p⟩:=h.ok I.hok
  exact⟨its,r,p.tup,z⟩
 ·refine⟨its.toList,r,⟨o,I.kIn a o hk,hc,n,by simpa using hs⟩,?_⟩
  have e:=r.length
  simp only[bB] at e
  omega
theorem Inv.list_inj (I:Inv X pins σ H s) (h:SqL X.K H a xs) (h':SqL X.K H a ys):xs=ys:=by
 obtain⟨its,r,⟨o,n,e,_,_,d⟩,_⟩:=I.list h
 obtain⟨its',r',⟨o',n',e',_,_,d'⟩,_⟩:=I.list h'
 rw[e] at e';cases e'
 rw[d] at d'
 injection d' with d1 _
 have:its=its':=by simpa using congrArg Array.toList d1
 subst this
 exact r.inj r'
theorem Inv.tuple_inj (I:Inv X pins σ H s) (h:SqT X.K H a xs) (h':SqT X.K H a ys):xs=ys:=by
 obtain⟨its,r,⟨o,e,_,n,d⟩,_⟩:=I.tuple h
 obtain⟨its',r',⟨o',e',_,n',d'⟩,_⟩:=I.tuple h'
 rw[e] at e';cases e'
 rw[d] at d'
 injection d' with d1 _
 have:its=its':=by simpa using congrArg Array.toList d1
 subst this
 exact r.inj r'
end
abbrev Cx.wish (X:Cx) (E:Value->Shared->Prop):Cx:={ X with xe:=E }
abbrev Cx.nox (X:Cx):Cx:=X.wish fun _ _=>False
theorem Cx.Ok.wish {X:Cx}(ok:X.Ok) (E:Value->Shared->Prop):(X.wish E).Ok :=
 ⟨ok.mod,ok.kind,ok.glob,ok.blt,ok.above,ok.inj,ok.has,ok.cab,ok.hd,ok.frames,ok.stk,ok.exf,ok.bs,ok.bsz,ok.noex,ok.exfs,ok.funs,ok.frf⟩
theorem Cx.Ok.unwish {X:Cx}{E:Value->Shared->Prop}(ok:(X.wish E).Ok):X.Ok :=
 ⟨ok.mod,ok.kind,ok.glob,ok.blt,ok.above,ok.inj,ok.has,ok.cab,ok.hd,ok.frames,ok.stk,ok.exf,ok.bs,ok.bsz,ok.noex,ok.exfs,ok.funs,ok.frf⟩
section
variable {X:Cx}{pins:List (Addr × Obj)}{σ:St}{H:Hp}{s:Shared}{E:Value->Shared->Prop}
theorem Inv.wish (I:Inv X pins σ H s) (E:Value->Shared->Prop):Inv (X.wish E) pins σ H s:=⟨I.ok.wish E,I.os,I.bare,I.base,I.loc,I.cell,I.free,I.freeC,I.pin,I.hok,I.len⟩
theorem Inv.unwish (I:Inv (X.wish E) pins σ H s):Inv X pins σ H s:=⟨I.ok.unwish,I.os,I.bare,I.base,I.loc,I.cell,I.free,I.freeC,I.pin,I.hok,I.len⟩
theorem SP.unwish {D:Ends}{f:Flow}{s':Shared}(h:SP (X.wish E) pins D f s'):SP X pins D f s':=by
 cases f with
 | next=>obtain⟨σ',H',I,q⟩:=h;exact⟨σ',H',I.unwish,q⟩
 | brk=>obtain⟨σ',H',I,q⟩:=h;exact⟨σ',H',I.unwish,q⟩
 | cont=>obtain⟨σ',H',I,q⟩:=h;exact⟨σ',H',I.unwish,q⟩
 | ret u=>obtain⟨v,σ',H',I,r,q⟩:=h;exact⟨v,σ',H',I.unwish,r,q⟩
theorem PSs.nox {st:List Stmt}{t:TS}(h:PSs X.nox st t):PSs X st t:=fun pins s σ H D I hw =>
 aO (h pins s σ H D (I.wish _) hw) (fun _ _ q=>q.unwish) fun _ _ z=>False.elim z
end
section
variable {X:Cx}{st:Stmt}{dH:List Stmt}{t u:TS}{e:Expr}{te:TE}{pos:Pos}
def zM:TS:=fun D σ H=>D.nx σ H
def tSeq (t u:TS):TS:=fun D σ H=>t { D with nx:=u D } σ H
theorem dk:PSs X [] zM:=fun _ _ σ H _ I h=>wpAny_execs_nil ⟨σ,H,I,h⟩
theorem cG (h1:PS X st t) (h2:PSs X dH u):PSs X (st::dH) (tSeq t u):=by
 intro pins s σ H D I h
 refine wpAny_execs_cons (thn (h1 pins s σ H { D with nx:=u D } I h) fun f s1 q=>?_)
 cases f with
 | next =>
  obtain⟨σ',H',I',q⟩:=q
  exact h2 pins s1 σ' H' D I' q
 | ret v=>exact q
 | brk=>exact q
 | cont=>exact q
theorem cJ (h1:PS X st t):PSs X [st] t:=by
 intro pins s σ H D I h
 refine wpAny_execs_cons (thn (h1 pins s σ H D I h) fun f s1 q=>?_)
 cases f with
 | next=>exact wpAny_execs_nil q
 | ret v=>exact q
 | brk=>exact q
 | cont=>exact q
theorem Inv.quiet {pins:List (Addr × Obj)}{σ:St}{H:Hp}{s:Shared}(I:Inv X pins σ H s):interactive X.env=false:=by simp[interactive,I.ok.kind]
def zK (te:TE):TS:=fun D σ H=>te σ H fun _ H1=>D.nx σ H1
theorem dQ (he:PE X e te) (hs:swapsWith e none pos.line X.env=pure false:=by rfl):PS X (.Expr e pos) (zK te):=by
 intro pins s σ H D I h
 exact wpAny_Expr_any (thn (he pins s σ H _ I h) fun v s1 ⟨x,H1,I1,r1,q1⟩=>⟨σ,H1,I1,q1⟩) I.quiet hs
def tRet (te:TE):TS:=fun D σ H=>te σ H D.rt
theorem cS (he:PE X e te):PS X (.Return (some e) pos) (tRet te):=by
 intro pins s σ H D I h
 exact wpAny_Return_some (thn (he pins s σ H _ I h) fun v s1 ⟨x,H1,I1,r1,q1⟩=>⟨x,σ,H1,I1,r1,q1⟩)
def tIfS (c:TT) (t u:TS):TS:=fun D σ H=>c σ H fun b H1=>if b=true then t D σ H1 else u D σ H1
theorem dG {c:Expr}{a b:List Stmt}{tc:TT}(hc:PT X c tc) (ha:PSs X a t) (hb:PSs X b u):PS X (.If c a b pos) (tIfS tc t u):=by
 intro pins s σ H D I h
 refine wpAny_If (thn (hc pins s σ H _ I h) fun d s1 ⟨H1,I1,q1⟩=>?_)
 cases d with
 | true=>exact ha pins s1 σ H1 D I1 q1
 | false=>exact hb pins s1 σ H1 D I1 q1
def tR:TS:=fun _ _ _=>False
theorem kT:PS X st tR:=fun _ _ _ _ _ _ h=>h.elim
theorem kb {sts:List Stmt}:PSs X sts tR:=fun _ _ _ _ _ _ h=>h.elim
end
abbrev TG:=V->St->Hp->(St->Hp->Prop)->Prop
abbrev TGs:=List V->St->Hp->(St->Hp->Prop)->Prop
def PG (X:Cx) (target:Expr) (t:TG):Prop :=
 ∀(pins:List (Addr × Obj)) (s:Shared) (σ:St) (H:Hp) (v:V) (u:Value) (Q:St->Hp->Prop),Inv X pins σ H s->RelV v u->t v σ H Q ->
  wpAny (model X.prog X.w) X.A (assign target X.env u) (fun _ s'=>∃σ' H',Inv X pins σ' H' s'/\Q σ' H') X.xe s
def PGs (X:Cx) (ts:List Expr) (t:TGs):Prop :=
 ∀(pins:List (Addr × Obj)) (s:Shared) (σ:St) (H:Hp) (vs:List V) (us:List Value) (Q:St->Hp->Prop),Inv X pins σ H s->Vals vs us->t vs σ H Q ->
  wpAny (model X.prog X.w) X.A (assignInOrder ((assignEach ts X.env).map (·.2)) us) (fun _ s'=>∃σ' H',Inv X pins σ' H' s'/\Q σ' H') X.xe s
abbrev uT:=V->V->V->Hp->(Hp->Prop)->Prop
def uS (X:Cx) (t:uT):Prop :=
 ∀(pins:List (Addr × Obj)) (s:Shared) (σ:St) (H:Hp) (o i v:V) (ov iv u:Value) (Q:Hp->Prop),Inv X pins σ H s->RelV o ov->RelV i iv->RelV v u->t o i v H Q ->
  wpAny (model X.prog X.w) X.A (setItem ov iv u) (fun _ s'=>∃H',Inv X pins σ H' s'/\Q H') X.xe s
section
variable {X:Cx}{pos:Pos}
def kH (i:Nat):TG:=fun v σ H Q=>Q (σ.set i (some v)) H
theorem cT {i:Nat}{x:Str}(hN:X.N.Nodup) (hi:X.N[i]? = some x) (hx:Loc X.env.scope x) (hf:X.fn x=true∨X.env.scope.names.lookup x=some .local:=by first | exact .inl rfl | exact .inr rfl | assumption):PG X (.Name x pos) (kH i):=by
 intro pins s σ H v u Q I r h
 exact wpAny_assign_Name (la I hN hi hx r (fun s' I'=>⟨_,H,I',h⟩) hf)
def yi:TGs:=fun vs σ H Q=>vs=[]/\Q σ H
def rC (t:TG) (u:TGs):TGs:=fun vs σ H Q=>∃v r,vs=v::r/\t v σ H fun σ' H'=>u r σ' H' Q
theorem gB:PGs X [] yi:=by
 intro pins s σ H vs us Q I r h
 obtain⟨e,h⟩:=h
 subst e
 cases r
 exact assignInOrder_nil ⟨σ,H,I,h⟩
theorem d4 {e:Expr}{es:List Expr}{t:TG}{u:TGs}(h1:PG X e t) (h2:PGs X es u)
    (hs:(assignEach (e::es) X.env).map (·.2)=assign e X.env::(assignEach es X.env).map (·.2):=by rfl):PGs X (e::es) (rC t u):=by
 intro pins s σ H vs us Q I r h
 obtain⟨v,vr,e1,h⟩:=h
 subst e1
 cases r with
 | cons r rr =>
  rw[hs]
  refine assignInOrder_cons (thn (h1 pins s σ H _ _ _ I r h) fun _ s1 ⟨σ1,H1,I1,q1⟩=>?_)
  exact h2 pins s1 σ1 H1 _ _ Q I1 rr q1
def vU (K:W.Frag) (n:Nat) (t:TGs):TG:=fun v σ H Q=>∃a xs,v=.ref a/\SqT K H a xs/\xs.length=n/\t xs σ H Q
theorem xY {es:List Expr}{k:Nat}{t:TGs}{n:Nat}(hc:X.calm=true) (h:PGs X es t)
    (hn:(assignEach es X.env).length=n:=by rfl) (hst:(assignEach es X.env).findIdx? (·.1)=none:=by rfl):PG X (.Tuple es k pos) (vU X.K n t):=by
 intro pins s σ H v u Q I r hw
 obtain⟨a,xs,e1,hq,hl,hw⟩:=hw
 subst e1
 cases r
 obtain⟨its,rv,ht,hz⟩:=I.tuple hq
 refine assign_Tuple_tuple (I.ok.hd hc) ht (by simp[hn,<- hl,rv.length]) hst fun h' hx=>?_
 have I1:Inv X pins σ H { s with heap:=h' }:=I.kept (t':=s.toks) fun b o e=>hx b o (ak (ag e)) e
 exact h pins _ σ H xs _ Q I1 (by simpa using rv) hw
def gSub (to ti:TE) (t:uT):TG:=fun v σ H Q=>to σ H fun o H1=>ti σ H1 fun i H2=>t o i v H2 fun H3=>Q σ H3
theorem fv {o i:Expr}{to ti:TE}{t:uT}(ho:PE X o to) (hi:PE X i ti) (hs:uS X t)
    (ha:∀v,assign (.Subscript o i pos) X.env v=(do
     let ov ← holding [v] (eval o X.env)
     let iv ← holding [v,ov] (eval i X.env)
     standAt pos
     holding [v,ov,iv] (setItem ov iv v)
     release [v,ov,iv] []):=by intro _;rfl):PG X (.Subscript o i pos) (gSub to ti t):=by
 intro pins s σ H v u Q I r h
 rw[ha]
 refine aa (aJ (thn (ho pins s σ H _ I h) fun ov s1 ⟨x,H1,I1,r1,q1⟩=>?_))
 refine aa (aJ (thn (hi pins s1 σ H1 _ I1 q1) fun iv s2 ⟨y,H2,I2,r2,q2⟩=>?_))
 refine aa (wpAny_standAt (aa (aJ (thn (hs pins s2 σ H2 x y v ov iv u _ I2 r1 r2 r q2) fun _ s3 ⟨H3,I3,q3⟩=>?_))))
 exact wpAny_release ⟨σ,H3,I3,q3⟩
def vd (te:TE) (g:TG):TS:=fun D σ H=>te σ H fun x H1=>g x σ H1 D.nx
theorem fc {tg e:Expr}{te:TE}{g:TG}(he:PE X e te) (hg:PG X tg g) (hs:swapsWithSole [tg] e pos.line X.env=pure false:=by rfl) (hw:swappedStores [tg] e X.env=pure none:=by rfl)
    (h1:(assignEach [tg] X.env).map (·.2)=[assign tg X.env]:=by rfl):PS X (.Assign [tg] e pos) (vd te g):=by
 intro pins s σ H D I h
 refine wpAny_Assign_stores (thn (he pins s σ H _ I h) fun v s1 ⟨x,H1,I1,r1,q1⟩=>?_) hs hw
 rw[h1]
 exact thn (hg pins s1 σ H1 x v _ I1 r1 q1) fun _ s2 q=>q
theorem cQ {i:Nat}{x:Str}{e:Expr}{te:TE}{pos':Pos}(hN:X.N.Nodup) (hi:X.N[i]? = some x) (hx:Loc X.env.scope x) (he:PE X e te) (hs:swapsWith e (some (.Name x pos')) pos.line X.env=pure false:=by rfl) (hf:X.fn x=true∨X.env.scope.names.lookup x=some .local:=by first | exact .inl rfl | exact .inr rfl | assumption) :
    PS X (.Assign [.Name x pos'] e pos) (vd te (kH i)):=by
 intro pins s σ H D I h
 refine wpAny_Assign_Name (thn (he pins s σ H _ I h) fun v s1 ⟨y,H1,I1,r1,q1⟩=>?_) hs
 exact la I1 hN hi hx r1 (fun s2 I2=>⟨_,H1,I2,q1⟩) hf
end
section
variable {X:Cx}{pos:Pos}
def yG (c:TT) (tb:TS):TS:=fun D σ H=>∃W:Nat->St->Hp->Prop,(∃m,W m σ H)/\∀m σ H,W m σ H ->
 c σ H fun b H1=>if b=true then ∃N:St->Hp->Prop,(∀σ' H',N σ' H'->∃m',m'<m/\W m' σ' H')/\tb { D with nx:=N,ct:=N,bk:=D.nx } σ H1 else D.nx σ H1
theorem iW {c:Expr}{body:List Stmt}{tc:TT}{tb:TS}(hp:PassesOwn (model X.prog X.w) X.A X.env X.xe) (hc:PT X c tc) (hb:PSs X body tb):PS X (.While c body [] pos) (yG tc tb) := by
 intro pins s σ H D I h
 obtain⟨W,⟨m0,w0⟩,turn⟩:=h
 refine wpAny_While (codeAny_whileLoop (fun n s'=>∃σ' H',Inv X pins σ' H' s'/\W n σ' H') ?_ m0 ⟨σ,H,I,w0⟩)
 rintro n s1 ⟨σ1,H1,I1,w1⟩
 refine wpAny_passesOwn hp (thn (hc pins s1 σ1 H1 _ I1 (turn n σ1 H1 w1)) fun b s2 ⟨H2,I2,q2⟩=>?_)
 cases b with
 | true =>
  obtain⟨N,hN,q2⟩:=q2
  rw[if_pos rfl]
  refine wpAny_passesOwn hp (thn (hb pins s2 σ1 H2 _ I2 q2) fun f s3 q3=>?_)
  cases f with
  | next =>
   obtain⟨σ3,H3,I3,n3⟩:=q3
   obtain⟨m',hm,w3⟩:=hN σ3 H3 n3
   exact⟨m',hm,σ3,H3,I3,w3⟩
  | cont =>
   obtain⟨σ3,H3,I3,n3⟩:=q3
   obtain⟨m',hm,w3⟩:=hN σ3 H3 n3
   exact⟨m',hm,σ3,H3,I3,w3⟩
  | brk=>exact q3
  | ret v=>exact q3
 | false =>
  rw[if_neg aH]
  exact wpAny_execs_nil ⟨σ1,H2,I2,q2⟩
end
structure It where
 go:Nat->Hp->Prop
 yld:Nat->Hp->V->Hp->Prop
 stop:Nat->Hp->Prop
def eQ (X:Cx) (pins:List (Addr × Obj)) (H:Hp) (b:Addr):Prop :=
 H b=none/\b≠X.env.locals/\b∉X.fs/\(b∈X.ex∨X.s₀.heap.objs.size<=b)/\(∀x c,X.env.cells.lookup x=some c->c≠b)/\∀p∈X.pn++pins,p.1≠b
theorem Inv.fpOk {X:Cx}{pins:List (Addr × Obj)}{σ:St}{H H':Hp}{s:Shared}{b:Addr}(I:Inv X pins σ H s) (hb:s.heap.objs.size<=b) (hn:H' b=none):eQ X pins H' b:=by
 refine⟨hn,bC (aD I.lt hb),I.nofs hb,.inr (aX I.sz hb),fun x c e z=>?_,fun p hp z=>?_⟩
 ·obtain⟨v,q⟩:=I.cell x c e
  exact absurd (aD q.lt (by rw[z];exact hb)) (bb _)
 ·exact absurd (aD (ag (I.pin p hp).1) (by rw[z];exact hb)) (bb _)
structure Turn (P:Program) (w:World) (K:W.Frag) (tg:Expr) (J:It) (fp:List Addr) (it:Addr) (tn:Nat -> Heap -> Prop):Prop where
 mem:it∈fp
 obj:∀i h,tn i h->∀b∈fp,∃o,h.get? b=some o/\∀v,o.data≠.cell v
 keep:∀i h h',tn i h->(∀b∈fp,∀o,h.get? b=some o->h'.get? b=some o)->tn i h'
 item:∀(X:Cx),X.prog=P->X.w=w->X.K=K->X.calm=true->∀(i:Nat) (pins:List (Addr × Obj)) (s:Shared) (σ:St) (H:Hp) (E:Value->Shared->Prop),Inv X pins σ H s->(∀b∈fp,eQ X pins H b)->tn i s.heap->J.go i H ->
  wpAny (model P w) X.A (pyNext (.ref it)) (fun r s1=>∃u,r=some u /\
   wpAny (model P w) X.A (letOwnedTupleGo tg (.ref it) u) (fun _ s2=>∃x H',Inv X pins σ H' s2/\RelV x u/\J.yld i H x H'/\tn (i+1) s2.heap/\∀b∈fp,H' b=none) E s1) E s
 done:∀(X:Cx),X.prog=P->X.w=w->X.K=K->X.calm=true->∀(i:Nat) (pins:List (Addr × Obj)) (s:Shared) (σ:St) (H:Hp) (E:Value->Shared->Prop),Inv X pins σ H s->(∀b∈fp,eQ X pins H b)->tn i s.heap->J.stop i H ->
  wpAny (model P w) X.A (pyNext (.ref it)) (fun r s1=>r=none/\Inv X pins σ H s1) E s
 self:∀(A:Around) (i:Nat) (s:Shared) (Q:Value->Shared->Prop) (E:Value->Shared->Prop),tn i s.heap->Q (.ref it) s->wpAny (model P w) A (pyIter (.ref it)) Q E s
abbrev TI:=St->Hp->(It->Hp->Prop)->Prop
def PIE (X:Cx) (pins:List (Addr × Obj)) (σ:St) (tg:Expr) (R:It->Hp->Prop) (itv:Value) (s2:Shared):Prop :=
 ∃(it:Addr) (fp:List Addr) (tn:Nat->Heap->Prop) (J:It) (H':Hp),itv=.ref it/\Inv X pins σ H' s2/\Turn X.prog X.w X.K tg J fp it tn/\tn 0 s2.heap/\(∀b∈fp,eQ X pins H' b)/\R J H'
def PI (X:Cx) (tg iter:Expr) (wi:TI):Prop :=
 ∀(pins:List (Addr × Obj)) (s:Shared) (σ:St) (H:Hp) (R:It->Hp->Prop),Inv X pins σ H s->wi σ H R ->
  wpAny (model X.prog X.w) X.A (eval iter X.env) (fun v s1=>wpAny (model X.prog X.w) X.A (pyIter v) (PIE X pins σ tg R) X.xe s1) X.xe s
theorem nW {M:Model}{A:Around}{E:Value -> Shared -> Prop}{s:Shared}{tg:Expr}{it:Addr}{u:Value}{o:Obj}{n:String}{vs:Array Value}{Q:Unit -> Shared -> Prop}(ho:s.heap.get? it=some o) (hc:o.cls=.type n) (hd:o.data=.fields vs)
    (hn:["enumerate","zip","dict_itemiterator","dict_reverseitemiterator","odict_iterator","itertools.zip_longest","itertools.pairwise"].contains n=false) (hQ:Q () s):wpAny M A (letOwnedTupleGo tg (.ref it) u) Q E s:=by
 unfold letOwnedTupleGo
 cases tg <;> first
  | exact ae hQ
  | (cases u <;> first
      | exact ae hQ
      | (refine aa (wpAny_load ho ?_)
         rw[hc,hd]
         show wpAny M A (if (["enumerate","zip","dict_itemiterator","dict_reverseitemiterator","odict_iterator","itertools.zip_longest","itertools.pairwise"].contains n&&vs[0]?==some (rawInt _))=true then _ else _) Q E s
         rw[if_neg (by intro h;rw[hn,Bool.false_and] at h;cases h)]
         exact ae hQ))
def Itl (K:W.Frag) (a:Addr):It :=
 ⟨fun i H=>∃xs x,SqL K H a xs/\xs[i]? = some x,fun i H x H'=>H'=H/\∀xs,SqL K H a xs->xs[i]? = some x,fun i H=>∃xs,SqL K H a xs/\xs.length<=i⟩
def Itt (K:W.Frag) (a:Addr):It :=
 ⟨fun i H=>∃xs x,SqT K H a xs/\xs[i]? = some x,fun i H x H'=>H'=H/\∀xs,SqT K H a xs->xs[i]? = some x,fun i H=>∃xs,SqT K H a xs/\xs.length<=i⟩
def Itr (lo:Int) (n:Nat):It:=⟨fun i _=>i<n,fun i H x H'=>H'=H/\x=.int (lo+i),fun i _=>n<=i⟩
theorem j8 {P:Program}{w:World}{K:W.Frag}{tg:Expr}(a it:Addr):Turn P w K tg (Itl K a) [it] it (fun i h=>h.IsListIter it a i) where
 mem:=by simp
 obj:=fun i h st b hb=>by
  have e:b=it:=by simpa using hb
  subst e
  obtain⟨o,e,c,d⟩:=st
  exact⟨o,e,fun v z=>by rw[d] at z;cases z⟩
 keep:=fun i h h' st k=>st.at fun o e=>k it (by simp) o e
 item:=by
  intro X hP hw hK hc i pins s σ H E I hf st hg
  subst hP hw hK
  obtain⟨xs,x,hq,hx⟩:=hg
  obtain⟨its,rv,p,hz⟩:=I.list hq
  obtain⟨u,hu,ru⟩:=rv.get hx
  obtain⟨f0,f1,f2,f3,f4,f5⟩:=hf it (by simp)
  refine wpAny_pyNext_list_item st p.isList (x:=u) (by simpa using hu) fun h' st' sb=>?_
  have I1:Inv X pins σ H { s with heap:=h' }:=I.turned (t':=s.toks) (fun b o hb e=>(sb.2 b hb).trans e) f0 f1 f3 f4 f5
  obtain⟨o,e,c,d⟩:=id st'
  exact⟨u,rfl,nW (s:={ s with heap:=h' }) e c d (by decide) ⟨x,H,I1,ru,⟨rfl,fun ys hy=>by rw[I.list_inj hy hq];exact hx⟩,st',fun b hb=>(hf b hb).1⟩⟩
 done:=by
  intro X hP hw hK hc i pins s σ H E I hf st hg
  subst hP hw hK
  obtain⟨xs,hq,hx⟩:=hg
  obtain⟨its,rv,p,hz⟩:=I.list hq
  obtain⟨f0,f1,f2,f3,f4,f5⟩:=hf it (by simp)
  have hl:=rv.length
  exact wpAny_pyNext_list_end (I.ok.hd hc) st p.isList (by simp;omega) fun h' eb=>⟨rfl,I.turned (t':=s.toks) (fun b o hb e=>eb b o hb e) f0 f1 f3 f4 f5⟩
 self:=fun _ _ _ _ _ st h=>wpAny_pyIter_listiter st h
theorem mi {P:Program}{w:World}{K:W.Frag}{tg:Expr}(a it:Addr):Turn P w K tg (Itt K a) [it] it (fun i h=>h.IsTupleIter it a i) where
 mem:=by simp
 obj:=fun i h st b hb=>by
  have e:b=it:=by simpa using hb
  subst e
  obtain⟨o,e,c,d⟩:=st
  exact⟨o,e,fun v z=>by rw[d] at z;cases z⟩
 keep:=fun i h h' st k=>st.at fun o e=>k it (by simp) o e
 item:=by
  intro X hP hw hK hc i pins s σ H E I hf st hg
  subst hP hw hK
  obtain⟨xs,x,hq,hx⟩:=hg
  obtain⟨its,rv,p,hz⟩:=I.tuple hq
  obtain⟨u,hu,ru⟩:=rv.get hx
  obtain⟨f0,f1,f2,f3,f4,f5⟩:=hf it (by simp)
  refine wpAny_pyNext_tuple_item st (show s.heap.IsTuple a its.toArray from p) (x:=u) (by simpa using hu) fun h' st' sb=>?_
  have I1:Inv X pins σ H { s with heap:=h' }:=I.turned (t':=s.toks) (fun b o hb e=>(sb.2 b hb).trans e) f0 f1 f3 f4 f5
  obtain⟨o,e,c,d⟩:=id st'
  exact⟨u,rfl,nW (s:={ s with heap:=h' }) e c d (by decide) ⟨x,H,I1,ru,⟨rfl,fun ys hy=>by rw[I.tuple_inj hy hq];exact hx⟩,st',fun b hb=>(hf b hb).1⟩⟩
 done:=by
  intro X hP hw hK hc i pins s σ H E I hf st hg
  subst hP hw hK
  obtain⟨xs,hq,hx⟩:=hg
  obtain⟨its,rv,p,hz⟩:=I.tuple hq
  obtain⟨f0,f1,f2,f3,f4,f5⟩:=hf it (by simp)
  have hl:=rv.length
  exact wpAny_pyNext_tuple_end (I.ok.hd hc) st (show s.heap.IsTuple a its.toArray from p) (by simp;omega) fun h' eb=>⟨rfl,I.turned (t':=s.toks) (fun b o hb e=>eb b o hb e) f0 f1 f3 f4 f5⟩
 self:=fun _ _ _ _ _ st h=>wpAny_pyIter_tupleiter st h
theorem rg {P:Program}{w:World}{K:W.Frag}{tg:Expr}(it:Addr) (lo:Int) (n:Nat):Turn P w K tg (Itr lo n) [it] it (fun i h => IsRangeIter h it (lo+(i:Nat) * 1) ((n:Int)-(i:Nat)) 1) where
 mem:=by simp
 obj:=fun i h st b hb=>by
  have e:b=it:=by simpa using hb
  subst e
  exact⟨_,st,fun v z=>by
   have z':Data.fields _=Data.cell v:=z
   cases z'⟩
 keep:=fun i h h' st k=>k it (by simp) _ st
 item:=by
  intro X hP hw hK hc i pins s σ H E I hf st hg
  subst hP hw hK
  obtain⟨f0,f1,f2,f3,f4,f5⟩:=hf it (by simp)
  have W:=Walks.range (prog:=X.prog) (w:=X.w) (I.ok.hd hc) it lo 1 n
  refine W.item i s _ _ hg st fun v h' tk hv st' kk=>?_
  obtain⟨t,rfl⟩:=hv
  have I1:Inv X pins σ H { s with heap:=h',toks:=tk }:=I.turned (fun b o hb e=>kk b o (by simpa using hb) e) f0 f1 f3 f4 f5
  refine⟨_,rfl,nW (s:={ s with heap:=h',toks:=tk }) (n:="range_iterator") st' rfl rfl (by decide) ⟨.int (lo+i),H,I1,⟨t,?_⟩,⟨rfl,rfl⟩,st',fun b hb=>(hf b hb).1⟩⟩
  rw[Int.mul_one]
 done:=by
  intro X hP hw hK hc i pins s σ H E I hf st hg
  subst hP hw hK
  obtain⟨f0,f1,f2,f3,f4,f5⟩:=hf it (by simp)
  exact wpAny_pyNext_range_end (I.ok.hd hc) st (by have:n<=i:=hg;omega) fun h' eb=>⟨rfl,I.turned (t':=s.toks) (fun b o hb e=>eb b o hb e) f0 f1 f3 f4 f5⟩
 self:=fun _ _ _ _ _ st h=>wpAny_pyIter_rangeiter st h
section
variable {X:Cx}{tg:Expr}
def wz (K:W.Frag) (tl:TE):TI:=fun σ H R=>tl σ H fun x H1=>∃a,x=.ref a/\(∃xs,SqL K H1 a xs)/\R (Itl K a) H1
def yw (K:W.Frag) (tl:TE):TI:=fun σ H R=>tl σ H fun x H1=>∃a,x=.ref a/\(∃xs,SqT K H1 a xs)/\R (Itt K a) H1
theorem xu {l:Expr}{tl:TE}(hl:PE X l tl):PI X tg l (wz X.K tl):=by
 intro pins s σ H R I h
 refine thn (hl pins s σ H _ I h) fun v s1 ⟨x,H1,I1,r1,q1⟩=>?_
 obtain⟨a,e,⟨xs,hq⟩,q⟩:=q1
 subst e
 cases r1
 obtain⟨its,rv,p,hz⟩:=I1.list hq
 refine wpAny_pyIter_list p.isList ?_
 refine⟨s1.heap.objs.size,[s1.heap.objs.size],_,_,H1,rfl,I1.kept (t':=s1.toks) fun b o e=>ah _ e,j8 a _,⟨_,ap _ rfl,rfl,rfl⟩,fun b hb=>?_,q⟩
 have e:b=s1.heap.objs.size:=by simpa using hb
 subst e
 exact I1.fpOk (ad _) (I1.hok.fresh (ad _))
theorem yT {l:Expr}{tl:TE}(hl:PE X l tl):PI X tg l (yw X.K tl):=by
 intro pins s σ H R I h
 refine thn (hl pins s σ H _ I h) fun v s1 ⟨x,H1,I1,r1,q1⟩=>?_
 obtain⟨a,e,⟨xs,hq⟩,q⟩:=q1
 subst e
 cases r1
 obtain⟨its,rv,p,hz⟩:=I1.tuple hq
 refine bD (show s1.heap.IsTuple a its.toArray from p) ?_
 refine⟨s1.heap.objs.size,[s1.heap.objs.size],_,_,H1,rfl,I1.kept (t':=s1.toks) fun b o e=>ah _ e,mi a _,⟨_,ap _ rfl,rfl,rfl⟩,fun b hb=>?_,q⟩
 have e:b=s1.heap.objs.size:=by simpa using hb
 subst e
 exact I1.fpOk (ad _) (I1.hok.fresh (ad _))
theorem vp {pins:List (Addr × Obj)}{σ:St}{H:Hp}{s:Shared}{R:It->Hp->Prop}{E:Value->Shared->Prop}{lo hi:Int}{t u v:Tok}{tk:Nat}(I:Inv X pins σ H s) (h1:-(2 ^ 62)<=lo) (h2:lo<2 ^ 62) (h3:-(2 ^ 62)<=hi) (h4:hi<2 ^ 62)
    (q:R (Itr lo (hi-lo).toNat) H):wpAny (model X.prog X.w) X.A (pyIter (.ref s.heap.objs.size)) (PIE X pins σ tg R) E { s with heap:=s.heap.push { cls:=.type "range",data:=.fields #[.int lo t,.int hi u,.int 1 v] },toks:=tk }:=by
 refine wpAny_pyIter_range (IsRange.new ..) (small_one h1 h2 h3 h4) ?_
 have I1:Inv X pins σ H { s with heap:=s.heap.push { cls:=.type "range",data:=.fields #[.int lo t,.int hi u,.int 1 v] },toks:=tk }:=I.kept fun b o e=>ah _ e
 refine⟨(s.heap.push { cls:=.type "range",data:=.fields #[.int lo t,.int hi u,.int 1 v] }).objs.size,[(s.heap.push { cls:=.type "range",data:=.fields #[.int lo t,.int hi u,.int 1 v] }).objs.size],_,_,H,rfl,
  I1.kept (t':=tk) fun b o e=>ah _ e,rg _ lo (hi-lo).toNat,?_,fun b hb=>?_,q⟩
 ·have e1:lo+((0:Nat):Int) * 1=lo:=by simp
  have e2:(((hi-lo).toNat:Nat):Int)-((0:Nat):Int)=Builtin.Range.rangeSize lo hi 1:=by rw[rangeSize_one];split <;> omega
  show IsRangeIter _ _ (lo+((0:Nat):Int) * 1) ((((hi-lo).toNat:Nat):Int)-((0:Nat):Int)) 1
  rw[e1,e2]
  exact ap _ rfl
 ·have e:b=(s.heap.push { cls:=.type "range",data:=.fields #[.int lo t,.int hi u,.int 1 v] }).objs.size:=by simpa using hb
  subst e
  exact I1.fpOk (ad _) (I1.hok.fresh (ad _))
def zn (ta:TA):TI:=fun σ H R=>ta σ H fun vs H1=>∃j:Int,vs=[.int j]/\-(2 ^ 62)<=j/\j<2 ^ 62/\R (Itr 0 j.toNat) H1
theorem fY {a:Expr}{ta:TA}{p pos:Pos}(hg:Gl X "range") (hm:X.mg "range"=none) (ha:PA X [a] ta) (hs:starEach [a] X.env=[(false,eval a X.env)]:=by rfl):PI X tg (.Call (.Name "range" p) [a] [] pos) (zn ta):=by
 intro pins s σ H R I h
 refine Call_ (gs I hg hm boot_range (PyProof.Rows.callWith_type1 (thn (ha pos pins s σ H _ I h) fun us s1 ⟨vs,H1,I1,r1,q1⟩=>?_) hs rfl))
 obtain⟨j,e,q1,q2,q⟩:=q1
 subst e
 cases r1 with
 | cons r rr =>
  cases rr
  obtain⟨t,rfl⟩:=r
  exact call_range_1 (vp I1 (by omega) (by omega) q1 q2 (by simpa using q))
def tFor (wi:TI) (g:TG) (tb:TS):TS:=fun D σ H=>wi σ H fun J H1=>∃W:Nat->Nat->St->Hp->Prop,(∃m,W 0 m σ H1)/\∀i m σ H,W i m σ H ->
 (J.stop i H/\D.nx σ H)∨(J.go i H/\∃N:St->Hp->Prop,(∀σ' H',N σ' H'->∃m',m'<m/\W (i+1) m' σ' H')/\∀x H',J.yld i H x H'->g x σ H' fun σ2 H2=>tb { D with nx:=N,ct:=N,bk:=D.nx } σ2 H2)
def jT (fp:List Addr) (h:Heap):List (Addr × Obj):=fp.filterMap fun b=>(h.get? b).map fun o=>(b,o)
theorem gm {fp:List Addr}{h:Heap}{b:Addr}{o:Obj}(hb:b∈fp) (e:h.get? b=some o):(b,o)∈jT fp h:=bX.mpr ⟨b,hb,by rw[e];rfl⟩
theorem sP {fp:List Addr}{h:Heap}{p:Addr × Obj}(hp:p∈jT fp h):p.1∈fp/\h.get? p.1=some p.2:=by
 obtain⟨b,hb,e⟩:=bX.mp hp
 cases q:h.get? b with
 | none=>rw[q] at e;cases e
 | some o =>
  rw[q] at e
  have e':(b,o)=p:=af e
  subst e'
  exact⟨hb,q⟩
theorem Inv.pinned {pins:List (Addr × Obj)}{σ:St}{H:Hp}{s:Shared}{fp:List Addr}(I:Inv X pins σ H s) (hf:∀b∈fp,eQ X pins H b) (ho:∀b∈fp,∃o,s.heap.get? b=some o/\∀v,o.data≠.cell v):Inv X (pins++jT fp s.heap) σ H s :=
 I.pins_of fun p hp=>(ar.mp hp).elim (fun z=>I.pin p (aE _ z)) fun z=>by
  obtain⟨hb,e⟩:=sP z
  obtain⟨f0,f1,f2,_⟩:=hf p.1 hb
  obtain⟨o,e',d⟩:=ho p.1 hb
  rw[e] at e';cases e'
  exact⟨e,f0,f1,f2,d⟩
theorem Inv.unpinned {pins pl:List (Addr × Obj)}{σ:St}{H:Hp}{s:Shared}(I:Inv X (pins++pl) σ H s):Inv X pins σ H s:=I.pins_of fun p hp=>I.pin p (aE _ (ci _ hp))
theorem dY {iter:Expr}{body:List Stmt}{wi:TI}{g:TG}{tb:TS}{pos:Pos}(hp:PassesOwn (model X.prog X.w) X.A X.env X.xe) (hc:X.calm=true) (hi:PI X tg iter wi) (hg:PG X tg g) (hb:PSs X body tb)
    (hs:∀x,foldedSetIterable iter X.env x=pure x:=by intro _;rfl):PS X (.For tg iter body [] pos) (tFor wi g tb):=by
 intro pins s σ H D I h
 refine wpAny_For (thn (hi pins s σ H _ I h) fun v s1 h1=>thn h1 fun itv s2 h2=>?_) hs
 obtain⟨it,fp,tn,J,H2,e,I2,T,st2,f2,W,⟨m0,w0⟩,turn⟩:=h2
 subst e
 have stat:∀ {H':Hp},(∀b∈fp,H' b=none)->∀b∈fp,eQ X pins H' b:=fun hn b hb=>⟨hn b hb,(f2 b hb).2⟩
 refine codeAny_forLoop_any (fun n s'=>∃i σ' H',Inv X pins σ' H' s'/\tn i s'.heap/\(∀b∈fp,H' b=none)/\W i n σ' H') ?_ m0 ⟨0,σ,H2,I2,st2,fun b hb=>(f2 b hb).1,w0⟩
 rintro n s3 ⟨i,σ3,H3,I3,st3,fr3,w3⟩
 rcases turn i n σ3 H3 w3 with⟨stop,qn⟩ | ⟨go,N,hN,step⟩
 ·refine wpAny_passesOwn hp (thn (T.done X rfl rfl rfl hc i pins s3 σ3 H3 X.xe I3 (stat fr3) st3 stop) fun r s4 ⟨hr,I4⟩=>?_)
  subst hr
  exact wpAny_execs_nil ⟨σ3,H3,I4,qn⟩
 ·refine wpAny_passesOwn hp (thn (T.item X rfl rfl rfl hc i pins s3 σ3 H3 X.xe I3 (stat fr3) st3 go) fun r s4 ⟨u,hr,h4⟩=>?_)
  subst hr
  refine wpAny_passesOwn hp (thn h4 fun _ s5 ⟨x,H5,I5,r5,y5,st5,fr5⟩=>?_)
  have I5':=I5.pinned (stat fr5) (T.obj _ _ st5)
  refine wpAny_passesOwn hp (thn (hg _ s5 σ3 H5 x u _ I5' r5 (step x H5 y5)) fun _ s6 ⟨σ6,H6,I6,q6⟩=>?_)
  refine wpAny_passesOwn hp (thn (hb _ s6 σ6 H6 _ I6 q6) fun f s7 q7=>?_)
  have again:∀ {σ7:St} {H7:Hp},Inv X (pins++jT fp s5.heap) σ7 H7 s7->N σ7 H7->∃m,m<n/\∃i σ' H',Inv X pins σ' H' s7/\tn i s7.heap/\(∀b∈fp,H' b=none)/\W i m σ' H':=fun {σ7 H7} I7 n7=>by
   obtain⟨m',hm,w7⟩:=hN σ7 H7 n7
   refine⟨m',hm,i+1,σ7,H7,I7.unpinned,T.keep _ _ _ st5 fun b hb o e=>(I7.pin (b,o) (aE _ (aE _ (gm hb e)))).1,fun b hb=>?_,w7⟩
   obtain⟨o,e,d⟩:=T.obj _ _ st5 b hb
   exact(I7.pin (b,o) (aE _ (aE _ (gm hb e)))).2.1
  cases f with
  | next=>obtain⟨σ7,H7,I7,n7⟩:=q7;exact again I7 n7
  | cont=>obtain⟨σ7,H7,I7,n7⟩:=q7;exact again I7 n7
  | brk=>obtain⟨σ7,H7,I7,q7⟩:=q7;exact⟨σ7,H7,I7.unpinned,q7⟩
  | ret v=>obtain⟨x7,σ7,H7,I7,r7,q7⟩:=q7;exact⟨x7,σ7,H7,I7.unpinned,r7,q7⟩
end
theorem gh {K:W.Frag}{a:Addr}{xs:List V}{g:TG}{tb:TS}{D:Ends}{σ:St}{H:Hp}(Pv:Nat -> St -> Hp -> Prop) (h0:Pv 0 σ H) (hl:∀i σ H, i <= xs.length -> Pv i σ H -> SqL K H a xs)
    (hs:∀i x σ H,xs[i]? = some x->Pv i σ H->g x σ H fun σ2 H2=>tb { D with nx:=Pv (i+1),ct:=Pv (i+1),bk:=D.nx } σ2 H2) (hd:∀σ H,Pv xs.length σ H->D.nx σ H) :
    ∃W:Nat->Nat->St->Hp->Prop,(∃m,W 0 m σ H)/\∀i m σ H,W i m σ H ->
     ((Itl K a).stop i H/\D.nx σ H)∨((Itl K a).go i H/\∃N:St->Hp->Prop,(∀σ' H',N σ' H'->∃m',m'<m/\W (i+1) m' σ' H')/\∀x H',(Itl K a).yld i H x H'->g x σ H' fun σ2 H2=>tb { D with nx:=N,ct:=N,bk:=D.nx } σ2 H2):=by
 refine⟨fun i m σ H=>m=xs.length-i/\i<=xs.length/\Pv i σ H,⟨xs.length,by simp,aT _,h0⟩,?_⟩
 rintro i m σ H ⟨rfl,hi,p⟩
 have q:=hl i σ H hi p
 by_cases hlt:i<xs.length
 ·refine .inr ⟨⟨xs,xs[i],q,by simp[hlt]⟩,Pv (i+1),fun σ' H' p'=>⟨xs.length-(i+1),by omega,rfl,hlt,p'⟩,fun x H' y=>?_⟩
  obtain⟨e,y⟩:=y
  subst e
  exact hs i x σ _ (y xs q) p
 ·have e:i=xs.length:=by omega
  subst e
  exact .inl ⟨⟨xs,q,ad _⟩,hd σ H p⟩
theorem fU {K:W.Frag}{a:Addr}{xs:List V}{g:TG}{tb:TS}{D:Ends}{σ:St}{H:Hp}(Pv:Nat -> St -> Hp -> Prop) (h0:Pv 0 σ H) (hl:∀i σ H, i <= xs.length -> Pv i σ H -> SqT K H a xs)
    (hs:∀i x σ H,xs[i]? = some x->Pv i σ H->g x σ H fun σ2 H2=>tb { D with nx:=Pv (i+1),ct:=Pv (i+1),bk:=D.nx } σ2 H2) (hd:∀σ H,Pv xs.length σ H->D.nx σ H) :
    ∃W:Nat->Nat->St->Hp->Prop,(∃m,W 0 m σ H)/\∀i m σ H,W i m σ H ->
     ((Itt K a).stop i H/\D.nx σ H)∨((Itt K a).go i H/\∃N:St->Hp->Prop,(∀σ' H',N σ' H'->∃m',m'<m/\W (i+1) m' σ' H')/\∀x H',(Itt K a).yld i H x H'->g x σ H' fun σ2 H2=>tb { D with nx:=N,ct:=N,bk:=D.nx } σ2 H2):=by
 refine⟨fun i m σ H=>m=xs.length-i/\i<=xs.length/\Pv i σ H,⟨xs.length,by simp,aT _,h0⟩,?_⟩
 rintro i m σ H ⟨rfl,hi,p⟩
 have q:=hl i σ H hi p
 by_cases hlt:i<xs.length
 ·refine .inr ⟨⟨xs,xs[i],q,by simp[hlt]⟩,Pv (i+1),fun σ' H' p'=>⟨xs.length-(i+1),by omega,rfl,hlt,p'⟩,fun x H' y=>?_⟩
  obtain⟨e,y⟩:=y
  subst e
  exact hs i x σ _ (y xs q) p
 ·have e:i=xs.length:=by omega
  subst e
  exact .inl ⟨⟨xs,q,ad _⟩,hd σ H p⟩
theorem iX {lo:Int}{n:Nat}{g:TG}{tb:TS}{D:Ends}{σ:St}{H:Hp}(Pv:Nat -> St -> Hp -> Prop) (h0:Pv 0 σ H)
    (hs:∀i σ H,i<n->Pv i σ H->g (.int (lo+i)) σ H fun σ2 H2=>tb { D with nx:=Pv (i+1),ct:=Pv (i+1),bk:=D.nx } σ2 H2) (hd:∀σ H,Pv n σ H->D.nx σ H) :
    ∃W:Nat->Nat->St->Hp->Prop,(∃m,W 0 m σ H)/\∀i m σ H,W i m σ H ->
     ((Itr lo n).stop i H/\D.nx σ H)∨((Itr lo n).go i H/\∃N:St->Hp->Prop,(∀σ' H',N σ' H'->∃m',m'<m/\W (i+1) m' σ' H')/\∀x H',(Itr lo n).yld i H x H'->g x σ H' fun σ2 H2=>tb { D with nx:=N,ct:=N,bk:=D.nx } σ2 H2):=by
 refine⟨fun i m σ H=>m=n-i/\i<=n/\Pv i σ H,⟨n,by simp,aT _,h0⟩,?_⟩
 rintro i m σ H ⟨rfl,hi,p⟩
 by_cases hlt:i<n
 ·refine .inr ⟨hlt,Pv (i+1),fun σ' H' p'=>⟨n-(i+1),by omega,rfl,hlt,p'⟩,fun x H' y=>?_⟩
  obtain⟨e,y⟩:=y
  subst e y
  exact hs i σ _ hlt p
 ·have e:i=n:=by omega
  subst e
  exact .inl ⟨ad _,hd σ H p⟩
abbrev R2:=V->V->Hp->VK->Prop
def OpR (X:Cx) (f:Value->Value->Sem Value) (r:R2):Prop :=
 ∀(pins:List (Addr × Obj)) (s:Shared) (σ:St) (H:Hp) (x y:V) (v u:Value) (Q:VK),Inv X pins σ H s->RelV x v->RelV y u->r x y H Q ->
  wpAny (model X.prog X.w) X.A (f v u) (EP X pins σ Q) X.xe s
def UnR (X:Cx) (f:Value->Sem Value) (r:V->Hp->VK->Prop):Prop :=
 ∀(pins:List (Addr × Obj)) (s:Shared) (σ:St) (H:Hp) (x:V) (v:Value) (Q:VK),Inv X pins σ H s->RelV x v->r x H Q ->
  wpAny (model X.prog X.w) X.A (f v) (EP X pins σ Q) X.xe s
def fA (X:Cx) (f:Value) (r:List V->Hp->VK->Prop):Prop :=
 ∀(pins:List (Addr × Obj)) (s:Shared) (σ:St) (H:Hp) (xs:List V) (us:List Value) (Q:VK),Inv X pins σ H s->Vals xs us->r xs H Q ->
  wpAny (model X.prog X.w) X.A (call f us) (EP X pins σ Q) X.xe s
def tOp (r:R2) (ta tb:TE):TE:=fun σ H Q=>ta σ H fun x H1=>tb σ H1 fun y H2=>r x y H2 Q
def tUn (r:V->Hp->VK->Prop) (ta:TE):TE:=fun σ H Q=>ta σ H fun x H1=>r x H1 Q
def rI (C:Int->Int->Prop) (g:Int->Int->V):R2:=fun x y H Q=>∃i j,x=.int i/\y=.int j/\C i j/\Q (g i j) H
def rI0 (g:Int->Int->V):R2:=fun x y H Q=>∃i j,x=.int i/\y=.int j/\Q (g i j) H
def rU (g:Int->V):V->Hp->VK->Prop:=fun x H Q=>∃i,x=.int i/\Q (g i) H
section
variable {X:Cx}{a b c:Expr}{ta tb tc:TE}{pos:Pos}
theorem uZ (ha:PE X a ta) (hb:PE X b tb) {pins:List (Addr × Obj)}{s:Shared}{σ:St}{H:Hp}{R:V->V->Hp->Prop}(I:Inv X pins σ H s)
    (h:ta σ H fun x H1=>tb σ H1 fun y H2=>R x y H2) {Q:Value->Shared->Prop} {f:Value->Value->Sem Value}
    (hf:∀v u s2 x y H2,Inv X pins σ H2 s2->RelV x v->RelV y u->R x y H2->wpAny (model X.prog X.w) X.A (f v u) Q X.xe s2) :
    wpAny (model X.prog X.w) X.A (eval a X.env) (fun v s₁=>wpAny (model X.prog X.w) X.A (eval b X.env) (fun u s₂=>wpAny (model X.prog X.w) X.A (f v u) Q X.xe s₂) X.xe s₁) X.xe s:=by
 refine thn (ha pins s σ H _ I h) fun v s1 ⟨x,H1,I1,r1,q1⟩=>?_
 refine thn (hb pins s1 σ H1 _ I1 q1) fun u s2 ⟨y,H2,I2,r2,q2⟩=>?_
 exact hf v u s2 x y H2 I2 r1 r2 q2
theorem cW {op:Operator}{r:R2}(ho:OpR X (binaryOp op) r) (ha:PE X a ta) (hb:PE X b tb):PE X (.BinOp a op b pos) (tOp r ta tb):=by
 intro pins s σ H Q I h
 exact wpAny_BinOp (uZ ha hb I h fun v u s2 x y H2 I2 rx ry q=>ho pins s2 σ H2 x y v u Q I2 rx ry q)
theorem iu {op:UnaryOp}{r:V->Hp->VK->Prop}(ho:UnR X (unaryOp op) r) (ha:PE X a ta):PE X (.UnaryOp op a pos) (tUn r ta):=by
 intro pins s σ H Q I h
 exact UnaryOp_ (thn (ha pins s σ H _ I h) fun v s1 ⟨x,H1,I1,r1,q1⟩=>ho pins s1 σ H1 x v Q I1 r1 q1)
theorem opI {f:Value->Value->Sem Value}{C:Int->Int->Prop}{g:Int->Int->Int}
    (rule:∀(i j:Int) (t u:Tok) (s:Shared) (Q:Value->Shared->Prop) (E:Value->Shared->Prop),C i j->Q (.int (g i j) s.toks) { s with toks:=s.toks+1 }->wpAny (model X.prog X.w) X.A (f (.int i t) (.int j u)) Q E s) :
    OpR X f (rI C fun i j=>.int (g i j)):=by
 intro pins s σ H x y v u Q I rx ry h
 obtain⟨i,j,rfl,rfl,hc,q⟩:=h
 obtain⟨t,rfl⟩:=rx
 obtain⟨t',rfl⟩:=ry
 exact rule i j t t' s _ _ hc ⟨.int (g i j),H,I.tok _,⟨_,rfl⟩,q⟩
theorem yY {f:Value->Value->Sem Value}{g:Int->Int->Int}
    (rule:∀(i j:Int) (t u:Tok) (s:Shared) (Q:Value->Shared->Prop) (E:Value->Shared->Prop),Q (.int (g i j) s.toks) { s with toks:=s.toks+1 }->wpAny (model X.prog X.w) X.A (f (.int i t) (.int j u)) Q E s) :
    OpR X f (rI0 fun i j=>.int (g i j)):=by
 intro pins s σ H x y v u Q I rx ry h
 obtain⟨i,j,rfl,rfl,q⟩:=h
 obtain⟨t,rfl⟩:=rx
 obtain⟨t',rfl⟩:=ry
 exact rule i j t t' s _ _ ⟨.int (g i j),H,I.tok _,⟨_,rfl⟩,q⟩
theorem vf {f:Value->Value->Sem Value}{g:Int->Int->Bool}
    (rule:∀(i j:Int) (t u:Tok) (s:Shared) (Q:Value->Shared->Prop) (E:Value->Shared->Prop),Q (.bool (g i j)) s->wpAny (model X.prog X.w) X.A (f (.int i t) (.int j u)) Q E s) :
    OpR X f (rI0 fun i j=>.bl (g i j)):=by
 intro pins s σ H x y v u Q I rx ry h
 obtain⟨i,j,rfl,rfl,q⟩:=h
 obtain⟨t,rfl⟩:=rx
 obtain⟨t',rfl⟩:=ry
 exact rule i j t t' s _ _ ⟨.bl (g i j),H,I,rfl,q⟩
def CDiv (i j:Int):Prop:=0<j/\j<1073741824
def CPow (i j:Int):Prop:=0<=j/\j<=1000000/\i.natAbs<2 ^ 64
def CMul (i j:Int):Prop:=(-(2 ^ 64)<i/\i<2 ^ 64)∨(-(2 ^ 64)<j/\j<2 ^ 64)
theorem CMul.ok {i j:Int}(h:CMul i j):IntMulOk i j:=by
 rcases h with⟨h1,h2⟩ | ⟨h1,h2⟩
 ·exact .of_left (intBits_le_64 h1 h2)
 ·exact .of_right (intBits_le_64 h1 h2)
theorem y1:OpR X (binaryOp .Add) (rI0 fun i j=>.int (i+j)):=yY fun _ _ _ _ _ _ _ q=>add_int q
theorem jU:OpR X (binaryOp .Sub) (rI0 fun i j=>.int (i-j)):=yY fun _ _ _ _ _ _ _ q=>sub_int q
theorem ij:OpR X (binaryOp .Mult) (rI CMul fun i j=>.int (i * j)):=opI fun _ _ _ _ _ _ _ hc q=>mul_int q hc.ok
theorem kL:OpR X (binaryOp .FloorDiv) (rI CDiv fun i j=>.int (i / j)):=opI fun i j _ _ _ _ _ hc q=>by
 have h1:(0:Int)<j:=hc.1
 have h2:j<1073741824:=hc.2
 exact floordiv_int (by omega) (by rw[Int.fdiv_eq_ediv_of_nonneg i (by omega)];exact q) (.inl (PyProof.noPylong_small (by omega)))
theorem fD:OpR X (binaryOp .Mod) (rI (fun _ j=>0<j) fun i j=>.int (i % j)):=opI fun i j _ _ _ _ _ hc q=>by
 have h1:(0:Int)<j:=hc
 exact mod_int' (by omega) (by rw[Int.fmod_eq_emod_of_nonneg i (by omega)];exact q)
theorem yu:OpR X (binaryOp .Pow) (rI CPow fun i j=>.int (i ^ j.toNat)):=opI fun _ _ _ _ _ _ _ hc q=>pow_int_small hc.1 hc.2.1 hc.2.2 q
theorem unI {f:Value->Sem Value}{g:Int->Int}
    (rule:∀(i:Int) (t:Tok) (s:Shared) (Q:Value->Shared->Prop) (E:Value->Shared->Prop),Q (.int (g i) s.toks) { s with toks:=s.toks+1 }->wpAny (model X.prog X.w) X.A (f (.int i t)) Q E s) :
    UnR X f (rU fun i=>.int (g i)):=by
 intro pins s σ H x v Q I rx h
 obtain⟨i,rfl,q⟩:=h
 obtain⟨t,rfl⟩:=rx
 exact rule i t s _ _ ⟨.int (g i),H,I.tok _,⟨_,rfl⟩,q⟩
theorem gR:UnR X (unaryOp .USub) (rU fun i=>.int (-i)):=unI fun _ _ _ _ _ q=>neg_int q
end
def qX:V->V->Bool
 | .non,.non=>true | .non,.int _=>true | .int _,.non=>true | .non,.bl _=>true | .bl _,.non=>true | .non,.str _=>true | .str _,.non=>true
 | .int _,.int _=>true | .bl _,.bl _=>true | .str _,.str _=>true | .byt _,.byt _=>true
 | .int _,.str _=>true | .str _,.int _=>true | .bl _,.str _=>true | .str _,.bl _=>true
 | _,_=>false
def rEq:R2:=fun x y H Q=>qX x y=true/\Q (.bl (decide (x=y))) H
def rNe:R2:=fun x y H Q=>qX x y=true/\Q (.bl (!decide (x=y))) H
theorem p9 {i j:Int}:decide (V.int i=V.int j)=(i==j):=by
 rw[bn]
 simp
theorem uC {i j:Bool}:decide (V.bl i=V.bl j)=(i==j):=by
 rw[bn]
 simp
theorem pQ {i j:Str}:decide (V.str i=V.str j)=(i==j):=by
 rw[bn]
 simp
theorem pU {i j:Array UInt8}:decide (V.byt i=V.byt j)=(i.toList==j.toList):=by
 rw[bn]
 cases i
 cases j
 simp
section
variable {X:Cx}{a b c:Expr}{ta tb tc:TE}{pos:Pos}
theorem dB {pins:List (Addr × Obj)}{σ:St}{H:Hp}{s:Shared}{Q:VK}{k k':Bool}(I:Inv X pins σ H s) (q:Q (.bl k) H) (e:k=k'):EP X pins σ Q (.bool k') s:=by
 subst e
 exact⟨.bl k,H,I,rfl,q⟩
theorem zu:OpR X (compareOp .Eq) rEq:=by
 intro pins s σ H x y v u Q I rx ry h
 obtain⟨hs,q⟩:=h
 cases x with
 | non =>
  cases rx
  cases y with
  | non=>cases ry;exact PySem.EqNone.eq_none_none (dB I q (by simp))
  | bl j=>cases ry;exact PySem.EqNone.eq_none_bool (dB I q (by simp))
  | int j=>obtain⟨t',rfl⟩:=ry;exact PySem.EqNone.eq_none_int (dB I q (by simp))
  | str j=>obtain⟨t',rfl⟩:=ry;exact PySem.EqNone.eq_none_str (dB I q (by simp))
  | _=>exact absurd (show false=true from hs) aH
 | bl i =>
  cases rx
  cases y with
  | non=>cases ry;exact PySem.EqNone.eq_bool_none (dB I q (by simp))
  | bl j=>cases ry;exact eq_bool (dB I q uC)
  | str j=>obtain⟨t',rfl⟩:=ry;exact PySem.EqMixed.eq_bool_str (dB I q (by simp))
  | _=>exact absurd (show false=true from hs) aH
 | int i =>
  obtain⟨t,rfl⟩:=rx
  cases y with
  | non=>cases ry;exact PySem.EqNone.eq_int_none (dB I q (by simp))
  | int j=>obtain⟨t',rfl⟩:=ry;exact eq_int (dB I q p9)
  | str j=>obtain⟨t',rfl⟩:=ry;exact PySem.EqMixed.eq_int_str (dB I q (by simp))
  | _=>exact absurd (show false=true from hs) aH
 | str i =>
  obtain⟨t,rfl⟩:=rx
  cases y with
  | non=>cases ry;exact PySem.EqNone.eq_str_none (dB I q (by simp))
  | bl j=>cases ry;exact PySem.EqMixed.eq_str_bool (dB I q (by simp))
  | int j=>obtain⟨t',rfl⟩:=ry;exact PySem.EqMixed.eq_str_int (dB I q (by simp))
  | str j=>obtain⟨t',rfl⟩:=ry;exact eq_str (dB I q pQ)
  | _=>exact absurd (show false=true from hs) aH
 | byt i =>
  obtain⟨t,rfl⟩:=rx
  cases y with
  | byt j=>obtain⟨t',rfl⟩:=ry;exact W.eq_bytes (dB I q pU)
  | _=>exact absurd (show false=true from hs) aH
 | _=>cases y <;> exact absurd (show false=true from hs) aH
theorem zS:OpR X (compareOp .NotEq) rNe:=by
 intro pins s σ H x y v u Q I rx ry h
 obtain⟨hs,q⟩:=h
 cases x with
 | non =>
  cases rx
  cases y with
  | non=>cases ry;exact PySem.EqNone.ne_none_none (dB I q (by simp))
  | bl j=>cases ry;exact PySem.EqNone.ne_none_bool (dB I q (by simp))
  | int j=>obtain⟨t',rfl⟩:=ry;exact PySem.EqNone.ne_none_int (dB I q (by simp))
  | str j=>obtain⟨t',rfl⟩:=ry;exact PySem.EqNone.ne_none_str (dB I q (by simp))
  | _=>exact absurd (show false=true from hs) aH
 | bl i =>
  cases rx
  cases y with
  | non=>cases ry;exact PySem.EqNone.ne_bool_none (dB I q (by simp))
  | bl j=>cases ry;exact ne_bool (dB I q (congrArg not uC))
  | str j=>obtain⟨t',rfl⟩:=ry;exact PySem.EqMixed.ne_bool_str (dB I q (by simp))
  | _=>exact absurd (show false=true from hs) aH
 | int i =>
  obtain⟨t,rfl⟩:=rx
  cases y with
  | non=>cases ry;exact PySem.EqNone.ne_int_none (dB I q (by simp))
  | int j=>obtain⟨t',rfl⟩:=ry;exact ne_int (dB I q (congrArg not p9))
  | str j=>obtain⟨t',rfl⟩:=ry;exact PySem.EqMixed.ne_int_str (dB I q (by simp))
  | _=>exact absurd (show false=true from hs) aH
 | str i =>
  obtain⟨t,rfl⟩:=rx
  cases y with
  | non=>cases ry;exact PySem.EqNone.ne_str_none (dB I q (by simp))
  | bl j=>cases ry;exact PySem.EqMixed.ne_str_bool (dB I q (by simp))
  | int j=>obtain⟨t',rfl⟩:=ry;exact PySem.EqMixed.ne_str_int (dB I q (by simp))
  | str j=>obtain⟨t',rfl⟩:=ry;exact ne_str (dB I q (congrArg not pQ))
  | _=>exact absurd (show false=true from hs) aH
 | byt i =>
  obtain⟨t,rfl⟩:=rx
  cases y with
  | byt j=>obtain⟨t',rfl⟩:=ry;exact W.ne_bytes (dB I q (congrArg not pU))
  | _=>exact absurd (show false=true from hs) aH
 | _=>cases y <;> exact absurd (show false=true from hs) aH
theorem zG:OpR X (compareOp .Lt) (rI0 fun i j=>.bl (decide (i<j))):=vf fun _ _ _ _ _ _ _ q=>lt_int q
theorem jq:OpR X (compareOp .Gt) (rI0 fun i j=>.bl (decide (j<i))):=vf fun _ _ _ _ _ _ _ q=>gt_int q
theorem zB:OpR X (compareOp .GtE) (rI0 fun i j=>.bl (decide (j<=i))):=vf fun _ _ _ _ _ _ _ q=>ge_int q
theorem uh:OpR X (compareOp .Lt) (fun x y H Q=>∃i j,x=.str i/\y=.str j/\Q (.bl (decide (i.cps.toList<j.cps.toList))) H):=by
 intro pins s σ H x y v u Q I rx ry h
 obtain⟨i,j,rfl,rfl,q⟩:=h
 obtain⟨t,rfl⟩:=rx
 obtain⟨t',rfl⟩:=ry
 exact lt_str (dB I q rfl)
theorem yz:OpR X (compareOp .Is) (fun x y H Q=>y=.non/\Q (.bl (decide (x=.non))) H):=by
 intro pins s σ H x y v u Q I rx ry h
 obtain⟨rfl,q⟩:=h
 cases ry
 refine is_none_gen (dB I q ?_)
 cases x <;> first
  | (cases rx;rfl)
  | (obtain⟨t,rfl⟩:=rx;rfl)
theorem xF:OpR X (compareOp .IsNot) (fun x y H Q=>y=.non/\Q (.bl (!decide (x=.non))) H):=by
 intro pins s σ H x y v u Q I rx ry h
 obtain⟨rfl,q⟩:=h
 cases ry
 refine isnot_none_gen (dB I q ?_)
 cases x <;> first
  | (cases rx;rfl)
  | (obtain⟨t,rfl⟩:=rx;rfl)
theorem dg (b:Expr) {op:CmpOp}(h:op≠.In:=by decide) (h2:op≠.NotIn:=by decide):behindInMarks op b=false:=by
 have e1:(op==CmpOp.In)=false:=by cases op <;> first | rfl | exact absurd rfl h
 have e2:(op==CmpOp.NotIn)=false:=by cases op <;> first | rfl | exact absurd rfl h2
 cases b <;> simp[behindInMarks,e1,e2]
theorem gn {op:CmpOp}{r:R2}(ho:OpR X (compareOp op) r) (ha:PE X a ta) (hb:PE X b tb) (hm:behindInMarks op b=false):PE X (.Compare a [op] [b] pos) (tOp r ta tb):=by
 intro pins s σ H Q I h
 exact wpAny_Compare1 (uZ ha hb I h fun v u s2 x y H2 I2 rx ry q=>ho pins s2 σ H2 x y v u Q I2 rx ry q) hm
def zN (t:TE):TT:=fun σ H Q=>t σ H fun x H'=>∃k,x=.bl k/\Q k H'
theorem cU {op:CmpOp}{r:R2}(ho:OpR X (compareOp op) r) (ha:PE X a ta) (hb:PE X b tb) (hm:behindInMarks op b=false):PT X (.Compare a [op] [b] pos) (zN (tOp r ta tb)):=by
 intro pins s σ H Q I h
 refine wpAny_isTrue_Compare1 (thn (ha pins s σ H _ I h) fun v s1 ⟨x,H1,I1,r1,q1⟩=>thn (hb pins s1 σ H1 _ I1 q1) fun u s2 ⟨y,H2,I2,r2,q2⟩ =>
  thn (ho pins s2 σ H2 x y v u _ I2 r1 r2 q2) fun c s3 ⟨z,H3,I3,r3,k,e,q3⟩=>?_) hm
 subst e
 cases r3
 exact wpAny_truthy_bool ⟨H3,I3,q3⟩
theorem je:(sizeLine:Nat)<2 ^ 63:=by rw[sizeLine_eq];decide
theorem re:OpR X (binaryOp .Add) (fun x y H Q=>∃i j,x=.str i/\y=.str j/\i.length+j.length<=sizeLine/\Q (.str (i++j)) H):=by
 intro pins s σ H x y v u Q I rx ry h
 obtain⟨i,j,rfl,rfl,hz,q⟩:=h
 obtain⟨t,rfl⟩:=rx
 obtain⟨t',rfl⟩:=ry
 exact add_str (fun t' tk=>⟨.str (i++j),H,I.tok _,⟨_,rfl⟩,q⟩) hz
theorem fq {x:V}{us:List Value}(r:Vals [x] us):∃u,us=[u]/\RelV x u:=by
 cases r with
 | cons r1 r2=>cases r2;exact⟨_,rfl,r1⟩
theorem hU {x y:V}{us:List Value}(r:Vals [x,y] us):∃u w',us=[u,w']/\RelV x u/\RelV y w':=by
 cases r with
 | cons r1 r2 =>
  cases r2 with
  | cons r3 r4=>cases r4;exact⟨_,_,rfl,r1,r3⟩
theorem vV:fA X (.builtin "abs") (fun xs H Q=>∃i,xs=[.int i]/\Q (.int (if i<0 then -i else i)) H):=by
 intro pins s σ H xs us Q I r h
 obtain⟨i,rfl,q⟩:=h
 obtain⟨u,rfl,t,rfl⟩:=fq r
 exact call_abs_int fun u tk=>⟨.int (if i<0 then -i else i),H,I.tok _,⟨_,rfl⟩,q⟩
theorem tT (hc:X.calm=true):fA X (.builtin "max") (fun xs H Q=>∃i j,xs=[.int i,.int j]/\Q (.int (if j > i then j else i)) H):=by
 intro pins s σ H xs us Q I r h
 obtain⟨i,j,rfl,q⟩:=h
 obtain⟨u,w',rfl,⟨t,rfl⟩,⟨t',rfl⟩⟩:=hU r
 refine max_two_ints (I.ok.hd hc) fun h' tk k=>⟨_,H,I.kept k,?_,q⟩
 by_cases hj:j > i
 ·rw[if_pos hj,if_pos hj];exact⟨_,rfl⟩
 ·rw[if_neg hj,if_neg hj];exact⟨_,rfl⟩
theorem uc (hc:X.calm=true):fA X (.builtin "min") (fun xs H Q=>∃i j,xs=[.int i,.int j]/\Q (.int (if j<i then j else i)) H):=by
 intro pins s σ H xs us Q I r h
 obtain⟨i,j,rfl,q⟩:=h
 obtain⟨u,w',rfl,⟨t,rfl⟩,⟨t',rfl⟩⟩:=hU r
 refine min_two_ints (I.ok.hd hc) fun h' tk k=>⟨_,H,I.kept k,?_,q⟩
 by_cases hj:j<i
 ·rw[if_pos hj,if_pos hj];exact⟨_,rfl⟩
 ·rw[if_neg hj,if_neg hj];exact⟨_,rfl⟩
theorem oM:fA X (.type "str") (fun xs H Q=>∃i,xs=[.int i]/\i.natAbs.log2<1920/\Q (.str (toString i)) H):=by
 intro pins s σ H xs us Q I r h
 obtain⟨i,rfl,hz,q⟩:=h
 obtain⟨u,rfl,t,rfl⟩:=fq r
 exact PySem.P.str_of_int hz ⟨.str _,H,I.tok _,⟨_,rfl⟩,q⟩
def vH (K:W.Frag) (x:V) (H:Hp) (n:Nat):Prop :=
 match x with
 | .str y=>y.length<=sizeLine/\n=y.length
 | .byt y=>y.size<=sizeLine/\n=y.size
 | .ref p=>(∃xs,SqL K H p xs/\n=xs.length)∨∃xs,SqT K H p xs/\n=xs.length
 | _=>False
theorem vM:fA X (.builtin "len") (fun xs H Q => ∃x n, xs=[x] /\ vH X.K x H n /\ Q (.int n) H) := by
 intro pins s σ H xs us Q I r h
 obtain⟨x,n,rfl,e,q⟩:=h
 obtain⟨u,rfl,rx⟩:=fq r
 have hl:=je
 have hs:sizeLine=16777216:=sizeLine_eq
 cases x with
 | str y =>
  obtain⟨t,rfl⟩:=rx
  obtain⟨hy,e'⟩:y.length<=sizeLine/\n=y.length:=e
  subst e'
  exact len_str (by omega) ⟨.int _,H,I.tok _,⟨_,rfl⟩,q⟩
 | byt y =>
  obtain⟨t,rfl⟩:=rx
  obtain⟨hy,e'⟩:y.size<=sizeLine/\n=y.size:=e
  subst e'
  exact W.len_bytes (by omega) ⟨.int _,H,I.tok _,⟨_,rfl⟩,q⟩
 | ref p =>
  cases rx
  have e':(∃xs,SqL X.K H p xs/\n=xs.length)∨∃xs,SqT X.K H p xs/\n=xs.length:=e
  rcases e' with⟨xs,hx,e'⟩ | ⟨xs,hx,e'⟩
  ·subst e'
   obtain⟨its,r',pl,hz⟩:=I.list hx
   have hlen:=r'.length
   exact Calls.call_len_list pl.isList (by simp only[aK];omega) ⟨.int xs.length,H,I.tok _,⟨_,by simp only[aK];rw[hlen]⟩,q⟩
  ·subst e'
   obtain⟨its,r',pl,hz⟩:=I.tuple hx
   have hlen:=r'.length
   exact len_tuple pl (by simp only[aK];omega) ⟨.int xs.length,H,I.tok _,⟨_,by simp only[aK];rw[hlen]⟩,q⟩
 | _=>exact(show False from e).elim
end
structure ObjM (h:Heap) (x dx C:Addr) (mA:Str->Option Value):Prop where
 obj:h.get? x=some (W.instObj C dx)
 ns:h.Ns1 dx mA
 ne:dx≠x
theorem nE {h:Heap}{dx:Addr}{mA:Str -> Option Value}(n:h.Ns1 dx mA):∃od, h.get? dx=some od /\ ∀name, W.lookIn name od=some (mA name) := by
 obtain⟨o,es,ep,ho,hd,hk,_,hm⟩:=n
 refine⟨o,ho,fun name=>?_⟩
 have e:=hm name
 unfold nsFind findBy at e
 rw[<- Array.find?_toList] at e
 unfold W.lookIn
 rw[hd]
 dsimp only
 split
 ·rename_i y q
  rw[q] at e
  exact congrArg some e
 ·rename_i q
  rw[q] at e
  have a:es.toList.any (·.refKey)=false:=by
   rw[List.any_eq_false]
   intro y hy
   obtain⟨z,t,hkey⟩:=hk y (Array.mem_toList_iff.mp hy)
   simp[DictEntry.refKey,hkey]
  have a':¬ es.toList.any (·.refKey)=true:=by rw[a];exact aH
  rw[if_neg a']
  exact congrArg some e
theorem ObjM.look {h:Heap}{x dx C:Addr}{mA:Str->Option Value}(I:ObjM h x dx C mA):∃od,W.InstAt h x (W.instObj C dx) C (some od)/\∀name,W.lookIn name od=some (mA name) :=
 let ⟨od,ho,hl⟩:=nE I.ns
 ⟨od,⟨I.obj,rfl,rfl,ho⟩,hl⟩
theorem RelO.some_of {v:V}{o:Option Value}(r:RelO (some v) o):∃u,o=some u/\RelV v u:=by
 cases o with
 | none=>exact(show False from r).elim
 | some u=>exact⟨u,rfl,r⟩
theorem uj {v:V}{u:Value}(r:RelV v u):W.handedIn u=true:=by
 cases v with
 | non=>cases (show u=Value.none from r);rfl
 | bl b=>cases (show u=Value.bool b from r);rfl
 | int i=>obtain⟨t,e⟩:=(show ∃t,u=Value.int i t from r);cases e;rfl
 | str x=>obtain⟨t,e⟩:=(show ∃t,u=Value.str x t from r);cases e;rfl
 | byt b=>obtain⟨t,e⟩:=(show ∃t,u=Value.bytes b t from r);cases e;rfl
 | flt b=>obtain⟨t,e⟩:=(show ∃t,u=Value.float b t from r);cases e;rfl
 | ref a=>cases (show u=Value.ref a from r);rfl
 | ty n=>cases (show u=Value.type n from r);rfl
section
variable {P:Program}{w:World}{H H':Hp}{h h':Heap}{a C dx:Addr}{fs fs':List (Str × V)}
theorem pN (hok:HOk P w H h) (e:H a=some (.ins C dx fs)):∃mA,ObjM h a dx C mA/\(∀f,RelO (fs.lookup f) (mA f))/\PySem.Within mA (fs.map (·.1))/\fs.length<=1000/\H dx=some (.own a):=by
 obtain⟨d,z,ne,ob,mA,n,r,q⟩:=(show ObjOk P w H h a (.ins C dx fs) from hok a _ e)
 exact⟨mA,⟨ob,n,ne⟩,r,q,z,d⟩
end
structure Cls (K:W.Frag) (C:Addr):Prop where
 pg:W.plainGet K C Str.empty=true
 hd:W.hasDictIn K C=true
 po:W.plainOver K C=true
 sa:W.findIn K (.ref C) "__setattr__"=some (some (.builtin "object.__setattr__"))
theorem Cls.get {K:W.Frag}{C:Addr}(c:Cls K C) (f:Str):W.plainGet K C f=true:=c.pg
section
variable {X:Cx}{pins:List (Addr × Obj)}{σ:St}{H:Hp}{s:Shared}{a C dx:Addr}{fs:List (Str × V)}{f:Str}{v:V}{A:Around}{E:Value->Shared->Prop}
theorem xm {prog:Program}{w:World}{env:Env}{e:Expr}{f:Str}{pos:Pos}{s:Shared}{Q:Value->Shared->Prop}(hb:attributeBase e f env (eval e env)=eval e env)
    (h:wpAny (model prog w) A (eval e env) (fun o s₁=>wpAny (model prog w) A (getAttr o f true) Q E s₁) E s):wpAny (model prog w) A (eval (.Attribute e f pos) env) Q E s :=
 Attribute_any_ h (by rw[arm_eval_Attribute,hb])
end
section
variable {X:Cx}{pins:List (Addr × Obj)}{σ:St}{H:Hp}{s:Shared}{A:Around}{E:Value->Shared->Prop}{Q:Value->Shared->Prop}{c:Value}{b:Bool}
inductive TyOf (K:W.Frag) (H:Hp):V -> Value -> Prop where
 | non:TyOf K H .non (.type "NoneType")
 | bl (x:Bool):TyOf K H (.bl x) (.type "bool")
 | int (i:Int):TyOf K H (.int i) (.type "int")
 | str (x:Str):TyOf K H (.str x) (.type "str")
 | flt (x:UInt64):TyOf K H (.flt x) (.type "float")
 | lst {a:Addr} {xs:List V} (e:H a=some (.lst xs)):TyOf K H (.ref a) (.type "list")
 | frz {a:Addr} {o:Obj} {xs:List V} (e:H a=some (.frz o (.lst xs))):TyOf K H (.ref a) (.type "list")
 | tup {a:Addr} {xs:List V} (e:H a=some (.tup xs)):TyOf K H (.ref a) (.type "tuple")
 | dK {a:Addr} {kvs:List (Key × V)} (e:H a=some (.dK kvs)):TyOf K H (.ref a) (.type "dict")
 | dT {a:Addr} {kvs:List (List Key × V)} (e:H a=some (.dT kvs)):TyOf K H (.ref a) (.type "dict")
 | ins {a C dx:Addr} {fs:List (Str × V)} (e:H a=some (.ins C dx fs)) (cl:Cls K C) (ha:W.findIn K (.ref C) "__class__"=some (some (.builtin "object.__class__")))
     (hn:W.specialIn K (.builtin "object.__class__") "__get__"=some (some (.builtin "getset_descriptor.__get__"))) (htk:W.takesIn K (.builtin "object.__class__")=some true)
     (hm:W.mroIn K C (.type "object")=some true):TyOf K H (.ref a) (.ref C)
theorem tF {x:V}{u t:Value}(I:Inv X pins σ H s) (rx:RelV x u) (ty:TyOf X.K H x t) (e:W.kitOne X.K t c=some b) (h:∀tk,Q (.bool b) { s with toks:=tk }) :
    wpAny (model X.prog X.w) A (call (.builtin "isinstance") [u,c]) Q E s:=by
 cases ty with
 | non=>cases (show u=Value.none from rx);exact W.kia_one W.kitx_none I.kIn True.intro e (fun z=>nomatch z) h
 | bl y=>cases (show u=Value.bool y from rx);exact W.kia_one W.kitx_bool I.kIn True.intro e (fun z=>nomatch z) h
 | int i=>obtain⟨t,q⟩:=(show ∃t,u=Value.int i t from rx);cases q;exact W.kia_one W.kitx_int I.kIn True.intro e (fun z=>nomatch z) h
 | str y=>obtain⟨t,q⟩:=(show ∃t,u=Value.str y t from rx);cases q;exact W.kia_one W.kitx_str I.kIn True.intro e (fun z=>nomatch z) h
 | flt y=>obtain⟨t,q⟩:=(show ∃t,u=Value.float y t from rx);cases q;exact W.kia_one W.kitx_float I.kIn True.intro e (fun z=>nomatch z) h
 | @lst a xs ea =>
  cases (show u=Value.ref a from rx)
  obtain⟨_,_,n,_,h1⟩:=(show ObjOk X.prog X.w H s.heap a (.lst xs) from I.hok a _ ea)
  exact W.kia_one W.kitx_list I.kIn ⟨_,h1,rfl⟩ e (fun z=>nomatch z) h
 | @frz a ob xs ea =>
  cases (show u=Value.ref a from rx)
  obtain⟨_,_,_,n,_,h1⟩:=(show ObjOk X.prog X.w H s.heap a (.frz ob (.lst xs)) from I.hok a _ ea)
  exact W.kia_one W.kitx_list I.kIn ⟨_,h1,rfl⟩ e (fun z=>nomatch z) h
 | @tup a xs ea =>
  cases (show u=Value.ref a from rx)
  obtain⟨_,_,_,p⟩:=(show ObjOk X.prog X.w H s.heap a (.tup xs) from I.hok a _ ea)
  obtain⟨o,h1,h2,_⟩:=p
  exact W.kia_one W.kitx_tuple I.kIn ⟨o,h1,h2⟩ e (fun z=>nomatch z) h
 | @dK a kvs ea =>
  cases (show u=Value.ref a from rx)
  obtain⟨_,_,vs,_,p⟩:=(show ObjOk X.prog X.w H s.heap a (.dK kvs) from I.hok a _ ea)
  obtain⟨o,es,ep,h1,h2,_⟩:=p
  exact W.kia_one W.kitx_dict I.kIn ⟨o,h1,h2.1⟩ e (fun z=>nomatch z) h
 | @dT a kvs ea =>
  cases (show u=Value.ref a from rx)
  obtain⟨_,_,xs,_,o,es,ep,h1,h2,_⟩:=(show ObjOk X.prog X.w H s.heap a (.dT kvs) from I.hok a _ ea)
  exact W.kia_one W.kitx_dict I.kIn ⟨o,h1,h2.1⟩ e (fun z=>nomatch z) h
 | @ins a C dx fs ea cl ha hn htk hm =>
  cases (show u=Value.ref a from rx)
  obtain⟨mA,O,_⟩:=pN I.hok ea
  obtain⟨od,J,_⟩:=O.look
  exact W.kia_one (W.kitx_own (cl.get _) cl.hd ha hn htk hm) I.kIn J e (fun z=>nomatch z) h
end
structure Room (k:Nat) (A:Around):Prop where
 hd:A.handled=none
 dp:A.depth+3 * k+5<recursionLimit
 un:A.units+16 * k+200<cLine
 gd:A.guards=some []
theorem Room.mono {j k:Nat}{A:Around}(r:Room k A) (h:j<=k):Room j A:=⟨r.hd,by have:=r.dp;omega,by have:=r.un;omega,r.gd⟩
theorem Room.deeper {k:Nat}{A:Around}(r:Room (k+1) A) (env:Env):Room k (A.deeper env) :=
 ⟨r.hd,by have:=r.dp;show A.depth+1+3 * k+5<_;omega,by have:=r.un;show A.units+3+16 * k+200<_;omega,r.gd⟩
theorem Room.in1 {k:Nat}{A:Around}(r:Room (k+1) A):Room k A.in1 :=
 ⟨r.hd,by have:=r.dp;show A.depth+3 * k+5<_;omega,by have:=r.un;show A.units+1+16 * k+200<_;omega,r.gd⟩
theorem qo {A:Around}{C:Addr}{us:List Value}{kw:List (Str × Value)}:(A.under (.builtin "type.__call__" ⟨.ref C::us,kw⟩)).depth=A.depth+1:=by
 first | rfl | simp[Around.under,Code.weight,Code.isCreation,Code.isGuard,Code.isCaller,Code.frames,Code.isFrame,guardIds]
theorem rl {A:Around}{C:Addr}{us:List Value}{kw:List (Str × Value)}:(A.under (.builtin "type.__call__" ⟨.ref C::us,kw⟩)).units=A.units+1:=by
 first | rfl | simp[Around.under,Code.cUnits,Code.frames,Code.isFrame]
theorem Room.make {k:Nat}{A:Around}(r:Room (k+1) A) (C:Addr) (us:List Value) (kw:List (Str × Value)):Room k (A.under (.builtin "type.__call__" ⟨.ref C::us,kw⟩)) :=
 ⟨r.hd,by have:=r.dp;rw[qo];omega,by have:=r.un;rw[rl];omega,by first | exact r.gd | (simp[Around.under,Code.isGuard,guardIds];exact r.gd)⟩
theorem Room.depth {k:Nat}{A:Around}(r:Room k A):A.depth<recursionLimit:=by have:=r.dp;omega
theorem Room.units {k:Nat}{A:Around}(r:Room k A):A.units+64<cLine:=by have:=r.un;omega
def mw:TA:=fun _ H Q=>Q [] H
def lC (ta:TE) (tr:TA):TA:=fun σ H Q=>ta σ H fun x H1=>tr σ H1 fun xs H2=>Q (x::xs) H2
section
variable {X:Cx}{e:Expr}{es:List Expr}{te:TE}{t:TA}{pos:Pos}
theorem cE:PA X [] mw:=fun _ _ _ _ H Q I h=>Calls.spliced_nil ⟨[],H,I,.nil,h⟩
theorem cC (ha:PE X e te) (hr:PA X es t) (hs:starEach (e::es) X.env=(false,eval e X.env)::starEach es X.env:=by rfl):PA X (e::es) (lC te t):=by
 intro pos pins s σ H Q I h
 rw[hs]
 show wpAny _ _ (spliced ((false,eval e X.env)::backTo pos (starEach es X.env))) _ _ s
 refine Calls.spliced_cons (thn (ha pins s σ H _ I h) fun u s1 ⟨x,H1,I1,r1,q1⟩=>?_)
 exact thn (hr pos pins s1 σ H1 _ I1 q1) fun us s2 ⟨xs,H2,I2,r2,q2⟩=>⟨x::xs,H2,I2,.cons r1 r2,q2⟩
def tTup (t:TA):TE:=fun σ H Q=>t σ H fun xs H1=>xs.length<=sizeLine/\∀p,H1 p=none->Q (.ref p) (upd H1 p (.tup xs))
def yd (t:TA):TE:=fun σ H Q=>t σ H fun xs H1=>xs.length<=sizeLine/\∀p,H1 p=none->Q (.ref p) (upd H1 p (.lst xs))
theorem d8 {x1}(h:PA X es t):PE X (.Tuple es x1 pos) (tTup t):=by
 intro pins s σ H Q I hq
 refine wpAny_Tuple_spliced (thn (h pos pins s σ H _ I hq) fun us s1 ⟨xs,H1,I1,r,z,q⟩=>⟨by rw[<- r.length];exact z,?_⟩)
 have hf:H1 s1.heap.objs.size=none:=I1.hok.fresh (ad _)
 refine⟨.ref s1.heap.objs.size,upd H1 s1.heap.objs.size (.tup xs),I1.laid (t':=s1.toks) (fun b u e=>ah _ e) (ad _) ?_,rfl,q _ hf⟩
 exact⟨z,us,r,⟨_,ap _ rfl,rfl,_,rfl,rfl⟩⟩
theorem dC (h:PA X es t):PE X (.List es pos) (yd t):=by
 intro pins s σ H Q I hq
 refine wpAny_List_spliced (thn (h pos pins s σ H _ I hq) fun us s1 ⟨xs,H1,I1,r,z,q⟩=>⟨by rw[<- r.length];exact z,?_⟩)
 have hf:H1 s1.heap.objs.size=none:=I1.hok.fresh (ad _)
 refine⟨.ref s1.heap.objs.size,upd H1 s1.heap.objs.size (.lst xs),I1.laid (t':=s1.toks) (fun b u e=>ah _ e) (ad _) ?_,rfl,q _ hf⟩
 exact⟨z,us,0,r,ap _ rfl⟩
end
abbrev Sp:=List V->Hp->VK->XK->Prop
abbrev CXT:=List Env->Hp->Shared->XK->Value->Shared->Prop
structure Env0 (P:Program) (w:World) (K:W.Frag) (mg:Str->Option Value) (base:Heap) (A:Around) (outer:List Env) (s:Shared) (H:Hp):Prop where
 frames:A.frames=some outer
 mod:Mod K mg base
 bs:∀b o,base.get? b=some o->s.heap.get? b=some o/\H b=none
 bsz:base.objs.size<=s.heap.objs.size
 funs:s.heap.FunFrames base outer
 frf:∀b∈frs outer,H b=none
 hok:HOk P w H s.heap
 bare:AllBare s.gens
def CE (outer:List Env) (P:Program) (w:World) (H:Hp) (s:Shared) (Q:VK) (u:Value) (s':Shared):Prop :=
 ∃v H',s'.os=s.os/\AllBare s'.gens/\Un (frs outer) [] H H' s.heap s'.heap/\HOk P w H' s'.heap/\RelV v u/\Q v H'
def CR (CX:CXT) (outer:List Env) (P:Program) (w:World) (H:Hp) (s:Shared) (Q:VK) (E:XK) (r:Result) (s':Shared):Prop :=
 match r with
 | .ok (.ret u)=>CE outer P w H s Q u s'
 | .ok _=>False
 | .error e=>CX outer H s E e s'
structure FnOk (P:Program) (w:World) (K:W.Frag) (mg:Str->Option Value) (base:Heap) (CX:CXT) (k:Nat) (f:Addr) (fd:FuncData) (ps:List Str) (sp:Sp):Prop where
 len:∀vs H Q E,sp vs H Q E->vs.length=ps.length
 run:∀(A:Around) (outer:List Env) (s:Shared) (H:Hp) (args:Args) (us:List Value) (vs:List V) (Q:VK) (E:XK),Room k A->Env0 P w K mg base A outer s H->BindsTo s fd args (ps.zip us)->Vals vs us->sp vs H Q E ->
  codeAny (model P w) A (.call (.ref f) args) (CR CX outer P w H s Q E) s
theorem FnOk.imp {P:Program}{w:World}{K:W.Frag}{mg:Str->Option Value}{base:Heap}{CX:CXT}{k:Nat}{f:Addr}{fd:FuncData}{ps:List Str}{sp sp':Sp}(F:FnOk P w K mg base CX k f fd ps sp)
    (h:∀vs H Q E,sp' vs H Q E->sp vs H Q E):FnOk P w K mg base CX k f fd ps sp' :=
 ⟨fun vs H Q E q=>F.len vs H Q E (h _ _ _ _ q),fun A outer s H args us vs Q E hr he hb hv hs=>F.run A outer s H args us vs Q E hr he hb hv (h _ _ _ _ hs)⟩
theorem Env0.make {P:Program}{w:World}{K:W.Frag}{mg:Str->Option Value}{base:Heap}{A:Around}{outer:List Env}{s:Shared}{H:Hp}(e:Env0 P w K mg base A outer s H) (C:Addr) (us:List Value) (kw:List (Str × Value)) :
    Env0 P w K mg base (A.under (.builtin "type.__call__" ⟨.ref C::us,kw⟩)) outer s H:=⟨by first | exact e.frames | (simpa [Around.under,Code.envs,Code.isFrame,pushEnvs] using e.frames),e.mod,e.bs,e.bsz,e.funs,e.frf,e.hok,e.bare⟩
theorem Env0.in1 {P:Program}{w:World}{K:W.Frag}{mg:Str->Option Value}{base:Heap}{A:Around}{outer:List Env}{s:Shared}{H:Hp}(e:Env0 P w K mg base A outer s H) :
    Env0 P w K mg base A.in1 outer s H:=⟨e.frames,e.mod,e.bs,e.bsz,e.funs,e.frf,e.hok,e.bare⟩
section
variable {X:Cx}{pins:List (Addr × Obj)}{σ:St}{H:Hp}{s s':Shared}
theorem Inv.env0 (I:Inv X pins σ H s):Env0 X.prog X.w X.K X.mg X.base X.A X.stack s H :=
 ⟨I.ok.frames,I.ok.mod,I.bs,aX I.ok.bsz I.sz,I.stack,I.stkFree,I.hok,I.bare⟩
theorem Inv.after {Q:VK}{u:Value}(I:Inv X pins σ H s) (h:CE X.stack X.prog X.w H s Q u s'):EP X pins σ Q u s':=by
 obtain⟨v,H',os,bare,un,hok,r,q⟩:=h
 obtain⟨hh,g,d,t,os'⟩:=s'
 obtain rfl:os'=s.os:=os
 exact⟨v,H',I.call (h':=hh) (g':=g) (d':=d) (t':=t) (ch:=[]) un hok bare (fun b z=>absurd z (by simp)),r,q⟩
end
def qL (sp:Sp) (dvs:List V) (E:XK) (t:TA):TE:=fun σ H Q=>t σ H fun vs H1=>sp (vs++dvs) H1 Q E
def Binds (K:W.Frag) (fd:FuncData) (ps:List Str) (ds:List Value):Prop :=
 ∀(s:Shared) (us:List Value),K.In s.heap->(us++ds).length=ps.length->BindsTo s fd ⟨us,[]⟩ (ps.zip (us++ds))
theorem Binds.all {K:W.Frag}{fd:FuncData}{ps:List Str}(h:∀us:List Value,us.length=ps.length->bindArgs fd ⟨us,[]⟩=pure (ps.zip us)):Binds K fd ps []:=fun s us _ hl=>by
 rw[bE] at hl ⊢
 exact .of_eq (h us hl)
def lX (CX:CXT) (X:Cx) (E:XK):Prop:=∀(pins:List (Addr × Obj)) (σ:St) (H:Hp) (s:Shared) (e:Value) (s':Shared),Inv X pins σ H s->CX X.stack H s E e s'->X.xe e s'
section
variable {X:Cx}{CX:CXT}{k:Nat}{f C:Addr}{fd:FuncData}{ps:List Str}{sp:Sp}{dvs:List V}{ds:List Value}{E:XK}{x m:Str}{p pos apos:Pos}{e o:Expr}{es:List Expr}{ta:TE}{t:TA}
theorem yE {pins:List (Addr × Obj)}{σ:St}{H:Hp}{s:Shared}{Q:VK}{us:List Value}{vs:List V}(F:FnOk X.prog X.w X.K X.mg X.base CX k f fd ps sp) (hr:Room k X.A) (hb:Binds X.K fd ps ds) (hd:Vals dvs ds) (hx:lX CX X E)
    (I:Inv X pins σ H s) (r:Vals vs us) (h:sp (vs++dvs) H Q E):wpAny (model X.prog X.w) X.A (call (.ref f) us) (EP X pins σ Q) X.xe s:=by
 have r2:Vals (vs++dvs) (us++ds):=r.append hd
 have hl:(us++ds).length=ps.length:=by rw[<- r2.length];exact F.len _ _ _ _ h
 refine wpAny_call (codeAny_mono (F.run X.A X.stack s H ⟨us,[]⟩ (us++ds) (vs++dvs) Q E hr I.env0 (hb s us I.kIn hl) r2 h) fun r s' hq=>?_)
 cases r with
 | error e=>exact hx pins σ H s e s' I hq
 | ok fl =>
  cases fl with
  | ret u=>exact I.after hq
  | next=>exact False.elim hq
  | brk=>exact False.elim hq
  | cont=>exact False.elim hq
theorem qc (F:FnOk X.prog X.w X.K X.mg X.base CX k f fd ps sp) (hr:Room k X.A) (hg:Gl X x) (hm:X.mg x=some (.ref f)) (hk:W.keepIn X.K (.ref f)=true) (hb:Binds X.K fd ps ds) (hd:Vals dvs ds) (hx:lX CX X E)
    (ha:PA X (e::es) t) (hdb:(x==("__debug__":Str))=false:=by decide) (he:starEach (e::es) X.env=(false,eval e X.env)::starEach es X.env:=by rfl) (hpl:(backTo pos (starEach es X.env)).any (·.1)=false:=by rfl) :
    PE X (.Call (.Name x p) (e::es) [] pos) (qL sp dvs E t):=by
 intro pins s σ H Q I h
 refine bF (iz I hg hm ?_ hdb)
 refine W.callWith_K (h₀:=X.base) I.ok.mod.kin hk (thn (ha pos pins s σ H _ I h) fun us s1 ⟨vs,H1,I1,r,q⟩=>⟨I1.kIn,?_⟩) he hpl
 exact yE F hr hb hd hx I1 r q
end
def PK (X:Cx) (kws:List Keyword) (t:TA):Prop :=
 ∀(pos:Pos) (pins:List (Addr × Obj)) (s:Shared) (σ:St) (H:Hp) (Q:List V->Hp->Prop),Inv X pins σ H s->t σ H Q->wpAny (model X.prog X.w) X.A (evalAll ((backToKw pos (keywordEach kws X.env)).map (·.2))) (AP X pins σ Q) X.xe s
section
variable {X:Cx}{CX:CXT}{k:Nat}{f C:Addr}{fd:FuncData}{ps ks:List Str}{sp:Sp}{E:XK}{x m:Str}{p pos apos kpos:Pos}{e o:Expr}{es:List Expr}{kws:List Keyword}{te ta:TE}{t tk:TA}{nm:Option Str}
theorem yj:PK X [] mw:=fun _ _ _ _ H Q I h=>wpAny_evalAll_nil ⟨[],H,I,.nil,h⟩
theorem xf (ha:PE X e te) (hr:PK X kws t):PK X (⟨nm,e,kpos⟩::kws) (lC te t):=by
 intro pos pins s σ H Q I h
 show wpAny _ _ (evalAll ((do let v ← eval e X.env;standAt pos;pure v)::(backToKw pos (keywordEach kws X.env)).map (·.2))) _ _ s
 refine wpAny_evalAll_cons (aa (thn (ha pins s σ H _ I h) fun u s1 ⟨x,H1,I1,r1,q1⟩=>aa (wpAny_standAt (ae ?_))))
 exact thn (hr pos pins s1 σ H1 _ I1 q1) fun us s2 ⟨xs,H2,I2,r2,q2⟩=>⟨x::xs,H2,I2,.cons r1 r2,q2⟩
variable {g:List Value->List Value->List Value}{gV:List V->List V->List V}
end
structure FnScope (N P:List Str) (sc:Scope):Prop where
 kind:sc.kind=.function
 co:sc.isCoroutine=false
 gen:sc.isGenerator=false
 nd:N.Nodup
 pre:N.take P.length=P
 par:∀x∈P,sc.names.lookup x=some .local∨sc.names.lookup x=some .cell
 nofree:∀y∈sc.names,y.2≠.free
theorem nr {kindOf:Str -> Option NameKind}{x:Str}:∀ {binds:List (Str × Value)}{m:Str -> Option Value}, (∀v, (x, v) ∉ binds) -> bindL kindOf binds m x=m x
 | [],_,_=>rfl
 | (n,v)::r,m,h=>by
  unfold bindL
  rw[nr fun w hw=>h w (aM _ hw)]
  split
  ·have:x≠n:=by rintro rfl;exact h v bM
   simp[this]
  ·rfl
theorem ny {kindOf:Str -> Option NameKind}{x:Str}:∀ {binds:List (Str × Value)}{m:Str -> Option Value}, (∀v, (x, v) ∉ binds) -> bindC kindOf binds m x=m x
 | [],_,_=>rfl
 | (n,v)::r,m,h=>by
  unfold bindC
  rw[ny fun w hw=>h w (aM _ hw)]
  split
  ·rfl
  ·have:x≠n:=by rintro rfl;exact h v bM
   simp[this]
theorem nJ {kindOf:Str->Option NameKind}{x:Str}{v:Value}:∀ {P:List Str}{vs:List Value}{i:Nat}{m:Str->Option Value},P.Nodup->P[i]? = some x->vs[i]? = some v->kindOf x=some .local ->
    bindL kindOf (P.zip vs) m x=some v
 | [],_,_,_,_,h,_,_=>by simp at h
 | _::_,[],_,_,_,_,h,_=>by simp at h
 | p::P,w::vs,0,m,nd,h1,h2,hk=>by
  simp at h1 h2;subst h1;subst h2
  show bindL kindOf ((p,w)::P.zip vs) m p=_
  unfold bindL
  rw[nr fun v hv=>(aU.mp nd).1 (List.of_mem_zip hv).1,if_pos hk]
  simp
 | p::P,w::vs,i+1,m,nd,h1,h2,hk=>by
  show bindL kindOf ((p,w)::P.zip vs) m x=_
  unfold bindL
  exact nJ (i:=i) (aU.mp nd).2 (by simpa using h1) (by simpa using h2) hk
theorem m8 {kindOf:Str->Option NameKind}{x:Str}{v:Value}:∀ {P:List Str}{vs:List Value}{i:Nat}{m:Str->Option Value},P.Nodup->P[i]? = some x->vs[i]? = some v->kindOf x≠some .local ->
    bindC kindOf (P.zip vs) m x=some v
 | [],_,_,_,_,h,_,_=>by simp at h
 | _::_,[],_,_,_,_,h,_=>by simp at h
 | p::P,w::vs,0,m,nd,h1,h2,hk=>by
  simp at h1 h2;subst h1;subst h2
  show bindC kindOf ((p,w)::P.zip vs) m p=_
  unfold bindC
  rw[ny fun v hv=>(aU.mp nd).1 (List.of_mem_zip hv).1,if_neg hk]
  simp
 | p::P,w::vs,i+1,m,nd,h1,h2,hk=>by
  show bindC kindOf ((p,w)::P.zip vs) m x=_
  unfold bindC
  exact m8 (i:=i) (aU.mp nd).2 (by simpa using h1) (by simpa using h2) hk
def start (N:List Str) (vs:List V):St:=vs.map some++List.replicate (N.length-vs.length) none
def dE (CX:CXT) (P:Program) (w:World) (K:W.Frag) (mg:Str->Option Value) (base:Heap) (N:List Str) (qual:Str) (scope:Scope) (f:Addr) (cd:Value) (A:Around) (outer:List Env) (s:Shared) (H:Hp) (E:XK):Cx where
 prog:=P
 w:=w
 K:=K
 mg:=mg
 base:=base
 A:=A.deeper (envOfC qual scope s.heap.objs.size f cd)
 N:=N
 s₀:=s
 H₀:=H
 env:=envOfC qual scope s.heap.objs.size f cd
 outer:=outer
 stack:=envOfC qual scope s.heap.objs.size f cd::outer
 ex:=[]
 calm:=true
 fn:=fun _=>true
 pn:=[]
 xe:=fun e s'=>wpAny (model P w) (A.deeper (envOfC qual scope s.heap.objs.size f cd)) (leaving (envOfC qual scope s.heap.objs.size f cd) e) (fun _ s''=>CX outer H s E e s'') (fun e' s''=>CX outer H s E e' s'') s'
theorem ly {sc:Scope}{n:Nat}{x:Str}(h:sc.names.lookup x=some .cell):∃c,(cellsFrom n sc.names []).lookup x=some c:=by
 have q:=W.cellsFrom_some sc.names n [] (.inl h)
 exact bv.mp q
theorem sL {CX:CXT}{P:Program}{w:World}{K:W.Frag}{mg:Str -> Option Value}{base:Heap}{N ps:List Str}{qual:Str}{scope:Scope}{f:Addr}{cd:Value}{A:Around}{outer:List Env}{s s1:Shared}{H:Hp}{E:XK}{us:List Value}{vs:List V}
    (S:FnScope N ps scope) (hd:A.handled=none) (e0:Env0 P w K mg base A outer s H) (hl:vs.length=ps.length) (r:Vals vs us)
    (x:InCallC s s.heap.objs.size (bindL (envOfC qual scope s.heap.objs.size f cd).kindOf (ps.zip us) fun _=>none) (cellsFrom (s.heap.objs.size+1) scope.names []) (bindC (envOfC qual scope s.heap.objs.size f cd).kindOf (ps.zip us) fun _=>none) s1) :
    Inv (dE CX P w K mg base N qual scope f cd A outer s H E) [] (start N vs) H s1:=by
 have hpl:ps.length<=N.length:=by have:=congrArg List.length S.pre;rw[aF] at this;omega
 obtain⟨h1,tk,rfl,hk⟩:=x.done
 have noA:∀b:Addr,b∉(dE CX P w K mg base N qual scope f cd A outer s H E).ex:=fun b z=>absurd (show b∈([]:List Addr) from z) (by simp)
 refine⟨⟨e0.mod,S.kind,rfl,rfl,ad _,fun y z c h1 h2=>?_,fun y hy=>?_,fun y c _ h=>?_,fun _=>hd,Around.frames_deeper e0.frames,.inr ⟨rfl,rfl⟩,fun b z=>absurd z (noA b),e0.bs,e0.bsz,fun b _ _=>noA b,fun b z=>absurd z (noA b),e0.funs,e0.frf⟩,
  rfl,e0.bare,Un.kept hk,⟨_,x.toInCall.ns,fun i y v h1 h2 h3=>?_⟩,fun y c h=>⟨_,x.cell y c h⟩,e0.hok.fresh (ad _),fun y c h=>?_,fun p hp=>absurd (show p∈([]:List (Addr × Obj)) from hp) (by simp),e0.hok.kept hk,?_⟩
 ·exact name_of_addr x.apart (PySem.mem_of_lookup h1) (PySem.mem_of_lookup h2)
 ·have hy:scope.names.lookup y=some .cell∨scope.names.lookup y=some .free:=hy
  rcases hy with hy | hy
  ·exact ly hy
  ·exact absurd rfl (S.nofree _ (PySem.mem_of_lookup hy))
 ·exact aS (x.above y c (PySem.mem_of_lookup h))
 ·have hi:i<vs.length := by
     unfold start at h2
     by_cases hi:i<vs.length
     ·exact hi
     ·rw[bw (by simpa using hi)] at h2
      rw[List.getElem?_replicate] at h2
      split at h2 <;> cases h2
  have ha:vs[i]? = some v:=by
   unfold start at h2
   rw[bG (by simpa using hi),al] at h2
   cases e:vs[i]? with
   | none=>rw[e] at h2;cases h2
   | some a=>rw[e] at h2;cases h2;rfl
  obtain⟨u,hu,rv⟩:=r.get ha
  have hp:ps[i]? = some y:=by
   rw[<- S.pre,cx (by omega)];exact h1
  have ndP:ps.Nodup:=by rw[<- S.pre];exact S.nd.sublist (List.take_sublist _ _)
  refine⟨u,rv,?_⟩
  rcases S.par y (av hp) with k | k
  ·exact .inl ⟨k,nJ ndP hp hu k⟩
  ·obtain⟨c,e⟩:=ly (n:=s.heap.objs.size+1) k
   refine .inr ⟨.inl k,c,e,?_⟩
   have q:=x.cell y c e
   rw[m8 ndP hp hu (by show scope.names.lookup y≠_;rw[k];decide)] at q
   exact q
 ·exact e0.hok.fresh (aS (x.above y c (PySem.mem_of_lookup h)))
 ·unfold start
  show _=N.length
  rw[az,ac,bY]
  omega
theorem qT {CX:CXT}{P:Program}{w:World}{K:W.Frag}{mg:Str -> Option Value}{base:Heap}{k:Nat}{f:Addr}{name qual:Str}{params:Arguments}{body:List Stmt}{scope:Scope}{dV kV doc pm cdv ct oc:Value}{an od:Option Addr}
    {osl:Array (Option Value)} {N ps:List Str} {sp:Sp} (lk:K.lookup f=some ⟨oc,od,.func (W.fnOf name qual params body scope dV kV doc pm an cdv ct),osl⟩) (hcd:W.codeIn K cdv qual=true) (S:FnScope N ps scope)
    (len:∀vs H Q E,sp vs H Q E->vs.length=ps.length)
    (hbody:∀(A:Around) (outer:List Env) (s:Shared) (H:Hp) (vs:List V) (Q:VK) (E:XK),Room k (A.deeper (envOfC qual scope s.heap.objs.size f cdv))->sp vs H Q E ->
     ∃t,PSs (dE CX P w K mg base N qual scope f cdv A outer s H E) body t/\t { nx:=fun _ H'=>Q .non H',rt:=Q } (start N vs) H) :
    FnOk P w K mg base CX (k+1) f (W.fnOf name qual params body scope dV kV doc pm an cdv ct) ps sp:=by
 refine⟨len,fun A outer s H args us vs Q E hr e0 hb r hsp=>?_⟩
 have hl:=len _ _ _ _ hsp
 have KX:K.In s.heap:=e0.mod.kin.keeps fun b o e=>(e0.bs b o e).1
 have lim:s.heap.NoLimit:=e0.mod.nolimit.keeps fun b o e=>(e0.bs b o e).1
 have hkind:∀y∈ps.zip us,scope.names.lookup y.1=some .local∨(scope.names.lookup y.1=some .cell/\((cellsFrom (s.heap.objs.size+1) scope.names []).lookup y.1).isSome=true):=fun ⟨n,v⟩ hy=>by
  rcases S.par n (List.of_mem_zip hy).1 with q | q
  ·exact .inl q
  ·exact .inr ⟨q,W.cellsFrom_some _ _ _ (.inl q)⟩
 refine codeAny_call_function hr.depth (KX _ _ lk) rfl S.co S.gen rfl (W.codeRec_of KX hcd) (hb _ _ _ _ ?_)
 refine wpAny_newFunctionEnv_cells S.kind hkind fun env he s1 x=>?_
 subst he
 refine⟨lim.keeps x.toInCall.keep,codeAny_func ?_⟩
 obtain⟨t,ht,hq⟩:=hbody A outer s H vs Q E (hr.deeper _) hsp
 have I:Inv (dE CX P w K mg base N qual scope f cdv A outer s H E) [] (start N vs) H s1:=sL S hr.hd e0 hl r x
 refine aO (ht [] s1 (start N vs) H _ I hq) (fun fl s' hs=>?_) fun e s' hs=>hs
 have fin:∀ {σ':St} {H':Hp} {v:V} {u:Value},Inv (dE CX P w K mg base N qual scope f cdv A outer s H E) [] σ' H' s'->RelV v u->Q v H'->CE outer P w H s Q u s' :=
  fun {σ' H' v u} J rv q=>⟨v,H',J.os,J.bare,J.base,J.hok,rv,q⟩
 cases fl with
 | ret u =>
  obtain⟨v,σ',H',J,rv,q⟩:=hs
  exact fin J rv q
 | next =>
  obtain⟨σ',H',J,q⟩:=hs
  exact fin (v:=V.non) (u:=Value.none) J rfl q
 | brk =>
  obtain⟨_,_,_,q⟩:=hs
  exact False.elim q
 | cont =>
  obtain⟨_,_,_,q⟩:=hs
  exact False.elim q
section
variable {X:Cx}{x:Str}{p pos:Pos}{e:Expr}{es:List Expr}{t:TA}{id T:String}{r:List V->Hp->VK->Prop}
def tCB (r:List V->Hp->VK->Prop) (t:TA):TE:=fun σ H Q=>t σ H fun vs H1=>r vs H1 Q
theorem eW (hc:fA X (.builtin id) r) (hg:Gl X x) (hm:X.mg x=none) (hv:bootBuiltins x=some (.builtin id)) (ha:PA X (e::es) t) (hn:x≠"__name__":=by decide) (hdb:(x==("__debug__":Str))=false:=by decide)
    (he:starEach (e::es) X.env=(false,eval e X.env)::starEach es X.env:=by rfl) (hpl:(backTo pos (starEach es X.env)).any (·.1)=false:=by rfl):PE X (.Call (.Name x p) (e::es) [] pos) (tCB r t):=by
 intro pins s σ H Q I h
 refine bF (gs I hg hm hv ?_ hn hdb)
 exact PyProof.Rows.callWith_builtin1 (thn (ha pos pins s σ H _ I h) fun us s1 ⟨vs,H1,I1,r1,q1⟩=>hc pins s1 σ H1 vs us Q I1 r1 q1) he hpl
theorem h8 (hc:fA X (.type T) r) (hg:Gl X x) (hm:X.mg x=none) (hv:bootBuiltins x=some (.type T)) (ha:PA X (e::es) t) (hn:x≠"__name__":=by decide) (hdb:(x==("__debug__":Str))=false:=by decide)
    (he:starEach (e::es) X.env=(false,eval e X.env)::starEach es X.env:=by rfl) (hpl:(backTo pos (starEach es X.env)).any (·.1)=false:=by rfl):PE X (.Call (.Name x p) (e::es) [] pos) (tCB r t):=by
 intro pins s σ H Q I h
 refine bF (gs I hg hm hv ?_ hn hdb)
 exact PyProof.Rows.callWith_type1 (thn (ha pos pins s σ H _ I h) fun us s1 ⟨vs,H1,I1,r1,q1⟩=>hc pins s1 σ H1 vs us Q I1 r1 q1) he hpl
end
end L2
namespace HT
open PySem PyProof.Rows
section
open PySem.SeqAt
open PySem.AutoSeq1 (wpAny_loadPart')
open PySem.MeetsSeq PySem.MeetsSeq2 PySem.MeetsSeq3
end
section
variable {prog:Program}{w:World}{A:Around}{E:Value->Shared->Prop}{s:Shared}
def sIx (n d:Nat):Option Int->Nat
 | none=>d
 | some v=>if v<0 then (v+(n:Int)).toNat else min v.toNat n
theorem sIx_nat (n d k:Nat):sIx n d (some (k:Int))=min k n:=by
 show (if (k:Int)<0 then ((k:Int)+(n:Int)).toNat else min (k:Int).toNat n)=min k n
 rw[if_neg (by omega),bH]
end
end HT
namespace L2
open PySem PySem.Spec PyProof.Rows
abbrev TO:=St->Hp->(Option Int->Hp->Prop)->Prop
def PO (X:Cx) (e:Option Expr) (t:TO):Prop :=
 ∀(pins:List (Addr × Obj)) (s:Shared) (σ:St) (H:Hp) (Q:Option Int->Hp->Prop),Inv X pins σ H s->t σ H Q ->
  wpAny (model X.prog X.w) X.A (evalPart e X.env) (fun u s'=>∃o H',Inv X pins σ H' s'/\IsPart u o/\Q o H') X.xe s
def mR:TO:=fun _ H Q=>Q none H
def qp (t:TE):TO:=fun σ H Q=>t σ H fun x H1=>∃i,x=.int i/\Q (some i) H1
theorem lU {ns:List Int}:∀ {us:List Value}, Vals (ns.map V.int) us -> IntsAre us ns := by
 induction ns with
 | nil=>intro us r;rw[List.map_nil] at r;cases r;exact .nil
 | cons n ns ih =>
  intro us r
  rw[aZ] at r
  cases r with
  | cons r1 r2 =>
   obtain⟨t,e⟩:=r1
   subst e
   exact .cons n t (ih r2)
section
variable {X:Cx}{e:Expr}{te:TE}{lo hi:Option Expr}{tl th:TO}{pos p2:Pos}
theorem fV:PO X none mR:=by
 intro pins s σ H Q I h
 rw[evalPart_none]
 exact ae ⟨none,H,I,.none,h⟩
theorem fW (h:PE X e te):PO X (some e) (qp te):=by
 intro pins s σ H Q I hw
 rw[evalPart_some]
 refine thn (h pins s σ H _ I hw) fun u s1 ⟨x,H1,I1,r1,q1⟩=>?_
 obtain⟨i,rfl,q⟩:=q1
 obtain⟨t,rfl⟩:=r1
 exact⟨some i,H1,I1,.int i t,q⟩
def SlR (X:Cx) (r:V->Option Int->Option Int->Hp->VK->Prop):Prop :=
 ∀(pins:List (Addr × Obj)) (s:Shared) (σ:St) (H:Hp) (x:V) (v vl vu:Value) (lo hi:Option Int) (sl:Addr) (Q:VK),Inv X pins σ H s->RelV x v->s.heap.IsSliceOf sl vl vu .none->IsPart vl lo->IsPart vu hi->r x lo hi H Q ->
  ∃T id,typeLookup (.type T) "__getitem__"=pure (some (.builtin id))/\s.TypeIs v T/\wpAny (model X.prog X.w) X.A (getItem v (.ref sl)) (EP X pins σ Q) X.xe s
def tSl (r:V->Option Int->Option Int->Hp->VK->Prop) (te:TE) (tl th:TO):TE:=fun σ H Q=>te σ H fun x H1=>tl σ H1 fun l H2=>th σ H2 fun u H3=>r x l u H3 Q
theorem fF {r:V->Option Int->Option Int->Hp->VK->Prop}(hr:SlR X r) (he:PE X e te) (hl:PO X lo tl) (hu:PO X hi th):PE X (.Subscript e (.Slice lo hi none p2) pos) (tSl r te tl th):=by
 intro pins s σ H Q I h
 refine Subscript_ (thn (he pins s σ H _ I h) fun v s1 ⟨x,H1,I1,r1,q1⟩=>?_)
 refine wpAny_Slice (thn (hl pins s1 σ H1 _ I1 q1) fun vl s2 ⟨l,H2,I2,pl,q2⟩=>thn (hu pins s2 σ H2 _ I2 q2) fun vu s3 ⟨u,H3,I3,pu,q3⟩=>?_)
 rw[evalPart_none]
 refine ae ?_
 have I4:Inv X pins σ H3 { s3 with heap:=s3.heap.push { cls:=.type "slice",data:=.fields #[vl,vu,.none] } }:=I3.kept (t':=s3.toks) fun b ob q=>ah _ q
 obtain⟨T,id,hT,ht,hg⟩:=hr pins { s3 with heap:=s3.heap.push { cls:=.type "slice",data:=.fields #[vl,vu,.none] } } σ H3 x v vl vu l u s3.heap.objs.size Q I4 r1 (Heap.IsSliceOf.new ..) pl pu q3
 show wpAny (model X.prog X.w) X.A (subscriptTail e (.Slice lo hi none p2) v (.ref s3.heap.objs.size)) (EP X pins σ Q) X.xe { s3 with heap:=s3.heap.push { cls:=.type "slice",data:=.fields #[vl,vu,.none] } }
 exact tail_any (ops:=[.ref s3.heap.objs.size,v]) ht hT hg (by with_unfolding_all rfl)
def dA (xs:List V) (lo hi:Option Int):List V:=(xs.drop (HT.sIx xs.length 0 lo)).take (HT.sIx xs.length xs.length hi-HT.sIx xs.length 0 lo)
theorem pq (xs:List V) (lo hi:Option Int):(dA xs lo hi).length<=xs.length:=by
 unfold dA
 rw[aF,bO]
 omega
end
def ixN (n:Nat) (i:Int):Option Nat:=if 0<=i then (if i<n then some i.toNat else none) else if -(n:Int)<=i then some (i+n).toNat else none
def atI {α:Type}(xs:List α) (i:Int):Option α:=(ixN xs.length i).bind fun j=>xs[j]?
theorem qf {n:Nat}{i:Int}{j:Nat}(h:ixN n i=some j):seqIndex? i n=some j /\ j<n /\ -(n:Int) <= i /\ i<n := by
 unfold ixN at h
 by_cases h0:0<=i
 ·rw[if_pos h0] at h
  by_cases h1:i<n
  ·rw[if_pos h1] at h
   have e:i.toNat=j:=af h
   exact⟨by rw[seqIndex_of h0 h1,e],by omega,by omega,h1⟩
  ·rw[if_neg h1] at h;cases h
 ·rw[if_neg h0] at h
  by_cases h1:-(n:Int)<=i
  ·rw[if_pos h1] at h
   have e:(i+n).toNat=j:=af h
   exact⟨by rw[seqIndex_neg (by omega) h1,e],by omega,h1,by omega⟩
  ·rw[if_neg h1] at h;cases h
theorem mS {α:Type}{xs:List α}{i:Int}{v:α}(h:atI xs i=some v):∃j,seqIndex? i xs.length=some j/\xs[j]? = some v/\j<xs.length/\-(xs.length:Int)<=i/\i<xs.length:=by
 unfold atI at h
 cases e:ixN xs.length i with
 | none=>rw[e] at h;cases h
 | some j =>
  rw[e] at h
  obtain⟨h1,h2,h3,h4⟩:=qf e
  exact⟨j,h1,h,h2,h3,h4⟩
theorem gy {α:Type}{xs:List α}{j:Nat}{v:α}(h:xs[j]? = some v):atI xs (j:Int)=some v:=by
 have hj:j<xs.length:=(ai.mp h).1
 have e:ixN xs.length (j:Int)=some j:=by
  unfold ixN
  rw[if_pos (by omega),if_pos (by omega)];simp
 unfold atI;rw[e];exact h
theorem o0 {α:Type}(xs:List α) (v:α):atI (xs++[v]) (-1)=some v:=by
 have hl:(xs++[v]).length=xs.length+1:=by simp
 have e:ixN (xs++[v]).length (-1)=some xs.length:=by
  unfold ixN
  rw[hl,if_neg (by decide),if_pos (by omega)]
  congr 1
  omega
 unfold atI
 rw[e]
 show (xs++[v])[xs.length]? = some v
 simp
def xS (b:Expr):Prop:=∀o i,subscripted b false o i=operate [o,i] (getItem o i)
def IxR (X:Cx) (r:R2):Prop :=
 ∀(value slice:Expr) (pins:List (Addr × Obj)) (s:Shared) (σ:St) (H:Hp) (x y:V) (v u:Value) (Q:VK),Inv X pins σ H s->RelV x v->RelV y u->r x y H Q ->
  subscripted slice false v u=operate [v,u] (getItem v u)->wpAny (model X.prog X.w) X.A (subscriptTail value slice v u) (EP X pins σ Q) X.xe s
def MtR (X:Cx) (id:String) (r:V->List V->Hp->VK->Prop):Prop :=
 ∀(pins:List (Addr × Obj)) (s:Shared) (σ:St) (H:Hp) (x:V) (xs:List V) (v:Value) (us:List Value) (Q:VK),Inv X pins σ H s->RelV x v->Vals xs us->r x xs H Q ->
  wpAny (model X.prog X.w) X.A (call (.builtin id) (v::us)) (EP X pins σ Q) X.xe s
section
variable {X:Cx}{a b:Expr}{ta tb:TE}{pos:Pos}
theorem cR {r:R2}(hr:IxR X r) (ha:PE X a ta) (hb:PE X b tb) (hs:xS b):PE X (.Subscript a b pos) (tOp r ta tb):=by
 intro pins s σ H Q I h
 exact Subscript_ (uZ ha hb I h fun v u s2 x y H2 I2 rx ry q=>hr a b pins s2 σ H2 x y v u Q I2 rx ry q (hs _ _))
def rIxL (K:W.Frag):R2:=fun x y H Q=>∃p xs i v,x=.ref p/\y=.int i/\SqL K H p xs/\atI xs i=some v/\Q v H
def rIxT (K:W.Frag):R2:=fun x y H Q=>∃p xs i v,x=.ref p/\y=.int i/\SqT K H p xs/\atI xs i=some v/\Q v H
def rIxS:R2:=fun x y H Q=>∃z i c,x=.str z/\y=.int i/\z.length<=sizeLine/\atI z.cps.toList i=some c/\Q (.str ⟨#[c]⟩) H
theorem xJ:IxR X (rIxL X.K) := by
 intro value slice pins s σ H x y v u Q I rx ry h hs
 obtain⟨p,xs,i,z,rfl,rfl,hq,he,q⟩:=h
 cases rx
 obtain⟨t,rfl⟩:=ry
 obtain⟨its,r,pl,hz⟩:=I.list hq
 obtain⟨j,h1,h2,h3,h4,h5⟩:=mS he
 obtain⟨w,ew,rw'⟩:=r.get h2
 have hl:=r.length
 have hn:=je
 have fin:EP X pins σ Q w s:=⟨z,H,I,rw',q⟩
 by_cases h0:0<=i
 ·have hj:i.toNat=j:=by
     rw[seqIndex_of h0 h5] at h1
     exact af h1
  exact item_listR pl.isList h0 (by omega) (by rw[hj];simpa using ew) fin hs
 ·have hj:(i+(its.toArray.size:Int)).toNat=j:=by
     rw[seqIndex_neg (by omega) h4] at h1
     rw[aK,<- hl]
     exact af h1
  exact subscriptTail_builtinR (x:=w) pl.isList.typeIs slot_list_getitem.lookup
   (wpAny_getItem_list_neg (Q:=fun r s'=>r=w/\EP X pins σ Q r s') pl.isList (by omega) (by rw[aK] <;> omega) (by omega) (by rw[hj];simpa using ew) ⟨rfl,fin⟩) hs
theorem y8:IxR X (rIxT X.K):=by
 intro value slice pins s σ H x y v u Q I rx ry h hs
 obtain⟨p,xs,i,z,rfl,rfl,hq,he,q⟩:=h
 cases rx
 obtain⟨t,rfl⟩:=ry
 obtain⟨its,r,pl,hz⟩:=I.tuple hq
 obtain⟨j,h1,h2,h3,h4,h5⟩:=mS he
 obtain⟨w,ew,rw'⟩:=r.get h2
 have hl:=r.length
 have hn:=je
 have fin:EP X pins σ Q w s:=⟨z,H,I,rw',q⟩
 exact subscriptTail_builtinR (x:=w) pl.typeIs slot_tuple_getitem.lookup
  (getItem_tuple (j:=j) (Q:=fun r s'=>r=w/\EP X pins σ Q r s') pl (by omega) (by omega) (by rw[aK,<- hl];exact h1) (by simpa using ew) ⟨rfl,fin⟩) hs
theorem y9:IxR X rIxS:=by
 intro value slice pins s σ H x y v u Q I rx ry h hs
 obtain⟨z,i,c,rfl,rfl,hz,he,q⟩:=h
 obtain⟨t,rfl⟩:=rx
 obtain⟨t',rfl⟩:=ry
 obtain⟨j,h1,h2,h3,h4,h5⟩:=mS he
 have hl:z.cps.toList.length=z.length:=by simp[Str.length]
 rw[hl] at h1 h4 h5
 have hn:=je
 exact tail_any (typeIs_str s z t) slot_str_getitem.lookup (getItem_str (c:=c) (by
  have e1:decide (i < -(2 ^ 63:Int))=false:=ba (by omega)
  have e2:decide (i ≥ 2 ^ 63)=false:=ba (by omega)
  rw[e1,e2,Bool.or_false]) (by rw[h1];simpa using h2) ⟨.str ⟨#[c]⟩,H,I.tok _,⟨_,rfl⟩,q⟩) hs
theorem qF (its:List Value) (n j:Nat) (u:Value):Obj.mapSeq (·.setIfInBounds j u) { cls:=.type "list",data:=.seq its.toArray n }={ cls:=.type "list",data:=.seq (its.set j u).toArray n }:=by
 simp[Obj.mapSeq]
theorem Inv.lst {pins:List (Addr × Obj)}{σ:St}{H:Hp}{s:Shared}{p:Addr}{xs:List V}(I:Inv X pins σ H s) (h:H p=some (.lst xs)) :
    ∃(its:List Value) (n:Nat),Vals xs its/\s.heap.get? p=some { cls:=.type "list",data:=.seq its.toArray n }/\xs.length<=sizeLine:=by
 obtain⟨z,its,n,r,e⟩:=I.hok p _ h
 exact⟨its,n,r,e,z⟩
theorem Inv.lstUpd {pins:List (Addr × Obj)}{σ:St}{H:Hp}{s:Shared}{p:Addr}{xs ys:List V}{its its':List Value}{n n':Nat}{f:Obj->Obj}(I:Inv X pins σ H s) (h:H p=some (.lst xs))
    (ho:s.heap.get? p=some { cls:=.type "list",data:=.seq its.toArray n }) (hf:f { cls:=.type "list",data:=.seq its.toArray n }={ cls:=.type "list",data:=.seq its'.toArray n' }) (r:Vals ys its') (hz:ys.length<=sizeLine) (t:Nat) :
    Inv X pins σ (upd H p (.lst ys)) { s with heap:=s.heap.update p f,toks:=t }:=by
 have e:(s.heap.update p f).get? p=some { cls:=.type "list",data:=.seq its'.toArray n' }:=by
  rw[ck f ho (by rw[hf] <;> rfl),hf]
 refine I.write (x:=p) (e:=p) (by rw[h];trivial) (.inl rfl) (fun b u hb q=>(cm _ _ (Ne.symm hb)).trans q) ⟨_,e⟩ ?_
 exact⟨hz,its',n',r,e⟩
def zI:V->V->V->Hp->(Hp->Prop)->Prop:=fun o i v H Q=>∃p xs k j,o=.ref p/\i=.int k/\H p=some (.lst xs)/\ixN xs.length k=some j/\Q (upd H p (.lst (xs.set j v)))
theorem vn:uS X zI := by
 intro pins s σ H o i v ov iv u Q I ro ri rv h
 obtain⟨p,xs,k,j,rfl,rfl,hp,hj,q⟩:=h
 cases ro
 obtain⟨t,rfl⟩:=ri
 obtain⟨its,n,r,ho,hz⟩:=I.lst hp
 obtain⟨h1,h2,h3,h4⟩:=qf hj
 have hl:=r.length
 have hn:=je
 have I':Inv X pins σ (upd H p (.lst (xs.set j v))) { s with heap:=s.heap.update p (Obj.mapSeq (·.setIfInBounds j u)) } :=
  I.lstUpd hp ho (qF its n j u) (r.set rv j) (by rw[List.length_set];exact hz) s.toks
 by_cases h0:0<=k
 ·have hk:k.toNat=j:=by
     rw[seqIndex_of h0 h4] at h1
     exact af h1
  exact W.ki_setAt ho h0 (by omega) (by rw[aK,<- hl];exact h4) (by rw[hk];exact⟨_,I',q⟩)
 ·have hk:(k+(its.toArray.size:Int)).toNat=j:=by
     rw[seqIndex_neg (by omega) h3] at h1
     rw[aK,<- hl]
     exact af h1
  exact W.ki_setBack ho (by omega) (by rw[aK,<- hl];exact h3) (by omega) (by rw[hk];exact⟨_,I',q⟩)
theorem on (lo hi:Option Int) (n:Nat):(sliceBounds lo hi none n).1=((HT.sIx n 0 lo:Nat):Int) /\ (sliceBounds lo hi none n).2.1=((HT.sIx n n hi:Nat):Int) /\ (sliceBounds lo hi none n).2.2=1 := by
 refine⟨?_,?_,rfl⟩
 ·cases lo with
  | none=>simp[sliceBounds,HT.sIx]
  | some i =>
   simp only[sliceBounds,HT.sIx,Option.getD_none,show (1:Int) > 0 by decide,if_true]
   by_cases h:i<0
   ·simp only[h,if_true] <;> omega
   ·simp only[h,if_false] <;> omega
 ·cases hi with
  | none=>simp[sliceBounds,HT.sIx]
  | some i =>
   simp only[sliceBounds,HT.sIx,Option.getD_none,show (1:Int) > 0 by decide,if_true]
   by_cases h:i<0
   ·simp only[h,if_true] <;> omega
   ·simp only[h,if_false] <;> omega
theorem nO (its:List Value) (lo hi:Option Int):slicePick its.toArray lo hi none=((its.drop (HT.sIx its.length 0 lo)).take (HT.sIx its.length its.length hi-HT.sIx its.length 0 lo)).toArray:=by
 obtain⟨h1,h2,h3⟩:=on lo hi its.toArray.size
 unfold slicePick
 rw[h1,h2,h3]
 simp only[sliceRange_one,pick_run,aK] <;> rfl
def rSlL (K:W.Frag):V->Option Int->Option Int->Hp->VK->Prop:=fun x lo hi H Q=>∃a xs,x=.ref a/\SqL K H a xs/\∀p,H p=none->Q (.ref p) (upd H p (.lst (dA xs lo hi)))
theorem xr:SlR X (rSlL X.K):=by
 intro pins s σ H x v vl vu lo hi sl Q I rx hs pl pu h
 obtain⟨a,xs,rfl,hx,q⟩:=h
 cases rx
 obtain⟨its,r,ht,hz⟩:=I.list hx
 have hlen:=r.length
 refine⟨"list",_,slot_list_getitem.lookup,ht.isList.typeIs,?_⟩
 refine wpAny_getItem_list_slice ht.isList hs pl pu .none (by simp) ?_ (by rw[aK] <;> omega)
 rw[nO,<- hlen]
 refine⟨.ref s.heap.objs.size,_,I.laid (t':=s.toks) (o:=.lst (dA xs lo hi)) (fun b ob q=>ah _ q) (ad _) ?_,rfl,q _ (I.hok.fresh (ad _))⟩
 exact⟨aX (pq xs lo hi) hz,_,0,(r.drop (HT.sIx xs.length 0 lo)).take (HT.sIx xs.length xs.length hi-HT.sIx xs.length 0 lo),ap _ rfl⟩
def hX:V->Bool
 | .non=>true
 | .bl _=>true
 | .int _=>true
 | .str _=>true
 | _=>false
def eqV:V->V->Bool
 | .non,.non=>true
 | .bl a,.bl b=>a==b
 | .bl a,.int b=>(if a then 1 else 0)==b
 | .int a,.bl b=>a==(if b then 1 else 0)
 | .int a,.int b=>a==b
 | .str a,.str b=>a==b
 | _,_=>false
theorem zf {A:Around}{s:Shared}{y x:V}{u v:Value}(ry:RelV y u) (rx:RelV x v) (fy:hX y=true) (fx:hX x=true):SeqAt.EqAt A s u v (eqV y x):=by
 cases y with
 | non =>
  cases ry
  cases x with
  | non=>cases rx;exact SeqAt.EqAt.same _
  | bl b=>cases rx;exact SeqAt.EqAt.none_bool b
  | int b=>obtain⟨t,rfl⟩:=rx;exact SeqAt.EqAt.none_int b t
  | str b=>obtain⟨t,rfl⟩:=rx;exact SeqAt.EqAt.none_str b t
  | _=>exact absurd (show false=true from fx) aH
 | bl a =>
  cases ry
  cases x with
  | non=>cases rx;exact SeqAt.EqAt.bool_none a
  | bl b=>cases rx;exact SeqAt.EqAt.bool_bool a b
  | int b=>obtain⟨t,rfl⟩:=rx;exact SeqAt.EqAt.bool_int a b t
  | str b=>obtain⟨t,rfl⟩:=rx;exact SeqAt.EqAt.bool_str a b t
  | _=>exact absurd (show false=true from fx) aH
 | int a =>
  obtain⟨t',rfl⟩:=ry
  cases x with
  | non=>cases rx;exact SeqAt.EqAt.int_none a t'
  | bl b=>cases rx;exact SeqAt.EqAt.int_bool a t' b
  | int b=>obtain⟨t,rfl⟩:=rx;exact SeqAt.EqAt.int_int a t' b t
  | str b=>obtain⟨t,rfl⟩:=rx;exact SeqAt.EqAt.int_str a t' b t
  | _=>exact absurd (show false=true from fx) aH
 | str a =>
  obtain⟨t',rfl⟩:=ry
  cases x with
  | non=>cases rx;exact SeqAt.EqAt.str_none a t'
  | bl b=>cases rx;exact SeqAt.EqAt.str_bool a t' b
  | int b=>obtain⟨t,rfl⟩:=rx;exact SeqAt.EqAt.str_int a t' b t
  | str b=>obtain⟨t,rfl⟩:=rx;exact SeqAt.EqAt.str_str a t' b t
  | _=>exact absurd (show false=true from fx) aH
 | _=>exact absurd (show false=true from fy) aH
def eqU (x:V) (u:Value):Bool:=match u with
 | .none=>eqV .non x
 | .bool b=>eqV (.bl b) x
 | .int i _=>eqV (.int i) x
 | .str z _=>eqV (.str z) x
 | _=>false
theorem rM {x y:V}{u:Value}(r:RelV y u) (f:hX y=true):eqU x u=eqV y x:=by
 cases y with
 | non=>cases r;rfl
 | bl b=>cases r;rfl
 | int i=>obtain⟨t,rfl⟩:=r;rfl
 | str z=>obtain⟨t,rfl⟩:=r;rfl
 | _=>exact absurd (show false=true from f) aH
theorem jf {x:V}:∀ {xs:List V}{us:List Value},Vals xs us->xs.all hX=true->us.any (eqU x)=xs.any fun y=>eqV y x
 | _,_,.nil,_=>rfl
 | y::xs,u::us,.cons r t,f=>by
  rw[List.all_cons,bo] at f
  rw[bP,bP,rM r f.1,jf t f.2]
theorem iJ {A:Around}{s:Shared}{x:V}{v:Value}(rx:RelV x v) (fx:hX x=true):∀ {xs:List V}{us:List Value},Vals xs us->xs.all hX=true->∀u∈us,SeqAt.EqAt A s u v (eqU x u)
 | _,_,.nil,_=>fun u hu=>by cases hu
 | y::xs,u::us,.cons r t,f=>fun u' hu=>by
  rw[List.all_cons,bo] at f
  rcases am.mp hu with rfl | hu
  ·rw[rM r f.1];exact zf r rx f.1 fx
  ·exact iJ rx fx t f.2 u' hu
def inV (x:V) (xs:List V):Bool:=xs.any fun y=>eqV y x
def rIn (K:W.Frag) (neg:Bool):R2:=fun x y H Q=>∃p xs,y=.ref p/\(SqL K H p xs∨SqT K H p xs)/\hX x=true/\xs.all hX=true/\Q (.bl (if neg then !inV x xs else inV x xs)) H
theorem ui:OpR X (compareOp .In) (rIn X.K false):=by
 intro pins s σ H x y v u Q I rx ry h
 obtain⟨p,xs,rfl,hq,fx,fs,q⟩:=h
 cases ry
 rcases hq with hq | hq
 ·obtain⟨its,r,pl,hz⟩:=I.list hq
  refine SeqAt.in_listAt (eqU x) pl.isList (fun w hw=>iJ rx fx r fs w (by simpa using hw)) ⟨.bl _,H,I,rfl,?_⟩
  rw[show its.toArray.any (eqU x)=its.any (eqU x) by simp,jf r fs]
  exact q
 ·obtain⟨its,r,pl,hz⟩:=I.tuple hq
  refine SeqAt.in_tupleAt (eqU x) pl (fun w hw=>iJ rx fx r fs w (by simpa using hw)) ⟨.bl _,H,I,rfl,?_⟩
  rw[show its.toArray.any (eqU x)=its.any (eqU x) by simp,jf r fs]
  exact q
theorem oN:OpR X (compareOp .NotIn) (rIn X.K true):=by
 intro pins s σ H x y v u Q I rx ry h
 obtain⟨p,xs,rfl,hq,fx,fs,q⟩:=h
 cases ry
 rcases hq with hq | hq
 ·obtain⟨its,r,pl,hz⟩:=I.list hq
  refine SeqAt.notIn_listAt (eqU x) pl.isList (fun w hw=>iJ rx fx r fs w (by simpa using hw)) ⟨.bl _,H,I,rfl,?_⟩
  rw[show its.toArray.any (eqU x)=its.any (eqU x) by simp,jf r fs]
  exact q
 ·obtain⟨its,r,pl,hz⟩:=I.tuple hq
  refine SeqAt.notIn_tupleAt (eqU x) pl (fun w hw=>iJ rx fx r fs w (by simpa using hw)) ⟨.bl _,H,I,rfl,?_⟩
  rw[show its.toArray.any (eqU x)=its.any (eqU x) by simp,jf r fs]
  exact q
theorem pd:fA X (.type "list") (fun xs H Q => ∃p ys, xs=[.ref p] /\ (SqL X.K H p ys ∨ SqT X.K H p ys) /\ ∀l, H l=none -> Q (.ref l) (upd H l (.lst ys))) := by
 intro pins s σ H xs us Q I r h
 obtain⟨p,ys,rfl,hq,q⟩:=h
 obtain⟨u,rfl,rx⟩:=fq r
 cases rx
 have fin:∀(its:List Value),Vals ys its->ys.length<=sizeLine->∀(h':Heap) (c':Nat),(∀b o',s.heap.get? b=some o'->h'.get? b=some o') ->
     h'.get? s.heap.objs.size=some { cls:=.type "list",dict:=none,data:=.seq its.toArray c',slots:=#[] }->EP X pins σ Q (.ref s.heap.objs.size) { s with heap:=h' }:=fun its r' hz h' c' kp e =>
  ⟨.ref s.heap.objs.size,_,I.laid (t':=s.toks) kp (ad _) (show ObjOk X.prog X.w _ h' _ (.lst ys) from⟨hz,its,c',r',e⟩),rfl,q _ (I.hok.fresh (ad _))⟩
 rcases hq with hq | hq
 ·obtain⟨its,r',pl,hz⟩:=I.list hq
  have hlen:=r'.length
  obtain⟨o,ho,hc,n,hd⟩:=pl.isList
  exact call_list_seq p (.inl rfl) ho hc hd (fun h' c' kp e=>fin its r' hz h' c' kp e) (by simp only[aK] <;> omega)
 ·obtain⟨its,r',pl,hz⟩:=I.tuple hq
  have hlen:=r'.length
  obtain⟨o,ho,hc,n,hd⟩:=pl
  exact call_list_seq p (.inr rfl) ho hc hd (fun h' c' kp e=>fin its r' hz h' c' kp e) (by simp only[aK] <;> omega)
theorem nM:fA X (.type "tuple") (fun xs H Q => ∃p ys, xs=[.ref p] /\ ((SqL X.K H p ys /\ ∀l, H l=none -> Q (.ref l) (upd H l (.tup ys))) ∨ (SqT X.K H p ys /\ Q (.ref p) H))) := by
 intro pins s σ H xs us Q I r h
 obtain⟨p,ys,rfl,h⟩:=h
 obtain⟨u,rfl,rx⟩:=fq r
 cases rx
 rcases h with⟨hq,q⟩ | ⟨hq,q⟩
 ·obtain⟨its,r',pl,hz⟩:=I.list hq
  have hlen:=r'.length
  refine call_tuple_list pl.isList (fun h' kp=>?_) (by simp only[aK] <;> omega)
  have I1:Inv X pins σ H { s with heap:=h' }:=I.kept (t':=s.toks) kp
  have I2:Inv X pins σ (upd H h'.objs.size (.tup ys)) { s with heap:=h'.push { cls:=.type "tuple",data:=.seq its.toArray } } :=
   I1.laid (t':=s.toks) (fun b o e=>ah _ e) (ad _) (show ObjOk X.prog X.w _ _ _ (.tup ys) from⟨hz,its,r',TupN.new _ _⟩)
  exact⟨.ref h'.objs.size,_,I2,rfl,q _ (I1.hok.fresh (ad _))⟩
 ·obtain⟨its,r',pl,hz⟩:=I.tuple hq
  exact call_tuple_same pl ⟨.ref p,H,I,rfl,q⟩
def tyV (K:W.Frag) (T:String) (x:V) (H:Hp):Prop := match x with
 | .str _=>T="str"
 | .int _=>T="int"
 | .ref p=>(T="list"/\∃xs,SqL K H p xs)∨(T="tuple"/\∃o,K.lookup p=some o/\o.cls=.type "tuple"/\o.dict=none) ∨
     (T="dict"/\((∃kvs,H p=some (.dK kvs))∨∃kvs,H p=some (.dT kvs)))∨(T="set"/\∃S n,H p=some (.set S n))
 | _=>False
theorem ug {pins:List (Addr × Obj)}{σ:St}{H:Hp}{s:Shared}{T:String}{x:V}{v:Value}(I:Inv X pins σ H s) (r:RelV x v) (ty:tyV X.K T x H) :
    s.TypeIs v T/\∀a,v=.ref a->∃ob,s.heap.get? a=some ob/\ob.dict=none:=by
 cases x with
 | str z =>
  obtain⟨t,rfl⟩:=r
  cases (show T="str" from ty)
  exact⟨typeIs_str s z t,fun _ e=>nomatch e⟩
 | int i =>
  obtain⟨t,rfl⟩:=r
  cases (show T="int" from ty)
  exact⟨typeIs_int s i t,fun _ e=>nomatch e⟩
 | ref p =>
  cases r
  rcases ty with⟨rfl,xs,hq⟩ | ⟨rfl,o,hk,hc,hd⟩ | ⟨rfl,hk⟩ | ⟨rfl,S,n,hk⟩
  ·obtain⟨its,_,pl,_⟩:=I.list hq
   refine⟨pl.isList.typeIs,fun a e=>?_⟩
   cases e
   obtain⟨o,n,e,c,hd,_⟩:=pl
   exact⟨o,e,hd⟩
  ·refine⟨⟨o,I.kIn p o hk,hc⟩,fun a e=>?_⟩
   cases e
   exact⟨o,I.kIn _ o hk,hd⟩
  ·have z:∃o, s.heap.get? p=some o /\ o.ExactDict := by
      rcases hk with⟨kvs,hk⟩ | ⟨kvs,hk⟩
      ·obtain⟨_,_,_,_,o,_,_,e,ex,_⟩:=I.hok p _ hk
       exact⟨o,e,ex⟩
      ·obtain⟨_,_,_,_,o,_,_,e,ex,_⟩:=I.hok p _ hk
       exact⟨o,e,ex⟩
   obtain⟨o,e,ex⟩:=z
   refine⟨⟨o,e,ex.1⟩,fun a e2=>?_⟩
   cases e2
   exact⟨o,e,ex.2.1⟩
  ·obtain⟨o,_,_,_,e,ex,_⟩:=I.hok p _ hk
   refine⟨⟨o,e,ex.1⟩,fun a e2=>?_⟩
   cases e2
   exact⟨o,e,ex.2.1⟩
 | _=>exact False.elim ty
def yv (K:W.Frag) (T:String) (r:V->List V->Hp->VK->Prop) (to:TE):TE:=fun σ H Q=>to σ H fun x H1=>tyV K T x H1/\r x [] H1 Q
def tBM (K:W.Frag) (T:String) (r:V->List V->Hp->VK->Prop) (to:TE) (t:TA):TE:=fun σ H Q=>to σ H fun x H1=>tyV K T x H1/\t σ H1 fun xs H2=>r x xs H2 Q
variable {o e:Expr}{es:List Expr}{to:TE}{t:TA}{name:Str}{apos cpos:Pos}{T id:String}{r:V->List V->Hp->VK->Prop}
theorem yR (pa:PlainAttrs T) (slot:Slot T name id) (hty:typeOf (.builtin id)=pure (.type "method_descriptor")) (hm:MtR X id r) (ho:PE X o to)
    (hbase:attributeBase o name X.env (eval o X.env)=eval o X.env:=by rfl) (hline:(apos.endLine==cpos.line)=true:=by rfl):PE X (.Call (.Attribute o name apos) [] [] cpos) (yv X.K T r to):=by
 intro pins s σ H Q I h
 refine wpAny_Call_method0_late hbase hline (thn (ho pins s σ H _ I h) fun v s1 ⟨x,H1,I1,r1,ty,q1⟩=>?_)
 obtain⟨h1,h2⟩:=ug I1 r1 ty
 exact⟨T,id,pa,slot,hty,h1,h2,Calls.callWith_builtin rfl (PySem.evalArgs_none (hm pins s1 σ H1 x [] v [] Q I1 r1 .nil q1))⟩
theorem rF (pa:PlainAttrs T) (slot:Slot T name id) (hty:typeOf (.builtin id)=pure (.type "method_descriptor")) (hm:MtR X id r) (ho:PE X o to) (ha:PA X (e :: es) t)
    (hbase:attributeBase o name X.env (eval o X.env)=eval o X.env:=by rfl)
    (hfew:((backTo cpos (starEach (e::es) X.env)).all (fun x=>!x.1)&&(backToKw cpos (keywordEach [] X.env)).all (fun x=>x.1.isSome)
     && decide ((e::es).length+([]:List Keyword).length+(if ([]:List Keyword).isEmpty then 0 else 1)<30))=true:=by rfl)
    (hline:(apos.endLine==cpos.line)=true:=by rfl) (hs:starEach (e::es) X.env=(false,eval e X.env)::starEach es X.env:=by rfl) (hplain:(backTo cpos (starEach es X.env)).any (·.1)=false:=by rfl) :
    PE X (.Call (.Attribute o name apos) (e::es) [] cpos) (tBM X.K T r to t):=by
 intro pins s σ H Q I h
 refine wpAny_Call_method_late hbase hfew hline rfl (thn (ho pins s σ H _ I h) fun v s1 ⟨x,H1,I1,r1,ty,q1⟩=>?_)
 obtain⟨h1,h2⟩:=ug I1 r1 ty
 refine⟨T,id,pa,slot,hty,h1,h2,?_⟩
 have hA:=ha cpos pins s1 σ H1 _ I1 q1
 rw[hs] at hA ⊢
 refine Calls.callWith_builtin (by show (false||(backTo cpos (starEach es X.env)).any (·.1))=false;rw[hplain] <;> rfl) (Calls.evalArgs_plain ?_)
 exact thn hA fun us s2 ⟨vs,H2,I2,r2,q2⟩=>hm pins s2 σ H2 x vs v us Q I2 r1 r2 q2
end
def MtM (X:Cx) (id:String) (r:V->List V->Hp->VK->Prop):Prop :=
 ∀(pins:List (Addr × Obj)) (s:Shared) (σ:St) (H:Hp) (x:V) (xs:List V) (v:Value) (us:List Value) (Q:VK),Inv X pins σ H s->RelV x v->Vals xs us->r x xs H Q ->
  wpAny (model X.prog X.w) X.A (call (.builtin id) (v::us)) (EP X pins σ Q) X.xe s
theorem Vals.one:∀ {x:V}{us:List Value},Vals [x] us->∃u,us=[u]/\RelV x u
 | _,_,.cons r .nil=>⟨_,rfl,r⟩
theorem Vals.zero:∀ {us:List Value},Vals [] us->us=[]
 | _,.nil=>rfl
theorem Vals.reverse {xs:List V}{us:List Value}(h:Vals xs us):Vals xs.reverse us.reverse:=by
 induction h with
 | nil=>exact .nil
 | cons r t ih=>rw[List.reverse_cons,List.reverse_cons];exact Vals.append ih (.cons r .nil)
theorem Vals.rep {xs:List V}{us:List Value}(h:Vals xs us):∀k:Nat,Vals (List.replicate k xs).flatten (List.replicate k us).flatten
 | 0=>.nil
 | k+1=>by
  rw[cn,cn,List.flatten_cons,List.flatten_cons]
  exact Vals.append h (Vals.rep h k)
theorem m7 (its:List Value):∀(k:Nat) (acc:List Value),
    List.foldl (fun x1 x2=>x1++x2) acc.toArray (List.replicate k its.toArray)=(acc++(List.replicate k its).flatten).toArray
 | 0,acc=>by simp
 | k+1,acc=>by
  have e:acc.toArray++its.toArray=(acc++its).toArray:=by simp
  have e2:(acc++its)++(List.replicate k its).flatten=acc++(List.replicate (k+1) its).flatten:=by
   rw[cn,List.flatten_cons,List.append_assoc]
  rw[<- e2,<- m7 its k (acc++its),<- e,cn,List.foldl_cons]
section
variable {X:Cx}{pins:List (Addr × Obj)}{σ:St}{H:Hp}{s:Shared}{l b:Addr}{xs ys zs:List V}
theorem Inv.lset {its its':List Value}{n:Nat}{f:Array Value->Array Value}{t':Nat}(I:Inv X pins σ H s) (hH:H l=some (.lst xs))
    (e:s.heap.get? l=some { cls:=.type "list",data:=.seq its.toArray n }) (hf:f its.toArray=its'.toArray) (hv:Vals ys its') (hz:ys.length<=sizeLine) :
    Inv X pins σ (upd H l (.lst ys)) { s with heap:=s.heap.update l (Obj.mapSeq f),toks:=t' }:=by
 have q:=PySem.IsL.update e f
 rw[hf] at q
 refine I.write (x:=l) (e:=l) (by rw[hH];exact trivial) (.inl rfl) (fun b' u hb hu=>(cm s.heap (Obj.mapSeq f) (Ne.symm hb)).trans hu) ⟨_,q⟩ ?_
 exact⟨hz,its',_,hv,q⟩
theorem Inv.lnew {its:List Value}{t':Nat}(I:Inv X pins σ H s) (hv:Vals ys its) (hz:ys.length<=sizeLine) :
    Inv X pins σ (upd H s.heap.objs.size (.lst ys)) { s with heap:=s.heap.push { cls:=.type "list",data:=.seq its.toArray },toks:=t' } :=
 I.laid (fun _ _ q=>ah _ q) (ad _) ⟨hz,its,0,hv,ap _ rfl⟩
theorem Inv.fresh (I:Inv X pins σ H s):H s.heap.objs.size=none:=I.hok.fresh (ad _)
theorem Inv.lstM (I:Inv X pins σ H s) (hH:H l=some (.lst xs)):xs.length<=sizeLine/\∃(its:List Value) (n:Nat),Vals xs its/\xs.length=its.length/\s.heap.get? l=some { cls:=.type "list",data:=.seq its.toArray n }:=by
 obtain⟨z,its,n,r,e⟩:=I.hok l _ hH
 exact⟨z,its,n,r,r.length,e⟩
theorem vg {n:Nat}(h:n<=sizeLine):Builtin.List.listTooLong n=false:=by
 unfold Builtin.List.listTooLong
 exact ba (by omega)
end
section
variable {X:Cx}
def qg:V->List V->Hp->VK->Prop:=fun x vs H Q=>∃l xs y,x=.ref l/\vs=[y]/\H l=some (.lst xs)/\xs.length<sizeLine/\Q .non (upd H l (.lst (xs++[y])))
theorem m9:MtM X "list.append" qg:=by
 intro pins s σ H x vs v us Q I rx rv h
 obtain⟨l,xs,y,rfl,rfl,hH,hz,q⟩:=h
 cases rx
 obtain⟨u,rfl,ru⟩:=rv.one
 obtain⟨z,its,n,r,hl,e⟩:=I.lstM hH
 refine call_meets F.slot_list_append ⟨_,e,rfl⟩ F.entry_list_append (F.args_list_append_2 _ _) (PySem.list_append l its.toArray n u (by rw[aK];omega)) ⟨e,?_⟩
 refine⟨.non,_,I.lset (its':=its++[u]) hH e (by simp) (r.append (.cons ru .nil)) ?_,rfl,q⟩
 rw[az,List.length_singleton]
 omega
def lx:V->List V->Hp->VK->Prop:=fun x vs H Q=>∃l xs,x=.ref l/\vs=[]/\H l=some (.lst xs)/\Q .non (upd H l (.lst xs.reverse))
theorem ql:MtM X "list.reverse" lx:=by
 intro pins s σ H x vs v us Q I rx rv h
 obtain⟨l,xs,rfl,rfl,hH,q⟩:=h
 cases rx
 have hus:=rv.zero
 subst hus
 obtain⟨z,its,n,r,hl,e⟩:=I.lstM hH
 refine call_meets F.slot_list_reverse ⟨_,e,rfl⟩ F.entry_list_reverse (F.args_list_reverse_1 _) (AutoSeq1.list_reverse_list_0 l its.toArray n (by rw[aK];omega)) ⟨e,?_⟩
 refine⟨.non,_,I.lset (its':=its.reverse) hH e (by simp) r.reverse ?_,rfl,q⟩
 rw[List.length_reverse]
 omega
def rCat:R2:=fun x y H Q=>∃l b xs zs,x=.ref l/\y=.ref b/\H l=some (.lst xs)/\H b=some (.lst zs)/\xs.length+zs.length<=sizeLine/\∀p,H p=none->Q (.ref p) (upd H p (.lst (xs++zs)))
theorem zd:OpR X (binaryOp .Add) rCat:=by
 intro pins s σ H x y v u Q I rx ry h
 obtain⟨l,b,xs,zs,rfl,rfl,hH,hB,hz,q⟩:=h
 cases rx
 cases ry
 obtain⟨z,its,n,r,hl,e⟩:=I.lstM hH
 obtain⟨z2,its2,n2,r2,hl2,e2⟩:=I.lstM hB
 refine PySem.P.add_list e e2 ?_ (by rw[aK,aK];omega)
 have ea:its.toArray++its2.toArray=(its++its2).toArray:=by simp
 rw[ea]
 exact⟨.ref _,_,I.lnew (t':=s.toks) (r.append r2) (by rw[az];omega),rfl,q _ I.fresh⟩
def rRep:R2:=fun x y H Q=>∃l k xs,x=.ref l/\y=.int k/\H l=some (.lst xs)/\-(2 ^ 63)<=k/\k<2 ^ 63/\xs.length * k.toNat<=sizeLine /\
 ∀p,H p=none->Q (.ref p) (upd H p (.lst (List.replicate k.toNat xs).flatten))
theorem xC {α:Type}(xs:List α) (k:Nat):(List.replicate k xs).flatten.length=k * xs.length:=by
 induction k with
 | zero=>simp
 | succ k ih=>rw[cn,List.flatten_cons,az,ih,Nat.succ_mul,Nat.add_comm]
theorem zh:OpR X (binaryOp .Mult) rRep := by
 intro pins s σ H x y v u Q I rx ry h
 obtain⟨l,k,xs,rfl,rfl,hH,h1,h2,hz,q⟩:=h
 cases rx
 obtain⟨t,rfl⟩:=ry
 obtain⟨z,its,n,r,hl,e⟩:=I.lstM hH
 have hlen:its.toArray.size * k.toNat<=sizeLine:=by rw[aK,<- hl];exact hz
 have hcap:¬ its.toArray.size * k.toNat > (2 ^ 63-1) / 8:=by
  have:(sizeLine:Nat)<=(2 ^ 63-1) / 8:=by decide
  omega
 have hfit:¬ (!Builtin.List.listFitsIndex k)=true:=by
  rw[fitsIndex_both h1 h2]
  exact aH
 have hlong:¬ Builtin.List.listTooLong (its.toArray.size * k.toNat)=true:=by
  rw[vg hlen]
  exact aH
 have hnew:List.foldl (fun x1 x2=>x1++x2) #[] (List.replicate (if its.toArray.isEmpty=true then 0 else k.toNat) its.toArray)=(List.replicate k.toNat its).flatten.toArray:=by
  have f0:∀m:Nat,List.foldl (fun x1 x2=>x1++x2) #[] (List.replicate m its.toArray)=(List.replicate m its).flatten.toArray:=fun m=>by
   have:=m7 its m []
   rw[List.nil_append] at this
   exact this
  rw[f0]
  cases its with
  | nil=>simp
  | cons a r'=>rw[if_neg (by simp)]
 refine wpAny_binaryOp_repeat_ref (T:="list") (U:="int") (by decide) ⟨_,e,rfl⟩ (fun s'=>typeIs_int s' k t) noFill_list_mul F.fills_int_mul F.slot_int_rmul repeat_list F.slot_int_index.lookup
  (call_meets F.slot_int_rmul (typeIs_int s k t) F.entry_int_rmul (F.args_int_rmul_2 _ _) (int___rmul___int_list k t l its.toArray n)
   ⟨e,rfl,⟨_,e,rfl⟩,call_meets F.slot_list_mul ⟨_,e,rfl⟩ F.entry_list_mul (F.args_list_mul_2 _ _) (AutoListH.list___mul___list_int_3 l its.toArray n k t hfit hcap hlong) ⟨e,?_⟩⟩)
 rw[hnew]
 exact⟨.ref _,_,I.lnew (t':=s.toks) (r.rep k.toNat) (by rw[xC,Nat.mul_comm];exact hz),rfl,q _ I.fresh⟩
end
section
variable {κ:Type} [DecidableEq κ]
def cY (kvs:List (κ × V)) (k:κ):Option V:=(kvs.find? fun kv=>decide (kv.1=k)).map (·.2)
def dL (kvs:List (κ × V)) (k:κ) (v:V):List (κ × V) :=
 if (kvs.any fun kv=>decide (kv.1=k))=true then kvs.map (fun kv=>if kv.1=k then (kv.1,v) else kv) else kvs++[(k,v)]
theorem kX {k:κ}:cY ([]:List (κ × V)) k=none:=rfl
theorem eX {p:κ × V}{r:List (κ × V)}{k:κ}(e:p.1=k):cY (p::r) k=some p.2:=by simp[cY,bZ,e]
theorem eU {p:κ × V}{r:List (κ × V)}{k:κ}(e:¬ p.1=k):cY (p::r) k=cY r k:=by simp[cY,bZ,e]
theorem gg (k:κ):∀kvs:List (κ × V),(kvs.any fun kv=>decide (kv.1=k))=(cY kvs k).isSome
 | []=>rfl
 | p::r=>by
  rw[bP]
  by_cases e:p.1=k
  ·simp only[eX e,ao e,Bool.true_or,Option.isSome_some]
  ·rw[eU e,ba e,Bool.false_or];exact gg k r
theorem oV (k j:κ) (y:V):∀kvs:List (κ × V), cY (kvs.map fun kv => if kv.1=k then (kv.1, y) else kv) j=(cY kvs j).map fun x => if j=k then y else x
 | []=>rfl
 | p::r=>by
  have ih:=oV k j y r
  rw[aZ]
  by_cases h:p.1=k
  ·rw[if_pos h]
   by_cases e:p.1=j
   ·rw[eX (p:=(p.1,y)) e,eX e,cb,if_pos (e.symm.trans h)]
   ·rw[eU (p:=(p.1,y)) e,eU e,ih]
  ·rw[if_neg h]
   by_cases e:p.1=j
   ·rw[eX (p:=p) e,eX e,cb,if_neg (fun z=>h (e.trans z))]
   ·rw[eU (p:=p) e,eU e,ih]
theorem nl (k j:κ) (y:V):∀kvs:List (κ × V),cY kvs k=none->cY (kvs++[(k,y)]) j=if j=k then some y else cY kvs j
 | [],_=>by
  by_cases e:k=j
  ·rw[if_pos e.symm];exact eX (p:=(k,y)) e
  ·rw[if_neg (fun z=>e z.symm)];exact eU (p:=(k,y)) e
 | p::r,hn=>by
  rw[List.cons_append]
  have hk:¬ p.1=k:=fun z=>by rw[eX z] at hn;cases hn
  rw[eU hk] at hn
  have ih:=nl k j y r hn
  by_cases e:p.1=j
  ·rw[eX e,eX e,if_neg (fun z=>hk (e.trans z))]
  ·rw[eU e,eU e,ih]
theorem fj (kvs:List (κ × V)) (k j:κ) (y:V):cY (dL kvs k y) j=if j=k then some y else cY kvs j := by
 unfold dL
 by_cases a:(kvs.any fun kv=>decide (kv.1=k))=true
 ·rw[if_pos a,oV]
  rw[gg] at a
  by_cases e:j=k
  ·obtain⟨x,hx⟩:=bv.mp a
   rw[if_pos e,e,hx,cb,if_pos rfl]
  ·rw[if_neg e]
   cases cY kvs j with
   | none=>rfl
   | some x=>rw[cb,if_neg e]
 ·rw[if_neg a]
  refine nl k j y kvs ?_
  rw[gg] at a
  cases q:cY kvs k with
  | none=>rfl
  | some x=>rw[q] at a;exact(a rfl).elim
theorem eK (kvs:List (κ × V)) (k:κ) (v:V):(dL kvs k v).length<=kvs.length+1:=by
 unfold dL
 split
 ·rw[ac];omega
 ·rw[az,aN,List.length_nil];omega
theorem lz {kvs:List (κ × V)}{k:κ}(v:V) (h:cY kvs k=none):dL kvs k v=kvs++[(k,v)]:=by
 unfold dL
 rw[gg,h]
 exact if_neg (by decide)
theorem RelO.isSome_eq {o:Option V}{u:Option Value}(r:RelO o u):o.isSome=u.isSome:=by
 cases o with
 | none=>cases u with
  | none=>rfl
  | some _=>exact(show False from r).elim
 | some _=>cases u with
  | none=>exact(show False from r).elim
  | some _=>rfl
theorem KV.val {kvs:List (κ × V)}{vs:List (κ × Value)}(r:KV kvs vs) (k:κ):RelO (cY kvs k) (valueAt vs k) := by
 unfold KV at r
 induction r with
 | nil=>exact True.intro
 | @cons p q ps qs h t ih =>
  obtain⟨h1,h2⟩:=h
  by_cases e:p.1=k
  ·have e':q.1=k:=h1.symm.trans e
   have b:valueAt (q::qs) k=some q.2:=by simp[valueAt,bZ,e']
   rw[eX e,b];exact h2
  ·have e':¬ q.1=k:=fun z=>e (h1.trans z)
   have b:valueAt (q::qs) k=valueAt qs k:=by simp[valueAt,bZ,e']
   rw[eU e,b];exact ih
theorem KV.any {kvs:List (κ × V)}{vs:List (κ × Value)}(r:KV kvs vs) (k:κ):(kvs.any fun kv=>decide (kv.1=k))=vs.any fun kv=>decide (kv.1=k):=by
 unfold KV at r
 induction r with
 | nil=>rfl
 | cons h t ih=>rw[bP,bP,ih,h.1]
theorem KV.repl {kvs:List (κ × V)}{vs:List (κ × Value)}(r:KV kvs vs) (k:κ) {y:V}{u:Value}(ry:RelV y u) :
    KV (kvs.map fun kv=>if kv.1=k then (kv.1,y) else kv) (vs.map fun kv=>if kv.1=k then (kv.1,u) else kv):=by
 unfold KV at r ⊢
 induction r with
 | nil=>exact .nil
 | @cons p q ps qs h t ih =>
  rw[aZ,aZ]
  refine .cons ?_ ih
  obtain⟨h1,h2⟩:=h
  by_cases e:p.1=k
  ·rw[if_pos e,if_pos (h1.symm.trans e)];exact⟨h1,ry⟩
  ·rw[if_neg e,if_neg (fun z=>e (h1.trans z))];exact⟨h1,h2⟩
theorem KV.put {kvs:List (κ × V)}{vs:List (κ × Value)}(r:KV kvs vs) (k:κ) {y:V}{u:Value}(ry:RelV y u):KV (dL kvs k y) (stored vs k u):=by
 unfold dL stored
 rw[r.any k]
 by_cases e:(vs.any fun kv=>decide (kv.1=k))=true
 ·rw[if_pos e,if_pos e];exact r.repl k ry
 ·rw[if_neg e,if_neg e];exact Paired.snoc r ⟨rfl,ry⟩
theorem KV.length {kvs:List (κ × V)}{vs:List (κ × Value)}(r:KV kvs vs):kvs.length=vs.length:=Paired.length r
end
theorem kJ {P:Program}{w:World}{k:Key}{u:Value}(r:RelV (kV k) u):(dW P w).is k u=true:=by
 cases k with
 | inl i=>obtain⟨t,e⟩:=(show ∃t,u=Value.int i t from r);subst e;exact pG P w i t
 | inr x=>obtain⟨t,e⟩:=(show ∃t,u=Value.str x t from r);subst e;exact pw P w x t
theorem nj {P:Program}{w:World}:∀ {ks:List Key}{us:List Value},Vals (ks.map kV) us->ItemsAre (dW P w) ks us
 | [],_,r=>by rw[List.map_nil] at r;cases r;exact .nil
 | k::ks,_,r=>by
  rw[aZ] at r
  cases r with
  | cons h t=>exact .cons (kJ h) (nj t)
abbrev KT (H:Hp):List (List Key × V)->List (List Key × Addr × Value)->Prop:=Paired fun p q=>p.1=q.1/\H q.2.1=some (.tup (p.1.map kV))/\RelV p.2 q.2.2
theorem KT.val {H:Hp}{kvs:List (List Key × V)}{xs:List (List Key × Addr × Value)}(r:KT H kvs xs) (k:List Key):RelO (cY kvs k) ((atKey xs k).map (·.2)) := by
 induction r with
 | nil=>exact True.intro
 | @cons p q ps qs h t ih =>
  obtain⟨h1,_,h2⟩:=h
  by_cases e:p.1=k
  ·have e':q.1=k:=h1.symm.trans e
   have b:atKey (q::qs) k=some q.2:=by simp[atKey,bZ,e']
   rw[eX e,b];exact h2
  ·have e':¬ q.1=k:=fun z=>e (h1.trans z)
   have b:atKey (q::qs) k=atKey qs k:=by simp[atKey,bZ,e']
   rw[eU e,b];exact ih
theorem KT.repl {H:Hp}{kvs:List (List Key × V)}{xs:List (List Key × Addr × Value)}(r:KT H kvs xs) (k:List Key) {y:V}{u:Value}(ry:RelV y u) :
    KT H (kvs.map fun kv=>if kv.1=k then (kv.1,y) else kv) (xs.map (putAt k u)):=by
 induction r with
 | nil=>exact .nil
 | @cons p q ps qs h t ih =>
  rw[aZ,aZ]
  refine .cons ?_ ih
  obtain⟨h1,h2,h3⟩:=h
  unfold putAt
  by_cases e:p.1=k
  ·rw[if_pos e,if_pos (h1.symm.trans e)];exact⟨h1,h2,ry⟩
  ·rw[if_neg e,if_neg (fun z=>e (h1.trans z))];exact⟨h1,h2,h3⟩
theorem KT.put {H:Hp}{kvs:List (List Key × V)}{xs:List (List Key × Addr × Value)}(r:KT H kvs xs) (k:List Key) {b:Addr}{y:V}{u:Value}(hb:H b=some (.tup (k.map kV))) (ry:RelV y u) :
    KT H (dL kvs k y) (storedH xs k b u):=by
 have e:(kvs.any fun kv=>decide (kv.1=k))=(atKey xs k).isSome:=by
  rw[gg,(r.val k).isSome_eq,Option.isSome_map]
 unfold dL storedH
 rw[e]
 by_cases q:(atKey xs k).isSome=true
 ·rw[if_pos q,if_pos q];exact r.repl k ry
 ·rw[if_neg q,if_neg q];exact Paired.snoc r ⟨rfl,hb,ry⟩
theorem KT.keeps {H H':Hp}{kvs:List (List Key × V)}{xs:List (List Key × Addr × Value)}(r:KT H kvs xs) (ht:∀b ys,H b=some (.tup ys)->H' b=some (.tup ys)):KT H' kvs xs :=
 Paired.mapP r fun _ _ z=>⟨z.1,ht _ _ z.2.1,z.2.2⟩
section
variable {P:Program}{w:World}{H:Hp}{h:Heap}{a:Addr}
theorem wA {u:HO}(ok:HOk P w H h) (e:Rd H a u):ObjOk P w H h a u:=e.ok ok
theorem ki {kvs:List (Key × V)}(ok:HOk P w H h) (e:Rd H a (.dK kvs)):kvs.length<=sizeLine/\(a==sysModules)=false/\∃vs,KV kvs vs/\h.DictOf (dW P w) a vs :=
 show ObjOk P w H h a (.dK kvs) from wA ok e
theorem wC {kvs:List (Key × V)}(ok:HOk P w H h) (e:H a=some (.dK kvs)):kvs.length<=sizeLine/\(a==sysModules)=false/\∃vs,KV kvs vs/\h.DictOf (dW P w) a vs:=ki ok (.inl e)
theorem jl {ks:List Key}(ok:HOk P w H h) (e:H a=some (.tup (ks.map kV))):(tupleKind (dW P w)).is h ks a:=by
 obtain⟨_,its,r,o,h1,h2,n,h3,_⟩:=(show ObjOk P w H h a (.tup (ks.map kV)) from ok a _ e)
 exact⟨o,its.toArray,n,h1,h2,h3,by simpa using nj r⟩
theorem lJ {kvs:List (List Key × V)}(ok:HOk P w H h) (e:Rd H a (.dT kvs)):kvs.length <= sizeLine /\ (a==sysModules)=false /\
    ∃xs,KT H kvs xs/\h.DictOfH (tupleKind (dW P w)) a xs:=by
 obtain⟨z,y,xs,r,o,es,ep,h1,h2,h3,h4,h5⟩:=(show ObjOk P w H h a (.dT kvs) from wA ok e)
 refine⟨z,y,xs,r,o,es,ep,h1,h2,h3,h4,fun x hx=>?_,h5⟩
 have all:∀ {l:List (List Key × V)} {m:List (List Key × Addr × Value)}, KT H l m -> ∀x ∈ m, (tupleKind (dW P w)).is h x.1 x.2.1 := by
  intro l m q
  induction q with
  | nil=>intro x hx;exact nomatch hx
  | @cons p q ps qs hq t ih =>
   intro x hx
   rcases am.mp hx with e | hx
   ·subst e
    exact jl ok (by rw[<- hq.1];exact hq.2.1)
   ·exact ih x hx
 exact all r x hx
theorem wc {kvs:List (List Key × V)}(ok:HOk P w H h) (e:H a=some (.dT kvs)):kvs.length<=sizeLine/\(a==sysModules)=false /\
    ∃xs,KT H kvs xs/\h.DictOfH (tupleKind (dW P w)) a xs:=lJ ok (.inl e)
end
def DGet (H:Hp) (a:Addr) (y:V) (r:Option V):Prop :=
 (∃kvs k,Rd H a (.dK kvs)/\y=kV k/\r=cY kvs k)∨∃kvs k b,Rd H a (.dT kvs)/\y=.ref b/\H b=some (.tup (k.map kV))/\r=cY kvs k
def DPut (H:Hp) (a:Addr) (y v:V) (H':Hp):Prop :=
 (∃kvs k,H a=some (.dK kvs)/\y=kV k/\kvs.length<sizeLine/\H'=upd H a (.dK (dL kvs k v))) ∨
 ∃kvs k b,H a=some (.dT kvs)/\y=.ref b/\H b=some (.tup (k.map kV))/\kvs.length<sizeLine/\H'=upd H a (.dT (dL kvs k v))
theorem DGet.k {H:Hp}{a:Addr}{kvs:List (Key × V)}{k:Key}(e:H a=some (.dK kvs)):DGet H a (kV k) (cY kvs k):=.inl ⟨kvs,k,.inl e,rfl,rfl⟩
theorem DPut.k {H:Hp}{a:Addr}{kvs:List (Key × V)}{k:Key}{v:V}(e:H a=some (.dK kvs)) (hl:kvs.length<sizeLine):DPut H a (kV k) v (upd H a (.dK (dL kvs k v))):=.inl ⟨kvs,k,e,rfl,hl,rfl⟩
theorem DPut.t {H:Hp}{a b:Addr}{kvs:List (List Key × V)}{k:List Key}{v:V}(e:H a=some (.dT kvs)) (eb:H b=some (.tup (k.map kV))) (hl:kvs.length<sizeLine) :
    DPut H a (.ref b) v (upd H a (.dT (dL kvs k v))):=.inr ⟨kvs,k,b,e,rfl,eb,hl,rfl⟩
section
variable {X:Cx}{pins:List (Addr × Obj)}{σ:St}{H:Hp}{s:Shared}{a:Addr}{y v:V}{u r:Value}{o:Option V}{A:Around}{E:Value->Shared->Prop}
theorem Inv.big (I:Inv X pins σ H s):sysModules<s.heap.objs.size:=by
 have h:mainGlobals<s.heap.objs.size:=(I.mod.glob.keeps I.bk).lt
 exact Nat.lt_trans (by decide) h
theorem uq {Q:Value->Shared->Prop}(hu:A.units+1<cLine) (I:Inv X pins σ H s) (g:DGet H a y (some v)) (ry:RelV y u) (h:∀w' s',Inv X pins σ H s'->RelV v w'->Q w' s') :
    wpAny (model X.prog X.w) A (getItem (.ref a) u) Q E s:=by
 rcases g with⟨kvs,k,e,ey,l⟩ | ⟨kvs,k,b,e,ey,eb,l⟩
 ·subst ey
  obtain⟨z,hd,vs,rel,dd⟩:=ki I.hok e
  obtain⟨w',hw,rw'⟩:=RelO.some_of (v:=v) (o:=valueAt vs k) (by rw[l];exact rel.val k)
  exact wpAny_getItem_of (kJ ry) dd.mapOf hw (h w' _ (I.tok _) rw')
 ·subst ey
  cases (show u=Value.ref b from ry)
  obtain⟨z,hd,xs,rel,dd⟩:=lJ I.hok e
  obtain⟨w',hw,rw'⟩:=RelO.some_of (v:=v) (o:=(atKey xs k).map (·.2)) (by rw[l];exact rel.val k)
  obtain⟨p,hp,hp2⟩:=Option.map_eq_some_iff.mp hw
  refine wpAny_getItem_heap (tupleKind_room_in1 hu) (jl I.hok eb) dd hp ?_
  rw[hp2]
  exact h w' _ (I.tok _) rw'
theorem d_in {Q:Value->Shared->Prop}(hu:A.units+1<cLine) (I:Inv X pins σ H s) (g:DGet H a y o) (ry:RelV y u) (h:∀s',Inv X pins σ H s'->Q (.bool o.isSome) s') :
    wpAny (model X.prog X.w) A (compareOp .In u (.ref a)) Q E s:=by
 rcases g with⟨kvs,k,e,ey,l⟩ | ⟨kvs,k,b,e,ey,eb,l⟩
 ·subst ey
  obtain⟨z,hd,vs,rel,dd⟩:=ki I.hok e
  refine wpAny_in_of (kJ ry) hd dd.mapOf ?_
  rw[<- (rel.val k).isSome_eq,<- l]
  exact h _ (I.tok _)
 ·subst ey
  cases (show u=Value.ref b from ry)
  obtain⟨z,hd,xs,rel,dd⟩:=lJ I.hok e
  refine wpAny_in_heap (tupleKind_room_in1 hu) (jl I.hok eb) hd dd ?_
  have q:=(rel.val k).isSome_eq
  rw[Option.isSome_map] at q
  rw[<- q,<- l]
  exact h _ (I.tok _)
theorem xK {Q:Value->Shared->Prop}(hu:A.units+1<cLine) (I:Inv X pins σ H s) (g:DGet H a y o) (ry:RelV y u) (h:∀s',Inv X pins σ H s'->Q (.bool (!o.isSome)) s') :
    wpAny (model X.prog X.w) A (compareOp .NotIn u (.ref a)) Q E s:=by
 rcases g with⟨kvs,k,e,ey,l⟩ | ⟨kvs,k,b,e,ey,eb,l⟩
 ·subst ey
  obtain⟨z,hd,vs,rel,dd⟩:=ki I.hok e
  refine wpAny_notIn_of (kJ ry) hd dd.mapOf ?_
  rw[<- (rel.val k).isSome_eq,<- l]
  exact h _ (I.tok _)
 ·subst ey
  cases (show u=Value.ref b from ry)
  obtain⟨z,hd,xs,rel,dd⟩:=lJ I.hok e
  refine wpAny_notIn_heap (tupleKind_room_in1 hu) (jl I.hok eb) hd dd ?_
  have q:=(rel.val k).isSome_eq
  rw[Option.isSome_map] at q
  rw[<- q,<- l]
  exact h _ (I.tok _)
theorem kM {h':Heap}{t':Nat}{ob:HO}(I:Inv X pins σ H s) (mu:Mut (H a)) (hs:Heap.SameBut a s.heap h') (he:∃q,h'.get? a=some q) (new:ObjOk X.prog X.w (upd H a ob) h' a ob) :
    Inv X pins σ (upd H a ob) { s with heap:=h',toks:=t' } :=
 I.write (x:=a) (e:=a) mu (.inl rfl) (fun b q hb z=>(hs.2 b hb).trans z) he new
theorem uw {P:Program}{w:World}{H':Hp}{h':Heap}{kvs:List (Key × V)}{vs:List (Key × Value)}(z:kvs.length<=sizeLine) (hd:(a==sysModules)=false) (rel:KV kvs vs) (dd:h'.DictOf (dW P w) a vs) :
    ObjOk P w H' h' a (.dK kvs):=⟨z,hd,vs,rel,dd⟩
theorem tz {H':Hp}{Q:Unit->Shared->Prop}(hu:A.units+1<cLine) (I:Inv X pins σ H s) (g:DPut H a y v H') (ry:RelV y u) (rv:RelV v r) (h:∀s',Inv X pins σ H' s'->Q () s') :
    wpAny (model X.prog X.w) A (setItem (.ref a) u r) Q E s:=by
 rcases g with⟨kvs,k,e,ey,l,eH⟩ | ⟨kvs,k,b,e,ey,eb,l,eH⟩
 ·subst ey eH
  obtain⟨z,hd,vs,rel,dd⟩:=wC I.hok e
  have hz:vs.length<=sizeLine:=by rw[<- rel.length];exact z
  have hl:(dL kvs k v).length<=sizeLine:=by have:=eK kvs k v;omega
  refine wpAny_setItem_pairs (hsz:=hz) (kJ ry) dd fun h' dd' hs=>h _ ?_
  have he:∃q,h'.get? a=some q:=let ⟨q,_,_,hq,_⟩:=dd';⟨q,hq⟩
  exact kM I (by rw[e];exact True.intro) hs he (uw hl hd (rel.put k rv) dd')
 ·subst ey eH
  cases (show u=Value.ref b from ry)
  obtain⟨z,hd,xs,rel,dd⟩:=wc I.hok e
  have hz:xs.length<=sizeLine:=by rw[<- Paired.length rel];exact z
  have hl:(dL kvs k v).length<=sizeLine:=by have:=eK kvs k v;omega
  refine wpAny_setItem_heap (hsz:=hz) (tupleKind_room_in1 hu) (jl I.hok eb) dd fun h' dd' hs=>h _ ?_
  obtain⟨q,es,ep,hq,h2,h3,h4,_,h5⟩:=dd'
  refine kM I (by rw[e];exact True.intro) hs ⟨q,hq⟩ ⟨hl,hd,_,(rel.put k eb rv).keeps fun c ys ec=>?_,q,es,ep,hq,h2,h3,h4,h5⟩
  rw[cH (ft ec e (fun z=>nomatch z))]
  exact ec
end
section
variable {X:Cx}{pins:List (Addr × Obj)}{σ:St}{H:Hp}{s:Shared}{a:Addr}{kvs:List (Key × V)}{k:Key}{u:Value}{A:Around}{E:Value->Shared->Prop}
theorem wv {Q:Value->Shared->Prop}(I:Inv X pins σ H s) (e:Rd H a (.dK kvs)) (h:∀t s',Inv X pins σ H s'->Q (.int kvs.length t) s'):wpAny (model X.prog X.w) A (call (.builtin "len") [.ref a]) Q E s:=by
 obtain⟨z,hd,vs,rel,dd⟩:=ki I.hok e
 refine call_len_dict hd dd (by rw[<- rel.length];rw[sizeLine_eq] at z;omega) ?_
 rw[<- rel.length]
 exact h _ _ (I.tok _)
end
theorem pD {X:Cx}{pins:List (Addr × Obj)}{σ:St}{H:Hp}{s:Shared}{a:Addr}{y:V}{o:Option V}(I:Inv X pins σ H s) (g:DGet H a y o):s.TypeIs (.ref a) "dict":=by
 rcases g with⟨kvs,k,e,_,_⟩ | ⟨kvs,k,b,e,_,_,_⟩
 ·obtain⟨_,_,vs,_,dd⟩:=ki I.hok e
  exact dd.typeIs
 ·obtain⟨_,_,xs,_,dd⟩:=lJ I.hok e
  exact dd.typeIs
theorem jI {P:Program}{w:World}{H:Hp}(h:Heap) (hb:sysModules<h.objs.size):ObjOk P w H (h.push { cls:=.type "dict",data:=.dict #[] }) h.objs.size (.dK []) :=
 ⟨aT _,beq_eq_false_iff_ne.mpr (Ne.symm (ak hb)),[],.nil,Heap.DictOf.new h⟩
theorem oW {P:Program}{w:World}{H:Hp}(h:Heap) (hb:sysModules<h.objs.size):ObjOk P w H (h.push { cls:=.type "dict",data:=.dict #[] }) h.objs.size (.dT []) :=
 ⟨aT _,beq_eq_false_iff_ne.mpr (Ne.symm (ak hb)),[],.nil,_,#[],0,ap _ rfl,⟨rfl,rfl,rfl⟩,rfl,rfl,bz⟩
def yx:TE:=fun _ H Q=>∀p,H p=none->Q (.ref p) (upd H p (.dK []))
def y6:TE:=fun _ H Q=>∀p,H p=none->Q (.ref p) (upd H p (.dT []))
section
variable {X:Cx}{pos:Pos}
theorem fE:PE X (.Dict [] [] pos) yx:=fun pins s σ H Q I h =>
 wpAny_Dict_empty ⟨.ref s.heap.objs.size,_,I.laid (a:=s.heap.objs.size) (o:=.dK []) (t':=s.toks) (fun _ _ q=>ah _ q) (ad _) (jI s.heap I.big),rfl,h _ (I.hok.fresh (ad _))⟩
theorem vR:PE X (.Dict [] [] pos) y6:=fun pins s σ H Q I h =>
 wpAny_Dict_empty ⟨.ref s.heap.objs.size,_,I.laid (a:=s.heap.objs.size) (o:=.dT []) (t':=s.toks) (fun _ _ q=>ah _ q) (ad _) (oW s.heap I.big),rfl,h _ (I.hok.fresh (ad _))⟩
end
def IsD (H:Hp) (a:Addr):Prop:=(∃kvs,Rd H a (.dK kvs))∨∃kvs,Rd H a (.dT kvs)
end L2
namespace Att
open PySem PySem.W PySem.Calls PyProof.Rows
theorem lR {P:Params}{h:Heap}:∀(ns:List Int) (vs:List Value), WellAll P h vs (ns.map WData.int) -> IntsAre vs ns := by
 intro ns
 induction ns with
 | nil =>
  intro vs w
  rw[List.map_nil] at w
  cases w
  exact .nil
 | cons n ns ih =>
  intro vs w
  rw[aZ] at w
  cases w with
  | cons a b =>
   cases a
   exact .cons _ _ (ih _ b)
theorem sO {l:OpenLaw}{n:Nat}(hn:l.most=some n) {P:Params}{h:Heap}{args:List WData}{vals:List Value}
    (hpre:l.row.toRowW.claim.pre args=true) (hwl:WellAll P h vals args) :
    ∃a vs ns,vals=[Value.ref a]/\args=[WData.list (ns.map WData.int)]/\h.get? a=some { cls:=.type "list",data:=.seq vs.toArray }/\IntsAre vs ns/\ns.length<=n:=by
 have hsh:WShape.hasAll [] args [.list .int]=true:=(pre_splitW hpre).1
 have hc:l.pre.holds [] { args:=args }=true:=(pre_splitW hpre).2
 obtain⟨d,r,rfl,h1,h2⟩:=hasAllW_cons hsh
 obtain rfl:=hasAllW_nil h2
 obtain⟨xs,rfl,h3⟩:=hasW_list h1
 obtain⟨ns,rfl⟩:=items_int h3
 have hlen:ns.length<=n:=by
  unfold OpenLaw.pre at hc
  have h4:(WTm.not (.lt (.lit (.int (n:Int))) (.len (.arg 0)))).holds [] { args:=[.list (ns.map .int)] }=true:=by
   have h4:=(holds_andW hc).1
   rw[hn] at h4
   exact h4
  have h5:=condW_of h4 (w_not (w_lt w_lit (w_len_list (w_arg rfl))))
  rw[ac] at h5
  refine Nat.le_of_not_lt fun q=>?_
  have q':(n:Int)<((ns.length:Nat):Int):=by omega
  first
   | (rw[ao q'] at h5;exact absurd h5 (by decide))
   | (simp at h5;omega)
 cases hwl with
 | cons w1 w2 =>
  cases w2
  cases w1 with
  | list ho hall=>exact⟨_,_,ns,rfl,rfl,ho,lR ns _ hall,hlen⟩
theorem uv (l:OpenLaw) (args:List WData):l.row.toRowW.claim.post args (.bool true) args=true :=
 postW_of (r:=l.row.toRowW) (X:=(true==true))
  (show WShape.has [] (.bool true) .bool=true by first | rfl | decide | simp[WShape.has,WShape.arms,WShape.armsAll])
  (show (WTm.eq .res (.lit (.bool true))).value [] { args:=args,res:=some (.bool true),after:=args }=some (.bool (true==true)) from w_eq_bool (w_res rfl) w_lit) rfl
theorem attach_call {l:OpenLaw}{n:Nat}{q:Program}{loose:List Str}{XP:(Str -> Option Value) -> Heap -> Prop}{YP:World -> Heap -> Prop}{d:DefRec}
    (hn:l.most=some n) (hdf:d.params.defaults=[])
    (call:∀(w:World) (s₀ s₁:Shared) (mg mb:Str->Option Value) (fa:Addr) (o:Obj) (pm cd doc:Value) (a:Addr) (vs:List Value) (ns:List Int),
     Ground q loose [] XP w s₀ mg mb s₁.heap->YP w s₁.heap ->
     s₁.heap.get? fa=some o->o.data=.func (docDef d.name d.params d.body d.scope pm cd doc)->s₁.heap.CodeRec cd d.name->mg d.name=some (.ref fa) ->
     s₁.heap.get? a=some { cls:=.type "list",data:=.seq vs.toArray }->IntsAre vs ns->ns.length<=n->s₁.gens=#[] ->
     codeAny (model l.prog w) callerA (.call (.ref fa) ⟨[.ref a],[]⟩) (fun r s'=>r=.ok (.ret (.bool true))/\OldK s₁.heap s'.heap/\s'.os=s₁.os/\AllBare s'.gens) s₁) :
    WalkO q loose XP YP l.row.toRowW d [] (fun f vs=>PySem.call f vs):=by
 intro w s₀ s₁ mg mb G Y fa o pm cd doc dV kV ho hd hcd hD hmg hg args vals as hpre hlay hrd hwl hlo
 obtain rfl:dV=.none:=Dflts.none hD hdf
 obtain rfl:kV=.none:=Dflts.noKw hD
 obtain⟨a,vs,ns,rfl,rfl,hobj,hints,hlen⟩:=sO hn hpre hwl
 refine enter_call (codeAny_mono (call w s₀ s₁ mg mb fa o pm cd doc a vs ns G Y ho (fd_plain hd) hcd hmg hobj hints hlen hg) fun r s' hq=>?_)
 obtain⟨rfl,h2,h3,h4⟩:=hq
 exact⟨.inl ⟨.bool true,.bool true,[],rfl,fun _=>rfl,.bool true,uv l _,fun _=>⟨List.Pairwise.nil,fun _ hm=>(nomatch hm)⟩⟩,h2,h3,h4⟩
end Att
namespace L2
open PySem PySem.Spec PyProof.Rows
theorem nB:∀ {vs:List Value}{ns:List Int},IntsAre vs ns->Vals (ns.map V.int) vs
 | _,_,.nil=>.nil
 | _,_,.cons n t h=>.cons ⟨t,rfl⟩ (nB h)
def cZ (s:Stmt):Arguments:=match s with
 | .FunctionDef _ a _ _ _ _ _ _ _ _=>a
 | _=>{ posonlyargs:=[],args:=[],vararg:=none,kwonlyargs:=[],kw_defaults:=[],kwarg:=none,defaults:=[] }
def cV (s:Stmt):List Stmt:=match s with
 | .FunctionDef _ _ b _ _ _ _ _ _ _=>b
 | _=>[]
def cI (s:Stmt):Scope:=match s with
 | .FunctionDef _ _ _ _ _ _ sc _ _ _=>sc
 | _=>{ kind:=.function,names:=[],isGenerator:=false,isCoroutine:=false }
abbrev CX0:CXT:=fun _ _ _ _ _ _=>False
abbrev E0:XK:=fun _ _ _=>False
theorem zF {X:Cx}:lX CX0 X E0:=fun _ _ _ _ _ _ _ h=>h.elim
structure Fun (K:W.Frag) (x qual:Str) (st:Stmt) (f:Addr) (fd:FuncData):Prop where
 ex:∃(oc:Value) (od:Option Addr) (kV doc pm:Value) (an:Option Addr) (cdv ct:Value) (osl:Array (Option Value)),
  fd=W.fnOf x qual (cZ st) (cV st) (cI st) .none kV doc pm an cdv ct/\K.lookup f=some ⟨oc,od,.func fd,osl⟩/\W.codeIn K cdv qual=true
 kp:W.keepIn K (.ref f)=true
section
variable {P:Program}{w:World}{K:W.Frag}{mg:Str->Option Value}{base:Heap}
theorem Fun.ok {x qual:Str}{st:Stmt}{f:Addr}{fd:FuncData}{N ps:List Str}{k:Nat}{sp:Sp}(F:Fun K x qual st f fd) (S:FnScope N ps (cI st)) (len:∀vs H Q E, sp vs H Q E -> vs.length=ps.length)
    (hbody:∀(cdv:Value) (A:Around) (outer:List Env) (s:Shared) (H:Hp) (vs:List V) (Q:VK) (E:XK),Room k (A.deeper (envOfC qual (cI st) s.heap.objs.size f cdv))->sp vs H Q E ->
     ∃t,PSs (dE CX0 P w K mg base N qual (cI st) f cdv A outer s H E).nox (cV st) t/\t { nx:=fun _ H'=>Q .non H',rt:=Q } (start N vs) H):FnOk P w K mg base CX0 (k+1) f fd ps sp:=by
 obtain⟨oc,od,kV,doc,pm,an,cdv,ct,osl,rfl,lk,hcd⟩:=F.ex
 refine qT lk hcd S len fun A outer s H vs Q E hr hsp=>?_
 obtain⟨t,h,q⟩:=hbody cdv A outer s H vs Q E hr hsp
 exact⟨t,h.nox,q⟩
theorem Fun.binds {x qual:Str}{st:Stmt}{f:Addr}{fd:FuncData}{ps:List Str}(F:Fun K x qual st f fd)
    (h:∀(kV doc pm:Value) (an:Option Addr) (cdv ct:Value) (us:List Value),us.length=ps.length->bindArgs (W.fnOf x qual (cZ st) (cV st) (cI st) .none kV doc pm an cdv ct) ⟨us,[]⟩=pure (ps.zip us)):Binds K fd ps []:=by
 obtain⟨oc,od,kV,doc,pm,an,cdv,ct,osl,rfl,lk,hcd⟩:=F.ex
 exact .all (h kV doc pm an cdv ct)
theorem di {x qual:Str}{st:Stmt}{f:Addr}{oc:Value}{od an:Option Addr}{osl:Array (Option Value)}{kV doc pm cdv ct:Value}(l:K.lookup f=some ⟨oc,od,.func (W.fnOf x qual (cZ st) (cV st) (cI st) .none kV doc pm an cdv ct),osl⟩)
    (c:W.codeIn K cdv qual=true) (k:W.keepIn K (.ref f)=true):Fun K x qual st f (W.fnOf x qual (cZ st) (cV st) (cI st) .none kV doc pm an cdv ct):=⟨⟨oc,od,kV,doc,pm,an,cdv,ct,osl,rfl,l,c⟩,k⟩
end
theorem cN {n:Nat}(h:n<=1000):n<sizeLine:=Nat.lt_of_le_of_lt h (by decide)
section
variable {X:Cx}
theorem pv (i:Nat) {x:Str}{pos:Pos}(hN:X.N[i]? = some x:=by rfl) (hv:Vis X.env.scope x:=by first | exact Or.inl rfl | exact Or.inr (Or.inl rfl) | exact Or.inr (Or.inr rfl)) (hd:(x==("__debug__":Str))=false:=by decide)
    (hcd:(x==("__classdict__":Str))=false:=by decide):PE X (.Name x pos) (kU i):=yc hN hv hd hcd
theorem rL:fA X (.builtin "len") (fun xs H Q=>∃a kvs,xs=[V.ref a]/\H a=some (.dK kvs)/\Q (.int kvs.length) H):=by
 intro pins s σ H xs us Q I r h
 obtain⟨a,kvs,rfl,ha,q⟩:=h
 obtain⟨u,rfl,ru⟩:=fq r
 cases ru
 exact wv I (.inl ha) fun t s' I'=>⟨.int kvs.length,H,I',⟨t,rfl⟩,q⟩
end
theorem gM {A B:Prop}(h:B):if false=true then A else B:=by
 rw[if_neg aH]
 exact h
theorem iteT {A B:Prop}(h:A):if true=true then A else B:=by
 rw[if_pos rfl]
 exact h
theorem df {c A B:Prop} [Decidable c] (h1:c->A) (h2:¬ c->B):if c then A else B:=by
 by_cases h:c
 ·rw[if_pos h]
  exact h1 h
 ·rw[if_neg h]
  exact h2 h
def Same (H H':Hp):Prop:=∀b o,H b=some o->H' b=some o
theorem Same.refl (H:Hp):Same H H:=fun _ _ h=>h
theorem Same.trans {H H1 H2:Hp}(a:Same H H1) (b:Same H1 H2):Same H H2:=fun c o h=>b c o (a c o h)
section
variable {κ:Type} [DecidableEq κ]
theorem vx {kvs:List (κ × V)}{k:κ}(h:cY kvs k=none):¬ k∈kvs.map (·.1):=by
 intro m
 obtain⟨p,hp,e⟩:=aq.mp m
 have q:(kvs.any fun kv=>decide (kv.1=k))=true:=List.any_eq_true.mpr ⟨p,hp,ao e⟩
 rw[gg,h] at q
 exact absurd q (by simp)
theorem pR:∀ {l:List κ}{k:κ},l.Nodup->¬ k∈l->(l++[k]).Nodup
 | [],k,_,_=>by simp
 | a::r,k,h,hk=>by
  obtain⟨h1,h2⟩:=aU.mp h
  show (a::(r++[k])).Nodup
  refine aU.mpr ⟨fun m=>?_,pR h2 fun m=>hk (am.mpr (Or.inr m))⟩
  rcases ar.mp m with q | q
  ·exact h1 q
  ·exact hk (am.mpr (Or.inl (aI.mp q).symm))
theorem qe {kvs:List (κ × V)}{k:κ}(v:V) (hn:(kvs.map (·.1)).Nodup) (h:cY kvs k=none):((dL kvs k v).map (·.1)).Nodup:=by
 rw[lz v h,aj]
 exact pR hn (vx h)
end
end L2
set_option maxHeartbeats 4000000
namespace L2
open PySem PySem.Spec PyProof.Rows
theorem mP {env:Env}{f:Str × NameKind -> List (Str × Addr) -> Sem (ForInStep (List (Str × Addr)))}
    (f1:∀n k r,k≠NameKind.free->f (n,k) r=pure (.yield r))
    (f2:∀n c r,env.cells.lookup n=some c->f (n,NameKind.free) r=pure (.yield ((n,c)::r))) :
    ∀(names:List (Str × NameKind)) (acc:List (Str × Addr)),
    (∀y∈names,y.2=NameKind.free->∃c,env.cells.lookup y.1=some c) ->
    (∀x c,acc.lookup x=some c->env.cells.lookup x=some c) ->
    ∃cl,forIn names acc f=(pure cl:Sem (List (Str × Addr)))/\(∀x c,cl.lookup x=some c->env.cells.lookup x=some c) /\
     (∀x,(acc.lookup x).isSome=true->(cl.lookup x).isSome=true)/\∀y∈names,y.2=NameKind.free->(cl.lookup y.1).isSome=true
 | [],acc,_,h=>⟨acc,by rw[bA],h,fun _ q=>q,fun y hy=>nomatch hy⟩
 | (n, k) :: r, acc, hn, h => by
  by_cases hk:k=NameKind.free
  ·subst hk
   obtain⟨c,hc⟩:=hn (n,.free) bM rfl
   have hc':env.cells.lookup n=some c:=hc
   obtain⟨cl,e,a,b,d⟩:=mP f1 f2 r ((n,c)::acc) (fun y hy=>hn y (aM _ hy)) (fun x c' q=>by
    rw[aY] at q
    cases e:x==n with
    | true =>
     rw[e] at q
     cases q
     rw[show x=n from LawfulBEq.eq_of_beq e]
     exact hc'
    | false =>
     rw[e] at q
     exact h x c' q)
   refine⟨cl,?_,a,fun x q=>b x ?_,fun y hy hf=>?_⟩
   ·rw[bp,f2 n c acc hc',pure_bind]
    exact e
   ·rw[aY]
    cases x==n with
    | true=>rfl
    | false=>exact q
   ·rcases am.mp hy with rfl | hy
    ·refine b _ ?_
     rw[aY]
     simp
    ·exact d y hy hf
  ·obtain⟨cl,e,a,b,d⟩:=mP f1 f2 r acc (fun y hy=>hn y (aM _ hy)) h
   refine⟨cl,?_,a,b,fun y hy hf=>?_⟩
   ·rw[bp,f1 n k acc hk,pure_bind]
    exact e
   ·rcases am.mp hy with rfl | hy
    ·exact absurd hf hk
    ·exact d y hy hf
theorem mX {scope:Scope}{env:Env}(hf:∀y ∈ scope.names, y.2=NameKind.free -> ∃c, env.cells.lookup y.1=some c) :
    ∃cl,closureFor scope env=pure cl/\(∀x c,cl.lookup x=some c->env.cells.lookup x=some c) /\
     ∀y∈scope.names,y.2=NameKind.free->∃c,cl.lookup y.1=some c:=by
 have go:=mP (env:=env) (f:=fun (x:Str × NameKind) (r:List (Str × Addr))=>match x with
     | (name,kind)=>if (kind==NameKind.free)=true then do let c ← cellOf env name;pure (ForInStep.yield ((name,c)::r)) else pure (ForInStep.yield r))
  (fun n k r hk=>by
   have z:(k==NameKind.free)=false:=by simpa using hk
   simp only[z,bQ,if_false])
  (fun n c r hc=>by
   simp only[beq_self_eq_true,if_true,cellOf,hc,pure_bind])
  scope.names [] hf (fun x c q=>by cases q)
 obtain⟨cl,e,a,_,d⟩:=go
 refine⟨cl,?_,a,fun y hy z=>bv.mp (d y hy z)⟩
 simp only[closureFor]
 first
  | exact e
  | (simp only[bind_pure];exact e)
  | (refine Eq.trans ?_ e;simp only[bind_pure])
def cxC (X:Cx) (scope:Scope) (N:List Str) (cl:List (Str × Addr)) (C:Addr) (s₀:Shared) (H₀:Hp) (ex:List Addr):Cx where
 prog:=X.prog
 w:=X.w
 K:=X.K
 mg:=X.mg
 base:=X.base
 A:=X.A
 N:=N
 s₀:=s₀
 H₀:=H₀
 env:=compEnvC scope cl C X.env
 outer:=X.stack
 stack:=X.stack
 ex:=ex
 fn:=fun _=>false
 calm:=X.calm
 pn:=[]
 xe:=fun _ _=>False
def iK (k:Nat) (fr:List Nat) (σ:St):St:=List.replicate k none++fr.map fun i=>(σ[i]?).join
def yA (osc scope:Scope) (NX:List Str) (fr:List Nat):Bool:=fr.all fun i=>match NX[i]? with
 | some x=>(decide (osc.names.lookup x=some .cell)||decide (osc.names.lookup x=some .free))&&decide (scope.names.lookup x=some .free)
 | none=>false
structure CompSc (osc scope:Scope) (NX own:List Str) (fr:List Nat) (N:List Str):Prop where
 kind:scope.kind=.function
 nocell:∀y∈scope.names,y.2≠NameKind.cell
 loc:∀y∈scope.names,y.2=NameKind.local->scope.names.lookup y.1=some .local
 free:∀y∈scope.names,y.2=NameKind.free->osc.names.lookup y.1=some .cell∨osc.names.lookup y.1=some .free
 names:N.map some=own.map some++fr.map fun i=>NX[i]?
 outer:yA osc scope NX fr=true
def mq (osc scope:Scope) (NX own:List Str) (fr:List Nat) (N:List Str):Bool :=
 decide (scope.kind=.function)&&(scope.names.all (fun y=>decide (y.2≠NameKind.cell))&&(scope.names.all (fun y=>decide (y.2=NameKind.local->scope.names.lookup y.1=some .local)) &&
  (scope.names.all (fun y=>decide (y.2=NameKind.free->(osc.names.lookup y.1=some .cell∨osc.names.lookup y.1=some .free)))&&(decide (N.map some=own.map some++fr.map fun i=>NX[i]?)&&yA osc scope NX fr))))
theorem CompSc.of {osc scope:Scope}{NX own:List Str}{fr:List Nat}{N:List Str}(h:mq osc scope NX own fr N=true):CompSc osc scope NX own fr N:=by
 unfold mq at h
 simp only[bo,decide_eq_true_eq,bh] at h
 obtain⟨h1,h2,h3,h4,h5,h6⟩:=h
 exact⟨h1,h2,h3,h4,h5,h6⟩
theorem CompSc.len {osc scope:Scope}{NX own:List Str}{fr:List Nat}{N:List Str}(S:CompSc osc scope NX own fr N):N.length=own.length+fr.length:=by
 have h:=congrArg List.length S.names
 simpa using h
theorem gW {env:Env}:∀ {names:List (Str × NameKind)}{x:Str}, names.lookup x=some .free ->
    (names.map fun (n,k)=>if (k==NameKind.free&&env.scope.kind==.function&&env.kindOf n==some .cell) then (n,NameKind.cell) else (n,k)).lookup x=some .cell ∨
    (names.map fun (n,k)=>if (k==NameKind.free&&env.scope.kind==.function&&env.kindOf n==some .cell) then (n,NameKind.cell) else (n,k)).lookup x=some .free
 | [],_,h=>by simp at h
 | (n,k)::r,x,h=>by
  have ih:=@gW env r x
  cases hx:x==n with
  | true =>
   simp only[aY,hx] at h
   cases h
   simp only[aZ]
   split
   ·left;simp[aY,hx]
   ·right;simp[aY,hx]
  | false =>
   simp only[aY,hx] at h
   simp only[aZ]
   split
   ·simp only[aY,hx];exact ih h
   ·simp only[aY,hx];exact ih h
theorem lE {env:Env}:∀ {names:List (Str × NameKind)}{x:Str}{k':NameKind},
    (names.map fun (n,k)=>if (k==NameKind.free&&env.scope.kind==.function&&env.kindOf n==some .cell) then (n,NameKind.cell) else (n,k)).lookup x=some k' ->
    k'=.cell∨k'=.free->(∀y∈names,y.2≠NameKind.cell)->∃y∈names,y.1=x/\y.2=.free
 | [],_,_,h,_,_=>by simp at h
 | (n, k) :: r, x, k', h, hk, nc => by
  have ih:=@lE env r x k'
  simp only[aZ] at h
  cases hx:x==n with
  | true =>
   have ex:x=n:=LawfulBEq.eq_of_beq hx
   refine⟨(n,k),bM,ex.symm,?_⟩
   have nck:k≠.cell:=nc (n,k) bM
   by_cases z:k=.free
   ·exact z
   ·have zb:(k==NameKind.free)=false:=by simpa using z
    simp only[zb,Bool.false_and,bQ,if_false,aY,hx] at h
    cases h
    rcases hk with q | q
    ·exact absurd q nck
    ·exact absurd q z
  | false =>
   have h':(r.map fun (n,k)=>if (k==NameKind.free&&env.scope.kind==.function&&env.kindOf n==some .cell) then (n,NameKind.cell) else (n,k)).lookup x=some k':=by
    split at h
    ·simpa only[aY,hx] using h
    ·simpa only[aY,hx] using h
   obtain⟨y,hy,a,b⟩:=ih h' hk fun z hz=>nc z (aM _ hz)
   exact⟨y,aM _ hy,a,b⟩
section
variable {X:Cx}{pins:List (Addr × Obj)}{σ:St}{H:Hp}{s:Shared}
def PTs (X:Cx) (ifs:List Expr) (t:TT):Prop :=
 ∀(pins:List (Addr × Obj)) (s:Shared) (σ:St) (H:Hp) (Q:Bool->Hp->Prop),Inv X pins σ H s->t σ H Q ->
  wpAny (model X.prog X.w) X.A (forIn ifs true fun c r=>if r=true then do let ok ← isTrue c X.env (eval c X.env);pure (ForInStep.yield ok) else pure (ForInStep.yield r)) (TP X pins σ Q) X.xe s
def uJ:TT:=fun _ H Q=>Q true H
theorem eM:PTs X [] uJ:=fun _ _ _ H _ I h=>wpAny_tests_nil ⟨H,I,h⟩
theorem gJ {c:Expr}{t:TT}(h:PT X c t):PTs X [c] t:=fun pins s σ H Q I q=>wpAny_tests_one (h pins s σ H Q I q)
theorem nx {α:Type}{t:Sem α}{Q Q':α->Shared->Prop}{M:Model}{A:Around}{E:Value->Shared->Prop}{s:Shared}(h:wpAny M A t Q (fun _ _=>False) s) (hQ:∀a s,Q a s->Q' a s):wpAny M A t Q' E s :=
 aO h hQ fun _ _ f=>f.elim
theorem sj {scope:Scope}{own:List Str}{fr:List Nat}{N:List Str}{cl:List (Str × Addr)}{s3 s4:Shared}{H3:Hp}{fp:List Addr}{m:Str -> Option Value}
    (hc:X.calm=true) (S:CompSc X.env.scope scope X.N own fr N)
    (c1:∀x c,cl.lookup x=some c->X.env.cells.lookup x=some c) (c2:∀y∈scope.names,y.2=NameKind.free->∃c,cl.lookup y.1=some c)
    (I3:Inv X pins σ H3 s3) (f3:∀b∈fp,eQ X pins H3 b/\b<s3.heap.objs.size)
    (hk:∀b o,s3.heap.get? b=some o->s4.heap.get? b=some o) (hn:s4.heap.Ns s3.heap.objs.size m) (ho:s4.os=s3.os) (hg:s4.gens=s3.gens) :
    Inv (cxC X scope N cl s3.heap.objs.size s3 H3 fp) [] (iK own.length fr σ) H3 s4:=by
 have kindF:(compEnvC scope cl s3.heap.objs.size X.env).scope.kind=.function:=by
  show (relabel scope X.env).kind=.function
  exact S.kind
 refine⟨⟨I3.ok.mod,kindF,I3.ok.glob,I3.ok.blt,ad _,?_,?_,?_,I3.ok.hd,I3.ok.frames,.inl rfl,?_,?_,?_,?_,?_,I3.stack,I3.stkFree⟩,ho,?_,Un.kept hk,⟨m,hn,?_⟩,?_,?_,?_,?_,I3.hok.kept hk,?_⟩
 ·exact fun x y c h1 h2=>I3.ok.inj x y c (c1 x c h1) (c1 y c h2)
 ·intro x hx
  have hx':(relabel scope X.env).names.lookup x=some .cell∨(relabel scope X.env).names.lookup x=some .free:=hx
  obtain⟨k',hk',hkk⟩:∃k',(relabel scope X.env).names.lookup x=some k'/\(k'=NameKind.cell∨k'=NameKind.free):=by
   rcases hx' with q | q
   ·exact⟨_,q,.inl rfl⟩
   ·exact⟨_,q,.inr rfl⟩
  obtain⟨y,hy,e,hf⟩:=lE (env:=X.env) hk' hkk S.nocell
  subst e
  exact c2 y hy hf
 ·exact fun x c h=>by cases h
 ·intro b hb
  obtain⟨f,hl⟩:=f3 b hb
  refine⟨ak hl,fun x c h=>f.2.2.2.2.1 x c (c1 x c h)⟩
 ·exact fun b o e=>I3.bs b o e
 ·exact aX I3.ok.bsz I3.sz
 ·intro b o e hb
  obtain⟨f,hl⟩:=f3 b hb
  rcases f.2.2.2.1 with z | z
  ·exact I3.ok.noex b o e z
  ·exact absurd (aD (ag e) (aX I3.ok.bsz z)) (bb _)
 ·intro b hb
  obtain⟨f,hl⟩:=f3 b hb
  show b∉frs X.stack
  intro z
  rcases am.mp (I3.stkSub b z) with q | q
  ·exact f.2.1 q
  ·exact f.2.2.1 q
 ·rw[hg];exact I3.bare
 ·intro i x v h1 h2 h3
  have h1:N[i]? = some x:=h1
  obtain⟨m0,hn0,hl0⟩:=I3.loc
  have hi:own.length<=i:=by
   refine Nat.le_of_not_lt fun q=>?_
   unfold iK at h2
   rw[bG (by simpa using q),List.getElem?_replicate] at h2
   split at h2 <;> cases h2
  obtain⟨j,rfl⟩:=Nat.exists_eq_add_of_le hi
  have h2':(fr.map fun i=>(σ[i]?).join)[j]? = some (some v):=by
   unfold iK at h2
   rw[bw (by simp)] at h2
   simpa using h2
  rw[al] at h2'
  cases ej:fr[j]? with
  | none=>rw[ej] at h2';cases h2'
  | some k =>
   rw[ej] at h2'
   have e2:(σ[k]?).join=some v:=af h2'
   have eσ:σ[k]? = some (some v):=by
    cases q:σ[k]? with
    | none=>rw[q] at e2;cases e2
    | some o=>rw[q] at e2;exact congrArg some e2
   have eN:X.N[k]? = some x:=by
    have q:=congrArg (fun l=>l[own.length+j]?) S.names
    simp only[al,h1,bw (show (own.map some).length<=own.length+j by simp),ac,Nat.add_sub_cancel_left,ej,cb] at q
    exact(af q).symm
   have ok:=bh.mp S.outer k (av ej)
   rw[eN] at ok
   simp only[bo,Bool.or_eq_true,decide_eq_true_eq] at ok
   obtain⟨ok1,ok2⟩:=ok
   have vis:Vis X.env.scope x:=.inr ok1
   obtain⟨u,r,l⟩:=hl0 k x v eN eσ vis
   refine⟨u,r,?_⟩
   rcases l with⟨l,_⟩ | ⟨_,c,e,z⟩
   ·have l:X.env.scope.names.lookup x=some .local:=l
    rcases ok1 with q | q
    ·rw[l] at q;cases q
    ·rw[l] at q;cases q
   ·obtain⟨c',e'⟩:=c2 (x,.free) (PySem.mem_of_lookup ok2) rfl
    have e':cl.lookup x=some c':=e'
    have ec:c'=c:=af ((c1 x c' e').symm.trans e)
    subst ec
    refine .inr ⟨gW (env:=X.env) ok2,c',e',?_⟩
    obtain⟨o,h1,h2⟩:=z
    exact⟨o,hk _ _ h1,h2⟩
 ·intro x c e
  obtain⟨v,o,h1,h2⟩:=I3.cell x c (c1 x c e)
  exact⟨v,o,hk _ _ h1,h2⟩
 ·exact I3.hok.fresh (ad _)
 ·exact fun x c e=>I3.freeC x c (c1 x c e)
 ·intro p hp
  exact absurd hp (by simp[cxC])
 ·show (iK own.length fr σ).length=N.length
  rw[S.len]
  simp[iK]
end
section
variable {prog:Program}{w:World}{A:Around}{R:Result->Shared->Prop}{s:Shared}
theorem ue {elt tg iter:Expr}{ifs:List Expr}{scope:Scope}{pos:Pos}{it acc:Value}{env:Env}(J:Nat -> Shared -> Prop)
    (turn:∀k s, J k s -> ∀E:Value -> Shared -> Prop, wpAny (model prog w) A (pyNext it) (fun r s1 => match r with
     | none=>R (.ok .next) s1
     | some v => wpAny (model prog w) A (letOwnedTupleGo tg it v) (fun _ s2 => wpAny (model prog w) A (assign tg env v) (fun _ s3 =>
         wpAny (model prog w) A (forIn ifs true fun c r=>if r=true then do let ok ← isTrue c env (eval c env);pure (ForInStep.yield ok) else pure (ForInStep.yield r)) (fun ok s4 =>
          if ok=true then wpAny (model prog w) A (eval elt env) (fun x s5=>wpAny (model prog w) A (call (.builtin "list.append") [acc,x]) (fun _ s6=>∃m,m<k/\J m s6) E s5) E s4
          else ∃m,m<k/\J m s4) E s3) E s2) E s1) E s)
    (k:Nat) (h:J k s):codeAny (model prog w) A (.compLoop (.ListComp elt [⟨tg,iter,ifs,0⟩] scope pos) 0 it acc env) R s:=by
 refine codeAny_loop rfl J (fun k s hJ=>?_) k h
 show wpAny _ A ((compTurn (.ListComp elt [⟨tg,iter,ifs,0⟩] scope pos) 0 it acc env).onRaise (fun e=>do noteFrame e env;theTreesLotGoes e)) _ _ s
 refine wpAny_noted ?_
 rw[compTurn_list]
 refine aa (wpAny_standAt (aa (thn (turn k s hJ _) fun r s1 h1=>?_)))
 cases r with
 | none=>exact ae h1
 | some v =>
  refine aa (thn h1 fun _ s2 h2=>aa (thn h2 fun _ s3 h3=>aa (thn h3 fun ok s4 h4=>?_)))
  cases ok with
  | false=>exact ae ⟨rfl,h4⟩
  | true=>exact aa (aa (thn h4 fun x s5 h5=>aa (thn h5 fun _ s6 h6=>ae (ae ⟨rfl,h6⟩))))
end
def iN (k:Nat) (fr:List Nat) (g:TG) (tc:TT) (te:TE) (J:It) (σ:St) (H1:Hp) (Q:VK):Prop :=
 ∀D,H1 D=none->∃W:Nat->Nat->List V->St->Hp->Prop,(∃m,W 0 m [] (iK k fr σ) (upd H1 D (.lst [])))/\∀i m acc σ' H',W i m acc σ' H'->H' D=some (.lst acc) ->
  (J.stop i H'/\Q (.ref D) H')∨(J.go i H'/\∃N:List V->St->Hp->Prop,(∀acc' σ2 H2,N acc' σ2 H2->∃m',m'<m/\W (i+1) m' acc' σ2 H2)/\∀x H2,J.yld i H' x H2->g x σ' H2 fun σ2 H3=>tc σ2 H3 fun b H4 =>
   if b=true then te σ2 H4 fun y H5=>H5 D=some (.lst acc)/\acc.length<sizeLine/\N (acc++[y]) σ2 (upd H5 D (.lst (acc++[y])))
   else H4 D=some (.lst acc)/\N acc σ2 H4)
def wH (k:Nat) (fr:List Nat) (wi:TI) (g:TG) (tc:TT) (te:TE):TE:=fun σ H Q=>wi σ H fun J H1=>iN k fr g tc te J σ H1 Q
section
variable {X:Cx}{pins:List (Addr × Obj)}{σ:St}{H:Hp}{s:Shared}{tg elt iter:Expr}{ifs:List Expr}{scope:Scope}{pos:Pos}
theorem mn {own:List Str}{fr:List Nat}{N:List Str}{cl:List (Str × Addr)}{H2:Hp}{s2:Shared}{fp:List Addr}{it:Addr}{J:It}{tn:Nat -> Heap -> Prop}{g:TG}{tc:TT}{te:TE}{Q:VK}{E:Value -> Shared -> Prop}{POST:Value -> Addr -> Result -> Shared -> Prop}
    (hc:X.calm=true) (S:CompSc X.env.scope scope X.N own fr N)
    (c1:∀x c,cl.lookup x=some c->X.env.cells.lookup x=some c) (c2:∀y∈scope.names,y.2=NameKind.free->∃c,cl.lookup y.1=some c)
    (hg:∀C s₀ H₀ ex,PG (cxC X scope N cl C s₀ H₀ ex) tg g) (ht:∀C s₀ H₀ ex,PTs (cxC X scope N cl C s₀ H₀ ex) ifs tc) (he:∀C s₀ H₀ ex,PE (cxC X scope N cl C s₀ H₀ ex) elt te)
    (I2:Inv X pins σ H2 s2) (T:Turn X.prog X.w X.K tg J fp it tn) (t2:tn 0 s2.heap) (f2:∀b∈fp,eQ X pins H2 b) (q:iN own.length fr g tc te J σ H2 Q)
    (fin:∀D C s' H' m,Inv X pins σ H' s'->eQ X pins H' C->s'.heap.Ns C m->Q (.ref D) H'->POST (.ref D) C (.ok .next) s') :
    wpAny (model X.prog X.w) X.A (newList []) (fun acc s3=>wpAny (model X.prog X.w) X.A (newFunctionEnv scope X.env.globals cl [] X.env.qual none .none (some X.env)) (fun cenv s4 =>
     codeAny (model X.prog X.w) X.A (.compStart (.ListComp elt [⟨tg,iter,ifs,0⟩] scope pos) 0 (.ref it) acc { cenv with scope:=relabel scope X.env }) (POST acc cenv.locals) s4) E s3) E s2:=by
 refine wpAny_newObj_type (wpAny_newFunctionEnv S.nocell (by intro y hy;simp at hy) (fun h4 ns4 sb4=>?_) S.kind)
 dsimp only at ns4 sb4 ⊢
 have hD:H2 s2.heap.objs.size=none:=I2.hok.fresh (ad _)
 obtain⟨W,⟨m0,w0⟩,turn⟩:=q s2.heap.objs.size hD
 have I3:Inv X pins σ (upd H2 s2.heap.objs.size (.lst [])) { s2 with heap:=s2.heap.push { cls:=.type "list",dict:=none,data:=.seq ([]:List Value).toArray },toks:=s2.toks } :=
  I2.laid (fun b u q=>ah _ q) (ad _) ⟨aT _,[],_,.nil,ap _ rfl⟩
 generalize hh3:s2.heap.push { cls:=.type "list",dict:=none,data:=.seq ([]:List Value).toArray }=h3 at *
 have z3:h3.objs.size=s2.heap.objs.size+1:=by rw[<- hh3,bq]
 have k23:∀b o,s2.heap.get? b=some o->h3.get? b=some o:=fun b o e=>by rw[<- hh3];exact ah _ e
 have k34:∀b o,h3.get? b=some o->h4.get? b=some o:=fun b o e=>sb4.extBut b o (ak (ag e)) (ah _ e)
 have fpl:∀b∈fp,b<s2.heap.objs.size:=fun b hb=>by
  obtain⟨o,e,_⟩:=T.obj _ _ t2 b hb
  exact ag e
 have f3:∀b∈fp,eQ X pins (upd H2 s2.heap.objs.size (.lst [])) b/\b<h3.objs.size:=fun b hb=>by
  refine⟨⟨?_,(f2 b hb).2⟩,by rw[z3];exact Nat.lt_succ_of_lt (fpl b hb)⟩
  rw[cH (ak (fpl b hb))]
  exact(f2 b hb).1
 generalize hs3:({ s2 with heap:=h3,toks:=s2.toks }:Shared)=s3 at I3
 have es3:s3.heap=h3:=by rw[<- hs3]
 have hs3':({ s2 with heap:=h3 }:Shared)=s3:=hs3
 have I4:=sj (s3:=s3) (s4:={ s3 with heap:=h4,toks:=s3.toks+([]:List (Str × Value)).length }) hc S c1 c2 I3 (by rw[es3];exact f3) (by rw[es3];exact k34) (m:=fun x=>([]:List (Str × Value)).reverse.lookup x) (by rw[es3];exact ns4) rfl rfl
 rw[es3] at I4
 have stat:∀ {H':Hp} {s':Shared} {σ':St} {pl:List (Addr × Obj)},Inv (cxC X scope N cl h3.objs.size s3 (upd H2 s2.heap.objs.size (.lst [])) fp) pl σ' H' s'->(∀p∈pl,p.1∉fp)->(∀b∈fp,H' b=none)->∀b∈fp,eQ (cxC X scope N cl h3.objs.size s3 (upd H2 s2.heap.objs.size (.lst [])) fp) pl H' b:=fun {H' s' σ' pl} I' hpl hn b hb=>by
  refine⟨hn b hb,ak (f3 b hb).2,I'.ok.exfs b hb,.inl hb,fun x c e=>(f2 b hb).2.2.2.2.1 x c (c1 x c e),fun p hp=>?_⟩
  intro z
  exact hpl p (by simpa [cxC] using hp) (z ▸ hb)
 have loop:∀s4:Shared, s4={ s3 with heap := h4, toks := s3.toks+([]:List (Str × Value)).length } ->
     codeAny (model X.prog X.w) X.A (.compLoop (.ListComp elt [⟨tg,iter,ifs,0⟩] scope pos) 0 (.ref it) (.ref s2.heap.objs.size) (compEnvC scope cl h3.objs.size X.env)) (POST (.ref s2.heap.objs.size) h3.objs.size) s4:=by
  rintro s4 rfl
  refine ue (fun n s'=>∃i acc σ' H',Inv (cxC X scope N cl h3.objs.size s3 (upd H2 s2.heap.objs.size (.lst [])) fp) [] σ' H' s'/\tn i s'.heap/\(∀b∈fp,H' b=none)/\H' s2.heap.objs.size=some (.lst acc)/\W i n acc σ' H') ?_ m0
   ⟨0,[],_,_,I4,T.keep _ _ _ t2 fun b hb o e=>k34 b o (k23 b o e),fun b hb=>(f3 b hb).1.1,cF,w0⟩
  rintro n s5 ⟨i,acc,σ5,H5,I5,t5,fr5,d5,w5⟩ E'
  rcases turn i n acc σ5 H5 w5 d5 with⟨stop,qn⟩ | ⟨go,NN,hNN,step⟩
  ·refine thn (T.done (cxC X scope N cl h3.objs.size s3 (upd H2 s2.heap.objs.size (.lst [])) fp) rfl rfl rfl hc i [] s5 σ5 H5 E' I5 (stat I5 (by simp) fr5) t5 stop) fun r s6 ⟨hr,I6⟩=>?_
   subst hr
   obtain⟨m6,n6,_⟩:=id I6.loc
   have J6:Inv X pins σ H5 s6:=I3.call' (ch:=fp) I6.os I6.base I6.hok I6.bare fun b hb=>⟨(f2 b hb).2.2.2.1,(f2 b hb).2.1,(f2 b hb).2.2.2.2.1,(f2 b hb).2.2.2.2.2⟩
   exact fin _ _ s6 H5 m6 J6 (I2.fpOk (by rw[z3];exact bL _) I6.free) n6 qn
  ·refine thn (T.item (cxC X scope N cl h3.objs.size s3 (upd H2 s2.heap.objs.size (.lst [])) fp) rfl rfl rfl hc i [] s5 σ5 H5 E' I5 (stat I5 (by simp) fr5) t5 go) fun r s6 ⟨u,hr,h6⟩=>?_
   subst hr
   refine thn h6 fun _ s7 ⟨x,H7,I7,r7,y7,t7,fr7⟩=>?_
   have I7':=I7.pinned (stat I7 (by simp) fr7) (T.obj _ _ t7)
   have backTn:∀ {s':Shared} {H':Hp} {σ':St},Inv (cxC X scope N cl h3.objs.size s3 (upd H2 s2.heap.objs.size (.lst [])) fp) ([]++jT fp s7.heap) σ' H' s'->tn (i+1) s'.heap/\∀b∈fp,H' b=none:=fun {s' H' σ'} I'=>by
    refine⟨T.keep _ _ _ t7 fun b hb o e=>(I'.pin (b,o) (aE _ (aE _ (gm hb e)))).1,fun b hb=>?_⟩
    obtain⟨o,e,_⟩:=T.obj _ _ t7 b hb
    exact(I'.pin (b,o) (aE _ (aE _ (gm hb e)))).2.1
   refine nx (hg _ _ _ _ _ s7 σ5 H7 x u _ I7' r7 (step x H7 y7)) fun _ s8 ⟨σ8,H8,I8,q8⟩=>?_
   refine nx (ht _ _ _ _ _ s8 σ8 H8 _ I8 q8) fun ok s9 ⟨H9,I9,q9⟩=>?_
   cases ok with
   | false =>
    obtain⟨d9,n9⟩:=q9
    obtain⟨m',hm,w9⟩:=hNN _ _ _ n9
    obtain⟨a1,a2⟩:=backTn I9
    exact⟨m',hm,i+1,acc,σ8,H9,I9.unpinned,a1,a2,d9,w9⟩
   | true =>
    rw[if_pos rfl]
    refine nx (he _ _ _ _ _ s9 σ8 H9 _ I9 q9) fun y s10 ⟨v,H10,I10,r10,d10,l10,n10⟩=>?_
    obtain⟨m',hm,w10⟩:=hNN _ _ _ n10
    refine nx (m9 _ s10 σ8 H10 (.ref s2.heap.objs.size) [v] (.ref s2.heap.objs.size) [y] (fun _ H'=>H'=upd H10 s2.heap.objs.size (.lst (acc++[v]))) I10 rfl (.cons r10 .nil) ⟨_,acc,v,rfl,rfl,d10,l10,rfl⟩) fun _ s11 ⟨_,H11,I11,_,e11⟩=>?_
    subst e11
    obtain⟨a1,a2⟩:=backTn I11
    exact⟨m',hm,i+1,_,σ8,_,I11.unpinned,a1,a2,cF,w10⟩
 exact codeAny_compStart_list (loop _ (by rw[<- hs3])) (T.self _ 0 _ _ _ (T.keep _ _ _ t2 fun b hb o e=>k34 b o (k23 b o e)) (loop _ (by rw[<- hs3])))
theorem dN (osc:Scope) (NX own:List Str) (fr:List Nat) (N:List Str) {wi:TI}{g:TG}{tc:TT}{te:TE}(hc:X.calm=true)
    (hi:PI X tg iter wi) (hg:∀cl C s₀ H₀ ex,PG (cxC X scope N cl C s₀ H₀ ex) tg g) (ht:∀cl C s₀ H₀ ex,PTs (cxC X scope N cl C s₀ H₀ ex) ifs tc) (he:∀cl C s₀ H₀ ex,PE (cxC X scope N cl C s₀ H₀ ex) elt te)
    (hs:∀x,foldedSetIterable iter X.env x=pure x:=by intro _;rfl) (hosc:X.env.scope=osc:=by rfl) (hNX:X.N=NX:=by rfl) (hS:mq osc scope NX own fr N=true:=by decide +kernel) :
    PE X (.ListComp elt [⟨tg,iter,ifs,0⟩] scope pos) (wH own.length fr wi g tc te):=by
 intro pins s σ H Q I h
 have S:CompSc X.env.scope scope X.N own fr N:=by rw[hosc,hNX];exact CompSc.of hS
 obtain⟨cl,ecl,c1,c2⟩:=mX (scope:=scope) (env:=X.env) fun y hy hf=>I.ok.has y.1 (S.free y hy hf)
 rw[eval_ListComp]
 refine wpAny_comprehension_free (use:=none) rfl hs ecl S.kind S.loc (thn (hi pins s σ H _ I h) fun v s1 h1=>thn h1 fun itv s2 h2=>?_)
 obtain⟨it,fp,tn,J,H2,e,I2,T,t2,f2,q⟩:=h2
 subst e
 refine mn (POST:=fun acc C=>compPost (model X.prog X.w) X.A X.xe none (EP X pins σ Q) acc C) hc S c1 c2 (hg cl) (ht cl) (he cl) I2 T t2 f2 q fun D C s' H' m I' fC ns q'=>?_
 refine⟨m,ns,fun h' sb=>⟨.ref D,H',?_,rfl,q'⟩⟩
 obtain⟨g0,g1,_,g3,g4,g5⟩:=fC
 exact I'.turned (t':=s'.toks) (fun b o hb e=>(sb.2 b hb).trans e) g0 g1 g3 g4 g5
theorem mU {wi:TI}{g:TG}{tc:TT}{te:TE}{i:Nat}{x:Str}{px spos:Pos}(hN:X.N.Nodup) (hi':X.N[i]? = some x) (hx:X.env.scope.names.lookup x=some .local)
    (hsw:swapsWith (.ListComp elt [⟨tg,iter,ifs,0⟩] scope pos) (some (.Name x px)) spos.line X.env=pure true)
    (osc:Scope) (NX own:List Str) (fr:List Nat) (N:List Str) (hc:X.calm=true)
    (hi:PI X tg iter wi) (hg:∀cl C s₀ H₀ ex,PG (cxC X scope N cl C s₀ H₀ ex) tg g) (ht:∀cl C s₀ H₀ ex,PTs (cxC X scope N cl C s₀ H₀ ex) ifs tc) (he:∀cl C s₀ H₀ ex,PE (cxC X scope N cl C s₀ H₀ ex) elt te)
    (hs:∀x,foldedSetIterable iter X.env x=pure x:=by intro _;rfl) (hosc:X.env.scope=osc:=by rfl) (hNX:X.N=NX:=by rfl) (hS:mq osc scope NX own fr N=true:=by decide +kernel) :
    PS X (.Assign [.Name x px] (.ListComp elt [⟨tg,iter,ifs,0⟩] scope pos) spos) (vd (wH own.length fr wi g tc te) (kH i)):=by
 intro pins s σ H D I h
 have S:CompSc X.env.scope scope X.N own fr N:=by rw[hosc,hNX];exact CompSc.of hS
 obtain⟨cl,ecl,c1,c2⟩:=mX (scope:=scope) (env:=X.env) fun y hy hf=>I.ok.has y.1 (S.free y hy hf)
 rw[exec_Assign_Name_used _ _ _ _ hsw]
 refine aa (wpAny_standAt (aa ?_))
 show wpAny _ X.A (do let _ ← comprehension (.ListComp elt [⟨tg,iter,ifs,0⟩] scope pos) scope X.env _ (newList []) false (eval iter X.env) (some (assign (.Name x px) X.env))) _ _ s
 refine aa (thn (wpAny_comprehension_free (use:=some (assign (.Name x px) X.env)) (Q:=fun _ s'=>SP X pins D .next s') rfl hs ecl S.kind S.loc (thn (hi pins s σ H _ I h) fun v s1 h1=>thn h1 fun itv s2 h2=>?_)) fun _ s' hq=>ae (ae hq))
 obtain⟨it,fp,tn,J,H2,e,I2,T,t2,f2,q⟩:=h2
 subst e
 refine mn (POST:=fun acc C=>compPost (model X.prog X.w) X.A X.xe (some (assign (.Name x px) X.env)) (fun _ s'=>SP X pins D .next s') acc C) hc S c1 c2 (hg cl) (ht cl) (he cl) I2 T t2 f2 q fun D' C s' H' m I' fC ns q'=>?_
 show wpAny _ X.A (assign (.Name x px) X.env (.ref D')) _ _ s'
 refine wpAny_assign_Name (nn I' hN hi' (.inl hx) (show RelV (.ref D') (.ref D') from rfl) (fun s3 I3 sb=>?_) (.inr hx))
 obtain⟨a,sb,ha⟩:=sb
 obtain⟨g0,g1,g2,g3,g4,g5⟩:=fC
 have aC:C≠a:=by
  rcases ha with z | z
  ·rw[z];exact g1
  ·exact fun w=>g4 x a z w.symm
 refine⟨m,ns.sameBut sb aC,fun h' sb'=>⟨_,H',?_,q'⟩⟩
 exact I3.turned (t':=s3.toks) (fun b o hb e=>(sb'.2 b hb).trans e) g0 g1 g3 g4 g5
end
def Ite (K:W.Frag) (a:Addr):It :=
 ⟨fun i H=>∃xs x,SqL K H a xs/\xs[i]? = some x,fun i H v H'=>∃p x,H p=none/\v=.ref p/\(∀xs,SqL K H a xs->xs[i]? = some x)/\H'=upd H p (.tup [.int i,x]),fun i H=>∃xs,SqL K H a xs/\xs.length<=i⟩
theorem rN {P:Program}{w:World}{K:W.Frag}{elts:List Expr}{k:Nat}{tp:Pos}(a e it:Addr) (hne:e ≠ it) :
    Turn P w K (.Tuple elts k tp) (Ite K a) [e,it] e (fun i h=>(∃old,IsEnum h e it i old)/\h.IsListIter it a i) where
 mem:=by simp
 obj:=fun i h st b hb=>by
  obtain⟨⟨old,he⟩,hit⟩:=st
  have hb:b=e∨b=it:=by simpa using hb
  rcases hb with z | z
  ·subst z
   exact⟨_,he,fun v z=>by cases z⟩
  ·subst z
   obtain⟨o,e1,c,d⟩:=hit
   exact⟨o,e1,fun v z=>by rw[d] at z;cases z⟩
 keep:=fun i h h' st kk=>by
  obtain⟨⟨old,he⟩,hit⟩:=st
  exact⟨⟨old,kk e (by simp) _ he⟩,hit.at fun o q=>kk it (by simp) o q⟩
 item := by
  intro X hP hw hK hc i pins s σ H E I hf st hg
  subst hP hw hK
  obtain⟨⟨old,he⟩,hit⟩:=st
  obtain⟨xs,x,hq,hx⟩:=hg
  obtain⟨its,rv,p,hz⟩:=I.list hq
  obtain⟨u,hu,ru⟩:=rv.get hx
  obtain⟨f0,f1,f2,f3,f4,f5⟩:=hf e (by simp)
  obtain⟨g0,g1,g2,g3,g4,g5⟩:=hf it (by simp)
  refine wpAny_pyNext_enum_item he hit p.isList (x:=u) (by simpa using hu) hne fun h1 ho hit1 ht1 hz1 k1=>?_
  have hel:e<s.heap.objs.size:=ag he
  have hil:it<s.heap.objs.size:=by obtain⟨o,q,_⟩:=hit;exact ag q
  refine⟨_,rfl,wpAny_letOwnedTupleGo_enum ho fun h2 he2 sb2=>?_⟩
  have sb2:Heap.SameBut e h1 h2:=sb2
  have T2:h2.get? s.heap.objs.size=some { cls:=.type "tuple",data:=.seq #[.int i s.toks,u] }:=(sb2.2 _ (bC hel)).trans ht1
  have hp:H s.heap.objs.size=none:=I.hok.fresh (ad _)
  have nit:∀b v,H b=some v->b≠e/\b≠it:=fun b v q=>⟨fun z=>(by rw[z,f0] at q;cases q),fun z=>(by rw[z,g0] at q;cases q)⟩
  have kk:∀b o,b≠e->b≠it->s.heap.get? b=some o->h2.get? b=some o:=fun b o n1 n2 q=>(sb2.2 b n1).trans (k1 b o n1 n2 q)
  have up:∀b v,H b=some v->upd H s.heap.objs.size (.tup [.int i,x]) b=some v:=fun b v q=>by rw[cH (cL q hp)];exact q
  have I1:Inv X pins σ (upd H s.heap.objs.size (.tup [.int i, x])) { s with heap := h2, gens := s.gens, drawn := s.drawn, toks := s.toks+1 } := by
   refine I.step (g':=s.gens) (d':=s.drawn) (ch:=[e,it]) (fun b hb=>?_) (fun b o _ _ hb q _=>kk b o (fun z=>hb (by simp[z])) (fun z=>hb (by simp[z])) q) (fun b o _ _ hb q _=>⟨o.slots,kk b o (fun z=>hb (by simp[z])) (fun z=>hb (by simp[z])) q⟩) (fun b o _ q n=>?_)
    (fun b o hb q=>⟨o,kk b o (fun z=>hb (by simp[z])) (fun z=>hb (by simp[z])) q⟩) (fun b ys q=>up b _ q) (fun b o v q=>up b _ q) (fun b ps q=>⟨#[],by rw[up b _ q];simp⟩) (fun m hm=>?_) (fun b v q=>?_) I.bare
   ·have hb:b=e∨b=it:=by simpa using hb
    rcases hb with z | z
    ·subst z;exact⟨f3,f1,f4,f5⟩
    ·subst z;exact⟨g3,g1,g4,g5⟩
   ·rw[cH (ak (ag q))];exact n
   ·obtain⟨o,es,ep,ho,r⟩:=hm
    exact⟨o,es,ep,kk _ o (Ne.symm f1) (Ne.symm g1) ho,r⟩
   ·by_cases hb:b=s.heap.objs.size
    ·subst hb
     rw[cF] at q
     have q':HO.tup [V.int i,x]=v:=af q
     subst q'
     exact⟨by show 2<=sizeLine;decide,[.int i s.toks,u],.cons ⟨_,rfl⟩ (.cons ru .nil),⟨_,T2,rfl,_,rfl,rfl⟩⟩
    ·rw[cH hb] at q
     refine(I.hok b v q).stay (fun c v' hc q'=>?_) (fun c q=>up c _ q) fun c ys q=>up c _ q
     rcases hc with z | z
     ·rw[z] at q' ⊢;exact kk b v' (nit b v q).1 (nit b v q).2 q'
     ·exact kk c v' (nit c _ z).1 (nit c _ z).2 q'
  refine⟨.ref s.heap.objs.size,upd H s.heap.objs.size (.tup [.int i,x]),I1,rfl,⟨_,x,hp,rfl,fun ys hy=>by rw[I.list_inj hy hq];exact hx,rfl⟩,⟨⟨u,?_⟩,?_⟩,fun b hb=>?_⟩
  ·exact(by simpa using he2)
  ·exact hit1.at fun o q=>(sb2.2 it (Ne.symm hne)).trans q
  ·have hb:b=e∨b=it:=by simpa using hb
   rcases hb with z | z
   ·rw[z,cH (ak hel)];exact f0
   ·rw[z,cH (ak hil)];exact g0
 done:=by
  intro X hP hw hK hc i pins s σ H E I hf st hg
  subst hP hw hK
  obtain⟨⟨old,he⟩,hit⟩:=st
  obtain⟨xs,hq,hx⟩:=hg
  obtain⟨its,rv,p,hz⟩:=I.list hq
  obtain⟨g0,g1,g2,g3,g4,g5⟩:=hf it (by simp)
  have hl:=rv.length
  exact wpAny_pyNext_enum_end (I.ok.hd hc) he hit p.isList (by simp;omega) fun h' eb=>⟨rfl,I.turned (t':=s.toks) (fun b o hb q=>eb b o hb q) g0 g1 g3 g4 g5⟩
 self:=fun _ _ _ _ _ st h=>by
  obtain⟨⟨old,he⟩,_⟩:=st
  exact wpAny_pyIter_enum he h
mutual
inductive Rep (H:Hp):V->PyData->Prop
 | non:Rep H .non .none
 | bl (b:Bool):Rep H (.bl b) (.bool b)
 | int (i:Int):Rep H (.int i) (.int i)
 | str (x:Str):Rep H (.str x) (.str x)
 | lst {a:Addr} {xs:List V} {ds:List PyData}:H a=some (.lst xs)->RepAll H xs ds->Rep H (.ref a) (.list ds)
 | tup {a:Addr} {xs:List V} {ds:List PyData}:H a=some (.tup xs)->RepAll H xs ds->Rep H (.ref a) (.tuple ds)
inductive RepAll (H:Hp):List V->List PyData->Prop
 | nil:RepAll H [] []
 | cons {x:V} {xs:List V} {d:PyData} {ds:List PyData}:Rep H x d->RepAll H xs ds->RepAll H (x::xs) (d::ds)
end
mutual
theorem Rep.reads {P:Program}{w:World}{H:Hp}{h:Heap}(ok:HOk P w H h):∀ {v:V}{d:PyData}{u:Value},Rep H v d->RelV v u->∃as,Reads h u d as
 | _,_,_,.non,r=>by cases r;exact⟨_,.none⟩
 | _,_,_,.bl b,r=>by cases r;exact⟨_,.bool b⟩
 | _,_,_,.int i,r=>by obtain⟨t,rfl⟩:=r;exact⟨_,.int i t⟩
 | _,_,_,.str x,r=>by obtain⟨t,rfl⟩:=r;exact⟨_,.str x t⟩
 | _,_,_,.lst (a:=a) (xs:=xs) e rs,r=>by
  cases r
  obtain⟨_,its,n,rv,eh⟩:=(show ObjOk P w H h a (.lst xs) from ok a _ e)
  obtain⟨as,z⟩:=RepAll.reads ok rs rv
  exact⟨_,.list eh rfl rfl (by simpa using z)⟩
 | _,_,_,.tup (a:=a) (xs:=xs) e rs,r=>by
  cases r
  obtain⟨_,its,rv,o,eh,hc,n,hd,_⟩:=(show ObjOk P w H h a (.tup xs) from ok a _ e)
  obtain⟨as,z⟩:=RepAll.reads ok rs rv
  exact⟨_,.tuple eh hc hd (by simpa using z)⟩
theorem RepAll.reads {P:Program}{w:World}{H:Hp}{h:Heap}(ok:HOk P w H h):∀ {vs:List V}{ds:List PyData}{us:List Value}, RepAll H vs ds -> Vals vs us -> ∃as, ReadsAll h us ds as
 | _,_,_,.nil,r=>by cases r;exact⟨_,.nil⟩
 | _,_,_,.cons q qs,r=>by
  cases r with
  | cons r1 r2 =>
   obtain⟨as,z⟩:=Rep.reads ok q r1
   obtain⟨bs,zs⟩:=RepAll.reads ok qs r2
   exact⟨_,.cons z zs⟩
end
mutual
theorem Rep.same {H H':Hp}(s:Same H H'):∀ {v:V}{d:PyData},Rep H v d->Rep H' v d
 | _,_,.non=>.non
 | _,_,.bl b=>.bl b
 | _,_,.int i=>.int i
 | _,_,.str x=>.str x
 | _,_,.lst e rs=>.lst (s _ _ e) (rs.same s)
 | _,_,.tup e rs=>.tup (s _ _ e) (rs.same s)
theorem RepAll.same {H H':Hp}(s:Same H H'):∀ {vs:List V}{ds:List PyData},RepAll H vs ds->RepAll H' vs ds
 | _,_,.nil=>.nil
 | _,_,.cons q qs=>.cons (q.same s) (qs.same s)
end
section
variable {X:Cx}
def shp (d:PyData):Prop:=SeqAt.shaped d=true
def rEqD:R2:=fun x y H Q=>∃da db,Rep H x da/\Rep H y db/\shp da/\shp db/\Q (.bl (PyData.eqv da db)) H
def rNeD:R2:=fun x y H Q=>∃da db,Rep H x da/\Rep H y db/\shp da/\shp db/\Q (.bl (!PyData.eqv da db)) H
theorem yS (hu:X.A.units+64<cLine):OpR X (compareOp .Eq) rEqD:=by
 intro pins s σ H x y v u Q I rx ry h
 obtain⟨da,db,ra,rb,sa,sb,q⟩:=h
 obtain⟨as,za⟩:=ra.reads I.hok rx
 obtain⟨bs,zb⟩:=rb.reads I.hok ry
 exact eq_dataH za zb sa sb hu ⟨.bl _,H,I,rfl,q⟩
theorem ye (hu:X.A.units+64<cLine):OpR X (compareOp .NotEq) rNeD:=by
 intro pins s σ H x y v u Q I rx ry h
 obtain⟨da,db,ra,rb,sa,sb,q⟩:=h
 obtain⟨as,za⟩:=ra.reads I.hok rx
 obtain⟨bs,zb⟩:=rb.reads I.hok ry
 exact ne_dataH za zb sa sb hu ⟨.bl _,H,I,rfl,q⟩
theorem tP (bs:List Bool):((List.range bs.length).all fun i=>bs.getD i false)=bs.all id:=by
 rw[bn,bh,bh]
 constructor
 ·intro h b hb
  obtain⟨i,hi,rfl⟩:=bR.mp hb
  have:=h i (by simpa using hi)
  simpa [aQ,hi] using this
 ·intro h i hi
  have hi:i<bs.length:=by simpa using hi
  have:=h bs[i] (bU hi)
  simpa [aQ,hi] using this
theorem xU {bs:List Bool}{its:List Value}(r:Vals (bs.map V.bl) its) {i:Nat}{v:Value}(e:its[i]? = some v):v=.bool (bs.getD i false):=by
 have hl:=r.length
 rw[ac] at hl
 have hi:i<bs.length:=by rw[hl];exact(ai.mp e).1
 obtain⟨u,hu,ru⟩:=r.get (i:=i) (x:=V.bl (bs.getD i false)) (by rw[al];simp[aQ,hi])
 rw[e] at hu
 cases hu
 exact ru
theorem pj (hc:X.calm=true):fA X (.builtin "all") (fun xs H Q=>∃p bs,xs=[.ref p]/\H p=some (.lst (List.map V.bl bs))/\Q (.bl (bs.all id)) H):=by
 intro pins s σ H xs us Q I r h
 obtain⟨p,bs,rfl,e,q⟩:=h
 obtain⟨u,rfl,ru⟩:=fq r
 cases ru
 obtain⟨hz,its,n,rv,eh⟩:=(show ObjOk X.prog X.w H s.heap p (.lst (List.map V.bl bs)) from I.hok p _ e)
 have hl:s.heap.IsList p its.toArray:=⟨_,eh,rfl,n,rfl⟩
 have hlen:its.length=bs.length:=by have:=rv.length;rw[ac] at this;exact this.symm
 have hpl:p<s.heap.objs.size:=ag eh
 refine call_all_walk (wpAny_pyIter_list hl ?_)
 refine⟨s.heap.objs.size,[s.heap.objs.size,p],[s.heap.objs.size],its.toArray.size,_,_,fun i=>bs.getD i false,rfl,
  Walks.list (A:=X.A.in1) (I.ok.hd hc) _ p (ak hpl) its.toArray,⟨⟨_,ap _ rfl,rfl,rfl⟩,⟨_,ah _ eh,rfl,n,rfl⟩⟩,?_,fun h' tk hk=>?_⟩
 ·intro i v s' Q' E' hv hQ'
  have hv:its[i]? = some v:=by simpa using hv
  rw[xU rv hv]
  exact ae hQ'
 ·refine⟨.bl _,H,I.kept fun b o eb=>hk b o (by simpa using ak (ag eb)) (ah _ eb),rfl,?_⟩
  rw[aK,hlen,tP]
  exact q
theorem pP:∀ {ys:List Str}{us:List Value}, Vals (ys.map V.str) us -> StrsAre us ys
 | [],us,r=>by cases r;exact .nil
 | y::ys,us,r=>by
  cases r with
  | cons r1 r2 =>
   obtain⟨t,rfl⟩:=r1
   exact .cons y t (pP r2)
def wE:V->List V->Hp->VK->Prop:=fun x xs H Q=>∃z p ys,x=.str z/\xs=[.ref p]/\H p=some (.lst (List.map V.str ys))/\(ys.map (·.length)).sum+ys.length * z.length<=16777216/\Q (.str (Txt.join z ys)) H
theorem xq:MtR X "str.join" wE:=by
 intro pins s σ H x xs v us Q I rx rv h
 obtain⟨z,p,ys,rfl,rfl,e,hz,q⟩:=h
 obtain⟨t,rfl⟩:=rx
 obtain⟨u,rfl,ru⟩:=fq rv
 cases ru
 obtain⟨_,its,n,rv,eh⟩:=(show ObjOk X.prog X.w H s.heap p (.lst (List.map V.str ys)) from I.hok p _ e)
 exact join_list (D:=p) (items:=its.toArray) ⟨_,eh,rfl,n,rfl⟩ (by simpa using pP rv) hz fun t' k=>⟨.str _,H,I.tok k,⟨t',rfl⟩,q⟩
def rSlS:V->Option Int->Option Int->Hp->VK->Prop:=fun x lo hi H Q=>∃z,x=.str z/\z.length<=sizeLine/\Q (.str (Txt.slice z lo hi)) H
theorem yH:SlR X rSlS:=by
 intro pins s σ H x v vl vu lo hi sl Q I rx hs pl pu h
 obtain⟨z,rfl,hz,q⟩:=h
 obtain⟨t,rfl⟩:=rx
 refine⟨"str",_,PySem.F.slot_str_getitem.lookup,typeIs_str _ _ _,?_⟩
 obtain⟨o,h1,h2,h3⟩:=hs
 have fin:∀t' k,EP X pins σ Q (.str (Txt.slice z lo hi) t') { s with toks:=k }:=fun t' k=>⟨.str _,H,I.tok k,⟨t',rfl⟩,q⟩
 cases pl with
 | none=>cases pu with
  | none=>exact wpAny_getItem_str_slice (l:=none) (u:=none) (st:=none) ⟨o,h1,h2,h3⟩ rfl (post_val_or_str ⟨aX (Txt.slice_le z _ _) hz,fin⟩)
  | int j tj=>exact wpAny_getItem_str_slice (l:=none) (u:=some (j,tj)) (st:=none) ⟨o,h1,h2,h3⟩ rfl (post_val_or_str ⟨aX (Txt.slice_le z _ _) hz,fin⟩)
 | int i ti=>cases pu with
  | none=>exact wpAny_getItem_str_slice (l:=some (i,ti)) (u:=none) (st:=none) ⟨o,h1,h2,h3⟩ rfl (post_val_or_str ⟨aX (Txt.slice_le z _ _) hz,fin⟩)
  | int j tj=>exact wpAny_getItem_str_slice (l:=some (i,ti)) (u:=some (j,tj)) (st:=none) ⟨o,h1,h2,h3⟩ rfl (post_val_or_str ⟨aX (Txt.slice_le z _ _) hz,fin⟩)
def yn (K:W.Frag) (c:String):List V->Hp->VK->Prop:=fun xs H Q=>∃x t b,xs=[x,.ty c]/\TyOf K H x t/\W.kitOne K t (.type c)=some b/\Q (.bl b) H
theorem vD (c:String):fA X (.builtin "isinstance") (yn X.K c):=by
 intro pins s σ H xs us Q I r h
 obtain⟨x,t,b,rfl,ty,e,q⟩:=h
 obtain⟨u,w',rfl,ru,rw'⟩:=hU r
 cases rw'
 exact tF I ru ty e fun tk=>⟨.bl b,H,I.tok tk,rfl,q⟩
def zy:List V->Hp->VK->Prop:=fun xs H Q=>∃x d,xs=[x]/\Rep H x d/\d.showable=true/\d.hasDict=false/\d.depth<=16/\d.shown.length<=sizeLine/\Q (.str d.shown) H
theorem my (hg:X.A.guards=some []) (hu:X.A.units+64<cLine):fA X (.builtin "repr") zy:=by
 intro pins s σ H xs us Q I r h
 obtain⟨x,d,rfl,rep,hs,hd,hdp,hz,q⟩:=h
 obtain⟨u,rfl,ru⟩:=fq r
 have rd:=rep.reads I.hok ru
 have byRef:∀a,u=.ref a->wpAny (model X.prog X.w) X.A (call (.builtin "repr") [.ref a]) (EP X pins σ Q) X.xe s:=fun a e=>by
  subst e
  obtain⟨as,rd⟩:=rd
  exact repr_of_reads' rd hs (PyData.noDict_hsm hd) hg (by omega) (fun _ _ e=>e) (fun h' u' tk hk=>⟨.str _,H,I.kept hk,⟨u',rfl⟩,q⟩) hz
 cases rep with
 | non=>cases ru;exact PySem.P.repr_of_none ⟨.str _,H,I.tok _,⟨_,rfl⟩,q⟩
 | bl b=>cases ru;exact PySem.P.repr_of_bool ⟨.str _,H,I.tok _,⟨_,rfl⟩,q⟩
 | int i =>
  obtain⟨t,rfl⟩:=ru
  exact PySem.P.repr_of_int (by simpa [PyData.showable] using hs) ⟨.str _,H,I.tok _,⟨_,rfl⟩,q⟩
 | str y =>
  obtain⟨t,rfl⟩:=ru
  exact PySem.P.repr_of_str ⟨.str _,H,I.tok _,⟨_,rfl⟩,q⟩ hz
 | lst e rs=>cases ru;exact byRef _ rfl
 | tup e rs=>cases ru;exact byRef _ rfl
def uH:V->Bool
 | .non | .bl _ | .int _ | .str _=>true
 | _=>false
def flD:V->PyData
 | .bl b=>.bool b
 | .int i=>.int i
 | .str x=>.str x
 | _=>.none
theorem vW {h:Heap}{v:V}{u:Value}(f:uH v=true) (r:RelV v u):Reads h u (flD v) []:=by
 cases v with
 | non=>cases r;exact .none
 | bl b=>cases r;exact .bool b
 | int i=>obtain⟨t,rfl⟩:=r;exact .int i t
 | str x=>obtain⟨t,rfl⟩:=r;exact .str x t
 | _=>cases f
theorem oU {P:Program}{w:World}{h:Heap}:∀ {kvs:List (Key × V)}{vs:List (Key × Value)}{es:List DictEntry}, KV kvs vs -> Pairs (dW P w) es vs -> kvs.all (fun p => uH p.2)=true ->
    ReadsAll h (es.map (·.key)) ((kvs.map fun p=>(flD (kV p.1),flD p.2)).map (·.1)) []/\ReadsAll h (es.map (·.val)) ((kvs.map fun p=>(flD (kV p.1),flD p.2)).map (·.2)) []
 | [],_,_,r,q,_=>by
  cases r
  cases q
  exact⟨.nil,.nil⟩
 | p :: kvs, vs, es, r, q, f => by
  cases r with
  | @cons _ b _ vs' r1 r2 =>
   cases q with
   | cons qk qv q2 =>
    rw[List.all_cons,bo] at f
    obtain⟨a1,a2⟩:=oU r2 q2 f.2
    rename_i en es'
    have k1:Reads h en.key (flD (kV p.1)) []:=by
     have hk:=qk
     rw[<- r1.1] at hk
     rcases ef hk with⟨i,t,e1,e2⟩ | ⟨x,t,e1,e2⟩
     ·rw[e1,e2];exact .int i t
     ·rw[e1,e2];exact .str x t
    have v1:Reads h en.val (flD p.2) []:=by
     rw[qv]
     exact vW f.1 r1.2
    exact⟨.cons k1 a1,.cons v1 a2⟩
def ms (kvs:List (Key × V)):PyData:=.dict (kvs.map fun p=>(flD (kV p.1),flD p.2))
inductive ReprR (H:Hp):V->VK->Prop
 | tr {x:V} {d:PyData} {Q:VK}:Rep H x d->d.showable=true->d.hasDict=false->d.depth<=16->d.shown.length<=sizeLine->Q (.str d.shown) H->ReprR H x Q
 | dc {a:Addr} {kvs:List (Key × V)} {Q:VK}:H a=some (.dK kvs)->kvs.all (fun p=>uH p.2)=true->(ms kvs).showable=true->(ms kvs).depth<=16->(ms kvs).shown.length<=sizeLine->Q (.str (ms kvs).shown) H->ReprR H (.ref a) Q
def tK:List V->Hp->VK->Prop:=fun xs H Q=>∃x,xs=[x]/\ReprR H x Q
theorem qm (hg:X.A.guards=some []) (hu:X.A.units+64<cLine):fA X (.builtin "repr") tK:=by
 intro pins s σ H xs us Q I r h
 obtain⟨x,rfl,h⟩:=h
 cases h with
 | tr rep hs hd hdp hz q=>exact my hg hu pins s σ H _ us Q I r ⟨_,_,rfl,rep,hs,hd,hdp,hz,q⟩
 | @dc a kvs _ e f hs hdp hz q =>
  obtain⟨u,rfl,ru⟩:=fq r
  cases ru
  obtain⟨_,hsys,vs,rv,o,es,ep,h1,h2,h3,_,h5,_⟩:=(show ObjOk X.prog X.w H s.heap a (.dK kvs) from I.hok a _ e)
  obtain⟨k1,k2⟩:=oU (h:=s.heap) rv h5 f
  have rd:Reads s.heap (.ref a) (ms kvs) (a::[]++[]):=.dict h1 h2.1 h3 k1 k2
  refine repr_of_reads' rd hs (fun _ hm=>?_) hg (by omega) (fun _ _ e=>e) (fun h' u' tk hk=>⟨.str _,H,I.kept hk,⟨u',rfl⟩,q⟩) hz
  have:sysModules=a:=by simpa using hm
  rw[this] at hsys
  simp at hsys
theorem jx {P:Program}{w:World}{H:Hp}{h:Heap}(ok:HOk P w H h) {d:PyData}:∀ {xs:List V}{ds:List PyData}{us:List Value}, RepAll H xs ds -> Vals xs us -> PyData.canLayAll0 ds=true -> us.any (fun u => PyData.eqv (SeqAt.readOf h u) d)=ds.any fun e => PyData.eqv e d
 | _,_,_,.nil,r,_=>by cases r;rfl
 | _,_,_,.cons q qs,r,hl=>by
  cases r with
  | cons r1 r2 =>
   have hl':=Bool.and_eq_true_iff.mp (show (PyData.canLay0 _&&PyData.canLayAll0 _)=true from hl)
   obtain⟨as,z⟩:=q.reads ok r1
   rw[bP,bP,SeqAt.readOf_eq hl'.1 z,jx ok qs r2 hl'.2]
theorem jB {P:Program}{w:World}{H:Hp}{A:Around}{s:Shared}(ok:HOk P w H s.heap) {d:PyData}{x:V}{v:Value}{bs:List Addr}(zx:Reads s.heap v d bs) (hd:d.canLay0=true) (hu:A.units+d.depth<cLine) :
    ∀ {xs:List V} {ds:List PyData} {us:List Value},RepAll H xs ds->Vals xs us->PyData.canLayAll0 ds=true->∀u∈us,SeqAt.EqAt A s u v (PyData.eqv (SeqAt.readOf s.heap u) d)
 | _,_,_,.nil,r,_=>by cases r;intro u hu;cases hu
 | _, _, _, .cons q qs, r, hl => by
  cases r with
  | cons r1 r2 =>
   have hl':=Bool.and_eq_true_iff.mp (show (PyData.canLay0 _&&PyData.canLayAll0 _)=true from hl)
   intro u hm
   rcases am.mp hm with rfl | hm
   ·obtain⟨as,z⟩:=q.reads ok r1
    rw[SeqAt.readOf_eq hl'.1 z]
    exact SeqAt.eqAt_reads _ _ _ _ _ _ _ _ z zx hl'.1 hd (Nat.lt_of_le_of_lt (Nat.add_le_add_left (Nat.min_le_right _ _) _) hu)
   ·exact jB (x:=x) ok zx hd hu qs r2 hl'.2 u hm
def yg (neg:Bool):R2:=fun x y H Q=>∃p xs ds d,y=.ref p/\H p=some (.lst xs)/\RepAll H xs ds/\Rep H x d/\PyData.canLayAll0 ds=true/\d.canLay0=true/\d.depth<=16 /\
 Q (.bl (if neg then !(ds.any fun e=>PyData.eqv e d) else ds.any fun e=>PyData.eqv e d)) H
theorem yF (hu:X.A.units+64<cLine):OpR X (compareOp .In) (yg false):=by
 intro pins s σ H x y v u Q I rx ry h
 obtain⟨p,xs,ds,d,rfl,e,rs,r,cs,c,dp,q⟩:=h
 cases ry
 obtain⟨_,its,n,rv,eh⟩:=(show ObjOk X.prog X.w H s.heap p (.lst xs) from I.hok p _ e)
 obtain⟨bs,zx⟩:=r.reads I.hok rx
 refine SeqAt.in_listAt (fun u=>PyData.eqv (SeqAt.readOf s.heap u) d) ⟨_,eh,rfl,n,rfl⟩ (fun w hw=>jB (x:=x) I.hok zx c (by show X.A.units+1+d.depth<cLine;omega) rs rv cs w (by simpa using hw)) ⟨.bl _,H,I,rfl,?_⟩
 rw[show its.toArray.any (fun u=>PyData.eqv (SeqAt.readOf s.heap u) d)=its.any (fun u=>PyData.eqv (SeqAt.readOf s.heap u) d) by simp,jx I.hok rs rv cs]
 exact q
theorem tU (hu:X.A.units+64<cLine):OpR X (compareOp .NotIn) (yg true):=by
 intro pins s σ H x y v u Q I rx ry h
 obtain⟨p,xs,ds,d,rfl,e,rs,r,cs,c,dp,q⟩:=h
 cases ry
 obtain⟨_,its,n,rv,eh⟩:=(show ObjOk X.prog X.w H s.heap p (.lst xs) from I.hok p _ e)
 obtain⟨bs,zx⟩:=r.reads I.hok rx
 refine SeqAt.notIn_listAt (fun u=>PyData.eqv (SeqAt.readOf s.heap u) d) ⟨_,eh,rfl,n,rfl⟩ (fun w hw=>jB (x:=x) I.hok zx c (by show X.A.units+1+d.depth<cLine;omega) rs rv cs w (by simpa using hw)) ⟨.bl _,H,I,rfl,?_⟩
 rw[show its.toArray.any (fun u=>PyData.eqv (SeqAt.readOf s.heap u) d)=its.any (fun u=>PyData.eqv (SeqAt.readOf s.heap u) d) by simp,jx I.hok rs rv cs]
 exact q
end
structure Cal (P:Program) (w:World) (K:W.Frag) (mg:Str->Option Value) (base:Heap) (k:Nat) (x:Str) (ps:List Str) (sp:Sp):Prop where
 ex:∃(f:Addr) (fd:FuncData),FnOk P w K mg base CX0 k f fd ps sp/\mg x=some (.ref f)/\W.keepIn K (.ref f)=true/\Binds K fd ps []
section
variable {X:Cx}{x:Str}{ps:List Str}{sp:Sp}{k j:Nat}{p pos:Pos}{e:Expr}{es:List Expr}{t:TA}
theorem cP (c:Cal X.prog X.w X.K X.mg X.base k x ps sp) (hr:Room k X.A) (hg:Gl X x) (ha:PA X (e::es) t)
    (hs:starEach (e::es) X.env=(false,eval e X.env)::starEach es X.env:=by rfl) (hpl:(backTo pos (starEach es X.env)).any (·.1)=false:=by rfl) (hdb:(x==("__debug__":Str))=false:=by decide) :
    PE X (.Call (.Name x p) (e::es) [] pos) (qL sp [] E0 t):=by
 obtain⟨f,fd,G,mf,kp,b⟩:=c.ex
 exact qc G hr hg mf kp b .nil zF ha (hdb:=hdb) (he:=hs) (hpl:=hpl)
end
section
variable {X:Cx}
inductive AddR (H:Hp):V->V->VK->Prop
 | int {i j:Int} {Q:VK}:Q (.int (i+j)) H->AddR H (.int i) (.int j) Q
 | str {i j:Str} {Q:VK}:i.length+j.length<=sizeLine->Q (.str (i++j)) H->AddR H (.str i) (.str j) Q
 | lst {l b:Addr} {xs zs:List V} {Q:VK}:H l=some (.lst xs)->H b=some (.lst zs)->xs.length+zs.length<=sizeLine->(∀p,H p=none->Q (.ref p) (upd H p (.lst (xs++zs))))->AddR H (.ref l) (.ref b) Q
theorem dh:OpR X (binaryOp .Add) (fun x y H Q=>AddR H x y Q):=by
 intro pins s σ H x y v u Q I rx ry h
 cases h with
 | int q=>exact y1 pins s σ H _ _ v u Q I rx ry ⟨_,_,rfl,rfl,q⟩
 | str hz q=>exact re pins s σ H _ _ v u Q I rx ry ⟨_,_,rfl,rfl,hz,q⟩
 | lst h1 h2 hz q=>exact zd pins s σ H _ _ v u Q I rx ry ⟨_,_,_,_,rfl,rfl,h1,h2,hz,q⟩
inductive EqR (neg:Bool) (H:Hp):V->V->VK->Prop
 | sc {x y:V} {Q:VK}:qX x y=true->Q (.bl (if neg then !decide (x=y) else decide (x=y))) H->EqR neg H x y Q
 | tr {x y:V} {da db:PyData} {Q:VK}:Rep H x da->Rep H y db->shp da->shp db->Q (.bl (if neg then !PyData.eqv da db else PyData.eqv da db)) H->EqR neg H x y Q
theorem dO (hu:X.A.units+64<cLine):OpR X (compareOp .Eq) (fun x y H Q=>EqR false H x y Q):=by
 intro pins s σ H x y v u Q I rx ry h
 cases h with
 | sc h q=>exact zu pins s σ H _ _ v u Q I rx ry ⟨h,q⟩
 | tr ra rb sa sb q=>exact yS hu pins s σ H _ _ v u Q I rx ry ⟨_,_,ra,rb,sa,sb,q⟩
theorem ph (hu:X.A.units+64<cLine):OpR X (compareOp .NotEq) (fun x y H Q=>EqR true H x y Q):=by
 intro pins s σ H x y v u Q I rx ry h
 cases h with
 | sc h q=>exact zS pins s σ H _ _ v u Q I rx ry ⟨h,q⟩
 | tr ra rb sa sb q=>exact ye hu pins s σ H _ _ v u Q I rx ry ⟨_,_,ra,rb,sa,sb,q⟩
inductive SlX (K:W.Frag) (H:Hp):V->Option Int->Option Int->VK->Prop
 | str {z:Str} {lo hi:Option Int} {Q:VK}:z.length<=sizeLine->Q (.str (Txt.slice z lo hi)) H->SlX K H (.str z) lo hi Q
 | lst {a:Addr} {xs:List V} {lo hi:Option Int} {Q:VK}:SqL K H a xs->(∀p,H p=none->Q (.ref p) (upd H p (.lst (dA xs lo hi))))->SlX K H (.ref a) lo hi Q
theorem sl_X:SlR X (fun x lo hi H Q=>SlX X.K H x lo hi Q):=by
 intro pins s σ H x v vl vu lo hi sl Q I rx hs pl pu h
 cases h with
 | str hz q=>exact yH pins s σ H _ v vl vu lo hi sl Q I rx hs pl pu ⟨_,rfl,hz,q⟩
 | lst h1 q=>exact xr pins s σ H _ v vl vu lo hi sl Q I rx hs pl pu ⟨_,_,rfl,h1,q⟩
end
section
variable {X:Cx}
inductive CmR (f:Int->Int->Bool) (g:Str->Str->Bool) (H:Hp):V->V->VK->Prop
 | int {i j:Int} {Q:VK}:Q (.bl (f i j)) H->CmR f g H (.int i) (.int j) Q
 | str {i j:Str} {Q:VK}:Q (.bl (g i j)) H->CmR f g H (.str i) (.str j) Q
theorem jV:OpR X (compareOp .Lt) (fun x y H Q=>CmR (fun i j=>decide (i<j)) (fun i j=>decide (i.cps.toList<j.cps.toList)) H x y Q):=by
 intro pins s σ H x y v u Q I rx ry h
 cases h with
 | int q=>exact zG pins s σ H _ _ v u Q I rx ry ⟨_,_,rfl,rfl,q⟩
 | str q=>exact uh pins s σ H _ _ v u Q I rx ry ⟨_,_,rfl,rfl,q⟩
inductive IsB (neg:Bool) (H:Hp):V->V->VK->Prop
 | int {i:Int} {b:Bool} {Q:VK}:Q (.bl neg) H->IsB neg H (.int i) (.bl b) Q
 | bl {c b:Bool} {Q:VK}:Q (.bl (if neg then !decide (c=b) else decide (c=b))) H->IsB neg H (.bl c) (.bl b) Q
 | non {x:V} {Q:VK}:Q (.bl (if neg then !decide (x=.non) else decide (x=.non))) H->IsB neg H x .non Q
theorem im:OpR X (compareOp .IsNot) (fun x y H Q=>IsB true H x y Q):=by
 intro pins s σ H x y v u Q I rx ry h
 cases h with
 | int q =>
  obtain⟨t,rfl⟩:=rx
  cases ry
  exact wpAny_isNot_other (by rfl) (by intro z;cases z) ⟨.bl _,H,I,rfl,q⟩
 | @bl c b _ q =>
  cases rx
  cases ry
  exact wpAny_isNot_plain (by rfl) (dB I q (by cases c <;> cases b <;> rfl))
 | non q=>exact xF pins s σ H _ _ v u Q I rx ry ⟨rfl,q⟩
theorem kh:OpR X (compareOp .Is) (fun x y H Q=>IsB false H x y Q):=by
 intro pins s σ H x y v u Q I rx ry h
 cases h with
 | int q =>
  obtain⟨t,rfl⟩:=rx
  cases ry
  exact wpAny_is_other (by rfl) (by intro z;cases z) ⟨.bl _,H,I,rfl,q⟩
 | @bl c b _ q =>
  cases rx
  cases ry
  exact wpAny_is_plain (by rfl) (dB I q (by cases c <;> cases b <;> rfl))
 | non q=>exact yz pins s σ H _ _ v u Q I rx ry ⟨rfl,q⟩
theorem x0 (K:W.Frag) {o e:Expr}{to:TE}{t:TA}{apos cpos:Pos}(ho:PE X o to) (ha:PA X [e] t)
    (hbase:attributeBase o "join" X.env (eval o X.env)=eval o X.env:=by rfl)
    (hfew:((backTo cpos (starEach [e] X.env)).all (fun x=>!x.1)&&(backToKw cpos (keywordEach [] X.env)).all (fun x=>x.1.isSome)
     && decide ([e].length+([]:List Keyword).length+(if ([]:List Keyword).isEmpty then 0 else 1)<30))=true:=by rfl)
    (hline:(apos.endLine==cpos.line)=true:=by rfl) (hs:starEach [e] X.env=(false,eval e X.env)::starEach [] X.env:=by rfl) (hplain:(backTo cpos (starEach [] X.env)).any (·.1)=false:=by rfl) (hK:X.K=K:=by rfl) :
    PE X (.Call (.Attribute o "join" apos) [e] [] cpos) (tBM K "str" wE to t):=hK ▸ rF PySem.F.plainAttrs_str PySem.F.slot_str_join PySem.F.type_str_join xq ho ha hbase hfew hline hs hplain
theorem fZ (K:W.Frag) {o e:Expr}{to:TE}{t:TA}{apos cpos:Pos}(ho:PE X o to) (ha:PA X [e] t)
    (hbase:attributeBase o "append" X.env (eval o X.env)=eval o X.env:=by rfl)
    (hfew:((backTo cpos (starEach [e] X.env)).all (fun x=>!x.1)&&(backToKw cpos (keywordEach [] X.env)).all (fun x=>x.1.isSome)
     && decide ([e].length+([]:List Keyword).length+(if ([]:List Keyword).isEmpty then 0 else 1)<30))=true:=by rfl)
    (hline:(apos.endLine==cpos.line)=true:=by rfl) (hs:starEach [e] X.env=(false,eval e X.env)::starEach [] X.env:=by rfl) (hplain:(backTo cpos (starEach [] X.env)).any (·.1)=false:=by rfl) (hK:X.K=K:=by rfl) :
    PE X (.Call (.Attribute o "append" apos) [e] [] cpos) (tBM K "list" qg to t):=hK ▸ rF PySem.F.plainAttrs_list PySem.F.slot_list_append PySem.F.type_list_append m9 ho ha hbase hfew hline hs hplain
theorem i8 (K:W.Frag) (hK:X.K=K:=by rfl):SlR X (fun x lo hi H Q=>SlX K H x lo hi Q):=hK ▸ sl_X
theorem dI (K:W.Frag) {tg l:Expr}{tl:TE}(hl:PE X l tl) (hK:X.K=K:=by rfl):PI X tg l (wz K tl):=hK ▸ xu hl
theorem ei (K:W.Frag) {tg l:Expr}{tl:TE}(hl:PE X l tl) (hK:X.K=K:=by rfl):PI X tg l (yw K tl):=hK ▸ yT hl
end
theorem gK {i:Nat}{v:V}{σ:St}{H:Hp}{A B:St->Hp->Prop}(h:A (σ.set i (some v)) H):kH i v σ H fun σ2 H3=>uJ σ2 H3 fun b H4=>if b=true then A σ2 H4 else B σ2 H4:=by
 show (if true=true then A (σ.set i (some v)) H else B (σ.set i (some v)) H)
 rw[if_pos rfl]
 exact h
section
variable {K:W.Frag}{k:Nat}{fr:List Nat}{g:TG}{tc:TT}{te:TE}{σ:St}{H1:Hp}{Q:VK}
theorem ir {J:It}(xs:List V) (Ok:Hp -> Prop) (hgo:∀i H, Ok H -> i<xs.length -> J.go i H) (hyl:∀i H x H', Ok H -> i<xs.length -> J.yld i H x H' -> H'=H /\ xs[i]? = some x) (hst:∀H, Ok H -> J.stop xs.length H)
    (Pv:Addr->Nat->List V->St->Hp->Prop)
    (h:∀D,H1 D=none->Pv D 0 [] (iK k fr σ) (upd H1 D (.lst []))/\(∀i acc σ' H',i<=xs.length->Pv D i acc σ' H'->H' D=some (.lst acc)->Ok H') /\
     (∀i acc σ' H' x,xs[i]? = some x->Pv D i acc σ' H'->H' D=some (.lst acc)->g x σ' H' fun σ2 H3=>tc σ2 H3 fun b H4 =>
      if b=true then te σ2 H4 fun y H5=>H5 D=some (.lst acc)/\acc.length<sizeLine/\Pv D (i+1) (acc++[y]) σ2 (upd H5 D (.lst (acc++[y]))) else H4 D=some (.lst acc)/\Pv D (i+1) acc σ2 H4) /\
     ∀acc σ' H',Pv D xs.length acc σ' H'->H' D=some (.lst acc)->Q (.ref D) H'):iN k fr g tc te J σ H1 Q:=by
 intro D hD
 obtain⟨h0,hok,hs,hd⟩:=h D hD
 refine⟨fun i m acc σ' H'=>m=xs.length-i/\i<=xs.length/\Pv D i acc σ' H',⟨xs.length,by simp,aT _,h0⟩,?_⟩
 rintro i m acc σ' H' ⟨rfl,hi,p⟩ hacc
 have ok:=hok i acc σ' H' hi p hacc
 by_cases hlt:i<xs.length
 ·refine .inr ⟨hgo i H' ok hlt,Pv D (i+1),fun acc' σ2 H2 p'=>⟨xs.length-(i+1),by omega,rfl,hlt,p'⟩,fun x H2 y=>?_⟩
  obtain⟨e,hx⟩:=hyl i H' x H2 ok hlt y
  subst e
  exact hs i acc σ' H2 x hx p hacc
 ·have e:i=xs.length:=by omega
  subst e
  exact .inl ⟨hst H' ok,hd acc σ' H' p hacc⟩
def hG (n:Nat):List V:=(List.range n).map fun i=>V.int (0+(i:Nat))
theorem jv {n:Nat}(Pv:Addr -> Nat -> List V -> St -> Hp -> Prop)
    (h:∀D,H1 D=none->Pv D 0 [] (iK k fr σ) (upd H1 D (.lst [])) /\
     (∀i acc σ' H',i<n->Pv D i acc σ' H'->H' D=some (.lst acc)->g (.int (0+(i:Nat))) σ' H' fun σ2 H3=>tc σ2 H3 fun b H4 =>
      if b=true then te σ2 H4 fun y H5=>H5 D=some (.lst acc)/\acc.length<sizeLine/\Pv D (i+1) (acc++[y]) σ2 (upd H5 D (.lst (acc++[y]))) else H4 D=some (.lst acc)/\Pv D (i+1) acc σ2 H4) /\
     ∀acc σ' H',Pv D n acc σ' H'->H' D=some (.lst acc)->Q (.ref D) H'):iN k fr g tc te (Itr 0 n) σ H1 Q:=by
 have hl:(hG n).length=n:=by simp[hG]
 refine ir (hG n) (fun _=>True) (fun i H _ hi=>by rw[hl] at hi;exact hi) (fun i H x H' _ hi y=>⟨y.1,?_⟩) (fun H _=>by show n<=(hG n).length;rw[hl];exact ad _) Pv fun D hD=>?_
 ·rw[hl] at hi
  rw[y.2]
  simp[hG,hi]
 ·obtain⟨a,b,c⟩:=h D hD
  refine⟨a,fun _ _ _ _ _ _ _=>trivial,fun i acc σ' H' x hx p hacc=>?_,by rw[hl];exact c⟩
  have hi:i<n:=by rw[<- hl];exact(ai.mp hx).1
  have e:x=V.int (0+(i:Nat)):=by
   simp[hG,hi] at hx
   rw[<- hx];simp
  subst e
  exact b i acc σ' H' hi p hacc
theorem fg {a:Addr}(xs:List V) (Pv:Addr -> Nat -> List V -> St -> Hp -> Prop)
    (h:∀D,H1 D=none->Pv D 0 [] (iK k fr σ) (upd H1 D (.lst []))/\(∀i acc σ' H',i<=xs.length->Pv D i acc σ' H'->H' D=some (.lst acc)->SqL K H' a xs) /\
     (∀i acc σ' H' x,xs[i]? = some x->Pv D i acc σ' H'->H' D=some (.lst acc)->g x σ' H' fun σ2 H3=>tc σ2 H3 fun b H4 =>
      if b=true then te σ2 H4 fun y H5=>H5 D=some (.lst acc)/\acc.length<sizeLine/\Pv D (i+1) (acc++[y]) σ2 (upd H5 D (.lst (acc++[y]))) else H4 D=some (.lst acc)/\Pv D (i+1) acc σ2 H4) /\
     ∀acc σ' H',Pv D xs.length acc σ' H'->H' D=some (.lst acc)->Q (.ref D) H'):iN k fr g tc te (Itl K a) σ H1 Q :=
 ir xs (fun H=>SqL K H a xs) (fun i H q hi=>⟨xs,xs[i],q,by simp[hi]⟩) (fun i H x H' q hi y=>⟨y.1,y.2 xs q⟩) (fun H q=>⟨xs,q,ad _⟩) Pv h
theorem gi {a:Addr}(xs:List V) (Pv:Addr -> Nat -> List V -> St -> Hp -> Prop)
    (h:∀D,H1 D=none->Pv D 0 [] (iK k fr σ) (upd H1 D (.lst []))/\(∀i acc σ' H',i<=xs.length->Pv D i acc σ' H'->H' D=some (.lst acc)->SqT K H' a xs) /\
     (∀i acc σ' H' x,xs[i]? = some x->Pv D i acc σ' H'->H' D=some (.lst acc)->g x σ' H' fun σ2 H3=>tc σ2 H3 fun b H4 =>
      if b=true then te σ2 H4 fun y H5=>H5 D=some (.lst acc)/\acc.length<sizeLine/\Pv D (i+1) (acc++[y]) σ2 (upd H5 D (.lst (acc++[y]))) else H4 D=some (.lst acc)/\Pv D (i+1) acc σ2 H4) /\
     ∀acc σ' H',Pv D xs.length acc σ' H'->H' D=some (.lst acc)->Q (.ref D) H'):iN k fr g tc te (Itt K a) σ H1 Q :=
 ir xs (fun H=>SqT K H a xs) (fun i H q hi=>⟨xs,xs[i],q,by simp[hi]⟩) (fun i H x H' q hi y=>⟨y.1,y.2 xs q⟩) (fun H q=>⟨xs,q,ad _⟩) Pv h
end
def But (p:Addr) (H H':Hp):Prop:=∀b o,b≠p->H b=some o->H' b=some o
theorem But.refl (p:Addr) (H:Hp):But p H H:=fun _ _ _ h=>h
theorem But.trans {p:Addr}{H H1 H2:Hp}(a:But p H H1) (b:But p H1 H2):But p H H2:=fun c o n h=>b c o n (a c o n h)
theorem But.upd {p:Addr}{H:Hp}{o:HO}:But p H (upd H p o):=fun b o' n h=>by rw[cH n];exact h
theorem But.of_same {p:Addr}{H H':Hp}(s:Same H H'):But p H H':=fun b o _ h=>s b o h
theorem Same.new {H:Hp}{p:Addr}{o:HO}(h:H p=none):Same H (upd H p o):=fun b o' e=>by rw[cH (cL e h)];exact e
theorem Rd.but {p:Addr}{H H':Hp}(b:But p H H') {a:Addr}{u:HO}(n:a≠p) (h:Rd H a u):Rd H' a u:=by
 rcases h with h | ⟨o,h⟩
 ·exact .inl (b _ _ n h)
 ·exact .inr ⟨o,b _ _ n h⟩
theorem SqL.but {K:W.Frag}{p:Addr}{H H':Hp}(b:But p H H') {a:Addr}{xs:List V}(n:a≠p) (h:SqL K H a xs):SqL K H' a xs:=by
 rcases h with h | h
 ·exact .inl (h.but b n)
 ·exact .inr h
structure Blt (mg:Str->Option Value):Prop where
 len:mg "len"=none
 range:mg "range"=none
 abs:mg "abs"=none
 all:mg "all"=none
 repr:mg "repr"=none
 isinstance:mg "isinstance"=none
 str:mg "str"=none
 int:mg "int"=none
 bool:mg "bool"=none
 enumerate:mg "enumerate"=none
 list:mg "list"=none
 tuple:mg "tuple"=none
 dict:mg "dict"=none
 min:mg "min"=none
 max:mg "max"=none
section
variable {X:Cx}{p pos:Pos}{e f:Expr}{t:TA}
def rLen (K:W.Frag):List V->Hp->VK->Prop:=fun xs H Q=>∃x n,xs=[x]/\vH K x H n/\Q (.int n) H
def rAbs:List V->Hp->VK->Prop:=fun xs H Q=>∃i,xs=[.int i]/\Q (.int (if i<0 then -i else i)) H
def rAll:List V->Hp->VK->Prop:=fun xs H Q=>∃p bs,xs=[.ref p]/\H p=some (.lst (List.map V.bl bs))/\Q (.bl (bs.all id)) H
theorem eY (K:W.Frag) (B:Blt X.mg) (ha:PA X [e] t) (hg:Gl X "len":=by rfl) (he:starEach [e] X.env=(false,eval e X.env)::starEach [] X.env:=by rfl) (hpl:(backTo pos (starEach [] X.env)).any (·.1)=false:=by rfl) (hK:X.K=K:=by rfl):PE X (.Call (.Name "len" p) [e] [] pos) (tCB (rLen K) t) :=
 hK ▸ eW vM hg B.len PySem.boot_len ha (by decide) (by decide) he hpl
theorem qH (B:Blt X.mg) (ha:PA X [e] t) (hg:Gl X "abs":=by rfl) (he:starEach [e] X.env=(false,eval e X.env)::starEach [] X.env:=by rfl) (hpl:(backTo pos (starEach [] X.env)).any (·.1)=false:=by rfl):PE X (.Call (.Name "abs" p) [e] [] pos) (tCB rAbs t) :=
 eW vV hg B.abs boot_abs ha (by decide) (by decide) he hpl
theorem lK (hc:X.calm=true) (B:Blt X.mg) (ha:PA X [e] t) (hg:Gl X "all":=by rfl) (he:starEach [e] X.env=(false,eval e X.env)::starEach [] X.env:=by rfl) (hpl:(backTo pos (starEach [] X.env)).any (·.1)=false:=by rfl):PE X (.Call (.Name "all" p) [e] [] pos) (tCB rAll t) :=
 eW (pj hc) hg B.all boot_all ha (by decide) (by decide) he hpl
theorem sZ (gd:X.A.guards=some []) (hu:X.A.units+64<cLine) (B:Blt X.mg) (ha:PA X [e] t) (hg:Gl X "repr":=by rfl) (he:starEach [e] X.env=(false,eval e X.env)::starEach [] X.env:=by rfl) (hpl:(backTo pos (starEach [] X.env)).any (·.1)=false:=by rfl):PE X (.Call (.Name "repr" p) [e] [] pos) (tCB tK t) :=
 eW (qm gd hu) hg B.repr boot_repr ha (by decide) (by decide) he hpl
theorem nU (K:W.Frag) (c:String) (B:Blt X.mg) (ha:PA X [e,f] t) (hg:Gl X "isinstance":=by rfl) (he:starEach [e,f] X.env=(false,eval e X.env)::starEach [f] X.env:=by rfl) (hpl:(backTo pos (starEach [f] X.env)).any (·.1)=false:=by rfl) (hK:X.K=K:=by rfl):PE X (.Call (.Name "isinstance" p) [e,f] [] pos) (tCB (yn K c) t) :=
 hK ▸ eW (vD c) hg B.isinstance boot_isinstance ha (by decide) (by decide) he hpl
theorem wj (B:Blt X.mg) (hg:Gl X "int":=by rfl):PE X (.Name "int" p) (tC (.ty "int")):=i9 hg B.int PyProof.Rows.boot_int rfl
theorem uz (B:Blt X.mg) (hg:Gl X "bool":=by rfl):PE X (.Name "bool" p) (tC (.ty "bool")):=i9 hg B.bool PyProof.Rows.boot_bool rfl
theorem pc (B:Blt X.mg) (hg:Gl X "list":=by rfl):PE X (.Name "list" p) (tC (.ty "list")):=i9 hg B.list (show bootBuiltins "list"=some (.type "list") by decide +kernel) rfl
end
end L2
namespace L2
open PySem PySem.Spec PyProof.Rows PySem.Builtin PySem.Builtin.Str
def Asc (z:Str):Prop:=∀c∈z.cps.toList,c<128
theorem gA (x y:Str):(x++y).length=x.length+y.length:=by
 show (x.cps++y.cps).size=x.cps.size+y.cps.size
 rw[Array.size_append]
theorem vy (sep:Str) (ys:List Str):(Txt.join sep ys).length<=(ys.map (·.length)).sum+ys.length * sep.length:=by
 unfold Txt.join
 rw[size_glued]
 exact Nat.add_le_add_left (Nat.mul_le_mul_right _ (Nat.sub_le _ _)) _
theorem yW {ys:List Str}{n:Nat}(h:∀y∈ys,y.length<=n):(ys.map (·.length)).sum<=ys.length * n:=by
 induction ys with
 | nil=>simp
 | cons y r ih =>
  have h1:=h y (by simp)
  have h2:=ih fun z hz=>h z (aM _ hz)
  simp only[aZ,List.sum_cons,aN]
  rw[Nat.succ_mul]
  omega
theorem zr {α:Type}{xs:List α}{j:Int}(h0:0<=j) (h1:j<xs.length):∃v,atI xs j=some v/\v∈xs:=by
 obtain⟨k,rfl⟩:=bf h0
 have hk:k<xs.length:=by omega
 exact⟨xs[k],gy (by simp[hk]),bU hk⟩
theorem yJ {ns:List Int}{j:Int}(h0:0<=j) (h1:j<(ns.map V.int).length):∃c,atI (ns.map V.int) j=some (.int c):=by
 obtain⟨v,e,m⟩:=zr h0 h1
 obtain⟨c,_,rfl⟩:=aq.mp m
 exact⟨c,e⟩
theorem nF (x:Int):-(2 ^ 64)<x % 2147483647/\x % 2147483647<2 ^ 64:=by
 have h1:=bi x (show (2147483647:Int)≠0 by decide)
 have h2:=br x (show (0:Int)<2147483647 by decide)
 omega
def PenV (H:Hp) (p a:Addr):Prop:=∃(i n:Int),H p=some (.lst [.ref a,.int i,.int n])/\0<=i/\0<=n
def Pen (K:W.Frag) (H:Hp) (p a:Addr):Prop:=(∃ns:List Int,∀H',But p H H'->SqL K H' a (ns.map V.int))/\PenV H p a
theorem Pen.but {K:W.Frag}{H H':Hp}{p a:Addr}(h:Pen K H p a) (b:But p H H') (v:PenV H' p a):Pen K H' p a:=⟨let ⟨ns,q⟩:=h.1;⟨ns,fun H2 b2=>q H2 (b.trans b2)⟩,v⟩
theorem Pen.new {K:W.Frag}{H:Hp}{p a:Addr}{ns:List Int}{o:HO}(h:SqL K H a (ns.map V.int)) (hp:H p=none) (v:PenV (upd H p o) p a):Pen K (upd H p o) p a := by
 refine⟨⟨ns,fun H' b=>?_⟩,v⟩
 rcases h with h | h
 ·have n:a≠p:=by
     rcases h with h | ⟨ob,h⟩
     ·exact cL h hp
     ·exact cL h hp
  have s:Same H (upd H p o):=Same.new hp
  exact SqL.but (fun c o' n' e=>b c o' n' (s c o' e)) n (.inl h)
 ·exact .inr h
theorem PenV.upd {H:Hp}{p a D:Addr}{o:HO}(h:PenV H p a) (n:p≠D):PenV (L2.upd H D o) p a:=let ⟨i,m,e,q⟩:=h;⟨i,m,by rw[cH n];exact e,q⟩
theorem PenV.ne {H:Hp}{p a D:Addr}(h:PenV H p a) (e:H D=none):p≠D:=let ⟨_,_,q,_⟩:=h;cL q e
theorem But.at {p D:Addr}{H H':Hp}{o:HO}(b:But p H H') (hD:H D=none):But p H (L2.upd H' D o):=fun c o' n h=>by rw[cH (cL h hD)];exact b c o' n h
theorem But.of_eq {p:Addr}{H H':Hp}(h:∀b,b≠p->H' b=H b):But p H H':=fun b o n e=>(h b n).trans e
theorem But.free {p D:Addr}{H H':Hp}(b:But p H H') (n:D≠p) (h:H' D=none):H D=none:=by
 cases e:H D with
 | none=>rfl
 | some o=>rw[b D o n e] at h;cases h
def iq (K:W.Frag):Sp:=fun vs H Q _=>∃(p a:Addr) (m:Int),vs=[.ref p,.int m]/\Pen K H p a/\0<m/\m<1073741824/\∀r H',0<=r->r<m->PenV H' p a->(∀b,b≠p->H' b=H b)->Q (.int r) H'
end L2
namespace L2
open PySem PySem.Spec PyProof.Rows
section
variable {X:Cx}
inductive InR (K:W.Frag) (neg:Bool) (H:Hp):V -> V -> VK -> Prop
 | dic {a:Addr} {y:V} {o:Option V} {Q:VK}:DGet H a y o->Q (.bl (if neg then !o.isSome else o.isSome)) H->InR K neg H y (.ref a) Q
 | seq {p:Addr} {x:V} {xs:List V} {Q:VK}:(SqL K H p xs∨SqT K H p xs)->hX x=true->xs.all hX=true->Q (.bl (if neg then !inV x xs else inV x xs)) H->InR K neg H x (.ref p) Q
 | tr {p:Addr} {x:V} {xs:List V} {ds:List PyData} {d:PyData} {Q:VK}:H p=some (.lst xs)->RepAll H xs ds->Rep H x d->PyData.canLayAll0 ds=true->d.canLay0=true->d.depth<=16 ->
     Q (.bl (if neg then !(ds.any fun e=>PyData.eqv e d) else ds.any fun e=>PyData.eqv e d)) H->InR K neg H x (.ref p) Q
theorem jk (K:W.Frag) (hu:X.A.units+64<cLine) (hK:X.K=K:=by rfl):OpR X (compareOp .In) (fun x y H Q=>InR K false H x y Q):=by
 subst hK
 intro pins s σ H x y v u Q I rx ry h
 cases h with
 | dic g q =>
  cases ry
  exact d_in (by omega) I g rx fun s' I'=>⟨.bl _,H,I',rfl,q⟩
 | seq hq fx fs q=>exact ui pins s σ H _ _ v u Q I rx ry ⟨_,_,rfl,hq,fx,fs,q⟩
 | tr e rs r cs c dp q=>exact yF hu pins s σ H _ _ v u Q I rx ry ⟨_,_,_,_,rfl,e,rs,r,cs,c,dp,q⟩
theorem ia (K:W.Frag) (hu:X.A.units+64<cLine) (hK:X.K=K:=by rfl):OpR X (compareOp .NotIn) (fun x y H Q=>InR K true H x y Q):=by
 subst hK
 intro pins s σ H x y v u Q I rx ry h
 cases h with
 | dic g q =>
  cases ry
  exact xK (by omega) I g rx fun s' I'=>⟨.bl _,H,I',rfl,q⟩
 | seq hq fx fs q=>exact oN pins s σ H _ _ v u Q I rx ry ⟨_,_,rfl,hq,fx,fs,q⟩
 | tr e rs r cs c dp q=>exact tU hu pins s σ H _ _ v u Q I rx ry ⟨_,_,_,_,rfl,e,rs,r,cs,c,dp,q⟩
inductive IxX (K:W.Frag) (H:Hp):V->V->VK->Prop
 | lst {p:Addr} {xs:List V} {i:Int} {v:V} {Q:VK}:SqL K H p xs->atI xs i=some v->Q v H->IxX K H (.ref p) (.int i) Q
 | tup {p:Addr} {xs:List V} {i:Int} {v:V} {Q:VK}:SqT K H p xs->atI xs i=some v->Q v H->IxX K H (.ref p) (.int i) Q
 | str {z:Str} {i:Int} {c:Nat} {Q:VK}:z.length<=sizeLine->atI z.cps.toList i=some c->Q (.str ⟨#[c]⟩) H->IxX K H (.str z) (.int i) Q
 | dic {a:Addr} {y v:V} {Q:VK}:DGet H a y (some v)->Q v H->IxX K H (.ref a) y Q
theorem cX (K:W.Frag) (hu:X.A.units+64<cLine) (hK:X.K=K:=by rfl):IxR X (fun x y H Q=>IxX K H x y Q):=by
 subst hK
 intro value slice pins s σ H x y v u Q I rx ry h hs
 cases h with
 | lst hq e q=>exact xJ value slice pins s σ H _ _ v u Q I rx ry ⟨_,_,_,_,rfl,rfl,hq,e,q⟩ hs
 | tup hq e q=>exact y8 value slice pins s σ H _ _ v u Q I rx ry ⟨_,_,_,_,rfl,rfl,hq,e,q⟩ hs
 | str hz e q=>exact y9 value slice pins s σ H _ _ v u Q I rx ry ⟨_,_,_,rfl,rfl,hz,e,q⟩ hs
 | dic g q =>
  cases rx
  exact tail_any (pD I g) PySem.F.slot_dict_getitem.lookup (uq (by omega) I g ry fun w' s3 I3 rw'=>⟨_,H,I3,rw',q⟩) hs
inductive SetX (H:Hp):V->V->V->(Hp->Prop)->Prop
 | lst {p:Addr} {xs:List V} {k:Int} {j:Nat} {v:V} {Q:Hp->Prop}:H p=some (.lst xs)->ixN xs.length k=some j->Q (upd H p (.lst (xs.set j v)))->SetX H (.ref p) (.int k) v Q
 | dic {a:Addr} {y v:V} {H':Hp} {Q:Hp->Prop}:DPut H a y v H'->Q H'->SetX H (.ref a) y v Q
theorem fP (hu:X.A.units+64<cLine):uS X (fun o i v H Q=>SetX H o i v Q):=by
 intro pins s σ H o i v ov iv u Q I ro ri rv h
 cases h with
 | lst e ej q=>exact vn pins s σ H _ _ _ ov iv u Q I ro ri rv ⟨_,_,_,_,rfl,rfl,e,ej,q⟩
 | dic g q =>
  cases ro
  exact tz (by omega) I g ri rv fun s4 I4=>⟨_,I4,q⟩
theorem gH (K:W.Frag) {es:List Expr}{k:Nat}{pos:Pos}{t:TGs}{n:Nat}(hc:X.calm=true) (h:PGs X es t)
    (hn:(assignEach es X.env).length=n:=by rfl) (hst:(assignEach es X.env).findIdx? (·.1)=none:=by rfl) (hK:X.K=K:=by rfl):PG X (.Tuple es k pos) (vU K n t):=hK ▸ xY hc h hn hst
variable {p pos p2 pos2:Pos}{e f:Expr}{t:TA}
end
section
variable {X:Cx}{p pos p2 pos2:Pos}{e f:Expr}{t:TA}
def wp (K:W.Frag):List V->Hp->VK->Prop:=fun xs H Q=>∃a ys,xs=[.ref a]/\SqL K H a ys/\∀l,H l=none->Q (.ref l) (upd H l (.tup ys))
theorem iC (K:W.Frag) (B:Blt X.mg) (ha:PA X [e] t) (hg:Gl X "tuple":=by rfl) (he:starEach [e] X.env=(false,eval e X.env)::starEach [] X.env:=by rfl) (hpl:(backTo pos (starEach [] X.env)).any (·.1)=false:=by rfl) (hK:X.K=K:=by rfl) :
    PE X (.Call (.Name "tuple" p) [e] [] pos) (tCB (wp K) t):=by
 subst hK
 refine h8 (r:=wp X.K) (fun pins s σ H xs us Q I r h=>?_) hg B.tuple (show bootBuiltins "tuple"=some (.type "tuple") by decide +kernel) ha (by decide) (by decide) he hpl
 obtain⟨a,ys,rfl,hq,q⟩:=h
 exact nM pins s σ H _ us Q I r ⟨a,ys,rfl,.inl ⟨hq,q⟩⟩
inductive LstR (K:W.Frag) (H:Hp):V->VK->Prop
 | seq {a:Addr} {ys:List V} {Q:VK}:(SqL K H a ys∨SqT K H a ys)->(∀l,H l=none->Q (.ref l) (upd H l (.lst ys)))->LstR K H (.ref a) Q
 | rng {a:Addr} {n:Nat} {Q:VK}:H a=some (.rng 0 (n:Int))->n<=1000->(∀l,H l=none->Q (.ref l) (upd H l (.lst (hG n))))->LstR K H (.ref a) Q
def yf (K:W.Frag):List V->Hp->VK->Prop:=fun xs H Q=>∃x,xs=[x]/\LstR K H x Q
theorem uE {n:Nat}{its:List Value}(hl:its.length=n) (h:∀i v, its[i]? = some v -> ∃t, v=Value.int (0+(i:Nat) * 1) t):Vals (hG n) its := by
 subst hl
 have key:∀(its:List Value) (k:Nat), (∀i v, its[i]? = some v -> ∃t, v=Value.int (0+((k+i:Nat):Int)) t) -> Vals ((List.range' k its.length).map fun i => V.int (0+(i:Nat))) its := by
  intro its
  induction its with
  | nil=>intro k _;exact .nil
  | cons u r ih =>
   intro k h
   rw[aN,List.range'_succ,aZ]
   refine .cons ?_ (ih (k+1) fun i v e=>?_)
   ·obtain⟨t,e⟩:=h 0 u rfl
    exact⟨t,by rw[e,Nat.add_zero]⟩
   ·obtain⟨t,e'⟩:=h (i+1) v (by simpa using e)
    exact⟨t,by rw[e',show ((k+(i+1):Nat):Int)=((k+1+i:Nat):Int) by omega]⟩
 have:=key its 0 fun i v e=>by
  obtain⟨t,e'⟩:=h i v e
  exact⟨t,by rw[e',Int.mul_one,Nat.zero_add]⟩
 rw[hG,List.range_eq_range']
 exact this
theorem sV (K:W.Frag) (hc:X.calm=true) (B:Blt X.mg) (ha:PA X [e] t) (hg:Gl X "list":=by rfl) (he:starEach [e] X.env=(false,eval e X.env)::starEach [] X.env:=by rfl) (hpl:(backTo pos (starEach [] X.env)).any (·.1)=false:=by rfl) (hK:X.K=K:=by rfl) :
    PE X (.Call (.Name "list" p) [e] [] pos) (tCB (yf K) t):=by
 subst hK
 refine h8 (r:=yf X.K) (fun pins s σ H xs us Q I r h=>?_) hg B.list (show bootBuiltins "list"=some (.type "list") by decide +kernel) ha (by decide) (by decide) he hpl
 obtain⟨x,rfl,h⟩:=h
 cases h with
 | seq hq q=>exact pd pins s σ H _ us Q I r ⟨_,_,rfl,hq,q⟩
 | @rng a n _ ea hn q =>
  obtain⟨u,rfl,ru⟩:=fq r
  cases ru
  obtain⟨t1,t2,t3,eh⟩:=(show ObjOk X.prog X.w H s.heap a (.rng 0 (n:Int)) from I.hok a _ ea)
  refine call_list_range (n:=n) (I.ok.hd hc) eh (small_one (by decide) (by decide) (by omega) (by omega)) (by rw[rangeSize_one];split <;> omega) (by omega) fun h' tk acc' c' hk hl hi=>?_
  have hv:Vals (hG n) acc'.toList:=uE (by simpa using hi.1) fun i v e=>hi.2 i v (by simpa using e)
  refine⟨.ref _,_,I.laid (o:=.lst (hG n)) hk (ad _) ⟨?_,acc'.toList,c',hv,by simpa using hl⟩,rfl,q _ (I.hok.fresh (ad _))⟩
  have:(hG n).length=n:=by simp[hG]
  rw[this]
  exact aS (cN hn)
theorem zP (hc:X.calm=true) (B:Blt X.mg) (ha:PA X [e,f] t) (hg:Gl X "min":=by rfl) (he:starEach [e,f] X.env=(false,eval e X.env)::starEach [f] X.env:=by rfl) (hpl:(backTo pos (starEach [f] X.env)).any (·.1)=false:=by rfl) :
    PE X (.Call (.Name "min" p) [e,f] [] pos) (tCB (fun xs H Q=>∃i j,xs=[.int i,.int j]/\Q (.int (if j<i then j else i)) H) t) :=
 eW (uc hc) hg B.min (show bootBuiltins "min"=some (.builtin "min") by decide +kernel) ha (by decide) (by decide) he hpl
theorem zq (hc:X.calm=true) (B:Blt X.mg) (ha:PA X [e,f] t) (hg:Gl X "max":=by rfl) (he:starEach [e,f] X.env=(false,eval e X.env)::starEach [f] X.env:=by rfl) (hpl:(backTo pos (starEach [f] X.env)).any (·.1)=false:=by rfl) :
    PE X (.Call (.Name "max" p) [e,f] [] pos) (tCB (fun xs H Q=>∃i j,xs=[.int i,.int j]/\Q (.int (if j > i then j else i)) H) t) :=
 eW (tT hc) hg B.max (show bootBuiltins "max"=some (.builtin "max") by decide +kernel) ha (by decide) (by decide) he hpl
theorem y0 {its:List Value}{u:Value}{k:Nat}{x:Int}(hx:x=(k:Int)) (hk:k<=its.length) :
    (fun xs:Array Value=>have k:=if x<0 then (x+(xs.size:Int)).toNat else min x.toNat xs.size;(xs.extract 0 k).push u++xs.extract k) its.toArray=(its.take k++u::its.drop k).toArray:=by
 subst hx
 simp only[aK]
 rw[if_neg (by omega),bH,Nat.min_eq_left hk]
 simp[List.extract_eq_drop_take]
 exact aB (by rw[bO];omega)
def pO:V->List V->Hp->VK->Prop:=fun x vs H Q=>∃l xs i k y,x=.ref l/\vs=[.int i,y]/\i=((k:Nat):Int)/\H l=some (.lst xs)/\k<=xs.length/\xs.length<sizeLine/\Q .non (upd H l (.lst (xs.take k++y::xs.drop k)))
theorem sX:MtR X "list.insert" pO:=by
 intro pins s σ H x vs v us Q I rx rv h
 obtain⟨l,xs,i,k,y,rfl,rfl,hi,hH,hk,hz,q⟩:=h
 cases rx
 obtain⟨u1,u2,rfl,r1,r2⟩:=hU rv
 obtain⟨t,rfl⟩:=r1
 obtain⟨z,its,n,r,hl,e⟩:=I.lstM hH
 have hs:its.length<=sizeLine:=by omega
 have hfit:Builtin.List.listFitsIndex i=true:=by
  have h1:i<2 ^ 63:=by have:=je;omega
  exact fitsIndex_both (by omega) h1
 have ME:=PySem.AutoSeq1.list_insert_list_int_val_1 l its.toArray n i t u2 (by simp[hfit]) (by rw[aK];exact hs)
 refine call_meets F.slot_list_insert ⟨_,e,rfl⟩ F.entry_list_insert (F.args_list_insert_3 _ _ _) ME ⟨e,?_⟩
 refine⟨.non,_,I.lset (its':=its.take k++u2::its.drop k) hH e (y0 hi (by omega)) (Vals.append (r.take k) (.cons r2 (r.drop k))) ?_,rfl,q⟩
 simp only[az,aN,aF,bO]
 omega
theorem oR (K:W.Frag) {o e f:Expr}{to:TE}{t:TA}{apos cpos:Pos}(ho:PE X o to) (ha:PA X [e, f] t)
    (hbase:attributeBase o "insert" X.env (eval o X.env)=eval o X.env:=by rfl)
    (hfew:((backTo cpos (starEach [e,f] X.env)).all (fun x=>!x.1)&&(backToKw cpos (keywordEach [] X.env)).all (fun x=>x.1.isSome)
     && decide ([e,f].length+([]:List Keyword).length+(if ([]:List Keyword).isEmpty then 0 else 1)<30))=true:=by rfl)
    (hline:(apos.endLine==cpos.line)=true:=by rfl) (hs:starEach [e,f] X.env=(false,eval e X.env)::starEach [f] X.env:=by rfl) (hplain:(backTo cpos (starEach [f] X.env)).any (·.1)=false:=by rfl) (hK:X.K=K:=by rfl) :
    PE X (.Call (.Attribute o "insert" apos) [e,f] [] cpos) (tBM K "list" pO to t):=hK ▸ rF PySem.F.plainAttrs_list PySem.F.slot_list_insert PySem.F.type_list_insert sX ho ha hbase hfew hline hs hplain
end
def Nm (s:Str):Prop:=1<=s.length/\s.length<=8/\∀c∈s.cps.toList,97<=c/\c<=122
theorem Nm.asc {s:Str}(h:Nm s):Asc s:=fun c hc=>by have:=h.2.2 c hc;omega
def fh (e:Nat × Nat):PyData:=.tuple [.int e.1,.int e.2]
def er (e:Str × Str):PyData:=.tuple [.str e.1,.str e.2]
def gQ (ss:List Str) (ts:List (Str × Str)):PyData:=.tuple [.tuple (ss.map .str),.tuple (ts.map er)]
section
variable {H H':Hp}
theorem Rep.tupI {v:V}{ds:List PyData}(h:Rep H v (.tuple ds)):∃a xs,v=.ref a/\H a=some (.tup xs)/\RepAll H xs ds:=by
 cases h with
 | tup e r=>exact⟨_,_,rfl,e,r⟩
theorem Rep.strI {v:V}{s:Str}(h:Rep H v (.str s)):v=.str s:=by cases h;rfl
theorem Rep.intI {v:V}{i:Int}(h:Rep H v (.int i)):v=.int i:=by cases h;rfl
theorem RepAll.nilI {xs:List V}(h:RepAll H xs []):xs=[]:=by cases h;rfl
theorem RepAll.consI {xs:List V}{d:PyData}{ds:List PyData}(h:RepAll H xs (d::ds)):∃y ys,xs=y::ys/\Rep H y d/\RepAll H ys ds:=by
 cases h with
 | cons a b=>exact⟨_,_,rfl,a,b⟩
theorem RepAll.strs:∀ {xs:List V}{ss:List Str},RepAll H xs (ss.map PyData.str)->xs=ss.map V.str
 | _,[],h=>by rw[h.nilI];rfl
 | _,s::ss,h=>by
  obtain⟨y,ys,rfl,a,b⟩:=RepAll.consI h
  rw[a.strI,RepAll.strs b];rfl
theorem RepAll.of_strs:∀(ss:List Str),RepAll H (ss.map V.str) (ss.map PyData.str)
 | []=>.nil
 | s::ss=>.cons (.str s) (RepAll.of_strs ss)
theorem RepAll.len {xs:List V}{ds:List PyData}(h:RepAll H xs ds):xs.length=ds.length:=by
 induction ds generalizing xs with
 | nil=>rw[h.nilI];rfl
 | cons d ds ih =>
  obtain⟨y,ys,rfl,a,b⟩:=h.consI
  simp[ih b]
theorem RepAll.get {xs:List V}{ds:List PyData}(h:RepAll H xs ds) {i:Nat}{x:V}(e:xs[i]? = some x):∃d,ds[i]? = some d/\Rep H x d:=by
 induction ds generalizing xs i with
 | nil=>rw[h.nilI] at e;simp at e
 | cons d ds ih =>
  obtain⟨y,ys,rfl,a,b⟩:=h.consI
  cases i with
  | zero=>simp at e;subst e;exact⟨d,rfl,a⟩
  | succ i=>simpa using ih b (by simpa using e)
theorem RepAll.append {xs ys:List V}{ds es:List PyData}(h:RepAll H xs ds) (g:RepAll H ys es):RepAll H (xs++ys) (ds++es):=by
 induction ds generalizing xs with
 | nil=>rw[h.nilI];exact g
 | cons d ds ih =>
  obtain⟨y,zs,rfl,a,b⟩:=h.consI
  exact .cons a (ih b)
theorem RepAll.take {xs:List V}{ds:List PyData}(h:RepAll H xs ds):∀k,RepAll H (xs.take k) (ds.take k):=by
 induction ds generalizing xs with
 | nil=>intro k;rw[h.nilI];simp;exact .nil
 | cons d ds ih =>
  obtain⟨y,zs,rfl,a,b⟩:=h.consI
  intro k
  cases k with
  | zero=>exact .nil
  | succ k=>exact .cons a (ih b k)
theorem RepAll.drop {xs:List V}{ds:List PyData}(h:RepAll H xs ds):∀k,RepAll H (xs.drop k) (ds.drop k):=by
 induction ds generalizing xs with
 | nil=>intro k;rw[h.nilI];simp;exact .nil
 | cons d ds ih =>
  obtain⟨y,zs,rfl,a,b⟩:=h.consI
  intro k
  cases k with
  | zero=>exact .cons a b
  | succ k=>exact ih b k
theorem jm {v:V}{e:Nat × Nat}(h:Rep H v (fh e)):∃a,v=.ref a/\H a=some (.tup [.int e.1,.int e.2]):=by
 obtain⟨a,xs,rfl,ha,r⟩:=Rep.tupI h
 obtain⟨y,ys,rfl,r1,r⟩:=r.consI
 obtain⟨z,zs,rfl,r2,r⟩:=r.consI
 have e1:=RepAll.nilI r
 subst e1
 rw[r1.intI,r2.intI] at ha
 exact⟨a,rfl,ha⟩
theorem jd {v:V}{e:Str × Str}(h:Rep H v (er e)):∃a,v=.ref a/\H a=some (.tup [.str e.1,.str e.2]):=by
 obtain⟨a,xs,rfl,ha,r⟩:=Rep.tupI h
 obtain⟨y,ys,rfl,r1,r⟩:=r.consI
 obtain⟨z,zs,rfl,r2,r⟩:=r.consI
 have e1:=RepAll.nilI r
 subst e1
 rw[r1.strI,r2.strI] at ha
 exact⟨a,rfl,ha⟩
theorem jn {a:Addr}{i j:Nat}(h:H a=some (.tup [.int i,.int j])):Rep H (.ref a) (fh (i,j)):=.tup h (.cons (.int _) (.cons (.int _) .nil))
theorem oq {a:Addr}{s t:Str}(h:H a=some (.tup [.str s,.str t])):Rep H (.ref a) (er (s,t)):=.tup h (.cons (.str _) (.cons (.str _) .nil))
theorem gT {v:V}{ss:List Str}{ts:List (Str × Str)}(h:Rep H v (gQ ss ts)):∃q a b xs,v=.ref q/\H q=some (.tup [.ref a,.ref b])/\H a=some (.tup (ss.map V.str))/\H b=some (.tup xs)/\RepAll H xs (ts.map er):=by
 obtain⟨q,ws,rfl,hq,r0⟩:=Rep.tupI h
 obtain⟨y,ys,rfl,r1,r3⟩:=r0.consI
 obtain⟨z,zs,rfl,r2,r4⟩:=r3.consI
 obtain⟨a,xa,rfl,ha,ra⟩:=Rep.tupI r1
 obtain⟨b,xb,rfl,hb,rb⟩:=Rep.tupI r2
 have e1:=RepAll.nilI r4
 subst e1
 have e2:=RepAll.strs ra
 subst e2
 exact⟨q,a,b,xb,rfl,hq,ha,hb,rb⟩
end
theorem hV:∀es:List (Nat × Nat),PyData.canLayAll0 (es.map fh)=true
 | []=>rfl
 | e::es=>by
  show (PyData.canLay0 (fh e)&&PyData.canLayAll0 (es.map fh))=true
  rw[hV es]
  rfl
theorem lV:∀es:List (Nat × Nat),PyData.depthAll (es.map fh)<=1
 | []=>by decide
 | e::es=>by
  show max (PyData.depth (fh e)) (PyData.depthAll (es.map fh))<=1
  have h1:PyData.depth (fh e)=1:=rfl
  have h2:=lV es
  omega
theorem vO (es:List (Nat × Nat)):shp (.list (es.map fh)):=by
 show (PyData.canLayAll0 (es.map fh)&&decide (PyData.depthAll (es.map fh)+1<=64))=true
 have:=lV es
 rw[hV,ao (by omega)]
 rfl
end L2
set_option autoImplicit false
namespace MG
variable {α:Type}
def Walk (R:α->α->Prop):Nat->α->α->Prop
 | 0,x,y=>x=y
 | n+1,x,y=>∃z,Walk R n x z/\R z y
def Rch (R:α->α->Prop) (x y:α):Prop:=∃n,Walk R n x y
def Dst (R:α->α->Prop) (x:α) (d:Nat) (y:α):Prop:=Walk R d x y/\∀k,k<d->¬ Walk R k x y
variable {R:α->α->Prop}{x:α}
theorem Dst.uniq {d e:Nat}{y:α}(a:Dst R x d y) (b:Dst R x e y):d=e:=by
 rcases Nat.lt_trichotomy d e with h | h | h
 ·exact absurd a.1 (b.2 d h)
 ·exact h
 ·exact absurd b.1 (a.2 e h)
theorem Rch.dst {y:α}(h:Rch R x y):∃d, Dst R x d y := by
 obtain⟨n,h⟩:=h
 induction n using Nat.strongRecOn generalizing y with
 | _ n ih =>
  by_cases e:∃k,k<n/\Walk R k x y
  ·obtain⟨k,hk,w⟩:=e
   exact ih k hk w
  ·exact⟨n,h,fun k hk w=>e ⟨k,hk,w⟩⟩
theorem Dst.rch {d:Nat}{y:α}(h:Dst R x d y):Rch R x y:=⟨d,h.1⟩
theorem Dst.pred {d:Nat}{y:α}(h:Dst R x (d+1) y):∃z,Dst R x d z/\R z y:=by
 obtain⟨⟨z,w,r⟩,m⟩:=h
 exact⟨z,⟨w,fun k hk w'=>m (k+1) (by omega) ⟨z,w',r⟩⟩,r⟩
theorem Dst.zero:Dst R x 0 x:=⟨rfl,fun k hk=>by omega⟩
theorem Dst.of_zero {y:α}(h:Dst R x 0 y):y=x:=h.1.symm
theorem Dst.below {d:Nat}{y:α}(h:Dst R x d y):∀e, e <= d -> ∃z, Dst R x e z := by
 induction d generalizing y with
 | zero => intro e he; have:e=0 := by omega
           subst this;exact⟨y,h⟩
 | succ d ih =>
  intro e he
  by_cases q:e=d+1
  ·subst q;exact⟨y,h⟩
  ·obtain⟨z,hz,_⟩:=h.pred
   exact ih hz e (by omega)
theorem Rch.refl:Rch R x x:=⟨0,rfl⟩
theorem Rch.step {y z:α}(h:Rch R x y) (r:R y z):Rch R x z:=by
 obtain⟨n,w⟩:=h
 exact⟨n+1,y,w,r⟩
theorem Rch.closed {S:α -> Prop}(h0:S x) (hs:∀y z, S y -> R y z -> S z) {y:α}(h:Rch R x y):S y := by
 obtain⟨n,w⟩:=h
 induction n generalizing y with
 | zero => have:x=y := w
           subst this;exact h0
 | succ n ih =>
  obtain⟨z,w,r⟩:=w
  exact hs z y (ih w) r
structure Lev (R:α->α->Prop) (x:α) (L:Nat) (look:α->Option Nat) (edge:List α):Prop where
 snd:∀y k,look y=some k->Dst R x k y/\k<=L
 cmp:∀y k,k<=L->Dst R x k y->look y=some k
 edg:∀y,y∈edge ↔ Dst R x L y
structure Mid (R:α->α->Prop) (x:α) (L:Nat) (look:α->Option Nat) (further:List α) (done:α->α->Prop):Prop where
 snd:∀y k,look y=some k->(Dst R x k y/\k<=L)∨(k=L+1/\y∈further)
 cmp:∀y k,k<=L->Dst R x k y->look y=some k
 fur:∀y,y∈further->Dst R x (L+1) y/\look y=some (L+1)
 dn:∀z y,done z y->(look y).isSome=true
theorem Lev.start [DecidableEq α] {look:α->Option Nat}(h:∀y,look y=if y=x then some 0 else none):Lev R x 0 look [x]:=by
 refine⟨fun y k e=>?_,fun y k hk d=>?_,fun y=>?_⟩
 ·rw[h] at e
  split at e
  ·rename_i q;subst q;cases e;exact⟨Dst.zero,ad _⟩
  ·cases e
 ·have:k=0:=by omega
  subst this
  rw[h,if_pos d.of_zero]
 ·rw[aI]
  exact⟨fun e=>e ▸ Dst.zero,fun d=>d.of_zero⟩
theorem Lev.mid {L:Nat}{look:α->Option Nat}{edge:List α}(h:Lev R x L look edge):Mid R x L look [] (fun _ _=>False) :=
 ⟨fun y k e=>.inl (h.snd y k e),h.cmp,fun y hy=>(nomatch hy),fun _ _ f=>f.elim⟩
theorem Mid.skip {L:Nat}{look:α->Option Nat}{further:List α}{done:α->α->Prop}(h:Mid R x L look further done) {z y:α}(e:(look y).isSome=true):Mid R x L look further (fun a b=>done a b∨(a=z/\b=y)) :=
 ⟨h.snd,h.cmp,h.fur,fun a b d=>by
  rcases d with d | ⟨_,q⟩
  ·exact h.dn a b d
  ·rw[q];exact e⟩
theorem Mid.add {L:Nat}{look look':α -> Option Nat}{further:List α}{done:α -> α -> Prop}(h:Mid R x L look further done) {z y:α}(hz:Dst R x L z) (r:R z y) (e:look y=none)
    [DecidableEq α] (hl:∀a,look' a=if a=y then some (L+1) else look a):Mid R x L look' (further++[y]) (fun a b=>done a b∨(a=z/\b=y)):=by
 have dy:Dst R x (L+1) y:=by
  refine⟨⟨z,hz.1,r⟩,fun k hk w=>?_⟩
  obtain⟨d,dd⟩:=Rch.dst ⟨k,w⟩
  have hd:d<=k:=Nat.le_of_not_lt fun q=>dd.2 k q w
  rw[h.cmp y d (by omega) dd] at e
  cases e
 refine⟨fun a k q=>?_,fun a k hk d=>?_,fun a ha=>?_,fun a b d=>?_⟩
 ·rw[hl] at q
  split at q
  ·rename_i ea;cases q;subst ea;exact .inr ⟨rfl,by simp⟩
  ·rcases h.snd a k q with q' | ⟨q1,q2⟩
   ·exact .inl q'
   ·exact .inr ⟨q1,by simp[q2]⟩
 ·rw[hl]
  split
  ·rename_i ea;subst ea;have:=d.uniq dy;omega
  ·exact h.cmp a k hk d
 ·rcases ar.mp ha with q | q
  ·refine⟨(h.fur a q).1,?_⟩
   rw[hl]
   split
   ·rfl
   ·exact(h.fur a q).2
  ·have:a=y:=by simpa using q
   subst this
   exact⟨dy,by rw[hl,if_pos rfl]⟩
 ·rw[hl]
  split
  ·rfl
  ·rename_i nb
   rcases d with d | ⟨_,q⟩
   ·exact h.dn a b d
   ·exact absurd q nb
theorem Mid.wk {L:Nat}{look:α->Option Nat}{further:List α}{done done':α->α->Prop}(h:Mid R x L look further done) (w:∀a b,done' a b->done a b):Mid R x L look further done' :=
 ⟨h.snd,h.cmp,h.fur,fun a b d=>h.dn a b (w a b d)⟩
theorem Mid.next {L:Nat}{look:α->Option Nat}{further edge:List α}{done:α->α->Prop}(h:Mid R x L look further done) (he:∀y,y∈edge ↔ Dst R x L y) (hd:∀z y,z∈edge->R z y->done z y):Lev R x (L+1) look further:=by
 have key:∀y,Dst R x (L+1) y->y∈further/\look y=some (L+1):=fun y d=>by
  obtain⟨z,dz,r⟩:=d.pred
  have s:=h.dn z y (hd z y ((he z).mpr dz) r)
  obtain⟨k,e⟩:=bv.mp s
  rcases h.snd y k e with⟨q,hk⟩ | ⟨q1,q2⟩
  ·have:=q.uniq d;omega
  ·subst q1;exact⟨q2,e⟩
 refine⟨fun y k e=>?_,fun y k hk d=>?_,fun y=>⟨fun q=>(h.fur y q).1,fun d=>(key y d).1⟩⟩
 ·rcases h.snd y k e with⟨q,hk⟩ | ⟨q1,q2⟩
  ·exact⟨q,by omega⟩
  ·subst q1;exact⟨(h.fur y q2).1,ad _⟩
 ·by_cases q:k=L+1
  ·subst q;exact(key y d).2
  ·exact h.cmp y k (by omega) d
theorem Lev.done {L:Nat}{look:α->Option Nat}(h:Lev R x L look []):∀y k,look y=some k ↔ Dst R x k y:=fun y k=>by
 refine⟨fun e=>(h.snd y k e).1,fun d=>?_⟩
 by_cases q:k<=L
 ·exact h.cmp y k q d
 ·obtain⟨z,hz⟩:=d.below L (by omega)
  exact(nomatch (h.edg z).mpr hz)
end MG
namespace MG
variable {α:Type}{R:α->α->Prop}{x:α}
theorem Dst.lt {ss:List α}(hin:∀y, Rch R x y -> y ∈ ss) {L:Nat}{y:α}(d:Dst R x L y):L<ss.length := by
 have key:∀n, n <= L+1 -> ∃zs:List α, zs.length=n /\ zs.Nodup /\ ∀z ∈ zs, ∃e, e<n /\ Dst R x e z := by
  intro n
  induction n with
  | zero=>intro _;exact⟨[],rfl,bz,fun z hz=>by cases hz⟩
  | succ n ih =>
   intro hn
   obtain⟨zs,hl,hnd,hz⟩:=ih (by omega)
   obtain⟨z,dz⟩:=d.below n (by omega)
   refine⟨z::zs,by simp[hl],aU.mpr ⟨fun hm=>?_,hnd⟩,fun w hw=>?_⟩
   ·obtain⟨e,he,de⟩:=hz z hm
    have:=de.uniq dz
    omega
   ·rcases am.mp hw with rfl | hw
    ·exact⟨n,by omega,dz⟩
    ·obtain⟨e,he,de⟩:=hz w hw
     exact⟨e,by omega,de⟩
 obtain⟨zs,hl,hnd,hz⟩:=key (L+1) (ad _)
 have:=hnd.length_le_of_subset (l₂:=ss) fun z hm=>by
  obtain⟨e,_,de⟩:=hz z hm
  exact hin z de.rch
 omega
end MG
namespace L2
open PySem PySem.Spec PyProof.Rows
def j9 (ss:List Str):PyData:=.list (ss.map .str)
theorem rY {H:Hp}{a:Addr}{ss:List Str}(h:H a=some (.lst (ss.map V.str))):Rep H (.ref a) (j9 ss):=.lst h (RepAll.of_strs ss)
theorem j7 {s:Str}(h:Nm s):PyData.canLay0 (.str s)=true:=by
 show (s.cps.all (·<0x110000))=true
 rw[<- Array.all_toList,bh]
 intro c hc
 have:=h.2.2 c hc
 exact ao (by omega)
theorem i6:∀ss:List Str,(∀s∈ss,Nm s)->PyData.canLayAll0 (ss.map PyData.str)=true
 | [],_=>rfl
 | s::ss,h=>by
  show (PyData.canLay0 (.str s)&&PyData.canLayAll0 (ss.map PyData.str))=true
  rw[i6 ss fun x hx=>h x (aM _ hx),j7 (h s (by simp))]
  rfl
theorem iw:∀ss:List Str,PyData.depthAll (ss.map PyData.str)=0
 | []=>rfl
 | s::ss=>by
  show max (PyData.depth (.str s)) (PyData.depthAll (ss.map PyData.str))=0
  rw[iw ss];rfl
theorem jO:∀ss:List Str,PyData.showableAll (ss.map PyData.str)=true
 | []=>rfl
 | s::ss=>by
  show (PyData.showable (.str s)&&PyData.showableAll (ss.map PyData.str))=true
  rw[jO ss];rfl
theorem nk {ss:List Str}(h:∀s∈ss,Nm s):shp (j9 ss):=by
 show (PyData.canLayAll0 (ss.map PyData.str)&&decide (PyData.depthAll (ss.map PyData.str)+1<=64))=true
 rw[i6 ss h,iw];rfl
theorem kS {n:Nat}:∀(ts:List Str) (k:Nat) (acc:Str), (∀t ∈ ts, t.length <= n) -> (textFrom k acc ts).length <= acc.length+ts.length * (n+2)
 | [],k,acc,_=>by show acc.length<=acc.length+0 * _;omega
 | t::r,k,acc,h=>by
  have h1:=kS r (k+1) (acc++(if k > 0 then ", " else "":String)++t) fun u hu=>h u (aM _ hu)
  have h2:=h t (by simp)
  have e:(acc++(if k > 0 then ", " else "":String)++t).length<=acc.length+2+t.length:=by
   rw[gA,gA]
   have:(Str.ofString (if k > 0 then ", " else "":String)).length<=2:=by split <;> decide
   show acc.length+(Str.ofString (if k > 0 then ", " else "":String)).length+t.length<=_
   omega
  show (textFrom (k+1) (acc++(if k > 0 then ", " else "":String)++t) r).length<=acc.length+(r.length+1) * (n+2)
  rw[Nat.succ_mul]
  omega
theorem jP:∀ss:List Str,PyData.shownAll (ss.map PyData.str)=ss.map reprText
 | []=>rfl
 | s::ss=>by
  show PyData.shown (.str s)::PyData.shownAll (ss.map PyData.str)=_
  rw[jP ss];rfl
theorem Nm.repr {s:Str}(h:Nm s):(reprText s).length<=82:=by
 have:=StrLaws.reprText_len s fun c hc=>Nat.lt_trans (h.asc c hc) (by decide)
 have:=h.2.1
 omega
theorem py {ss:List Str}(h:∀s∈ss,Nm s) (hl:ss.length<=1000):(j9 ss).shown.length<=sizeLine:=by
 show (listText (PyData.shownAll (ss.map PyData.str))).length<=sizeLine
 rw[jP]
 show (textFrom 0 "[" (ss.map reprText)++"]").length<=sizeLine
 rw[gA]
 have h1:=kS (n:=82) (ss.map reprText) 0 "[" fun t ht=>by
  obtain⟨s,hs,rfl⟩:=aq.mp ht
  exact(h s hs).repr
 rw[ac] at h1
 have h2:ss.length * (82+2)<=1000 * (82+2):=Nat.mul_le_mul_right _ hl
 have h3:(Str.ofString "[").length=1:=rfl
 have h4:(Str.ofString "]").length=1:=rfl
 show (textFrom 0 (Str.ofString "[") (ss.map reprText)).length+(Str.ofString "]").length<=sizeLine
 have h5:(84002:Nat)<=sizeLine:=by decide
 have h1:(textFrom 0 (Str.ofString "[") (ss.map reprText)).length<=(Str.ofString "[").length+ss.length * (82+2):=h1
 omega
structure Shw (d:PyData):Prop where
 sh:shp d
 sb:d.showable=true
 hd:d.hasDict=false
 dp:d.depth<=16
 ln:d.shown.length<=sizeLine
theorem Shw.names {ss:List Str}(h:∀s∈ss,Nm s) (hl:ss.length<=1000):Shw (j9 ss) :=
 ⟨nk h,jO ss,PyData.hasDict_of_canLay _ (SeqAt.canLay_of_shaped (nk h)),by show PyData.depthAll (ss.map PyData.str)+1<=16;rw[iw];decide,py h hl⟩
theorem mT {d:PyData}(h:shp d):PyData.eqv d d=true:=SeqAt.eqv_refl d (SeqAt.canLay_of_shaped h)
def og:Sp:=fun vs H Q _=>∃x y d,vs=[x,y]/\Rep H x d/\Rep H y d/\Shw d/\Q (.bl true) H
theorem oH {K:W.Frag}{a:Addr}{xs:List V}{g:TG}{tb:TS}{D:Ends}{σ:St}{H:Hp}(Pv:Nat -> St -> Hp -> Prop) (h0:Pv 0 σ H) (hl:∀i σ H, i <= xs.length -> Pv i σ H -> SqL K H a xs)
    (hs:∀i x σ H p,xs[i]? = some x->Pv i σ H->H p=none->g (.ref p) σ (upd H p (.tup [.int i,x])) fun σ2 H2=>tb { D with nx:=Pv (i+1),ct:=Pv (i+1),bk:=D.nx } σ2 H2) (hd:∀σ H,Pv xs.length σ H->D.nx σ H) :
    ∃W:Nat->Nat->St->Hp->Prop,(∃m,W 0 m σ H)/\∀i m σ H,W i m σ H ->
     ((Ite K a).stop i H/\D.nx σ H)∨((Ite K a).go i H/\∃N:St->Hp->Prop,(∀σ' H',N σ' H'->∃m',m'<m/\W (i+1) m' σ' H')/\∀x H',(Ite K a).yld i H x H'->g x σ H' fun σ2 H2=>tb { D with nx:=N,ct:=N,bk:=D.nx } σ2 H2):=by
 refine⟨fun i m σ H=>m=xs.length-i/\i<=xs.length/\Pv i σ H,⟨xs.length,by simp,aT _,h0⟩,?_⟩
 rintro i m σ H ⟨rfl,hi,p⟩
 have q:=hl i σ H hi p
 by_cases hlt:i<xs.length
 ·refine .inr ⟨⟨xs,xs[i],q,by simp[hlt]⟩,Pv (i+1),fun σ' H' p'=>⟨xs.length-(i+1),by omega,rfl,hlt,p'⟩,fun x H' y=>?_⟩
  obtain⟨r,z,hr,rfl,hz,rfl⟩:=y
  exact hs i z σ H r (hz xs q) p hr
 ·have e:i=xs.length:=by omega
  subst e
  exact .inl ⟨⟨xs,q,ad _⟩,hd σ H p⟩
def jN:Sp:=fun vs H Q _=>∃a xs,vs=[.ref a]/\H a=some (.lst (List.map V.str xs))/\xs.length<=1000 /\
 ∀d kvs H',Same H H'->H d=none->H' d=some (.dK kvs)->(∀s,(cY kvs (.inr s)).isSome=true ↔ s∈xs)->(∀s v,cY kvs (.inr s)=some v->∃j:Nat,v=.int j/\xs[j]? = some s)->Q (.ref d) H'
structure Web (H:Hp) (v:V) (ss:List Str) (ts:List (Str × Str)):Prop where
 rep:Rep H v (gQ ss ts)
 nd:ss.Nodup
 nm:∀s∈ss,Nm s
 len:ss.length<=60
 few:ts.length<=401
 inn:∀e∈ts,e.1∈ss/\e.2∈ss
theorem Web.same {H H':Hp}{v:V}{ss:List Str}{ts:List (Str × Str)}(h:Web H v ss ts) (s:Same H H'):Web H' v ss ts:=⟨h.rep.same s,h.nd,h.nm,h.len,h.few,h.inn⟩
def fk (ss:List Str) (ts:List (Str × Str)) (s:Str):List Str:=ss.filter fun t=>decide ((s,t)∈ts)
def dM (ts:List (Str × Str)):List (Str × Str):=ts.map fun e=>(e.2,e.1)
theorem mem_flip {ts:List (Str × Str)}{a b:Str}:(a,b)∈dM ts ↔ (b,a)∈ts:=by
 unfold dM
 rw[aq]
 constructor
 ·rintro⟨⟨x,y⟩,h,e⟩
  cases e;exact h
 ·intro h;exact⟨(b,a),h,rfl⟩
def gk (rev:Bool):Sp:=fun vs H Q _=>∃q ss ts s,vs=[q,.str s]/\Web H q ss ts /\
 ∀l H',Same H H'->H l=none->H' l=some (.lst (List.map V.str (fk ss (if rev then dM ts else ts) s)))->Q (.ref l) H'
def Tab (H:Hp) (d:Addr) (ss:List Str) (f:Str->List Str):Prop:=∃kvs,H d=some (.dK kvs)/\∀s∈ss,∃l,cY kvs (.inr s)=some (.ref l)/\H l=some (.lst (List.map V.str (f s)))
theorem Tab.same {H H':Hp}{d:Addr}{ss:List Str}{f:Str->List Str}(h:Tab H d ss f) (s:Same H H'):Tab H' d ss f:=let ⟨kvs,a,b⟩:=h;⟨kvs,s _ _ a,fun x hx=>let ⟨l,c,e⟩:=b x hx;⟨l,c,s _ _ e⟩⟩
def gl (rev:Bool):Sp:=fun vs H Q _=>∃q ss ts,vs=[q]/\Web H q ss ts /\
 ∀d H',Same H H'->H d=none->Tab H' d ss (fk ss (if rev then dM ts else ts))->Q (.ref d) H'
def Ner (ss:List Str) (f:Str->List Str) (a b:Str):Prop:=a∈ss/\b∈f a
def Tie (ts:List (Str × Str)) (a b:Str):Prop:=(a,b)∈ts
end L2
namespace MG
variable {α:Type}{R:α->α->Prop}{x:α}
theorem Walk.map {β:Type}{S:β->β->Prop}(f:α->β) (h:∀a b,R a b->S (f a) (f b)) {n:Nat}{y:α}(w:Walk R n x y):Walk S n (f x) (f y):=by
 induction n generalizing y with
 | zero =>
  have w:x=y:=w
  subst w
  exact rfl
 | succ n ih =>
  obtain⟨z,w,r⟩:=w
  exact⟨f z,ih w,h z y r⟩
theorem Walk.back {β:Type}{S:β->β->Prop}(f:α->β) (h:∀a c,S (f a) c->∃b,c=f b/\R a b) {n:Nat}{c:β}(w:Walk S n (f x) c):∃y,c=f y/\Walk R n x y:=by
 induction n generalizing c with
 | zero =>
  have w:f x=c:=w
  exact⟨x,w.symm,rfl⟩
 | succ n ih =>
  obtain⟨z,w,r⟩:=w
  obtain⟨y,rfl,wy⟩:=ih w
  obtain⟨b,rfl,rb⟩:=h y c r
  exact⟨b,rfl,y,wy,rb⟩
def swp (es:List (Nat × Nat)):List (Nat × Nat):=es.map fun e=>(e.2,e.1)
theorem mem_swp {es:List (Nat × Nat)}{a b:Nat}:(a,b)∈swp es ↔ (b,a)∈es:=by
 unfold swp
 rw[aq]
 constructor
 ·rintro⟨⟨x,y⟩,h,e⟩
  cases e;exact h
 ·intro h;exact⟨(b,a),h,rfl⟩
def Arr (es:List (Nat × Nat)) (a b:Nat):Prop:=(a,b)∈es
def To (es:List (Nat × Nat)) (goal k a:Nat):Prop:=Dst (Arr (swp es)) goal k a
variable {es:List (Nat × Nat)}{goal:Nat}
theorem To.pred {k a:Nat}(h:To es goal (k+1) a):∃c,(a,c)∈es/\To es goal k c:=by
 obtain⟨z,d,r⟩:=Dst.pred h
 exact⟨z,mem_swp.mp r,d⟩
theorem To.step {k m a c:Nat}(r:(a,c)∈es) (h:To es goal k c) (g:To es goal m a):m<=k+1:=by
 refine Nat.le_of_not_lt fun q=>?_
 exact g.2 (k+1) q ⟨c,h.1,mem_swp.mpr r⟩
theorem To.zero {a:Nat}(h:To es goal 0 a):a=goal:=h.of_zero
theorem To.here:To es goal 0 goal:=Dst.zero
theorem To.rch {k a:Nat}(h:To es goal k a):Rch (Arr (swp es)) goal a:=h.1 |> fun w=>⟨k,w⟩
theorem To.inn {n k a:Nat}(val:∀e∈es,e.1<n/\e.2<n) (hg:goal<n) (h:To es goal k a):a<n :=
 Rch.closed (S:=fun y=>y<n) hg (fun x y _ r=>(val _ (mem_swp.mp r)).1) h.rch
theorem To.lt {n k a:Nat}(val:∀e∈es,e.1<n/\e.2<n) (hg:goal<n) (h:To es goal k a):k<n:=by
 have:=Dst.lt (ss:=List.range n) (fun y r=>aR.mpr (Rch.closed (S:=fun y=>y<n) hg (fun x y _ r=>(val _ (mem_swp.mp r)).1) r)) h
 simpa using this
def Lst (es:List (Nat × Nat)) (goal k a b:Nat):Prop:=(a,b)∈es/\To es goal k b/\∀c,(a,c)∈es->To es goal k c->b<=c
theorem Lst.uniq {k a b c:Nat}(h:Lst es goal k a b) (g:Lst es goal k a c):b=c:=Nat.le_antisymm (h.2.2 c g.1 g.2.1) (g.2.2 b h.1 h.2.1)
def Wy (es:List (Nat × Nat)) (goal:Nat):Nat->Nat->List Nat->Prop
 | 0,a,ws=>a=goal/\ws=[a]
 | k+1,a,ws=>∃b r,ws=a::r/\Lst es goal k a b/\Wy es goal k b r
theorem Wy.uniq {k a:Nat}{ws vs:List Nat}(h:Wy es goal k a ws) (g:Wy es goal k a vs):ws=vs:=by
 induction k generalizing a ws vs with
 | zero=>rw[h.2,g.2]
 | succ k ih =>
  obtain⟨b,r,rfl,l,w⟩:=h
  obtain⟨c,q,rfl,m,v⟩:=g
  have e:=l.uniq m
  subst e
  rw[ih w v]
theorem Wy.len {k a:Nat}{ws:List Nat}(h:Wy es goal k a ws):ws.length=k+1:=by
 induction k generalizing a ws with
 | zero=>rw[h.2];rfl
 | succ k ih =>
  obtain⟨b,r,rfl,l,w⟩:=h
  simp[ih w]
theorem Wy.inn {n k a:Nat}{ws:List Nat}(val:∀e∈es,e.1<n/\e.2<n) (hg:goal<n) (h:Wy es goal k a ws):∀x∈ws,x<n:=by
 induction k generalizing a ws with
 | zero =>
  rw[h.2,h.1]
  intro x hx
  have:x=goal:=by simpa using hx
  omega
 | succ k ih =>
  obtain⟨b,r,rfl,l,w⟩:=h
  intro x hx
  rcases am.mp hx with rfl | hx
  ·exact(val _ l.1).1
  ·exact ih w x hx
def Pre (es:List (Nat × Nat)) (goal k one j a:Nat) (ws:List Nat):Prop:=To es goal j a/\(∃us,ws=us++[a])/\(∀r,Wy es goal j a (a::r)->Wy es goal k one (ws++r))/\ws.length+j=k+1
theorem Pre.start {k one:Nat}(h:To es goal k one):Pre es goal k one k one [one]:=⟨h,⟨[],rfl⟩,fun r w=>w,by simp;omega⟩
theorem Pre.add {k one j a b:Nat}{ws:List Nat}(h:Pre es goal k one (j+1) a ws) (l:Lst es goal j a b):Pre es goal k one j b (ws++[b]):=by
 obtain⟨h1,h2,h3,h4⟩:=h
 refine⟨l.2.1,⟨ws,rfl⟩,fun r w=>?_,by simp;omega⟩
 rw[List.append_assoc]
 exact h3 (b::r) ⟨b,b::r,rfl,l,w⟩
theorem Pre.done {k one a:Nat}{ws:List Nat}(h:Pre es goal k one 0 a ws):Wy es goal k one ws:=by
 have:=h.2.2.1 [] ⟨h.1.zero,rfl⟩
 simpa using this
end MG
namespace MG
variable {es:List (Nat × Nat)}
theorem Walk.cons {α:Type}{R:α->α->Prop}{x y z:α}{n:Nat}(r:R x y) (w:Walk R n y z):Walk R (n+1) x z:=by
 induction n generalizing z with
 | zero =>
  have w:y=z:=w
  subst w
  exact⟨x,rfl,r⟩
 | succ n ih =>
  obtain⟨v,w,q⟩:=w
  exact⟨v,ih w,q⟩
theorem oS {n a b:Nat}(w:Walk (Arr es) n a b):Walk (Arr (swp es)) n b a:=by
 induction n generalizing b with
 | zero =>
  have w:a=b:=w
  exact w.symm
 | succ n ih =>
  obtain⟨z,w,r⟩:=w
  exact Walk.cons (mem_swp.mpr r) (ih w)
theorem xL (es:List (Nat × Nat)):swp (swp es)=es:=by
 unfold swp
 rw[aV]
 exact List.map_id'' (fun e=>rfl) es
theorem rch_to {a goal:Nat}:Rch (Arr es) a goal ↔ ∃k,To es goal k a:=by
 constructor
 ·rintro⟨n,w⟩
  exact Rch.dst ⟨n,oS w⟩
 ·rintro⟨k,h⟩
  have:=oS h.1
  rw[xL] at this
  exact⟨k,this⟩
def RingAt (es:List (Nat × Nat)) (e:Nat × Nat):Prop:=∃k,To es e.1 k e.2
def FirstR (es:List (Nat × Nat)) (i:Nat) (e:Nat × Nat):Prop:=es[i]? = some e/\RingAt es e/\∀j,j<i->∀f,es[j]? = some f->¬ RingAt es f
theorem FirstR.uniq {i j:Nat}{e f:Nat × Nat}(h:FirstR es i e) (g:FirstR es j f):e=f:=by
 have:i=j:=by
  rcases Nat.lt_trichotomy i j with q | q | q
  ·exact absurd h.2.1 (g.2.2 i q e h.1)
  ·exact q
  ·exact absurd g.2.1 (h.2.2 j q f g.1)
 subst this
 exact af (h.1.symm.trans g.1)
end MG
namespace L2
open PySem PySem.Spec PyProof.Rows
theorem dF {H H':Hp}{b:Addr}(s:Same H H') (h:H' b=none):H b=none:=by
 cases q:H b with
 | none=>rfl
 | some o=>rw[s _ _ q] at h;cases h
theorem dR {H H':Hp}{b:Addr}{o:HO}(s:Same H H') (h:H b=none):Same H (upd H' b o):=fun c o' hc=>by
 rw[cH (cL hc h)];exact s _ _ hc
theorem fX {H H':Hp}{p a:Addr}(s:Same H H') (v:PenV H p a):PenV H' p a:=let ⟨i,m,e,q⟩:=v;⟨i,m,s _ _ e,q⟩
section
variable {X:Cx}{p pos p2 pos2:Pos}{e f:Expr}{t:TA}
def wD (K:W.Frag):List V->Hp->VK->Prop:=fun xs H Q=>∃a ns,xs=[.ref a]/\SqL K H a (List.map V.int ns)/\0<ns.length/\∀M,M∈ns->(∀b,b∈ns->M<=b)->Q (.int M) H
theorem rJ (hc:X.calm=true):fA X (.builtin "min") (wD X.K):=by
 intro pins s σ H xs us Q I r h
 obtain⟨a,ns,rfl,hq,hne,q⟩:=h
 obtain⟨u,rfl,ru⟩:=fq r
 cases ru
 obtain⟨its,rv,pl,hz⟩:=I.list hq
 have hi:=lU rv
 obtain⟨xs,e⟩:=hi.allInts.items
 have hns:ns=xs.toList.map (·.1):=by
  rw[<- hi.numsOf,<- nums_intItems,<- e]
 have hsz:0<xs.size:=by
  have h3:=hne;rw[hns,ac,bB] at h3;exact h3
 have hl:=pl.isList
 rw[e] at hl
 refine min_intList (I.ok.hd hc) hl hsz fun v h' tk hv hk=>?_
 obtain⟨t,rfl⟩:=intItems_at hv
 obtain⟨h1,h2⟩:=argBest_lt (numAt xs) (xs.size-1)
 refine⟨.int _,H,I.kept hk,⟨_,rfl⟩,q _ ?_ fun b hb=>?_⟩
 ·rw[hns,numAt_eq];exact getD_mem (by rw[ac,bB];omega)
 ·rw[hns] at hb
  obtain⟨j,hj,rfl⟩:=mem_getD hb
  rw[ac,bB] at hj
  rw[<- numAt_eq];exact h2 j (by omega)
theorem yZ (K:W.Frag) (hc:X.calm=true) (B:Blt X.mg) (ha:PA X [e] t) (hg:Gl X "min":=by rfl) (he:starEach [e] X.env=(false,eval e X.env)::starEach [] X.env:=by rfl) (hpl:(backTo pos (starEach [] X.env)).any (·.1)=false:=by rfl) (hK:X.K=K:=by rfl) :
    PE X (.Call (.Name "min" p) [e] [] pos) (tCB (wD K) t):=hK ▸ eW (rJ hc) hg B.min (show bootBuiltins "min"=some (.builtin "min") by decide +kernel) ha (by decide) (by decide) he hpl
end
end L2
namespace MG
section
variable {α:Type} [DecidableEq α]
def ix:List α->α->Nat
 | [],_=>0
 | a::r,x=>if a=x then 0 else ix r x+1
end
variable {es:List (Nat × Nat)}
def qS (es:List (Nat × Nat)) (left:List Nat) (k:Nat):Bool:=!(es.any fun e=>decide (e.1∈left)&&decide (e.2=k))
theorem freeB_iff {left:List Nat}{k:Nat}:qS es left k=true ↔ ∀e∈es,e.1∈left->e.2≠k:=by
 unfold qS
 rw[Bool.not_eq_true',<- Bool.not_eq_true,List.any_eq_true]
 constructor
 ·intro h e he h1 h2
  exact h ⟨e,he,by rw[ao h1,ao h2];rfl⟩
 ·rintro h ⟨e,he,q⟩
  rw[bo,decide_eq_true_iff,decide_eq_true_iff] at q
  exact h e he q.1 q.2
def nQ (es:List (Nat × Nat)) (left:List Nat):List Nat:=left.filter (qS es left)
end MG
namespace L2
open PySem PySem.Spec PyProof.Rows
open PySem.AutoSeq1 (wpAny_loadPart')
section
variable {prog:Program}{w:World}{A:Around}{E:Value->Shared->Prop}{s:Shared}
theorem eL {jt tt:Addr}{i:Nat}{its:Array Value}{y:Value}{Q:Value->Shared->Prop}(hj:s.heap.IsTupleIter jt tt i) (htt:s.heap.IsTuple tt its) (hy:its[i]? = some y)
    (hQ:∀h',h'.IsTupleIter jt tt (i+1)->Heap.SameBut jt s.heap h'->Q y { s with heap:=h' }):wpAny (model prog w) A (Builtin.SmallTypes.nextOf (.ref jt)) Q E s:=by
 obtain⟨oj,hoj,cj,dj⟩:=id hj
 obtain⟨ot,hot,_,nt,dt⟩:=htt
 unfold Builtin.SmallTypes.nextOf
 refine aa (wpAny_callSpecial?_slot (name:=Str.ofString "__next__") hj.typeIs F.slot_tuple_iterator_next (wpAny_call_entry F.slot_tuple_iterator_next hj.typeIs F.entry_tuple_iterator_next ?_ (F.args_tuple_iterator_next_1 _)))
 show wpAny _ _ (field (.ref jt) 0 >>= _) _ _ s
 refine aa (aL hoj dj (x:=.ref tt) rfl ?_)
 show wpAny _ _ (if (Value.ref tt==Value.none)=true then _ else _) _ _ s
 rw[if_neg (show ¬ ((Value.ref tt==Value.none)=true) from aH)]
 show wpAny _ _ (field (.ref jt) 1 >>= _) _ _ s
 refine aa (aL hoj dj (x:=.int i 0) rfl (aa (aW hot dt ?_)))
 simp only[bH,hy]
 refine aa (wpAny_setField hoj dj (by simp) (ae ⟨y,rfl,ae (hQ _ ?_ (Heap.SameBut.update ..))⟩))
 exact⟨_,ck _ hoj (Obj.isFreed_of_fields (Obj.data_mapFields dj _)),(Obj.cls_mapFields ..).trans cj,by rw[Obj.data_mapFields dj];simp[rawInt]⟩
theorem fK {jt tt:Addr}{i:Nat}{its:Array Value}{Q:Value->Shared->Prop}(hh:A.handled=none) (hj:s.heap.IsTupleIter jt tt i) (htt:s.heap.IsTuple tt its) (hy:its[i]? = none)
    (hE:∀h' e,Heap.ExtBut jt s.heap h'->(∃o,h'.get? e=some o/\o.cls=.type "StopIteration")->E (.ref e) { s with heap:=h' }):wpAny (model prog w) A (Builtin.SmallTypes.nextOf (.ref jt)) Q E s:=by
 obtain⟨oj,hoj,cj,dj⟩:=id hj
 obtain⟨ot,hot,_,nt,dt⟩:=htt
 unfold Builtin.SmallTypes.nextOf
 refine aa (wpAny_callSpecial?_slot (name:=Str.ofString "__next__") hj.typeIs F.slot_tuple_iterator_next (wpAny_call_entry F.slot_tuple_iterator_next hj.typeIs F.entry_tuple_iterator_next ?_ (F.args_tuple_iterator_next_1 _)))
 show wpAny _ _ (field (.ref jt) 0 >>= _) _ _ s
 refine aa (aL hoj dj (x:=.ref tt) rfl ?_)
 show wpAny _ _ (if (Value.ref tt==Value.none)=true then _ else _) _ _ s
 rw[if_neg (show ¬ ((Value.ref tt==Value.none)=true) from aH)]
 show wpAny _ _ (field (.ref jt) 1 >>= _) _ _ s
 refine aa (aL hoj dj (x:=.int i 0) rfl (aa (aW hot dt ?_)))
 simp only[bH,hy]
 refine aa (wpAny_rule (aa (wpAny_setField hoj dj (by simp) ?_)))
 show wpAny _ _ (newExc (.type "StopIteration") [] >>= _) _ _ _
 refine aa ?_
 simp only[newExc,newTuple]
 refine aa (wpAny_newObj_type (aa (m:=firstArgMember _ _) (wpAny_of_eq (a:=Value.none) (by first | rfl | (simp only[firstArgMember];rfl)) ?_)) (by size_fits))
 refine wpAny_newObj_type ?_ (by size_fits)
 simp only[raiseNew]
 refine aa (wpAny_handled ?_)
 first | rw[show A.in1.handled=none from hh] | rw[hh]
 refine aa (ae (wpAny_throw (hE _ _ (((Heap.SameBut.update ..).extBut.push _).push _) ⟨_,ap _ rfl,rfl⟩)))
theorem yO {prog:Program}{w:World}{A:Around}(hh:A.handled=none) (jt tt:Addr) (hne:tt≠jt) (its:Array Value) :
    Draws prog w A jt [jt,tt] its.size (fun i y=>its[i]? = some y) (fun i h=>h.IsTupleIter jt tt i/\h.IsTuple tt its) where
 live:=fun i h st=>let ⟨o,e,_⟩:=st.1;⟨o,e⟩
 frame:=fun i h h' st k=>⟨let ⟨o,e,r⟩:=st.1;⟨o,k jt (by simp) o e,r⟩,let ⟨o,e,r⟩:=st.2;⟨o,k tt (by simp) o e,r⟩⟩
 item:=fun i s Q E hi st hQ=>eL st.1 st.2 (y:=its[i]) (by simp[hi]) fun h' j' sb=>hQ _ h' s.toks (by simp[hi]) ⟨j',st.2.extBut sb.extBut hne⟩ sb
 done:=fun s Q E st hE=>fK hh st.1 st.2 (by simp) hE
set_option maxHeartbeats 1000000 in
theorem pF (l:Addr) (its:Array Value) (n:Nat) (dct:Option Addr) (sl:Array (Option Value)) :
    Meets (Builtin.«enumerate.__new__» ⟨[.type "enumerate",.ref l],[]⟩) (fun _ R s=>s.heap.get? l=some { cls:=.type "tuple",dict:=dct,data:=.seq its n,slots:=sl } /\
     R (.ok (.ret (.ref (s.heap.push { cls:=.type "tuple_iterator",data:=.fields #[.ref l,.int 0 0] }).objs.size)))
      { s with heap:=(s.heap.push { cls:=.type "tuple_iterator",data:=.fields #[.ref l,.int 0 0] }).push { cls:=.type "enumerate",data:=.fields #[.none,.bool false,.ref s.heap.objs.size,rawInt 0,.none,.none] } }) :=
 .of_wp fun prog w A R s h => by
  obtain⟨h0,g0,d0,t0,os0⟩:=s
  obtain⟨hl,h⟩:=h
  have hsub:=sub_enumerate
  have hT:Heap.IsTuple (Shared.heap ⟨h0,g0,d0,t0,os0⟩) l its:=⟨_,hl,rfl,n,rfl⟩
  wp_walk using wpAny_loadPart' hl
  refine wpAny_stack_any fun st=>ae ?_
  split
  ·rename_i c _ _ _ _ _
   cases (c==Value.type "enumerate")
   ·wp_walk using wpAny_loadPart' hl,bD hT
    exact⟨_,rfl,h⟩
   ·wp_walk using wpAny_loadPart' hl,bD hT
    exact⟨_,rfl,h⟩
  ·wp_walk using wpAny_loadPart' hl,bD hT
   exact⟨_,rfl,h⟩
theorem qZ {l:Addr}{its:Array Value}{Q:Value->Shared->Prop}(hT:s.heap.IsTuple l its)
    (h:∀h',IsEnum h' (s.heap.objs.size+1) s.heap.objs.size 0 .none->h'.IsTupleIter s.heap.objs.size l 0->(∀b o,s.heap.get? b=some o->h'.get? b=some o)->Q (.ref (s.heap.objs.size+1)) { s with heap:=h' }) :
    wpAny (model prog w) A (call (.type "enumerate") [.ref l]) Q E s:=by
 obtain⟨⟨c,dct,dt,sl⟩,hl,hc,n,hd⟩:=hT
 replace hc:c=.type "tuple":=hc
 replace hd:dt=.seq its n:=hd
 subst hc hd
 refine callType_new F.called_enumerate (by decide) (F.typeCall_enumerate_1 _) (F.newCall_enumerate_1 _) (fun obj=>F.args_object_init_2 obj _) F.entry_enumerate_new (pF l its n dct sl) ⟨hl,?_⟩
 have hz:(s.heap.push { cls:=.type "tuple_iterator",data:=.fields #[.ref l,.int 0 0] }).objs.size=s.heap.objs.size+1:=bq ..
 show _/\_
 rw[hz]
 have he:IsEnum ((s.heap.push { cls:=.type "tuple_iterator",data:=.fields #[.ref l,.int 0 0] }).push { cls:=.type "enumerate",data:=.fields #[.none,.bool false,.ref s.heap.objs.size,rawInt 0,.none,.none] }) (s.heap.objs.size+1) s.heap.objs.size 0 .none:=by
  have:=ap (s.heap.push { cls:=.type "tuple_iterator",data:=.fields #[.ref l,.int 0 0] }) (o:={ cls:=.type "enumerate",data:=.fields #[.none,.bool false,.ref s.heap.objs.size,rawInt 0,.none,.none] }) rfl
  rw[hz] at this;exact this
 exact⟨⟨_,he,rfl⟩,h _ he ⟨_,ah _ (ap _ rfl),rfl,rfl⟩ fun b o x=>ah _ (ah _ x)⟩
end
def oy (K:W.Frag) (a:Addr):It :=
 ⟨fun i H=>∃xs x,SqT K H a xs/\xs[i]? = some x,fun i H v H'=>∃p x,H p=none/\v=.ref p/\(∀xs,SqT K H a xs->xs[i]? = some x)/\H'=upd H p (.tup [.int i,x]),fun i H=>∃xs,SqT K H a xs/\xs.length<=i⟩
theorem rm {P:Program}{w:World}{K:W.Frag}{elts:List Expr}{k:Nat}{tp:Pos}(a e it:Addr) (hne:e ≠ it) :
    Turn P w K (.Tuple elts k tp) (oy K a) [e,it] e (fun i h=>(∃old,IsEnum h e it i old)/\h.IsTupleIter it a i) where
 mem:=by simp
 obj:=fun i h st b hb=>by
  obtain⟨⟨old,he⟩,hit⟩:=st
  have hb:b=e∨b=it:=by simpa using hb
  rcases hb with z | z
  ·subst z
   exact⟨_,he,fun v z=>by cases z⟩
  ·subst z
   obtain⟨o,e1,c,d⟩:=hit
   exact⟨o,e1,fun v z=>by rw[d] at z;cases z⟩
 keep:=fun i h h' st kk=>by
  obtain⟨⟨old,he⟩,hit⟩:=st
  exact⟨⟨old,kk e (by simp) _ he⟩,let ⟨o,q,r⟩:=hit;⟨o,kk it (by simp) o q,r⟩⟩
 item := by
  intro X hP hw hK hc i pins s σ H E I hf st hg
  subst hP hw hK
  obtain⟨⟨old,he⟩,hit⟩:=st
  obtain⟨xs,x,hq,hx⟩:=hg
  obtain⟨its,rv,p,hz⟩:=I.tuple hq
  obtain⟨u,hu,ru⟩:=rv.get hx
  obtain⟨f0,f1,f2,f3,f4,f5⟩:=hf e (by simp)
  obtain⟨g0,g1,g2,g3,g4,g5⟩:=hf it (by simp)
  have hel:e<s.heap.objs.size:=ag he
  have hil:it<s.heap.objs.size:=by obtain⟨o,q,_⟩:=hit;exact ag q
  have hae:a≠e:=fun z=>by
   obtain⟨o,q,c,_⟩:=p
   rw[z,he] at q;cases q;simp at c
  have hai:a≠it:=fun z=>by
   obtain⟨o,q,c,_⟩:=p
   obtain⟨o',q',c',_⟩:=hit
   rw[z,q'] at q;cases q;rw[c] at c';simp at c'
  have hul:=(ai.mp hu).1
  refine wpAny_pyNext_enum_itemD (yO (A:=X.A.in1) (show X.A.in1.handled=none from I.ok.hd hc) it a hai its.toArray) he ⟨hit,p⟩ (by simpa using hul) hne (by simp[hne,Ne.symm hae]) fun u' h1 tk hu' ho hit1 ht1 hz1 k1=>?_
  have eu:u'=u:=by
   have:its[i]? = some u':=by simpa using hu'
   rw[hu] at this
   exact(af this).symm
  subst eu
  refine⟨_,rfl,wpAny_letOwnedTupleGo_enum ho fun h2 he2 sb2=>?_⟩
  have sb2:Heap.SameBut e h1 h2:=sb2
  have T2:h2.get? s.heap.objs.size=some { cls:=.type "tuple",data:=.seq #[.int i tk,u'] }:=(sb2.2 _ (bC hel)).trans ht1
  have hp:H s.heap.objs.size=none:=I.hok.fresh (ad _)
  have nit:∀b v,H b=some v->b≠e/\b≠it:=fun b v q=>⟨fun z=>(by rw[z,f0] at q;cases q),fun z=>(by rw[z,g0] at q;cases q)⟩
  have kk:∀b o,b≠e->b≠it->s.heap.get? b=some o->h2.get? b=some o:=fun b o n1 n2 q=>(sb2.2 b n1).trans (k1 b o n1 n2 q)
  have up:∀b v,H b=some v->upd H s.heap.objs.size (.tup [.int i,x]) b=some v:=fun b v q=>by rw[cH (cL q hp)];exact q
  have I1:Inv X pins σ (upd H s.heap.objs.size (.tup [.int i, x])) { s with heap := h2, gens := s.gens, drawn := s.drawn, toks := tk+1 } := by
   refine I.step (g':=s.gens) (d':=s.drawn) (ch:=[e,it]) (fun b hb=>?_) (fun b o _ _ hb q _=>kk b o (fun z=>hb (by simp[z])) (fun z=>hb (by simp[z])) q) (fun b o _ _ hb q _=>⟨o.slots,kk b o (fun z=>hb (by simp[z])) (fun z=>hb (by simp[z])) q⟩) (fun b o _ q n=>?_)
    (fun b o hb q=>⟨o,kk b o (fun z=>hb (by simp[z])) (fun z=>hb (by simp[z])) q⟩) (fun b ys q=>up b _ q) (fun b o v q=>up b _ q) (fun b ps q=>⟨#[],by rw[up b _ q];simp⟩) (fun m hm=>?_) (fun b v q=>?_) I.bare
   ·have hb:b=e∨b=it:=by simpa using hb
    rcases hb with z | z
    ·subst z;exact⟨f3,f1,f4,f5⟩
    ·subst z;exact⟨g3,g1,g4,g5⟩
   ·rw[cH (ak (ag q))];exact n
   ·obtain⟨o,es,ep,ho,r⟩:=hm
    exact⟨o,es,ep,kk _ o (Ne.symm f1) (Ne.symm g1) ho,r⟩
   ·by_cases hb:b=s.heap.objs.size
    ·subst hb
     rw[cF] at q
     have q':HO.tup [V.int i,x]=v:=af q
     subst q'
     exact⟨by show 2<=sizeLine;decide,[.int i tk,u'],.cons ⟨_,rfl⟩ (.cons ru .nil),⟨_,T2,rfl,_,rfl,rfl⟩⟩
    ·rw[cH hb] at q
     refine(I.hok b v q).stay (fun c v' hc q'=>?_) (fun c q=>up c _ q) fun c ys q=>up c _ q
     rcases hc with z | z
     ·rw[z] at q' ⊢;exact kk b v' (nit b v q).1 (nit b v q).2 q'
     ·exact kk c v' (nit c _ z).1 (nit c _ z).2 q'
  refine⟨.ref s.heap.objs.size,upd H s.heap.objs.size (.tup [.int i,x]),I1,rfl,⟨_,x,hp,rfl,fun ys hy=>by rw[I.tuple_inj hy hq];exact hx,rfl⟩,⟨⟨u',?_⟩,?_⟩,fun b hb=>?_⟩
  ·exact(by simpa using he2)
  ·obtain⟨o,q,r⟩:=hit1.1
   exact⟨o,(sb2.2 it (Ne.symm hne)).trans q,r⟩
  ·have hb:b=e∨b=it:=by simpa using hb
   rcases hb with z | z
   ·rw[z,cH (ak hel)];exact f0
   ·rw[z,cH (ak hil)];exact g0
 done:=by
  intro X hP hw hK hc i pins s σ H E I hf st hg
  subst hP hw hK
  obtain⟨⟨old,he⟩,hit⟩:=st
  obtain⟨xs,hq,hx⟩:=hg
  obtain⟨its,rv,p,hz⟩:=I.tuple hq
  obtain⟨g0,g1,g2,g3,g4,g5⟩:=hf it (by simp)
  have hl:=rv.length
  have hT:s.TypeIs (.ref e) "enumerate":=⟨_,he,rfl⟩
  unfold pyNext
  refine aa (wpAny_attempt (wpAny_callSpecial?_slot (name:=Str.ofString "__next__") hT F.slot_enumerate_next (wpAny_call_entry F.slot_enumerate_next hT F.entry_enumerate_next ?_ (F.args_enumerate_next_1 _))))
  show wpAny _ _ (field (.ref e) 2 >>= _) _ _ _
  refine aa (aL he rfl (x:=.ref it) rfl (aa (fK (I.ok.hd hc) hit p (by simp;omega) fun h' x he' hx'=>?_)))
  obtain⟨o,ho,hc'⟩:=hx'
  refine aa (wpAny_isInstance (T:="StopIteration") (b:=true) ⟨o,ho,hc'⟩ isSubtype_stop ?_)
  exact ae ⟨rfl,I.turned (t':=s.toks) (fun b o hb q=>he' b o hb q) g0 g1 g3 g4 g5⟩
 self:=fun _ _ _ _ _ st h=>by
  obtain⟨⟨old,he⟩,_⟩:=st
  exact wpAny_pyIter_enum he h
inductive EnmR (K:W.Frag) (H:Hp):V->(It->Hp->Prop)->Prop
 | lst {a:Addr} {xs:List V} {R:It->Hp->Prop}:SqL K H a xs->R (Ite K a) H->EnmR K H (.ref a) R
 | tup {a:Addr} {xs:List V} {R:It->Hp->Prop}:SqT K H a xs->R (oy K a) H->EnmR K H (.ref a) R
def yL (K:W.Frag) (ta:TA):TI:=fun σ H R=>ta σ H fun vs H1=>∃x,vs=[x]/\EnmR K H1 x R
theorem oE (K:W.Frag) {X:Cx}{elts:List Expr}{k:Nat}{tp:Pos}{a:Expr}{ta:TA}{p pos:Pos}(hg:Gl X "enumerate") (hm:X.mg "enumerate"=none) (ha:PA X [a] ta) (hs:starEach [a] X.env=[(false,eval a X.env)]:=by rfl) (hK:X.K=K:=by rfl) :
    PI X (.Tuple elts k tp) (.Call (.Name "enumerate" p) [a] [] pos) (yL K ta):=by
 subst hK
 intro pins s σ H R I h
 refine Call_ (gs I hg hm boot_enumerate (PyProof.Rows.callWith_type1 (thn (ha pos pins s σ H _ I h) fun us s1 ⟨vs,H1,I1,r1,q1⟩=>?_) hs rfl))
 obtain⟨x,e,q⟩:=q1
 subst e
 obtain⟨u,rfl,ru⟩:=fq r1
 have fin:∀b,b=s1.heap.objs.size+1∨b=s1.heap.objs.size->eQ X pins H1 b:=fun b hb=>by
  rcases hb with z | z
  ·subst z;exact I1.fpOk (bL _) (I1.hok.fresh (bL _))
  ·subst z;exact I1.fpOk (ad _) (I1.hok.fresh (ad _))
 cases q with
 | lst hq q =>
  cases ru
  obtain⟨its,rv,pl,hz⟩:=I1.list hq
  refine call_enumerate_list pl.isList fun h' he hit hz' k'=>wpAny_pyIter_enum (s:={ s1 with heap:=h' }) he ?_
  exact⟨_,[s1.heap.objs.size+1,s1.heap.objs.size],_,_,H1,rfl,I1.kept (t':=s1.toks) k',rN _ _ _ (Nat.succ_ne_self _),⟨⟨_,he⟩,hit⟩,fun b hb=>fin b (by simpa using hb),q⟩
 | tup hq q =>
  cases ru
  obtain⟨its,rv,pl,hz⟩:=I1.tuple hq
  refine qZ pl fun h' he hit k'=>wpAny_pyIter_enum (s:={ s1 with heap:=h' }) he ?_
  exact⟨_,[s1.heap.objs.size+1,s1.heap.objs.size],_,_,H1,rfl,I1.kept (t':=s1.toks) k',rm _ _ _ (Nat.succ_ne_self _),⟨⟨_,he⟩,hit⟩,fun b hb=>fin b (by simpa using hb),q⟩
theorem nq {K:W.Frag}{a:Addr}{xs:List V}{g:TG}{tb:TS}{D:Ends}{σ:St}{H:Hp}(Pv:Nat -> St -> Hp -> Prop) (h0:Pv 0 σ H) (hl:∀i σ H, i <= xs.length -> Pv i σ H -> SqT K H a xs)
    (hs:∀i x σ H p,xs[i]? = some x->Pv i σ H->H p=none->g (.ref p) σ (upd H p (.tup [.int i,x])) fun σ2 H2=>tb { D with nx:=Pv (i+1),ct:=Pv (i+1),bk:=D.nx } σ2 H2) (hd:∀σ H,Pv xs.length σ H->D.nx σ H) :
    ∃W:Nat->Nat->St->Hp->Prop,(∃m,W 0 m σ H)/\∀i m σ H,W i m σ H ->
     ((oy K a).stop i H/\D.nx σ H)∨((oy K a).go i H/\∃N:St->Hp->Prop,(∀σ' H',N σ' H'->∃m',m'<m/\W (i+1) m' σ' H')/\∀x H',(oy K a).yld i H x H'->g x σ H' fun σ2 H2=>tb { D with nx:=N,ct:=N,bk:=D.nx } σ2 H2):=by
 refine⟨fun i m σ H=>m=xs.length-i/\i<=xs.length/\Pv i σ H,⟨xs.length,by simp,aT _,h0⟩,?_⟩
 rintro i m σ H ⟨rfl,hi,p⟩
 have q:=hl i σ H hi p
 by_cases hlt:i<xs.length
 ·refine .inr ⟨⟨xs,xs[i],q,by simp[hlt]⟩,Pv (i+1),fun σ' H' p'=>⟨xs.length-(i+1),by omega,rfl,hlt,p'⟩,fun x H' y=>?_⟩
  obtain⟨r,z,hr,rfl,hz,rfl⟩:=y
  exact hs i z σ H r (hz xs q) p hr
 ·have e:i=xs.length:=by omega
  subst e
  exact .inl ⟨⟨xs,q,ad _⟩,hd σ H p⟩
end L2
namespace L2
open PySem PySem.Spec PyProof.Rows
abbrev Zp (h:Heap) (z TI TO:Addr) (f0:Value) (f1:Bool):Prop:=h.get? z=some { cls:=.type "zip",dict:=none,data:=.fields #[f0,.bool f1,.bool false,.ref TI,.ref TO],slots:=#[] }
def F0 (f0:Value):Prop:=f0=.none∨∃T:Nat,f0=rawInt (T:Int)
section
variable {prog:Program}{w:World}{A:Around}{E:Value->Shared->Prop}{s:Shared}
theorem rQ {a:Addr}{Q:Option Obj->Shared->Prop}(h:Q (s.heap.get? a) s):wpAny (model prog w) A (loadIfAlive a) Q E s:=fun _ _ _=>h
theorem kE {z TI TO:Addr}{f0:Value}{f1:Bool}(hf:F0 f0) (hz:Zp s.heap z TI TO f0 f1) {Q:Bool -> Shared -> Prop}(h:∀b f1' h', Zp h' z TI TO f0 f1' -> Heap.SameBut z s.heap h' -> Q b { s with heap := h' }) :
    wpAny (model prog w) A (Builtin.SmallTypes.ownedTupleIsFree (.ref z)) Q E s:=by
 unfold Builtin.SmallTypes.ownedTupleIsFree
 rcases hf with rfl | ⟨T,rfl⟩
 ·exact aa (aL hz rfl (x:=.none) rfl (ae (h true f1 s.heap hz (Heap.SameBut.refl ..))))
 ·refine aa (aL hz rfl (x := rawInt (T:Int)) rfl ?_)
  refine aa (rQ ?_)
  cases s.heap.get? (T:Int).toNat with
  | none=>exact ae (h true f1 s.heap hz (Heap.SameBut.refl ..))
  | some o =>
   show wpAny _ _ (field (.ref z) 1 >>= _) _ _ _
   refine aa (aL hz rfl (x:=.bool f1) rfl ?_)
   cases f1 with
   | true=>exact ae (h false true s.heap hz (Heap.SameBut.refl ..))
   | false =>
    show wpAny _ _ (setField (.ref z) 1 (.bool true) >>= _) _ _ _
    exact aa (bg hz (by simp) fun h1 hz1 sb=>ae (h false true h1 hz1 sb))
end
theorem gq {prog:Program}{w:World}{A:Around}{E:Value->Shared->Prop}{s:Shared}{z:Addr}{Q:Option Value->Shared->Prop}(hT:s.TypeIs (.ref z) "zip")
    (h:wpAny (model prog w) A.in1 (Builtin.«zip.__next__» ⟨[.ref z],[]⟩) (fun fin s'=>∃v,fin=.done (.ret v)/\Q (some v) s') (fun e s'=>(∃o,s'.heap.get? (match e with | .ref a=>a | _=>0)=some o/\o.cls=.type "StopIteration")/\(∃a,e=.ref a)/\Q none s') s) :
    wpAny (model prog w) A (pyNext (.ref z)) Q E s:=by
 unfold pyNext
 refine aa (wpAny_attempt (wpAny_callSpecial?_slot (name:=Str.ofString "__next__") hT F.slot_zip_next (wpAny_call_entry F.slot_zip_next hT F.entry_zip_next (aO h (fun fin s' ⟨v,e,q⟩=>⟨v,e,ae q⟩) fun e s' q=>?_) (F.args_zip_next_1 _))))
 obtain⟨⟨o,ho,hc⟩,⟨a,rfl⟩,q⟩:=q
 exact aa (wpAny_isInstance (T:="StopIteration") (b:=true) ⟨o,ho,hc⟩ isSubtype_stop (ae q))
inductive Thg (H:Hp):V->Prop
 | non:Thg H .non
 | bl (b:Bool):Thg H (.bl b)
 | int (i:Int):Thg H (.int i)
 | str {z:Str}:z.length<=sizeLine->Thg H (.str z)
 | lst {a:Addr} {xs:List V}:H a=some (.lst xs)->Thg H (.ref a)
 | tup {a:Addr} {xs:List V}:H a=some (.tup xs)->Thg H (.ref a)
 | dK {a:Addr} {kvs:List (Key × V)}:H a=some (.dK kvs)->Thg H (.ref a)
 | dT {a:Addr} {kvs:List (List Key × V)}:H a=some (.dT kvs)->Thg H (.ref a)
theorem Thg.same {H H':Hp}{x:V}(h:Thg H x) (s:Same H H'):Thg H' x:=by
 cases h with
 | non=>exact .non
 | bl b=>exact .bl b
 | int i=>exact .int i
 | str z=>exact .str z
 | lst e=>exact .lst (s _ _ e)
 | tup e=>exact .tup (s _ _ e)
 | dK e=>exact .dK (s _ _ e)
 | dT e=>exact .dT (s _ _ e)
def isS:V->Bool
 | .str _=>true
 | _=>false
def isI:V->Bool
 | .int _ | .bl _=>true
 | _=>false
def isB:V->Bool
 | .bl _=>true
 | _=>false
def isL (H:Hp):V->Bool
 | .ref a=>match H a with
  | some (.lst _)=>true
  | _=>false
 | _=>false
def isT (H:Hp):V->Bool
 | .ref a=>match H a with
  | some (.tup _)=>true
  | _=>false
 | _=>false
theorem iR {H:Hp}{a:Addr}{xs:List V}(e:H a=some (.lst xs)):isL H (.ref a)=true:=by show (match H a with | some (.lst _)=>true | _=>false)=true;rw[e]
theorem iM {H:Hp}{a:Addr}{xs:List V}(e:H a=some (.tup xs)):isT H (.ref a)=true:=by show (match H a with | some (.tup _)=>true | _=>false)=true;rw[e]
theorem fJ {H:Hp}{a:Addr}{o:HO}(e:H a=some o) (n:∀xs,o≠.lst xs):isL H (.ref a)=false:=by
 show (match H a with | some (.lst _)=>true | _=>false)=false
 rw[e];split
 ·rename_i xs q;exact absurd (af q) (n xs)
 ·rfl
theorem fG {H:Hp}{a:Addr}{o:HO}(e:H a=some o) (n:∀xs,o≠.tup xs):isT H (.ref a)=false:=by
 show (match H a with | some (.tup _)=>true | _=>false)=false
 rw[e];split
 ·rename_i xs q;exact absurd (af q) (n xs)
 ·rfl
theorem jW {K:W.Frag}{H:Hp}{x:V}(h:Thg H x):∃t,TyOf K H x t/\W.kitOne K t (.type "str")=some (isS x)/\W.kitOne K t (.type "int")=some (isI x)/\W.kitOne K t (.type "bool")=some (isB x) /\
    W.kitOne K t (.type "list")=some (isL H x)/\W.kitOne K t (.type "tuple")=some (isT H x):=by
 cases h with
 | non=>exact⟨_,.non,by rfl,by rfl,by rfl,by rfl,by rfl⟩
 | bl b=>exact⟨_,.bl b,by rfl,by rfl,by rfl,by rfl,by rfl⟩
 | int i=>exact⟨_,.int i,by rfl,by rfl,by rfl,by rfl,by rfl⟩
 | str z=>exact⟨_,.str _,by rfl,by rfl,by rfl,by rfl,by rfl⟩
 | lst e=>exact⟨_,.lst e,by rfl,by rfl,by rfl,by rw[iR e];rfl,by rw[fG e (fun _ z=>by cases z)];rfl⟩
 | tup e=>exact⟨_,.tup e,by rfl,by rfl,by rfl,by rw[fJ e (fun _ z=>by cases z)];rfl,by rw[iM e];rfl⟩
 | dK e=>exact⟨_,.dK e,by rfl,by rfl,by rfl,by rw[fJ e (fun _ z=>by cases z)];rfl,by rw[fG e (fun _ z=>by cases z)];rfl⟩
 | dT e=>exact⟨_,.dT e,by rfl,by rfl,by rfl,by rw[fJ e (fun _ z=>by cases z)];rfl,by rw[fG e (fun _ z=>by cases z)];rfl⟩
def pK (e:Str × Str):List Key:=[.inr e.1,.inr e.2]
theorem zg {e f:Str × Str}(h:pK e=pK f):e=f:=by
 unfold pK at h
 have h1:=List.cons.inj h
 have h2:=List.cons.inj h1.2
 exact Prod.ext (Sum.inr.inj h1.1) (Sum.inr.inj h2.1)
inductive PlR (H:Hp):V -> VK -> Prop
 | nm {a:Addr} {xs:List Str} {Q:VK}:(H a=some (.lst (List.map V.str xs))∨H a=some (.tup (List.map V.str xs)))->xs.length<=1000 ->
     (∀d kvs H',Same H H'->H d=none->H' d=some (.dK kvs)->(∀s,(cY kvs (.inr s)).isSome=true ↔ s∈xs)->(∀s v,cY kvs (.inr s)=some v->∃j:Nat,v=.int j/\xs[j]? = some s)->(kvs.map (·.1)).Nodup->(∀k∈kvs.map (·.1),∃s∈xs,k=Sum.inr s)->Q (.ref d) H')->PlR H (.ref a) Q
 | pr {a:Addr} {refs:List V} {ps:List (Str × Str)} {Q:VK}:(H a=some (.lst refs)∨H a=some (.tup refs))->RepAll H refs (ps.map er)->ps.length<=1000 ->
     (∀d kvs H',Same H H'->H d=none->H' d=some (.dT kvs)->(∀e:Str × Str,(cY kvs (pK e)).isSome=true ↔ e∈ps)->Q (.ref d) H')->PlR H (.ref a) Q
def jS:Sp:=fun vs H Q _=>∃x,vs=[x]/\PlR H x Q
section
variable {X:Cx}{p pos p2 pos2:Pos}{e f:Expr}{t:TA}
theorem mY (B:Blt X.mg) (hg:Gl X "tuple":=by rfl):PE X (.Name "tuple" p) (tC (.ty "tuple")):=i9 hg B.tuple (show bootBuiltins "tuple"=some (.type "tuple") by decide +kernel) rfl
def vY (K:W.Frag) (c d:String):List V->Hp->VK->Prop:=fun xs H Q=>∃x a t b,xs=[x,.ref a]/\H a=some (.tup [.ty c,.ty d])/\TyOf K H x t/\W.kitAny K t [.type c,.type d]=some b/\Q (.bl b) H
theorem rk {pins:List (Addr × Obj)}{σ:St}{H:Hp}{s:Shared}{A:Around}{E:Value->Shared->Prop}{Q:Value->Shared->Prop}{x:V}{u t:Value}{tp:Addr}{dd:Option Addr}{its:List Value}{n:Nat}{sl:Array (Option Value)}{b:Bool}
    (I:Inv X pins σ H s) (rx:RelV x u) (ty:TyOf X.K H x t) (htp:s.heap.get? tp=some ⟨.type "tuple",dd,.seq its.toArray n,sl⟩) (e:W.kitAny X.K t its=some b) (h:∀tk,Q (.bool b) { s with toks:=tk }) :
    wpAny (model X.prog X.w) A (call (.builtin "isinstance") [u,.ref tp]) Q E s:=by
 cases ty with
 | non=>cases (show u=Value.none from rx);exact W.kia_tup W.kitx_none I.kIn True.intro htp e (fun z=>nomatch z) h
 | bl y=>cases (show u=Value.bool y from rx);exact W.kia_tup W.kitx_bool I.kIn True.intro htp e (fun z=>nomatch z) h
 | int i=>obtain⟨t,q⟩:=(show ∃t,u=Value.int i t from rx);cases q;exact W.kia_tup W.kitx_int I.kIn True.intro htp e (fun z=>nomatch z) h
 | str y=>obtain⟨t,q⟩:=(show ∃t,u=Value.str y t from rx);cases q;exact W.kia_tup W.kitx_str I.kIn True.intro htp e (fun z=>nomatch z) h
 | flt y=>obtain⟨t,q⟩:=(show ∃t,u=Value.float y t from rx);cases q;exact W.kia_tup W.kitx_float I.kIn True.intro htp e (fun z=>nomatch z) h
 | @lst a xs ea =>
  cases (show u=Value.ref a from rx)
  obtain⟨_,_,n,_,h1⟩:=(show ObjOk X.prog X.w H s.heap a (.lst xs) from I.hok a _ ea)
  exact W.kia_tup W.kitx_list I.kIn ⟨_,h1,rfl⟩ htp e (fun z=>nomatch z) h
 | @frz a ob xs ea =>
  cases (show u=Value.ref a from rx)
  obtain⟨_,_,_,n,_,h1⟩:=(show ObjOk X.prog X.w H s.heap a (.frz ob (.lst xs)) from I.hok a _ ea)
  exact W.kia_tup W.kitx_list I.kIn ⟨_,h1,rfl⟩ htp e (fun z=>nomatch z) h
 | @tup a xs ea =>
  cases (show u=Value.ref a from rx)
  obtain⟨_,_,_,p⟩:=(show ObjOk X.prog X.w H s.heap a (.tup xs) from I.hok a _ ea)
  obtain⟨o,h1,h2,_⟩:=p
  exact W.kia_tup W.kitx_tuple I.kIn ⟨o,h1,h2⟩ htp e (fun z=>nomatch z) h
 | @dK a kvs ea =>
  cases (show u=Value.ref a from rx)
  obtain⟨_,_,vs,_,p⟩:=(show ObjOk X.prog X.w H s.heap a (.dK kvs) from I.hok a _ ea)
  obtain⟨o,es,ep,h1,h2,_⟩:=p
  exact W.kia_tup W.kitx_dict I.kIn ⟨o,h1,h2.1⟩ htp e (fun z=>nomatch z) h
 | @dT a kvs ea =>
  cases (show u=Value.ref a from rx)
  obtain⟨_,_,xs,_,o,es,ep,h1,h2,_⟩:=(show ObjOk X.prog X.w H s.heap a (.dT kvs) from I.hok a _ ea)
  exact W.kia_tup W.kitx_dict I.kIn ⟨o,h1,h2.1⟩ htp e (fun z=>nomatch z) h
 | @ins a C dx fs ea cl ha hn htk hm =>
  cases (show u=Value.ref a from rx)
  obtain⟨mA,O,_⟩:=pN I.hok ea
  obtain⟨od,J,_⟩:=O.look
  exact W.kia_tup (W.kitx_own (cl.get _) cl.hd ha hn htk hm) I.kIn J htp e (fun z=>nomatch z) h
theorem ua (c d:String):fA X (.builtin "isinstance") (vY X.K c d):=by
 intro pins s σ H xs us Q I r h
 obtain⟨x,a,t,b,rfl,ea,ty,e,q⟩:=h
 obtain⟨u,w',rfl,ru,rw'⟩:=hU r
 cases rw'
 obtain⟨_,its,rv,⟨oc,od,odt,osl⟩,h1,h2,n,h3,_⟩:=(show ObjOk X.prog X.w H s.heap a (.tup [.ty c,.ty d]) from I.hok a _ ea)
 have h2:oc=.type "tuple":=h2
 have h3:odt=.seq its.toArray n:=h3
 subst h2 h3
 obtain⟨u1,u2,rfl,r1,r2⟩:=hU rv
 cases r1
 cases r2
 exact rk I ru ty h1 e fun tk=>⟨.bl b,H,I.tok tk,rfl,q⟩
theorem om (K:W.Frag) (c d:String) (B:Blt X.mg) (ha:PA X [e,f] t) (hg:Gl X "isinstance":=by rfl) (he:starEach [e,f] X.env=(false,eval e X.env)::starEach [f] X.env:=by rfl) (hpl:(backTo pos (starEach [f] X.env)).any (·.1)=false:=by rfl) (hK:X.K=K:=by rfl):PE X (.Call (.Name "isinstance" p) [e,f] [] pos) (tCB (vY K c d) t) :=
 hK ▸ eW (ua c d) hg B.isinstance boot_isinstance ha (by decide) (by decide) he hpl
end
theorem pf {K:W.Frag}{H:Hp}{x:V}{t:Value}(h1:W.kitOne K t (.type "list")=some (isL H x)) (h2:W.kitOne K t (.type "tuple")=some (isT H x)):W.kitAny K t [.type "list",.type "tuple"]=some (isL H x||isT H x):=by
 unfold W.kitAny
 rw[h1]
 cases isL H x with
 | true=>rfl
 | false =>
  show W.kitAny K t [.type "tuple"]=_
  unfold W.kitAny
  rw[h2]
  cases isT H x <;> rfl
section
variable {X:Cx}{p pos:Pos}{e:Expr}{t:TA}
def zU:List V->Hp->VK->Prop:=fun xs H Q=>∃a kvs,xs=[V.ref a]/\H a=some (.dK kvs)/\Q (.int kvs.length) H
theorem yk (B:Blt X.mg) (ha:PA X [e] t) (hg:Gl X "len":=by rfl) (he:starEach [e] X.env=(false,eval e X.env)::starEach [] X.env:=by rfl) (hpl:(backTo pos (starEach [] X.env)).any (·.1)=false:=by rfl):PE X (.Call (.Name "len" p) [e] [] pos) (tCB zU t) :=
 eW rL hg B.len PySem.boot_len ha (by decide) (by decide) he hpl
end
end L2
namespace L2
open PySem PySem.Spec PyProof.Rows PySem.Builtin PySem.Builtin.Str
theorem fT {c:Const}{j:Nat}{p:Pos}{es:List Expr}{env:Env}:starEach (.Constant c j p::es) env=(false,eval (.Constant c j p) env)::starEach es env:=rfl
theorem ud {xs:List Expr}{p:Pos}{es:List Expr}{env:Env}:starEach (.List xs p::es) env=(false,eval (.List xs p) env)::starEach es env:=rfl
theorem tu {xs:List Expr}{k:Nat}{p:Pos}{es:List Expr}{env:Env}:starEach (.Tuple xs k p::es) env=(false,eval (.Tuple xs k p) env)::starEach es env:=rfl
theorem sN {x y:Expr}{o:Operator}{p:Pos}{es:List Expr}{env:Env}:starEach (.BinOp x o y p::es) env=(false,eval (.BinOp x o y p) env)::starEach es env:=rfl
theorem yI {x:Expr}{xs:List Expr}{ks:List Keyword}{p:Pos}{es:List Expr}{env:Env}:starEach (.Call x xs ks p::es) env=(false,eval (.Call x xs ks p) env)::starEach es env:=rfl
theorem rX {xs:List (Option Expr)}{ys:List Expr}{p:Pos}{es:List Expr}{env:Env}:starEach (.Dict xs ys p::es) env=(false,eval (.Dict xs ys p) env)::starEach es env:=rfl
end L2
namespace L2
open PySem PySem.Spec PyProof.Rows
def SqA (H:Hp) (a:Addr) (xs:List V):Prop:=H a=some (.lst xs)∨H a=some (.tup xs)
theorem SqA.same {H H':Hp}{a:Addr}{xs:List V}(h:SqA H a xs) (s:Same H H'):SqA H' a xs:=by
 rcases h with h | h
 ·exact .inl (s _ _ h)
 ·exact .inr (s _ _ h)
theorem SqA.len {K:W.Frag}{H:Hp}{a:Addr}{xs:List V}(h:SqA H a xs):vH K (.ref a) H xs.length:=by
 rcases h with h | h
 ·exact .inl ⟨xs,.of h,rfl⟩
 ·exact .inr ⟨xs,.of h,rfl⟩
theorem SqA.thg {H:Hp}{a:Addr}{xs:List V}(h:SqA H a xs):Thg H (.ref a):=by
 rcases h with h | h
 ·exact .lst h
 ·exact .tup h
theorem SqA.lt {H:Hp}{a:Addr}{xs:List V}(h:SqA H a xs):(isL H (.ref a)||isT H (.ref a))=true:=by
 rcases h with h | h
 ·rw[iR h];rfl
 ·rw[iM h,Bool.or_true]
section
variable {X:Cx}{p pos p2 pos2:Pos}{e f:Expr}{t:TA}
theorem pp:MtR X "list.reverse" lx:=ql
theorem sy (K:W.Frag) {o:Expr}{to:TE}{apos cpos:Pos}(ho:PE X o to) (hbase:attributeBase o "reverse" X.env (eval o X.env)=eval o X.env:=by rfl) (hline:(apos.endLine==cpos.line)=true:=by rfl) (hK:X.K=K:=by rfl) :
    PE X (.Call (.Attribute o "reverse" apos) [] [] cpos) (yv K "list" lx to):=hK ▸ yR PySem.F.plainAttrs_list PySem.F.slot_list_reverse PySem.F.type_list_reverse pp ho hbase hline
theorem xZ (B:Blt X.mg) (ha:PA X [e] t) (hg:Gl X "str":=by rfl) (he:starEach [e] X.env=(false,eval e X.env)::starEach [] X.env:=by rfl) (hpl:(backTo pos (starEach [] X.env)).any (·.1)=false:=by rfl) :
    PE X (.Call (.Name "str" p) [e] [] pos) (tCB (fun xs H Q=>∃i:Int,xs=[.int i]/\i.natAbs.log2<1920/\Q (.str (toString i)) H) t) :=
 h8 oM hg B.str (show bootBuiltins "str"=some (.type "str") by decide +kernel) ha (by decide) (by decide) he hpl
end
theorem jD {α:Type}{M:Model}{A:Around}{E:Value->Shared->Prop}{s:Shared}{m:Sem (Option α)}{P:α->Shared->Prop}
    (h:wpAny M A m (fun r s1=>∃u,r=some u/\wpAny M A (pure ():Sem Unit) (fun _ s2=>P u s2) E s1) E s):wpAny M A m (fun r s1=>∃u,r=some u/\P u s1) E s:=by
 intro Γ p hΓ
 exact Sem.wp_mono M Γ m (fun r p' s1 ⟨u,e,q⟩=>⟨u,e,q Γ p' hΓ⟩) (fun _ _ _ z=>z) p s (h Γ p hΓ)
theorem Inv.atA {X:Cx}{pins:List (Addr × Obj)}{σ:St}{H:Hp}{s:Shared}(I:Inv X pins σ H s) (A':Around) (h1:A'.handled=X.A.handled) (h2:A'.frames=X.A.frames):Inv { X with A:=A' } pins σ H s :=
 ⟨⟨I.ok.mod,I.ok.kind,I.ok.glob,I.ok.blt,I.ok.above,I.ok.inj,I.ok.has,I.ok.cab,fun c=>h1.trans (I.ok.hd c),h2.trans I.ok.frames,I.ok.stk,I.ok.exf,I.ok.bs,I.ok.bsz,I.ok.noex,I.ok.exfs,I.ok.funs,I.ok.frf⟩,
  I.os,I.bare,I.base,I.loc,I.cell,I.free,I.freeC,I.pin,I.hok,I.len⟩
theorem Inv.ofA {X:Cx}{pins:List (Addr × Obj)}{σ:St}{H:Hp}{s:Shared}{A':Around}(ok:X.Ok) (I:Inv { X with A:=A' } pins σ H s):Inv X pins σ H s :=
 ⟨ok,I.os,I.bare,I.base,I.loc,I.cell,I.free,I.freeC,I.pin,I.hok,I.len⟩
theorem mM:typeLookup (.type "list") "keys"=pure none:=am_miss_of_fast (by decide +kernel)
theorem nN:typeLookup (.type "zip") "keys"=pure none:=am_miss_of_fast (by decide +kernel)
section
variable {prog:Program}{w:World}{A:Around}{E:Value->Shared->Prop}{s:Shared}
theorem pC {a:Addr}{o:Obj}{xs:Array Value}{k:Nat}{Q:Option Value->Shared->Prop}
    (hx:s.heap.get? a=some o) (hc:o.cls=.type "list") (hdat:o.data=.seq xs k) (hd:o.dict=none) (hA:A.handled=none)
    (h:∀h' tk,(∀b ob,s.heap.get? b=some ob->h'.get? b=some ob)->Q none { s with heap:=h',toks:=tk }) :
    wpAny (model prog w) A (getAttr? (.ref a) "keys") Q E s:=by
 obtain⟨c,dct,dat,sl⟩:=o
 simp only at hc hdat hd
 subst hc hdat hd
 obtain⟨hp,g,d,tk,os⟩:=s
 have hT:∀tk',(⟨hp,g,d,tk',os⟩:Shared).TypeIs (.ref a) "list":=fun _=>⟨_,hx,rfl⟩
 have f1:=sub_AttributeError
 have f3:=F.slot_list_getattribute.lookup
 have f4:=F.slot_list_getattribute.bind (.ref a)
 have f5:=am_list_getattr_none
 unfold getAttr? getAttrBy? getAttrBy
 repeat (any_goals (first | assumption | exact hT _ | ((with_reducible show wpAny _ _ (call (Value.builtin "list.__getattribute__") _ _) _ _ _);refine call_meets F.slot_list_getattribute (hT _) am_entry_list_getattribute (F.args_list_getattribute_2 _ _) (meets_getattribute_miss_list a xs k sl "keys" _ mM (by decide +kernel)) ⟨hx,hA,fun h' tk' e hx'=>?_⟩) | wp_step))
 obtain⟨t',u',he⟩:=hx'.there
 show wpAny _ _ (getattributeRaised _ _ _ _ _ _ _) _ _ _
 unfold getattributeRaised
 repeat (any_goals (first | assumption | wp_step))
 exact h _ _ hx'.keeps
end
namespace DU
theorem entry_loop:entryFor table "dict.update.loop"=some Builtin.«dict.update.loop»:=entryFor_of_fast (by kernel_rfl)
theorem plain_loop:plainId "dict.update.loop"=true:=by decide +kernel
end DU
section
variable {X:Cx}{pins:List (Addr × Obj)}{σ:St}{H:Hp}{s:Shared}{a:Addr}{y v:V}{u r:Value}{A:Around}{E:Value->Shared->Prop}
theorem ux {H':Hp}{Q:Unit->Shared->Prop}(hu:A.units<cLine) (I:Inv X pins σ H s) (g:DPut H a y v H') (ry:RelV y u) (rv:RelV v r) (h:∀s',Inv X pins σ H' s'->(∀b o,b≠a->s.heap.get? b=some o->s'.heap.get? b=some o)->Q () s') :
    wpAny (model X.prog X.w) A (dictSet a u r) Q E s:=by
 rcases g with⟨kvs,k,e,ey,l,eH⟩ | ⟨kvs,k,b,e,ey,eb,l,eH⟩
 ·subst ey eH
  obtain⟨z,hd,vs,rel,dd⟩:=wC I.hok e
  have hz:vs.length<=sizeLine:=by rw[<- rel.length];exact z
  have hl:(dL kvs k v).length<=sizeLine:=by have:=eK kvs k v;omega
  refine wpAny_dictSet_pairs (hsz:=hz) (kJ ry) dd fun h' dd' hs=>h _ ?_ fun b o n q=>hs.extBut _ _ n q
  have he:∃q,h'.get? a=some q:=let ⟨q,_,_,hq,_⟩:=dd';⟨q,hq⟩
  exact kM I (by rw[e];exact True.intro) hs he (uw hl hd (rel.put k rv) dd')
 ·subst ey eH
  cases (show u=Value.ref b from ry)
  obtain⟨z,hd,xs,rel,dd⟩:=wc I.hok e
  have hz:xs.length<=sizeLine:=by rw[<- Paired.length rel];exact z
  have hl:(dL kvs k v).length<=sizeLine:=by have:=eK kvs k v;omega
  refine wpAny_dictSet_heap (hsz:=hz) hu (jl I.hok eb) dd fun h' dd' hs=>h _ ?_ fun b o n q=>hs.extBut _ _ n q
  obtain⟨q,es,ep,hq,h2,h3,h4,_,h5⟩:=dd'
  refine kM I (by rw[e];exact True.intro) hs ⟨q,hq⟩ ⟨hl,hd,_,(rel.put k eb rv).keeps fun c ys ec=>?_,q,es,ep,hq,h2,h3,h4,h5⟩
  rw[cH (ft ec e (fun z=>nomatch z))]
  exact ec
theorem DPut.at_ {H':Hp}(g:DPut H a y v H'):(∃o,H a=some o)/\∀b,b≠a->H' b=H b:=by
 rcases g with⟨kvs,k,e,ey,l,eH⟩ | ⟨kvs,k,b,e,ey,eb,l,eH⟩
 ·exact⟨⟨_,e⟩,fun b n=>by rw[eH,cH n]⟩
 ·exact⟨⟨_,e⟩,fun b n=>by rw[eH,cH n]⟩
end
theorem jX {X:Cx}{pins:List (Addr × Obj)}{σ:St}{nm:Str}{tp:Pos}{J:It}{fp:List Addr}{it:Addr}{tn:Nat -> Heap -> Prop}(T:Turn X.prog X.w X.K (.Name nm tp) J fp it tn) (hc:X.calm=true) (hu:X.A.units+64<cLine) (d:Addr) (n:Nat) (Dv:Nat -> Hp -> Prop)
    (go:∀i H,i<n->Dv i H->J.go i H/\∀x H1,J.yld i H x H1->∃b k v H2,x=.ref b/\SqT X.K H1 b [k,v]/\DPut H1 d k v H2/\Dv (i+1) H2)
    (stop:∀H,Dv n H->J.stop n H) {R:Result->Shared->Prop}:∀(k i:Nat) (j:Int) (s:Shared) (H:Hp),n-i=k->i<=n->Inv X pins σ H s->(∀b∈fp,eQ X pins H b)->tn i s.heap->Dv i H ->
     (∀H' s',Inv X pins σ H' s'->Dv n H'->R (.ok (.ret .none)) s')->codeAny (model X.prog X.w) X.A.in1 (.builtin "dict.update.loop" ⟨[.ref d,.ref it,rawInt j,.none],[]⟩) R s:=by
 intro k
 induction k with
 | zero =>
  intro i j s H hk hi I hf ht hd hR
  have hin:i=n:=by omega
  subst hin
  refine codeAny_builtin DU.entry_loop ?_
  rw[Around.under_plainId DU.plain_loop _]
  show wpAny _ X.A.in1.in1 (pyNext (.ref it) >>= _) _ _ s
  refine aa (aO (T.done { X with A:=X.A.in1.in1 } rfl rfl rfl hc i pins s σ H _ (I.atA _ rfl rfl) hf ht (stop H hd)) (fun r s1 ⟨e,I1⟩=>?_) fun _ _ z=>z)
  subst e
  show wpAny _ _ (Builtin.Dict.addKeywords d [] >>= _) _ _ _
  exact aa (ae (ae (hR H s1 (Inv.ofA I.ok I1) hd)))
 | succ k ih =>
  intro i j s H hk hi I hf ht hd hR
  have hlt:i<n:=by omega
  obtain⟨hg,hy⟩:=go i H hlt hd
  refine codeAny_builtin DU.entry_loop ?_
  rw[Around.under_plainId DU.plain_loop _]
  show wpAny _ X.A.in1.in1 (pyNext (.ref it) >>= _) _ _ s
  refine aa (aO (jD (T.item { X with A:=X.A.in1.in1 } rfl rfl rfl hc i pins s σ H _ (I.atA _ rfl rfl) hf ht hg)) (fun r s1 ⟨u,e,x,H1,I1,rx,yl,t1,fn⟩=>?_) fun _ _ z=>z)
  subst e
  replace I1:=Inv.ofA I.ok I1
  obtain⟨b,kk,v,H2,ex,sq,dp,dv⟩:=hy x H1 yl
  subst ex
  cases (show u=Value.ref b from rx)
  obtain⟨its,rv,pt,hz⟩:=I1.tuple sq
  obtain⟨u1,u2,e2,r1,r2⟩:=hU rv
  subst e2
  obtain⟨o,ho,hcl,m,hdt⟩:=pt
  show wpAny _ _ (holding [Value.ref b] _ >>= _) _ _ _
  refine aa (aJ ?_)
  show wpAny _ _ (Sem.tryCatch (Builtin.Dict.pairItems (Value.ref b)) _ >>= _) _ _ _
  refine aa (wpAny_tryCatch ?_)
  unfold Builtin.Dict.pairItems
  refine aa (wpAny_typeOf (T:="tuple") ⟨o,ho,hcl⟩ ?_)
  simp only[show ((Value.type "tuple"==Value.type "list")||(Value.type "tuple"==Value.type "tuple"))=true from rfl,if_true]
  unfold seqItems?
  refine aa (aa (wpAny_load ho ?_))
  rw[hdt]
  refine ae (ae ?_)
  show wpAny _ _ (holding [u1,u2] (dictSet d u1 u2)) _ _ _
  have hu':X.A.in1.in1.units<cLine:=by show X.A.units+1+1<cLine;omega
  refine aJ (ux hu' I1 dp r1 r2 fun s2 I2 hk2=>?_)
  have dn:∀b∈fp,b≠d:=fun b hb q=>by
   obtain⟨o,eo⟩:=dp.at_.1
   rw[<- q,fn b hb] at eo
   cases eo
  refine ae ⟨plainId_quiet DU.plain_loop _,ih (i+1) (j+1) s2 H2 (by omega) hlt I2 (fun b hb=>?_) (T.keep _ _ _ t1 fun b hb o q=>hk2 b o (dn b hb) q) dv hR⟩
  obtain⟨_,f1,f2,f3,f4,f5⟩:=hf b hb
  exact⟨(dp.at_.2 b (dn b hb)).trans (fn b hb),f1,f2,f3,f4,f5⟩
theorem Rd.fresh {H:Hp}{a l:Addr}{u o:HO}(r:Rd H a u) (hl:H l=none):Rd (upd H l o) a u:=by
 have n:a≠l:=fun e=>by subst e;rcases r with r | ⟨_,r⟩ <;> rw[hl] at r <;> cases r
 unfold Rd
 rw[cH n]
 exact r
theorem SqT.fresh {K:W.Frag}{H:Hp}{a l:Addr}{xs:List V}{o:HO}(r:SqT K H a xs) (hl:H l=none):SqT K (upd H l o) a xs:=by
 rcases r with r | r
 ·exact Or.inl (r.fresh hl)
 ·exact Or.inr r
theorem SqL.fresh {K:W.Frag}{H:Hp}{a l:Addr}{xs:List V}{o:HO}(r:SqL K H a xs) (hl:H l=none):SqL K (upd H l o) a xs:=by
 rcases r with r | r
 ·exact Or.inl (r.fresh hl)
 ·exact Or.inr r
theorem qI {X:Cx}(hc:X.calm=true) (hu:X.A.units+64<cLine) {pins:List (Addr × Obj)}{s:Shared}{σ:St}{H:Hp}{p:Addr}{xs:List V}{Q:VK}{oi:Nat -> HO}(I:Inv X pins σ H s) (hq:SqL X.K H p xs) (h0:oi 0=.dK [] ∨ oi 0=.dT [])
    (hgo:∀(i:Nat) (x:V),xs[i]? = some x->∃b k v,x=V.ref b/\SqT X.K H b [k,v]/\∀l,H l=none->DPut (upd H l (oi i)) l k v (upd H l (oi (i+1)))) (q:∀l,H l=none->Q (.ref l) (upd H l (oi xs.length))) :
    wpAny (model X.prog X.w) X.A (call (.type "dict") [.ref p]) (EP X pins σ Q) X.xe s:=by
 refine callType_codes (Q₁:=fun obj s₁=>obj=.ref s.heap.objs.size/\s₁={ s with heap:=s.heap.push { cls:=.type "dict",data:=.dict #[] } }) F.kt_called_dict (F.kt_typeCall_dict_1 _) F.entry_dict_init (kt_code_dict_new _ ⟨rfl,rfl⟩) ?_
 rintro obj s₁ ⟨rfl,rfl⟩
 have hl:H s.heap.objs.size=none:=I.hok.fresh (ad _)
 have I1:Inv X pins σ (upd H s.heap.objs.size (oi 0)) { s with heap:=s.heap.push { cls:=.type "dict",data:=.dict #[] } }:=by
  refine I.laid (a:=s.heap.objs.size) (o:=oi 0) (t':=s.toks) (fun _ _ q=>ah _ q) (ad _) ?_
  rcases h0 with e | e
  ·rw[e];exact jI s.heap I.big
  ·rw[e];exact oW s.heap I.big
 have hnew:(⟨s.heap.push { cls:=.type "dict",data:=.dict #[] },s.gens,s.drawn,s.toks,s.os⟩:Shared).TypeIs (.ref s.heap.objs.size) "dict":=⟨_,ap _ rfl,rfl⟩
 refine⟨hnew,F.args_dict_init_2 _ _,?_⟩
 unfold Builtin.«dict.__init__»
 refine aa ?_
 unfold Builtin.Dict.selfAndRest
 refine aa (wpAny_notOrdered_dict hnew ?_)
 show wpAny _ _ (pure (s.heap.objs.size,[Value.ref p])) _ _ _
 refine ae ?_
 show wpAny _ _ (Builtin.Dict.updateFrom "dict.__init__" s.heap.objs.size (.ref p) [] .none) _ _ _
 unfold Builtin.Dict.updateFrom
 have hA:X.A.in1.in1.handled=none:=I.ok.hd hc
 ·obtain⟨its,rv,pl,hz⟩:=I1.list (hq.fresh hl)
  obtain⟨o,n,ho,hcl,hdn,hdt⟩:=id pl
  refine aa (wpAny_typeOf (T:="list") ⟨o,ho,hcl⟩ ?_)
  rw[if_pos (by decide)]
  refine aa (pC ho hcl hdt hdn hA fun h' tk kp=>?_)
  have I2:=I1.kept (h':=h') (t':=tk) kp
  refine aa (wpAny_rule (aa ?_))
  obtain⟨its2,rv2,pl2,hz2⟩:=I2.list (hq.fresh hl)
  refine wpAny_pyIter_list pl2.isList ?_
  refine ae ⟨plainId_quiet DU.plain_loop _,?_⟩
  refine jX (nm:="x") (tp:=default) (j8 p h'.objs.size) hc hu s.heap.objs.size xs.length (fun i H'=>H'=upd H s.heap.objs.size (oi i)) (fun i H' hi e=>?_) (fun H' e=>?_) _ 0 0 _ _ rfl (aT _) (I2.kept (t':=tk) fun b o e=>ah _ e) (fun b hb=>?_) ⟨_,ap _ rfl,rfl,rfl⟩ rfl fun H' s' I' e=>?_
  ·subst e
   have hx:xs[i]? = some xs[i]:=aG hi
   refine⟨⟨xs,xs[i],hq.fresh hl,hx⟩,fun x H1 ⟨e1,e2⟩=>?_⟩
   subst e1
   obtain⟨b,k,v,ex,sq,dp⟩:=hgo i x (e2 xs (hq.fresh hl))
   exact⟨b,k,v,_,ex,sq.fresh hl,dp _ hl,rfl⟩
  ·subst e
   exact⟨xs,hq.fresh hl,ad _⟩
  ·have e:b=h'.objs.size:=by simpa using hb
   subst e
   exact I2.fpOk (ad _) (I2.hok.fresh (ad _))
  ·subst e
   exact⟨rfl,.ref _,_,I',rfl,q _ hl⟩
theorem uQ {κ:Type} [DecidableEq κ]:∀(ps:List (κ × V)) (m:List (κ × V)),(ps.foldl (fun m q=>dL m q.1 q.2) m).length<=m.length+ps.length:=by
 intro ps
 induction ps with
 | nil=>intro m;exact ad _
 | cons q r ih =>
  intro m
  have h1:=ih (dL m q.1 q.2)
  have h2:=eK m q.1 q.2
  rw[List.foldl_cons,aN]
  omega
def mkK {κ:Type} [DecidableEq κ] (ps:List (κ × V)):List (κ × V):=ps.foldl (fun m q=>dL m q.1 q.2) []
theorem n8 {κ:Type} [DecidableEq κ] (ps:List (κ × V)):(mkK ps).length<=ps.length:=by
 have:=uQ ps []
 rw[List.length_nil,Nat.zero_add] at this
 exact this
theorem lA {κ:Type} [DecidableEq κ] (ps:List (κ × V)) (i:Nat) (q:κ × V) (h:ps[i]? = some q):mkK (ps.take (i+1))=dL (mkK (ps.take i)) q.1 q.2:=by
 unfold mkK
 rw[aA,h,List.foldl_append]
 rfl
def vZ (K:W.Frag):List V->Hp->VK->Prop:=fun vs H Q=>∃p xs,∃ps:List (Key × V),vs=[.ref p]/\SqL K H p xs/\xs.length=ps.length /\
 (∀(i:Nat) (q:Key × V) (x:V),ps[i]? = some q->xs[i]? = some x->∃b,x=V.ref b/\SqT K H b [kV q.1,q.2])/\∀l,H l=none->Q (.ref l) (upd H l (.dK (mkK ps)))
section
variable {X:Cx}{p pos:Pos}{e:Expr}{t:TA}
theorem yp (K:W.Frag) (hc:X.calm=true) (hu:X.A.units+64<cLine) (B:Blt X.mg) (ha:PA X [e] t) (hg:Gl X "dict":=by rfl) (he:starEach [e] X.env=(false,eval e X.env)::starEach [] X.env:=by rfl) (hpl:(backTo pos (starEach [] X.env)).any (·.1)=false:=by rfl) (hK:X.K=K:=by rfl) :
    PE X (.Call (.Name "dict" p) [e] [] pos) (tCB (vZ K) t):=by
 subst hK
 refine h8 (r:=vZ X.K) (fun pins s σ H xs us Q I r h=>?_) hg B.dict (show bootBuiltins "dict"=some (.type "dict") by decide +kernel) ha (by decide) (by decide) he hpl
 obtain⟨p,xs,ps,rfl,hq,hl,hp,q⟩:=h
 obtain⟨u,rfl,ru⟩:=fq r
 cases ru
 obtain⟨_,_,_,hz⟩:=I.list hq
 refine qI hc hu (oi:=fun i=>.dK (mkK (ps.take i))) I hq (Or.inl rfl) (fun i x hx=>?_) fun l hl'=>?_
 ·have hi:i<ps.length:=by rw[<- hl];exact(ai.mp hx).1
  obtain⟨b,ex,sq⟩:=hp i ps[i] x (aG hi) hx
  refine⟨b,kV ps[i].1,ps[i].2,ex,sq,fun l hl'=>?_⟩
  have d:=DPut.k (H:=upd H l (.dK (mkK (ps.take i)))) (a:=l) (kvs:=mkK (ps.take i)) (k:=ps[i].1) (v:=ps[i].2) cF (by have:=n8 (ps.take i);rw[aF] at this;omega)
  rw[xh,<- lA ps i ps[i] (aG hi)] at d
  exact d
 ·rw[hl,List.take_length]
  exact q l hl'
end
namespace SP
open PySem.Builtin PySem.Builtin.Str PySem.StrLaws
abbrev one (c:Nat):Str:=⟨#[c]⟩
end SP
end L2
namespace MG
variable {es:List (Nat × Nat)}{goal:Nat}
theorem Rch.tr {α:Type}{R:α->α->Prop}{x y z:α}(a:Rch R x y) (b:Rch R y z):Rch R x z :=
 Rch.closed (S:=fun u=>Rch R x u) a (fun u v h r=>h.step r) b
theorem nu {α:Type}{p q:α -> Bool}{x:α}:∀ {l:List α}, (∀y, p y=true -> q y=true) -> x ∈ l -> q x=true -> p x=false -> (l.filter p).length<(l.filter q).length
 | a :: l, hpq, hx, hq, hp => by
  have le:∀l:List α, (l.filter p).length <= (l.filter q).length := by
   intro l
   induction l with
   | nil=>exact ad _
   | cons b l ih =>
    by_cases h1:p b=true
    ·rw[bV h1,bV (hpq b h1),aN,aN];omega
    ·rw[cp h1]
     by_cases h2:q b=true
     ·rw[bV h2,aN];omega
     ·rw[cp h2];exact ih
  by_cases e:x=a
  ·subst e
   rw[cp (by rw[hp];decide),bV hq,aN]
   have:=le l
   omega
  ·have hx:x∈l:=by
      rcases am.mp hx with z | z
      ·exact absurd z e
      ·exact z
   have ih:=nu hpq hx hq hp
   by_cases h1:p a=true
   ·rw[bV h1,bV (hpq a h1),aN,aN];omega
   ·rw[cp h1]
    by_cases h2:q a=true
    ·rw[bV h2,aN];omega
    ·rw[cp h2];exact ih
open Classical in
theorem vw {l:List Nat}(hc:∀x ∈ l, ∃y ∈ l, (y, x) ∈ es) (hn:∀e ∈ es, ¬ RingAt es e):l=[] := by
 let A:Nat->List Nat:=fun x=>l.filter fun y=>decide (Rch (Arr (swp es)) x y)
 have main:∀m, ∀x ∈ l, (A x).length <= m -> False := by
  intro m
  induction m using Nat.strongRecOn with
  | _ m ih =>
   intro x hx hm
   obtain⟨y,hy,r⟩:=hc x hx
   have hlt:(A y).length<(A x).length:=by
    refine nu (x:=x) (fun z hz=>?_) hx ?_ ?_
    ·refine ao (Rch.tr ?_ (au hz))
     exact Rch.refl.step (mem_swp.mpr r)
    ·exact ao Rch.refl
    ·refine ba fun h=>hn _ r ?_
     exact Rch.dst h
   exact ih (A y).length (by omega) y hy (ad _)
 cases l with
 | nil=>rfl
 | cons x l=>exact(main _ x (by simp) (ad _)).elim
end MG
namespace L2
open PySem PySem.Spec PyProof.Rows
section
variable {X:Cx}{p pos:Pos}{e:Expr}{t:TA}
def wo (K:W.Frag):List V->Hp->VK->Prop:=fun xs H Q=>∃a ns,xs=[.ref a]/\SqL K H a (List.map V.int ns)/\0<ns.length/\∀M,M∈ns->(∀b,b∈ns->b<=M)->Q (.int M) H
theorem sY (hc:X.calm=true):fA X (.builtin "max") (wo X.K):=by
 intro pins s σ H xs us Q I r h
 obtain⟨a,ns,rfl,hq,hne,q⟩:=h
 obtain⟨u,rfl,ru⟩:=fq r
 cases ru
 obtain⟨its,rv,pl,hz⟩:=I.list hq
 have hi:=lU rv
 obtain⟨xs,e⟩:=hi.allInts.items
 have hns:ns=xs.toList.map (·.1):=by
  rw[<- hi.numsOf,<- nums_intItems,<- e]
 have hsz:0<xs.size:=by
  have h3:=hne;rw[hns,ac,bB] at h3;exact h3
 have hl:=pl.isList
 rw[e] at hl
 refine max_intList (I.ok.hd hc) hl hsz fun v h' tk hv hk=>?_
 obtain⟨t,rfl⟩:=intItems_at hv
 obtain⟨h1,h2⟩:=argBest_gt (numAt xs) (xs.size-1)
 refine⟨.int _,H,I.kept hk,⟨_,rfl⟩,q _ ?_ fun b hb=>?_⟩
 ·rw[hns,numAt_eq];exact getD_mem (by rw[ac,bB];omega)
 ·rw[hns] at hb
  obtain⟨j,hj,rfl⟩:=mem_getD hb
  rw[ac,bB] at hj
  rw[<- numAt_eq];exact h2 j (by omega)
theorem yb (K:W.Frag) (hc:X.calm=true) (B:Blt X.mg) (ha:PA X [e] t) (hg:Gl X "max":=by rfl) (he:starEach [e] X.env=(false,eval e X.env)::starEach [] X.env:=by rfl) (hpl:(backTo pos (starEach [] X.env)).any (·.1)=false:=by rfl) (hK:X.K=K:=by rfl) :
    PE X (.Call (.Name "max" p) [e] [] pos) (tCB (wo K) t):=hK ▸ eW (sY hc) hg B.max (show bootBuiltins "max"=some (.builtin "max") by decide +kernel) ha (by decide) (by decide) he hpl
end
end L2
set_option maxHeartbeats 400000
set_option maxHeartbeats 4000000
namespace L2
open PySem PySem.Spec PyProof.Rows
def Itd (a:Addr) (kvs:List (Key × V)) (o:Obj):It :=
 ⟨fun i H=>H a=some (.frz o (.dK kvs))/\i<kvs.length,fun i H x H'=>H'=H/\∃kv,kvs[i]? = some kv/\x=kV kv.1,fun i H=>H a=some (.frz o (.dK kvs))/\kvs.length<=i⟩
theorem pT {P:Program}{w:World}{k:Key}{u:Value}(h:(dW P w).is k u=true):RelV (kV k) u:=by
 rcases ef h with⟨i,t,rfl,rfl⟩ | ⟨x,t,rfl,rfl⟩
 ·exact⟨t,rfl⟩
 ·exact⟨t,rfl⟩
theorem Paired.get {α β:Type}{F:α->β->Prop}:∀ {l₁:List α}{l₂:List β},Paired F l₁ l₂->∀ {i:Nat}{a:α},l₁[i]? = some a->∃b,l₂[i]? = some b/\F a b
 | _,_,.nil,i,a,h=>by simp at h
 | _,_,@Paired.cons _ _ _ x y _ _ f r,0,a,h=>by
  have e:x=a:=by simpa using h
  subst e
  exact⟨y,rfl,f⟩
 | _,_,.cons f r,i+1,a,h=>by
  obtain⟨b,e,g⟩:=Paired.get r (i:=i) (by simpa using h)
  exact⟨b,by simpa using e,g⟩
theorem uf {X:Cx}{pins:List (Addr × Obj)}{σ:St}{H:Hp}{s:Shared}{a:Addr}{kvs:List (Key × V)}{o:Obj}(I:Inv X pins σ H s) (e:H a=some (.frz o (.dK kvs))) {es:Array DictEntry}{ep:Nat}(hd:o.data=.dict es ep) :
    ∃vs,KV kvs vs/\s.heap.DictAt (dW X.prog X.w) a vs ep:=by
 obtain⟨ho,_,_,vs,kv,o',es',ep',h1,h2,h3,r⟩:=(show ObjOk X.prog X.w H s.heap a (.frz o (.dK kvs)) from I.hok a _ e)
 rw[ho] at h1
 cases h1
 rw[hd] at h3
 cases h3
 exact⟨vs,kv,o,es,ho,h2,hd,r⟩
theorem uY {P:Program}{w:World}{K:W.Frag}{tg:Expr}(a it:Addr) (kvs:List (Key × V)) (o:Obj) {es:Array DictEntry}{ep:Nat}(hd:o.data=.dict es ep):Turn P w K tg (Itd a kvs o) [it] it (fun i h=>h.IsKeyIter it a i kvs.length ep) where
 mem:=by simp
 obj:=fun i h st b hb=>by
  have e:b=it:=by simpa using hb
  subst e
  obtain⟨o,e,c,d⟩:=st
  exact⟨o,e,fun v z=>by rw[d] at z;cases z⟩
 keep:=fun i h h' st k=>let ⟨o,e,r⟩:=st;⟨o,k it (by simp) o e,r⟩
 item:=by
  intro X hP hw hK hc i pins s σ H E I hf st hg
  subst hP hw hK
  obtain⟨ha,hi⟩:=hg
  obtain⟨vs,kv,da⟩:=uf I ha hd
  have hl:=KV.length kv
  have st:s.heap.IsKeyIter it a i vs.length ep:=by rw[<- hl];exact st
  obtain⟨f0,f1,f2,f3,f4,f5⟩:=hf it (by simp)
  obtain⟨q,hq,e1,_⟩:=Paired.get kv (i:=i) (aG hi)
  refine wpAny_pyNext_dict_item st da (k:=q.1) (v:=q.2) hq fun key h' hk st' sb=>?_
  have I1:Inv X pins σ H { s with heap:=h' }:=I.turned (t':=s.toks) (fun b o hb e=>(sb.2 b hb).trans e) f0 f1 f3 f4 f5
  obtain⟨oi,e,c,d⟩:=id st'
  refine⟨key,rfl,nW (s:={ s with heap:=h' }) e c d (by decide) ⟨kV q.1,H,I1,pT hk,⟨rfl,kvs[i],aG hi,by rw[e1]⟩,?_,fun b hb=>(hf b hb).1⟩⟩
  show h'.IsKeyIter it a (i+1) kvs.length ep
  rw[hl];exact st'
 done:=by
  intro X hP hw hK hc i pins s σ H E I hf st hg
  subst hP hw hK
  obtain⟨ha,hi⟩:=hg
  obtain⟨vs,kv,da⟩:=uf I ha hd
  have hl:=KV.length kv
  have st:s.heap.IsKeyIter it a i vs.length ep:=by rw[<- hl];exact st
  obtain⟨f0,f1,f2,f3,f4,f5⟩:=hf it (by simp)
  exact wpAny_pyNext_dict_end (I.ok.hd hc) st da (by rw[List.getElem?_eq_none_iff];omega) fun h' eb=>⟨rfl,I.turned (t':=s.toks) (fun b o hb e=>eb b o hb e) f0 f1 f3 f4 f5⟩
 self:=fun _ _ _ _ _ st h=>wpAny_pyIter_keyiter st h
theorem Inv.freeze {X:Cx}{pins:List (Addr × Obj)}{σ:St}{H:Hp}{s:Shared}{a:Addr}{kvs:List (Key × V)}{o:Obj}(I:Inv X pins σ H s) (e:H a=some (.dK kvs)) (ho:s.heap.get? a=some o):Inv X pins σ (upd H a (.frz o (.dK kvs))) s := by
 have ne:∀ {b:Addr} {u:HO},H b=some u->u≠.dK kvs->b≠a:=fun h n z=>by subst z;rw[e] at h;exact n (af h).symm
 refine I.un (t':=s.toks) (h':=s.heap) ⟨fun b o e _ _ _=>e,fun b o e _ _ _=>⟨o.slots,e⟩,fun b o _ n _=>?_,fun b o e _=>⟨o,e⟩,fun b xs h=>?_,fun b o u h=>?_,fun b ps h=>⟨#[],?_⟩⟩ (fun b u q=>?_)
 ·rw[cH (fun z=>by subst z;rw[e] at n;cases n)];exact n
 ·rw[cH (ne h (by intro z;cases z))];exact h
 ·rw[cH (ne h (by intro z;cases z))];exact h
 ·rw[cH (ne h (by intro z;cases z)),h];simp
 ·by_cases hb:b=a
  ·subst hb
   rw[cF] at q
   cases q
   exact⟨ho,(show ObjOk X.prog X.w H s.heap b (.dK kvs) from I.hok b _ e)⟩
  ·rw[cH hb] at q
   exact(I.hok b u q).stay (fun c v _ r=>r) (fun c r=>by rw[cH (ne r (by intro z;cases z))];exact r) fun c xs r=>by rw[cH (ne r (by intro z;cases z))];exact r
section
variable {X:Cx}{tg:Expr}
def iDic (tl:TE):TI:=fun σ H R=>tl σ H fun x H1=>∃a kvs,x=.ref a/\Rd H1 a (.dK kvs)/\∀o H2,H2 a=some (.frz o (.dK kvs))->(∀b,b≠a->H2 b=H1 b)->R (Itd a kvs o) H2
theorem yX {l:Expr}{tl:TE}(hl:PE X l tl):PI X tg l (iDic tl) := by
 intro pins s σ H R I h
 refine thn (hl pins s σ H _ I h) fun v s1 ⟨x,H1,I1,r1,q1⟩=>?_
 obtain⟨a,kvs,e,hr,q⟩:=q1
 subst e
 cases r1
 obtain⟨_,hs,vs,kv,o,es,ep,ho,hx,hdt,dH⟩:=hr.ok I1.hok
 have da:s1.heap.DictAt (dW X.prog X.w) a vs ep:=⟨o,es,ho,hx,hdt,dH⟩
 have hlen:=KV.length kv
 obtain⟨H2,I2,f2,n2⟩:∃H2,Inv X pins σ H2 s1/\H2 a=some (.frz o (.dK kvs))/\∀b,b≠a->H2 b=H1 b:=by
  rcases hr with hr | ⟨o',hr⟩
  ·exact⟨_,I1.freeze hr ho,cF,fun b hb=>cH hb⟩
  ·obtain⟨ho',_⟩:=(show ObjOk X.prog X.w H1 s1.heap a (.frz o' (.dK kvs)) from I1.hok a _ hr)
   rw[ho] at ho'
   cases ho'
   exact⟨H1,I1,hr,fun b _=>rfl⟩
 refine wpAny_pyIter_dict hs da ?_
 refine⟨s1.heap.objs.size,[s1.heap.objs.size],_,_,H2,rfl,I2.kept (t':=s1.toks) fun b o e=>ah _ e,uY a _ kvs o hdt,⟨_,ap _ rfl,rfl,by rw[hlen];rfl⟩,fun b hb=>?_,q o H2 f2 n2⟩
 have e:b=s1.heap.objs.size:=by simpa using hb
 subst e
 exact I2.fpOk (ad _) (I2.hok.fresh (ad _))
end
section
variable {k:Nat}{fr:List Nat}{g:TG}{tc:TT}{te:TE}{σ:St}{H1:Hp}{Q:VK}
theorem uF {a:Addr}{o:Obj}(kvs:List (Key × V)) (Pv:Addr -> Nat -> List V -> St -> Hp -> Prop)
    (h:∀D,H1 D=none->Pv D 0 [] (iK k fr σ) (upd H1 D (.lst []))/\(∀i acc σ' H',i<=kvs.length->Pv D i acc σ' H'->H' D=some (.lst acc)->H' a=some (.frz o (.dK kvs))) /\
     (∀i acc σ' H' kv,kvs[i]? = some kv->Pv D i acc σ' H'->H' D=some (.lst acc)->g (kV kv.1) σ' H' fun σ2 H3=>tc σ2 H3 fun b H4 =>
      if b=true then te σ2 H4 fun y H5=>H5 D=some (.lst acc)/\acc.length<sizeLine/\Pv D (i+1) (acc++[y]) σ2 (upd H5 D (.lst (acc++[y]))) else H4 D=some (.lst acc)/\Pv D (i+1) acc σ2 H4) /\
     ∀acc σ' H',Pv D kvs.length acc σ' H'->H' D=some (.lst acc)->Q (.ref D) H'):iN k fr g tc te (Itd a kvs o) σ H1 Q:=by
 have hl:(kvs.map fun kv=>kV kv.1).length=kvs.length:=ac ..
 refine ir (kvs.map fun kv=>kV kv.1) (fun H=>H a=some (.frz o (.dK kvs))) (fun i H q hi=>⟨q,by rw[<- hl];exact hi⟩) (fun i H x H' q hi y=>⟨y.1,?_⟩) (fun H q=>⟨q,by rw[hl];exact ad _⟩) Pv fun D hD=>?_
 ·obtain⟨_,kv,e,rfl⟩:=y
  rw[al,e];rfl
 ·obtain⟨a0,b0,c0,d0⟩:=h D hD
  refine⟨a0,fun i acc σ' H' hi=>b0 i acc σ' H' (by rw[<- hl];exact hi),fun i acc σ' H' x hx p hacc=>?_,by rw[hl];exact d0⟩
  rw[al] at hx
  cases e:kvs[i]? with
  | none=>rw[e] at hx;cases hx
  | some kv =>
   rw[e] at hx
   have hx:kV kv.1=x:=af hx
   rw[<- hx]
   exact c0 i acc σ' H' kv e p hacc
end
section
variable {X:Cx}{p pos:Pos}{e:Expr}{t:TA}
def wF:List V->Hp->VK->Prop:=fun xs H Q=>∃a kvs,xs=[V.ref a]/\Rd H a (.dK kvs)/\kvs.length<=1000/\∀l,H l=none->Q (.ref l) (upd H l (.lst (kvs.map fun kv=>kV kv.1)))
theorem nI {P:Program}{w:World}:∀ {kvs:List (Key × V)}{vs:List (Key × Value)}{its:List Value}, KV kvs vs -> its.length=vs.length -> (∀(i:Nat) (v:Value), its[i]? = some v -> ∃(k:Key) (x:Value), vs[i]? = some (k, x) /\ (dW P w).is k v=true) -> Vals (kvs.map fun kv => kV kv.1) its
 | _,_,its,.nil,hl,h=>by
  have:its=[]:=List.length_eq_zero_iff.mp (by simpa using hl)
  subst this
  exact .nil
 | _,_,[],.cons f r,hl,h=>by simp at hl
 | _,_,u::its,@Paired.cons _ _ _ a b _ _ f r,hl,h=>by
  refine .cons ?_ (nI (P:=P) (w:=w) r (by simpa using hl) fun i v e=>?_)
  ·obtain⟨k,x,e1,e2⟩:=h 0 u rfl
   have e1:b=(k,x):=by simpa using e1
   have g:RelV (kV b.1) u:=by rw[e1];exact pT e2
   show RelV (kV a.1) u
   rw[show a.1=b.1 from f.1]
   exact g
  ·obtain⟨k,x,e1,e2⟩:=h (i+1) v (by simpa using e)
   exact⟨k,x,by simpa using e1,e2⟩
theorem wN (hc:X.calm=true) (B:Blt X.mg) (ha:PA X [e] t) (hg:Gl X "list":=by rfl) (he:starEach [e] X.env=(false,eval e X.env)::starEach [] X.env:=by rfl) (hpl:(backTo pos (starEach [] X.env)).any (·.1)=false:=by rfl) :
    PE X (.Call (.Name "list" p) [e] [] pos) (tCB wF t):=by
 refine h8 (r:=wF) (fun pins s σ H xs us Q I r h=>?_) hg B.list (show bootBuiltins "list"=some (.type "list") by decide +kernel) ha (by decide) (by decide) he hpl
 obtain⟨a,kvs,rfl,hr,hn,q⟩:=h
 obtain⟨u,rfl,ru⟩:=fq r
 cases ru
 obtain⟨_,hs,vs,kv,o,es,ep,ho,hx,hdt,dH⟩:=hr.ok I.hok
 have da:s.heap.DictAt (dW X.prog X.w) a vs ep:=⟨o,es,ho,hx,hdt,dH⟩
 have hlen:=KV.length kv
 refine W.kdl_call (W.kdl_dict hs) (I.ok.hd hc) da (by rw[sizeLine_eq];omega) fun h' tk acc' c' hk hl hi=>?_
 have hv:Vals (kvs.map fun kv=>kV kv.1) acc'.toList:=nI (P:=X.prog) (w:=X.w) kv (by simpa using hi.1) fun i v e=>hi.2 i v (by simpa using e)
 refine⟨.ref _,_,I.laid (o:=.lst (kvs.map fun kv=>kV kv.1)) hk (ad _) ⟨?_,acc'.toList,c',hv,by simpa using hl⟩,rfl,q _ (I.hok.fresh (ad _))⟩
 rw[ac]
 exact aS (cN hn)
end
section
variable {prog:Program}{w:World}{A:Around}{E:Value->Shared->Prop}{s:Shared}
theorem uV {z TI TO i1 i2 l1 l2:Addr}{k1 k2:Nat}{f0:Value}{f1:Bool}{xs ys:Array Value}{x y a b:Value}{Q:Value -> Shared -> Prop}(D:ZipApart z TI TO i1 i2 l1 l2) (hf:F0 f0)
    (hz:Zp s.heap z TI TO f0 f1) (hTI:IsPair s.heap TI (.ref i1) (.ref i2)) (hTO:IsPair s.heap TO a b)
    (h1:s.heap.IsTupleIter i1 l1 k1) (h2:s.heap.IsListIter i2 l2 k2) (hl1:s.heap.IsTuple l1 xs) (hl2:s.heap.IsList l2 ys) (hx:xs[k1]? = some x) (hy:ys[k2]? = some y)
    (hQ:∀h' f0' f1',F0 f0'->Zp h' z TI TO f0' f1'->(∃a b,IsPair h' TO a b)->h'.IsTupleIter i1 l1 (k1+1)->h'.IsListIter i2 l2 (k2+1)->IsPair h' s.heap.objs.size x y ->
     (∀c o,c≠z->c≠TO->c≠i1->c≠i2->s.heap.get? c=some o->h'.get? c=some o)->Q (.ref s.heap.objs.size) { s with heap:=h' }) :
    wpAny (model prog w) A (Builtin.«zip.__next__» ⟨[.ref z],[]⟩) (fun fin s'=>∃v,fin=.done (.ret v)/\Q v s') E s:=by
 show wpAny _ _ (field (.ref z) 2 >>= _) _ _ _
 refine aa (aL hz rfl (x:=.bool false) rfl ?_)
 show wpAny _ _ (field (.ref z) 3 >>= _) _ _ _
 refine aa (aL hz rfl (x:=.ref TI) rfl (aa (aW hTI rfl ?_)))
 refine aa (kE hf hz fun own f1' g0 hz0 sb0=>?_)
 have sz0:g0.objs.size=s.heap.objs.size:=sb0.1
 cases own with
 | true =>
  simp only[if_true]
  refine aa (wpAny_rule ?_)
  refine aa (aL (s:={ s with heap:=g0 }) hz0 rfl (x:=.ref TO) rfl ?_)
  refine aa (bg (s:={ s with heap:=g0 }) hz0 (by simp) fun g1 hz1 sb1=>?_)
  replace hz1:Zp g1 z TI TO .ellipsis f1':=hz1
  refine aa ?_
  simp only[List.zipIdx_cons,List.zipIdx_nil,bp,bA]
  refine aa (aa (wpAny_onRaise ?_))
  show wpAny _ _ (Builtin.SmallTypes.nextOf (.ref i1) >>= _) _ _ _
  have up1:∀c o,c≠z->s.heap.get? c=some o->g1.get? c=some o:=fun c o n e=>sb1.extBut _ _ n (sb0.extBut _ _ n e)
  refine aa (eL (h1.at fun o e=>up1 _ o D.i1z e) (hl1.at fun o e=>up1 _ o D.l1z e) hx fun g2 j1 sb2=>ae ?_)
  have hTO2:IsPair g2 TO a b:=sb2.extBut _ _ D.TOi1 (up1 _ _ D.TOz hTO)
  refine aa (aW hTO2 rfl (aa (wpAny_updateSeq_pair hTO2 fun g3 hTO3 sb3=>?_)))
  replace hTO3:IsPair g3 TO x b:=hTO3
  refine aa (wpAny_letGo (ae (aa (aa (wpAny_onRaise ?_)))))
  show wpAny _ _ (Builtin.SmallTypes.nextOf (.ref i2) >>= _) _ _ _
  have up3:∀c o,c≠z->c≠i1->c≠TO->s.heap.get? c=some o->g3.get? c=some o:=fun c o n1 n2 n3 e=>sb3.extBut _ _ n3 (sb2.extBut _ _ n2 (up1 _ _ n1 e))
  refine aa (wpAny_nextOf_list_item (h2.at fun o e=>up3 _ o D.i2z D.i12.symm D.TOi2.symm e) (hl2.at fun o e=>up3 _ o D.l2z D.l2i1 D.l2TO e) hy fun g4 j2 sb4=>ae ?_)
  have hTO4:IsPair g4 TO x b:=sb4.extBut _ _ D.TOi2 hTO3
  refine aa (aW hTO4 rfl (aa (wpAny_updateSeq_pair hTO4 fun g5 hTO5 sb5=>?_)))
  replace hTO5:IsPair g5 TO x y:=hTO5
  refine aa (wpAny_letGo (ae (ae ?_)))
  refine aa (aW hTO5 rfl (aa (wpAny_newTuple ?_)))
  have hsz:g5.objs.size=s.heap.objs.size:=by rw[sb5.1,sb4.1,sb3.1,sb2.1,sb1.1,sz0]
  have hz5:Zp g5 z TI TO .ellipsis f1':=sb5.extBut _ _ D.TOz.symm (sb4.extBut _ _ D.i2z.symm (sb3.extBut _ _ D.TOz.symm (sb2.extBut _ _ D.i1z.symm hz1)))
  have j15:g5.IsTupleIter i1 l1 (k1+1):=j1.at fun o e=>sb5.extBut _ _ D.TOi1.symm (sb4.extBut _ _ D.i12 (sb3.extBut _ _ D.TOi1.symm e))
  have j25:g5.IsListIter i2 l2 (k2+1):=j2.at fun o e=>sb5.extBut _ _ D.TOi2.symm e
  have hk5:∀c o,c≠z->c≠TO->c≠i1->c≠i2->s.heap.get? c=some o->g5.get? c=some o:=fun c o c1 c2 c3 c4 e=>sb5.extBut _ _ c2 (sb4.extBut _ _ c4 (up3 _ _ c1 c3 c2 e))
  have hzlt:z<g5.objs.size:=ag hz5
  show wpAny _ _ (Builtin.SmallTypes.ownedTupleHandOut (.ref z) (.ref g5.objs.size) >>= _) _ _ _
  refine aa ?_
  unfold Builtin.SmallTypes.ownedTupleHandOut
  have hz6:Zp (g5.push { cls:=.type "tuple",data:=.seq #[x,y] }) z TI TO .ellipsis f1':=ah _ hz5
  refine aa (bg hz6 (by simp) fun g7 hz7 sb7=>?_)
  replace hz7:Zp g7 z TI TO (rawInt g5.objs.size) f1':=hz7
  refine bg hz7 (by simp) fun g8 hz8 sb8=>?_
  replace hz8:Zp g8 z TI TO (rawInt g5.objs.size) false:=hz8
  have up:∀c o,c≠z->g5.get? c=some o->g8.get? c=some o:=fun c o c1 e=>sb8.extBut _ _ c1 (sb7.extBut _ _ c1 (ah _ e))
  have hT8:IsPair g8 g5.objs.size x y:=sb8.extBut _ _ (bC hzlt) (sb7.extBut _ _ (bC hzlt) (ap _ rfl))
  refine ae ⟨_,rfl,?_⟩
  show Q (.ref g5.objs.size) _
  rw[hsz] at hz8 hT8 ⊢
  exact hQ g8 _ _ (.inr ⟨_,rfl⟩) hz8 ⟨x,y,up _ _ D.TOz hTO5⟩ (j15.at fun o e=>up _ o D.i1z e) (j25.at fun o e=>up _ o D.i2z e) hT8 fun c o c1 c2 c3 c4 e=>up c o c1 (hk5 c o c1 c2 c3 c4 e)
 | false =>
  simp only[bQ,if_false]
  refine aa ?_
  rw[<- Array.forIn_toList]
  simp only[bp,bA]
  refine aa (aa (aJ ?_))
  show wpAny _ _ (Builtin.SmallTypes.nextOf (.ref i1) >>= _) _ _ _
  have up1:∀c o,c≠z->s.heap.get? c=some o->g0.get? c=some o:=fun c o n e=>sb0.extBut _ _ n e
  refine aa (eL (s:={ s with heap:=g0 }) (h1.at fun o e=>up1 _ o D.i1z e) (hl1.at fun o e=>up1 _ o D.l1z e) hx fun g2 j1 sb2=>ae ?_)
  replace sb2:Heap.SameBut i1 g0 g2:=sb2
  refine ae (aa (aa (aJ ?_)))
  show wpAny _ _ (Builtin.SmallTypes.nextOf (.ref i2) >>= _) _ _ _
  have up2:∀c o,c≠z->c≠i1->s.heap.get? c=some o->g2.get? c=some o:=fun c o n1 n2 e=>sb2.extBut _ _ n2 (up1 _ _ n1 e)
  refine aa (wpAny_nextOf_list_item (h2.at fun o e=>up2 _ o D.i2z D.i12.symm e) (hl2.at fun o e=>up2 _ o D.l2z D.l2i1 e) hy fun g4 j2 sb4=>ae ?_)
  replace sb4:Heap.SameBut i2 g2 g4:=sb4
  refine ae (ae ?_)
  show wpAny _ _ (newTuple [x,y] >>= _) _ _ _
  refine aa (wpAny_newTuple (ae ⟨_,rfl,?_⟩))
  have hsz:g4.objs.size=s.heap.objs.size:=by rw[sb4.1,sb2.1,sz0]
  show Q (.ref g4.objs.size) _
  have pu:∀c o,g4.get? c=some o->(g4.push { cls:=.type "tuple",data:=.seq #[x,y] }).get? c=some o:=fun c o e=>ah _ e
  have hT8:IsPair (g4.push { cls:=.type "tuple",data:=.seq #[x,y] }) g4.objs.size x y:=ap _ rfl
  rw[hsz] at hT8 ⊢
  exact hQ _ _ _ hf (pu _ _ (sb4.extBut _ _ D.i2z.symm (sb2.extBut _ _ D.i1z.symm hz0))) ⟨a,b,pu _ _ (sb4.extBut _ _ D.TOi2 (up2 _ _ D.TOz D.TOi1 hTO))⟩ (j1.at fun o e=>pu _ o (sb4.extBut _ _ D.i12 e)) (j2.at fun o e=>pu _ o e) hT8 fun c o c1 c2 c3 c4 e=>pu _ _ (sb4.extBut _ _ c4 (up2 _ _ c1 c3 e))
theorem xH {z TI TO i1 i2 l1 l2:Addr}{k1 k2:Nat}{f0:Value}{f1:Bool}{xs ys:Array Value}{a b:Value}{Q:Fin -> Shared -> Prop}(hh:A.handled=none) (D:ZipApart z TI TO i1 i2 l1 l2) (hf:F0 f0)
    (hz:Zp s.heap z TI TO f0 f1) (hTI:IsPair s.heap TI (.ref i1) (.ref i2)) (hTO:IsPair s.heap TO a b)
    (h1:s.heap.IsTupleIter i1 l1 k1) (h2:s.heap.IsListIter i2 l2 k2) (hl1:s.heap.IsTuple l1 xs) (hl2:s.heap.IsList l2 ys) (hend:xs[k1]? = none∨ys[k2]? = none)
    (hE:∀h' e,(∀c o,c≠z->c≠TO->c≠i1->c≠i2->s.heap.get? c=some o->h'.get? c=some o)->(∃o,h'.get? e=some o/\o.cls=.type "StopIteration")->E (.ref e) { s with heap:=h' }) :
    wpAny (model prog w) A (Builtin.«zip.__next__» ⟨[.ref z],[]⟩) Q E s:=by
 show wpAny _ _ (field (.ref z) 2 >>= _) _ _ _
 refine aa (aL hz rfl (x:=.bool false) rfl ?_)
 show wpAny _ _ (field (.ref z) 3 >>= _) _ _ _
 refine aa (aL hz rfl (x:=.ref TI) rfl (aa (aW hTI rfl ?_)))
 refine aa (kE hf hz fun own f1' g0 hz0 sb0=>?_)
 cases own with
 | true =>
  simp only[if_true]
  refine aa (wpAny_rule ?_)
  refine aa (aL (s:={ s with heap:=g0 }) hz0 rfl (x:=.ref TO) rfl ?_)
  refine aa (bg (s:={ s with heap:=g0 }) hz0 (by simp) fun g1 hz1 sb1=>?_)
  replace hz1:Zp g1 z TI TO .ellipsis f1':=hz1
  refine aa ?_
  simp only[List.zipIdx_cons,List.zipIdx_nil,bp,bA]
  refine aa (aa (wpAny_onRaise ?_))
  show wpAny _ _ (Builtin.SmallTypes.nextOf (.ref i1) >>= _) _ _ _
  have up1:∀c o,c≠z->s.heap.get? c=some o->g1.get? c=some o:=fun c o n e=>sb1.extBut _ _ n (sb0.extBut _ _ n e)
  cases hx:xs[k1]? with
  | none =>
   refine aa (fK hh (h1.at fun o e=>up1 _ o D.i1z e) (hl1.at fun o e=>up1 _ o D.l1z e) hx fun g2 e sb2 he=>?_)
   obtain⟨oe,hoe,hce⟩:=he
   have hz2:Zp g2 z TI TO .ellipsis f1':=sb2 _ _ D.i1z.symm hz1
   have hez:e≠z:=fun q=>by subst q;rw[hz2] at hoe;cases hoe;simp at hce
   exact bg hz2 (by simp) fun g3 _ sb3=>hE g3 e (fun c o c1 _ c3 _ q=>sb3.extBut _ _ c1 (sb2 _ _ c3 (up1 _ _ c1 q))) ⟨oe,sb3.extBut _ _ hez hoe,hce⟩
  | some x =>
   have hy:ys[k2]? = none:=by rcases hend with q | q;rw[hx] at q;cases q;exact q
   refine aa (eL (h1.at fun o e=>up1 _ o D.i1z e) (hl1.at fun o e=>up1 _ o D.l1z e) hx fun g2 j1 sb2=>ae ?_)
   have hTO2:IsPair g2 TO a b:=sb2.extBut _ _ D.TOi1 (up1 _ _ D.TOz hTO)
   refine aa (aW hTO2 rfl (aa (wpAny_updateSeq_pair hTO2 fun g3 hTO3 sb3=>?_)))
   refine aa (wpAny_letGo (ae (aa (aa (wpAny_onRaise ?_)))))
   show wpAny _ _ (Builtin.SmallTypes.nextOf (.ref i2) >>= _) _ _ _
   have up3:∀c o,c≠z->c≠i1->c≠TO->s.heap.get? c=some o->g3.get? c=some o:=fun c o n1 n2 n3 e=>sb3.extBut _ _ n3 (sb2.extBut _ _ n2 (up1 _ _ n1 e))
   refine aa (wpAny_nextOf_list_end hh (h2.at fun o e=>up3 _ o D.i2z D.i12.symm D.TOi2.symm e) (hl2.at fun o e=>up3 _ o D.l2z D.l2i1 D.l2TO e) hy fun g4 e sb4 he=>?_)
   obtain⟨oe,hoe,hce⟩:=he
   have hz4:Zp g4 z TI TO .ellipsis f1':=sb4 _ _ D.i2z.symm (sb3.extBut _ _ D.TOz.symm (sb2.extBut _ _ D.i1z.symm hz1))
   have hez:e≠z:=fun q=>by subst q;rw[hz4] at hoe;cases hoe;simp at hce
   exact bg hz4 (by simp) fun g5 _ sb5=>hE g5 e (fun c o c1 c2 c3 c4 q=>sb5.extBut _ _ c1 (sb4 _ _ c4 (up3 _ _ c1 c3 c2 q))) ⟨oe,sb5.extBut _ _ hez hoe,hce⟩
 | false =>
  simp only[bQ,if_false]
  refine aa ?_
  rw[<- Array.forIn_toList]
  simp only[bp,bA]
  refine aa (aa (aJ ?_))
  show wpAny _ _ (Builtin.SmallTypes.nextOf (.ref i1) >>= _) _ _ _
  have up1:∀c o,c≠z->s.heap.get? c=some o->g0.get? c=some o:=fun c o n e=>sb0.extBut _ _ n e
  cases hx:xs[k1]? with
  | none =>
   refine aa (fK (s:={ s with heap:=g0 }) hh (h1.at fun o e=>up1 _ o D.i1z e) (hl1.at fun o e=>up1 _ o D.l1z e) hx fun g2 e sb2 he=>?_)
   exact hE g2 e (fun c o c1 _ c3 _ q=>sb2 _ _ c3 (up1 _ _ c1 q)) he
  | some x =>
   have hy:ys[k2]? = none:=by rcases hend with q | q;rw[hx] at q;cases q;exact q
   refine aa (eL (s:={ s with heap:=g0 }) (h1.at fun o e=>up1 _ o D.i1z e) (hl1.at fun o e=>up1 _ o D.l1z e) hx fun g2 j1 sb2=>ae ?_)
   replace sb2:Heap.SameBut i1 g0 g2:=sb2
   refine ae (aa (aa (aJ ?_)))
   show wpAny _ _ (Builtin.SmallTypes.nextOf (.ref i2) >>= _) _ _ _
   have up2:∀c o,c≠z->c≠i1->s.heap.get? c=some o->g2.get? c=some o:=fun c o n1 n2 e=>sb2.extBut _ _ n2 (up1 _ _ n1 e)
   refine aa (wpAny_nextOf_list_end hh (h2.at fun o e=>up2 _ o D.i2z D.i12.symm e) (hl2.at fun o e=>up2 _ o D.l2z D.l2i1 e) hy fun g4 e sb4 he=>?_)
   exact hE g4 e (fun c o c1 c2 c3 c4 q=>sb4 _ _ c4 (up2 _ _ c1 c3 q)) he
abbrev zq1 (h:Heap) (l:Addr):Heap:=h.push { cls:=.type "tuple_iterator",data:=.fields #[.ref l,.int 0 0] }
abbrev zq2 (h:Heap) (l m:Addr):Heap:=(zq1 h l).push { cls:=.type "list_iterator",data:=.fields #[.ref m,.int 0 0] }
abbrev zq3 (h:Heap) (l m:Addr):Heap:=(zq2 h l m).push { cls:=.type "tuple",data:=.seq #[.ref h.objs.size,.ref (zq1 h l).objs.size] }
abbrev zq4 (h:Heap) (l m:Addr):Heap:=(zq3 h l m).push { cls:=.type "tuple",data:=.seq #[.none,.none] }
abbrev zq5 (h:Heap) (l m:Addr):Heap:=(zq4 h l m).push { cls:=.type "zip",data:=.fields #[.none,.bool false,.bool false,.ref (zq2 h l m).objs.size,.ref (zq3 h l m).objs.size] }
theorem qO (l m:Addr) (xs ys:Array Value):Meets (Builtin.«zip.__new__» ⟨[.type "zip",.ref l,.ref m],[]⟩) (fun _ R s=>s.heap.IsTuple l xs/\s.heap.IsList m ys/\R (.ok (.ret (.ref (zq4 s.heap l m).objs.size))) { s with heap:=zq5 s.heap l m }) :=
 .of_wp fun prog w A R s h=>by
  obtain⟨h0,g0,d0,t0,os0⟩:=s
  obtain⟨hl,hm,h⟩:=h
  have hsub:=sub_zip
  have e1:Heap.IsTuple (Shared.heap ⟨h0,g0,d0,t0,os0⟩) l xs:=hl
  have e2:Heap.IsList (Shared.heap ⟨zq1 h0 l,g0,d0,t0,os0⟩) m ys:=Heap.IsList.push hm _
  wp_walk using bD e1,wpAny_pyIter_list e2
  exact⟨_,rfl,h⟩
theorem tQ {l m:Addr}{xs ys:Array Value}{Q:Value -> Shared -> Prop}(hl:s.heap.IsTuple l xs) (hm:s.heap.IsList m ys)
    (h:∀h',Zp h' (s.heap.objs.size+4) (s.heap.objs.size+2) (s.heap.objs.size+3) .none false->IsPair h' (s.heap.objs.size+2) (.ref s.heap.objs.size) (.ref (s.heap.objs.size+1))->IsPair h' (s.heap.objs.size+3) .none .none ->
     h'.IsTupleIter s.heap.objs.size l 0->h'.IsListIter (s.heap.objs.size+1) m 0->(∀c o,s.heap.get? c=some o->h'.get? c=some o)->Q (.ref (s.heap.objs.size+4)) { s with heap:=h' }) :
    wpAny (model prog w) A (call (.type "zip") [.ref l,.ref m]) Q E s:=by
 have a1:(zq1 s.heap l).objs.size=s.heap.objs.size+1:=bq ..
 have a2:(zq2 s.heap l m).objs.size=s.heap.objs.size+2:=(bq ..).trans (by rw[a1])
 have a3:(zq3 s.heap l m).objs.size=s.heap.objs.size+3:=(bq ..).trans (by rw[a2])
 have a4:(zq4 s.heap l m).objs.size=s.heap.objs.size+4:=(bq ..).trans (by rw[a3])
 have k5:∀ {c:Addr} {o:Obj},(zq4 s.heap l m).get? c=some o->(zq5 s.heap l m).get? c=some o:=fun q=>ah _ q
 have k4:∀ {c:Addr} {o:Obj},(zq3 s.heap l m).get? c=some o->(zq5 s.heap l m).get? c=some o:=fun q=>k5 (ah _ q)
 have k3:∀ {c:Addr} {o:Obj},(zq2 s.heap l m).get? c=some o->(zq5 s.heap l m).get? c=some o:=fun q=>k4 (ah _ q)
 have k2:∀ {c:Addr} {o:Obj},(zq1 s.heap l).get? c=some o->(zq5 s.heap l m).get? c=some o:=fun q=>k3 (ah _ q)
 have b5:(zq5 s.heap l m).get? (zq4 s.heap l m).objs.size=some { cls:=.type "zip",data:=.fields #[.none,.bool false,.bool false,.ref (zq2 s.heap l m).objs.size,.ref (zq3 s.heap l m).objs.size] }:=ap _ rfl
 have b4:=k5 (ap (zq3 s.heap l m) (o:={ cls:=.type "tuple",data:=.seq #[.none,.none] }) rfl)
 have b3:=k4 (ap (zq2 s.heap l m) (o:={ cls:=.type "tuple",data:=.seq #[.ref s.heap.objs.size,.ref (zq1 s.heap l).objs.size] }) rfl)
 have b2:=k3 (ap (zq1 s.heap l) (o:={ cls:=.type "list_iterator",data:=.fields #[.ref m,.int 0 0] }) rfl)
 have b1:=k2 (ap s.heap (o:={ cls:=.type "tuple_iterator",data:=.fields #[.ref l,.int 0 0] }) rfl)
 rw[a2,a3,a4] at b5
 rw[a3] at b4
 rw[a1,a2] at b3
 rw[a1] at b2
 refine callType_new F.called_zip (by decide) (F.typeCall_zip_2 _ _) (F.newCall_zip_2 _ _) (fun ob=>F.args_object_init_3 ob _ _) F.entry_zip_new (qO l m xs ys) ⟨hl,hm,?_⟩
 show _/\_
 rw[a4]
 exact⟨⟨_,b5,rfl⟩,h _ b5 b3 b4 ⟨_,b1,rfl,rfl⟩ ⟨_,b2,rfl,rfl⟩ fun c o q=>k2 (ah _ q)⟩
theorem lv:typeLookup (.type "zip") "__getattr__"=pure none:=by rw[typeLookup_type,builtinLookup_eq_fast];kernel_rfl
theorem i5:entryFor table "zip.__getattribute__"=some Builtin.«object.__getattribute__» :=
 entryFor_alias (id':="object.__getattribute__") (by kernel_rfl) (by decide +kernel) (by decide +kernel) (by kernel_rfl)
theorem mZ (a:Addr) (fs:Array Value) (sl:Array (Option Value)) (u:Tok) :
    Meets (Builtin.«object.__getattribute__» ⟨[.ref a,.str "keys" u],[]⟩) (fun A R s=>s.heap.get? a=some { cls:=.type "zip",dict:=none,data:=.fields fs,slots:=sl }/\raisesAttr (.ref a) "keys" A R s) :=
 Meets.of_wp fun prog w A R s hs=>by
  obtain⟨h0,g0,d0,t0,os0⟩:=s
  obtain⟨hx,hs⟩:=hs
  have hT:(⟨h0,g0,d0,t0,os0⟩:Shared).TypeIs (.ref a) "zip":=⟨_,hx,rfl⟩
  have hmiss:=nN
  have hname:(["__module__","__name__","__qualname__","__doc__","__annotations__"]:List Str).contains ("keys":Str)=false:=by decide +kernel
  unfold Builtin.«object.__getattribute__»
  repeat any_goals first | assumption | wp_step
  exact wpAny_raiseAttrError hs.1 hs.2 (attrMsg_fits (name:="keys") (by decide +kernel) (by size_fits))
theorem lQ {a:Addr}{o:Obj}{fs:Array Value}{Q:Option Value->Shared->Prop}
    (hx:s.heap.get? a=some o) (hc:o.cls=.type "zip") (hdat:o.data=.fields fs) (hd:o.dict=none) (hA:A.handled=none)
    (h:∀h' tk,(∀b ob,s.heap.get? b=some ob->h'.get? b=some ob)->Q none { s with heap:=h',toks:=tk }) :
    wpAny (model prog w) A (getAttr? (.ref a) "keys") Q E s:=by
 obtain⟨c,dct,dat,sl⟩:=o
 simp only at hc hdat hd
 subst hc hdat hd
 obtain⟨h0,g0,d0,t0,os0⟩:=s
 have hT:∀tk',(⟨h0,g0,d0,tk',os0⟩:Shared).TypeIs (.ref a) "zip":=fun _=>⟨_,hx,rfl⟩
 have f1:=sub_AttributeError
 have f3:=F.slot_zip_getattribute.lookup
 have f4:=F.slot_zip_getattribute.bind (.ref a)
 have f5:=lv
 unfold getAttr? getAttrBy? getAttrBy
 repeat (any_goals (first | assumption | exact hT _ | ((with_reducible show wpAny _ _ (call (Value.builtin "zip.__getattribute__") _ _) _ _ _);refine call_meets F.slot_zip_getattribute (hT _) i5 (F.args_zip_getattribute_2 _ _) (mZ a fs sl _) ⟨hx,hA,fun h' tk' e hx'=>?_⟩) | wp_step))
 obtain⟨t',u',he⟩:=hx'.there
 show wpAny _ _ (getattributeRaised _ _ _ _ _ _ _) _ _ _
 unfold getattributeRaised
 repeat (any_goals (first | assumption | wp_step))
 exact h _ _ hx'.keeps
end
def Itzt (K:W.Frag) (a b:Addr):It :=
 ⟨fun i H=>∃xs ys x y,SqT K H a xs/\SqL K H b ys/\xs[i]? = some x/\ys[i]? = some y,
  fun i H v H'=>∃p x y,H p=none/\v=.ref p/\(∀xs,SqT K H a xs->xs[i]? = some x)/\(∀ys,SqL K H b ys->ys[i]? = some y)/\H'=upd H p (.tup [x,y]),
  fun i H=>∃xs ys,SqT K H a xs/\SqL K H b ys/\(xs.length<=i∨ys.length<=i)⟩
theorem rO {P:Program}{w:World}{K:W.Frag}{nm:Str}{tp:Pos}(a b z TI TO i1 i2:Addr) (D:ZipApart z TI TO i1 i2 a b) :
    Turn P w K (.Name nm tp) (Itzt K a b) [z,TI,TO,i1,i2] z (fun i h=>(∃f0 f1,F0 f0/\Zp h z TI TO f0 f1)/\IsPair h TI (.ref i1) (.ref i2)/\(∃c d,IsPair h TO c d)/\h.IsTupleIter i1 a i/\h.IsListIter i2 b i) where
 mem:=by simp
 obj:=fun i h st c hc=>by
  obtain⟨⟨f0,f1,_,hz⟩,hTI,⟨u,v,hTO⟩,⟨o1,e1,_,d1⟩,⟨o2,e2,_,d2⟩⟩:=st
  have hc:c=z∨c=TI∨c=TO∨c=i1∨c=i2:=by simpa using hc
  rcases hc with rfl | rfl | rfl | rfl | rfl
  ·exact⟨_,hz,fun v q=>by cases q⟩
  ·exact⟨_,hTI,fun v q=>by cases q⟩
  ·exact⟨_,hTO,fun v q=>by cases q⟩
  ·exact⟨_,e1,fun v q=>by rw[d1] at q;cases q⟩
  ·exact⟨_,e2,fun v q=>by rw[d2] at q;cases q⟩
 keep:=fun i h h' st k=>by
  obtain⟨⟨f0,f1,hf,hz⟩,hTI,⟨u,v,hTO⟩,h1,h2⟩:=st
  exact⟨⟨f0,f1,hf,k z (by simp) _ hz⟩,k TI (by simp) _ hTI,⟨u,v,k TO (by simp) _ hTO⟩,h1.at fun o e=>k i1 (by simp) o e,h2.at fun o e=>k i2 (by simp) o e⟩
 item := by
  intro X hP hw hK hc i pins s σ H E I hf st hg
  subst hP hw hK
  obtain⟨⟨f0,f1,hf0,hz⟩,hTI,⟨ta,tb,hTO⟩,h1,h2⟩:=st
  obtain⟨xs,ys,x,y,hqa,hqb,hx,hy⟩:=hg
  obtain⟨its,rv,pa,_⟩:=I.tuple hqa
  obtain⟨jts,rw',pb,_⟩:=I.list hqb
  obtain⟨u,hu,ru⟩:=rv.get hx
  obtain⟨v,hv,rv'⟩:=rw'.get hy
  refine gq ⟨_,hz,rfl⟩ (uV D hf0 hz hTI hTO h1 h2 (show s.heap.IsTuple a its.toArray from pa) pb.isList (x:=u) (y:=v) (by simpa using hu) (by simpa using hv) fun h' f0' f1' hf' hz' hTO' j1 j2 hpr k=>⟨_,rfl,?_⟩)
  refine ae (s:={ s with heap:=h' }) ?_
  have hp:H s.heap.objs.size=none:=I.hok.fresh (ad _)
  have fr:∀c∈[z,TI,TO,i1,i2],H c=none:=fun c hc=>(hf c hc).1
  have nit:∀c o,H c=some o->c≠z/\c≠TO/\c≠i1/\c≠i2:=fun c o q=>by
   refine⟨?_,?_,?_,?_⟩ <;> (intro e;rw[e,fr _ (by simp)] at q;cases q)
  have up:∀c o,H c=some o->upd H s.heap.objs.size (.tup [x,y]) c=some o:=fun c o q=>by rw[cH (cL q hp)];exact q
  have kk:∀c o,c∉[z,TO,i1,i2]->s.heap.get? c=some o->h'.get? c=some o:=fun c o n q=>k c o (fun e=>n (by simp[e])) (fun e=>n (by simp[e])) (fun e=>n (by simp[e])) (fun e=>n (by simp[e])) q
  have mem5:∀c∈[z,TO,i1,i2],c∈[z,TI,TO,i1,i2]:=fun c hc=>by simp at hc ⊢;rcases hc with e | e | e | e <;> simp[e]
  have hlt:∀c∈[z,TI,TO,i1,i2],c<s.heap.objs.size:=fun c hc=>by
   have hc:c=z∨c=TI∨c=TO∨c=i1∨c=i2:=by simpa using hc
   rcases hc with rfl | rfl | rfl | rfl | rfl
   ·exact ag hz
   ·exact ag hTI
   ·exact ag hTO
   ·obtain⟨o,e,_⟩:=h1;exact ag e
   ·obtain⟨o,e,_⟩:=h2;exact ag e
  have I1:Inv X pins σ (upd H s.heap.objs.size (.tup [x, y])) { s with heap := h', gens := s.gens, drawn := s.drawn, toks := s.toks } := by
   refine I.step (g':=s.gens) (d':=s.drawn) (ch:=[z,TO,i1,i2]) (fun c hc=>?_) (fun c o _ _ n q _=>kk c o n q) (fun c o _ _ n q _=>⟨o.slots,kk c o n q⟩) (fun c o _ q n=>?_) (fun c o n q=>⟨o,kk c o n q⟩) (fun c ys q=>up c _ q) (fun c o v q=>up c _ q) (fun c ps q=>⟨#[],by rw[up c _ q];simp⟩) (fun m hm=>?_) (fun c o q=>?_) I.bare
   ·obtain⟨_,g1,_,g3,g4,g5⟩:=hf c (mem5 c hc)
    exact⟨g3,g1,g4,g5⟩
   ·rw[cH (ak (ag q))];exact n
   ·obtain⟨o,es,ep,ho,r⟩:=hm
    refine⟨o,es,ep,kk _ o (fun n=>?_) ho,r⟩
    exact(hf _ (mem5 _ n)).2.1 rfl
   ·by_cases hb:c=s.heap.objs.size
    ·subst hb
     rw[cF] at q
     have q':HO.tup [x,y]=o:=af q
     subst q'
     exact⟨by show 2<=sizeLine;decide,[u,v],.cons ru (.cons rv' .nil),⟨_,hpr,rfl,_,rfl,rfl⟩⟩
    ·rw[cH hb] at q
     refine(I.hok c o q).stay (fun d o' hd q'=>?_) (fun d q=>up d _ q) fun d ys q=>up d _ q
     rcases hd with e | e
     ·rw[e] at q' ⊢;obtain⟨n1,n2,n3,n4⟩:=nit c o q;exact k c o' n1 n2 n3 n4 q'
     ·obtain⟨n1,n2,n3,n4⟩:=nit d _ e;exact k d o' n1 n2 n3 n4 q'
  refine⟨.ref s.heap.objs.size,upd H s.heap.objs.size (.tup [x,y]),I1,rfl,⟨_,x,y,hp,rfl,fun zs hz=>by rw[I.tuple_inj hz hqa];exact hx,fun zs hz=>by rw[I.list_inj hz hqb];exact hy,rfl⟩,⟨⟨f0',f1',hf',hz'⟩,?_,hTO',j1,j2⟩,fun c hc=>?_⟩
  ·exact k TI _ D.TIz D.TITO D.TIi1 D.TIi2 hTI
  ·rw[cH (ak (hlt c hc))];exact fr c hc
 done:=by
  intro X hP hw hK hc i pins s σ H E I hf st hg
  subst hP hw hK
  obtain⟨⟨f0,f1,hf0,hz⟩,hTI,⟨ta,tb,hTO⟩,h1,h2⟩:=st
  obtain⟨xs,ys,hqa,hqb,hxy⟩:=hg
  obtain⟨its,rv,pa,_⟩:=I.tuple hqa
  obtain⟨jts,rw',pb,_⟩:=I.list hqb
  have l1:=rv.length
  have l2:=rw'.length
  have hend:its.toArray[i]? = none∨jts.toArray[i]? = none:=by
   rcases hxy with q | q
   ·exact .inl (by simp;omega)
   ·exact .inr (by simp;omega)
  refine gq ⟨_,hz,rfl⟩ (xH (A:=X.A.in1) (show X.A.in1.handled=none from I.ok.hd hc) D hf0 hz hTI hTO h1 h2 (show s.heap.IsTuple a its.toArray from pa) pb.isList hend fun h' e k he=>⟨he,⟨e,rfl⟩,rfl,?_⟩)
  have fr:∀c∈[z,TI,TO,i1,i2],H c=none:=fun c hc=>(hf c hc).1
  have nit:∀c o,H c=some o->c≠z/\c≠TO/\c≠i1/\c≠i2:=fun c o q=>by
   refine⟨?_,?_,?_,?_⟩ <;> (intro e;rw[e,fr _ (by simp)] at q;cases q)
  have kk:∀c o,c∉[z,TO,i1,i2]->s.heap.get? c=some o->h'.get? c=some o:=fun c o n q=>k c o (fun e=>n (by simp[e])) (fun e=>n (by simp[e])) (fun e=>n (by simp[e])) (fun e=>n (by simp[e])) q
  have mem5:∀c∈[z,TO,i1,i2],c∈[z,TI,TO,i1,i2]:=fun c hc=>by simp at hc ⊢;rcases hc with e | e | e | e <;> simp[e]
  refine I.step (h':=h') (g':=s.gens) (d':=s.drawn) (t':=s.toks) (ch:=[z,TO,i1,i2]) (fun c hc=>?_) (fun c o _ _ n q _=>kk c o n q) (fun c o _ _ n q _=>⟨o.slots,kk c o n q⟩) (fun c o _ q n=>n) (fun c o n q=>⟨o,kk c o n q⟩) (fun c ys q=>q) (fun c o v q=>q) (fun c ps q=>⟨#[],by rw[q];simp⟩) (fun m hm=>?_) (fun c o q=>?_) I.bare
  ·obtain⟨_,g1,_,g3,g4,g5⟩:=hf c (mem5 c hc)
   exact⟨g3,g1,g4,g5⟩
  ·obtain⟨o,es,ep,ho,r⟩:=hm
   refine⟨o,es,ep,kk _ o (fun n=>?_) ho,r⟩
   exact(hf _ (mem5 _ n)).2.1 rfl
  ·refine(I.hok c o q).stay (fun d o' hd q'=>?_) (fun d q=>q) fun d ys q=>q
   rcases hd with e | e
   ·rw[e] at q' ⊢;obtain⟨n1,n2,n3,n4⟩:=nit c o q;exact k c o' n1 n2 n3 n4 q'
   ·obtain⟨n1,n2,n3,n4⟩:=nit d _ e;exact k d o' n1 n2 n3 n4 q'
 self:=fun A i s Q E st h=>by
  obtain⟨⟨f0,f1,hf0,hz⟩,_⟩:=st
  have hT:s.TypeIs (.ref z) "zip":=⟨_,hz,rfl⟩
  refine wpAny_pyIter_slot hT F.slot_zip_iter (wpAny_call_entry F.slot_zip_iter hT F.entry_zip_iter ?_ (F.args_zip_iter_1 _))
  show wpAny _ _ (ret (.ref z)) _ _ s
  exact ae ⟨_,rfl,"zip",_,hT,F.slot_zip_next.lookup,h⟩
theorem Rd.same' {H H':Hp}{a:Addr}{u:HO}(r:Rd H a u) (s:Same H H'):Rd H' a u:=by
 rcases r with r | ⟨o,r⟩
 ·exact .inl (s _ _ r)
 ·exact .inr ⟨o,s _ _ r⟩
theorem SqT.same' {K:W.Frag}{H H':Hp}{a:Addr}{xs:List V}(r:SqT K H a xs) (s:Same H H'):SqT K H' a xs:=by
 rcases r with r | r
 ·exact .inl (r.same' s)
 ·exact .inr r
theorem SqL.same' {K:W.Frag}{H H':Hp}{a:Addr}{xs:List V}(r:SqL K H a xs) (s:Same H H'):SqL K H' a xs:=by
 rcases r with r | r
 ·exact .inl (r.same' s)
 ·exact .inr r
def d3 (ks:List Str) (ys:List V):List (Key × V):=(ks.map Sum.inr).zip ys
theorem qu {X:Cx}(hc:X.calm=true) (hu:X.A.units+64<cLine) {pins:List (Addr × Obj)}{s:Shared}{σ:St}{H:Hp}{a b z TI TO i1 i2:Addr}{ks:List Str}{ys:List V}{Q:VK}(I:Inv X pins σ H s) (D:ZipApart z TI TO i1 i2 a b)
    (t0:(∃f0 f1,F0 f0/\Zp s.heap z TI TO f0 f1)/\IsPair s.heap TI (.ref i1) (.ref i2)/\(∃c d,IsPair s.heap TO c d)/\s.heap.IsTupleIter i1 a 0/\s.heap.IsListIter i2 b 0) (hf:∀c∈[z,TI,TO,i1,i2],eQ X pins H c)
    (hqa:SqT X.K H a (List.map V.str ks)) (hqb:SqL X.K H b ys) (hl:ks.length=ys.length) (hn:ks.length<=1000) (q:∀l H2,H l=none->Same H H2->H2 l=some (.dK (mkK (d3 ks ys)))->Q (.ref l) H2) :
    wpAny (model X.prog X.w) X.A (call (.type "dict") [.ref z]) (EP X pins σ Q) X.xe s:=by
 have T:=rO (P:=X.prog) (w:=X.w) (K:=X.K) (nm:="x") (tp:=default) a b z TI TO i1 i2 D
 have hlt:∀c∈[z,TI,TO,i1,i2],c<s.heap.objs.size:=fun c hc=>by
  obtain⟨o,e,_⟩:=T.obj 0 s.heap t0 c hc
  exact ag e
 have zl:(d3 ks ys).length=ks.length:=by unfold d3;rw[List.length_zip,ac];omega
 refine callType_codes (Q₁:=fun ob s1=>ob=.ref s.heap.objs.size/\s1={ s with heap:=s.heap.push { cls:=.type "dict",data:=.dict #[] } }) F.kt_called_dict (F.kt_typeCall_dict_1 _) F.entry_dict_init (kt_code_dict_new _ ⟨rfl,rfl⟩) ?_
 rintro ob s1 ⟨rfl,rfl⟩
 have hfree:H s.heap.objs.size=none:=I.hok.fresh (ad _)
 have I1:Inv X pins σ (upd H s.heap.objs.size (.dK [])) { s with heap:=s.heap.push { cls:=.type "dict",data:=.dict #[] } } :=
  I.laid (a:=s.heap.objs.size) (o:=.dK []) (t':=s.toks) (fun _ _ q=>ah _ q) (ad _) (jI s.heap I.big)
 have hnew:(⟨s.heap.push { cls:=.type "dict",data:=.dict #[] },s.gens,s.drawn,s.toks,s.os⟩:Shared).TypeIs (.ref s.heap.objs.size) "dict":=⟨_,ap _ rfl,rfl⟩
 refine⟨hnew,F.args_dict_init_2 _ _,?_⟩
 unfold Builtin.«dict.__init__»
 refine aa ?_
 unfold Builtin.Dict.selfAndRest
 refine aa (wpAny_notOrdered_dict hnew ?_)
 show wpAny _ _ (pure (s.heap.objs.size,[Value.ref z])) _ _ _
 refine ae ?_
 show wpAny _ _ (Builtin.Dict.updateFrom "dict.__init__" s.heap.objs.size (.ref z) [] .none) _ _ _
 unfold Builtin.Dict.updateFrom
 have hA:X.A.in1.in1.handled=none:=I.ok.hd hc
 have t1:=T.keep 0 s.heap (s.heap.push { cls:=.type "dict",data:=.dict #[] }) t0 fun c _ o e=>ah _ e
 obtain⟨⟨f0,f1,hf0,hz⟩,_⟩:=id t1
 refine aa (wpAny_typeOf (T:="zip") ⟨_,hz,rfl⟩ ?_)
 rw[if_pos (by decide)]
 refine aa (lQ hz rfl rfl rfl hA fun h' tk kp=>?_)
 have I2:=I1.kept (h':=h') (t':=tk) kp
 have t2:=T.keep 0 _ h' t1 fun c _ o e=>kp c o e
 refine aa (wpAny_rule (aa ?_))
 refine T.self X.A.in1.in1 0 { s with heap:=h',toks:=tk } _ _ t2 ?_
 refine ae ⟨plainId_quiet DU.plain_loop _,?_⟩
 refine jX (nm:="x") (tp:=default) T hc hu s.heap.objs.size ks.length (fun i H'=>Same H H'/\H' s.heap.objs.size=some (.dK (mkK ((d3 ks ys).take i)))) (fun i H' hi e=>?_) (fun H' e=>?_) _ 0 0 _ _ rfl (aT _) I2 (fun c hc=>?_) t2 ?_ ?_
 ·obtain⟨sm,hd⟩:=e
  have hx:(List.map V.str ks)[i]? = some (V.str ks[i]):=by simp[hi]
  have hy:ys[i]? = some (ys[i]'(by omega)):=aG (by omega)
  refine⟨⟨_,_,_,_,hqa.same' sm,hqb.same' sm,hx,hy⟩,fun x H1 yl=>?_⟩
  obtain⟨p,u,v,hp,rfl,hu1,hv1,rfl⟩:=yl
  have e1:V.str ks[i]=u:=af (hx.symm.trans (hu1 _ (hqa.same' sm)))
  have e2:ys[i]'(by omega)=v:=af (hy.symm.trans (hv1 _ (hqb.same' sm)))
  subst e1 e2
  have npl:s.heap.objs.size≠p:=cL hd hp
  have hzk:(d3 ks ys)[i]? = some (.inr ks[i],ys[i]'(by omega)):=by
   unfold d3
   rw[List.getElem?_zip_eq_some]
   exact⟨by simp[hi],hy⟩
  have hkl:(mkK ((d3 ks ys).take i)).length<sizeLine:=by
   have:=n8 ((d3 ks ys).take i)
   rw[aF] at this
   exact cN (by omega)
  refine⟨p,V.str ks[i],_,_,rfl,.of cF,DPut.k (k:=.inr ks[i]) (by rw[cH npl];exact hd) hkl,fun c o hc=>?_,?_⟩
  ·have h1:=sm c o hc
   rw[cH (cL hc hfree),cH (cL h1 hp)]
   exact h1
  ·rw[cF,lA _ i _ hzk]
 ·obtain⟨sm,hd⟩:=e
  exact⟨_,_,hqa.same' sm,hqb.same' sm,.inl (by rw[ac];exact ad _)⟩
 ·obtain⟨g0,g1,g2,g3,g4,g5⟩:=hf c hc
  exact⟨by rw[cH (ak (hlt c hc))];exact g0,g1,g2,g3,g4,g5⟩
 ·exact⟨Same.new hfree,by rw[cF];rfl⟩
 ·intro H' s' I' e
  obtain⟨sm,hd⟩:=e
  rw[<- zl,aB (ad _)] at hd
  exact⟨rfl,.ref _,_,I',rfl,q _ _ hfree sm hd⟩
def zD (K:W.Frag) (ta:TA):TE:=fun σ H Q=>ta σ H fun vs H1=>∃a b ks ys,vs=[.ref a,.ref b]/\SqT K H1 a (List.map V.str ks)/\SqL K H1 b ys/\ks.length=ys.length/\ks.length<=1000/\∀l H2,H1 l=none->Same H1 H2->H2 l=some (.dK (mkK (d3 ks ys)))->Q (.ref l) H2
theorem p8 (K:W.Frag) {X:Cx}{a b:Expr}{ta:TA}{p p2 pos pos2:Pos}(hc:X.calm=true) (hu:X.A.units+64<cLine) (B:Blt X.mg) (hm:X.mg "zip"=none) (ha:PA X [a,b] ta) (hgd:Gl X "dict":=by rfl) (hgz:Gl X "zip":=by rfl)
    (he:starEach [.Call (.Name "zip" p2) [a,b] [] pos2] X.env=(false,eval (.Call (.Name "zip" p2) [a,b] [] pos2) X.env)::starEach [] X.env:=by rfl) (hpl:(backTo pos (starEach [] X.env)).any (·.1)=false:=by rfl)
    (hs:starEach [a,b] X.env=(false,eval a X.env)::starEach [b] X.env:=by rfl) (hp2:(backTo pos2 (starEach [b] X.env)).any (·.1)=false:=by rfl) (hK:X.K=K:=by rfl) :
    PE X (.Call (.Name "dict" p) [.Call (.Name "zip" p2) [a,b] [] pos2] [] pos) (zD K ta):=by
 subst hK
 intro pins s σ H Q I h
 refine bF (gs I hgd B.dict (show bootBuiltins "dict"=some (.type "dict") by decide +kernel) ?_ (by decide) (by decide))
 refine PyProof.Rows.callWith_type1 ?_ he hpl
 rw[he]
 show wpAny _ _ (spliced ((false,eval (.Call (.Name "zip" p2) [a,b] [] pos2) X.env)::backTo pos (starEach [] X.env))) _ _ s
 refine Calls.spliced_cons ?_
 refine Call_ (gs I hgz hm (show bootBuiltins "zip"=some (.type "zip") by decide +kernel) (PyProof.Rows.callWith_type1 (thn (ha pos2 pins s σ H _ I h) fun us s1 ⟨vs,H1,I1,r1,q1⟩=>?_) hs hp2))
 obtain⟨l,m,ks,ys,rfl,hqa,hqb,hl,hn,q⟩:=q1
 obtain⟨u1,u2,rfl,r1,r2⟩:=hU r1
 cases r1
 cases r2
 obtain⟨its,rv,pa,_⟩:=I1.tuple hqa
 obtain⟨jts,rw',pb,_⟩:=I1.list hqb
 have a1:l<s1.heap.objs.size:=by obtain⟨_,e,_⟩:=pa;exact ag e
 have a2:m<s1.heap.objs.size:=by obtain⟨_,e,_⟩:=pb.isList;exact ag e
 refine tQ (show s1.heap.IsTuple l its.toArray from pa) pb.isList fun h' hz hTI hTO hi1 hi2 hk=>?_
 refine Calls.spliced_nil ?_
 have I2:=I1.kept (t':=s1.toks) hk
 refine qu hc hu I2 (zipApart_new a1 a2) ⟨⟨_,_,.inl rfl,hz⟩,hTI,⟨_,_,hTO⟩,hi1,hi2⟩ (fun c hc=>?_) hqa hqb hl hn q
 have hb:c=s1.heap.objs.size+4∨c=s1.heap.objs.size+2∨c=s1.heap.objs.size+3∨c=s1.heap.objs.size∨c=s1.heap.objs.size+1:=by simpa using hc
 have hle:s1.heap.objs.size<=c:=by rcases hb with e | e | e | e | e <;> rw[e] <;> first | exact ad _ | exact Nat.le_add_right _ _
 exact I1.fpOk hle (I1.hok.fresh hle)
end L2
namespace MG
def Ris (es:List (Nat × Nat)):Prop:=∃r:Nat->Nat,∀e∈es,r e.1<r e.2
theorem Ris.noring {es:List (Nat × Nat)}(h:Ris es):∀e ∈ es, ¬ RingAt es e := by
 obtain⟨r,hr⟩:=h
 have key:∀k x y, Walk (Arr (swp es)) k x y -> r y <= r x := by
  intro k
  induction k with
  | zero => intro x y w; have e:y=x := by first | exact w | exact w.symm
            rw[e];exact ad _
  | succ k ih =>
   intro x y w
   obtain⟨z,w1,w2⟩:=w
   first
    | (have h1:=ih x z w1
       have h2:=hr (y,z) (mem_swp.mp w2)
       have h2:r y<r z:=h2
       omega)
    | (have h1:=ih z y w2
       have h2:=hr (z,x) (mem_swp.mp w1)
       have h2:r z<r x:=h2
       omega)
 intro e he ⟨k,d⟩
 have h1:=key k e.1 e.2 d.1
 have h2:=hr e he
 omega
structure IsL (es:List (Nat × Nat)) (n:Nat) (L:Nat->Nat):Prop where
 up:∀e∈es,L e.1+1<=L e.2
 eq:∀v,v<n->L v=0∨∃u,(u,v)∈es/\L v=L u+1
theorem nodup_le {l:List Nat}{n:Nat}(nd:l.Nodup) (h:∀x ∈ l, x<n):l.length <= n := by
 have key:∀(l ws:List Nat),l.Nodup->(∀x∈l,x∈ws)->l.length<=ws.length:=by
  intro l
  induction l with
  | nil=>intro ws _ _;exact aT _
  | cons s r ih =>
   intro ws nd hm
   obtain⟨h1,h2⟩:=aU.mp nd
   have p:=(List.perm_cons_erase (hm s (by simp))).length_eq
   rw[aN] at p ⊢
   have:=ih (ws.erase s) h2 fun x hx=>(List.mem_erase_of_ne (fun z:x=s=>h1 (z ▸ hx))).mpr (hm x (aM _ hx))
   omega
 have:=key l (List.range n) nd fun x hx=>aR.mpr (h x hx)
 rwa [bj] at this
theorem IsL.lt {es:List (Nat × Nat)}{n:Nat}{L:Nat -> Nat}(h:IsL es n L) (val:∀e ∈ es, e.1<n /\ e.2<n):∀v, v<n -> L v<n := by
 have key:∀k v, v<n -> L v=k -> ∃f:Nat -> Nat, ∀j, j <= k -> f j<n /\ L (f j)=j := by
  intro k
  induction k with
  | zero=>intro v hv e;exact⟨fun _=>v,fun j hj=>⟨hv,by rw[e];omega⟩⟩
  | succ k ih =>
   intro v hv e
   rcases h.eq v hv with q | ⟨u,hu,q⟩
   ·omega
   ·obtain⟨f,hf⟩:=ih u (val _ hu).1 (by omega)
    refine⟨fun j=>if j=k+1 then v else f j,fun j hj=>?_⟩
    by_cases q:j=k+1
    ·simp only[if_pos q];exact⟨hv,by rw[e,q]⟩
    ·simp only[if_neg q];exact hf j (by omega)
 intro v hv
 obtain⟨f,hf⟩:=key (L v) v hv rfl
 have nd:((List.range (L v+1)).map f).Nodup:=by
  rw[List.Nodup,List.pairwise_map]
  refine List.Pairwise.imp_of_mem (fun {a b} ha hb hab z=>hab ?_) (List.nodup_range (n:=L v+1))
  have h1:=(hf a (by have:=aR.mp ha;omega)).2
  have h2:=(hf b (by have:=aR.mp hb;omega)).2
  rw[<- h1,<- h2,z]
 have:=nodup_le nd fun x hx=>by
  obtain⟨j,hj,rfl⟩:=aq.mp hx
  exact(hf j (by have:=aR.mp hj;omega)).1
 rw[ac,bj] at this
 omega
def Grown (es:List (Nat × Nat)) (ks:List Nat):Prop:=∀i v,ks[i]? = some v->∀u,(u,v)∈es->u∈ks.take i
theorem Grown.nil {es:List (Nat × Nat)}:Grown es []:=fun i v h=>by simp at h
theorem Grown.snoc {es:List (Nat × Nat)}{ks:List Nat}{v:Nat}(h:Grown es ks) (hv:∀u,(u,v)∈es->u∈ks):Grown es (ks++[v]):=by
 intro i x hx u hu
 by_cases hi:i<ks.length
 ·rw[bG hi] at hx
  rw[List.take_append_of_le_length (aS hi)]
  exact h i x hx u hu
 ·have hl:=(ai.mp hx).1
  rw[az] at hl
  have e:i=ks.length:=by have:ks.length+1=ks.length+[v].length:=rfl;omega
  subst e
  rw[bw (ad _),Nat.sub_self] at hx
  have e2:v=x:=af hx
  subst e2
  rw[List.take_append_of_le_length (ad _),aB (ad _)]
  exact hv u hu
theorem due_ex {es:List (Nat × Nat)}{n:Nat}{ks:List Nat}(hf:Ris es) (val:∀e ∈ es, e.1<n /\ e.2<n) (hl:ks.length<n) (hn:ks.Nodup) (hk:∀x ∈ ks, x<n):∃v, v<n /\ v ∉ ks /\ ∀u, (u, v) ∈ es -> u ∈ ks := by
 obtain⟨r,hr⟩:=hf
 have ex:∃v, v<n /\ v ∉ ks := Classical.byContradiction fun z => by
  have all:∀v,v<n->v∈ks:=fun v hv=>Classical.byContradiction fun q=>z ⟨v,hv,q⟩
  have key:∀(l ws:List Nat),l.Nodup->(∀x∈l,x∈ws)->l.length<=ws.length:=by
   intro l
   induction l with
   | nil=>intro ws _ _;exact aT _
   | cons s r ih =>
    intro ws nd hm
    obtain⟨h1,h2⟩:=aU.mp nd
    have p:=(List.perm_cons_erase (hm s (by simp))).length_eq
    rw[aN] at p ⊢
    have:=ih (ws.erase s) h2 fun x hx=>(List.mem_erase_of_ne (fun z:x=s=>h1 (z ▸ hx))).mpr (hm x (aM _ hx))
    omega
  have:=key (List.range n) ks List.nodup_range fun x hx=>all x (aR.mp hx)
  rw[bj] at this
  omega
 have key:∀m v, r v <= m -> v<n -> v ∉ ks -> ∃v, v<n /\ v ∉ ks /\ ∀u, (u, v) ∈ es -> u ∈ ks := by
  intro m
  induction m with
  | zero =>
   intro v hm hv hk
   refine⟨v,hv,hk,fun u hu=>?_⟩
   have:=hr _ hu
   have:r u<r v:=this
   omega
  | succ m ih =>
   intro v hm hv hk
   by_cases q:∀u,(u,v)∈es->u∈ks
   ·exact⟨v,hv,hk,q⟩
   ·obtain⟨u,hu⟩:=Classical.not_forall.mp q
    obtain⟨h1,h2⟩:=Classical.not_imp.mp hu
    have h3:r u<r v:=hr _ h1
    exact ih u (by omega) (val _ h1).1 h2
 obtain⟨v,hv,hk⟩:=ex
 exact key (r v) v (ad _) hv hk
end MG
namespace L2
open PySem PySem.Spec PyProof.Rows
section
variable {X:Cx}{p pos:Pos}{e:Expr}{t:TA}
def wu:List V->Hp->VK->Prop:=fun xs H Q=>∃a kvs,xs=[V.ref a]/\Rd H a (.dK kvs)/\Q (.int kvs.length) H
theorem sf (B:Blt X.mg) (ha:PA X [e] t) (hg:Gl X "len":=by rfl) (he:starEach [e] X.env=(false,eval e X.env)::starEach [] X.env:=by rfl) (hpl:(backTo pos (starEach [] X.env)).any (·.1)=false:=by rfl):PE X (.Call (.Name "len" p) [e] [] pos) (tCB wu t):=by
 refine eW (r:=wu) (fun pins s σ H xs us Q I r h=>?_) hg B.len PySem.boot_len ha (by decide) (by decide) he hpl
 obtain⟨a,kvs,rfl,hr,q⟩:=h
 obtain⟨u,rfl,ru⟩:=fq r
 cases ru
 exact wv I hr fun t s' I'=>⟨.int kvs.length,H,I',⟨t,rfl⟩,q⟩
end
def TabK (H:Hp) (kvs:List (Key × V)) (ss:List Str) (f:Str->List Str):Prop:=kvs.map (·.1)=ss.map Sum.inr/\∀s∈ss,∃l,cY kvs (.inr s)=some (.ref l)/\H l=some (.lst (List.map V.str (f s)))
theorem TabK.keep {H H':Hp}{kvs:List (Key × V)}{ss:List Str}{f:Str->List Str}(h:TabK H kvs ss f) (k:∀b xs,H b=some (.lst xs)->H' b=some (.lst xs)):TabK H' kvs ss f :=
 ⟨h.1,fun s hs=>let ⟨l,a,b⟩:=h.2 s hs;⟨l,a,k _ _ b⟩⟩
theorem TabK.same {H H':Hp}{kvs:List (Key × V)}{ss:List Str}{f:Str->List Str}(h:TabK H kvs ss f) (s:Same H H'):TabK H' kvs ss f:=h.keep fun b xs e=>s _ _ e
theorem TabK.len {H:Hp}{kvs:List (Key × V)}{ss:List Str}{f:Str->List Str}(h:TabK H kvs ss f):kvs.length=ss.length:=by
 have:=congrArg List.length h.1
 rwa [ac,ac] at this
theorem TabK.at {H:Hp}{kvs:List (Key × V)}{ss:List Str}{f:Str->List Str}(h:TabK H kvs ss f) {i:Nat}{kv:Key × V}(e:kvs[i]? = some kv):∃s,ss[i]? = some s/\kv.1=.inr s:=by
 have:=congrArg (fun l=>l[i]?) h.1
 simp only[al,e,cb] at this
 cases q:ss[i]? with
 | none=>rw[q] at this;cases this
 | some s=>rw[q] at this;exact⟨s,rfl,af this⟩
theorem iY {kvs:List (Key × V)}{k:Key}{v:V}(h:k∉kvs.map (·.1)):dL kvs k v=kvs++[(k,v)]:=by
 unfold dL
 rw[if_neg]
 intro z
 obtain⟨kv,hm,e⟩:=List.any_eq_true.mp z
 exact h (aq.mpr ⟨kv,hm,au e⟩)
theorem uD {kvs:List (Key × V)}{k:Key}:(cY kvs k).isSome=true ↔ k∈kvs.map (·.1):=by
 rw[<- gg,List.any_eq_true,aq]
 exact⟨fun ⟨kv,hm,e⟩=>⟨kv,hm,au e⟩,fun ⟨kv,hm,e⟩=>⟨kv,hm,ao e⟩⟩
theorem p5:∀(ks:List Str) (ys:List V), ks.Nodup -> mkK (d3 ks ys)=d3 ks ys := by
 have key:∀(ks:List Str) (ys:List V) (m:List (Key × V)), ks.Nodup -> (∀k ∈ ks, (Sum.inr k:Key) ∉ m.map (·.1)) -> (d3 ks ys).foldl (fun m q => dL m q.1 q.2) m=m ++ d3 ks ys := by
  intro ks
  induction ks with
  | nil=>intro ys m _ _;unfold d3;simp
  | cons k ks ih =>
   intro ys m nd hm
   cases ys with
   | nil=>unfold d3;simp
   | cons y ys =>
    obtain⟨h1,h2⟩:=aU.mp nd
    have e:d3 (k::ks) (y::ys)=(.inr k,y)::d3 ks ys:=rfl
    rw[e,List.foldl_cons]
    show List.foldl _ (dL m (.inr k) y) _=_
    rw[iY (hm k (by simp)),ih ys _ h2 (fun x hx=>?_)]
    ·simp
    ·rw[aj,ar]
     rintro (z | z)
     ·exact hm x (aM _ hx) z
     ·have:(Sum.inr x:Key)=Sum.inr k:=by simpa using z
      exact h1 (Sum.inr.inj this ▸ hx)
 intro ks ys nd
 unfold mkK
 rw[key ks ys [] nd (fun k _ h=>by cases h)]
 rfl
theorem oz:∀ {ks:List Str}{ys:List V}{i:Nat}{k:Str}{y:V},ks.Nodup->ks[i]? = some k->ys[i]? = some y->cY (d3 ks ys) (.inr k)=some y
 | [],_,_,_,_,_,h,_=>by simp at h
 | k::ks,[],_,_,_,_,_,h=>by simp at h
 | k::ks,y::ys,0,k',y',nd,h1,h2=>by
  have e1:k=k':=by simpa using h1
  have e2:y=y':=by simpa using h2
  subst e1 e2
  exact eX (p:=(Sum.inr k,y)) rfl
 | k::ks,y::ys,i+1,k',y',nd,h1,h2=>by
  obtain⟨n1,n2⟩:=aU.mp nd
  have h1:ks[i]? = some k':=by simpa using h1
  have h2:ys[i]? = some y':=by simpa using h2
  have ne:¬ (Sum.inr k:Key)=Sum.inr k':=fun z=>n1 (by rw[Sum.inr.inj z];exact av h1)
  show cY ((Sum.inr k,y)::d3 ks ys) _=_
  rw[eU ne]
  exact oz n2 h1 h2
end L2
namespace MG
structure IsD (es:List (Nat × Nat)) (W D:Nat->Int):Prop where
 ge:∀v,W v<=D v
 up:∀e∈es,D e.1+W e.2<=D e.2
 eq:∀v,D v=W v∨∃u,(u,v)∈es/\D v=D u+W v
def mx:List Int->Int
 | []=>0
 | x::l=>max x (mx l)
theorem wG:∀l,0<=mx l
 | []=>Int.le_refl 0
 | x::l=>by have:=wG l;show 0<=max x (mx l);omega
theorem wf:∀ {l:List Int}{x:Int},x∈l->x<=mx l
 | y::l,x,h=>by
  show x<=max y (mx l)
  rcases am.mp h with rfl | h
  ·omega
  ·have:=wf h;omega
theorem wr:∀l:List Int, mx l=0 ∨ mx l ∈ l
 | []=>.inl rfl
 | y::l=>by
  show max y (mx l)=0∨max y (mx l)∈y::l
  by_cases q:mx l<=y
  ·rw[show max y (mx l)=y by omega];exact .inr (by simp)
  ·rw[show max y (mx l)=mx l by omega]
   rcases wr l with h | h
   ·exact .inl h
   ·exact .inr (aM _ h)
def dp (es:List (Nat × Nat)) (W:Nat->Int):Nat->Nat->Int
 | 0,_=>0
 | k+1,v=>W v+mx ((es.filter fun e=>decide (e.2=v)).map fun e=>dp es W k e.1)
theorem zC {es:List (Nat × Nat)}{W:Nat -> Int}{r:Nat -> Nat}(hr:∀e ∈ es, r e.1<r e.2):∀k m v, r v<k -> r v<m -> dp es W k v=dp es W m v := by
 intro k
 induction k with
 | zero=>intro m v h;omega
 | succ k ih =>
  intro m v h1 h2
  cases m with
  | zero=>omega
  | succ m =>
   show W v+mx _=W v+mx _
   congr 2
   refine List.map_congr_left fun e he=>?_
   obtain⟨a,b⟩:=aw.mp he
   have b:e.2=v:=au b
   have:=hr e a
   rw[b] at this
   exact ih m e.1 (by omega) (by omega)
theorem depth_ex {es:List (Nat × Nat)}(h:Ris es) (W:Nat -> Int):∃D, IsD es W D := by
 obtain⟨r,hr⟩:=h
 have e:∀v,dp es W (r v+1) v=W v+mx ((es.filter fun e=>decide (e.2=v)).map fun e=>dp es W (r e.1+1) e.1):=by
  intro v
  show W v+mx _=W v+mx _
  congr 2
  refine List.map_congr_left fun e he=>?_
  obtain⟨a,b⟩:=aw.mp he
  have b:e.2=v:=au b
  have:=hr e a
  rw[b] at this
  exact zC hr _ _ e.1 (by omega) (by omega)
 refine⟨fun v=>dp es W (r v+1) v,fun v=>?_,fun a ha=>?_,fun v=>?_⟩
 ·rw[e v];have:=wG ((es.filter fun e=>decide (e.2=v)).map fun e=>dp es W (r e.1+1) e.1);omega
 ·rw[e a.2]
  have:=wf (l:=(es.filter fun e=>decide (e.2=a.2)).map fun e=>dp es W (r e.1+1) e.1) (aq.mpr ⟨a,aw.mpr ⟨ha,ao rfl⟩,rfl⟩)
  omega
 ·rcases wr ((es.filter fun e=>decide (e.2=v)).map fun e=>dp es W (r e.1+1) e.1) with q | q
  ·exact .inl (by rw[e v,q];omega)
  ·obtain⟨a,ha,q⟩:=aq.mp q
   obtain⟨a1,a2⟩:=aw.mp ha
   have a2:a.2=v:=au a2
   refine .inr ⟨a.1,a2 ▸ a1,?_⟩
   show dp es W (r v+1) v=dp es W (r a.1+1) a.1+W v
   have q:dp es W (r a.1+1) a.1=_:=q
   rw[e v,<- q]
   omega
theorem IsD.top {es:List (Nat × Nat)}{W D:Nat -> Int}(h:IsD es W D) {v:Nat}{M:Int}(h0:0 <= M) (hu:∀u, (u, v) ∈ es -> D u <= M) (hm:M=0 ∨ ∃u, (u, v) ∈ es /\ M=D u):W v+M=D v := by
 have a1:W v+M<=D v:=by
  rcases hm with e | ⟨u,hh,e⟩
  ·have:=h.ge v;omega
  ·have:D u+W v<=D v:=h.up (u,v) hh
   omega
 have a2:D v<=W v+M:=by
  rcases h.eq v with e | ⟨u,hh,e⟩
  ·omega
  ·have:=hu u hh;omega
 omega
theorem IsD.lay {es:List (Nat × Nat)}{n:Nat}{W D:Nat -> Int}(h:IsD es W D) (val:∀e ∈ es, e.1<n /\ e.2<n) (hW:∀v, v<n -> W v=1):IsL es n fun v => (D v-1).toNat := by
 have g:∀v,v<n->(1:Int)<=D v:=fun v hv=>by have:=h.ge v;rw[hW v hv] at this;exact this
 refine⟨fun e he=>?_,fun v hv=>?_⟩
 ·have h1:=h.up e he
  rw[hW _ (val e he).2] at h1
  have:=g e.1 (val e he).1
  show (D e.1-1).toNat+1<=(D e.2-1).toNat
  omega
 ·rcases h.eq v with e | ⟨u,hu,e⟩
  ·rw[hW v hv] at e
   exact .inl (by show (D v-1).toNat=0;omega)
  ·rw[hW v hv] at e
   have:=g u (val _ hu).1
   exact .inr ⟨u,hu,by show (D v-1).toNat=(D u-1).toNat+1;omega⟩
end MG
namespace MG
variable {es:List (Nat × Nat)}{n:Nat}{ks ls:List Nat}
def vm (es:List (Nat × Nat)) (ks:List Nat) (v:Nat):Bool:=!decide (v∈ks)&&es.all fun e=>!decide (e.2=v)||decide (e.1∈ks)
theorem dueB_iff {v:Nat}:vm es ks v=true ↔ v ∉ ks /\ ∀u, (u, v) ∈ es -> u ∈ ks := by
 unfold vm
 rw[bo,bh]
 constructor
 ·rintro⟨h1,h2⟩
  refine⟨(fun z=>by rw[ao z] at h1;cases h1),fun u hu=>?_⟩
  have:=h2 _ hu
  simpa using this
 ·rintro⟨h1,h2⟩
  refine⟨by rw[ba h1];rfl,fun e he=>?_⟩
  by_cases q:e.2=v
  ·subst q
   rw[ao (h2 e.1 he),Bool.or_true]
  ·rw[ba q];rfl
def kq (n:Nat) (es:List (Nat × Nat)) (ks:List Nat):List Nat:=(List.range n).filter (vm es ks)
inductive Sq (n:Nat) (es:List (Nat × Nat)):List Nat->Prop
 | nil:Sq n es []
 | snoc {ks r:List Nat} {v:Nat}:Sq n es ks->kq n es ks=v::r->Sq n es (ks++[v])
theorem rV {v:Nat}{r:List Nat}(h:kq n es ks=v::r):v<n/\v∉ks/\∀u,(u,v)∈es->u∈ks:=by
 have:v∈kq n es ks:=by rw[h];simp
 obtain⟨h1,h2⟩:=aw.mp this
 exact⟨aR.mp h1,dueB_iff.mp h2⟩
theorem Sq.ok (h:Sq n es ks):ks.Nodup /\ (∀x ∈ ks, x<n) /\ Grown es ks := by
 induction h with
 | nil=>exact⟨bz,(fun x hx=>by cases hx),Grown.nil⟩
 | snoc h1 h2 ih =>
  obtain⟨a,b,c⟩:=rV h2
  obtain⟨i1,i2,i3⟩:=ih
  refine⟨?_,fun x hx=>?_,i3.snoc c⟩
  ·exact(List.perm_append_singleton _ _).nodup_iff.mpr (aU.mpr ⟨b,i1⟩)
  ·rcases ar.mp hx with q | q
   ·exact i2 x q
   ·rw[aI.mp q];exact a
theorem uX (nd:ks.Nodup) (lt:∀x∈ks,x<n) (hl:ks.length=n) {x:Nat}(hx:x<n):x∈ks:=by
 refine Classical.byContradiction fun q=>?_
 have:=nodup_le (l:=x::ks) (n:=n) (aU.mpr ⟨q,nd⟩) fun y hy=>by
  rcases am.mp hy with e | e
  ·rw[e];exact hx
  ·exact lt y e
 rw[aN] at this
 omega
theorem Sq.ris (h:Sq n es ks) (val:∀e∈es,e.1<n/\e.2<n) (hl:ks.length=n):Ris es:=by
 obtain⟨nd,lt,g⟩:=h.ok
 refine⟨fun x=>ks.idxOf x,fun e he=>?_⟩
 have m2:=uX nd lt hl (val e he).2
 obtain⟨i,hi⟩:=cc m2
 have m1:=g i e.2 hi e.1 he
 obtain⟨j,hj⟩:=cc m1
 have hjl:=(ai.mp hj).1
 rw[aF] at hjl
 rw[cx (by omega)] at hj
 have a:∀(k x:Nat),ks[k]? = some x->ks.idxOf x=k:=fun k x hk=>by
  obtain⟨h1,h2⟩:=ai.mp hk
  have h3:ks.idxOf x<ks.length:=List.idxOf_lt_length_iff.mpr (h2 ▸ bU h1)
  have h4:ks[ks.idxOf x]'h3=x:=List.getElem_idxOf h3
  exact(List.getElem_inj nd).mp (h4.trans h2.symm)
 show ks.idxOf e.1<ks.idxOf e.2
 rw[a j _ hj,a i _ hi]
 omega
def gO (n:Nat) (ks:List Nat):List Nat:=(List.range n).filter fun x=>!decide (x∈ks)
theorem mem_leftOf {x:Nat}:x∈gO n ks ↔ x<n/\x∉ks:=by
 unfold gO
 rw[aw,aR,Bool.not_eq_true',decide_eq_false_iff_not]
theorem rH (val:∀e∈es,e.1<n/\e.2<n):nQ es (gO n ks)=kq n es ks:=by
 unfold nQ kq
 conv=>lhs;unfold gO
 rw[List.filter_filter]
 refine List.filter_congr fun x hx=>?_
 rw[bn,bo,dueB_iff,Bool.not_eq_true',decide_eq_false_iff_not]
 constructor
 ·rintro⟨h1,h2⟩
  refine⟨h2,fun u hu=>Classical.byContradiction fun q=>?_⟩
  exact freeB_iff.mp h1 (u,x) hu (mem_leftOf.mpr ⟨(val _ hu).1,q⟩) rfl
 ·rintro⟨h1,h2⟩
  refine⟨freeB_iff.mpr fun e he h3 h4=>?_,h1⟩
  subst h4
  exact(mem_leftOf.mp h3).2 (h2 e.1 he)
theorem vB (nd:ks.Nodup) (lt:∀x ∈ ks, x<n) (h:gO n ks=[]):ks.length=n := by
 have h1:=nodup_le nd lt
 have h2:∀x,x<n->x∈ks:=fun x hx=>Classical.byContradiction fun q=>by
  have:=mem_leftOf.mpr ⟨hx,q⟩
  rw[h] at this;cases this
 have key:∀(l ws:List Nat),l.Nodup->(∀x∈l,x∈ws)->l.length<=ws.length:=by
  intro l
  induction l with
  | nil=>intro ws _ _;exact aT _
  | cons s r ih =>
   intro ws nd hm
   obtain⟨g1,g2⟩:=aU.mp nd
   have p:=(List.perm_cons_erase (hm s (by simp))).length_eq
   rw[aN] at p ⊢
   have:=ih (ws.erase s) g2 fun x hx=>(List.mem_erase_of_ne (fun z:x=s=>g1 (z ▸ hx))).mpr (hm x (aM _ hx))
   omega
 have h3:=key (List.range n) ks List.nodup_range fun x hx=>h2 x (aR.mp hx)
 rw[bj] at h3
 omega
theorem qM (h:nQ es (gO n ks)=[]) (hl:gO n ks≠[]):∃e∈es,RingAt es e:=by
 refine Classical.byContradiction fun q=>hl (vw (es:=es) (fun x hx=>?_) fun e he r=>q ⟨e,he,r⟩)
 refine Classical.byContradiction fun z=>?_
 have:x∈nQ es (gO n ks):=aw.mpr ⟨hx,freeB_iff.mpr fun e he h1 h2=>z ⟨e.1,h1,by rw[<- h2];exact he⟩⟩
 rw[h] at this;cases this
end MG
namespace MG
variable {n:Nat}{es:List (Nat × Nat)}
theorem wL (h:∀e ∈ es, ¬ RingAt es e) (val:∀e ∈ es, e.1<n /\ e.2<n):∀m, m <= n -> ∃ks, Sq n es ks /\ ks.length=m
 | 0,_=>⟨[],Sq.nil,rfl⟩
 | m+1,hm=>by
  obtain⟨ks,hs,hl⟩:=wL h val m (by omega)
  obtain⟨nd,lt,_⟩:=hs.ok
  cases q:kq n es ks with
  | nil =>
   have hne:gO n ks≠[]:=fun z=>by have:=vB nd lt z;omega
   obtain⟨e,he,hr⟩:=qM (by rw[rH val];exact q) hne
   exact absurd hr (h e he)
  | cons v r=>exact⟨ks++[v],hs.snoc q,by rw[az,hl];rfl⟩
theorem ris_of (h:∀e∈es,¬ RingAt es e) (val:∀e∈es,e.1<n/\e.2<n):Ris es:=by
 obtain⟨ks,hs,hl⟩:=wL h val n (ad _)
 exact hs.ris val hl
end MG
namespace L2
open PySem PySem.Spec PyProof.Rows
def knO (o:Obj):HO:=.frz o (.ext fun _=>True)
theorem nX {P:Program}{w:World}{H:Hp}{h:Heap}{a:Addr}{o:Obj}(e:h.get? a=some o):ObjOk P w H h a (knO o):=⟨e,trivial,⟨o,e⟩,fun _ _ _ _=>trivial⟩
theorem ko {P:Program}{w:World}{H:Hp}{h:Heap}{a:Addr}{o:Obj}(x:HOk P w H h) (e:H a=some (knO o)):h.get? a=some o:=(x a _ e).1
def lessC (H:Hp) (l:List (Addr × Obj)):Hp:=fun b=>match l.lookup b with
 | some _=>none
 | none=>H b
def moreC (H:Hp) (l:List (Addr × Obj)):Hp:=fun b=>match l.lookup b with
 | some o=>some (knO o)
 | none=>H b
theorem iF {H:Hp}{l:List (Addr × Obj)}{b:Addr}{o:Obj}(h:l.lookup b=some o):lessC H l b=none:=by unfold lessC;rw[h]
theorem dU {H:Hp}{l:List (Addr × Obj)}{b:Addr}(h:l.lookup b=none):lessC H l b=H b:=by unfold lessC;rw[h]
theorem iB {H:Hp}{l:List (Addr × Obj)}{b:Addr}{o:Obj}(h:l.lookup b=some o):moreC H l b=some (knO o):=by unfold moreC;rw[h]
theorem dS {H:Hp}{l:List (Addr × Obj)}{b:Addr}(h:l.lookup b=none):moreC H l b=H b:=by unfold moreC;rw[h]
def KnC (H:Hp) (l:List (Addr × Obj)):Prop:=∀b o,l.lookup b=some o->H b=some (knO o)
def Unk (H:Hp) (l:List (Addr × Obj)):Prop:=∀b o,l.lookup b=some o->H b=none
section
variable {P:Program}{w:World}{H H1:Hp}{h h1:Heap}{l:List (Addr × Obj)}{fs:List Addr}
theorem KnC.out (k:KnC H l) {b:Addr}{u:HO}(e:H b=some u) (n:∀o,u≠knO o):l.lookup b=none:=by
 cases q:l.lookup b with
 | none=>rfl
 | some o=>rw[k b o q] at e;exact absurd (af e).symm (n o)
theorem Unk.out (k:Unk H l) {b:Addr}{u:HO}(e:H b=some u):l.lookup b=none:=by
 cases q:l.lookup b with
 | none=>rfl
 | some o=>rw[k b o q] at e;cases e
theorem KnC.outN (k:KnC H l) {b:Addr}(e:H b=none):l.lookup b=none:=by
 cases q:l.lookup b with
 | none=>rfl
 | some o=>rw[k b o q] at e;cases e
theorem tG (k:KnC H l):moreC (lessC H l) l=H:=by
 funext b
 cases q:l.lookup b with
 | none=>rw[dS q,dU q]
 | some o=>rw[iB q,k b o q]
theorem tH (k:Unk H l):lessC (moreC H l) l=H:=by
 funext b
 cases q:l.lookup b with
 | none=>rw[dU q,dS q]
 | some o=>rw[iF q,k b o q]
theorem HOk.lessC (x:HOk P w H h) (k:KnC H l):HOk P w (lessC H l) h:=fun b u e=>by
 cases q:l.lookup b with
 | some o=>rw[iF q] at e;cases e
 | none =>
  rw[dU q] at e
  refine(x b u e).stay (fun _ _ _ z=>z) (fun c z=>?_) fun c xs z=>?_
  ·rw[dU (k.out z fun o q=>by cases q)];exact z
  ·rw[dU (k.out z fun o q=>by cases q)];exact z
theorem HOk.moreC (x:HOk P w H h) (k:Unk H l) (g:∀b o,l.lookup b=some o->h.get? b=some o):HOk P w (moreC H l) h:=fun b u e=>by
 cases q:l.lookup b with
 | some o=>rw[iB q] at e;cases e;exact nX (g b o q)
 | none =>
  rw[dS q] at e
  refine(x b u e).stay (fun _ _ _ z=>z) (fun c z=>?_) fun c xs z=>?_
  ·rw[dS (k.out z)];exact z
  ·rw[dS (k.out z)];exact z
theorem Un.call (u:Un fs [] (moreC H l) H1 h h1) (k:Unk H l) (g:∀b o,l.lookup b=some o->h.get? b=some o) (x:HOk P w H1 h1):Un fs [] H (lessC H1 l) h h1:=by
 have kn1:KnC H1 l:=fun b o q=>u.frzs b o _ (iB q)
 have same:∀b o o',l.lookup b=some o->h.get? b=some o'->h1.get? b=some o':=fun b o o' q e=>by
  rw[g b o q] at e;cases e;exact ko x (kn1 b o q)
 refine⟨fun b o e n hb he=>?_,fun b o e n hb he=>?_,fun b o e n he=>?_,u.there,fun b xs e=>?_,fun b o v e=>?_,fun b ps e=>?_⟩
 ·cases q:l.lookup b with
  | some o'=>exact same b o' o q e
  | none=>exact u.keep b o e (by rw[dS q];exact n) hb he
 ·cases q:l.lookup b with
  | some o'=>exact⟨o.slots,same b o' o q e⟩
  | none=>exact u.slot b o e (by rw[dS q];exact n) hb he
 ·cases q:l.lookup b with
  | some o'=>exact iF q
  | none=>rw[dU q];exact u.free b o e (by rw[dS q];exact n) he
 ·have q:=k.out e
  rw[dU q];exact u.tups b xs (by rw[dS q];exact e)
 ·have q:=k.out e
  rw[dU q];exact u.frzs b o v (by rw[dS q];exact e)
 ·have q:=k.out e
  rw[dU q];exact u.tbls b ps (by rw[dS q];exact e)
theorem Un.lam (u:Un fs [] (lessC H l) H1 h h1) (k:KnC H l):Un fs [] H (moreC H1 l) h h1:=by
 refine⟨fun b o e n hb he=>?_,fun b o e n hb he=>?_,fun b o e n he=>?_,u.there,fun b xs e=>?_,fun b o v e=>?_,fun b ps e=>?_⟩
 ·exact u.keep b o e (by rw[dU (k.outN n)];exact n) hb he
 ·exact u.slot b o e (by rw[dU (k.outN n)];exact n) hb he
 ·rw[dS (k.outN n)];exact u.free b o e (by rw[dU (k.outN n)];exact n) he
 ·have q:=k.out e fun o q=>by cases q
  rw[dS q];exact u.tups b xs (by rw[dU q];exact e)
 ·cases q:l.lookup b with
  | some o'=>rw[iB q,<- k b o' q];exact e
  | none=>rw[dS q];exact u.frzs b o v (by rw[dU q];exact e)
 ·have q:=k.out e fun o q=>by cases q
  rw[dS q];exact u.tbls b ps (by rw[dU q];exact e)
end
def rG (CX:CXT) (P:Program) (w:World) (K:W.Frag) (mg:Str->Option Value) (base:Heap) (N:List Str) (qual:Str) (scope:Scope) (g:Addr) (cd:Value) (cl:List (Str × Addr)) (A:Around) (outer:List Env) (s:Shared) (H:Hp) (E':Value->Shared->Prop):Cx where
 prog:=P
 w:=w
 K:=K
 mg:=mg
 base:=base
 A:=A.deeper (W.envX qual scope s.heap.objs.size g cd cl)
 N:=N
 s₀:=s
 H₀:=H
 env:=W.envX qual scope s.heap.objs.size g cd cl
 outer:=outer
 stack:=W.envX qual scope s.heap.objs.size g cd cl::outer
 ex:=[]
 calm:=true
 fn:=fun _=>false
 pn:=[]
 xe:=E'
structure Clos (scope:Scope) (N:List Str) (cl:List (Str × Addr)) (l:List (Addr × Obj)) (vs:List V):Prop where
 len:vs.length=N.length
 inj:∀x y c,cl.lookup x=some c->cl.lookup y=some c->x=y
 has:∀x,scope.names.lookup x=some .free->∃c,cl.lookup x=some c
 cel:∀x c,cl.lookup x=some c->∃o v,l.lookup c=some o/\o.data=.cell v
 val:∀(i:Nat) (x:Str) (v:V),N[i]? = some x->vs[i]? = some v->scope.names.lookup x=some .free/\∃c o u,cl.lookup x=some c/\l.lookup c=some o/\o.data=.cell (some u)/\RelV v u
structure LamScope (scope:Scope):Prop where
 kind:scope.kind=.function
 co:scope.isCoroutine=false
 gen:scope.isGenerator=false
 nocell:∀x∈scope.names,x.2≠NameKind.cell
theorem vQ {P:Program}{w:World}{H:Hp}{h h2:Heap}{fs:List Addr}{Pt c' g:Addr}{ps mo:Array Value}{oc fo:Obj}(x:HOk P w H h) (eP:H Pt=some (.tbl ps)) (k:∀b o, b ≠ Pt -> h.get? b=some o -> h2.get? b=some o)
    (hP:h2.get? Pt=some (W.tabObj (ps++mo))) (c1:h.objs.size<=c') (g1:h.objs.size<=g) (ne:c'≠g) (ec:h2.get? c'=some oc) (eg:h2.get? g=some fo) :
    Un fs [] H (upd (upd (upd H Pt (.tbl (ps++mo))) c' (knO oc)) g (knO fo)) h h2/\HOk P w (upd (upd (upd H Pt (.tbl (ps++mo))) c' (knO oc)) g (knO fo)) h2:=by
 have old:∀b,b<h.objs.size->b≠Pt->upd (upd (upd H Pt (.tbl (ps++mo))) c' (knO oc)) g (knO fo) b=H b:=fun b hb hn=>by
  rw[cH (ak (aD hb g1)),cH (ak (aD hb c1)),cH hn]
 have lP:Pt<h.objs.size:=x.lt eP
 have atP:upd (upd (upd H Pt (.tbl (ps++mo))) c' (knO oc)) g (knO fo) Pt=some (.tbl (ps++mo)):=by
  rw[cH (ak (aD lP g1)),cH (ak (aD lP c1)),cF]
 have nP:∀b,H b=none->b≠Pt:=fun b n z=>by rw[z,eP] at n;cases n
 have nPs:∀b u,H b=some u->u≠.tbl ps->b≠Pt:=fun b u e d z=>by rw[z,eP] at e;exact d (af e).symm
 refine⟨⟨fun b o e n _ _=>k b o (nP b n) e,fun b o e n _ _=>⟨o.slots,k b o (nP b n) e⟩,fun b o e n _=>?_,fun b o e _=>?_,fun b xs e=>?_,fun b o u e=>?_,fun b qs e=>?_⟩,fun b u e=>?_⟩
 ·rw[old b (ag e) (nP b n)];exact n
 ·by_cases hb:b=Pt
  ·subst hb;exact⟨_,hP⟩
  ·exact⟨o,k b o hb e⟩
 ·rw[old b (x.lt e) (nPs b _ e (by intro z;cases z))];exact e
 ·rw[old b (x.lt e) (nPs b _ e (by intro z;cases z))];exact e
 ·by_cases hb:b=Pt
  ·subst hb;rw[eP] at e;cases e;exact⟨mo,atP⟩
  ·exact⟨#[],by rw[old b (x.lt e) hb,e];simp⟩
 ·by_cases hg:b=g
  ·subst hg;rw[cF] at e;cases e;exact nX eg
  ·rw[cH hg] at e
   by_cases hc:b=c'
   ·subst hc;rw[cF] at e;cases e;exact nX ec
   ·rw[cH hc] at e
    by_cases hb:b=Pt
    ·subst hb;rw[cF] at e;cases e;exact hP
    ·rw[cH hb] at e
     refine(x b u e).stay (fun c v hcv z=>k c v ?_ z) (fun c z=>?_) fun c xs z=>?_
     ·rcases hcv with rfl | hcv
      ·exact hb
      ·exact nPs c _ hcv (by intro z;cases z)
     ·rw[old c (x.lt z) (nPs c _ z (by intro z;cases z))];exact z
     ·rw[old c (x.lt z) (nPs c _ z (by intro z;cases z))];exact z
def qJ (qual:Str) (oc:Obj):Prop:=∃ws t,oc.data=.fields ws/\ws[1]? = some (.str qual t)
structure CTab (H:Hp) (Pt:Addr) (ps:Array Value) (pos:Pos) (qual:Str):Prop where
 tri:TriplesOk ps.toList
 at_:H Pt=some (.tbl ps)
 code:codeAmong pos ps.toList=none∨∃c' oc,codeAmong pos ps.toList=some (.ref c')/\H c'=some (knO oc)/\qJ qual oc
def tLam (Pt:Addr) (pos:Pos) (qual:Str) (fo:Addr->Value->Obj):TE:=fun _ H Q=>∃ps,CTab H Pt ps pos qual /\
 ∀(H':Hp) (g c':Addr) (oc:Obj) (ctv:Value) (ps':Array Value),H g=none->H' g=some (knO (fo c' ctv))->H' c'=some (knO oc)->qJ qual oc->H' Pt=some (.tbl ps')->TriplesOk ps'.toList->codeAmong pos ps'.toList=some (.ref c') ->
  (∀pos2:Pos,(pos2.line≠pos.line∨pos2.col≠pos.col)->codeAmong pos2 ps'.toList=codeAmong pos2 ps.toList)->(∀b u,b≠Pt->H b=some u->H' b=some u)->Q (.ref g) H'
theorem nK {pos2:Pos}{a b:Int}{c:Value}(hne:(a==(pos2.line:Int)&&b==(pos2.col:Int))=false):∀(l:List Value),TriplesOk l->codeAmong pos2 (l++[rawInt a,rawInt b,c])=codeAmong pos2 l:=by
 intro l
 induction l using TriplesOk.induct with
 | case1 =>
  intro _
  show codeAmong pos2 [Value.int a 0,Value.int b 0,c]=_
  rw[codeAmong.eq_1,hne]
  rfl
 | case2 i t j u head dH ih =>
  intro h
  rw[TriplesOk.eq_2] at h
  show codeAmong pos2 (Value.int i t::Value.int j u::head::(dH++_))=_
  rw[codeAmong.eq_1,codeAmong.eq_1,ih h]
 | case3 l h1 h2 =>
  intro h
  rw[TriplesOk.eq_3 l h1 h2] at h
  exact h.elim
theorem zc {X:Cx}{params:Arguments}{body:Expr}{scope:Scope}{pos:Pos}{c Pt:Addr}{cl:List (Str × Addr)}{qual:Str}(hdf:defaultsOf params X.env=([], [])) (hcl:closureFor scope X.env=pure cl) (hc:X.env.code=.ref c)
    (hq:X.env.qual++Str.ofString "<lambda>"=qual) (hcd:∀h:Heap,X.K.In h->W.CodeHd h c Pt) (hbm:X.base.BuiltinsAt X.mg Pt) :
    PE X (.Lambda params body scope pos) (tLam Pt pos qual fun c' ctv=>W.kla_obj (Str.ofString "<lambda>") qual params body scope cl ((X.mg (Str.ofString "__name__")).getD .none) c' ctv):=by
 intro pins s σ H Q I ⟨ps,T,h⟩
 subst hq
 have hP:s.heap.get? Pt=some (W.tabObj ps):=I.hok Pt _ T.at_
 have hns:s.heap.Ns mainGlobals X.mg:=I.mod.glob.keeps I.bk
 have hbs:s.heap.BuiltinsAt X.mg Pt:=by
  obtain⟨bm,o,a1,a2,a3,a4,a5,a6⟩:=hbm
  exact⟨bm,o,a1,a2,a3,a4,I.bk bm o a5,a6⟩
 refine W.kla_eval hdf ?_
 rcases T.code with n | ⟨c',oc,n,kc,hn⟩
 ·have nm:mainGlobals ≠ Pt := fun z => by
     obtain⟨o,es,ep,e,d,_⟩:=I.mod.glob
     have:=(I.bs _ _ e).2
     rw[z,T.at_] at this;cases this
  refine W.kla_makeFunction hcl I.ok.glob hns hc (hcd _ I.kIn) hP T.tri n nm hbs fun c' ctv h' tk hx hge hlt hrec htb=>?_
  obtain⟨c2,oc,ws,t,e2,hoc,hdt,hw⟩:=hrec
  have e2:c'=c2:=by injection e2
  subst e2
  have zz:s.heap.objs.size<=h'.objs.size:=aX hge (aS hlt)
  obtain⟨un,ok⟩:=vQ (fs:=X.fs) (h2:=h'.push (W.kla_obj (Str.ofString "<lambda>") (X.env.qual++Str.ofString "<lambda>") params body scope cl ((X.mg (Str.ofString "__name__")).getD .none) c' ctv)) (c':=c') (g:=h'.objs.size) I.hok T.at_ (fun b o nb e=>ah _ (hx b o nb e))
   (ah _ htb) hge zz (ak hlt) (ah _ hoc) (ap _ rfl)
  have lP:Pt<s.heap.objs.size:=I.hok.lt T.at_
  refine⟨.ref h'.objs.size,_,I.un (t':=tk) un ok,rfl,?_⟩
  refine h _ h'.objs.size c' oc ctv _ (I.hok.fresh zz) cF (by rw[cH (ak hlt),cF]) ⟨ws,t,hdt,hw⟩
   (by rw[cH (ak (aD lP zz)),cH (ak (aD lP hge)),cF]) ?_ ?_ (fun pos2 hne=>?_) fun b u nb e=>?_
  ·rw[ce];exact TriplesOk_snoc _ _ _ _ T.tri
  ·rw[ce];exact codeAmong_snoc _ T.tri n
  ·rw[ce]
   refine nK ?_ _ T.tri
   rcases hne with hne | hne
   ·have:((pos.line:Int)==(pos2.line:Int))=false:=by
       simp only[beq_eq_false_iff_ne,ne_eq];omega
    rw[this];rfl
   ·have:((pos.col:Int)==(pos2.col:Int))=false:=by
       simp only[beq_eq_false_iff_ne,ne_eq];omega
    rw[this,Bool.and_false]
  ·have lb:=I.hok.lt e
   rw[cH (ak (aD lb zz)),cH (ak (aD lb hge)),cH nb];exact e
 ·refine W.kla_makeFunctionHit hcl I.ok.glob hns hc (hcd _ I.kIn) hP T.tri n hbs fun ctv h' tk hx zz=>?_
  have J:=I.laid (a:=h'.objs.size) (t':=tk) (o:=knO (W.kla_obj (Str.ofString "<lambda>") (X.env.qual++Str.ofString "<lambda>") params body scope cl ((X.mg (Str.ofString "__name__")).getD .none) c' ctv)) (h':=h'.push (W.kla_obj (Str.ofString "<lambda>") (X.env.qual++Str.ofString "<lambda>") params body scope cl ((X.mg (Str.ofString "__name__")).getD .none) c' ctv)) (fun b o e=>ah _ (hx b o e)) zz (nX (ap _ rfl))
  refine⟨.ref h'.objs.size,_,J,rfl,?_⟩
  have fr:=I.hok.fresh zz
  exact h _ h'.objs.size c' oc ctv ps fr cF (by rw[cH (cL kc fr)];exact kc) hn (by rw[cH (cL T.at_ fr)];exact T.at_) T.tri n (fun _ _=>rfl) fun b u nb e=>by rw[cH (cL e fr)];exact e
def fM (sc:Scope) (env:Env):List (Str × Addr):=Classical.epsilon fun cl=>closureFor sc env=pure cl/\(∀x c,cl.lookup x=some c->env.cells.lookup x=some c)/\∀y∈sc.names,y.2=NameKind.free->∃c,cl.lookup y.1=some c
theorem pL {sc:Scope}{env:Env}(hf:∀y∈sc.names,y.2=NameKind.free->∃c,env.cells.lookup y.1=some c) :
    closureFor sc env=pure (fM sc env)/\(∀x c,(fM sc env).lookup x=some c->env.cells.lookup x=some c)/\∀y∈sc.names,y.2=NameKind.free->∃c,(fM sc env).lookup y.1=some c:=Classical.epsilon_spec (mX hf)
def fi (cl:List (Str × Addr)) (h:Heap):List (Addr × Obj):=cl.filterMap fun p=>match cl.lookup p.1 with
 | none=>none
 | some c=>match h.get? c with
  | none=>none
  | some o=>some (c,o)
theorem kR {cl:List (Str × Addr)}{h:Heap}{b:Addr}{o:Obj}(m:(b,o)∈fi cl h):h.get? b=some o/\∃x,cl.lookup x=some b:=by
 obtain⟨⟨x,c0⟩,_,e⟩:=bX.mp m
 cases q:cl.lookup x with
 | none=>simp only[q] at e;cases e
 | some c =>
  simp only[q] at e
  cases r:h.get? c with
  | none=>simp only[r] at e;cases e
  | some u=>simp only[r] at e;cases e;exact⟨r,x,q⟩
theorem uU:∀ {l:List (Addr × Obj)}{b:Addr}{o:Obj}, l.lookup b=some o -> (b, o) ∈ l
 | [],_,_,h=>by cases h
 | (c,u)::r,b,o,h=>by
  rw[aY] at h
  split at h
  ·rename_i q
   rw[LawfulBEq.eq_of_beq q,af h];exact bM
  ·exact aM _ (uU h)
theorem kO {cl:List (Str × Addr)}{h:Heap}{b:Addr}{o:Obj}(m:(fi cl h).lookup b=some o):h.get? b=some o/\∃x,cl.lookup x=some b:=kR (uU m)
theorem qN {l:List (Addr × Obj)}{h:Heap}(a:∀b o, (b, o) ∈ l -> h.get? b=some o) {c:Addr}{o:Obj}(m:(c, o) ∈ l):l.lookup c=some o := by
 have is:(l.lookup c).isSome=true := by
  clear a
  induction l with
  | nil=>cases m
  | cons p r ih =>
   obtain⟨b,u⟩:=p
   rw[aY]
   split
   ·rfl
   ·rename_i q
    rcases am.mp m with z | z
    ·cases z;simp at q
    ·exact ih z
 obtain⟨o',e⟩:=bv.mp is
 have z:=a _ _ (uU e)
 rw[a _ _ m] at z;cases z
 exact e
theorem mm {cl:List (Str × Addr)}{h:Heap}{x:Str}{c:Addr}{o:Obj}(e:cl.lookup x=some c) (g:h.get? c=some o):(fi cl h).lookup c=some o:=by
 refine qN (fun b u m=>(kR m).1) ?_
 refine bX.mpr ⟨(x,c),PySem.mem_of_lookup e,?_⟩
 simp only[e,g]
theorem sM {P:Program}{w:World}{K:W.Frag}{mg mb:Str -> Option Value}{CX:CXT}{k:Nat}{fa a Pt c:Addr}{fd:FuncData}{x:Str}{sp:Sp}{s₁:Shared}{vs:List Value}{ns:List Int}
    (KX:K.In s₁.heap) (hns:s₁.heap.Ns mainGlobals mg) (hb:s₁.heap.Ns builtinsNs mb) (hbb:∀x:Str,x≠"__name__"->mb x=bootBuiltins x) (hlim:s₁.heap.NoLimit) (hg:s₁.gens=#[])
    (hbm:∃bm ob,mg (Str.ofString "__builtins__")=some (.ref bm)/\bm≠builtinsNs/\s₁.heap.get? bm=some ob/\ob.cls=.type "module"/\ob.dict=some builtinsNs/\ob.data=.plain)
    (hP:s₁.heap.get? Pt=some (W.tabObj #[])) (hKP:K.lookup Pt=none) (hC:W.CodeHd s₁.heap c Pt)
    (ha:s₁.heap.get? a=some { cls:=.type "list",data:=.seq vs.toArray }) (hi:IntsAre vs ns) (hl:ns.length<=sizeLine) (hr:Room k callerA)
    (F:∀base:Heap,K.In base->base.Ns mainGlobals mg->base.BuiltinsAt mg Pt->FnOk P w K mg base CX k fa fd [x] sp) (hbind:∀(s:Shared) (u:Value),BindsTo s fd ⟨[u],[]⟩ [(x,u)])
    (hsp:∀H:Hp,H Pt=some (.tbl #[])->SqL K H a (ns.map V.int)->sp [.ref a] H (fun v _=>v=.bl true) fun _ _ _=>False)
    (hCX:∀H e s',CX [] H s₁ (fun _ _ _=>False) e s'->False) :
    codeAny (model P w) callerA (.call (.ref fa) ⟨[.ref a],[]⟩) (fun r s'=>r=.ok (.ret (.bool true))/\OldK s₁.heap s'.heap/\s'.os=s₁.os/\AllBare s'.gens) s₁:=by
 have rv:=nB hi
 have lenV:=hi.length
 have aP:a≠Pt:=fun z=>by
  rw[z,hP] at ha
  have:=congrArg Obj.cls (af ha)
  cases this
 have core:∀H:Hp, H Pt=some (.tbl #[]) -> (∀b, b ≠ Pt -> H b=none ∨ ∃o xs, H b=some (.frz o (.lst xs))) -> SqL K H a (ns.map V.int) -> HOk P w H s₁.heap -> (∀b, H b ≠ none -> b=a ∨ b=Pt) -> (H a ≠ none -> K.lookup a=none) ->
     codeAny (model P w) callerA (.call (.ref fa) ⟨[.ref a],[]⟩) (fun r s'=>r=.ok (.ret (.bool true))/\OldK s₁.heap s'.heap/\s'.os=s₁.os/\AllBare s'.gens) s₁:=by
  intro H hT hO hS hok hA hK
  have base_of:∀ {b:Addr} {o:Obj},s₁.heap.get? b=some o->H b=none->(i0 s₁.heap H).get? b=some o:=fun e n=>vo e n
  have noB:∀ {b:Addr} {o:Obj}, s₁.heap.get? b=some o -> (∀xs n, o.data ≠ .seq xs n) -> (∀fs, o.data ≠ .fields fs) -> H b=none := fun {b o} e d1 d2 => by
   cases q:H b with
   | none=>rfl
   | some u =>
    rcases hA b (by rw[q];simp) with e' | e'
    ·subst e'
     rw[ha] at e;cases e
     exact absurd rfl (d1 _ _)
    ·subst e'
     rw[hP] at e;cases e
     exact absurd rfl (d2 _)
  have nsK:∀ {b:Addr} {m:Str->Option Value},s₁.heap.Ns b m->(i0 s₁.heap H).Ns b m:=fun {b m} ⟨o,es,ep,e,d,r⟩=>⟨o,es,ep,base_of e (noB e (fun _ _ z=>by rw[d] at z;cases z) fun _ z=>by rw[d] at z;cases z),d,r⟩
  have hKb:K.In (i0 s₁.heap H) := fun b o e => base_of (KX b o e) (by
   cases q:H b with
   | none=>rfl
   | some u =>
    rcases hA b (by rw[q];simp) with e' | e'
    ·subst e'
     rw[hK (by rw[q];simp)] at e;cases e
    ·subst e'
     rw[hKP] at e;cases e)
  have hM:Mod K mg (i0 s₁.heap H):=⟨hKb,nsK hns,⟨mb,nsK hb,hbb⟩,let ⟨mc,h1,h2⟩:=hlim;⟨mc,nsK h1,h2⟩⟩
  have hBm:(i0 s₁.heap H).BuiltinsAt mg Pt:=by
   obtain⟨bm,ob,b1,b2,b3,b4,b5,b6⟩:=hbm
   refine⟨bm,ob,b1,b2,fun z=>?_,fun z=>?_,base_of b3 (noB b3 (fun _ _ z=>by rw[b6] at z;cases z) fun _ z=>by rw[b6] at z;cases z),b4,b5,b6⟩
   ·obtain⟨o,es,ep,e,d,_⟩:=hns
    rw[<- z,b3] at e;cases e
    rw[b6] at d;cases d
   ·rw[z,hP] at b3;cases b3;cases b4
  have e0:Env0 P w K mg (i0 s₁.heap H) callerA [] s₁ H:=⟨rfl,hM,fun b o e=>xV e,Nat.le_of_eq (si _ _),trivial,fun b hb=>absurd (show b∈([]:List Addr) from hb) (by simp),hok,.of_eq hg⟩
  refine codeAny_mono ((F _ hKb (nsK hns) hBm).run callerA [] s₁ H ⟨[.ref a],[]⟩ [.ref a] [.ref a] _ _ hr e0 (hbind s₁ (.ref a)) (.cons rfl .nil) (hsp H hT hS)) fun r s' h=>?_
  cases r with
  | error e=>exact(hCX H e s' h).elim
  | ok fl =>
   cases fl with
   | next=>exact False.elim h
   | brk=>exact False.elim h
   | cont=>exact False.elim h
   | ret u =>
    obtain⟨v,H',os,bare,un,hok',r',q⟩:=h
    have q':v=.bl true:=q
    subst q'
    obtain rfl:u=Value.bool true:=r'
    obtain⟨mo,hT'⟩:=un.tbls Pt _ hT
    have eT:s'.heap.get? Pt=some { cls:=.none,data:=.fields (#[]++mo) }:=hok' Pt _ hT'
    have keep:∀b o, b ≠ Pt -> s₁.heap.get? b=some o -> s'.heap.get? b=some o := fun b o nb e => by
     cases q:H b with
     | none=>exact un.keep b o e q (by intro z;exact absurd (show b∈([]:List Addr) from z) (by simp)) (by simp)
     | some u =>
      rcases hO b nb with z | ⟨ob,xs,z⟩
      ·rw[q] at z;cases z
      ·have z2:=un.frzs b ob _ z
       obtain⟨e1,_⟩:=hok b _ z
       obtain⟨e2,_⟩:=hok' b _ z2
       rw[e] at e1;cases e1
       exact e2
    refine⟨rfl,⟨fun b o e=>?_,fun b o e=>?_⟩,os,bare⟩
    ·by_cases hb:b=Pt
     ·subst hb
      rw[hP] at e;cases e
      refine .inr (.inl ⟨?_,rfl,#[],mo,rfl,eT⟩)
      obtain⟨o,ws,_,_,_,_,_,_,_,c1,c2,c3,c4,_⟩:=hC
      exact⟨c,o,ws,c1,c2,c3,c4⟩
     ·exact .inl (keep b o hb e)
    ·by_cases hb:b=Pt
     ·subst hb;exact⟨_,eT⟩
     ·exact⟨o,keep b o hb e⟩
 have okP:∀(H:Hp),ObjOk P w H s₁.heap Pt (.tbl #[]):=fun H=>hP
 cases hk:K.lookup a with
 | some o =>
  have e:=KX a o hk
  rw[ha] at e
  cases e
  refine core (upd (fun _=>none) Pt (.tbl #[])) cF (fun b nb=>.inl (cH nb)) (.inr ⟨_,vs.toArray,_,hk,rfl,rfl,rfl,by rw[aK,lenV];exact hl,by simpa using rv⟩) (fun b u z=>?_) (fun b z=>?_) fun z=>absurd (cH aP) z
  ·by_cases hb:b=Pt
   ·subst hb;rw[cF] at z;cases z;exact okP _
   ·rw[cH hb] at z;cases z
  ·by_cases hb:b=Pt
   ·exact .inr hb
   ·exact absurd (cH hb) z
 | none =>
  refine core (upd (upd (fun _=>none) a (.frz { cls:=.type "list",data:=.seq vs.toArray } (.lst (ns.map V.int)))) Pt (.tbl #[])) cF (fun b nb=>?_) (.inl (.inr ⟨{ cls:=.type "list",data:=.seq vs.toArray },by rw[cH aP,cF]⟩)) (fun b u z=>?_) (fun b z=>?_) fun _=>hk
  ·rw[cH nb]
   by_cases hb:b=a
   ·subst hb;exact .inr ⟨_,_,cF⟩
   ·exact .inl (cH hb)
  ·by_cases hb:b=Pt
   ·subst hb;rw[cF] at z;cases z;exact okP _
   ·rw[cH hb] at z
    by_cases hb:b=a
    ·subst hb
     rw[cF] at z
     cases z
     exact⟨ha,by rw[ac];exact hl,vs,_,rv,ha⟩
    ·rw[cH hb] at z;cases z
  ·by_cases hb:b=Pt
   ·exact .inr hb
   ·by_cases hc:b=a
    ·exact .inl hc
    ·exact absurd (by rw[cH hb,cH hc]) z
theorem Fun.okC {P:Program}{w:World}{K:W.Frag}{mg:Str -> Option Value}{base:Heap}{x qual:Str}{st:Stmt}{f:Addr}{fd:FuncData}{N ps:List Str}{k:Nat}{sp:Sp}{cv:Value}(F:Fun K x qual st f fd) (hc:fd.code=cv) (S:FnScope N ps (cI st)) (len:∀vs H Q E, sp vs H Q E -> vs.length=ps.length)
    (hbody:∀(A:Around) (outer:List Env) (s:Shared) (H:Hp) (vs:List V) (Q:VK) (E:XK),Room k (A.deeper (envOfC qual (cI st) s.heap.objs.size f cv))->sp vs H Q E ->
     ∃t,PSs (dE CX0 P w K mg base N qual (cI st) f cv A outer s H E).nox (cV st) t/\t { nx:=fun _ H'=>Q .non H',rt:=Q } (start N vs) H):FnOk P w K mg base CX0 (k+1) f fd ps sp:=by
 obtain⟨oc,od,kV,doc,pm,an,cdv,ct,osl,rfl,lk,hcd⟩:=F.ex
 have hc:cdv=cv:=hc
 subst hc
 refine qT lk hcd S len fun A outer s H vs Q E hr hsp=>?_
 obtain⟨t,h,q⟩:=hbody A outer s H vs Q E hr hsp
 exact⟨t,h.nox,q⟩
theorem mW {H:Hp}{l:List (Addr × Obj)}{b:Addr}{u:HO}(k:Unk H l) (e:H b=some u):moreC H l b=some u:=by rw[dS (k.out e)];exact e
theorem wQ {H:Hp}{l:List (Addr × Obj)}:KnC (moreC H l) l:=fun _ _ q=>iB q
def cor (H:Hp):Hp:=fun b=>match H b with
 | some (.lst xs)=>some (.lst xs)
 | some (.tup xs)=>some (.tup xs)
 | _=>none
theorem wO {H:Hp}{b:Addr}{xs:List V}(e:H b=some (.lst xs)):cor H b=some (.lst xs):=by unfold cor;rw[e]
theorem xk {H:Hp}{b:Addr}{xs:List V}(e:H b=some (.tup xs)):cor H b=some (.tup xs):=by unfold cor;rw[e]
theorem y3 {H:Hp}{b:Addr}{u:HO}(e:cor H b=some u):H b=some u/\((∃xs,u=.lst xs)∨∃xs,u=.tup xs):=by
 unfold cor at e
 split at e
 ·rename_i xs q;cases e;exact⟨q,.inl ⟨xs,rfl⟩⟩
 ·rename_i xs q;cases e;exact⟨q,.inr ⟨xs,rfl⟩⟩
 ·cases e
mutual
theorem Rep.cor {H:Hp}:∀ {v:V}{d:PyData},Rep H v d->Rep (cor H) v d
 | _,_,.non=>.non
 | _,_,.bl b=>.bl b
 | _,_,.int i=>.int i
 | _,_,.str x=>.str x
 | _,_,.lst e rs=>.lst (wO e) rs.cor
 | _,_,.tup e rs=>.tup (xk e) rs.cor
theorem RepAll.cor {H:Hp}:∀ {vs:List V}{ds:List PyData},RepAll H vs ds->RepAll (cor H) vs ds
 | _,_,.nil=>.nil
 | _,_,.cons q qs=>.cons q.cor qs.cor
end
theorem xv {H H':Hp}{Pt:Addr}{ps:Array Value}(t:H Pt=some (.tbl ps)) (s:∀b u,b≠Pt->H b=some u->H' b=some u):Same (cor H) H':=fun b u e=>by
 obtain⟨e,w⟩:=y3 e
 refine s b u (fun z=>?_) e
 rw[z,t] at e
 cases e
 rcases w with⟨xs,z⟩ | ⟨xs,z⟩
 ·cases z
 ·cases z
theorem CTab.same {H H':Hp}{Pt:Addr}{ps:Array Value}{pos:Pos}{qual:Str}(h:CTab H Pt ps pos qual) (s:Same H H'):CTab H' Pt ps pos qual :=
 ⟨h.tri,s _ _ h.at_,h.code.imp id fun ⟨c,oc,h1,h2,h3⟩=>⟨c,oc,h1,s _ _ h2,h3⟩⟩
theorem CTab.made {H H':Hp}{Pt c':Addr}{ps ps':Array Value}{pos:Pos}{qual:Str}{oc:Obj}(h1:H' Pt=some (.tbl ps')) (h2:TriplesOk ps'.toList) (h3:codeAmong pos ps'.toList=some (.ref c')) (h4:H' c'=some (knO oc)) (h5:qJ qual oc):CTab H' Pt ps' pos qual :=
 ⟨h2,h1,.inr ⟨c',oc,h3,h4,h5⟩⟩
section
variable {X:Cx}{σ:St}{H:Hp}
def qK (X:Cx) (σ:St) (H:Hp) (xs:List V) (kf:Nat->Int) (q:Addr):Prop:=∀(i:Nat) (x:V) (u:Value) (pl:List (Addr × Obj)) (s:Shared),xs[i]? = some x->RelV x u->Inv X pl σ H s ->
 wpAny (model X.prog X.w) X.A.in1 (call (.ref q) [u]) (fun u' s'=>∃t,u'=.int (kf i) t/\Inv X pl σ H s') (fun _ _=>False) s
theorem Inv.repin {pins:List (Addr × Obj)}{s:Shared}{S:Addr}{o:Obj}(I:Inv X pins σ H s) (f:eQ X pins H S) (e:s.heap.get? S=some o) (d:∀v,o.data≠.cell v):Inv X (pins++[(S,o)]) σ H s :=
 I.pins_of fun p hp=>(ar.mp hp).elim (fun z=>I.pin p (aE _ z)) fun z=>by
  rw[aI.mp z]
  exact⟨e,f.1,f.2.1,f.2.2.1,d⟩
theorem mK {pins:List (Addr × Obj)}{S b:Addr}{o:Obj}(f:eQ X pins H b) (n:S≠b):eQ X (pins++[(S,o)]) H b:=by
 obtain⟨f0,f1,f2,f3,f4,f5⟩:=f
 refine⟨f0,f1,f2,f3,f4,fun p hp=>?_⟩
 rcases ar.mp hp with hp | hp
 ·exact f5 p (ci _ hp)
 ·rcases ar.mp hp with hp | hp
  ·exact f5 p (aE _ hp)
  ·rw[aI.mp hp];exact n
theorem sW {pins:List (Addr × Obj)}{nm:Str}{tp:Pos}{J:It}{fp:List Addr}{it:Addr}{tn:Nat -> Heap -> Prop}(T:Turn X.prog X.w X.K (.Name nm tp) J fp it tn) (hc:X.calm=true) (xs:List V) (kf:Nat -> Int) (q S:Addr) (key:qK X σ H xs kf q)
    (go:∀i,i<xs.length->J.go i H/\∀x H1,J.yld i H x H1->H1=H/\xs[i]? = some x) (stop:J.stop xs.length H) (hfp:∀b∈fp,eQ X pins H b) (hS:eQ X pins H S) (nS:∀b∈fp,S≠b) {R:Result->Shared->Prop}
    (hR:∀i x u s',xs[i]? = some x->RelV x u->(∀j,j<xs.length->kf j<=kf i/\(j<i->kf j<kf i))->Inv X pins σ H s'->R (.ok (.ret u)) s') :
    ∀(r j i:Nat) (s:Shared) (xb:V) (vb:Value) (tb:Tok) (c:Nat),xs.length-(j+1)=r->j+1<=xs.length->Inv X (pins++[(S,seqObj "list" #[vb,.int (kf i) tb] c)]) σ H s->tn (j+1) s.heap->xs[i]? = some xb->RelV xb vb->i<=j->(∀j',j'<=j->kf j'<=kf i/\(j'<i->kf j'<kf i)) ->
     codeAny (model X.prog X.w) X.A (.builtin "max.loop" ⟨[.ref it,.ref q,.ref S],[]⟩) R s:=by
 have hname:(toString "max"++toString ".loop":String)="max.loop":=by decide
 intro r
 induction r with
 | zero =>
  intro j i s xb vb tb c hr hj I ht hxb rb hij hbest
  have hin:j+1=xs.length:=by omega
  have gS:s.heap.get? S=some (seqObj "list" #[vb,.int (kf i) tb] c):=(I.pin _ (aE _ (aE _ (.head _)))).1
  refine codeAny_builtin PySem.F.entry_max_loop ?_
  rw[Around.under_plainId PySem.F.plain_max_loop _]
  show wpAny _ X.A.in1 (seqItems? (.ref S) >>= _) _ _ _
  refine aa (aW gS rfl ?_)
  show wpAny _ X.A.in1 (tryCatch (pyNext (.ref it)) _ >>= _) _ _ _
  refine aa (wpAny_tryCatch (aO (T.done { X with A:=X.A.in1 } rfl rfl rfl hc (j+1) _ s σ H _ (I.atA _ rfl rfl) (fun b hb=>mK (hfp b hb) (nS b hb)) ht (by rw[hin];exact stop)) (fun r s1 ⟨e,I1⟩=>?_) fun _ _ z=>z))
  subst e
  replace I1:=Inv.ofA I.ok I1
  have gS1:s1.heap.get? S=some (seqObj "list" #[vb,.int (kf i) tb] c):=(I1.pin _ (aE _ (aE _ (.head _)))).1
  have sb:=Heap.SameBut.update s1.heap S (Obj.mapSeq fun _=>(#[]:Array Value))
  show wpAny _ X.A.in1 (updateSeq S (fun _=>#[]) >>= _) _ _ _
  refine aa ?_
  refine wpAny_updateSeq gS1 rfl (aa (wpAny_letGo (ae ?_)))
  obtain⟨f0,f1,f2,f3,f4,f5⟩:=hS
  exact hR i xb vb _ hxb rb (fun j' hj'=>hbest j' (by omega)) (I1.unpinned.turned (it:=S) (fun b o nb e=>(sb.2 b nb).trans e) f0 f1 f3 f4 f5)
 | succ r ih =>
  intro j i s xb vb tb c hr hj I ht hxb rb hij hbest
  have hlt:j+1<xs.length:=by omega
  obtain⟨hg,hy⟩:=go (j+1) hlt
  have gS:s.heap.get? S=some (seqObj "list" #[vb,.int (kf i) tb] c):=(I.pin _ (aE _ (aE _ (.head _)))).1
  refine codeAny_builtin PySem.F.entry_max_loop ?_
  rw[Around.under_plainId PySem.F.plain_max_loop _]
  show wpAny _ X.A.in1 (seqItems? (.ref S) >>= _) _ _ _
  refine aa (aW gS rfl ?_)
  show wpAny _ X.A.in1 (tryCatch (pyNext (.ref it)) _ >>= _) _ _ _
  have hfp':∀b∈fp,eQ X (pins++[(S,seqObj "list" #[vb,.int (kf i) tb] c)]) H b:=fun b hb=>mK (hfp b hb) (nS b hb)
  refine aa (wpAny_tryCatch (aO (jD (T.item { X with A:=X.A.in1 } rfl rfl rfl hc (j+1) _ s σ H _ (I.atA _ rfl rfl) hfp' ht hg)) (fun r s1 ⟨u,e,x,H1,I1,rx,yl,t1,fn⟩=>?_) fun _ _ z=>z))
  subst e
  replace I1:=Inv.ofA I.ok I1
  obtain⟨e1,hx⟩:=hy x H1 yl
  subst e1
  have I1p:=I1.pinned hfp' (T.obj _ _ t1)
  show wpAny _ X.A.in1 (tryCatch (holding [u] (call (.ref q) [u])) _ >>= _) _ _ _
  refine aa (wpAny_tryCatch (aJ (aO (key (j+1) x u _ s1 hx rx I1p) (fun x' s2 he=>?_) fun _ _ hF=>hF.elim)))
  obtain⟨t2,rfl,I2p⟩:=he
  have I2:=I2p.unpinned
  have t2n:tn (j+1+1) s2.heap:=T.keep _ _ _ t1 fun b hb o eo=>(I2p.pin (b,o) (aE _ (aE _ (gm hb eo)))).1
  have gS2:s2.heap.get? S=some (seqObj "list" #[vb,.int (kf i) tb] c):=(I2.pin _ (aE _ (aE _ (.head _)))).1
  show wpAny _ X.A.in1 (tryCatch (holding [u,.int (kf (j+1)) t2] (richCompare .Gt (.int (kf (j+1)) t2) (.int (kf i) tb) >>= _)) _ >>= _) _ _ _
  refine aa (wpAny_tryCatch (aJ (aa (CmpOf.ints_gt (prog:=X.prog) (w:=X.w) (A:=X.A.in1) (P:=fun i v=>∃t,v=.int (kf i) t) kf (fun i v h=>h) (j+1) i _ _ _ _ _ ⟨t2,rfl⟩ ⟨tb,rfl⟩ ?_))))
  refine aa (aJ (wpAny_truthy_bool ?_))
  refine aa (wpAny_letGo (ae ?_))
  by_cases hb':kf (j+1) > kf i
  ·have sb:=Heap.SameBut.update s2.heap S (Obj.mapSeq fun _=>#[u,.int (kf (j+1)) t2])
   obtain⟨c2,hc2⟩:∃c2,(s2.heap.update S (Obj.mapSeq fun _=>#[u,.int (kf (j+1)) t2])).get? S=some (seqObj "list" #[u,.int (kf (j+1)) t2] c2):=⟨_,get?_update_seq gS2 fun _=>#[u,.int (kf (j+1)) t2]⟩
   simp only[hb',decide_true,if_true]
   refine aa ?_
   refine wpAny_updateSeq gS2 rfl (aa (wpAny_letGo ?_))
   rw[hname]
   have hS':=hS
   obtain⟨f0,f1,f2,f3,f4,f5⟩:=hS'
   have I3:=I2.unpinned.turned (it:=S) (t':=s2.toks) (fun b o nb e=>(sb.2 b nb).trans e) f0 f1 f3 f4 f5
   have t3:=T.keep _ _ _ t2n fun b hb o eo=>(sb.2 b (Ne.symm (nS b hb))).trans eo
   refine ae ⟨plainId_quiet PySem.F.plain_max_loop _,ih (j+1) (j+1) _ x u t2 c2 (by omega) hlt (I3.repin hS hc2 (by intro v z;cases z)) t3 hx rx (ad _) fun j' hj'=>?_⟩
   by_cases e:j'=j+1
   ·subst e
    exact⟨Int.le_refl _,fun h=>absurd h (bb _)⟩
   ·have hb1:=(hbest j' (by omega)).1
    exact⟨by omega,fun _=>by omega⟩
  ·simp only[hb',decide_false,bQ,if_false]
   refine aa (wpAny_letGo ?_)
   rw[hname]
   refine ae ⟨plainId_quiet PySem.F.plain_max_loop _,ih (j+1) i _ xb vb tb c (by omega) hlt I2 t2n hxb rb (by omega) fun j' hj'=>?_⟩
   by_cases e:j'=j+1
   ·subst e
    exact⟨by omega,fun h=>by omega⟩
   ·exact hbest j' (by omega)
theorem pS {pins:List (Addr × Obj)}{nm:Str}{tp:Pos}{J:It}{fp:List Addr}{it:Addr}{tn:Nat->Heap->Prop}(T:Turn X.prog X.w X.K (.Name nm tp) J fp it tn) (hc:X.calm=true) (xs:List V) (kf:Nat->Int) (q S:Addr) (key:qK X σ H xs kf q)
    (go:∀i,i<xs.length->J.go i H/\∀x H1,J.yld i H x H1->H1=H/\xs[i]? = some x) (stop:J.stop xs.length H) (hfp:∀b∈fp,eQ X pins H b) (hS:eQ X pins H S) (nS:∀b∈fp,S≠b) (hne:0<xs.length) {R:Result->Shared->Prop}
    (hR:∀i x u s',xs[i]? = some x->RelV x u->(∀j,j<xs.length->kf j<=kf i/\(j<i->kf j<kf i))->Inv X pins σ H s'->R (.ok (.ret u)) s')
    (s:Shared) (I:Inv X (pins++[(S,seqObj "list" #[] 0)]) σ H s) (ht:tn 0 s.heap):codeAny (model X.prog X.w) X.A (.builtin "max.loop" ⟨[.ref it,.ref q,.ref S],[]⟩) R s:=by
 have hname:(toString "max"++toString ".loop":String)="max.loop":=by decide
 obtain⟨hg,hy⟩:=go 0 hne
 have gS:s.heap.get? S=some (seqObj "list" #[] 0):=(I.pin _ (aE _ (aE _ (.head _)))).1
 refine codeAny_builtin PySem.F.entry_max_loop ?_
 rw[Around.under_plainId PySem.F.plain_max_loop _]
 show wpAny _ X.A.in1 (seqItems? (.ref S) >>= _) _ _ _
 refine aa (aW gS rfl ?_)
 show wpAny _ X.A.in1 (tryCatch (pyNext (.ref it)) _ >>= _) _ _ _
 have hfp':∀b∈fp,eQ X (pins++[(S,seqObj "list" #[] 0)]) H b:=fun b hb=>mK (hfp b hb) (nS b hb)
 refine aa (wpAny_tryCatch (aO (jD (T.item { X with A:=X.A.in1 } rfl rfl rfl hc 0 _ s σ H _ (I.atA _ rfl rfl) hfp' ht hg)) (fun r s1 ⟨u,e,x,H1,I1,rx,yl,t1,fn⟩=>?_) fun _ _ z=>z))
 subst e
 replace I1:=Inv.ofA I.ok I1
 obtain⟨e1,hx⟩:=hy x H1 yl
 subst e1
 have I1p:=I1.pinned hfp' (T.obj _ _ t1)
 show wpAny _ X.A.in1 (tryCatch (holding [u] (call (.ref q) [u])) _ >>= _) _ _ _
 refine aa (wpAny_tryCatch (aJ (aO (key 0 x u _ s1 hx rx I1p) (fun x' s2 he=>?_) fun _ _ hF=>hF.elim)))
 obtain⟨t2,rfl,I2p⟩:=he
 have I2:=I2p.unpinned
 have t2n:tn (0+1) s2.heap:=T.keep _ _ _ t1 fun b hb o eo=>(I2p.pin (b,o) (aE _ (aE _ (gm hb eo)))).1
 have gS2:s2.heap.get? S=some (seqObj "list" #[] 0):=(I2.pin _ (aE _ (aE _ (.head _)))).1
 have sb:=Heap.SameBut.update s2.heap S (Obj.mapSeq fun _=>#[u,.int (kf 0) t2])
 obtain⟨c2,hc2⟩:∃c2,(s2.heap.update S (Obj.mapSeq fun _=>#[u,.int (kf 0) t2])).get? S=some (seqObj "list" #[u,.int (kf 0) t2] c2):=⟨_,get?_update_seq gS2 fun _=>#[u,.int (kf 0) t2]⟩
 show wpAny _ X.A.in1 (updateSeq S (fun _=>#[u,.int (kf 0) t2]) >>= _) _ _ _
 refine aa ?_
 refine wpAny_updateSeq gS2 rfl ?_
 rw[hname]
 have hS':=hS
 obtain⟨f0,f1,f2,f3,f4,f5⟩:=hS'
 have I3:=I2.unpinned.turned (it:=S) (t':=s2.toks) (fun b o nb e=>(sb.2 b nb).trans e) f0 f1 f3 f4 f5
 have t3:=T.keep _ _ _ t2n fun b hb o eo=>(sb.2 b (Ne.symm (nS b hb))).trans eo
 refine ae ⟨plainId_quiet PySem.F.plain_max_loop _,sW T hc xs kf q S key go stop hfp hS nS hR _ 0 0 _ x u t2 c2 rfl hne (I3.repin hS hc2 (by intro v z;cases z)) t3 hx rx (ad _) fun j' hj'=>?_⟩
 have e:j'=0:=by omega
 subst e
 exact⟨Int.le_refl _,fun h=>absurd h (bb _)⟩
theorem uA {pins:List (Addr × Obj)}{s:Shared}{a:Addr}{xs:List V}{kf:Nat -> Int}{q:Addr}{Q:Value -> Shared -> Prop}{E:Value -> Shared -> Prop}(hc:X.calm=true) (I:Inv X pins σ H s) (hq:SqL X.K H a xs ∨ SqT X.K H a xs) (hne:0<xs.length) (key:qK X σ H xs kf q)
    (hQ:∀i x u s',xs[i]? = some x->RelV x u->(∀j,j<xs.length->kf j<=kf i/\(j<i->kf j<kf i))->Inv X pins σ H s'->Q u s') :
    wpAny (model X.prog X.w) X.A (call (.builtin "max") [.ref a] [(Str.ofString "key",.ref q)]) Q E s:=by
 have hname:(toString "max"++toString ".loop":String)="max.loop":=by decide
 refine kmk_tree PySem.F.kind_max PySem.F.plain_max PySem.F.entry_max (kmk_max_key _ _) ?_
 show wpAny _ X.A.in1 (Builtin.Builtins.bindParams "max" ["key","default"] 0 ⟨[],[(Str.ofString "key",.ref q)]⟩ >>= _) _ _ s
 refine aa (wpAny_of_eq (show Builtin.Builtins.bindParams "max" ["key","default"] 0 ⟨[],[(Str.ofString "key",.ref q)]⟩=pure [some (.ref q),none] from rfl) ?_)
 refine aa (ae ?_)
 rcases hq with hq | hq
 ·obtain⟨its,rv,pl,hz⟩:=I.list hq
  refine aa (wpAny_pyIter_list pl.isList ?_)
  refine aa (wpAny_newList ?_ (aT _))
  rw[hname]
  refine ae ⟨plainId_quiet PySem.F.plain_max_loop _,?_⟩
  have hS:(s.heap.push { cls:=.type "list_iterator",data:=.fields #[.ref a,.int 0 0] }).objs.size=s.heap.objs.size+1:=size_push' ..
  have J1:Inv X pins σ H { s with heap:=(s.heap.push { cls:=.type "list_iterator",data:=.fields #[.ref a,.int 0 0] }).push (seqObj "list" #[] 0) }:=I.kept (t':=s.toks) fun b o e=>ah _ (ah _ e)
  have fI:eQ X pins H s.heap.objs.size:=I.fpOk (ad _) (I.hok.fresh (ad _))
  have fS:eQ X pins H (s.heap.push { cls:=.type "list_iterator",data:=.fields #[.ref a,.int 0 0] }).objs.size:=I.fpOk (by rw[hS];exact bL _) (I.hok.fresh (by rw[hS];exact bL _))
  refine pS (nm:="x") (tp:=default) (j8 a s.heap.objs.size) hc xs kf q (s.heap.push { cls:=.type "list_iterator",data:=.fields #[.ref a,.int 0 0] }).objs.size key (fun i hi=>⟨⟨xs,xs[i],hq,aG hi⟩,fun x H1 y=>⟨y.1,y.2 xs hq⟩⟩) ⟨xs,hq,ad _⟩
   (fun b hb=>by rw[aI.mp hb];exact fI) fS (fun b hb=>by rw[aI.mp hb,hS];exact Nat.succ_ne_self _) hne (fun i x u s' h1 h2 h3 h4=>hQ i x u s' h1 h2 h3 h4) _ (J1.repin fS (ap _ rfl) (by intro v z;cases z)) ⟨_,ah _ (ap _ rfl),rfl,rfl⟩
 ·obtain⟨its,rv,pl,hz⟩:=I.tuple hq
  refine aa (bD (show s.heap.IsTuple a its.toArray from pl) ?_)
  refine aa (wpAny_newList ?_ (aT _))
  rw[hname]
  refine ae ⟨plainId_quiet PySem.F.plain_max_loop _,?_⟩
  have hS:(s.heap.push { cls:=.type "tuple_iterator",data:=.fields #[.ref a,.int 0 0] }).objs.size=s.heap.objs.size+1:=size_push' ..
  have J1:Inv X pins σ H { s with heap:=(s.heap.push { cls:=.type "tuple_iterator",data:=.fields #[.ref a,.int 0 0] }).push (seqObj "list" #[] 0) }:=I.kept (t':=s.toks) fun b o e=>ah _ (ah _ e)
  have fI:eQ X pins H s.heap.objs.size:=I.fpOk (ad _) (I.hok.fresh (ad _))
  have fS:eQ X pins H (s.heap.push { cls:=.type "tuple_iterator",data:=.fields #[.ref a,.int 0 0] }).objs.size:=I.fpOk (by rw[hS];exact bL _) (I.hok.fresh (by rw[hS];exact bL _))
  refine pS (nm:="x") (tp:=default) (mi a s.heap.objs.size) hc xs kf q (s.heap.push { cls:=.type "tuple_iterator",data:=.fields #[.ref a,.int 0 0] }).objs.size key (fun i hi=>⟨⟨xs,xs[i],hq,aG hi⟩,fun x H1 y=>⟨y.1,y.2 xs hq⟩⟩) ⟨xs,hq,ad _⟩
   (fun b hb=>by rw[aI.mp hb];exact fI) fS (fun b hb=>by rw[aI.mp hb,hS];exact Nat.succ_ne_self _) hne (fun i x u s' h1 h2 h3 h4=>hQ i x u s' h1 h2 h3 h4) _ (J1.repin fS (ap _ rfl) (by intro v z;cases z)) ⟨_,ah _ (ap _ rfl),rfl,rfl⟩
end
end L2
namespace L2
open PySem PySem.Spec PyProof.Rows
abbrev Sp1:=V->Hp->VK->XK->Prop
structure LamOk1 (P:Program) (w:World) (K:W.Frag) (mg:Str->Option Value) (base:Heap) (CX:CXT) (k:Nat) (g:Addr) (sp:Sp1):Prop where
 run:∀(A:Around) (outer:List Env) (s:Shared) (H:Hp) (v:V) (u:Value) (Q:VK) (E:XK),Room k A->Env0 P w K mg base A outer s H->RelV v u->sp v H Q E ->
  codeAny (model P w) A (.call (.ref g) ⟨[u],[]⟩) (CR CX outer P w H s Q E) s
theorem vv {CX:CXT}{P:Program}{w:World}{K:W.Frag}{mg:Str -> Option Value}{base:Heap}{N:List Str}{qual:Str}{scope:Scope}{g:Addr}{cd:Value}{cl:List (Str × Addr)}{A:Around}{outer:List Env}{s s1:Shared}{H:Hp}{E':Value -> Shared -> Prop}{l:List (Addr × Obj)}{vs:List V}{m:Str -> Option Value}{x:Str}{v:V}{u:Value}
    (S:LamScope scope) (C:Clos scope N cl l vs) (k:KnC H l) (hd:A.handled=none) (e0:Env0 P w K mg base A outer s H)
    (hn:s1.heap.Ns s.heap.objs.size m) (hk:∀b o,s.heap.get? b=some o->s1.heap.get? b=some o) (ho:s1.os=s.os) (hg:s1.gens=s.gens) (hx:scope.names.lookup x=some .local) (hm:m x=some u) (r:RelV v u) :
    Inv (rG CX P w K mg base (x::N) qual scope g cd cl A outer s (lessC H l) E') [] (some v::vs.map some) (lessC H l) s1:=by
 have noA:∀b:Addr,b∉(rG CX P w K mg base (x::N) qual scope g cd cl A outer s (lessC H l) E').ex:=fun b z=>absurd (show b∈([]:List Addr) from z) (by simp)
 have less0:∀b,H b=none->lessC H l b=none:=fun b z=>by rw[dU (k.outN z)];exact z
 have cell1:∀c o,l.lookup c=some o->s1.heap.get? c=some o:=fun c o z=>hk c o (ko e0.hok (k c o z))
 refine⟨⟨e0.mod,S.kind,rfl,rfl,ad _,C.inj,fun y hy=>?_,fun y c h=>(by cases h),fun _=>hd,Around.frames_deeper e0.frames,.inr ⟨rfl,rfl⟩,fun b z=>absurd z (noA b),fun b o e=>⟨(e0.bs b o e).1,less0 b (e0.bs b o e).2⟩,e0.bsz,fun b _ _=>noA b,fun b z=>absurd z (noA b),e0.funs,fun b hb=>less0 b (e0.frf b hb)⟩,
  ho,by rw[hg];exact e0.bare,Un.kept hk,⟨m,hn,fun i y v' h1 h2 h3=>?_⟩,fun y c h=>?_,?_,fun y c h=>?_,fun p hp=>absurd (show p∈([]:List (Addr × Obj)) from hp) (by simp),(e0.hok.lessC k).kept hk,?_⟩
 ·have hy:scope.names.lookup y=some .cell∨scope.names.lookup y=some .free:=hy
  rcases hy with hy | hy
  ·exact absurd rfl (S.nocell _ (PySem.mem_of_lookup hy))
  ·exact C.has y hy
 ·cases i with
  | zero =>
   have e1:x=y:=af h1
   have e2:v=v':=af (af h2)
   subst e1 e2
   exact⟨u,r,.inl ⟨hx,hm⟩⟩
  | succ i =>
   have h1:N[i]? = some y:=h1
   have h2:(vs.map some)[i]? = some (some v'):=h2
   have h2':vs[i]? = some v':=by
    rw[al] at h2
    cases e:vs[i]? with
    | none=>rw[e] at h2;cases h2
    | some a=>rw[e] at h2;cases h2;rfl
   obtain⟨kf,c,o,u,hc,hl,hdt,r⟩:=C.val i y v' h1 h2'
   exact⟨u,r,.inr ⟨.inr kf,c,hc,o,cell1 c o hl,hdt⟩⟩
 ·obtain⟨o,v,hl,hdt⟩:=C.cel y c h
  exact⟨v,o,cell1 c o hl,hdt⟩
 ·exact less0 _ (e0.hok.fresh (ad _))
 ·obtain⟨o,v,hl,_⟩:=C.cel y c h
  exact iF hl
 ·show (vs.map some).length+1=N.length+1
  rw[ac,C.len]
theorem xG {CX:CXT}{P:Program}{w:World}{K:W.Frag}{mg:Str -> Option Value}{base:Heap}{k:Nat}{g c':Addr}{name qual x:Str}{params:Arguments}{body:Expr}{scope:Scope}{cl:List (Str × Addr)}{pm ctv:Value}{oc:Obj}{N:List Str}{l:List (Addr × Obj)}{vs:List V}{sp:Sp1}
    (S:LamScope scope) (C:Clos scope N cl l vs) (hoc:∃ws t,oc.data=.fields ws/\ws[1]? = some (.str qual t)) (hx:scope.names.lookup x=some .local)
    (hb:∀u,bindArgs (W.kla_fn name qual params body scope cl pm (.ref c') ctv) ⟨[u],[]⟩=pure [(x,u)])
    (hH:∀v H Q E,sp v H Q E->H g=some (knO (W.kla_obj name qual params body scope cl pm c' ctv))/\H c'=some (knO oc)/\KnC H l)
    (hx':∀(A:Around) (outer:List Env) (s:Shared) (H:Hp) (E:XK) (e:Value) (s':Shared),CX outer (lessC H l) s E e s'->CX outer H s E e s')
    (hbody:∀(A:Around) (outer:List Env) (s:Shared) (v:V) (H:Hp) (Q:VK) (E:XK),Room k (A.deeper (W.envX qual scope s.heap.objs.size g (.ref c') cl))->sp v H Q E ->
     ∃t,PE (rG CX P w K mg base (x::N) qual scope g (.ref c') cl A outer s (lessC H l) (fun e s'=>wpAny (model P w) (A.deeper (W.envX qual scope s.heap.objs.size g (.ref c') cl)) (leaving (W.envX qual scope s.heap.objs.size g (.ref c') cl) e) (fun _ s''=>CX outer (lessC H l) s E e s'') (fun e' s''=>CX outer (lessC H l) s E e' s'') s')) body t /\
      t (some v::vs.map some) (lessC H l) fun v H'=>Unk H' l->Q v (moreC H' l)) :
    LamOk1 P w K mg base CX (k+1) g sp:=by
 refine⟨fun A outer s H v u Q E hr e0 ru hsp=>?_⟩
 obtain⟨hg,hc,hl⟩:=hH v H Q E hsp
 have lim:s.heap.NoLimit:=e0.mod.nolimit.keeps fun b o e=>(e0.bs b o e).1
 obtain⟨ws,t0,w1,w2⟩:=hoc
 refine W.kla_callFunE hr.depth (ko e0.hok hg) rfl S.co S.gen rfl ⟨c',oc,ws,t0,rfl,ko e0.hok hc,w1,w2⟩ ?_
 rw[hb u]
 refine ae (wpAny_newFunctionEnv S.nocell (fun y z=>by rw[aI.mp z];exact hx) (fun h' ns sb=>?_) S.kind)
 have hk:∀b o,s.heap.get? b=some o->h'.get? b=some o:=fun b o e=>by
  rw[sb.2 b (ak (ag e))];exact ah _ e
 refine⟨lim.keeps hk,W.kla_codeExpr ?_⟩
 obtain⟨t,ht,hq⟩:=hbody A outer s v H Q E (hr.deeper _) hsp
 have hm:(fun y=>([(x,u)]:List (Str × Value)).reverse.lookup y) x=some u:=by simp
 have I:=vv (CX:=CX) (N:=N) (qual:=qual) (g:=g) (cd:=.ref c') (s1:={ s with heap:=h',toks:=s.toks+[(x,u)].length }) (E':=fun e s'=>wpAny (model P w) (A.deeper (W.envX qual scope s.heap.objs.size g (.ref c') cl)) (leaving (W.envX qual scope s.heap.objs.size g (.ref c') cl) e) (fun _ s''=>CX outer (lessC H l) s E e s'') (fun e' s''=>CX outer (lessC H l) s E e' s'') s') S C hl hr.hd e0 ns hk rfl rfl hx hm ru
 refine aO (ht [] _ _ _ _ I hq) (fun u s' hs=>?_) fun e s' hs=>?_
 ·obtain⟨v,H',J,rv,q⟩:=hs
  have un:=J.base
  have unk:Unk H' l:=fun b o z=>un.free b o (ko e0.hok (hl b o z)) (iF z) (fun q=>absurd (show b∈([]:List Addr) from q) (by simp))
  refine⟨v,moreC H' l,J.os,J.bare,Un.lam un hl,?_,rv,q unk⟩
  refine J.hok.moreC unk fun b o z=>?_
  refine un.keep b o (ko e0.hok (hl b o z)) (iF z) (fun hb=>?_) (fun q=>absurd (show b∈([]:List Addr) from q) (by simp))
  have:=e0.frf b hb
  rw[hl b o z] at this;cases this
 ·refine aO hs (fun _ s'' z=>hx' A outer s H E e s'' z) fun e' s'' z=>hx' A outer s H E e' s'' z
theorem wW {X:Cx}{σ:St}{H:Hp}{k:Nat}{g:Addr}{xs:List V}{kf:Nat -> Int}{sc:Scope}{N:List Str}{is:List Nat}{ws:List V}{sp:List (Addr × Obj) -> Sp1}(hr:Room (k+1) X.A)
    (hf:∀y∈sc.names,y.2=NameKind.free->∃c,X.env.cells.lookup y.1=some c) (hfn:∀y,X.fn y=true)
    (hN:∀(j:Nat) (y:Str),N[j]? = some y->sc.names.lookup y=some .free/\X.env.kindOf y=some .cell/\∃i,is[j]? = some i/\X.N[i]? = some y)
    (wl:ws.length=N.length) (wσ:∀(j i:Nat) (v:V),is[j]? = some i->ws[j]? = some v->σ[i]? = some (some v))
    (F:∀l,Clos sc N (fM sc X.env) l ws->LamOk1 X.prog X.w X.K X.mg X.base CX0 k g (sp l))
    (hsp:∀l,Clos sc N (fM sc X.env) l ws->Unk H l->∀i x,xs[i]? = some x->sp l x (moreC H l) (fun v H'=>v=.int (kf i)/\H'=moreC H l) E0):qK X σ H xs kf g:=by
 intro i x u pl s hx rx I
 obtain⟨_,cl1,cl2⟩:=pL hf
 have ge:∀b o,(fi (fM sc X.env) s.heap).lookup b=some o->s.heap.get? b=some o:=fun b o z=>(kO z).1
 have cel:∀b o,(fi (fM sc X.env) s.heap).lookup b=some o->∃y,X.env.cells.lookup y=some b:=fun b o z=>let ⟨_,y,z2⟩:=kO z;⟨y,cl1 y b z2⟩
 have unk:Unk H (fi (fM sc X.env) s.heap):=fun b o z=>let ⟨y,z2⟩:=cel b o z;I.freeC y b z2
 have big:∀b o,(fi (fM sc X.env) s.heap).lookup b=some o->X.s₀.heap.objs.size<=b:=fun b o z=>let ⟨y,z2⟩:=cel b o z;I.ok.cab y b (hfn y) z2
 have C:Clos sc N (fM sc X.env) (fi (fM sc X.env) s.heap) ws := by
  refine⟨wl,fun x y c h1 h2=>I.ok.inj x y c (cl1 x c h1) (cl1 y c h2),fun y hy=>cl2 _ (PySem.mem_of_lookup hy) rfl,fun y c hc=>?_,fun j y v h1 h2=>?_⟩
  ·obtain⟨v,o,ho,hd⟩:=I.cell y c (cl1 y c hc)
   exact⟨o,v,mm hc ho,hd⟩
  ·obtain⟨kf,kc,i,hi,hXi⟩:=hN j y h1
   obtain⟨m,_,hl⟩:=I.loc
   obtain⟨u,ru,l⟩:=hl i y v hXi (wσ j i v hi h2) (.inr (.inl kc))
   obtain⟨c2,hc2⟩:=cl2 _ (PySem.mem_of_lookup kf) rfl
   rcases l with⟨l1,_⟩ | ⟨_,c,hc,o,ho,hd⟩
   ·rw[kc] at l1;cases l1
   ·have z:=cl1 _ _ hc2
    have z':c=c2:=af (hc.symm.trans z)
    rw[z'] at ho
    exact⟨kf,c2,o,u,hc2,mm hc2 ho,hd,ru⟩
 have out:∀b,(∀o,(fi (fM sc X.env) s.heap).lookup b≠some o)->H b=none->moreC H (fi (fM sc X.env) s.heap) b=none:=fun b nb hb=>by
  cases z:(fi (fM sc X.env) s.heap).lookup b with
  | some o=>exact absurd z (nb o)
  | none=>rw[dS z];exact hb
 have e0:=I.env0
 have e1:Env0 X.prog X.w X.K X.mg X.base X.A X.stack s (moreC H (fi (fM sc X.env) s.heap)) := by
  refine⟨e0.frames,e0.mod,fun b o eb=>⟨(e0.bs b o eb).1,out b (fun u z=>?_) (e0.bs b o eb).2⟩,e0.bsz,e0.funs,fun b hb=>out b (fun u z=>?_) (e0.frf b hb),e0.hok.moreC unk ge,e0.bare⟩
  ·exact absurd (aD (aD (ag eb) I.ok.bsz) (big b u z)) (bb _)
  ·rcases am.mp (I.stkSub b hb) with zz | zz
   ·obtain⟨y,z2⟩:=cel b u z
    exact I.cne y b z2 zz
   ·obtain⟨_,o,ho,_⟩:=I.ok.funs.mem zz
    exact absurd (aD (ag ho) (big b u z)) (bb _)
 refine wpAny_call (codeAny_mono ((F _ C).run X.A.in1 X.stack s _ x u _ E0 hr.in1 e1.in1 rx (hsp _ C unk i x hx)) fun r s' hq=>?_)
 cases r with
 | error e=>exact hq
 | ok fl =>
  cases fl with
  | ret u' =>
   obtain⟨v,H2,os,bare,un,hok,rv,rfl,rfl⟩:=hq
   have kn2:KnC (moreC H (fi (fM sc X.env) s.heap)) (fi (fM sc X.env) s.heap):=fun b o z=>iB z
   obtain⟨v2,H3,J,r2,e2,e3⟩:=I.after (Q:=fun v H'=>v=.int (kf i)/\H'=H) ⟨.int (kf i),_,os,bare,Un.call un unk ge hok,hok.lessC kn2,rv,rfl,tH unk⟩
   subst e2 e3
   obtain⟨t,rfl⟩:=r2
   exact⟨t,rfl,J⟩
  | next=>exact False.elim hq
  | brk=>exact False.elim hq
  | cont=>exact False.elim hq
theorem kN {M:Model}{A:Around}{E:Value->Shared->Prop}{s:Shared}{pos:Pos}{id:String}{first:List Value}{args:List (Bool × Sem Value)}{kws:List (Option Str × Sem Value)}{Q:Value->Shared->Prop}(hplain:(args.any (·.1)||kws.any (·.1.isNone))=false)
    (h:wpAny M A (evalArgs (.builtin id) true args kws) (fun a s₁=>wpAny M A (call (.builtin id) (first++a.pos) a.kw) Q E s₁) E s):wpAny M A (callWith pos (.builtin id) first args kws) Q E s:=by
 unfold callWith
 refine aa (aJ (aO h (fun a s₁ h₁=>aa (wpAny_standAt ?_)) fun _ _ x=>x))
 simp only[hplain]
 refine aa (ae ?_)
 exact aa (aO h₁ (fun r s₂ hr=>aa (aJ (wpAny_point (ae hr)))) fun _ _ x=>x)
def qr (X:Cx) (k:Nat) (sc:Scope) (N:List Str) (is:List Nat) (σ:St) (Q:VK) (x f:V) (H2:Hp):Prop:=∃(a g:Addr) (xs:List V) (kf:Nat->Int) (ws:List V) (sp:List (Addr × Obj)->Sp1),x=.ref a/\f=.ref g/\(SqL X.K H2 a xs∨SqT X.K H2 a xs)/\0<xs.length/\ws.length=N.length/\(∀(j i:Nat) (v:V),is[j]? = some i->ws[j]? = some v->σ[i]? = some (some v)) /\
 (∀l,Clos sc N (fM sc X.env) l ws->LamOk1 X.prog X.w X.K X.mg X.base CX0 k g (sp l))/\(∀l,Clos sc N (fM sc X.env) l ws->Unk H2 l->∀i x,xs[i]? = some x->sp l x (moreC H2 l) (fun v H'=>v=.int (kf i)/\H'=moreC H2 l) E0) /\
 ∀i x,xs[i]? = some x->(∀j,j<xs.length->kf j<=kf i/\(j<i->kf j<kf i))->Q x H2
def zT (X:Cx) (k:Nat) (sc:Scope) (N:List Str) (is:List Nat) (te tl:TE):TE:=fun σ H Q=>te σ H fun x H1=>tl σ H1 fun f H2=>qr X k sc N is σ Q x f H2
theorem xn {X:Cx}{k:Nat}{sc:Scope}{N:List Str}{is:List Nat}{e f:Expr}{te tl:TE}{p pos kpos:Pos}(hc:X.calm=true) (hr:Room (k+1) X.A) (B:Blt X.mg)
    (hf:∀y∈sc.names,y.2=NameKind.free->∃c,X.env.cells.lookup y.1=some c) (hfn:∀y,X.fn y=true)
    (hN:∀(j:Nat) (y:Str),N[j]? = some y->sc.names.lookup y=some .free/\X.env.kindOf y=some .cell/\∃i,is[j]? = some i/\X.N[i]? = some y)
    (ha:PE X e te) (hl:PE X f tl) (hg:Gl X "max":=by rfl) (hall:(backToKw pos (keywordEach [⟨some "key",f,kpos⟩] X.env)).all (·.1.isSome)=true:=by rfl)
    (hks:(backToKw pos (keywordEach [⟨some "key",f,kpos⟩] X.env)).filterMap (·.1)=[Str.ofString "key"]:=by rfl) (he:starEach [e] X.env=(false,eval e X.env)::starEach [] X.env:=by rfl)
    (hpl:((backTo pos (starEach [e] X.env)).any (·.1)||(backToKw pos (keywordEach [⟨some "key",f,kpos⟩] X.env)).any (·.1.isNone))=false:=by rfl) :
    PE X (.Call (.Name "max" p) [e] [⟨some "key",f,kpos⟩] pos) (zT X k sc N is te tl):=by
 intro pins s σ H Q I h
 refine bF (gs I hg B.max (show bootBuiltins "max"=some (.builtin "max") by decide +kernel) ?_ (by decide) (by decide))
 have A1:PA X [e] (lC te mw):=cC ha cE he
 have K1:PK X [⟨some "key",f,kpos⟩] (lC tl mw):=xf hl yj
 refine kN hpl (evalArgs_kw2 hall (thn (A1 pos pins s σ H (fun vs H1=>match vs with | [x]=>tl σ H1 (fun f H2=>qr X k sc N is σ Q x f H2) | _=>False) I h) fun us s1 ⟨vs,H1,I1,r1,q1⟩=>?_) he)
 rcases vs with _ | ⟨x,_ | ⟨y,r⟩⟩
 ·exact q1.elim
 ·refine thn (K1 pos pins s1 σ H1 (fun zs H2=>match zs with | [f]=>qr X k sc N is σ Q x f H2 | _=>False) I1 q1) fun ks s2 ⟨zs,H2,I2,rz,q2⟩=>?_
  rcases zs with _ | ⟨f',_ | ⟨y,r⟩⟩
  ·exact q2.elim
  ·obtain⟨a,g,xs,kf,ws,sp,rfl,rfl,hq,hne,wl,wσ,F,hsp,q⟩:=q2
   obtain⟨u1,rfl,ru⟩:=fq r1
   obtain⟨u2,rfl,ru2⟩:=fq rz
   cases ru
   cases ru2
   rw[hks]
   exact uA hc I2 hq hne (wW hr hf hfn hN wl wσ F hsp) fun i x u s' h1 h2 h3 J=>⟨x,H2,J,h2,q i x h1 h3⟩
  ·exact q2.elim
 ·exact q1.elim
section
variable {prog:Program}{w:World}{A:Around}{E:Value->Shared->Prop}{s:Shared}
theorem tN {z TI TO i1 i2 l1 l2:Addr}{k1 k2:Nat}{f0:Value}{f1:Bool}{xs ys:Array Value}{x y a b:Value}{Q:Value -> Shared -> Prop}(D:ZipApart z TI TO i1 i2 l1 l2) (hf:F0 f0)
    (hz:Zp s.heap z TI TO f0 f1) (hTI:IsPair s.heap TI (.ref i1) (.ref i2)) (hTO:IsPair s.heap TO a b)
    (h1:s.heap.IsTupleIter i1 l1 k1) (h2:s.heap.IsTupleIter i2 l2 k2) (hl1:s.heap.IsTuple l1 xs) (hl2:s.heap.IsTuple l2 ys) (hx:xs[k1]? = some x) (hy:ys[k2]? = some y)
    (hQ:∀h' f0' f1',F0 f0'->Zp h' z TI TO f0' f1'->(∃a b,IsPair h' TO a b)->h'.IsTupleIter i1 l1 (k1+1)->h'.IsTupleIter i2 l2 (k2+1)->IsPair h' s.heap.objs.size x y ->
     (∀c o,c≠z->c≠TO->c≠i1->c≠i2->s.heap.get? c=some o->h'.get? c=some o)->Q (.ref s.heap.objs.size) { s with heap:=h' }) :
    wpAny (model prog w) A (Builtin.«zip.__next__» ⟨[.ref z],[]⟩) (fun fin s'=>∃v,fin=.done (.ret v)/\Q v s') E s:=by
 show wpAny _ _ (field (.ref z) 2 >>= _) _ _ _
 refine aa (aL hz rfl (x:=.bool false) rfl ?_)
 show wpAny _ _ (field (.ref z) 3 >>= _) _ _ _
 refine aa (aL hz rfl (x:=.ref TI) rfl (aa (aW hTI rfl ?_)))
 refine aa (kE hf hz fun own f1' g0 hz0 sb0=>?_)
 have sz0:g0.objs.size=s.heap.objs.size:=sb0.1
 cases own with
 | true =>
  simp only[if_true]
  refine aa (wpAny_rule ?_)
  refine aa (aL (s:={ s with heap:=g0 }) hz0 rfl (x:=.ref TO) rfl ?_)
  refine aa (bg (s:={ s with heap:=g0 }) hz0 (by simp) fun g1 hz1 sb1=>?_)
  replace hz1:Zp g1 z TI TO .ellipsis f1':=hz1
  refine aa ?_
  simp only[List.zipIdx_cons,List.zipIdx_nil,bp,bA]
  refine aa (aa (wpAny_onRaise ?_))
  show wpAny _ _ (Builtin.SmallTypes.nextOf (.ref i1) >>= _) _ _ _
  have up1:∀c o,c≠z->s.heap.get? c=some o->g1.get? c=some o:=fun c o n e=>sb1.extBut _ _ n (sb0.extBut _ _ n e)
  refine aa (eL (h1.at fun o e=>up1 _ o D.i1z e) (hl1.at fun o e=>up1 _ o D.l1z e) hx fun g2 j1 sb2=>ae ?_)
  have hTO2:IsPair g2 TO a b:=sb2.extBut _ _ D.TOi1 (up1 _ _ D.TOz hTO)
  refine aa (aW hTO2 rfl (aa (wpAny_updateSeq_pair hTO2 fun g3 hTO3 sb3=>?_)))
  replace hTO3:IsPair g3 TO x b:=hTO3
  refine aa (wpAny_letGo (ae (aa (aa (wpAny_onRaise ?_)))))
  show wpAny _ _ (Builtin.SmallTypes.nextOf (.ref i2) >>= _) _ _ _
  have up3:∀c o,c≠z->c≠i1->c≠TO->s.heap.get? c=some o->g3.get? c=some o:=fun c o n1 n2 n3 e=>sb3.extBut _ _ n3 (sb2.extBut _ _ n2 (up1 _ _ n1 e))
  refine aa (eL (h2.at fun o e=>up3 _ o D.i2z D.i12.symm D.TOi2.symm e) (hl2.at fun o e=>up3 _ o D.l2z D.l2i1 D.l2TO e) hy fun g4 j2 sb4=>ae ?_)
  have hTO4:IsPair g4 TO x b:=sb4.extBut _ _ D.TOi2 hTO3
  refine aa (aW hTO4 rfl (aa (wpAny_updateSeq_pair hTO4 fun g5 hTO5 sb5=>?_)))
  replace hTO5:IsPair g5 TO x y:=hTO5
  refine aa (wpAny_letGo (ae (ae ?_)))
  refine aa (aW hTO5 rfl (aa (wpAny_newTuple ?_)))
  have hsz:g5.objs.size=s.heap.objs.size:=by rw[sb5.1,sb4.1,sb3.1,sb2.1,sb1.1,sz0]
  have hz5:Zp g5 z TI TO .ellipsis f1':=sb5.extBut _ _ D.TOz.symm (sb4.extBut _ _ D.i2z.symm (sb3.extBut _ _ D.TOz.symm (sb2.extBut _ _ D.i1z.symm hz1)))
  have j15:g5.IsTupleIter i1 l1 (k1+1):=j1.at fun o e=>sb5.extBut _ _ D.TOi1.symm (sb4.extBut _ _ D.i12 (sb3.extBut _ _ D.TOi1.symm e))
  have j25:g5.IsTupleIter i2 l2 (k2+1):=j2.at fun o e=>sb5.extBut _ _ D.TOi2.symm e
  have hk5:∀c o,c≠z->c≠TO->c≠i1->c≠i2->s.heap.get? c=some o->g5.get? c=some o:=fun c o c1 c2 c3 c4 e=>sb5.extBut _ _ c2 (sb4.extBut _ _ c4 (up3 _ _ c1 c3 c2 e))
  have hzlt:z<g5.objs.size:=ag hz5
  show wpAny _ _ (Builtin.SmallTypes.ownedTupleHandOut (.ref z) (.ref g5.objs.size) >>= _) _ _ _
  refine aa ?_
  unfold Builtin.SmallTypes.ownedTupleHandOut
  have hz6:Zp (g5.push { cls:=.type "tuple",data:=.seq #[x,y] }) z TI TO .ellipsis f1':=ah _ hz5
  refine aa (bg hz6 (by simp) fun g7 hz7 sb7=>?_)
  replace hz7:Zp g7 z TI TO (rawInt g5.objs.size) f1':=hz7
  refine bg hz7 (by simp) fun g8 hz8 sb8=>?_
  replace hz8:Zp g8 z TI TO (rawInt g5.objs.size) false:=hz8
  have up:∀c o,c≠z->g5.get? c=some o->g8.get? c=some o:=fun c o c1 e=>sb8.extBut _ _ c1 (sb7.extBut _ _ c1 (ah _ e))
  have hT8:IsPair g8 g5.objs.size x y:=sb8.extBut _ _ (bC hzlt) (sb7.extBut _ _ (bC hzlt) (ap _ rfl))
  refine ae ⟨_,rfl,?_⟩
  show Q (.ref g5.objs.size) _
  rw[hsz] at hz8 hT8 ⊢
  exact hQ g8 _ _ (.inr ⟨_,rfl⟩) hz8 ⟨x,y,up _ _ D.TOz hTO5⟩ (j15.at fun o e=>up _ o D.i1z e) (j25.at fun o e=>up _ o D.i2z e) hT8 fun c o c1 c2 c3 c4 e=>up c o c1 (hk5 c o c1 c2 c3 c4 e)
 | false =>
  simp only[bQ,if_false]
  refine aa ?_
  rw[<- Array.forIn_toList]
  simp only[bp,bA]
  refine aa (aa (aJ ?_))
  show wpAny _ _ (Builtin.SmallTypes.nextOf (.ref i1) >>= _) _ _ _
  have up1:∀c o,c≠z->s.heap.get? c=some o->g0.get? c=some o:=fun c o n e=>sb0.extBut _ _ n e
  refine aa (eL (s:={ s with heap:=g0 }) (h1.at fun o e=>up1 _ o D.i1z e) (hl1.at fun o e=>up1 _ o D.l1z e) hx fun g2 j1 sb2=>ae ?_)
  replace sb2:Heap.SameBut i1 g0 g2:=sb2
  refine ae (aa (aa (aJ ?_)))
  show wpAny _ _ (Builtin.SmallTypes.nextOf (.ref i2) >>= _) _ _ _
  have up2:∀c o,c≠z->c≠i1->s.heap.get? c=some o->g2.get? c=some o:=fun c o n1 n2 e=>sb2.extBut _ _ n2 (up1 _ _ n1 e)
  refine aa (eL (h2.at fun o e=>up2 _ o D.i2z D.i12.symm e) (hl2.at fun o e=>up2 _ o D.l2z D.l2i1 e) hy fun g4 j2 sb4=>ae ?_)
  replace sb4:Heap.SameBut i2 g2 g4:=sb4
  refine ae (ae ?_)
  show wpAny _ _ (newTuple [x,y] >>= _) _ _ _
  refine aa (wpAny_newTuple (ae ⟨_,rfl,?_⟩))
  have hsz:g4.objs.size=s.heap.objs.size:=by rw[sb4.1,sb2.1,sz0]
  show Q (.ref g4.objs.size) _
  have pu:∀c o,g4.get? c=some o->(g4.push { cls:=.type "tuple",data:=.seq #[x,y] }).get? c=some o:=fun c o e=>ah _ e
  have hT8:IsPair (g4.push { cls:=.type "tuple",data:=.seq #[x,y] }) g4.objs.size x y:=ap _ rfl
  rw[hsz] at hT8 ⊢
  exact hQ _ _ _ hf (pu _ _ (sb4.extBut _ _ D.i2z.symm (sb2.extBut _ _ D.i1z.symm hz0))) ⟨a,b,pu _ _ (sb4.extBut _ _ D.TOi2 (up2 _ _ D.TOz D.TOi1 hTO))⟩ (j1.at fun o e=>pu _ o (sb4.extBut _ _ D.i12 e)) (j2.at fun o e=>pu _ o e) hT8 fun c o c1 c2 c3 c4 e=>pu _ _ (sb4.extBut _ _ c4 (up2 _ _ c1 c3 e))
theorem uW {z TI TO i1 i2 l1 l2:Addr}{k1 k2:Nat}{f0:Value}{f1:Bool}{xs ys:Array Value}{a b:Value}{Q:Fin -> Shared -> Prop}(hh:A.handled=none) (D:ZipApart z TI TO i1 i2 l1 l2) (hf:F0 f0)
    (hz:Zp s.heap z TI TO f0 f1) (hTI:IsPair s.heap TI (.ref i1) (.ref i2)) (hTO:IsPair s.heap TO a b)
    (h1:s.heap.IsTupleIter i1 l1 k1) (h2:s.heap.IsTupleIter i2 l2 k2) (hl1:s.heap.IsTuple l1 xs) (hl2:s.heap.IsTuple l2 ys) (hend:xs[k1]? = none∨ys[k2]? = none)
    (hE:∀h' e,(∀c o,c≠z->c≠TO->c≠i1->c≠i2->s.heap.get? c=some o->h'.get? c=some o)->(∃o,h'.get? e=some o/\o.cls=.type "StopIteration")->E (.ref e) { s with heap:=h' }) :
    wpAny (model prog w) A (Builtin.«zip.__next__» ⟨[.ref z],[]⟩) Q E s:=by
 show wpAny _ _ (field (.ref z) 2 >>= _) _ _ _
 refine aa (aL hz rfl (x:=.bool false) rfl ?_)
 show wpAny _ _ (field (.ref z) 3 >>= _) _ _ _
 refine aa (aL hz rfl (x:=.ref TI) rfl (aa (aW hTI rfl ?_)))
 refine aa (kE hf hz fun own f1' g0 hz0 sb0=>?_)
 cases own with
 | true =>
  simp only[if_true]
  refine aa (wpAny_rule ?_)
  refine aa (aL (s:={ s with heap:=g0 }) hz0 rfl (x:=.ref TO) rfl ?_)
  refine aa (bg (s:={ s with heap:=g0 }) hz0 (by simp) fun g1 hz1 sb1=>?_)
  replace hz1:Zp g1 z TI TO .ellipsis f1':=hz1
  refine aa ?_
  simp only[List.zipIdx_cons,List.zipIdx_nil,bp,bA]
  refine aa (aa (wpAny_onRaise ?_))
  show wpAny _ _ (Builtin.SmallTypes.nextOf (.ref i1) >>= _) _ _ _
  have up1:∀c o,c≠z->s.heap.get? c=some o->g1.get? c=some o:=fun c o n e=>sb1.extBut _ _ n (sb0.extBut _ _ n e)
  cases hx:xs[k1]? with
  | none =>
   refine aa (fK hh (h1.at fun o e=>up1 _ o D.i1z e) (hl1.at fun o e=>up1 _ o D.l1z e) hx fun g2 e sb2 he=>?_)
   obtain⟨oe,hoe,hce⟩:=he
   have hz2:Zp g2 z TI TO .ellipsis f1':=sb2 _ _ D.i1z.symm hz1
   have hez:e≠z:=fun q=>by subst q;rw[hz2] at hoe;cases hoe;simp at hce
   exact bg hz2 (by simp) fun g3 _ sb3=>hE g3 e (fun c o c1 _ c3 _ q=>sb3.extBut _ _ c1 (sb2 _ _ c3 (up1 _ _ c1 q))) ⟨oe,sb3.extBut _ _ hez hoe,hce⟩
  | some x =>
   have hy:ys[k2]? = none:=by rcases hend with q | q;rw[hx] at q;cases q;exact q
   refine aa (eL (h1.at fun o e=>up1 _ o D.i1z e) (hl1.at fun o e=>up1 _ o D.l1z e) hx fun g2 j1 sb2=>ae ?_)
   have hTO2:IsPair g2 TO a b:=sb2.extBut _ _ D.TOi1 (up1 _ _ D.TOz hTO)
   refine aa (aW hTO2 rfl (aa (wpAny_updateSeq_pair hTO2 fun g3 hTO3 sb3=>?_)))
   refine aa (wpAny_letGo (ae (aa (aa (wpAny_onRaise ?_)))))
   show wpAny _ _ (Builtin.SmallTypes.nextOf (.ref i2) >>= _) _ _ _
   have up3:∀c o,c≠z->c≠i1->c≠TO->s.heap.get? c=some o->g3.get? c=some o:=fun c o n1 n2 n3 e=>sb3.extBut _ _ n3 (sb2.extBut _ _ n2 (up1 _ _ n1 e))
   refine aa (fK hh (h2.at fun o e=>up3 _ o D.i2z D.i12.symm D.TOi2.symm e) (hl2.at fun o e=>up3 _ o D.l2z D.l2i1 D.l2TO e) hy fun g4 e sb4 he=>?_)
   obtain⟨oe,hoe,hce⟩:=he
   have hz4:Zp g4 z TI TO .ellipsis f1':=sb4 _ _ D.i2z.symm (sb3.extBut _ _ D.TOz.symm (sb2.extBut _ _ D.i1z.symm hz1))
   have hez:e≠z:=fun q=>by subst q;rw[hz4] at hoe;cases hoe;simp at hce
   exact bg hz4 (by simp) fun g5 _ sb5=>hE g5 e (fun c o c1 c2 c3 c4 q=>sb5.extBut _ _ c1 (sb4 _ _ c4 (up3 _ _ c1 c3 c2 q))) ⟨oe,sb5.extBut _ _ hez hoe,hce⟩
 | false =>
  simp only[bQ,if_false]
  refine aa ?_
  rw[<- Array.forIn_toList]
  simp only[bp,bA]
  refine aa (aa (aJ ?_))
  show wpAny _ _ (Builtin.SmallTypes.nextOf (.ref i1) >>= _) _ _ _
  have up1:∀c o,c≠z->s.heap.get? c=some o->g0.get? c=some o:=fun c o n e=>sb0.extBut _ _ n e
  cases hx:xs[k1]? with
  | none =>
   refine aa (fK (s:={ s with heap:=g0 }) hh (h1.at fun o e=>up1 _ o D.i1z e) (hl1.at fun o e=>up1 _ o D.l1z e) hx fun g2 e sb2 he=>?_)
   exact hE g2 e (fun c o c1 _ c3 _ q=>sb2 _ _ c3 (up1 _ _ c1 q)) he
  | some x =>
   have hy:ys[k2]? = none:=by rcases hend with q | q;rw[hx] at q;cases q;exact q
   refine aa (eL (s:={ s with heap:=g0 }) (h1.at fun o e=>up1 _ o D.i1z e) (hl1.at fun o e=>up1 _ o D.l1z e) hx fun g2 j1 sb2=>ae ?_)
   replace sb2:Heap.SameBut i1 g0 g2:=sb2
   refine ae (aa (aa (aJ ?_)))
   show wpAny _ _ (Builtin.SmallTypes.nextOf (.ref i2) >>= _) _ _ _
   have up2:∀c o,c≠z->c≠i1->s.heap.get? c=some o->g2.get? c=some o:=fun c o n1 n2 e=>sb2.extBut _ _ n2 (up1 _ _ n1 e)
   refine aa (fK hh (h2.at fun o e=>up2 _ o D.i2z D.i12.symm e) (hl2.at fun o e=>up2 _ o D.l2z D.l2i1 e) hy fun g4 e sb4 he=>?_)
   exact hE g4 e (fun c o c1 c2 c3 c4 q=>sb4 _ _ c4 (up2 _ _ c1 c3 q)) he
abbrev lw (h:Heap) (l:Addr):Heap:=h.push { cls:=.type "tuple_iterator",data:=.fields #[.ref l,.int 0 0] }
abbrev mC (h:Heap) (l m:Addr):Heap:=(lw h l).push { cls:=.type "tuple_iterator",data:=.fields #[.ref m,.int 0 0] }
abbrev mG (h:Heap) (l m:Addr):Heap:=(mC h l m).push { cls:=.type "tuple",data:=.seq #[.ref h.objs.size,.ref (lw h l).objs.size] }
abbrev oJ (h:Heap) (l m:Addr):Heap:=(mG h l m).push { cls:=.type "tuple",data:=.seq #[.none,.none] }
abbrev mO (h:Heap) (l m:Addr):Heap:=(oJ h l m).push { cls:=.type "zip",data:=.fields #[.none,.bool false,.bool false,.ref (mC h l m).objs.size,.ref (mG h l m).objs.size] }
theorem pJ (l m:Addr) (xs ys:Array Value):Meets (Builtin.«zip.__new__» ⟨[.type "zip",.ref l,.ref m],[]⟩) (fun _ R s=>s.heap.IsTuple l xs/\s.heap.IsTuple m ys/\R (.ok (.ret (.ref (oJ s.heap l m).objs.size))) { s with heap:=mO s.heap l m }) :=
 .of_wp fun prog w A R s h=>by
  obtain⟨h0,g0,d0,t0,os0⟩:=s
  obtain⟨hl,hm,h⟩:=h
  have hsub:=sub_zip
  have e1:Heap.IsTuple (Shared.heap ⟨h0,g0,d0,t0,os0⟩) l xs:=hl
  have e2:Heap.IsTuple (Shared.heap ⟨lw h0 l,g0,d0,t0,os0⟩) m ys:=Heap.IsTuple.push hm _
  wp_walk using bD e1,bD e2
  exact⟨_,rfl,h⟩
theorem rE {l m:Addr}{xs ys:Array Value}{Q:Value -> Shared -> Prop}(hl:s.heap.IsTuple l xs) (hm:s.heap.IsTuple m ys)
    (h:∀h',Zp h' (s.heap.objs.size+4) (s.heap.objs.size+2) (s.heap.objs.size+3) .none false->IsPair h' (s.heap.objs.size+2) (.ref s.heap.objs.size) (.ref (s.heap.objs.size+1))->IsPair h' (s.heap.objs.size+3) .none .none ->
     h'.IsTupleIter s.heap.objs.size l 0->h'.IsTupleIter (s.heap.objs.size+1) m 0->(∀c o,s.heap.get? c=some o->h'.get? c=some o)->Q (.ref (s.heap.objs.size+4)) { s with heap:=h' }) :
    wpAny (model prog w) A (call (.type "zip") [.ref l,.ref m]) Q E s:=by
 have a1:(lw s.heap l).objs.size=s.heap.objs.size+1:=bq ..
 have a2:(mC s.heap l m).objs.size=s.heap.objs.size+2:=(bq ..).trans (by rw[a1])
 have a3:(mG s.heap l m).objs.size=s.heap.objs.size+3:=(bq ..).trans (by rw[a2])
 have a4:(oJ s.heap l m).objs.size=s.heap.objs.size+4:=(bq ..).trans (by rw[a3])
 have k5:∀ {c:Addr} {o:Obj},(oJ s.heap l m).get? c=some o->(mO s.heap l m).get? c=some o:=fun q=>ah _ q
 have k4:∀ {c:Addr} {o:Obj},(mG s.heap l m).get? c=some o->(mO s.heap l m).get? c=some o:=fun q=>k5 (ah _ q)
 have k3:∀ {c:Addr} {o:Obj},(mC s.heap l m).get? c=some o->(mO s.heap l m).get? c=some o:=fun q=>k4 (ah _ q)
 have k2:∀ {c:Addr} {o:Obj},(lw s.heap l).get? c=some o->(mO s.heap l m).get? c=some o:=fun q=>k3 (ah _ q)
 have b5:(mO s.heap l m).get? (oJ s.heap l m).objs.size=some { cls:=.type "zip",data:=.fields #[.none,.bool false,.bool false,.ref (mC s.heap l m).objs.size,.ref (mG s.heap l m).objs.size] }:=ap _ rfl
 have b4:=k5 (ap (mG s.heap l m) (o:={ cls:=.type "tuple",data:=.seq #[.none,.none] }) rfl)
 have b3:=k4 (ap (mC s.heap l m) (o:={ cls:=.type "tuple",data:=.seq #[.ref s.heap.objs.size,.ref (lw s.heap l).objs.size] }) rfl)
 have b2:=k3 (ap (lw s.heap l) (o:={ cls:=.type "tuple_iterator",data:=.fields #[.ref m,.int 0 0] }) rfl)
 have b1:=k2 (ap s.heap (o:={ cls:=.type "tuple_iterator",data:=.fields #[.ref l,.int 0 0] }) rfl)
 rw[a2,a3,a4] at b5
 rw[a3] at b4
 rw[a1,a2] at b3
 rw[a1] at b2
 refine callType_new F.called_zip (by decide) (F.typeCall_zip_2 _ _) (F.newCall_zip_2 _ _) (fun ob=>F.args_object_init_3 ob _ _) F.entry_zip_new (pJ l m xs ys) ⟨hl,hm,?_⟩
 show _/\_
 rw[a4]
 exact⟨⟨_,b5,rfl⟩,h _ b5 b3 b4 ⟨_,b1,rfl,rfl⟩ ⟨_,b2,rfl,rfl⟩ fun c o q=>k2 (ah _ q)⟩
end
def zQ (K:W.Frag) (a b:Addr):It :=
 ⟨fun i H=>∃xs ys x y,SqT K H a xs/\SqT K H b ys/\xs[i]? = some x/\ys[i]? = some y,
  fun i H v H'=>∃p x y,H p=none/\v=.ref p/\(∀xs,SqT K H a xs->xs[i]? = some x)/\(∀ys,SqT K H b ys->ys[i]? = some y)/\H'=upd H p (.tup [x,y]),
  fun i H=>∃xs ys,SqT K H a xs/\SqT K H b ys/\(xs.length<=i∨ys.length<=i)⟩
theorem qQ {P:Program}{w:World}{K:W.Frag}{nm:Str}{tp:Pos}(a b z TI TO i1 i2:Addr) (D:ZipApart z TI TO i1 i2 a b) :
    Turn P w K (.Name nm tp) (zQ K a b) [z,TI,TO,i1,i2] z (fun i h=>(∃f0 f1,F0 f0/\Zp h z TI TO f0 f1)/\IsPair h TI (.ref i1) (.ref i2)/\(∃c d,IsPair h TO c d)/\h.IsTupleIter i1 a i/\h.IsTupleIter i2 b i) where
 mem:=by simp
 obj:=fun i h st c hc=>by
  obtain⟨⟨f0,f1,_,hz⟩,hTI,⟨u,v,hTO⟩,⟨o1,e1,_,d1⟩,⟨o2,e2,_,d2⟩⟩:=st
  have hc:c=z∨c=TI∨c=TO∨c=i1∨c=i2:=by simpa using hc
  rcases hc with rfl | rfl | rfl | rfl | rfl
  ·exact⟨_,hz,fun v q=>by cases q⟩
  ·exact⟨_,hTI,fun v q=>by cases q⟩
  ·exact⟨_,hTO,fun v q=>by cases q⟩
  ·exact⟨_,e1,fun v q=>by rw[d1] at q;cases q⟩
  ·exact⟨_,e2,fun v q=>by rw[d2] at q;cases q⟩
 keep:=fun i h h' st k=>by
  obtain⟨⟨f0,f1,hf,hz⟩,hTI,⟨u,v,hTO⟩,h1,h2⟩:=st
  exact⟨⟨f0,f1,hf,k z (by simp) _ hz⟩,k TI (by simp) _ hTI,⟨u,v,k TO (by simp) _ hTO⟩,h1.at fun o e=>k i1 (by simp) o e,h2.at fun o e=>k i2 (by simp) o e⟩
 item := by
  intro X hP hw hK hc i pins s σ H E I hf st hg
  subst hP hw hK
  obtain⟨⟨f0,f1,hf0,hz⟩,hTI,⟨ta,tb,hTO⟩,h1,h2⟩:=st
  obtain⟨xs,ys,x,y,hqa,hqb,hx,hy⟩:=hg
  obtain⟨its,rv,pa,_⟩:=I.tuple hqa
  obtain⟨jts,rw',pb,_⟩:=I.tuple hqb
  obtain⟨u,hu,ru⟩:=rv.get hx
  obtain⟨v,hv,rv'⟩:=rw'.get hy
  refine gq ⟨_,hz,rfl⟩ (tN D hf0 hz hTI hTO h1 h2 (show s.heap.IsTuple a its.toArray from pa) (show s.heap.IsTuple b jts.toArray from pb) (x:=u) (y:=v) (by simpa using hu) (by simpa using hv) fun h' f0' f1' hf' hz' hTO' j1 j2 hpr k=>⟨_,rfl,?_⟩)
  refine ae (s:={ s with heap:=h' }) ?_
  have hp:H s.heap.objs.size=none:=I.hok.fresh (ad _)
  have fr:∀c∈[z,TI,TO,i1,i2],H c=none:=fun c hc=>(hf c hc).1
  have nit:∀c o,H c=some o->c≠z/\c≠TO/\c≠i1/\c≠i2:=fun c o q=>by
   refine⟨?_,?_,?_,?_⟩ <;> (intro e;rw[e,fr _ (by simp)] at q;cases q)
  have up:∀c o,H c=some o->upd H s.heap.objs.size (.tup [x,y]) c=some o:=fun c o q=>by rw[cH (cL q hp)];exact q
  have kk:∀c o,c∉[z,TO,i1,i2]->s.heap.get? c=some o->h'.get? c=some o:=fun c o n q=>k c o (fun e=>n (by simp[e])) (fun e=>n (by simp[e])) (fun e=>n (by simp[e])) (fun e=>n (by simp[e])) q
  have mem5:∀c∈[z,TO,i1,i2],c∈[z,TI,TO,i1,i2]:=fun c hc=>by simp at hc ⊢;rcases hc with e | e | e | e <;> simp[e]
  have hlt:∀c∈[z,TI,TO,i1,i2],c<s.heap.objs.size:=fun c hc=>by
   have hc:c=z∨c=TI∨c=TO∨c=i1∨c=i2:=by simpa using hc
   rcases hc with rfl | rfl | rfl | rfl | rfl
   ·exact ag hz
   ·exact ag hTI
   ·exact ag hTO
   ·obtain⟨o,e,_⟩:=h1;exact ag e
   ·obtain⟨o,e,_⟩:=h2;exact ag e
  have I1:Inv X pins σ (upd H s.heap.objs.size (.tup [x, y])) { s with heap := h', gens := s.gens, drawn := s.drawn, toks := s.toks } := by
   refine I.step (g':=s.gens) (d':=s.drawn) (ch:=[z,TO,i1,i2]) (fun c hc=>?_) (fun c o _ _ n q _=>kk c o n q) (fun c o _ _ n q _=>⟨o.slots,kk c o n q⟩) (fun c o _ q n=>?_) (fun c o n q=>⟨o,kk c o n q⟩) (fun c ys q=>up c _ q) (fun c o v q=>up c _ q) (fun c ps q=>⟨#[],by rw[up c _ q];simp⟩) (fun m hm=>?_) (fun c o q=>?_) I.bare
   ·obtain⟨_,g1,_,g3,g4,g5⟩:=hf c (mem5 c hc)
    exact⟨g3,g1,g4,g5⟩
   ·rw[cH (ak (ag q))];exact n
   ·obtain⟨o,es,ep,ho,r⟩:=hm
    refine⟨o,es,ep,kk _ o (fun n=>?_) ho,r⟩
    exact(hf _ (mem5 _ n)).2.1 rfl
   ·by_cases hb:c=s.heap.objs.size
    ·subst hb
     rw[cF] at q
     have q':HO.tup [x,y]=o:=af q
     subst q'
     exact⟨by show 2<=sizeLine;decide,[u,v],.cons ru (.cons rv' .nil),⟨_,hpr,rfl,_,rfl,rfl⟩⟩
    ·rw[cH hb] at q
     refine(I.hok c o q).stay (fun d o' hd q'=>?_) (fun d q=>up d _ q) fun d ys q=>up d _ q
     rcases hd with e | e
     ·rw[e] at q' ⊢;obtain⟨n1,n2,n3,n4⟩:=nit c o q;exact k c o' n1 n2 n3 n4 q'
     ·obtain⟨n1,n2,n3,n4⟩:=nit d _ e;exact k d o' n1 n2 n3 n4 q'
  refine⟨.ref s.heap.objs.size,upd H s.heap.objs.size (.tup [x,y]),I1,rfl,⟨_,x,y,hp,rfl,fun zs hz=>by rw[I.tuple_inj hz hqa];exact hx,fun zs hz=>by rw[I.tuple_inj hz hqb];exact hy,rfl⟩,⟨⟨f0',f1',hf',hz'⟩,?_,hTO',j1,j2⟩,fun c hc=>?_⟩
  ·exact k TI _ D.TIz D.TITO D.TIi1 D.TIi2 hTI
  ·rw[cH (ak (hlt c hc))];exact fr c hc
 done:=by
  intro X hP hw hK hc i pins s σ H E I hf st hg
  subst hP hw hK
  obtain⟨⟨f0,f1,hf0,hz⟩,hTI,⟨ta,tb,hTO⟩,h1,h2⟩:=st
  obtain⟨xs,ys,hqa,hqb,hxy⟩:=hg
  obtain⟨its,rv,pa,_⟩:=I.tuple hqa
  obtain⟨jts,rw',pb,_⟩:=I.tuple hqb
  have l1:=rv.length
  have l2:=rw'.length
  have hend:its.toArray[i]? = none∨jts.toArray[i]? = none:=by
   rcases hxy with q | q
   ·exact .inl (by simp;omega)
   ·exact .inr (by simp;omega)
  refine gq ⟨_,hz,rfl⟩ (uW (A:=X.A.in1) (show X.A.in1.handled=none from I.ok.hd hc) D hf0 hz hTI hTO h1 h2 (show s.heap.IsTuple a its.toArray from pa) (show s.heap.IsTuple b jts.toArray from pb) hend fun h' e k he=>⟨he,⟨e,rfl⟩,rfl,?_⟩)
  have fr:∀c∈[z,TI,TO,i1,i2],H c=none:=fun c hc=>(hf c hc).1
  have nit:∀c o,H c=some o->c≠z/\c≠TO/\c≠i1/\c≠i2:=fun c o q=>by
   refine⟨?_,?_,?_,?_⟩ <;> (intro e;rw[e,fr _ (by simp)] at q;cases q)
  have kk:∀c o,c∉[z,TO,i1,i2]->s.heap.get? c=some o->h'.get? c=some o:=fun c o n q=>k c o (fun e=>n (by simp[e])) (fun e=>n (by simp[e])) (fun e=>n (by simp[e])) (fun e=>n (by simp[e])) q
  have mem5:∀c∈[z,TO,i1,i2],c∈[z,TI,TO,i1,i2]:=fun c hc=>by simp at hc ⊢;rcases hc with e | e | e | e <;> simp[e]
  refine I.step (h':=h') (g':=s.gens) (d':=s.drawn) (t':=s.toks) (ch:=[z,TO,i1,i2]) (fun c hc=>?_) (fun c o _ _ n q _=>kk c o n q) (fun c o _ _ n q _=>⟨o.slots,kk c o n q⟩) (fun c o _ q n=>n) (fun c o n q=>⟨o,kk c o n q⟩) (fun c ys q=>q) (fun c o v q=>q) (fun c ps q=>⟨#[],by rw[q];simp⟩) (fun m hm=>?_) (fun c o q=>?_) I.bare
  ·obtain⟨_,g1,_,g3,g4,g5⟩:=hf c (mem5 c hc)
   exact⟨g3,g1,g4,g5⟩
  ·obtain⟨o,es,ep,ho,r⟩:=hm
   refine⟨o,es,ep,kk _ o (fun n=>?_) ho,r⟩
   exact(hf _ (mem5 _ n)).2.1 rfl
  ·refine(I.hok c o q).stay (fun d o' hd q'=>?_) (fun d q=>q) fun d ys q=>q
   rcases hd with e | e
   ·rw[e] at q' ⊢;obtain⟨n1,n2,n3,n4⟩:=nit c o q;exact k c o' n1 n2 n3 n4 q'
   ·obtain⟨n1,n2,n3,n4⟩:=nit d _ e;exact k d o' n1 n2 n3 n4 q'
 self:=fun A i s Q E st h=>by
  obtain⟨⟨f0,f1,hf0,hz⟩,_⟩:=st
  have hT:s.TypeIs (.ref z) "zip":=⟨_,hz,rfl⟩
  refine wpAny_pyIter_slot hT F.slot_zip_iter (wpAny_call_entry F.slot_zip_iter hT F.entry_zip_iter ?_ (F.args_zip_iter_1 _))
  show wpAny _ _ (ret (.ref z)) _ _ s
  exact ae ⟨_,rfl,"zip",_,hT,F.slot_zip_next.lookup,h⟩
theorem pH {X:Cx}(hc:X.calm=true) (hu:X.A.units+64<cLine) {pins:List (Addr × Obj)}{s:Shared}{σ:St}{H:Hp}{a b z TI TO i1 i2:Addr}{ks:List Str}{ys:List V}{Q:VK}(I:Inv X pins σ H s) (D:ZipApart z TI TO i1 i2 a b)
    (t0:(∃f0 f1,F0 f0/\Zp s.heap z TI TO f0 f1)/\IsPair s.heap TI (.ref i1) (.ref i2)/\(∃c d,IsPair s.heap TO c d)/\s.heap.IsTupleIter i1 a 0/\s.heap.IsTupleIter i2 b 0) (hf:∀c∈[z,TI,TO,i1,i2],eQ X pins H c)
    (hqa:SqT X.K H a (List.map V.str ks)) (hqb:SqT X.K H b ys) (hl:ks.length=ys.length) (hn:ks.length<=1000) (q:∀l H2,H l=none->Same H H2->H2 l=some (.dK (mkK (d3 ks ys)))->Q (.ref l) H2) :
    wpAny (model X.prog X.w) X.A (call (.type "dict") [.ref z]) (EP X pins σ Q) X.xe s:=by
 have T:=qQ (P:=X.prog) (w:=X.w) (K:=X.K) (nm:="x") (tp:=default) a b z TI TO i1 i2 D
 have hlt:∀c∈[z,TI,TO,i1,i2],c<s.heap.objs.size:=fun c hc=>by
  obtain⟨o,e,_⟩:=T.obj 0 s.heap t0 c hc
  exact ag e
 have zl:(d3 ks ys).length=ks.length:=by unfold d3;rw[List.length_zip,ac];omega
 refine callType_codes (Q₁:=fun ob s1=>ob=.ref s.heap.objs.size/\s1={ s with heap:=s.heap.push { cls:=.type "dict",data:=.dict #[] } }) F.kt_called_dict (F.kt_typeCall_dict_1 _) F.entry_dict_init (kt_code_dict_new _ ⟨rfl,rfl⟩) ?_
 rintro ob s1 ⟨rfl,rfl⟩
 have hfree:H s.heap.objs.size=none:=I.hok.fresh (ad _)
 have I1:Inv X pins σ (upd H s.heap.objs.size (.dK [])) { s with heap:=s.heap.push { cls:=.type "dict",data:=.dict #[] } } :=
  I.laid (a:=s.heap.objs.size) (o:=.dK []) (t':=s.toks) (fun _ _ q=>ah _ q) (ad _) (jI s.heap I.big)
 have hnew:(⟨s.heap.push { cls:=.type "dict",data:=.dict #[] },s.gens,s.drawn,s.toks,s.os⟩:Shared).TypeIs (.ref s.heap.objs.size) "dict":=⟨_,ap _ rfl,rfl⟩
 refine⟨hnew,F.args_dict_init_2 _ _,?_⟩
 unfold Builtin.«dict.__init__»
 refine aa ?_
 unfold Builtin.Dict.selfAndRest
 refine aa (wpAny_notOrdered_dict hnew ?_)
 show wpAny _ _ (pure (s.heap.objs.size,[Value.ref z])) _ _ _
 refine ae ?_
 show wpAny _ _ (Builtin.Dict.updateFrom "dict.__init__" s.heap.objs.size (.ref z) [] .none) _ _ _
 unfold Builtin.Dict.updateFrom
 have hA:X.A.in1.in1.handled=none:=I.ok.hd hc
 have t1:=T.keep 0 s.heap (s.heap.push { cls:=.type "dict",data:=.dict #[] }) t0 fun c _ o e=>ah _ e
 obtain⟨⟨f0,f1,hf0,hz⟩,_⟩:=id t1
 refine aa (wpAny_typeOf (T:="zip") ⟨_,hz,rfl⟩ ?_)
 rw[if_pos (by decide)]
 refine aa (lQ hz rfl rfl rfl hA fun h' tk kp=>?_)
 have I2:=I1.kept (h':=h') (t':=tk) kp
 have t2:=T.keep 0 _ h' t1 fun c _ o e=>kp c o e
 refine aa (wpAny_rule (aa ?_))
 refine T.self X.A.in1.in1 0 { s with heap:=h',toks:=tk } _ _ t2 ?_
 refine ae ⟨plainId_quiet DU.plain_loop _,?_⟩
 refine jX (nm:="x") (tp:=default) T hc hu s.heap.objs.size ks.length (fun i H'=>Same H H'/\H' s.heap.objs.size=some (.dK (mkK ((d3 ks ys).take i)))) (fun i H' hi e=>?_) (fun H' e=>?_) _ 0 0 _ _ rfl (aT _) I2 (fun c hc=>?_) t2 ?_ ?_
 ·obtain⟨sm,hd⟩:=e
  have hx:(List.map V.str ks)[i]? = some (V.str ks[i]):=by simp[hi]
  have hy:ys[i]? = some (ys[i]'(by omega)):=aG (by omega)
  refine⟨⟨_,_,_,_,hqa.same' sm,hqb.same' sm,hx,hy⟩,fun x H1 yl=>?_⟩
  obtain⟨p,u,v,hp,rfl,hu1,hv1,rfl⟩:=yl
  have e1:V.str ks[i]=u:=af (hx.symm.trans (hu1 _ (hqa.same' sm)))
  have e2:ys[i]'(by omega)=v:=af (hy.symm.trans (hv1 _ (hqb.same' sm)))
  subst e1 e2
  have npl:s.heap.objs.size≠p:=cL hd hp
  have hzk:(d3 ks ys)[i]? = some (.inr ks[i],ys[i]'(by omega)):=by
   unfold d3
   rw[List.getElem?_zip_eq_some]
   exact⟨by simp[hi],hy⟩
  have hkl:(mkK ((d3 ks ys).take i)).length<sizeLine:=by
   have:=n8 ((d3 ks ys).take i)
   rw[aF] at this
   exact cN (by omega)
  refine⟨p,V.str ks[i],_,_,rfl,.of cF,DPut.k (k:=.inr ks[i]) (by rw[cH npl];exact hd) hkl,fun c o hc=>?_,?_⟩
  ·have h1:=sm c o hc
   rw[cH (cL hc hfree),cH (cL h1 hp)]
   exact h1
  ·rw[cF,lA _ i _ hzk]
 ·obtain⟨sm,hd⟩:=e
  exact⟨_,_,hqa.same' sm,hqb.same' sm,.inl (by rw[ac];exact ad _)⟩
 ·obtain⟨g0,g1,g2,g3,g4,g5⟩:=hf c hc
  exact⟨by rw[cH (ak (hlt c hc))];exact g0,g1,g2,g3,g4,g5⟩
 ·exact⟨Same.new hfree,by rw[cF];rfl⟩
 ·intro H' s' I' e
  obtain⟨sm,hd⟩:=e
  rw[<- zl,aB (ad _)] at hd
  exact⟨rfl,.ref _,_,I',rfl,q _ _ hfree sm hd⟩
def yq (K:W.Frag) (ta:TA):TE:=fun σ H Q=>ta σ H fun vs H1=>∃a b ks ys,vs=[.ref a,.ref b]/\SqT K H1 a (List.map V.str ks)/\SqT K H1 b ys/\ks.length=ys.length/\ks.length<=1000/\∀l H2,H1 l=none->Same H1 H2->H2 l=some (.dK (mkK (d3 ks ys)))->Q (.ref l) H2
theorem uL (K:W.Frag) {X:Cx}{a b:Expr}{ta:TA}{p p2 pos pos2:Pos}(hc:X.calm=true) (hu:X.A.units+64<cLine) (B:Blt X.mg) (hm:X.mg "zip"=none) (ha:PA X [a,b] ta) (hgd:Gl X "dict":=by rfl) (hgz:Gl X "zip":=by rfl)
    (he:starEach [.Call (.Name "zip" p2) [a,b] [] pos2] X.env=(false,eval (.Call (.Name "zip" p2) [a,b] [] pos2) X.env)::starEach [] X.env:=by rfl) (hpl:(backTo pos (starEach [] X.env)).any (·.1)=false:=by rfl)
    (hs:starEach [a,b] X.env=(false,eval a X.env)::starEach [b] X.env:=by rfl) (hp2:(backTo pos2 (starEach [b] X.env)).any (·.1)=false:=by rfl) (hK:X.K=K:=by rfl) :
    PE X (.Call (.Name "dict" p) [.Call (.Name "zip" p2) [a,b] [] pos2] [] pos) (yq K ta):=by
 subst hK
 intro pins s σ H Q I h
 refine bF (gs I hgd B.dict (show bootBuiltins "dict"=some (.type "dict") by decide +kernel) ?_ (by decide) (by decide))
 refine PyProof.Rows.callWith_type1 ?_ he hpl
 rw[he]
 show wpAny _ _ (spliced ((false,eval (.Call (.Name "zip" p2) [a,b] [] pos2) X.env)::backTo pos (starEach [] X.env))) _ _ s
 refine Calls.spliced_cons ?_
 refine Call_ (gs I hgz hm (show bootBuiltins "zip"=some (.type "zip") by decide +kernel) (PyProof.Rows.callWith_type1 (thn (ha pos2 pins s σ H _ I h) fun us s1 ⟨vs,H1,I1,r1,q1⟩=>?_) hs hp2))
 obtain⟨l,m,ks,ys,rfl,hqa,hqb,hl,hn,q⟩:=q1
 obtain⟨u1,u2,rfl,r1,r2⟩:=hU r1
 cases r1
 cases r2
 obtain⟨its,rv,pa,_⟩:=I1.tuple hqa
 obtain⟨jts,rw',pb,_⟩:=I1.tuple hqb
 have a1:l<s1.heap.objs.size:=by obtain⟨_,e,_⟩:=pa;exact ag e
 have a2:m<s1.heap.objs.size:=by obtain⟨_,e,_⟩:=pb;exact ag e
 refine rE (show s1.heap.IsTuple l its.toArray from pa) (show s1.heap.IsTuple m jts.toArray from pb) fun h' hz hTI hTO hi1 hi2 hk=>?_
 refine Calls.spliced_nil ?_
 have I2:=I1.kept (t':=s1.toks) hk
 refine pH hc hu I2 (zipApart_new a1 a2) ⟨⟨_,_,.inl rfl,hz⟩,hTI,⟨_,_,hTO⟩,hi1,hi2⟩ (fun c hc=>?_) hqa hqb hl hn q
 have hb:c=s1.heap.objs.size+4∨c=s1.heap.objs.size+2∨c=s1.heap.objs.size+3∨c=s1.heap.objs.size∨c=s1.heap.objs.size+1:=by simpa using hc
 have hle:s1.heap.objs.size<=c:=by rcases hb with e | e | e | e | e <;> rw[e] <;> first | exact ad _ | exact Nat.le_add_right _ _
 exact I1.fpOk hle (I1.hok.fresh hle)
end L2
namespace L2
open PySem
def intsD (zs:List Int):PyData:=.list (zs.map PyData.int)
theorem repAll_int {H:Hp}:∀zs:List Int,RepAll H (zs.map V.int) (zs.map PyData.int)
 | []=>.nil
 | x::xs=>.cons (.int _) (repAll_int xs)
end L2
namespace L2
open PySem PySem.Spec PyProof.Rows
def XF (B:Heap) (l:List Env) (a:Addr) (c:Value) (dd:Option Addr) (fl:Value) (h:Heap):Prop :=
 B.StaysIn h/\B.get? a=none/\h.FunFrames B l/\∃o vs T p ts,h.get? a=some o/\o.cls=c/\o.dict=dd/\o.data=.fields vs/\vs[1]? = some (.ref T)/\B.get? T=none/\T≠a/\h.get? T=some p/\p.data=.fields ts/\ts[3]? = some fl
theorem XF.there {B:Heap}{l:List Env}{a:Addr}{c fl:Value}{dd:Option Addr}{h:Heap}(x:XF B l a c dd fl h):∃o,h.get? a=some o/\o.cls=c/\o.dict=dd:=by
 obtain⟨_,_,_,o,_,_,_,_,e,k1,k2,_⟩:=x
 exact⟨o,e,k1,k2⟩
theorem XF.rec {B:Heap}{l:List Env}{a:Addr}{c fl:Value}{dd:Option Addr}{h:Heap}(x:XF B l a c dd fl h):∃o vs,h.get? a=some o/\o.data=.fields vs:=by
 obtain⟨_,_,_,o,vs,_,_,_,e,_,_,k,_⟩:=x
 exact⟨o,vs,e,k⟩
theorem XF.out {B:Heap}{e0:Env}{l:List Env}{a:Addr}{c fl:Value}{dd:Option Addr}{h:Heap}(x:XF B (e0::l) a c dd fl h):XF B l a c dd fl h:=⟨x.1,x.2.1,x.2.2.1.2.2,x.2.2.2⟩
theorem vA (f:Array Value->Array Value) (o:Obj):(Obj.mapFields f o).dict=o.dict:=by
 unfold Obj.mapFields
 split <;> rfl
section
variable {M:Model}{A:Around}{E:Value->Shared->Prop}{s:Shared}{B:Heap}{e0:Env}{out:List Env}{a L:Addr}{Q:Unit->Shared->Prop}
theorem uB {o:Obj}{vs:Array Value}{hd:Value}{b0:Bool}(fr:A.frames=some (e0 :: out)) (ff:s.heap.FunFrames B (e0 :: out)) (fL:e0.frame=some L) (ea:s.heap.get? a=some o) (st:B.StaysIn s.heap) (na:B.get? a=none) (dv:o.data=.fields vs) (n1:1<vs.size)
    (k:∀h',XF B (e0::out) a o.cls o.dict (rawInt L) h'->s.heap.UpToSlots h'->Q () { s with heap:=h' }) :
    wpAny M A (do let f ← frameOf e0;let pl ← entryPlaceOf L b0;let b ← EntryCells.newEntry hd f .none (rawInt L) .none pl;setField (.ref a) 1 b) Q E s:=by
 have nf:a∉(e0::out).filterMap (·.frame):=fun z=>by
  obtain⟨_,p,ep,q⟩:=ff.mem z
  exact q vs (af (ea.symm.trans ep) ▸ dv)
 refine aa (wpAny_frameOf_fun fr ff fL fun g1 so=>aa (wpAny_entryPlaceOf fun pl ip=>?_))
 unfold EntryCells.newEntry newFields
 refine aa (wpAny_newObj_type ?_ (ip.sizeOk5 _ _ _ _ _))
 generalize ep:([hd,Value.ref L,Value.none,rawInt L,Value.none]++(if pl.isEmpty then List.replicate 6 Value.none else pl)).toArray=tv
 have t3:tv[3]? = some (rawInt L):=by rw[<- ep];first | (simp;done) | (rcases ip with rfl | ⟨_,_,_,_,_,_,_,rfl⟩ <;> simp)
 have e1:g1.get? a=some o:=(so.2.1 a nf).trans ea
 have e2:=ah (h:=g1) { cls:=.type "traceback",dict:=none,data:=.fields tv } e1
 have nT:g1.objs.size≠a:=bC (ag e1)
 have dm:=Obj.data_mapFields dv (·.setIfInBounds 1 (Value.ref g1.objs.size))
 have ot:∀b p,b≠a->g1.get? b=some p->((g1.push { cls:=.type "traceback",dict:=none,data:=.fields tv }).update a (Obj.mapFields (·.setIfInBounds 1 (Value.ref g1.objs.size)))).get? b=some p:=fun b p nb eb=>by
  rw[cm _ _ (Ne.symm nb)]
  exact ah _ eb
 have up:s.heap.UpToSlots ((g1.push { cls:=.type "traceback",dict:=none,data:=.fields tv }).update a (Obj.mapFields (·.setIfInBounds 1 (Value.ref g1.objs.size)))):=fun b p eb q=>by
  obtain⟨sl,es⟩:=so.2.2 b p eb
  exact⟨sl,ot b _ (fun z=>q vs (af (ea.symm.trans (z ▸ eb)) ▸ dv)) es⟩
 refine wpAny_setField e2 dv n1 (k _ ?_ ?_)
 ·have sg:B.StaysIn g1:=fun b p eb=>(so.2.1 b fun z=>by have:=(ff.mem z).1;rw[eb] at this;cases this).trans (st b p eb)
  refine⟨fun b p eb=>ot b p (fun z=>by rw[z,na] at eb;cases eb) (sg b p eb),na,ff.of_keeps fun b p eb q=>?_,_,_,g1.objs.size,{ cls:=.type "traceback",dict:=none,data:=.fields tv },tv,ck _ e2 (Obj.isFreed_of_fields dm),Obj.cls_mapFields _ _,vA _ _,dm,by simp[n1],sg.fresh,nT,?_,rfl,t3⟩
  ·obtain⟨sl,es⟩:=up b p eb q
   exact⟨_,es,rfl⟩
  ·rw[cm _ _ (Ne.symm nT)]
   exact ap g1 rfl
 ·exact up
theorem p3 {c fl x:Value}{dd:Option Addr}{l:List Env}(X:XF B l a c dd fl s.heap):∃T p ts,(∀h',h'=s.heap.update T (Obj.mapFields (·.setIfInBounds 3 x))->XF B l a c dd x h'/\s.heap.UpToSlots h') /\
    s.heap.get? T=some p/\p.data=.fields ts/\ts[3]? = some fl/\∃o vs,s.heap.get? a=some o/\o.data=.fields vs/\vs[1]? = some (.ref T):=by
 obtain⟨st,na,ff,o,vs,T,p,ts,ea,k1,k2,dv,v1,nT,ne,eT,dT,t3⟩:=X
 have l3:3<ts.size:=(cq.mp t3).1
 refine⟨T,p,ts,fun h' e=>?_,eT,dT,t3,o,vs,ea,dv,v1⟩
 have ot:∀b,b≠T->h'.get? b=s.heap.get? b:=fun b nb=>by rw[e];exact cm _ _ (Ne.symm nb)
 have up:s.heap.UpToSlots h':=fun b u eb q=>⟨u.slots,(ot b fun z=>q ts (af (eT.symm.trans (z ▸ eb)) ▸ dT)).trans eb⟩
 refine⟨⟨fun b u eb=>(ot b fun z=>by rw[z,nT] at eb;cases eb).trans (st b u eb),na,ff.of_keeps fun b u eb q=>?_,o,vs,T,Obj.mapFields (·.setIfInBounds 3 x) p,ts.setIfInBounds 3 x,(ot a (Ne.symm ne)).trans ea,k1,k2,dv,v1,nT,ne,?_,Obj.data_mapFields dT _,by simp[l3]⟩,up⟩
 ·obtain⟨sl,es⟩:=up b u eb q
  exact⟨_,es,rfl⟩
 ·rw[e]
  exact ck _ eT (Obj.isFreed_of_fields (Obj.data_mapFields dT _))
theorem nY {c fl:Value}{dd:Option Addr}{l:List Env}(X:XF B l a c dd fl s.heap) (k:∀h',XF B l a c dd .none h'->s.heap.UpToSlots h'->Q () { s with heap:=h' }):wpAny M A (setFlight (.ref a) none) Q E s:=by
 obtain⟨T,p,ts,z,eT,dT,t3,o,vs,ea,dv,v1⟩:=p3 (x:=.none) X
 unfold setFlight
 refine aa (aL ea dv v1 ?_)
 rw[if_pos (show (Value.ref T != Value.none)=true by simp)]
 obtain⟨z1,z2⟩:=z _ rfl
 exact wpAny_setField eT dT (cq.mp t3).1 (k _ z1 z2)
theorem wn {c:Value}{dd:Option Addr}(fr:A.frames=some (e0::out)) (fL:e0.frame=some L) (X:XF B (e0::out) a c dd .none s.heap)
    (k:∀h',XF B (e0::out) a c dd (rawInt L) h'->s.heap.UpToSlots h'->Q () { s with heap:=h' }):wpAny M A (noteFrame (.ref a) e0) Q E s:=by
 obtain⟨T,p,ts,z,eT,dT,t3,o,vs,ea,dv,v1⟩:=p3 (x:=.none) X
 unfold noteFrame
 simp only[fL]
 refine aa (aL ea dv v1 ?_)
 rw[if_pos (show (Value.ref T != Value.none)=true by simp)]
 refine aa (aL eT dT t3 ?_)
 rw[if_neg (show ¬ ((Value.none==rawInt L)=true) by simp[rawInt])]
 obtain⟨z1,z2⟩:=z _ rfl
 refine aa (wpAny_setField eT dT (cq.mp t3).1 ?_)
 obtain⟨q1,q2,q3,o',vs',T',p',ts',g1,g2,g3,g4,g5,_⟩:=z1
 subst g2 g3
 exact uB (s:={ s with heap:=s.heap.update T (Obj.mapFields (·.setIfInBounds 3 Value.none)) }) fr q3 fL g1 q1 q2 g4 (cq.mp g5).1 fun h' x y=>k h' x (z2.trans y)
theorem ym {c:Value}{dd:Option Addr}(fr:A.frames=some (e0::out)) (fL:e0.frame=some L) (X:XF B (e0::out) a c dd .none s.heap)
    (k:∀h',XF B out a c dd .none h'->s.heap.UpToSlots h'->Q () { s with heap:=h' }):wpAny M A (leaving e0 (.ref a)) Q E s:=by
 unfold leaving
 refine aa (wn fr fL X fun h' x y=>?_)
 exact nY (s:={ s with heap:=h' }) x fun h2 x2 y2=>k h2 x2.out (y.trans y2)
theorem wR {o:Obj}{vs:Array Value}(fr:A.frames=some (e0::out)) (ff:s.heap.FunFrames B (e0::out)) (fL:e0.frame=some L) (ea:s.heap.get? a=some o) (st:B.StaysIn s.heap) (na:B.get? a=none) (dv:o.data=.fields vs) (v1:vs[1]? = some .none)
    (k:∀h',XF B out a o.cls o.dict .none h'->s.heap.UpToSlots h'->Q () { s with heap:=h' }):wpAny M A (leaving e0 (.ref a)) Q E s:=by
 unfold leaving noteFrame
 simp only[fL]
 refine aa (aa (aL ea dv v1 ?_))
 rw[if_neg (by decide)]
 refine uB fr ff fL ea st na dv (cq.mp v1).1 fun h' x y=>?_
 exact nY (s:={ s with heap:=h' }) x fun h2 x2 y2=>k h2 x2.out (y.trans y2)
end
theorem ObjOk.obj {P:Program}{w:World}{H:Hp}{h:Heap}{a:Addr}{o:HO}(x:ObjOk P w H h a o):∃ob,h.get? a=some ob:=by
 cases o with
 | lst xs=>obtain⟨_,_,_,_,e⟩:=x;exact⟨_,e⟩
 | tup xs=>obtain⟨_,_,_,ob,e,_⟩:=x;exact⟨_,e⟩
 | dK kvs=>obtain⟨_,_,_,_,o,_,_,e,_⟩:=x;exact⟨_,e⟩
 | dT kvs=>obtain⟨_,_,_,_,o,_,_,e,_⟩:=x;exact⟨_,e⟩
 | set S n=>obtain⟨o,_,_,_,e,_⟩:=x;exact⟨_,e⟩
 | ins C dx fs=>obtain⟨_,_,_,e,_⟩:=x;exact⟨_,e⟩
 | own y=>obtain⟨_,e⟩:=x;exact⟨_,e⟩
 | xd fs=>obtain⟨_,⟨_,_,_,e,_⟩,_⟩:=x;exact⟨_,e⟩
 | rng lo hi=>obtain⟨_,_,_,e⟩:=x;exact⟨_,e⟩
 | frz ob u=>obtain⟨e,_⟩:=x;exact⟨_,e⟩
 | tbl ps=>exact⟨_,(show h.get? a=some _ from x)⟩
 | met f y=>exact⟨_,(show h.get? a=some _ from x)⟩
 | ext φ=>obtain⟨_,e,_⟩:=x;exact e
def CX1 (P:Program) (w:World):CXT:=fun outer H s E e s' =>
 ∃(a:Addr) (cls:Value) (dd:Option Addr) (B:Heap) (H':Hp),e=.ref a/\s'.os=s.os/\AllBare s'.gens/\Un (frs outer) [] H H' s.heap s'.heap/\HOk P w H' s'.heap/\XF B outer a cls dd .none s'.heap/\H' a=none /\
  (∀b u,H' b=some u->∃o,s'.heap.get? b=some o/\B.get? b=some o)/\(∀b o,s.heap.get? b=some o->H b=none->b∉frs outer->B.get? b=some o)/\(∀b o,s.heap.get? b=some o->b∉frs outer->∃o',B.get? b=some o')/\E cls dd H'
theorem zE {P:Program}{w:World}{K:W.Frag}{mg:Str -> Option Value}{base:Heap}{N:List Str}{qual:Str}{scope:Scope}{f:Addr}{cd:Value}{A:Around}{outer:List Env}{s:Shared}{H:Hp}{E:XK} :
    lX (CX1 P w) (dE (CX1 P w) P w K mg base N qual scope f cd A outer s H E) E:=by
 intro pins σ Hc sc e s' I h
 obtain⟨a,cls,dd,B,H',rfl,os,bare,un,hok,fl,hna,TB,KB,AB,q⟩:=h
 obtain⟨v,H2,J,_,rfl⟩:=I.after (Q:=fun _ H2=>H'=H2) (u:=.none) ⟨.non,H',os,bare,un,hok,rfl,rfl⟩
 show wpAny (model P w) (A.deeper (envOfC qual scope s.heap.objs.size f cd)) (leaving (envOfC qual scope s.heap.objs.size f cd) (.ref a)) (fun _ s''=>CX1 P w outer H s E (.ref a) s'') (fun e' s''=>CX1 P w outer H s E e' s'') s'
 refine ym (out:=outer) (L:=s.heap.objs.size) I.ok.frames rfl fl fun h2 x1 x2=>?_
 have old:∀b o,s.heap.get? b=some o->H b=none->b∉frs outer->B.get? b=some o:=fun b o q n hb=>by
  have e1:sc.heap.get? b=some o:=I.base.keep b o q n hb (by intro z;cases z)
  have e2:Hc b=none:=I.base.free b o q n (by intro z;cases z)
  refine KB b o e1 e2 fun z=>?_
  rcases am.mp (I.stkSub b z) with r | r
  ·have r:b=s.heap.objs.size:=r
   exact absurd (r ▸ ag q) (bb _)
  ·exact hb r
 have notL:∀b o,s.heap.get? b=some o->b∉frs outer->b∉frs (envOfC qual scope s.heap.objs.size f cd::outer):=fun b o q hb z=>by
  rcases am.mp (I.stkSub b z) with r | r
  ·have r:b=s.heap.objs.size:=r
   exact absurd (r ▸ ag q) (bb _)
  ·exact hb r
 have exi:∀b o,s.heap.get? b=some o->b∉frs outer->∃o',B.get? b=some o':=fun b o q hb=>by
  obtain⟨oc,ec⟩:=I.base.there b o q (by intro z;cases z)
  exact AB b oc ec (notL b o q hb)
 refine⟨a,cls,dd,B,H',rfl,J.os,bare,?_,fun c o e=>(hok c o e).stay (fun d u hd q'=>?_) (fun _ z=>z) fun _ _ z=>z,x1,hna,fun b u e=>?_,old,exi,q⟩
 ·refine⟨fun b o q n hb hx => x1.1 b o (old b o q n hb), fun b o q n hb hx => ?_, fun b o q n hx => J.base.free b o q n hx, fun b o q hx => ?_, J.base.tups, J.base.frzs, J.base.tbls⟩
  ·obtain⟨sl,e1⟩:=J.base.slot b o q n hb hx
   obtain⟨_,o1,g1,g2⟩:=(I.ok.funs.mem hb)
   have:o1=o:=af (g1.symm.trans q)
   subst this
   obtain⟨sl2,e2⟩:=x2 b _ e1 (by intro vs z;exact g2 vs z)
   exact⟨sl2,e2⟩
  ·by_cases hb:b∈frs outer
   ·obtain⟨_,o1,g1,_⟩:=x1.2.2.1.mem hb
    exact⟨_,g1⟩
   ·obtain⟨o',e1⟩:=exi b o q hb
    exact⟨o',x1.1 b o' e1⟩
 ·have tr:∃z,H' d=some z:=by
     rcases hd with r | r
     ·exact⟨_,r ▸ e⟩
     ·exact⟨_,r⟩
  obtain⟨z,hz⟩:=tr
  obtain⟨o1,e1,e2⟩:=TB d z hz
  have:u=o1:=af (q'.symm.trans e1)
  rw[this]
  exact x1.1 d o1 e2
 ·obtain⟨o1,e1,e2⟩:=TB b u e
  exact⟨o1,x1.1 b o1 e2,e2⟩
theorem uu {P:Program}{w:World}{K:W.Frag}{mg:Str -> Option Value}{base:Heap}{N:List Str}{qual:Str}{scope:Scope}{f:Addr}{cd:Value}{A:Around}{outer:List Env}{s:Shared}{H:Hp}{E:XK}{pins:List (Addr × Obj)}{σ:St}{H1:Hp}{s1:Shared}{e:Addr}{oe:Obj}{vs:Array Value}
    (I:Inv (dE (CX1 P w) P w K mg base N qual scope f cd A outer s H E) pins σ H1 s1) (he:H1 e=none) (ge:s1.heap.get? e=some oe) (dv:oe.data=.fields vs) (v1:vs[1]? = some .none) (new:s.heap.get? e=none) (q:E oe.cls oe.dict H1) :
    (dE (CX1 P w) P w K mg base N qual scope f cd A outer s H E).xe (.ref e) s1:=by
 show wpAny (model P w) (A.deeper (envOfC qual scope s.heap.objs.size f cd)) (leaving (envOfC qual scope s.heap.objs.size f cd) (.ref e)) (fun _ s''=>CX1 P w outer H s E (.ref e) s'') (fun e' s''=>CX1 P w outer H s E e' s'') s1
 have hin:∀env∈(envOfC qual scope s.heap.objs.size f cd::outer),∀b,env.frame=some b->b∈e::frs (envOfC qual scope s.heap.objs.size f cd::outer):=fun env he b hb=>aM _ (bX.mpr ⟨env,he,hb⟩)
 refine wR (B:=W.hideAll s1.heap (e::frs (envOfC qual scope s.heap.objs.size f cd::outer))) (out:=outer) (L:=s.heap.objs.size) I.ok.frames (W.funFrames_hide I.stack hin) rfl ge (fun b o z=>W.of_hideAll _ z) (W.hideAll_none _ (.head _)) dv v1 fun h2 x1 x4=>?_
 have trk:∀b u,H1 b=some u->∃o,s1.heap.get? b=some o/\(W.hideAll s1.heap (e::frs (envOfC qual scope s.heap.objs.size f cd::outer))).get? b=some o:=fun b u eb=>by
  obtain⟨o,ho⟩:=ObjOk.obj (I.hok b u eb)
  refine⟨o,ho,W.hideAll_get _ ho fun z=>?_⟩
  rcases am.mp z with z | z
  ·rw[z,he] at eb;cases eb
  ·have:=I.stkFree b z
   rw[eb] at this;cases this
 have old:∀b o,s.heap.get? b=some o->H b=none->b∉frs outer->(W.hideAll s1.heap (e::frs (envOfC qual scope s.heap.objs.size f cd::outer))).get? b=some o:=fun b o z n hb=>by
  have e1:s1.heap.get? b=some o:=I.base.keep b o z n hb (by intro y;cases y)
  refine W.hideAll_get _ e1 fun y=>?_
  rcases am.mp y with y | y
  ·rw[y,new] at z;cases z
  rcases am.mp (I.stkSub b y) with r | r
  ·have r:b=s.heap.objs.size:=r
   exact absurd (r ▸ ag z) (bb _)
  ·exact hb r
 have exi:∀b o,s.heap.get? b=some o->b∉frs outer->∃o',(W.hideAll s1.heap (e::frs (envOfC qual scope s.heap.objs.size f cd::outer))).get? b=some o':=fun b o z hb=>by
  obtain⟨o1,e1⟩:=I.base.there b o z (by intro y;cases y)
  refine⟨o1,W.hideAll_get _ e1 fun y=>?_⟩
  rcases am.mp y with y | y
  ·rw[y,new] at z;cases z
  rcases am.mp (I.stkSub b y) with r | r
  ·have r:b=s.heap.objs.size:=r
   exact absurd (r ▸ ag z) (bb _)
  ·exact hb r
 refine⟨e,oe.cls,oe.dict,_,H1,rfl,I.os,I.bare,?_,fun c o ec=>(I.hok c o ec).stay (fun d u hd q'=>?_) (fun _ z=>z) fun _ _ z=>z,x1,he,fun b u eb=>?_,old,exi,q⟩
 ·refine⟨fun b o z n hb _ => x1.1 b o (old b o z n hb), fun b o z n hb hx' => ?_, fun b o z n hx' => I.base.free b o z n hx', fun b o z hx' => ?_, I.base.tups, I.base.frzs, I.base.tbls⟩
  ·obtain⟨sl,e1⟩:=I.base.slot b o z n hb hx'
   obtain⟨_,o1,g1,g2⟩:=(I.ok.funs.mem hb)
   have:o1=o:=af (g1.symm.trans z)
   subst this
   obtain⟨sl2,e2⟩:=x4 b _ e1 (by intro vs y;exact g2 vs y)
   exact⟨sl2,e2⟩
  ·by_cases hb:b∈frs outer
   ·obtain⟨_,o1,g1,_⟩:=x1.2.2.1.mem hb
    exact⟨_,g1⟩
   ·obtain⟨o',e1⟩:=exi b o z hb
    exact⟨o',x1.1 b o' e1⟩
 ·have tr:∃z,H1 d=some z:=by
     rcases hd with r | r
     ·exact⟨_,r ▸ ec⟩
     ·exact⟨_,r⟩
  obtain⟨z,hz⟩:=tr
  obtain⟨o1,e1,e2⟩:=trk d z hz
  have:u=o1:=af (q'.symm.trans e1)
  rw[this]
  exact x1.1 d o1 e2
 ·obtain⟨o1,e1,e2⟩:=trk b u eb
  exact⟨o1,x1.1 b o1 e2,e2⟩
theorem yh {P:Program}{w:World}{K:W.Frag}{mg:Str -> Option Value}{base:Heap}{N:List Str}{qual:Str}{scope:Scope}{f:Addr}{cd:Value}{A:Around}{outer:List Env}{s:Shared}{H:Hp}{E:XK}{pins:List (Addr × Obj)}{σ:St}{H1:Hp}{s1:Shared}{h':Heap}{e:Addr}{cls:Value}{args:List Value}
    (I:Inv (dE (CX1 P w) P w K mg base N qual scope f cd A outer s H E) pins σ H1 s1) (hx:Heap.MadeExcOf s1.heap h' e cls args) (q:E cls none H1) :
    (dE (CX1 P w) P w K mg base N qual scope f cd A outer s H E).xe (.ref e) { s1 with heap:=h' }:=by
 obtain⟨t,ge,_,_⟩:=hx.there
 refine uu (s1:={ s1 with heap:=h' }) (I.kept (t':=s1.toks) hx.keeps) ?_ ge rfl rfl ?_ q
 ·cases z:H1 e with
  | none=>rfl
  | some u =>
   obtain⟨o,ho⟩:=ObjOk.obj (I.hok e u z)
   rw[hx.new] at ho;cases ho
 ·cases z:s.heap.get? e with
  | none=>rfl
  | some o =>
   obtain⟨o',e'⟩:=I.base.there e o z (by intro y;cases y)
   rw[hx.new] at e';cases e'
def tO (E:XK) (C:Addr) (ta:TA):TS:=fun _ σ H=>ta σ H fun vs H1=>vs.length<=sizeLine/\E (.ref C) none H1
theorem rT {P:Program}{w:World}{K:W.Frag}{mg:Str->Option Value}{base:Heap}{N:List Str}{qual:Str}{scope:Scope}{f:Addr}{cd:Value}{A:Around}{outer:List Env}{s:Shared}{H:Hp}{E:XK}
    {x:Str} {C:Addr} {bm bmN:List Value} {B Bn newId nid initId inN:String} {np cpos pos:Pos} {e₀:Expr} {dH:List Expr} {ta:TA} (O:OwnCls x C bm newId mg base) (Fn:ExcBaseFacts Bn newId inN bmN) (hBn:bm.contains (.type Bn)=true) (FB:ExcBaseFacts B nid initId bm)
    (hg:Gl (dE (CX1 P w) P w K mg base N qual scope f cd A outer s H E) x) (ha:PA (dE (CX1 P w) P w K mg base N qual scope f cd A outer s H E) (e₀::dH) ta)
    (he:starEach (e₀::dH) (dE (CX1 P w) P w K mg base N qual scope f cd A outer s H E).env=(false,eval e₀ (dE (CX1 P w) P w K mg base N qual scope f cd A outer s H E).env)::starEach dH (dE (CX1 P w) P w K mg base N qual scope f cd A outer s H E).env:=by rfl)
    (hpl:(backTo cpos (starEach dH (dE (CX1 P w) P w K mg base N qual scope f cd A outer s H E).env)).any (·.1)=false:=by rfl) (hdb:(x==("__debug__":Str))=false:=by decide) :
    PS (dE (CX1 P w) P w K mg base N qual scope f cd A outer s H E) (.Raise (some (.Call (.Name x np) (e₀::dH) [] cpos)) none pos) (tO E C ta):=by
 intro pins s1 σ H1 D I h
 obtain⟨tl,Nn,nm,q,bs,hdct,sn,sub,ab,col,dd,k0,k1,k2,k3,k5,mN,hC,hN,hni,T⟩:=O.obj
 refine wpAny_Raise_call_subU (C:=C) (nm:=nm) (q:=q) (N:=Nn) (bs:=bs) (bm:=tl) (hdct:=hdct) (sn:=sn) (sub:=sub) (ab:=ab) (col:=col) (dd:=dd) (k0:=k0) (k1:=k1) (k2:=k2) (k3:=k3) (k5:=k5)
  Fn hBn FB (mN:=mN) (T.hasType FB.hasBase) (I.ok.hd rfl) (by rw[he];show (false||_)=false;rw[Bool.false_or];exact hpl) hni (iz I hg O.bound ?_ hdb)
 refine⟨rfl,?_⟩
 rw[he]
 have key:=ha cpos pins s1 σ H1 _ I h
 rw[he] at key
 refine Calls.evalArgs_plain (thn key fun us s2 hh=>?_)
 obtain⟨vs,H2,I2,r,hl,q2⟩:=hh
 have bk:=I2.bk
 refine⟨rfl,by rw[<- r.length];exact hl,bk _ _ hC,hN.keeps bk,T.keeps bk,fun h' e hm=>yh I2 hm q2⟩
section
variable {M:Model}{A:Around}{E:Value->Shared->Prop}{nm q nm' q':Str}{C N D N':Addr}{bs bm bs' bm':List Value}{hdct hdct':Bool}{sn sn':List Str}{sub sub':List Value}{ab ab':Bool}{col col':Option Bool}{dd dd':Option Addr}{k0 k1 k2 k3 k5 j0 j1 j2 j3 j5:Option Value}{newId newId':String}
theorem pk {h:Heap}{g:Array GenState}{d:Drawn}{t:Nat}{os:OsState}{e:Addr}{oe:Obj}{Q:Bool -> Shared -> Prop}
    (hC:h.get? C=some (excClassObj nm q C N bs bm hdct sn sub ab col dd k0 k1 k2 k3 k5 newId)) (he:h.get? e=some oe) (hcls:oe.cls=.ref C)
    (hD:h.get? D=some (excClassObj nm' q' D N' bs' bm' hdct' sn' sub' ab' col' dd' j0 j1 j2 j3 j5 newId')) (hb:bm'.contains (.type "BaseException")=true)
    (hin:(Value.ref C::bm).contains (.ref D)=true) (hq:Q true ⟨h,g,d,t,os⟩):wpAny M A (excMatches (.ref e) (.ref D)) Q E ⟨h,g,d,t,os⟩:=by
 have hcB:(Value.ref D::bm').contains (.type "BaseException")=true:=by rw[List.contains_cons,hb,Bool.or_true]
 have f:=tc_notTuple
 unfold excMatches
 repeat first
  | (with_reducible refine wpAny_loadPart_at he ?_
     rw[hcls])
  | with_reducible refine wpAny_loadPart_at hD ?_
  | (with_reducible refine wpAny_isSubtype_exc hD ?_
     rw[hcB])
  | (with_reducible refine wpAny_isSubtype_exc hC ?_
     rw[hin])
  | wp_step
 exact hq
end
theorem qh {X:Cx}{pins:List (Addr × Obj)}{σ:St}{H1 H':Hp}{s1 s':Shared}{B h5:Heap}{a:Addr}{cls fz:Value}{dd:Option Addr}(I:Inv X pins σ H1 s1) (hst:X.stack=X.env :: X.outer) (hfr:X.env.frame=some X.env.locals)
    (os:s'.os=s1.os) (bare:AllBare s'.gens) (un:Un (frs X.stack) [] H1 H' s1.heap s'.heap) (hok:HOk X.prog X.w H' s'.heap) (fl:XF B X.stack a cls dd fz h5) (sm:s'.heap.UpToSlots h5)
    (TB:∀b u,H' b=some u->∃o,s'.heap.get? b=some o/\B.get? b=some o) (KB:∀b o,s1.heap.get? b=some o->H1 b=none->b∉frs X.stack->B.get? b=some o) (AB:∀b o,s1.heap.get? b=some o->b∉frs X.stack->∃o',B.get? b=some o') :
    Inv X pins σ H' { s' with heap:=h5 }:=by
 obtain⟨hh,g,d,tk,os'⟩:=s'
 obtain rfl:os'=s1.os:=os
 have efr:frs X.stack=X.env.locals::X.fs:=by rw[hst];unfold frs;rw[List.filterMap_cons,hfr];rfl
 have nin:∀b,b≠X.env.locals->b∉X.fs->b∉frs X.stack:=fun b n1 n2 z=>by
  rw[efr] at z
  rcases am.mp z with r | r
  ·exact n1 r
  ·exact n2 r
 have inn:∀b,b∈X.fs->b∈frs X.stack:=fun b hb=>by rw[efr];exact aM _ hb
 have nof:∀ {b:Addr} {o:Obj},b∈frs X.stack->s1.heap.get? b=some o->∀vs,o.data≠.fields vs:=fun hb e vs=>by
  obtain⟨_,o1,g1,g2⟩:=I.stack.mem hb
  have:=af (g1.symm.trans e)
  exact this ▸ g2 vs
 have slot:∀b o,b∈frs X.stack->s1.heap.get? b=some o->H1 b=none->∃sl,h5.get? b=some { o with slots:=sl }:=fun b o hb e n=>by
  obtain⟨sl,e1⟩:=un.slot b o e n hb (by intro z;cases z)
  obtain⟨sl2,e2⟩:=sm b _ e1 (fun vs z=>nof hb e vs z)
  exact⟨sl2,e2⟩
 show Inv X pins σ H' { s1 with heap:=h5,gens:=g,drawn:=d,toks:=tk }
 refine Inv.step (s:=s1) (h':=h5) (g':=g) (d':=d) (t':=tk) (ch:=[]) I (fun b hb=>by cases hb) (fun b o n1 n2 _ e n=>fl.1 b o (KB b o e n (nin b n1 n2))) (fun b o _ hb _ e n=>slot b o (inn b hb) e n) (fun b o _ e n=>un.free b o e n (by intro z;cases z)) (fun b o _ e=>?_) un.tups un.frzs un.tbls (fun m hn=>?_) (fun c o ec=>(hok c o ec).stay (fun d u hd q'=>?_) (fun _ z=>z) fun _ _ z=>z) bare
 ·by_cases hb:b∈frs X.stack
  ·obtain⟨_,o1,g1,_⟩:=fl.2.2.1.mem hb
   exact⟨_,g1⟩
  ·obtain⟨o',e1⟩:=AB b o e hb
   exact⟨o',fl.1 b o' e1⟩
 ·obtain⟨o,es,ep,ho,hd,r⟩:=hn
  obtain⟨sl,e1⟩:=slot X.env.locals o (by rw[efr];simp) ho I.free
  exact⟨_,es,ep,e1,hd,r⟩
 ·have tr:∃z,H' d=some z:=by
     rcases hd with r | r
     ·exact⟨_,r ▸ ec⟩
     ·exact⟨_,r⟩
  obtain⟨z,hz⟩:=tr
  obtain⟨o1,e1,e2⟩:=TB d z hz
  have:u=o1:=af (q'.symm.trans e1)
  rw[this]
  exact fl.1 d o1 e2
abbrev Cx.mark (X:Cx) (e:Value) (E:Value->Shared->Prop):Cx:={ X with A:=X.A.mark (some e),calm:=false,xe:=E }
section
variable {X:Cx}{pins:List (Addr × Obj)}{σ:St}{H:Hp}{s:Shared}{e:Value}{E:Value->Shared->Prop}
theorem Cx.Ok.mark (ok:X.Ok):(X.mark e E).Ok :=
 ⟨ok.mod,ok.kind,ok.glob,ok.blt,ok.above,ok.inj,ok.has,ok.cab,fun z=>(by cases z),ok.frames,ok.stk,ok.exf,ok.bs,ok.bsz,ok.noex,ok.exfs,ok.funs,ok.frf⟩
theorem Inv.mark (I:Inv X pins σ H s):Inv (X.mark e E) pins σ H s:=⟨I.ok.mark,I.os,I.bare,I.base,I.loc,I.cell,I.free,I.freeC,I.pin,I.hok,I.len⟩
theorem Inv.unmark (ok:X.Ok) (I:Inv (X.mark e E) pins σ H s):Inv X pins σ H s:=⟨ok,I.os,I.bare,I.base,I.loc,I.cell,I.free,I.freeC,I.pin,I.hok,I.len⟩
theorem lF {M:Model}{A:Around}{i:Nat}{n:Str}{pos:Pos}{Q:Unit -> Shared -> Prop}(I:Inv X pins σ H s) (hN:X.N.Nodup) (hi:X.N[i]? = some n) (hk:X.env.kindOf n=some .local)
    (h:∀s',Inv X pins (σ.set i none) H s'->Q () s'):wpAny M A (do bindName X.env n .none;unbindBehindTheSuite X.env n pos) Q E s:=by
 obtain⟨m,hn,hl⟩:=id I.loc
 have hcls:(X.env.scope.kind==.class||(X.env.scope.kind==.module&&X.env.locals != X.env.globals))=false:=by rw[I.ok.kind];rfl
 have hiσ:i<σ.length:=by rw[I.len];exact(ai.mp hi).1
 have cne:=I.cne
 refine wpAny_nameGoes_keeps hk hn hcls fun h' v hn' hs=>?_
 obtain⟨oL,_,_,hoL,_⟩:=id hn
 have tracked:HOk X.prog X.w H h':=fun b ob e=>by
  refine(I.hok b ob e).stay (fun c w' hc q=>(hs.2 c ?_).trans q) (fun _ q=>q) fun _ _ q=>q
  rintro rfl
  rcases hc with z | hc
  ·have:=I.free;rw[z] at this;rw[this] at e;cases e
  ·rw[I.free] at hc;cases hc
 refine h _ ⟨I.ok,I.os,I.bare,⟨fun b o e n hb hx=>?_,fun b o e n hb hx=>?_,I.base.free,fun b o e hx=>?_,I.base.tups,I.base.frzs,I.base.tbls⟩,⟨_,hn',fun j y v' e1 e2 e3=>?_⟩,fun y c e=>?_,I.free,I.freeC,fun p hp=>?_,tracked,by simpa using I.len⟩
 ·exact(hs.2 b (ak (aD (ag e) I.ok.above))).trans (I.base.keep b o e n hb hx)
 ·obtain⟨sl,e1⟩:=I.base.slot b o e n hb hx
  exact⟨sl,(hs.2 b (ak (aD (ag e) I.ok.above))).trans e1⟩
 ·obtain⟨o',e1⟩:=I.base.there b o e hx
  exact⟨o',(hs.2 b (ak (aD (ag e) I.ok.above))).trans e1⟩
 ·by_cases hj:j=i
  ·subst hj
   rw[List.getElem?_set_self hiσ] at e2
   cases e2
  ·rw[List.getElem?_set_ne (Ne.symm hj)] at e2
   obtain⟨u',r',q⟩:=hl j y v' e1 e2 e3
   refine⟨u',r',?_⟩
   rcases q with⟨k,e⟩ | ⟨k,c,e,z⟩
   ·refine .inl ⟨k,?_⟩
    have:y≠n:=fun e=>hj (ll hN e1 (e ▸ hi))
    simp[this,e]
   ·exact .inr ⟨k,c,e,z.sameBut hs (cne y c e)⟩
 ·obtain⟨w',z⟩:=I.cell y c e
  exact⟨w',z.sameBut hs (cne y c e)⟩
 ·obtain⟨e,n,ne,nf,d⟩:=I.pin p hp
  exact⟨(hs.2 p.1 ne).trans e,n,ne,nf,d⟩
theorem Inv.track {σ1:St}{H1:Hp}{s1:Shared}{a:Addr}{o:HO}(I1:Inv X pins σ1 H1 s1) (I:Inv X pins σ H s) (hn:s1.heap.get? a=none) (ha:H a=none) (new:ObjOk X.prog X.w (upd H a o) s.heap a o):Inv X pins σ (upd H a o) s := by
 have h0:∀ob,X.s₀.heap.get? a=some ob->a∈X.ex:=fun ob e=>by
  by_cases hx:a∈X.ex
  ·exact hx
  ·obtain⟨o',e'⟩:=I1.base.there a ob e hx
   rw[hn] at e';cases e'
 have ne:∀ {b:Addr} {u:HO},H b=some u->b≠a:=fun e z=>by rw[z,ha] at e;cases e
 have dif:∀ {b:Addr} {ob:Obj},s1.heap.get? b=some ob->b≠a:=fun e z=>by rw[z,hn] at e;cases e
 obtain⟨m1,hn1,_⟩:=id I1.loc
 obtain⟨oL,_,_,hoL,_⟩:=hn1
 refine⟨I.ok,I.os,I.bare,⟨I.base.keep,I.base.slot,fun b ob e n hx=>?_,I.base.there,fun b xs e=>?_,fun b x y e=>?_,fun b ps e=>?_⟩,I.loc,I.cell,?_,fun x c e=>?_,fun p hp=>?_,fun b u e=>?_,I.len⟩
 ·have:b≠a:=fun z=>hx (z ▸ h0 ob (z ▸ e))
  rw[cH this];exact I.base.free b ob e n hx
 ·have z:=I.base.tups b xs e
  rw[cH (ne z)];exact z
 ·have z:=I.base.frzs b x y e
  rw[cH (ne z)];exact z
 ·obtain⟨more,z⟩:=I.base.tbls b ps e
  exact⟨more,by rw[cH (ne z)];exact z⟩
 ·rw[cH (dif hoL)];exact I.free
 ·obtain⟨v,oc,z,_⟩:=I1.cell x c e
  rw[cH (dif z)];exact I.freeC x c e
 ·obtain⟨e1,n1,r⟩:=I.pin p hp
  obtain⟨e2,_⟩:=I1.pin p hp
  exact⟨e1,by rw[cH (dif e2)];exact n1,r⟩
 ·by_cases hb:b=a
  ·subst hb;rw[cF] at e;cases e;exact new
  ·rw[cH hb] at e
   exact(I.hok b u e).stay (fun _ _ _ z=>z) (fun c q=>by rw[cH (ne q)];exact q) fun c xs q=>by rw[cH (ne q)];exact q
end
def XAt (h:Heap) (C:Addr) (bm:List Value):Prop :=
 ∃nm q N bs hdct sn sub ab col dd k0 k1 k2 k3 k5 newId,h.get? C=some (excClassObj nm q C N bs bm hdct sn sub ab col dd k0 k1 k2 k3 k5 newId)
def gu (a C:Addr) (dd:Option Addr):HO:=.ext fun h=>∃o,h.get? a=some o/\o.cls=.ref C/\o.dict=dd/\W.notCls o=true
section
open PySem.W PySem.Calls Builtin Builtin.ObjectAttr Builtin.Getset_descriptor
structure XFacts (K:Frag) (C:Addr):Prop where
 ga:findIn K (.ref C) "__getattribute__"=some (some (.builtin "BaseException.__getattribute__"))
 gb:findIn K (.ref C) "__getattr__"=some none
 ha:findIn K (.ref C) "__class__"=some (some (.builtin "object.__class__"))
 hn:specialIn K (.builtin "object.__class__") "__get__"=some (some (.builtin "getset_descriptor.__get__"))
 ht:takesIn K (.builtin "object.__class__")=some true
 hm:mroIn K C (.type "object")=some true
 hb:mroIn K C (.type "BaseException")=some true
 cl:(clsIn K C).isSome=true
def XIs (x C:Addr) (h:Heap):Prop:=∃o,h.get? x=some o/\o.cls=.ref C
variable {K:Frag}{x C:Addr}{h:Heap}{M:Model}
theorem XIs.type (p:XIs x C h):Looks M h (typeOf (.ref x)) (.ref C):=by
 obtain⟨o,e,c⟩:=p
 exact c ▸ (Looks.ld e).andThen .now
theorem XFacts.found (Z:XFacts K C) (X:K.In h):Looks M h (find (.ref x) (.ref C) "__class__") (.bind (.builtin "getset_descriptor.__get__") (.builtin "object.__class__")):=by
 have l1:=looks_findIn (M:=M) X Z.ha
 have l2:Looks M h (getOf (some (.builtin "object.__class__"))) (some (.builtin "getset_descriptor.__get__")):=looks_specialIn X Z.hn
 have l3:Looks M h (dataDescriptor? (some (.builtin "object.__class__")) (some (.builtin "getset_descriptor.__get__"))) (some (.builtin "getset_descriptor.__get__",.builtin "object.__class__")):=(looks_takesIn (M:=M) X Z.ht).andThen .now
 exact l1.andThen (l2.andThen (l3.andThen (Looks.tag .now)))
variable {prog:Program}{w:World}{A:Around}{E:Value->Shared->Prop}{s:Shared}
theorem yQ {R:Result->Shared->Prop}{tp:Value}(Z:XFacts K C) (X:K.In s.heap) (p:XIs x C s.heap) (h:R (.ok (.ret (.ref C))) s) :
    codeAny (model prog w) A (.call (.builtin "getset_descriptor.__get__") ⟨[.builtin "object.__class__",.ref x,tp],[]⟩) R s:=by
 have q1:=p.type (M:=model prog w)
 have q2:=looks_mroIn (M:=model prog w) X Z.hm
 obtain⟨hh,g,dr,t,os⟩:=s
 refine codeAny_call_builtin KF.slot_gs.plain KF.entry_gs (KF.slot_gs.check _ _ _ _ _ _ _ _ KF.type_class (KF.args_gs _ _ _) ?_)
 simp only[Builtin.«getset_descriptor.__get__»,descrGet,dga_obj]
 refine aa (ae ?_)
 simp only[descrGetter,descrCheckInstance,descrNameAndClass,isInstance,KF.owner_class]
 repeat lk
 refine⟨Code.quiet_builtin _ (by decide +kernel),codeAny_builtin KF.entry_class ?_⟩
 simp only[Builtin.«object.__class__»,shownTypeOf]
 repeat lk
 exact h
theorem zv {tk:Tok}{R:Result->Shared->Prop}(Z:XFacts K C) (X:K.In s.heap) (p:XIs x C s.heap) (h:R (.ok (.ret (.ref C))) s) :
    codeAny (model prog w) A (.call (.builtin "BaseException.__getattribute__") ⟨[.ref x,.str "__class__" tk],[]⟩) R s:=by
 have q1:=p.type (M:=model prog w)
 have q2:=looks_mroIn (M:=model prog w) X Z.hb
 have q3:=Z.found (M:=model prog w) (x:=x) X
 have hk:builtinKind "BaseException.__getattribute__"=some .slot:=by decide +kernel
 have hsp:splitId "BaseException.__getattribute__"=some ("BaseException","__getattribute__"):=by decide +kernel
 have ha:=PySem.F.args_bexc_ga (.ref x) (.str "__class__" tk)
 obtain⟨hh,g,dr,t,os⟩:=s
 refine codeAny_call_builtin PySem.F.attr_ValueError.ga.plain PySem.F.entry_bexc_ga ?_
 simp only[checkBuiltinCall,hk,hsp]
 refine aa ?_
 unfold isInstance
 repeat lk
 show wpAny _ _ (run (.call (.builtin "getset_descriptor.__get__") ⟨[.builtin "object.__class__",.ref x,.ref C],[]⟩) none) _ _ _
 refine wpAny_run (yQ Z X p ?_)
 exact ae (ae h)
theorem vC {Q:Option Value->Shared->Prop}(Z:XFacts K C) (X:K.In s.heap) (p:XIs x C s.heap) (h:Q (some (.ref C)) { s with toks:=s.toks+1 }):wpAny (model prog w) A (getAttr? (.ref x) "__class__") Q E s:=by
 have q1:=p.type (M:=model prog w)
 have q2:=looks_findIn (M:=model prog w) X Z.ga
 have q4:=looks_findIn (M:=model prog w) X Z.gb
 have f3:=PySem.F.attr_ValueError.ga.bind (.ref x)
 obtain⟨hh,g,dr,t,os⟩:=s
 simp only[getAttr?,getAttrBy?,getAttrBy]
 refine aa (wpAny_mkText (aa (wpAny_attempt (aJ (aa (q1.at (aa (q2.at ?_))))))))
 show wpAny _ _ (getAttrByItsOwn _ _ _ _ _ _) _ _ _
 refine aa ?_
 show wpAny _ _ (typeLookup (.ref C) "__getattr__") _ _ _
 refine q4.at (aa (wpAny_attempt (aJ ?_)))
 show wpAny _ _ (boundAndCalled _ _ _) _ _ _
 unfold boundAndCalled
 rw[f3]
 refine aa (ae ?_)
 show wpAny _ _ (call (.builtin "BaseException.__getattribute__") [.ref x,.str "__class__" t]) _ _ _
 refine wpAny_call (zv Z X p ?_)
 show wpAny _ _ (handedOut (Value.ref C)) _ _ _
 exact handed_on rfl (ae h)
theorem vq (Z:XFacts K C):KitX K (.ref x) (.ref C) (XIs x C) where
 ty:=fun _ _ _ p=>p.type
 it:=fun M h X _=>by
  obtain⟨cd,hc⟩:=bv.mp Z.cl
  unfold clsIn at hc
  split at hc
  ·rename_i ho
   intro A' Q' E' s' k q
   unfold isType loadHead
   exact aa (wpAny_loadPart (k _ _ (X _ _ ho)) (ae q))
  ·cases hc
 ne:=fun h tp dd its n sl X htp=>by
  obtain⟨cd,hc⟩:=bv.mp Z.cl
  refine Bool.eq_false_iff.mpr fun q=>?_
  cases Value.ref.inj (beq_iff_eq.mp q)
  unfold clsIn at hc
  split at hc
  ·rename_i ho
   cases (X _ _ ho).symm.trans htp
  ·cases hc
 ca:=fun X p k=>vC Z X p k
end
section
variable {X:Cx}{pins:List (Addr × Obj)}{σ:St}{H:Hp}{s:Shared}{A:Around}{E:Value->Shared->Prop}{Q:Value->Shared->Prop}{e f:Expr}{t:TA}{p pos:Pos}
theorem xw {a C:Addr}{dd:Option Addr}(I:Inv X pins σ H s) (h:H a=some (gu a C dd)):XIs a C s.heap:=let ⟨o,e,c,_⟩:=(show ObjOk X.prog X.w H s.heap a (gu a C dd) from I.hok a _ h).1;⟨o,e,c⟩
def yV (K:W.Frag):List V->Hp->VK->Prop:=fun xs H Q=>∃a C dd c u b,xs=[.ref a,c]/\H a=some (gu a C dd)/\XFacts K C/\(∀v,RelV c v->v=u)/\W.kitOne K (.ref C) u=some b/\Q (.bl b) H
theorem uR:fA X (.builtin "isinstance") (yV X.K):=by
 intro pins s σ H xs us Q I r h
 obtain⟨a,C,dd,c,u,b,rfl,ea,Z,ru,e,q⟩:=h
 obtain⟨v1,v2,rfl,r1,r2⟩:=hU r
 cases r1
 cases ru v2 r2
 exact W.kia_one (vq Z) I.kIn (xw I ea) e (fun z=>nomatch z) fun tk=>⟨.bl b,H,I.tok tk,rfl,q⟩
theorem fb (K:W.Frag) (B:Blt X.mg) (ha:PA X [e,f] t) (hg:Gl X "isinstance":=by rfl) (he:starEach [e,f] X.env=(false,eval e X.env)::starEach [f] X.env:=by rfl) (hpl:(backTo pos (starEach [f] X.env)).any (·.1)=false:=by rfl) (hK:X.K=K:=by rfl) :
    PE X (.Call (.Name "isinstance" p) [e,f] [] pos) (tCB (yV K) t) :=
 hK ▸ eW uR hg B.isinstance boot_isinstance ha (by decide) (by decide) he hpl
end
section
variable {P:Program}{w:World}{K:W.Frag}{mg:Str->Option Value}{base:Heap}
theorem Fun.okX {x qual:Str}{st:Stmt}{f:Addr}{fd:FuncData}{N ps:List Str}{k:Nat}{sp:Sp}(F:Fun K x qual st f fd) (S:FnScope N ps (cI st)) (len:∀vs H Q E, sp vs H Q E -> vs.length=ps.length)
    (hbody:∀(cdv:Value) (A:Around) (outer:List Env) (s:Shared) (H:Hp) (vs:List V) (Q:VK) (E:XK),Room k (A.deeper (envOfC qual (cI st) s.heap.objs.size f cdv))->sp vs H Q E ->
     ∃t,PSs (dE (CX1 P w) P w K mg base N qual (cI st) f cdv A outer s H E) (cV st) t/\t { nx:=fun _ H'=>Q .non H',rt:=Q } (start N vs) H):FnOk P w K mg base (CX1 P w) (k+1) f fd ps sp:=by
 obtain⟨oc,od,kV,doc,pm,an,cdv,ct,osl,rfl,lk,hcd⟩:=F.ex
 exact qT lk hcd S len fun A outer s H vs Q E hr hsp=>hbody cdv A outer s H vs Q E hr hsp
theorem FnOk.lift {k:Nat}{f:Addr}{fd:FuncData}{ps:List Str}{sp:Sp}(F:FnOk P w K mg base CX0 k f fd ps sp):FnOk P w K mg base (CX1 P w) k f fd ps sp :=
 ⟨F.len,fun A outer s H args us vs Q E hr he hb hv hs=>codeAny_mono (F.run A outer s H args us vs Q E hr he hb hv hs) fun r s' h=>by
  cases r with
  | ok fl=>cases fl <;> exact h
  | error e=>exact False.elim h⟩
structure CalX (P:Program) (w:World) (K:W.Frag) (mg:Str->Option Value) (base:Heap) (k:Nat) (x:Str) (ps:List Str) (sp:Sp):Prop where
 ex:∃(f:Addr) (fd:FuncData),FnOk P w K mg base (CX1 P w) k f fd ps sp/\mg x=some (.ref f)/\W.keepIn K (.ref f)=true/\Binds K fd ps []
theorem jc {N:List Str}{qual:Str}{scope:Scope}{f:Addr}{cd:Value}{A:Around}{outer:List Env}{s:Shared}{H:Hp}{E:XK}{x:Str}{ps:List Str}{sp:Sp}{k:Nat}{p pos:Pos}{e:Expr}{es:List Expr}{t:TA}
    (c:CalX P w K mg base k x ps sp) (hr:Room k (dE (CX1 P w) P w K mg base N qual scope f cd A outer s H E).A) (hg:Gl (dE (CX1 P w) P w K mg base N qual scope f cd A outer s H E) x)
    (ha:PA (dE (CX1 P w) P w K mg base N qual scope f cd A outer s H E) (e::es) t)
    (hs:starEach (e::es) (dE (CX1 P w) P w K mg base N qual scope f cd A outer s H E).env=(false,eval e (dE (CX1 P w) P w K mg base N qual scope f cd A outer s H E).env)::starEach es (dE (CX1 P w) P w K mg base N qual scope f cd A outer s H E).env:=by rfl)
    (hpl:(backTo pos (starEach es (dE (CX1 P w) P w K mg base N qual scope f cd A outer s H E).env)).any (·.1)=false:=by rfl) (hdb:(x==("__debug__":Str))=false:=by decide) :
    PE (dE (CX1 P w) P w K mg base N qual scope f cd A outer s H E) (.Call (.Name x p) (e::es) [] pos) (qL sp [] E t):=by
 obtain⟨g,fd,G,mf,kp,b⟩:=c.ex
 exact qc G hr hg mf kp b .nil zE ha (hdb:=hdb) (he:=hs) (hpl:=hpl)
variable {x:Str}{C N:Addr}{bmB bm bs:List Value}{newId:String}{nm q:Str}{hdct:Bool}{sn:List Str}{sub:List Value}{ab:Bool}{col:Option Bool}{dd:Option Addr}{k0 k1 k2 k3 k5:Option Value}{h:Heap}
theorem tV (X:K.In h) (bound:mg x=some (.ref C)) (lk:K.lookup C=some (excClassObj nm q C N bs bm hdct sn sub ab col dd k0 k1 k2 k3 k5 newId)) (ok:W.nsOkIn K N=true) (ni:W.nsIn K N "__init__"=some none)
    (tl:W.tailIn K bmB bm=true):OwnCls x C bmB newId mg h :=
 ⟨bound,bm,N,nm,q,bs,hdct,sn,sub,ab,col,dd,k0,k1,k2,k3,k5,_,X _ _ lk,.of_isNs (W.isNs_of_in X ok),W.nsMap_none_of_in X ok ni,W.tail_of_in X tl⟩
theorem oB (X:K.In h) (lk:K.lookup C=some (excClassObj nm q C N bs bm hdct sn sub ab col dd k0 k1 k2 k3 k5 newId)):XAt h C bm :=
 ⟨nm,q,N,bs,hdct,sn,sub,ab,col,dd,k0,k1,k2,k3,k5,newId,X _ _ lk⟩
end
structure Errs (K:W.Frag) (mg:Str->Option Value) (base:Heap) (ec:Str->Addr) (l c:List Str):Prop where
 b:∀x∈l,mg x=some (.ref (ec x))
 f:∀x∈c,XFacts K (ec x)
 ord:("OrderError":Str)∈c
 kit:∀x∈c,x≠"OrderError"->∀y∈l,W.kitOne K (.ref (ec x)) (.ref (ec y))=some (y==x||y==("OrderError":Str))
 val:∀x∈c,W.kitOne K (.ref (ec x)) (.type "ValueError")=some true
 at_:∀x∈c,∃bm,XAt base (ec x) bm/\bm.contains (.type "BaseException")=true/\(Value.ref (ec x)::bm).contains (.ref (ec "OrderError"))=true
 nv:mg "ValueError"=none
 own:∀x∈c,x∉(["NoText","Ring","NoUnit"]:List Str)->OwnCls x (ec x) [.type "ValueError",.type "Exception",.type "BaseException",.type "object"] "ValueError.__new__" mg base
theorem tY {P:Program}{w:World}{K:W.Frag}{mg:Str->Option Value}{base:Heap}{ec:Str->Addr}{l c:List Str}{N:List Str}{qual:Str}{scope:Scope}{f:Addr}{cd:Value}{A:Around}{outer:List Env}{s:Shared}{H:Hp}{E:XK}
    {x:Str} {np cpos pos:Pos} {e₀:Expr} {dH:List Expr} {ta:TA} (Er:Errs K mg base ec l c) (hx:x∈c) (hi:x∉(["NoText","Ring","NoUnit"]:List Str))
    (hg:Gl (dE (CX1 P w) P w K mg base N qual scope f cd A outer s H E) x) (ha:PA (dE (CX1 P w) P w K mg base N qual scope f cd A outer s H E) (e₀::dH) ta)
    (he:starEach (e₀::dH) (dE (CX1 P w) P w K mg base N qual scope f cd A outer s H E).env=(false,eval e₀ (dE (CX1 P w) P w K mg base N qual scope f cd A outer s H E).env)::starEach dH (dE (CX1 P w) P w K mg base N qual scope f cd A outer s H E).env:=by rfl)
    (hpl:(backTo cpos (starEach dH (dE (CX1 P w) P w K mg base N qual scope f cd A outer s H E).env)).any (·.1)=false:=by rfl) (hdb:(x==("__debug__":Str))=false:=by decide) :
    PS (dE (CX1 P w) P w K mg base N qual scope f cd A outer s H E) (.Raise (some (.Call (.Name x np) (e₀::dH) [] cpos)) none pos) (tO E (ec x) ta) :=
 rT (Er.own x hx hi) PySem.F.excBase_ValueError (by decide) PySem.F.excBase_ValueError hg ha he hpl hdb
theorem oQ:bootBuiltins "ValueError"=some (.type "ValueError"):=by decide +kernel
def i7 (ps:List (Str × Addr)) (x:Str):Addr:=(ps.lookup x).getD 0
theorem kz:∀ {ps:List (Str × Addr)}, (ps.map (·.1)).Nodup -> ∀p ∈ ps, i7 ps p.1=p.2
 | [],_,p,h=>by cases h
 | q::ps,nd,p,h=>by
  rw[aZ,aU] at nd
  unfold i7
  rcases am.mp h with rfl | h
  ·rw[aY];simp
  ·have ne:p.1≠q.1:=fun z=>nd.1 (z ▸ aq.mpr ⟨p,h,rfl⟩)
   have:(p.1==q.1)=false:=by simpa using ne
   rw[aY,this]
   exact kz nd.2 p h
theorem gP {α:Type}{P:α->Prop}:∀x∈([]:List α),P x:=fun x h=>by cases h
theorem cM {α:Type}{P:α->Prop}{a:α}{l:List α}(h:P a) (g:∀x∈l,P x):∀x∈a::l,P x:=fun x hx=>by
 rcases am.mp hx with rfl | hx
 ·exact h
 ·exact g x hx
variable {K:W.Frag}{mg:Str->Option Value}{base:Heap}
theorem xB {ps cs:List (Str × Addr)}(nd:(ps.map (·.1)).Nodup) (sub:∀p∈cs,p∈ps) (b:∀p∈ps,mg p.1=some (.ref p.2)) (f:∀p∈cs,XFacts K p.2) (ord:("OrderError":Str)∈cs.map (·.1))
    (kit:∀p∈cs,p.1≠"OrderError"->∀q∈ps,W.kitOne K (.ref p.2) (.ref q.2)=some (q.1==p.1||q.1==("OrderError":Str))) (val:∀p∈cs,W.kitOne K (.ref p.2) (.type "ValueError")=some true)
    (at_:∀p∈cs,∃bm,XAt base p.2 bm/\bm.contains (.type "BaseException")=true/\(Value.ref p.2::bm).contains (.ref (i7 ps "OrderError"))=true) (nv:mg "ValueError"=none)
    (own:∀p∈cs,p.1∉(["NoText","Ring","NoUnit"]:List Str)->OwnCls p.1 p.2 [.type "ValueError",.type "Exception",.type "BaseException",.type "object"] "ValueError.__new__" mg base):Errs K mg base (i7 ps) (ps.map (·.1)) (cs.map (·.1)):=by
 have e:=kz nd
 have q:∀ {x:Str},x∈ps.map (·.1)->∃p∈ps,p.1=x:=fun h=>by obtain⟨p,hp,rfl⟩:=aq.mp h;exact⟨p,hp,rfl⟩
 have r:∀ {x:Str},x∈cs.map (·.1)->∃p∈cs,p.1=x:=fun h=>by obtain⟨p,hp,rfl⟩:=aq.mp h;exact⟨p,hp,rfl⟩
 refine⟨fun x hx=>?_,fun x hx=>?_,ord,fun x hx hn y hy=>?_,fun x hx=>?_,fun x hx=>?_,nv,fun x hx hn=>?_⟩
 ·obtain⟨p,hp,rfl⟩:=q hx
  rw[e p hp];exact b p hp
 ·obtain⟨p,hp,rfl⟩:=r hx
  rw[e p (sub p hp)];exact f p hp
 ·obtain⟨p,hp,rfl⟩:=r hx
  obtain⟨p2,hp2,rfl⟩:=q hy
  rw[e p (sub p hp),e p2 hp2];exact kit p hp hn p2 hp2
 ·obtain⟨p,hp,rfl⟩:=r hx
  rw[e p (sub p hp)];exact val p hp
 ·obtain⟨p,hp,rfl⟩:=r hx
  rw[e p (sub p hp)];exact at_ p hp
 ·obtain⟨p,hp,rfl⟩:=r hx
  rw[e p (sub p hp)];exact own p hp hn
end L2
open PySem
namespace L2
open PySem
abbrev Kn:=List (Str × List Str)
section
variable {us:List Str}{ks:Kn}
abbrev tp (a:List Str):List Str:=("":Str)::a
end
end L2
open PySem
namespace L2
open PySem
def kdO (ks:Kn) (u:Str):List Str:=((ks.find? fun k=>decide (k.1=u)).map (·.2)).getD []
section
variable {us:List Str}{ks:Kn}
def rd (ks:Kn):Nat->Str->List Str
 | 0,u=>[u]
 | n+1,u=>u::(kdO ks u).flatMap (rd ks n)
def RD (ks:Kn) (u:Str):List Str:=rd ks 61 u
end
end L2
namespace L2
open PySem PySem.Spec PyProof.Rows
abbrev gN (C:Addr) (dd:Option Addr) (t:Addr):Obj:={ cls:=.ref C,dict:=dd,data:=.fields #[.ref t,.none,.none,.none,.bool false,.none] }
abbrev uI (us:List Value):Obj:={ cls:=.type "tuple",data:=.seq us.toArray }
def fQ (a C:Addr) (dd:Option Addr):HO:=.ext fun h=>∃t,h.get? a=some (gN C dd t)
section
variable {prog:Program}{w:World}{A:Around}{E:Value->Shared->Prop}{h:Heap}{g:Array GenState}{d:Drawn}{tk:Nat}{os:OsState}
variable {nm q:Str}{C N fI:Addr}{oI:Obj}{bs bm bmB bmN:List Value}{hdct:Bool}{sn:List Str}{sub:List Value}{ab:Bool}{col:Option Bool}{dd:Option Addr}{k0 k1 k2 k3 k5:Option Value}{B Bn newId nid initId inN:String}{mN:Str->Option Value}{us:List Value}
theorem qz {Q:Fin->Shared->Prop}(Fn:ExcBaseFacts Bn newId inN bmN) (hBn:bmB.contains (.type Bn)=true) (F:ExcBaseFacts B nid initId bmB) (T:OwnTail h bmB bm) (hC:h.get? C=some (excClassObj nm q C N bs bm hdct sn sub ab col dd k0 k1 k2 k3 k5 newId)) (hn:h.Ns N mN)
    (hi:mN "__init__"=some (.ref fI)) (gf:h.get? fI=some oI) (cf:oI.cls=.type "function") (lu:us.length<=sizeLine)
    (k:∀h' e,Heap.MadeExcOf h h' e (.ref C) us->wpAny (model prog w) A (call (.ref fI) (.ref e::us)) (fun r s'=>r=.none/\Q (.done (.ret (.ref e))) s') E ⟨h',g,d,tk,os⟩) :
    wpAny (model prog w) A (Builtin.«type.__call__» ⟨.ref C::us,[]⟩) Q E ⟨h,g,d,tk,os⟩:=by
 repeat (first | with_reducible refine wpAny_madeBy_exc hC ?_ | with_reducible refine wpAny_loadPart_at hC ?_ | wp_step)
 refine codeAny_call_builtin_code (Code.quiet_builtin _ Fn.quiet) (wpAny_check_new_subU Fn hBn T hC (codeAny_exc_new_subU Fn hBn F T hC ?_ lu))
 show wpAny _ _ _ _ _ _
 have up:∀b o,h.get? b=some o->((h.push (uI us)).push (gN C none h.objs.size)).get? b=some o:=fun b o z=>ah _ (ah _ z)
 have ge:((h.push (uI us)).push (gN C none h.objs.size)).get? (h.objs.size+1)=some (gN C none h.objs.size):=by heap_get
 have gC:=up _ _ hC
 have me:(Value.ref C::bm).contains (.ref C)=true:=by simp
 have hn2:((h.push (uI us)).push (gN C none h.objs.size)).Ns N mN:=hn.keeps up
 unfold isInstance
 repeat (first | with_reducible refine wpAny_loadPart_at ge ?_ | (with_reducible refine wpAny_isSubtype_exc gC ?_;rw[me]) | wp_step)
 show wpAny _ _ (typeLookup (.ref C) "__init__") _ _ _
 refine wpAny_typeLookup_tail gC hn2 (T.keeps up) F.mroIs F.init.lookup ?_
 rw[hi]
 refine aJ (aa ?_)
 unfold bindSpecial
 refine aa (wpAny_typeOf (T:="function") ⟨oI,up _ _ gf,cf⟩ ?_)
 rw[if_pos (by decide)]
 refine ae (aa (aO (k _ (h.objs.size+1) ⟨up,cw (bL _),h.objs.size,ge,cw (ad _),ah _ (Heap.get?_push_at rfl rfl)⟩) (fun r s' z=>?_) fun _ _ x=>x))
 obtain⟨rfl,z⟩:=z
 wp_walk
 exact z
theorem rK {Q:Value->Shared->Prop}(Fn:ExcBaseFacts Bn newId inN bmN) (hBn:bmB.contains (.type Bn)=true) (F:ExcBaseFacts B nid initId bmB) (T:OwnTail h bmB bm) (hC:h.get? C=some (excClassObj nm q C N bs bm hdct sn sub ab col dd k0 k1 k2 k3 k5 newId)) (hn:h.Ns N mN)
    (hi:mN "__init__"=some (.ref fI)) (gf:h.get? fI=some oI) (cf:oI.cls=.type "function") (lu:us.length<=sizeLine)
    (k:∀h' e,Heap.MadeExcOf h h' e (.ref C) us->wpAny (model prog w) (A.under (.builtin "type.__call__" ⟨.ref C::us,[]⟩)) (call (.ref fI) (.ref e::us)) (fun r s'=>r=.none/\Q (.ref e) s') E ⟨h',g,d,tk,os⟩) :
    wpAny (model prog w) A (call (.ref C) us) Q E ⟨h,g,d,tk,os⟩:=by
 have l1:=tc_lookup
 have l2:=tc_bind (.ref C)
 have ty:(⟨h,g,d,tk,os⟩:Shared).TypeIs (.ref C) "type":=⟨_,hC,rfl⟩
 refine wpAny_call (codeAny_of_tree ?_)
 show wpAny _ _ (callAny (.ref C) _) _ _ _
 repeat (any_goals (first | assumption | wp_step | with_reducible refine wpAny_loadPart_at hC ?_))
 refine⟨rfl,codeAny_call_builtin_at (Code.quiet_builtin _ (by decide +kernel)) entry_typeCall (wpAny_check_type_call_sub hC (qz Fn hBn F T hC hn hi gf cf lu fun h' e hm=>?_))⟩
 exact k h' e hm
end
section
variable {M:Model}{A:Around}{E:Value->Shared->Prop}{env:Env}{s:Shared}{bm:List Value}{C:Addr}
theorem qY {x:Sem Value}{Q:Flow->Shared->Prop}(hb:bm.contains (.type "BaseException")=true) (hh:A.handled=none)
    (h:wpAny M A x (fun v s1=>∃e t dq,v=.ref e/\XAt s1.heap C bm/\s1.heap.get? e=some (gN C dq t)/\E (.ref e) s1) E s):wpAny M A (raiseStmt env (some x) none) Q E s:=by
 have hc:(Value.ref C::bm).contains (.type "BaseException")=true:=by rw[List.contains_cons,hb,Bool.or_true]
 unfold raiseStmt
 refine aa (aO h (fun v s1 z=>?_) fun _ _ y=>y)
 obtain⟨e,t,dq,rfl,⟨nm,q,N,bs,hdct,sn,sub,ab,col,dd,k0,k1,k2,k3,k5,newId,gC⟩,ge,qE⟩:=z
 obtain⟨hp,g,dr,tk,os⟩:=s1
 repeat (first | (with_reducible refine wpAny_isSubtype_exc gC ?_;rw[hc]) | with_reducible refine wpAny_loadPart_at ge ?_ | with_reducible refine wpAny_loadPart_at gC ?_ | wp_step)
 exact wpAny_raiseNew_none hh qE
end
def bmV:List Value:=[.type "ValueError",.type "Exception",.type "BaseException",.type "object"]
def nV (l:List Value):Bool:=match l with
 | .ref _::.ref _::r=>r==bmV
 | _=>false
theorem pE (self:Value) {l:List Value}(e:nV l=true):refuseLoop self "__setattr__" l=pure ():=by
 unfold nV at e
 split at e
 ·rw[refuseLoop_ref,refuseLoop_ref,beq_iff_eq.mp e]
  exact PySem.F.store_ValueError.passes self
 ·cases e
structure XSet (K:W.Frag) (C:Addr) (f:Str):Prop where
 sa:W.findIn K (.ref C) "__setattr__"=some (some (.builtin "object.__setattr__"))
 po:(W.clsIn K C).any (fun cd=>nV cd.mro)=true
 na:W.findIn K (.ref C) f=some none
 hd:W.hasDictIn K C=true
 hm:W.mroIn K C (.type "object")=some true
section
open PySem.W Builtin Builtin.ObjectAttr
variable {prog:Program}{w:World}{A:Around}{E:Value->Shared->Prop}{s:Shared}{K:Frag}{x C t:Addr}{f:Str}{v:Value}
theorem zp {h:Heap}(hx:h.get? x=some (gN C none t)):InstAt h x (gN C none t) C none:=⟨hx,rfl,rfl,True.intro⟩
theorem setX {Q:Unit->Shared->Prop}(X:K.In s.heap) (Z:XSet K C f) (hx:s.heap.get? x=some (gN C none t))
    (k:∀h' d,s.heap.objs.size<=d->h'.get? x=some (gN C (some d) t)->h'.Ns1 d (fun y=>if y=f then some v else none)->(∀b o,b≠x->s.heap.get? b=some o->h'.get? b=some o)->Q () { s with heap:=h',toks:=s.toks+2 }) :
    wpAny (model prog w) A (setAttr (.ref x) f v) Q E s:=by
 have I:=zp hx
 obtain⟨cd,hc,ho⟩:=any_some Z.po
 obtain⟨cd',hc',hd'⟩:=any_some Z.hd
 cases af (hc'.symm.trans hc)
 refine set_plain X I Z.sa ?_
 have G:=PySem.F.store_object
 have io:Looks (model prog w) s.heap (isInstance (.ref x) (.type "object")) true:=I.type.andThen (looks_mroIn X Z.hm)
 have mr:Looks (model prog w) s.heap (mroOf (.ref C)) cd.mro:=(looks_clsIn X hc).andThen .now
 refine codeAny_call_builtin G.slot.plain G.entry (@check_slot (model prog w) _ _ { s with toks:=s.toks+1 } "object.__setattr__" "object" "__setattr__" (.ref x) [.str f s.toks,v] [] _ G.kind G.split io (G.args (.ref x) (.str f s.toks) v) ?_)
 rw[osa_eq,refuse_eq]
 refine aa (aa (Looks.here (s:={ s with toks:=s.toks+1 }) I.type (aa (Looks.here (s:={ s with toks:=s.toks+1 }) mr ?_))))
 rw[pE _ ho]
 refine ae (aa (Looks.here (s:={ s with toks:=s.toks+1 }) I.type (aa (Looks.here (s:={ s with toks:=s.toks+1 }) (looks_findIn X Z.na) (aa (ae ?_))))))
 have nx:x≠s.heap.objs.size:=ak (ag hx)
 refine aa (ae (aa (aa (wpAny_loadPart hx (aa (Looks.here (s:={ s with toks:=s.toks+1 }) (looks_clsIn X hc) ?_))))))
 rw[hd']
 show wpAny _ _ (alloc { cls:=Value.type "dict",data:=Data.dict #[] } >>= _) _ _ _
 have x1:=ah (h:=s.heap) { cls:=.type "dict",data:=.dict #[] } hx
 refine aa (wpAny_alloc' (aa (wpAny_update' x1 (ae ?_))))
 generalize eg:(s.heap.push { cls:=.type "dict",data:=.dict #[] }).update x (fun o=>{ cls:=o.cls,dict:=some s.heap.objs.size,data:=o.data,slots:=o.slots })=g1
 have d1:g1.get? s.heap.objs.size=some { cls:=.type "dict",data:=.dict #[] }:=by
  rw[<- eg];exact(Heap.get?_update_ne _ _ _ _ (Ne.symm nx)).trans (Heap.get?_push_at rfl rfl)
 have e1:g1.get? x=some (gN C (some s.heap.objs.size) t):=by rw[<- eg];exact ck _ x1 rfl
 have o1:∀b o,b≠x->s.heap.get? b=some o->g1.get? b=some o:=fun b o nb z=>by
  rw[<- eg];exact(Heap.get?_update_ne _ _ _ _ nb).trans (ah _ z)
 have n1:g1.Ns s.heap.objs.size (fun _=>none):=⟨_,#[],_,d1,rfl,(fun e he=>absurd he (by simp)),fun _=>rfl⟩
 show wpAny _ _ (storeInDict s.heap.objs.size (.str f s.toks) f v) _ _ _
 unfold storeInDict newKeyGuard
 refine aa (ae (aa (wpAny_nsSet1 (Heap.Ns1.of_empty n1) fun h' n2 sb=>?_)))
 obtain⟨oD,esD,epD,gD,dD,cD⟩:=n2.count (Within.cons f v Within.nil)
 refine aa (wpAny_lookBehind gD (by rw[dD];exact pastItsLine_dict (aX cD (by rw[aN,List.length_nil,sizeLine_eq];omega))) ?_)
 refine ae ?_
 exact k h' s.heap.objs.size (ad _) ((sb.2 x nx).trans e1) n2 fun b o nb z=>(sb.2 b (ak (ag z))).trans (o1 b o nb z)
end
section
variable {X:Cx}{pins:List (Addr × Obj)}{σ:St}{H:Hp}{s:Shared}{A:Around}{E:Value->Shared->Prop}{a C:Addr}{f:Str}
theorem pY {dd:Option Addr}(I:Inv X pins σ H s) (h:H a=some (fQ a C dd)):∃t,s.heap.get? a=some (gN C dd t):=(show ObjOk X.prog X.w H s.heap a (fQ a C dd) from I.hok a _ h).1
theorem qi {P:Program}{w:World}{dd:Option Addr}{h:Heap}{t:Addr}(e:h.get? a=some (gN C dd t)):ObjOk P w H h a (fQ a C dd) :=
 ⟨⟨t,e⟩,⟨_,e⟩,fun _ _ ⟨u,q⟩ z=>⟨u,z _ q⟩⟩
theorem wZ {y:V}{u:Value}{Q:Unit -> Shared -> Prop}(I:Inv X pins σ H s) (e:H a=some (fQ a C none)) (Z:XSet X.K C f) (ry:RelV y u)
    (k:∀d s',H d=none->d≠a->Inv X pins σ (upd (upd H d (.xd [(f,y)])) a (fQ a C (some d))) s'->Q () s'):wpAny (model X.prog X.w) A (setAttr (.ref a) f u) Q E s:=by
 obtain⟨t,ge⟩:=pY I e
 refine setX I.kIn Z ge fun h' d sd g1 g2 g3=>?_
 have nd:H d=none:=I.hok.fresh sd
 have da:d≠a:=fun z=>by rw[z,e] at nd;cases nd
 have gd:s.heap.get? d=none:=cw sd
 refine k d _ nd da ?_
 have ne:∀ {b:Addr} {v:HO},H b=some v->b≠d:=fun z1 z2=>by rw[z2,nd] at z1;cases z1
 have na:∀ {b:Addr},H b=none->b≠a:=fun z1 z2=>by rw[z2,e] at z1;cases z1
 have same:∀b,b≠a->b≠d->upd (upd H d (.xd [(f,y)])) a (fQ a C (some d)) b=H b:=fun b z1 z2=>by rw[cH z1,cH z2]
 have keepK:∀(b:Addr) (v:HO),H b=some v->v≠fQ a C none->upd (upd H d (.xd [(f,y)])) a (fQ a C (some d)) b=some v:=fun b v z1 z2=>by
  rw[same b (fun z=>by rw[z,e] at z1;exact z2 (af z1).symm) (ne z1)];exact z1
 refine Inv.step (g':=s.gens) (d':=s.drawn) (t':=s.toks+2) (ch:=[]) I (fun b hb=>by cases hb) (fun b o _ _ _ z n=>g3 b o (na n) z) (fun b o _ _ _ z n=>⟨o.slots,g3 b o (na n) z⟩) (fun b o _ z n=>?_) (fun b o _ z=>?_)
  (fun b xs z=>keepK b _ z (by intro q;cases q)) (fun b o v z=>keepK b _ z (by intro q;cases q)) (fun b ps z=>⟨#[],by rw[Array.append_empty];exact keepK b _ z (by intro q;cases q)⟩) (fun m hn=>?_) (fun b v z=>?_) I.bare
 ·rw[same b (na n) fun q=>by rw[q,gd] at z;cases z];exact n
 ·by_cases hb:b=a
  ·exact⟨_,hb ▸ g1⟩
  ·exact⟨o,g3 b o hb z⟩
 ·obtain⟨o,es,ep,ho,r⟩:=hn
  exact⟨o,es,ep,g3 _ o (na I.free) ho,r⟩
 ·by_cases hb:b=a
  ·subst hb
   rw[cF] at z;cases z
   exact qi g1
  ·by_cases hd:b=d
   ·subst hd
    rw[cH hb,cF] at z;cases z
    refine⟨_,g2,fun y'=>?_⟩
    show RelO (List.lookup y' [(f,y)]) (if y'=f then some u else none)
    by_cases q:y'=f
    ·subst q
     simp only[List.lookup,beq_self_eq_true,if_pos]
     exact ry
    ·have:(y'==f)=false:=beq_eq_false_iff_ne.mpr q
     simp only[List.lookup,this,if_neg q]
     exact True.intro
   ·rw[same b hb hd] at z
    refine(I.hok b v z).stay (fun c w hc q=>g3 c w ?_ q) (fun c q=>keepK c _ q (by intro q;cases q)) fun c xs q=>keepK c _ q (by intro q;cases q)
    rintro rfl
    rcases hc with r | r
    ·exact hb r.symm
    ·rw[e] at r;cases r
def zA (K:W.Frag) (ta tv:TE) (f:Str):TS:=fun D σ H=>tv σ H fun y H1=>ta σ H1 fun x H2=>∃a C,x=.ref a/\H2 a=some (fQ a C none)/\XSet K C f/\∀d,H2 d=none->d≠a->D.nx σ (upd (upd H2 d (.xd [(f,y)])) a (fQ a C (some d)))
theorem xt {o value:Expr}{pos pos':Pos}{ta tv:TE}(ha:PE X o ta) (hv:PE X value tv) (hs:swapsWith value (some (.Attribute o f pos')) pos.line X.env=pure false):PS X (.Assign [.Attribute o f pos'] value pos) (zA X.K ta tv f):=by
 intro pins s σ H D I h
 refine plainObj_wpAny_Assign_Attribute (thn (hv pins s σ H _ I h) fun u s1 ⟨y,H1,I1,ry,q⟩=>thn (ha pins s1 σ H1 _ I1 q) fun ov s2 ⟨x,H2,I2,rx,a,C,ex,ea,Z,q2⟩=>?_) hs
 subst ex
 obtain rfl:ov=Value.ref a:=rx
 exact wZ I2 ea Z ry fun d s3 hd hda I3=>⟨σ,_,I3,q2 d hd hda⟩
end
theorem xx {K:W.Frag}{h:Heap}{N:Addr}{mN:Str -> Option Value}{n:Str}{v:Value}(X:K.In h) (G:h.Ns N mN) (e:W.nsIn K N n=some (some v)):mN n=some v := by
 obtain⟨o,es,ep,go,de,_,fe⟩:=G
 unfold W.nsIn at e
 split at e
 ·rename_i q
  have z:=X _ _ q
  rw[go] at z
  cases z
  cases de
  split at e
  ·rename_i en he
   cases e
   rw[<- fe]
   unfold nsFind findBy
   rw[<- Array.find?_toList,he];rfl
  ·split at e <;> cases e
 ·cases e
structure OwnI (x:Str) (C fI:Addr) (mg:Str->Option Value) (h:Heap):Prop where
 bound:mg x=some (.ref C)
 obj:∃tl N nm q bs hdct sn sub ab col dd k0 k1 k2 k3 k5 mN oI,h.get? C=some (excClassObj nm q C N bs tl hdct sn sub ab col dd k0 k1 k2 k3 k5 "ValueError.__new__")/\h.Ns N mN/\mN "__init__"=some (.ref fI)/\OwnTail h bmV tl/\h.get? fI=some oI/\oI.cls=.type "function"
def del (H:Hp) (e:Addr):Hp:=fun b=>if b=e then none else H b
theorem vc {H:Hp}{e:Addr}:del H e e=none:=by unfold del;rw[if_pos rfl]
theorem md {H:Hp}{e b:Addr}(h:b≠e):del H e b=H b:=by unfold del;rw[if_neg h]
theorem Inv.del {X:Cx}{pins:List (Addr × Obj)}{σ:St}{H:Hp}{s:Shared}{e C:Addr}{dd:Option Addr}(I:Inv X pins σ H s) (he:H e=some (fQ e C dd)):Inv X pins σ (del H e) s := by
 have kp:∀(b:Addr) (v:HO),H b=some v->v≠fQ e C dd->L2.del H e b=some v:=fun b v z n=>by
  rw[md fun q=>by rw[q,he] at z;exact n (af z).symm];exact z
 have fr:∀b,H b=none->L2.del H e b=none:=fun b z=>by
  unfold L2.del;split
  ·rfl
  ·exact z
 refine⟨I.ok,I.os,I.bare,⟨I.base.keep,I.base.slot,fun b o z n hx=>fr b (I.base.free b o z n hx),I.base.there,fun b xs z=>kp b _ (I.base.tups b xs z) (by intro q;cases q),fun b o u z=>kp b _ (I.base.frzs b o u z) (by intro q;cases q),fun b ps z=>?_⟩,I.loc,I.cell,fr _ I.free,fun x c z=>fr _ (I.freeC x c z),fun p hp=>?_,fun b v z=>?_,I.len⟩
 ·obtain⟨more,q⟩:=I.base.tbls b ps z
  exact⟨more,kp b _ q (by intro q;cases q)⟩
 ·obtain⟨g1,g2,g3⟩:=I.pin p hp
  exact⟨g1,fr _ g2,g3⟩
 ·have hb:H b=some v:=by
     unfold L2.del at z;split at z
     ·cases z
     ·exact z
  exact(I.hok b v hb).stay (fun _ _ _ q=>q) (fun c q=>kp c _ q (by intro q;cases q)) fun c xs q=>kp c _ q (by intro q;cases q)
def pZ (E:XK) (C:Addr) (sp:Sp) (ta:TA):TS:=fun _ σ H=>ta σ H fun vs H1=>vs.length<=sizeLine/\∀e,H1 e=none->sp (.ref e::vs) (upd H1 e (fQ e C none)) (fun v H2=>v=.non/\∃dd,H2 e=some (fQ e C dd)/\E (.ref C) dd (del H2 e)) E0
theorem rP {P:Program}{w:World}{K:W.Frag}{mg:Str -> Option Value}{base:Heap}{N:List Str}{qual:Str}{scope:Scope}{f:Addr}{cd:Value}{A:Around}{outer:List Env}{s:Shared}{H:Hp}{E:XK}
    {x:Str} {C fI:Addr} {fd:FuncData} {ps:List Str} {sp:Sp} {k:Nat} {np cpos pos:Pos} {e₀:Expr} {dH:List Expr} {ta:TA} (O:OwnI x C fI mg base) (kp:W.keepIn K (.ref C)=true)
    (F:FnOk P w K mg base CX0 k fI fd ps sp) (hb:Binds K fd ps []) (hr:Room (k+1) (dE (CX1 P w) P w K mg base N qual scope f cd A outer s H E).A)
    (hg:Gl (dE (CX1 P w) P w K mg base N qual scope f cd A outer s H E) x) (ha:PA (dE (CX1 P w) P w K mg base N qual scope f cd A outer s H E) (e₀::dH) ta)
    (he:starEach (e₀::dH) (dE (CX1 P w) P w K mg base N qual scope f cd A outer s H E).env=(false,eval e₀ (dE (CX1 P w) P w K mg base N qual scope f cd A outer s H E).env)::starEach dH (dE (CX1 P w) P w K mg base N qual scope f cd A outer s H E).env:=by rfl)
    (hpl:(backTo cpos (starEach dH (dE (CX1 P w) P w K mg base N qual scope f cd A outer s H E).env)).any (·.1)=false:=by rfl) (hdb:(x==("__debug__":Str))=false:=by decide) :
    PS (dE (CX1 P w) P w K mg base N qual scope f cd A outer s H E) (.Raise (some (.Call (.Name x np) (e₀::dH) [] cpos)) none pos) (pZ E C sp ta):=by
 intro pins s1 σ H1 D I h
 obtain⟨tl,Nn,nm,q,bs,hdct,sn,sub,ab,col,dd,k0,k1,k2,k3,k5,mN,oI,hC,hN,hi,T,gf,cf⟩:=O.obj
 rw[arm_exec_Raise]
 refine aa (wpAny_standAt (qY (C:=C) (bm:=tl) (T.hasType PySem.F.excBase_ValueError.hasBase) (I.ok.hd rfl) ?_))
 show wpAny _ _ (do let v ← eval (.Call (.Name x np) (e₀::dH) [] cpos) _;standAt pos;pure v) _ _ _
 refine aa (thn (Q:=fun v s3=>∃e t dq,v=.ref e/\XAt s3.heap C tl/\s3.heap.get? e=some (gN C dq t)/\(dE (CX1 P w) P w K mg base N qual scope f cd A outer s H E).xe (.ref e) s3) ?_ fun v s3 z=>aa (wpAny_standAt (ae z)))
 refine bF (iz I hg O.bound ?_ hdb)
 refine W.callWith_K (h₀:=base) I.ok.mod.kin kp (thn (ha cpos pins s1 σ H1 _ I h) fun us s2 ⟨vs,H2,I2,r,hl,q2⟩=>⟨I2.kIn,?_⟩) he hpl
 have bk:=I2.bk
 obtain⟨hh,g,d,tk,os⟩:=s2
 refine rK PySem.F.excBase_ValueError (by decide) PySem.F.excBase_ValueError (T.keeps bk) (bk _ _ hC) (hN.keeps bk) hi (bk _ _ gf) cf (by rw[List.nil_append,<- r.length];exact hl) fun h' e hm=>?_
 rw[List.nil_append] at hm ⊢
 obtain⟨t,ge,_,_⟩:=hm.there
 have ne:H2 e=none:=by
  cases z:H2 e with
  | none=>rfl
  | some u =>
   obtain⟨o,ho⟩:=ObjOk.obj (I2.hok e u z)
   rw[hm.new] at ho;cases ho
 have n0:s.heap.get? e=none:=by
  cases z:s.heap.get? e with
  | none=>rfl
  | some o =>
   obtain⟨o',e'⟩:=I2.base.there e o z (by intro y;cases y)
   rw[hm.new] at e';cases e'
 have I3:Inv (dE (CX1 P w) P w K mg base N qual scope f cd A outer s H E) pins σ (upd H2 e (fQ e C none)) ⟨h',g,d,tk,os⟩ :=
  Inv.track I2 (I2.kept (t':=tk) hm.keeps) hm.new ne (qi ge)
 have hs:=q2 e ne
 have r2:Vals (V.ref e::vs) (Value.ref e::us):=.cons rfl r
 have hlen:(Value.ref e::us++[]).length=ps.length:=by rw[bE,<- r2.length];exact F.len _ _ _ _ hs
 refine wpAny_call (codeAny_mono (F.run _ _ _ _ ⟨Value.ref e::us,[]⟩ (Value.ref e::us++[]) (V.ref e::vs) _ _ (hr.make C us []) (I3.env0.make C us []) (hb _ (Value.ref e::us) I3.kIn hlen) (by rw[bE];exact r2) hs) fun r s' hq=>?_)
 cases r with
 | error ev=>exact False.elim hq
 | ok fl =>
  cases fl with
  | ret u =>
   obtain⟨v,H4,I4,rv,rfl,dq,e4,qE⟩:=I3.after hq
   obtain⟨t4,g4⟩:=pY I4 e4
   refine⟨rv,e,t4,dq,rfl,⟨nm,q,Nn,bs,hdct,sn,sub,ab,col,dd,k0,k1,k2,k3,k5,_,I4.bk _ _ hC⟩,g4,?_⟩
   exact uu (I4.del e4) vc g4 rfl rfl n0 qE
  | next=>exact False.elim hq
  | brk=>exact False.elim hq
  | cont=>exact False.elim hq
structure XGet (K:W.Frag) (C:Addr) (f:Str):Prop where
 na:W.findIn K (.ref C) f=some none
 hd:W.hasDictIn K C=true
section
open PySem.W PySem.Calls Builtin Builtin.ObjectAttr
variable {K:Frag}{x C:Addr}{h:Heap}{M:Model}{prog:Program}{w:World}{A:Around}{E:Value->Shared->Prop}{s:Shared}{ox od:Obj}{f:Str}{u:Value}
theorem zo {tk:Tok}{R:Result->Shared->Prop}(Z:XFacts K C) (X:K.In s.heap) (I:InstAt s.heap x ox C (some od)) (hf:findObj K C (some od) f=some (.value u)) (h:R (.ok (.ret u)) s) :
    codeAny (model prog w) A (.call (.builtin "BaseException.__getattribute__") ⟨[.ref x,.str f tk],[]⟩) R s:=by
 have q1:=I.type (M:=model prog w)
 have q2:=looks_mroIn (M:=model prog w) X Z.hb
 have q3:=looks_find (M:=model prog w) X I hf
 have hk:builtinKind "BaseException.__getattribute__"=some .slot:=by decide +kernel
 have hs:splitId "BaseException.__getattribute__"=some ("BaseException","__getattribute__"):=by decide +kernel
 have ha:=PySem.F.args_bexc_ga (.ref x) (.str f tk)
 obtain⟨hh,g,dr,t,os⟩:=s
 refine codeAny_call_builtin PySem.F.attr_ValueError.ga.plain PySem.F.entry_bexc_ga ?_
 simp only[checkBuiltinCall,hk,hs]
 refine aa ?_
 unfold isInstance
 repeat lk
 exact h
theorem yK {b:Bool}{Q:Value->Shared->Prop}(Z:XFacts K C) (X:K.In s.heap) (I:InstAt s.heap x ox C (some od)) (hf:findObj K C (some od) f=some (.value u)) (hu:handedIn u=true) (h:Q u { s with toks:=s.toks+1 }) :
    wpAny (model prog w) A (getAttr (.ref x) f b) Q E s:=by
 have q1:=I.type (M:=model prog w)
 have q2:=looks_findIn (M:=model prog w) X Z.ga
 have q4:=looks_findIn (M:=model prog w) X Z.gb
 have f3:=PySem.F.attr_ValueError.ga.bind (.ref x)
 obtain⟨hh,g,dr,t,os⟩:=s
 simp only[getAttr,getAttrBy]
 refine aa (wpAny_mkText (aJ (aa (q1.at (aa (q2.at ?_))))))
 show wpAny _ _ (getAttrByItsOwn _ _ _ _ _ _) _ _ _
 refine aa ?_
 show wpAny _ _ (typeLookup (.ref C) "__getattr__") _ _ _
 refine q4.at (aa (wpAny_attempt (aJ ?_)))
 unfold callGetattribute
 rw[if_neg (by cases b <;> decide)]
 unfold boundAndCalled
 rw[f3]
 refine aa (ae ?_)
 show wpAny _ _ (call (.builtin "BaseException.__getattribute__") [.ref x,.str f t]) _ _ _
 refine wpAny_call (zo Z X I hf ?_)
 show wpAny _ _ (handedOut u) _ _ _
 exact handed_on hu (by exact h)
end
section
variable {X:Cx}{e:Expr}{f:Str}{pos:Pos}{ta:TE}
def zL (K:W.Frag) (ta:TE) (f:Str):TE:=fun σ H Q=>ta σ H fun x H1=>∃a C d fs v,x=.ref a/\H1 a=some (gu a C (some d))/\H1 d=some (.xd fs)/\fs.lookup f=some v/\XFacts K C/\XGet K C f/\Q v H1
theorem xo (he:PE X e ta) (hb:attributeBase e f X.env (eval e X.env)=eval e X.env):PE X (.Attribute e f pos) (zL X.K ta f):=by
 intro pins s σ H Q I h
 refine xm hb (thn (he pins s σ H _ I h) fun u s1 ⟨x,H1,I1,rx,a,C,d,fs,v,ex,ea,ed,l,Z,G,q⟩=>?_)
 subst ex
 obtain rfl:u=Value.ref a:=rx
 obtain⟨o,go,oc,dd,nc⟩:=(show ObjOk X.prog X.w H1 s1.heap a (gu a C (some d)) from I1.hok a _ ea).1
 obtain⟨mA,ns,r⟩:=(show ObjOk X.prog X.w H1 s1.heap d (.xd fs) from I1.hok d _ ed)
 obtain⟨od,gd,lk⟩:=nE ns
 obtain⟨u',hu,ru⟩:=RelO.some_of (v:=v) (o:=mA f) (by rw[<- l];exact r f)
 have J:W.InstAt s1.heap a o C (some od):=⟨go,oc,nc,by rw[dd];exact gd⟩
 exact yK Z I1.kIn J (W.findObj_own G.hd G.na rfl (by rw[lk,hu])) (uj ru) ⟨v,H1,I1.tok _,ru,q⟩
end
def zJ (s:Stmt) (i:Nat):Stmt:=match s with
 | .ClassDef _ _ _ b _ _ _ _ _ _ _=>b.getD i (.Pass ⟨0,0,0,0⟩)
 | s=>s
section
variable {P:Program}{w:World}{K:W.Frag}{mg:Str->Option Value}{base:Heap}
variable {x:Str}{C N fI:Addr}{bm bs:List Value}{nm q:Str}{hdct:Bool}{sn:List Str}{sub:List Value}{ab:Bool}{col:Option Bool}{dd:Option Addr}{k0 k1 k2 k3 k5:Option Value}{h:Heap}
theorem xQ {od:Option Addr}{dt:Data}{sl:Array (Option Value)}(X:K.In h) (bound:mg x=some (.ref C)) (lk:K.lookup C=some (excClassObj nm q C N bs bm hdct sn sub ab col dd k0 k1 k2 k3 k5 "ValueError.__new__")) (ok:W.nsOkIn K N=true)
    (ni:W.nsIn K N "__init__"=some (some (.ref fI))) (tl:W.tailIn K bmV bm=true) (lf:K.lookup fI=some ⟨.type "function",od,dt,sl⟩):OwnI x C fI mg h :=
 ⟨bound,bm,N,nm,q,bs,hdct,sn,sub,ab,col,dd,k0,k1,k2,k3,k5,_,_,X _ _ lk,.of_isNs (W.isNs_of_in X ok),xx X (.of_isNs (W.isNs_of_in X ok)) ni,W.tail_of_in X tl,X _ _ lf,rfl⟩
structure MkI (P:Program) (w:World) (K:W.Frag) (mg:Str->Option Value) (base:Heap) (k:Nat) (x:Str) (C:Addr) (ps:List Str) (sp:Sp):Prop where
 ex:∃(fI:Addr) (fd:FuncData),OwnI x C fI mg base/\W.keepIn K (.ref C)=true/\FnOk P w K mg base CX0 k fI fd ps sp/\Binds K fd ps []
theorem tE {NN:List Str}{qual:Str}{scope:Scope}{f:Addr}{cd:Value}{A:Around}{outer:List Env}{s:Shared}{H:Hp}{E:XK}{ps:List Str}{sp:Sp}{k:Nat}{np cpos pos:Pos}{e₀:Expr}{dH:List Expr}{ta:TA}
    (m:MkI P w K mg base k x C ps sp) (hr:Room (k+1) (dE (CX1 P w) P w K mg base NN qual scope f cd A outer s H E).A)
    (hg:Gl (dE (CX1 P w) P w K mg base NN qual scope f cd A outer s H E) x) (ha:PA (dE (CX1 P w) P w K mg base NN qual scope f cd A outer s H E) (e₀::dH) ta)
    (he:starEach (e₀::dH) (dE (CX1 P w) P w K mg base NN qual scope f cd A outer s H E).env=(false,eval e₀ (dE (CX1 P w) P w K mg base NN qual scope f cd A outer s H E).env)::starEach dH (dE (CX1 P w) P w K mg base NN qual scope f cd A outer s H E).env:=by rfl)
    (hpl:(backTo cpos (starEach dH (dE (CX1 P w) P w K mg base NN qual scope f cd A outer s H E).env)).any (·.1)=false:=by rfl) (hdb:(x==("__debug__":Str))=false:=by decide) :
    PS (dE (CX1 P w) P w K mg base NN qual scope f cd A outer s H E) (.Raise (some (.Call (.Name x np) (e₀::dH) [] cpos)) none pos) (pZ E C sp ta):=by
 obtain⟨fI,fd,O,kp,F,b⟩:=m.ex
 exact rP O kp F b hr hg ha he hpl hdb
def kD (K:W.Frag) (fl:Str):Sp:=fun vs H Q _=>∃(e C l:Addr) (xs:List V),vs=[.ref e,.ref l]/\H e=some (fQ e C none)/\H l=some (.lst xs)/\XSet K C fl /\
 ∀r d,H r=none->H d=none->r≠d->Q .non (upd (upd (upd H r (.lst xs)) d (.xd [(fl,.ref r)])) e (fQ e C (some d)))
theorem pB {E:XK}{C l e:Addr}{fl:Str}{xs:List V}{H1:Hp}(hl:H1 l=some (.lst xs)) (Z:XSet K C fl) (he:H1 e=none) (k:∀r d H',Same H1 H'->H1 r=none->H1 d=none->H' r=some (.lst xs)->H' d=some (.xd [(fl,.ref r)])->E (.ref C) (some d) H') :
    kD K fl [.ref e,.ref l] (upd H1 e (fQ e C none)) (fun v H2=>v=.non/\∃dd,H2 e=some (fQ e C dd)/\E (.ref C) dd (del H2 e)) E0:=by
 have hle:l≠e:=cL hl he
 refine⟨e,C,l,xs,rfl,cF,by rw[cH hle];exact hl,Z,fun r d hr hd hrd=>⟨rfl,some d,cF,?_⟩⟩
 have hre:r≠e:=fun z=>by rw[z,cF] at hr;cases hr
 have hde:d≠e:=fun z=>by rw[z,cF] at hd;cases hd
 rw[cH hre] at hr
 rw[cH hde] at hd
 refine k r d _ (fun b o hb=>?_) hr hd ?_ ?_
 ·have n1:b≠e:=cL hb he
  rw[md n1,cH n1,cH (cL hb hd),cH (cL hb hr),cH n1];exact hb
 ·rw[md hre,cH hre,cH hrd,cF]
 ·rw[md hde,cH hde,cF]
end
def Cx.catch (X:Cx) (pins:List (Addr × Obj)) (σ:St) (E:XK):Cx:={ X with pn:=X.pn++pins,xe:=fun ev s'=>∃H1 s1,Inv X pins σ H1 s1/\CX1 X.prog X.w X.stack H1 s1 E ev s' }
section
variable {X:Cx}{pins pins':List (Addr × Obj)}{σ σ0:St}{H:Hp}{s:Shared}{E:XK}
theorem Cx.Ok.catch (ok:X.Ok):(X.catch pins σ0 E).Ok :=
 ⟨ok.mod,ok.kind,ok.glob,ok.blt,ok.above,ok.inj,ok.has,ok.cab,ok.hd,ok.frames,ok.stk,ok.exf,ok.bs,ok.bsz,ok.noex,ok.exfs,ok.funs,ok.frf⟩
theorem Inv.catch (I:Inv X pins σ H s):Inv (X.catch pins σ0 E) [] σ H s :=
 ⟨I.ok.catch,I.os,I.bare,I.base,I.loc,I.cell,I.free,I.freeC,fun p hp=>I.pin p (by rw[bE] at hp;exact hp),I.hok,I.len⟩
theorem Inv.ofCatch (ok:X.Ok) (I:Inv (X.catch pins σ0 E) pins' σ H s):Inv X pins σ H s :=
 ⟨ok,I.os,I.bare,I.base,I.loc,I.cell,I.free,I.freeC,fun p hp=>I.pin p (ci _ hp),I.hok,I.len⟩
theorem Inv.okC (I:Inv (X.catch pins σ0 E) pins' σ H s):X.Ok :=
 ⟨I.ok.mod,I.ok.kind,I.ok.glob,I.ok.blt,I.ok.above,I.ok.inj,I.ok.has,I.ok.cab,I.ok.hd,I.ok.frames,I.ok.stk,I.ok.exf,I.ok.bs,I.ok.bsz,I.ok.noex,I.ok.exfs,I.ok.funs,I.ok.frf⟩
def yB (σ0:St) (sp:Sp) (E:XK) (t:TA):TE:=fun σ H Q=>t σ H fun vs H1=>σ=σ0/\sp vs H1 Q E
theorem kj {x:Str}{ps:List Str}{sp:Sp}{k:Nat}{p pos:Pos}{e:Expr}{es:List Expr}{t:TA}(c:CalX X.prog X.w X.K X.mg X.base k x ps sp) (hr:Room k X.A) (hg:Gl X x) (ha:PA (X.catch pins σ0 E) (e::es) t)
    (he:starEach (e::es) X.env=(false,eval e X.env)::starEach es X.env:=by rfl) (hpl:(backTo pos (starEach es X.env)).any (·.1)=false:=by rfl) (hdb:(x==("__debug__":Str))=false:=by decide) :
    PE (X.catch pins σ0 E) (.Call (.Name x p) (e::es) [] pos) (yB σ0 sp E t):=by
 intro pins' s σ H Q I h
 obtain⟨f,fd,F,mf,kp,b⟩:=c.ex
 refine bF (iz (X:=X.catch pins σ0 E) I hg mf ?_ hdb)
 refine W.callWith_K (h₀:=X.base) I.ok.mod.kin kp (thn (ha pos pins' s σ H _ I h) fun us s1 ⟨vs,H1,I1,r,hσ,q⟩=>⟨I1.kIn,?_⟩) he hpl
 subst hσ
 have hl:(us++[]).length=ps.length:=by rw[bE,<- r.length];exact F.len _ _ _ _ q
 refine wpAny_call (codeAny_mono (F.run X.A X.stack s1 H1 ⟨us,[]⟩ (us++[]) vs Q E hr I1.env0 (b s1 us I1.kIn hl) (by rw[bE];exact r) q) fun r s' hq=>?_)
 cases r with
 | error ev=>exact⟨H1,s1,I1.ofCatch I.okC,hq⟩
 | ok fl =>
  cases fl with
  | ret u=>exact I1.after hq
  | next=>exact False.elim hq
  | brk=>exact False.elim hq
  | cont=>exact False.elim hq
def zt (base:Heap) (Dc:Addr) (i:Nat) (th:TS) (D:Ends) (σ:St):XK:=fun cls dd H2=>∃C bm,cls=.ref C/\XAt base C bm/\(Value.ref C::bm).contains (.ref Dc)=true/\∀a,H2 a=none ->
    th { nx:=fun σ' H'=>D.nx (σ'.set i none) H',rt:=D.rt,bk:=fun σ' H'=>D.bk (σ'.set i none) H',ct:=fun σ' H'=>D.ct (σ'.set i none) H' } (σ.set i (some (.ref a))) (upd H2 a (gu a C dd))
def zw (base:Heap) (tb:St->XK->TS) (Dc:Addr) (i:Nat) (th:TS):TS:=fun D σ H=>tb σ (zt base Dc i th D σ) D σ H
theorem wM {Dc:Addr}{bmD:List Value}{Dn n:Str}{i:Nat}{q hpos tpos:Pos}{body:List Stmt}{tb:St -> XK -> TS}{b₀:Stmt}{suite:List Stmt}{th:TS}
    (hb:∀pins σ E,PSs (X.catch pins σ E) body (tb σ E)) (hst:X.stack=X.env::X.outer) (hfr:X.env.frame=some X.env.locals) (hgD:Gl X Dn) (hmD:X.mg Dn=some (.ref Dc)) (hD:XAt X.base Dc bmD) (hDb:bmD.contains (.type "BaseException")=true)
    (hN:X.N.Nodup) (hi:X.N[i]? = some n) (hl:X.env.scope.names.lookup n=some .local) (hs:∀a xe,PSs (X.mark (.ref a) xe) (b₀::suite) th) (hdD:(Dn==("__debug__":Str))=false:=by decide) :
    PS X (.Try body [.ExceptHandler (some (.Name Dn q)) (some n) (b₀::suite) hpos] [] [] tpos) (zw X.base tb Dc i th):=by
 intro pins s σ H D I h
 refine wpAny_Try_except (aO (hb pins σ _ [] s σ H D I.catch h) (fun fl s' hq=>?_) fun ev s' hq=>?_)
 ·have ok:=I.ok
  cases fl with
  | next =>
   obtain⟨σ',H',I',q'⟩:=hq
   exact wpAny_execs_nil ⟨σ',H',I'.ofCatch ok,q'⟩
  | brk =>
   obtain⟨σ',H',I',q'⟩:=hq
   exact⟨σ',H',I'.ofCatch ok,q'⟩
  | cont =>
   obtain⟨σ',H',I',q'⟩:=hq
   exact⟨σ',H',I'.ofCatch ok,q'⟩
  | ret u =>
   obtain⟨v,σ',H',I',r',q'⟩:=hq
   exact⟨v,σ',H',I'.ofCatch ok,r',q'⟩
 ·obtain⟨H1, s1, I1, a, cls, dq, B, H', rfl, os, bare, un, hok, fl, hna, TB, KB, AB, C, bm, rfl, hC, hin, hq2⟩ := hq
  have fl':XF B (X.env::X.outer) a (.ref C) dq .none s'.heap:=hst ▸ fl
  have ne1:s1.heap.get? a=none := by
   cases z:s1.heap.get? a with
   | none=>rfl
   | some ob =>
    by_cases hb:a∈frs X.stack
    ·obtain⟨_,o1,g1,g2⟩:=fl.2.2.1.mem hb
     obtain⟨oe,vs',he',hd'⟩:=fl.rec
     rw[g1] at he';cases he'
     exact absurd hd' (g2 vs')
    ·obtain⟨o',e'⟩:=AB a ob z hb
     have:=fl.2.1
     rw[e'] at this;cases this
  have hfrm:X.A.frames=some (X.env::X.outer):=hst ▸ I.ok.frames
  refine wn hfrm hfr fl' fun h4 f4 sm4=>?_
  refine nY (s:={ s' with heap:=h4 }) f4 fun h5 f5 sm5=>?_
  have I5:Inv X pins σ H' { s' with heap:=h5 }:=qh I1 hst hfr os bare un hok (hst ▸ f5) (sm4.trans sm5) TB KB AB
  refine wpAny_handleBy_cons (codeAny_handlers_test (iz (X:=X.mark (.ref a) (fun _ _=>False)) I5.mark hgD hmD ?_ hdD)) (by intro z;cases z)
  obtain⟨oe,ge,gc,_⟩:=f5.there
  obtain⟨nm,qq,NN,bs,hdct,sn,sub,ab,col,dd,k0,k1,k2,k3,k5,newId,gC⟩:=hC
  obtain⟨nm',qq',NN',bs',hdct',sn',sub',ab',col',dd',j0,j1,j2,j3,j5,newId',gD⟩:=hD
  refine pk (I5.bk _ _ gC) ge gc (I5.bk _ _ gD) hDb hin (codeAny_handlers_suite_as (nY (s:={ s' with heap:=h5 }) f5 fun h6 f6 sm6=>?_))
  have I6:Inv X pins σ H' { s' with heap:=h6 }:=qh I1 hst hfr os bare un hok (hst ▸ f6) ((sm4.trans sm5).trans sm6) TB KB AB
  obtain⟨o6,g6,c6,d6⟩:=f6.there
  have n6:W.notCls o6=true:=by
   obtain⟨o7,vs7,g7,k7⟩:=f6.rec
   have z7:=af (g7.symm.trans g6)
   rw[<- z7]
   unfold W.notCls
   rw[k7]
  have I7:Inv X pins σ (upd H' a (gu a C dq)) { s' with heap:=h6 }:=Inv.track I1 I6 ne1 hna ⟨⟨o6,g6,c6,d6,n6⟩,⟨o6,g6⟩,fun h1 h2 ⟨o,e1,e2⟩ z=>⟨o,z o e1,e2⟩⟩
  refine la (v:=.ref a) I7 hN hi (.inl hl) rfl (fun s8 I8=>?_) (.inr hl)
  refine aO (hs a _ pins s8 _ _ _ I8.mark (hq2 a hna)) (fun fl s9 h9=>?_) fun ev s9 h9=>h9
  cases fl with
  | next =>
   obtain⟨σ',H9,I9,q9⟩:=h9
   exact lF (I9.unmark I.ok) hN hi hl fun s' I'=>⟨_,_,I',q9⟩
  | brk =>
   obtain⟨σ',H9,I9,q9⟩:=h9
   exact lF (I9.unmark I.ok) hN hi hl fun s' I'=>⟨_,_,I',q9⟩
  | cont =>
   obtain⟨σ',H9,I9,q9⟩:=h9
   exact lF (I9.unmark I.ok) hN hi hl fun s' I'=>⟨_,_,I',q9⟩
  | ret u =>
   obtain⟨v,σ',H9,I9,r9,q9⟩:=h9
   exact lF (I9.unmark I.ok) hN hi hl fun s' I'=>⟨v,_,_,I',r9,q9⟩
end
end L2
namespace K26
open PySem L2
def top (i:Nat):Stmt:=PySem.Challenge.pw_orderkeep_k26_webs_and_weights_refused.main.body.getD i (.Pass ⟨0,0,0,0⟩)
abbrev gv:Stmt:=top 22
abbrev ig:Stmt:=top 24
abbrev gx:Stmt:=top 25
abbrev iE:Stmt:=top 26
abbrev mH:Stmt:=top 28
abbrev g9:Stmt:=top 29
abbrev gF:Stmt:=top 30
abbrev fR:Stmt:=top 31
abbrev jj:Stmt:=top 32
abbrev iA:Stmt:=top 34
abbrev iI:Stmt:=top 35
abbrev gY:Stmt:=top 36
abbrev jo:Stmt:=top 38
abbrev iQ:Stmt:=top 39
abbrev gZ:Stmt:=top 41
abbrev gt:Stmt:=top 42
abbrev ik:Stmt:=top 43
abbrev fu:Stmt:=top 44
abbrev jr:Stmt:=top 45
abbrev iT:Stmt:=top 46
abbrev gU:Stmt:=top 47
abbrev kC:Stmt:=top 48
abbrev iP:Stmt:=top 49
abbrev gp:Stmt:=top 51
abbrev gw:Stmt:=top 52
abbrev jA:Stmt:=top 53
abbrev kG:Stmt:=top 55
abbrev ie:Stmt:=top 56
abbrev mD:Stmt:=top 57
abbrev km:Stmt:=top 58
abbrev jh:Stmt:=top 59
abbrev li:Stmt:=top 60
abbrev kA:Stmt:=top 61
abbrev mL:Stmt:=top 62
abbrev jz:Stmt:=top 63
abbrev iU:Stmt:=top 64
abbrev kY:Stmt:=top 65
abbrev ji:Stmt:=top 66
abbrev i4:Stmt:=top 67
abbrev gz:Stmt:=zJ (top 4) 0
section
variable {P:Program}{w:World}{K:W.Frag}{mg:Str->Option Value}{base:Heap}
def mv (K:W.Frag):Sp:=fun vs H Q _=>∃(p a:Addr) (m:Nat),vs=[.ref p,.int (m:Int)]/\Pen K H p a/\m<=60 /\
 ∀l ss H',ss.length=m->ss.Nodup->(∀s∈ss,Nm s)->H' l=some (.lst (List.map V.str ss))->l≠p->PenV H' p a->But p H H'->Q (.ref l) H'
theorem scTake:FnScope ["_law_pen","_law_many","_law_digit","_law_at","_law_cell","_law_one","_law_two"] ["_law_pen","_law_many"] (cI kG):=⟨rfl,rfl,rfl,by decide +kernel,rfl,by decide +kernel,by decide +kernel⟩
theorem no (x:Int):-(2 ^ 64)<x % 2147483587/\x % 2147483587<2 ^ 64:=by
 have h1:=bi x (show (2147483587:Int)≠0 by decide)
 have h2:=br x (show (0:Int)<2147483587 by decide)
 omega
theorem ma (x:Int):-(2 ^ 64)<x % 2147483629+1/\x % 2147483629+1<2 ^ 64:=by
 have h1:=bi x (show (2147483629:Int)≠0 by decide)
 have h2:=br x (show (0:Int)<2147483629 by decide)
 omega
theorem xy {f:Addr}{fd:FuncData}(F:Fun K "_law_take" "_law_take" kG f fd) (B:Blt mg):FnOk P w K mg base CX0 1 f fd ["_law_pen", "_law_many"] (iq K) := by
 refine F.ok scTake (fun vs H Q E h=>?_) (fun cdv A outer s H vs Q E hr h=>?_)
 ·obtain⟨p,a,m,rfl,_⟩:=h
  rfl
 ·obtain⟨p, a, m, rfl, ⟨⟨ns, hS⟩, i, n, hp, hi, hn⟩, hm, hm2, k⟩ := h
  have ku:∀(H1:Hp) (o:HO),(∀b,b≠p->H1 b=H b)->∀b,b≠p->(upd H1 p o) b=H b:=fun H1 o q b n=>by rw[cH n];exact q b n
  have nd:=scTake.nd
  refine⟨_,(cG (dG (cU jq (cR (cX K hr.units) (pv 0) cK (fun _ _=>rfl)) cK (dg _)) (cG (cQ (i:=2) nd rfl (Or.inl rfl) (cW fD (cR (cX K hr.units) (pv 0) cK (fun _ _=>rfl)) (pv 1)))
   (cG (fc (cW kL (cR (cX K hr.units) (pv 0) cK (fun _ _=>rfl)) (pv 1)) (fv (pv 0) cK (fP hr.units)))
   (cJ (cS (pv 2))))) dk)
   (cG (cQ (i:=3) nd rfl (Or.inl rfl) (cR (cX K hr.units) (pv 0) cK (fun _ _=>rfl)))
   (cG (fc (cW dh (pv 3) cK) (fv (pv 0) cK (fP hr.units)))
   (cG (cQ (i:=4) nd rfl (Or.inl rfl) cK)
   (cG (dG (cU jq (eY K B (cC (cR (cX K hr.units) (pv 0) cK (fun _ _=>rfl)) cE)) cK (dg _)) (cJ (cQ (i:=4) nd rfl (Or.inl rfl) (cR (cX K hr.units) (cR (cX K hr.units) (pv 0) cK (fun _ _=>rfl)) (cW fD (pv 3) (eY K B (cC (cR (cX K hr.units) (pv 0) cK (fun _ _=>rfl)) cE))) (fun _ _=>rfl)))) dk)
   (cG (dG (PW.pt (ic (cU jV (pv 3) (eY K B (cC (cR (cX K hr.units) (pv 0) cK (fun _ _=>rfl)) cE)) (dg _)) (gE (cU zB (qH B (cC (pv 4) cE)) (cW yu cK cK) (dg _))))) (cG (fc (cW kL (qH B (cC (pv 4) cE)) (pv 1)) (fv (pv 0) cK (fP hr.units)))
   (cJ (cS (cW fD (qH B (cC (pv 4) cE)) (pv 1))))) dk)
   (cG (cQ (i:=5) nd rfl (Or.inl rfl) (cW fD (cW ij (cW dh (cW fD (pv 4) cK) cK) (cW dh (cW ij cK (pv 3)) cK)) cK))
   (cG (cQ (i:=6) nd rfl (Or.inl rfl) (cW fD (cW dh (cW dh (cW ij (pv 5) (pv 5)) (cW ij cK (pv 3))) cK) cK))
   (cJ (cS (cW fD (cW kL (cW fD (cW ij (pv 6) (cW dh (cW fD (pv 6) cK) cK)) cK) cK) (pv 1)))))))))))),?_⟩
  refine⟨_,rfl,.lst (.of hp) rfl ⟨_,_,rfl,rfl,_,rfl,?_⟩⟩
  refine df (fun h=>?_) (fun h=>?_)
  ·refine⟨_,rfl,.lst (.of hp) rfl ⟨_,rfl,_,_,rfl,rfl,hm,?_⟩⟩
   refine⟨_,rfl,.lst (.of hp) rfl ⟨_,rfl,_,_,rfl,rfl,⟨hm,hm2⟩,?_⟩⟩
   refine⟨_,rfl,.lst (j:=2) hp rfl ?_⟩
   refine⟨_,rfl,?_⟩
   exact k _ _ (bi _ (by omega)) (br _ hm) ⟨i,n / m,cF,hi,Int.ediv_nonneg hn (by omega)⟩ (ku H _ fun _ _=>rfl)
  ·refine⟨_, rfl, .lst (.of hp) rfl ?_⟩
   refine⟨_,rfl,.int ?_⟩
   refine⟨_,rfl,.lst (j:=1) hp rfl ?_⟩
   have hp1:(upd H p (.lst ([V.ref a,V.int i,V.int n].set 1 (V.int (i+1))))) p=some (.lst [.ref a,.int (i+1),.int n]):=cF
   have hS1:SqL K (upd H p (.lst ([V.ref a,V.int i,V.int n].set 1 (V.int (i+1))))) a (ns.map V.int):=hS _ But.upd
   have b1:∀b,b≠p->(upd H p (.lst ([V.ref a,V.int i,V.int n].set 1 (V.int (i+1))))) b=H b:=ku H _ fun _ _=>rfl
   generalize upd H p (.lst ([V.ref a,V.int i,V.int n].set 1 (V.int (i+1))))=H1 at hp1 hS1 b1 ⊢
   have fin:∀c:Int,0<=c->Q (.int (c % m)) H1:=fun c hc=>k _ _ (bi _ (by omega)) (br _ hm) ⟨i+1,n,hp1,by omega,hn⟩ b1
   refine⟨_,rfl,.lst (.of hp1) rfl ⟨_,_,rfl,Or.inl ⟨_,hS1,rfl⟩,_,_,rfl,rfl,_,rfl,?_⟩⟩
   refine df (fun h=>?a) (fun h=>?b)
   case' a =>
    have hl:(0:Int)<((ns.map V.int).length:Nat):=au h
    obtain⟨c,hc⟩:=yJ (ns:=ns) (j:=i % ((ns.map V.int).length:Nat)) (bi _ (by omega)) (br _ hl)
    refine⟨_,rfl,.lst (.of hp1) rfl ⟨_,rfl,_,rfl,.lst (.of hp1) rfl ⟨_,_,rfl,Or.inl ⟨_,hS1,rfl⟩,_,_,rfl,rfl,hl,.lst hS1 hc ?_⟩⟩⟩
   all_goals
    refine⟨_,rfl,_,rfl,.lst (.of hp1) rfl ⟨_,_,rfl,Or.inl ⟨_,hS1,rfl⟩,.int ⟨_,rfl,?_⟩⟩⟩
    refine df (fun h1=>?_) (fun h1=>?_)
    ·refine⟨_,rfl,_,rfl,_,_,rfl,rfl,⟨by decide,by decide,by decide⟩,_,_,rfl,rfl,_,rfl,?_⟩
     refine df (fun h2=>?_) (fun h2=>?_)
     ·refine⟨_,rfl,_,rfl,_,rfl,_,_,rfl,rfl,⟨hm,hm2⟩,?_⟩
      refine⟨_,rfl,.lst (j:=2) hp1 rfl ?_⟩
      refine⟨_,rfl,_,rfl,_,rfl,_,_,rfl,rfl,hm,?_⟩
      refine k _ _ (bi _ (by omega)) (br _ hm) ⟨i+1,_,cF,by omega,Int.ediv_nonneg (by split <;> omega) (by omega)⟩ (ku H1 _ b1)
     ·refine⟨_,rfl,_,_,rfl,rfl,(by show (0:Int)<_;decide),.int ⟨_,rfl,_,_,rfl,rfl,.inl ⟨by decide,by decide⟩,.int ⟨_,_,rfl,rfl,.inl (ma _),_,_,rfl,rfl,(by show (0:Int)<_;decide),?_⟩⟩⟩
      refine⟨_,rfl,_,rfl,_,_,rfl,rfl,.inl (nF _),_,rfl,_,_,rfl,rfl,.inl ⟨by decide,by decide⟩,.int (.int ⟨_,_,rfl,rfl,(by show (0:Int)<_;decide),?_⟩)⟩
      refine⟨_,rfl,_,rfl,_,_,rfl,rfl,(by show (0:Int)<_;decide),.int ⟨_,_,rfl,rfl,.inl (no _),_,_,rfl,rfl,(by show (0:Int)<_;decide),_,_,rfl,rfl,⟨by decide,by decide⟩,_,rfl,_,_,rfl,rfl,hm,?_⟩⟩
      exact fin _ (Int.ediv_nonneg (bi _ (by decide)) (by decide))
    ·refine⟨_,rfl,_,_,rfl,rfl,(by show (0:Int)<_;decide),.int ⟨_,rfl,_,_,rfl,rfl,.inl ⟨by decide,by decide⟩,.int ⟨_,_,rfl,rfl,.inl (ma _),_,_,rfl,rfl,(by show (0:Int)<_;decide),?_⟩⟩⟩
     refine⟨_,rfl,_,rfl,_,_,rfl,rfl,.inl (nF _),_,rfl,_,_,rfl,rfl,.inl ⟨by decide,by decide⟩,.int (.int ⟨_,_,rfl,rfl,(by show (0:Int)<_;decide),?_⟩)⟩
     refine⟨_,rfl,_,rfl,_,_,rfl,rfl,(by show (0:Int)<_;decide),.int ⟨_,_,rfl,rfl,.inl (no _),_,_,rfl,rfl,(by show (0:Int)<_;decide),_,_,rfl,rfl,⟨by decide,by decide⟩,_,rfl,_,_,rfl,rfl,hm,?_⟩⟩
     exact fin _ (Int.ediv_nonneg (bi _ (by decide)) (by decide))
theorem lM {j:Int}(h0:0<=j) (h1:j<26):atI ("abcdefghijklmnopqrstuvwxyz":Str).cps.toList j=some (97+j.toNat):=by
 obtain⟨k,rfl⟩:=bf h0
 have hk:k<26:=by omega
 exact(by decide +kernel:∀k:Nat,k<26->atI ("abcdefghijklmnopqrstuvwxyz":Str).cps.toList (k:Int)=some (97+(k:Int).toNat)) k hk
theorem su {c:Nat}(h:97<=c) (h2:c<=122):Nm ⟨#[c]⟩:=⟨ad 1,by show 1<=8;decide,fun d hd=>by
 have:d=c:=by simpa using hd
 omega⟩
theorem yy {c d:Nat}{t:Str}(hc:97 <= c /\ c <= 122) (hd:97 <= d /\ d <= 122) (ht:t.length <= 6) (ha:∀x ∈ t.cps.toList, 97 <= x /\ x <= 122):Nm (⟨#[c]⟩ ++ ⟨#[d]⟩ ++ t) := by
 refine⟨?_,?_,fun x hx=>?_⟩
 ·rw[gA,gA];show 1<=1+1+_;omega
 ·rw[gA,gA];show 1+1+t.length<=8;omega
 ·have hx:x∈(#[c]++#[d]++t.cps).toList:=hx
  simp only[ce,ar] at hx
  rcases hx with (hx | hx) | hx
  ·have:x=c:=by simpa using hx
   omega
  ·have:x=d:=by simpa using hx
   omega
  ·exact ha x hx
theorem xT {c d c' d':Nat}{t t':Str}(h:(⟨#[c]⟩++⟨#[d]⟩++t:Str)=⟨#[c']⟩++⟨#[d']⟩++t'):c=c'/\d=d':=by
 have h:(#[c]++#[d]++t.cps).toList=(#[c']++#[d']++t'.cps).toList:=congrArg (fun s:Str=>s.cps.toList) h
 simp only[ce,List.cons_append,List.nil_append,List.cons.injEq] at h
 exact⟨h.1,h.2.1⟩
def Low (t:Str):Prop:=∀x∈t.cps.toList,97<=x/\x<=122
theorem Low.app {x y:Str}(hx:Low x) (hy:Low y):Low (x++y):=fun c hc=>by
 have hc:c∈(x.cps++y.cps).toList:=hc
 rw[ce] at hc
 rcases ar.mp hc with h | h
 ·exact hx c h
 ·exact hy c h
theorem Low.slice {x:Str}(h:Low x) (l u:Option Int):Low (Txt.slice x l u):=by
 unfold Txt.slice
 split
 ·exact h
 ·intro c hc
  have hc:c∈(List.filterMap (x.cps[·]?) (Builtin.Str.strSliceIndices l u 1 x.length)).toArray.toList:=hc
  rw[List.toList_toArray] at hc
  obtain⟨i,_,e⟩:=bX.mp hc
  exact h c (by simpa using Array.mem_of_getElem? e)
theorem Low.joinS {sep:Str}(hs:Low sep):∀ {ys:List Str},(∀y∈ys,Low y)->Low (Str.join sep ys)
 | [],_=>fun c hc=>by
  have hc:c∈(#[]:Array Nat).toList:=hc
  simp at hc
 | [y],h=>h y (by simp)
 | y::z::r,h=>by
  show Low (y++sep++Str.join sep (z::r))
  exact((h y (by simp)).app hs).app (Low.joinS hs fun x hx=>h x (aM _ hx))
theorem Low.join {sep:Str}{ys:List Str}(hs:Low sep) (h:∀y∈ys,Low y):Low (Txt.join sep ys):=by
 unfold Txt.join
 rw[StrLaws.glued_eq_join]
 exact Low.joinS hs h
theorem ml {α:Type}{l:List α}{x:α}(h:l.Nodup) (hx:x∉l):(l++[x]).Nodup:=by
 rw[List.nodup_append]
 exact⟨h,by simp,fun a ha b hb=>by
  have:b=x:=by simpa using hb
  subst this
  exact fun e=>hx (e ▸ ha)⟩
theorem wP {r st:Int}{i j:Nat}(hst:st=1∨st=675∨st=27∨st=211∨st=79) (hj:j<i) (hi:i<60):(r+st * (j:Int)) % 676≠(r+st * (0+(i:Nat):Int)) % 676:=by
 rcases hst with rfl | rfl | rfl | rfl | rfl <;> omega
theorem scNames:FnScope ["_law_pen","_law_many","_law_letters","_law_begin","_law_step","_law_tail","_law_found","_law_k","_law_number","_law_cut"] ["_law_pen","_law_many"] (cI ie):=⟨rfl,rfl,rfl,by decide +kernel,rfl,by decide +kernel,by decide +kernel⟩
theorem va {f:Addr}{fd:FuncData}(F:Fun K "_law_names" "_law_names" ie f fd) (B:Blt mg) (c_law_take:Cal P w K mg base 1 "_law_take" ["_law_pen", "_law_many"] (iq K)):FnOk P w K mg base CX0 2 f fd ["_law_pen", "_law_many"] (mv K) := by
 refine F.ok scNames (fun vs H Q E h=>?_) (fun cdv A outer s H vs Q E hr h=>?_)
 ·obtain⟨p,a,m,rfl,_⟩:=h
  rfl
 ·obtain⟨p, a, m, rfl, hP, hm, k⟩ := h
  have nd:=scNames.nd
  refine⟨_,(cG (cQ (i:=2) nd rfl (Or.inr rfl) fm)
   (cG (cQ (i:=3) nd rfl (Or.inr rfl) (cP c_law_take (hr.mono (by decide)) rfl (cC (pv 0) (cC cK cE))))
   (cG (dG (PW.pt (ic (cU jV (pv 1) cK (dg _)) (gE (cU (dO hr.units) (cP c_law_take (hr.mono (by decide)) rfl (cC (pv 0) (cC cK cE))) cK (dg _))))) (cJ (cS (dN (cI ie) ["_law_pen","_law_many","_law_letters","_law_begin","_law_step","_law_tail","_law_found","_law_k","_law_number","_law_cut"] ["_law_k"] [2,3] ["_law_k","_law_letters","_law_begin"] rfl (fY rfl B.range (cC (pv 1) cE)) (fun _ _ _ _ _=>(cT (i:=0) (show (["_law_k","_law_letters","_law_begin"]:List Str).Nodup by decide) rfl (Or.inl rfl))) (fun _ _ _ _ _=>eM) (fun _ _ _ _ _=>(cR (cX K hr.units) (pv 1) (cW fD (cW dh (pv 2) (cW ij cK (pv 0))) cK) (fun _ _=>rfl)))))) dk)
   (cG (cQ (i:=4) nd rfl (Or.inl rfl) (cR (cX K hr.units) (dC (cC cK (cC cK (cC cK (cC cK (cC cK cE fT) fT) fT) fT) fT)) (cP c_law_take (hr.mono (by decide)) rfl (cC (pv 0) (cC cK cE))) (fun _ _=>rfl)))
   (cG (cQ (i:=5) nd rfl (Or.inl rfl) (x0 K fm (cC (dN (cI ie) ["_law_pen","_law_many","_law_letters","_law_begin","_law_step","_law_tail","_law_found","_law_k","_law_number","_law_cut"] ["_law_k"] [2,0] ["_law_k","_law_letters","_law_pen"] rfl (fY rfl B.range (cC (cP c_law_take (hr.mono (by decide)) rfl (cC (pv 0) (cC cK cE))) cE)) (fun _ _ _ _ _=>(cT (i:=0) (show (["_law_k","_law_letters","_law_pen"]:List Str).Nodup by decide) rfl (Or.inl rfl))) (fun _ _ _ _ _=>eM) (fun _ _ _ _ _=>(cR (cX K hr.units) (pv 1) (cP c_law_take (hr.mono (by decide)) rfl (cC (pv 2) (cC cK cE))) (fun _ _=>rfl)))) cE)))
   (cG (cQ (i:=6) nd rfl (Or.inl rfl) (dC cE))
   (cG (dY PassesOwn.never rfl (fY rfl B.range (cC (pv 1) cE)) (cT (i:=7) nd rfl (Or.inl rfl)) (cG (cQ (i:=8) nd rfl (Or.inl rfl) (cW fD (cW dh (pv 3) (cW ij (pv 4) (pv 7))) cK))
   (cG (cQ (i:=9) nd rfl (Or.inl rfl) (cP c_law_take (hr.mono (by decide)) rfl (cC (pv 0) (cC (cW dh (eY K B (cC (pv 5) cE)) cK) cE))))
   (cJ (dQ (fZ K (pv 6) (cC (cW dh (cW dh (cR (cX K hr.units) (pv 2) (cW kL (pv 8) cK) (fun _ _=>rfl)) (cR (cX K hr.units) (pv 2) (cW fD (pv 8) cK) (fun _ _=>rfl))) (fF (i8 K) (pv 5) fV (fW (pv 9)))) cE)))))))
   (cJ (cS (pv 6)))))))))),?_⟩
  refine⟨_,rfl,p,a,676,rfl,hP,by decide,by decide,fun r1 H1 h10 h11 v1 e1=>?_⟩
  have b1:=But.of_eq e1
  refine⟨_,rfl,.int ⟨_,rfl,?_⟩⟩
  have lL:("abcdefghijklmnopqrstuvwxyz":Str).length<=sizeLine:=by decide +kernel
  refine df (fun h1=>?a) (fun h1=>?b)
  case' a =>
   refine⟨_,rfl,p,a,4,rfl,hP.but b1 v1,by decide,by decide,fun r2 H2 h20 h21 v2 e2=>.sc rfl ⟨_,rfl,?_⟩⟩
   have b2:=b1.trans (But.of_eq e2)
   have h1:(m:Int)<27:=au h1
   refine df (fun _=>?c) (fun _=>?d)
   case c =>
    refine⟨_,rfl,_,rfl,by omega,by omega,?_⟩
    refine jv (fun D i acc σ' H'=>∃o ss,σ'=[o,some (.str "abcdefghijklmnopqrstuvwxyz"),some (.int r1)]/\acc=List.map V.str ss/\ss.length=i/\(∀(j:Nat) (s:Str),ss[j]? = some s->∃c:Nat,s=⟨#[c]⟩/\(c:Int)=97+(r1+7 * (j:Int)) % 26)/\ss.Nodup/\PenV H' p a/\But p H H'/\H D=none/\p≠D) fun D hD=>⟨?_,?_,?_⟩
    ·have hDp:=v2.ne hD
     have hD0:=b2.free (Ne.symm hDp) hD
     exact⟨none,[],rfl,rfl,rfl,(fun j s e=>by simp at e),bz,v2.upd hDp,b2.at hD0,hD0,hDp⟩
    ·rintro i acc σ' H' hi ⟨o, ss, rfl, rfl, hl, hj, hnd, v, b, hD0, hDp⟩ hacc
     refine gK ?_
     refine⟨_,rfl,_,rfl,_,rfl,_,_,rfl,rfl,.inl ⟨by decide,by decide⟩,.int ⟨_,_,rfl,rfl,(by show (0:Int)<_;decide),?_⟩⟩
     have g0:=bi (r1+7 * (0+(i:Nat):Int)) (show (26:Int)≠0 by decide)
     have g1:=br (r1+7 * (0+(i:Nat):Int)) (show (0:Int)<26 by decide)
     refine .str lL (lM g0 g1) ⟨hacc,?_,_,ss++[⟨#[97+((r1+7 * (0+(i:Nat):Int)) % 26).toNat]⟩],rfl,by simp,by simp[hl],?_,?_,v.upd hDp,b.at hD0,hD0,hDp⟩
     ·rw[ac,hl];exact cN (by omega)
     ·intro j s e
      by_cases q:j<ss.length
      ·rw[bG q] at e
       exact hj j s e
      ·rw[bw (by omega)] at e
       have:j=i:=by
        have:=(ai.mp e).1
        simp at this
        omega
       subst this
       rw[hl,Nat.sub_self] at e
       cases e
       exact⟨_,rfl,by omega⟩
     ·refine ml hnd fun hm=>?_
      obtain⟨j,hjl,e⟩:=bR.mp hm
      obtain⟨c,ec,hc⟩:=hj j _ (aG hjl)
      rw[e] at ec
      have ec:[97+((r1+7 * (0+(i:Nat):Int)) % 26).toNat]=[c]:=congrArg (fun s:Str=>s.cps.toList) ec
      have ec:97+((r1+7 * (0+(i:Nat):Int)) % 26).toNat=c:=by simpa using ec
      omega
    ·rintro acc σ' H' ⟨o,ss,rfl,rfl,hl,hj,hnd,v,b,hD0,hDp⟩ hacc
     refine k D ss H' (by simpa using hl) hnd (fun s hs=>?_) hacc (Ne.symm hDp) v b
     obtain⟨j,hjl,e⟩:=bR.mp hs
     obtain⟨c,ec,hc⟩:=hj j _ (aG hjl)
     rw[e] at ec
     subst ec
     exact su (by omega) (by omega)
   have v1:=v2
   have b1:=b2
  all_goals
   refine⟨(by show 5<=sizeLine;decide),fun l hl=>?_⟩
   have hpl:=v1.ne hl
   have b1:=b1.at (o:=.lst [V.int 1,V.int 675,V.int 27,V.int 211,V.int 79]) (b1.free (Ne.symm hpl) hl)
   refine⟨_,rfl,p,a,5,rfl,hP.but b1 (v1.upd hpl),by decide,by decide,fun r3 H3 h30 h31 v3 e3=>?_⟩
   have hl3:H3 l=some (.lst [V.int 1,V.int 675,V.int 27,V.int 211,V.int 79]):=(e3 l (Ne.symm hpl)).trans cF
   have b3:=b1.trans (But.of_eq e3)
   obtain⟨st,est,hst⟩:∃st,atI [V.int 1,V.int 675,V.int 27,V.int 211,V.int 79] r3=some (.int st)/\(st=1∨st=675∨st=27∨st=211∨st=79):=by
    have hr3:r3=0∨r3=1∨r3=2∨r3=3∨r3=4:=by omega
    rcases hr3 with rfl | rfl | rfl | rfl | rfl
    ·exact⟨_,rfl,by omega⟩
    ·exact⟨_,rfl,by omega⟩
    ·exact⟨_,rfl,by omega⟩
    ·exact⟨_,rfl,by omega⟩
    ·exact⟨_,rfl,by omega⟩
   refine .lst (.of hl3) est ?_
   clear hl3 e3
   refine⟨rfl,?_⟩
   refine⟨_,rfl,p,a,7,rfl,hP.but b3 v3,by decide,by decide,fun r4 H4 h40 h41 v4 e4=>⟨r4,rfl,by omega,by omega,?_⟩⟩
   have b4:=b3.trans (But.of_eq e4)
   refine jv (fun D i acc σ' H'=>∃o ys,σ'=[o,some (.str "abcdefghijklmnopqrstuvwxyz"),some (.ref p)]/\acc=List.map V.str ys/\ys.length=i/\(∀y∈ys,y.length=1/\Low y)/\PenV H' p a/\But p H H'/\H D=none/\p≠D) fun D hD=>⟨?_,?_,?_⟩
   ·have hDp:=v4.ne hD
    have hD0:=b4.free (Ne.symm hDp) hD
    exact⟨none,[],rfl,rfl,rfl,(fun y hy=>by cases hy),v4.upd hDp,b4.at hD0,hD0,hDp⟩
   ·rintro i acc σ' H' hi ⟨o, ys, rfl, rfl, hl, hys, v, b, hD0, hDp⟩ hacc
    refine gK ?_
    refine⟨_,rfl,_,rfl,p,a,26,rfl,hP.but b v,by decide,by decide,fun r5 H5 h50 h51 v5 e5=>?_⟩
    refine .str lL (lM h50 h51) ⟨(e5 D (Ne.symm hDp)).trans hacc,?_,_,ys++[⟨#[97+r5.toNat]⟩],rfl,by simp,by simp[hl],?_,v5.upd hDp,(b.trans (But.of_eq e5)).at hD0,hD0,hDp⟩
    ·rw[ac,hl];exact cN (by omega)
    ·intro y hy
     rcases ar.mp hy with hy | hy
     ·exact hys y hy
     ·have:y=⟨#[97+r5.toNat]⟩:=by simpa using hy
      subst this
      exact⟨rfl,(su (by omega) (by omega)).2.2⟩
   ·rintro acc σ' H5 ⟨o, ys, rfl, rfl, hl, hys, v5, b5, hD0, hDp⟩ hacc
    have hsum:=yW (n:=1) fun y hy=>Nat.le_of_eq (hys y hy).1
    have hlj:=vy "" ys
    have e0:("":Str).length=0:=by decide +kernel
    have hj:Low (Txt.join "" ys):=Low.join (fun c hc=>by
     have hc:c∈("":Str).cps.toList:=hc
     rw[show ("":Str).cps.toList=[] by decide +kernel] at hc
     cases hc) fun y hy=>(hys y hy).2
    rw[e0] at hlj
    refine⟨_,D,ys,rfl,rfl,hacc,by rw[e0];omega,?_⟩
    have htl:(Txt.join "" ys).length<=6:=by omega
    generalize Txt.join "" ys=z at hj htl ⊢
    have hz:z.length<=sizeLine:=aS (cN (by omega))
    refine⟨(by show 0<=sizeLine;decide),fun fl hfl=>?_⟩
    have hpf:=v5.ne hfl
    have hf0:=b5.free (Ne.symm hpf) hfl
    refine⟨_,rfl,_,rfl,by omega,by omega,?_⟩
    refine iX (fun i σ H'=>∃o7 o8 o9 ss,σ=[some (.ref p),some (.int (m:Int)),some (.str "abcdefghijklmnopqrstuvwxyz"),some (.int r1),some (.int st),some (.str z),some (.ref fl),o7,o8,o9]/\H' fl=some (.lst (List.map V.str ss))/\ss.length=i /\
        (∀(j:Nat) (s:Str),ss[j]? = some s->∃(c d:Nat) (x:Str),s=⟨#[c]⟩++⟨#[d]⟩++x/\(c:Int)=97+(r1+st * (j:Int)) % 676 / 26/\(d:Int)=97+(r1+st * (j:Int)) % 676 % 26)/\(∀s∈ss,Nm s)/\ss.Nodup/\PenV H' p a/\But p H H')
     ⟨none,none,none,[],rfl,cF,rfl,(fun j s e=>by simp at e),(fun s hs=>by cases hs),bz,v5.upd hpf,b5.at hf0⟩ ?_ ?_
    ·rintro i σ H6 hi ⟨o7, o8, o9, ss, rfl, hf, hl6, hj6, hnm, hnd6, v6, b6⟩
     refine⟨_,rfl,_,rfl,_,rfl,_,_,rfl,rfl,.inl ⟨by omega,by omega⟩,.int ⟨_,_,rfl,rfl,(by show (0:Int)<_;decide),?_⟩⟩
     have n0:=bi (r1+st * (0+(i:Nat):Int)) (show (676:Int)≠0 by decide)
     have n1:=br (r1+st * (0+(i:Nat):Int)) (show (0:Int)<676 by decide)
     have hnew:∀j:Nat,j<i->(r1+st * (j:Int)) % 676≠(r1+st * (0+(i:Nat):Int)) % 676:=fun j hj=>wP hst hj (by omega)
     have hnum:(r1+st * (0+(i:Nat):Int)) % 676=(r1+st * (i:Int)) % 676:=by rw[Int.zero_add]
     refine⟨_,rfl,_,rfl,_,_,rfl,⟨hz,rfl⟩,.int ⟨p,a,_,rfl,hP.but b6 v6,by omega,by omega,fun r7 H7 h70 h71 v7 e7=>?_⟩⟩
     have hf7:H7 fl=some (.lst (List.map V.str ss)):=(e7 fl (Ne.symm hpf)).trans hf
     have b7:=b6.trans (But.of_eq e7)
     have sl:=Txt.slice_le z none (some r7)
     have q0:0<=((r1+st * (0+(i:Nat):Int)) % 676) / 26/\((r1+st * (0+(i:Nat):Int)) % 676) / 26<26:=by omega
     have q1:0<=((r1+st * (0+(i:Nat):Int)) % 676) % 26/\((r1+st * (0+(i:Nat):Int)) % 676) % 26<26:=by omega
     refine⟨_,rfl,.inl ⟨rfl,_,.of hf7⟩,?_⟩
     refine⟨_,rfl,_,rfl,_,_,rfl,rfl,⟨by decide,by decide⟩,.str lL (lM q0.1 q0.2) ⟨_,rfl,_,rfl,_,_,rfl,rfl,(by show (0:Int)<_;decide),.str lL (lM q1.1 q1.2) (.str (by show 1+1<=sizeLine;decide) ⟨_,rfl,_,rfl,_,rfl,.str hz (.str ?_ ⟨fl,_,_,rfl,rfl,hf7,?_,?_⟩)⟩)⟩⟩
     ·rw[gA]
      have:=cN (n:=8) (by omega)
      show 1+1+_<=sizeLine
      omega
     ·rw[ac,hl6];exact cN (by omega)
     ·refine⟨_, _, _, ss ++ [⟨#[97+(((r1+st * (0+(i:Nat):Int)) % 676) / 26).toNat]⟩ ++ ⟨#[97+(((r1+st * (0+(i:Nat):Int)) % 676) % 26).toNat]⟩ ++ Txt.slice z none (some r7)], rfl, ?_, by simp[hl6], ?_, ?_, ?_, v7.upd hpf, b7.at hf0⟩
      ·rw[cF];simp
      ·intro j s e
       by_cases q:j<ss.length
       ·rw[bG q] at e
        exact hj6 j s e
       ·rw[bw (by omega)] at e
        have:j=i:=by
         have:=(ai.mp e).1
         simp at this
         omega
        subst this
        rw[hl6,Nat.sub_self] at e
        cases e
        exact⟨_,_,_,rfl,by omega,by omega⟩
      ·intro s hs
       rcases ar.mp hs with hs | hs
       ·exact hnm s hs
       ·rw[aI.mp hs]
        exact yy (by omega) (by omega) (by omega) (hj.slice _ _)
      ·refine ml hnd6 fun hm=>?_
       obtain⟨j,hjl,e⟩:=bR.mp hm
       obtain⟨c,d,x,ec,hc,hd⟩:=hj6 j _ (aG hjl)
       rw[e] at ec
       obtain⟨e1,e2⟩:=xT ec
       refine hnew j (by omega) ?_
       omega
    ·rintro σ H6 ⟨o7,o8,o9,ss,rfl,hf,hl6,hj6,hnm,hnd6,v6,b6⟩
     exact⟨_,rfl,k fl ss H6 (by simpa using hl6) hnd6 hnm hf (Ne.symm hpf) v6 b6⟩
def d7 (xs:List Nat):List V:=xs.map fun x:Nat=>V.int (x:Int)
def TieV (H:Hp) (v:V) (n:Nat):Prop:=v=.non∨∃(q:Addr) (i j:Nat),v=.ref q/\H q=some (.tup [.int (i:Int),.int (j:Int)])/\i<n/\j<n
def rn (K:W.Frag):Sp:=fun vs H Q _=>∃(p a:Addr) (n:Nat) (kd:Int),vs=[.ref p,.int (n:Int),.int kd]/\Pen K H p a/\0<n/\n<=60/\∀v H',TieV H' v n->PenV H' p a->But p H H'->Q v H'
theorem scTie:FnScope ["_law_pen","_law_size","_law_kind","_law_one","_law_other"] ["_law_pen","_law_size","_law_kind"] (cI mD):=⟨rfl,rfl,rfl,by decide +kernel,rfl,by decide +kernel,by decide +kernel⟩
theorem yr {f:Addr}{fd:FuncData}(F:Fun K "_law_tie" "_law_tie" mD f fd) (B:Blt mg) (c_law_take:Cal P w K mg base 1 "_law_take" ["_law_pen", "_law_many"] (iq K)):FnOk P w K mg base CX0 2 f fd ["_law_pen", "_law_size", "_law_kind"] (rn K) := by
 refine F.ok scTie (fun vs H Q E h=>?_) (fun cdv A outer s H vs Q E hr h=>?_)
 ·obtain⟨p,a,n,kd,rfl,_⟩:=h
  rfl
 ·obtain⟨p, a, n, kd, rfl, hP, hn0, hn, k⟩ := h
  have nd:=scTie.nd
  refine⟨_,(cG (cQ (i:=3) nd rfl (Or.inl rfl) (cP c_law_take (hr.mono (by decide)) rfl (cC (pv 0) (cC (pv 1) cE))))
   (cG (cQ (i:=4) nd rfl (Or.inl rfl) (cP c_law_take (hr.mono (by decide)) rfl (cC (pv 0) (cC (pv 1) cE))))
   (cG (dG (cU (dO hr.units) (pv 2) cK (dg _)) (cJ (cS (d8 (cC (pv 3) (cC (pv 4) cE))))) dk)
   (cG (dG (cU (dO hr.units) (cP c_law_take (hr.mono (by decide)) rfl (cC (pv 0) (cC cK cE))) cK (dg _)) (cJ (cQ (i:=4) nd rfl (Or.inl rfl) (cW fD (cW dh (pv 3) cK) (pv 1)))) dk)
   (cG (dG (cU (dO hr.units) (pv 3) (pv 4) (dg _)) (cJ (cS dX)) dk)
   (cJ (cS (d8 (cC (zP rfl B (cC (pv 3) (cC (pv 4) cE))) (cC (zq rfl B (cC (pv 3) (cC (pv 4) cE))) cE)))))))))),?_⟩
  refine⟨_,rfl,_,rfl,p,a,_,rfl,hP,by omega,by omega,fun r1 H1 h10 h11 v1 e1=>?_⟩
  have b1:=But.of_eq e1
  refine⟨_,rfl,_,rfl,p,a,_,rfl,hP.but b1 v1,by omega,by omega,fun r2 H2 h20 h21 v2 e2=>?_⟩
  have b2:=b1.trans (But.of_eq e2)
  obtain⟨n1,rfl⟩:=bf h10
  obtain⟨n2,rfl⟩:=bf h20
  refine⟨_,rfl,.sc rfl ⟨_,rfl,?_⟩⟩
  refine df (fun _=>?_) (fun _=>?_)
  ·refine⟨_,rfl,_,rfl,(by show 2<=sizeLine;decide),fun q hq=>k _ _ (.inr ⟨q,n1,n2,rfl,cF,by omega,by omega⟩) (v2.upd (v2.ne hq)) (b2.at (b2.free (Ne.symm (v2.ne hq)) hq))⟩
  refine⟨_,rfl,p,a,2,rfl,hP.but b2 v2,by decide,by decide,fun r3 H3 h30 h31 v3 e3=>.sc rfl ⟨_,rfl,?_⟩⟩
  have b3:=b2.trans (But.of_eq e3)
  refine df (fun _=>?a) (fun _=>?b)
  case' a =>
   refine⟨_,rfl,.int ⟨_,rfl,_,_,rfl,rfl,(by show (0:Int)<(n:Int);omega),?_⟩⟩
   have g0:=bi ((n1:Int)+1) (show (n:Int)≠0 by omega)
   have g1:=br ((n1:Int)+1) (show (0:Int)<(n:Int) by omega)
   obtain⟨o,eo⟩:=bf g0
   have ho:o<n:=by omega
   dsimp only
   rw[eo]
  case' b =>
   have ho:n2<n:=by omega
   obtain⟨o,rfl⟩:∃o,o=n2:=⟨_,rfl⟩
  all_goals
   refine⟨_,rfl,_,rfl,.sc rfl ⟨_,rfl,?_⟩⟩
   refine df (fun _=>?_) (fun _=>?_)
   ·exact k _ _ (.inl rfl) v3 b3
   ·refine⟨_,rfl,_,rfl,_,_,rfl,_,rfl,_,rfl,_,_,rfl,(by show 2<=sizeLine;decide),fun q hq=>?_⟩
    refine k _ _ (.inr ⟨q,min n1 o,max n1 o,rfl,?_,by omega,by omega⟩) (v3.upd (v3.ne hq)) (b3.at (b3.free (Ne.symm (v3.ne hq)) hq))
    rw[cF]
    have f1:(if (o:Int)<(n1:Int) then (o:Int) else (n1:Int))=((min n1 o:Nat):Int):=by split <;> omega
    have f2:(if (o:Int) > (n1:Int) then (o:Int) else (n1:Int))=((max n1 o:Nat):Int):=by split <;> omega
    rw[f1,f2]
theorem Rep.tieBut {H H':Hp}{p:Addr}{ys:List V}(hp:H p=some (.lst ys)) (b:But p H H') {v:V}{e:Nat × Nat}(h:Rep H v (fh e)):Rep H' v (fh e):=by
 obtain⟨a,rfl,ha⟩:=jm h
 exact jn (b a _ (ft ha hp (by intro z;cases z)) ha)
theorem RepAll.tieBut {H H':Hp}{p:Addr}{ys:List V}(hp:H p=some (.lst ys)) (b:But p H H'):∀ {es:List (Nat × Nat)}{xs:List V},RepAll H xs (es.map fh)->RepAll H' xs (es.map fh)
 | [],xs,h=>by rw[RepAll.nilI h];exact .nil
 | e::es,xs,h=>by
  obtain⟨y,ys',rfl,a,c⟩:=RepAll.consI h
  exact .cons (Rep.tieBut hp b a) (RepAll.tieBut hp b c)
theorem jG {H:Hp}{p a:Addr}(v:PenV H p a):∃ys,H p=some (.lst ys):=let ⟨_,_,e,_⟩:=v;⟨_,e⟩
theorem tZ {xs:List Nat}{i:Nat}(h:i<xs.length):atI (d7 xs) (i:Int)=some (.int ((xs[i]:Nat):Int)):=gy (by simp[d7,h])
def oO (K:W.Frag):Sp:=fun vs H Q _=>∃(p a:Addr) (n c:Nat) (kd:Int),vs=[.ref p,.int (n:Int),.int (c:Int),.int kd]/\Pen K H p a/\0<n/\n<=60/\c<=400 /\
 ∀(l:Addr) (refs:List V) (es:List (Nat × Nat)) (H':Hp),H' l=some (.lst refs)->RepAll H' refs (es.map fh)->(∀e∈es,e.1<n/\e.2<n)->es.length<=401->l≠p->PenV H' p a->But p H H'->Q (.ref l) H'
theorem scTies:FnScope ["_law_pen","_law_size","_law_count","_law_kind","_law_order","_law_k","_law_found","_law_pair","_law_one","_law_other"] ["_law_pen","_law_size","_law_count","_law_kind"] (cI km):=⟨rfl,rfl,rfl,by decide +kernel,rfl,by decide +kernel,by decide +kernel⟩
theorem xA {f:Addr}{fd:FuncData}(F:Fun K "_law_ties" "_law_ties" km f fd) (B:Blt mg) (c_law_take:Cal P w K mg base 1 "_law_take" ["_law_pen", "_law_many"] (iq K)) (c_law_tie:Cal P w K mg base 2 "_law_tie" ["_law_pen", "_law_size", "_law_kind"] (rn K)):FnOk P w K mg base CX0 3 f fd ["_law_pen", "_law_size", "_law_count", "_law_kind"] (oO K) := by
 refine F.ok scTies (fun vs H Q E h=>?_) (fun cdv A outer s H vs Q E hr h=>?_)
 ·obtain⟨p,a,n,c,kd,rfl,_⟩:=h
  rfl
 ·obtain⟨p, a, n, c, kd, rfl, hP, hn0, hn, hc, k⟩ := h
  have nd:=scTies.nd
  have v0:=hP.2
  refine⟨_,(cG (cQ (i:=4) nd rfl (Or.inl rfl) (dC cE))
   (cG (dY PassesOwn.never rfl (fY rfl B.range (cC (pv 1) cE)) (cT (i:=5) nd rfl (Or.inl rfl)) (cJ (dQ (oR K (pv 4) (cC (cP c_law_take (hr.mono (by decide)) rfl (cC (pv 0) (cC (cW dh (pv 5) cK) cE))) (cC (pv 5) cE))))))
   (cG (cQ (i:=6) nd rfl (Or.inl rfl) (dC cE))
   (cG (dY PassesOwn.never rfl (fY rfl B.range (cC (pv 2) cE)) (cT (i:=5) nd rfl (Or.inl rfl)) (cG (cQ (i:=7) nd rfl (Or.inl rfl) (cP c_law_tie (hr.mono (by decide)) rfl (cC (pv 0) (cC (pv 1) (cC (pv 3) cE)))))
   (cJ (dG (PW.pt (ic (cU im (pv 7) dX (dg _)) (gE (cU (ia K hr.units) (d8 (cC (cR (cX K hr.units) (pv 4) (cR (cX K hr.units) (pv 7) cK (fun _ _=>rfl)) (fun _ _=>rfl)) (cC (cR (cX K hr.units) (pv 4) (cR (cX K hr.units) (pv 7) cK (fun _ _=>rfl)) (fun _ _=>rfl)) cE))) (pv 6) (by with_unfolding_all rfl))))) (cJ (dQ (fZ K (pv 6) (cC (d8 (cC (cR (cX K hr.units) (pv 4) (cR (cX K hr.units) (pv 7) cK (fun _ _=>rfl)) (fun _ _=>rfl)) (cC (cR (cX K hr.units) (pv 4) (cR (cX K hr.units) (pv 7) cK (fun _ _=>rfl)) (fun _ _=>rfl)) cE))) cE)))) dk))))
   (cG (dG (PW.pt (ic (cU (dO hr.units) (pv 3) cK (dg _)) (gE (cU (ph hr.units) (pv 6) (dC cE) (dg _))))) (cG (fc (cR (cX K hr.units) (pv 6) (cP c_law_take (hr.mono (by decide)) rfl (cC (pv 0) (cC (eY K B (cC (pv 6) cE)) cE))) (fun _ _=>rfl)) (gH (n:=2) K rfl (d4 (cT (i:=8) nd rfl (Or.inl rfl)) (d4 (cT (i:=9) nd rfl (Or.inl rfl)) gB))))
   (cJ (dG (PW.pt (ic (cU (ia K hr.units) (d8 (cC (pv 9) (cC (pv 8) cE))) (pv 6) (by with_unfolding_all rfl)) (gE (cU jV (eY K B (cC (pv 6) cE)) cK (dg _))))) (cJ (dQ (oR K (pv 6) (cC (cP c_law_take (hr.mono (by decide)) rfl (cC (pv 0) (cC (cW dh (eY K B (cC (pv 6) cE)) cK) cE))) (cC (d8 (cC (pv 9) (cC (pv 8) cE))) cE))))) dk))) dk)
   (cJ (cS (pv 6)))))))),?_⟩
  refine⟨(by show 0<=sizeLine;decide),fun lo hlo=>?_⟩
  have hpo:=v0.ne hlo
  refine⟨_,rfl,_,rfl,by omega,by omega,?_⟩
  refine iX (fun i σ H'=>∃o5 xs,σ=[some (.ref p),some (.int (n:Int)),some (.int (c:Int)),some (.int kd),some (.ref lo),o5,none,none,none,none]/\H' lo=some (.lst (d7 xs))/\xs.length=i/\(∀x∈xs,x<n)/\PenV H' p a/\But p H H')
   ⟨none,[],rfl,cF,rfl,(fun x hx=>by cases hx),v0.upd hpo,(But.refl p H).at hlo⟩ ?_ ?_
  ·rintro i σ H1 hi ⟨o5, xs, rfl, ho1, hl1, hx1, v1, b1⟩
   have hi:i<n:=by simpa using hi
   refine⟨_,rfl,.inl ⟨rfl,_,.of ho1⟩,_,rfl,_,rfl,.int ⟨p,a,_,rfl,hP.but b1 v1,by omega,by omega,fun r H2 h0 h1 v2 e2=>?_⟩⟩
   obtain⟨j,rfl⟩:=bf h0
   have ho2:H2 lo=some (.lst (d7 xs)):=(e2 lo (Ne.symm hpo)).trans ho1
   have hln:(d7 xs).length=i:=by simp[d7,hl1]
   refine⟨_,rfl,lo,_,_,j,_,rfl,rfl,rfl,ho2,by omega,by rw[hln];exact cN (by omega),?_⟩
   refine⟨_,xs.take j++i::xs.drop j,rfl,?_,?_,?_,v2.upd hpo,(b1.trans (But.of_eq e2)).at hlo⟩
   ·rw[cF]
    simp[d7,cg,List.map_drop]
   ·simp only[az,aN,aF,bO]
    omega
   ·intro x hx
    rcases ar.mp hx with hx | hx
    ·exact hx1 x (cy hx)
    ·rcases am.mp hx with rfl | hx
     ·exact hi
     ·exact hx1 x (List.mem_of_mem_drop hx)
  ·rintro σ H1 ⟨o5, xs, rfl, ho1, hl1, hx1, v1, b1⟩
   have hl1:xs.length=n:=by simpa using hl1
   refine⟨(by show 0<=sizeLine;decide),fun lf hlf=>?_⟩
   have hpf:=v1.ne hlf
   have hf0:=b1.free (Ne.symm hpf) hlf
   have hof:lo≠lf:=cL ho1 hlf
   refine⟨_,rfl,_,rfl,by omega,by omega,?_⟩
   refine iX (fun i σ H'=>∃o5 o7 refs es,σ=[some (.ref p),some (.int (n:Int)),some (.int (c:Int)),some (.int kd),some (.ref lo),o5,some (.ref lf),o7,none,none]/\H' lo=some (.lst (d7 xs))/\H' lf=some (.lst refs)/\RepAll H' refs (es.map fh)/\(∀e∈es,e.1<n/\e.2<n)/\es.length<=i/\PenV H' p a/\But p H H')
    ⟨_,none,[],[],rfl,by rw[cH hof];exact ho1,cF,.nil,(fun e he=>by cases he),ad _,v1.upd hpf,b1.at hf0⟩ ?_ ?_
   ·rintro i σ H2 hi ⟨o5, o7, refs, es, rfl, ho2, hf2, rp2, he2, hl2, v2, b2⟩
    have hi:i<c:=by simpa using hi
    refine⟨_,rfl,_,rfl,_,rfl,p,a,n,kd,rfl,hP.but b2 v2,hn0,hn,fun v H3 tv v3 b3=>?_⟩
    have ho3:=b3 lo _ (Ne.symm hpo) ho2
    have hf3:=b3 lf _ (Ne.symm hpf) hf2
    obtain⟨_,hpv⟩:=jG v2
    have rp3:=RepAll.tieBut hpv b3 rp2
    have b3:=b2.trans b3
    refine⟨_,rfl,.non ⟨_,rfl,?_⟩⟩
    rcases tv with rfl | ⟨q,x,y,rfl,hq,hx,hy⟩
    ·refine gM (gM ?_)
     exact⟨_,_,refs,es,rfl,ho3,hf3,rp3,he2,by omega,v3,b3⟩
    ·refine iteT ?_
     have ax:=tZ (xs:=xs) (i:=x) (by omega)
     have ay:=tZ (xs:=xs) (i:=y) (by omega)
     refine⟨_,rfl,_,rfl,.tup (.of hq) rfl (.lst (.of ho3) ax ⟨_,rfl,_,rfl,.tup (.of hq) rfl (.lst (.of ho3) ay ⟨(by show 2<=sizeLine;decide),fun tq htq=>?_⟩)⟩)⟩
     have sq:=Same.new (o:=.tup [V.int ((xs[x]:Nat):Int),V.int ((xs[y]:Nat):Int)]) htq
     have hpq:=v3.ne htq
     refine⟨_,rfl,.tr (sq _ _ hf3) (rp3.same sq) (jn (i:=xs[x]) (j:=xs[y]) cF) (hV es) rfl (by show 1<=16;decide) ⟨_,rfl,?_⟩⟩
     have ho4:=sq _ _ ho3
     have hf4:=sq _ _ hf3
     have hq4:=sq _ _ hq
     have rp4:=rp3.same sq
     have v4:PenV _ p a:=v3.upd (o:=.tup [V.int ((xs[x]:Nat):Int),V.int ((xs[y]:Nat):Int)]) hpq
     have b4:=b3.at (o:=.tup [V.int ((xs[x]:Nat):Int),V.int ((xs[y]:Nat):Int)]) (b3.free (Ne.symm hpq) htq)
     generalize upd H3 tq (.tup [V.int ((xs[x]:Nat):Int),V.int ((xs[y]:Nat):Int)])=H4 at ho4 hf4 hq4 rp4 v4 b4 ⊢
     refine df (fun _=>?_) (fun _=>?_)
     ·refine⟨_, rfl, .inl ⟨rfl, _, .of hf4⟩, ?_⟩
      refine⟨_,rfl,_,rfl,.tup (.of hq4) rfl (.lst (.of ho4) ax ⟨_,rfl,_,rfl,.tup (.of hq4) rfl (.lst (.of ho4) ay ⟨(by show 2<=sizeLine;decide),fun tr htr=>?_⟩)⟩)⟩
      have sr:=Same.new (o:=.tup [V.int ((xs[x]:Nat):Int),V.int ((xs[y]:Nat):Int)]) htr
      have hpr:=v4.ne htr
      have hlr:lf≠tr:=cL hf4 htr
      have rlen:=rp4.len
      rw[ac] at rlen
      refine⟨lf,_,_,rfl,rfl,sr _ _ hf4,by rw[rlen];exact cN (by omega),?_⟩
      refine⟨_,_,refs++[.ref tr],es++[(xs[x],xs[y])],rfl,?_,cF,?_,?_,?_,?_,?_⟩
      ·rw[cH hof];exact sr _ _ ho4
      ·rw[aj]
       refine RepAll.append ?_ (.cons ?_ .nil)
       ·exact RepAll.tieBut (p:=lf) (sr _ _ hf4) But.upd (rp4.same sr)
       ·refine jn ?_
        rw[cH (Ne.symm hlr)];exact cF
      ·intro e he
       rcases ar.mp he with he | he
       ·exact he2 e he
       ·rw[aI.mp he]
        exact⟨hx1 _ (bU _),hx1 _ (bU _)⟩
      ·rw[az];show _+1<=_;omega
      ·exact(v4.upd hpr).upd hpf
      ·exact(b4.at (b4.free (Ne.symm hpr) htr)).at hf0
     ·exact⟨_,_,refs,es,rfl,ho4,hf4,rp4,he2,by omega,v4,b4⟩
   ·rintro σ H2 ⟨o5, o7, refs, es, rfl, ho2, hf2, rp2, he2, hl2, v2, b2⟩
    have hl2:es.length<=c:=by simpa using hl2
    have rlen:=rp2.len
    rw[ac] at rlen
    refine⟨_,rfl,.sc rfl ⟨_,rfl,?_⟩⟩
    refine df (fun _=>?_) (fun _=>?_)
    ·refine⟨_, rfl, (by show 0 <= sizeLine; decide), fun le hle => ?_⟩
     have se:=Same.new (o:=.lst []) hle
     have hpe:=v2.ne hle
     refine .tr (.lst (se _ _ hf2) (rp2.same se)) (.lst cF .nil) (vO es) (by rfl) ⟨_,rfl,?_⟩
     have hf3:=se _ _ hf2
     have rp3:=rp2.same se
     have v3:PenV _ p a:=v2.upd (o:=.lst []) hpe
     have b3:=b2.at (o:=.lst []) (b2.free (Ne.symm hpe) hle)
     generalize upd H2 le (.lst [])=H3 at hf3 rp3 v3 b3 ⊢
     refine df (fun hne=>?_) (fun _=>?_)
     ·have hpos:0<es.length := by
         cases es with
         | nil=>exact absurd hne (by decide)
         | cons e es=>simp
      refine⟨_,rfl,_,rfl,_,rfl,_,_,rfl,Or.inl ⟨_,.of hf3,rfl⟩,p,a,_,rfl,hP.but b3 v3,by omega,by rw[rlen];omega,fun r H4 h0 h1 v4 e4=>?_⟩
      obtain⟨j,rfl⟩:=bf h0
      have hj:j<refs.length:=by omega
      have hf4:=(e4 lf (Ne.symm hpf)).trans hf3
      obtain⟨_,hpv⟩:=jG v3
      have rp4:=RepAll.tieBut hpv (But.of_eq e4) rp3
      have b4:=b3.trans (But.of_eq e4)
      have gj:refs[j]? = some refs[j]:=by simp[hj]
      obtain⟨d,hd,rd⟩:=rp4.get gj
      rw[al] at hd
      obtain⟨e,he,rfl⟩:∃e,es[j]? = some e/\fh e=d:=by
       cases q:es[j]? with
       | none=>rw[q] at hd;cases hd
       | some e=>rw[q] at hd;exact⟨e,rfl,af hd⟩
      obtain⟨ta,eta,hta⟩:=jm rd
      rw[eta] at gj
      have hev:=he2 e (av he)
      refine .lst (.of hf4) (gy gj) ?_
      refine⟨ta,_,rfl,.of hta,rfl,_,_,rfl,_,_,rfl,rfl,?_⟩
      refine⟨_,rfl,_,rfl,(by show 2<=sizeLine;decide),fun tq htq=>?_⟩
      have sq:=Same.new (o:=.tup [V.int ((e.2:Nat):Int),V.int ((e.1:Nat):Int)]) htq
      have hpq:=v4.ne htq
      refine⟨_,rfl,.tr (sq _ _ hf4) (rp4.same sq) (jn (i:=e.2) (j:=e.1) cF) (hV es) rfl (by show 1<=16;decide) ⟨_,rfl,?_⟩⟩
      have hf5:=sq _ _ hf4
      have rp5:=rp4.same sq
      have v5:PenV _ p a:=v4.upd (o:=.tup [V.int ((e.2:Nat):Int),V.int ((e.1:Nat):Int)]) hpq
      have b5:=b4.at (o:=.tup [V.int ((e.2:Nat):Int),V.int ((e.1:Nat):Int)]) (b4.free (Ne.symm hpq) htq)
      generalize upd H4 tq (.tup [V.int ((e.2:Nat):Int),V.int ((e.1:Nat):Int)])=H5 at hf5 rp5 v5 b5 ⊢
      refine df (fun _=>?_) (fun _=>?_)
      ·refine⟨_, rfl, _, _, rfl, Or.inl ⟨_, .of hf5, rfl⟩, .int ⟨_, rfl, ?_⟩⟩
       refine df (fun _=>?_) (fun _=>?_)
       ·refine⟨_, rfl, .inl ⟨rfl, _, .of hf5⟩, _, rfl, _, rfl, _, _, rfl, Or.inl ⟨_, .of hf5, rfl⟩, .int ⟨p, a, _, rfl, hP.but b5 v5, by omega, by rw[rlen]; omega, fun r6 H6 h60 h61 v6 e6 => ?_⟩⟩
        obtain⟨j6,rfl⟩:=bf h60
        have hf6:=(e6 lf (Ne.symm hpf)).trans hf5
        obtain⟨_,hpv5⟩:=jG v5
        have rp6:=RepAll.tieBut hpv5 (But.of_eq e6) rp5
        have b6:=b5.trans (But.of_eq e6)
        refine⟨_,rfl,_,rfl,(by show 2<=sizeLine;decide),fun tr htr=>?_⟩
        have sr:=Same.new (o:=.tup [V.int ((e.2:Nat):Int),V.int ((e.1:Nat):Int)]) htr
        have hpr:=v6.ne htr
        have hlr:lf≠tr:=cL hf6 htr
        refine⟨lf,_,_,j6,_,rfl,rfl,rfl,sr _ _ hf6,by omega,by rw[rlen];exact cN (by omega),?_⟩
        refine⟨_,rfl,k lf _ (es.take j6++(e.2,e.1)::es.drop j6) _ cF ?_ ?_ ?_ (Ne.symm hpf) ((v6.upd hpr).upd hpf) ((b6.at (b6.free (Ne.symm hpr) htr)).at hf0)⟩
        ·rw[aj,aZ,cg,List.map_drop]
         have rp7:=RepAll.tieBut (p:=lf) (H':=upd (upd H6 tr (.tup [V.int ((e.2:Nat):Int),V.int ((e.1:Nat):Int)])) lf (.lst (refs.take j6++V.ref tr::refs.drop j6))) (sr _ _ hf6) But.upd (rp6.same sr)
         refine RepAll.append (rp7.take j6) (.cons ?_ (rp7.drop j6))
         refine jn ?_
         rw[cH (Ne.symm hlr)];exact cF
        ·intro x hx
         rcases ar.mp hx with hx | hx
         ·exact he2 x (cy hx)
         ·rcases am.mp hx with rfl | hx
          ·exact⟨hev.2,hev.1⟩
          ·exact he2 x (List.mem_of_mem_drop hx)
        ·simp only[az,aN,aF,bO]
         omega
       ·exact⟨_,rfl,k lf refs es H5 hf5 rp5 he2 (by omega) (Ne.symm hpf) v5 b5⟩
      ·exact gM ⟨_,rfl,k lf refs es H5 hf5 rp5 he2 (by omega) (Ne.symm hpf) v5 b5⟩
     ·exact⟨_,rfl,k lf refs es H3 hf3 rp3 he2 (by omega) (Ne.symm hpf) v3 b3⟩
    ·exact gM ⟨_,rfl,k lf refs es H2 hf2 rp2 he2 (by omega) (Ne.symm hpf) v2 b2⟩
structure Built (H:Hp) (n t:Addr) (ss:List Str) (es:List (Nat × Nat)):Prop where
 nm:H n=some (.lst (List.map V.str ss))
 nd:ss.Nodup
 ok:∀s∈ss,Nm s
 len:ss.length<=60
 ti:∃refs,H t=some (.lst refs)/\RepAll H refs (es.map fh)
 val:∀e∈es,e.1<ss.length/\e.2<ss.length
 few:es.length<=401
theorem Built.same {H H':Hp}{n t:Addr}{ss:List Str}{es:List (Nat × Nat)}(h:Built H n t ss es) (s:Same H H'):Built H' n t ss es :=
 ⟨s _ _ h.nm,h.nd,h.ok,h.len,let ⟨refs,a,b⟩:=h.ti;⟨refs,s _ _ a,b.same s⟩,h.val,h.few⟩
theorem Built.but {H H':Hp}{p n t:Addr}{ss:List Str}{es:List (Nat × Nat)}(h:Built H n t ss es) {ys:List V}(hp:H p=some (.lst ys)) (b:But p H H') (hn:n≠p) (ht:t≠p):Built H' n t ss es :=
 ⟨b _ _ hn h.nm,h.nd,h.ok,h.len,let ⟨refs,a,c⟩:=h.ti;⟨refs,b _ _ ht a,RepAll.tieBut hp b c⟩,h.val,h.few⟩
def mE (K:W.Frag):Sp:=fun vs H Q _=>∃(p a:Addr),vs=[.ref p]/\Pen K H p a /\
 ∀q n t ss es H',H' q=some (.tup [.ref n,.ref t])->Built H' n t ss es->n≠p->t≠p->PenV H' p a->But p H H'->Q (.ref q) H'
theorem scBuilt:FnScope ["_law_pen","_law_size","_law_names_here","_law_kind","_law_count"] ["_law_pen"] (cI jh):=⟨rfl,rfl,rfl,by decide +kernel,rfl,by decide +kernel,by decide +kernel⟩
theorem vk {f:Addr}{fd:FuncData}(F:Fun K "_law_built" "_law_built" jh f fd) (B:Blt mg) (c_law_take:Cal P w K mg base 1 "_law_take" ["_law_pen", "_law_many"] (iq K)) (c_law_names:Cal P w K mg base 2 "_law_names" ["_law_pen", "_law_many"] (mv K))
    (c_law_ties:Cal P w K mg base 3 "_law_ties" ["_law_pen","_law_size","_law_count","_law_kind"] (oO K)):FnOk P w K mg base CX0 4 f fd ["_law_pen"] (mE K):=by
 refine F.ok scBuilt (fun vs H Q E h=>?_) (fun cdv A outer s H vs Q E hr h=>?_)
 ·obtain⟨p,a,rfl,_⟩:=h
  rfl
 ·obtain⟨p, a, rfl, hP, k⟩ := h
  have nd:=scBuilt.nd
  refine⟨_,(cG (cQ (i:=1) nd rfl (Or.inl rfl) (cP c_law_take (hr.mono (by decide)) rfl (cC (pv 0) (cC cK cE))))
   (cG (dG (cU (dO hr.units) (cP c_law_take (hr.mono (by decide)) rfl (cC (pv 0) (cC cK cE))) cK (dg _)) (cJ (cQ (i:=1) nd rfl (Or.inl rfl) (cW jU cK (cP c_law_take (hr.mono (by decide)) rfl (cC (pv 0) (cC cK cE)))))) dk)
   (cG (cQ (i:=2) nd rfl (Or.inl rfl) (cP c_law_names (hr.mono (by decide)) rfl (cC (pv 0) (cC (pv 1) cE))))
   (cG (cQ (i:=3) nd rfl (Or.inl rfl) (cR (cX K hr.units) (dC (cC cK (cC cK (cC cK (cC cK cE))))) (cP c_law_take (hr.mono (by decide)) rfl (cC (pv 0) (cC cK cE))) (fun _ _=>rfl)))
   (cG (cQ (i:=4) nd rfl (Or.inl rfl) (cP c_law_take (hr.mono (by decide)) rfl (cC (pv 0) (cC (cW dh (cW ij cK (pv 1)) cK) cE))))
   (cG (dG (cU jq (pv 1) cK (dg _)) (cJ (cQ (i:=4) nd rfl (Or.inl rfl) (cP c_law_take (hr.mono (by decide)) rfl (cC (pv 0) (cC cK cE))))) dk)
   (cG (dG (cU (dO hr.units) (pv 1) cK (dg _)) (cJ (cS (d8 (cC (pv 2) (cC (dC cE) cE))))) dk)
   (cJ (cS (d8 (cC (pv 2) (cC (cP c_law_ties (hr.mono (by decide)) rfl (cC (pv 0) (cC (pv 1) (cC (pv 4) (cC (pv 3) cE))))) cE)))))))))))),?_⟩
  refine⟨_,rfl,p,a,13,rfl,hP,by decide,by decide,fun r1 H1 h10 h11 v1 e1=>?_⟩
  have b1:=But.of_eq e1
  obtain⟨m0,rfl⟩:=bf h10
  have hm:m0<=60:=by omega
  refine⟨_,rfl,p,a,8,rfl,hP.but b1 v1,by decide,by decide,fun r2 H2 h20 h21 v2 e2=>.sc rfl ⟨_,rfl,?_⟩⟩
  have b2:=b1.trans (But.of_eq e2)
  refine df (fun _=>?a) (fun _=>?b)
  case' a =>
   refine⟨_,rfl,p,a,21,rfl,hP.but b2 v2,by decide,by decide,fun r3 H3 h30 h31 v3 e3=>⟨_,_,rfl,rfl,?_⟩⟩
   have b2:=b2.trans (But.of_eq e3)
   have v2:=v3
   obtain⟨m,em⟩:=bf (show 0<=60-r3 by omega)
   have hm:m<=60:=by omega
   dsimp only
   rw[em]
  case' b =>
   obtain⟨m,rfl⟩:∃m,m=m0:=⟨_,rfl⟩
  all_goals
   all_goals
    refine⟨_,rfl,_,rfl,p,a,m,rfl,hP.but b2 v2,hm,fun ln ss H5 hl5 hnd5 hnm5 hln5 hnp5 v5 b5=>?_⟩
    have b5:=b2.trans b5
    refine⟨(by show 4<=sizeLine;decide),fun l hl=>?_⟩
    have hpl:=v5.ne hl
    have hnl:ln≠l:=cL hln5 hl
    have b5':=b5.at (o:=.lst [V.int 0,V.int 1,V.int 2,V.int 1]) (b5.free (Ne.symm hpl) hl)
    refine⟨_,rfl,p,a,4,rfl,hP.but b5' (v5.upd hpl),by decide,by decide,fun r6 H6 h60 h61 v6 e6=>?_⟩
    have hl6:H6 l=some (.lst [V.int 0,V.int 1,V.int 2,V.int 1]):=(e6 l (Ne.symm hpl)).trans cF
    have hln6:H6 ln=some (.lst (List.map V.str ss)):=by rw[e6 ln hnp5,cH hnl];exact hln5
    have b6:=b5'.trans (But.of_eq e6)
    obtain⟨kd,ekd⟩:∃kd,atI [V.int 0,V.int 1,V.int 2,V.int 1] r6=some (.int kd):=by
     have hr6:r6=0∨r6=1∨r6=2∨r6=3:=by omega
     rcases hr6 with rfl | rfl | rfl | rfl <;> exact⟨_,rfl⟩
    refine .lst (.of hl6) ekd ?_
    refine⟨_,rfl,_,rfl,_,_,rfl,rfl,.inl ⟨by decide,by decide⟩,.int ⟨p,a,_,rfl,hP.but b6 v6,by omega,by omega,fun r7 H7 h70 h71 v7 e7=>?_⟩⟩
    have hln7:=(e7 ln hnp5).trans hln6
    have b7:=b6.trans (But.of_eq e7)
    obtain⟨c0,rfl⟩:=bf h70
    refine⟨_,rfl,_,_,rfl,rfl,_,rfl,?_⟩
    refine df (fun _=>?_) (fun _=>?_)
    all_goals first
     | (refine⟨_,rfl,p,a,61,rfl,hP.but b7 v7,by decide,by decide,fun r8 H8 h80 h81 v8 e8=>?_⟩
        have hln7:=(e8 ln hnp5).trans hln7
        have b7:=b7.trans (But.of_eq e8)
        have v7:=v8
        obtain⟨c,rfl⟩:=bf h80
        have hc:c<=400:=by omega)
     | (have hc:c0<=400:=by omega
        obtain⟨c,rfl⟩:∃c,c=c0:=⟨_,rfl⟩)
    all_goals
     refine⟨_,rfl,.sc rfl ⟨_,rfl,?_⟩⟩
     refine df (fun _=>?_) (fun hz=>?_)
     ·refine⟨_,rfl,(by show 0<=sizeLine;decide),fun le hle=>⟨(by show 2<=sizeLine;decide),fun q hq=>?_⟩⟩
      have s1:=Same.new (o:=.lst []) hle
      have s2:=Same.new (o:=.tup [V.ref ln,V.ref le]) hq
      have hpe:=v7.ne hle
      have hpq:=(v7.upd (o:=.lst []) hpe).ne hq
      have b8:=b7.at (o:=.lst []) (b7.free (Ne.symm hpe) hle)
      exact k q ln le ss [] _ cF ⟨(s1.trans s2) _ _ hln7,hnd5,hnm5,by omega,⟨[],s2 _ _ cF,.nil⟩,(fun e he=>by cases he),by simp⟩ hnp5 (Ne.symm hpe) ((v7.upd hpe).upd hpq) (b8.at (b8.free (Ne.symm hpq) hq))
     ·have hm0:m≠0:=by
         rintro rfl
         exact hz (by rfl)
      refine⟨_,rfl,_,rfl,_,rfl,_,rfl,_,rfl,p,a,m,c,kd,rfl,hP.but b7 v7,by omega,hm,hc,fun lt refs es H9 hlt rp hval hlen hltp v9 b9=>⟨(by show 2<=sizeLine;decide),fun q hq=>?_⟩⟩
      have hln9:=b9 ln _ hnp5 hln7
      have b9:=b7.trans b9
      have s2:=Same.new (o:=.tup [V.ref ln,V.ref lt]) hq
      have hpq:=v9.ne hq
      exact k q ln lt ss es _ cF ⟨s2 _ _ hln9,hnd5,hnm5,by omega,⟨refs,s2 _ _ hlt,rp.same s2⟩,(fun e he=>by rw[hl5];exact hval e he),hlen⟩ hnp5 hltp (v9.upd hpq) (b9.at (b9.free (Ne.symm hpq) hq))
def nmP (ss:List Str) (e:Nat × Nat):Str × Str:=(ss.getD e.1 "",ss.getD e.2 "")
theorem mt {ss:List Str}{i:Nat}(h:i<ss.length):atI (List.map V.str ss) (i:Int)=some (.str (ss.getD i "")):=gy (by simp[h,aQ])
theorem Rep.pairBut {H H':Hp}{p:Addr}{ys:List V}(hp:H p=some (.lst ys)) (b:But p H H') {v:V}{e:Str × Str}(h:Rep H v (er e)):Rep H' v (er e):=by
 obtain⟨a,rfl,ha⟩:=jd h
 exact oq (b a _ (ft ha hp (by intro z;cases z)) ha)
theorem RepAll.pairBut {H H':Hp}{p:Addr}{ys:List V}(hp:H p=some (.lst ys)) (b:But p H H'):∀ {es:List (Str × Str)}{xs:List V},RepAll H xs (es.map er)->RepAll H' xs (es.map er)
 | [],xs,h=>by rw[RepAll.nilI h];exact .nil
 | e::es,xs,h=>by
  obtain⟨y,ys',rfl,a,c⟩:=RepAll.consI h
  exact .cons (Rep.pairBut hp b a) (RepAll.pairBut hp b c)
theorem zR {x:V}{q:Addr}{u v:V}{σ:St}{H:Hp}{A B:St->Hp->Prop}(hx:x=.ref q) (hq:SqT K H q [u,v]) (h:A ((σ.set 0 (some u)).set 1 (some v)) H) :
    vU K 2 (rC (kH 0) (rC (kH 1) yi)) x σ H fun σ2 H3=>uJ σ2 H3 fun b H4=>if b=true then A σ2 H4 else B σ2 H4:=by
 subst hx
 refine⟨q,_,rfl,hq,rfl,_,_,rfl,_,_,rfl,rfl,?_⟩
 show (if true=true then A ((σ.set 0 (some u)).set 1 (some v)) H else B ((σ.set 0 (some u)).set 1 (some v)) H)
 rw[if_pos rfl]
 exact h
def qj:Sp:=fun vs H Q _=>∃n t ss es,vs=[.ref n,.ref t]/\Built H n t ss es/\∀q H',Same H H'->Rep H' (.ref q) (gQ ss (es.map (nmP ss)))->Q (.ref q) H'
theorem scWeb:FnScope ["_law_names_here","_law_ties_here"] ["_law_names_here","_law_ties_here"] (cI li):=⟨rfl,rfl,rfl,by decide +kernel,rfl,by decide +kernel,by decide +kernel⟩
theorem zj {f:Addr}{fd:FuncData}(F:Fun K "_law_web" "_law_web" li f fd) (B:Blt mg):FnOk P w K mg base CX0 1 f fd ["_law_names_here", "_law_ties_here"] qj := by
 refine F.ok scWeb (fun vs H Q E h=>?_) (fun cdv A outer s H vs Q E hr h=>?_)
 ·obtain⟨n,t,ss,es,rfl,_⟩:=h
  rfl
 ·obtain⟨n, t, ss, es, rfl, hB, k⟩ := h
  have nd:=scWeb.nd
  refine⟨_,(cJ (cS (d8 (cC (iC K B (cC (pv 0) cE)) (cC (iC K B (cC (dN (cI li) ["_law_names_here","_law_ties_here"] ["_law_one","_law_other"] [0] ["_law_one","_law_other","_law_names_here"] rfl (dI K (pv 1)) (fun _ _ _ _ _=>(gH (n:=2) K rfl (d4 (cT (i:=0) (show (["_law_one","_law_other","_law_names_here"]:List Str).Nodup by decide) rfl (Or.inl rfl)) (d4 (cT (i:=1) (show (["_law_one","_law_other","_law_names_here"]:List Str).Nodup by decide) rfl (Or.inl rfl)) gB)))) (fun _ _ _ _ _=>eM) (fun _ _ _ _ _=>(d8 (cC (cR (cX K hr.units) (pv 2) (pv 0) (fun _ _=>rfl)) (cC (cR (cX K hr.units) (pv 2) (pv 1) (fun _ _=>rfl)) cE))))) cE)) cE))))),?_⟩
  refine⟨_,rfl,n,_,rfl,.of hB.nm,fun l1 h1=>?_⟩
  have s1:=Same.new (o:=.tup (List.map V.str ss)) h1
  have e1:upd H l1 (.tup (List.map V.str ss)) l1=some (.tup (List.map V.str ss)):=cF
  have hB1:=hB.same s1
  generalize upd H l1 (.tup (List.map V.str ss))=H1 at s1 e1 hB1 ⊢
  obtain⟨refs,ht,rp⟩:=hB1.ti
  have rlen:=rp.len
  rw[ac] at rlen
  refine⟨_,rfl,t,rfl,⟨_,.of ht⟩,?_⟩
  refine fg refs (fun D i acc σ' H'=>∃o1 o2,σ'=[o1,o2,some (.ref n)]/\RepAll H' acc (((es.take i).map (nmP ss)).map er)/\Same H1 H'/\H1 D=none) fun D hD=>⟨?_,?_,?_,?_⟩
  ·exact⟨none,none,rfl,.nil,Same.new hD,hD⟩
  ·rintro i acc σ' H' _ ⟨o1,o2,rfl,_,sm,_⟩ _
   exact .of (sm _ _ ht)
  ·rintro i acc σ' H' x hx ⟨o1,o2,rfl,rpa,sm,hD0⟩ hacc
   obtain⟨d,hd,rd⟩:=(rp.same sm).get hx
   rw[al] at hd
   obtain⟨e,he,rfl⟩:∃e,es[i]? = some e/\fh e=d:=by
    cases q:es[i]? with
    | none=>rw[q] at hd;cases hd
    | some e=>rw[q] at hd;exact⟨e,rfl,af hd⟩
   obtain⟨ta,eta,hta⟩:=jm rd
   have hev:=hB1.val e (av he)
   have hn':=sm _ _ hB1.nm
   have alen:=rpa.len
   simp only[ac,aF] at alen
   have hil:=(ai.mp he).1
   refine zR eta (.of hta) ?_
   refine⟨_,rfl,_,rfl,.lst (.of hn') (mt hev.1) ⟨_,rfl,_,rfl,.lst (.of hn') (mt hev.2) ⟨(by show 2<=sizeLine;decide),fun q hq=>?_⟩⟩⟩
   have sq:=Same.new (o:=.tup [V.str (ss.getD e.1 ""),V.str (ss.getD e.2 "")]) hq
   have hDq:D≠q:=cL hacc hq
   refine⟨sq _ _ hacc,cN (by have:=hB1.few;omega),_,_,rfl,?_,?_,hD0⟩
   ·rw[aA,he,aj,aj]
    refine RepAll.append (RepAll.pairBut (p:=D) (sq _ _ hacc) But.upd (rpa.same sq)) (.cons ?_ .nil)
    refine oq ?_
    rw[cH (Ne.symm hDq)];exact cF
   ·intro b o hb
    rw[cH (cL hb hD0)]
    exact sq _ _ (sm _ _ hb)
  ·rintro acc σ' H' ⟨o1,o2,rfl,rpa,sm,hD0⟩ hacc
   rw[rlen,aB (ad _)] at rpa
   refine⟨D,_,rfl,.of hacc,fun l2 h2=>⟨(by show 2<=sizeLine;decide),fun q hq=>?_⟩⟩
   have s2:=Same.new (o:=.tup acc) h2
   have s3:=Same.new (o:=.tup [V.ref l1,V.ref l2]) hq
   refine k q _ ((s1.trans sm).trans (s2.trans s3)) (.tup cF (.cons (.tup ((sm.trans (s2.trans s3)) _ _ e1) (RepAll.of_strs ss)) (.cons (.tup (s3 _ _ cF) (rpa.same (s2.trans s3))) .nil)))
theorem scSame:FnScope ["_law_found","_law_due"] ["_law_found","_law_due"] (cI kA):=⟨rfl,rfl,rfl,by decide +kernel,rfl,by decide +kernel,by decide +kernel⟩
theorem xP {f:Addr}{fd:FuncData}(F:Fun K "_law_same" "_law_same" kA f fd) (B:Blt mg):FnOk P w K mg base CX0 1 f fd ["_law_found","_law_due"] og:=by
 refine F.ok scSame (fun vs H Q E h=>?_) (fun cdv A outer s H vs Q E hr h=>?_)
 ·obtain⟨x,y,d,rfl,_⟩:=h
  rfl
 ·obtain⟨x,y,d,rfl,r1,r2,S,k⟩:=h
  have nd:=scSame.nd
  refine⟨_,(cJ (cS (ii (gn (dO hr.units) (pv 0) (pv 1) (dg _)) (hZ (gn (dO hr.units) (sZ hr.gd hr.units B (cC (pv 0) cE)) (sZ hr.gd hr.units B (cC (pv 1) cE)) (dg _)))))),?_⟩
  refine⟨_,rfl,_,rfl,.tr r1 r2 S.sh S.sh ?_⟩
  rw[mT S.sh]
  refine⟨_,rfl,?_⟩
  refine df (fun _=>?_) (fun h=>absurd rfl h)
  refine⟨_,rfl,_,rfl,.tr r1 S.sb S.hd S.dp S.ln ⟨_,rfl,_,rfl,.tr r2 S.sb S.hd S.dp S.ln (.sc rfl ?_)⟩⟩
  have:decide (V.str d.shown=V.str d.shown)=true:=ao rfl
  show Q (.bl (decide (V.str d.shown=V.str d.shown))) _
  rw[this]
  exact k
theorem scPlaces:FnScope ["things","places","place","thing"] ["things"] (cI iE):=⟨rfl,rfl,rfl,by decide +kernel,rfl,by decide +kernel,by decide +kernel⟩
theorem oF {H:Hp}{refs:List V}{ps:List (Str × Str)}(rp:RepAll H refs (ps.map er)) {j:Nat}{x:V}(hx:refs[j]? = some x):∃e ta,ps[j]? = some e/\x=.ref ta/\H ta=some (.tup [.str e.1,.str e.2]):=by
 obtain⟨d,hd,rd⟩:=rp.get hx
 rw[al] at hd
 cases q:ps[j]? with
 | none=>rw[q] at hd;cases hd
 | some e =>
  rw[q] at hd
  have hd:er e=d:=af hd
  rw[<- hd] at rd
  obtain⟨ta,h1,h2⟩:=jd rd
  exact⟨e,ta,rfl,h1,h2⟩
theorem qb {ss:List Str}{i:Nat}{x:V}(h:(List.map V.str ss)[i]? = some x):∃s,ss[i]? = some s/\V.str s=x:=by
 rw[al] at h
 cases q:ss[i]? with
 | none=>rw[q] at h;cases h
 | some e=>rw[q] at h;exact⟨e,rfl,af h⟩
structure PlN (H H':Hp) (d:Addr) (xs:List Str) (i:Nat) (kvs:List (Key × V)):Prop where
 sm:Same H H'
 at_:H' d=some (.dK kvs)
 len:kvs.length<=i
 inn:∀s,(cY kvs (.inr s)).isSome=true ↔ s∈xs.take i
 ix:∀s v,cY kvs (.inr s)=some v->∃j:Nat,v=.int j/\xs[j]? = some s
 nd:(kvs.map (·.1)).Nodup
 ks:∀k∈kvs.map (·.1),∃s∈xs,k=Sum.inr s
theorem ow {kvs:List (Key × V)}{k:Key}{v:V}(h:(cY kvs k).isSome=true):(dL kvs k v).map (·.1)=kvs.map (·.1):=by
 unfold dL
 rw[if_pos (by rw[gg];exact h),aV]
 refine List.map_congr_left fun p _=>?_
 show (if p.1=k then (p.1,v) else p).1=p.1
 split <;> rfl
theorem PlN.step {H H':Hp}{d p:Addr}{xs:List Str}{i:Nat}{kvs:List (Key × V)}{t:Str}{o:HO}(h:PlN H H' d xs i kvs) (hd:H d=none) (hp:H' p=none) (ht:xs[i]? = some t) :
    PlN H (upd (upd H' p o) d (.dK (dL kvs (.inr t) (.int (i:Nat))))) d xs (i+1) (dL kvs (.inr t) (.int (i:Nat))):=by
 refine⟨?_,cF,?_,?_,?_,?_,?_⟩
 ·intro b o hb
  rw[cH (cL hb hd)]
  exact Same.new hp _ _ (h.sm _ _ hb)
 ·have:=eK kvs (.inr t) (V.int (i:Nat))
  have:=h.len
  omega
 ·intro s
  rw[fj,aA,ht,ar]
  by_cases q:s=t
  ·subst q
   simp
  ·rw[if_neg (fun z=>q (Sum.inr.inj z)),h.inn s]
   simp[q]
 ·intro s v e
  rw[fj] at e
  by_cases q:s=t
  ·subst q
   rw[if_pos rfl] at e
   exact⟨i,(af e).symm,ht⟩
  ·rw[if_neg (fun z=>q (Sum.inr.inj z))] at e
   exact h.ix s v e
 ·cases q:cY kvs (.inr t) with
  | none=>exact qe _ h.nd q
  | some v=>rw[ow (by rw[q];rfl)];exact h.nd
 ·intro k hk
  cases q:cY kvs (.inr t) with
  | none =>
   rw[lz _ q,aj] at hk
   rcases ar.mp hk with hk | hk
   ·exact h.ks k hk
   ·have:k=Sum.inr t:=by simpa using hk
    exact⟨t,av ht,this⟩
  | some v=>rw[ow (by rw[q];rfl)] at hk;exact h.ks k hk
theorem lH {f:Addr}{fd:FuncData}(F:Fun K "places_of" "places_of" iE f fd) (B:Blt mg):FnOk P w K mg base CX0 1 f fd ["things"] jS := by
 refine F.ok scPlaces (fun vs H Q E h=>?_) (fun cdv A outer s H vs Q E hr h=>?_)
 ·obtain⟨x,rfl,_⟩:=h
  rfl
 ·obtain⟨x, rfl, h⟩ := h
  have nd:=scPlaces.nd
  cases h with
  | @nm a xs _ ha hl k =>
   refine⟨_,(cG (cQ (i:=1) nd rfl (Or.inl rfl) fE)
   (cG (dY PassesOwn.never rfl (oE K rfl B.enumerate (cC (pv 0) cE)) (gH (n:=2) K rfl (d4 (cT (i:=2) nd rfl (Or.inl rfl)) (d4 (cT (i:=3) nd rfl (Or.inl rfl)) gB))) (cJ (fc (pv 2) (fv (pv 1) (pv 3) (fP hr.units)))))
   (cJ (cS (pv 1))))),?_⟩
   intro d hd
   have s0:=Same.new (o:=.dK []) hd
   have start:PlN H (upd H d (.dK [])) d xs 0 []:=⟨s0,cF,ad _,(fun s=>by simp[kX]),(fun s v e=>by cases e),bz,(fun k hk=>by cases hk)⟩
   rcases ha with ha | ha
   ·refine⟨_,rfl,_,rfl,.lst (.of (s0 _ _ ha)) ?_⟩
    refine oH (xs:=List.map V.str xs) (fun i σ H'=>∃o1 o2 kvs,σ=[some (.ref a),some (.ref d),o1,o2]/\PlN H H' d xs i kvs) ?_ ?_ ?_ ?_
    ·exact⟨none,none,[],rfl,start⟩
    ·rintro i σ H' hi ⟨o1,o2,kvs,rfl,pl⟩
     exact .of (pl.sm _ _ ha)
    ·rintro i x σ H' p hx ⟨o1,o2,kvs,rfl,pl⟩ hp
     obtain⟨t,ht,rfl⟩:=qb hx
     have hil:=(ai.mp ht).1
     have hdp:d≠p:=cL pl.at_ hp
     have:=pl.len
     refine⟨p,_,rfl,.of cF,rfl,_,_,rfl,_,_,rfl,rfl,?_⟩
     exact⟨_,rfl,_,rfl,_,rfl,.dic (DPut.k (k:=.inr t) (by rw[cH hdp];exact pl.at_) (cN (by omega))) ⟨_,_,_,rfl,pl.step hd hp ht⟩⟩
    ·rintro σ H' ⟨o1,o2,kvs,rfl,pl⟩
     have hin:=pl.inn
     rw[ac,aB (ad _)] at hin
     exact⟨_,rfl,k d kvs H' pl.sm hd pl.at_ hin pl.ix pl.nd pl.ks⟩
   ·refine⟨_,rfl,_,rfl,.tup (.of (s0 _ _ ha)) ?_⟩
    refine nq (xs:=List.map V.str xs) (fun i σ H'=>∃o1 o2 kvs,σ=[some (.ref a),some (.ref d),o1,o2]/\PlN H H' d xs i kvs) ?_ ?_ ?_ ?_
    ·exact⟨none,none,[],rfl,start⟩
    ·rintro i σ H' hi ⟨o1,o2,kvs,rfl,pl⟩
     exact .of (pl.sm _ _ ha)
    ·rintro i x σ H' p hx ⟨o1,o2,kvs,rfl,pl⟩ hp
     obtain⟨t,ht,rfl⟩:=qb hx
     have hil:=(ai.mp ht).1
     have hdp:d≠p:=cL pl.at_ hp
     have:=pl.len
     refine⟨p,_,rfl,.of cF,rfl,_,_,rfl,_,_,rfl,rfl,?_⟩
     exact⟨_,rfl,_,rfl,_,rfl,.dic (DPut.k (k:=.inr t) (by rw[cH hdp];exact pl.at_) (cN (by omega))) ⟨_,_,_,rfl,pl.step hd hp ht⟩⟩
    ·rintro σ H' ⟨o1,o2,kvs,rfl,pl⟩
     have hin:=pl.inn
     rw[ac,aB (ad _)] at hin
     exact⟨_,rfl,k d kvs H' pl.sm hd pl.at_ hin pl.ix pl.nd pl.ks⟩
  | @pr a refs ps _ ha rp hl k =>
   refine⟨_,(cG (cQ (i:=1) nd rfl (Or.inl rfl) vR)
   (cG (dY PassesOwn.never rfl (oE K rfl B.enumerate (cC (pv 0) cE)) (gH (n:=2) K rfl (d4 (cT (i:=2) nd rfl (Or.inl rfl)) (d4 (cT (i:=3) nd rfl (Or.inl rfl)) gB))) (cJ (fc (pv 2) (fv (pv 1) (pv 3) (fP hr.units)))))
   (cJ (cS (pv 1))))),?_⟩
   have rlen:=rp.len
   rw[ac] at rlen
   intro d hd
   have s0:=Same.new (o:=.dT []) hd
   have turn:∀(i:Nat) (e:Str × Str) (ta p:Addr) (H':Hp) (kvs:List (List Key × V)), Same H H' -> H' d=some (.dT kvs) -> kvs.length <= i -> i<ps.length -> (∀f:Str × Str, (cY kvs (pK f)).isSome=true ↔ f ∈ ps.take i) -> ps[i]? = some e -> H' p=none ->
       Same H (upd (upd H' p (.tup [.int (i:Nat),.ref ta])) d (.dT (dL kvs (pK e) (.int (i:Nat)))))/\(dL kvs (pK e) (V.int (i:Nat))).length<=i+1/\∀f:Str × Str,(cY (dL kvs (pK e) (V.int (i:Nat))) (pK f)).isSome=true ↔ f∈ps.take (i+1):=by
    intro i e ta p H' kvs sm hk hkl hi hin he hp
    refine⟨?_,?_,fun f=>?_⟩
    ·intro b o hb
     rw[cH (cL hb hd)]
     exact Same.new hp _ _ (sm _ _ hb)
    ·have:=eK kvs (pK e) (V.int (i:Nat))
     omega
    ·rw[fj,aA,he,ar]
     by_cases q:f=e
     ·subst q;simp
     ·rw[if_neg (fun z=>q (zg z)),hin f]
      simp[q]
   rcases ha with ha | ha
   ·refine⟨_,rfl,_,rfl,.lst (.of (s0 _ _ ha)) ?_⟩
    refine oH (xs:=refs) (fun i σ H'=>∃o1 o2 kvs,σ=[some (.ref a),some (.ref d),o1,o2]/\Same H H'/\H' d=some (.dT kvs)/\kvs.length<=i/\∀f:Str × Str,(cY kvs (pK f)).isSome=true ↔ f∈ps.take i) ?_ ?_ ?_ ?_
    ·exact⟨none,none,[],rfl,s0,cF,ad _,fun s=>by simp[kX]⟩
    ·rintro i σ H' hi ⟨o1,o2,kvs,rfl,sm,_⟩
     exact .of (sm _ _ ha)
    ·rintro i x σ H' p hx ⟨o1,o2,kvs,rfl,sm,hk,hkl,hin⟩ hp
     obtain⟨e,ta,he,rfl,hta⟩:=oF (rp.same sm) hx
     have hil:=(ai.mp he).1
     have hdp:d≠p:=cL hk hp
     obtain⟨g1,g2,g3⟩:=turn i e ta p H' kvs sm hk hkl hil hin he hp
     refine⟨p,_,rfl,.of cF,rfl,_,_,rfl,_,_,rfl,rfl,?_⟩
     exact⟨_,rfl,_,rfl,_,rfl,.dic (DPut.t (k:=pK e) (by rw[cH hdp];exact hk) (Same.new hp _ _ hta) (cN (by omega))) ⟨_,_,_,rfl,g1,cF,g2,g3⟩⟩
    ·rintro σ H' ⟨o1,o2,kvs,rfl,sm,hk,hkl,hin⟩
     rw[rlen,aB (ad _)] at hin
     exact⟨_,rfl,k d kvs H' sm hd hk hin⟩
   ·refine⟨_,rfl,_,rfl,.tup (.of (s0 _ _ ha)) ?_⟩
    refine nq (xs:=refs) (fun i σ H'=>∃o1 o2 kvs,σ=[some (.ref a),some (.ref d),o1,o2]/\Same H H'/\H' d=some (.dT kvs)/\kvs.length<=i/\∀f:Str × Str,(cY kvs (pK f)).isSome=true ↔ f∈ps.take i) ?_ ?_ ?_ ?_
    ·exact⟨none,none,[],rfl,s0,cF,ad _,fun s=>by simp[kX]⟩
    ·rintro i σ H' hi ⟨o1,o2,kvs,rfl,sm,_⟩
     exact .of (sm _ _ ha)
    ·rintro i x σ H' p hx ⟨o1,o2,kvs,rfl,sm,hk,hkl,hin⟩ hp
     obtain⟨e,ta,he,rfl,hta⟩:=oF (rp.same sm) hx
     have hil:=(ai.mp he).1
     have hdp:d≠p:=cL hk hp
     obtain⟨g1,g2,g3⟩:=turn i e ta p H' kvs sm hk hkl hil hin he hp
     refine⟨p,_,rfl,.of cF,rfl,_,_,rfl,_,_,rfl,rfl,?_⟩
     exact⟨_,rfl,_,rfl,_,rfl,.dic (DPut.t (k:=pK e) (by rw[cH hdp];exact hk) (Same.new hp _ _ hta) (cN (by omega))) ⟨_,_,_,rfl,g1,cF,g2,g3⟩⟩
    ·rintro σ H' ⟨o1,o2,kvs,rfl,sm,hk,hkl,hin⟩
     rw[rlen,aB (ad _)] at hin
     exact⟨_,rfl,k d kvs H' sm hd hk hin⟩
theorem rD (vs:List V) (H:Hp) (Q:VK) (E:XK) (h:jN vs H Q E):jS vs H Q E:=by
 obtain⟨a,xs,rfl,ha,hl,k⟩:=h
 exact⟨_,rfl,.nm (.inl ha) hl fun d kvs H' s h0 h1 h2 h3 _ _=>k d kvs H' s h0 h1 h2 h3⟩
theorem nL {ts:List (Str × Str)}{s t:Str}:t ∈ (ts.filter fun e => decide (e.1=s)).map (fun e => e.2) ↔ (s, t) ∈ (if false then dM ts else ts) := by
 rw[aq]
 constructor
 ·rintro⟨⟨x,y⟩,h,rfl⟩
  have h:=aw.mp h
  have h2:=au h.2
  subst h2
  first
   | exact h.1
   | exact mem_flip.mpr h.1
 ·intro h
  first
   | exact⟨(s,t),aw.mpr ⟨h,ao rfl⟩,rfl⟩
   | exact⟨(t,s),aw.mpr ⟨mem_flip.mp h,ao rfl⟩,rfl⟩
theorem scNexts:FnScope ["web","one","found"] ["web","one"] (cI ig):=⟨rfl,rfl,rfl,by decide +kernel,rfl,by decide +kernel,by decide +kernel⟩
theorem vj {f:Addr}{fd:FuncData}(F:Fun K "nexts" "nexts" ig f fd) (B:Blt mg) (cplaces_of:Cal P w K mg base 1 "places_of" ["things"] jN):FnOk P w K mg base CX0 2 f fd ["web", "one"] (gk false) := by
 refine F.ok scNexts (fun vs H Q E h=>?_) (fun cdv A outer s H vs Q E hr h=>?_)
 ·obtain⟨q,ss,ts,s,rfl,_⟩:=h
  rfl
 ·obtain⟨q, ss, ts, s, rfl, W, k⟩ := h
  have nd:=scNexts.nd
  refine⟨_,(cG (cQ (i:=2) nd rfl (Or.inr rfl) (cP cplaces_of (hr.mono (by decide)) rfl (cC (dN (cI ig) ["web","one","found"] ["tie"] [1] ["tie","one"] rfl (ei K (cR (cX K hr.units) (pv 0) cK (fun _ _=>rfl))) (fun _ _ _ _ _=>(cT (i:=0) (show (["tie","one"]:List Str).Nodup by decide) rfl (Or.inl rfl))) (fun _ _ _ _ _=>(gJ (cU (dO hr.units) (cR (cX K hr.units) (pv 0) cK (fun _ _=>rfl)) (pv 1) (dg _)))) (fun _ _ _ _ _=>(cR (cX K hr.units) (pv 0) cK (fun _ _=>rfl)))) cE)))
   (cJ (cS (dN (cI ig) ["web","one","found"] ["thing"] [2] ["thing","found"] rfl (ei K (cR (cX K hr.units) (pv 0) cK (fun _ _=>rfl))) (fun _ _ _ _ _=>(cT (i:=0) (show (["thing","found"]:List Str).Nodup by decide) rfl (Or.inl rfl))) (fun _ _ _ _ _=>(gJ (cU (jk K hr.units) (pv 0) (pv 1) (by with_unfolding_all rfl)))) (fun _ _ _ _ _=>(pv 0)))))),?_⟩
  obtain⟨q,a,b,xs,rfl,hq,ha,hb,rp⟩:=gT W.rep
  have rlen:=rp.len
  rw[ac] at rlen
  refine⟨_,rfl,.tup (.of hq) rfl ⟨_,rfl,⟨_,.of hb⟩,?_⟩⟩
  refine gi xs (fun D i acc σ' H'=>∃o,σ'=[o,some (.str s)]/\acc=((ts.take i).filter fun e=>decide (e.1=s)).map (fun e=>V.str e.2)/\Same H H'/\H D=none) fun D hD=>⟨?_,?_,?_,?_⟩
  ·exact⟨none,rfl,rfl,Same.new hD,hD⟩
  ·rintro i acc σ' H' _ ⟨o,rfl,_,sm,_⟩ _
   exact .of (sm _ _ hb)
  ·rintro i acc σ' H' x hx ⟨o, rfl, hacc0, sm, hD0⟩ hacc
   obtain⟨d,hd,rd⟩:=(rp.same sm).get hx
   rw[al] at hd
   obtain⟨e,he,rfl⟩:∃e,ts[i]? = some e/\er e=d:=by
    cases q:ts[i]? with
    | none=>rw[q] at hd;cases hd
    | some e=>rw[q] at hd;exact⟨e,rfl,af hd⟩
   obtain⟨ta,rfl,hta⟩:=jd rd
   have hil:=(ai.mp he).1
   refine⟨_,rfl,.tup (.of hta) rfl ⟨_,rfl,.sc rfl ⟨_,rfl,?_⟩⟩⟩
   refine df (fun h1=>?_) (fun h1=>?_)
   ·have h1:e.1=s:=V.str.inj (au h1)
    refine⟨_,rfl,.tup (.of hta) rfl ⟨hacc,?_,_,rfl,?_,?_,hD0⟩⟩
    ·rw[hacc0,ac]
     have h2:=bd (fun e:Str × Str=>decide (e.1=s)) (ts.take i)
     rw[aF] at h2
     have:=W.few
     exact cN (by omega)
    ·rw[aA,he,hacc0,be,aj]
     simp[h1]
    ·intro c o hc
     rw[cH (cL hc hD0)]
     exact sm _ _ hc
   ·have h1:¬ e.1=s:=fun z=>h1 (ao (congrArg V.str z))
    refine⟨hacc,_,rfl,?_,sm,hD0⟩
    rw[aA,he,hacc0,be,aj]
    simp[h1]
  ·rintro acc σ' H1 ⟨o, rfl, hacc0, s1, hD0⟩ hacc
   rw[rlen,aB (ad _)] at hacc0
   have ea:acc=List.map V.str ((ts.filter fun e=>decide (e.1=s)).map (fun e=>e.2)):=by rw[hacc0,aV];rfl
   refine⟨D,_,rfl,by rw[<- ea];exact hacc,?_,?_⟩
   ·rw[ac]
    have h2:=bd (fun e:Str × Str=>decide (e.1=s)) ts
    have:=W.few
    omega
   ·intro d kvs H2 s2 hd2 hk hin hat
    have s12:=s1.trans s2
    refine⟨_,rfl,.tup (.of (s12 _ _ hq)) rfl ⟨_,rfl,⟨_,.of (s12 _ _ ha)⟩,?_⟩⟩
    refine gi (List.map V.str ss) (fun D i acc σ' H'=>∃o,σ'=[o,some (.ref d)]/\acc=List.map V.str ((ss.take i).filter fun t=>(cY kvs (.inr t)).isSome)/\Same H2 H'/\H2 D=none) fun D' hD'=>⟨?_,?_,?_,?_⟩
    ·exact⟨none,rfl,rfl,Same.new hD',hD'⟩
    ·rintro i acc σ' H' _ ⟨o,rfl,_,sm,_⟩ _
     exact .of (sm _ _ (s12 _ _ ha))
    ·rintro i acc σ' H' x hx ⟨o, rfl, hacc0, sm, hD0⟩ hacc
     rw[al] at hx
     obtain⟨t,ht,rfl⟩:∃t,ss[i]? = some t/\V.str t=x:=by
      cases q:ss[i]? with
      | none=>rw[q] at hx;cases hx
      | some e=>rw[q] at hx;exact⟨e,rfl,af hx⟩
     have hil:=(ai.mp ht).1
     refine⟨_,rfl,_,rfl,.dic (DGet.k (k:=.inr t) (sm _ _ hk)) ⟨_,rfl,?_⟩⟩
     refine df (fun h1=>?_) (fun h1=>?_)
     ·refine⟨_,rfl,hacc,?_,_,rfl,?_,?_,hD0⟩
      ·rw[hacc0,ac]
       have h2:=bd (fun t:Str=>(cY kvs (.inr t)).isSome) (ss.take i)
       rw[aF] at h2
       have:=W.len
       exact cN (by omega)
      ·have h1:(cY kvs (.inr t)).isSome=true:=h1
       rw[aA,ht,hacc0,be,aj]
       simp[h1]
      ·intro c o hc
       rw[cH (cL hc hD0)]
       exact sm _ _ hc
     ·have h1:¬ (cY kvs (.inr t)).isSome=true:=h1
      refine⟨hacc,_,rfl,?_,sm,hD0⟩
      rw[aA,ht,hacc0,be,aj]
      simp[h1]
    ·rintro acc σ' H' ⟨o, rfl, hacc0, sm, hD0⟩ hacc
     rw[ac,aB (ad _)] at hacc0
     refine k _ _ (s12.trans sm) ?_ ?_
     ·cases e:H D' with
      | none=>rfl
      | some o=>rw[s12 _ _ e] at hD0;cases hD0
     ·rw[hacc,hacc0]
      have:(ss.filter fun t=>(cY kvs (.inr t)).isSome)=fk ss (if false then dM ts else ts) s:=by
       unfold fk
       refine List.filter_congr fun t _=>?_
       rw[bn,hin t,nL,decide_eq_true_iff]
      rw[this]
theorem oC {ts:List (Str × Str)}{s t:Str}:t ∈ (ts.filter fun e => decide (e.2=s)).map (fun e => e.1) ↔ (s, t) ∈ (if true then dM ts else ts) := by
 rw[aq]
 constructor
 ·rintro⟨⟨x,y⟩,h,rfl⟩
  have h:=aw.mp h
  have h2:=au h.2
  subst h2
  first
   | exact h.1
   | exact mem_flip.mpr h.1
 ·intro h
  first
   | exact⟨(s,t),aw.mpr ⟨h,ao rfl⟩,rfl⟩
   | exact⟨(t,s),aw.mpr ⟨mem_flip.mp h,ao rfl⟩,rfl⟩
theorem scPriors:FnScope ["web","one","found"] ["web","one"] (cI gx):=⟨rfl,rfl,rfl,by decide +kernel,rfl,by decide +kernel,by decide +kernel⟩
theorem tL {f:Addr}{fd:FuncData}(F:Fun K "priors" "priors" gx f fd) (B:Blt mg) (cplaces_of:Cal P w K mg base 1 "places_of" ["things"] jN):FnOk P w K mg base CX0 2 f fd ["web", "one"] (gk true) := by
 refine F.ok scPriors (fun vs H Q E h=>?_) (fun cdv A outer s H vs Q E hr h=>?_)
 ·obtain⟨q,ss,ts,s,rfl,_⟩:=h
  rfl
 ·obtain⟨q, ss, ts, s, rfl, W, k⟩ := h
  have nd:=scPriors.nd
  refine⟨_,(cG (cQ (i:=2) nd rfl (Or.inr rfl) (cP cplaces_of (hr.mono (by decide)) rfl (cC (dN (cI gx) ["web","one","found"] ["tie"] [1] ["tie","one"] rfl (ei K (cR (cX K hr.units) (pv 0) cK (fun _ _=>rfl))) (fun _ _ _ _ _=>(cT (i:=0) (show (["tie","one"]:List Str).Nodup by decide) rfl (Or.inl rfl))) (fun _ _ _ _ _=>(gJ (cU (dO hr.units) (cR (cX K hr.units) (pv 0) cK (fun _ _=>rfl)) (pv 1) (dg _)))) (fun _ _ _ _ _=>(cR (cX K hr.units) (pv 0) cK (fun _ _=>rfl)))) cE)))
   (cJ (cS (dN (cI gx) ["web","one","found"] ["thing"] [2] ["thing","found"] rfl (ei K (cR (cX K hr.units) (pv 0) cK (fun _ _=>rfl))) (fun _ _ _ _ _=>(cT (i:=0) (show (["thing","found"]:List Str).Nodup by decide) rfl (Or.inl rfl))) (fun _ _ _ _ _=>(gJ (cU (jk K hr.units) (pv 0) (pv 1) (by with_unfolding_all rfl)))) (fun _ _ _ _ _=>(pv 0)))))),?_⟩
  obtain⟨q,a,b,xs,rfl,hq,ha,hb,rp⟩:=gT W.rep
  have rlen:=rp.len
  rw[ac] at rlen
  refine⟨_,rfl,.tup (.of hq) rfl ⟨_,rfl,⟨_,.of hb⟩,?_⟩⟩
  refine gi xs (fun D i acc σ' H'=>∃o,σ'=[o,some (.str s)]/\acc=((ts.take i).filter fun e=>decide (e.2=s)).map (fun e=>V.str e.1)/\Same H H'/\H D=none) fun D hD=>⟨?_,?_,?_,?_⟩
  ·exact⟨none,rfl,rfl,Same.new hD,hD⟩
  ·rintro i acc σ' H' _ ⟨o,rfl,_,sm,_⟩ _
   exact .of (sm _ _ hb)
  ·rintro i acc σ' H' x hx ⟨o, rfl, hacc0, sm, hD0⟩ hacc
   obtain⟨d,hd,rd⟩:=(rp.same sm).get hx
   rw[al] at hd
   obtain⟨e,he,rfl⟩:∃e,ts[i]? = some e/\er e=d:=by
    cases q:ts[i]? with
    | none=>rw[q] at hd;cases hd
    | some e=>rw[q] at hd;exact⟨e,rfl,af hd⟩
   obtain⟨ta,rfl,hta⟩:=jd rd
   have hil:=(ai.mp he).1
   refine⟨_,rfl,.tup (.of hta) rfl ⟨_,rfl,.sc rfl ⟨_,rfl,?_⟩⟩⟩
   refine df (fun h1=>?_) (fun h1=>?_)
   ·have h1:e.2=s:=V.str.inj (au h1)
    refine⟨_,rfl,.tup (.of hta) rfl ⟨hacc,?_,_,rfl,?_,?_,hD0⟩⟩
    ·rw[hacc0,ac]
     have h2:=bd (fun e:Str × Str=>decide (e.2=s)) (ts.take i)
     rw[aF] at h2
     have:=W.few
     exact cN (by omega)
    ·rw[aA,he,hacc0,be,aj]
     simp[h1]
    ·intro c o hc
     rw[cH (cL hc hD0)]
     exact sm _ _ hc
   ·have h1:¬ e.2=s:=fun z=>h1 (ao (congrArg V.str z))
    refine⟨hacc,_,rfl,?_,sm,hD0⟩
    rw[aA,he,hacc0,be,aj]
    simp[h1]
  ·rintro acc σ' H1 ⟨o, rfl, hacc0, s1, hD0⟩ hacc
   rw[rlen,aB (ad _)] at hacc0
   have ea:acc=List.map V.str ((ts.filter fun e=>decide (e.2=s)).map (fun e=>e.1)):=by rw[hacc0,aV];rfl
   refine⟨D,_,rfl,by rw[<- ea];exact hacc,?_,?_⟩
   ·rw[ac]
    have h2:=bd (fun e:Str × Str=>decide (e.2=s)) ts
    have:=W.few
    omega
   ·intro d kvs H2 s2 hd2 hk hin hat
    have s12:=s1.trans s2
    refine⟨_,rfl,.tup (.of (s12 _ _ hq)) rfl ⟨_,rfl,⟨_,.of (s12 _ _ ha)⟩,?_⟩⟩
    refine gi (List.map V.str ss) (fun D i acc σ' H'=>∃o,σ'=[o,some (.ref d)]/\acc=List.map V.str ((ss.take i).filter fun t=>(cY kvs (.inr t)).isSome)/\Same H2 H'/\H2 D=none) fun D' hD'=>⟨?_,?_,?_,?_⟩
    ·exact⟨none,rfl,rfl,Same.new hD',hD'⟩
    ·rintro i acc σ' H' _ ⟨o,rfl,_,sm,_⟩ _
     exact .of (sm _ _ (s12 _ _ ha))
    ·rintro i acc σ' H' x hx ⟨o, rfl, hacc0, sm, hD0⟩ hacc
     rw[al] at hx
     obtain⟨t,ht,rfl⟩:∃t,ss[i]? = some t/\V.str t=x:=by
      cases q:ss[i]? with
      | none=>rw[q] at hx;cases hx
      | some e=>rw[q] at hx;exact⟨e,rfl,af hx⟩
     have hil:=(ai.mp ht).1
     refine⟨_,rfl,_,rfl,.dic (DGet.k (k:=.inr t) (sm _ _ hk)) ⟨_,rfl,?_⟩⟩
     refine df (fun h1=>?_) (fun h1=>?_)
     ·refine⟨_,rfl,hacc,?_,_,rfl,?_,?_,hD0⟩
      ·rw[hacc0,ac]
       have h2:=bd (fun t:Str=>(cY kvs (.inr t)).isSome) (ss.take i)
       rw[aF] at h2
       have:=W.len
       exact cN (by omega)
      ·have h1:(cY kvs (.inr t)).isSome=true:=h1
       rw[aA,ht,hacc0,be,aj]
       simp[h1]
      ·intro c o hc
       rw[cH (cL hc hD0)]
       exact sm _ _ hc
     ·have h1:¬ (cY kvs (.inr t)).isSome=true:=h1
      refine⟨hacc,_,rfl,?_,sm,hD0⟩
      rw[aA,ht,hacc0,be,aj]
      simp[h1]
    ·rintro acc σ' H' ⟨o, rfl, hacc0, sm, hD0⟩ hacc
     rw[ac,aB (ad _)] at hacc0
     refine k _ _ (s12.trans sm) ?_ ?_
     ·cases e:H D' with
      | none=>rfl
      | some o=>rw[s12 _ _ e] at hD0;cases hD0
     ·rw[hacc,hacc0]
      have:(ss.filter fun t=>(cY kvs (.inr t)).isSome)=fk ss (if true then dM ts else ts) s:=by
       unfold fk
       refine List.filter_congr fun t _=>?_
       rw[bn,hin t,oC,decide_eq_true_iff]
      rw[this]
theorem scNextsAll:FnScope ["web","table","thing"] ["web"] (cI gF):=⟨rfl,rfl,rfl,by decide +kernel,rfl,by decide +kernel,by decide +kernel⟩
theorem lS {f:Addr}{fd:FuncData}(F:Fun K "nexts_of_all" "nexts_of_all" gF f fd) (B:Blt mg) (cnexts:Cal P w K mg base 2 "nexts" ["web", "one"] (gk false)):FnOk P w K mg base CX0 3 f fd ["web"] (gl false) := by
 refine F.ok scNextsAll (fun vs H Q E h=>?_) (fun cdv A outer s H vs Q E hr h=>?_)
 ·obtain⟨q,ss,ts,rfl,_⟩:=h
  rfl
 ·obtain⟨q, ss, ts, rfl, W, k⟩ := h
  have nd:=scNextsAll.nd
  refine⟨_,(cG (cQ (i:=1) nd rfl (Or.inl rfl) fE)
   (cG (dY PassesOwn.never rfl (ei K (cR (cX K hr.units) (pv 0) cK (fun _ _=>rfl))) (cT (i:=2) nd rfl (Or.inl rfl)) (cJ (fc (cP cnexts (hr.mono (by decide)) rfl (cC (pv 0) (cC (pv 2) cE))) (fv (pv 1) (pv 2) (fP hr.units)))))
   (cJ (cS (pv 1))))),?_⟩
  intro d hd
  have W1:=W.same (Same.new (o:=.dK []) hd)
  obtain⟨q,a,b,xs,rfl,hq,ha,hb,rp⟩:=gT W.rep
  have s0:=Same.new (o:=.dK []) hd
  refine⟨_,rfl,.tup (.of (s0 _ _ hq)) rfl ⟨_,rfl,⟨_,.of (s0 _ _ ha)⟩,?_⟩⟩
  refine fU (xs:=List.map V.str ss) (fun i σ H'=>∃o1 kvs,σ=[some (.ref q),some (.ref d),o1]/\Same H H'/\H' d=some (.dK kvs)/\kvs.length<=i/\∀s∈ss.take i,∃l,cY kvs (.inr s)=some (.ref l)/\H' l=some (.lst (List.map V.str (fk ss (if false then dM ts else ts) s)))) ?_ ?_ ?_ ?_
  ·exact⟨none,[],rfl,s0,cF,ad _,fun s hs=>by simp at hs⟩
  ·rintro i σ H' hi ⟨o1,kvs,rfl,sm,_⟩
   exact .of (sm _ _ ha)
  ·rintro i x σ H' hx ⟨o1, kvs, rfl, sm, hk, hkl, hall⟩
   rw[al] at hx
   obtain⟨t,ht,rfl⟩:∃t,ss[i]? = some t/\V.str t=x:=by
    cases q:ss[i]? with
    | none=>rw[q] at hx;cases hx
    | some e=>rw[q] at hx;exact⟨e,rfl,af hx⟩
   have hil:=(ai.mp ht).1
   refine⟨_,rfl,_,rfl,.ref q,ss,ts,t,rfl,W.same sm,fun l H2 s2 hl hl2=>?_⟩
   have hk2:=s2 _ _ hk
   have:=W.len
   refine⟨_,rfl,_,rfl,.dic (DPut.k (k:=.inr t) hk2 (cN (by omega))) ⟨_,_,rfl,?_,cF,?_,?_⟩⟩
   ·intro c o hc
    rw[cH (cL hc hd)]
    exact s2 _ _ (sm _ _ hc)
   ·have:=eK kvs (.inr t) (V.ref l)
    omega
   ·intro s hs
    rw[aA,ht,ar] at hs
    by_cases q:s=t
    ·subst q
     refine⟨l,by rw[fj,if_pos rfl],?_⟩
     rw[cH (ft hl2 hk2 (by intro z;cases z))]
     exact hl2
    ·rcases hs with hs | hs
     ·obtain⟨l',e1,e2⟩:=hall s hs
      refine⟨l',by rw[fj,if_neg (fun z=>q (Sum.inr.inj z))];exact e1,?_⟩
      rw[cH (ft (s2 _ _ e2) hk2 (by intro z;cases z))]
      exact s2 _ _ e2
     ·exact absurd (by simpa using hs) q
  ·rintro σ H' ⟨o1,kvs,rfl,sm,hk,_,hall⟩
   rw[ac,aB (ad _)] at hall
   exact⟨_,rfl,k d H' sm hd ⟨kvs,hk,hall⟩⟩
theorem scPriorsAll:FnScope ["web","table","thing"] ["web"] (cI fR):=⟨rfl,rfl,rfl,by decide +kernel,rfl,by decide +kernel,by decide +kernel⟩
theorem lq {f:Addr}{fd:FuncData}(F:Fun K "priors_of_all" "priors_of_all" fR f fd) (B:Blt mg) (cpriors:Cal P w K mg base 2 "priors" ["web", "one"] (gk true)):FnOk P w K mg base CX0 3 f fd ["web"] (gl true) := by
 refine F.ok scPriorsAll (fun vs H Q E h=>?_) (fun cdv A outer s H vs Q E hr h=>?_)
 ·obtain⟨q,ss,ts,rfl,_⟩:=h
  rfl
 ·obtain⟨q, ss, ts, rfl, W, k⟩ := h
  have nd:=scPriorsAll.nd
  refine⟨_,(cG (cQ (i:=1) nd rfl (Or.inl rfl) fE)
   (cG (dY PassesOwn.never rfl (ei K (cR (cX K hr.units) (pv 0) cK (fun _ _=>rfl))) (cT (i:=2) nd rfl (Or.inl rfl)) (cJ (fc (cP cpriors (hr.mono (by decide)) rfl (cC (pv 0) (cC (pv 2) cE))) (fv (pv 1) (pv 2) (fP hr.units)))))
   (cJ (cS (pv 1))))),?_⟩
  intro d hd
  have W1:=W.same (Same.new (o:=.dK []) hd)
  obtain⟨q,a,b,xs,rfl,hq,ha,hb,rp⟩:=gT W.rep
  have s0:=Same.new (o:=.dK []) hd
  refine⟨_,rfl,.tup (.of (s0 _ _ hq)) rfl ⟨_,rfl,⟨_,.of (s0 _ _ ha)⟩,?_⟩⟩
  refine fU (xs:=List.map V.str ss) (fun i σ H'=>∃o1 kvs,σ=[some (.ref q),some (.ref d),o1]/\Same H H'/\H' d=some (.dK kvs)/\kvs.length<=i/\∀s∈ss.take i,∃l,cY kvs (.inr s)=some (.ref l)/\H' l=some (.lst (List.map V.str (fk ss (if true then dM ts else ts) s)))) ?_ ?_ ?_ ?_
  ·exact⟨none,[],rfl,s0,cF,ad _,fun s hs=>by simp at hs⟩
  ·rintro i σ H' hi ⟨o1,kvs,rfl,sm,_⟩
   exact .of (sm _ _ ha)
  ·rintro i x σ H' hx ⟨o1, kvs, rfl, sm, hk, hkl, hall⟩
   rw[al] at hx
   obtain⟨t,ht,rfl⟩:∃t,ss[i]? = some t/\V.str t=x:=by
    cases q:ss[i]? with
    | none=>rw[q] at hx;cases hx
    | some e=>rw[q] at hx;exact⟨e,rfl,af hx⟩
   have hil:=(ai.mp ht).1
   refine⟨_,rfl,_,rfl,.ref q,ss,ts,t,rfl,W.same sm,fun l H2 s2 hl hl2=>?_⟩
   have hk2:=s2 _ _ hk
   have:=W.len
   refine⟨_,rfl,_,rfl,.dic (DPut.k (k:=.inr t) hk2 (cN (by omega))) ⟨_,_,rfl,?_,cF,?_,?_⟩⟩
   ·intro c o hc
    rw[cH (cL hc hd)]
    exact s2 _ _ (sm _ _ hc)
   ·have:=eK kvs (.inr t) (V.ref l)
    omega
   ·intro s hs
    rw[aA,ht,ar] at hs
    by_cases q:s=t
    ·subst q
     refine⟨l,by rw[fj,if_pos rfl],?_⟩
     rw[cH (ft hl2 hk2 (by intro z;cases z))]
     exact hl2
    ·rcases hs with hs | hs
     ·obtain⟨l',e1,e2⟩:=hall s hs
      refine⟨l',by rw[fj,if_neg (fun z=>q (Sum.inr.inj z))];exact e1,?_⟩
      rw[cH (ft (s2 _ _ e2) hk2 (by intro z;cases z))]
      exact s2 _ _ e2
     ·exact absurd (by simpa using hs) q
  ·rintro σ H' ⟨o1,kvs,rfl,sm,hk,_,hall⟩
   rw[ac,aB (ad _)] at hall
   exact⟨_,rfl,k d H' sm hd ⟨kvs,hk,hall⟩⟩
structure Stp (H H':Hp) (ss:List Str) (e:Addr) (look:Str->Option Nat) (kvs:List (Key × V)):Prop where
 sm:Same H H'
 at_:H' e=some (.dK kvs)
 lk:∀t,cY kvs (.inr t)=(look t).map fun k:Nat=>V.int (k:Int)
 nd:(kvs.map (·.1)).Nodup
 ks:∀k∈kvs.map (·.1),∃t∈ss,k=Sum.inr t
theorem Stp.len {H H':Hp}{ss:List Str}{e:Addr}{look:Str->Option Nat}{kvs:List (Key × V)}(h:Stp H H' ss e look kvs):kvs.length<=ss.length:=by
 have:=h.nd.length_le_of_subset (l₂:=ss.map (Sum.inr:Str->Key)) fun k hk=>by
  obtain⟨t,ht,rfl⟩:=h.ks k hk
  exact aq.mpr ⟨t,ht,rfl⟩
 simpa using this
theorem Stp.oth {H H':Hp}{ss:List Str}{e b:Addr}{look:Str->Option Nat}{kvs:List (Key × V)}{o:HO}(h:Stp H H' ss e look kvs) (hb:H b=none) (n:e≠b):Stp H (upd H' b o) ss e look kvs :=
 ⟨fun c o' hc=>by rw[cH (cL hc hb)];exact h.sm _ _ hc,by rw[cH n];exact h.at_,h.lk,h.nd,h.ks⟩
theorem Stp.put {H H':Hp}{ss:List Str}{e:Addr}{look:Str -> Option Nat}{kvs:List (Key × V)}(h:Stp H H' ss e look kvs) (he:H e=none) {t:Str}(ht:t ∈ ss) (hn:look t=none) (k:Nat) :
    Stp H (upd H' e (.dK (dL kvs (.inr t) (.int (k:Int))))) ss e (fun a=>if a=t then some k else look a) (dL kvs (.inr t) (.int (k:Int))):=by
 have hv:cY kvs (.inr t)=none:=by rw[h.lk,hn];rfl
 refine⟨fun c o' hc=>by rw[cH (cL hc he)];exact h.sm _ _ hc,cF,fun u=>?_,qe _ h.nd hv,fun q hq=>?_⟩
 ·rw[fj]
  by_cases q:u=t
  ·subst q;rw[if_pos rfl];simp
  ·rw[if_neg (fun z=>q (Sum.inr.inj z)),h.lk u];simp[q]
 ·rw[lz _ hv,aj] at hq
  rcases ar.mp hq with hq | hq
  ·exact h.ks q hq
  ·have:q=Sum.inr t:=by simpa using hq
   exact⟨t,ht,this⟩
def jK:Sp:=fun vs H Q _=>∃d st s ss f,vs=[.ref d,.ref st]/\H st=some (.lst [V.str s])/\Tab H d ss f/\s∈ss/\ss.length<=60/\(∀t∈ss,∀u∈f t,u∈ss) /\
 ∀e kvs H',Same H H'->H e=none->H' e=some (.dK kvs)->(∀t v,cY kvs (.inr t)=some v ↔ ∃k:Nat,v=.int k/\MG.Dst (Ner ss f) s k t)->Q (.ref e) H'
theorem scSteps:FnScope ["table","starts","steps","start","edge","further","thing","near"] ["table","starts"] (cI jj):=⟨rfl,rfl,rfl,by decide +kernel,rfl,by decide +kernel,by decide +kernel⟩
theorem vh {f:Addr}{fd:FuncData}(F:Fun K "steps_from" "steps_from" jj f fd) (B:Blt mg):FnOk P w K mg base CX0 1 f fd ["table", "starts"] jK := by
 refine F.ok scSteps (fun vs H Q E h=>?_) (fun cdv A outer s H vs Q E hr h=>?_)
 ·obtain⟨d,st,s,ss,f,rfl,_⟩:=h
  rfl
 ·obtain⟨d, st, s, ss, fn, rfl, hst, T, hs, hlen, hcl, k⟩ := h
  have nd:=scSteps.nd
  refine⟨_,(cG (cQ (i:=2) nd rfl (Or.inl rfl) fE)
   (cG (dY PassesOwn.never rfl (dI K (pv 1)) (cT (i:=3) nd rfl (Or.inl rfl)) (cJ (fc cK (fv (pv 2) (pv 3) (fP hr.units)))))
   (cG (cQ (i:=4) nd rfl (Or.inl rfl) (sV K rfl B (cC (pv 1) cE)))
   (cG (iW PassesOwn.never (cU jq (eY K B (cC (pv 4) cE)) cK (dg _)) (cG (cQ (i:=5) nd rfl (Or.inl rfl) (dC cE))
   (cG (dY PassesOwn.never rfl (dI K (pv 4)) (cT (i:=6) nd rfl (Or.inl rfl)) (cJ (dY PassesOwn.never rfl (dI K (cR (cX K hr.units) (pv 0) (pv 6) (fun _ _=>rfl))) (cT (i:=7) nd rfl (Or.inl rfl)) (cJ (dG (cU (ia K hr.units) (pv 7) (pv 2) (by with_unfolding_all rfl)) (cG (fc (cW dh (cR (cX K hr.units) (pv 2) (pv 6) (fun _ _=>rfl)) cK) (fv (pv 2) (pv 7) (fP hr.units)))
   (cJ (dQ (fZ K (pv 5) (cC (pv 7) cE))))) dk)))))
   (cJ (cQ (i:=4) nd rfl (Or.inl rfl) (pv 5))))))
   (cJ (cS (pv 2))))))),?_⟩
  have hin:∀y,MG.Rch (Ner ss fn) s y->y∈ss:=fun y r=>MG.Rch.closed (S:=fun y=>y∈ss) hs (fun a b ha r=>hcl a ha b r.2) r
  intro e he
  have hste:st≠e:=cL hst he
  refine⟨_,rfl,st,rfl,⟨_,.of (by rw[cH hste];exact hst)⟩,?_⟩
  refine gh (xs:=[V.str s]) (fun i σ H'=>∃o3 o4 o5 o6 o7,σ=[some (.ref d),some (.ref st),some (.ref e),o3,o4,o5,o6,o7]/\H' st=some (.lst [V.str s])/\(i=0->H'=upd H e (.dK []))/\(i≠0->∃kvs,Stp H H' ss e (fun a=>if a=s then some 0 else none) kvs)) ?_ ?_ ?_ ?_
  ·exact⟨none,none,none,none,none,rfl,by rw[cH hste];exact hst,fun _=>rfl,fun z=>absurd rfl z⟩
  ·rintro i σ H' hi ⟨o3,o4,o5,o6,o7,rfl,h1,_⟩
   exact .of h1
  ·rintro i x σ H' hx ⟨o3,o4,o5,o6,o7,rfl,h1,h2,_⟩
   have hi:i<1:=(ai.mp hx).1
   have hi:i=0:=by omega
   subst hi
   have hx:V.str s=x:=af hx
   subst hx
   have h2:=h2 rfl
   subst h2
   have h0:Stp H (upd (upd H e (.dK [])) e (.dK (dL [] (.inr s) (.int ((0:Nat):Int))))) ss e (fun a=>if a=s then some 0 else none) (dL [] (.inr s) (.int ((0:Nat):Int))) :=
    Stp.put (kvs:=[]) (look:=fun _=>none) ⟨Same.new he,cF,fun t=>rfl,bz,fun k hk=>by cases hk⟩ he hs rfl 0
   refine⟨_,rfl,_,rfl,.dic (DPut.k (k:=.inr s) cF (by show 0<sizeLine;decide)) ⟨_,_,_,_,_,rfl,by rw[cH hste];exact h1,fun z=>absurd z (by omega),fun _=>⟨_,h0⟩⟩⟩
  rintro σ H1 ⟨o3,o4,o5,o6,o7,rfl,hst1,_,hS⟩
  obtain⟨kv0,h0⟩:=hS (by show 1≠0;omega)
  refine⟨_,rfl,_,rfl,.seq (.inl (.of hst1)) fun l0 hl0=>?_⟩
  have hl00:H l0=none:=by
   cases q:H l0 with
   | none=>rfl
   | some o=>rw[h0.sm _ _ q] at hl0;cases hl0
  have h1:=h0.oth (o:=.lst [V.str s]) hl00 (cL h0.at_ hl0)
  refine⟨fun m σ H'=>∃L le edge kvs look o3 o4 o5 o6,m+L=ss.length/\σ=[some (.ref d),some (.ref st),some (.ref e),o3,some (.ref le),o4,o5,o6]/\Stp H H' ss e look kvs/\H le=none/\H' le=some (.lst (List.map V.str edge))/\edge.length<=60/\MG.Lev (Ner ss fn) s L look edge,
   ⟨ss.length,0,l0,[s],_,_,o3,o5,o6,o7,by omega,rfl,h1,hl00,cF,by show 1<=60;decide,MG.Lev.start fun y=>rfl⟩,?_⟩
  rintro m σ H2 ⟨L,le,edge,kvs,look,o3,o4,o5,o6,hm,rfl,S,hle0,hle,hel,lev⟩
  refine⟨_,rfl,_,_,rfl,Or.inl ⟨_,.of hle,rfl⟩,_,_,rfl,rfl,_,rfl,?_⟩
  refine df (fun hc=>?_) (fun hc=>?_)
  ·have hc:(0:Int)<((List.map V.str edge).length:Nat) := au hc
   rw[ac] at hc
   have hL:L<ss.length:=by
    cases edge with
    | nil=>simp at hc
    | cons y r=>exact MG.Dst.lt hin ((lev.edg y).mp (by simp))
   refine⟨fun σ' H'=>∃le edge kvs look o3 o4 o5 o6,σ'=[some (.ref d),some (.ref st),some (.ref e),o3,some (.ref le),o4,o5,o6]/\Stp H H' ss e look kvs/\H le=none/\H' le=some (.lst (List.map V.str edge))/\edge.length<=60/\MG.Lev (Ner ss fn) s (L+1) look edge,
    fun σ' H' ⟨le,edge,kvs,look,o3,o4,o5,o6,p⟩=>⟨m-1,by omega,L+1,le,edge,kvs,look,o3,o4,o5,o6,by omega,p⟩,?_⟩
   refine⟨(by show 0<=sizeLine;decide),fun lf hlf=>?_⟩
   have hlf0:H lf=none:=by
    cases q:H lf with
    | none=>rfl
    | some o=>rw[S.sm _ _ q] at hlf;cases hlf
   have nlf:le≠lf:=cL hle hlf
   have S1:=S.oth (o:=.lst []) hlf0 (cL S.at_ hlf)
   refine⟨_,rfl,le,rfl,⟨_,.of (by rw[cH nlf];exact hle)⟩,?_⟩
   refine gh (xs:=List.map V.str edge) (fun i σ H'=>∃kvs look fur o5 o6,σ=[some (.ref d),some (.ref st),some (.ref e),o3,some (.ref le),some (.ref lf),o5,o6]/\Stp H H' ss e look kvs/\H' le=some (.lst (List.map V.str edge))/\H' lf=some (.lst (List.map V.str fur))/\fur.Nodup/\(∀t∈fur,t∈ss)/\MG.Mid (Ner ss fn) s L look fur (fun z y=>z∈edge.take i/\Ner ss fn z y)) ?_ ?_ ?_ ?_
   ·exact⟨kvs,look,[],o5,o6,rfl,S1,by rw[cH nlf];exact hle,cF,bz,(fun t ht=>by cases ht),lev.mid.wk fun a b h=>by simp at h⟩
   ·rintro i σ H' hi ⟨kvs,look,fur,o5,o6,rfl,S,hle,_⟩
    exact .of hle
   ·rintro i x σ H' hx ⟨kvs, look, fur, o5, o6, rfl, S, hle, hlf, hfn, hfs, mid⟩
    rw[al] at hx
    obtain⟨z,hz,rfl⟩:∃z,edge[i]? = some z/\V.str z=x:=by
     cases q:edge[i]? with
     | none=>rw[q] at hx;cases hx
     | some e=>rw[q] at hx;exact⟨e,rfl,af hx⟩
    have dz:=(lev.edg z).mp (av hz)
    have hzs:=hin z dz.rch
    obtain⟨tkv,hd,ht⟩:=T
    obtain⟨l,el,hl⟩:=ht z hzs
    have hl':=S.sm _ _ hl
    refine⟨_,rfl,_,rfl,.dic (.inl ⟨tkv,.inr z,.inl (S.sm _ _ hd),rfl,el.symm⟩) ⟨l,rfl,⟨_,.of hl'⟩,?_⟩⟩
    refine gh (xs:=List.map V.str (fn z)) (fun j σ H'=>∃kvs look fur o6,σ=[some (.ref d),some (.ref st),some (.ref e),o3,some (.ref le),some (.ref lf),some (.str z),o6]/\Stp H H' ss e look kvs/\H' le=some (.lst (List.map V.str edge))/\H' lf=some (.lst (List.map V.str fur))/\fur.Nodup/\(∀t∈fur,t∈ss)/\MG.Mid (Ner ss fn) s L look fur (fun a y=>(a∈edge.take i/\Ner ss fn a y)∨(a=z/\y∈(fn z).take j))) ?_ ?_ ?_ ?_
    ·exact⟨kvs,look,fur,o6,rfl,S,hle,hlf,hfn,hfs,mid.wk fun a b h=>by simpa using h⟩
    ·rintro j σ H' hj ⟨kvs,look,fur,o6,rfl,S,_⟩
     exact .of (S.sm _ _ hl)
    ·rintro j x σ H' hx ⟨kvs, look, fur, o6, rfl, S, hle, hlf, hfn, hfs, mid⟩
     rw[al] at hx
     obtain⟨y,hy,rfl⟩:∃y,(fn z)[j]? = some y/\V.str y=x:=by
      cases q:(fn z)[j]? with
      | none=>rw[q] at hx;cases hx
      | some e=>rw[q] at hx;exact⟨e,rfl,af hx⟩
     have hyf:=av hy
     have hys:=hcl z hzs y hyf
     have hdone:∀a b,((a∈edge.take i/\Ner ss fn a b)∨(a=z/\b∈(fn z).take (j+1)))->((a∈edge.take i/\Ner ss fn a b)∨(a=z/\b∈(fn z).take j))∨(a=z/\b=y):=by
      intro a b h
      rcases h with h | ⟨h1,h2⟩
      ·exact .inl (.inl h)
      ·rw[aA,hy,ar] at h2
       rcases h2 with h2 | h2
       ·exact .inl (.inr ⟨h1,h2⟩)
       ·exact .inr ⟨h1,by simpa using h2⟩
     refine⟨_,rfl,_,rfl,.dic (DGet.k (k:=.inr y) S.at_) ⟨_,rfl,?_⟩⟩
     rw[S.lk y]
     refine df (fun hc=>?_) (fun hc=>?_)
     ·have hc:¬ (look y).isSome=true := by simpa using hc
      have hn:look y=none:=by simpa using hc
      have hzl:cY kvs (.inr z)=some (V.int (L:Int)):=by rw[S.lk,mid.cmp z L (ad _) dz];rfl
      refine⟨_,rfl,_,rfl,.dic (.inl ⟨kvs,.inr z,.inl S.at_,rfl,hzl.symm⟩) (.int ?_)⟩
      have hkl:=S.len
      refine⟨_,rfl,_,rfl,.dic (DPut.k (k:=.inr y) S.at_ (cN (by omega))) ?_⟩
      have S':=S.put he hys hn (L+1)
      have nle:le≠e:=ft hle S.at_ (by intro z;cases z)
      have nlf':lf≠e:=ft hlf S.at_ (by intro z;cases z)
      refine⟨_,rfl,.inl ⟨rfl,_,.of (by rw[cH nlf'];exact hlf)⟩,?_⟩
      have hfl:fur.length<=ss.length:=hfn.length_le_of_subset hfs
      refine⟨_,rfl,lf,_,_,rfl,rfl,by rw[cH nlf'];exact hlf,by rw[ac];exact cN (by omega),?_⟩
      refine⟨_,_,fur++[y],_,rfl,S'.oth hlf0 (Ne.symm nlf'),?_,?_,?_,?_,(mid.add (z:=z) (y:=y) dz ⟨hzs,hyf⟩ hn fun a=>rfl).wk hdone⟩
      ·rw[cH nlf,cH nle];exact hle
      ·rw[cF,aj];rfl
      ·rw[List.nodup_append]
       refine⟨hfn,by simp,fun a ha b hb=>?_⟩
       have:b=y:=by simpa using hb
       subst this
       rintro rfl
       rw[(mid.fur a ha).2] at hn
       cases hn
      ·intro t ht
       rcases ar.mp ht with ht | ht
       ·exact hfs t ht
       ·have:t=y:=by simpa using ht
        rw[this];exact hys
     ·have hc:(look y).isSome=true:=by
         cases q:look y with
         | none=>rw[q] at hc;exact absurd rfl hc
         | some v=>rfl
      exact⟨kvs,look,fur,_,rfl,S,hle,hlf,hfn,hfs,(mid.skip (z:=z) hc).wk hdone⟩
    ·rintro σ H' ⟨kvs,look,fur,o6,rfl,S,hle,hlf,hfn,hfs,mid⟩
     rw[ac,aB (ad _)] at mid
     refine⟨kvs,look,fur,_,_,rfl,S,hle,hlf,hfn,hfs,mid.wk fun a b h=>?_⟩
     obtain⟨h1,h2⟩:=h
     rw[aA,hz,ar] at h1
     rcases h1 with h1 | h1
     ·exact .inl ⟨h1,h2⟩
     ·have:a=z:=by simpa using h1
      subst this
      exact .inr ⟨rfl,h2.2⟩
   ·rintro σ H' ⟨kvs,look,fur,o5,o6,rfl,S,hle,hlf,hfn,hfs,mid⟩
    rw[ac,aB (ad _)] at mid
    have hfl:fur.length<=ss.length:=hfn.length_le_of_subset hfs
    exact⟨_,rfl,lf,fur,kvs,look,_,_,_,_,rfl,S,hlf0,hlf,by omega,mid.next lev.edg fun z y hz r=>⟨hz,r⟩⟩
  ·have he0:edge=[] := by
      cases edge with
      | nil=>rfl
      | cons y r=>exact absurd (ao (by simp)) hc
   subst he0
   have fin:=lev.done
   refine⟨_,rfl,k e kvs H2 S.sm he S.at_ fun t v=>?_⟩
   rw[S.lk t]
   constructor
   ·intro q
    cases q2:look t with
    | none=>rw[q2] at q;cases q
    | some n =>
     rw[q2] at q
     exact⟨n,(af q).symm,(fin t n).mp q2⟩
   ·rintro⟨n,rfl,dn⟩
    rw[(fin t n).mpr dn];rfl
theorem jZ:∀ts:List (Str × Str),(∀e∈ts,Nm e.1/\Nm e.2)->PyData.canLayAll0 (ts.map er)=true
 | [],_=>rfl
 | e::ts,h=>by
  show (PyData.canLay0 (er e)&&PyData.canLayAll0 (ts.map er))=true
  rw[jZ ts fun x hx=>h x (aM _ hx)]
  have:=h e (by simp)
  show ((PyData.canLay0 (.str e.1)&&(PyData.canLay0 (.str e.2)&&true))&&true)=true
  rw[j7 this.1,j7 this.2];rfl
theorem kQ:∀ts:List (Str × Str),PyData.depthAll (ts.map er)<=1
 | []=>by decide
 | e::es=>by
  show max (PyData.depth (er e)) (PyData.depthAll (es.map er))<=1
  have h1:PyData.depth (er e)=1:=rfl
  have h2:=kQ es
  omega
theorem wV {ss:List Str}{ts:List (Str × Str)}(h:∀s∈ss,Nm s) (g:∀e∈ts,Nm e.1/\Nm e.2):shp (gQ ss ts):=by
 show ((PyData.canLayAll0 (ss.map PyData.str)&&(PyData.canLayAll0 (ts.map er)&&true))&&decide (max (PyData.depthAll (ss.map PyData.str)+1) (max (PyData.depthAll (ts.map er)+1) 0)+1<=64))=true
 have:=kQ ts
 rw[i6 ss h,jZ ts g,iw,ao (by omega)]
 rfl
theorem iD {H:Hp}{v:V}{ss:List Str}{ts:List (Str × Str)}(W:Web H v ss ts):shp (gQ ss ts):=wV W.nm fun e he=>⟨W.nm _ (W.inn e he).1,W.nm _ (W.inn e he).2⟩
theorem mB {H H':Hp}{p:Addr}{ys:List V}(hp:H p=some (.lst ys)) (b:But p H H') {v:V}{ss:List Str}{ts:List (Str × Str)}(W:Web H v ss ts):Web H' v ss ts:=by
 refine⟨?_,W.nd,W.nm,W.len,W.few,W.inn⟩
 obtain⟨q,c,d,xs,rfl,hq,hc,hd,rp⟩:=gT W.rep
 have k:∀a zs,H a=some (.tup zs)->H' a=some (.tup zs):=fun a zs h=>b a _ (ft h hp (by intro z;cases z)) h
 exact .tup (k _ _ hq) (.cons (.tup (k _ _ hc) (RepAll.of_strs ss)) (.cons (.tup (k _ _ hd) (RepAll.pairBut hp b rp)) .nil))
theorem mem_getD {ss:List Str}{i:Nat}(h:i<ss.length):ss.getD i ""∈ss:=by
 rw[aQ,aG h]
 exact bU h
theorem yM {H H':Hp}{n t:Addr}{ss:List Str}{es:List (Nat × Nat)}{v:V}(B:Built H n t ss es) (r:Rep H' v (gQ ss (es.map (nmP ss)))):Web H' v ss (es.map (nmP ss)) :=
 ⟨r,B.nd,B.ok,B.len,by rw[ac];exact B.few,fun e he=>by
  obtain⟨f,hf,rfl⟩:=aq.mp he
  have:=B.val f hf
  exact⟨mem_getD this.1,mem_getD this.2⟩⟩
theorem iO {ss:List Str}(nd:ss.Nodup) (nm:∀s∈ss,Nm s) {a b:Nat}(ha:a<ss.length) (h:ss.getD a ""=ss.getD b ""):a=b:=by
 by_cases hb:b<ss.length
 ·rw[aQ,aQ,aG ha,aG hb] at h
  exact(List.getElem_inj nd).mp h
 ·have e:ss.getD b ""="":=by rw[aQ,cr (by omega)];rfl
  have h2:=(nm _ (mem_getD ha)).1
  rw[h,e] at h2
  exact absurd h2 (by decide)
def lY (es:List (Nat × Nat)):List (Nat × Nat):=es.map fun e=>(e.2,e.1)
theorem wY (ss:List Str) (es:List (Nat × Nat)):dM (es.map (nmP ss))=(lY es).map (nmP ss):=by
 unfold dM lY
 rw[aV,aV];rfl
theorem uN {ss:List Str}{es:List (Nat × Nat)}(val:∀e∈es,e.1<ss.length/\e.2<ss.length):∀e∈lY es,e.1<ss.length/\e.2<ss.length:=fun e he=>by
 obtain⟨f,hf,rfl⟩:=aq.mp he
 exact⟨(val f hf).2,(val f hf).1⟩
def jy:Option Nat->V
 | none=>.non
 | some k=>.int (k:Int)
def fw (n:Nat) (far:Nat->Option Nat):List V:=(List.range n).map fun a=>jy (far a)
theorem iS (n:Nat) (far:Nat->Option Nat):(fw n far).length=n:=by simp[fw]
theorem mI {n i:Nat}(h:i<n) (far:Nat->Option Nat):(fw n far)[i]? = some (jy (far i)):=by simp[fw,h]
theorem ke {n i:Nat}(h:i<n) (far:Nat->Option Nat):atI (fw n far) (i:Int)=some (jy (far i)):=gy (mI h far)
theorem uo {n j:Nat}(h:j<n):ixN n (j:Int)=some j:=by
 unfold ixN
 rw[if_pos (by omega),if_pos (by omega),bH]
theorem oX (n:Nat) (far:Nat -> Option Nat) (j k:Nat):(fw n far).set j (.int (k:Int))=fw n (fun a => if a=j then some k else far a) := by
 apply List.ext_getElem?
 intro i
 rw[List.getElem?_set,iS]
 by_cases hi:i<n
 ·rw[mI hi,mI hi]
  by_cases q:j=i
  ·subst q
   rw[if_pos rfl,if_pos hi,if_pos rfl];rfl
  ·rw[if_neg q,if_neg (Ne.symm q)]
 ·have e1:(fw n far)[i]? = none:=cr (by rw[iS];omega)
  have e2:(fw n fun a=>if a=j then some k else far a)[i]? = none:=cr (by rw[iS];omega)
  rw[e1,e2]
  split
  ·rw[if_neg (by omega)]
  ·rfl
theorem rZ (n:Nat):(List.replicate n [V.non]).flatten=fw n fun _=>none:=by
 unfold fw
 induction n with
 | zero=>rfl
 | succ n ih =>
  rw[cz,List.flatten_append,ih,List.range_succ,aj];rfl
theorem nA (o:Option Nat) (i:Int):qX (jy o) (.int i)=true:=by cases o <;> rfl
theorem farV_int {o:Option Nat}{k:Nat}:jy o=.int (k:Int) ↔ o=some k := by
 cases o with
 | none=>exact⟨(fun h=>by cases h),(fun h=>by cases h)⟩
 | some m =>
  constructor
  ·intro h
   have h:(m:Int)=(k:Int):=V.int.inj h
   have:m=k:=by omega
   rw[this]
  ·intro h;rw[af h];rfl
theorem farV_non {o:Option Nat}:jy o=.non ↔ o=none:=by
 cases o with
 | none=>exact⟨fun _=>rfl,fun _=>rfl⟩
 | some m=>exact⟨(fun h=>by cases h),(fun h=>by cases h)⟩
def qw:Sp:=fun vs H Q _=>∃(n:Nat) (t:Addr) (refs:List V) (es:List (Nat × Nat)) (goal:Nat),vs=[.int (n:Int),.ref t,.int (goal:Int)]/\H t=some (.lst refs)/\RepAll H refs (es.map fh)/\(∀e∈es,e.1<n/\e.2<n)/\goal<n/\n<=60 /\
 ∀l far H',Same H H'->H l=none->H' l=some (.lst (fw n far))->(∀a k,far a=some k ↔ MG.To es goal k a)->Q (.ref l) H'
theorem scFar:FnScope ["_law_size","_law_ties_here","_law_goal","_law_far_here","_law_turn","_law_first","_law_last"] ["_law_size","_law_ties_here","_law_goal"] (cI mL):=⟨rfl,rfl,rfl,by decide +kernel,rfl,by decide +kernel,by decide +kernel⟩
theorem ze {f:Addr}{fd:FuncData}(F:Fun K "_law_far" "_law_far" mL f fd) (B:Blt mg):FnOk P w K mg base CX0 1 f fd ["_law_size", "_law_ties_here", "_law_goal"] qw := by
 refine F.ok scFar (fun vs H Q E h=>?_) (fun cdv A outer s H vs Q E hr h=>?_)
 ·obtain⟨n,t,refs,es,goal,rfl,_⟩:=h
  rfl
 ·obtain⟨n, t, refs, es, goal, rfl, ht, rp, hev, hg, hn, k⟩ := h
  have nd:=scFar.nd
  refine⟨_,(cG (cQ (i:=3) nd rfl (Or.inl rfl) (cW zh (dC (cC dX cE)) (pv 0)))
   (cG (fc cK (fv (pv 3) (pv 2) (fP hr.units)))
   (cG (dY PassesOwn.never rfl (fY rfl B.range (cC (pv 0) cE)) (cT (i:=4) nd rfl (Or.inl rfl)) (cJ (dY PassesOwn.never rfl (dI K (pv 1)) (gH (n:=2) K rfl (d4 (cT (i:=5) nd rfl (Or.inl rfl)) (d4 (cT (i:=6) nd rfl (Or.inl rfl)) gB))) (cJ (dG (PW.pt (ic (cU (dO hr.units) (cR (cX K hr.units) (pv 3) (pv 6) (fun _ _=>rfl)) (pv 4) (dg _)) (gE (cU kh (cR (cX K hr.units) (pv 3) (pv 5) (fun _ _=>rfl)) dX (dg _))))) (cJ (fc (cW dh (pv 4) cK) (fv (pv 3) (pv 5) (fP hr.units)))) dk)))))
   (cJ (cS (pv 3)))))),?_⟩
  have rlen:=rp.len
  rw[ac] at rlen
  have h63:(n:Int)<2 ^ 63:=by omega
  refine⟨(by show 1<=sizeLine;decide),fun l0 hl0=>⟨_,rfl,l0,_,_,rfl,rfl,cF,by omega,by omega,?_,fun l hl=>?_⟩⟩
  ·show 1 * (n:Int).toNat<=sizeLine
   rw[bH]
   have:=cN (n:=n) (by omega)
   omega
  ·rw[bH, rZ]
   have hl1:H l=none:=dF (Same.new hl0) hl
   have s1:Same H (upd (upd H l0 (.lst [V.non])) l (.lst (fw n fun _=>none))):=(Same.new hl0).trans (Same.new hl)
   refine⟨_,rfl,_,rfl,.lst (j:=goal) cF (by rw[iS];exact uo hg) ?_⟩
   rw[show (V.int 0)=V.int ((0:Nat):Int) from rfl,oX]
   have s2:=dR (o:=.lst (fw n fun a=>if a=goal then some 0 else none)) s1 hl1
   have e2:upd (upd (upd H l0 (.lst [V.non])) l (.lst (fw n fun _=>none))) l (.lst (fw n fun a=>if a=goal then some 0 else none)) l=some (.lst (fw n fun a=>if a=goal then some 0 else none)):=cF
   generalize upd (upd (upd H l0 (.lst [V.non])) l (.lst (fw n fun _=>none))) l (.lst (fw n fun a=>if a=goal then some 0 else none))=H2 at s2 e2 ⊢
   refine⟨_,rfl,_,rfl,by omega,by omega,?_⟩
   refine iX (fun L σ H'=>∃o4 o5 o6 far edge,σ=[some (.int (n:Int)),some (.ref t),some (.int (goal:Int)),some (.ref l),o4,o5,o6]/\Same H H'/\H' l=some (.lst (fw n far))/\MG.Lev (MG.Arr (MG.swp es)) goal L far edge)
    ⟨none,none,none,_,[goal],rfl,s2,e2,MG.Lev.start fun y=>rfl⟩ ?_ ?_
   ·rintro L σ H3 hL ⟨o4, o5, o6, far, edge, rfl, s3, e3, lev⟩
    refine⟨_,rfl,t,rfl,⟨_,.of (s3 _ _ ht)⟩,?_⟩
    refine gh (xs:=refs) (fun j σ H'=>∃o5 o6 far fur,σ=[some (.int (n:Int)),some (.ref t),some (.int (goal:Int)),some (.ref l),some (.int (0+(L:Nat))),o5,o6]/\Same H H'/\H' l=some (.lst (fw n far))/\MG.Mid (MG.Arr (MG.swp es)) goal L far fur (fun z y=>(y,z)∈es.take j/\MG.Dst (MG.Arr (MG.swp es)) goal L z)) ?_ ?_ ?_ ?_
    ·exact⟨o5,o6,far,[],rfl,s3,e3,lev.mid.wk fun a b h=>by simp at h⟩
    ·rintro j σ H' hj ⟨o5,o6,far,fur,rfl,sm,_⟩
     exact .of (sm _ _ ht)
    ·rintro j x σ H4 hx ⟨o5, o6, far, fur, rfl, s4, e4, mid⟩
     obtain⟨d,hd,rd⟩:=(rp.same s4).get hx
     rw[al] at hd
     obtain⟨e,he,rfl⟩:∃e,es[j]? = some e/\fh e=d:=by
      cases q:es[j]? with
      | none=>rw[q] at hd;cases hd
      | some e=>rw[q] at hd;exact⟨e,rfl,af hd⟩
     obtain⟨ta,rfl,hta⟩:=jm rd
     have hem:=av he
     have hval:=hev e hem
     have hnew:∀z y,((y,z)∈es.take (j+1)/\MG.Dst (MG.Arr (MG.swp es)) goal L z)->((y,z)∈es.take j/\MG.Dst (MG.Arr (MG.swp es)) goal L z)∨(z=e.2/\y=e.1/\MG.Dst (MG.Arr (MG.swp es)) goal L z):=by
      rintro z y ⟨h1,h2⟩
      rw[aA,he,ar] at h1
      rcases h1 with h1 | h1
      ·exact .inl ⟨h1,h2⟩
      ·have:(y,z)=e:=by simpa using h1
       rw[<- this]
       exact .inr ⟨rfl,rfl,h2⟩
     refine⟨ta,_,rfl,.of hta,rfl,_,_,rfl,_,_,rfl,rfl,?_⟩
     refine⟨_,rfl,_,rfl,.lst (.of e4) (ke hval.2 far) ⟨_,rfl,.sc (nA _ _) ⟨_,rfl,?_⟩⟩⟩
     refine df (fun h1=>?_) (fun h1=>?_)
     ·have h1:jy (far e.2)=.int (0+(L:Nat)) := au h1
      rw[Int.zero_add] at h1
      have h1:=farV_int.mp h1
      have dz:MG.Dst (MG.Arr (MG.swp es)) goal L e.2:=by
       rcases mid.snd e.2 L h1 with h | ⟨h,_⟩
       ·exact h.1
       ·omega
      refine⟨_,rfl,_,rfl,.lst (.of e4) (ke hval.1 far) (.non ⟨_,rfl,?_⟩)⟩
      refine df (fun h2=>?_) (fun h2=>?_)
      ·have h2:far e.1=none:=farV_non.mp (au h2)
       refine⟨_,rfl,.int ⟨_,rfl,_,rfl,.lst (j:=e.1) e4 (by rw[iS];exact uo hval.1) ?_⟩⟩
       rw[show (0+(L:Nat)+1:Int)=((L+1:Nat):Int) by omega,oX]
       refine⟨_,_,_,fur++[e.1],rfl,dR s4 hl1,cF,(mid.add (z:=e.2) (y:=e.1) dz (MG.mem_swp.mpr hem) h2 fun a=>rfl).wk fun z y h=>?_⟩
       rcases hnew z y h with h | ⟨h,h',_⟩
       ·exact .inl h
       ·exact .inr ⟨h,h'⟩
      ·have h2:(far e.1).isSome=true:=by
          cases q:far e.1 with
          | none=>rw[q] at h2;exact(h2 (ao (rfl:jy none=V.non))).elim
          | some v=>rfl
       refine⟨_,_,far,fur,rfl,s4,e4,(mid.skip (z:=e.2) h2).wk fun z y h=>?_⟩
       rcases hnew z y h with h | ⟨h,h',_⟩
       ·exact .inl h
       ·exact .inr ⟨h,h'⟩
     ·have h1:¬ far e.2=some L:=fun q=>h1 (ao (by rw[Int.zero_add];exact farV_int.mpr q))
      refine gM ⟨_,_,far,fur,rfl,s4,e4,mid.wk fun z y h=>?_⟩
      rcases hnew z y h with h | ⟨h,h',h''⟩
      ·exact h
      ·rw[h] at h''
       exact absurd (mid.cmp e.2 L (ad _) h'') h1
    ·rintro σ H4 ⟨o5,o6,far,fur,rfl,s4,e4,mid⟩
     rw[rlen,aB (ad _)] at mid
     exact⟨_,_,_,far,fur,rfl,s4,e4,mid.next lev.edg fun z y hz r=>⟨MG.mem_swp.mp r,(lev.edg z).mp hz⟩⟩
   ·rintro σ H3 ⟨o4,o5,o6,far,edge,rfl,s3,e3,lev⟩
    rw[bH] at lev
    have he:edge=[]:=by
     cases edge with
     | nil=>rfl
     | cons y r=>exact absurd (MG.To.lt hev hg ((lev.edg y).mp (by simp))) (by omega)
    subst he
    exact⟨_,rfl,k l far H3 s3 hl1 e3 fun a m=>lev.done a m⟩
def oh:Sp:=fun vs H Q _=>∃(n:Nat) (t lf:Addr) (refs:List V) (es:List (Nat × Nat)) (goal one:Nat) (far:Nat->Option Nat),vs=[.ref t,.ref lf,.int (one:Int)]/\H t=some (.lst refs)/\RepAll H refs (es.map fh)/\es.length<=1000/\(∀e∈es,e.1<n/\e.2<n)/\goal<n/\one<n/\n<=60 /\
 H lf=some (.lst (fw n far))/\(∀a k,far a=some k ↔ MG.To es goal k a) /\
 ((∀k,¬ MG.To es goal k one)->Q .non H)/\∀l k ws H',MG.To es goal k one->MG.Wy es goal k one ws->Same H H'->H l=none->H' l=some (.lst (d7 ws))->Q (.ref l) H'
theorem lc (us:List Nat) (a:Nat):atI (d7 (us++[a])) (-1)=some (.int (a:Int)):=by
 unfold d7
 rw[aj]
 exact o0 _ _
theorem scLWay:FnScope ["_law_ties_here","_law_far_here","_law_one","_law_told","_law_left"] ["_law_ties_here","_law_far_here","_law_one"] (cI jz):=⟨rfl,rfl,rfl,by decide +kernel,rfl,by decide +kernel,by decide +kernel⟩
theorem xi {f:Addr}{fd:FuncData}(F:Fun K "_law_way" "_law_way" jz f fd) (B:Blt mg):FnOk P w K mg base CX0 1 f fd ["_law_ties_here", "_law_far_here", "_law_one"] oh := by
 refine F.ok scLWay (fun vs H Q E h=>?_) (fun cdv A outer s H vs Q E hr h=>?_)
 ·obtain⟨n,t,lf,refs,es,goal,one,far,rfl,_⟩:=h
  rfl
 ·obtain⟨n, t, lf, refs, es, goal, one, far, rfl, ht, rp, hel, hev, hg, hone, hn, hlf, hfar, k0, k⟩ := h
  have nd:=scLWay.nd
  refine⟨_,(cG (dG (cU kh (cR (cX K hr.units) (pv 1) (pv 2) (fun _ _=>rfl)) dX (dg _)) (cJ (cS dX)) dk)
   (cG (cQ (i:=3) nd rfl (Or.inr rfl) (dC (cC (pv 2) cE)))
   (cG (iW PassesOwn.never (cU jq (cR (cX K hr.units) (pv 1) (cR (cX K hr.units) (pv 3) (iu gR cK) (fun _ _=>rfl)) (fun _ _=>rfl)) cK (dg _)) (cG (cQ (i:=4) nd rfl (Or.inr rfl) (cW jU (cR (cX K hr.units) (pv 1) (cR (cX K hr.units) (pv 3) (iu gR cK) (fun _ _=>rfl)) (fun _ _=>rfl)) cK))
   (cJ (dQ (fZ K (pv 3) (cC (yZ K rfl B (cC (dN (cI jz) ["_law_ties_here","_law_far_here","_law_one","_law_told","_law_left"] ["_law_first","_law_last"] [4,3,1] ["_law_first","_law_last","_law_left","_law_told","_law_far_here"] rfl (dI K (pv 0)) (fun _ _ _ _ _=>(gH (n:=2) K rfl (d4 (cT (i:=0) (show (["_law_first","_law_last","_law_left","_law_told","_law_far_here"]:List Str).Nodup by decide) rfl (Or.inl rfl)) (d4 (cT (i:=1) (show (["_law_first","_law_last","_law_left","_law_told","_law_far_here"]:List Str).Nodup by decide) rfl (Or.inl rfl)) gB)))) (fun _ _ _ _ _=>(gJ (PW.pt (ic (cU (dO hr.units) (pv 0) (cR (cX K hr.units) (pv 3) (iu gR cK) (fun _ _=>rfl)) (dg _)) (gE (cU (dO hr.units) (cR (cX K hr.units) (pv 4) (pv 1) (fun _ _=>rfl)) (pv 2) (dg _))))))) (fun _ _ _ _ _=>(pv 1))) cE)) cE))))))
   (cJ (cS (pv 3)))))),?_⟩
  have rlen:=rp.len
  rw[ac] at rlen
  refine⟨_,rfl,_,rfl,.lst (.of hlf) (ke hone far) (.non ⟨_,rfl,?_⟩)⟩
  refine df (fun h1=>?_) (fun h1=>?_)
  ·have h1:far one=none:=farV_non.mp (au h1)
   refine k0 fun k hk=>?_
   rw[(hfar one k).mpr hk] at h1
   cases h1
  ·obtain⟨k1, hk1⟩:∃k1, far one=some k1 := by
      cases q:far one with
      | none=>rw[q] at h1;exact(h1 (ao (rfl:jy none=V.non))).elim
      | some v=>exact⟨v,rfl⟩
   have to1:=(hfar one k1).mp hk1
   refine⟨_,rfl,(by show 1<=sizeLine;decide),fun l hl=>?_⟩
   refine⟨fun m σ H'=>∃us a o4,σ=[some (.ref t),some (.ref lf),some (.int (one:Int)),some (.ref l),o4]/\Same H H'/\H' l=some (.lst (d7 (us++[a])))/\MG.Pre es goal k1 one m a (us++[a]),⟨k1,[],one,none,rfl,Same.new hl,cF,MG.Pre.start to1⟩,?_⟩
   rintro m σ H1 ⟨us,a,o4,rfl,s1,e1,pre⟩
   have toa:=pre.1
   have ha:=MG.To.inn hev hg toa
   have hfa:=(hfar a m).mpr toa
   have hfa2:atI (fw n far) (a:Int)=some (.int (m:Int)):=by rw[ke ha far,hfa];rfl
   refine⟨_,rfl,_,rfl,_,rfl,.lst (.of e1) (lc us a) (.lst (.of (s1 _ _ hlf)) hfa2 ⟨_,_,rfl,rfl,_,rfl,?_⟩)⟩
   refine df (fun h2=>?_) (fun h2=>?_)
   ·have h2:(0:Int)<(m:Int) := au h2
    obtain⟨j,rfl⟩:∃j,m=j+1:=⟨m-1,by omega⟩
    refine⟨fun σ' H'=>∃us a o4,σ'=[some (.ref t),some (.ref lf),some (.int (one:Int)),some (.ref l),o4]/\Same H H'/\H' l=some (.lst (d7 (us++[a])))/\MG.Pre es goal k1 one j a (us++[a]),fun σ' H' p=>⟨j,by omega,p⟩,?_⟩
    refine⟨_,rfl,_,rfl,_,rfl,.lst (.of e1) (lc us a) (.lst (.of (s1 _ _ hlf)) hfa2 ⟨_,_,rfl,rfl,?_⟩)⟩
    dsimp only
    rw[show ((j+1:Nat):Int)-1=(j:Int) by omega]
    refine⟨_,rfl,.inl ⟨rfl,_,.of e1⟩,?_⟩
    refine⟨_,rfl,t,rfl,⟨_,.of (s1 _ _ ht)⟩,?_⟩
    refine fg refs (fun D i acc σ' H'=>∃o1 o2,σ'=[o1,o2,some (.int (j:Int)),some (.ref l),some (.ref lf)]/\acc=d7 (((es.take i).filter fun e=>decide (e.1=a/\far e.2=some j)).map (·.2))/\Same H1 H'/\H1 D=none) fun D hD=>⟨?_,?_,?_,?_⟩
    ·exact⟨none,none,rfl,rfl,Same.new hD,hD⟩
    ·rintro i acc σ' H' _ ⟨o1,o2,rfl,_,sm,_⟩ _
     exact .of (sm _ _ (s1 _ _ ht))
    ·rintro i acc σ' H' x hx ⟨o1, o2, rfl, rfl, sm, hD0⟩ hacc
     obtain⟨d,hd,rd⟩:=((rp.same s1).same sm).get hx
     rw[al] at hd
     obtain⟨e,he,rfl⟩:∃e,es[i]? = some e/\fh e=d:=by
      cases q:es[i]? with
      | none=>rw[q] at hd;cases hd
      | some e=>rw[q] at hd;exact⟨e,rfl,af hd⟩
     obtain⟨ta,rfl,hta⟩:=jm rd
     have hil:=(ai.mp he).1
     have hval:=hev e (av he)
     have hsz:(d7 (((es.take i).filter fun e=>decide (e.1=a/\far e.2=some j)).map (·.2))).length<sizeLine:=by
      rw[show ∀xs:List Nat,(d7 xs).length=xs.length from fun xs=>by simp[d7],ac]
      have h2:=bd (fun e:Nat × Nat=>decide (e.1=a/\far e.2=some j)) (es.take i)
      rw[aF] at h2
      exact cN (by omega)
     have hno:¬ (e.1=a/\far e.2=some j)->(((es.take (i+1)).filter fun e=>decide (e.1=a/\far e.2=some j)).map (·.2))=(((es.take i).filter fun e=>decide (e.1=a/\far e.2=some j)).map (·.2)):=fun q=>by
      rw[aA,he,be,aj]
      simp[q]
     refine⟨ta,_,rfl,.of hta,rfl,_,_,rfl,_,_,rfl,rfl,?_⟩
     refine⟨_,rfl,_,rfl,_,rfl,.lst (.of (sm _ _ e1)) (lc us a) (.sc rfl ⟨_,rfl,?_⟩)⟩
     refine df (fun h3=>?_) (fun h3=>?_)
     ·have h3:((e.1:Nat):Int)=(a:Nat):=V.int.inj (au h3)
      have h3:e.1=a:=by omega
      refine⟨_,rfl,_,rfl,.lst (.of (sm _ _ (s1 _ _ hlf))) (ke hval.2 far) ⟨_,rfl,.sc (nA _ _) ⟨_,rfl,?_⟩⟩⟩
      refine df (fun h4=>?_) (fun h4=>?_)
      ·have h4:far e.2=some j:=farV_int.mp (au h4)
       refine⟨_,rfl,hacc,hsz,_,_,rfl,?_,dR sm hD0,hD0⟩
       rw[aA,he,be,aj]
       simp[h3,h4,d7]
      ·have h4:¬ far e.2=some j:=fun q=>h4 (ao (farV_int.mpr q))
       exact⟨hacc,_,_,rfl,by rw[hno fun q=>h4 q.2],sm,hD0⟩
     ·have h3:¬ e.1=a:=fun q=>h3 (ao (by rw[q]))
      exact gM ⟨hacc,_,_,rfl,by rw[hno fun q=>h3 q.1],sm,hD0⟩
    ·rintro acc σ' H2 ⟨o1, o2, rfl, rfl, s2, hD0⟩ hacc
     rw[rlen,aB (ad _)] at hacc
     have en:∀xs:List Nat,d7 xs=List.map V.int (xs.map fun x:Nat=>(x:Int)):=fun xs=>by rw[aV];rfl
     obtain⟨c,hc1,hc2⟩:=MG.To.pred toa
     have hmem:∀x,x∈((es.filter fun e=>decide (e.1=a/\far e.2=some j)).map (·.2)) ↔ (a,x)∈es/\MG.To es goal j x:=fun x=>by
      rw[aq]
      constructor
      ·rintro⟨e,he,rfl⟩
       obtain⟨h1,h2⟩:=aw.mp he
       have h2:=au h2
       refine⟨?_,(hfar _ _).mp h2.2⟩
       rw[<- h2.1];exact h1
      ·rintro⟨h1,h2⟩
       exact⟨(a,x),aw.mpr ⟨h1,ao ⟨rfl,(hfar _ _).mpr h2⟩⟩,rfl⟩
     refine⟨D,_,rfl,.of (by rw[<- en];exact hacc),?_,fun M hM hMin=>?_⟩
     ·rw[ac]
      exact List.length_pos_of_mem ((hmem c).mpr ⟨hc1,hc2⟩)
     ·obtain⟨b,hb,rfl⟩:=aq.mp hM
      have lst:MG.Lst es goal j a b:=⟨((hmem b).mp hb).1,((hmem b).mp hb).2,fun c h1 h2=>by
       have:=hMin (c:Int) (aq.mpr ⟨c,(hmem c).mpr ⟨h1,h2⟩,rfl⟩)
       omega⟩
      have pre':=pre.add lst
      have hlen:=pre'.2.2.2
      have hk1:=MG.To.lt hev hg to1
      have e2:=s2 _ _ e1
      refine⟨l,_,_,rfl,rfl,e2,?_,?_⟩
      ·rw[show ∀xs:List Nat,(d7 xs).length=xs.length from fun xs=>by simp[d7]]
       rw[az] at hlen
       exact cN (by omega)
      ·refine⟨us++[a],b,_,rfl,?_,?_,pre'⟩
       ·exact dR (s1.trans s2) hl
       ·rw[cF];simp[d7]
   ·have hm:m=0:=by
       have h2:¬ (0:Int)<(m:Int):=fun q=>h2 (ao q)
       omega
    subst hm
    exact⟨_,rfl,k l k1 _ H1 to1 pre.done s1 hl e1⟩
def nmA (ss:List Str) (i:Nat):Str:=ss.getD i ""
theorem ww (ss:List Str):ss=(List.range ss.length).map (nmA ss):=by
 apply List.ext_getElem?
 intro i
 rw[al]
 by_cases hi:i<ss.length
 ·rw[aG hi,List.getElem?_range hi]
  simp[nmA,hi]
 ·rw[cr (by omega),cr (by simpa using hi)]
  rfl
theorem mJ {ss:List Str}{es:List (Nat × Nat)}(nd:ss.Nodup) (nm:∀s∈ss,Nm s) (val:∀e∈es,e.1<ss.length/\e.2<ss.length) {a b:Nat}:(nmA ss a,nmA ss b)∈es.map (nmP ss) ↔ (a,b)∈es:=by
 rw[aq]
 constructor
 ·rintro⟨e,he,q⟩
  have q1:=iO nd nm (val e he).1 (Prod.mk.inj q).1
  have q2:=iO nd nm (val e he).2 (Prod.mk.inj q).2
  rw[<- q1,<- q2];exact he
 ·intro h;exact⟨(a,b),h,rfl⟩
def nxn (n:Nat) (es:List (Nat × Nat)) (a:Nat):List Nat:=(List.range n).filter fun b=>decide ((a,b)∈es)
theorem pW {ss:List Str}{es:List (Nat × Nat)}(nd:ss.Nodup) (nm:∀s∈ss,Nm s) (val:∀e∈es,e.1<ss.length/\e.2<ss.length) (a:Nat):fk ss (es.map (nmP ss)) (nmA ss a)=(nxn ss.length es a).map (nmA ss):=by
 unfold fk nxn
 have e2:∀g:Str->Bool,ss.filter g=((List.range ss.length).map (nmA ss)).filter g:=fun g=>by rw[<- ww ss]
 rw[e2,List.filter_map]
 congr 1
 refine List.filter_congr fun i hi=>?_
 show decide ((nmA ss a,nmA ss i)∈es.map (nmP ss))=decide ((a,i)∈es)
 rw[bn,decide_eq_true_iff,decide_eq_true_iff,mJ nd nm val]
theorem rq {n b:Nat}{q:Nat->Bool}{r:List Nat}(h:(List.range n).filter q=b::r):b<n/\q b=true/\∀c,c<n->q c=true->b<=c:=by
 have hb:b∈(List.range n).filter q:=by rw[h];simp
 obtain⟨h1,h2⟩:=aw.mp hb
 refine⟨aR.mp h1,h2,fun c hc hq=>?_⟩
 have hm:c∈(List.range n).filter q:=aw.mpr ⟨aR.mpr hc,hq⟩
 have hp:=(List.pairwise_lt_range (n:=n)).filter q
 rw[h] at hm hp
 rcases am.mp hm with rfl | hm
 ·exact ad _
 ·exact aS ((List.pairwise_cons.mp hp).1 c hm)
theorem lW {ss:List Str}{es:List (Nat × Nat)}(nd:ss.Nodup) (nm:∀s ∈ ss, Nm s) (val:∀e ∈ es, e.1<ss.length /\ e.2<ss.length) {one i k:Nat}(hi:i<ss.length) :
    MG.Walk (Tie (es.map (nmP ss))) k (nmA ss one) (nmA ss i) ↔ MG.Walk (MG.Arr es) k one i:=by
 constructor
 ·intro r
  obtain⟨y,ey,ry⟩:=MG.Walk.back (R:=MG.Arr es) (x:=one) (nmA ss) (fun a c h=>by
   obtain⟨e,he,q⟩:=aq.mp h
   have q1:ss.getD e.1 ""=ss.getD a "":=(Prod.mk.inj q).1
   have q2:ss.getD e.2 ""=c:=(Prod.mk.inj q).2
   have:=iO nd nm (val e he).1 q1
   exact⟨e.2,q2.symm,by unfold MG.Arr;rw[<- this];exact he⟩) r
  have:=iO nd nm hi ey
  rw[this];exact ry
 ·intro r
  exact MG.Walk.map (nmA ss) (fun a b h=>aq.mpr ⟨(a,b),h,rfl⟩) r
theorem nz {ss:List Str}{es:List (Nat × Nat)}(nd:ss.Nodup) (nm:∀s∈ss,Nm s) (val:∀e∈es,e.1<ss.length/\e.2<ss.length) {goal i k:Nat}(hi:i<ss.length) :
    MG.Dst (Tie (dM (es.map (nmP ss)))) (nmA ss goal) k (nmA ss i) ↔ MG.To es goal k i:=by
 rw[wY]
 have w:∀k,MG.Walk (Tie ((lY es).map (nmP ss))) k (nmA ss goal) (nmA ss i) ↔ MG.Walk (MG.Arr (lY es)) k goal i:=fun k=>lW nd nm (uN val) hi
 constructor
 ·rintro⟨h1,h2⟩
  exact⟨(w k).mp h1,fun m hm q=>h2 m hm ((w m).mpr q)⟩
 ·rintro⟨h1,h2⟩
  exact⟨(w k).mpr h1,fun m hm q=>h2 m hm ((w m).mp q)⟩
theorem vG {H:Hp}{q:V}{ss:List Str}{ts:List (Str × Str)}(W:Web H q ss ts):Ner ss (fk ss (if true then dM ts else ts))=Tie (dM ts):=by
 funext a b
 refine propext ⟨fun h=>?_,fun h=>?_⟩
 ·have h3:=au (aw.mp h.2).2
  exact h3
 ·have g:=W.inn _ (mem_flip.mp h)
  exact⟨g.2,aw.mpr ⟨g.1,ao h⟩⟩
def wt (kvs:List (Key × V)) (ss:List Str) (es:List (Nat × Nat)) (goal:Nat):Prop:=∀i v,i<ss.length->(cY kvs (.inr (nmA ss i))=some v ↔ ∃k:Nat,v=.int (k:Int)/\MG.To es goal k i)
def dZ (ss:List Str) (es:List (Nat × Nat)):Prop:=∀e∈es,e.1<ss.length/\e.2<ss.length
def lh:Sp:=fun vs H Q _=>∃(q:V) (ss:List Str) (es:List (Nat × Nat)) (dl:Addr) (kvs:List (Key × V)) (goal j a:Nat),vs=[q,.str (nmA ss a),.ref dl]/\Web H q ss (es.map (nmP ss))/\dZ ss es/\H dl=some (.dK kvs)/\wt kvs ss es goal/\a<ss.length/\MG.To es goal (j+1) a /\
 ∀b H',MG.Lst es goal j a b->Same H H'->Q (.str (nmA ss b)) H'
theorem scNearer:FnScope ["web","thing","left","nearer"] ["web","thing","left"] (cI g9):=⟨rfl,rfl,rfl,by decide +kernel,rfl,by decide +kernel,by decide +kernel⟩
theorem sv {f:Addr}{fd:FuncData}(F:Fun K "first_nearer" "first_nearer" g9 f fd) (B:Blt mg) (cnexts:Cal P w K mg base 2 "nexts" ["web", "one"] (gk false)):FnOk P w K mg base CX0 3 f fd ["web", "thing", "left"] lh := by
 refine F.ok scNearer (fun vs H Q E h=>?_) (fun cdv A outer s H vs Q E hr h=>?_)
 ·obtain⟨q,ss,es,dl,kvs,goal,j,a,rfl,_⟩:=h
  rfl
 ·obtain⟨q, ss, es, dl, kvs, goal, j, a, rfl, W, val, hdl, left, ha, toa, k⟩ := h
  have nd:=scNearer.nd
  refine⟨_,(cG (mU (i:=3) nd rfl rfl (by rfl) (cI g9) ["web","thing","left","nearer"] ["near"] [2,1] ["near","left","thing"] rfl (dI K (cP cnexts (hr.mono (by decide)) rfl (cC (pv 0) (cC (pv 1) cE)))) (fun _ _ _ _ _=>(cT (i:=0) (show (["near","left","thing"]:List Str).Nodup by decide) rfl (Or.inl rfl))) (fun _ _ _ _ _=>(gJ (PW.pt (ic (cU (jk K hr.units) (pv 0) (pv 1) (by with_unfolding_all rfl)) (gE (cU jV (cR (cX K hr.units) (pv 1) (pv 0) (fun _ _=>rfl)) (cR (cX K hr.units) (pv 1) (pv 2) (fun _ _=>rfl)) (dg _))))))) (fun _ _ _ _ _=>(pv 0)))
   (cJ (cS (cR (cX K hr.units) (pv 3) cK (fun _ _=>rfl))))),?_⟩
  refine⟨_,rfl,_,rfl,q,ss,_,_,rfl,W,fun l1 H1 s1 hl1 hc1=>⟨l1,rfl,⟨_,.of hc1⟩,?_⟩⟩
  have hc1:H1 l1=some (.lst (List.map V.str ((nxn ss.length es a).map (nmA ss)))):=by rw[<- pW W.nd W.nm val a];exact hc1
  have hfl:(nxn ss.length es a).length<=ss.length:=by
   have:=bd (fun b=>decide ((a,b)∈es)) (List.range ss.length)
   rw[bj] at this
   exact this
  have hlen:=W.len
  refine fg (List.map V.str ((nxn ss.length es a).map (nmA ss))) (fun D i acc σ' H'=>∃o,σ'=[o,some (.ref dl),some (.str (nmA ss a))]/\acc=List.map V.str ((((nxn ss.length es a).take i).filter fun b=>decide (cY kvs (.inr (nmA ss b))=some (.int (j:Int)))).map (nmA ss))/\Same H1 H'/\H1 D=none) fun D hD=>⟨?_,?_,?_,?_⟩
  ·exact⟨none,rfl,rfl,Same.new hD,hD⟩
  ·rintro i acc σ' H' _ ⟨o,rfl,_,sm,_⟩ _
   exact .of (sm _ _ hc1)
  ·rintro i acc σ' H' x hx ⟨o, rfl, rfl, sm, hD0⟩ hacc
   rw[aV,al] at hx
   obtain⟨b,hb,rfl⟩:∃b,(nxn ss.length es a)[i]? = some b/\V.str (nmA ss b)=x:=by
    cases q:(nxn ss.length es a)[i]? with
    | none=>rw[q] at hx;cases hx
    | some e=>rw[q] at hx;exact⟨e,rfl,af hx⟩
   have hil:=(ai.mp hb).1
   obtain⟨hb1,hb2⟩:=aw.mp (av hb)
   have hbn:=aR.mp hb1
   have hbe:=au hb2
   have hd':=sm _ _ (s1 _ _ hdl)
   have hno:¬ cY kvs (.inr (nmA ss b))=some (.int (j:Int))->(((nxn ss.length es a).take (i+1)).filter fun b=>decide (cY kvs (.inr (nmA ss b))=some (.int (j:Int))))=(((nxn ss.length es a).take i).filter fun b=>decide (cY kvs (.inr (nmA ss b))=some (.int (j:Int)))):=fun q=>by
    rw[aA,hb,be]
    simp[q]
   refine⟨_,rfl,_,rfl,.dic (DGet.k (k:=.inr (nmA ss b)) hd') ⟨_,rfl,?_⟩⟩
   refine df (fun h1=>?_) (fun h1=>?_)
   ·obtain⟨v, hv⟩ := bv.mp h1
    obtain⟨k1,rfl,tob⟩:=(left b v hbn).mp hv
    have hav:cY kvs (.inr (nmA ss a))=some (.int ((j+1:Nat):Int)):=(left a _ ha).mpr ⟨j+1,rfl,toa⟩
    have hge:=MG.To.step hbe tob toa
    refine⟨_,rfl,_,rfl,.dic (.inl ⟨kvs,.inr (nmA ss b),.inl hd',rfl,hv.symm⟩) ⟨_,rfl,_,rfl,.dic (.inl ⟨kvs,.inr (nmA ss a),.inl hd',rfl,hav.symm⟩) (.int ⟨_,rfl,?_⟩)⟩⟩
    refine df (fun h2=>?_) (fun h2=>?_)
    ·have h2:(k1:Int)<((j+1:Nat):Int):=au h2
     have:k1=j:=by omega
     subst this
     refine⟨_,rfl,hacc,?_,_,rfl,?_,dR sm hD0,hD0⟩
     ·rw[ac,ac]
      have h2:=bd (fun b=>decide (cY kvs (.inr (nmA ss b))=some (.int (k1:Int)))) ((nxn ss.length es a).take i)
      rw[aF] at h2
      exact cN (by omega)
     ·rw[aA,hb,be,aj,aj]
      simp[hv]
    ·have h2:¬ (k1:Int)<((j+1:Nat):Int):=fun q=>h2 (ao q)
     refine⟨hacc,_,rfl,?_,sm,hD0⟩
     rw[hno fun q=>?_]
     rw[hv] at q
     have:=V.int.inj (af q)
     omega
   ·have h1:¬ (cY kvs (.inr (nmA ss b))).isSome=true:=h1
    refine gM ⟨hacc,_,rfl,?_,sm,hD0⟩
    rw[hno fun q=>?_]
    rw[q] at h1
    exact h1 rfl
  ·rintro acc σ' H2 ⟨o, rfl, rfl, s2, hD0⟩ hacc
   rw[ac,ac,aB (ad _)] at hacc
   have hf:((nxn ss.length es a).filter fun b=>decide (cY kvs (.inr (nmA ss b))=some (.int (j:Int))))=(List.range ss.length).filter fun b=>decide (cY kvs (.inr (nmA ss b))=some (.int (j:Int)))&&decide ((a,b)∈es):=by
    unfold nxn
    rw[List.filter_filter]
   rw[hf] at hacc
   have hq:∀b,b<ss.length->((decide (cY kvs (.inr (nmA ss b))=some (.int (j:Int)))&&decide ((a,b)∈es))=true ↔ (a,b)∈es/\MG.To es goal j b):=fun b hb=>by
    rw[bo,decide_eq_true_iff,decide_eq_true_iff,left b _ hb]
    constructor
    ·rintro⟨⟨k,h1,h2⟩,h3⟩
     have:(j:Int)=k:=V.int.inj h1
     have:j=k:=by omega
     subst this
     exact⟨h3,h2⟩
    ·rintro⟨h1,h2⟩
     exact⟨⟨j,rfl,h2⟩,h1⟩
   cases hl:(List.range ss.length).filter fun b=>decide (cY kvs (.inr (nmA ss b))=some (.int (j:Int)))&&decide ((a,b)∈es) with
   | nil =>
    obtain⟨c,hc1',hc2⟩:=MG.To.pred toa
    have hcn:=(val _ hc1').2
    have:c∈(List.range ss.length).filter fun b=>decide (cY kvs (.inr (nmA ss b))=some (.int (j:Int)))&&decide ((a,b)∈es):=aw.mpr ⟨aR.mpr hcn,(hq c hcn).mpr ⟨hc1',hc2⟩⟩
    rw[hl] at this
    cases this
   | cons b r =>
    obtain⟨g1,g2,g3⟩:=rq hl
    rw[hl] at hacc
    have g2:=(hq b g1).mp g2
    refine⟨_,rfl,.lst (.of hacc) (gy (j:=0) rfl) (k b H2 ⟨g2.1,g2.2,fun c h1 h2=>g3 c (val _ h1).2 ((hq c (val _ h1).2).mpr ⟨h1,h2⟩)⟩ (s1.trans s2))⟩
def rc:Sp:=fun vs H Q _=>∃(q:V) (ss:List Str) (es:List (Nat × Nat)) (goal one:Nat),vs=[q,.str (nmA ss one),.str (nmA ss goal)]/\Web H q ss (es.map (nmP ss))/\dZ ss es/\one<ss.length/\goal<ss.length /\
 ((∀k,¬ MG.To es goal k one)->∀H',Same H H'->Q .non H')/\∀l k ws H',MG.To es goal k one->MG.Wy es goal k one ws->Same H H'->H l=none->H' l=some (.lst (List.map V.str (ws.map (nmA ss))))->Q (.ref l) H'
theorem mF (ss:List Str) (us:List Nat) (a:Nat):atI (List.map V.str ((us++[a]).map (nmA ss))) (-1)=some (.str (nmA ss a)):=by
 rw[aj,aj]
 exact o0 _ _
theorem scWay:FnScope ["web","one","other","left","told"] ["web","one","other"] (cI mH):=⟨rfl,rfl,rfl,by decide +kernel,rfl,by decide +kernel,by decide +kernel⟩
theorem yU {f:Addr}{fd:FuncData}(F:Fun K "way" "way" mH f fd) (B:Blt mg) (csteps_from:Cal P w K mg base 1 "steps_from" ["table", "starts"] jK) (cpriors_of_all:Cal P w K mg base 3 "priors_of_all" ["web"] (gl true)) (cfirst_nearer:Cal P w K mg base 3 "first_nearer" ["web", "thing", "left"] lh):FnOk P w K mg base CX0 4 f fd ["web", "one", "other"] rc := by
 refine F.ok scWay (fun vs H Q E h=>?_) (fun cdv A outer s H vs Q E hr h=>?_)
 ·obtain⟨q,ss,es,goal,one,rfl,_⟩:=h
  rfl
 ·obtain⟨q, ss, es, goal, one, rfl, W, val, hone, hg, k0, k⟩ := h
  have nd:=scWay.nd
  refine⟨_,(cG (cQ (i:=3) nd rfl (Or.inl rfl) (cP csteps_from (hr.mono (by decide)) rfl (cC (cP cpriors_of_all (hr.mono (by decide)) rfl (cC (pv 0) cE)) (cC (dC (cC (pv 2) cE)) cE))))
   (cG (dG (cU (ia K hr.units) (pv 1) (pv 3) (by with_unfolding_all rfl)) (cJ (cS dX)) dk)
   (cG (cQ (i:=4) nd rfl (Or.inl rfl) (dC (cC (pv 1) cE)))
   (cG (iW PassesOwn.never (cU (ph hr.units) (cR (cX K hr.units) (pv 4) (iu gR cK) (fun _ _=>rfl)) (pv 2) (dg _)) (cJ (dQ (fZ K (pv 4) (cC (cP cfirst_nearer (hr.mono (by decide)) rfl (cC (pv 0) (cC (cR (cX K hr.units) (pv 4) (iu gR cK) (fun _ _=>rfl)) (cC (pv 3) cE)))) cE)))))
   (cJ (cS (pv 4))))))),?_⟩
  refine⟨_,rfl,q,ss,_,rfl,W,fun dt H0 s0 hdt T=>⟨_,rfl,(by show 1<=sizeLine;decide),fun ls hls=>⟨dt,ls,nmA ss goal,ss,_,rfl,cF,T.same (Same.new hls),mem_getD hg,W.len,fun t _ u hu=>(aw.mp hu).1,fun dl kvs H2 s2 hdl hk hst=>?_⟩⟩⟩
  have s1:=s0.trans (Same.new (o:=.lst [V.str (nmA ss goal)]) hls)
  rw[vG W] at hst
  have left:wt kvs ss es goal:=fun i v hi=>by
   rw[hst]
   constructor
   ·rintro⟨k,e,d⟩
    exact⟨k,e,(nz W.nd W.nm val hi).mp d⟩
   ·rintro⟨k,e,d⟩
    exact⟨k,e,(nz W.nd W.nm val hi).mpr d⟩
  have s12:=s1.trans s2
  refine⟨_,rfl,_,rfl,.dic (DGet.k (k:=.inr (nmA ss one)) hk) ⟨_,rfl,?_⟩⟩
  refine df (fun h1=>?_) (fun h1=>?_)
  ·have h1:(!(cY kvs (.inr (nmA ss one))).isSome)=true:=h1
   refine k0 (fun k tk=>?_) H2 s12
   rw[(left one _ hone).mpr ⟨k,rfl,tk⟩] at h1
   cases h1
  ·have h1:¬ (!(cY kvs (.inr (nmA ss one))).isSome)=true := h1
   obtain⟨k1,to1⟩:∃k1,MG.To es goal k1 one:=by
    cases q:cY kvs (.inr (nmA ss one)) with
    | none=>rw[q] at h1;exact(h1 rfl).elim
    | some v =>
     obtain⟨k1,_,t⟩:=(left one v hone).mp q
     exact⟨k1,t⟩
   refine⟨_,rfl,(by show 1<=sizeLine;decide),fun l hl=>?_⟩
   have hl0:=dF s12 hl
   refine⟨fun m σ H'=>∃us a,σ=[some q,some (.str (nmA ss one)),some (.str (nmA ss goal)),some (.ref dl),some (.ref l)]/\Same H2 H'/\H' l=some (.lst (List.map V.str ((us++[a]).map (nmA ss))))/\MG.Pre es goal k1 one m a (us++[a]),⟨k1,[],one,rfl,Same.new hl,cF,MG.Pre.start to1⟩,?_⟩
   rintro m σ H3 ⟨us,a,rfl,s3,e3,pre⟩
   have toa:=pre.1
   have ha:=MG.To.inn val hg toa
   refine⟨_,rfl,_,rfl,.lst (.of e3) (mF ss us a) ⟨_,rfl,.sc rfl ⟨_,rfl,?_⟩⟩⟩
   refine df (fun h2=>?_) (fun h2=>?_)
   ·have h2:(!decide (V.str (nmA ss a)=V.str (nmA ss goal)))=true:=h2
    have hne:a≠goal:=fun q=>by subst q;simp at h2
    obtain⟨j,rfl⟩:∃j,m=j+1:=by
     cases m with
     | zero=>exact absurd (MG.To.zero toa) hne
     | succ j=>exact⟨j,rfl⟩
    refine⟨fun σ' H'=>∃us a,σ'=[some q,some (.str (nmA ss one)),some (.str (nmA ss goal)),some (.ref dl),some (.ref l)]/\Same H2 H'/\H' l=some (.lst (List.map V.str ((us++[a]).map (nmA ss))))/\MG.Pre es goal k1 one j a (us++[a]),fun σ' H' p=>⟨j,by omega,p⟩,?_⟩
    refine⟨_,rfl,.inl ⟨rfl,_,.of e3⟩,?_⟩
    refine⟨_,rfl,_,rfl,_,rfl,.lst (.of e3) (mF ss us a) ⟨_,rfl,q,ss,es,dl,kvs,goal,j,a,rfl,(W.same s12).same s3,val,s3 _ _ hk,left,ha,toa,fun b H4 lst s4=>?_⟩⟩
    have pre':=pre.add lst
    have hlen:=pre'.2.2.2
    have hk1:=MG.To.lt val hg to1
    have h60:=W.len
    have e4:=s4 _ _ e3
    refine⟨l,_,_,rfl,rfl,e4,?_,?_⟩
    ·rw[ac,ac]
     rw[az] at hlen
     exact cN (by omega)
    ·refine⟨us++[a],b,rfl,dR (s3.trans s4) hl,?_,pre'⟩
     rw[cF,aj (l₁:=us++[a]),aj (l₁:=(us++[a]).map (nmA ss))];rfl
   ·have h2:¬ (!decide (V.str (nmA ss a)=V.str (nmA ss goal)))=true:=h2
    have he:nmA ss a=nmA ss goal:=by
     refine Classical.byContradiction fun q=>h2 ?_
     have:¬ V.str (nmA ss a)=V.str (nmA ss goal):=fun z=>q (V.str.inj z)
     simp[this]
    have he:=iO W.nd W.nm ha he
    subst he
    have hm:m=0:=MG.Dst.uniq toa MG.To.here
    subst hm
    exact⟨_,rfl,k l k1 _ H3 to1 pre.done (s12.trans s3) hl0 e3⟩
theorem nZ {ss:List Str}{es:List (Nat × Nat)}{goal k one:Nat}{ws:List Nat}(val:dZ ss es) (hg:goal<ss.length) (t:MG.To es goal k one) (wy:MG.Wy es goal k one ws):ws.length<=ss.length/\∀x∈ws,x<ss.length:=by
 have h1:=wy.len
 have h2:=MG.To.lt val hg t
 exact⟨by omega,MG.Wy.inn val hg wy⟩
theorem uP {ss:List Str}(nm:∀s∈ss,Nm s) {ws:List Nat}(h:∀x∈ws,x<ss.length) (hl:ws.length<=1000):Shw (j9 (ws.map (nmA ss))):=by
 refine Shw.names (fun s hs=>?_) (by rw[ac];exact hl)
 obtain⟨j,hj,rfl⟩:=aq.mp hs
 exact nm _ (mem_getD (h j hj))
theorem lj (xs:List V):dA xs none (some (-1))=xs.dropLast:=by
 unfold dA
 have h1:HT.sIx xs.length 0 none=0:=rfl
 have h2:HT.sIx xs.length xs.length (some (-1))=xs.length-1:=by
  show (if (-1:Int)<0 then ((-1:Int)+(xs.length:Int)).toNat else min (-1:Int).toNat xs.length)=xs.length-1
  rw[if_pos (by decide)]
  omega
 rw[h1,h2,List.drop_zero,Nat.sub_zero,cu]
theorem oo (ws:List Nat):(d7 ws).dropLast=d7 ws.dropLast:=by
 unfold d7
 rw[cu,cu,ac,cg]
theorem pi (ss:List Str) (ws:List Nat):(List.map V.str (ws.map (nmA ss))).dropLast=List.map V.str (ws.dropLast.map (nmA ss)):=by
 rw[cu,cu,ac,ac,cg,cg]
def kZ:Sp:=fun vs H Q _=>∃(q:V) (ss:List Str) (es:List (Nat × Nat)) (one other:Nat),vs=[q,.str (nmA ss one),.str (nmA ss other)]/\Web H q ss (es.map (nmP ss))/\dZ ss es/\one<ss.length/\other<ss.length /\
 ((∀k,¬ MG.To es one k other)->∀H',Same H H'->Q .non H')/\∀l k ws H',MG.To es one k other->MG.Wy es one k other ws->Same H H'->H l=none->H' l=some (.lst (List.map V.str ((one::ws.dropLast).map (nmA ss))))->Q (.ref l) H'
theorem scRingBy:FnScope ["web","one","other","back"] ["web","one","other"] (cI iA):=⟨rfl,rfl,rfl,by decide +kernel,rfl,by decide +kernel,by decide +kernel⟩
theorem qG {f:Addr}{fd:FuncData}(F:Fun K "ring_by" "ring_by" iA f fd) (B:Blt mg) (cway:Cal P w K mg base 4 "way" ["web", "one", "other"] rc):FnOk P w K mg base CX0 5 f fd ["web", "one", "other"] kZ := by
 refine F.ok scRingBy (fun vs H Q E h=>?_) (fun cdv A outer s H vs Q E hr h=>?_)
 ·obtain⟨q,ss,es,one,other,rfl,_⟩:=h
  rfl
 ·obtain⟨q, ss, es, one, other, rfl, W, val, hone, hoth, k0, k⟩ := h
  have nd:=scRingBy.nd
  refine⟨_,(cG (cQ (i:=3) nd rfl (Or.inl rfl) (cP cway (hr.mono (by decide)) rfl (cC (pv 0) (cC (pv 2) (cC (pv 1) cE)))))
   (cG (dG (cU kh (pv 3) dX (dg _)) (cJ (cS dX)) dk)
   (cJ (cS (cW dh (dC (cC (pv 1) cE)) (fF (i8 K) (pv 3) fV (fW (iu gR cK)))))))),?_⟩
  refine⟨_,rfl,_,rfl,_,rfl,q,ss,es,one,other,rfl,W,val,hoth,hone,fun hno H1 s1=>?_,fun l1 k1 ws H1 to1 wy s1 hl1 hc1=>?_⟩
  ·refine⟨_,rfl,.non ⟨_,rfl,?_⟩⟩
   refine df (fun _=>?_) (fun h=>(h (ao (rfl:V.non=V.non))).elim)
   exact k0 hno H1 s1
  ·obtain⟨hwl, hwn⟩ := nZ val hone to1 wy
   have h60:=W.len
   refine⟨_,rfl,.non ⟨_,rfl,?_⟩⟩
   refine df (fun h=>?_) (fun _=>?_)
   ·have h:V.ref l1=V.non:=au h
    cases h
   ·refine⟨_,rfl,(by show 1<=sizeLine;decide),fun l2 hl2=>?_⟩
    have s2:=Same.new (o:=.lst [V.str (nmA ss one)]) hl2
    refine⟨_,rfl,_,rfl,_,rfl,.lst (.of (s2 _ _ hc1)) fun l3 hl3=>?_⟩
    rw[lj,pi]
    have s3:=Same.new (o:=.lst (List.map V.str (ws.dropLast.map (nmA ss)))) hl3
    refine .lst (s3 _ _ cF) cF ?_ fun l hl=>?_
    ·rw[ac,ac,cA]
     show 1+(ws.length-1)<=sizeLine
     exact aS (cN (by omega))
    ·exact k l k1 ws _ to1 wy (s1.trans (s2.trans (s3.trans (Same.new hl)))) (dF (s1.trans (s2.trans s3)) hl) cF
theorem xg {H:Hp}{q:V}{ss:List Str}{ts:List (Str × Str)}(W:Web H q ss ts):Ner ss (fk ss (if false then dM ts else ts))=Tie ts:=by
 funext a b
 refine propext ⟨fun h=>?_,fun h=>?_⟩
 ·have h3:=au (aw.mp h.2).2
  exact h3
 ·have g:=W.inn _ h
  exact⟨g.1,aw.mpr ⟨g.2,ao h⟩⟩
structure RD (H:Hp) (ss:List Str) (ts:List (Str × Str)) (dr:Addr) (s:Str) (d:Addr):Prop where
 ne:d≠dr
 at_:∃kv,H d=some (.dK kv)/\∀t v,cY kv (.inr t)=some v ↔ ∃k:Nat,v=.int (k:Int)/\MG.Dst (Tie ts) s k t
def jH:Sp:=fun vs H Q _=>∃(q:V) (ss:List Str) (es:List (Nat × Nat)),vs=[q]/\Web H q ss (es.map (nmP ss))/\dZ ss es /\
 ((∀e∈es,¬ MG.RingAt es e)->∀H',Same H H'->Q .non H')/\∀l i e k ws H',MG.FirstR es i e->MG.To es e.1 k e.2->MG.Wy es e.1 k e.2 ws->Same H H'->H l=none->H' l=some (.lst (List.map V.str ((e.1::ws.dropLast).map (nmA ss))))->Q (.ref l) H'
theorem scRingOf:FnScope ["web","table","reached","thing","tie"] ["web"] (cI iI):=⟨rfl,rfl,rfl,by decide +kernel,rfl,by decide +kernel,by decide +kernel⟩
theorem rB {f:Addr}{fd:FuncData}(F:Fun K "ring_of" "ring_of" iI f fd) (B:Blt mg) (csteps_from:Cal P w K mg base 1 "steps_from" ["table", "starts"] jK) (cnexts_of_all:Cal P w K mg base 3 "nexts_of_all" ["web"] (gl false)) (cring_by:Cal P w K mg base 5 "ring_by" ["web", "one", "other"] kZ):FnOk P w K mg base CX0 6 f fd ["web"] jH := by
 refine F.ok scRingOf (fun vs H Q E h=>?_) (fun cdv A outer s H vs Q E hr h=>?_)
 ·obtain⟨q,ss,es,rfl,_⟩:=h
  rfl
 ·obtain⟨q, ss, es, rfl, W, val, k0, k⟩ := h
  have nd:=scRingOf.nd
  refine⟨_,(cG (cQ (i:=1) nd rfl (Or.inl rfl) (cP cnexts_of_all (hr.mono (by decide)) rfl (cC (pv 0) cE)))
   (cG (cQ (i:=2) nd rfl (Or.inl rfl) fE)
   (cG (dY PassesOwn.never rfl (ei K (cR (cX K hr.units) (pv 0) cK (fun _ _=>rfl))) (cT (i:=3) nd rfl (Or.inl rfl)) (cJ (fc (cP csteps_from (hr.mono (by decide)) rfl (cC (pv 1) (cC (dC (cC (pv 3) cE)) cE))) (fv (pv 2) (pv 3) (fP hr.units)))))
   (cG (dY PassesOwn.never rfl (ei K (cR (cX K hr.units) (pv 0) cK (fun _ _=>rfl))) (cT (i:=4) nd rfl (Or.inl rfl)) (cJ (dG (cU (jk K hr.units) (cR (cX K hr.units) (pv 4) cK (fun _ _=>rfl)) (cR (cX K hr.units) (pv 2) (cR (cX K hr.units) (pv 4) cK (fun _ _=>rfl)) (fun _ _=>rfl)) (by with_unfolding_all rfl)) (cJ (cS (cP cring_by (hr.mono (by decide)) rfl (cC (pv 0) (cC (cR (cX K hr.units) (pv 4) cK (fun _ _=>rfl)) (cC (cR (cX K hr.units) (pv 4) cK (fun _ _=>rfl)) cE)))))) dk)))
   (cJ (cS dX)))))),?_⟩
  have h60:=W.len
  obtain⟨q,a,b,xs,rfl,hq,ha,hb,rp⟩:=gT W.rep
  have rlen:=rp.len
  rw[ac] at rlen
  refine⟨_,rfl,.ref q,ss,_,rfl,W,fun dt H1 s1 hdt T=>?_⟩
  intro dr hdr
  have hdr0:=dF s1 hdr
  have s2:=s1.trans (Same.new (o:=.dK []) hdr)
  have T2:=T.same (Same.new (o:=.dK []) hdr)
  have e2:upd H1 dr (.dK []) dr=some (.dK []):=cF
  have sb:Same H1 (upd H1 dr (.dK [])):=Same.new hdr
  generalize upd H1 dr (.dK [])=H2 at s2 T2 e2 sb ⊢
  refine⟨_,rfl,.tup (.of (s2 _ _ hq)) rfl ⟨_,rfl,⟨_,.of (s2 _ _ ha)⟩,?_⟩⟩
  refine fU (xs:=List.map V.str ss) (fun i σ H'=>∃o3 kvs,σ=[some (.ref q),some (.ref dt),some (.ref dr),o3,none]/\Same H1 H'/\H' dr=some (.dK kvs)/\kvs.length<=i/\∀s∈ss.take i,∃d,cY kvs (.inr s)=some (.ref d)/\RD H' ss (es.map (nmP ss)) dr s d) ?_ ?_ ?_ ?_
  ·exact⟨none,[],rfl,sb,e2,ad _,fun s hs=>by simp at hs⟩
  ·rintro i σ H' hi ⟨o3,kvs,rfl,sm,_⟩
   exact .of (sm _ _ (s1 _ _ ha))
  ·rintro i x σ H3 hx ⟨o3, kvs, rfl, s3, hk, hkl, hall⟩
   rw[al] at hx
   obtain⟨t,ht,rfl⟩:∃t,ss[i]? = some t/\V.str t=x:=by
    cases q:ss[i]? with
    | none=>rw[q] at hx;cases hx
    | some e=>rw[q] at hx;exact⟨e,rfl,af hx⟩
   have hil:=(ai.mp ht).1
   refine⟨_,rfl,_,rfl,(by show 1<=sizeLine;decide),fun ls hls=>⟨dt,ls,t,ss,_,rfl,cF,(T.same s3).same (Same.new hls),av ht,W.len,fun t _ u hu=>(aw.mp hu).1,fun d kv H4 s4' hd4' hkd hst=>?_⟩⟩
   have s4:=(Same.new (o:=.lst [V.str t]) hls).trans s4'
   have hd4:=dF (Same.new (o:=.lst [V.str t]) hls) hd4'
   rw[xg W] at hst
   have hk4:=s4 _ _ hk
   have hne:d≠dr:=Ne.symm (cL hk hd4)
   refine⟨_,rfl,_,rfl,.dic (DPut.k (k:=.inr t) hk4 (cN (by omega))) ⟨_,_,rfl,dR (s3.trans s4) hdr,cF,?_,?_⟩⟩
   ·have:=eK kvs (.inr t) (V.ref d)
    omega
   ·intro s hs
    rw[aA,ht,ar] at hs
    by_cases q:s=t
    ·subst q
     refine⟨d,by rw[fj,if_pos rfl],hne,kv,?_,hst⟩
     rw[cH hne];exact hkd
    ·rcases hs with hs | hs
     ·obtain⟨d',e1,n1,kv',e2,h2⟩:=hall s hs
      refine⟨d',by rw[fj,if_neg (fun z=>q (Sum.inr.inj z))];exact e1,n1,kv',?_,h2⟩
      rw[cH n1];exact s4 _ _ e2
     ·exact absurd (by simpa using hs) q
  ·rintro σ H3 ⟨o3, kvs, rfl, s3, hk, _, hall⟩
   rw[ac,aB (ad _)] at hall
   have s13:=s1.trans s3
   refine⟨_,rfl,.tup (.of (s13 _ _ hq)) rfl ⟨_,rfl,⟨_,.of (s13 _ _ hb)⟩,?_⟩⟩
   refine fU (xs:=xs) (fun i σ H'=>∃o3 o4,σ=[some (.ref q),some (.ref dt),some (.ref dr),o3,o4]/\H'=H3/\∀j,j<i->∀f,es[j]? = some f->¬ MG.RingAt es f) ?_ ?_ ?_ ?_
   ·exact⟨_,_,rfl,rfl,fun j hj=>by omega⟩
   ·rintro i σ H' hi ⟨o3,o4,rfl,rfl,_⟩
    exact .of (s13 _ _ hb)
   ·rintro i x σ H' hx ⟨o3, o4, rfl, rfl, hno⟩
    obtain⟨d,hd,rd⟩:=(rp.same s13).get hx
    rw[al,al] at hd
    obtain⟨e,he,rfl⟩:∃e,es[i]? = some e/\er (nmP ss e)=d:=by
     cases q:es[i]? with
     | none=>rw[q] at hd;cases hd
     | some e=>rw[q] at hd;exact⟨e,rfl,af hd⟩
    obtain⟨ta,rfl,hta⟩:=jd rd
    have hval:=val e (av he)
    obtain⟨d2,hd2,hne2,kv2,hkv2,hst2⟩:=hall (nmA ss e.2) (mem_getD hval.2)
    have hring:(cY kv2 (.inr (nmA ss e.1))).isSome=true ↔ MG.RingAt es e:=by
     have h1:∀k,MG.Walk (Tie (es.map (nmP ss))) k (nmA ss e.2) (nmA ss e.1) ↔ MG.Walk (MG.Arr es) k e.2 e.1:=fun k=>lW W.nd W.nm val hval.1
     constructor
     ·intro h
      obtain⟨v,hv⟩:=bv.mp h
      obtain⟨m,_,dm⟩:=(hst2 _ v).mp hv
      exact MG.rch_to.mp ⟨m,(h1 m).mp dm.1⟩
     ·intro h
      obtain⟨m,wm⟩:=MG.rch_to.mpr h
      obtain⟨m',dm⟩:=MG.Rch.dst (R:=Tie (es.map (nmP ss))) ⟨m,(h1 m).mpr wm⟩
      rw[(hst2 _ (.int (m':Int))).mpr ⟨m',rfl,dm⟩];rfl
    refine⟨_,rfl,.tup (.of hta) rfl ⟨_,rfl,_,rfl,.tup (.of hta) rfl (.dic (.inl ⟨kvs,.inr (nmA ss e.2),.inl hk,rfl,hd2.symm⟩) (.dic (DGet.k (k:=.inr (nmA ss e.1)) hkv2) ⟨_,rfl,?_⟩))⟩⟩
    refine df (fun h1=>?_) (fun h1=>?_)
    ·have hR:MG.RingAt es e:=hring.mp h1
     refine⟨_,rfl,_,rfl,.tup (.of hta) rfl ⟨_,rfl,.tup (.of hta) rfl ⟨.ref q,ss,es,e.1,e.2,rfl,W.same s13,val,hval.1,hval.2,fun hn=>?_,fun l m ws H4 tom wy s4 hl hc=>?_⟩⟩⟩
     ·obtain⟨m,tm⟩:=hR
      exact absurd tm (hn m)
     ·exact k l i e m ws H4 ⟨he,hR,hno⟩ tom wy (s13.trans s4) (dF s13 hl) hc
    ·have hR:¬ MG.RingAt es e:=fun z=>h1 (hring.mpr z)
     refine⟨_,_,rfl,rfl,fun j hj f hf=>?_⟩
     by_cases q:j<i
     ·exact hno j q f hf
     ·have:j=i:=by omega
      subst this
      rw[he] at hf
      cases hf
      exact hR
   ·rintro σ H' ⟨o3,o4,rfl,rfl,hno⟩
    rw[rlen] at hno
    refine k0 (fun e he=>?_) _ s13
    obtain⟨j,hj,ej⟩:=bR.mp he
    refine hno j ?_ e (by rw[aG hj,ej])
    rw[ac];exact hj
def lD:Sp:=fun vs H Q _=>∃q ss ts,vs=[q]/\Web H q ss ts/\∀d kvs H',Same H H'->H d=none->H' d=some (.dK kvs)->TabK H' kvs ss (fk ss (if true then dM ts else ts))->Q (.ref d) H'
theorem xp {f:Addr}{fd:FuncData}(F:Fun K "priors_of_all" "priors_of_all" fR f fd) (B:Blt mg) (cpriors:Cal P w K mg base 2 "priors" ["web", "one"] (gk true)):FnOk P w K mg base CX0 3 f fd ["web"] lD := by
 refine F.ok scPriorsAll (fun vs H Q E h=>?_) (fun cdv A outer s H vs Q E hr h=>?_)
 ·obtain⟨q,ss,ts,rfl,_⟩:=h
  rfl
 ·obtain⟨q, ss, ts, rfl, W, k⟩ := h
  have nd:=scPriorsAll.nd
  refine⟨_,(cG (cQ (i:=1) nd rfl (Or.inl rfl) fE)
   (cG (dY PassesOwn.never rfl (ei K (cR (cX K hr.units) (pv 0) cK (fun _ _=>rfl))) (cT (i:=2) nd rfl (Or.inl rfl)) (cJ (fc (cP cpriors (hr.mono (by decide)) rfl (cC (pv 0) (cC (pv 2) cE))) (fv (pv 1) (pv 2) (fP hr.units)))))
   (cJ (cS (pv 1))))),?_⟩
  intro d hd
  have W1:=W.same (Same.new (o:=.dK []) hd)
  obtain⟨q,a,b,xs,rfl,hq,ha,hb,rp⟩:=gT W.rep
  have s0:=Same.new (o:=.dK []) hd
  refine⟨_,rfl,.tup (.of (s0 _ _ hq)) rfl ⟨_,rfl,⟨_,.of (s0 _ _ ha)⟩,?_⟩⟩
  refine fU (xs:=List.map V.str ss) (fun i σ H'=>∃o1 kvs,σ=[some (.ref q),some (.ref d),o1]/\Same H H'/\H' d=some (.dK kvs)/\kvs.map (·.1)=(ss.take i).map Sum.inr/\∀s∈ss.take i,∃l,cY kvs (.inr s)=some (.ref l)/\H' l=some (.lst (List.map V.str (fk ss (if true then dM ts else ts) s)))) ?_ ?_ ?_ ?_
  ·exact⟨none,[],rfl,s0,cF,rfl,fun s hs=>by simp at hs⟩
  ·rintro i σ H' hi ⟨o1,kvs,rfl,sm,_⟩
   exact .of (sm _ _ ha)
  ·rintro i x σ H' hx ⟨o1, kvs, rfl, sm, hk, hkl, hall⟩
   rw[al] at hx
   obtain⟨t,ht,rfl⟩:∃t,ss[i]? = some t/\V.str t=x:=by
    cases q:ss[i]? with
    | none=>rw[q] at hx;cases hx
    | some e=>rw[q] at hx;exact⟨e,rfl,af hx⟩
   have hil:=(ai.mp ht).1
   refine⟨_,rfl,_,rfl,.ref q,ss,ts,t,rfl,W.same sm,fun l H2 s2 hl hl2=>?_⟩
   have hk2:=s2 _ _ hk
   have:=W.len
   have hkn:kvs.length<=60:=by
    have h:=congrArg List.length hkl
    rw[ac,ac,aF] at h
    omega
   refine⟨_,rfl,_,rfl,.dic (DPut.k (k:=.inr t) hk2 (cN (by omega))) ⟨_,_,rfl,?_,cF,?_,?_⟩⟩
   ·intro c o hc
    rw[cH (cL hc hd)]
    exact s2 _ _ (sm _ _ hc)
   ·have hnt:(Sum.inr t:Key)∉kvs.map (·.1):=by
       rw[hkl]
       intro z
       obtain⟨u,hu,e⟩:=aq.mp z
       have e:u=t:=Sum.inr.inj e
       subst e
       obtain⟨j,hj⟩:=cc hu
       have hjl:=(ai.mp hj).1
       rw[aF] at hjl
       rw[cx (by omega)] at hj
       have:=(List.getElem?_inj (i:=j) (j:=i) (by omega) W.nd).mp (hj.trans ht.symm)
       omega
    rw[iY hnt,aj,hkl,aA,ht,aj]
    rfl
   ·intro s hs
    rw[aA,ht,ar] at hs
    by_cases q:s=t
    ·subst q
     refine⟨l,by rw[fj,if_pos rfl],?_⟩
     rw[cH (ft hl2 hk2 (by intro z;cases z))]
     exact hl2
    ·rcases hs with hs | hs
     ·obtain⟨l',e1,e2⟩:=hall s hs
      refine⟨l',by rw[fj,if_neg (fun z=>q (Sum.inr.inj z))];exact e1,?_⟩
      rw[cH (ft (s2 _ _ e2) hk2 (by intro z;cases z))]
      exact s2 _ _ e2
     ·exact absurd (by simpa using hs) q
  ·rintro σ H' ⟨o1,kvs,rfl,sm,hk,hkK,hall⟩
   rw[ac,aB (ad _)] at hall hkK
   exact⟨_,rfl,k d kvs H' sm hd hk ⟨hkK,hall⟩⟩
def gX:Sp:=fun vs H Q _=>∃(q:V) (ss:List Str) (es:List (Nat × Nat)),vs=[q]/\Web H q ss (es.map (nmP ss))/\dZ ss es/\MG.Ris es/\∀H',Same H H'->Q .non H'
theorem scRefuse:FnScope ["web","ring"] ["web"] (cI gY):=⟨rfl,rfl,rfl,by decide +kernel,rfl,by decide +kernel,by decide +kernel⟩
theorem rS {f:Addr}{fd:FuncData}(F:Fun K "refuse_ring" "refuse_ring" gY f fd) (B:Blt mg) (cring_of:Cal P w K mg base 6 "ring_of" ["web"] jH):FnOk P w K mg base CX0 7 f fd ["web"] gX := by
 refine F.ok scRefuse (fun vs H Q E h=>?_) (fun cdv A outer s H vs Q E hr h=>?_)
 ·obtain⟨q,ss,es,rfl,_⟩:=h
  rfl
 ·obtain⟨q,ss,es,rfl,W,val,hf,k⟩:=h
  have nd:=scRefuse.nd
  refine⟨_,(cG (cQ (i:=1) nd rfl (Or.inl rfl) (cP cring_of (hr.mono (by decide)) rfl (cC (pv 0) cE)))
   (cJ (dG (cU im (pv 1) dX (dg _)) (cJ kT) dk))),?_⟩
  refine⟨_,rfl,q,ss,es,rfl,W,val,fun _ H1 s1=>?_,fun l i e kk ws H1 hF _ _ _ _ _=>absurd hF.2.1 (hf.noring e (av hF.1))⟩
  refine⟨_,rfl,.non ⟨_,rfl,df (fun h=>absurd h (by decide)) (fun _=>?_)⟩⟩
  exact k H1 s1
def hI (kvs:List (Key × V)) (s:Str):Bool:=(cY kvs (.inr s)).isSome
def mz:Sp:=fun vs H Q _=>∃(s:Str) (tb td l:Addr) (tkv dkv:List (Key × V)) (ps:List Str),vs=[.str s,.ref tb,.ref td]/\Rd H tb (.dK tkv)/\cY tkv (.inr s)=some (.ref l)/\H l=some (.lst (List.map V.str ps))/\H td=some (.dK dkv)/\ps.length<=1000/\∀H',Same H H'->Q (.bl (!hI dkv s&&ps.all (hI dkv))) H'
theorem scIsDue:FnScope ["thing","table","told"] ["thing","table","told"] (cI iQ):=⟨rfl,rfl,rfl,by decide +kernel,rfl,by decide +kernel,by decide +kernel⟩
theorem vF {f:Addr}{fd:FuncData}(F:Fun K "is_due" "is_due" iQ f fd) (B:Blt mg):FnOk P w K mg base CX0 1 f fd ["thing", "table", "told"] mz := by
 refine F.ok scIsDue (fun vs H Q E h=>?_) (fun cdv A outer s H vs Q E hr h=>?_)
 ·obtain⟨s,tb,td,l,tkv,dkv,ps,rfl,_⟩:=h
  rfl
 ·obtain⟨z, tb, td, l, tkv, dkv, ps, rfl, hr1, hv, hl, htd, hps, k⟩ := h
  have nd:=scIsDue.nd
  refine⟨_,(cJ (cS (ii (gn (ia K hr.units) (pv 0) (pv 2) (by with_unfolding_all rfl)) (hZ (lK rfl B (cC (dN (cI iQ) ["thing","table","told"] ["prior"] [2] ["prior","told"] rfl (dI K (cR (cX K hr.units) (pv 1) (pv 0) (fun _ _=>rfl))) (fun _ _ _ _ _=>(cT (i:=0) (show (["prior","told"]:List Str).Nodup by decide) rfl (Or.inl rfl))) (fun _ _ _ _ _=>eM) (fun _ _ _ _ _=>(gn (jk K hr.units) (pv 0) (pv 1) (by with_unfolding_all rfl)))) cE)))))),?_⟩
  refine⟨_,rfl,_,rfl,.dic (DGet.k (k:=.inr z) htd) ⟨_,rfl,df (fun h=>?_) (fun h=>?_)⟩⟩
  ·have h:(!hI dkv z)=true := h
   refine⟨_,rfl,_,rfl,.dic (.inl ⟨tkv,.inr z,hr1,rfl,hv.symm⟩) ⟨l,rfl,⟨_,.of hl⟩,?_⟩⟩
   refine fg (List.map V.str ps) (fun D i acc σ' H'=>∃o,σ'=[o,some (.ref td)]/\acc=(ps.take i).map (fun p=>V.bl (hI dkv p))/\Same H H'/\H D=none) fun D hD=>⟨?_,?_,?_,?_⟩
   ·exact⟨none,rfl,rfl,Same.new hD,hD⟩
   ·rintro i acc σ' H' _ ⟨o,rfl,_,sm,_⟩ _
    exact .of (sm _ _ hl)
   ·rintro i acc σ' H' x hx ⟨o,rfl,rfl,sm,hD0⟩ hacc
    rw[al] at hx
    obtain⟨t,ht,rfl⟩:∃t,ps[i]? = some t/\V.str t=x:=by
     cases q:ps[i]? with
     | none=>rw[q] at hx;cases hx
     | some e=>rw[q] at hx;exact⟨e,rfl,af hx⟩
    have hil:=(ai.mp ht).1
    refine gK ?_
    refine⟨_,rfl,_,rfl,.dic (DGet.k (k:=.inr t) (sm _ _ htd)) ⟨hacc,?_,_,rfl,?_,dR sm hD0,hD0⟩⟩
    ·rw[ac,aF];exact cN (by omega)
    ·rw[aA,ht,aj];rfl
   ·rintro acc σ' H2 ⟨o,rfl,rfl,s2,hD0⟩ hacc
    rw[ac,aB (ad _)] at hacc
    refine⟨D,ps.map (hI dkv),rfl,by rw[aV];exact hacc,?_⟩
    have q:=k H2 s2
    rw[h,Bool.true_and] at q
    rw[List.all_map]
    exact q
  ·have h:¬ (!hI dkv z)=true:=h
   have e:(!hI dkv z)=false:=by simpa using h
   have q:=k H (Same.refl H)
   rw[e,Bool.false_and] at q
   exact q
def oa:Sp:=fun vs H Q _=>∃(q:V) (ss:List Str) (es:List (Nat × Nat)),vs=[q]/\Web H q ss (es.map (nmP ss))/\dZ ss es/\MG.Ris es /\
 ∀l ks H',Same H H'->H l=none->H' l=some (.lst (List.map V.str (ks.map (nmA ss))))->ks.Nodup->(∀x∈ks,x<ss.length)->ks.length=ss.length->MG.Grown es ks->Q (.ref l) H'
theorem scAnew:FnScope ["web","table","told","free"] ["web"] (cI jo):=⟨rfl,rfl,rfl,by decide +kernel,rfl,by decide +kernel,by decide +kernel⟩
def fB (ss:List Str) (ks:List Nat):List (Key × V):=ks.map fun v=>(Sum.inr (nmA ss v),V.bl true)
theorem lB (ss:List Str) (ks:List Nat):(fB ss ks).map (·.1)=(ks.map (nmA ss)).map Sum.inr:=by unfold fB;rw[aV,aV];rfl
theorem kB {ss:List Str}(nd:ss.Nodup) {a b:Nat}(ha:a<ss.length) (hb:b<ss.length) (e:nmA ss a=nmA ss b):a=b:=by
 unfold nmA at e
 rw[aQ,aQ,aG ha,aG hb] at e
 exact(List.getElem_inj nd).mp e
theorem lr {ss:List Str}(nd:ss.Nodup) {ks:List Nat}(hk:∀x∈ks,x<ss.length) {v:Nat}(hv:v<ss.length):hI (fB ss ks) (nmA ss v)=decide (v∈ks):=by
 unfold hI
 rw[bn,uD,lB,decide_eq_true_iff]
 constructor
 ·intro h
  obtain⟨t,ht,e⟩:=aq.mp h
  obtain⟨u,hu,rfl⟩:=aq.mp ht
  have:=kB nd (hk u hu) hv (Sum.inr.inj e)
  exact this ▸ hu
 ·intro h
  exact aq.mpr ⟨_,aq.mpr ⟨v,h,rfl⟩,rfl⟩
theorem nC {ss:List Str}{es:List (Nat × Nat)}(nd:ss.Nodup) (nm:∀s∈ss,Nm s) (val:∀e∈es,e.1<ss.length/\e.2<ss.length) {v:Nat}{p:Str}:p∈fk ss (dM (es.map (nmP ss))) (nmA ss v) ↔ ∃u,u<ss.length/\p=nmA ss u/\(u,v)∈es:=by
 unfold fk
 rw[aw,decide_eq_true_iff,mem_flip]
 constructor
 ·rintro⟨h1,h2⟩
  obtain⟨u,hu⟩:=cc h1
  have hul:=(ai.mp hu).1
  have e:p=nmA ss u:=by unfold nmA;rw[aQ,hu];rfl
  subst e
  exact⟨u,hul,rfl,(mJ nd nm val).mp h2⟩
 ·rintro⟨u,hu,rfl,he⟩
  exact⟨mem_getD hu,(mJ nd nm val).mpr he⟩
theorem pV {ss:List Str}{es:List (Nat × Nat)}(nd:ss.Nodup) (nm:∀s∈ss,Nm s) (val:∀e∈es,e.1<ss.length/\e.2<ss.length) {ks:List Nat}(klt:∀x∈ks,x<ss.length) {v:Nat}(hv:v<ss.length) :
    (!hI (fB ss ks) (nmA ss v)&&(fk ss (dM (es.map (nmP ss))) (nmA ss v)).all (hI (fB ss ks)))=true ↔ v∉ks/\∀u,(u,v)∈es->u∈ks:=by
 rw[bo,lr nd klt hv,bh]
 constructor
 ·rintro⟨h1,h2⟩
  refine⟨(fun z=>by rw[ao z] at h1;cases h1),fun u hu=>?_⟩
  have:=h2 _ ((nC nd nm val).mpr ⟨u,(val _ hu).1,rfl,hu⟩)
  rw[lr nd klt (val _ hu).1] at this
  exact au this
 ·rintro⟨h1,h2⟩
  refine⟨by rw[ba h1];rfl,fun p hp=>?_⟩
  obtain⟨u,hu,rfl,he⟩:=(nC nd nm val).mp hp
  rw[lr nd klt hu]
  exact ao (h2 u he)
theorem xO {f:Addr}{fd:FuncData}(F:Fun K "order_anew" "order_anew" jo f fd) (B:Blt mg) (crefuse_ring:Cal P w K mg base 7 "refuse_ring" ["web"] gX) (cpriors_of_all:Cal P w K mg base 3 "priors_of_all" ["web"] lD) (cis_due:Cal P w K mg base 1 "is_due" ["thing", "table", "told"] mz):FnOk P w K mg base CX0 8 f fd ["web"] oa := by
 refine F.ok scAnew (fun vs H Q E h=>?_) (fun cdv A outer s H vs Q E hr h=>?_)
 ·obtain⟨q,ss,es,rfl,_⟩:=h
  rfl
 ·obtain⟨q, ss, es, rfl, W, val, hf, k⟩ := h
  have nd:=scAnew.nd
  have h60:=W.len
  refine⟨_,(cG (dQ (cP crefuse_ring (hr.mono (by decide)) rfl (cC (pv 0) cE)))
   (cG (cQ (i:=1) nd rfl (Or.inr rfl) (cP cpriors_of_all (hr.mono (by decide)) rfl (cC (pv 0) cE)))
   (cG (cQ (i:=2) nd rfl (Or.inr rfl) fE)
   (cG (iW PassesOwn.never (cU jV (sf B (cC (pv 2) cE)) (sf B (cC (pv 1) cE)) (dg _)) (cG (mU (i:=3) nd rfl rfl (by rfl) (cI jo) ["web","table","told","free"] ["thing"] [1,2] ["thing","table","told"] rfl (yX (pv 1)) (fun _ _ _ _ _=>(cT (i:=0) (show (["thing","table","told"]:List Str).Nodup by decide) rfl (Or.inl rfl))) (fun _ _ _ _ _=>(gJ (gr (cP cis_due (hr.mono (by decide)) rfl (cC (pv 0) (cC (pv 1) (cC (pv 2) cE))))))) (fun _ _ _ _ _=>(pv 0)))
   (cJ (fc jF (fv (pv 2) (cR (cX K hr.units) (pv 3) cK (fun _ _=>rfl)) (fP hr.units))))))
   (cJ (cS (wN rfl B (cC (pv 2) cE)))))))),?_⟩
  refine⟨_,rfl,q,ss,es,rfl,W,val,hf,fun H1 s1=>?_⟩
  refine⟨_,rfl,q,ss,_,rfl,W.same s1,fun d tkv H2 s2 hd0 hd T=>?_⟩
  intro dt hdt
  have hdn:d≠dt:=cL hd hdt
  have s12:=s1.trans s2
  have T3:=T.same (Same.new (o:=.dK []) hdt)
  have hdH:H d=none:=dF s1 hd0
  have hdtH:H dt=none:=dF s12 hdt
  refine⟨fun m σ H'=>∃(ks:List Nat) (o3:Option V),m=ss.length-ks.length/\σ=[some q,some (.ref d),some (.ref dt),o3]/\H' dt=some (.dK (fB ss ks))/\Rd H' d (.dK tkv)/\TabK H' tkv ss (fk ss (dM (es.map (nmP ss))))/\Same H H'/\ks.Nodup/\(∀x∈ks,x<ss.length)/\MG.Grown es ks,
   ⟨_,[],none,rfl,rfl,cF,.inl (by rw[cH hdn];exact hd),T3,s12.trans (Same.new hdt),bz,(fun x hx=>by cases hx),MG.Grown.nil⟩,?_⟩
  rintro m σ H4 ⟨ks,o3,hm,rfl,h4,hR,T4,s4,knd,klt,kg⟩
  have kle:ks.length<=ss.length:=MG.nodup_le knd klt
  have tl:(fB ss ks).length=ks.length:=ac ..
  refine⟨_,rfl,dt,_,rfl,.inl h4,_,rfl,d,tkv,rfl,hR,.int ⟨_,rfl,?_⟩⟩
  rw[tl,T4.len]
  refine df (fun hlt=>?_) (fun hge=>?_)
  ·have hlt:((ks.length:Nat):Int)<((ss.length:Nat):Int) := au hlt
   have hltn:ks.length<ss.length:=by omega
   refine⟨fun σ' H'=>∃(m':Nat) (ks:List Nat) (o3:Option V),m'<m/\m'=ss.length-ks.length/\σ'=[some q,some (.ref d),some (.ref dt),o3]/\H' dt=some (.dK (fB ss ks))/\Rd H' d (.dK tkv)/\TabK H' tkv ss (fk ss (dM (es.map (nmP ss))))/\Same H H'/\ks.Nodup/\(∀x∈ks,x<ss.length)/\MG.Grown es ks,
    fun σ' H' ⟨m',ks,o3,hlt,g⟩=>⟨m',hlt,ks,o3,g⟩,?_⟩
   refine⟨_,rfl,d,tkv,rfl,hR,fun ob H5 hfz hne=>?_⟩
   have k5:∀b xs,H4 b=some (.lst xs)->H5 b=some (.lst xs):=fun b xs e=>by
    rw[hne b (fun z=>by subst z;rcases hR with r | ⟨o',r⟩ <;> (rw[r] at e;cases e))]
    exact e
   have T5:=T4.keep k5
   have h5:H5 dt=some (.dK (fB ss ks)):=by rw[hne dt (Ne.symm hdn)];exact h4
   have s5:Same H H5:=fun b o e=>by rw[hne b (cL e hdH)];exact s4 _ _ e
   obtain⟨due,hdue⟩:∃due:Str->Bool,due=fun z=>!hI (fB ss ks) z&&(fk ss (dM (es.map (nmP ss))) z).all (hI (fB ss ks)):=⟨_,rfl⟩
   refine uF tkv (fun D i acc σ' H'=>∃o,σ'=[o,some (.ref d),some (.ref dt)]/\acc=List.map V.str ((ss.take i).filter due)/\Same H5 H'/\H5 D=none) fun D hD=>⟨?_,?_,?_,?_⟩
   ·exact⟨none,rfl,rfl,Same.new hD,hD⟩
   ·rintro i acc σ' H' _ ⟨o,rfl,_,sm,_⟩ _
    exact sm _ _ hfz
   ·rintro i acc σ' H' kv hkv ⟨o,rfl,rfl,sm,hD0⟩ hacc
    obtain⟨z,hz,ez⟩:=T5.at hkv
    rw[ez]
    have hil:=(ai.mp hz).1
    obtain⟨l,hv,hl⟩:=T5.2 z (av hz)
    have hpl:(fk ss (dM (es.map (nmP ss))) z).length<=1000:=by
     have:=bd (fun t=>decide ((z,t)∈dM (es.map (nmP ss)))) ss
     unfold fk
     omega
    have hfl:=bd due (ss.take i)
    rw[aF] at hfl
    have step:(ss.take (i+1)).filter due=(ss.take i).filter due++(if due z=true then [z] else []):=by
     rw[aA,hz,be]
     by_cases q:due z=true
     ·simp[q]
     ·simp[q]
    refine⟨_,rfl,_,rfl,_,rfl,z,d,dt,l,tkv,fB ss ks,_,rfl,.inr ⟨ob,sm _ _ hfz⟩,hv,sm _ _ hl,sm _ _ h5,hpl,fun H7 s7=>⟨_,rfl,df (fun h=>?_) (fun h=>?_)⟩⟩
    ·have h:due z=true:=by rw[hdue];exact h
     refine⟨_,rfl,s7 _ _ hacc,by rw[ac];exact cN (by omega),_,rfl,by rw[step,if_pos h,aj];rfl,dR (sm.trans s7) hD0,hD0⟩
    ·have h:¬ due z=true:=by rw[hdue];exact h
     exact⟨s7 _ _ hacc,_,rfl,by rw[step,if_neg h,bE],sm.trans s7,hD0⟩
   rintro acc σ' H6 ⟨o,rfl,rfl,s6,hD0⟩ hacc
   rw[T4.len,aB (ad _)] at hacc
   obtain⟨v0,hv0,hn0,hp0⟩:=MG.due_ex hf val hltn knd klt
   have hmem:nmA ss v0∈ss.filter due:=aw.mpr ⟨mem_getD hv0,by rw[hdue];exact(pV W.nd W.nm val klt hv0).mpr ⟨hn0,hp0⟩⟩
   obtain⟨w0,dH,hfree⟩:∃w0 dH,ss.filter due=w0::dH:=by
    cases e:ss.filter due with
    | nil=>rw[e] at hmem;cases hmem
    | cons w0 dH=>exact⟨w0,dH,rfl⟩
   have hw0:w0∈ss.filter due:=by rw[hfree];simp
   obtain⟨hws,hwd⟩:=aw.mp hw0
   obtain⟨v,hv⟩:=cc hws
   have hvl:=(ai.mp hv).1
   have ew:w0=nmA ss v:=by unfold nmA;rw[aQ,hv];rfl
   subst ew
   rw[hdue] at hwd
   obtain⟨hvn,hvp⟩:=(pV W.nd W.nm val klt hvl).mp hwd
   rw[hfree] at hacc
   have h6:=s6 _ _ h5
   have hnew:(Sum.inr (nmA ss v):Key)∉(fB ss ks).map (·.1):=by
    rw[lB]
    intro z
    obtain⟨t,ht,e⟩:=aq.mp z
    obtain⟨u,hu,rfl⟩:=aq.mp ht
    exact hvn (kB W.nd (klt u hu) hvl (Sum.inr.inj e) ▸ hu)
   have hlt2:∀b xs,H6 b=some (.lst xs)->upd H6 dt (.dK (fB ss (ks++[v]))) b=some (.lst xs):=fun b xs e=>by
    rw[cH (fun z=>by subst z;rw[h6] at e;cases e)];exact e
   refine⟨_,rfl,_,rfl,.lst (.of hacc) (gy (j:=0) rfl) (.dic (DPut.k (k:=.inr (nmA ss v)) h6 (by rw[tl];exact cN (by omega))) ?_)⟩
   rw[iY hnew]
   have ek:fB ss ks++[(Sum.inr (nmA ss v),V.bl true)]=fB ss (ks++[v]):=by unfold fB;rw[aj];rfl
   rw[ek]
   refine⟨ss.length-(ks++[v]).length,ks++[v],_,by rw[az];show ss.length-(ks.length+1)<m;omega,rfl,rfl,cF,.inr ⟨ob,by rw[cH hdn];exact s6 _ _ hfz⟩,(T5.same s6).keep hlt2,?_,?_,?_,kg.snoc hvp⟩
   ·intro b o' e
    rw[cH (cL e hdtH)]
    exact s6 _ _ (s5 _ _ e)
   ·exact(List.perm_append_singleton v ks).nodup_iff.mpr (aU.mpr ⟨hvn,knd⟩)
   ·intro x hx
    rcases ar.mp hx with g | g
    ·exact klt x g
    ·rw[aI.mp g];exact hvl
  ·have hge:¬ ((ks.length:Nat):Int)<((ss.length:Nat):Int):=fun z=>hge (ao z)
   refine⟨_,rfl,dt,_,rfl,.inl h4,by rw[tl];omega,fun l hl=>?_⟩
   refine k l ks _ (s4.trans (Same.new hl)) (dF s4 hl) ?_ knd klt (by omega) kg
   rw[cF]
   unfold fB
   rw[aV,aV]
   rfl
def cO (zs:List Int):List V:=zs.map V.int
theorem mQ {zs:List Int}{i:Nat}{x:V}(h:(cO zs)[i]? = some x):∃z,zs[i]? = some z/\V.int z=x:=by
 unfold cO at h
 rw[al] at h
 cases q:zs[i]? with
 | none=>rw[q] at h;cases h
 | some e=>rw[q] at h;exact⟨e,rfl,af h⟩
theorem Web.at {H:Hp}{v:V}{ss:List Str}{ts:List (Str × Str)}(W:Web H v ss ts):∃q a b,v=.ref q/\H q=some (.tup [.ref a,.ref b])/\H a=some (.tup (List.map V.str ss)):=by
 obtain⟨q,a,b,xs,rfl,hq,ha,hb,rp⟩:=gT W.rep
 exact⟨q,a,b,rfl,hq,ha⟩
def kI:Sp:=fun vs H Q _=>∃z,vs=[V.int z]/\Q (.bl true) H
theorem scWhole:FnScope ["thing"] ["thing"] (cI gv):=⟨rfl,rfl,rfl,by decide +kernel,rfl,by decide +kernel,by decide +kernel⟩
theorem uO {f:Addr}{fd:FuncData}(F:Fun K "is_whole" "is_whole" gv f fd) (B:Blt mg):FnOk P w K mg base CX0 1 f fd ["thing"] kI:=by
 refine F.ok scWhole (fun vs H Q E h=>?_) (fun cdv A outer s H vs Q E hr h=>?_)
 ·obtain⟨x,rfl,_⟩:=h
  rfl
 ·obtain⟨x,rfl,k⟩:=h
  have nd:=scWhole.nd
  obtain⟨t,ty,_,t2,t3,_⟩:=jW (K:=K) (H:=H) (x:=.int x) (.int x)
  refine⟨_,(cJ (cS (ii (nU K "int" B (cC (pv 0) (cC (wj B) cE))) (hZ (oG (nU K "bool" B (cC (pv 0) (cC (uz B) cE)))))))),?_⟩
  refine⟨_,rfl,_,t,_,rfl,ty,t2,_,rfl,?_⟩
  refine df (fun h=>?_) (fun h=>absurd rfl h)
  exact⟨_,rfl,_,t,_,rfl,ty,t3,_,rfl,k⟩
def lg:Sp:=fun vs H Q _=>∃(q:V) (a:Addr) (ss:List Str) (ts:List (Str × Str)) (zs:List Int),vs=[q,.ref a]/\Web H q ss ts/\H a=some (.lst (cO zs))/\zs.length=ss.length/\∀H',Same H H'->Q (.bl true) H'
theorem scWholes:FnScope ["web","numbers"] ["web","numbers"] (cI fu):=⟨rfl,rfl,rfl,by decide +kernel,rfl,by decide +kernel,by decide +kernel⟩
theorem ut {f:Addr}{fd:FuncData}(F:Fun K "are_wholes" "are_wholes" fu f fd) (B:Blt mg) (cis_whole:Cal P w K mg base 1 "is_whole" ["thing"] kI):FnOk P w K mg base CX0 2 f fd ["web", "numbers"] lg := by
 refine F.ok scWholes (fun vs H Q E h=>?_) (fun cdv A outer s H vs Q E hr h=>?_)
 ·obtain⟨q,a,ss,ts,zs,rfl,_⟩:=h
  rfl
 ·obtain⟨q,n,ss,ts,zs,rfl,W,hn,hl,k⟩:=h
  have nd:=scWholes.nd
  have h60:=W.len
  obtain⟨q,a,b,rfl,hq,ha⟩:=Web.at W
  have il:(cO zs).length=zs.length:=ac ..
  refine⟨_,(cJ (cS (ii (gn (dO hr.units) (eY K B (cC (pv 1) cE)) (eY K B (cC (cR (cX K hr.units) (pv 0) cK (fun _ _=>rfl)) cE)) (dg _)) (hZ (lK rfl B (cC (dN (cI fu) ["web","numbers"] ["number"] [] ["number"] rfl (dI K (pv 1)) (fun _ _ _ _ _=>(cT (i:=0) (show (["number"]:List Str).Nodup by decide) rfl (Or.inl rfl))) (fun _ _ _ _ _=>eM) (fun _ _ _ _ _=>(cP cis_whole (hr.mono (by decide)) rfl (cC (pv 0) cE)))) cE)))))),?_⟩
  refine⟨_,rfl,_,_,rfl,(SqA.len (K:=K) (H:=H) (a:=n) (.inl hn)),_,rfl,.tup (.of hq) rfl ⟨_,_,rfl,(SqA.len (K:=K) (H:=H) (a:=a) (.inr ha)),.sc rfl ⟨_,rfl,df (fun _=>?_) (fun h=>absurd (by rw[il,ac,hl];exact ao rfl) h)⟩⟩⟩
  refine⟨_,rfl,n,rfl,⟨_,.of hn⟩,?_⟩
  refine fg (cO zs) (fun D i acc σ' H'=>∃o,σ'=[o]/\acc=List.map V.bl (List.replicate i true)/\Same H H'/\H D=none) fun D hD=>⟨?_,?_,?_,?_⟩
  ·exact⟨none,rfl,rfl,Same.new hD,hD⟩
  ·rintro i acc σ' H' _ ⟨o,rfl,_,sm,_⟩ _
   exact .of (sm _ _ hn)
  ·rintro i acc σ' H' x hx ⟨o,rfl,rfl,sm,hD0⟩ hacc
   have hil:=(ai.mp hx).1
   rw[il] at hil
   obtain⟨z,hz,rfl⟩:=mQ hx
   refine gK ?_
   exact⟨_,rfl,z,rfl,hacc,by rw[ac,bY];exact cN (by omega),_,rfl,by rw[cz,aj];rfl,dR sm hD0,hD0⟩
  ·rintro acc σ' H2 ⟨o,rfl,rfl,s2,hD0⟩ hacc
   refine⟨D,_,rfl,hacc,?_⟩
   have e:(List.replicate (cO zs).length true).all id=true:=by rw[bh];intro x hx;exact(List.mem_replicate.mp hx).2
   rw[e]
   exact k H2 s2
def qd:Sp:=fun vs H Q _=>∃(q:V) (a:Addr) (ss:List Str) (es:List (Nat × Nat)) (zs:List Int),vs=[q,.ref a]/\Web H q ss (es.map (nmP ss))/\dZ ss es/\MG.Ris es/\H a=some (.lst (cO zs))/\zs.length=ss.length/\∀l H',Same H H'->H l=none->H' l=some (.dK (d3 ss (cO zs)))->Q (.ref l) H'
theorem scWeigh:FnScope ["web","weights"] ["web","weights"] (cI ik):=⟨rfl,rfl,rfl,by decide +kernel,rfl,by decide +kernel,by decide +kernel⟩
theorem vi {f:Addr}{fd:FuncData}(F:Fun K "weights_by_thing" "weights_by_thing" ik f fd) (B:Blt mg) (Zz:mg "zip"=none) (crefuse_ring:Cal P w K mg base 7 "refuse_ring" ["web"] gX) (care_wholes:Cal P w K mg base 2 "are_wholes" ["web", "numbers"] lg):FnOk P w K mg base CX0 8 f fd ["web", "weights"] qd := by
 refine F.ok scWeigh (fun vs H Q E h=>?_) (fun cdv A outer s H vs Q E hr h=>?_)
 ·obtain⟨q,a,ss,es,zs,rfl,_⟩:=h
  rfl
 ·obtain⟨q,n,ss,es,zs,rfl,W,val,hf,hn,hl,k⟩:=h
  have nd:=scWeigh.nd
  have h60:=W.len
  refine⟨_,(cG (dQ (cP crefuse_ring (hr.mono (by decide)) rfl (cC (pv 0) cE)))
   (cG (dG (PW.pt (nR (ib (gr (om K "list" "tuple" B (cC (pv 1) (cC (d8 (cC (pc B) (cC (mY B) cE))) cE))))) (lI (ib (gr (cP care_wholes (hr.mono (by decide)) rfl (cC (pv 0) (cC (pv 1) cE)))))))) (cJ kT) dk)
   (cJ (cS (p8 K rfl hr.units B Zz (cC (cR (cX K hr.units) (pv 0) cK (fun _ _=>rfl)) (cC (pv 1) cE))))))),?_⟩
  refine⟨_,rfl,q,ss,es,rfl,W,val,hf,fun H1 s1=>?_⟩
  refine⟨_,rfl,(by show 2<=sizeLine;decide),fun tp htp=>?_⟩
  have s0:=Same.new (o:=.tup [V.ty "list",V.ty "tuple"]) htp
  have A0:SqA (upd H1 tp (.tup [V.ty "list",V.ty "tuple"])) n (cO zs):=SqA.same (.inl (s1 _ _ hn)) s0
  obtain⟨t,ty,_,_,_,t4,t5⟩:=jW (K:=K) A0.thg
  have kl:=pf t4 t5
  rw[A0.lt] at kl
  refine⟨_,tp,t,_,rfl,cF,ty,kl,_,rfl,?_⟩
  refine df (fun h=>absurd h (by decide)) (fun _=>?_)
  have s01:=s1.trans s0
  generalize upd H1 tp (.tup [V.ty "list",V.ty "tuple"])=H2 at s01 ⊢
  refine⟨_,rfl,_,rfl,q,n,ss,_,zs,rfl,W.same s01,s01 _ _ hn,hl,fun H3 s3=>⟨_,rfl,df (fun h=>absurd h (by decide)) (fun _=>?_)⟩⟩
  have s13:=s01.trans s3
  obtain⟨q,a,b,rfl,hq,ha⟩:=Web.at (W.same s13)
  refine⟨_,rfl,.tup (.of hq) rfl ⟨_,rfl,a,n,ss,cO zs,rfl,.of ha,.of (s13 _ _ hn),by unfold cO;rw[ac,hl],by omega,fun l H4 hl4 s4 h4=>?_⟩⟩
  rw[p5 ss _ W.nd] at h4
  exact k l H4 (s13.trans s4) (dF s13 hl4) h4
def fH (ss:List Str) (D:Nat->Int) (ks:List Nat):List (Key × V):=ks.map fun v=>(Sum.inr (nmA ss v),V.int (D v))
theorem ub (ss:List Str) (D:Nat->Int) (ks:List Nat):(fH ss D ks).map (·.1)=(ks.map (nmA ss)).map Sum.inr:=by unfold fH;rw[aV,aV];rfl
theorem iG {ss:List Str}(nd:ss.Nodup) (D:Nat -> Int):∀ {ks:List Nat}, (∀x ∈ ks, x<ss.length) -> ∀ {v:Nat}, v ∈ ks -> cY (fH ss D ks) (.inr (nmA ss v))=some (.int (D v))
 | [],_,v,h=>by cases h
 | u::ks,hk,v,h=>by
  by_cases q:u=v
  ·subst q;exact eX (p:=(Sum.inr (nmA ss u),V.int (D u))) rfl
  ·have hv:v∈ks:=by rcases am.mp h with z | z;exact absurd z.symm q;exact z
   have ne:¬ (Sum.inr (nmA ss u):Key)=Sum.inr (nmA ss v):=fun z=>q (kB nd (hk u (by simp)) (hk v h) (Sum.inr.inj z))
   show cY ((Sum.inr (nmA ss u),V.int (D u))::fH ss D ks) _=_
   rw[eU ne]
   exact iG nd D (fun x hx=>hk x (aM _ hx)) hv
def jR:Sp:=fun vs H Q _=>∃(q:V) (d:Addr) (ss:List Str) (ts:List (Str × Str)) (D:Nat->Int) (ks:List Nat),vs=[q,.ref d]/\Web H q ss ts/\H d=some (.dK (fH ss D ks))/\(∀x∈ks,x<ss.length)/\(∀x,x<ss.length->x∈ks)/\∀l H',Same H H'->H l=none->H' l=some (.lst (cO ((List.range ss.length).map D)))->Q (.ref l) H'
theorem scByPl:FnScope ["web","found"] ["web","found"] (cI jr):=⟨rfl,rfl,rfl,by decide +kernel,rfl,by decide +kernel,by decide +kernel⟩
theorem xl {f:Addr}{fd:FuncData}(F:Fun K "by_places" "by_places" jr f fd) (B:Blt mg):FnOk P w K mg base CX0 1 f fd ["web", "found"] jR := by
 refine F.ok scByPl (fun vs H Q E h=>?_) (fun cdv A outer s H vs Q E hr h=>?_)
 ·obtain⟨q,d,ss,ts,D,ks,rfl,_⟩:=h
  rfl
 ·obtain⟨q, d, ss, ts, Dd, ks, rfl, W, hd, klt, kal, k⟩ := h
  have nd:=scByPl.nd
  have h60:=W.len
  have wnd:=W.nd
  obtain⟨q,a,b,rfl,hq,ha⟩:=Web.at W
  refine⟨_,(cJ (cS (dN (cI jr) ["web","found"] ["thing"] [1] ["thing","found"] rfl (ei K (cR (cX K hr.units) (pv 0) cK (fun _ _=>rfl))) (fun _ _ _ _ _=>(cT (i:=0) (show (["thing","found"]:List Str).Nodup by decide) rfl (Or.inl rfl))) (fun _ _ _ _ _=>eM) (fun _ _ _ _ _=>(cR (cX K hr.units) (pv 1) (pv 0) (fun _ _=>rfl)))))),?_⟩
  refine⟨_,rfl,.tup (.of hq) rfl ⟨_,rfl,⟨_,.of ha⟩,?_⟩⟩
  refine gi (List.map V.str ss) (fun D i acc σ' H'=>∃o,σ'=[o,some (.ref d)]/\acc=cO ((List.range i).map Dd)/\Same H H'/\H D=none) fun D hD=>⟨?_,?_,?_,?_⟩
  ·exact⟨none,rfl,rfl,Same.new hD,hD⟩
  ·rintro i acc σ' H' _ ⟨o,rfl,_,sm,_⟩ _
   exact .of (sm _ _ ha)
  ·rintro i acc σ' H' x hx ⟨o,rfl,rfl,sm,hD0⟩ hacc
   have hil:=(ai.mp hx).1
   rw[ac] at hil
   have ex:x=V.str (nmA ss i):=by
    rw[al,aG hil] at hx
    have:V.str ss[i]=x:=af hx
    rw[<- this]
    unfold nmA
    rw[aQ,aG hil];rfl
   subst ex
   refine gK ?_
   refine⟨_,rfl,_,rfl,.dic (.inl ⟨_,.inr (nmA ss i),.inl (sm _ _ hd),rfl,(iG wnd Dd klt (kal i hil)).symm⟩) ?_⟩
   exact⟨hacc,by unfold cO;rw[ac,ac,bj];exact cN (by omega),_,rfl,by rw[List.range_succ,aj];unfold cO;rw[aj];rfl,dR sm hD0,hD0⟩
  ·rintro acc σ' H2 ⟨o,rfl,rfl,s2,hD0⟩ hacc
   rw[ac] at hacc
   exact k D H2 s2 hD0 hacc
theorem lN {ss:List Str}{es:List (Nat × Nat)}(nd:ss.Nodup) (nm:∀s∈ss,Nm s) (val:∀e∈es,e.1<ss.length/\e.2<ss.length) (v:Nat):∃us:List Nat,fk ss (dM (es.map (nmP ss))) (nmA ss v)=us.map (nmA ss)/\us.length<=ss.length/\∀u,u∈us ↔ (u,v)∈es:=by
 have e:dM (es.map (nmP ss))=(MG.swp es).map (nmP ss):=by
  unfold dM MG.swp
  rw[aV,aV]
  rfl
 refine⟨nxn ss.length (MG.swp es) v,?_,?_,fun u=>?_⟩
 ·rw[e]
  exact pW nd nm (fun a ha=>by obtain⟨b,hb,rfl⟩:=aq.mp ha;exact(val b hb).symm) v
 ·unfold nxn
  have:=bd (fun b=>decide ((v,b)∈MG.swp es)) (List.range ss.length)
  rwa [bj] at this
 ·unfold nxn
  rw[aw,decide_eq_true_iff,MG.mem_swp,aR]
  exact⟨fun h=>h.2,fun h=>⟨(val _ h).1,h⟩⟩
theorem xz {ss:List Str}{v:Nat}(h:v<ss.length):ss[v]? = some (nmA ss v):=by
 unfold nmA
 rw[aQ,aG h];rfl
def wOf (zs:List Int) (v:Nat):Int:=zs.getD v 0
theorem xc {zs:List Int}{v:Nat}(h:v<zs.length):(cO zs)[v]? = some (.int (wOf zs v)):=by
 unfold cO wOf
 rw[al,aQ,aG h];rfl
def iH:Sp:=fun vs H Q _=>∃(q:V) (d:Addr) (ss:List Str) (es:List (Nat × Nat)) (zs:List Int) (D:Nat->Int),vs=[q,.ref d]/\Web H q ss (es.map (nmP ss))/\dZ ss es/\MG.Ris es/\H d=some (.dK (d3 ss (cO zs)))/\zs.length=ss.length/\MG.IsD es (wOf zs) D /\
 ∀l ks H',Same H H'->H l=none->H' l=some (.dK (fH ss D ks))->ks.Nodup->(∀x∈ks,x<ss.length)->(∀x,x<ss.length->x∈ks)->Q (.ref l) H'
theorem scDepBy:FnScope ["web","weighed","table","found","thing"] ["web","weighed"] (cI iT):=⟨rfl,rfl,rfl,by decide +kernel,rfl,by decide +kernel,by decide +kernel⟩
theorem xX {ks:List Nat}{n:Nat}(nd:ks.Nodup) (h:∀x∈ks,x<n) (hl:ks.length=n):∀x,x<n->x∈ks:=by
 intro x hx
 refine Classical.byContradiction fun z=>?_
 have:=MG.nodup_le (n:=n) (l:=x::ks) (aU.mpr ⟨z,nd⟩) (fun y hy=>by rcases am.mp hy with rfl | g;exact hx;exact h y g)
 rw[aN] at this
 omega
theorem ve {f:Addr}{fd:FuncData}(F:Fun K "depths_by_thing" "depths_by_thing" iT f fd) (B:Blt mg) (cpriors_of_all:Cal P w K mg base 3 "priors_of_all" ["web"] lD) (corder_anew:Cal P w K mg base 8 "order_anew" ["web"] oa):FnOk P w K mg base CX0 9 f fd ["web", "weighed"] iH := by
 refine F.ok scDepBy (fun vs H Q E h=>?_) (fun cdv A outer s H vs Q E hr h=>?_)
 ·obtain⟨q,d,ss,es,zs,D,rfl,_⟩:=h
  rfl
 ·obtain⟨q, wd, ss, es, zs, D, rfl, W, val, hf, hwd, hzl, hD, k⟩ := h
  have nd:=scDepBy.nd
  have h60:=W.len
  have wnd:=W.nd
  refine⟨_,(cG (cQ (i:=2) nd rfl (Or.inl rfl) (cP cpriors_of_all (hr.mono (by decide)) rfl (cC (pv 0) cE)))
   (cG (cQ (i:=3) nd rfl (Or.inr rfl) fE)
   (cG (dY PassesOwn.never rfl (dI K (cP corder_anew (hr.mono (by decide)) rfl (cC (pv 0) cE))) (cT (i:=4) nd rfl (Or.inl rfl)) (cJ (fc (cW dh (cR (cX K hr.units) (pv 1) (pv 4) (fun _ _=>rfl)) (yb K rfl B (cC (cW dh (dC (cC cK cE)) (dN (cI iT) ["web","weighed","table","found","thing"] ["prior"] [3] ["prior","found"] rfl (dI K (cR (cX K hr.units) (pv 2) (pv 4) (fun _ _=>rfl))) (fun _ _ _ _ _=>(cT (i:=0) (show (["prior","found"]:List Str).Nodup by decide) rfl (Or.inl rfl))) (fun _ _ _ _ _=>eM) (fun _ _ _ _ _=>(cR (cX K hr.units) (pv 1) (pv 0) (fun _ _=>rfl))))) cE))) (fv (pv 3) (pv 4) (fP hr.units)))))
   (cJ (cS (pv 3)))))),?_⟩
  refine⟨_,rfl,q,ss,_,rfl,W,fun tb tkv H1 s1 htb0 htb T=>?_⟩
  intro d hd
  have hdH:H d=none:=dF s1 hd
  have s2:=s1.trans (Same.new (o:=.dK []) hd)
  refine⟨_,rfl,q,ss,es,rfl,W.same s2,val,hf,fun lo ks H3 s3 hlo0 hlo knd klt kln kg=>?_⟩
  have kal:=xX knd klt kln
  have hd3:H3 d=some (.dK []):=s3 _ _ cF
  have T3:TabK H3 tkv ss (fk ss (dM (es.map (nmP ss)))):=(T.same (Same.new (o:=.dK []) hd)).same s3
  have htb3:H3 tb=some (.dK tkv):=s3 _ _ (Same.new (o:=.dK []) hd _ _ htb)
  have hwd3:H3 wd=some (.dK (d3 ss (cO zs))):=s3 _ _ (s2 _ _ hwd)
  have ntb:tb≠d:=cL htb hd
  have nwd:wd≠d:=cL hwd hdH
  have nlo:lo≠d:=ft hlo hd3 (by intro z;cases z)
  have s23:=s2.trans s3
  refine⟨_,rfl,⟨_,.of hlo⟩,?_⟩
  refine gh (xs:=List.map V.str (ks.map (nmA ss))) (fun i σ H'=>∃o4,σ=[some q,some (.ref wd),some (.ref tb),some (.ref d),o4]/\H' d=some (.dK (fH ss D (ks.take i)))/\But d H3 H') ?_ ?_ ?_ ?_
  ·exact⟨none,rfl,hd3,But.refl d H3⟩
  ·rintro i σ H' hi ⟨o4,rfl,_,b⟩
   exact .of (b _ _ nlo hlo)
  ·rintro i x σ H4 hx ⟨o4, rfl, h4, b⟩
   obtain⟨v,hv,rfl⟩:∃v,ks[i]? = some v/\V.str (nmA ss v)=x:=by
    rw[al,al] at hx
    cases e:ks[i]? with
    | none=>rw[e] at hx;cases hx
    | some v=>rw[e] at hx;exact⟨v,rfl,af hx⟩
   have hil:=(ai.mp hv).1
   have hvl:=klt v (av hv)
   obtain⟨us,hus,hul,hum⟩:=lN wnd W.nm val v
   obtain⟨lp,hlp,hlpl⟩:=T3.2 (nmA ss v) (mem_getD hvl)
   rw[hus] at hlpl
   have nlp:lp≠d:=ft hlpl hd3 (by intro z;cases z)
   have htk:∀x∈ks.take i,x<ss.length:=fun x hx=>klt x (cy hx)
   have utk:∀u∈us,u∈ks.take i:=fun u hu=>kg i v hv u ((hum u).mp hu)
   refine⟨_,rfl,_,rfl,.dic (.inl ⟨_,.inr (nmA ss v),.inl (b _ _ nwd hwd3),rfl,(oz wnd (xz hvl) (xc (by omega))).symm⟩) ?_⟩
   refine⟨(by show 1<=sizeLine;decide),fun l0 hl0=>?_⟩
   have s5:=Same.new (o:=.lst [V.int 0]) hl0
   have hl05:upd H4 l0 (.lst [V.int 0]) l0=some (.lst [V.int 0]):=cF
   generalize upd H4 l0 (.lst [V.int 0])=H5 at s5 hl05 ⊢
   have hp5:H5 lp=some (.lst (List.map V.str (us.map (nmA ss)))):=s5 _ _ (b _ _ nlp hlpl)
   have h5:=s5 _ _ h4
   refine⟨_,rfl,_,rfl,.dic (.inl ⟨tkv,.inr (nmA ss v),.inl (s5 _ _ (b _ _ ntb htb3)),rfl,hlp.symm⟩) ⟨lp,rfl,⟨_,.of hp5⟩,?_⟩⟩
   refine fg (List.map V.str (us.map (nmA ss))) (fun C j acc σ' H'=>∃o,σ'=[o,some (.ref d)]/\acc=cO ((us.take j).map D)/\Same H5 H'/\H5 C=none) fun C hC=>⟨?_,?_,?_,?_⟩
   ·exact⟨none,rfl,rfl,Same.new hC,hC⟩
   ·rintro j acc σ' H' _ ⟨o,rfl,_,sm,_⟩ _
    exact .of (sm _ _ hp5)
   ·rintro j acc σ' H' x hx ⟨o,rfl,rfl,sm,hC0⟩ hacc
    obtain⟨u,hu,rfl⟩:∃u,us[j]? = some u/\V.str (nmA ss u)=x:=by
     rw[al,al] at hx
     cases e:us[j]? with
     | none=>rw[e] at hx;cases hx
     | some v=>rw[e] at hx;exact⟨v,rfl,af hx⟩
    have hjl:=(ai.mp hu).1
    refine gK ?_
    refine⟨_,rfl,_,rfl,.dic (.inl ⟨_,.inr (nmA ss u),.inl (sm _ _ h5),rfl,(iG wnd D htk (utk u (av hu))).symm⟩) ?_⟩
    exact⟨hacc,by unfold cO;rw[ac,ac,aF];exact cN (by omega),_,rfl,by rw[aA,hu,aj];unfold cO;rw[aj];rfl,dR sm hC0,hC0⟩
   ·rintro acc σ' H6 ⟨o, rfl, rfl, s6, hC0⟩ hacc
    rw[ac,ac,aB (ad _)] at hacc
    have iL:(cO (us.map D)).length=us.length:=by unfold cO;rw[ac,ac]
    refine .lst (s6 _ _ hl05) hacc (by rw[iL];show 1+us.length<=sizeLine;exact aS (cN (by omega))) fun lm hlm=>?_
    have s7:=Same.new (o:=.lst ([V.int 0]++cO (us.map D))) hlm
    have h7:upd H6 lm (.lst ([V.int 0]++cO (us.map D))) lm=some (.lst (List.map V.int (0::us.map D))):=cF
    generalize upd H6 lm (.lst ([V.int 0]++cO (us.map D)))=H7 at s7 h7 ⊢
    refine⟨lm,_,rfl,.of h7,(by show 0<(us.map D).length+1;omega),fun M hM hMx=>.int ?_⟩
    have e:wOf zs v+M=D v:=by
     refine hD.top (hMx 0 (by simp)) (fun u hu=>hMx _ (aM _ (aq.mpr ⟨u,(hum u).mpr hu,rfl⟩))) ?_
     rcases am.mp hM with z | z
     ·exact .inl z
     ·obtain⟨u,hu,z⟩:=aq.mp z
      exact .inr ⟨u,(hum u).mp hu,z.symm⟩
    rw[e]
    have s57:=(s5.trans s6).trans s7
    have hd7:=s57 _ _ h4
    have tl:(fH ss D (ks.take i)).length<=60:=by unfold fH;rw[ac,aF];omega
    refine⟨_,rfl,_,rfl,.dic (DPut.k (k:=.inr (nmA ss v)) hd7 (cN (by omega))) ⟨_,rfl,?_,?_⟩⟩
    ·rw[cF,iY,aA,hv]
     ·unfold fH;rw[aj];rfl
     ·rw[ub]
      intro z
      obtain⟨t,ht,e⟩:=aq.mp z
      obtain⟨u,hu,rfl⟩:=aq.mp ht
      have:=kB wnd (htk u hu) hvl (Sum.inr.inj e)
      subst this
      obtain⟨j,hj⟩:=cc hu
      have hjl:=(ai.mp hj).1
      rw[aF] at hjl
      rw[cx (by omega)] at hj
      have:=(List.getElem?_inj (i:=j) (j:=i) (by omega) knd).mp (hj.trans hv.symm)
      omega
    ·intro c o hc hh
     rw[cH hc]
     exact s57 _ _ (b _ _ hc hh)
  ·rintro σ H4 ⟨o4,rfl,h4,b⟩
   rw[ac,ac,aB (ad _)] at h4
   refine⟨_,rfl,k d ks H4 (fun c o hc=>?_) hdH h4 knd klt kal⟩
   exact b c o (cL hc hdH) (s23 _ _ hc)
def j4:Sp:=fun vs H Q _=>∃(q:V) (a:Addr) (ss:List Str) (ts:List (Str × Str)) (zs:List Int),vs=[q,.ref a]/\Web H q ss ts/\H a=some (.tup (cO zs))/\zs.length=ss.length/\∀H',Same H H'->Q (.bl true) H'
theorem qW {f:Addr}{fd:FuncData}(F:Fun K "are_wholes" "are_wholes" fu f fd) (B:Blt mg) (cis_whole:Cal P w K mg base 1 "is_whole" ["thing"] kI):FnOk P w K mg base CX0 2 f fd ["web", "numbers"] j4 := by
 refine F.ok scWholes (fun vs H Q E h=>?_) (fun cdv A outer s H vs Q E hr h=>?_)
 ·obtain⟨q,a,ss,ts,zs,rfl,_⟩:=h
  rfl
 ·obtain⟨q,n,ss,ts,zs,rfl,W,hn,hl,k⟩:=h
  have nd:=scWholes.nd
  have h60:=W.len
  obtain⟨q,a,b,rfl,hq,ha⟩:=Web.at W
  have il:(cO zs).length=zs.length:=ac ..
  refine⟨_,(cJ (cS (ii (gn (dO hr.units) (eY K B (cC (pv 1) cE)) (eY K B (cC (cR (cX K hr.units) (pv 0) cK (fun _ _=>rfl)) cE)) (dg _)) (hZ (lK rfl B (cC (dN (cI fu) ["web","numbers"] ["number"] [] ["number"] rfl (ei K (pv 1)) (fun _ _ _ _ _=>(cT (i:=0) (show (["number"]:List Str).Nodup by decide) rfl (Or.inl rfl))) (fun _ _ _ _ _=>eM) (fun _ _ _ _ _=>(cP cis_whole (hr.mono (by decide)) rfl (cC (pv 0) cE)))) cE)))))),?_⟩
  refine⟨_,rfl,_,_,rfl,(SqA.len (K:=K) (H:=H) (a:=n) (.inr hn)),_,rfl,.tup (.of hq) rfl ⟨_,_,rfl,(SqA.len (K:=K) (H:=H) (a:=a) (.inr ha)),.sc rfl ⟨_,rfl,df (fun _=>?_) (fun h=>absurd (by rw[il,ac,hl];exact ao rfl) h)⟩⟩⟩
  refine⟨_,rfl,n,rfl,⟨_,.of hn⟩,?_⟩
  refine gi (cO zs) (fun D i acc σ' H'=>∃o,σ'=[o]/\acc=List.map V.bl (List.replicate i true)/\Same H H'/\H D=none) fun D hD=>⟨?_,?_,?_,?_⟩
  ·exact⟨none,rfl,rfl,Same.new hD,hD⟩
  ·rintro i acc σ' H' _ ⟨o,rfl,_,sm,_⟩ _
   exact .of (sm _ _ hn)
  ·rintro i acc σ' H' x hx ⟨o,rfl,rfl,sm,hD0⟩ hacc
   have hil:=(ai.mp hx).1
   rw[il] at hil
   obtain⟨z,hz,rfl⟩:=mQ hx
   refine gK ?_
   exact⟨_,rfl,z,rfl,hacc,by rw[ac,bY];exact cN (by omega),_,rfl,by rw[cz,aj];rfl,dR sm hD0,hD0⟩
  ·rintro acc σ' H2 ⟨o,rfl,rfl,s2,hD0⟩ hacc
   refine⟨D,_,rfl,hacc,?_⟩
   have e:(List.replicate (cO zs).length true).all id=true:=by rw[bh];intro x hx;exact(List.mem_replicate.mp hx).2
   rw[e]
   exact k H2 s2
def oA:Sp:=fun vs H Q _=>∃(q:V) (a:Addr) (ss:List Str) (es:List (Nat × Nat)) (zs:List Int),vs=[q,.ref a]/\Web H q ss (es.map (nmP ss))/\dZ ss es/\MG.Ris es/\H a=some (.tup (cO zs))/\zs.length=ss.length/\∀l H',Same H H'->H l=none->H' l=some (.dK (d3 ss (cO zs)))->Q (.ref l) H'
theorem sw {f:Addr}{fd:FuncData}(F:Fun K "weights_by_thing" "weights_by_thing" ik f fd) (B:Blt mg) (Zz:mg "zip"=none) (crefuse_ring:Cal P w K mg base 7 "refuse_ring" ["web"] gX) (care_wholes:Cal P w K mg base 2 "are_wholes" ["web", "numbers"] j4):FnOk P w K mg base CX0 8 f fd ["web", "weights"] oA := by
 refine F.ok scWeigh (fun vs H Q E h=>?_) (fun cdv A outer s H vs Q E hr h=>?_)
 ·obtain⟨q,a,ss,es,zs,rfl,_⟩:=h
  rfl
 ·obtain⟨q,n,ss,es,zs,rfl,W,val,hf,hn,hl,k⟩:=h
  have nd:=scWeigh.nd
  have h60:=W.len
  refine⟨_,(cG (dQ (cP crefuse_ring (hr.mono (by decide)) rfl (cC (pv 0) cE)))
   (cG (dG (PW.pt (nR (ib (gr (om K "list" "tuple" B (cC (pv 1) (cC (d8 (cC (pc B) (cC (mY B) cE))) cE))))) (lI (ib (gr (cP care_wholes (hr.mono (by decide)) rfl (cC (pv 0) (cC (pv 1) cE)))))))) (cJ kT) dk)
   (cJ (cS (uL K rfl hr.units B Zz (cC (cR (cX K hr.units) (pv 0) cK (fun _ _=>rfl)) (cC (pv 1) cE))))))),?_⟩
  refine⟨_,rfl,q,ss,es,rfl,W,val,hf,fun H1 s1=>?_⟩
  refine⟨_,rfl,(by show 2<=sizeLine;decide),fun tp htp=>?_⟩
  have s0:=Same.new (o:=.tup [V.ty "list",V.ty "tuple"]) htp
  have A0:SqA (upd H1 tp (.tup [V.ty "list",V.ty "tuple"])) n (cO zs):=SqA.same (.inr (s1 _ _ hn)) s0
  obtain⟨t,ty,_,_,_,t4,t5⟩:=jW (K:=K) A0.thg
  have kl:=pf t4 t5
  rw[A0.lt] at kl
  refine⟨_,tp,t,_,rfl,cF,ty,kl,_,rfl,?_⟩
  refine df (fun h=>absurd h (by decide)) (fun _=>?_)
  have s01:=s1.trans s0
  generalize upd H1 tp (.tup [V.ty "list",V.ty "tuple"])=H2 at s01 ⊢
  refine⟨_,rfl,_,rfl,q,n,ss,_,zs,rfl,W.same s01,s01 _ _ hn,hl,fun H3 s3=>⟨_,rfl,df (fun h=>absurd h (by decide)) (fun _=>?_)⟩⟩
  have s13:=s01.trans s3
  obtain⟨q,a,b,rfl,hq,ha⟩:=Web.at (W.same s13)
  refine⟨_,rfl,.tup (.of hq) rfl ⟨_,rfl,a,n,ss,cO zs,rfl,.of ha,.of (s13 _ _ hn),by unfold cO;rw[ac,hl],by omega,fun l H4 hl4 s4 h4=>?_⟩⟩
  rw[p5 ss _ W.nd] at h4
  exact k l H4 (s13.trans s4) (dF s13 hl4) h4
def jb:Sp:=fun vs H Q _=>∃(q:V) (ss:List Str) (ts:List (Str × Str)),vs=[q]/\Web H q ss ts/\∀l H',Same H H'->H l=none->H' l=some (.lst (cO (List.replicate ss.length 1)))->Q (.ref l) H'
theorem scOnes:FnScope ["web"] ["web"] (cI jA):=⟨rfl,rfl,rfl,by decide +kernel,rfl,by decide +kernel,by decide +kernel⟩
theorem xI {f:Addr}{fd:FuncData}(F:Fun K "ones" "ones" jA f fd) (B:Blt mg):FnOk P w K mg base CX0 1 f fd ["web"] jb := by
 refine F.ok scOnes (fun vs H Q E h=>?_) (fun cdv A outer s H vs Q E hr h=>?_)
 ·obtain⟨q,ss,ts,rfl,_⟩:=h
  rfl
 ·obtain⟨q,ss,ts,rfl,W,k⟩:=h
  have nd:=scOnes.nd
  have h60:=W.len
  obtain⟨q,a,b,rfl,hq,ha⟩:=Web.at W
  refine⟨_,(cJ (cS (dN (cI jA) ["web"] ["thing"] [] ["thing"] rfl (ei K (cR (cX K hr.units) (pv 0) cK (fun _ _=>rfl))) (fun _ _ _ _ _=>(cT (i:=0) (show (["thing"]:List Str).Nodup by decide) rfl (Or.inl rfl))) (fun _ _ _ _ _=>eM) (fun _ _ _ _ _=>cK)))),?_⟩
  refine⟨_,rfl,.tup (.of hq) rfl ⟨_,rfl,⟨_,.of ha⟩,?_⟩⟩
  refine gi (List.map V.str ss) (fun D i acc σ' H'=>∃o,σ'=[o]/\acc=List.replicate i (V.int 1)/\Same H H'/\H D=none) fun D hD=>⟨?_,?_,?_,?_⟩
  ·exact⟨none,rfl,rfl,Same.new hD,hD⟩
  ·rintro i acc σ' H' _ ⟨o,rfl,_,sm,_⟩ _
   exact .of (sm _ _ ha)
  ·rintro i acc σ' H' x hx ⟨o,rfl,rfl,sm,hD0⟩ hacc
   have hil:=(ai.mp hx).1
   rw[ac] at hil
   refine gK ?_
   exact⟨hacc,by rw[bY];exact cN (by omega),_,rfl,by rw[cz],dR sm hD0,hD0⟩
  ·rintro acc σ' H2 ⟨o,rfl,rfl,s2,hD0⟩ hacc
   rw[ac] at hacc
   exact k D H2 s2 hD0 (by unfold cO;rw[List.map_replicate];exact hacc)
def rh:Expr->Scope
 | .Lambda _ _ sc _=>sc
 | _=>{ kind:=.module,names:=[],isGenerator:=false,isCoroutine:=false }
def lamP:Expr->Pos
 | .Lambda _ _ _ p=>p
 | _=>⟨0,0,0,0⟩
def lamK:Stmt->Expr
 | .Return (some (.Call _ _ (⟨_,e,_⟩::_) _)) _=>e
 | _=>.Name "x" ⟨0,0,0,0⟩
def oT:Expr:=lamK ((cV gU).getD 0 (.Pass ⟨0,0,0,0⟩))
def nD:List Str:=["found"]
def qlD:Str:=(Str.ofString "deepest_among"++Str.ofString ".<locals>.")++Str.ofString "<lambda>"
theorem hfD:∀y∈(rh oT).names,y.2=NameKind.free->(cI gU).names.lookup y.1=some .cell:=by decide +kernel
theorem hnD:∀(j:Nat) (y:Str),nD[j]? = some y->(rh oT).names.lookup y=some .free/\(cI gU).names.lookup y=some .cell/\∃i,([1]:List Nat)[j]? = some i/\(["things","found"]:List Str)[i]? = some y
 | 0,y,h=>by cases h;exact⟨by decide +kernel,by decide +kernel,1,rfl,rfl⟩
 | j+1,y,h=>by cases h
theorem lsD:LamScope (rh oT):=⟨rfl,rfl,rfl,by decide +kernel⟩
theorem yN {σ:St}{i:Nat}{x:V}(h1:σ[i]? = some (some x)):∀(n k:Nat) (v:V),([i]:List Nat)[n]? = some k->([x]:List V)[n]? = some v->σ[k]? = some (some v)
 | 0,k,v,a,b=>by cases a;cases b;exact h1
 | n+1,k,v,a,b=>by cases a
def SameK (Pt:Addr) (H H':Hp):Prop:=∀b u,b≠Pt->H b=some u->H' b=some u
theorem SameK.trans {Pt:Addr}{H H1 H2:Hp}(a:SameK Pt H H1) (b:SameK Pt H1 H2):SameK Pt H H2:=fun c u n e=>b c u n (a c u n e)
theorem SameK.of {Pt:Addr}{H H':Hp}(s:Same H H'):SameK Pt H H':=fun b u _ e=>s b u e
def TbK (Pt:Addr) (H:Hp):Prop:=∃ps,CTab H Pt ps (lamP oT) qlD
theorem TbK.same {Pt:Addr}{H H':Hp}(h:TbK Pt H) (s:Same H H'):TbK Pt H':=let ⟨ps,c⟩:=h;⟨ps,c.same s⟩
theorem TbK.ne {Pt b:Addr}{H:Hp}(h:TbK Pt H) {u:HO}(e:H b=some u) (n:∀ps,u≠.tbl ps):b≠Pt:=fun z=>by
 obtain⟨ps,c⟩:=h
 rw[z,c.at_] at e
 exact n ps (af e).symm
theorem SameK.at {Pt b:Addr}{H H':Hp}{u:HO}(s:SameK Pt H H') (h:TbK Pt H) (e:H b=some u) (n:∀ps,u≠.tbl ps:=by intro ps z;cases z):H' b=some u:=s b u (h.ne e n) e
theorem SameK.free {Pt b:Addr}{H H':Hp}(s:SameK Pt H H') (h:TbK Pt H) (h':TbK Pt H') (e:H' b=none):H b=none := by
 cases q:H b with
 | none=>rfl
 | some u =>
  by_cases z:b=Pt
  ·obtain⟨ps,c⟩:=h'
   rw[z,c.at_] at e;cases e
  ·rw[s b u z q] at e;cases e
theorem SameK.cor {Pt:Addr}{H H':Hp}(s:SameK Pt H H') (h:TbK Pt H):Same (cor H) H':=let ⟨_,c⟩:=h;xv c.at_ s
theorem Web.cor {H:Hp}{v:V}{ss:List Str}{ts:List (Str × Str)}(W:Web H v ss ts):Web (L2.cor H) v ss ts:=⟨W.rep.cor,W.nd,W.nm,W.len,W.few,W.inn⟩
theorem jp {Pt:Addr}{H H':Hp}{v:V}{ss:List Str}{ts:List (Str × Str)}(W:Web H v ss ts) (s:SameK Pt H H') (h:TbK Pt H):Web H' v ss ts:=Web.same (Web.cor W) (s.cor h)
theorem TbK.upd {Pt l:Addr}{H:Hp}{ys zs:List V}(h:TbK Pt H) (e:H l=some (.lst ys)):TbK Pt (L2.upd H l (.lst zs)):=by
 obtain⟨ps,c⟩:=h
 refine⟨ps,c.tri,by rw[cH (ft c.at_ e (by intro z;cases z))];exact c.at_,c.code.imp id fun ⟨c',oc,g1,g2,g3⟩=>⟨c',oc,g1,by rw[cH (ft g2 e (by intro z;cases z))];exact g2,g3⟩⟩
def ky (Pt:Addr):Sp:=fun vs H Q _=>∃(a d:Addr) (ss:List Str) (D:Nat->Int) (ks us:List Nat),vs=[.ref a,.ref d]/\(H a=some (.lst (List.map V.str (us.map (nmA ss))))∨H a=some (.tup (List.map V.str (us.map (nmA ss)))))/\H d=some (.dK (fH ss D ks))/\ss.Nodup/\(∀x∈ks,x<ss.length)/\(∀u∈us,u∈ks)/\us≠[]/\TbK Pt H /\
 ∀v H',v∈us->(∀u∈us,D u<=D v)->SameK Pt H H'->TbK Pt H'->Q (.str (nmA ss v)) H'
theorem scDeepA:FnScope ["things","found"] ["things","found"] (cI gU):=⟨rfl,rfl,rfl,by decide +kernel,rfl,by decide +kernel,by decide +kernel⟩
theorem uK {f c Pt:Addr}{fd:FuncData}(F:Fun K "deepest_among" "deepest_among" gU f fd) (hC:fd.code=.ref c) (hCd:∀h:Heap, K.In h -> W.CodeHd h c Pt) (hBm:base.BuiltinsAt mg Pt) (B:Blt mg):FnOk P w K mg base CX0 3 f fd ["things", "found"] (ky Pt) := by
 refine F.okC hC scDeepA (fun vs H Q E h=>?_) (fun A outer s H vs Q E hr h=>?_)
 ·obtain⟨a,d,ss,D,ks,us,rfl,_⟩:=h
  rfl
 ·obtain⟨a,d,ss,D,ks,us,rfl,ha,hd,snd,klt,uk,une,⟨ps,C1⟩,k⟩:=h
  have nd:=scDeepA.nd
  have HFD:=fun y hy hf=>ly (n:=s.heap.objs.size+1) (hfD y hy hf)
  refine⟨_,(cJ (cS (xn (k:=1) (sc:=rh oT) (N:=nD) (is:=[1]) rfl (hr.mono (by decide)) B HFD (fun _=>rfl) hnD (pv 0) (zc (qual:=qlD) rfl (pL HFD).1 rfl rfl hCd hBm)))),?_⟩
  refine⟨_,rfl,ps,C1,fun HA g c' oc ctv ps' hg0 hgA hcA hoc hPA htr hcode hoth hsm=>?_⟩
  have tb:TbK Pt H:=⟨ps,C1⟩
  have hdA:=SameK.at hsm tb hd
  have get:∀ {i:Nat} {x:V},(List.map V.str (us.map (nmA ss)))[i]? = some x->∃u,us[i]? = some u/\x=.str (nmA ss u):=fun {i x} hx=>by
   rw[al,al] at hx
   cases q:us[i]? with
   | none=>rw[q] at hx;cases hx
   | some u=>rw[q] at hx;exact⟨u,rfl,(af hx).symm⟩
  refine⟨a,g,List.map V.str (us.map (nmA ss)),fun i=>D (us.getD i 0),[.ref d],fun l v Hx Qx _=>Hx g=HA g/\Hx c'=HA c'/\KnC Hx l/\Hx d=some (.dK (fH ss D ks))/\∃u,u∈ks/\v=.str (nmA ss u)/\Qx (.int (D u)) Hx,rfl,rfl,?_,?_,rfl,yN rfl,fun l C=>?_,fun l C U i x hx=>?_,fun i x hx best=>?_⟩
  ·rcases ha with ha | ha
   ·exact .inl (.of (SameK.at hsm tb ha))
   ·exact .inr (.of (SameK.at hsm tb ha))
  ·rw[ac,ac];exact List.length_pos_iff.mpr une
  ·refine xG (x:="thing") lsD C hoc (by decide +kernel) (fun u=>rfl) (fun v H Q E h=>⟨h.1.trans hgA,h.2.1.trans hcA,h.2.2.1⟩) (fun _ _ _ _ _ _ _ z=>z.elim) (fun A outer s v Hx Qx Ex hr hx=>?_)
   obtain⟨h1,h2,h3,h4,u,hu,rfl,h5⟩:=hx
   have hd':lessC Hx l d=some (.dK (fH ss D ks)):=by rw[dU (h3.out h4 (by intro o z;cases z))];exact h4
   refine⟨_,cR (cX K hr.units) (pv 1) (pv 0) (fun _ _=>rfl),?_⟩
   exact⟨_,rfl,_,rfl,.dic (.inl ⟨fH ss D ks,.inr (nmA ss u),.inl hd',rfl,(iG snd D klt hu).symm⟩) fun _=>by rw[tG h3];exact h5⟩
  ·obtain⟨u,hu,rfl⟩:=get hx
   refine⟨(mW U hgA).trans hgA.symm,(mW U hcA).trans hcA.symm,wQ,mW U hdA,u,uk u (av hu),rfl,?_,rfl⟩
   show V.int (D u)=V.int (D (us.getD i 0))
   rw[aQ,hu];rfl
  ·obtain⟨v,hv,rfl⟩:=get hx
   refine k v HA (av hv) (fun u hu=>?_) hsm ⟨ps',CTab.made (ps:=ps) (H:=H) hPA htr hcode hcA hoc⟩
   obtain⟨j,hj,ej⟩:=bR.mp hu
   have this:D (us.getD j 0)<=D (us.getD i 0):=(best j (by rw[ac,ac];exact hj)).1
   rw[aQ,aQ,hv,aG hj,ej] at this
   exact this
theorem ng {α:Type}(l:List α) (g:α->Bool) (i:Nat) (x:α) (h:l[i]? = some x):(l.take (i+1)).filter g=(l.take i).filter g++(if g x=true then [x] else []):=by
 rw[aA,h,be]
 by_cases q:g x=true
 ·simp[q]
 ·simp[q]
theorem xR {n:Nat}{es:List (Nat × Nat)}(h:MG.Ris es) (val:∀e∈es,e.1<n/\e.2<n):∃r:Nat->Nat,(∀e∈es,r e.1<r e.2)/\∀v,v<n->r v<=n:=by
 obtain⟨D,hD⟩:=MG.depth_ex h (fun _=>1)
 have L:=hD.lay (n:=n) val (fun _ _=>rfl)
 refine⟨fun v=>(D v-1).toNat,fun e he=>?_,fun v hv=>?_⟩
 ·have h1:=hD.ge e.1
  have h2:=hD.up e he
  show (D e.1-1).toNat<(D e.2-1).toNat
  omega
 ·exact aS (L.lt val v hv)
def fO (W:Nat->Int):List Nat->Int
 | []=>0
 | x::l=>W x+fO W l
theorem jJ (W:Nat->Int):∀l m,fO W (l++m)=fO W l+fO W m
 | [],m=>by show fO W m=0+fO W m;omega
 | x::l,m=>by show W x+fO W (l++m)=W x+fO W l+fO W m;rw[jJ W l m];omega
theorem or (W:Nat->Int):∀l,fO W l.reverse=fO W l
 | []=>rfl
 | x::l=>by rw[List.reverse_cons,jJ,or W l];show fO W l+(W x+0)=W x+fO W l;omega
def mV:Sp:=fun vs H Q _=>∃(q:V) (d:Addr) (ss:List Str) (es:List (Nat × Nat)) (D:Nat->Int) (ks:List Nat) (v:Nat),vs=[q,.ref d,.str (nmA ss v)]/\Web H q ss (es.map (nmP ss))/\dZ ss es/\H d=some (.dK (fH ss D ks))/\(∀x∈ks,x<ss.length)/\(∀x,x<ss.length->x∈ks) /\
 ∀(l:Addr) (us:List Nat) (H':Hp),Same H H'->H l=none->H' l=some (.lst (List.map V.str (us.map (nmA ss))))->us.length<=ss.length->(∀u,u∈us ↔ (u,v)∈es/\0<D u)->Q (.ref l) H'
theorem scWorth:FnScope ["web","found","thing"] ["web","found","thing"] (cI iP):=⟨rfl,rfl,rfl,by decide +kernel,rfl,by decide +kernel,by decide +kernel⟩
theorem vP {f:Addr}{fd:FuncData}(F:Fun K "worth_taking" "worth_taking" iP f fd) (B:Blt mg) (cpriors:Cal P w K mg base 2 "priors" ["web", "one"] (gk true)):FnOk P w K mg base CX0 3 f fd ["web", "found", "thing"] mV := by
 refine F.ok scWorth (fun vs H Q E h=>?_) (fun cdv A outer s H vs Q E hr h=>?_)
 ·obtain⟨q,d,ss,es,D,ks,v,rfl,_⟩:=h
  rfl
 ·obtain⟨q, d, ss, es, Dd, ks, v, rfl, W, val, hd, klt, kall, k⟩ := h
  have nd:=scWorth.nd
  refine⟨_,(cJ (cS (dN (cI iP) ["web","found","thing"] ["prior"] [1] ["prior","found"] rfl (dI K (cP cpriors (hr.mono (by decide)) rfl (cC (pv 0) (cC (pv 2) cE)))) (fun _ _ _ _ _=>(cT (i:=0) (show (["prior","found"]:List Str).Nodup by decide) rfl (Or.inl rfl))) (fun _ _ _ _ _=>(gJ (cU jq (cR (cX K hr.units) (pv 1) (pv 0) (fun _ _=>rfl)) cK (dg _)))) (fun _ _ _ _ _=>(pv 0))))),?_⟩
  obtain⟨us,eus,ul,um⟩:=lN W.nd W.nm val v
  have h60:=W.len
  refine⟨_,rfl,_,rfl,q,ss,_,_,rfl,W,fun l1 H1 s1 hl1 hc1=>⟨l1,rfl,⟨_,.of hc1⟩,?_⟩⟩
  have hc1:H1 l1=some (.lst (List.map V.str (us.map (nmA ss)))):=by rw[<- eus];exact hc1
  have ex:List.map V.str (fk ss (if true then dM (es.map (nmP ss)) else es.map (nmP ss)) (nmA ss v))=List.map V.str (us.map (nmA ss)):=by rw[<- eus];rfl
  refine fg (List.map V.str (us.map (nmA ss))) (fun D i acc σ' H'=>∃o,σ'=[o,some (.ref d)]/\acc=List.map V.str (((us.take i).filter fun u=>decide (0<Dd u)).map (nmA ss))/\Same H1 H'/\H1 D=none) fun D' hD=>⟨?_,?_,?_,?_⟩
  ·exact⟨none,rfl,rfl,Same.new hD,hD⟩
  ·rintro i acc σ' H' _ ⟨o,rfl,_,sm,_⟩ _
   exact .of (sm _ _ hc1)
  ·rintro i acc σ' H' x hx ⟨o,rfl,rfl,sm,hD0⟩ hacc
   rw[al,al] at hx
   obtain⟨u,hu,rfl⟩:∃u,us[i]? = some u/\V.str (nmA ss u)=x:=by
    cases q:us[i]? with
    | none=>rw[q] at hx;cases hx
    | some e=>rw[q] at hx;exact⟨e,rfl,af hx⟩
   have hil:=(ai.mp hu).1
   have hun:=(val _ ((um u).mp (av hu))).1
   have hd':=sm _ _ (s1 _ _ hd)
   refine⟨_,rfl,_,rfl,.dic (.inl ⟨fH ss Dd ks,.inr (nmA ss u),.inl hd',rfl,(iG W.nd Dd klt (kall u hun)).symm⟩) ⟨_,_,rfl,rfl,_,rfl,?_⟩⟩
   have fl:=bd (fun u=>decide (0<Dd u)) (us.take i)
   have tl:(us.take i).length<=i:=by rw[aF];omega
   refine df (fun h1=>?_) (fun h1=>?_)
   ·refine⟨_,rfl,hacc,?_,_,rfl,?_,dR sm hD0,hD0⟩
    ·rw[ac,ac];exact cN (by omega)
    ·rw[ng us _ i u hu,if_pos h1,aj,aj];rfl
   ·refine⟨hacc,_,rfl,?_,sm,hD0⟩
    rw[ng us _ i u hu,if_neg h1,bE]
  ·rintro acc σ' H2 ⟨o,rfl,rfl,s2,hD0⟩ hacc
   rw[ac,ac,aB (ad _)] at hacc
   have fl:=bd (fun u=>decide (0<Dd u)) us
   refine k D' (us.filter fun u=>decide (0<Dd u)) H2 (s1.trans s2) (dF s1 hD0) hacc (by omega) fun u=>?_
   rw[aw,um u,decide_eq_true_iff]
def oZ (Pt:Addr):Sp:=fun vs H Q _=>∃(q:V) (d:Addr) (ss:List Str) (es:List (Nat × Nat)) (Ww D:Nat->Int) (ks:List Nat) (v:Nat),vs=[q,.ref d,.str (nmA ss v)]/\Web H q ss (es.map (nmP ss))/\dZ ss es/\H d=some (.dK (fH ss D ks))/\(∀x∈ks,x<ss.length)/\(∀x,x<ss.length->x∈ks)/\MG.Ris es/\MG.IsD es Ww D/\v<ss.length/\TbK Pt H /\
 ∀(l:Addr) (xs:List Nat) (H':Hp),SameK Pt H H'->H l=none->H' l=some (.lst (List.map V.str (xs.map (nmA ss))))->fO Ww xs=D v->xs≠[]->(∀i a b,xs[i]? = some a->xs[i+1]? = some b->(a,b)∈es)->(∀x∈xs,x<ss.length)->TbK Pt H'->Q (.ref l) H'
theorem scWayB:FnScope ["web","found","last","told","worth"] ["web","found","last"] (cI kC):=⟨rfl,rfl,rfl,by decide +kernel,rfl,by decide +kernel,by decide +kernel⟩
theorem xE {f Pt:Addr}{fd:FuncData}(F:Fun K "way_back" "way_back" kC f fd) (B:Blt mg) (cdeepest_among:Cal P w K mg base 3 "deepest_among" ["things", "found"] (ky Pt)) (cworth_taking:Cal P w K mg base 3 "worth_taking" ["web", "found", "thing"] mV):FnOk P w K mg base CX0 4 f fd ["web", "found", "last"] (oZ Pt) := by
 refine F.ok scWayB (fun vs H Q E h=>?_) (fun cdv A outer s H vs Q E hr h=>?_)
 ·obtain⟨q,d,ss,es,Ww,D,ks,v,rfl,_⟩:=h
  rfl
 ·obtain⟨q, d, ss, es, Ww, D, ks, v, rfl, W, val, hd, klt, kall, ris, dep, hv, tb, k⟩ := h
  obtain⟨r,hr1,hr2⟩:=xR ris val
  have nd:=scWayB.nd
  refine⟨_,(cG (cQ (i:=3) nd rfl (Or.inl rfl) (dC (cC (pv 2) cE)))
   (cG (cQ (i:=4) nd rfl (Or.inl rfl) (cP cworth_taking (hr.mono (by decide)) rfl (cC (pv 0) (cC (pv 1) (cC (pv 2) cE)))))
   (cG (iW PassesOwn.never (cU jq (eY K B (cC (pv 4) cE)) cK (dg _)) (cG (dQ (fZ K (pv 3) (cC (cP cdeepest_among (hr.mono (by decide)) rfl (cC (pv 4) (cC (pv 1) cE))) cE)))
   (cJ (cQ (i:=4) nd rfl (Or.inl rfl) (cP cworth_taking (hr.mono (by decide)) rfl (cC (pv 0) (cC (pv 1) (cC (cR (cX K hr.units) (pv 3) (iu gR cK) (fun _ _=>rfl)) cE))))))))
   (cG (dQ (sy K (pv 3)))
   (cJ (cS (pv 3))))))),?_⟩
  have h60:=W.len
  refine⟨_,rfl,(by show 1<=sizeLine;decide),fun l hl=>?_⟩
  have s1:=Same.new (o:=.lst [V.str (nmA ss v)]) hl
  have e1:upd H l (.lst [V.str (nmA ss v)]) l=some (.lst [V.str (nmA ss v)]):=cF
  generalize upd H l (.lst [V.str (nmA ss v)])=H1 at s1 e1 ⊢
  refine⟨_,rfl,_,rfl,_,rfl,q,d,ss,es,D,ks,v,rfl,W.same s1,val,s1 _ _ hd,klt,kall,fun le us H2 s2 hle0 hle ul um=>?_⟩
  refine⟨fun m σ H'=>∃(ys us:List Nat) (u:Nat) (le:Addr),σ=[some q,some (.ref d),some (.str (nmA ss v)),some (.ref l),some (.ref le)]/\SameK Pt H H'/\TbK Pt H'/\H' l=some (.lst (List.map V.str ((ys++[u]).map (nmA ss))))/\H' le=some (.lst (List.map V.str (us.map (nmA ss))))/\us.length<=ss.length/\(∀w,w∈us ↔ (w,u)∈es/\0<D w)/\u<ss.length/\fO Ww ys+D u=D v/\ys.length+r u<=r v/\(∀i a b,(ys++[u])[i]? = some a->(ys++[u])[i+1]? = some b->(b,a)∈es)/\(∀x∈ys++[u],x<ss.length)/\m=r u,
   ⟨r v,[],us,v,le,rfl,SameK.of (s1.trans s2),(tb.same s1).same s2,s2 _ _ e1,hle,ul,um,hv,(by show 0+D v=D v;omega),(by show 0+r v<=r v;omega),?_,fun x hx=>?_,rfl⟩,?_⟩
  ·intro i a b ha hb
   have:=(ai.mp hb).1
   simp at this
  ·have:x=v:=by simpa using hx
   rw[this];exact hv
  clear s2 hle0 hle ul um s1 e1 us le
  rintro m σ H3 ⟨ys,us,u,le,rfl,s3,t3,hl3,hle3,ul,um,hu,hlen,hrk,chn,hin,hm⟩
  have dv:=hr2 v hv
  refine⟨_,rfl,_,_,rfl,Or.inl ⟨_,.of hle3,rfl⟩,_,_,rfl,rfl,_,rfl,?_⟩
  refine df (fun hc=>?_) (fun hc=>?_)
  ·have hc:(0:Int)<((List.map V.str (us.map (nmA ss))).length:Nat) := au hc
   rw[ac,ac] at hc
   have une:us≠[]:=fun z=>by rw[z] at hc;simp at hc
   refine⟨fun σ H'=>∃(ys us:List Nat) (u:Nat) (le:Addr),σ=[some q,some (.ref d),some (.str (nmA ss v)),some (.ref l),some (.ref le)]/\SameK Pt H H'/\TbK Pt H'/\H' l=some (.lst (List.map V.str ((ys++[u]).map (nmA ss))))/\H' le=some (.lst (List.map V.str (us.map (nmA ss))))/\us.length<=ss.length/\(∀w,w∈us ↔ (w,u)∈es/\0<D w)/\u<ss.length/\fO Ww ys+D u=D v/\ys.length+r u<=r v/\(∀i a b,(ys++[u])[i]? = some a->(ys++[u])[i+1]? = some b->(b,a)∈es)/\(∀x∈ys++[u],x<ss.length)/\r u<m,fun σ' H' ⟨ys,us,u,le,q1,q2,q3,q4,q5,q6,q7,q8,q9,qA,qB,qC,qD⟩=>⟨r u,qD,ys,us,u,le,q1,q2,q3,q4,q5,q6,q7,q8,q9,qA,qB,qC,rfl⟩,?_⟩
   have hd3:=s3.at tb hd
   refine⟨_,rfl,.inl ⟨rfl,_,.of hl3⟩,?_⟩
   refine⟨_,rfl,_,rfl,le,d,ss,D,ks,us,rfl,.inl hle3,hd3,W.nd,klt,fun x hx=>kall x (val _ ((um x).mp hx).1).1,une,t3,fun w H4 hw hmax s4 t4=>?_⟩
   obtain⟨hwe,hwp⟩:=(um w).mp hw
   have hwn:=(val _ hwe).1
   have dw:=dep.top (v:=u) (M:=D w) (by omega) (fun x hx=>by
    by_cases z:0<D x
    ·exact hmax x ((um x).mpr ⟨hx,z⟩)
    ·omega) (.inr ⟨w,hwe,rfl⟩)
   have rw_:=hr1 _ hwe
   dsimp only at rw_
   have hl4:=s4.at t3 hl3
   refine⟨l,_,_,rfl,rfl,hl4,?_,?_⟩
   ·rw[ac,ac,az]
    show ys.length+1<sizeLine
    exact cN (by omega)
   have e5:upd H4 l (.lst (List.map V.str ((ys++[u]).map (nmA ss))++[V.str (nmA ss w)])) l=some (.lst (List.map V.str (((ys++[u])++[w]).map (nmA ss)))):=by
    rw[cF,aj (l₁:=ys++[u]),aj (l₁:=(ys++[u]).map (nmA ss))];rfl
   have s34:=s3.trans s4
   have s5:SameK Pt H (upd H4 l (.lst (List.map V.str ((ys++[u]).map (nmA ss))++[V.str (nmA ss w)]))):=fun b o nb hb=>by rw[cH (cL hb hl)];exact s34 b o nb hb
   have t5:TbK Pt (upd H4 l (.lst (List.map V.str ((ys++[u]).map (nmA ss))++[V.str (nmA ss w)]))):=t4.upd hl4
   generalize upd H4 l (.lst (List.map V.str ((ys++[u]).map (nmA ss))++[V.str (nmA ss w)]))=H5 at e5 s5 t5 ⊢
   refine⟨_,rfl,_,rfl,_,rfl,_,rfl,.lst (.of e5) (mF ss (ys++[u]) w) ⟨q,d,ss,es,D,ks,w,rfl,jp W s5 tb,val,s5.at tb hd,klt,kall,fun le2 us2 H6 s6 hle20 hle2 ul2 um2=>?_⟩⟩
   refine⟨ys++[u],us2,w,le2,rfl,s5.trans (SameK.of s6),t5.same s6,s6 _ _ e5,hle2,ul2,um2,hwn,?_,?_,?_,?_,by omega⟩
   ·rw[jJ]
    show fO Ww ys+(Ww u+0)+D w=D v
    omega
   ·rw[az]
    show ys.length+1+r w<=r v
    omega
   ·intro i a b ha hb
    have hbl:=(ai.mp hb).1
    rw[az (as:=ys++[u])] at hbl
    have hbl:i+1<(ys++[u]).length+1:=hbl
    rw[bG (by omega)] at ha
    by_cases z:i+1<(ys++[u]).length
    ·rw[bG z] at hb
     exact chn i a b ha hb
    ·have z:i+1=(ys++[u]).length:=by omega
     rw[bw (by omega),z,Nat.sub_self] at hb
     have hb:w=b:=af hb
     subst hb
     have zi:i=ys.length:=by rw[az] at z;have z:i+1=ys.length+1:=z;omega
     subst zi
     rw[bw (ad _),Nat.sub_self] at ha
     have ha:u=a:=af ha
     subst ha
     exact hwe
   ·intro x hx
    rcases ar.mp hx with hx | hx
    ·exact hin x hx
    ·rw[aI.mp hx];exact hwn
  ·have hc:¬ (0:Int)<((List.map V.str (us.map (nmA ss))).length:Nat) := fun z => hc (ao z)
   rw[ac,ac] at hc
   have un:us=[]:=List.eq_nil_of_length_eq_zero (by omega)
   have du:=dep.top (v:=u) (M:=0) (Int.le_refl _) (fun x hx=>by
    by_cases z:0<D x
    ·have:=(um x).mpr ⟨hx,z⟩
     rw[un] at this;cases this
    ·omega) (.inl rfl)
   refine⟨_,rfl,.inl ⟨rfl,_,.of hl3⟩,l,_,rfl,rfl,hl3,?_⟩
   have e4:upd H3 l (.lst (List.map V.str ((ys++[u]).map (nmA ss))).reverse) l=some (.lst (List.map V.str ((ys++[u]).reverse.map (nmA ss)))):=by
    rw[cF,<- List.map_reverse,<- List.map_reverse]
   have s4:SameK Pt H (upd H3 l (.lst (List.map V.str ((ys++[u]).map (nmA ss))).reverse)):=fun b o nb hb=>by rw[cH (cL hb hl)];exact s3 b o nb hb
   have t4:TbK Pt (upd H3 l (.lst (List.map V.str ((ys++[u]).map (nmA ss))).reverse)):=t3.upd hl3
   refine⟨_,rfl,k l (ys++[u]).reverse _ s4 hl e4 ?_ (by simp) (fun i a b ha hb=>?_) (fun x hx=>hin x (List.mem_reverse.mp hx)) t4⟩
   ·rw[or,jJ]
    show fO Ww ys+(Ww u+0)=D v
    omega
   ·have hbl:=(ai.mp hb).1
    rw[List.length_reverse] at hbl
    rw[List.getElem?_reverse (by omega)] at ha hb
    refine chn ((ys++[u]).length-1-(i+1)) b a hb ?_
    rw[show (ys++[u]).length-1-(i+1)+1=(ys++[u]).length-1-i by omega]
    exact ha
def IsW (H:Hp) (x:V) (n:Nat) (zs:List Int):Prop:=zs.length=n/\∃a,x=.ref a/\(H a=some (.lst (cO zs))∨H a=some (.tup (cO zs)))
def js:Sp:=fun vs H Q _=>∃(q x:V) (ss:List Str) (es:List (Nat × Nat)) (zs:List Int),vs=[q,x]/\Web H q ss (es.map (nmP ss))/\dZ ss es/\MG.Ris es/\IsW H x ss.length zs/\∀l H',Same H H'->H l=none->H' l=some (.dK (d3 ss (cO zs)))->Q (.ref l) H'
theorem rW {f:Addr}{fd:FuncData}{k:Nat}(F:FnOk P w K mg base CX0 k f fd ["web","weights"] qd) (G:FnOk P w K mg base CX0 k f fd ["web","weights"] oA):FnOk P w K mg base CX0 k f fd ["web","weights"] js :=
 ⟨fun vs H Q E ⟨_,_,_,_,_,e,_⟩=>by rw[e];rfl,fun A outer s H args us vs Q E hr he hb hv ⟨q,x,ss,es,zs,e,W,val,ris,⟨hl,a,ex,ha⟩,k⟩=>by
  subst ex
  rcases ha with ha | ha
  ·exact F.run A outer s H args us vs Q E hr he hb hv ⟨q,a,ss,es,zs,e,W,val,ris,ha,hl,k⟩
  ·exact G.run A outer s H args us vs Q E hr he hb hv ⟨q,a,ss,es,zs,e,W,val,ris,ha,hl,k⟩⟩
def jM:Sp:=fun vs H Q _=>∃(q x:V) (ss:List Str) (es:List (Nat × Nat)) (zs:List Int),vs=[q,x]/\Web H q ss (es.map (nmP ss))/\dZ ss es/\MG.Ris es/\IsW H x ss.length zs /\
 ∀l D H',MG.IsD es (wOf zs) D->Same H H'->H l=none->H' l=some (.lst (cO ((List.range ss.length).map D)))->Q (.ref l) H'
theorem scDepths:FnScope ["web","weights"] ["web","weights"] (cI gZ):=⟨rfl,rfl,rfl,by decide +kernel,rfl,by decide +kernel,by decide +kernel⟩
theorem nG {f:Addr}{fd:FuncData}(F:Fun K "depths" "depths" gZ f fd) (B:Blt mg) (cweights_by_thing:Cal P w K mg base 8 "weights_by_thing" ["web","weights"] js) (cdepths_by_thing:Cal P w K mg base 9 "depths_by_thing" ["web","weighed"] iH) (cby_places:Cal P w K mg base 1 "by_places" ["web","found"] jR):FnOk P w K mg base CX0 10 f fd ["web","weights"] jM:=by
 refine F.ok scDepths (fun vs H Q E h=>?_) (fun cdv A outer s H vs Q E hr h=>?_)
 ·obtain⟨q,a,ss,es,zs,rfl,_⟩:=h
  rfl
 ·obtain⟨q,x,ss,es,zs,rfl,W,val,hf,ha,k⟩:=h
  have nd:=scDepths.nd
  obtain⟨D,hD⟩:=MG.depth_ex hf (wOf zs)
  refine⟨_,(cJ (cS (cP cby_places (hr.mono (by decide)) rfl (cC (pv 0) (cC (cP cdepths_by_thing (hr.mono (by decide)) rfl (cC (pv 0) (cC (cP cweights_by_thing (hr.mono (by decide)) rfl (cC (pv 0) (cC (pv 1) cE))) cE))) cE))))),?_⟩
  refine⟨_,rfl,_,rfl,_,rfl,_,rfl,q,x,ss,es,zs,rfl,W,val,hf,ha,fun d H1 s1 hd0 hd=>?_⟩
  refine⟨q,d,ss,es,zs,D,rfl,W.same s1,val,hf,hd,ha.1,hD,fun e ks H2 s2 he0 he knd klt kal=>?_⟩
  refine⟨q,e,ss,_,D,ks,rfl,(W.same s1).same s2,he,klt,kal,fun l H3 s3 hl0 hl3=>?_⟩
  exact k l D H3 hD ((s1.trans s2).trans s3) (dF s1 (dF s2 hl0)) hl3
theorem vE (ss:List Str):List.map V.str ((List.range ss.length).map (nmA ss))=List.map V.str ss:=by rw[<- ww ss]
def ya (n:Nat) (D:Nat->Int) (v:Nat):Prop:=v<n/\∀u,u<n->D u<=D v
def zk (es:List (Nat × Nat)) (xs:List Nat):Prop:=∀i a b,xs[i]? = some a->xs[i+1]? = some b->(a,b)∈es
def iZ (Pt:Addr):Sp:=fun vs H Q _=>∃(q wx:V) (ss:List Str) (es:List (Nat × Nat)) (zs:List Int) (D:Nat->Int),vs=[q,wx]/\Web H q ss (es.map (nmP ss))/\dZ ss es/\MG.Ris es/\IsW H wx ss.length zs/\MG.IsD es (wOf zs) D/\TbK Pt H /\
 (ss.length=0->∀H',SameK Pt H H'->TbK Pt H'->Q .non H') /\
 ∀(t l l2:Addr) (xs:List Nat) (v:Nat) (H':Hp),SameK Pt H H'->H l=none->H l2=none->H' t=some (.tup [.int (D v),.ref l,.ref l2])->H' l2=some (.lst (cO ((List.range ss.length).map D)))->H' l=some (.lst (List.map V.str (xs.map (nmA ss))))->ya ss.length D v->fO (wOf zs) xs=D v->xs≠[]->zk es xs->(∀x∈xs,x<ss.length)->TbK Pt H'->Q (.ref t) H'
theorem scDeepest:FnScope ["web","weights","found","last"] ["web","weights"] (cI gt):=⟨rfl,rfl,rfl,by decide +kernel,rfl,by decide +kernel,by decide +kernel⟩
theorem mj {f Pt:Addr}{fd:FuncData}(F:Fun K "deepest" "deepest" gt f fd) (B:Blt mg) (cweights_by_thing:Cal P w K mg base 8 "weights_by_thing" ["web", "weights"] js) (cdepths_by_thing:Cal P w K mg base 9 "depths_by_thing" ["web", "weighed"] iH) (cby_places:Cal P w K mg base 1 "by_places" ["web", "found"] jR)
    (cdeepest_among:Cal P w K mg base 3 "deepest_among" ["things","found"] (ky Pt)) (cway_back:Cal P w K mg base 4 "way_back" ["web","found","last"] (oZ Pt)):FnOk P w K mg base CX0 10 f fd ["web","weights"] (iZ Pt):=by
 refine F.ok scDeepest (fun vs H Q E h=>?_) (fun cdv A outer s H vs Q E hr h=>?_)
 ·obtain⟨q,wx,ss,es,zs,D,rfl,_⟩:=h
  rfl
 ·obtain⟨q, wx, ss, es, zs, D, rfl, W, val, ris, ha, hD, tb, k0, k⟩ := h
  have nd:=scDeepest.nd
  refine⟨_,(cG (cQ (i:=2) nd rfl (Or.inl rfl) (cP cdepths_by_thing (hr.mono (by decide)) rfl (cC (pv 0) (cC (cP cweights_by_thing (hr.mono (by decide)) rfl (cC (pv 0) (cC (pv 1) cE))) cE))))
   (cG (dG (cU (dO hr.units) (yk B (cC (pv 2) cE)) cK (dg _)) (cJ (cS dX)) dk)
   (cG (cQ (i:=3) nd rfl (Or.inl rfl) (cP cdeepest_among (hr.mono (by decide)) rfl (cC (cR (cX K hr.units) (pv 0) cK (fun _ _=>rfl)) (cC (pv 2) cE))))
   (cJ (cS (d8 (cC (cR (cX K hr.units) (pv 2) (pv 3) (fun _ _=>rfl)) (cC (cP cway_back (hr.mono (by decide)) rfl (cC (pv 0) (cC (pv 2) (cC (pv 3) cE)))) (cC (cP cby_places (hr.mono (by decide)) rfl (cC (pv 0) (cC (pv 2) cE))) cE))))))))),?_⟩
  have hrl:=ha.1
  refine⟨_,rfl,_,rfl,_,rfl,q,wx,ss,es,zs,rfl,W,val,ris,ha,fun dz H1 s1 hdz0 hdz=>⟨q,dz,ss,es,zs,D,rfl,W.same s1,val,ris,hdz,hrl,hD,fun d ks H2 s2 hd0 hd knd klt kall=>?_⟩⟩
  have s12:=s1.trans s2
  have tl:(fH ss D ks).length=ks.length:=ac ..
  refine⟨_,rfl,d,_,rfl,hd,.sc rfl ⟨_,rfl,?_⟩⟩
  refine df (fun h1=>?_) (fun h1=>?_)
  ·have h1:(((fH ss D ks).length:Nat):Int)=0:=V.int.inj (au h1)
   refine k0 ?_ H2 (SameK.of s12) (tb.same s12)
   refine Nat.eq_zero_of_not_pos fun z=>?_
   have:=List.length_pos_of_mem (kall 0 z)
   omega
  ·have hn:0<ss.length:=by
      refine Nat.pos_of_ne_zero fun z=>h1 (ao ?_)
      have:ks=[]:=List.eq_nil_iff_forall_not_mem.mpr fun x hx=>by have:=klt x hx;omega
      rw[this];rfl
   obtain⟨qa,wa,wb,xs2,rfl,hq,hwa,hwb,_⟩:=gT W.rep
   have tb2:=tb.same s12
   refine⟨_,rfl,.tup (.of (s12 _ _ hq)) rfl ⟨_,rfl,wa,d,ss,D,ks,List.range ss.length,rfl,.inr (by rw[vE];exact s12 _ _ hwa),hd,W.nd,klt,fun u hu=>kall u (aR.mp hu),fun z=>?_,tb2,fun v H3 hv hmax s3 t3=>?_⟩⟩
   ·have:=congrArg List.length z
    rw[bj] at this
    have:ss.length=0:=this
    omega
   have hv:=aR.mp hv
   have best:ya ss.length D v:=⟨hv,fun u hu=>hmax u (aR.mpr hu)⟩
   have hd3:=s3.at tb2 hd
   have s13:SameK Pt H H3:=(SameK.of s12).trans s3
   have W3:=jp W s13 tb
   refine⟨_,rfl,_,rfl,.dic (.inl ⟨fH ss D ks,.inr (nmA ss v),.inl hd3,rfl,(iG W.nd D klt (kall v hv)).symm⟩) ⟨_,rfl,_,rfl,_,rfl,.ref qa,d,ss,es,wOf zs,D,ks,v,rfl,W3,val,hd3,klt,kall,ris,hD,hv,t3,fun l xs H4 s4 hl0 hl hlen hne chn hin t4=>?_⟩⟩
   have hd4:=s4.at t3 hd3
   have s14:=s13.trans s4
   refine⟨_,rfl,_,rfl,.ref qa,d,ss,_,D,ks,rfl,jp W s14 tb,hd4,klt,kall,fun l2 H5 s5 hl20 hl2=>⟨(by show 3<=sizeLine;decide),fun t ht=>?_⟩⟩
   have s6:=s5.trans (Same.new (o:=.tup [V.int (D v),V.ref l,V.ref l2]) ht)
   exact k t l l2 xs v _ (s14.trans (SameK.of s6)) (s13.free tb t3 hl0) (s14.free tb t4 hl20) cF ((Same.new ht) _ _ hl2) (s6 _ _ hl) best hlen hne chn hin (t4.same s6)
def oP:Sp:=fun vs H Q _=>∃(q:V) (ss:List Str) (es:List (Nat × Nat)),vs=[q]/\Web H q ss (es.map (nmP ss))/\dZ ss es/\MG.Ris es/\∀v H',Same H H'->Q v H'
theorem scLayers:FnScope ["web"] ["web"] (cI gp):=⟨rfl,rfl,rfl,by decide +kernel,rfl,by decide +kernel,by decide +kernel⟩
theorem sH {f:Addr}{fd:FuncData}(F:Fun K "layers" "layers" gp f fd) (B:Blt mg) (cdepths:Cal P w K mg base 10 "depths" ["web", "weights"] jM) (cones:Cal P w K mg base 1 "ones" ["web"] jb):FnOk P w K mg base CX0 11 f fd ["web"] oP := by
 refine F.ok scLayers (fun vs H Q E h=>?_) (fun cdv A outer s H vs Q E hr h=>?_)
 ·obtain⟨q,ss,es,rfl,_⟩:=h
  rfl
 ·obtain⟨q,ss,es,rfl,W,val,hf,k⟩:=h
  have nd:=scLayers.nd
  have h60:=W.len
  refine⟨_,(cJ (cS (dN (cI gp) ["web"] ["depth"] [] ["depth"] rfl (dI K (cP cdepths (hr.mono (by decide)) rfl (cC (pv 0) (cC (cP cones (hr.mono (by decide)) rfl (cC (pv 0) cE)) cE)))) (fun _ _ _ _ _=>(cT (i:=0) (show (["depth"]:List Str).Nodup by decide) rfl (Or.inl rfl))) (fun _ _ _ _ _=>eM) (fun _ _ _ _ _=>(cW jU (pv 0) cK))))),?_⟩
  refine⟨_,rfl,_,rfl,q,ss,_,rfl,W,fun lo H1 s1 hlo0 hlo=>?_⟩
  refine⟨q,.ref lo,ss,es,_,rfl,W.same s1,val,hf,⟨bY,lo,rfl,.inl hlo⟩,fun ld Dd H2 hD s2 hld0 hld=>?_⟩
  refine⟨_,rfl,⟨_,.of hld⟩,?_⟩
  have il:(cO ((List.range ss.length).map Dd)).length=ss.length:=by unfold cO;rw[ac,ac,bj]
  refine fg (cO ((List.range ss.length).map Dd)) (fun C i acc σ' H'=>∃o,σ'=[o]/\acc.length=i/\Same H2 H'/\H2 C=none) fun C hC=>⟨?_,?_,?_,?_⟩
  ·exact⟨none,rfl,rfl,Same.new hC,hC⟩
  ·rintro i acc σ' H' _ ⟨o,rfl,_,sm,_⟩ _
   exact .of (sm _ _ hld)
  ·rintro i acc σ' H' x hx ⟨o,rfl,hal,sm,hC0⟩ hacc
   obtain⟨z,hz,rfl⟩:=mQ hx
   have hil:=(ai.mp hz).1
   rw[ac,bj] at hil
   refine gK ?_
   exact⟨_,rfl,_,_,rfl,rfl,hacc,cN (by omega),_,rfl,by rw[az,hal];rfl,dR sm hC0,hC0⟩
  ·rintro acc σ' H3 ⟨o,rfl,_,s3,hC0⟩ hacc
   exact k _ H3 ((s1.trans s2).trans s3)
def nH (Pt:Addr):Sp:=fun vs H Q _=>∃(q:V) (ss:List Str) (es:List (Nat × Nat)),vs=[q]/\Web H q ss (es.map (nmP ss))/\dZ ss es/\MG.Ris es/\TbK Pt H/\∀v H',SameK Pt H H'->TbK Pt H'->Q v H'
theorem scLongest:FnScope ["web","found"] ["web"] (cI gw):=⟨rfl,rfl,rfl,by decide +kernel,rfl,by decide +kernel,by decide +kernel⟩
theorem rA {f Pt:Addr}{fd:FuncData}(F:Fun K "longest" "longest" gw f fd) (B:Blt mg) (cdeepest:Cal P w K mg base 10 "deepest" ["web", "weights"] (iZ Pt)) (cones:Cal P w K mg base 1 "ones" ["web"] jb):FnOk P w K mg base CX0 11 f fd ["web"] (nH Pt) := by
 refine F.ok scLongest (fun vs H Q E h=>?_) (fun cdv A outer s H vs Q E hr h=>?_)
 ·obtain⟨q,ss,es,rfl,_⟩:=h
  rfl
 ·obtain⟨q, ss, es, rfl, W, val, ris, tb, k⟩ := h
  have nd:=scLongest.nd
  obtain⟨D,hD⟩:=MG.depth_ex ris (wOf (List.replicate ss.length 1))
  refine⟨_,(cG (cQ (i:=1) nd rfl (Or.inl rfl) (cP cdeepest (hr.mono (by decide)) rfl (cC (pv 0) (cC (cP cones (hr.mono (by decide)) rfl (cC (pv 0) cE)) cE))))
   (cG (dG (cU kh (pv 1) dX (dg _)) (cJ (cS (dC cE))) dk)
   (cJ (cS (cR (cX K hr.units) (pv 1) cK (fun _ _=>rfl)))))),?_⟩
  refine⟨_,rfl,_,rfl,q,ss,_,rfl,W,fun lo H1 s1 hlo0 hlo=>⟨q,.ref lo,ss,es,_,D,rfl,W.same s1,val,ris,⟨bY,lo,rfl,.inl hlo⟩,hD,tb.same s1,fun hn H2 s2 t2=>?_,fun t l l2 xs v H2 s2 hl0 _ ht _ hl best hlen _ chn hin t2=>?_⟩⟩
  ·refine⟨_,rfl,.non ⟨_,rfl,df (fun _=>?_) (fun h=>(h (ao (rfl:V.non=V.non))).elim)⟩⟩
   refine⟨(by show 0<=sizeLine;decide),fun l hl=>?_⟩
   have s3:=Same.new (o:=.lst []) hl
   exact k _ _ (((SameK.of s1).trans s2).trans (SameK.of s3)) (t2.same s3)
  ·refine⟨_,rfl,.non ⟨_,rfl,df (fun h=>?_) (fun _=>?_)⟩⟩
   ·have h:V.ref t=V.non:=au h
    cases h
   ·exact⟨_,rfl,.tup (.of ht) rfl (k _ H2 ((SameK.of s1).trans s2) t2)⟩
def kt:Sp:=fun vs H Q _=>∃(n t:Addr) (ss:List Str) (es:List (Nat × Nat)),vs=[.ref n,.ref t]/\Built H n t ss es /\
 ((∀e∈es,¬ MG.RingAt es e)->∀H',Same H H'->Q .non H')/\∀l i e k ws H',MG.FirstR es i e->MG.To es e.1 k e.2->MG.Wy es e.1 k e.2 ws->Same H H'->H l=none->H' l=some (.lst (List.map V.str ((e.1::ws.dropLast).map (nmA ss))))->Q (.ref l) H'
theorem scLRing:FnScope ["_law_names_here","_law_ties_here","_law_one","_law_other","_law_back"] ["_law_names_here","_law_ties_here"] (cI iU):=⟨rfl,rfl,rfl,by decide +kernel,rfl,by decide +kernel,by decide +kernel⟩
theorem vL {f:Addr}{fd:FuncData}(F:Fun K "_law_ring" "_law_ring" iU f fd) (B:Blt mg) (c_law_far:Cal P w K mg base 1 "_law_far" ["_law_size", "_law_ties_here", "_law_goal"] qw) (c_law_way:Cal P w K mg base 1 "_law_way" ["_law_ties_here", "_law_far_here", "_law_one"] oh):FnOk P w K mg base CX0 2 f fd ["_law_names_here", "_law_ties_here"] kt := by
 refine F.ok scLRing (fun vs H Q E h=>?_) (fun cdv A outer s H vs Q E hr h=>?_)
 ·obtain⟨n,t,ss,es,rfl,_⟩:=h
  rfl
 ·obtain⟨n, t, ss, es, rfl, hB, k0, k⟩ := h
  have nd:=scLRing.nd
  obtain⟨refs,ht,rp⟩:=hB.ti
  have val:=hB.val
  have hn:=hB.len
  have hel:es.length<=1000:=by have:=hB.few;omega
  have hln:(List.map V.str ss).length=ss.length:=ac ..
  refine⟨_,(cG (dY PassesOwn.never rfl (dI K (pv 1)) (gH (n:=2) K rfl (d4 (cT (i:=2) nd rfl (Or.inl rfl)) (d4 (cT (i:=3) nd rfl (Or.inl rfl)) gB))) (cG (cQ (i:=4) nd rfl (Or.inl rfl) (cP c_law_way (hr.mono (by decide)) rfl (cC (pv 1) (cC (cP c_law_far (hr.mono (by decide)) rfl (cC (eY K B (cC (pv 0) cE)) (cC (pv 1) (cC (pv 2) cE)))) (cC (pv 3) cE)))))
   (cJ (dG (cU im (pv 4) dX (dg _)) (cJ (cS (cW dh (dC (cC (cR (cX K hr.units) (pv 0) (pv 2) (fun _ _=>rfl)) cE)) (dN (cI iU) ["_law_names_here","_law_ties_here","_law_one","_law_other","_law_back"] ["_law_k"] [0] ["_law_k","_law_names_here"] rfl (dI K (fF (i8 K) (pv 4) fV (fW (iu gR cK)))) (fun _ _ _ _ _=>(cT (i:=0) (show (["_law_k","_law_names_here"]:List Str).Nodup by decide) rfl (Or.inl rfl))) (fun _ _ _ _ _=>eM) (fun _ _ _ _ _=>(cR (cX K hr.units) (pv 1) (pv 0) (fun _ _=>rfl))))))) dk))))
   (cJ (cS dX))),?_⟩
  have rlen:=rp.len
  rw[ac] at rlen
  refine⟨_,rfl,t,rfl,⟨_,.of ht⟩,?_⟩
  refine gh (xs:=refs) (fun i σ H'=>∃o2 o3 o4,σ=[some (.ref n),some (.ref t),o2,o3,o4]/\Same H H'/\∀j,j<i->∀f,es[j]? = some f->¬ MG.RingAt es f) ?_ ?_ ?_ ?_
  ·exact⟨none,none,none,rfl,fun _ _ h=>h,fun j hj=>by omega⟩
  ·rintro i σ H' hi ⟨o2,o3,o4,rfl,sm,_⟩
   exact .of (sm _ _ ht)
  ·rintro i x σ H1 hx ⟨o2, o3, o4, rfl, s1, hno⟩
   obtain⟨d,hd,rd⟩:=(rp.same s1).get hx
   rw[al] at hd
   obtain⟨e,he,rfl⟩:∃e,es[i]? = some e/\fh e=d:=by
    cases q:es[i]? with
    | none=>rw[q] at hd;cases hd
    | some e=>rw[q] at hd;exact⟨e,rfl,af hd⟩
   obtain⟨ta,rfl,hta⟩:=jm rd
   have hval:=val e (av he)
   refine⟨ta,_,rfl,.of hta,rfl,_,_,rfl,_,_,rfl,rfl,?_⟩
   refine⟨_,rfl,_,rfl,_,_,rfl,Or.inl ⟨_,.of (s1 _ _ hB.nm),rfl⟩,?_⟩
   rw[hln]
   refine⟨_,rfl,_,rfl,ss.length,t,refs,es,e.1,rfl,s1 _ _ ht,rp.same s1,val,hval.1,hn,fun lf far H2 s2 hlf0 hlf hfar=>?_⟩
   have s12:=s1.trans s2
   refine⟨_,rfl,ss.length,t,lf,refs,es,e.1,e.2,far,rfl,s12 _ _ ht,rp.same s12,hel,val,hval.1,hval.2,hn,hlf,hfar,fun hnone=>?_,fun l1 m ws H3 tom wy s3 hl1 hc1=>?_⟩
   ·refine⟨_, rfl, .non ⟨_, rfl, ?_⟩⟩
    refine df (fun h=>?_) (fun _=>?_)
    ·exact absurd h (by decide)
    ·refine⟨_,_,_,rfl,s12,fun j hj f hf=>?_⟩
     by_cases q:j<i
     ·exact hno j q f hf
     ·have:j=i:=by omega
      subst this
      rw[he] at hf
      cases hf
      rintro⟨m,tm⟩
      exact hnone m tm
   ·have hwl := wy.len
    have hkl:=MG.To.lt val hval.1 tom
    have hwn:=MG.Wy.inn val hval.1 wy
    have s13:=s12.trans s3
    refine⟨_,rfl,.non ⟨_,rfl,?_⟩⟩
    refine df (fun _=>?_) (fun h=>?_)
    ·refine⟨_, rfl, _, rfl, .lst (.of (s13 _ _ hB.nm)) (mt hval.1) ⟨(by show 1 <= sizeLine; decide), fun l2 hl2 => ?_⟩⟩
     have s4:=Same.new (o:=.lst [V.str (ss.getD e.1 "")]) hl2
     have e4:upd H3 l2 (.lst [V.str (ss.getD e.1 "")]) l2=some (.lst [V.str (ss.getD e.1 "")]):=cF
     generalize upd H3 l2 (.lst [V.str (ss.getD e.1 "")])=H4 at s4 e4 ⊢
     refine⟨_,rfl,_,rfl,_,rfl,.lst (.of (s4 _ _ hc1)) fun l3 hl3=>?_⟩
     rw[lj,oo]
     have s5:=Same.new (o:=.lst (d7 ws.dropLast)) hl3
     have e5:upd H4 l3 (.lst (d7 ws.dropLast)) l3=some (.lst (d7 ws.dropLast)):=cF
     generalize upd H4 l3 (.lst (d7 ws.dropLast))=H5 at s5 e5 ⊢
     refine⟨l3,rfl,⟨_,.of e5⟩,?_⟩
     have hwd:∀x∈ws.dropLast,x<ss.length:=fun x hx=>hwn x (List.dropLast_subset _ hx)
     have hwdl:ws.dropLast.length<=60:=by rw[cA];omega
     have nlen:(d7 ws.dropLast).length=ws.dropLast.length:=by simp[d7]
     refine fg (d7 ws.dropLast) (fun D i acc σ' H'=>∃o,σ'=[o,some (.ref n)]/\acc=List.map V.str ((ws.dropLast.take i).map (nmA ss))/\Same H5 H'/\H5 D=none) fun D hD=>⟨?_,?_,?_,?_⟩
     ·exact⟨none,rfl,rfl,Same.new hD,hD⟩
     ·rintro i acc σ' H' _ ⟨o,rfl,_,sm,_⟩ _
      exact .of (sm _ _ e5)
     ·rintro i acc σ' H' x hx ⟨o,rfl,rfl,sm,hD0⟩ hacc
      obtain⟨j,hj,rfl⟩:∃j,ws.dropLast[i]? = some j/\V.int ((j:Nat):Int)=x:=by
       unfold d7 at hx
       rw[al] at hx
       cases q:ws.dropLast[i]? with
       | none=>rw[q] at hx;cases hx
       | some e=>rw[q] at hx;exact⟨e,rfl,af hx⟩
      have hjl:=hwd j (av hj)
      have hil:=(ai.mp hj).1
      refine gK ?_
      refine⟨_,rfl,_,rfl,.lst (.of (sm _ _ (s5 _ _ (s4 _ _ (s13 _ _ hB.nm))))) (mt hjl) ⟨hacc,?_,_,rfl,?_,dR sm hD0,hD0⟩⟩
      ·rw[ac,ac,aF];exact cN (by omega)
      ·rw[aA,hj,aj,aj];rfl
     ·rintro acc σ' H8 ⟨o,rfl,rfl,s8,hD0⟩ hacc
      rw[nlen,aB (ad _)] at hacc
      refine .lst (s8 _ _ (s5 _ _ e4)) hacc ?_ fun l hl=>?_
      ·rw[ac,ac]
       show 1+ws.dropLast.length<=sizeLine
       exact aS (cN (by omega))
      ·have s38:=s13.trans (s4.trans (s5.trans s8))
       exact k l i e m ws _ ⟨he,⟨m,tom⟩,hno⟩ tom wy (s38.trans (Same.new hl)) (dF s38 hl) cF
    ·refine(h ?_).elim
     have:¬ V.ref l1=V.non:=fun z=>by cases z
     show (!decide (V.ref l1=V.non))=true
     rw[ba this];rfl
  ·rintro σ H1 ⟨o2,o3,o4,rfl,s1,hno⟩
   rw[rlen] at hno
   refine k0 (fun e he=>?_) H1 s1
   obtain⟨j,hj,ej⟩:=bR.mp he
   exact hno j hj e (by rw[aG hj,ej])
theorem kW {H H':Hp}{x:V}(h:Thg H x) (s:Same H H'):isL H' x=isL H x/\isT H' x=isT H x:=by
 cases h with
 | non=>exact⟨rfl,rfl⟩
 | bl b=>exact⟨rfl,rfl⟩
 | int i=>exact⟨rfl,rfl⟩
 | str z=>exact⟨rfl,rfl⟩
 | lst e=>exact⟨by rw[iR e,iR (s _ _ e)],by rw[fG e (fun _ z=>by cases z),fG (s _ _ e) (fun _ z=>by cases z)]⟩
 | tup e=>exact⟨by rw[fJ e (fun _ z=>by cases z),fJ (s _ _ e) (fun _ z=>by cases z)],by rw[iM e,iM (s _ _ e)]⟩
 | dK e=>exact⟨by rw[fJ e (fun _ z=>by cases z),fJ (s _ _ e) (fun _ z=>by cases z)],by rw[fG e (fun _ z=>by cases z),fG (s _ _ e) (fun _ z=>by cases z)]⟩
 | dT e=>exact⟨by rw[fJ e (fun _ z=>by cases z),fJ (s _ _ e) (fun _ z=>by cases z)],by rw[fG e (fun _ z=>by cases z),fG (s _ _ e) (fun _ z=>by cases z)]⟩
def wh (x:V):Bool:=isI x&&!isB x
def BadW (H:Hp) (x:V) (n:Nat):Prop:=(Thg H x/\isL H x=false/\isT H x=false)∨∃a ys,x=.ref a/\(H a=some (.lst ys)∨H a=some (.tup ys))/\(∀y∈ys,Thg H y)/\ys.length<=1000/\¬ (ys.length=n/\ys.all wh=true)
theorem BadW.same {H H':Hp}{x:V}{n:Nat}(h:BadW H x n) (s:Same H H'):BadW H' x n:=by
 rcases h with⟨h,h1,h2⟩ | ⟨a,ys,e,h1,h2,h3⟩
 ·obtain⟨e1,e2⟩:=kW h s
  exact .inl ⟨h.same s,e1.trans h1,e2.trans h2⟩
 ·exact .inr ⟨a,ys,e,h1.imp (s _ _) (s _ _),fun y hy=>(h2 y hy).same s,h3⟩
def ju:Sp:=fun vs H Q _=>∃x,vs=[x]/\Thg H x/\Q (.bl (wh x)) H
theorem ur {f:Addr}{fd:FuncData}(F:Fun K "is_whole" "is_whole" gv f fd) (B:Blt mg):FnOk P w K mg base CX0 1 f fd ["thing"] ju := by
 refine F.ok scWhole (fun vs H Q E h=>?_) (fun cdv A outer s H vs Q E hr h=>?_)
 ·obtain⟨x,rfl,_⟩:=h
  rfl
 ·obtain⟨x,rfl,hx,k⟩:=h
  have nd:=scWhole.nd
  obtain⟨t,ty,_,t2,t3,_⟩:=jW (K:=K) hx
  refine⟨_,(cJ (cS (ii (nU K "int" B (cC (pv 0) (cC (wj B) cE))) (hZ (oG (nU K "bool" B (cC (pv 0) (cC (uz B) cE)))))))),?_⟩
  refine⟨_,rfl,_,t,_,rfl,ty,t2,_,rfl,?_⟩
  unfold wh at k
  refine df (fun h=>?_) (fun h=>?_)
  ·rw[h] at k
   exact⟨_,rfl,_,t,_,rfl,ty,t3,_,rfl,k⟩
  ·have h:isI x=false:=by simpa using h
   rw[h] at k
   exact k
def jw:Sp:=fun vs H Q _=>∃(q:V) (a:Addr) (ss:List Str) (ts:List (Str × Str)) (ys:List V),vs=[q,.ref a]/\Web H q ss ts/\H a=some (.lst ys)/\(∀y∈ys,Thg H y)/\ys.length<=1000/\¬ (ys.length=ss.length/\ys.all wh=true)/\∀H',Same H H'->Q (.bl false) H'
theorem pz {f:Addr}{fd:FuncData}(F:Fun K "are_wholes" "are_wholes" fu f fd) (B:Blt mg) (cis_whole:Cal P w K mg base 1 "is_whole" ["thing"] ju):FnOk P w K mg base CX0 2 f fd ["web", "numbers"] jw := by
 refine F.ok scWholes (fun vs H Q E h=>?_) (fun cdv A outer s H vs Q E hr h=>?_)
 ·obtain⟨q,a,ss,ts,zs,rfl,_⟩:=h
  rfl
 ·obtain⟨q, n, ss, ts, ys, rfl, W, hn, hth, h1000, hbad, k⟩ := h
  have nd:=scWholes.nd
  have h60:=W.len
  obtain⟨q,a,b,rfl,hq,ha⟩:=Web.at W
  refine⟨_,(cJ (cS (ii (gn (dO hr.units) (eY K B (cC (pv 1) cE)) (eY K B (cC (cR (cX K hr.units) (pv 0) cK (fun _ _=>rfl)) cE)) (dg _)) (hZ (lK rfl B (cC (dN (cI fu) ["web","numbers"] ["number"] [] ["number"] rfl (dI K (pv 1)) (fun _ _ _ _ _=>(cT (i:=0) (show (["number"]:List Str).Nodup by decide) rfl (Or.inl rfl))) (fun _ _ _ _ _=>eM) (fun _ _ _ _ _=>(cP cis_whole (hr.mono (by decide)) rfl (cC (pv 0) cE)))) cE)))))),?_⟩
  refine⟨_,rfl,_,_,rfl,(SqA.len (K:=K) (H:=H) (a:=n) (.inl hn)),_,rfl,.tup (.of hq) rfl ⟨_,_,rfl,(SqA.len (K:=K) (H:=H) (a:=a) (.inr ha)),.sc rfl ⟨_,rfl,df (fun hlen=>?_) (fun h=>?_)⟩⟩⟩
  ·have hlen:ys.length=ss.length := by
      have:=V.int.inj (au hlen)
      rw[ac] at this
      omega
   refine⟨_,rfl,n,rfl,⟨_,.of hn⟩,?_⟩
   refine fg ys (fun D i acc σ' H'=>∃o,σ'=[o]/\acc=List.map V.bl ((ys.take i).map wh)/\Same H H'/\H D=none) fun D hD=>⟨?_,?_,?_,?_⟩
   ·exact⟨none,rfl,rfl,Same.new hD,hD⟩
   ·rintro i acc σ' H' _ ⟨o,rfl,_,sm,_⟩ _
    exact .of (sm _ _ hn)
   ·rintro i acc σ' H' x hx ⟨o,rfl,rfl,sm,hD0⟩ hacc
    have hil:=(ai.mp hx).1
    refine gK ?_
    refine⟨_,rfl,x,rfl,(hth x (av hx)).same sm,hacc,?_,_,rfl,?_,dR sm hD0,hD0⟩
    ·rw[ac,ac,aF];exact cN (by omega)
    ·rw[aA,hx,aj,aj];rfl
   ·rintro acc σ' H2 ⟨o,rfl,rfl,s2,hD0⟩ hacc
    rw[aB (ad _)] at hacc
    refine⟨D,_,rfl,hacc,?_⟩
    have e:(ys.map wh).all id=false:=by
     rw[List.all_map]
     exact Bool.eq_false_iff.mpr fun z=>hbad ⟨hlen,z⟩
    rw[e]
    exact k H2 s2
  ·exact k H (Same.refl H)
def jL:Sp:=fun vs H Q _=>∃(q:V) (a:Addr) (ss:List Str) (ts:List (Str × Str)) (ys:List V),vs=[q,.ref a]/\Web H q ss ts/\H a=some (.tup ys)/\(∀y∈ys,Thg H y)/\ys.length<=1000/\¬ (ys.length=ss.length/\ys.all wh=true)/\∀H',Same H H'->Q (.bl false) H'
theorem pA {f:Addr}{fd:FuncData}(F:Fun K "are_wholes" "are_wholes" fu f fd) (B:Blt mg) (cis_whole:Cal P w K mg base 1 "is_whole" ["thing"] ju):FnOk P w K mg base CX0 2 f fd ["web", "numbers"] jL := by
 refine F.ok scWholes (fun vs H Q E h=>?_) (fun cdv A outer s H vs Q E hr h=>?_)
 ·obtain⟨q,a,ss,ts,zs,rfl,_⟩:=h
  rfl
 ·obtain⟨q, n, ss, ts, ys, rfl, W, hn, hth, h1000, hbad, k⟩ := h
  have nd:=scWholes.nd
  have h60:=W.len
  obtain⟨q,a,b,rfl,hq,ha⟩:=Web.at W
  refine⟨_,(cJ (cS (ii (gn (dO hr.units) (eY K B (cC (pv 1) cE)) (eY K B (cC (cR (cX K hr.units) (pv 0) cK (fun _ _=>rfl)) cE)) (dg _)) (hZ (lK rfl B (cC (dN (cI fu) ["web","numbers"] ["number"] [] ["number"] rfl (ei K (pv 1)) (fun _ _ _ _ _=>(cT (i:=0) (show (["number"]:List Str).Nodup by decide) rfl (Or.inl rfl))) (fun _ _ _ _ _=>eM) (fun _ _ _ _ _=>(cP cis_whole (hr.mono (by decide)) rfl (cC (pv 0) cE)))) cE)))))),?_⟩
  refine⟨_,rfl,_,_,rfl,(SqA.len (K:=K) (H:=H) (a:=n) (.inr hn)),_,rfl,.tup (.of hq) rfl ⟨_,_,rfl,(SqA.len (K:=K) (H:=H) (a:=a) (.inr ha)),.sc rfl ⟨_,rfl,df (fun hlen=>?_) (fun h=>?_)⟩⟩⟩
  ·have hlen:ys.length=ss.length := by
      have:=V.int.inj (au hlen)
      rw[ac] at this
      omega
   refine⟨_,rfl,n,rfl,⟨_,.of hn⟩,?_⟩
   refine gi ys (fun D i acc σ' H'=>∃o,σ'=[o]/\acc=List.map V.bl ((ys.take i).map wh)/\Same H H'/\H D=none) fun D hD=>⟨?_,?_,?_,?_⟩
   ·exact⟨none,rfl,rfl,Same.new hD,hD⟩
   ·rintro i acc σ' H' _ ⟨o,rfl,_,sm,_⟩ _
    exact .of (sm _ _ hn)
   ·rintro i acc σ' H' x hx ⟨o,rfl,rfl,sm,hD0⟩ hacc
    have hil:=(ai.mp hx).1
    refine gK ?_
    refine⟨_,rfl,x,rfl,(hth x (av hx)).same sm,hacc,?_,_,rfl,?_,dR sm hD0,hD0⟩
    ·rw[ac,ac,aF];exact cN (by omega)
    ·rw[aA,hx,aj,aj];rfl
   ·rintro acc σ' H2 ⟨o,rfl,rfl,s2,hD0⟩ hacc
    rw[aB (ad _)] at hacc
    refine⟨D,_,rfl,hacc,?_⟩
    have e:(ys.map wh).all id=false:=by
     rw[List.all_map]
     exact Bool.eq_false_iff.mpr fun z=>hbad ⟨hlen,z⟩
    rw[e]
    exact k H2 s2
  ·exact k H (Same.refl H)
def jQ:Sp:=fun vs H Q E=>jw vs H Q E∨jL vs H Q E
theorem qx {f:Addr}{fd:FuncData}{k:Nat}{ps:List Str}(F:FnOk P w K mg base CX0 k f fd ps jw) (G:FnOk P w K mg base CX0 k f fd ps jL):FnOk P w K mg base CX0 k f fd ps jQ :=
 ⟨fun vs H Q E q=>q.elim (F.len vs H Q E) (G.len vs H Q E),fun A outer s H args us vs Q E hr he hb hv hs=>hs.elim (F.run A outer s H args us vs Q E hr he hb hv) (G.run A outer s H args us vs Q E hr he hb hv)⟩
abbrev uM:List Str:=["OrderError","NoWeb","NoText","Ring","NoOrder","NoWeights","NoHouse","NoDeed","NoUnit","Twice","Within","NoTie","Full","Apart","NoWant","TooMany","NoUndo","NoRedo","Clash","NoRow"]
abbrev qt:List Str:=["OrderError","Ring","NoWeights"]
def ErX (ec:Str->Addr) (H:Hp) (ss:List Str) (es:List (Nat × Nat)) (E:XK):Prop:=∀i e k ws r d H',MG.FirstR es i e->MG.To es e.1 k e.2->MG.Wy es e.1 k e.2 ws->Same H H'->H r=none->H d=none->H' r=some (.lst (List.map V.str ((e.1::ws.dropLast).map (nmA ss))))->H' d=some (.xd [("ring",.ref r)])->E (.ref (ec "Ring")) (some d) H'
theorem ErX.from {ec:Str->Addr}{H H1:Hp}{ss:List Str}{es:List (Nat × Nat)}{E:XK}(h:ErX ec H ss es E) (s:Same H H1):ErX ec H1 ss es E:=fun i e k ws r d H' a b c s' hr hd x y=>h i e k ws r d H' a b c (s.trans s') (dF s hr) (dF s hd) x y
theorem scInit:FnScope ["self","ring"] ["self","ring"] (cI gz):=⟨rfl,rfl,rfl,by decide +kernel,rfl,by decide +kernel,by decide +kernel⟩
theorem xj {f:Addr}{fd:FuncData}(F:Fun K "__init__" "Ring.__init__" gz f fd) (B:Blt mg):FnOk P w K mg base CX0 1 f fd ["self","ring"] (kD K "ring"):=by
 refine F.ok scInit (fun vs H Q E h=>?_) (fun cdv A outer s H vs Q E hr h=>?_)
 ·obtain⟨e,C,l,xs,rfl,_⟩:=h
  rfl
 ·obtain⟨e,C,l,xs,rfl,he,hl,Z,k⟩:=h
  have nd:=scInit.nd
  refine⟨_,(cJ (xt (pv 0) (sV K rfl B (cC (pv 1) cE)) rfl)),?_⟩
  refine⟨_,rfl,_,rfl,.seq (.inl (.of hl)) fun r hr1=>?_⟩
  refine⟨_,rfl,e,C,rfl,by rw[cH (cL he hr1)];exact he,Z,fun d hd hde=>?_⟩
  have hrd:r≠d:=fun z=>by rw[<- z,cF] at hd;cases hd
  rw[cH (Ne.symm hrd)] at hd
  exact k r d hr1 hd hrd
def ja (ec:Str->Addr):Sp:=fun vs H _ E=>∃(q:V) (ss:List Str) (es:List (Nat × Nat)),vs=[q]/\Web H q ss (es.map (nmP ss))/\dZ ss es/\(∃e∈es,MG.RingAt es e)/\ErX ec H ss es E
theorem wU {f:Addr}{fd:FuncData}{ec:Str -> Addr}(F:Fun K "refuse_ring" "refuse_ring" gY f fd) (B:Blt mg) (mRing:MkI P w K mg base 1 "Ring" (ec "Ring") ["self", "ring"] (kD K "ring")) (Z:XSet K (ec "Ring") "ring") (cring_of:Cal P w K mg base 6 "ring_of" ["web"] jH):FnOk P w K mg base (CX1 P w) 7 f fd ["web"] (ja ec) := by
 refine F.okX scRefuse (fun vs H Q E h=>?_) (fun cdv A outer s H vs Q E hr h=>?_)
 ·obtain⟨q,ss,es,rfl,_⟩:=h
  rfl
 ·obtain⟨q,ss,es,rfl,W,val,⟨e0,he0,hr0⟩,k⟩:=h
  have nd:=scRefuse.nd
  refine⟨_,(cG (cQ (i:=1) nd rfl (Or.inl rfl) (cP cring_of (hr.mono (by decide)) rfl (cC (pv 0) cE)))
   (cJ (dG (cU im (pv 1) dX (dg _)) (cJ (tE mRing (hr.mono (by decide)) rfl (cC (pv 1) cE))) dk))),?_⟩
  refine⟨_,rfl,q,ss,es,rfl,W,val,fun hno=>absurd hr0 (hno e0 he0),fun l i e kk ws H1 fr to1 wy s1 hl0 hl=>?_⟩
  refine⟨_,rfl,.non ⟨_,rfl,df (fun _=>?_) (fun h=>absurd rfl h)⟩⟩
  refine⟨_,rfl,(by show 1<=sizeLine;decide),fun e1 he1=>?_⟩
  exact pB hl Z he1 fun r d H2 s2 hr2 hd2 h3 h4=>k i e kk ws r d H2 fr to1 wy (s1.trans s2) (dF s1 hr2) (dF s1 hd2) h3 h4
def iV (ec:Str->Addr):Sp:=fun vs H _ E=>∃(q x:V) (ss:List Str) (es:List (Nat × Nat)),vs=[q,x]/\Web H q ss (es.map (nmP ss))/\dZ ss es/\(((∃e∈es,MG.RingAt es e)/\ErX ec H ss es E)∨(MG.Ris es/\BadW H x ss.length/\∀H',Same H H'->E (.ref (ec "NoWeights")) none H'))
theorem rR {f:Addr}{fd:FuncData}{ec:Str -> Addr}(F:Fun K "weights_by_thing" "weights_by_thing" ik f fd) (B:Blt mg) (Zz:mg "zip"=none) (Er:Errs K mg base ec uM qt) (crefuse_ring:Cal P w K mg base 7 "refuse_ring" ["web"] gX) (xrefuse_ring:CalX P w K mg base 7 "refuse_ring" ["web"] (ja ec)) (care_wholes:Cal P w K mg base 2 "are_wholes" ["web", "numbers"] (jQ)):FnOk P w K mg base (CX1 P w) 8 f fd ["web", "weights"] (iV ec) := by
 refine F.okX scWeigh (fun vs H Q E h=>?_) (fun cdv A outer s H vs Q E hr h=>?_)
 ·obtain⟨q,x,ss,es,rfl,_⟩:=h
  rfl
 ·obtain⟨q, x, ss, es, rfl, W, val, h⟩ := h
  have nd:=scWeigh.nd
  rcases h with⟨ring,k⟩ | ⟨ris,bad,k⟩
  ·refine⟨_,(cG (dQ (jc xrefuse_ring (hr.mono (by decide)) rfl (cC (pv 0) cE)))
   kb),?_⟩
   exact⟨_,rfl,q,ss,es,rfl,W,val,ring,k⟩
  ·refine⟨_, (cG (dQ (cP crefuse_ring (hr.mono (by decide)) rfl (cC (pv 0) cE)))
   (cG (dG (PW.pt (nR (ib (gr (om K "list" "tuple" B (cC (pv 1) (cC (d8 (cC (pc B) (cC (mY B) cE))) cE))))) (lI (ib (gr (cP care_wholes (hr.mono (by decide)) rfl (cC (pv 0) (cC (pv 1) cE)))))))) (cJ (tY Er (by decide) (by decide) rfl (cC fm cE))) dk)
   (cJ (cS (p8 K rfl hr.units B Zz (cC (cR (cX K hr.units) (pv 0) cK (fun _ _=>rfl)) (cC (pv 1) cE))))))),?_⟩
   refine⟨_,rfl,q,ss,es,rfl,W,val,ris,fun H1 s1=>?_⟩
   refine⟨_,rfl,(by show 2<=sizeLine;decide),fun tp htp=>?_⟩
   have s0:=Same.new (o:=.tup [V.ty "list",V.ty "tuple"]) htp
   have hT:Thg H x:=by
    rcases bad with⟨h,_⟩ | ⟨a,ys,rfl,h,_⟩
    ·exact h
    ·rcases h with h | h
     ·exact .lst h
     ·exact .tup h
   obtain⟨t,ty,_,_,_,t4,t5⟩:=jW (K:=K) ((hT.same s1).same s0)
   have kl:=pf t4 t5
   refine⟨_,tp,t,_,rfl,cF,ty,kl,_,rfl,?_⟩
   have s01:=s1.trans s0
   obtain⟨e1,e2⟩:=kW hT s01
   rw[e1,e2]
   generalize upd H1 tp (.tup [V.ty "list",V.ty "tuple"])=H2 at s01 ⊢
   rcases bad with⟨_,b1,b2⟩ | ⟨a,ys,rfl,hys,hth,h1000,hbad⟩
   ·rw[b1,b2]
    refine df (fun _=>?_) (fun h=>absurd rfl h)
    exact df (fun _=>⟨(by show 1<=sizeLine;decide),k _ s01⟩) (fun h=>absurd rfl h)
   ·have eLT:(isL H (.ref a)||isT H (.ref a))=true:=by
       rcases hys with h | h
       ·rw[iR h];rfl
       ·rw[iM h,Bool.or_true]
    rw[eLT]
    refine gM ?_
    have hth':∀y∈ys,Thg H2 y:=fun y hy=>(hth y hy).same s01
    have fin:∀H3,Same H2 H3->_:=fun H3 s3=>k H3 (s01.trans s3)
    rcases hys with hys | hys
    ·exact⟨_,rfl,_,rfl,.inl ⟨q,a,ss,_,ys,rfl,W.same s01,s01 _ _ hys,hth',h1000,hbad,fun H3 s3=>⟨_,rfl,df (fun _=>⟨(by show 1<=sizeLine;decide),fin H3 s3⟩) (fun h=>absurd rfl h)⟩⟩⟩
    ·exact⟨_,rfl,_,rfl,.inr ⟨q,a,ss,_,ys,rfl,W.same s01,s01 _ _ hys,hth',h1000,hbad,fun H3 s3=>⟨_,rfl,df (fun _=>⟨(by show 1<=sizeLine;decide),fin H3 s3⟩) (fun h=>absurd rfl h)⟩⟩⟩
theorem lT {f:Addr}{fd:FuncData}{ec:Str->Addr}(F:Fun K "depths" "depths" gZ f fd) (B:Blt mg) (xweights_by_thing:CalX P w K mg base 8 "weights_by_thing" ["web","weights"] (iV ec)) (cdepths_by_thing:Cal P w K mg base 9 "depths_by_thing" ["web","weighed"] iH) (cby_places:Cal P w K mg base 1 "by_places" ["web","found"] jR):FnOk P w K mg base (CX1 P w) 10 f fd ["web","weights"] (iV ec):=by
 refine F.okX scDepths (fun vs H Q E h=>?_) (fun cdv A outer s H vs Q E hr h=>?_)
 ·obtain⟨q,x,ss,es,rfl,_⟩:=h
  rfl
 ·obtain⟨q,x,ss,es,rfl,h⟩:=h
  have nd:=scDepths.nd
  refine⟨_,(cJ (cS (cP cby_places (hr.mono (by decide)) rfl (cC (pv 0) (cC (cP cdepths_by_thing (hr.mono (by decide)) rfl (cC (pv 0) (cC (jc xweights_by_thing (hr.mono (by decide)) rfl (cC (pv 0) (cC (pv 1) cE))) cE))) cE))))),?_⟩
  exact⟨_,rfl,_,rfl,_,rfl,_,rfl,q,x,ss,es,rfl,h⟩
theorem kP {f Pt:Addr}{fd:FuncData}{ec:Str -> Addr}(F:Fun K "deepest" "deepest" gt f fd) (B:Blt mg) (xweights_by_thing:CalX P w K mg base 8 "weights_by_thing" ["web", "weights"] (iV ec)) (cdepths_by_thing:Cal P w K mg base 9 "depths_by_thing" ["web", "weighed"] iH):FnOk P w K mg base (CX1 P w) 10 f fd ["web", "weights"] (iV ec) := by
 refine F.okX scDeepest (fun vs H Q E h=>?_) (fun cdv A outer s H vs Q E hr h=>?_)
 ·obtain⟨q,x,ss,es,rfl,_⟩:=h
  rfl
 ·obtain⟨q,x,ss,es,rfl,h⟩:=h
  have nd:=scDeepest.nd
  refine⟨_,(cG (cQ (i:=2) nd rfl (Or.inl rfl) (cP cdepths_by_thing (hr.mono (by decide)) rfl (cC (pv 0) (cC (jc xweights_by_thing (hr.mono (by decide)) rfl (cC (pv 0) (cC (pv 1) cE))) cE))))
   kb),?_⟩
  exact⟨_,rfl,_,rfl,_,rfl,q,x,ss,es,rfl,h⟩
theorem qV {f:Addr}{fd:FuncData}{ec:Str->Addr}(F:Fun K "layers" "layers" gp f fd) (B:Blt mg) (xdepths:CalX P w K mg base 10 "depths" ["web","weights"] (iV ec)) (cones:Cal P w K mg base 1 "ones" ["web"] jb):FnOk P w K mg base (CX1 P w) 11 f fd ["web"] (ja ec):=by
 refine F.okX scLayers (fun vs H Q E h=>?_) (fun cdv A outer s H vs Q E hr h=>?_)
 ·obtain⟨q,ss,es,rfl,_⟩:=h
  rfl
 ·obtain⟨q,ss,es,rfl,W,val,ring,k⟩:=h
  have nd:=scLayers.nd
  refine⟨_,(cJ (cS (dN (cI gp) ["web"] ["depth"] [] ["depth"] rfl (dI K (jc xdepths (hr.mono (by decide)) rfl (cC (pv 0) (cC (cP cones (hr.mono (by decide)) rfl (cC (pv 0) cE)) cE)))) (fun _ _ _ _ _=>(cT (i:=0) (show (["depth"]:List Str).Nodup by decide) rfl (Or.inl rfl))) (fun _ _ _ _ _=>eM) (fun _ _ _ _ _=>(cW jU (pv 0) cK))))),?_⟩
  exact⟨_,rfl,_,rfl,q,ss,_,rfl,W,fun lo H1 s1 _ _=>⟨q,.ref lo,ss,es,rfl,W.same s1,val,.inl ⟨ring,k.from s1⟩⟩⟩
theorem pI {f:Addr}{fd:FuncData}{ec:Str -> Addr}(F:Fun K "longest" "longest" gw f fd) (B:Blt mg) (xdeepest:CalX P w K mg base 10 "deepest" ["web", "weights"] (iV ec)) (cones:Cal P w K mg base 1 "ones" ["web"] jb):FnOk P w K mg base (CX1 P w) 11 f fd ["web"] (ja ec) := by
 refine F.okX scLongest (fun vs H Q E h=>?_) (fun cdv A outer s H vs Q E hr h=>?_)
 ·obtain⟨q,ss,es,rfl,_⟩:=h
  rfl
 ·obtain⟨q,ss,es,rfl,W,val,ring,k⟩:=h
  have nd:=scLongest.nd
  refine⟨_,(cG (cQ (i:=1) nd rfl (Or.inl rfl) (jc xdeepest (hr.mono (by decide)) rfl (cC (pv 0) (cC (cP cones (hr.mono (by decide)) rfl (cC (pv 0) cE)) cE))))
   kb),?_⟩
  exact⟨_,rfl,_,rfl,q,ss,_,rfl,W,fun lo H1 s1 _ _=>⟨q,.ref lo,ss,es,rfl,W.same s1,val,.inl ⟨ring,k.from s1⟩⟩⟩
theorem pX {ss:List Str}{es:List (Nat × Nat)}(val:dZ ss es):(∃e∈es,MG.RingAt es e)∨MG.Ris es:=by
 by_cases q:∃e∈es,MG.RingAt es e
 ·exact .inl q
 ·exact .inr (MG.ris_of (fun e he hr=>q ⟨e,he,hr⟩) val)
def lO (ec:Str->Addr) (Pt:Addr):Sp:=fun vs H Q E=>∃(q x:V) (ss:List Str) (es:List (Nat × Nat)),vs=[q,x]/\Web H q ss (es.map (nmP ss))/\dZ ss es/\TbK Pt H/\((∃zs,IsW H x ss.length zs)∨BadW H x ss.length) /\
 (MG.Ris es->(∃zs,IsW H x ss.length zs)->∀v H',SameK Pt H H'->TbK Pt H'->Q v H')/\(MG.Ris es->BadW H x ss.length->∀H',Same H H'->E (.ref (ec "NoWeights")) none H')/\((∃e∈es,MG.RingAt es e)->ErX ec H ss es E)
def mh (ec:Str->Addr) (Pt:Addr):Sp:=fun vs H Q E=>∃(q:V) (ss:List Str) (es:List (Nat × Nat)),vs=[q]/\Web H q ss (es.map (nmP ss))/\dZ ss es/\TbK Pt H /\
 (MG.Ris es->∀v H',SameK Pt H H'->TbK Pt H'->Q v H')/\((∃e∈es,MG.RingAt es e)->ErX ec H ss es E)
theorem tS {f Pt:Addr}{fd:FuncData}{ec:Str -> Addr}{k:Nat}{sp:Sp}(F:FnOk P w K mg base CX0 k f fd ["web", "weights"] sp) (G:FnOk P w K mg base (CX1 P w) k f fd ["web", "weights"] (iV ec))
    (hs:∀vs H Q E (q x:V) (ss:List Str) (es:List (Nat × Nat)) (zs:List Int),vs=[q,x]->Web H q ss (es.map (nmP ss))->dZ ss es->TbK Pt H->MG.Ris es->IsW H x ss.length zs->(∀v H',SameK Pt H H'->TbK Pt H'->Q v H')->sp vs H Q E):FnOk P w K mg base (CX1 P w) k f fd ["web","weights"] (lO ec Pt) :=
 ⟨fun vs H Q E ⟨_,_,_,_,e,_⟩=>by rw[e];rfl,fun A outer s H args us vs Q E hr he hb hv ⟨q,x,ss,es,e,W,val,tb,hx,k1,k2,k3⟩=>by
  rcases pX val with hr' | hr'
  ·exact G.run A outer s H args us vs Q E hr he hb hv ⟨q,x,ss,es,e,W,val,.inl ⟨hr',k3 hr'⟩⟩
  ·rcases hx with⟨zs,hx⟩ | hx
   ·exact F.lift.run A outer s H args us vs Q E hr he hb hv (hs vs H Q E q x ss es zs e W val tb hr' hx (k1 hr' ⟨zs,hx⟩))
   ·exact G.run A outer s H args us vs Q E hr he hb hv ⟨q,x,ss,es,e,W,val,.inr ⟨hr',hx,k2 hr' hx⟩⟩⟩
theorem sk {f Pt:Addr}{fd:FuncData}{ec:Str->Addr}{k:Nat}{sp:Sp}(F:FnOk P w K mg base CX0 k f fd ["web"] sp) (G:FnOk P w K mg base (CX1 P w) k f fd ["web"] (ja ec))
    (hs:∀vs H Q E (q:V) (ss:List Str) (es:List (Nat × Nat)),vs=[q]->Web H q ss (es.map (nmP ss))->dZ ss es->TbK Pt H->MG.Ris es->(∀v H',SameK Pt H H'->TbK Pt H'->Q v H')->sp vs H Q E):FnOk P w K mg base (CX1 P w) k f fd ["web"] (mh ec Pt) :=
 ⟨fun vs H Q E ⟨_,_,_,e,_⟩=>by rw[e];rfl,fun A outer s H args us vs Q E hr he hb hv ⟨q,ss,es,e,W,val,tb,k1,k3⟩=>by
  rcases pX val with hr' | hr'
  ·exact G.run A outer s H args us vs Q E hr he hb hv ⟨q,ss,es,e,W,val,hr',k3 hr'⟩
  ·exact F.lift.run A outer s H args us vs Q E hr he hb hv (hs vs H Q E q ss es e W val tb hr' (k1 hr'))⟩
theorem tW {vs:List V}{H:Hp}{Q:VK}{E:XK}{Pt:Addr}(q x:V) (ss:List Str) (es:List (Nat × Nat)) (zs:List Int) (e:vs=[q,x]) (W:Web H q ss (es.map (nmP ss))) (val:dZ ss es) (tb:TbK Pt H) (ris:MG.Ris es) (hx:IsW H x ss.length zs) (k:∀v H',SameK Pt H H'->TbK Pt H'->Q v H'):jM vs H Q E :=
 ⟨q,x,ss,es,zs,e,W,val,ris,hx,fun l D H' _ s _ _=>k _ H' (SameK.of s) (tb.same s)⟩
theorem qy {vs:List V}{H:Hp}{Q:VK}{E:XK}{Pt:Addr}(q x:V) (ss:List Str) (es:List (Nat × Nat)) (zs:List Int) (e:vs=[q,x]) (W:Web H q ss (es.map (nmP ss))) (val:dZ ss es) (tb:TbK Pt H) (ris:MG.Ris es) (hx:IsW H x ss.length zs) (k:∀v H',SameK Pt H H'->TbK Pt H'->Q v H'):iZ Pt vs H Q E :=
 let ⟨D,hD⟩:=MG.depth_ex ris (wOf zs)
 ⟨q,x,ss,es,zs,D,e,W,val,ris,hx,hD,tb,fun _ H' s t=>k _ H' s t,fun _ _ _ _ _ H' s _ _ _ _ _ _ _ _ _ _ t=>k _ H' s t⟩
theorem uy {vs:List V}{H:Hp}{Q:VK}{E:XK}{Pt:Addr}(q:V) (ss:List Str) (es:List (Nat × Nat)) (e:vs=[q]) (W:Web H q ss (es.map (nmP ss))) (val:dZ ss es) (tb:TbK Pt H) (ris:MG.Ris es) (k:∀v H',SameK Pt H H'->TbK Pt H'->Q v H'):oP vs H Q E :=
 ⟨q,ss,es,e,W,val,ris,fun v H' s=>k v H' (SameK.of s) (tb.same s)⟩
theorem qU {vs:List V}{H:Hp}{Q:VK}{E:XK}{Pt:Addr}(q:V) (ss:List Str) (es:List (Nat × Nat)) (e:vs=[q]) (W:Web H q ss (es.map (nmP ss))) (val:dZ ss es) (tb:TbK Pt H) (ris:MG.Ris es) (k:∀v H',SameK Pt H H'->TbK Pt H'->Q v H'):nH Pt vs H Q E :=
 ⟨q,ss,es,e,W,val,ris,tb,k⟩
def jg (Pt:Addr):Sp:=fun vs H Q _=>∃(wd:Str) (q x:V) (ss:List Str) (es:List (Nat × Nat)),vs=[.str wd,q,x]/\Web H q ss (es.map (nmP ss))/\dZ ss es/\TbK Pt H/\((∃zs,IsW H x ss.length zs)∨(BadW H x ss.length/\wd≠"layers"/\wd≠"longest")) /\
 (MG.Ris es->(∃zs,IsW H x ss.length zs)->∀H',SameK Pt H H'->TbK Pt H'->Q .non H')/\(MG.Ris es->BadW H x ss.length->∀H',Same H H'->Q (.str "weights") H') /\
 ((∃e∈es,MG.RingAt es e)->∀i e k ws r H',MG.FirstR es i e->MG.To es e.1 k e.2->MG.Wy es e.1 k e.2 ws->Same H H'->H r=none->H' r=some (.lst (List.map V.str ((e.1::ws.dropLast).map (nmA ss))))->Q (.ref r) H')
theorem scHeard:FnScope ["_law_word","_law_web_here","_law_weights","_law_caught","e","_law_others"] ["_law_word","_law_web_here","_law_weights"] (cI ji):=⟨rfl,rfl,rfl,by decide +kernel,rfl,by decide +kernel,by decide +kernel⟩
theorem vt {f Pt:Addr}{fd:FuncData}{ec:Str -> Addr}(F:Fun K "_law_heard" "_law_heard" ji f fd) (B:Blt mg) (Er:Errs K mg base ec uM qt) (G:XGet K (ec "Ring") "ring") (xlayers:CalX P w K mg base 11 "layers" ["web"] (mh ec Pt)) (xlongest:CalX P w K mg base 11 "longest" ["web"] (mh ec Pt)) (xdepths:CalX P w K mg base 10 "depths" ["web", "weights"] (lO ec Pt)) (xdeepest:CalX P w K mg base 10 "deepest" ["web", "weights"] (lO ec Pt)):FnOk P w K mg base CX0 12 f fd ["_law_word", "_law_web_here", "_law_weights"] (jg Pt) := by
 refine F.ok scHeard (fun vs H Q E h=>?_) (fun cdv A outer s H vs Q E hr h=>?_)
 ·obtain⟨wd,q,x,ss,es,rfl,_⟩:=h
  rfl
 ·obtain⟨wd, q, x, ss, es, rfl, W, val, tb, hx, kn, kw, kr⟩ := h
  have nd:=scHeard.nd
  obtain⟨bmD,xD,hDb,_⟩:=Er.at_ "OrderError" (by decide)
  obtain⟨bmN,xN,_,hin⟩:=Er.at_ "Ring" (by decide)
  obtain⟨bmW,xW,_,hinW⟩:=Er.at_ "NoWeights" (by decide)
  have hx':(∃zs,IsW H x ss.length zs)∨BadW H x ss.length:=hx.imp id (fun h=>h.1)
  refine⟨_,(cG (cQ (i:=3) nd rfl (Or.inl rfl) dX)
   (cG (wM (i:=4) (fun _ _ _=>(cJ (dG (cU (dO hr.units) (pv 0) fm (dg _)) (cJ (dQ (kj xlayers (hr.mono (by decide)) rfl (cC (pv 1) cE)))) (cJ (dG (cU (dO hr.units) (pv 0) fm (dg _)) (cJ (dQ (kj xlongest (hr.mono (by decide)) rfl (cC (pv 1) cE)))) (cJ (dG (cU (dO hr.units) (pv 0) fm (dg _)) (cJ (dQ (kj xdepths (hr.mono (by decide)) rfl (cC (pv 1) (cC (pv 2) cE))))) (cJ (dQ (kj xdeepest (hr.mono (by decide)) rfl (cC (pv 1) (cC (pv 2) cE)))))))))))) rfl rfl rfl (Er.b "OrderError" (by decide)) xD hDb nd rfl rfl (fun _ _=>(cJ (cQ (i:=3) nd rfl (Or.inl rfl) (pv 4)))))
   (cG (dG (cU kh (pv 3) dX (dg _)) (cJ (cS dX)) dk)
   (cG (cQ (i:=5) nd rfl (Or.inl rfl) (dC (cC (fb K B (cC (pv 3) (cC (dP (v:=.ref (ec "Apart")) rfl (Er.b "Apart" (by decide)) rfl) cE))) (cC (fb K B (cC (pv 3) (cC (dP (v:=.ref (ec "Clash")) rfl (Er.b "Clash" (by decide)) rfl) cE))) (cC (fb K B (cC (pv 3) (cC (dP (v:=.ref (ec "Full")) rfl (Er.b "Full" (by decide)) rfl) cE))) cE)))))
   (cG (cQ (i:=5) nd rfl (Or.inl rfl) (cW dh (pv 5) (dC (cC (fb K B (cC (pv 3) (cC (dP (v:=.ref (ec "NoDeed")) rfl (Er.b "NoDeed" (by decide)) rfl) cE))) (cC (fb K B (cC (pv 3) (cC (dP (v:=.ref (ec "NoHouse")) rfl (Er.b "NoHouse" (by decide)) rfl) cE))) (cC (fb K B (cC (pv 3) (cC (dP (v:=.ref (ec "NoOrder")) rfl (Er.b "NoOrder" (by decide)) rfl) cE))) cE))))))
   (cG (cQ (i:=5) nd rfl (Or.inl rfl) (cW dh (pv 5) (dC (cC (fb K B (cC (pv 3) (cC (dP (v:=.ref (ec "NoRedo")) rfl (Er.b "NoRedo" (by decide)) rfl) cE))) (cC (fb K B (cC (pv 3) (cC (dP (v:=.ref (ec "NoRow")) rfl (Er.b "NoRow" (by decide)) rfl) cE))) (cC (fb K B (cC (pv 3) (cC (dP (v:=.ref (ec "NoUndo")) rfl (Er.b "NoUndo" (by decide)) rfl) cE))) cE))))))
   (cG (cQ (i:=5) nd rfl (Or.inl rfl) (cW dh (pv 5) (dC (cC (fb K B (cC (pv 3) (cC (dP (v:=.ref (ec "NoText")) rfl (Er.b "NoText" (by decide)) rfl) cE))) (cC (fb K B (cC (pv 3) (cC (dP (v:=.ref (ec "NoTie")) rfl (Er.b "NoTie" (by decide)) rfl) cE))) (cC (fb K B (cC (pv 3) (cC (dP (v:=.ref (ec "NoUnit")) rfl (Er.b "NoUnit" (by decide)) rfl) cE))) cE))))))
   (cG (cQ (i:=5) nd rfl (Or.inl rfl) (cW dh (pv 5) (dC (cC (fb K B (cC (pv 3) (cC (dP (v:=.ref (ec "NoWant")) rfl (Er.b "NoWant" (by decide)) rfl) cE))) (cC (fb K B (cC (pv 3) (cC (dP (v:=.ref (ec "NoWeb")) rfl (Er.b "NoWeb" (by decide)) rfl) cE))) (cC (fb K B (cC (pv 3) (cC (dP (v:=.ref (ec "TooMany")) rfl (Er.b "TooMany" (by decide)) rfl) cE))) cE))))))
   (cG (cQ (i:=5) nd rfl (Or.inl rfl) (cW dh (pv 5) (dC (cC (fb K B (cC (pv 3) (cC (dP (v:=.ref (ec "Twice")) rfl (Er.b "Twice" (by decide)) rfl) cE))) (cC (fb K B (cC (pv 3) (cC (dP (v:=.ref (ec "Within")) rfl (Er.b "Within" (by decide)) rfl) cE))) (cC (oG (fb K B (cC (pv 3) (cC (i9 (v:=.ty "ValueError") rfl Er.nv oQ rfl) cE)))) cE))))))
   (cG (dG (PW.pt (nR (cU (jk K hr.units) jF (pv 5) (by with_unfolding_all rfl)) (lI (cU (dO hr.units) (fb K B (cC (pv 3) (cC (dP (v:=.ref (ec "Ring")) rfl (Er.b "Ring" (by decide)) rfl) cE))) (fb K B (cC (pv 3) (cC (dP (v:=.ref (ec "NoWeights")) rfl (Er.b "NoWeights" (by decide)) rfl) cE))) (dg _))))) (cJ (cS fm)) dk)
   (cG (dG (gr (fb K B (cC (pv 3) (cC (dP (v:=.ref (ec "NoWeights")) rfl (Er.b "NoWeights" (by decide)) rfl) cE)))) (cJ (cS fm)) dk)
   (cJ (cS (xo (pv 3) rfl)))))))))))))),?_⟩
  have gL:wd="layers"->∃zs,IsW H x ss.length zs:=fun e=>hx.elim id fun h=>absurd e h.2.1
  have gG:wd="longest"->∃zs,IsW H x ss.length zs:=fun e=>hx.elim id fun h=>absurd e h.2.2
  refine⟨_,rfl,.sc rfl ⟨_,rfl,df (fun hw=>⟨_,rfl,⟨rfl,q,ss,es,rfl,W,val,tb,fun ris v H1 s1 t1=>⟨_,rfl,.non ⟨_,rfl,df (fun _=>kn ris (gL (V.str.inj (au hw))) H1 s1 t1) (fun h=>absurd rfl h)⟩⟩,fun ring i e kk ws r d H1 fr to1 wy s1 hr0 hd0 h3 h4=>⟨ec "Ring",bmN,rfl,xN,hin,fun a hna=>?_⟩⟩⟩) (fun _=>⟨_,rfl,.sc rfl ⟨_,rfl,df (fun hw=>⟨_,rfl,⟨rfl,q,ss,es,rfl,W,val,tb,fun ris v H1 s1 t1=>⟨_,rfl,.non ⟨_,rfl,df (fun _=>kn ris (gG (V.str.inj (au hw))) H1 s1 t1) (fun h=>absurd rfl h)⟩⟩,fun ring i e kk ws r d H1 fr to1 wy s1 hr0 hd0 h3 h4=>⟨ec "Ring",bmN,rfl,xN,hin,fun a hna=>?_⟩⟩⟩) (fun _=>⟨_,rfl,.sc rfl ⟨_,rfl,df (fun hw=>⟨_,rfl,_,rfl,⟨rfl,q,x,ss,es,rfl,W,val,tb,hx',fun ris good v H1 s1 t1=>⟨_,rfl,.non ⟨_,rfl,df (fun _=>kn ris good H1 s1 t1) (fun h=>absurd rfl h)⟩⟩,fun ris bad H1 s1=>⟨ec "NoWeights",bmW,rfl,xW,hinW,fun a hna=>?_⟩,fun ring i e kk ws r d H1 fr to1 wy s1 hr0 hd0 h3 h4=>⟨ec "Ring",bmN,rfl,xN,hin,fun a hna=>?_⟩⟩⟩) (fun _=>⟨_,rfl,_,rfl,⟨rfl,q,x,ss,es,rfl,W,val,tb,hx',fun ris good v H1 s1 t1=>⟨_,rfl,.non ⟨_,rfl,df (fun _=>kn ris good H1 s1 t1) (fun h=>absurd rfl h)⟩⟩,fun ris bad H1 s1=>⟨ec "NoWeights",bmW,rfl,xW,hinW,fun a hna=>?_⟩,fun ring i e kk ws r d H1 fr to1 wy s1 hr0 hd0 h3 h4=>⟨ec "Ring",bmN,rfl,xN,hin,fun a hna=>?_⟩⟩⟩)⟩⟩)⟩⟩)⟩⟩
  all_goals first
   | (have _:=bad
      have fN:=Er.f "NoWeights" (by decide)
      have s2:=Same.new (o:=gu a (ec "NoWeights") none) hna
      have ha2:upd H1 a (gu a (ec "NoWeights") none) a=some (gu a (ec "NoWeights") none):=cF
      have sA:=s1.trans s2
      generalize upd H1 a (gu a (ec "NoWeights") none)=H2 at ha2 sA ⊢
      refine⟨_,rfl,?_⟩
      refine⟨_,rfl,.non ⟨_,rfl,df (fun h=>absurd h (by simp)) (fun _=>?_)⟩⟩
      have u0:=Same.refl H2
      refine⟨_,rfl,a,ec "NoWeights",none,_,.ref (ec "Apart"),false,rfl,u0 _ _ ha2,fN,fun v hv=>hv,(Er.kit "NoWeights" (by decide) (by decide) "Apart" (by decide)).trans (by decide),?_⟩
      refine⟨_,rfl,a,ec "NoWeights",none,_,.ref (ec "Clash"),false,rfl,u0 _ _ ha2,fN,fun v hv=>hv,(Er.kit "NoWeights" (by decide) (by decide) "Clash" (by decide)).trans (by decide),?_⟩
      refine⟨_,rfl,a,ec "NoWeights",none,_,.ref (ec "Full"),false,rfl,u0 _ _ ha2,fN,fun v hv=>hv,(Er.kit "NoWeights" (by decide) (by decide) "Full" (by decide)).trans (by decide),?_⟩
      refine⟨(by show 3<=sizeLine;decide),fun l0 g0=>?_⟩
      have u1:=u0.trans (Same.new (o:=.lst [V.bl false,V.bl false,V.bl false]) g0)
      have eo0:upd H2 l0 (.lst [V.bl false,V.bl false,V.bl false]) l0=some (.lst (List.replicate 3 (V.bl false))):=cF
      generalize upd H2 l0 (.lst [V.bl false,V.bl false,V.bl false])=HA0 at u1 eo0 ⊢
      refine⟨_,rfl,_,rfl,a,ec "NoWeights",none,_,.ref (ec "NoDeed"),false,rfl,u1 _ _ ha2,fN,fun v hv=>hv,(Er.kit "NoWeights" (by decide) (by decide) "NoDeed" (by decide)).trans (by decide),?_⟩
      refine⟨_,rfl,a,ec "NoWeights",none,_,.ref (ec "NoHouse"),false,rfl,u1 _ _ ha2,fN,fun v hv=>hv,(Er.kit "NoWeights" (by decide) (by decide) "NoHouse" (by decide)).trans (by decide),?_⟩
      refine⟨_,rfl,a,ec "NoWeights",none,_,.ref (ec "NoOrder"),false,rfl,u1 _ _ ha2,fN,fun v hv=>hv,(Er.kit "NoWeights" (by decide) (by decide) "NoOrder" (by decide)).trans (by decide),?_⟩
      refine⟨(by show 3<=sizeLine;decide),fun l1 g1=>?_⟩
      have u3:=u1.trans (Same.new (o:=.lst [V.bl false,V.bl false,V.bl false]) g1)
      have w1:=(Same.new (o:=.lst [V.bl false,V.bl false,V.bl false]) g1) _ _ eo0
      have x1:upd HA0 l1 (.lst [V.bl false,V.bl false,V.bl false]) l1=some (.lst [V.bl false,V.bl false,V.bl false]):=cF
      generalize upd HA0 l1 (.lst [V.bl false,V.bl false,V.bl false])=HB1 at u3 w1 x1 ⊢
      refine .lst w1 x1 (by show 6<=sizeLine;decide) fun m1 k1_=>?_
      have u4:=u3.trans (Same.new (o:=.lst (List.replicate 3 (V.bl false)++[V.bl false,V.bl false,V.bl false])) k1_)
      have eo1:upd HB1 m1 (.lst (List.replicate 3 (V.bl false)++[V.bl false,V.bl false,V.bl false])) m1=some (.lst (List.replicate 6 (V.bl false))):=cF
      generalize upd HB1 m1 (.lst (List.replicate 3 (V.bl false)++[V.bl false,V.bl false,V.bl false]))=HA1 at u4 eo1 ⊢
      refine⟨_,rfl,_,rfl,a,ec "NoWeights",none,_,.ref (ec "NoRedo"),false,rfl,u4 _ _ ha2,fN,fun v hv=>hv,(Er.kit "NoWeights" (by decide) (by decide) "NoRedo" (by decide)).trans (by decide),?_⟩
      refine⟨_,rfl,a,ec "NoWeights",none,_,.ref (ec "NoRow"),false,rfl,u4 _ _ ha2,fN,fun v hv=>hv,(Er.kit "NoWeights" (by decide) (by decide) "NoRow" (by decide)).trans (by decide),?_⟩
      refine⟨_,rfl,a,ec "NoWeights",none,_,.ref (ec "NoUndo"),false,rfl,u4 _ _ ha2,fN,fun v hv=>hv,(Er.kit "NoWeights" (by decide) (by decide) "NoUndo" (by decide)).trans (by decide),?_⟩
      refine⟨(by show 3<=sizeLine;decide),fun l2 g2=>?_⟩
      have u5:=u4.trans (Same.new (o:=.lst [V.bl false,V.bl false,V.bl false]) g2)
      have w2:=(Same.new (o:=.lst [V.bl false,V.bl false,V.bl false]) g2) _ _ eo1
      have x2:upd HA1 l2 (.lst [V.bl false,V.bl false,V.bl false]) l2=some (.lst [V.bl false,V.bl false,V.bl false]):=cF
      generalize upd HA1 l2 (.lst [V.bl false,V.bl false,V.bl false])=HB2 at u5 w2 x2 ⊢
      refine .lst w2 x2 (by show 9<=sizeLine;decide) fun m2 k2_=>?_
      have u6:=u5.trans (Same.new (o:=.lst (List.replicate 6 (V.bl false)++[V.bl false,V.bl false,V.bl false])) k2_)
      have eo2:upd HB2 m2 (.lst (List.replicate 6 (V.bl false)++[V.bl false,V.bl false,V.bl false])) m2=some (.lst (List.replicate 9 (V.bl false))):=cF
      generalize upd HB2 m2 (.lst (List.replicate 6 (V.bl false)++[V.bl false,V.bl false,V.bl false]))=HA2 at u6 eo2 ⊢
      refine⟨_,rfl,_,rfl,a,ec "NoWeights",none,_,.ref (ec "NoText"),false,rfl,u6 _ _ ha2,fN,fun v hv=>hv,(Er.kit "NoWeights" (by decide) (by decide) "NoText" (by decide)).trans (by decide),?_⟩
      refine⟨_,rfl,a,ec "NoWeights",none,_,.ref (ec "NoTie"),false,rfl,u6 _ _ ha2,fN,fun v hv=>hv,(Er.kit "NoWeights" (by decide) (by decide) "NoTie" (by decide)).trans (by decide),?_⟩
      refine⟨_,rfl,a,ec "NoWeights",none,_,.ref (ec "NoUnit"),false,rfl,u6 _ _ ha2,fN,fun v hv=>hv,(Er.kit "NoWeights" (by decide) (by decide) "NoUnit" (by decide)).trans (by decide),?_⟩
      refine⟨(by show 3<=sizeLine;decide),fun l3 g3=>?_⟩
      have u7:=u6.trans (Same.new (o:=.lst [V.bl false,V.bl false,V.bl false]) g3)
      have w3:=(Same.new (o:=.lst [V.bl false,V.bl false,V.bl false]) g3) _ _ eo2
      have x3:upd HA2 l3 (.lst [V.bl false,V.bl false,V.bl false]) l3=some (.lst [V.bl false,V.bl false,V.bl false]):=cF
      generalize upd HA2 l3 (.lst [V.bl false,V.bl false,V.bl false])=HB3 at u7 w3 x3 ⊢
      refine .lst w3 x3 (by show 12<=sizeLine;decide) fun m3 k3_=>?_
      have u8:=u7.trans (Same.new (o:=.lst (List.replicate 9 (V.bl false)++[V.bl false,V.bl false,V.bl false])) k3_)
      have eo3:upd HB3 m3 (.lst (List.replicate 9 (V.bl false)++[V.bl false,V.bl false,V.bl false])) m3=some (.lst (List.replicate 12 (V.bl false))):=cF
      generalize upd HB3 m3 (.lst (List.replicate 9 (V.bl false)++[V.bl false,V.bl false,V.bl false]))=HA3 at u8 eo3 ⊢
      refine⟨_,rfl,_,rfl,a,ec "NoWeights",none,_,.ref (ec "NoWant"),false,rfl,u8 _ _ ha2,fN,fun v hv=>hv,(Er.kit "NoWeights" (by decide) (by decide) "NoWant" (by decide)).trans (by decide),?_⟩
      refine⟨_,rfl,a,ec "NoWeights",none,_,.ref (ec "NoWeb"),false,rfl,u8 _ _ ha2,fN,fun v hv=>hv,(Er.kit "NoWeights" (by decide) (by decide) "NoWeb" (by decide)).trans (by decide),?_⟩
      refine⟨_,rfl,a,ec "NoWeights",none,_,.ref (ec "TooMany"),false,rfl,u8 _ _ ha2,fN,fun v hv=>hv,(Er.kit "NoWeights" (by decide) (by decide) "TooMany" (by decide)).trans (by decide),?_⟩
      refine⟨(by show 3<=sizeLine;decide),fun l4 g4=>?_⟩
      have u9:=u8.trans (Same.new (o:=.lst [V.bl false,V.bl false,V.bl false]) g4)
      have w4:=(Same.new (o:=.lst [V.bl false,V.bl false,V.bl false]) g4) _ _ eo3
      have x4:upd HA3 l4 (.lst [V.bl false,V.bl false,V.bl false]) l4=some (.lst [V.bl false,V.bl false,V.bl false]):=cF
      generalize upd HA3 l4 (.lst [V.bl false,V.bl false,V.bl false])=HB4 at u9 w4 x4 ⊢
      refine .lst w4 x4 (by show 15<=sizeLine;decide) fun m4 k4_=>?_
      have u10:=u9.trans (Same.new (o:=.lst (List.replicate 12 (V.bl false)++[V.bl false,V.bl false,V.bl false])) k4_)
      have eo4:upd HB4 m4 (.lst (List.replicate 12 (V.bl false)++[V.bl false,V.bl false,V.bl false])) m4=some (.lst (List.replicate 15 (V.bl false))):=cF
      generalize upd HB4 m4 (.lst (List.replicate 12 (V.bl false)++[V.bl false,V.bl false,V.bl false]))=HA4 at u10 eo4 ⊢
      refine⟨_,rfl,_,rfl,a,ec "NoWeights",none,_,.ref (ec "Twice"),false,rfl,u10 _ _ ha2,fN,fun v hv=>hv,(Er.kit "NoWeights" (by decide) (by decide) "Twice" (by decide)).trans (by decide),?_⟩
      refine⟨_,rfl,a,ec "NoWeights",none,_,.ref (ec "Within"),false,rfl,u10 _ _ ha2,fN,fun v hv=>hv,(Er.kit "NoWeights" (by decide) (by decide) "Within" (by decide)).trans (by decide),?_⟩
      refine⟨_,rfl,a,ec "NoWeights",none,_,.type "ValueError",true,rfl,u10 _ _ ha2,fN,fun v hv=>hv,Er.val "NoWeights" (by decide),true,rfl,?_⟩
      refine⟨(by show 3<=sizeLine;decide),fun l5 g5=>?_⟩
      have u11:=u10.trans (Same.new (o:=.lst [V.bl false,V.bl false,V.bl !true]) g5)
      have w5:=(Same.new (o:=.lst [V.bl false,V.bl false,V.bl !true]) g5) _ _ eo4
      have x5:upd HA4 l5 (.lst [V.bl false,V.bl false,V.bl !true]) l5=some (.lst [V.bl false,V.bl false,V.bl !true]):=cF
      generalize upd HA4 l5 (.lst [V.bl false,V.bl false,V.bl !true])=HB5 at u11 w5 x5 ⊢
      refine .lst w5 x5 (by show 18<=sizeLine;decide) fun m5 k5_=>?_
      have u12:=u11.trans (Same.new (o:=.lst (List.replicate 15 (V.bl false)++[V.bl false,V.bl false,V.bl !true])) k5_)
      have eo5:upd HB5 m5 (.lst (List.replicate 15 (V.bl false)++[V.bl false,V.bl false,V.bl !true])) m5=some (.lst (List.replicate 18 (V.bl false))):=cF
      generalize upd HB5 m5 (.lst (List.replicate 15 (V.bl false)++[V.bl false,V.bl false,V.bl !true]))=HA5 at u12 eo5 ⊢
      refine⟨_,rfl,.seq (.inl (.of eo5)) (by rfl) (by rfl) ⟨_,rfl,gM ?_⟩⟩
      refine⟨_,rfl,a,ec "NoWeights",none,_,.ref (ec "Ring"),false,rfl,u12 _ _ ha2,fN,fun v hv=>hv,(Er.kit "NoWeights" (by decide) (by decide) "Ring" (by decide)).trans (by decide),?_⟩
      refine⟨_,rfl,a,ec "NoWeights",none,_,.ref (ec "NoWeights"),true,rfl,u12 _ _ ha2,fN,fun v hv=>hv,(Er.kit "NoWeights" (by decide) (by decide) "NoWeights" (by decide)).trans (by decide),?_⟩
      refine .sc (by rfl) ⟨_,rfl,df (fun h=>absurd h (by decide)) (fun _=>?_)⟩
      refine⟨_,rfl,a,ec "NoWeights",none,_,.ref (ec "NoWeights"),true,rfl,u12 _ _ ha2,fN,fun v hv=>hv,(Er.kit "NoWeights" (by decide) (by decide) "NoWeights" (by decide)).trans (by decide),?_⟩
      exact⟨true,rfl,df (fun _=>kw ris bad _ (sA.trans u12)) (fun h=>absurd rfl h)⟩)
   | (have fN:=Er.f "Ring" (by decide)
      have s2:=Same.new (o:=gu a (ec "Ring") (some d)) hna
      have ha2:upd H1 a (gu a (ec "Ring") (some d)) a=some (gu a (ec "Ring") (some d)):=cF
      have h3':=s2 _ _ h3
      have h4':=s2 _ _ h4
      have sA:=s1.trans s2
      generalize upd H1 a (gu a (ec "Ring") (some d))=H2 at ha2 h3' h4' sA ⊢
      refine⟨_,rfl,?_⟩
      refine⟨_,rfl,.non ⟨_,rfl,df (fun h=>absurd h (by simp)) (fun _=>?_)⟩⟩
      have u0:=Same.refl H2
      refine⟨_,rfl,a,ec "Ring",some d,_,.ref (ec "Apart"),false,rfl,u0 _ _ ha2,fN,fun v hv=>hv,(Er.kit "Ring" (by decide) (by decide) "Apart" (by decide)).trans (by decide),?_⟩
      refine⟨_,rfl,a,ec "Ring",some d,_,.ref (ec "Clash"),false,rfl,u0 _ _ ha2,fN,fun v hv=>hv,(Er.kit "Ring" (by decide) (by decide) "Clash" (by decide)).trans (by decide),?_⟩
      refine⟨_,rfl,a,ec "Ring",some d,_,.ref (ec "Full"),false,rfl,u0 _ _ ha2,fN,fun v hv=>hv,(Er.kit "Ring" (by decide) (by decide) "Full" (by decide)).trans (by decide),?_⟩
      refine⟨(by show 3<=sizeLine;decide),fun l0 g0=>?_⟩
      have u1:=u0.trans (Same.new (o:=.lst [V.bl false,V.bl false,V.bl false]) g0)
      have eo0:upd H2 l0 (.lst [V.bl false,V.bl false,V.bl false]) l0=some (.lst (List.replicate 3 (V.bl false))):=cF
      generalize upd H2 l0 (.lst [V.bl false,V.bl false,V.bl false])=HA0 at u1 eo0 ⊢
      refine⟨_,rfl,_,rfl,a,ec "Ring",some d,_,.ref (ec "NoDeed"),false,rfl,u1 _ _ ha2,fN,fun v hv=>hv,(Er.kit "Ring" (by decide) (by decide) "NoDeed" (by decide)).trans (by decide),?_⟩
      refine⟨_,rfl,a,ec "Ring",some d,_,.ref (ec "NoHouse"),false,rfl,u1 _ _ ha2,fN,fun v hv=>hv,(Er.kit "Ring" (by decide) (by decide) "NoHouse" (by decide)).trans (by decide),?_⟩
      refine⟨_,rfl,a,ec "Ring",some d,_,.ref (ec "NoOrder"),false,rfl,u1 _ _ ha2,fN,fun v hv=>hv,(Er.kit "Ring" (by decide) (by decide) "NoOrder" (by decide)).trans (by decide),?_⟩
      refine⟨(by show 3<=sizeLine;decide),fun l1 g1=>?_⟩
      have u3:=u1.trans (Same.new (o:=.lst [V.bl false,V.bl false,V.bl false]) g1)
      have w1:=(Same.new (o:=.lst [V.bl false,V.bl false,V.bl false]) g1) _ _ eo0
      have x1:upd HA0 l1 (.lst [V.bl false,V.bl false,V.bl false]) l1=some (.lst [V.bl false,V.bl false,V.bl false]):=cF
      generalize upd HA0 l1 (.lst [V.bl false,V.bl false,V.bl false])=HB1 at u3 w1 x1 ⊢
      refine .lst w1 x1 (by show 6<=sizeLine;decide) fun m1 k1_=>?_
      have u4:=u3.trans (Same.new (o:=.lst (List.replicate 3 (V.bl false)++[V.bl false,V.bl false,V.bl false])) k1_)
      have eo1:upd HB1 m1 (.lst (List.replicate 3 (V.bl false)++[V.bl false,V.bl false,V.bl false])) m1=some (.lst (List.replicate 6 (V.bl false))):=cF
      generalize upd HB1 m1 (.lst (List.replicate 3 (V.bl false)++[V.bl false,V.bl false,V.bl false]))=HA1 at u4 eo1 ⊢
      refine⟨_,rfl,_,rfl,a,ec "Ring",some d,_,.ref (ec "NoRedo"),false,rfl,u4 _ _ ha2,fN,fun v hv=>hv,(Er.kit "Ring" (by decide) (by decide) "NoRedo" (by decide)).trans (by decide),?_⟩
      refine⟨_,rfl,a,ec "Ring",some d,_,.ref (ec "NoRow"),false,rfl,u4 _ _ ha2,fN,fun v hv=>hv,(Er.kit "Ring" (by decide) (by decide) "NoRow" (by decide)).trans (by decide),?_⟩
      refine⟨_,rfl,a,ec "Ring",some d,_,.ref (ec "NoUndo"),false,rfl,u4 _ _ ha2,fN,fun v hv=>hv,(Er.kit "Ring" (by decide) (by decide) "NoUndo" (by decide)).trans (by decide),?_⟩
      refine⟨(by show 3<=sizeLine;decide),fun l2 g2=>?_⟩
      have u5:=u4.trans (Same.new (o:=.lst [V.bl false,V.bl false,V.bl false]) g2)
      have w2:=(Same.new (o:=.lst [V.bl false,V.bl false,V.bl false]) g2) _ _ eo1
      have x2:upd HA1 l2 (.lst [V.bl false,V.bl false,V.bl false]) l2=some (.lst [V.bl false,V.bl false,V.bl false]):=cF
      generalize upd HA1 l2 (.lst [V.bl false,V.bl false,V.bl false])=HB2 at u5 w2 x2 ⊢
      refine .lst w2 x2 (by show 9<=sizeLine;decide) fun m2 k2_=>?_
      have u6:=u5.trans (Same.new (o:=.lst (List.replicate 6 (V.bl false)++[V.bl false,V.bl false,V.bl false])) k2_)
      have eo2:upd HB2 m2 (.lst (List.replicate 6 (V.bl false)++[V.bl false,V.bl false,V.bl false])) m2=some (.lst (List.replicate 9 (V.bl false))):=cF
      generalize upd HB2 m2 (.lst (List.replicate 6 (V.bl false)++[V.bl false,V.bl false,V.bl false]))=HA2 at u6 eo2 ⊢
      refine⟨_,rfl,_,rfl,a,ec "Ring",some d,_,.ref (ec "NoText"),false,rfl,u6 _ _ ha2,fN,fun v hv=>hv,(Er.kit "Ring" (by decide) (by decide) "NoText" (by decide)).trans (by decide),?_⟩
      refine⟨_,rfl,a,ec "Ring",some d,_,.ref (ec "NoTie"),false,rfl,u6 _ _ ha2,fN,fun v hv=>hv,(Er.kit "Ring" (by decide) (by decide) "NoTie" (by decide)).trans (by decide),?_⟩
      refine⟨_,rfl,a,ec "Ring",some d,_,.ref (ec "NoUnit"),false,rfl,u6 _ _ ha2,fN,fun v hv=>hv,(Er.kit "Ring" (by decide) (by decide) "NoUnit" (by decide)).trans (by decide),?_⟩
      refine⟨(by show 3<=sizeLine;decide),fun l3 g3=>?_⟩
      have u7:=u6.trans (Same.new (o:=.lst [V.bl false,V.bl false,V.bl false]) g3)
      have w3:=(Same.new (o:=.lst [V.bl false,V.bl false,V.bl false]) g3) _ _ eo2
      have x3:upd HA2 l3 (.lst [V.bl false,V.bl false,V.bl false]) l3=some (.lst [V.bl false,V.bl false,V.bl false]):=cF
      generalize upd HA2 l3 (.lst [V.bl false,V.bl false,V.bl false])=HB3 at u7 w3 x3 ⊢
      refine .lst w3 x3 (by show 12<=sizeLine;decide) fun m3 k3_=>?_
      have u8:=u7.trans (Same.new (o:=.lst (List.replicate 9 (V.bl false)++[V.bl false,V.bl false,V.bl false])) k3_)
      have eo3:upd HB3 m3 (.lst (List.replicate 9 (V.bl false)++[V.bl false,V.bl false,V.bl false])) m3=some (.lst (List.replicate 12 (V.bl false))):=cF
      generalize upd HB3 m3 (.lst (List.replicate 9 (V.bl false)++[V.bl false,V.bl false,V.bl false]))=HA3 at u8 eo3 ⊢
      refine⟨_,rfl,_,rfl,a,ec "Ring",some d,_,.ref (ec "NoWant"),false,rfl,u8 _ _ ha2,fN,fun v hv=>hv,(Er.kit "Ring" (by decide) (by decide) "NoWant" (by decide)).trans (by decide),?_⟩
      refine⟨_,rfl,a,ec "Ring",some d,_,.ref (ec "NoWeb"),false,rfl,u8 _ _ ha2,fN,fun v hv=>hv,(Er.kit "Ring" (by decide) (by decide) "NoWeb" (by decide)).trans (by decide),?_⟩
      refine⟨_,rfl,a,ec "Ring",some d,_,.ref (ec "TooMany"),false,rfl,u8 _ _ ha2,fN,fun v hv=>hv,(Er.kit "Ring" (by decide) (by decide) "TooMany" (by decide)).trans (by decide),?_⟩
      refine⟨(by show 3<=sizeLine;decide),fun l4 g4=>?_⟩
      have u9:=u8.trans (Same.new (o:=.lst [V.bl false,V.bl false,V.bl false]) g4)
      have w4:=(Same.new (o:=.lst [V.bl false,V.bl false,V.bl false]) g4) _ _ eo3
      have x4:upd HA3 l4 (.lst [V.bl false,V.bl false,V.bl false]) l4=some (.lst [V.bl false,V.bl false,V.bl false]):=cF
      generalize upd HA3 l4 (.lst [V.bl false,V.bl false,V.bl false])=HB4 at u9 w4 x4 ⊢
      refine .lst w4 x4 (by show 15<=sizeLine;decide) fun m4 k4_=>?_
      have u10:=u9.trans (Same.new (o:=.lst (List.replicate 12 (V.bl false)++[V.bl false,V.bl false,V.bl false])) k4_)
      have eo4:upd HB4 m4 (.lst (List.replicate 12 (V.bl false)++[V.bl false,V.bl false,V.bl false])) m4=some (.lst (List.replicate 15 (V.bl false))):=cF
      generalize upd HB4 m4 (.lst (List.replicate 12 (V.bl false)++[V.bl false,V.bl false,V.bl false]))=HA4 at u10 eo4 ⊢
      refine⟨_,rfl,_,rfl,a,ec "Ring",some d,_,.ref (ec "Twice"),false,rfl,u10 _ _ ha2,fN,fun v hv=>hv,(Er.kit "Ring" (by decide) (by decide) "Twice" (by decide)).trans (by decide),?_⟩
      refine⟨_,rfl,a,ec "Ring",some d,_,.ref (ec "Within"),false,rfl,u10 _ _ ha2,fN,fun v hv=>hv,(Er.kit "Ring" (by decide) (by decide) "Within" (by decide)).trans (by decide),?_⟩
      refine⟨_,rfl,a,ec "Ring",some d,_,.type "ValueError",true,rfl,u10 _ _ ha2,fN,fun v hv=>hv,Er.val "Ring" (by decide),true,rfl,?_⟩
      refine⟨(by show 3<=sizeLine;decide),fun l5 g5=>?_⟩
      have u11:=u10.trans (Same.new (o:=.lst [V.bl false,V.bl false,V.bl !true]) g5)
      have w5:=(Same.new (o:=.lst [V.bl false,V.bl false,V.bl !true]) g5) _ _ eo4
      have x5:upd HA4 l5 (.lst [V.bl false,V.bl false,V.bl !true]) l5=some (.lst [V.bl false,V.bl false,V.bl !true]):=cF
      generalize upd HA4 l5 (.lst [V.bl false,V.bl false,V.bl !true])=HB5 at u11 w5 x5 ⊢
      refine .lst w5 x5 (by show 18<=sizeLine;decide) fun m5 k5_=>?_
      have u12:=u11.trans (Same.new (o:=.lst (List.replicate 15 (V.bl false)++[V.bl false,V.bl false,V.bl !true])) k5_)
      have eo5:upd HB5 m5 (.lst (List.replicate 15 (V.bl false)++[V.bl false,V.bl false,V.bl !true])) m5=some (.lst (List.replicate 18 (V.bl false))):=cF
      generalize upd HB5 m5 (.lst (List.replicate 15 (V.bl false)++[V.bl false,V.bl false,V.bl !true]))=HA5 at u12 eo5 ⊢
      refine⟨_,rfl,.seq (.inl (.of eo5)) (by rfl) (by rfl) ⟨_,rfl,gM ?_⟩⟩
      refine⟨_,rfl,a,ec "Ring",some d,_,.ref (ec "Ring"),true,rfl,u12 _ _ ha2,fN,fun v hv=>hv,(Er.kit "Ring" (by decide) (by decide) "Ring" (by decide)).trans (by decide),?_⟩
      refine⟨_,rfl,a,ec "Ring",some d,_,.ref (ec "NoWeights"),false,rfl,u12 _ _ ha2,fN,fun v hv=>hv,(Er.kit "Ring" (by decide) (by decide) "NoWeights" (by decide)).trans (by decide),?_⟩
      refine .sc (by rfl) ⟨_,rfl,df (fun h=>absurd h (by decide)) (fun _=>?_)⟩
      refine⟨_,rfl,a,ec "Ring",some d,_,.ref (ec "NoWeights"),false,rfl,u12 _ _ ha2,fN,fun v hv=>hv,(Er.kit "Ring" (by decide) (by decide) "NoWeights" (by decide)).trans (by decide),?_⟩
      refine⟨false,rfl,gM ?_⟩
      exact⟨_,rfl,a,ec "Ring",d,_,.ref r,rfl,u12 _ _ ha2,u12 _ _ h4',rfl,fN,G,kr ring i e kk ws r _ fr to1 wy (sA.trans u12) hr0 (u12 _ _ h3')⟩)
theorem jE {σ:St}{H:Hp}{k:List V->Hp->Prop}(h:k [] H):mw σ H k:=h
def intsD (zs:List Int):PyData:=.list (zs.map PyData.int)
theorem repAll_int {H:Hp}:∀zs:List Int,RepAll H (cO zs) (zs.map PyData.int)
 | []=>.nil
 | z::zs=>.cons (.int z) (repAll_int zs)
theorem uG (zs:List Int):shp (intsD zs) := by
 have a:∀zs:List Int, PyData.canLayAll0 (zs.map PyData.int)=true /\ PyData.depthAll (zs.map PyData.int)=0 := by
  intro zs
  induction zs with
  | nil=>exact⟨rfl,rfl⟩
  | cons x xs ih =>
   refine⟨?_,?_⟩
   ·show (PyData.canLay0 (.int x)&&PyData.canLayAll0 (xs.map PyData.int))=true
    rw[ih.1];rfl
   ·show max (PyData.depth (.int x)) (PyData.depthAll (xs.map PyData.int))=0
    rw[ih.2];rfl
 show (PyData.canLayAll0 (zs.map PyData.int)&&decide (PyData.depthAll (zs.map PyData.int)+1<=64))=true
 rw[(a zs).1,(a zs).2];rfl
theorem vz (zs:List Int):PyData.eqv (intsD zs) (.list [])=decide (zs=[]):=by
 cases zs with
 | nil=>rfl
 | cons e r=>rfl
def eV (H:Hp) (l:Addr):Hp:=fun b=>if b=l then none else H b
theorem pM {H:Hp}{l:Addr}:Same (eV H l) H:=fun b u e=>by
 unfold eV at e
 by_cases q:b=l
 ·rw[if_pos q] at e;cases e
 ·rw[if_neg q] at e;exact e
theorem jC {H:Hp}{l:Addr}{o:HO}:eV (upd H l o) l=eV H l:=by
 funext b
 unfold eV
 by_cases q:b=l
 ·rw[if_pos q,if_pos q]
 ·rw[if_neg q,if_neg q,cH q]
theorem ka {H H':Hp}{l:Addr}(s:Same H H'):Same (eV H l) (eV H' l):=fun b u e=>by
 unfold eV at e ⊢
 by_cases q:b=l
 ·rw[if_pos q] at e;cases e
 ·rw[if_neg q] at e ⊢;exact s _ _ e
theorem tD {H:Hp}{l:Addr}(h:H l=none):eV H l=H:=by
 funext b
 unfold eV
 by_cases q:b=l
 ·rw[if_pos q,q,h]
 ·rw[if_neg q]
theorem jY {H:Hp}{a:Addr}{ys:List V}{n:Nat}(h:H a=some (.lst ys)∨H a=some (.tup ys)) (ht:∀y∈ys,Thg H y) (hl:ys.length<=1000) (hn:ys.length≠n):BadW H (.ref a) n:=.inr ⟨a,ys,rfl,h,ht,hl,fun z=>hn z.1⟩
theorem lG {H:Hp}{a:Addr}{ys:List V}{n:Nat}(h:H a=some (.lst ys)∨H a=some (.tup ys)) (ht:∀y∈ys,Thg H y) (hl:ys.length<=1000) {y:V}(hy:y∈ys) (hw:wh y=false):BadW H (.ref a) n:=.inr ⟨a,ys,rfl,h,ht,hl,fun z=>by
 have:=bh.mp z.2 y hy
 rw[hw] at this;cases this⟩
theorem iy {H:Hp}{zs:List Int}:∀y∈cO zs,Thg H y:=fun y hy=>by
 obtain⟨z,_,rfl⟩:=aq.mp hy
 exact .int z
theorem kx {xs:List V}{lo hi:Option Int}:∀y∈dA xs lo hi,y∈xs:=fun y hy=>by
 unfold dA at hy
 exact List.mem_of_mem_drop (cy hy)
theorem kK {xs:List V}{lo hi:Option Int}:(dA xs lo hi).length<=xs.length:=by
 unfold dA
 rw[aF,bO];omega
theorem ou {H H':Hp}{l:Addr}(b:But l H H'):Same (eV H l) (eV H' l):=fun c u e=>by
 unfold eV at e ⊢
 by_cases q:c=l
 ·rw[if_pos q] at e;cases e
 ·rw[if_neg q] at e ⊢;exact b _ _ q e
theorem gI {H:Hp}{l b:Addr}{o:HO}(n:b≠l) (e:H b=some o):eV H l b=some o:=by unfold eV;rw[if_neg n];exact e
theorem p7 {σ:St}{H5:Hp}{Q:VK}{wl:Addr}{m:Nat}{x:V}{zs:List Int}(h1:σ[1]? = some (some (.ref wl))) (h2:σ[2]? = some (some (.int (m:Int)))) (h4:σ[4]? = some (some x)) (w5:H5 wl=some (.lst (cO zs))) (h60:zs.length<=60)
    (k:∀c H',Same H5 H'->H' c=some (.lst (dA (cO zs) none (some (m:Int))++[x]++dA (cO zs) (some ((m:Int)+1)) none))->H5 c=none->Q (.ref c) H') :
    tOp (fun x y H Q=>AddR H x y Q) (tOp (fun x y H Q=>AddR H x y Q) (tSl (fun x lo hi H Q=>SlX K H x lo hi Q) (kU 1) mR (qp (kU 2))) (yd (lC (kU 4) mw))) (tSl (fun x lo hi H Q=>SlX K H x lo hi Q) (kU 1) (qp (tOp (fun x y H Q=>AddR H x y Q) (kU 2) (tC (V.int 1)))) mR) σ H5 Q:=by
 have il:(cO zs).length=zs.length:=ac ..
 have l1:=kK (xs:=cO zs) (lo:=none) (hi:=some (m:Int))
 have l2:=kK (xs:=cO zs) (lo:=some ((m:Int)+1)) (hi:=none)
 refine⟨_,h1,_,h2,_,rfl,.lst (.of w5) fun c1 hc1=>?_⟩
 have s1:=Same.new (o:=.lst (dA (cO zs) none (some (m:Int)))) hc1
 have e1:upd H5 c1 (.lst (dA (cO zs) none (some (m:Int)))) c1=some (.lst (dA (cO zs) none (some (m:Int)))):=cF
 generalize upd H5 c1 (.lst (dA (cO zs) none (some (m:Int))))=HA at s1 e1 ⊢
 refine⟨_,h4,(by show 1<=sizeLine;decide),fun c2 hc2=>?_⟩
 have s2:=Same.new (o:=.lst [x]) hc2
 have e2:upd HA c2 (.lst [x]) c2=some (.lst [x]):=cF
 generalize upd HA c2 (.lst [x])=HB at s2 e2 ⊢
 refine .lst (s2 _ _ e1) e2 (aS (cN (by show (dA (cO zs) none (some (m:Int))).length+1<=1000;omega))) fun c3 hc3=>?_
 have s3:=Same.new (o:=.lst (dA (cO zs) none (some (m:Int))++[x])) hc3
 have e3:upd HB c3 (.lst (dA (cO zs) none (some (m:Int))++[x])) c3=some (.lst (dA (cO zs) none (some (m:Int))++[x])):=cF
 generalize upd HB c3 (.lst (dA (cO zs) none (some (m:Int))++[x]))=HC at s3 e3 ⊢
 have s13:=(s1.trans s2).trans s3
 refine⟨_,h1,_,h2,.int ⟨_,rfl,.lst (.of (s13 _ _ w5)) fun c4 hc4=>?_⟩⟩
 have s4:=Same.new (o:=.lst (dA (cO zs) (some ((m:Int)+1)) none)) hc4
 have e4:upd HC c4 (.lst (dA (cO zs) (some ((m:Int)+1)) none)) c4=some (.lst (dA (cO zs) (some ((m:Int)+1)) none)):=cF
 generalize upd HC c4 (.lst (dA (cO zs) (some ((m:Int)+1)) none))=HD at s4 e4 ⊢
 refine .lst (s4 _ _ e3) e4 (aS (cN (by rw[az];show (dA (cO zs) none (some (m:Int))).length+1+_<=1000;omega))) fun c5 hc5=>?_
 exact k c5 _ ((s13.trans s4).trans (Same.new hc5)) cF (dF (s13.trans s4) hc5)
theorem pe {m:Nat}{x:V}{zs:List Int}:x∈dA (cO zs) none (some (m:Int))++[x]++dA (cO zs) (some ((m:Int)+1)) none:=ci _ (aE _ (aI.mpr rfl))
theorem oK {H:Hp}{m:Nat}{x:V}{zs:List Int}(hx:Thg H x):∀y∈dA (cO zs) none (some (m:Int))++[x]++dA (cO zs) (some ((m:Int)+1)) none,Thg H y:=fun y hy=>by
 rcases ar.mp hy with hy | hy
 ·rcases ar.mp hy with hy | hy
  ·exact iy y (kx y hy)
  ·rw[aI.mp hy];exact hx
 ·exact iy y (kx y hy)
theorem oY {m:Nat}{x:V}{zs:List Int}(h60:zs.length<=60):(dA (cO zs) none (some (m:Int))++[x]++dA (cO zs) (some ((m:Int)+1)) none).length<=1000:=by
 have il:(cO zs).length=zs.length:=ac ..
 have l1:=kK (xs:=cO zs) (lo:=none) (hi:=some (m:Int))
 have l2:=kK (xs:=cO zs) (lo:=some ((m:Int)+1)) (hi:=none)
 rw[az,az]
 show (dA (cO zs) none (some (m:Int))).length+1+_<=1000
 omega
def rf (K:W.Frag):Sp:=fun vs H Q _=>∃(p a wl:Addr) (zs:List Int),vs=[.ref p,.ref wl]/\Pen K H p a/\H wl=some (.lst (cO zs))/\zs.length<=60/\(∀z∈zs,z.natAbs<=20)/\wl≠p /\
 ∀l xs H',H' l=some (.lst xs)->xs.length<=1000->(∀x∈xs,BadW H' x zs.length)->l≠p->PenV H' p a->But p H H'->Q (.ref l) H'
theorem scNoW:FnScope ["_law_pen","_law_weights","_law_at","_law_found","_law_odd"] ["_law_pen","_law_weights"] (cI kY):=⟨rfl,rfl,rfl,by decide +kernel,rfl,by decide +kernel,by decide +kernel⟩
theorem yC {f:Addr}{fd:FuncData}(F:Fun K "_law_no_weights" "_law_no_weights" kY f fd) (B:Blt mg) (c_law_take:Cal P w K mg base 1 "_law_take" ["_law_pen", "_law_many"] (iq K)):FnOk P w K mg base CX0 2 f fd ["_law_pen", "_law_weights"] (rf K) := by
 refine F.ok scNoW (fun vs H Q E h=>?_) (fun cdv A outer s H vs Q E hr h=>?_)
 ·obtain⟨p,a,wl,zs,rfl,_⟩:=h
  rfl
 ·obtain⟨p, a, wl, zs, rfl, hP, hw, h60, h20, nw, k⟩ := h
  have nd:=scNoW.nd
  have il:(cO zs).length=zs.length:=ac ..
  refine⟨_,(cG (cQ (i:=2) nd rfl (Or.inl rfl) (cP c_law_take (hr.mono (by decide)) rfl (cC (pv 0) (cC (cW dh (eY K B (cC (pv 1) cE)) cK) cE))))
   (cG (cQ (i:=3) nd rfl (Or.inl rfl) (dC (cC (cW dh (pv 1) (dC (cC cK cE))) (cC (cW dh (dC (cC cK cE)) (pv 1)) (cC dX (cC cK (cC fm (cC fE (cC (dC (cC (pv 1) cE)) (cC (d8 (cC (iC K B (cC (pv 1) cE)) cE)) (cC jF cE fT) tu) ud) rX) fT) fT) fT) sN) sN)))
   (cG (dG (cU (ph hr.units) (pv 1) (dC cE) (dg _)) (cG (cQ (i:=2) nd rfl (Or.inl rfl) (cW fD (pv 2) (eY K B (cC (pv 1) cE))))
   (cG (cQ (i:=3) nd rfl (Or.inl rfl) (cW dh (pv 3) (dC (cC (fF (i8 K) (pv 1) (fW cK) fV) (cC (iC K B (cC (fF (i8 K) (pv 1) fV (fW (iu gR cK))) cE)) (cC (dC cE) (cC (yp K rfl hr.units B (cC (dN (cI kY) ["_law_pen","_law_weights","_law_at","_law_found","_law_odd"] ["_law_k"] [] ["_law_k"] rfl (fY rfl B.range (cC (eY K B (cC (pv 1) cE)) cE)) (fun _ _ _ _ _=>(cT (i:=0) (show (["_law_k"]:List Str).Nodup by decide) rfl (Or.inl rfl))) (fun _ _ _ _ _=>eM) (fun _ _ _ _ _=>(d8 (cC (pv 0) (cC cK cE))))) cE)) cE)))))))
   (cJ (dY PassesOwn.never rfl (ei K (d8 (cC jF (cC jF (cC dX (cC (xZ B (cC (cR (cX K hr.units) (pv 1) (pv 2) (fun _ _=>rfl)) cE)) (cC (dC (cC (cR (cX K hr.units) (pv 1) (pv 2) (fun _ _=>rfl)) cE)) (cC (d8 (cC (cR (cX K hr.units) (pv 1) (pv 2) (fun _ _=>rfl)) cE)) (cC fE cE rX) tu) ud) yI) fT) fT) fT))) (cT (i:=4) nd rfl (Or.inl rfl)) (cG (dQ (fZ K (pv 3) (cC (cW dh (cW dh (fF (i8 K) (pv 1) fV (fW (pv 2))) (dC (cC (pv 4) cE))) (fF (i8 K) (pv 1) (fW (cW dh (pv 2) cK)) fV)) cE)))
   (cJ (dQ (fZ K (pv 3) (cC (iC K B (cC (cW dh (cW dh (fF (i8 K) (pv 1) fV (fW (pv 2))) (dC (cC (pv 4) cE))) (fF (i8 K) (pv 1) (fW (cW dh (pv 2) cK)) fV)) cE)) cE))))))))) dk)
   (cJ (cS (pv 3)))))),?_⟩
  refine⟨_,rfl,_,rfl,_,_,rfl,Or.inl ⟨_,.of hw,rfl⟩,.int ⟨p,a,_,rfl,hP,by omega,by omega,fun r1 H1 h10 h11 v1 e1=>?_⟩⟩
  obtain⟨at0,rfl⟩:=bf h10
  have b1:=But.of_eq e1
  have hw1:H1 wl=some (.lst (cO zs)):=(e1 wl nw).trans hw
  refine⟨_,rfl,(by show 1<=sizeLine;decide),fun a1 ha1=>?_⟩
  have sA:=Same.new (o:=.lst [V.int 0]) ha1
  have eA:upd H1 a1 (.lst [V.int 0]) a1=some (.lst [V.int 0]):=cF
  generalize upd H1 a1 (.lst [V.int 0])=HA at sA eA ⊢
  refine .lst (sA _ _ hw1) eA (by rw[il];exact aS (cN (by show zs.length+1<=1000;omega))) fun x1 hx1=>?_
  have sB:=Same.new (o:=.lst (cO zs++[V.int 0])) hx1
  have eB:upd HA x1 (.lst (cO zs++[V.int 0])) x1=some (.lst (cO zs++[V.int 0])):=cF
  generalize upd HA x1 (.lst (cO zs++[V.int 0]))=HB at sB eB ⊢
  refine⟨(by show 1<=sizeLine;decide),fun a2 ha2=>?_⟩
  have sC:=Same.new (o:=.lst [V.int 0]) ha2
  have eC:upd HB a2 (.lst [V.int 0]) a2=some (.lst [V.int 0]):=cF
  generalize upd HB a2 (.lst [V.int 0])=HC at sC eC ⊢
  have s1C:=(sA.trans sB).trans sC
  refine⟨_,rfl,.lst eC (s1C _ _ hw1) (by rw[il];exact aS (cN (by show 1+zs.length<=1000;omega))) fun x2 hx2=>?_⟩
  have sD:=Same.new (o:=.lst ([V.int 0]++cO zs)) hx2
  have eD:upd HC x2 (.lst ([V.int 0]++cO zs)) x2=some (.lst ([V.int 0]++cO zs)):=cF
  generalize upd HC x2 (.lst ([V.int 0]++cO zs))=HD at sD eD ⊢
  intro d6 hd6
  have sE:=Same.new (o:=.dK []) hd6
  have eE:upd HD d6 (.dK []) d6=some (.dK []):=cF
  generalize upd HD d6 (.dK [])=HE at sE eE ⊢
  refine⟨_,rfl,(by show 1<=sizeLine;decide),fun x7 hx7=>?_⟩
  have sF:=Same.new (o:=.lst [V.ref wl]) hx7
  have eF:upd HE x7 (.lst [V.ref wl]) x7=some (.lst [V.ref wl]):=cF
  generalize upd HE x7 (.lst [V.ref wl])=HF at sF eF ⊢
  have s1F:=((s1C.trans sD).trans sE).trans sF
  refine⟨_,rfl,wl,_,rfl,.of (s1F _ _ hw1),fun t8 ht8=>⟨(by show 1<=sizeLine;decide),fun x8 hx8=>?_⟩⟩
  have sG:=Same.new (o:=.tup (cO zs)) ht8
  have eG:upd HF t8 (.tup (cO zs)) t8=some (.tup (cO zs)):=cF
  generalize upd HF t8 (.tup (cO zs))=HG at sG eG hx8 ⊢
  have sI:=Same.new (o:=.tup [V.ref t8]) hx8
  have eI:upd HG x8 (.tup [V.ref t8]) x8=some (.tup [V.ref t8]):=cF
  generalize upd HG x8 (.tup [V.ref t8])=HI at sI eI ⊢
  have sGI:=sG.trans sI
  have sFI:=sF.trans sGI
  have sEI:=sE.trans sFI
  have sDI:=sD.trans sEI
  have s1I:=s1C.trans sDI
  refine⟨(by show 9<=sizeLine;decide),fun l0 hl0=>?_⟩
  have n:=zs.length
  have bad9:∀x∈[V.ref x1,V.ref x2,V.non,V.int 7,V.str "weights",V.ref d6,V.ref x7,V.ref x8,V.bl true],BadW HI x zs.length:=by
   intro x hx
   simp only[am,bW,or_false] at hx
   rcases hx with rfl | rfl | rfl | rfl | rfl | rfl | rfl | rfl | rfl
   ·refine jY (.inl (sDI _ _ (sC _ _ eB))) (fun y hy=>?_) (by rw[az,il];show zs.length+1<=1000;omega) (by rw[az,il];show zs.length+1≠zs.length;omega)
    rcases ar.mp hy with hy | hy
    ·exact iy y hy
    ·rw[aI.mp hy];exact .int 0
   ·refine jY (.inl (sEI _ _ eD)) (fun y hy=>?_) (by rw[az,il];show 1+zs.length<=1000;omega) (by rw[az,il];show 1+zs.length≠zs.length;omega)
    rcases ar.mp hy with hy | hy
    ·rw[aI.mp hy];exact .int 0
    ·exact iy y hy
   ·exact .inl ⟨.non,rfl,rfl⟩
   ·exact .inl ⟨.int 7,rfl,rfl⟩
   ·exact .inl ⟨.str (by decide),rfl,rfl⟩
   ·have e:=sFI _ _ eE
    exact .inl ⟨.dK e,fJ e (fun _ z=>by cases z),fG e (fun _ z=>by cases z)⟩
   ·exact lG (.inl (sGI _ _ eF)) (fun y hy=>by rw[aI.mp hy];exact .lst (s1I _ _ hw1)) (by show 1<=1000;decide) (aI.mpr rfl) rfl
   ·exact lG (.inr eI) (fun y hy=>by rw[aI.mp hy];exact .tup (sI _ _ eG)) (by show 1<=1000;decide) (aI.mpr rfl) rfl
   ·exact .inl ⟨.bl true,rfl,rfl⟩
  have wI:=s1I _ _ hw1
  have bI:But p H HI:=b1.trans (But.of_same s1I)
  have vI:=fX s1I v1
  clear sA eA sB eB sC eC sD eD sE eE sF eF sG eG sI eI sGI sFI sEI sDI s1C s1F hx1 hx2 hd6 hx7 ht8 hx8 ha1 ha2
  have sJ:=Same.new (o:=.lst [V.ref x1,V.ref x2,V.non,V.int 7,V.str "weights",V.ref d6,V.ref x7,V.ref x8,V.bl true]) hl0
  have eJ:upd HI l0 (.lst [V.ref x1,V.ref x2,V.non,V.int 7,V.str "weights",V.ref d6,V.ref x7,V.ref x8,V.bl true]) l0=some (.lst [V.ref x1,V.ref x2,V.non,V.int 7,V.str "weights",V.ref d6,V.ref x7,V.ref x8,V.bl true]):=cF
  have bad9:=fun x hx=>(bad9 x hx).same sJ
  have bJ:=bI.trans (But.of_same sJ)
  have vJ:=fX sJ vI
  have wJ:=sJ _ _ wI
  have hp0:=vI.ne hl0
  generalize upd HI l0 (.lst [V.ref x1,V.ref x2,V.non,V.int 7,V.str "weights",V.ref d6,V.ref x7,V.ref x8,V.bl true])=HJ at eJ bad9 bJ vJ wJ ⊢
  refine⟨_,rfl,(by show 0<=sizeLine;decide),fun le hle=>?_⟩
  have sE:=Same.new (o:=.lst []) hle
  have eE:upd HJ le (.lst []) le=some (.lst []):=cF
  generalize upd HJ le (.lst [])=HK at sE eE ⊢
  refine .tr (.lst (sE _ _ wJ) (repAll_int zs)) (.lst eE .nil) (uG zs) (by rfl) ⟨_,rfl,?_⟩
  have e0:PyData.eqv (.list (zs.map PyData.int)) (.list [])=decide (zs=[]):=vz zs
  rw[e0]
  have vK:=fX sE vJ
  have bK:=bJ.trans (But.of_same sE)
  have wK:=sE _ _ wJ
  have bad9:=fun x hx=>(bad9 x hx).same sE
  refine df (fun hne=>?_) (fun _=>?_)
  ·have hne:zs ≠ [] := by simpa using hne
   have hpos:0<zs.length:=List.length_pos_iff.mpr hne
   refine⟨_,rfl,_,rfl,_,_,rfl,Or.inl ⟨_,.of wK,rfl⟩,?_⟩
   refine⟨_,_,rfl,rfl,by omega,?_⟩
   obtain⟨m,hm,hmn⟩:∃m:Nat,(at0:Int) % (((cO zs).length:Nat):Int)=(m:Int)/\m<zs.length:=⟨at0 % (cO zs).length,by omega,by rw[il];exact Nat.mod_lt _ hpos⟩
   dsimp only
   rw[hm]
   refine⟨_,rfl,_,rfl,_,rfl,.lst (.of wK) fun c1 hc1=>?_⟩
   have s1:=Same.new (o:=.lst (dA (cO zs) (some 1) none)) hc1
   have e1:upd HK c1 (.lst (dA (cO zs) (some 1) none)) c1=some (.lst (dA (cO zs) (some 1) none)):=cF
   generalize upd HK c1 (.lst (dA (cO zs) (some 1) none))=HL at s1 e1 ⊢
   refine⟨_,rfl,_,rfl,_,rfl,.lst (.of (s1 _ _ wK)) fun c2 hc2=>?_⟩
   have s2:=Same.new (o:=.lst (dA (cO zs) none (some (-1)))) hc2
   have e2:upd HL c2 (.lst (dA (cO zs) none (some (-1)))) c2=some (.lst (dA (cO zs) none (some (-1)))):=cF
   generalize upd HL c2 (.lst (dA (cO zs) none (some (-1))))=HM at s2 e2 ⊢
   refine⟨c2,_,rfl,.of e2,fun t2 ht2=>?_⟩
   have s3:=Same.new (o:=.tup (dA (cO zs) none (some (-1)))) ht2
   have e3:upd HM t2 (.tup (dA (cO zs) none (some (-1)))) t2=some (.tup (dA (cO zs) none (some (-1)))):=cF
   generalize upd HM t2 (.tup (dA (cO zs) none (some (-1))))=HN at s3 e3 ⊢
   refine⟨(by show 0<=sizeLine;decide),fun c4 hc4=>?_⟩
   have s4:=Same.new (o:=.lst []) hc4
   have e4:upd HN c4 (.lst []) c4=some (.lst []):=cF
   generalize upd HN c4 (.lst [])=HOo at s4 e4 ⊢
   have sKO:=((s1.trans s2).trans s3).trans s4
   refine⟨_,rfl,_,_,rfl,Or.inl ⟨_,.of (sKO _ _ wK),rfl⟩,?_⟩
   refine⟨_,rfl,by omega,by omega,?_⟩
   refine jv (fun D i acc σ' H'=>∃o,σ'=[o]/\acc.length=i/\Same HOo H'/\HOo D=none/\∀(j:Nat) x,acc[j]? = some x->∃b,x=V.ref b/\H' b=some (.tup [V.int (j:Int),V.int 1])) fun D hD=>⟨?_,?_,?_⟩
   ·exact⟨none,rfl,rfl,Same.new hD,hD,fun j x h=>by cases h⟩
   ·rintro i acc σ' H' hi ⟨o,rfl,hal,sm,hD0,hac⟩ hacc
    have hi:i<(cO zs).length:=by simpa using hi
    refine gK ?_
    refine⟨_,rfl,(by show 2<=sizeLine;decide),fun tb htb=>?_⟩
    have st:=Same.new (o:=.tup [V.int (0+(i:Nat)),V.int 1]) htb
    have nDt:D≠tb:=cL hacc htb
    refine⟨st _ _ hacc,cN (by omega),_,rfl,by rw[az,hal];rfl,dR (sm.trans st) hD0,hD0,fun j x hx=>?_⟩
    by_cases q:j<acc.length
    ·rw[bG q] at hx
     obtain⟨b,rfl,hb⟩:=hac j x hx
     have nb:b≠D:=ft hb hacc (by intro z;cases z)
     exact⟨b,rfl,by rw[cH nb];exact st _ _ hb⟩
    ·have hj:=(ai.mp hx).1
     rw[az] at hj
     have hj:j<acc.length+1:=hj
     have ej:j=i:=by omega
     subst ej
     rw[bw (by omega),hal,Nat.sub_self] at hx
     have hx:V.ref tb=x:=af hx
     refine⟨tb,hx.symm,?_⟩
     rw[cH (Ne.symm nDt),cF,Int.zero_add]
   rintro acc σ' HQ ⟨o,rfl,hal,sQ,hD0,hac⟩ hacc
   refine jE ⟨D,acc,(List.range acc.length).map fun j:Nat=>((Sum.inl (j:Int):Key),V.int 1),rfl,.of hacc,by rw[ac,bj],fun j q x hq hx=>?_,fun ld hld=>?_⟩
   ·obtain⟨b,rfl,hb⟩:=hac j x hx
    have hj:=(ai.mp hx).1
    rw[al,List.getElem?_range hj] at hq
    have hq:((Sum.inl (j:Int):Key),V.int 1)=q:=af hq
    rw[<- hq]
    exact⟨b,rfl,.of hb⟩
   generalize (mkK ((List.range acc.length).map fun j:Nat=>((Sum.inl (j:Int):Key),V.int 1)))=kvs
   have sR:=Same.new (o:=.dK kvs) hld
   have eR:upd HQ ld (.dK kvs) ld=some (.dK kvs):=cF
   generalize upd HQ ld (.dK kvs)=HR at sR eR ⊢
   refine jE ⟨(by show 4<=sizeLine;decide),fun c5 hc5=>?_⟩
   have sS:=Same.new (o:=.lst [V.ref c1,V.ref t2,V.ref c4,V.ref ld]) hc5
   have eS:upd HR c5 (.lst [V.ref c1,V.ref t2,V.ref c4,V.ref ld]) c5=some (.lst [V.ref c1,V.ref t2,V.ref c4,V.ref ld]):=cF
   generalize upd HR c5 (.lst [V.ref c1,V.ref t2,V.ref c4,V.ref ld])=HS at sS eS ⊢
   have sOS:=(sQ.trans sR).trans sS
   have sKS:=sKO.trans sOS
   refine .lst (sKS _ _ (sE _ _ eJ)) eS (by show 13<=sizeLine;decide) fun l hl=>?_
   have c1n:(dA (cO zs) (some 1) none).length+1=zs.length:=by
    have e:HT.sIx zs.length 0 (some 1)=min 1 zs.length:=HT.sIx_nat _ _ 1
    have e':HT.sIx zs.length zs.length none=zs.length:=rfl
    unfold dA;rw[aF,bO,il,e,e'];omega
   have c2n:(dA (cO zs) none (some (-1))).length+1=zs.length:=by
    rw[lj,cA,il];omega
   have bad4:∀x∈[V.ref c1,V.ref t2,V.ref c4,V.ref ld],BadW HS x zs.length:=by
    intro x hx
    simp only[am,bW,or_false] at hx
    rcases hx with rfl | rfl | rfl | rfl
    ·exact jY (.inl (sOS _ _ (s4 _ _ (s3 _ _ (s2 _ _ e1))))) (fun y hy=>iy y (kx y hy)) (by omega) (by omega)
    ·exact jY (.inr (sOS _ _ (s4 _ _ e3))) (fun y hy=>iy y (kx y hy)) (by omega) (by omega)
    ·exact jY (.inl (sOS _ _ e4)) (fun y hy=>by cases hy) (by show 0<=1000;decide) (by show 0≠zs.length;omega)
    ·have e:=sS _ _ eR
     exact .inl ⟨.dK e,fJ e (fun _ z=>by cases z),fG e (fun _ z=>by cases z)⟩
   have vS:=fX sKS vK
   have bS:=bK.trans (But.of_same sKS)
   have wS:=sKS _ _ wK
   have hl0':=vS.ne hl
   have nwl:wl≠l:=cL wS hl
   have lfree:H l=none:=bS.free (Ne.symm hl0') hl
   have bad13:∀x∈[V.ref x1,V.ref x2,V.non,V.int 7,V.str "weights",V.ref d6,V.ref x7,V.ref x8,V.bl true]++[V.ref c1,V.ref t2,V.ref c4,V.ref ld],BadW HS x zs.length:=fun x hx=>by
    rcases ar.mp hx with hx | hx
    ·exact(bad9 x hx).same sKS
    ·exact bad4 x hx
   have len13:([V.ref x1,V.ref x2,V.non,V.int 7,V.str "weights",V.ref d6,V.ref x7,V.ref x8,V.bl true]++[V.ref c1,V.ref t2,V.ref c4,V.ref ld]).length=13:=rfl
   generalize [V.ref x1,V.ref x2,V.non,V.int 7,V.str "weights",V.ref d6,V.ref x7,V.ref x8,V.bl true]++[V.ref c1,V.ref t2,V.ref c4,V.ref ld]=xs0 at bad13 len13 ⊢
   have bad13:∀x∈xs0,BadW (eV (upd HS l (.lst xs0)) l) x zs.length:=fun x hx=>by rw[jC,tD hl];exact bad13 x hx
   have sT:=Same.new (o:=.lst xs0) hl
   have eT:upd HS l (.lst xs0) l=some (.lst xs0):=cF
   have vT:=fX sT vS
   have bT:=bS.trans (But.of_same sT)
   have wT:=sT _ _ wS
   generalize upd HS l (.lst xs0)=HT0 at sT eT vT bT wT bad13 ⊢
   clear sKS sOS sS eS sR eR sQ sKO s4 e4 s3 e3 s2 e2 s1 e1 bad9 bad4 hac hacc hD0 hal hl hc5 hld hc4 ht2 hc2 hc1 sE eE eJ bJ vJ wJ bK vK wK bS vS wS hle
   have hat:atI (cO zs) (m:Int)=some (.int (zs.getD m 0)):=gy (by unfold cO;rw[al,aG hmn];simp[aQ,hmn])
   have hz20:(zs.getD m 0).natAbs<=20:=h20 _ (by rw[aQ,aG hmn];exact bU hmn)
   generalize zs.getD m 0=zm at hat hz20
   have hlog:zm.natAbs.log2<1920:=by
    have:zm.natAbs.log2<=zm.natAbs:=Nat.log2_le_self _
    omega
   have hstr:(Str.ofString (toString zm)).length<=sizeLine:=by
    have key:∀k:Nat,k<41->(Str.ofString (toString ((k:Int)-20))).length<=10:=by decide +kernel
    have:=key (zm+20).toNat (by omega)
    rw[show (((zm+20).toNat:Nat):Int)-20=zm by omega] at this
    exact aX this (by decide)
   refine⟨_,rfl,_,rfl,.lst (.of wT) hat ⟨_,rfl,hlog,?_⟩⟩
   refine⟨_,rfl,_,rfl,.lst (.of wT) hat ⟨(by show 1<=sizeLine;decide),fun o5 ho5=>?_⟩⟩
   have u1:=Same.new (o:=.lst [V.int zm]) ho5
   have f1:upd HT0 o5 (.lst [V.int zm]) o5=some (.lst [V.int zm]):=cF
   generalize upd HT0 o5 (.lst [V.int zm])=HU at u1 f1 ⊢
   refine⟨_,rfl,_,rfl,.lst (.of (u1 _ _ wT)) hat ⟨(by show 1<=sizeLine;decide),fun o6 ho6=>?_⟩⟩
   have u2:=Same.new (o:=.tup [V.int zm]) ho6
   have f2:upd HU o6 (.tup [V.int zm]) o6=some (.tup [V.int zm]):=cF
   generalize upd HU o6 (.tup [V.int zm])=HV at u2 f2 ⊢
   intro o7 ho7
   have u3:=Same.new (o:=.dK []) ho7
   have f3:upd HV o7 (.dK []) o7=some (.dK []):=cF
   generalize upd HV o7 (.dK [])=HW at u3 f3 ⊢
   refine⟨(by show 7<=sizeLine;decide),fun tt htt=>?_⟩
   have u4:=Same.new (o:=.tup [V.bl true,V.bl false,V.non,V.str (Str.ofString (toString zm)),V.ref o5,V.ref o6,V.ref o7]) htt
   have f4:upd HW tt (.tup [V.bl true,V.bl false,V.non,V.str (Str.ofString (toString zm)),V.ref o5,V.ref o6,V.ref o7]) tt=some (.tup [V.bl true,V.bl false,V.non,V.str (Str.ofString (toString zm)),V.ref o5,V.ref o6,V.ref o7]):=cF
   have uT4:=((u1.trans u2).trans u3).trans u4
   have n5:o5≠l:=Ne.symm (cL eT ho5)
   have n6:o6≠l:=Ne.symm (cL (u1 _ _ eT) ho6)
   have n7:o7≠l:=Ne.symm (cL ((u1.trans u2) _ _ eT) ho7)
   have nt:tt≠l:=Ne.symm (cL (((u1.trans u2).trans u3) _ _ eT) htt)
   have b1_:∀ {b:Addr} {o:HO},b≠l->upd HW tt (.tup [V.bl true,V.bl false,V.non,V.str (Str.ofString (toString zm)),V.ref o5,V.ref o6,V.ref o7]) b=some o->eV (upd HW tt (.tup [V.bl true,V.bl false,V.non,V.str (Str.ofString (toString zm)),V.ref o5,V.ref o6,V.ref o7])) l b=some o:=fun nb e=>by
    unfold eV;rw[if_neg nb];exact e
   have odd7:∀x∈[V.bl true,V.bl false,V.non,V.str (Str.ofString (toString zm)),V.ref o5,V.ref o6,V.ref o7],Thg (eV (upd HW tt (.tup [V.bl true,V.bl false,V.non,V.str (Str.ofString (toString zm)),V.ref o5,V.ref o6,V.ref o7])) l) x/\wh x=false:=by
    intro x hx
    simp only[am,bW,or_false] at hx
    rcases hx with rfl | rfl | rfl | rfl | rfl | rfl | rfl
    ·exact⟨.bl true,rfl⟩
    ·exact⟨.bl false,rfl⟩
    ·exact⟨.non,rfl⟩
    ·exact⟨.str hstr,rfl⟩
    ·exact⟨.lst (b1_ n5 (u4 _ _ (u3 _ _ (u2 _ _ f1)))),rfl⟩
    ·exact⟨.tup (b1_ n6 (u4 _ _ (u3 _ _ f2))),rfl⟩
    ·exact⟨.dK (b1_ n7 (u4 _ _ f3)),rfl⟩
   have bad13:=fun x hx=>(bad13 x hx).same (ka (l:=l) uT4)
   have v4:=fX uT4 vT
   have b4:=bT.trans (But.of_same uT4)
   have w4:=uT4 _ _ wT
   have l4:=uT4 _ _ eT
   have ol:[V.bl true,V.bl false,V.non,V.str (Str.ofString (toString zm)),V.ref o5,V.ref o6,V.ref o7].length=7:=rfl
   generalize [V.bl true,V.bl false,V.non,V.str (Str.ofString (toString zm)),V.ref o5,V.ref o6,V.ref o7]=os at f4 odd7 bad13 v4 b4 w4 l4 ol ⊢
   generalize upd HW tt (.tup os)=HX at f4 odd7 bad13 v4 b4 w4 l4 ⊢
   refine⟨tt,rfl,⟨_,.of f4⟩,?_⟩
   refine fU (xs:=os) (fun j σ H'=>∃o4 xs,σ=[some (.ref p),some (.ref wl),some (.int (m:Int)),some (.ref l),o4]/\H' l=some (.lst xs)/\xs.length=13+2 * j/\(∀x∈xs,BadW (eV H' l) x zs.length)/\But l HX H'/\PenV H' p a/\But p H H') ?_ ?_ ?_ ?_
   ·exact⟨_,xs0,rfl,l4,by rw[len13],bad13,But.refl l HX,v4,b4⟩
   ·rintro j σ H' hj ⟨_,_,rfl,_,_,_,bl,_⟩
    exact .of (bl _ _ nt f4)
   ·rintro j x σ H5 hx ⟨o4,xs,rfl,hl5,hxl,hbad,bl5,v5,b5⟩
    have hj7:=(ai.mp hx).1
    obtain⟨tx,wx⟩:=odd7 x (av hx)
    have w5:=bl5 _ _ nwl w4
    refine⟨_,rfl,.inl ⟨rfl,_,.of hl5⟩,p7 rfl rfl rfl w5 h60 fun c H6 s6 ec hc0=>?_⟩
    have nc:c≠l:=Ne.symm (cL hl5 hc0)
    have hl6:=s6 _ _ hl5
    have bl6:=bl5.trans (But.of_same s6)
    refine⟨l,_,_,rfl,rfl,hl6,cN (by rw[hxl];omega),?_⟩
    have t6:=tx.same (ou bl6)
    have bc:BadW (eV H6 l) (.ref c) zs.length:=lG (.inl (gI nc ec)) (oK t6) (oY h60) pe wx
    have e7:upd H6 l (.lst (xs++[V.ref c])) l=some (.lst (xs++[V.ref c])):=cF
    have bad7:∀y∈xs++[V.ref c],BadW (eV (upd H6 l (.lst (xs++[V.ref c]))) l) y zs.length:=fun y hy=>by
     rw[jC]
     rcases ar.mp hy with hy | hy
     ·exact(hbad y hy).same (ka s6)
     ·rw[aI.mp hy];exact bc
    have bl7:But l HX (upd H6 l (.lst (xs++[V.ref c]))):=bl6.trans But.upd
    have v7:PenV (upd H6 l (.lst (xs++[V.ref c]))) p a:=(fX s6 v5).upd hl0'
    have b7:But p H (upd H6 l (.lst (xs++[V.ref c]))):=(b5.trans (But.of_same s6)).at lfree
    generalize upd H6 l (.lst (xs++[V.ref c]))=H7 at e7 bad7 bl7 v7 b7 ⊢
    refine⟨_,rfl,.inl ⟨rfl,_,.of e7⟩,p7 rfl rfl rfl (bl7 _ _ nwl w4) h60 fun c' H8 s8 ec8 hc80=>⟨c',_,rfl,.of ec8,fun t9 ht9=>?_⟩⟩
    have s9:=Same.new (o:=.tup (dA (cO zs) none (some (m:Int))++[x]++dA (cO zs) (some ((m:Int)+1)) none)) ht9
    have e9:upd H8 t9 (.tup (dA (cO zs) none (some (m:Int))++[x]++dA (cO zs) (some ((m:Int)+1)) none)) t9=some (.tup (dA (cO zs) none (some (m:Int))++[x]++dA (cO zs) (some ((m:Int)+1)) none)):=cF
    generalize upd H8 t9 (.tup (dA (cO zs) none (some (m:Int))++[x]++dA (cO zs) (some ((m:Int)+1)) none))=H9 at s9 e9 ⊢
    have s79:=s8.trans s9
    have l9:=s79 _ _ e7
    have n9:t9≠l:=Ne.symm (cL (s8 _ _ e7) ht9)
    have bl9:=bl7.trans (But.of_same s79)
    refine⟨l,_,_,rfl,rfl,l9,cN (by rw[az,hxl];show 13+2 * j+1<=1000;omega),?_⟩
    have bt:BadW (eV H9 l) (.ref t9) zs.length:=lG (.inr (gI n9 e9)) (oK (tx.same (ou bl9))) (oY h60) pe wx
    refine⟨_,(xs++[V.ref c])++[V.ref t9],rfl,cF,?_,fun y hy=>?_,bl9.trans But.upd,(fX s79 v7).upd hl0',(b7.trans (But.of_same s79)).at lfree⟩
    ·rw[az,az,hxl];show 13+2 * j+1+1=13+2 * (j+1);omega
    ·rw[jC]
     rcases ar.mp hy with hy | hy
     ·exact(bad7 y hy).same (ka s79)
     ·rw[aI.mp hy];exact bt
   ·rintro σ H5 ⟨o4,xs,rfl,hl5,hxl,hbad,bl5,v5,b5⟩
    exact⟨_,rfl,k l xs H5 hl5 (by rw[hxl,ol];decide) (fun x hx=>(hbad x hx).same pM) (Ne.symm hl0') v5 b5⟩
  ·exact⟨_,rfl,k l0 _ HK (sE _ _ eJ) (by show 9<=1000;decide) bad9 (Ne.symm hp0) vK bK⟩
theorem tM {Pt:Addr}{H H':Hp}(s:SameK Pt H H'):Same (eV H Pt) H':=fun b u e=>by
 unfold eV at e
 by_cases q:b=Pt
 ·rw[if_pos q] at e;cases e
 ·rw[if_neg q] at e;exact s b u q e
theorem p0 {Pt:Addr}{H:Hp}{x:V}(h:Thg H x) (tb:TbK Pt H):Thg (eV H Pt) x:=by
 cases h with
 | non=>exact .non
 | bl b=>exact .bl b
 | int i=>exact .int i
 | str z=>exact .str z
 | lst e=>exact .lst (gI (tb.ne e (fun _ z=>by cases z)) e)
 | tup e=>exact .tup (gI (tb.ne e (fun _ z=>by cases z)) e)
 | dK e=>exact .dK (gI (tb.ne e (fun _ z=>by cases z)) e)
 | dT e=>exact .dT (gI (tb.ne e (fun _ z=>by cases z)) e)
theorem BadW.sameK {Pt:Addr}{H H':Hp}{x:V}{n:Nat}(h:BadW H x n) (tb:TbK Pt H) (s:SameK Pt H H'):BadW H' x n:=by
 refine BadW.same (H:=eV H Pt) ?_ (tM s)
 rcases h with⟨h,h1,h2⟩ | ⟨a,ys,e,h1,h2,h3⟩
 ·have t:=p0 h tb
  obtain⟨e1,e2⟩:=kW t (pM (H:=H) (l:=Pt))
  exact .inl ⟨t,e1.symm.trans h1,e2.symm.trans h2⟩
 ·refine .inr ⟨a,ys,e,?_,fun y hy=>p0 (h2 y hy) tb,h3⟩
  rcases h1 with h1 | h1
  ·exact .inl (gI (tb.ne h1 (fun _ z=>by cases z)) h1)
  ·exact .inr (gI (tb.ne h1 (fun _ z=>by cases z)) h1)
theorem TbK.bu {Pt p:Addr}{H H':Hp}(h:TbK Pt H) (n:Pt≠p) (b:But p H H') (hp:∃ys,H p=some (.lst ys)):TbK Pt H':=by
 obtain⟨ps,c⟩:=h
 obtain⟨ys,hp⟩:=hp
 refine⟨ps,c.tri,b _ _ n c.at_,c.code.imp id fun ⟨c',oc,g1,g2,g3⟩=>⟨c',oc,g1,b _ _ (ft g2 hp (by intro z;cases z)) g2,g3⟩⟩
def DueV (y:V) (ss:List Str) (es:List (Nat × Nat)) (H:Hp) (x:V):Prop:=(MG.Ris es/\x=y)∨((∃e∈es,MG.RingAt es e)/\∃l i e k ws,x=.ref l/\MG.FirstR es i e/\MG.To es e.1 k e.2/\MG.Wy es e.1 k e.2 ws/\H l=some (.lst (List.map V.str ((e.1::ws.dropLast).map (nmA ss)))))
theorem DueV.sameK {Pt:Addr}{y x:V}{ss:List Str}{es:List (Nat × Nat)}{H H':Hp}(h:DueV y ss es H x) (tb:TbK Pt H) (s:SameK Pt H H'):DueV y ss es H' x:=by
 rcases h with h | ⟨r,l,i,e,k,ws,h1,h2,h3,h4,h5⟩
 ·exact .inl h
 ·exact .inr ⟨r,l,i,e,k,ws,h1,h2,h3,h4,s.at tb h5⟩
theorem DueV.rep {y:V}{ss:List Str}{es:List (Nat × Nat)}(nm:∀s ∈ ss, Nm s) (val:dZ ss es) (h60:ss.length <= 60) {d0:PyData}(S0:Shw d0) (r0:∀H, Rep H y d0):∃d, Shw d /\ ∀H x, DueV y ss es H x -> Rep H x d := by
 by_cases q:∃e∈es,MG.RingAt es e
 ·by_cases q2:∃H x, DueV y ss es H x
  ·obtain⟨H, x, h⟩ := q2
   rcases h with⟨ris,_⟩ | ⟨_,l,i,e,k,ws,_,fr,to1,wy,_⟩
   ·obtain⟨e,he,hr⟩:=q
    exact absurd hr (ris.noring e he)
   ·have hev:=val e (av fr.1)
    obtain⟨hwl,hwn⟩:=nZ val hev.1 to1 wy
    have hwd:∀x∈e.1::ws.dropLast,x<ss.length:=fun x hx=>by
     rcases am.mp hx with rfl | hx
     ·exact hev.1
     ·exact hwn x (List.dropLast_subset _ hx)
    have hwdl:(e.1::ws.dropLast).length<=61:=by rw[aN,cA];omega
    refine⟨_,uP nm hwd (by omega),fun H' x' h'=>?_⟩
    rcases h' with⟨ris,_⟩ | ⟨_,l',i',e',k',ws',rfl,fr',to',wy',hl'⟩
    ·obtain⟨e,he,hr⟩:=q
     exact absurd hr (ris.noring e he)
    ·have ee:=fr'.uniq fr
     subst ee
     have ek:=MG.Dst.uniq to' to1
     subst ek
     have ew:=wy'.uniq wy
     subst ew
     exact rY hl'
  ·exact⟨d0,S0,fun H x h=>absurd ⟨H,x,h⟩ q2⟩
 ·refine⟨d0,S0,fun H x h=>?_⟩
  rcases h with⟨_,rfl⟩ | ⟨r,_⟩
  ·exact r0 H
  ·exact absurd r q
theorem we:Shw (.str "weights"):=⟨by unfold shp;decide +kernel,by decide +kernel,by decide +kernel,by decide +kernel,by decide +kernel⟩
theorem rj {n t:Addr}{ss:List Str}{es:List (Nat × Nat)}{H:Hp}{Q:VK}{E:XK}(hB:Built H n t ss es) (h:∀y HC,Same H HC->(∀l,y=.ref l->H l=none)->DueV .non ss es HC y->Q y HC):kt [.ref n,.ref t] H Q E :=
 ⟨n,t,ss,es,rfl,hB,fun hno H5 s5=>h _ H5 s5 (fun l z=>by cases z) (.inl ⟨MG.ris_of hno hB.val,rfl⟩),fun l i e kk ws H5 fr to1 wy s5 hl0 hl=>h _ H5 s5 (fun l' z=>by cases z;exact hl0) (.inr ⟨⟨e,av fr.1,fr.2.1⟩,l,i,e,kk,ws,rfl,fr,to1,wy,hl⟩)⟩
theorem DueV.but {p:Addr}{y x:V}{ss:List Str}{es:List (Nat × Nat)}{H H':Hp}(h:DueV y ss es H x) (b:But p H H') (n:∀l,x=.ref l->l≠p):DueV y ss es H' x:=by
 rcases h with h | ⟨r,l,i,e,k,ws,h1,h2,h3,h4,h5⟩
 ·exact .inl h
 ·exact .inr ⟨r,l,i,e,k,ws,h1,h2,h3,h4,b _ _ (n l h1) h5⟩
theorem qP {Pt:Addr}{wd:Str}{q x:V}{ss:List Str}{es:List (Nat × Nat)}{H:Hp}{Q:VK}{E:XK}(W:Web H q ss (es.map (nmP ss))) (val:dZ ss es) (tb:TbK Pt H) {zs:List Int}(hx:IsW H x ss.length zs) (h:∀y HC, SameK Pt H HC -> TbK Pt HC -> DueV .non ss es HC y -> Q y HC):jg Pt [.str wd, q, x] H Q E :=
 ⟨wd, q, x, ss, es, rfl, W, val, tb, .inl ⟨zs, hx⟩, fun ris _ H' s t => h _ H' s t (.inl ⟨ris, rfl⟩), fun ris bad _ _ => by
  obtain⟨hl,a,e,ha⟩:=hx
  subst e
  rcases bad with⟨_,b1,b2⟩ | ⟨a',ys,e,hy,_,_,hbad⟩
  ·rcases ha with ha | ha
   ·rw[iR ha] at b1;cases b1
   ·rw[iM ha] at b2;cases b2
  ·cases e
   have ey:ys=cO zs:=by
    rcases ha with ha | ha <;> rcases hy with hy | hy <;> rw[ha] at hy <;> cases hy <;> rfl
   subst ey
   exact absurd ⟨by rw[show (cO zs).length=zs.length from ac ..];exact hl,bh.mpr fun y hy=>by obtain⟨z,_,rfl⟩:=aq.mp hy;rfl⟩ hbad,
  fun ring i e kk ws r H' fr to1 wy s _ hr=>h _ H' (SameK.of s) (tb.same s) (.inr ⟨ring,r,i,e,kk,ws,rfl,fr,to1,wy,hr⟩)⟩
theorem nh {Pt:Addr}{wd:Str}{q x:V}{ss:List Str}{es:List (Nat × Nat)}{H:Hp}{Q:VK}{E:XK}(W:Web H q ss (es.map (nmP ss))) (val:dZ ss es) (tb:TbK Pt H) (hx:BadW H x ss.length) (h1:wd ≠ "layers") (h2:wd ≠ "longest") (h:∀y HC, SameK Pt H HC -> TbK Pt HC -> DueV (.str "weights") ss es HC y -> Q y HC):jg Pt [.str wd, q, x] H Q E :=
 ⟨wd, q, x, ss, es, rfl, W, val, tb, .inr ⟨hx, h1, h2⟩, fun ris ⟨zs, hg⟩ _ _ _ => by
  obtain⟨hl,a,e,ha⟩:=hg
  subst e
  rcases hx with⟨_,b1,b2⟩ | ⟨a',ys,e,hy,_,_,hbad⟩
  ·rcases ha with ha | ha
   ·rw[iR ha] at b1;cases b1
   ·rw[iM ha] at b2;cases b2
  ·cases e
   have ey:ys=cO zs:=by
    rcases ha with ha | ha <;> rcases hy with hy | hy <;> rw[ha] at hy <;> cases hy <;> rfl
   subst ey
   exact absurd ⟨by rw[show (cO zs).length=zs.length from ac ..];exact hl,bh.mpr fun y hy=>by obtain⟨z,_,rfl⟩:=aq.mp hy;rfl⟩ hbad,
  fun ris _ H' s=>h _ H' (SameK.of s) (tb.same s) (.inl ⟨ris,rfl⟩),
  fun ring i e kk ws r H' fr to1 wy s _ hr=>h _ H' (SameK.of s) (tb.same s) (.inr ⟨ring,r,i,e,kk,ws,rfl,fr,to1,wy,hr⟩)⟩
def qR (Pt:Addr) (K:W.Frag):Sp:=fun vs H Q _=>∃(a:Addr) (ns:List Int),vs=[.ref a]/\SqL K H a (ns.map V.int)/\H Pt=some (.tbl #[])/\∀H',Q (.bl true) H'
theorem scLaw:FnScope ["_law_script","_law_pen","_law_names_here","_law_ties_here","_law_web_here","_law_due","_law_weights","_law_word","_law_some","_law_wrong"] ["_law_script"] (cI i4):=⟨rfl,rfl,rfl,by decide +kernel,rfl,by decide +kernel,by decide +kernel⟩
theorem y4 {f Pt:Addr}{fd:FuncData}(F:Fun K "law" "law" i4 f fd) (B:Blt mg) (c_law_take:Cal P w K mg base 1 "_law_take" ["_law_pen", "_law_many"] (iq K))
    (c_law_built:Cal P w K mg base 4 "_law_built" ["_law_pen"] (mE K)) (c_law_web:Cal P w K mg base 1 "_law_web" ["_law_names_here","_law_ties_here"] qj) (c_law_same:Cal P w K mg base 1 "_law_same" ["_law_found","_law_due"] og)
    (c_law_ring:Cal P w K mg base 2 "_law_ring" ["_law_names_here","_law_ties_here"] kt) (c_law_no_weights:Cal P w K mg base 2 "_law_no_weights" ["_law_pen","_law_weights"] (rf K)) (c_law_heard:Cal P w K mg base 12 "_law_heard" ["_law_word","_law_web_here","_law_weights"] (jg Pt)) :
    FnOk P w K mg base CX0 13 f fd ["_law_script"] (qR Pt K):=by
 refine F.ok scLaw (fun vs H Q E h=>?_) (fun cdv A outer s H vs Q E hr h=>?_)
 ·obtain⟨a,ns,rfl,_⟩:=h
  rfl
 ·obtain⟨a,ns,rfl,hS,hT,k⟩:=h
  have nd:=scLaw.nd
  refine⟨_,(cG (cQ (i:=1) nd rfl (Or.inr rfl) (dC (cC (fF (i8 K) (pv 0) fV (fW cK)) (cC cK (cC cK cE)))))
   (cG (fc (cP c_law_built (hr.mono (by decide)) rfl (cC (pv 1) cE)) (gH (n:=2) K rfl (d4 (cT (i:=2) nd rfl (Or.inl rfl)) (d4 (cT (i:=3) nd rfl (Or.inl rfl)) gB))))
   (cG (cQ (i:=4) nd rfl (Or.inl rfl) (cP c_law_web (hr.mono (by decide)) rfl (cC (pv 2) (cC (pv 3) cE))))
   (cG (cQ (i:=5) nd rfl (Or.inl rfl) (cP c_law_ring (hr.mono (by decide)) rfl (cC (pv 2) (cC (pv 3) cE))))
   (cG (mU (i:=6) nd rfl rfl (by rfl) (cI i4) ["_law_script","_law_pen","_law_names_here","_law_ties_here","_law_web_here","_law_due","_law_weights","_law_word","_law_some","_law_wrong"] ["_law_one"] [1] ["_law_one","_law_pen"] rfl (dI K (pv 2)) (fun _ _ _ _ _=>(cT (i:=0) (show (["_law_one","_law_pen"]:List Str).Nodup by decide) rfl (Or.inl rfl))) (fun _ _ _ _ _=>eM) (fun _ _ _ _ _=>(cW jU (cP c_law_take (hr.mono (by decide)) rfl (cC (pv 1) (cC cK cE))) cK)))
   (cG (dY PassesOwn.never rfl (ei K (d8 (cC fm (cC fm (cC fm (cC fm cE)))))) (cT (i:=7) nd rfl (Or.inl rfl)) (cJ (dY PassesOwn.never rfl (ei K (d8 (cC (pv 6) (cC (iC K B (cC (pv 6) cE)) cE)))) (cT (i:=8) nd rfl (Or.inl rfl)) (cJ (dG (ib (gr (cP c_law_same (hr.mono (by decide)) rfl (cC (cP c_law_heard (hr.mono (by decide)) rfl (cC (pv 7) (cC (pv 4) (cC (pv 8) cE)))) (cC (pv 5) cE))))) (cJ (cS jF)) dk)))))
   (cG (cQ (i:=9) nd rfl (Or.inl rfl) fm)
   (cG (dG (cU im (pv 5) dX (dg _)) (cJ (cQ (i:=9) nd rfl (Or.inl rfl) (pv 5))) dk)
   (cG (dY PassesOwn.never rfl (dI K (cP c_law_no_weights (hr.mono (by decide)) rfl (cC (pv 1) (cC (pv 6) cE)))) (cT (i:=8) nd rfl (Or.inl rfl)) (cJ (dY PassesOwn.never rfl (ei K (d8 (cC fm (cC fm cE)))) (cT (i:=7) nd rfl (Or.inl rfl)) (cJ (dG (ib (gr (cP c_law_same (hr.mono (by decide)) rfl (cC (cP c_law_heard (hr.mono (by decide)) rfl (cC (pv 7) (cC (pv 4) (cC (pv 8) cE)))) (cC (pv 9) cE))))) (cJ (cS jF)) dk)))))
   (cJ (cS (gn (dO hr.units) (pv 4) (cP c_law_web (hr.mono (by decide)) rfl (cC (pv 2) (cC (pv 3) cE))) (dg _))))))))))))),?_⟩
  obtain⟨ns',hns⟩:∃ns',dA (ns.map V.int) none (some 63)=List.map V.int ns':=⟨_,by unfold dA;rw[<- List.map_drop,<- cg]⟩
  refine⟨_,rfl,_,rfl,.lst hS fun a0 ha0=>?_⟩
  rw[hns]
  refine⟨(by show 3<=sizeLine;decide),fun p hp=>?_⟩
  have hP:Pen K (upd (upd H a0 (.lst (List.map V.int ns'))) p (.lst [.ref a0,.int 0,.int 0])) p a0:=Pen.new (ns:=ns') (.of cF) hp ⟨0,0,cF,by decide,by decide⟩
  have hT1:upd H a0 (.lst (List.map V.int ns')) Pt=some (.tbl #[]):=by rw[cH (cL hT ha0)];exact hT
  have nPp:Pt≠p:=cL hT1 hp
  have na0:a0≠p:=cL cF hp
  have hA2:upd (upd H a0 (.lst (List.map V.int ns'))) p (.lst [.ref a0,.int 0,.int 0]) a0=some (.lst (List.map V.int ns')):=by rw[cH na0];exact cF
  have hT2:upd (upd H a0 (.lst (List.map V.int ns'))) p (.lst [.ref a0,.int 0,.int 0]) Pt=some (.tbl #[]):=by rw[cH nPp];exact hT1
  generalize upd (upd H a0 (.lst (List.map V.int ns'))) p (.lst [.ref a0,.int 0,.int 0])=H2 at hP hT2 hA2 ⊢
  refine⟨_,rfl,p,a0,rfl,hP,fun q n t ss es H3 hq hB hnp htp v3 b3=>⟨q,_,rfl,.of hq,rfl,_,_,rfl,_,_,rfl,rfl,?_⟩⟩
  have hT3:=b3 Pt _ nPp hT2
  have hA3:=b3 a0 _ na0 hA2
  refine⟨_,rfl,_,rfl,n,t,ss,es,rfl,hB,fun wq H4 s4 rw4=>?_⟩
  have W4:=yM hB rw4
  have hB4:=hB.same s4
  have hT4:=s4 _ _ hT3
  have hA4:=s4 _ _ hA3
  have hP4:=hP.but (b3.trans (But.of_same s4)) (fX s4 v3)
  have h60:=hB.len
  have val:dZ ss es:=hB.val
  clear hB rw4 hq b3 v3 hT hT1 hT2 hT3 hS hP s4 hA2 hA3
  refine⟨_,rfl,_,rfl,jE ?_⟩
  refine rj hB4 fun dv HC sC dfree due=>?_
  have W:=W4.same sC
  have hBC:=hB4.same sC
  have hTC:=sC _ _ hT4
  have hAC:=sC _ _ hA4
  have hPC:=hP4.but (But.of_same sC) (fX sC hP4.2)
  obtain⟨ys4,hp4⟩:=jG hP4.2
  have dnp:∀l,dv=.ref l->l≠p:=fun l e z=>by rw[z] at e;have:=dfree p e;rw[hp4] at this;cases this
  clear W4 hB4 hT4 hA4 hP4 sC dfree hp4
  refine⟨_,rfl,n,rfl,⟨_,.of hBC.nm⟩,?_⟩
  refine fg (List.map V.str ss) (fun D i acc σ' H'=>∃o zs,σ'=[o,some (.ref p)]/\acc=cO zs/\zs.length=i/\(∀z∈zs,z.natAbs<=20)/\PenV H' p a0/\But p HC H'/\HC D=none/\p≠D) fun D hD=>⟨?_,?_,?_,?_⟩
  ·have hpD:=hPC.2.ne hD
   exact⟨none,[],rfl,rfl,rfl,(fun z hz=>by cases hz),hPC.2.upd hpD,(But.refl p HC).at hD,hD,hpD⟩
  ·rintro i acc σ' H' _ ⟨o,zs,rfl,_,_,_,v',b',_⟩ _
   exact .of (b' _ _ hnp hBC.nm)
  ·rintro i acc σ' H' x hx ⟨o,zs,rfl,rfl,hzl,h20,v',b',hD0,hpD⟩ hacc
   have hi:=(ai.mp hx).1
   rw[ac] at hi
   refine gK ?_
   refine⟨_,rfl,p,a0,41,rfl,hPC.but b' v',by decide,by decide,fun r H5 h0 h1 v5 e5=>⟨_,_,rfl,rfl,?_⟩⟩
   refine⟨(e5 D (Ne.symm hpD)).trans hacc,?_,_,zs++[r-20],rfl,?_,?_,fun z hz=>?_,v5.upd hpD,(b'.trans (But.of_eq e5)).at hD0,hD0,hpD⟩
   ·unfold cO;rw[ac];exact cN (by omega)
   ·unfold cO;rw[aj];rfl
   ·rw[az,hzl];rfl
   ·rcases ar.mp hz with hz | hz
    ·exact h20 z hz
    ·rw[aI.mp hz];omega
  rintro acc σ' H6 ⟨o,zs,rfl,rfl,hzl,h20,v6,b6,hD0,hpD⟩ hw6
  rw[ac] at hzl
  obtain⟨wl,ewl⟩:∃wl,wl=D:=⟨_,rfl⟩
  rw[<- ewl] at hw6 hpD hD0 ⊢
  have nwp:wl≠p:=Ne.symm hpD
  obtain⟨ysC,hpC⟩:=jG hPC.2
  have W6:=mB hpC b6 W
  have hB6:=hBC.but hpC b6 hnp htp
  have hT6:=b6 _ _ nPp hTC
  have hA6:=b6 _ _ na0 hAC
  have due6:=due.but b6 dnp
  have tb6:TbK Pt H6:=⟨#[],trivial,hT6,.inl rfl⟩
  clear W hBC hTC hAC due hPC hpC b6 ewl
  obtain⟨d,S,hd⟩:=DueV.rep (y:=V.non) W6.nm val h60 (d0:=.none) ⟨by rfl,by rfl,by rfl,by decide,by decide⟩ (fun H=>.non)
  refine⟨(by show 4<=sizeLine;decide),fun tw htw=>⟨tw,rfl,⟨_,.of cF⟩,?_⟩⟩
  have s7:=Same.new (o:=.tup [V.str "layers",V.str "longest",V.str "depths",V.str "deepest"]) htw
  have e7:upd H6 tw (.tup [V.str "layers",V.str "longest",V.str "depths",V.str "deepest"]) tw=some (.tup [V.str "layers",V.str "longest",V.str "depths",V.str "deepest"]):=cF
  generalize upd H6 tw (.tup [V.str "layers",V.str "longest",V.str "depths",V.str "deepest"])=H7 at s7 e7 ⊢
  have t7:=tb6.same s7
  refine fU (xs:=[V.str "layers",V.str "longest",V.str "depths",V.str "deepest"]) (fun j σ H'=>∃o7 o8 o9,σ=[some (.ref a),some (.ref p),some (.ref n),some (.ref t),some (.ref wq),some dv,some (.ref wl),o7,o8,o9]/\SameK Pt H7 H'/\TbK Pt H') ⟨_,_,_,rfl,SameK.of (Same.refl _),t7⟩ ?_ ?_ ?_
  ·rintro j σ H' hj ⟨_,_,_,rfl,sK,_⟩
   exact .of (sK.at t7 e7)
  ·rintro j x σ H8 hx ⟨o7, o8, o9, rfl, s8, t8⟩
   have s68:SameK Pt H6 H8:=(SameK.of s7).trans s8
   obtain⟨wd,rfl⟩:∃wd:Str,x=.str wd:=by
    have:=av hx
    simp only[am,bW,or_false] at this
    rcases this with rfl | rfl | rfl | rfl <;> exact⟨_,rfl⟩
   have w8:=s68.at tb6 hw6
   refine⟨_,rfl,_,rfl,wl,_,rfl,.of w8,fun tt htt=>⟨(by show 2<=sizeLine;decide),fun tq htq=>?_⟩⟩
   have sA:=Same.new (o:=.tup (cO zs)) htt
   have eA:upd H8 tt (.tup (cO zs)) tt=some (.tup (cO zs)):=cF
   generalize upd H8 tt (.tup (cO zs))=HA at sA eA htq ⊢
   have sB:=Same.new (o:=.tup [V.ref wl,V.ref tt]) htq
   have eB:upd HA tq (.tup [V.ref wl,V.ref tt]) tq=some (.tup [V.ref wl,V.ref tt]):=cF
   generalize upd HA tq (.tup [V.ref wl,V.ref tt])=HB at sB eB ⊢
   have sAB:=sA.trans sB
   have tB:=t8.same sAB
   have s6B:SameK Pt H6 HB:=s68.trans (SameK.of sAB)
   have wB:=sAB _ _ w8
   have ttB:=sB _ _ eA
   refine⟨tq,rfl,⟨_,.of eB⟩,?_⟩
   refine fU (xs:=[V.ref wl,V.ref tt]) (fun j σ H'=>∃o8,σ=[some (.ref a),some (.ref p),some (.ref n),some (.ref t),some (.ref wq),some dv,some (.ref wl),some (.str wd),o8,o9]/\SameK Pt HB H'/\TbK Pt H') ⟨_,rfl,SameK.of (Same.refl _),tB⟩ ?_ ?_ ?_
   ·rintro j σ H' hj ⟨_,rfl,sK,_⟩
    exact .of (sK.at tB eB)
   ·rintro j z σ HI hz ⟨o8,rfl,sI,tI⟩
    have s6I:=s6B.trans sI
    have hxW:IsW HI z ss.length zs:=by
     have:=av hz
     simp only[am,bW,or_false] at this
     rcases this with rfl | rfl
     ·exact⟨hzl,wl,rfl,.inl (sI.at tB wB)⟩
     ·exact⟨hzl,tt,rfl,.inr (sI.at tB ttB)⟩
    refine⟨_,rfl,_,rfl,_,rfl,jE ?_⟩
    refine qP (jp W6 s6I tb6) val tI hxW fun y HJ sJ tJ dJ=>?_
    refine⟨_,rfl,jE ?_⟩
    refine⟨y,dv,d,rfl,hd _ _ dJ,hd _ _ (due6.sameK tb6 (s6I.trans sJ)),S,_,rfl,gM ?_⟩
    exact⟨_,rfl,sI.trans sJ,tJ⟩
   ·rintro σ HI ⟨o8,rfl,sI,tI⟩
    exact⟨_,_,_,rfl,(s8.trans (SameK.of sAB)).trans sI,tI⟩
  ·rintro σ HX ⟨o7, o8, o9, rfl, s7X, tX⟩
   have s6X:SameK Pt H6 HX:=(SameK.of s7).trans s7X
   have WX:=jp W6 s6X tb6
   have wX:=s6X.at tb6 hw6
   have hAX:=s6X.at tb6 hA6
   have vX:PenV HX p a0:=by
    obtain⟨i,m,e,q⟩:=v6
    exact⟨i,m,s6X.at tb6 e,q⟩
   have hBX:Built HX n t ss es:=by
    obtain⟨refs,ht,rp⟩:=hB6.ti
    exact⟨s6X.at tb6 hB6.nm,hB6.nd,hB6.ok,hB6.len,⟨refs,s6X.at tb6 ht,(RepAll.cor rp).same (s6X.cor tb6)⟩,hB6.val,hB6.few⟩
   have dueX:=due6.sameK tb6 s6X
   rcases dueX with⟨ris,rfl⟩ | ⟨ring,l,i,e,kk,ws,rfl,fr,to1,wy,hl⟩
   ·have dw:DueV (.str "weights") ss es HX (.str "weights") := .inl ⟨ris, rfl⟩
    refine⟨_,rfl,.non ⟨_,rfl,df (fun h=>absurd h (by decide)) (fun _=>?_)⟩⟩
    refine⟨_,rfl,_,rfl,p,a0,wl,zs,rfl,⟨⟨ns',fun H' b=>.of (b a0 _ na0 hAX)⟩,vX⟩,wX,by omega,h20,nwp,fun ln xs HN hln hxl hbad nlp vN bN=>⟨ln,rfl,⟨_,.of hln⟩,?_⟩⟩
    obtain⟨ys,hpX⟩:=jG vX
    have tbN:TbK Pt HN:=TbK.bu tX nPp bN ⟨_,hpX⟩
    have WN:=mB hpX bN WX
    have hBN:=hBX.but hpX bN hnp htp
    have dwN:=dw.but bN (fun l e=>by cases e)
    obtain⟨dd,SS,hdd⟩:=DueV.rep (y:=V.str "weights") W6.nm val h60 (d0:=.str "weights") we (fun H=>.str _)
    refine gh (xs:=xs) (fun j σ H'=>∃o7 o8,σ=[some (.ref a),some (.ref p),some (.ref n),some (.ref t),some (.ref wq),some .non,some (.ref wl),o7,o8,some (.str "weights")]/\SameK Pt HN H'/\TbK Pt H') ⟨_,_,rfl,SameK.of (Same.refl _),tbN⟩ ?_ ?_ ?_
    ·rintro j σ H' hj ⟨_,_,rfl,sK,_⟩
     exact .of (sK.at tbN hln)
    ·rintro j x σ H8 hx ⟨o7, o8, rfl, s8, t8⟩
     have bx:BadW HN x ss.length:=hzl ▸ hbad x (av hx)
     refine⟨(by show 2<=sizeLine;decide),fun tq htq=>⟨tq,rfl,⟨_,.of cF⟩,?_⟩⟩
     have s9:=Same.new (o:=.tup [V.str "depths",V.str "deepest"]) htq
     have e9:upd H8 tq (.tup [V.str "depths",V.str "deepest"]) tq=some (.tup [V.str "depths",V.str "deepest"]):=cF
     generalize upd H8 tq (.tup [V.str "depths",V.str "deepest"])=H9 at s9 e9 ⊢
     have t9:=t8.same s9
     have sN9:SameK Pt HN H9:=s8.trans (SameK.of s9)
     refine fU (xs:=[V.str "depths",V.str "deepest"]) (fun j σ H'=>∃o7,σ=[some (.ref a),some (.ref p),some (.ref n),some (.ref t),some (.ref wq),some .non,some (.ref wl),o7,some x,some (.str "weights")]/\SameK Pt H9 H'/\TbK Pt H') ⟨_,rfl,SameK.of (Same.refl _),t9⟩ ?_ ?_ ?_
     ·rintro j σ H' hj ⟨_,rfl,sK,_⟩
      exact .of (sK.at t9 e9)
     ·rintro j z σ HI hz ⟨o7,rfl,sI,tI⟩
      obtain⟨wd,hwd,rfl⟩:∃wd:Str,(wd="depths"∨wd="deepest")/\z=.str wd:=by
       have:=av hz
       simp only[am,bW,or_false] at this
       rcases this with rfl | rfl
       ·exact⟨_,.inl rfl,rfl⟩
       ·exact⟨_,.inr rfl,rfl⟩
      have sNI:=sN9.trans sI
      refine⟨_,rfl,_,rfl,_,rfl,jE ?_⟩
      refine nh (jp WN sNI tbN) val tI (bx.sameK tbN sNI) (by rcases hwd with rfl | rfl <;> decide) (by rcases hwd with rfl | rfl <;> decide) fun y HJ sJ tJ dJ=>?_
      refine⟨_,rfl,jE ?_⟩
      refine⟨y,(.str "weights"),dd,rfl,hdd _ _ dJ,hdd _ _ (dwN.sameK tbN (sNI.trans sJ)),SS,_,rfl,gM ?_⟩
      exact⟨_,rfl,sI.trans sJ,tJ⟩
     ·rintro σ HI ⟨o7,rfl,sI,tI⟩
      exact⟨_,_,rfl,sN9.trans sI,tI⟩
    ·rintro σ HI ⟨o7,o8,rfl,sI,tI⟩
     obtain⟨refs,ht,rp⟩:=hBN.ti
     have WI:=jp WN sI tbN
     refine⟨_,rfl,_,rfl,_,rfl,n,t,ss,es,rfl,⟨sI.at tbN hBN.nm,hBN.nd,hBN.ok,hBN.len,⟨refs,sI.at tbN ht,(RepAll.cor rp).same (sI.cor tbN)⟩,hBN.val,hBN.few⟩,fun wq2 H9 s9 r9=>?_⟩
     refine .tr (WI.rep.same s9) r9 (iD WI) (iD WI) ?_
     have e:PyData.eqv (gQ ss (es.map (nmP ss))) (gQ ss (es.map (nmP ss)))=true:=mT (iD WI)
     show Q (.bl (PyData.eqv (gQ ss (es.map (nmP ss))) (gQ ss (es.map (nmP ss))))) _
     rw[e]
     exact k _
   ·have dw:DueV (.str "weights") ss es HX (.ref l) := .inr ⟨ring, l, i, e, kk, ws, rfl, fr, to1, wy, hl⟩
    refine⟨_,rfl,.non ⟨_,rfl,df (fun _=>⟨_,rfl,?_⟩) (fun h=>absurd (by simp) h)⟩⟩
    refine⟨_,rfl,_,rfl,p,a0,wl,zs,rfl,⟨⟨ns',fun H' b=>.of (b a0 _ na0 hAX)⟩,vX⟩,wX,by omega,h20,nwp,fun ln xs HN hln hxl hbad nlp vN bN=>⟨ln,rfl,⟨_,.of hln⟩,?_⟩⟩
    obtain⟨ys,hpX⟩:=jG vX
    have tbN:TbK Pt HN:=TbK.bu tX nPp bN ⟨_,hpX⟩
    have WN:=mB hpX bN WX
    have hBN:=hBX.but hpX bN hnp htp
    have dwN:=dw.but bN dnp
    obtain⟨dd,SS,hdd⟩:=DueV.rep (y:=V.str "weights") W6.nm val h60 (d0:=.str "weights") we (fun H=>.str _)
    refine gh (xs:=xs) (fun j σ H'=>∃o7 o8,σ=[some (.ref a),some (.ref p),some (.ref n),some (.ref t),some (.ref wq),some (.ref l),some (.ref wl),o7,o8,some (.ref l)]/\SameK Pt HN H'/\TbK Pt H') ⟨_,_,rfl,SameK.of (Same.refl _),tbN⟩ ?_ ?_ ?_
    ·rintro j σ H' hj ⟨_,_,rfl,sK,_⟩
     exact .of (sK.at tbN hln)
    ·rintro j x σ H8 hx ⟨o7, o8, rfl, s8, t8⟩
     have bx:BadW HN x ss.length:=hzl ▸ hbad x (av hx)
     refine⟨(by show 2<=sizeLine;decide),fun tq htq=>⟨tq,rfl,⟨_,.of cF⟩,?_⟩⟩
     have s9:=Same.new (o:=.tup [V.str "depths",V.str "deepest"]) htq
     have e9:upd H8 tq (.tup [V.str "depths",V.str "deepest"]) tq=some (.tup [V.str "depths",V.str "deepest"]):=cF
     generalize upd H8 tq (.tup [V.str "depths",V.str "deepest"])=H9 at s9 e9 ⊢
     have t9:=t8.same s9
     have sN9:SameK Pt HN H9:=s8.trans (SameK.of s9)
     refine fU (xs:=[V.str "depths",V.str "deepest"]) (fun j σ H'=>∃o7,σ=[some (.ref a),some (.ref p),some (.ref n),some (.ref t),some (.ref wq),some (.ref l),some (.ref wl),o7,some x,some (.ref l)]/\SameK Pt H9 H'/\TbK Pt H') ⟨_,rfl,SameK.of (Same.refl _),t9⟩ ?_ ?_ ?_
     ·rintro j σ H' hj ⟨_,rfl,sK,_⟩
      exact .of (sK.at t9 e9)
     ·rintro j z σ HI hz ⟨o7,rfl,sI,tI⟩
      obtain⟨wd,hwd,rfl⟩:∃wd:Str,(wd="depths"∨wd="deepest")/\z=.str wd:=by
       have:=av hz
       simp only[am,bW,or_false] at this
       rcases this with rfl | rfl
       ·exact⟨_,.inl rfl,rfl⟩
       ·exact⟨_,.inr rfl,rfl⟩
      have sNI:=sN9.trans sI
      refine⟨_,rfl,_,rfl,_,rfl,jE ?_⟩
      refine nh (jp WN sNI tbN) val tI (bx.sameK tbN sNI) (by rcases hwd with rfl | rfl <;> decide) (by rcases hwd with rfl | rfl <;> decide) fun y HJ sJ tJ dJ=>?_
      refine⟨_,rfl,jE ?_⟩
      refine⟨y,(.ref l),dd,rfl,hdd _ _ dJ,hdd _ _ (dwN.sameK tbN (sNI.trans sJ)),SS,_,rfl,gM ?_⟩
      exact⟨_,rfl,sI.trans sJ,tJ⟩
     ·rintro σ HI ⟨o7,rfl,sI,tI⟩
      exact⟨_,_,rfl,sN9.trans sI,tI⟩
    ·rintro σ HI ⟨o7,o8,rfl,sI,tI⟩
     obtain⟨refs,ht,rp⟩:=hBN.ti
     have WI:=jp WN sI tbN
     refine⟨_,rfl,_,rfl,_,rfl,n,t,ss,es,rfl,⟨sI.at tbN hBN.nm,hBN.nd,hBN.ok,hBN.len,⟨refs,sI.at tbN ht,(RepAll.cor rp).same (sI.cor tbN)⟩,hBN.val,hBN.few⟩,fun wq2 H9 s9 r9=>?_⟩
     refine .tr (WI.rep.same s9) r9 (iD WI) (iD WI) ?_
     have e:PyData.eqv (gQ ss (es.map (nmP ss))) (gQ ss (es.map (nmP ss)))=true:=mT (iD WI)
     show Q (.bl (PyData.eqv (gQ ss (es.map (nmP ss))) (gQ ss (es.map (nmP ss))))) _
     rw[e]
     exact k _
theorem ar1 {us:List Value}(h:us.length=1):∃a,us=[a]:=List.length_eq_one_iff.mp h
theorem ar2 {us:List Value}(h:us.length=2):∃a1 a2,us=[a1,a2]:=by
 obtain⟨a1,t,rfl⟩:=cB h
 obtain⟨a2,rfl⟩:=ar1 (Nat.succ.inj h)
 exact⟨a1,a2,rfl⟩
theorem ar3 {us:List Value}(h:us.length=3):∃a1 a2 a3,us=[a1,a2,a3]:=by
 obtain⟨a1,t,rfl⟩:=cB h
 obtain⟨a2,a3,rfl⟩:=ar2 (Nat.succ.inj h)
 exact⟨a1,a2,a3,rfl⟩
theorem ar4 {us:List Value}(h:us.length=4):∃a1 a2 a3 a4,us=[a1,a2,a3,a4]:=by
 obtain⟨a1,t,rfl⟩:=cB h
 obtain⟨a2,a3,a4,rfl⟩:=ar3 (Nat.succ.inj h)
 exact⟨a1,a2,a3,a4,rfl⟩
theorem wg {K:W.Frag}{h:Heap}{c Pt:Addr}{o2:Obj}{ws:Array Value}{file:Str}{tf tg tt:Tok}{flags text:Int}{inF:Bool}(lZ:K.lookup c=some o2) (qZ1:o2.cls=.type "code") (qZ2:o2.data=.fields ws) (qZ3:ws[11]? = some (.ref Pt)) (qZ4:ws.getD 11 .none=.ref Pt) (qZ5:ws.getD 18 .none=.str file tf) (qZ6:ws.getD 7 .none=.int flags tg) (qZ7:ws.getD 9 .none=.bool inF) (qZ8:ws.getD 10 .none=.int text tt) (qZ9:c≠Pt) (X:K.In h):W.CodeHd h c Pt:=⟨o2,ws,file,tf,flags,tg,inF,text,tt,X _ _ lZ,qZ1,qZ2,qZ3,qZ4,qZ5,qZ6,qZ7,qZ8,qZ9⟩
theorem hd_ex {K:W.Frag}{h:Heap}{fa:Addr}{x:FuncData}{oc:Value}{od:Option Addr}{sl:Array (Option Value)}{c Pt:Addr}{o2:Obj}{ws:Array Value}{file:Str}{tf tg tt:Tok}{flags text:Int}{inF:Bool}(X:K.In h) (a1:W.nsIn K mainGlobals "deepest_among"=some (some (.ref fa))) (l1:K.lookup fa=some ⟨oc,od,.func x,sl⟩) (eZ:x.code=.ref c) (lZ:K.lookup c=some o2) (qZ1:o2.cls=.type "code") (qZ2:o2.data=.fields ws) (qZ3:ws[11]? = some (.ref Pt)) (qZ4:ws.getD 11 .none=.ref Pt) (qZ5:ws.getD 18 .none=.str file tf) (qZ6:ws.getD 7 .none=.int flags tg) (qZ7:ws.getD 9 .none=.bool inF) (qZ8:ws.getD 10 .none=.int text tt) (qZ9:c≠Pt):∃c,W.CodeHd h c Pt:=⟨c,wg lZ qZ1 qZ2 qZ3 qZ4 qZ5 qZ6 qZ7 qZ8 qZ9 X⟩
theorem all_mk {l:W.OpenLaw}{w:World}{K:W.Frag}{h:Heap}{mg:Str->Option Value}{fa f1 f2 f3 f4 f5 f6 f7 f8 f9 f10 f11 f12 f13 f14 f15 f16 f17 f18 f19 f20 f21 f22 f23 f24 f25 f26 f27 f28 f29 f30 f31 f32 f33 f34 f35 f36 f37 f38 f39:Addr}(X:K.In h) (G:h.Ns mainGlobals mg) (hfa:mg "law"=some (.ref fa))
    {od1 an1 od2 an2 od3 an3 od4 an4 od5 an5 od6 an6 od7 an7 od8 an8 od9 an9 od10 an10 od11 an11 od12 an12 od13 an13 od14 an14 od15 an15 od16 an16 od17 an17 od18 an18 od19 an19 od20 an20 od21 an21 od22 an22 od23 an23 od24 an24 od25 an25 od26 an26 od27 an27 od28 an28 od29 an29 od30 an30 od31 an31 od32 an32 od33 an33 od34 an34 od35 an35 od36 an36 od37 an37 od38 an38 od39 an39:Option Addr} {sl1 sl2 sl3 sl4 sl5 sl6 sl7 sl8 sl9 sl10 sl11 sl12 sl13 sl14 sl15 sl16 sl17 sl18 sl19 sl20 sl21 sl22 sl23 sl24 sl25 sl26 sl27 sl28 sl29 sl30 sl31 sl32 sl33 sl34 sl35 sl36 sl37 sl38 sl39:Array (Option Value)} {oc1 kV1 dc1 pm1 cd1 ct1 oc2 kV2 dc2 pm2 cd2 ct2 oc3 kV3 dc3 pm3 cd3 ct3 oc4 kV4 dc4 pm4 cd4 ct4 oc5 kV5 dc5 pm5 cd5 ct5 oc6 kV6 dc6 pm6 cd6 ct6 oc7 kV7 dc7 pm7 cd7 ct7 oc8 kV8 dc8 pm8 cd8 ct8 oc9 kV9 dc9 pm9 cd9 ct9 oc10 kV10 dc10 pm10 cd10 ct10 oc11 kV11 dc11 pm11 cd11 ct11 oc12 kV12 dc12 pm12 cd12 ct12 oc13 kV13 dc13 pm13 cd13 ct13 oc14 kV14 dc14 pm14 cd14 ct14 oc15 kV15 dc15 pm15 cd15 ct15 oc16 kV16 dc16 pm16 cd16 ct16 oc17 kV17 dc17 pm17 cd17 ct17 oc18 kV18 dc18 pm18 cd18 ct18 oc19 kV19 dc19 pm19 cd19 ct19 oc20 kV20 dc20 pm20 cd20 ct20 oc21 kV21 dc21 pm21 cd21 ct21 oc22 kV22 dc22 pm22 cd22 ct22 oc23 kV23 dc23 pm23 cd23 ct23 oc24 kV24 dc24 pm24 cd24 ct24 oc25 kV25 dc25 pm25 cd25 ct25 oc26 kV26 dc26 pm26 cd26 ct26 oc27 kV27 dc27 pm27 cd27 ct27 oc28 kV28 dc28 pm28 cd28 ct28 oc29 kV29 dc29 pm29 cd29 ct29 oc30 kV30 dc30 pm30 cd30 ct30 oc31 kV31 dc31 pm31 cd31 ct31 oc32 kV32 dc32 pm32 cd32 ct32 oc33 kV33 dc33 pm33 cd33 ct33 oc34 kV34 dc34 pm34 cd34 ct34 oc35 kV35 dc35 pm35 cd35 ct35 oc36 kV36 dc36 pm36 cd36 ct36 oc37 kV37 dc37 pm37 cd37 ct37 oc38 kV38 dc38 pm38 cd38 ct38 oc39 kV39 dc39 pm39 cd39 ct39:Value}
    (a1:W.nsIn K mainGlobals "is_whole"=some (some (.ref f1))) (l1:K.lookup f1=some ⟨oc1,od1,.func (W.fnOf "is_whole" "is_whole" (cZ gv) (cV gv) (cI gv) .none kV1 dc1 pm1 an1 cd1 ct1),sl1⟩) (c1:W.codeIn K cd1 "is_whole"=true) (k1:W.keepIn K (.ref f1)=true)
    (a2:W.nsIn K mainGlobals "nexts"=some (some (.ref f2))) (l2:K.lookup f2=some ⟨oc2,od2,.func (W.fnOf "nexts" "nexts" (cZ ig) (cV ig) (cI ig) .none kV2 dc2 pm2 an2 cd2 ct2),sl2⟩) (c2:W.codeIn K cd2 "nexts"=true) (k2:W.keepIn K (.ref f2)=true)
    (a3:W.nsIn K mainGlobals "priors"=some (some (.ref f3))) (l3:K.lookup f3=some ⟨oc3,od3,.func (W.fnOf "priors" "priors" (cZ gx) (cV gx) (cI gx) .none kV3 dc3 pm3 an3 cd3 ct3),sl3⟩) (c3:W.codeIn K cd3 "priors"=true) (k3:W.keepIn K (.ref f3)=true)
    (a4:W.nsIn K mainGlobals "places_of"=some (some (.ref f4))) (l4:K.lookup f4=some ⟨oc4,od4,.func (W.fnOf "places_of" "places_of" (cZ iE) (cV iE) (cI iE) .none kV4 dc4 pm4 an4 cd4 ct4),sl4⟩) (c4:W.codeIn K cd4 "places_of"=true) (k4:W.keepIn K (.ref f4)=true)
    (a5:W.nsIn K mainGlobals "way"=some (some (.ref f5))) (l5:K.lookup f5=some ⟨oc5,od5,.func (W.fnOf "way" "way" (cZ mH) (cV mH) (cI mH) .none kV5 dc5 pm5 an5 cd5 ct5),sl5⟩) (c5:W.codeIn K cd5 "way"=true) (k5:W.keepIn K (.ref f5)=true)
    (a6:W.nsIn K mainGlobals "first_nearer"=some (some (.ref f6))) (l6:K.lookup f6=some ⟨oc6,od6,.func (W.fnOf "first_nearer" "first_nearer" (cZ g9) (cV g9) (cI g9) .none kV6 dc6 pm6 an6 cd6 ct6),sl6⟩) (c6:W.codeIn K cd6 "first_nearer"=true) (k6:W.keepIn K (.ref f6)=true)
    (a7:W.nsIn K mainGlobals "nexts_of_all"=some (some (.ref f7))) (l7:K.lookup f7=some ⟨oc7,od7,.func (W.fnOf "nexts_of_all" "nexts_of_all" (cZ gF) (cV gF) (cI gF) .none kV7 dc7 pm7 an7 cd7 ct7),sl7⟩) (c7:W.codeIn K cd7 "nexts_of_all"=true) (k7:W.keepIn K (.ref f7)=true)
    (a8:W.nsIn K mainGlobals "priors_of_all"=some (some (.ref f8))) (l8:K.lookup f8=some ⟨oc8,od8,.func (W.fnOf "priors_of_all" "priors_of_all" (cZ fR) (cV fR) (cI fR) .none kV8 dc8 pm8 an8 cd8 ct8),sl8⟩) (c8:W.codeIn K cd8 "priors_of_all"=true) (k8:W.keepIn K (.ref f8)=true)
    (a9:W.nsIn K mainGlobals "steps_from"=some (some (.ref f9))) (l9:K.lookup f9=some ⟨oc9,od9,.func (W.fnOf "steps_from" "steps_from" (cZ jj) (cV jj) (cI jj) .none kV9 dc9 pm9 an9 cd9 ct9),sl9⟩) (c9:W.codeIn K cd9 "steps_from"=true) (k9:W.keepIn K (.ref f9)=true)
    (a10:W.nsIn K mainGlobals "ring_by"=some (some (.ref f10))) (l10:K.lookup f10=some ⟨oc10,od10,.func (W.fnOf "ring_by" "ring_by" (cZ iA) (cV iA) (cI iA) .none kV10 dc10 pm10 an10 cd10 ct10),sl10⟩) (c10:W.codeIn K cd10 "ring_by"=true) (k10:W.keepIn K (.ref f10)=true)
    (a11:W.nsIn K mainGlobals "ring_of"=some (some (.ref f11))) (l11:K.lookup f11=some ⟨oc11,od11,.func (W.fnOf "ring_of" "ring_of" (cZ iI) (cV iI) (cI iI) .none kV11 dc11 pm11 an11 cd11 ct11),sl11⟩) (c11:W.codeIn K cd11 "ring_of"=true) (k11:W.keepIn K (.ref f11)=true)
    (a12:W.nsIn K mainGlobals "refuse_ring"=some (some (.ref f12))) (l12:K.lookup f12=some ⟨oc12,od12,.func (W.fnOf "refuse_ring" "refuse_ring" (cZ gY) (cV gY) (cI gY) .none kV12 dc12 pm12 an12 cd12 ct12),sl12⟩) (c12:W.codeIn K cd12 "refuse_ring"=true) (k12:W.keepIn K (.ref f12)=true)
    (a13:W.nsIn K mainGlobals "order_anew"=some (some (.ref f13))) (l13:K.lookup f13=some ⟨oc13,od13,.func (W.fnOf "order_anew" "order_anew" (cZ jo) (cV jo) (cI jo) .none kV13 dc13 pm13 an13 cd13 ct13),sl13⟩) (c13:W.codeIn K cd13 "order_anew"=true) (k13:W.keepIn K (.ref f13)=true)
    (a14:W.nsIn K mainGlobals "is_due"=some (some (.ref f14))) (l14:K.lookup f14=some ⟨oc14,od14,.func (W.fnOf "is_due" "is_due" (cZ iQ) (cV iQ) (cI iQ) .none kV14 dc14 pm14 an14 cd14 ct14),sl14⟩) (c14:W.codeIn K cd14 "is_due"=true) (k14:W.keepIn K (.ref f14)=true)
    (a15:W.nsIn K mainGlobals "depths"=some (some (.ref f15))) (l15:K.lookup f15=some ⟨oc15,od15,.func (W.fnOf "depths" "depths" (cZ gZ) (cV gZ) (cI gZ) .none kV15 dc15 pm15 an15 cd15 ct15),sl15⟩) (c15:W.codeIn K cd15 "depths"=true) (k15:W.keepIn K (.ref f15)=true)
    (a16:W.nsIn K mainGlobals "deepest"=some (some (.ref f16))) (l16:K.lookup f16=some ⟨oc16,od16,.func (W.fnOf "deepest" "deepest" (cZ gt) (cV gt) (cI gt) .none kV16 dc16 pm16 an16 cd16 ct16),sl16⟩) (c16:W.codeIn K cd16 "deepest"=true) (k16:W.keepIn K (.ref f16)=true)
    (a17:W.nsIn K mainGlobals "weights_by_thing"=some (some (.ref f17))) (l17:K.lookup f17=some ⟨oc17,od17,.func (W.fnOf "weights_by_thing" "weights_by_thing" (cZ ik) (cV ik) (cI ik) .none kV17 dc17 pm17 an17 cd17 ct17),sl17⟩) (c17:W.codeIn K cd17 "weights_by_thing"=true) (k17:W.keepIn K (.ref f17)=true)
    (a18:W.nsIn K mainGlobals "are_wholes"=some (some (.ref f18))) (l18:K.lookup f18=some ⟨oc18,od18,.func (W.fnOf "are_wholes" "are_wholes" (cZ fu) (cV fu) (cI fu) .none kV18 dc18 pm18 an18 cd18 ct18),sl18⟩) (c18:W.codeIn K cd18 "are_wholes"=true) (k18:W.keepIn K (.ref f18)=true)
    (a19:W.nsIn K mainGlobals "by_places"=some (some (.ref f19))) (l19:K.lookup f19=some ⟨oc19,od19,.func (W.fnOf "by_places" "by_places" (cZ jr) (cV jr) (cI jr) .none kV19 dc19 pm19 an19 cd19 ct19),sl19⟩) (c19:W.codeIn K cd19 "by_places"=true) (k19:W.keepIn K (.ref f19)=true)
    (a20:W.nsIn K mainGlobals "depths_by_thing"=some (some (.ref f20))) (l20:K.lookup f20=some ⟨oc20,od20,.func (W.fnOf "depths_by_thing" "depths_by_thing" (cZ iT) (cV iT) (cI iT) .none kV20 dc20 pm20 an20 cd20 ct20),sl20⟩) (c20:W.codeIn K cd20 "depths_by_thing"=true) (k20:W.keepIn K (.ref f20)=true)
    (a21:W.nsIn K mainGlobals "deepest_among"=some (some (.ref f21))) (l21:K.lookup f21=some ⟨oc21,od21,.func (W.fnOf "deepest_among" "deepest_among" (cZ gU) (cV gU) (cI gU) .none kV21 dc21 pm21 an21 cd21 ct21),sl21⟩) (c21:W.codeIn K cd21 "deepest_among"=true) (k21:W.keepIn K (.ref f21)=true)
    (a22:W.nsIn K mainGlobals "way_back"=some (some (.ref f22))) (l22:K.lookup f22=some ⟨oc22,od22,.func (W.fnOf "way_back" "way_back" (cZ kC) (cV kC) (cI kC) .none kV22 dc22 pm22 an22 cd22 ct22),sl22⟩) (c22:W.codeIn K cd22 "way_back"=true) (k22:W.keepIn K (.ref f22)=true)
    (a23:W.nsIn K mainGlobals "worth_taking"=some (some (.ref f23))) (l23:K.lookup f23=some ⟨oc23,od23,.func (W.fnOf "worth_taking" "worth_taking" (cZ iP) (cV iP) (cI iP) .none kV23 dc23 pm23 an23 cd23 ct23),sl23⟩) (c23:W.codeIn K cd23 "worth_taking"=true) (k23:W.keepIn K (.ref f23)=true)
    (a24:W.nsIn K mainGlobals "layers"=some (some (.ref f24))) (l24:K.lookup f24=some ⟨oc24,od24,.func (W.fnOf "layers" "layers" (cZ gp) (cV gp) (cI gp) .none kV24 dc24 pm24 an24 cd24 ct24),sl24⟩) (c24:W.codeIn K cd24 "layers"=true) (k24:W.keepIn K (.ref f24)=true)
    (a25:W.nsIn K mainGlobals "longest"=some (some (.ref f25))) (l25:K.lookup f25=some ⟨oc25,od25,.func (W.fnOf "longest" "longest" (cZ gw) (cV gw) (cI gw) .none kV25 dc25 pm25 an25 cd25 ct25),sl25⟩) (c25:W.codeIn K cd25 "longest"=true) (k25:W.keepIn K (.ref f25)=true)
    (a26:W.nsIn K mainGlobals "ones"=some (some (.ref f26))) (l26:K.lookup f26=some ⟨oc26,od26,.func (W.fnOf "ones" "ones" (cZ jA) (cV jA) (cI jA) .none kV26 dc26 pm26 an26 cd26 ct26),sl26⟩) (c26:W.codeIn K cd26 "ones"=true) (k26:W.keepIn K (.ref f26)=true)
    (a27:W.nsIn K mainGlobals "_law_take"=some (some (.ref f27))) (l27:K.lookup f27=some ⟨oc27,od27,.func (W.fnOf "_law_take" "_law_take" (cZ kG) (cV kG) (cI kG) .none kV27 dc27 pm27 an27 cd27 ct27),sl27⟩) (c27:W.codeIn K cd27 "_law_take"=true) (k27:W.keepIn K (.ref f27)=true)
    (a28:W.nsIn K mainGlobals "_law_names"=some (some (.ref f28))) (l28:K.lookup f28=some ⟨oc28,od28,.func (W.fnOf "_law_names" "_law_names" (cZ ie) (cV ie) (cI ie) .none kV28 dc28 pm28 an28 cd28 ct28),sl28⟩) (c28:W.codeIn K cd28 "_law_names"=true) (k28:W.keepIn K (.ref f28)=true)
    (a29:W.nsIn K mainGlobals "_law_tie"=some (some (.ref f29))) (l29:K.lookup f29=some ⟨oc29,od29,.func (W.fnOf "_law_tie" "_law_tie" (cZ mD) (cV mD) (cI mD) .none kV29 dc29 pm29 an29 cd29 ct29),sl29⟩) (c29:W.codeIn K cd29 "_law_tie"=true) (k29:W.keepIn K (.ref f29)=true)
    (a30:W.nsIn K mainGlobals "_law_ties"=some (some (.ref f30))) (l30:K.lookup f30=some ⟨oc30,od30,.func (W.fnOf "_law_ties" "_law_ties" (cZ km) (cV km) (cI km) .none kV30 dc30 pm30 an30 cd30 ct30),sl30⟩) (c30:W.codeIn K cd30 "_law_ties"=true) (k30:W.keepIn K (.ref f30)=true)
    (a31:W.nsIn K mainGlobals "_law_built"=some (some (.ref f31))) (l31:K.lookup f31=some ⟨oc31,od31,.func (W.fnOf "_law_built" "_law_built" (cZ jh) (cV jh) (cI jh) .none kV31 dc31 pm31 an31 cd31 ct31),sl31⟩) (c31:W.codeIn K cd31 "_law_built"=true) (k31:W.keepIn K (.ref f31)=true)
    (a32:W.nsIn K mainGlobals "_law_web"=some (some (.ref f32))) (l32:K.lookup f32=some ⟨oc32,od32,.func (W.fnOf "_law_web" "_law_web" (cZ li) (cV li) (cI li) .none kV32 dc32 pm32 an32 cd32 ct32),sl32⟩) (c32:W.codeIn K cd32 "_law_web"=true) (k32:W.keepIn K (.ref f32)=true)
    (a33:W.nsIn K mainGlobals "_law_same"=some (some (.ref f33))) (l33:K.lookup f33=some ⟨oc33,od33,.func (W.fnOf "_law_same" "_law_same" (cZ kA) (cV kA) (cI kA) .none kV33 dc33 pm33 an33 cd33 ct33),sl33⟩) (c33:W.codeIn K cd33 "_law_same"=true) (k33:W.keepIn K (.ref f33)=true)
    (a34:W.nsIn K mainGlobals "_law_far"=some (some (.ref f34))) (l34:K.lookup f34=some ⟨oc34,od34,.func (W.fnOf "_law_far" "_law_far" (cZ mL) (cV mL) (cI mL) .none kV34 dc34 pm34 an34 cd34 ct34),sl34⟩) (c34:W.codeIn K cd34 "_law_far"=true) (k34:W.keepIn K (.ref f34)=true)
    (a35:W.nsIn K mainGlobals "_law_way"=some (some (.ref f35))) (l35:K.lookup f35=some ⟨oc35,od35,.func (W.fnOf "_law_way" "_law_way" (cZ jz) (cV jz) (cI jz) .none kV35 dc35 pm35 an35 cd35 ct35),sl35⟩) (c35:W.codeIn K cd35 "_law_way"=true) (k35:W.keepIn K (.ref f35)=true)
    (a36:W.nsIn K mainGlobals "_law_ring"=some (some (.ref f36))) (l36:K.lookup f36=some ⟨oc36,od36,.func (W.fnOf "_law_ring" "_law_ring" (cZ iU) (cV iU) (cI iU) .none kV36 dc36 pm36 an36 cd36 ct36),sl36⟩) (c36:W.codeIn K cd36 "_law_ring"=true) (k36:W.keepIn K (.ref f36)=true)
    (a37:W.nsIn K mainGlobals "_law_no_weights"=some (some (.ref f37))) (l37:K.lookup f37=some ⟨oc37,od37,.func (W.fnOf "_law_no_weights" "_law_no_weights" (cZ kY) (cV kY) (cI kY) .none kV37 dc37 pm37 an37 cd37 ct37),sl37⟩) (c37:W.codeIn K cd37 "_law_no_weights"=true) (k37:W.keepIn K (.ref f37)=true)
    (a38:W.nsIn K mainGlobals "_law_heard"=some (some (.ref f38))) (l38:K.lookup f38=some ⟨oc38,od38,.func (W.fnOf "_law_heard" "_law_heard" (cZ ji) (cV ji) (cI ji) .none kV38 dc38 pm38 an38 cd38 ct38),sl38⟩) (c38:W.codeIn K cd38 "_law_heard"=true) (k38:W.keepIn K (.ref f38)=true)
    (a39:W.nsIn K mainGlobals "law"=some (some (.ref f39))) (l39:K.lookup f39=some ⟨oc39,od39,.func (W.fnOf "law" "law" (cZ i4) (cV i4) (cI i4) .none kV39 dc39 pm39 an39 cd39 ct39),sl39⟩) (c39:W.codeIn K cd39 "law"=true) (k39:W.keepIn K (.ref f39)=true)
    (z1:W.nsIn K mainGlobals "len"=some none) (z2:W.nsIn K mainGlobals "range"=some none) (z3:W.nsIn K mainGlobals "abs"=some none) (z4:W.nsIn K mainGlobals "all"=some none) (z5:W.nsIn K mainGlobals "repr"=some none) (z6:W.nsIn K mainGlobals "isinstance"=some none) (z7:W.nsIn K mainGlobals "str"=some none) (z8:W.nsIn K mainGlobals "int"=some none) (z9:W.nsIn K mainGlobals "bool"=some none) (z10:W.nsIn K mainGlobals "enumerate"=some none) (z11:W.nsIn K mainGlobals "list"=some none) (z12:W.nsIn K mainGlobals "tuple"=some none) (z13:W.nsIn K mainGlobals "dict"=some none) (z14:W.nsIn K mainGlobals "min"=some none) (z15:W.nsIn K mainGlobals "max"=some none) (z16:W.nsIn K mainGlobals "zip"=some none)
    {x1 x2 x3 x4 x5 x6 x7 x8 x9 x10 x11 x12 x13 x14 x15 x16 x17 x18 x19 x20:Addr} (r1:W.nsIn K mainGlobals "OrderError"=some (some (.ref x1))) (r2:W.nsIn K mainGlobals "NoWeb"=some (some (.ref x2))) (r3:W.nsIn K mainGlobals "NoText"=some (some (.ref x3))) (r4:W.nsIn K mainGlobals "Ring"=some (some (.ref x4))) (r5:W.nsIn K mainGlobals "NoOrder"=some (some (.ref x5))) (r6:W.nsIn K mainGlobals "NoWeights"=some (some (.ref x6))) (r7:W.nsIn K mainGlobals "NoHouse"=some (some (.ref x7))) (r8:W.nsIn K mainGlobals "NoDeed"=some (some (.ref x8))) (r9:W.nsIn K mainGlobals "NoUnit"=some (some (.ref x9))) (r10:W.nsIn K mainGlobals "Twice"=some (some (.ref x10))) (r11:W.nsIn K mainGlobals "Within"=some (some (.ref x11))) (r12:W.nsIn K mainGlobals "NoTie"=some (some (.ref x12))) (r13:W.nsIn K mainGlobals "Full"=some (some (.ref x13))) (r14:W.nsIn K mainGlobals "Apart"=some (some (.ref x14))) (r15:W.nsIn K mainGlobals "NoWant"=some (some (.ref x15))) (r16:W.nsIn K mainGlobals "TooMany"=some (some (.ref x16))) (r17:W.nsIn K mainGlobals "NoUndo"=some (some (.ref x17))) (r18:W.nsIn K mainGlobals "NoRedo"=some (some (.ref x18))) (r19:W.nsIn K mainGlobals "Clash"=some (some (.ref x19))) (r20:W.nsIn K mainGlobals "NoRow"=some (some (.ref x20)))
    (en:W.specialIn K (.builtin "object.__class__") "__get__"=some (some (.builtin "getset_descriptor.__get__"))) (et:W.takesIn K (.builtin "object.__class__")=some true) (ev:W.nsIn K mainGlobals "ValueError"=some none)
    {N1:Addr} {bs1 bm1 su1:List Value} {nm1 q1:Str} {hd1 ab1:Bool} {sn1:List Str} {co1:Option Bool} {dd1:Option Addr} {ka1 kb1 kc1 kd1 ke1:Option Value}
    (o1:K.lookup x1=some (excClassObj nm1 q1 x1 N1 bs1 bm1 hd1 sn1 su1 ab1 co1 dd1 ka1 kb1 kc1 kd1 ke1 "ValueError.__new__"))
    (u1:W.nsOkIn K N1=true) (ni1:W.nsIn K N1 "__init__"=some none) (tl1:W.tailIn K [.type "ValueError",.type "Exception",.type "BaseException",.type "object"] bm1=true)
    (ga1:W.findIn K (.ref x1) "__getattribute__"=some (some (.builtin "BaseException.__getattribute__"))) (gb1:W.findIn K (.ref x1) "__getattr__"=some none) (ha1:W.findIn K (.ref x1) "__class__"=some (some (.builtin "object.__class__")))
    (hm1:W.mroIn K x1 (.type "object")=some true) (hb1:W.mroIn K x1 (.type "BaseException")=some true) (cl1:(W.clsIn K x1).isSome=true)
    (p1:bm1.contains (.type "BaseException")=true) (q_1:(Value.ref x1::bm1).contains (.ref x1)=true) (w1:W.kitOne K (.ref x1) (.type "ValueError")=some true)
    {N4:Addr} {bs4 bm4 su4:List Value} {nm4 q4:Str} {hd4 ab4:Bool} {sn4:List Str} {co4:Option Bool} {dd4:Option Addr} {ka4 kb4 kc4 kd4 ke4:Option Value}
    (o4:K.lookup x4=some (excClassObj nm4 q4 x4 N4 bs4 bm4 hd4 sn4 su4 ab4 co4 dd4 ka4 kb4 kc4 kd4 ke4 "ValueError.__new__"))
    {fi4:Addr} {iod4 ian4:Option Addr} {isl4:Array (Option Value)} {ikV4 idc4 ipm4 icd4 ict4:Value}
    (u4:W.nsOkIn K N4=true) (ni4:W.nsIn K N4 "__init__"=some (some (.ref fi4))) (tl4:W.tailIn K bmV bm4=true)
    (il4:K.lookup fi4=some ⟨.type "function",iod4,.func (W.fnOf "__init__" "Ring.__init__" (cZ gz) (cV gz) (cI gz) .none ikV4 idc4 ipm4 ian4 icd4 ict4),isl4⟩) (ic4:W.codeIn K icd4 "Ring.__init__"=true) (ik4:W.keepIn K (.ref fi4)=true) (kc4:W.keepIn K (.ref x4)=true)
    (sa4:W.findIn K (.ref x4) "__setattr__"=some (some (.builtin "object.__setattr__"))) (po4:(W.clsIn K x4).any (fun cd=>nV cd.mro)=true) (na4:W.findIn K (.ref x4) "ring"=some none) (hd_4:W.hasDictIn K x4=true)
    (ga4:W.findIn K (.ref x4) "__getattribute__"=some (some (.builtin "BaseException.__getattribute__"))) (gb4:W.findIn K (.ref x4) "__getattr__"=some none) (ha4:W.findIn K (.ref x4) "__class__"=some (some (.builtin "object.__class__")))
    (hm4:W.mroIn K x4 (.type "object")=some true) (hb4:W.mroIn K x4 (.type "BaseException")=some true) (cl4:(W.clsIn K x4).isSome=true)
    (p4:bm4.contains (.type "BaseException")=true) (q_4:(Value.ref x4::bm4).contains (.ref x1)=true) (w4:W.kitOne K (.ref x4) (.type "ValueError")=some true)
    (g4_1:W.kitOne K (.ref x4) (.ref x1)=some true) (g4_2:W.kitOne K (.ref x4) (.ref x2)=some false) (g4_3:W.kitOne K (.ref x4) (.ref x3)=some false) (g4_4:W.kitOne K (.ref x4) (.ref x4)=some true) (g4_5:W.kitOne K (.ref x4) (.ref x5)=some false) (g4_6:W.kitOne K (.ref x4) (.ref x6)=some false) (g4_7:W.kitOne K (.ref x4) (.ref x7)=some false) (g4_8:W.kitOne K (.ref x4) (.ref x8)=some false) (g4_9:W.kitOne K (.ref x4) (.ref x9)=some false) (g4_10:W.kitOne K (.ref x4) (.ref x10)=some false) (g4_11:W.kitOne K (.ref x4) (.ref x11)=some false) (g4_12:W.kitOne K (.ref x4) (.ref x12)=some false) (g4_13:W.kitOne K (.ref x4) (.ref x13)=some false) (g4_14:W.kitOne K (.ref x4) (.ref x14)=some false) (g4_15:W.kitOne K (.ref x4) (.ref x15)=some false) (g4_16:W.kitOne K (.ref x4) (.ref x16)=some false) (g4_17:W.kitOne K (.ref x4) (.ref x17)=some false) (g4_18:W.kitOne K (.ref x4) (.ref x18)=some false) (g4_19:W.kitOne K (.ref x4) (.ref x19)=some false) (g4_20:W.kitOne K (.ref x4) (.ref x20)=some false)
    {N6:Addr} {bs6 bm6 su6:List Value} {nm6 q6:Str} {hd6 ab6:Bool} {sn6:List Str} {co6:Option Bool} {dd6:Option Addr} {ka6 kb6 kc6 kd6 ke6:Option Value}
    (o6:K.lookup x6=some (excClassObj nm6 q6 x6 N6 bs6 bm6 hd6 sn6 su6 ab6 co6 dd6 ka6 kb6 kc6 kd6 ke6 "ValueError.__new__"))
    (u6:W.nsOkIn K N6=true) (ni6:W.nsIn K N6 "__init__"=some none) (tl6:W.tailIn K [.type "ValueError",.type "Exception",.type "BaseException",.type "object"] bm6=true)
    (ga6:W.findIn K (.ref x6) "__getattribute__"=some (some (.builtin "BaseException.__getattribute__"))) (gb6:W.findIn K (.ref x6) "__getattr__"=some none) (ha6:W.findIn K (.ref x6) "__class__"=some (some (.builtin "object.__class__")))
    (hm6:W.mroIn K x6 (.type "object")=some true) (hb6:W.mroIn K x6 (.type "BaseException")=some true) (cl6:(W.clsIn K x6).isSome=true)
    (p6:bm6.contains (.type "BaseException")=true) (q_6:(Value.ref x6::bm6).contains (.ref x1)=true) (w6:W.kitOne K (.ref x6) (.type "ValueError")=some true)
    (g6_1:W.kitOne K (.ref x6) (.ref x1)=some true) (g6_2:W.kitOne K (.ref x6) (.ref x2)=some false) (g6_3:W.kitOne K (.ref x6) (.ref x3)=some false) (g6_4:W.kitOne K (.ref x6) (.ref x4)=some false) (g6_5:W.kitOne K (.ref x6) (.ref x5)=some false) (g6_6:W.kitOne K (.ref x6) (.ref x6)=some true) (g6_7:W.kitOne K (.ref x6) (.ref x7)=some false) (g6_8:W.kitOne K (.ref x6) (.ref x8)=some false) (g6_9:W.kitOne K (.ref x6) (.ref x9)=some false) (g6_10:W.kitOne K (.ref x6) (.ref x10)=some false) (g6_11:W.kitOne K (.ref x6) (.ref x11)=some false) (g6_12:W.kitOne K (.ref x6) (.ref x12)=some false) (g6_13:W.kitOne K (.ref x6) (.ref x13)=some false) (g6_14:W.kitOne K (.ref x6) (.ref x14)=some false) (g6_15:W.kitOne K (.ref x6) (.ref x15)=some false) (g6_16:W.kitOne K (.ref x6) (.ref x16)=some false) (g6_17:W.kitOne K (.ref x6) (.ref x17)=some false) (g6_18:W.kitOne K (.ref x6) (.ref x18)=some false) (g6_19:W.kitOne K (.ref x6) (.ref x19)=some false) (g6_20:W.kitOne K (.ref x6) (.ref x20)=some false)
    {c Pt:Addr} {o2:Obj} {ws:Array Value} {file:Str} {tf tg tt:Tok} {flags text:Int} {inF:Bool} (eZ:cd21=.ref c) (lZ:K.lookup c=some o2) (qZ1:o2.cls=.type "code") (qZ2:o2.data=.fields ws) (qZ3:ws[11]? = some (.ref Pt)) (qZ4:ws.getD 11 .none=.ref Pt) (qZ5:ws.getD 18 .none=.str file tf) (qZ6:ws.getD 7 .none=.int flags tg) (qZ7:ws.getD 9 .none=.bool inF) (qZ8:ws.getD 10 .none=.int text tt) (qZ9:c≠Pt)
    : ∃fd:FuncData,(∀(s:Shared) (v:Value),BindsTo s fd ⟨[v],[]⟩ [("_law_script",v)])/\∀base:Heap,K.In base->base.Ns mainGlobals mg->base.BuiltinsAt mg Pt->FnOk l.prog w K mg base CX0 13 fa fd ["_law_script"] (qR Pt K):=by
 have e:=hfa.symm.trans (W.mg_of X G a39)
 cases e
 have B:Blt mg:=⟨W.mg_none_of X G z1,W.mg_none_of X G z2,W.mg_none_of X G z3,W.mg_none_of X G z4,W.mg_none_of X G z5,W.mg_none_of X G z6,W.mg_none_of X G z7,W.mg_none_of X G z8,W.mg_none_of X G z9,W.mg_none_of X G z10,W.mg_none_of X G z11,W.mg_none_of X G z12,W.mg_none_of X G z13,W.mg_none_of X G z14,W.mg_none_of X G z15⟩
 have Zzip:=W.mg_none_of X G z16
 have F1:=di (st:=gv) l1 c1 k1
 have F2:=di (st:=ig) l2 c2 k2
 have F3:=di (st:=gx) l3 c3 k3
 have F4:=di (st:=iE) l4 c4 k4
 have F5:=di (st:=mH) l5 c5 k5
 have F6:=di (st:=g9) l6 c6 k6
 have F7:=di (st:=gF) l7 c7 k7
 have F8:=di (st:=fR) l8 c8 k8
 have F9:=di (st:=jj) l9 c9 k9
 have F10:=di (st:=iA) l10 c10 k10
 have F11:=di (st:=iI) l11 c11 k11
 have F12:=di (st:=gY) l12 c12 k12
 have F13:=di (st:=jo) l13 c13 k13
 have F14:=di (st:=iQ) l14 c14 k14
 have F15:=di (st:=gZ) l15 c15 k15
 have F16:=di (st:=gt) l16 c16 k16
 have F17:=di (st:=ik) l17 c17 k17
 have F18:=di (st:=fu) l18 c18 k18
 have F19:=di (st:=jr) l19 c19 k19
 have F20:=di (st:=iT) l20 c20 k20
 have F21:=di (st:=gU) l21 c21 k21
 have F22:=di (st:=kC) l22 c22 k22
 have F23:=di (st:=iP) l23 c23 k23
 have F24:=di (st:=gp) l24 c24 k24
 have F25:=di (st:=gw) l25 c25 k25
 have F26:=di (st:=jA) l26 c26 k26
 have F27:=di (st:=kG) l27 c27 k27
 have F28:=di (st:=ie) l28 c28 k28
 have F29:=di (st:=mD) l29 c29 k29
 have F30:=di (st:=km) l30 c30 k30
 have F31:=di (st:=jh) l31 c31 k31
 have F32:=di (st:=li) l32 c32 k32
 have F33:=di (st:=kA) l33 c33 k33
 have F34:=di (st:=mL) l34 c34 k34
 have F35:=di (st:=jz) l35 c35 k35
 have F36:=di (st:=iU) l36 c36 k36
 have F37:=di (st:=kY) l37 c37 k37
 have F38:=di (st:=ji) l38 c38 k38
 have F39:=di (st:=i4) l39 c39 k39
 have b1:=F1.binds (ps:=["thing"]) fun _ _ _ _ _ _ us hl=>by obtain⟨_,rfl⟩:=ar1 hl;rfl
 have b2:=F2.binds (ps:=["web","one"]) fun _ _ _ _ _ _ us hl=>by obtain⟨_,_,rfl⟩:=ar2 hl;rfl
 have b3:=F3.binds (ps:=["web","one"]) fun _ _ _ _ _ _ us hl=>by obtain⟨_,_,rfl⟩:=ar2 hl;rfl
 have b4:=F4.binds (ps:=["things"]) fun _ _ _ _ _ _ us hl=>by obtain⟨_,rfl⟩:=ar1 hl;rfl
 have b5:=F5.binds (ps:=["web","one","other"]) fun _ _ _ _ _ _ us hl=>by obtain⟨_,_,_,rfl⟩:=ar3 hl;rfl
 have b6:=F6.binds (ps:=["web","thing","left"]) fun _ _ _ _ _ _ us hl=>by obtain⟨_,_,_,rfl⟩:=ar3 hl;rfl
 have b7:=F7.binds (ps:=["web"]) fun _ _ _ _ _ _ us hl=>by obtain⟨_,rfl⟩:=ar1 hl;rfl
 have b8:=F8.binds (ps:=["web"]) fun _ _ _ _ _ _ us hl=>by obtain⟨_,rfl⟩:=ar1 hl;rfl
 have b9:=F9.binds (ps:=["table","starts"]) fun _ _ _ _ _ _ us hl=>by obtain⟨_,_,rfl⟩:=ar2 hl;rfl
 have b10:=F10.binds (ps:=["web","one","other"]) fun _ _ _ _ _ _ us hl=>by obtain⟨_,_,_,rfl⟩:=ar3 hl;rfl
 have b11:=F11.binds (ps:=["web"]) fun _ _ _ _ _ _ us hl=>by obtain⟨_,rfl⟩:=ar1 hl;rfl
 have b12:=F12.binds (ps:=["web"]) fun _ _ _ _ _ _ us hl=>by obtain⟨_,rfl⟩:=ar1 hl;rfl
 have b13:=F13.binds (ps:=["web"]) fun _ _ _ _ _ _ us hl=>by obtain⟨_,rfl⟩:=ar1 hl;rfl
 have b14:=F14.binds (ps:=["thing","table","told"]) fun _ _ _ _ _ _ us hl=>by obtain⟨_,_,_,rfl⟩:=ar3 hl;rfl
 have b15:=F15.binds (ps:=["web","weights"]) fun _ _ _ _ _ _ us hl=>by obtain⟨_,_,rfl⟩:=ar2 hl;rfl
 have b16:=F16.binds (ps:=["web","weights"]) fun _ _ _ _ _ _ us hl=>by obtain⟨_,_,rfl⟩:=ar2 hl;rfl
 have b17:=F17.binds (ps:=["web","weights"]) fun _ _ _ _ _ _ us hl=>by obtain⟨_,_,rfl⟩:=ar2 hl;rfl
 have b18:=F18.binds (ps:=["web","numbers"]) fun _ _ _ _ _ _ us hl=>by obtain⟨_,_,rfl⟩:=ar2 hl;rfl
 have b19:=F19.binds (ps:=["web","found"]) fun _ _ _ _ _ _ us hl=>by obtain⟨_,_,rfl⟩:=ar2 hl;rfl
 have b20:=F20.binds (ps:=["web","weighed"]) fun _ _ _ _ _ _ us hl=>by obtain⟨_,_,rfl⟩:=ar2 hl;rfl
 have b21:=F21.binds (ps:=["things","found"]) fun _ _ _ _ _ _ us hl=>by obtain⟨_,_,rfl⟩:=ar2 hl;rfl
 have b22:=F22.binds (ps:=["web","found","last"]) fun _ _ _ _ _ _ us hl=>by obtain⟨_,_,_,rfl⟩:=ar3 hl;rfl
 have b23:=F23.binds (ps:=["web","found","thing"]) fun _ _ _ _ _ _ us hl=>by obtain⟨_,_,_,rfl⟩:=ar3 hl;rfl
 have b24:=F24.binds (ps:=["web"]) fun _ _ _ _ _ _ us hl=>by obtain⟨_,rfl⟩:=ar1 hl;rfl
 have b25:=F25.binds (ps:=["web"]) fun _ _ _ _ _ _ us hl=>by obtain⟨_,rfl⟩:=ar1 hl;rfl
 have b26:=F26.binds (ps:=["web"]) fun _ _ _ _ _ _ us hl=>by obtain⟨_,rfl⟩:=ar1 hl;rfl
 have b27:=F27.binds (ps:=["_law_pen","_law_many"]) fun _ _ _ _ _ _ us hl=>by obtain⟨_,_,rfl⟩:=ar2 hl;rfl
 have b28:=F28.binds (ps:=["_law_pen","_law_many"]) fun _ _ _ _ _ _ us hl=>by obtain⟨_,_,rfl⟩:=ar2 hl;rfl
 have b29:=F29.binds (ps:=["_law_pen","_law_size","_law_kind"]) fun _ _ _ _ _ _ us hl=>by obtain⟨_,_,_,rfl⟩:=ar3 hl;rfl
 have b30:=F30.binds (ps:=["_law_pen","_law_size","_law_count","_law_kind"]) fun _ _ _ _ _ _ us hl=>by obtain⟨_,_,_,_,rfl⟩:=ar4 hl;rfl
 have b31:=F31.binds (ps:=["_law_pen"]) fun _ _ _ _ _ _ us hl=>by obtain⟨_,rfl⟩:=ar1 hl;rfl
 have b32:=F32.binds (ps:=["_law_names_here","_law_ties_here"]) fun _ _ _ _ _ _ us hl=>by obtain⟨_,_,rfl⟩:=ar2 hl;rfl
 have b33:=F33.binds (ps:=["_law_found","_law_due"]) fun _ _ _ _ _ _ us hl=>by obtain⟨_,_,rfl⟩:=ar2 hl;rfl
 have b34:=F34.binds (ps:=["_law_size","_law_ties_here","_law_goal"]) fun _ _ _ _ _ _ us hl=>by obtain⟨_,_,_,rfl⟩:=ar3 hl;rfl
 have b35:=F35.binds (ps:=["_law_ties_here","_law_far_here","_law_one"]) fun _ _ _ _ _ _ us hl=>by obtain⟨_,_,_,rfl⟩:=ar3 hl;rfl
 have b36:=F36.binds (ps:=["_law_names_here","_law_ties_here"]) fun _ _ _ _ _ _ us hl=>by obtain⟨_,_,rfl⟩:=ar2 hl;rfl
 have b37:=F37.binds (ps:=["_law_pen","_law_weights"]) fun _ _ _ _ _ _ us hl=>by obtain⟨_,_,rfl⟩:=ar2 hl;rfl
 have b38:=F38.binds (ps:=["_law_word","_law_web_here","_law_weights"]) fun _ _ _ _ _ _ us hl=>by obtain⟨_,_,_,rfl⟩:=ar3 hl;rfl
 refine⟨W.fnOf "law" "law" (cZ i4) (cV i4) (cI i4) .none kV39 dc39 pm39 an39 cd39 ct39,fun s v=>.of_eq rfl,fun base XB GB hBm=>?_⟩
 have hC:=eZ
 have hCd:=fun (h:Heap) (XH:K.In h)=>wg lZ qZ1 qZ2 qZ3 qZ4 qZ5 qZ6 qZ7 qZ8 qZ9 XH
 have eN:(["OrderError","NoWeb","NoText","Ring","NoOrder","NoWeights","NoHouse","NoDeed","NoUnit","Twice","Within","NoTie","Full","Apart","NoWant","TooMany","NoUndo","NoRedo","Clash","NoRow"]:List Str).Nodup:=by decide +kernel
 have eO:i7 ([("OrderError",x1),("NoWeb",x2),("NoText",x3),("Ring",x4),("NoOrder",x5),("NoWeights",x6),("NoHouse",x7),("NoDeed",x8),("NoUnit",x9),("Twice",x10),("Within",x11),("NoTie",x12),("Full",x13),("Apart",x14),("NoWant",x15),("TooMany",x16),("NoUndo",x17),("NoRedo",x18),("Clash",x19),("NoRow",x20)]:List (Str × Addr)) "OrderError"=x1:=kz (ps:=[("OrderError",x1),("NoWeb",x2),("NoText",x3),("Ring",x4),("NoOrder",x5),("NoWeights",x6),("NoHouse",x7),("NoDeed",x8),("NoUnit",x9),("Twice",x10),("Within",x11),("NoTie",x12),("Full",x13),("Apart",x14),("NoWant",x15),("TooMany",x16),("NoUndo",x17),("NoRedo",x18),("Clash",x19),("NoRow",x20)]) eN ("OrderError",x1) (.head _)
 have Er:Errs K mg base (i7 ([("OrderError",x1),("NoWeb",x2),("NoText",x3),("Ring",x4),("NoOrder",x5),("NoWeights",x6),("NoHouse",x7),("NoDeed",x8),("NoUnit",x9),("Twice",x10),("Within",x11),("NoTie",x12),("Full",x13),("Apart",x14),("NoWant",x15),("TooMany",x16),("NoUndo",x17),("NoRedo",x18),("Clash",x19),("NoRow",x20)]:List (Str × Addr))) uM qt:=xB (ps:=[("OrderError",x1),("NoWeb",x2),("NoText",x3),("Ring",x4),("NoOrder",x5),("NoWeights",x6),("NoHouse",x7),("NoDeed",x8),("NoUnit",x9),("Twice",x10),("Within",x11),("NoTie",x12),("Full",x13),("Apart",x14),("NoWant",x15),("TooMany",x16),("NoUndo",x17),("NoRedo",x18),("Clash",x19),("NoRow",x20)]) (cs:=[("OrderError",x1),("Ring",x4),("NoWeights",x6)]) eN (cM (.head _) (cM (.tail _ (.tail _ (.tail _ (.head _)))) (cM (.tail _ (.tail _ (.tail _ (.tail _ (.tail _ (.head _)))))) gP))) (cM (W.mg_of X G r1) (cM (W.mg_of X G r2) (cM (W.mg_of X G r3) (cM (W.mg_of X G r4) (cM (W.mg_of X G r5) (cM (W.mg_of X G r6) (cM (W.mg_of X G r7) (cM (W.mg_of X G r8) (cM (W.mg_of X G r9) (cM (W.mg_of X G r10) (cM (W.mg_of X G r11) (cM (W.mg_of X G r12) (cM (W.mg_of X G r13) (cM (W.mg_of X G r14) (cM (W.mg_of X G r15) (cM (W.mg_of X G r16) (cM (W.mg_of X G r17) (cM (W.mg_of X G r18) (cM (W.mg_of X G r19) (cM (W.mg_of X G r20) gP)))))))))))))))))))) (cM ⟨ga1,gb1,ha1,en,et,hm1,hb1,cl1⟩ (cM ⟨ga4,gb4,ha4,en,et,hm4,hb4,cl4⟩ (cM ⟨ga6,gb6,ha6,en,et,hm6,hb6,cl6⟩ gP))) (show ("OrderError":Str)∈qt by decide +kernel) (cM (fun h=>absurd rfl h) (cM (fun _=>(cM (g4_1.trans (congrArg some (show true=(("OrderError":Str)==("Ring":Str)||("OrderError":Str)==("OrderError":Str)) by decide +kernel))) (cM (g4_2.trans (congrArg some (show false=(("NoWeb":Str)==("Ring":Str)||("NoWeb":Str)==("OrderError":Str)) by decide +kernel))) (cM (g4_3.trans (congrArg some (show false=(("NoText":Str)==("Ring":Str)||("NoText":Str)==("OrderError":Str)) by decide +kernel))) (cM (g4_4.trans (congrArg some (show true=(("Ring":Str)==("Ring":Str)||("Ring":Str)==("OrderError":Str)) by decide +kernel))) (cM (g4_5.trans (congrArg some (show false=(("NoOrder":Str)==("Ring":Str)||("NoOrder":Str)==("OrderError":Str)) by decide +kernel))) (cM (g4_6.trans (congrArg some (show false=(("NoWeights":Str)==("Ring":Str)||("NoWeights":Str)==("OrderError":Str)) by decide +kernel))) (cM (g4_7.trans (congrArg some (show false=(("NoHouse":Str)==("Ring":Str)||("NoHouse":Str)==("OrderError":Str)) by decide +kernel))) (cM (g4_8.trans (congrArg some (show false=(("NoDeed":Str)==("Ring":Str)||("NoDeed":Str)==("OrderError":Str)) by decide +kernel))) (cM (g4_9.trans (congrArg some (show false=(("NoUnit":Str)==("Ring":Str)||("NoUnit":Str)==("OrderError":Str)) by decide +kernel))) (cM (g4_10.trans (congrArg some (show false=(("Twice":Str)==("Ring":Str)||("Twice":Str)==("OrderError":Str)) by decide +kernel))) (cM (g4_11.trans (congrArg some (show false=(("Within":Str)==("Ring":Str)||("Within":Str)==("OrderError":Str)) by decide +kernel))) (cM (g4_12.trans (congrArg some (show false=(("NoTie":Str)==("Ring":Str)||("NoTie":Str)==("OrderError":Str)) by decide +kernel))) (cM (g4_13.trans (congrArg some (show false=(("Full":Str)==("Ring":Str)||("Full":Str)==("OrderError":Str)) by decide +kernel))) (cM (g4_14.trans (congrArg some (show false=(("Apart":Str)==("Ring":Str)||("Apart":Str)==("OrderError":Str)) by decide +kernel))) (cM (g4_15.trans (congrArg some (show false=(("NoWant":Str)==("Ring":Str)||("NoWant":Str)==("OrderError":Str)) by decide +kernel))) (cM (g4_16.trans (congrArg some (show false=(("TooMany":Str)==("Ring":Str)||("TooMany":Str)==("OrderError":Str)) by decide +kernel))) (cM (g4_17.trans (congrArg some (show false=(("NoUndo":Str)==("Ring":Str)||("NoUndo":Str)==("OrderError":Str)) by decide +kernel))) (cM (g4_18.trans (congrArg some (show false=(("NoRedo":Str)==("Ring":Str)||("NoRedo":Str)==("OrderError":Str)) by decide +kernel))) (cM (g4_19.trans (congrArg some (show false=(("Clash":Str)==("Ring":Str)||("Clash":Str)==("OrderError":Str)) by decide +kernel))) (cM (g4_20.trans (congrArg some (show false=(("NoRow":Str)==("Ring":Str)||("NoRow":Str)==("OrderError":Str)) by decide +kernel))) gP))))))))))))))))))))) (cM (fun _=>(cM (g6_1.trans (congrArg some (show true=(("OrderError":Str)==("NoWeights":Str)||("OrderError":Str)==("OrderError":Str)) by decide +kernel))) (cM (g6_2.trans (congrArg some (show false=(("NoWeb":Str)==("NoWeights":Str)||("NoWeb":Str)==("OrderError":Str)) by decide +kernel))) (cM (g6_3.trans (congrArg some (show false=(("NoText":Str)==("NoWeights":Str)||("NoText":Str)==("OrderError":Str)) by decide +kernel))) (cM (g6_4.trans (congrArg some (show false=(("Ring":Str)==("NoWeights":Str)||("Ring":Str)==("OrderError":Str)) by decide +kernel))) (cM (g6_5.trans (congrArg some (show false=(("NoOrder":Str)==("NoWeights":Str)||("NoOrder":Str)==("OrderError":Str)) by decide +kernel))) (cM (g6_6.trans (congrArg some (show true=(("NoWeights":Str)==("NoWeights":Str)||("NoWeights":Str)==("OrderError":Str)) by decide +kernel))) (cM (g6_7.trans (congrArg some (show false=(("NoHouse":Str)==("NoWeights":Str)||("NoHouse":Str)==("OrderError":Str)) by decide +kernel))) (cM (g6_8.trans (congrArg some (show false=(("NoDeed":Str)==("NoWeights":Str)||("NoDeed":Str)==("OrderError":Str)) by decide +kernel))) (cM (g6_9.trans (congrArg some (show false=(("NoUnit":Str)==("NoWeights":Str)||("NoUnit":Str)==("OrderError":Str)) by decide +kernel))) (cM (g6_10.trans (congrArg some (show false=(("Twice":Str)==("NoWeights":Str)||("Twice":Str)==("OrderError":Str)) by decide +kernel))) (cM (g6_11.trans (congrArg some (show false=(("Within":Str)==("NoWeights":Str)||("Within":Str)==("OrderError":Str)) by decide +kernel))) (cM (g6_12.trans (congrArg some (show false=(("NoTie":Str)==("NoWeights":Str)||("NoTie":Str)==("OrderError":Str)) by decide +kernel))) (cM (g6_13.trans (congrArg some (show false=(("Full":Str)==("NoWeights":Str)||("Full":Str)==("OrderError":Str)) by decide +kernel))) (cM (g6_14.trans (congrArg some (show false=(("Apart":Str)==("NoWeights":Str)||("Apart":Str)==("OrderError":Str)) by decide +kernel))) (cM (g6_15.trans (congrArg some (show false=(("NoWant":Str)==("NoWeights":Str)||("NoWant":Str)==("OrderError":Str)) by decide +kernel))) (cM (g6_16.trans (congrArg some (show false=(("TooMany":Str)==("NoWeights":Str)||("TooMany":Str)==("OrderError":Str)) by decide +kernel))) (cM (g6_17.trans (congrArg some (show false=(("NoUndo":Str)==("NoWeights":Str)||("NoUndo":Str)==("OrderError":Str)) by decide +kernel))) (cM (g6_18.trans (congrArg some (show false=(("NoRedo":Str)==("NoWeights":Str)||("NoRedo":Str)==("OrderError":Str)) by decide +kernel))) (cM (g6_19.trans (congrArg some (show false=(("Clash":Str)==("NoWeights":Str)||("Clash":Str)==("OrderError":Str)) by decide +kernel))) (cM (g6_20.trans (congrArg some (show false=(("NoRow":Str)==("NoWeights":Str)||("NoRow":Str)==("OrderError":Str)) by decide +kernel))) gP))))))))))))))))))))) gP))) (cM w1 (cM w4 (cM w6 gP))) (cM ⟨bm1,oB XB o1,p1,(by rw[eO];exact q_1)⟩ (cM ⟨bm4,oB XB o4,p4,(by rw[eO];exact q_4)⟩ (cM ⟨bm6,oB XB o6,p6,(by rw[eO];exact q_6)⟩ gP))) (W.mg_none_of X G ev) (cM (fun _=>tV XB (W.mg_of X G r1) o1 u1 ni1 tl1) (cM (fun h=>absurd (show ("Ring":Str)∈(["NoText","Ring","NoUnit"]:List Str) by decide) h) (cM (fun _=>tV XB (W.mg_of X G r6) o6 u6 ni6 tl6) gP)))
 have FIRing:=di (st:=gz) il4 ic4 ik4
 have bIRing:=FIRing.binds (ps:=["self","ring"]) fun _ _ _ _ _ _ us hl=>by obtain⟨_,_,rfl⟩:=ar2 hl;rfl
 have eeRing:i7 ([("OrderError",x1),("NoWeb",x2),("NoText",x3),("Ring",x4),("NoOrder",x5),("NoWeights",x6),("NoHouse",x7),("NoDeed",x8),("NoUnit",x9),("Twice",x10),("Within",x11),("NoTie",x12),("Full",x13),("Apart",x14),("NoWant",x15),("TooMany",x16),("NoUndo",x17),("NoRedo",x18),("Clash",x19),("NoRow",x20)]:List (Str × Addr)) "Ring"=x4:=kz (ps:=[("OrderError",x1),("NoWeb",x2),("NoText",x3),("Ring",x4),("NoOrder",x5),("NoWeights",x6),("NoHouse",x7),("NoDeed",x8),("NoUnit",x9),("Twice",x10),("Within",x11),("NoTie",x12),("Full",x13),("Apart",x14),("NoWant",x15),("TooMany",x16),("NoUndo",x17),("NoRedo",x18),("Clash",x19),("NoRow",x20)]) eN ("Ring",x4) (.tail _ (.tail _ (.tail _ (.head _))))
 have ZRing:XSet K (i7 ([("OrderError",x1),("NoWeb",x2),("NoText",x3),("Ring",x4),("NoOrder",x5),("NoWeights",x6),("NoHouse",x7),("NoDeed",x8),("NoUnit",x9),("Twice",x10),("Within",x11),("NoTie",x12),("Full",x13),("Apart",x14),("NoWant",x15),("TooMany",x16),("NoUndo",x17),("NoRedo",x18),("Clash",x19),("NoRow",x20)]:List (Str × Addr)) "Ring") "ring":=eeRing.symm ▸ ⟨sa4,po4,na4,hd_4,hm4⟩
 have GRing:XGet K (i7 ([("OrderError",x1),("NoWeb",x2),("NoText",x3),("Ring",x4),("NoOrder",x5),("NoWeights",x6),("NoHouse",x7),("NoDeed",x8),("NoUnit",x9),("Twice",x10),("Within",x11),("NoTie",x12),("Full",x13),("Apart",x14),("NoWant",x15),("TooMany",x16),("NoUndo",x17),("NoRedo",x18),("Clash",x19),("NoRow",x20)]:List (Str × Addr)) "Ring") "ring":=⟨ZRing.na,ZRing.hd⟩
 have mRing:MkI l.prog w K mg base 1 "Ring" (i7 ([("OrderError",x1),("NoWeb",x2),("NoText",x3),("Ring",x4),("NoOrder",x5),("NoWeights",x6),("NoHouse",x7),("NoDeed",x8),("NoUnit",x9),("Twice",x10),("Within",x11),("NoTie",x12),("Full",x13),("Apart",x14),("NoWant",x15),("TooMany",x16),("NoUndo",x17),("NoRedo",x18),("Clash",x19),("NoRow",x20)]:List (Str × Addr)) "Ring") ["self","ring"] (kD K "ring"):=eeRing.symm ▸ ⟨_,_,xQ XB (W.mg_of X G r4) o4 u4 ni4 tl4 il4,kc4,xj FIRing B,bIRing⟩
 have c__law_take:Cal l.prog w K mg base 1 "_law_take" ["_law_pen","_law_many"] (iq K):=⟨_,_,xy F27 B,W.mg_of X G a27,k27,b27⟩
 have c__law_names:Cal l.prog w K mg base 2 "_law_names" ["_law_pen","_law_many"] (mv K):=⟨_,_,va F28 B c__law_take,W.mg_of X G a28,k28,b28⟩
 have c__law_tie:Cal l.prog w K mg base 2 "_law_tie" ["_law_pen","_law_size","_law_kind"] (rn K):=⟨_,_,yr F29 B c__law_take,W.mg_of X G a29,k29,b29⟩
 have c__law_ties:Cal l.prog w K mg base 3 "_law_ties" ["_law_pen","_law_size","_law_count","_law_kind"] (oO K):=⟨_,_,xA F30 B c__law_take c__law_tie,W.mg_of X G a30,k30,b30⟩
 have c__law_built:Cal l.prog w K mg base 4 "_law_built" ["_law_pen"] (mE K):=⟨_,_,vk F31 B c__law_take c__law_names c__law_ties,W.mg_of X G a31,k31,b31⟩
 have c__law_web:Cal l.prog w K mg base 1 "_law_web" ["_law_names_here","_law_ties_here"] qj:=⟨_,_,zj F32 B,W.mg_of X G a32,k32,b32⟩
 have c__law_same:Cal l.prog w K mg base 1 "_law_same" ["_law_found","_law_due"] og:=⟨_,_,xP F33 B,W.mg_of X G a33,k33,b33⟩
 have c_places_of:Cal l.prog w K mg base 1 "places_of" ["things"] jS:=⟨_,_,lH F4 B,W.mg_of X G a4,k4,b4⟩
 have c_places_ofN:Cal l.prog w K mg base 1 "places_of" ["things"] jN:=⟨_,_,(lH F4 B).imp rD,W.mg_of X G a4,k4,b4⟩
 have c_nexts:Cal l.prog w K mg base 2 "nexts" ["web","one"] (gk false):=⟨_,_,vj F2 B c_places_ofN,W.mg_of X G a2,k2,b2⟩
 have c_priors:Cal l.prog w K mg base 2 "priors" ["web","one"] (gk true):=⟨_,_,tL F3 B c_places_ofN,W.mg_of X G a3,k3,b3⟩
 have c_nexts_of_all:Cal l.prog w K mg base 3 "nexts_of_all" ["web"] (gl false):=⟨_,_,lS F7 B c_nexts,W.mg_of X G a7,k7,b7⟩
 have c_priors_of_all:Cal l.prog w K mg base 3 "priors_of_all" ["web"] (gl true):=⟨_,_,lq F8 B c_priors,W.mg_of X G a8,k8,b8⟩
 have c_steps_from:Cal l.prog w K mg base 1 "steps_from" ["table","starts"] jK:=⟨_,_,vh F9 B,W.mg_of X G a9,k9,b9⟩
 have c_first_nearer:Cal l.prog w K mg base 3 "first_nearer" ["web","thing","left"] lh:=⟨_,_,sv F6 B c_nexts,W.mg_of X G a6,k6,b6⟩
 have c_way:Cal l.prog w K mg base 4 "way" ["web","one","other"] rc:=⟨_,_,yU F5 B c_steps_from c_priors_of_all c_first_nearer,W.mg_of X G a5,k5,b5⟩
 have c__law_far:Cal l.prog w K mg base 1 "_law_far" ["_law_size","_law_ties_here","_law_goal"] qw:=⟨_,_,ze F34 B,W.mg_of X G a34,k34,b34⟩
 have c__law_way:Cal l.prog w K mg base 1 "_law_way" ["_law_ties_here","_law_far_here","_law_one"] oh:=⟨_,_,xi F35 B,W.mg_of X G a35,k35,b35⟩
 have c_ring_by:Cal l.prog w K mg base 5 "ring_by" ["web","one","other"] kZ:=⟨_,_,qG F10 B c_way,W.mg_of X G a10,k10,b10⟩
 have c_ring_of:Cal l.prog w K mg base 6 "ring_of" ["web"] jH:=⟨_,_,rB F11 B c_steps_from c_nexts_of_all c_ring_by,W.mg_of X G a11,k11,b11⟩
 have c_refuse_ring:Cal l.prog w K mg base 7 "refuse_ring" ["web"] gX:=⟨_,_,rS F12 B c_ring_of,W.mg_of X G a12,k12,b12⟩
 have c_priors_of_allK:Cal l.prog w K mg base 3 "priors_of_all" ["web"] lD:=⟨_,_,xp F8 B c_priors,W.mg_of X G a8,k8,b8⟩
 have c_is_due:Cal l.prog w K mg base 1 "is_due" ["thing","table","told"] mz:=⟨_,_,vF F14 B,W.mg_of X G a14,k14,b14⟩
 have c_order_anew:Cal l.prog w K mg base 8 "order_anew" ["web"] oa:=⟨_,_,xO F13 B c_refuse_ring c_priors_of_allK c_is_due,W.mg_of X G a13,k13,b13⟩
 have c_is_whole:Cal l.prog w K mg base 1 "is_whole" ["thing"] kI:=⟨_,_,uO F1 B,W.mg_of X G a1,k1,b1⟩
 have c_is_wholeG:Cal l.prog w K mg base 1 "is_whole" ["thing"] ju:=⟨_,_,ur F1 B,W.mg_of X G a1,k1,b1⟩
 have c_are_wholes:Cal l.prog w K mg base 2 "are_wholes" ["web","numbers"] lg:=⟨_,_,ut F18 B c_is_whole,W.mg_of X G a18,k18,b18⟩
 have c_are_wholesT:Cal l.prog w K mg base 2 "are_wholes" ["web","numbers"] j4:=⟨_,_,qW F18 B c_is_whole,W.mg_of X G a18,k18,b18⟩
 have c_are_wholesW:Cal l.prog w K mg base 2 "are_wholes" ["web","numbers"] jQ:=⟨_,_,qx (pz F18 B c_is_wholeG) (pA F18 B c_is_wholeG),W.mg_of X G a18,k18,b18⟩
 have c_refuse_ringX:CalX l.prog w K mg base 7 "refuse_ring" ["web"] (ja _):=⟨_,_,wU F12 B mRing ZRing c_ring_of,W.mg_of X G a12,k12,b12⟩
 have c_weights_by_thing:Cal l.prog w K mg base 8 "weights_by_thing" ["web","weights"] js:=⟨_,_,rW (vi F17 B Zzip c_refuse_ring c_are_wholes) (sw F17 B Zzip c_refuse_ring c_are_wholesT),W.mg_of X G a17,k17,b17⟩
 have c_weights_by_thingX:CalX l.prog w K mg base 8 "weights_by_thing" ["web","weights"] (iV _):=⟨_,_,rR F17 B Zzip Er c_refuse_ring c_refuse_ringX c_are_wholesW,W.mg_of X G a17,k17,b17⟩
 have c_by_places:Cal l.prog w K mg base 1 "by_places" ["web","found"] jR:=⟨_,_,xl F19 B,W.mg_of X G a19,k19,b19⟩
 have c_depths_by_thing:Cal l.prog w K mg base 9 "depths_by_thing" ["web","weighed"] iH:=⟨_,_,ve F20 B c_priors_of_allK c_order_anew,W.mg_of X G a20,k20,b20⟩
 have c_ones:Cal l.prog w K mg base 1 "ones" ["web"] jb:=⟨_,_,xI F26 B,W.mg_of X G a26,k26,b26⟩
 have c_deepest_among:Cal l.prog w K mg base 3 "deepest_among" ["things","found"] (ky Pt):=⟨_,_,uK F21 hC hCd hBm B,W.mg_of X G a21,k21,b21⟩
 have c_worth_taking:Cal l.prog w K mg base 3 "worth_taking" ["web","found","thing"] mV:=⟨_,_,vP F23 B c_priors,W.mg_of X G a23,k23,b23⟩
 have c_way_back:Cal l.prog w K mg base 4 "way_back" ["web","found","last"] (oZ Pt):=⟨_,_,xE F22 B c_deepest_among c_worth_taking,W.mg_of X G a22,k22,b22⟩
 have c_depths:Cal l.prog w K mg base 10 "depths" ["web","weights"] jM:=⟨_,_,nG F15 B c_weights_by_thing c_depths_by_thing c_by_places,W.mg_of X G a15,k15,b15⟩
 have c_depthsX:CalX l.prog w K mg base 10 "depths" ["web","weights"] (iV _):=⟨_,_,lT F15 B c_weights_by_thingX c_depths_by_thing c_by_places,W.mg_of X G a15,k15,b15⟩
 have c_depthsB:CalX l.prog w K mg base 10 "depths" ["web","weights"] (lO _ Pt):=⟨_,_,tS (nG F15 B c_weights_by_thing c_depths_by_thing c_by_places) (lT F15 B c_weights_by_thingX c_depths_by_thing c_by_places) (fun _ _ _ _=>tW),W.mg_of X G a15,k15,b15⟩
 have c_deepest:Cal l.prog w K mg base 10 "deepest" ["web","weights"] (iZ Pt):=⟨_,_,mj F16 B c_weights_by_thing c_depths_by_thing c_by_places c_deepest_among c_way_back,W.mg_of X G a16,k16,b16⟩
 have c_deepestX:CalX l.prog w K mg base 10 "deepest" ["web","weights"] (iV _):=⟨_,_,kP (Pt:=Pt) F16 B c_weights_by_thingX c_depths_by_thing,W.mg_of X G a16,k16,b16⟩
 have c_deepestB:CalX l.prog w K mg base 10 "deepest" ["web","weights"] (lO _ Pt):=⟨_,_,tS (mj F16 B c_weights_by_thing c_depths_by_thing c_by_places c_deepest_among c_way_back) (kP (Pt:=Pt) F16 B c_weights_by_thingX c_depths_by_thing) (fun _ _ _ _=>qy),W.mg_of X G a16,k16,b16⟩
 have c_layersB:CalX l.prog w K mg base 11 "layers" ["web"] (mh _ Pt):=⟨_,_,sk (sH F24 B c_depths c_ones) (qV F24 B c_depthsX c_ones) (fun _ _ _ _=>uy),W.mg_of X G a24,k24,b24⟩
 have c_longestB:CalX l.prog w K mg base 11 "longest" ["web"] (mh _ Pt):=⟨_,_,sk (rA F25 B c_deepest c_ones) (pI F25 B c_deepestX c_ones) (fun _ _ _ _=>qU),W.mg_of X G a25,k25,b25⟩
 have c__law_ring:Cal l.prog w K mg base 2 "_law_ring" ["_law_names_here","_law_ties_here"] kt:=⟨_,_,vL F36 B c__law_far c__law_way,W.mg_of X G a36,k36,b36⟩
 have c__law_no_weights:Cal l.prog w K mg base 2 "_law_no_weights" ["_law_pen","_law_weights"] (rf K):=⟨_,_,yC F37 B c__law_take,W.mg_of X G a37,k37,b37⟩
 have c__law_heard:Cal l.prog w K mg base 12 "_law_heard" ["_law_word","_law_web_here","_law_weights"] (jg Pt):=⟨_,_,vt F38 B Er GRing c_layersB c_longestB c_depthsB c_deepestB,W.mg_of X G a38,k38,b38⟩
 exact y4 F39 B c__law_take c__law_built c__law_web c__law_same c__law_ring c__law_no_weights c__law_heard
theorem walk {l:W.OpenLaw}{q:Program}{loose:List Str}{XP:(Str -> Option Value) -> Heap -> Prop}{YP:World -> Heap -> Prop}{d:DefRec}{K:Params -> W.Frag}{Pt:Addr}(hn:l.most=some 63) (hdf:d.params.defaults=[])
    (hY:∀(w:World) (h:Heap),YP w h->(K w.params).In h) (hT:∀(w:World) (h:Heap),YP w h->h.get? Pt=some (W.tabObj #[])) (hKP:∀w:World,(K w.params).lookup Pt=none) (hC:∀(w:World) (h:Heap),(K w.params).In h->∃c,W.CodeHd h c Pt)
    (F:∀(w:World) (mg:Str->Option Value) (fa:Addr) (h:Heap),(K w.params).In h->h.Ns mainGlobals mg->mg d.name=some (.ref fa) ->
     ∃fd:FuncData,(∀(s:Shared) (u:Value),BindsTo s fd ⟨[u],[]⟩ [("_law_script",u)])/\∀base:Heap,(K w.params).In base->base.Ns mainGlobals mg->base.BuiltinsAt mg Pt->FnOk l.prog w (K w.params) mg base CX0 13 fa fd ["_law_script"] (qR Pt (K w.params))) :
    W.WalkO q loose XP YP l.row.toRowW d [] (fun f vs=>PySem.call f vs):=by
 refine Att.attach_call hn hdf fun w s₀ s₁ mg mb fa o pm cd doc a vs ns G Y ho hd hcd hmg hobj hints hlen hg=>?_
 have KX:=hY w _ Y
 obtain⟨fd,hb,hF⟩:=F w mg fa _ KX G.T.g hmg
 obtain⟨c,hc⟩:=hC w _ KX
 exact sM KX G.T.g G.T.b G.T.builtins G.T.nolimit hg G.T.bmain (hT w _ Y) (hKP w) hc hobj hints (aX hlen (by decide)) ⟨rfl,by decide,by decide,rfl⟩ hF hb (fun H hO hS=>⟨a,ns,rfl,hS,hO,fun _=>rfl⟩) fun H e s' z=>z
end
end K26
open PySem PySem.W PyProof.Rows
set_option maxRecDepth 100000 in
set_option maxHeartbeats 0 in
theorem PySem.Challenge.cw_orderkeep_k26_webs_and_weights_refused_holds : PySem.Challenge.rw_orderkeep_k26_webs_and_weights_refused.Holds := by
 w_on;o_law;k_head;(case hw=>w_witness2)
 k_fill
 refine K26.walk (l:=PySem.Challenge.rw_orderkeep_k26_webs_and_weights_refused) rfl rfl (fun w h Y=>Y.1) (fun w h Y=>Y.2 _ (.head _)) ?KP ?HC ?F
 case KP=>exact fun w=>rfl
 case HC =>
  intro w h KX
  refine' K26.hd_ex KX ?a1 ?l1 ?eZ ?lZ ?qZ1 ?qZ2 ?qZ3 ?qZ4 ?qZ5 ?qZ6 ?qZ7 ?qZ8 ?qZ9
  (case a1=>k_is)
  (case l1=>k_is)
  (case eZ=>exact rfl)
  (case lZ=>k_is)
  (case qZ1=>exact rfl)
  (case qZ2=>exact rfl)
  (case qZ3=>exact rfl)
  (case qZ4=>exact rfl)
  (case qZ5=>exact rfl)
  (case qZ6=>exact rfl)
  (case qZ7=>exact rfl)
  (case qZ8=>exact rfl)
  (case qZ9=>decide)
 case F =>
  intro w mg fa h KX G hmg
  refine' K26.all_mk KX G hmg ?a1 ?l1 ?c1 ?k1 ?a2 ?l2 ?c2 ?k2 ?a3 ?l3 ?c3 ?k3 ?a4 ?l4 ?c4 ?k4 ?a5 ?l5 ?c5 ?k5 ?a6 ?l6 ?c6 ?k6 ?a7 ?l7 ?c7 ?k7 ?a8 ?l8 ?c8 ?k8 ?a9 ?l9 ?c9 ?k9 ?a10 ?l10 ?c10 ?k10 ?a11 ?l11 ?c11 ?k11 ?a12 ?l12 ?c12 ?k12 ?a13 ?l13 ?c13 ?k13 ?a14 ?l14 ?c14 ?k14 ?a15 ?l15 ?c15 ?k15 ?a16 ?l16 ?c16 ?k16 ?a17 ?l17 ?c17 ?k17 ?a18 ?l18 ?c18 ?k18 ?a19 ?l19 ?c19 ?k19 ?a20 ?l20 ?c20 ?k20 ?a21 ?l21 ?c21 ?k21 ?a22 ?l22 ?c22 ?k22 ?a23 ?l23 ?c23 ?k23 ?a24 ?l24 ?c24 ?k24 ?a25 ?l25 ?c25 ?k25 ?a26 ?l26 ?c26 ?k26 ?a27 ?l27 ?c27 ?k27 ?a28 ?l28 ?c28 ?k28 ?a29 ?l29 ?c29 ?k29 ?a30 ?l30 ?c30 ?k30 ?a31 ?l31 ?c31 ?k31 ?a32 ?l32 ?c32 ?k32 ?a33 ?l33 ?c33 ?k33 ?a34 ?l34 ?c34 ?k34 ?a35 ?l35 ?c35 ?k35 ?a36 ?l36 ?c36 ?k36 ?a37 ?l37 ?c37 ?k37 ?a38 ?l38 ?c38 ?k38 ?a39 ?l39 ?c39 ?k39 ?z1 ?z2 ?z3 ?z4 ?z5 ?z6 ?z7 ?z8 ?z9 ?z10 ?z11 ?z12 ?z13 ?z14 ?z15 ?z16 ?r1 ?r2 ?r3 ?r4 ?r5 ?r6 ?r7 ?r8 ?r9 ?r10 ?r11 ?r12 ?r13 ?r14 ?r15 ?r16 ?r17 ?r18 ?r19 ?r20 ?en ?et ?ev ?o1 ?u1 ?ni1 ?tl1 ?ga1 ?gb1 ?ha1 ?hm1 ?hb1 ?cl1 ?p1 ?q_1 ?w1 ?o4 ?u4 ?ni4 ?tl4 ?il4 ?ic4 ?ik4 ?kc4 ?sa4 ?po4 ?na4 ?hd_4 ?ga4 ?gb4 ?ha4 ?hm4 ?hb4 ?cl4 ?p4 ?q_4 ?w4 ?g4_1 ?g4_2 ?g4_3 ?g4_4 ?g4_5 ?g4_6 ?g4_7 ?g4_8 ?g4_9 ?g4_10 ?g4_11 ?g4_12 ?g4_13 ?g4_14 ?g4_15 ?g4_16 ?g4_17 ?g4_18 ?g4_19 ?g4_20 ?o6 ?u6 ?ni6 ?tl6 ?ga6 ?gb6 ?ha6 ?hm6 ?hb6 ?cl6 ?p6 ?q_6 ?w6 ?g6_1 ?g6_2 ?g6_3 ?g6_4 ?g6_5 ?g6_6 ?g6_7 ?g6_8 ?g6_9 ?g6_10 ?g6_11 ?g6_12 ?g6_13 ?g6_14 ?g6_15 ?g6_16 ?g6_17 ?g6_18 ?g6_19 ?g6_20 ?eZ ?lZ ?qZ1 ?qZ2 ?qZ3 ?qZ4 ?qZ5 ?qZ6 ?qZ7 ?qZ8 ?qZ9
  (case a1=>k_is)
  (case l1=>k_is)
  (case c1=>k_is)
  (case k1=>k_is)
  (case a2=>k_is)
  (case l2=>k_is)
  (case c2=>k_is)
  (case k2=>k_is)
  (case a3=>k_is)
  (case l3=>k_is)
  (case c3=>k_is)
  (case k3=>k_is)
  (case a4=>k_is)
  (case l4=>k_is)
  (case c4=>k_is)
  (case k4=>k_is)
  (case a5=>k_is)
  (case l5=>k_is)
  (case c5=>k_is)
  (case k5=>k_is)
  (case a6=>k_is)
  (case l6=>k_is)
  (case c6=>k_is)
  (case k6=>k_is)
  (case a7=>k_is)
  (case l7=>k_is)
  (case c7=>k_is)
  (case k7=>k_is)
  (case a8=>k_is)
  (case l8=>k_is)
  (case c8=>k_is)
  (case k8=>k_is)
  (case a9=>k_is)
  (case l9=>k_is)
  (case c9=>k_is)
  (case k9=>k_is)
  (case a10=>k_is)
  (case l10=>k_is)
  (case c10=>k_is)
  (case k10=>k_is)
  (case a11=>k_is)
  (case l11=>k_is)
  (case c11=>k_is)
  (case k11=>k_is)
  (case a12=>k_is)
  (case l12=>k_is)
  (case c12=>k_is)
  (case k12=>k_is)
  (case a13=>k_is)
  (case l13=>k_is)
  (case c13=>k_is)
  (case k13=>k_is)
  (case a14=>k_is)
  (case l14=>k_is)
  (case c14=>k_is)
  (case k14=>k_is)
  (case a15=>k_is)
  (case l15=>k_is)
  (case c15=>k_is)
  (case k15=>k_is)
  (case a16=>k_is)
  (case l16=>k_is)
  (case c16=>k_is)
  (case k16=>k_is)
  (case a17=>k_is)
  (case l17=>k_is)
  (case c17=>k_is)
  (case k17=>k_is)
  (case a18=>k_is)
  (case l18=>k_is)
  (case c18=>k_is)
  (case k18=>k_is)
  (case a19=>k_is)
  (case l19=>k_is)
  (case c19=>k_is)
  (case k19=>k_is)
  (case a20=>k_is)
  (case l20=>k_is)
  (case c20=>k_is)
  (case k20=>k_is)
  (case a21=>k_is)
  (case l21=>k_is)
  (case c21=>k_is)
  (case k21=>k_is)
  (case a22=>k_is)
  (case l22=>k_is)
  (case c22=>k_is)
  (case k22=>k_is)
  (case a23=>k_is)
  (case l23=>k_is)
  (case c23=>k_is)
  (case k23=>k_is)
  (case a24=>k_is)
  (case l24=>k_is)
  (case c24=>k_is)
  (case k24=>k_is)
  (case a25=>k_is)
  (case l25=>k_is)
  (case c25=>k_is)
  (case k25=>k_is)
  (case a26=>k_is)
  (case l26=>k_is)
  (case c26=>k_is)
  (case k26=>k_is)
  (case a27=>k_is)
  (case l27=>k_is)
  (case c27=>k_is)
  (case k27=>k_is)
  (case a28=>k_is)
  (case l28=>k_is)
  (case c28=>k_is)
  (case k28=>k_is)
  (case a29=>k_is)
  (case l29=>k_is)
  (case c29=>k_is)
  (case k29=>k_is)
  (case a30=>k_is)
  (case l30=>k_is)
  (case c30=>k_is)
  (case k30=>k_is)
  (case a31=>k_is)
  (case l31=>k_is)
  (case c31=>k_is)
  (case k31=>k_is)
  (case a32=>k_is)
  (case l32=>k_is)
  (case c32=>k_is)
  (case k32=>k_is)
  (case a33=>k_is)
  (case l33=>k_is)
  (case c33=>k_is)
  (case k33=>k_is)
  (case a34=>k_is)
  (case l34=>k_is)
  (case c34=>k_is)
  (case k34=>k_is)
  (case a35=>k_is)
  (case l35=>k_is)
  (case c35=>k_is)
  (case k35=>k_is)
  (case a36=>k_is)
  (case l36=>k_is)
  (case c36=>k_is)
  (case k36=>k_is)
  (case a37=>k_is)
  (case l37=>k_is)
  (case c37=>k_is)
  (case k37=>k_is)
  (case a38=>k_is)
  (case l38=>k_is)
  (case c38=>k_is)
  (case k38=>k_is)
  (case a39=>k_is)
  (case l39=>k_is)
  (case c39=>k_is)
  (case k39=>k_is)
  (case z1=>k_is)
  (case z2=>k_is)
  (case z3=>k_is)
  (case z4=>k_is)
  (case z5=>k_is)
  (case z6=>k_is)
  (case z7=>k_is)
  (case z8=>k_is)
  (case z9=>k_is)
  (case z10=>k_is)
  (case z11=>k_is)
  (case z12=>k_is)
  (case z13=>k_is)
  (case z14=>k_is)
  (case z15=>k_is)
  (case z16=>k_is)
  (case r1=>k_is)
  (case r2=>k_is)
  (case r3=>k_is)
  (case r4=>k_is)
  (case r5=>k_is)
  (case r6=>k_is)
  (case r7=>k_is)
  (case r8=>k_is)
  (case r9=>k_is)
  (case r10=>k_is)
  (case r11=>k_is)
  (case r12=>k_is)
  (case r13=>k_is)
  (case r14=>k_is)
  (case r15=>k_is)
  (case r16=>k_is)
  (case r17=>k_is)
  (case r18=>k_is)
  (case r19=>k_is)
  (case r20=>k_is)
  (case en=>k_is)
  (case et=>k_is)
  (case ev=>k_is)
  (case o1=>k_is)
  (case u1=>kernel_rfl)
  (case ni1=>k_is)
  (case tl1=>kernel_rfl)
  (case ga1=>k_is)
  (case gb1=>k_is)
  (case ha1=>k_is)
  (case hm1=>k_is)
  (case hb1=>k_is)
  (case cl1=>exact rfl)
  (case p1=>exact rfl)
  (case q_1=>exact rfl)
  (case w1=>exact rfl)
  (case o4=>k_is)
  (case u4=>kernel_rfl)
  (case ni4=>k_is)
  (case tl4=>kernel_rfl)
  (case il4=>k_is)
  (case ic4=>k_is)
  (case ik4=>k_is)
  (case kc4=>first | k_is | exact rfl)
  (case sa4=>k_is)
  (case po4=>exact rfl)
  (case na4=>k_is)
  (case hd_4=>first | k_is | exact rfl)
  (case ga4=>k_is)
  (case gb4=>k_is)
  (case ha4=>k_is)
  (case hm4=>k_is)
  (case hb4=>k_is)
  (case cl4=>exact rfl)
  (case p4=>exact rfl)
  (case q_4=>exact rfl)
  (case w4=>exact rfl)
  (case g4_1=>exact rfl)
  (case g4_2=>exact rfl)
  (case g4_3=>exact rfl)
  (case g4_4=>exact rfl)
  (case g4_5=>exact rfl)
  (case g4_6=>exact rfl)
  (case g4_7=>exact rfl)
  (case g4_8=>exact rfl)
  (case g4_9=>exact rfl)
  (case g4_10=>exact rfl)
  (case g4_11=>exact rfl)
  (case g4_12=>exact rfl)
  (case g4_13=>exact rfl)
  (case g4_14=>exact rfl)
  (case g4_15=>exact rfl)
  (case g4_16=>exact rfl)
  (case g4_17=>exact rfl)
  (case g4_18=>exact rfl)
  (case g4_19=>exact rfl)
  (case g4_20=>exact rfl)
  (case o6=>k_is)
  (case u6=>kernel_rfl)
  (case ni6=>k_is)
  (case tl6=>kernel_rfl)
  (case ga6=>k_is)
  (case gb6=>k_is)
  (case ha6=>k_is)
  (case hm6=>k_is)
  (case hb6=>k_is)
  (case cl6=>exact rfl)
  (case p6=>exact rfl)
  (case q_6=>exact rfl)
  (case w6=>exact rfl)
  (case g6_1=>exact rfl)
  (case g6_2=>exact rfl)
  (case g6_3=>exact rfl)
  (case g6_4=>exact rfl)
  (case g6_5=>exact rfl)
  (case g6_6=>exact rfl)
  (case g6_7=>exact rfl)
  (case g6_8=>exact rfl)
  (case g6_9=>exact rfl)
  (case g6_10=>exact rfl)
  (case g6_11=>exact rfl)
  (case g6_12=>exact rfl)
  (case g6_13=>exact rfl)
  (case g6_14=>exact rfl)
  (case g6_15=>exact rfl)
  (case g6_16=>exact rfl)
  (case g6_17=>exact rfl)
  (case g6_18=>exact rfl)
  (case g6_19=>exact rfl)
  (case g6_20=>exact rfl)
  (case eZ=>exact rfl)
  (case lZ=>k_is)
  (case qZ1=>exact rfl)
  (case qZ2=>exact rfl)
  (case qZ3=>exact rfl)
  (case qZ4=>exact rfl)
  (case qZ5=>exact rfl)
  (case qZ6=>exact rfl)
  (case qZ7=>exact rfl)
  (case qZ8=>exact rfl)
  (case qZ9=>decide)
end
