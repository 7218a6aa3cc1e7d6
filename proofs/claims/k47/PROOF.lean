import PyProof.Rows.All
import Wide.All
import OpenK.AllK
import Wide.FinOn
import Lean
import PyProof.EqAt
import PyProof.EqKinds
import PyProof.TupleCall
import PyProof.Rows.SumAny
import PyProof.StationsW
import PyProof.ExcClass3
import OpenK.KOwn
import KE.KTryDeep
import KE.KIsAll
import PyProof.ExcAttrAll.ValueError
import PyProof.ExcBaseAll.ValueError
import PyProof.InstStoreFacts
import PyProof.RulesTry
import PyProof.Rows.SortStr
import PyProof.TupleOfSeq
import KE.KxWritten
import PyProof.Conv_bool
import KE.KStrOpen
import PyProof.Rows.FStr
import PyProof.SetRoads
import PyProof.DictKinds
import PyProof.Rows.Range3
import PyProof.FactsAll.tuple_2
import PyProof.CollectIter
import PyProof.TupleOfGen
import PyProof.AttrMissHeap
import KE.KDictOf
import PyProof.StrOps2
import PyProof.DictWalks
import KE.KDictList
import PyProof.Rows.ZipGen
import PySem.Challenge.RW_orderkeep_k47_new_things
namespace PySem.W.Fast
def tw15593017337591937883:=0
def tw10421840806061408142:=0
def tw8243116292268365721:=0
def tw8815130575955316008:=0
def tw8840656129632723416:=0
def tw5110985315832073408:=0
def tw2349232155601295966:=0
def tw8012261693169577730:=0
def tw3302886787905806286:=0
def tw12983688325163274925:=0
def tw17429551095456020794:=0
def tw7445254864069909709:=0
def tw2511374440680130579:=0
def tw10017899362791608596:=0
def tw15757514107981831603:=0
def tw5246303629807618201:=0
def tw1470706422474689505:=0
def tw9311446333826425745:=0
def tw15429857522661320256:=0
def tw3647838216823922388:=0
def tw189374609397807731:=0
def tw12058585767914748714:=0
def tw15805823143353407418:=0
def tw17768388726709254273:=0
def tw13272076544572594728:=0
def tw3784178048215217125:=0
def tw5410653821434460114:=0
def tw17851601098634606195:=0
def tw9823848408664223947:=0
def tw12127648481993439895:=0
def tw5409118619032758455:=0
def tw17300646129627224948:=0
def tw2130531675139571871:=0
def tw7716335836313827514:=0
def tw11934773074067568327:=0
def tw3085529929480453028:=0
def tw18275029019216883337:=0
def tw13215968026078184748:=0
def tw5246731639314366485:=0
def tw10713036469231101810:=0
def tw16603748221415165414:=0
def tw8442243116383223131:=0
def tw18305212386990250370:=0
def tw14967744069446475831:=0
def tw13250853640538647028:=0
def tw6075727088523246411:=0
def tw3198811835836901883:=0
def tw6470636399934356913:=0
def tw659428979980531097:=0
def tw16882903863762993285:=0
def tw18353357592358821131:=0
def tw14787775257895765158:=0
def tw5942859985454772775:=0
def tw1838665397745029673:=0
def tw5139242424700560674:=0
def tw8967392247821316741:=0
def tw12088071803060222139:=0
def tw3789098039478709927:=0
def tw11419950391089740777:=0
def tw13529426039604718958:=0
def tw17236338303182390029:=0
def tw11216632362002925089:=0
def tw6696794784389770893:=0
def tw12828223857443286778:=0
def tw10298349389733080403:=0
def tw10432934071765246485:=0
def tw2886092635034691056:=0
def tw8894271368253041598:=0
def tw17784916922627004545:=0
def tw14437462752567826502:=0
def tw12496213581730991457:=0
def tw17025948296666945469:=0
def tw17197981809817965524:=0
def tw17970046890000941653:=0
def tw14165218051982057400:=0
def tw8386384304464851439:=0
def tw17791683514193109415:=0
def tw5872291505679920848:=0
def tw905037869698162937:=0
def tw11673256596270836695:=0
def tw691527966435824072:=0
def tw6996429491785552834:=0
def tw18370512159923619300:=0
def tw2297441370661157399:=0
def tw7415796362010113222:=0
def tw423298056698427921:=0
def tw15804506526384036657:=0
def tw16581496088792570816:=0
def tw1273751115428206177:=0
def tw11750914350343917922:=0
def tw4374930545552396539:=0
def tw14391928642415519525:=0
def tw4329807608103454015:=0
def tw6115808528138875589:=0
def tw4503161199719631354:=0
def tw4579755092099216002:=0
def tw5163512783053447279:=0
def tw7921120714318089780:=0
def tw12690777069339451502:=0
def tw3851452484077956326:=0
def tw16956301758895027808:=0
def tw15882774818257640382:=0
def tw17352228783202969000:=0
def tw8169410750314526019:=0
def tw13435490874864102559:=0
def tw15486367164815560024:=0
def tw14090933226796759631:=0
def tw15359446220397366114:=0
def tw4548238423486119003:=0
def tw11143848656783083987:=0
def tw13157489856908590372:=0
def tw10931264038485690138:=0
def tw1464249074133417392:=0
def tw12614834304623531874:=0
def tw2677334841278498728:=0
def tw15584065189996722164:=0
def tw15155961943126453309:=0
def tw5115420191594847716:=0
def tw15250936600270139303:=0
def tw1723976793681609414:=0
def tw6600345628559400207:=0
def tw11743259383310466552:=0
def tw11281959119156231367:=0
def tw1080389540825667520:=0
def tw2277966890476211028:=0
def tw12834695755652390236:=0
def tw17448082440235978372:=0
def tw12474211631475489844:=0
def tw4417446581387667758:=0
def tw13362007559458453148:=0
def tw8418071051354855483:=0
def tw7206127572371600444:=0
def tw9242068489113309347:=0
def tw12406510763934612257:=0
def tw9464645489212369512:=0
def tw3951775577238063631:=0
def tw8671898448425465339:=0
def tw17720891190425259000:=0
def tw287362642845153250:=0
def tw15643954243052559460:=0
def tw14363975056762482660:=0
def tw11923124491489235616:=0
def tw15314992680598879365:=0
def tw1407258730877703189:=0
def tw17195667638745277847:=0
def tw16306590338548314732:=0
def tw9058748647559977017:=0
def tw756336704441960154:=0
def tw9929006596797116886:=0
def tw9621470167506270616:=0
def tw14309751582367782418:=0
def tw2143456838624205308:=0
def tw5988134109281306714:=0
def tw15376542301061599279:=0
def tw5017348095008444225:=0
def tw9313605684982104256:=0
def tw13354556887087187954:=0
def tw17826287514019731908:=0
def tw1253672222430418306:=0
def tw8301283708306521142:=0
def tw4497064358575158213:=0
def tw13473397692647023204:=0
def tw4371443727027343447:=0
def tw14545020080563812230:=0
def tw2687617004702506094:=0
def tw9169754640967954447:=0
def tw4042749377662437142:=0
def tw422871641761845613:=0
def tw332886038625541852:=0
def tw15686706083592731165:=0
def tw18103608552964933940:=0
def tw7156829434077496736:=0
def tw11068705557623773988:=0
def tw219352988837921351:=0
def tw15569409019646364139:=0
def tw1945962211051354594:=0
def tw9924327191996686789:=0
def tw10839899137613477652:=0
def tw6196704956959539984:=0
def tw14383937111212426969:=0
def tw1652704874988057125:=0
def tw15541537675622976146:=0
def tw15329985086936226357:=0
def tw3502126960242792298:=0
def tw15257821069676299912:=0
def tw10359910194351647758:=0
def tw201966983773832460:=0
def tw9576118471234486511:=0
def tw14296313707752593306:=0
def tw7588116103248519499:=0
def tw10680918558597045788:=0
def tw3373378114395715821:=0
def tw15533860357923086271:=0
def tw504607626351447267:=0
def tw13944396366043951647:=0
def tw15586794443748828540:=0
def tw9627941431223295895:=0
def tw15657236693417957655:=0
def tw17632712384964149529:=0
def tw9755577121748405377:=0
def tw2440050279768623581:=0
def tw12508652735290543892:=0
def tw16183446701971676525:=0
def tw14537116298389842171:=0
def tw3562852636656998187:=0
def tw16675985977926333960:=0
def tw443104645804032411:=0
def tw10135503319691110759:=0
def tw15757156125094800861:=0
def tw16904944361954904877:=0
def tw8642003132716418474:=0
def tw18367987530200848907:=0
def tw1121587566437092757:=0
def tw16408015003794193079:=0
def tw10875485758545054058:=0
def tw11329714172556565834:=0
def tw7930410744192128789:=0
def tw3954249785718007053:=0
def tw17578468317140454252:=0
def tw14968750210323769361:=0
def tw9189178114657126724:=0
def tw10009811465454877532:=0
def tw15282629452092771645:=0
def tw18254401399372526890:=0
def tw16994771657116498414:=0
def tw14333014668785789643:=0
def tw5506162600357900907:=0
def tw13883081143952397792:=0
def tw12847166100179674059:=0
def tw9563549332379213157:=0
def tw3785167213671078007:=0
def tw4917372163573096438:=0
def tw15740265178469697309:=0
def tw6218488247966967300:=0
def tw6818617447370579624:=0
def tw13549047399403174674:=0
def tw16511743728024624260:=0
def tw16065940222868668051:=0
def tw3623669513774875125:=0
def tw9362273072411037830:=0
def tw4137997537550473051:=0
def tw8645674844173812037:=0
def tw397060070435780550:=0
def tw18026413886311532129:=0
def tw5199716075739637410:=0
def tw13862785245125893914:=0
def tw14892203342496148097:=0
def tw13882791227224367063:=0
def tw11612294451035265041:=0
def tw6529868817731802492:=0
def tw6914166373541564239:=0
def tw1503588496798253734:=0
def tw10006510494616961389:=0
def tw12829927993604616154:=0
def tw13249659309409138902:=0
def tw15952705431805437936:=0
def tw15305674415703320204:=0
def tw1693671642723428288:=0
def tw9265439817795538620:=0
def tw4267106691078793695:=0
def tw6167637502676485390:=0
def tw10052067908550216169:=0
def tw16492564340179302595:=0
def tw6647313680427552336:=0
def tw12588150071686377667:=0
def tw7248950271094707459:=0
def tw2778241025944512654:=0
def tw8804730113165983269:=0
def tw14850703683118964820:=0
def tw6769290266427618003:=0
def tw12000198939742462584:=0
def tw11375610474441805201:=0
def tw8353974279740208415:=0
def tw1683448886273032:=0
def tw13722492150838463495:=0
def tw13162131414969975027:=0
def tw17396389487007018945:=0
def tw18157266697122732540:=0
def tw18413937330688478030:=0
def tw1216477055708645002:=0
def tw18139090349997631541:=0
def tw18390027907287314958:=0
def tw5459601188944071021:=0
def tw16472669084439623570:=0
def tw3960808826594397516:=0
def tw637198606198282108:=0
def tw10534308340087883726:=0
def tw14286599577261599844:=0
def tw1612292351385533555:=0
def tw2434463062019059192:=0
def tw5910285041629418250:=0
def tw13528674798456872314:=0
def tw13774214016849966715:=0
def tw2717420285407000403:=0
def tw15808058915120896907:=0
def tw6120603053681763190:=0
def tw3585283314942389061:=0
def tw13104527876767065992:=0
def tw2581794774270297831:=0
def tw8934585945778608249:=0
def tw4533021183425752166:=0
def tw17233718415467084474:=0
def tw2250454058706399434:=0
def tw12039703898840858120:=0
def tw15699617919247452242:=0
def tw8698358752699137116:=0
def tw8497595456354164643:=0
def tw12477861650228922100:=0
def tw17679288196612530771:=0
def tw3456915776111132194:=0
def tw4053461489052976206:=0
def tw12803497420382037580:=0
def tw9590935851311473616:=0
def tw5390076308111350406:=0
def tw2876332193758656977:=0
def tw15977565174835327250:=0
def tw4004534070344475914:=0
def tw13417408838835800158:=0
def tw16489440575888570281:=0
def tw14663247379375037313:=0
def tw3405150508924802171:=0
def tw4873785542257853508:=0
def tw15973107589134892221:=0
def tw10973752588409488892:=0
def tw9812683638567036667:=0
def tw10843576463857189529:=0
def tw7836148647035968127:=0
def tw78428899583000597:=0
def tw4329303737054403777:=0
def tw9547522388161598136:=0
def tw4150766888058173483:=0
def tw12280266811589859319:=0
def tw11300052548823987719:=0
def tw14952615812338029903:=0
def tw2122121716815656847:=0
def tw8852864616821081127:=0
def tw998229150447100990:=0
def tw12159367355486982725:=0
def tw7578534796425166661:=0
def tw15417060620238665786:=0
def tw4956360475543058724:=0
def tw6413397259362256565:=0
def tw17323920052429113155:=0
def tw12623294393938736168:=0
def tw3190842024340941202:=0
def tw16571250048796272442:=0
def tw3378442363016285972:=0
def tw660651000344394421:=0
def tw9818373008478859111:=0
def tw15880576478092687670:=0
def tw11873906496852286303:=0
def tw5330657390475028636:=0
def tw1311572297950461586:=0
def tw711821733774031980:=0
def tw6408932766973914506:=0
def tw4279411587532306760:=0
def tw1056489871622485595:=0
def tw10751005576243977036:=0
def tw4512004356907477261:=0
def tw11312686380525093689:=0
def tw17318826647427357682:=0
def tw7493264957930607712:=0
def tw18018949517730067245:=0
def tw8691591039821239327:=0
def tw6921877178742126636:=0
def tw11508253846844054417:=0
def tw683937604336005159:=0
def tw6468763136164881483:=0
def tw14421805827828376846:=0
def tw11028184255692758951:=0
def tw3708063148371222630:=0
def tw16698521202444968135:=0
def tw7470812054436671614:=0
def tw3580760090029247659:=0
def tw7030297552515622571:=0
def tw7253551208703955527:=0
def tw12486579156325959273:=0
def tw7968328639312528448:=0
def tw1441070463308049739:=0
def tw2006023701448545428:=0
def tw3630027295159536535:=0
def tw10581560090321849793:=0
def tw3327230246956835919:=0
def tw8190401171739324154:=0
def tw11763493933707211730:=0
def tw769957439316590642:=0
def tw5777134360318787872:=0
def tw15029003494036648352:=0
def tw9141613368363559417:=0
def tw9288969828786598823:=0
def tw7271232718085421848:=0
def tw3181113175715694647:=0
def tw7170347831466679365:=0
def tw17906999884420222143:=0
def tw8433103066230538861:=0
def tw12340076391222483122:=0
def tw17531006724574633013:=0
def tw8437225654146171410:=0
def tw17778314184876375926:=0
def tw1602903273381875568:=0
def tw12930497236831043683:=0
def tw6462365724795221465:=0
def tw928361692076711417:=0
def tw16153277392355184420:=0
def tw4910717163149921209:=0
def tw7251681309062036305:=0
def tw13191718462287720930:=0
def tw5734011543009104637:=0
def tw2746178820949714661:=0
def tw13387364051592064106:=0
def tw18343328085085474538:=0
def tw12465800729172174488:=0
def tw10722147636130072346:=0
def tw10558376171870387301:=0
def tw3475112339478530423:=0
def tw18186368625309898113:=0
def tw3042847764664811353:=0
def tw1931192999701292423:=0
def tw3067747783468339475:=0
def tw15576212597614673361:=0
def tw8928799194399931496:=0
def tw17657973332839818777:=0
def tw1869314588113169696:=0
def tw2962141243750417008:=0
def tw6355611508729410042:=0
def tw9214635759763804635:=0
def tw17935320714781362094:=0
def tw12213911251438963242:=0
def tw6787469251846980668:=0
def tw15913093553545100167:=0
def tw15367261516435386878:=0
def tw17721949922583589602:=0
def tw16695146227970249741:=0
def tw9344324400768750096:=0
def tw11523498876721564208:=0
def tw12557903180053545502:=0
def tw9866844853688855583:=0
def tw7899699056426502135:=0
def tw5238975746499967611:=0
def tw16149381408355337549:=0
def tw14797369770630923304:=0
def tw10015069841030660798:=0
def tw17626981653865334625:=0
def tw2639435980036078684:=0
def tw1381436164099263758:=0
def tw3366227437840296261:=0
def tw4254790115932336717:=0
def tw13891042653232666449:=0
def tw7210620112901757512:=0
def tw13472402999723643477:=0
def tw14225067643725637919:=0
def tw6711079467310944492:=0
def tw1210514168745471342:=0
def tw17993189279812423459:=0
def tw7158099444786677034:=0
def tw9002935802790635517:=0
def tw3946054988227302413:=0
def tw3942662297070056649:=0
def tw9483544572412928615:=0
def tw12519473226891814002:=0
def tw12808407020379011021:=0
def tw13049043141990656743:=0
def tw8624084980288830658:=0
def tw5480658712865166996:=0
def tw742380164857630153:=0
def tw5643220374853190070:=0
def tw5077665269052114236:=0
def tw5548446812590440114:=0
def tw6016880789761033522:=0
def tw13006754365415166058:=0
def tw5275699797264303521:=0
def tw2174993536635624211:=0
def tw10131476117710128166:=0
def tw17641137158422318639:=0
def tw4950597508695822033:=0
def tw17112756005125038834:=0
def tw5149744880095887036:=0
def tw17966928130632959396:=0
def tw7714042834290401810:=0
def tw6941777006454079303:=0
def tw8680866203400015025:=0
def tw6528326376085560621:=0
def tw12061300766364287652:=0
def tw13951001835708131533:=0
def tw14684482535617480993:=0
def tw13471892905049791037:=0
def tw2994968641442050327:=0
def tw1551775637701204938:=0
def tw8731492829159698857:=0
def tw15646857779018961862:=0
def tw16810239842853009716:=0
def tw9968791535810577485:=0
def tw5906057260802513906:=0
def tw4552061810658347199:=0
def tw8794693010743679835:=0
def tw600922434960223952:=0
def tw3877872467853687684:=0
def tw3915164309637635386:=0
def tw5606169433183262080:=0
def tw3525045713931066673:=0
def tw7322459195226881607:=0
def tw11342495928472441155:=0
def tw5970639714414010027:=0
def tw7841040322561869234:=0
def tw13477882865937363897:=0
def tw6399057436691715898:=0
def tw9058068039878428598:=0
def tw2581192764048691485:=0
def tw14650551133769152105:=0
def tw13080978474440747059:=0
def tw16251109873719096268:=0
def tw14250549208274908106:=0
def tw7538309919835744189:=0
def tw11165285669902868961:=0
def tw11745865508880807344:=0
def tw4654101682359402891:=0
def tw2006608030504033136:=0
def tw9980270016131484841:=0
def tw6519876369537514487:=0
def tw14079552001194066884:=0
def tw15775897451322738603:=0
def tw17664351544483070407:=0
def tw11458988158455645064:=0
def tw2363015573764056742:=0
def tw1502025178168182418:=0
def tw14319030314856997962:=0
def tw8130309146877323533:=0
def tw7513876700123252700:=0
def tw4369720363082747545:=0
def tw4018023637287979035:=0
def tw14351278872107538818:=0
def tw7096465514399291446:=0
def tw10106306777147741079:=0
def tw12453640736588119989:=0
def tw11758728155410686752:=0
def tw7070395798889700006:=0
def tw13903976690445283662:=0
def tw10386787241223966268:=0
def tw11898934465669834138:=0
def tw3357230979367152949:=0
def tw1126022652532135315:=0
def tw4759257171511510586:=0
def tw16399832040090575944:=0
def tw4552735947898931777:=0
def tw17228361963269885289:=0
def tw1380673542863867627:=0
def tw11699346438951367671:=0
def tw17874004529868497479:=0
def tw6410114269189006939:=0
def tw18145930558405854715:=0
def tw6780199440443606904:=0
def tw18017374833127384502:=0
def tw12162554883887416011:=0
def tw5207465971532125324:=0
def tw12972360453823919506:=0
def tw10844058003093903290:=0
def tw4198885274261641999:=0
def tw1561259165078645141:=0
def tw2826378287337203334:=0
def tw15064633930962199569:=0
def tw6340830231811658184:=0
def tw7066117121291350456:=0
def tw16848776081217533621:=0
def tw7064621868858996383:=0
def tw1331796197911670256:=0
def tw5705621670635767203:=0
def tw7182429784415088104:=0
def tw10792745384611739355:=0
def tw7875290276590686519:=0
def tw4261236477077960817:=0
def tw1918003384785064500:=0
def tw16670949938803441861:=0
def tw8117692159714792006:=0
def tw16924145808027215993:=0
def tw15870602049209281201:=0
def tw12709387892651964277:=0
def tw11286226899786023768:=0
def tw1865836468338129661:=0
def tw4730684602193307390:=0
def tw5679787702251551682:=0
def tw10478930800870896862:=0
def tw8967577627069862808:=0
def tw7454144236096746590:=0
def tw2374268142992824147:=0
def tw5730864063308319317:=0
def tw13905131896057683573:=0
def tw5677708113606058524:=0
def tw3507428445162864923:=0
def tw16487692943455887378:=0
def tw4411178921603727024:=0
def tw4068041760746265610:=0
def tw17448179152303090819:=0
def tw7072383093497352474:=0
def tw11028003163415105099:=0
def tw12014760202569393797:=0
def tw10064938273225891544:=0
def tw9893657100714720845:=0
def tw18271200037395450176:=0
def tw14557274082949082437:=0
def tw1398414981181752961:=0
def tw387711903455069468:=0
def tw13986936236798944693:=0
def tw3596938802690889700:=0
def tw3017313274915225864:=0
def tw240356985590997703:=0
def tw5630443667337309143:=0
def tw7414221674418270886:=0
def tw13648366794868336182:=0
def tw6287210981140303394:=0
def tw14800174603794536498:=0
def tw11077427114014723941:=0
def tw348444971324007308:=0
def tw15210319248954724158:=0
def tw5342861479511113176:=0
def tw1931840818024361416:=0
def tw2422097877785101563:=0
def tw4022898445633492544:=0
def tw8817218846062380611:=0
def tw12280129232364900895:=0
def tw1892663562971287209:=0
def tw11121147363364020363:=0
def tw13958486889021948907:=0
def tw15541190103305038118:=0
def tw1136584498565256965:=0
def tw15385002380844917151:=0
def tw11711675074525659659:=0
def tw5144982812468900992:=0
def tw11703810480668026956:=0
def tw10995382227433316470:=0
def tw16184858951335271056:=0
def tw15610484517121871379:=0
def tw4253763000888739715:=0
def tw15647212337253918403:=0
def tw10227172356908694923:=0
def tw17827878798985988636:=0
def tw5592510047296779262:=0
def tw14457151610992944699:=0
def tw10707847312658360487:=0
def tw8867791382130802883:=0
def tw7957236522812115366:=0
def tw11774928327264370141:=0
def tw15605587281350740012:=0
def tw16064735522250192513:=0
def tw5366827512037354970:=0
def tw8961085033812937622:=0
def tw14400414089818905677:=0
def tw15719796257921002186:=0
def tw13098290694087581349:=0
def tw4415332810933824889:=0
def tw11490484739395085385:=0
def tw1769697425884793353:=0
def tw5459495927101334834:=0
def tw9768240561617329849:=0
def tw2612203258029167143:=0
def tw2685102571752050449:=0
def tw6209475799525123419:=0
def tw14085922432837086155:=0
def tw1875303054934406429:=0
def tw4989277613191037951:=0
def tw7964023750327304652:=0
def tw16300032829507291414:=0
def tw5917032630134282329:=0
def tw96973787740117230:=0
def tw17657530612128062524:=0
def tw9000714638931799397:=0
def tw8602592977978424561:=0
def tw6504608929026109898:=0
def tw7496901834218508099:=0
def tw5615383937119676917:=0
def tw2922628376466453511:=0
def tw6011271876996043957:=0
def tw17652158177837711373:=0
def tw7263066794420446371:=0
def tw11501441700036099056:=0
def tw7054246314068078819:=0
def tw13687042898385551433:=0
def tw7449178371580361519:=0
def tw14919084033717964853:=0
def tw14388192490930220279:=0
def tw12024947030378922255:=0
def tw12396046128396298826:=0
def tw15214229051137091504:=0
def tw4602045573316733102:=0
def tw601908658210115921:=0
def tw8531121367213304656:=0
def tw13977213937724605714:=0
def tw4705214710265633877:=0
def tw3545219332226722850:=0
def tw10746595623832920106:=0
def tw1677663409342696932:=0
def tw5646163482555977270:=0
def tw11723356925734076908:=0
def tw13907024329276509875:=0
def tw4006414103657342654:=0
def tw17497647765761763340:=0
def tw6361036182471244271:=0
def tw15862659226816364500:=0
def tw11904354529543545730:=0
def tw1580491787545586673:=0
def tw1328290323631583789:=0
def tw12398044170782710494:=0
def tw7563509781779805496:=0
def tw12918216647740275386:=0
def tw14920711397720279703:=0
def tw14117316060257478515:=0
def tw12137467692663664493:=0
def tw1054925170703202480:=0
def tw4329698088726635084:=0
def tw6014578477324500903:=0
def tw16845335157493515582:=0
def tw13616897687567951014:=0
def tw5469694120809886732:=0
def tw7695064914573199702:=0
def tw18254222231742607217:=0
def tw8837118079900652593:=0
def tw549026582471323687:=0
def tw16669145024021850563:=0
def tw16682431731780101182:=0
def tw4033802008855663250:=0
def tw10684790467489905842:=0
def tw2507351227951954717:=0
def tw17732974457742798856:=0
def tw15423765070613590728:=0
def tw14552884507823112956:=0
def tw9261500426222362160:=0
def tw12772499504501724400:=0
def tw4122867296512455636:=0
def tw6513566550386653708:=0
def tw4794617581090648742:=0
def tw1370136504100444423:=0
def tw7925155014400675159:=0
def tw12341332102665261476:=0
def tw5150398122974654401:=0
def tw13076858520370705751:=0
def tw5059741157721339290:=0
def tw4822080053330564956:=0
def tw13074675024761404030:=0
def tw2275905243307935419:=0
def tw141379524046418354:=0
def tw16704265442733269550:=0
def tw10391274337985972812:=0
def tw4883057910443684208:=0
def tw15316703269853168565:=0
end PySem.W.Fast
set_option Elab.async false
set_option linter.all false
set_option maxRecDepth 100000
namespace L2
open PySem PySem.Spec PyProof.Rows
noncomputable abbrev Key := Sum Int Str
noncomputable def keyIs : Key → Value → Bool
  | .inl k, v => Value.isInt k v
  | .inr x, v => Value.isStrOf x v
noncomputable def keyH (w : World) : Key → Int
  | .inl k => hashInt k
  | .inr x => hashStr w x
theorem keyIs_shape : ∀ {k : Key} {v : Value}, keyIs k v = true → (∃ i t, k = Sum.inl i ∧ v = Value.int i t) ∨ (∃ x t, k = Sum.inr x ∧ v = Value.str x t)
  | .inl i, v, h => by
    obtain ⟨t, e⟩ := Value.isInt_shape (k := i) (v := v) h
    exact .inl ⟨i, t, rfl, e⟩
  | .inr x, v, h => by
    obtain ⟨t, e⟩ := Value.isStrOf_shape (x := x) (v := v) h
    exact .inr ⟨x, t, rfl, e⟩
theorem keyIs_int (i : Int) (t : Tok) : keyIs (.inl i) (.int i t) = true := by simp [keyIs, Value.isInt]
theorem keyIs_str (x : Str) (t : Tok) : keyIs (.inr x) (.str x t) = true := by simp [keyIs, Value.isStrOf]
theorem key_ll (a b : Int) : decide ((Sum.inl a : Key) = Sum.inl b) = (a == b) := by
  by_cases e : a = b
  · subst e; simp
  · have h : ¬ (Sum.inl a : Key) = Sum.inl b := fun q => e (Sum.inl.inj q)
    rw [decide_eq_false h]
    exact (beq_eq_false_iff_ne.mpr e).symm
theorem key_rr (a b : Str) : decide ((Sum.inr a : Key) = Sum.inr b) = decide (a = b) := by
  by_cases e : a = b
  · subst e; simp
  · have h : ¬ (Sum.inr a : Key) = Sum.inr b := fun q => e (Sum.inr.inj q)
    rw [decide_eq_false h, decide_eq_false e]
theorem key_lr (a : Int) (b : Str) : decide ((Sum.inl a : Key) = Sum.inr b) = false := decide_eq_false (fun q => nomatch q)
theorem key_rl (a : Str) (b : Int) : decide ((Sum.inr a : Key) = Sum.inl b) = false := decide_eq_false (fun q => nomatch q)
noncomputable def mixKind (prog : Program) (w : World) : PySem.KeyKind prog w Key where
  is := keyIs
  hash := keyH w
  inj := fun v a b ha hb => by
    rcases keyIs_shape ha with ⟨i, t, rfl, rfl⟩ | ⟨x, t, rfl, rfl⟩
    · rcases keyIs_shape hb with ⟨j, u, rfl, e⟩ | ⟨y, u, rfl, e⟩
      · injection e with e1 _; rw [e1]
      · exact nomatch e
    · rcases keyIs_shape hb with ⟨j, u, rfl, e⟩ | ⟨y, u, rfl, e⟩
      · exact nomatch e
      · injection e with e1 _; rw [e1]
  byValue := fun k v h => by
    rcases keyIs_shape h with ⟨i, t, rfl, rfl⟩ | ⟨x, t, rfl, rfl⟩ <;> rfl
  pyHash := fun hv h => by
    rcases keyIs_shape hv with ⟨i, t, rfl, rfl⟩ | ⟨x, t, rfl, rfl⟩
    · exact wpAny_pyHash_int h
    · exact wpAny_pyHash_str h
  eqBool := fun hu hv h => by
    rcases keyIs_shape hu with ⟨i, t, rfl, rfl⟩ | ⟨x, t, rfl, rfl⟩
    · rcases keyIs_shape hv with ⟨j, u, rfl, rfl⟩ | ⟨y, u, rfl, rfl⟩
      · rw [key_ll] at h; exact wpAny_eqBool_int h
      · rw [key_lr] at h; exact SeqAt.EqAt.int_str i t y u _ _ _ _ h
    · rcases keyIs_shape hv with ⟨j, u, rfl, rfl⟩ | ⟨y, u, rfl, rfl⟩
      · rw [key_rl] at h; exact SeqAt.EqAt.str_int x t j u _ _ _ _ h
      · rw [key_rr] at h; exact wpAny_eqBool_str h
  «strs» := fun k x t v h => by
    rcases keyIs_shape h with ⟨i, u, rfl, e⟩ | ⟨y, u, rfl, e⟩
    · exact nomatch e
    · injection e with e1 _
      subst e1
      cases v <;> rfl
theorem mixKind_int (prog : Program) (w : World) (i : Int) (t : Tok) : (mixKind prog w).is (.inl i) (.int i t) = true := keyIs_int i t
theorem mixKind_str (prog : Program) (w : World) (x : Str) (t : Tok) : (mixKind prog w).is (.inr x) (.str x t) = true := keyIs_str x t
end L2
namespace L2
open PySem PySem.Spec PyProof.Rows
inductive V where
  | non | bl (b : Bool) | int (i : Int) | str (x : Str) | byt (b : Array UInt8) | flt (b : UInt64) | ref (a : Addr) | ty (n : String)
  deriving DecidableEq
noncomputable def RelV : V → Value → Prop
  | .non, u => u = Value.none
  | .bl b, u => u = Value.bool b
  | .int i, u => ∃ t, u = Value.int i t
  | .str x, u => ∃ t, u = Value.str x t
  | .byt b, u => ∃ t, u = Value.bytes b t
  | .flt b, u => ∃ t, u = Value.float b t
  | .ref a, u => u = Value.ref a
  | .ty n, u => u = Value.type n
noncomputable abbrev Vals : List V → List Value → Prop := Paired RelV
theorem Vals.length {xs : List V} {us : List Value} (r : Vals xs us) : xs.length = us.length := Paired.length r
theorem Vals.get : ∀ {xs : List V} {us : List Value} {i : Nat} {x : V}, Vals xs us → xs[i]? = some x → ∃ u, us[i]? = some u ∧ RelV x u
  | _, _, _, _, .nil, e => by simp at e
  | _, _, 0, _, .cons r _, e => by simp at e; subst e; exact ⟨_, rfl, r⟩
  | _, _, i + 1, x, .cons _ t, e => by
    obtain ⟨u, h1, h2⟩ := Vals.get (i := i) (x := x) t (by simpa using e)
    exact ⟨u, by simpa using h1, h2⟩
theorem Vals.set {x : V} {u : Value} (r : RelV x u) : ∀ {xs : List V} {us : List Value} (i : Nat), Vals xs us → Vals (xs.set i x) (us.set i u)
  | _, _, _, .nil => .nil
  | _, _, 0, .cons _ t => .cons r t
  | _, _, i + 1, .cons q t => .cons q (Vals.set r i t)
theorem Vals.append : ∀ {xs ys : List V} {us ws : List Value}, Vals xs us → Vals ys ws → Vals (xs ++ ys) (us ++ ws)
  | _, _, _, _, .nil, s => s
  | _, _, _, _, .cons r t, s => .cons r (Vals.append t s)
theorem Vals.take : ∀ {xs : List V} {us : List Value} (n : Nat), Vals xs us → Vals (xs.take n) (us.take n)
  | _, _, 0, _ => .nil
  | _, _, _ + 1, .nil => .nil
  | _, _, n + 1, .cons r t => .cons r (Vals.take n t)
theorem Vals.drop : ∀ {xs : List V} {us : List Value} (n : Nat), Vals xs us → Vals (xs.drop n) (us.drop n)
  | _, _, 0, r => r
  | _, _, _ + 1, .nil => .nil
  | _, _, n + 1, .cons _ t => Vals.drop n t
noncomputable def RelO : Option V → Option Value → Prop
  | some v, some u => RelV v u
  | none, none => True
  | _, _ => False
noncomputable def KV {κ : Type} : List (κ × V) → List (κ × Value) → Prop := Paired fun (p : κ × V) (q : κ × Value) => p.1 = q.1 ∧ RelV p.2 q.2
noncomputable def kV : Key → V
  | .inl i => .int i
  | .inr x => .str x
inductive HO where
  /-- a list -/
  | lst (xs : List V)
  /-- a tuple (never changes) -/
  | tup (xs : List V)
  /-- a dict whose keys are ints and texts; one whose keys are tuples of ints and texts (the empty one is both) -/
  | dK (kvs : List (Key × V)) | dT (kvs : List (List Key × V))
  /-- a set of ints: its members, its size -/
  | set (S : Int → Bool) (n : Nat)
  /-- an instance of the class at C, its dict at dx, its attributes -/
  | ins (C dx : Addr) (fs : List (Str × V))
  /-- the dict of the instance at x -/
  | own (x : Addr)
  /-- the dict of an exception -/
  | xd (fs : List (Str × V))
  /-- a bound method, f of x -/
  | met (f x : Addr)
  /-- a range object lo, lo + 1, .. below hi -/
  | rng (lo hi : Int)
  /-- a thing that is known to the object (the script; a dict while a loop walks it): read, never written while it is so -/
  | frz (o : Obj) (u : HO)
  /-- a code object's table -/
  | tbl (ps : Array Value)
  /-- any other thing, by what is true of its one object (a def of one's own: SetO a S n := HO.ext fun h => ..) -/
  | ext (φ : Heap → Prop)
noncomputable abbrev Hp := Addr → Option HO
noncomputable def upd (H : Hp) (a : Addr) (o : HO) : Hp := fun b => if b = a then some o else H b
theorem upd_same {H : Hp} {a : Addr} {o : HO} : upd H a o a = some o := by unfold upd; rw [if_pos rfl]
theorem upd_ne {H : Hp} {a b : Addr} {o : HO} (h : b ≠ a) : upd H a o b = H b := by unfold upd; rw [if_neg h]
theorem upd_upd {H : Hp} {a : Addr} {o u : HO} : upd (upd H a o) a u = upd H a u := by
  funext b; unfold upd; split <;> rfl
theorem ne_of {H : Hp} {a b : Addr} {o u : HO} (h : H a = some o) (h' : H b = some u) (d : o ≠ u) : a ≠ b := by
  intro e; subst e; rw [h] at h'; exact d (Option.some.inj h')
theorem ne_of_none {H : Hp} {a b : Addr} {o : HO} (h : H a = some o) (h' : H b = none) : a ≠ b := by
  intro e; subst e; rw [h] at h'; cases h'
noncomputable def TupN (h : Heap) (a : Addr) (items : Array Value) : Prop := ∃ o, h.get? a = some o ∧ o.cls = .type "tuple" ∧ ∃ n, o.data = .seq items n ∧ o.dict = none
theorem TupN.tup {h : Heap} {a : Addr} {items : Array Value} (x : TupN h a items) : IsTup h a items := let ⟨o, e, c, n, d, _⟩ := x; ⟨o, e, c, n, d⟩
theorem TupN.new (h : Heap) (items : Array Value) : TupN (h.push { cls := .type "tuple", data := .seq items }) h.objs.size items := ⟨_, Heap.get?_push_size _ rfl, rfl, _, rfl, rfl⟩
section
variable (P : Program) (w : World)
noncomputable def ObjOk (H : Hp) (h : Heap) (a : Addr) : HO → Prop
  | .lst xs => xs.length ≤ sizeLine ∧ ∃ (its : List Value) (n : Nat), Vals xs its ∧ h.get? a = some { cls := .type "list", data := .seq its.toArray n }
  | .tup xs => xs.length ≤ sizeLine ∧ ∃ its : List Value, Vals xs its ∧ TupN h a its.toArray
  | .dK kvs => kvs.length ≤ sizeLine ∧ (a == sysModules) = false ∧ ∃ vs, KV kvs vs ∧ h.DictOf (mixKind P w) a vs
  | .dT kvs => kvs.length ≤ sizeLine ∧ (a == sysModules) = false ∧ ∃ xs : List (List Key × Addr × Value),
      Paired (fun (p : List Key × V) (q : List Key × Addr × Value) => p.1 = q.1 ∧ H q.2.1 = some (.tup (p.1.map kV)) ∧ RelV p.2 q.2.2) kvs xs ∧
      ∃ o es ep, h.get? a = some o ∧ o.ExactDict ∧ o.data = .dict es ep ∧ es.toList = xs.map (entryOfKey (tupleKind (mixKind P w))) ∧ (xs.map (·.1)).Nodup
  | .set S n => h.SetOf (intKind P w) a S n
  | .ins C dx fs => H dx = some (.own a) ∧ fs.length ≤ 1000 ∧ dx ≠ a ∧ h.get? a = some (PySem.W.instObj C dx) ∧
      ∃ mA, h.Ns1 dx mA ∧ (∀ f, RelO (fs.lookup f) (mA f)) ∧ PySem.Within mA (fs.map (·.1))
  | .own _ => ∃ o, h.get? a = some o
  | .xd fs => ∃ mA, h.Ns1 a mA ∧ ∀ f, RelO (fs.lookup f) (mA f)
  | .rng lo hi => ∃ t u v, h.get? a = some { cls := .type "range", data := .fields #[.int lo t, .int hi u, .int 1 v] }
  | .frz o u => h.get? a = some o ∧ ObjOk H h a u
  | .tbl ps => h.get? a = some { cls := .none, data := .fields ps }
  | .met f x => h.get? a = some (PySem.W.methodObj (.ref f) (.ref x))
  | .ext φ => φ h ∧ (∃ o, h.get? a = some o) ∧ ∀ h1 h2 : Heap, φ h1 → (∀ o, h1.get? a = some o → h2.get? a = some o) → φ h2
noncomputable def HOk (H : Hp) (h : Heap) : Prop := ∀ a o, H a = some o → ObjOk P w H h a o
end
section
variable {P : Program} {w : World} {H H' : Hp} {h h' : Heap} {a : Addr} {o : HO}
theorem ObjOk.lt (x : ObjOk P w H h a o) : a < h.objs.size := by
  cases o with
  | lst xs => obtain ⟨_, _, _, _, e⟩ := x; exact Heap.lt_size e
  | tup xs => obtain ⟨_, _, _, p⟩ := x; exact p.tup.lt
  | dK kvs => obtain ⟨_, _, _, _, o, _, _, e, _⟩ := x; exact Heap.lt_size e
  | dT kvs => obtain ⟨_, _, _, _, o, _, _, e, _⟩ := x; exact Heap.lt_size e
  | set S n => obtain ⟨o, _, _, _, e, _⟩ := x; exact Heap.lt_size e
  | ins C dx fs => obtain ⟨_, _, _, e, _⟩ := x; exact Heap.lt_size e
  | own y => obtain ⟨_, e⟩ := x; exact Heap.lt_size e
  | xd fs => obtain ⟨_, ⟨_, _, _, e, _⟩, _⟩ := x; exact Heap.lt_size e
  | rng lo hi => obtain ⟨_, _, _, e⟩ := x; exact Heap.lt_size e
  | frz ob u => obtain ⟨e, _⟩ := x; exact Heap.lt_size e
  | tbl ps => exact Heap.lt_size (show h.get? a = some _ from x)
  | met f y => exact Heap.lt_size (show h.get? a = some _ from x)
  | ext φ => obtain ⟨_, ⟨_, e⟩, _⟩ := x; exact Heap.lt_size e
theorem Paired.mapP {α β : Type} {F G : α → β → Prop} : ∀ {l₁ : List α} {l₂ : List β}, Paired F l₁ l₂ → (∀ a b, F a b → G a b) → Paired G l₁ l₂
  | _, _, .nil, _ => .nil
  | _, _, .cons r t, f => .cons (f _ _ r) (Paired.mapP t f)
theorem ObjOk.stay (x : ObjOk P w H h a o) (k : ∀ b u, (b = a ∨ H b = some (.own a)) → h.get? b = some u → h'.get? b = some u)
    (ho : ∀ b, H b = some (.own a) → H' b = some (.own a)) (ht : ∀ b xs, H b = some (.tup xs) → H' b = some (.tup xs)) : ObjOk P w H' h' a o := by
  induction o with
  | lst xs => obtain ⟨z, its, n, r, e⟩ := x; exact ⟨z, its, n, r, k _ _ (.inl rfl) e⟩
  | tup xs => obtain ⟨z, its, r, ob, e, c⟩ := x; exact ⟨z, its, r, ob, k _ _ (.inl rfl) e, c⟩
  | dK kvs => obtain ⟨z, y, vs, r, ob, es, ep, e, c⟩ := x; exact ⟨z, y, vs, r, ob, es, ep, k _ _ (.inl rfl) e, c⟩
  | dT kvs =>
    obtain ⟨z, y, xs, r, ob, es, ep, e, c⟩ := x
    exact ⟨z, y, xs, Paired.mapP r fun p q z => ⟨z.1, ht _ _ z.2.1, z.2.2⟩, ob, es, ep, k _ _ (.inl rfl) e, c⟩
  | set S n => obtain ⟨ob, es, ep, t, e, c⟩ := x; exact ⟨ob, es, ep, t, k _ _ (.inl rfl) e, c⟩
  | ins C dx fs =>
    obtain ⟨d, z, ne, e, mA, ⟨od, es, ep, e2, c⟩, r⟩ := x
    exact ⟨ho _ d, z, ne, k _ _ (.inl rfl) e, mA, ⟨od, es, ep, k _ _ (.inr d) e2, c⟩, r⟩
  | own y => obtain ⟨ob, e⟩ := x; exact ⟨ob, k _ _ (.inl rfl) e⟩
  | xd fs => obtain ⟨mA, ⟨od, es, ep, e, c⟩, r⟩ := x; exact ⟨mA, ⟨od, es, ep, k _ _ (.inl rfl) e, c⟩, r⟩
  | rng lo hi => obtain ⟨t, u, v, e⟩ := x; exact ⟨t, u, v, k _ _ (.inl rfl) e⟩
  | frz ob u ih => obtain ⟨e, q⟩ := x; exact ⟨k _ _ (.inl rfl) e, ih q⟩
  | tbl ps =>
    have e : h.get? a = some { cls := .none, data := .fields ps } := x
    show h'.get? a = some { cls := .none, data := .fields ps }
    exact k a _ (.inl rfl) e
  | met f y =>
    have e : h.get? a = some (PySem.W.methodObj (.ref f) (.ref y)) := x
    show h'.get? a = some (PySem.W.methodObj (.ref f) (.ref y))
    exact k a _ (.inl rfl) e
  | ext φ => obtain ⟨p, ⟨o, e⟩, st⟩ := x; exact ⟨st _ _ p fun o q => k _ _ (.inl rfl) q, ⟨o, k _ _ (.inl rfl) e⟩, st⟩
theorem HOk.lt (x : HOk P w H h) (e : H a = some o) : a < h.objs.size := (x a o e).lt
theorem HOk.fresh (x : HOk P w H h) (e : h.objs.size ≤ a) : H a = none := by
  cases q : H a with
  | none => rfl
  | some u => exact absurd (Nat.lt_of_lt_of_le (x.lt q) e) (Nat.lt_irrefl _)
theorem HOk.kept (x : HOk P w H h) (k : ∀ b u, h.get? b = some u → h'.get? b = some u) : HOk P w H h' := fun a o e =>
  (x a o e).stay (fun b u _ q => k b u q) (fun _ q => q) fun _ _ q => q
theorem HOk.laid (x : HOk P w H h) (k : ∀ b u, h.get? b = some u → h'.get? b = some u) (hp : h.objs.size ≤ a) (new : ObjOk P w (upd H a o) h' a o) : HOk P w (upd H a o) h' := fun b u e => by
  have hn := x.fresh hp
  by_cases hb : b = a
  · subst hb; rw [upd_same] at e; cases e; exact new
  · rw [upd_ne hb] at e
    exact (x b u e).stay (fun c v _ q => k c v q) (fun c q => by rw [upd_ne (ne_of_none q hn)]; exact q) fun c xs q => by rw [upd_ne (ne_of_none q hn)]; exact q
end
noncomputable def Rd (H : Hp) (a : Addr) (u : HO) : Prop := H a = some u ∨ ∃ o, H a = some (.frz o u)
theorem Rd.ok {P : Program} {w : World} {H : Hp} {h : Heap} {a : Addr} {u : HO} (r : Rd H a u) (x : HOk P w H h) : ObjOk P w H h a u := by
  rcases r with r | ⟨o, r⟩
  · exact x a u r
  · obtain ⟨_, q⟩ := x a _ r
    exact q
noncomputable def Mut : Option HO → Prop
  | some (.lst _) => True
  | some (.dK _) => True
  | some (.dT _) => True
  | some (.set _ _) => True
  | some (.ins _ _ _) => True
  | some (.ext _) => True
  | _ => False
section
variable {P : Program} {w : World} {H : Hp} {h h' : Heap} {x e : Addr} {o' : HO}
theorem HOk.write (ok : HOk P w H h) (mu : Mut (H x)) (he : e = x ∨ H e = some (.own x)) (k : ∀ b u, b ≠ e → h.get? b = some u → h'.get? b = some u) (heo : ∃ u, h'.get? e = some u)
    (new : ObjOk P w (upd H x o') h' x o') : HOk P w (upd H x o') h' := fun b u q => by
  have nown : ∀ c y, H c = some (.own y) → c ≠ x := fun c y r z => by subst z; rw [r] at mu; exact mu
  have ntup : ∀ c xs, H c = some (.tup xs) → c ≠ x := fun c xs r z => by subst z; rw [r] at mu; exact mu
  by_cases hb : b = x
  · subst hb; rw [upd_same] at q; cases q; exact new
  · rw [upd_ne hb] at q
    by_cases hbe : b = e
    · have q' : H b = some (.own x) := by
        rcases he with z | z
        · exact absurd (hbe.trans z) hb
        · rw [hbe]; exact z
      rw [q] at q'; cases q'
      obtain ⟨v, hv⟩ := heo
      exact ⟨v, by rw [hbe]; exact hv⟩
    · refine (ok b u q).stay (fun c v hc r => k c v ?_ r) (fun c r => by rw [upd_ne (nown c b r)]; exact r) fun c xs r => by rw [upd_ne (ntup c xs r)]; exact r
      rcases hc with rfl | hc
      · exact hbe
      · rintro rfl
        rcases he with z | z
        · exact nown c b hc z
        · rw [hc] at z; cases z; exact hb rfl
end
structure Un (fs ex : List Addr) (H H' : Hp) (h h' : Heap) : Prop where
  keep : ∀ b o, h.get? b = some o → H b = none → b ∉ fs → b ∉ ex → h'.get? b = some o
  slot : ∀ b o, h.get? b = some o → H b = none → b ∈ fs → b ∉ ex → ∃ sl, h'.get? b = some { o with slots := sl }
  free : ∀ b o, h.get? b = some o → H b = none → b ∉ ex → H' b = none
  there : ∀ b o, h.get? b = some o → b ∉ ex → ∃ o', h'.get? b = some o'
  tups : ∀ b xs, H b = some (.tup xs) → H' b = some (.tup xs)
  frzs : ∀ b o u, H b = some (.frz o u) → H' b = some (.frz o u)
  tbls : ∀ b ps, H b = some (.tbl ps) → ∃ more, H' b = some (.tbl (ps ++ more))
section
variable {fs fs' ex ex' : List Addr} {H H1 H2 : Hp} {h h1 h2 h' : Heap} {a x e : Addr} {o : HO}
theorem Un.any (u : Un fs ex H H1 h h1) {b : Addr} {ob : Obj} (q : h.get? b = some ob) (n : H b = none) (hx : b ∉ ex) : ∃ sl, h1.get? b = some { ob with slots := sl } := by
  by_cases hb : b ∈ fs
  · exact u.slot b ob q n hb hx
  · exact ⟨ob.slots, u.keep b ob q n hb hx⟩
theorem Un.kept (k : ∀ b u, h.get? b = some u → h'.get? b = some u) : Un fs ex H H h h' :=
  ⟨fun b ob q _ _ _ => k b ob q, fun b ob q _ _ _ => ⟨ob.slots, k b ob q⟩, fun _ _ _ n _ => n, fun b ob q _ => ⟨ob, k b ob q⟩, fun _ _ q => q, fun _ _ _ q => q, fun _ ps q => ⟨#[], by rw [q]; simp⟩⟩
theorem Un.refl : Un fs ex H H h h := Un.kept fun _ _ q => q
theorem Un.laid (k : ∀ b u, h.get? b = some u → h'.get? b = some u) (hp : h.objs.size ≤ a) (hn : H a = none) : Un fs ex H (upd H a o) h h' where
  keep := fun b u q _ _ _ => k b u q
  slot := fun b u q _ _ _ => ⟨u.slots, k b u q⟩
  free := fun b u q n _ => by rw [upd_ne (Nat.ne_of_lt (Nat.lt_of_lt_of_le (Heap.lt_size q) hp))]; exact n
  there := fun b u q _ => ⟨u, k b u q⟩
  tups := fun b xs q => by rw [upd_ne (ne_of_none q hn)]; exact q
  frzs := fun b u xs q => by rw [upd_ne (ne_of_none q hn)]; exact q
  tbls := fun b ps q => ⟨#[], by rw [upd_ne (ne_of_none q hn), q]; simp⟩
theorem Un.write (mu : Mut (H x)) (he : e = x ∨ H e = some (.own x)) (k : ∀ b u, b ≠ e → h.get? b = some u → h'.get? b = some u) (heo : ∃ u, h'.get? e = some u) : Un fs ex H (upd H x o) h h' := by
  have hx : ∀ b, H b = none → b ≠ x := fun b n z => by subst z; rw [n] at mu; exact mu
  have hb : ∀ b, H b = none → b ≠ e := fun b n z => by
    subst z
    rcases he with r | r
    · exact hx b n r
    · rw [n] at r; cases r
  have hm : ∀ b u, H b = some u → ¬ Mut (some u) → b ≠ x := fun b u q nm z => by subst z; rw [q] at mu; exact nm mu
  refine ⟨fun b u q n _ _ => k b u (hb b n) q, fun b u q n _ _ => ⟨u.slots, k b u (hb b n) q⟩, fun b u q n _ => by rw [upd_ne (hx b n)]; exact n, fun b u q _ => ?_,
    fun b xs q => by rw [upd_ne (hm b _ q fun z => z)]; exact q, fun b u xs q => by rw [upd_ne (hm b _ q fun z => z)]; exact q, fun b ps q => ⟨#[], by rw [upd_ne (hm b _ q fun z => z), q]; simp⟩⟩
  by_cases hbe : b = e
  · subst hbe; exact heo
  · exact ⟨u, k b u hbe q⟩
end
noncomputable def trk (h : Heap) (H : Hp) : List Addr := (List.range h.objs.size).filter fun a => (H a).isSome
noncomputable def hidT (h : Heap) (H : Hp) : Heap := PySem.W.hideAll h (trk h H)
theorem hidT_size (h : Heap) (H : Hp) : (hidT h H).objs.size = h.objs.size := PySem.W.hideAll_size _ _
theorem hidT_get {h : Heap} {H : Hp} {b : Addr} {o : Obj} (e : h.get? b = some o) (n : H b = none) : (hidT h H).get? b = some o :=
  PySem.W.hideAll_get _ e fun hm => by
    have q : (H b).isSome = true := (List.mem_filter.mp hm).2
    rw [n] at q; simp at q
theorem of_hidT {h : Heap} {H : Hp} {b : Addr} {o : Obj} (e : (hidT h H).get? b = some o) : h.get? b = some o ∧ H b = none := by
  have e' : h.get? b = some o := PySem.W.of_hideAll (trk h H) e
  refine ⟨e', ?_⟩
  cases q : H b with
  | none => rfl
  | some x =>
    have hm : b ∈ trk h H := List.mem_filter.mpr ⟨List.mem_range.mpr (Heap.lt_size e'), by simp [q]⟩
    have z : (hidT h H).get? b = none := PySem.W.hideAll_none (trk h H) hm
    rw [z] at e; cases e
noncomputable def allNews (g h : Heap) (L : Addr) : List (Addr × Obj) := (List.range h.objs.size).filterMap fun a => if a = L ∨ (g.get? a).isSome = true then none else (h.get? a).map fun o => (a, o)
noncomputable def rest (g h : Heap) (L d : Addr) : List (Addr × Obj) := (allNews g h L).filter fun p => decide (p.1 ≠ d)
end L2
namespace L2
open PySem PySem.Spec PyProof.Rows
structure Mod (K : PySem.W.Frag) (mg : Str → Option Value) (base : Heap) : Prop where
  kin : K.In base
  glob : base.Ns mainGlobals mg
  blt : ∃ mb, base.Ns builtinsNs mb ∧ ∀ x : Str, x ≠ "__name__" → mb x = bootBuiltins x
  nolimit : base.NoLimit
structure Cx where
  prog : Program
  w : World
  K : PySem.W.Frag
  mg : Str → Option Value
  base : Heap
  A : Around
  N : List Str
  s₀ : Shared
  H₀ : Hp
  env : Env
  outer : List Env
  stack : List Env
  ex : List Addr
  fn : Str → Bool
  calm : Bool
  pn : List (Addr × Obj)
  xe : Value → Shared → Prop
noncomputable def frs (l : List Env) : List Addr := l.filterMap (·.frame)
noncomputable abbrev Cx.fs (X : Cx) : List Addr := frs X.outer
noncomputable def Vis (sc : Scope) (x : Str) : Prop := sc.names.lookup x = some .local ∨ sc.names.lookup x = some .cell ∨ sc.names.lookup x = some .free
noncomputable def Loc (sc : Scope) (x : Str) : Prop := sc.names.lookup x = some .local ∨ sc.names.lookup x = some .cell
noncomputable def Look (env : Env) (h : Heap) (m : Str → Option Value) (x : Str) (u : Value) : Prop :=
  (env.kindOf x = some .local ∧ m x = some u) ∨ ((env.kindOf x = some .cell ∨ env.kindOf x = some .free) ∧ ∃ c, env.cells.lookup x = some c ∧ h.IsCell c (some u))
structure Cx.Ok (X : Cx) : Prop where
  mod : Mod X.K X.mg X.base
  kind : X.env.scope.kind = .function
  glob : X.env.globals = mainGlobals
  blt : X.env.builtins = builtinsNs
  above : X.s₀.heap.objs.size ≤ X.env.locals
  inj : ∀ x y c, X.env.cells.lookup x = some c → X.env.cells.lookup y = some c → x = y
  has : ∀ x, (X.env.kindOf x = some .cell ∨ X.env.kindOf x = some .free) → ∃ c, X.env.cells.lookup x = some c
  cab : ∀ x c, X.fn x = true → X.env.cells.lookup x = some c → X.s₀.heap.objs.size ≤ c
  hd : X.calm = true → X.A.handled = none
  frames : X.A.frames = some X.stack
  stk : X.stack = X.outer ∨ (X.stack = X.env :: X.outer ∧ X.env.frame = some X.env.locals)
  exf : ∀ b ∈ X.ex, b ≠ X.env.locals ∧ ∀ x c, X.env.cells.lookup x = some c → c ≠ b
  bs : ∀ b o, X.base.get? b = some o → X.s₀.heap.get? b = some o ∧ X.H₀ b = none
  bsz : X.base.objs.size ≤ X.s₀.heap.objs.size
  noex : ∀ b o, X.base.get? b = some o → b ∉ X.ex
  exfs : ∀ b ∈ X.ex, b ∉ X.fs
  funs : X.s₀.heap.FunFrames X.base X.outer
  frf : ∀ b ∈ X.fs, X.H₀ b = none
structure Inv (X : Cx) (pins : List (Addr × Obj)) (σ : List (Option V)) (H : Hp) (s : Shared) : Prop where
  ok : X.Ok
  os : s.os = X.s₀.os
  bare : AllBare s.gens
  base : Un X.fs X.ex X.H₀ H X.s₀.heap s.heap
  loc : ∃ m, s.heap.Ns X.env.locals m ∧ ∀ (i : Nat) (x : Str) (v : V), X.N[i]? = some x → σ[i]? = some (some v) → Vis X.env.scope x → ∃ u, RelV v u ∧ Look X.env s.heap m x u
  cell : ∀ x c, X.env.cells.lookup x = some c → ∃ v, s.heap.IsCell c v
  free : H X.env.locals = none
  freeC : ∀ x c, X.env.cells.lookup x = some c → H c = none
  pin : ∀ p ∈ X.pn ++ pins, s.heap.get? p.1 = some p.2 ∧ H p.1 = none ∧ p.1 ≠ X.env.locals ∧ p.1 ∉ X.fs ∧ ∀ v, p.2.data ≠ .cell v
  hok : HOk X.prog X.w H s.heap
  len : σ.length = X.N.length
section
variable {X : Cx} {pins : List (Addr × Obj)} {σ : List (Option V)} {H H' : Hp} {s : Shared} {h' : Heap}
theorem Cx.Ok.nofr (ok : X.Ok) {b : Addr} {o : Obj} (e : X.base.get? b = some o) : b ∉ X.fs := fun hb => by
  have := (ok.funs.mem hb).1
  rw [e] at this; cases this
theorem Inv.bs (I : Inv X pins σ H s) : ∀ b o, X.base.get? b = some o → s.heap.get? b = some o ∧ H b = none := fun b o e =>
  ⟨I.base.keep b o (I.ok.bs b o e).1 (I.ok.bs b o e).2 (I.ok.nofr e) (I.ok.noex b o e), I.base.free b o (I.ok.bs b o e).1 (I.ok.bs b o e).2 (I.ok.noex b o e)⟩
theorem Inv.bk (I : Inv X pins σ H s) : ∀ b o, X.base.get? b = some o → s.heap.get? b = some o := fun b o e => (I.bs b o e).1
theorem Inv.mod (I : Inv X pins σ H s) : Mod X.K X.mg X.base := I.ok.mod
theorem Inv.kIn (I : Inv X pins σ H s) : X.K.In s.heap := I.ok.mod.kin.keeps I.bk
theorem Inv.lt (I : Inv X pins σ H s) : X.env.locals < s.heap.objs.size := let ⟨_, hn, _⟩ := I.loc; hn.lt
theorem Inv.sz (I : Inv X pins σ H s) : X.s₀.heap.objs.size ≤ s.heap.objs.size := Nat.le_trans I.ok.above (Nat.le_of_lt I.lt)
theorem Inv.nofs (I : Inv X pins σ H s) {a : Addr} (h : s.heap.objs.size ≤ a) : a ∉ X.fs := fun hb => by
  obtain ⟨_, o, ho, _⟩ := I.ok.funs.mem hb
  exact absurd (Nat.lt_of_lt_of_le (Heap.lt_size ho) (Nat.le_trans I.sz h)) (Nat.lt_irrefl _)
theorem Inv.cne (I : Inv X pins σ H s) : ∀ x c, X.env.cells.lookup x = some c → c ≠ X.env.locals := fun x c e z => by
  obtain ⟨v, o, ho, hd⟩ := I.cell x c e
  obtain ⟨m, ⟨o', es, ep, ho', hd', _⟩, _⟩ := I.loc
  rw [z, ho'] at ho; cases ho; rw [hd'] at hd; cases hd
theorem Inv.funs (I : Inv X pins σ H s) : s.heap.FunFrames X.base X.outer := by
  have all : ∀ (l : List Env), (∀ b ∈ frs l, b ∈ X.fs) → X.s₀.heap.FunFrames X.base l → s.heap.FunFrames X.base l := by
    intro l
    induction l with
    | nil => intro _ _; trivial
    | cons env r ih =>
      intro hs hl
      obtain ⟨hk, ⟨L, o, hf, hn, ho, hd⟩, hr⟩ := hl
      have hL : L ∈ X.fs := hs L (by unfold frs; rw [List.filterMap_cons, hf]; exact List.mem_cons_self)
      obtain ⟨sl, e⟩ := I.base.slot L o ho (I.ok.frf L hL) hL fun z => I.ok.exfs L z hL
      exact ⟨hk, ⟨L, _, hf, hn, e, hd⟩, ih (fun b hb => hs b (by unfold frs; rw [List.filterMap_cons, hf]; exact List.mem_cons_of_mem _ hb)) hr⟩
  exact all X.outer (fun _ hb => hb) I.ok.funs
theorem Inv.stack (I : Inv X pins σ H s) : s.heap.FunFrames X.base X.stack := by
  rcases I.ok.stk with e | ⟨e, hf⟩
  · rw [e]; exact I.funs
  · rw [e]
    obtain ⟨m, hn, _⟩ := I.loc
    refine .cons (by rw [I.ok.kind]; decide) hf hn ?_ I.funs
    exact Heap.get?_none_of_le (Nat.le_trans I.ok.bsz I.ok.above)
theorem Inv.stkSub (I : Inv X pins σ H s) : ∀ b ∈ frs X.stack, b ∈ X.env.locals :: X.fs := fun b hb => by
  rcases I.ok.stk with e | ⟨e, hf⟩
  · rw [e] at hb; exact List.mem_cons_of_mem _ hb
  · rw [e] at hb
    unfold frs at hb
    rw [List.filterMap_cons, hf] at hb
    exact hb
theorem Inv.stkFree (I : Inv X pins σ H s) : ∀ b ∈ frs X.stack, H b = none := fun b hb => by
  rcases List.mem_cons.mp (I.stkSub b hb) with e | hb
  · rw [e]; exact I.free
  · obtain ⟨_, o, ho, _⟩ := I.ok.funs.mem hb
    exact I.base.free b o ho (I.ok.frf b hb) fun z => I.ok.exfs b z hb
theorem Inv.step {g' : Array GenState} {t' : Nat} {d' : Drawn} {ch : List Addr} (I : Inv X pins σ H s)
    (hch : ∀ b ∈ ch, (b ∈ X.ex ∨ X.s₀.heap.objs.size ≤ b) ∧ b ≠ X.env.locals ∧ (∀ x c, X.env.cells.lookup x = some c → c ≠ b) ∧ ∀ p ∈ X.pn ++ pins, p.1 ≠ b)
    (keep : ∀ b o, b ≠ X.env.locals → b ∉ X.fs → b ∉ ch → s.heap.get? b = some o → H b = none → h'.get? b = some o)
    (slot : ∀ b o, b ≠ X.env.locals → b ∈ X.fs → b ∉ ch → s.heap.get? b = some o → H b = none → ∃ sl, h'.get? b = some { o with slots := sl }) (free : ∀ b o, b ∉ ch → s.heap.get? b = some o → H b = none → H' b = none)
    (there : ∀ b o, b ∉ ch → s.heap.get? b = some o → ∃ o', h'.get? b = some o')
    (tups : ∀ b xs, H b = some (.tup xs) → H' b = some (.tup xs)) (frzs : ∀ b o u, H b = some (.frz o u) → H' b = some (.frz o u)) (tbls : ∀ b ps, H b = some (.tbl ps) → ∃ more, H' b = some (.tbl (ps ++ more)))
    (ns : ∀ m, s.heap.Ns X.env.locals m → h'.Ns X.env.locals m) (hok : HOk X.prog X.w H' h') (hg : AllBare g') :
    Inv X pins σ H' { s with heap := h', gens := g', drawn := d', toks := t' } := by
  have neL : ∀ b o, X.s₀.heap.get? b = some o → b ≠ X.env.locals := fun b o e => Nat.ne_of_lt (Nat.lt_of_lt_of_le (Heap.lt_size e) I.ok.above)
  have neC : ∀ b o, X.s₀.heap.get? b = some o → b ∉ X.ex → b ∉ ch := fun b o e hx hb => by
    rcases (hch b hb).1 with z | z
    · exact hx z
    · exact absurd (Nat.lt_of_lt_of_le (Heap.lt_size e) z) (Nat.lt_irrefl _)
  have cellK : ∀ x c, X.env.cells.lookup x = some c → ∀ v, s.heap.IsCell c v → h'.IsCell c v := fun x c e v ⟨o, ho, hd⟩ => by
    have nch : c ∉ ch := fun z => (hch c z).2.2.1 x c e rfl
    by_cases hc : c ∈ X.fs
    · obtain ⟨sl, q⟩ := slot c o (I.cne x c e) hc nch ho (I.freeC x c e)
      exact ⟨_, q, hd⟩
    · exact ⟨o, keep c o (I.cne x c e) hc nch ho (I.freeC x c e), hd⟩
  refine ⟨I.ok, I.os, hg, ⟨fun b o e n hb hx => ?_, fun b o e n hb hx => ?_, fun b o e n hx => ?_, fun b o e hx => ?_, fun b xs e => tups b xs (I.base.tups b xs e), fun b o xs e => frzs b o xs (I.base.frzs b o xs e), fun b ps e => ?_⟩, ?_, fun x c e => ?_, ?_, fun x c e => ?_, fun p hp => ?_, hok, I.len⟩
  · exact keep b o (neL b o e) hb (neC b o e hx) (I.base.keep b o e n hb hx) (I.base.free b o e n hx)
  · obtain ⟨sl, e1⟩ := I.base.slot b o e n hb hx
    obtain ⟨sl', e2⟩ := slot b _ (neL b o e) hb (neC b o e hx) e1 (I.base.free b o e n hx)
    exact ⟨sl', e2⟩
  · obtain ⟨o', e1⟩ := I.base.there b o e hx
    exact free b o' (neC b o e hx) e1 (I.base.free b o e n hx)
  · obtain ⟨o', e1⟩ := I.base.there b o e hx
    exact there b o' (neC b o e hx) e1
  · obtain ⟨m1, e1⟩ := I.base.tbls b ps e
    obtain ⟨m2, e2⟩ := tbls b _ e1
    exact ⟨m1 ++ m2, by rw [e2, Array.append_assoc]⟩
  · obtain ⟨m, hn, hl⟩ := I.loc
    refine ⟨m, ns m hn, fun i x v e1 e2 e3 => ?_⟩
    obtain ⟨u, r, l⟩ := hl i x v e1 e2 e3
    refine ⟨u, r, ?_⟩
    rcases l with l | ⟨k, c, e, z⟩
    · exact .inl l
    · exact .inr ⟨k, c, e, cellK x c e _ z⟩
  · obtain ⟨v, z⟩ := I.cell x c e
    exact ⟨v, cellK x c e v z⟩
  · obtain ⟨m, ⟨o, _, _, ho, _⟩, _⟩ := I.loc
    exact free _ o (fun z => (hch _ z).2.1 rfl) ho I.free
  · obtain ⟨v, o, ho, hd⟩ := I.cell x c e
    exact free c o (fun z => (hch c z).2.2.1 x c e rfl) ho (I.freeC x c e)
  · obtain ⟨e, n, ne, nf, d⟩ := I.pin p hp
    have nch : p.1 ∉ ch := fun z => (hch p.1 z).2.2.2 p hp rfl
    exact ⟨keep p.1 p.2 ne nf nch e n, free p.1 p.2 nch e n, ne, nf, d⟩
theorem Inv.un {t' : Nat} (I : Inv X pins σ H s) (u : Un X.fs [] H H' s.heap h') (hok : HOk X.prog X.w H' h') : Inv X pins σ H' { s with heap := h', toks := t' } := by
  obtain ⟨m, ⟨o, es, ep, ho, r⟩, _⟩ := id I.loc
  obtain ⟨sl, hL⟩ := u.any ho I.free (by simp)
  exact I.step (g' := s.gens) (d' := s.drawn) (ch := []) (fun _ z => nomatch z) (fun b o _ hb _ e n => u.keep b o e n hb (by simp)) (fun b o _ hb _ e n => u.slot b o e n hb (by simp)) (fun b o _ e n => u.free b o e n (by simp)) (fun b o _ e => u.there b o e (by simp)) u.tups u.frzs u.tbls (fun m' hm => by
    obtain ⟨o', es', ep', ho', r'⟩ := hm
    rw [ho] at ho'; cases ho'
    exact ⟨_, es', ep', hL, r'⟩) hok I.bare
theorem Inv.call {g' : Array GenState} {t' : Nat} {d' : Drawn} {ch : List Addr} (I : Inv X pins σ H s) (u : Un (frs X.stack) ch H H' s.heap h') (hok : HOk X.prog X.w H' h') (hg : AllBare g')
    (hch : ∀ b ∈ ch, (b ∈ X.ex ∨ X.s₀.heap.objs.size ≤ b) ∧ b ≠ X.env.locals ∧ (∀ x c, X.env.cells.lookup x = some c → c ≠ b) ∧ ∀ p ∈ X.pn ++ pins, p.1 ≠ b) :
    Inv X pins σ H' { s with heap := h', gens := g', drawn := d', toks := t' } := by
  obtain ⟨m, ⟨o, es, ep, ho, r⟩, _⟩ := id I.loc
  obtain ⟨sl, hL⟩ := u.any ho I.free fun z => (hch _ z).2.1 rfl
  exact I.step (ch := ch) hch (fun b o hL hb hc e n => u.keep b o e n (fun z => (List.mem_cons.mp (I.stkSub b z)).elim hL hb) hc) (fun b o _ _ hc e n => u.any e n hc) (fun b o hc e n => u.free b o e n hc) (fun b o hc e => u.there b o e hc) u.tups u.frzs u.tbls (fun m' hm => by
    obtain ⟨o', es', ep', ho', r'⟩ := hm
    rw [ho] at ho'; cases ho'
    exact ⟨_, es', ep', hL, r'⟩) hok hg
theorem Inv.turned {t' : Nat} {it : Addr} (I : Inv X pins σ H s) (k : ∀ b o, b ≠ it → s.heap.get? b = some o → h'.get? b = some o) (hn : H it = none) (hL : it ≠ X.env.locals)
    (h1 : it ∈ X.ex ∨ X.s₀.heap.objs.size ≤ it) (h2 : ∀ x c, X.env.cells.lookup x = some c → c ≠ it) (h3 : ∀ p ∈ X.pn ++ pins, p.1 ≠ it) : Inv X pins σ H { s with heap := h', toks := t' } := by
  have nit : ∀ b u, H b = some u → b ≠ it := fun b u e z => by rw [z, hn] at e; cases e
  refine I.step (g' := s.gens) (d' := s.drawn) (ch := [it]) (fun b hb => ?_) (fun b o _ _ hc e _ => k b o (fun z => hc (by simp [z])) e) (fun b o _ _ hc e _ => ⟨o.slots, k b o (fun z => hc (by simp [z])) e⟩) (fun _ _ _ _ n => n)
    (fun b o hc e => ⟨o, k b o (fun z => hc (by simp [z])) e⟩) (fun _ _ e => e) (fun _ _ _ e => e) (fun b ps e => ⟨#[], by rw [e]; simp⟩) (fun m hm => ?_) (fun b u e => ?_) I.bare
  · have e : b = it := by simpa using hb
    subst e
    exact ⟨h1, hL, h2, h3⟩
  · obtain ⟨o, es, ep, ho, r⟩ := hm
    exact ⟨o, es, ep, k _ o (Ne.symm hL) ho, r⟩
  · refine (I.hok b u e).stay (fun c v hc q => k c v ?_ q) (fun _ q => q) fun _ _ q => q
    rcases hc with z | z
    · rw [z]; exact nit b u e
    · exact nit c _ z
theorem Inv.tok (I : Inv X pins σ H s) (t : Nat) : Inv X pins σ H { s with toks := t } := I.un (h' := s.heap) (t' := t) Un.refl I.hok
theorem Inv.kept {t' : Nat} (I : Inv X pins σ H s) (k : ∀ b u, s.heap.get? b = some u → h'.get? b = some u) : Inv X pins σ H { s with heap := h', toks := t' } := I.un (Un.kept k) (I.hok.kept k)
theorem Inv.laid {a : Addr} {o : HO} {t' : Nat} (I : Inv X pins σ H s) (k : ∀ b u, s.heap.get? b = some u → h'.get? b = some u) (hp : s.heap.objs.size ≤ a) (new : ObjOk X.prog X.w (upd H a o) h' a o) :
    Inv X pins σ (upd H a o) { s with heap := h', toks := t' } := I.un (Un.laid k hp (I.hok.fresh hp)) (I.hok.laid k hp new)
theorem Inv.write {x e : Addr} {o : HO} {t' : Nat} (I : Inv X pins σ H s) (mu : Mut (H x)) (he : e = x ∨ H e = some (.own x)) (k : ∀ b u, b ≠ e → s.heap.get? b = some u → h'.get? b = some u) (heo : ∃ u, h'.get? e = some u)
    (new : ObjOk X.prog X.w (upd H x o) h' x o) : Inv X pins σ (upd H x o) { s with heap := h', toks := t' } := I.un (Un.write mu he k heo) (I.hok.write mu he k heo new)
theorem Inv.pins_of {pins' : List (Addr × Obj)} (I : Inv X pins σ H s) (h : ∀ p ∈ pins', s.heap.get? p.1 = some p.2 ∧ H p.1 = none ∧ p.1 ≠ X.env.locals ∧ p.1 ∉ X.fs ∧ ∀ v, p.2.data ≠ .cell v) : Inv X pins' σ H s :=
  ⟨I.ok, I.os, I.bare, I.base, I.loc, I.cell, I.free, I.freeC, fun p hp => (List.mem_append.mp hp).elim (fun z => I.pin p (List.mem_append_left _ z)) (h p), I.hok, I.len⟩
theorem nodup_ix {N : List Str} (hN : N.Nodup) {i j : Nat} {x : Str} (a : N[i]? = some x) (b : N[j]? = some x) : i = j := by
  obtain ⟨h1, e1⟩ := List.getElem?_eq_some_iff.mp a
  obtain ⟨h2, e2⟩ := List.getElem?_eq_some_iff.mp b
  exact (List.getElem_inj hN).mp (e1.trans e2.symm)
theorem store_ok2 {M : Model} {A : Around} {E : Value → Shared → Prop} {i : Nat} {x : Str} {v : V} {u : Value} {Q : Unit → Shared → Prop} (I : Inv X pins σ H s) (hN : X.N.Nodup) (hi : X.N[i]? = some x) (hx : Loc X.env.scope x) (r : RelV v u)
    (h : ∀ s', Inv X pins (σ.set i (some v)) H s' → (∃ a, Heap.SameBut a s.heap s'.heap ∧ (a = X.env.locals ∨ X.env.cells.lookup x = some a)) → Q () s') (hf : X.fn x = true ∨ X.env.scope.names.lookup x = some .local := by first | exact .inl rfl | exact .inr rfl | assumption) : wpAny M A (storeName X.env x u) Q E s := by
  obtain ⟨m, hn, hl⟩ := id I.loc
  have hcls : (X.env.scope.kind == .class || (X.env.scope.kind == .module && X.env.locals != X.env.globals)) = false := by rw [I.ok.kind]; rfl
  have hiσ : i < σ.length := by rw [I.len]; exact (List.getElem?_eq_some_iff.mp hi).1
  have cne := I.cne
  have tracked : ∀ {a : Addr} {h' : Heap}, (∃ o, s.heap.get? a = some o ∧ H a = none) → Heap.SameBut a s.heap h' → HOk X.prog X.w H h' := fun {a h'} ha hs b ob e => by
    obtain ⟨_, _, hfree⟩ := ha
    refine (I.hok b ob e).stay (fun c w' hc q => (hs.2 c ?_).trans q) (fun _ q => q) fun _ _ q => q
    rintro rfl
    rcases hc with rfl | hc
    · rw [hfree] at e; cases e
    · rw [hfree] at hc; cases hc
  rcases hx with hk | hk
  · refine wpAny_storeName_local hk hn (fun h' hn' hs => ?_) hcls
    obtain ⟨oL, _, _, hoL, _⟩ := id hn
    refine h _ ⟨I.ok, I.os, I.bare, ⟨fun b o e n hb hx => ?_, fun b o e n hb hx => ?_, I.base.free, fun b o e hx => ?_, I.base.tups, I.base.frzs, I.base.tbls⟩, ⟨_, hn', fun j y v' e1 e2 e3 => ?_⟩, fun y c e => ?_, I.free, I.freeC, fun p hp => ?_, tracked ⟨oL, hoL, I.free⟩ hs, by simpa using I.len⟩ ⟨_, hs, .inl rfl⟩
    · exact (hs.2 b (Nat.ne_of_lt (Nat.lt_of_lt_of_le (Heap.lt_size e) I.ok.above))).trans (I.base.keep b o e n hb hx)
    · obtain ⟨sl, e1⟩ := I.base.slot b o e n hb hx
      exact ⟨sl, (hs.2 b (Nat.ne_of_lt (Nat.lt_of_lt_of_le (Heap.lt_size e) I.ok.above))).trans e1⟩
    · obtain ⟨o', e1⟩ := I.base.there b o e hx
      exact ⟨o', (hs.2 b (Nat.ne_of_lt (Nat.lt_of_lt_of_le (Heap.lt_size e) I.ok.above))).trans e1⟩
    · by_cases hj : j = i
      · subst hj
        rw [hi] at e1; cases e1
        rw [List.getElem?_set_self hiσ] at e2
        cases e2
        exact ⟨u, r, .inl ⟨hk, by simp⟩⟩
      · rw [List.getElem?_set_ne (Ne.symm hj)] at e2
        obtain ⟨u', r', q⟩ := hl j y v' e1 e2 e3
        refine ⟨u', r', ?_⟩
        rcases q with ⟨k, e⟩ | ⟨k, c, e, z⟩
        · refine .inl ⟨k, ?_⟩
          have : y ≠ x := fun e => hj (nodup_ix hN e1 (e ▸ hi))
          simp [this, e]
        · exact .inr ⟨k, c, e, z.sameBut hs (cne y c e)⟩
    · obtain ⟨w', z⟩ := I.cell y c e
      exact ⟨w', z.sameBut hs (cne y c e)⟩
    · obtain ⟨e, n, ne, nf, d⟩ := I.pin p hp
      exact ⟨(hs.2 p.1 ne).trans e, n, ne, nf, d⟩
  · have hfn : X.fn x = true := by
      rcases hf with z | z
      · exact z
      · rw [z] at hk; cases hk
    obtain ⟨c, hc⟩ := I.ok.has x (.inl hk)
    obtain ⟨w', z⟩ := I.cell x c hc
    refine wpAny_storeName_cell I.ok.kind hk hc z (fun h' hc' hs => ?_)
    obtain ⟨oc, hoc, hocd⟩ := id z
    refine h { s with heap := h' } ⟨I.ok, I.os, I.bare, ⟨fun b o e n hb hx => ?_, fun b o e n hb hx => ?_, I.base.free, fun b o e hx => ?_, I.base.tups, I.base.frzs, I.base.tbls⟩, ⟨m, hn.sameBut hs (Ne.symm (cne x c hc)), fun j y v' e1 e2 e3 => ?_⟩, fun y c' e => ?_, I.free, I.freeC, fun p hp => ?_, tracked ⟨oc, hoc, I.freeC x c hc⟩ hs, by simpa using I.len⟩ ⟨c, hs, .inr hc⟩
    · exact (hs.2 b (Nat.ne_of_lt (Nat.lt_of_lt_of_le (Heap.lt_size e) (I.ok.cab x c hfn hc)))).trans (I.base.keep b o e n hb hx)
    · obtain ⟨sl, e1⟩ := I.base.slot b o e n hb hx
      exact ⟨sl, (hs.2 b (Nat.ne_of_lt (Nat.lt_of_lt_of_le (Heap.lt_size e) (I.ok.cab x c hfn hc)))).trans e1⟩
    · obtain ⟨o', e1⟩ := I.base.there b o e hx
      exact ⟨o', (hs.2 b (Nat.ne_of_lt (Nat.lt_of_lt_of_le (Heap.lt_size e) (I.ok.cab x c hfn hc)))).trans e1⟩
    · by_cases hj : j = i
      · subst hj
        rw [hi] at e1; cases e1
        rw [List.getElem?_set_self hiσ] at e2
        cases e2
        exact ⟨u, r, .inr ⟨.inl hk, c, hc, hc'⟩⟩
      · rw [List.getElem?_set_ne (Ne.symm hj)] at e2
        obtain ⟨u', r', q⟩ := hl j y v' e1 e2 e3
        refine ⟨u', r', ?_⟩
        rcases q with q | ⟨k, c', e, z'⟩
        · exact .inl q
        · refine .inr ⟨k, c', e, z'.sameBut hs ?_⟩
          rintro rfl
          exact hj (nodup_ix hN e1 (I.ok.inj _ _ _ e hc ▸ hi))
    · by_cases hcc : c' = c
      · subst hcc; exact ⟨_, hc'⟩
      · obtain ⟨w2, z2⟩ := I.cell y c' e
        exact ⟨w2, z2.sameBut hs hcc⟩
    · obtain ⟨e, n, ne, nf, d⟩ := I.pin p hp
      refine ⟨(hs.2 p.1 ?_).trans e, n, ne, nf, d⟩
      intro q
      rw [q, hoc] at e
      have q' : oc = p.2 := Option.some.inj e
      exact d w' (by rw [← q']; exact hocd)
theorem store_ok {M : Model} {A : Around} {E : Value → Shared → Prop} {i : Nat} {x : Str} {v : V} {u : Value} {Q : Unit → Shared → Prop} (I : Inv X pins σ H s) (hN : X.N.Nodup) (hi : X.N[i]? = some x) (hx : Loc X.env.scope x) (r : RelV v u)
    (h : ∀ s', Inv X pins (σ.set i (some v)) H s' → Q () s') (hf : X.fn x = true ∨ X.env.scope.names.lookup x = some .local := by first | exact .inl rfl | exact .inr rfl | assumption) : wpAny M A (storeName X.env x u) Q E s :=
  store_ok2 I hN hi hx r (fun s' I' _ => h s' I') hf
theorem Inv.call' {s' : Shared} {ch : List Addr} (I : Inv X pins σ H s) (ho : s'.os = s.os) (u : Un (frs X.stack) ch H H' s.heap s'.heap) (hok : HOk X.prog X.w H' s'.heap) (hg : AllBare s'.gens)
    (hch : ∀ b ∈ ch, (b ∈ X.ex ∨ X.s₀.heap.objs.size ≤ b) ∧ b ≠ X.env.locals ∧ (∀ x c, X.env.cells.lookup x = some c → c ≠ b) ∧ ∀ p ∈ X.pn ++ pins, p.1 ≠ b) : Inv X pins σ H' s' := by
  obtain ⟨h', g', d', t', o'⟩ := s'
  have e : o' = s.os := ho
  subst e
  exact I.call (g' := g') (t' := t') (d' := d') u hok hg hch
end
noncomputable abbrev XK := Value → Option Addr → Hp → Prop
noncomputable abbrev St := List (Option V)
noncomputable abbrev VK := V → Hp → Prop
noncomputable abbrev TE := St → Hp → VK → Prop
noncomputable abbrev TT := St → Hp → (Bool → Hp → Prop) → Prop
noncomputable abbrev TA := St → Hp → (List V → Hp → Prop) → Prop
structure Ends where
  nx : St → Hp → Prop
  rt : VK
  bk : St → Hp → Prop := fun _ _ => False
  ct : St → Hp → Prop := fun _ _ => False
noncomputable abbrev TS := Ends → St → Hp → Prop
noncomputable def EP (X : Cx) (pins : List (Addr × Obj)) (σ : St) (Q : VK) (u : Value) (s' : Shared) : Prop := ∃ v H', Inv X pins σ H' s' ∧ RelV v u ∧ Q v H'
noncomputable def TP (X : Cx) (pins : List (Addr × Obj)) (σ : St) (Q : Bool → Hp → Prop) (b : Bool) (s' : Shared) : Prop := ∃ H', Inv X pins σ H' s' ∧ Q b H'
noncomputable def AP (X : Cx) (pins : List (Addr × Obj)) (σ : St) (Q : List V → Hp → Prop) (us : List Value) (s' : Shared) : Prop := ∃ vs H', Inv X pins σ H' s' ∧ Vals vs us ∧ Q vs H'
noncomputable def SP (X : Cx) (pins : List (Addr × Obj)) (D : Ends) (f : Flow) (s' : Shared) : Prop :=
  match f with
  | .next => ∃ σ' H', Inv X pins σ' H' s' ∧ D.nx σ' H'
  | .brk => ∃ σ' H', Inv X pins σ' H' s' ∧ D.bk σ' H'
  | .cont => ∃ σ' H', Inv X pins σ' H' s' ∧ D.ct σ' H'
  | .ret u => ∃ v σ' H', Inv X pins σ' H' s' ∧ RelV v u ∧ D.rt v H'
noncomputable def PE (X : Cx) (e : Expr) (t : TE) : Prop :=
  ∀ (pins : List (Addr × Obj)) (s : Shared) (σ : St) (H : Hp) (Q : VK), Inv X pins σ H s → t σ H Q → wpAny (model X.prog X.w) X.A (eval e X.env) (EP X pins σ Q) X.xe s
noncomputable def PT (X : Cx) (e : Expr) (t : TT) : Prop :=
  ∀ (pins : List (Addr × Obj)) (s : Shared) (σ : St) (H : Hp) (Q : Bool → Hp → Prop), Inv X pins σ H s → t σ H Q → wpAny (model X.prog X.w) X.A (isTrue e X.env (eval e X.env)) (TP X pins σ Q) X.xe s
noncomputable def PW (X : Cx) (e : Expr) (t : TT) : Prop :=
  ∀ (whole : Sem Value) (pins : List (Addr × Obj)) (s : Shared) (σ : St) (H : Hp) (Q : Bool → Hp → Prop), Inv X pins σ H s → t σ H Q → wpAny (model X.prog X.w) X.A (isTrue e X.env whole) (TP X pins σ Q) X.xe s
theorem PW.pt {X : Cx} {e : Expr} {t : TT} (h : PW X e t) : PT X e t := h _
noncomputable def PA (X : Cx) (es : List Expr) (t : TA) : Prop :=
  ∀ (pos : Pos) (pins : List (Addr × Obj)) (s : Shared) (σ : St) (H : Hp) (Q : List V → Hp → Prop), Inv X pins σ H s → t σ H Q → wpAny (model X.prog X.w) X.A (spliced (backTo pos (starEach es X.env))) (AP X pins σ Q) X.xe s
noncomputable def PS (X : Cx) (st : Stmt) (t : TS) : Prop :=
  ∀ (pins : List (Addr × Obj)) (s : Shared) (σ : St) (H : Hp) (D : Ends), Inv X pins σ H s → t D σ H → wpAny (model X.prog X.w) X.A (exec st X.env) (SP X pins D) X.xe s
noncomputable def PSs (X : Cx) (st : List Stmt) (t : TS) : Prop :=
  ∀ (pins : List (Addr × Obj)) (s : Shared) (σ : St) (H : Hp) (D : Ends), Inv X pins σ H s → t D σ H → wpAny (model X.prog X.w) X.A (execs st X.env) (SP X pins D) X.xe s
theorem thn {α : Type} {t : Sem α} {Q Q' : α → Shared → Prop} {M : Model} {A : Around} {E : Value → Shared → Prop} {s : Shared} (h : wpAny M A t Q E s) (hQ : ∀ a s, Q a s → Q' a s) : wpAny M A t Q' E s := wpAny_mono h hQ fun _ _ x => x
end L2
namespace L2
open PySem PySem.Spec PyProof.Rows
section
variable {X : Cx}
noncomputable def tVar (i : Nat) : TE := fun σ H Q => ∃ v, σ[i]? = some (some v) ∧ Q v H
noncomputable def tC (v : V) : TE := fun _ H Q => Q v H
theorem pe_var {i : Nat} {x : Str} {pos : Pos} (hN : X.N[i]? = some x) (hv : Vis X.env.scope x) (hd : (x == ("__debug__" : Str)) = false := by decide) (hcd : (x == ("__classdict__" : Str)) = false := by decide) : PE X (.Name x pos) (tVar i) := by
  intro pins s σ H Q I h
  obtain ⟨v, e, h⟩ := h
  obtain ⟨m, hn, hl⟩ := I.loc
  obtain ⟨u, r, l⟩ := hl i x v hN e hv
  have fin : EP X pins σ Q u s := ⟨v, H, I, r, h⟩
  rcases l with ⟨hk, hm⟩ | ⟨hk, c, hc, hcell⟩
  · exact wpAny_Name (wpAny_loadName_local I.ok.kind hk hn hm fin) hd
  · rcases hk with hk | hk
    · exact wpAny_Name (wpAny_loadName_cell I.ok.kind hk hc hcell fin) hd
    · exact wpAny_Name (wpAny_loadName_free I.ok.kind hk hc hcell fin hcd) hd
theorem pe_int {i j pos} : PE X (.Constant (.int i) j pos) (tC (.int i)) := fun _ _ _ H _ I h => wpAny_Constant_int ⟨.int i, H, I.tok _, ⟨_, rfl⟩, h⟩
theorem pe_bl {b j pos} : PE X (.Constant (.bool b) j pos) (tC (.bl b)) := fun _ _ _ H _ I h => Constant_bool ⟨.bl b, H, I, rfl, h⟩
theorem pe_non {j pos} : PE X (.Constant .none j pos) (tC .non) := fun _ _ _ H _ I h => Constant_none ⟨.non, H, I, rfl, h⟩
theorem pe_str {x j pos} : PE X (.Constant (.str x) j pos) (tC (.str x)) := fun _ _ _ H _ I h => Calls.Constant_str ⟨.str x, H, I.tok _, ⟨_, rfl⟩, h⟩
noncomputable def Gl (X : Cx) (x : Str) : Prop := X.env.kindOf x = some .globalImplicit
theorem ld_glob {E : Value → Shared → Prop} {pins : List (Addr × Obj)} {s : Shared} {σ : St} {H : Hp} {x : Str} {u : Value} {pos : Pos} {Q : Value → Shared → Prop} (I : Inv X pins σ H s) (hg : Gl X x) (hm : X.mg x = some u) (h : Q u s)
    (hd : (x == ("__debug__" : Str)) = false := by decide) : wpAny (model X.prog X.w) X.A (eval (.Name x pos) X.env) Q E s :=
  Calls.Name_function_global I.ok.kind hg (Calls.loadGlobal_global (by rw [I.ok.glob]; exact I.mod.glob.keeps I.bk) hm h) hd
theorem ld_blt {E : Value → Shared → Prop} {pins : List (Addr × Obj)} {s : Shared} {σ : St} {H : Hp} {x : Str} {u : Value} {pos : Pos} {Q : Value → Shared → Prop} (I : Inv X pins σ H s) (hg : Gl X x) (hm : X.mg x = none) (hv : bootBuiltins x = some u) (h : Q u s)
    (hn : x ≠ "__name__" := by decide) (hd : (x == ("__debug__" : Str)) = false := by decide) : wpAny (model X.prog X.w) X.A (eval (.Name x pos) X.env) Q E s := by
  obtain ⟨mb, h1, h2⟩ := I.mod.blt
  exact Calls.Name_function_global I.ok.kind hg (Calls.loadGlobal_builtin (by rw [I.ok.glob]; exact I.mod.glob.keeps I.bk) hm (by rw [I.ok.blt]; exact h1.keeps I.bk) ((h2 x hn).trans hv) h) hd
theorem pe_glob {x : Str} {v : V} {u : Value} {pos : Pos} (hg : Gl X x) (hm : X.mg x = some u) (r : RelV v u) (hd : (x == ("__debug__" : Str)) = false := by decide) : PE X (.Name x pos) (tC v) :=
  fun _ _ _ H _ I h => ld_glob I hg hm ⟨v, H, I, r, h⟩ hd
theorem pe_bltn {x : Str} {v : V} {u : Value} {pos : Pos} (hg : Gl X x) (hm : X.mg x = none) (hv : bootBuiltins x = some u) (r : RelV v u) (hn : x ≠ "__name__" := by decide) (hd : (x == ("__debug__" : Str)) = false := by decide) : PE X (.Name x pos) (tC v) :=
  fun _ _ _ H _ I h => ld_blt I hg hm hv ⟨v, H, I, r, h⟩ hn hd
variable {a b : Expr} {ta tb : TE} {pos : Pos}
noncomputable def tB (t : TE) : TT := fun σ H Q => t σ H fun x H1 => ∃ c, x = .bl c ∧ Q c H1
theorem pt_val {e : Expr} {t : TE} (h : PE X e t) (he : ∀ whole, isTrue e X.env whole = (do let v ← whole; standAt e.pos; holding [v] (truthy v)) := by intro _; rfl) : PT X e (tB t) := by
  intro pins s σ H Q I hw
  refine isTrue_plain (thn (h pins s σ H _ I hw) fun v s1 ⟨x, H1, I1, r1, q1⟩ => ?_) (he _)
  obtain ⟨d, rfl, q⟩ := q1
  cases r1
  exact wpAny_truthy_bool ⟨H1, I1, q⟩
variable {tA tB' : TT} {rest : List Expr}
noncomputable def tAnd (t u : TT) : TT := fun σ H Q => t σ H fun c H1 => if c = true then u σ H1 Q else Q false H1
noncomputable def tOr (t u : TT) : TT := fun σ H Q => t σ H fun c H1 => if c = true then Q true H1 else u σ H1 Q
noncomputable def tNot (t : TT) : TT := fun σ H Q => t σ H fun c H1 => Q (!c) H1
theorem pw_and1 (ha : PT X a tA) : PW X (.BoolOp .And [a] pos) tA := by
  intro wh pins s σ H Q I h
  refine isTrue_and (thn (ha pins s σ H Q I h) fun c s1 e => ?_)
  cases c with
  | true => exact isTrue_and_nil e
  | false => exact e
theorem pw_or1 (ha : PT X a tA) : PW X (.BoolOp .Or [a] pos) tA := by
  intro wh pins s σ H Q I h
  refine isTrue_or (thn (ha pins s σ H Q I h) fun c s1 e => ?_)
  cases c with
  | false => exact isTrue_or_nil e
  | true => exact e
theorem pw_and (ha : PT X a tA) (hb : PW X (.BoolOp .And (b :: rest) pos) tB') : PW X (.BoolOp .And (a :: b :: rest) pos) (tAnd tA tB') := by
  intro wh pins s σ H Q I h
  refine isTrue_and (thn (ha pins s σ H _ I h) fun c s1 ⟨H1, I1, q1⟩ => ?_)
  cases c with
  | true => exact hb wh pins s1 σ H1 Q I1 q1
  | false => exact ⟨H1, I1, q1⟩
theorem pw_or (ha : PT X a tA) (hb : PW X (.BoolOp .Or (b :: rest) pos) tB') : PW X (.BoolOp .Or (a :: b :: rest) pos) (tOr tA tB') := by
  intro wh pins s σ H Q I h
  refine isTrue_or (thn (ha pins s σ H _ I h) fun c s1 ⟨H1, I1, q1⟩ => ?_)
  cases c with
  | true => exact ⟨H1, I1, q1⟩
  | false => exact hb wh pins s1 σ H1 Q I1 q1
theorem pt_not (ha : PT X a tA) : PT X (.UnaryOp .Not a pos) (tNot tA) := by
  intro pins s σ H Q I h
  exact isTrue_not (ha pins s σ H (fun c H1 => Q (!c) H1) I h)
noncomputable def tAndV (ta tb : TE) : TE := fun σ H Q => ta σ H fun x H1 => ∃ c, x = .bl c ∧ if c = true then tb σ H1 Q else Q (.bl false) H1
noncomputable def tOrV (ta tb : TE) : TE := fun σ H Q => ta σ H fun x H1 => ∃ c, x = .bl c ∧ if c = true then Q (.bl true) H1 else tb σ H1 Q
theorem pe_one {op} {t : TE} (h : PE X a t) : PE X (.BoolOp op [a] pos) t := fun pins s σ H Q I hw => BoolOp_one (h pins s σ H Q I hw)
theorem pe_and (ha : PE X a ta) (hb : PE X (.BoolOp .And (b :: rest) pos) tb) : PE X (.BoolOp .And (a :: b :: rest) pos) (tAndV ta tb) := by
  intro pins s σ H Q I h
  refine BoolOp_and (thn (ha pins s σ H _ I h) fun v s1 ⟨x, H1, I1, r1, q1⟩ => ?_)
  obtain ⟨c, rfl, q1⟩ := q1
  cases r1
  refine wpAny_truthy_bool ?_
  cases c with
  | true => exact hb pins s1 σ H1 Q I1 q1
  | false => exact ⟨.bl false, H1, I1, rfl, q1⟩
theorem pe_or (ha : PE X a ta) (hb : PE X (.BoolOp .Or (b :: rest) pos) tb) : PE X (.BoolOp .Or (a :: b :: rest) pos) (tOrV ta tb) := by
  intro pins s σ H Q I h
  refine BoolOp_or (thn (ha pins s σ H _ I h) fun v s1 ⟨x, H1, I1, r1, q1⟩ => ?_)
  obtain ⟨c, rfl, q1⟩ := q1
  cases r1
  refine wpAny_truthy_bool ?_
  cases c with
  | false => exact hb pins s1 σ H1 Q I1 q1
  | true => exact ⟨.bl true, H1, I1, rfl, q1⟩
noncomputable def tIf (t : TT) (ta tb : TE) : TE := fun σ H Q => t σ H fun c H1 => if c = true then ta σ H1 Q else tb σ H1 Q
theorem pe_ifExp {c : Expr} (hc : PT X c tA) (ha : PE X a ta) (hb : PE X b tb) : PE X (.IfExp c a b pos) (tIf tA ta tb) := by
  intro pins s σ H Q I h
  refine wpAny_IfExp (thn (hc pins s σ H _ I h) fun d s1 ⟨H1, I1, q1⟩ => ?_)
  cases d with
  | true => exact ha pins s1 σ H1 Q I1 q1
  | false => exact hb pins s1 σ H1 Q I1 q1
end
end L2
namespace L2
open PySem PySem.Spec PyProof.Rows
noncomputable def SqL (K : PySem.W.Frag) (H : Hp) (a : Addr) (xs : List V) : Prop :=
  Rd H a (.lst xs) ∨
    ∃ (o : Obj) (its : Array Value) (n : Nat), K.lookup a = some o ∧ o.cls = .type "list" ∧ o.dict = none ∧ o.data = .seq its n ∧ its.size ≤ sizeLine ∧ Vals xs its.toList
noncomputable def SqT (K : PySem.W.Frag) (H : Hp) (a : Addr) (xs : List V) : Prop :=
  Rd H a (.tup xs) ∨
    ∃ (o : Obj) (its : Array Value) (n : Nat), K.lookup a = some o ∧ o.cls = .type "tuple" ∧ o.data = .seq its n ∧ its.size ≤ sizeLine ∧ Vals xs its.toList
noncomputable def absV : Value → Option V
  | .none => some .non
  | .bool b => some (.bl b)
  | .int i _ => some (.int i)
  | .str x _ => some (.str x)
  | .bytes b _ => some (.byt b)
  | .float b _ => some (.flt b)
  | .ref a => some (.ref a)
  | .type n => some (.ty n)
  | _ => none
theorem RelV.abs {x : V} {u : Value} (r : RelV x u) : absV u = some x := by
  cases x with
  | non => cases r; rfl
  | bl _ => cases r; rfl
  | int _ => obtain ⟨t, rfl⟩ := r; rfl
  | str _ => obtain ⟨t, rfl⟩ := r; rfl
  | byt _ => obtain ⟨t, rfl⟩ := r; rfl
  | flt _ => obtain ⟨t, rfl⟩ := r; rfl
  | ref _ => cases r; rfl
  | ty _ => cases r; rfl
theorem RelV.inj {x y : V} {u : Value} (r : RelV x u) (q : RelV y u) : x = y := Option.some.inj (r.abs.symm.trans q.abs)
theorem Vals.inj : ∀ {xs ys : List V} {us : List Value}, Vals xs us → Vals ys us → xs = ys
  | _, _, _, .nil, .nil => rfl
  | _, _, _, .cons r t, .cons r' t' => by rw [r.inj r', Vals.inj t t']
section
variable {X : Cx} {pins : List (Addr × Obj)} {σ : St} {H : Hp} {s : Shared} {a : Addr} {xs ys : List V}
theorem SqL.of {K : PySem.W.Frag} (h : H a = some (.lst xs)) : SqL K H a xs := .inl (.inl h)
theorem SqT.of {K : PySem.W.Frag} (h : H a = some (.tup xs)) : SqT K H a xs := .inl (.inl h)
theorem Inv.list (I : Inv X pins σ H s) (h : SqL X.K H a xs) : ∃ its : List Value, Vals xs its ∧ PlainL s.heap a its.toArray ∧ xs.length ≤ sizeLine := by
  rcases h with h | ⟨o, its, n, hk, hc, hd, hs, hz, r⟩
  · obtain ⟨z, its, n, r, e⟩ := h.ok I.hok
    exact ⟨its, r, ⟨_, n, e, rfl, rfl, rfl⟩, z⟩
  · refine ⟨its.toList, r, ⟨o, n, I.kIn a o hk, hc, hd, by simpa using hs⟩, ?_⟩
    have e := r.length
    simp only [Array.length_toList] at e
    omega
theorem Inv.tuple (I : Inv X pins σ H s) (h : SqT X.K H a xs) : ∃ its : List Value, Vals xs its ∧ IsTup s.heap a its.toArray ∧ xs.length ≤ sizeLine := by
  rcases h with h | ⟨o, its, n, hk, hc, hs, hz, r⟩
  · obtain ⟨z, its, r, p⟩ := h.ok I.hok
    exact ⟨its, r, p.tup, z⟩
  · refine ⟨its.toList, r, ⟨o, I.kIn a o hk, hc, n, by simpa using hs⟩, ?_⟩
    have e := r.length
    simp only [Array.length_toList] at e
    omega
theorem Inv.list_inj (I : Inv X pins σ H s) (h : SqL X.K H a xs) (h' : SqL X.K H a ys) : xs = ys := by
  obtain ⟨its, r, ⟨o, n, e, _, _, d⟩, _⟩ := I.list h
  obtain ⟨its', r', ⟨o', n', e', _, _, d'⟩, _⟩ := I.list h'
  rw [e] at e'; cases e'
  rw [d] at d'
  injection d' with d1 _
  have : its = its' := by simpa using congrArg Array.toList d1
  subst this
  exact r.inj r'
theorem Inv.tuple_inj (I : Inv X pins σ H s) (h : SqT X.K H a xs) (h' : SqT X.K H a ys) : xs = ys := by
  obtain ⟨its, r, ⟨o, e, _, n, d⟩, _⟩ := I.tuple h
  obtain ⟨its', r', ⟨o', e', _, n', d'⟩, _⟩ := I.tuple h'
  rw [e] at e'; cases e'
  rw [d] at d'
  injection d' with d1 _
  have : its = its' := by simpa using congrArg Array.toList d1
  subst this
  exact r.inj r'
end
noncomputable abbrev Cx.wish (X : Cx) (E : Value → Shared → Prop) : Cx := { X with xe := E }
noncomputable abbrev Cx.nox (X : Cx) : Cx := X.wish fun _ _ => False
theorem Cx.Ok.wish {X : Cx} (ok : X.Ok) (E : Value → Shared → Prop) : (X.wish E).Ok :=
  ⟨ok.mod, ok.kind, ok.glob, ok.blt, ok.above, ok.inj, ok.has, ok.cab, ok.hd, ok.frames, ok.stk, ok.exf, ok.bs, ok.bsz, ok.noex, ok.exfs, ok.funs, ok.frf⟩
theorem Cx.Ok.unwish {X : Cx} {E : Value → Shared → Prop} (ok : (X.wish E).Ok) : X.Ok :=
  ⟨ok.mod, ok.kind, ok.glob, ok.blt, ok.above, ok.inj, ok.has, ok.cab, ok.hd, ok.frames, ok.stk, ok.exf, ok.bs, ok.bsz, ok.noex, ok.exfs, ok.funs, ok.frf⟩
section
variable {X : Cx} {pins : List (Addr × Obj)} {σ : St} {H : Hp} {s : Shared} {E : Value → Shared → Prop}
theorem Inv.wish (I : Inv X pins σ H s) (E : Value → Shared → Prop) : Inv (X.wish E) pins σ H s := ⟨I.ok.wish E, I.os, I.bare, I.base, I.loc, I.cell, I.free, I.freeC, I.pin, I.hok, I.len⟩
theorem Inv.unwish (I : Inv (X.wish E) pins σ H s) : Inv X pins σ H s := ⟨I.ok.unwish, I.os, I.bare, I.base, I.loc, I.cell, I.free, I.freeC, I.pin, I.hok, I.len⟩
theorem SP.unwish {D : Ends} {f : Flow} {s' : Shared} (h : SP (X.wish E) pins D f s') : SP X pins D f s' := by
  cases f with
  | next => obtain ⟨σ', H', I, q⟩ := h; exact ⟨σ', H', I.unwish, q⟩
  | brk => obtain ⟨σ', H', I, q⟩ := h; exact ⟨σ', H', I.unwish, q⟩
  | cont => obtain ⟨σ', H', I, q⟩ := h; exact ⟨σ', H', I.unwish, q⟩
  | ret u => obtain ⟨v, σ', H', I, r, q⟩ := h; exact ⟨v, σ', H', I.unwish, r, q⟩
theorem PSs.nox {st : List Stmt} {t : TS} (h : PSs X.nox st t) : PSs X st t := fun pins s σ H D I hw =>
  wpAny_mono (h pins s σ H D (I.wish _) hw) (fun _ _ q => q.unwish) fun _ _ z => False.elim z
end
section
variable {X : Cx} {st : Stmt} {rest : List Stmt} {t u : TS} {e : Expr} {te : TE} {pos : Pos}
noncomputable def tNext : TS := fun D σ H => D.nx σ H
noncomputable def tSeq (t u : TS) : TS := fun D σ H => t { D with nx := u D } σ H
theorem pss_nil : PSs X [] tNext := fun _ _ σ H _ I h => wpAny_execs_nil ⟨σ, H, I, h⟩
theorem pss_cons (h1 : PS X st t) (h2 : PSs X rest u) : PSs X (st :: rest) (tSeq t u) := by
  intro pins s σ H D I h
  refine wpAny_execs_cons (thn (h1 pins s σ H { D with nx := u D } I h) fun f s1 q => ?_)
  cases f with
  | next =>
    obtain ⟨σ', H', I', q⟩ := q
    exact h2 pins s1 σ' H' D I' q
  | ret v => exact q
  | brk => exact q
  | cont => exact q
theorem pss_one (h1 : PS X st t) : PSs X [st] t := by
  intro pins s σ H D I h
  refine wpAny_execs_cons (thn (h1 pins s σ H D I h) fun f s1 q => ?_)
  cases f with
  | next => exact wpAny_execs_nil q
  | ret v => exact q
  | brk => exact q
  | cont => exact q
theorem Inv.quiet {pins : List (Addr × Obj)} {σ : St} {H : Hp} {s : Shared} (I : Inv X pins σ H s) : interactive X.env = false := by simp [interactive, I.ok.kind]
noncomputable def tDrop (te : TE) : TS := fun D σ H => te σ H fun _ H1 => D.nx σ H1
theorem ps_expr (he : PE X e te) (hs : swapsWith e none pos.line X.env = pure false := by rfl) : PS X (.Expr e pos) (tDrop te) := by
  intro pins s σ H D I h
  exact wpAny_Expr_any (thn (he pins s σ H _ I h) fun v s1 ⟨x, H1, I1, r1, q1⟩ => ⟨σ, H1, I1, q1⟩) I.quiet hs
noncomputable def tRet (te : TE) : TS := fun D σ H => te σ H D.rt
theorem ps_ret (he : PE X e te) : PS X (.Return (some e) pos) (tRet te) := by
  intro pins s σ H D I h
  exact wpAny_Return_some (thn (he pins s σ H _ I h) fun v s1 ⟨x, H1, I1, r1, q1⟩ => ⟨x, σ, H1, I1, r1, q1⟩)
noncomputable def tIfS (c : TT) (t u : TS) : TS := fun D σ H => c σ H fun b H1 => if b = true then t D σ H1 else u D σ H1
theorem ps_if {c : Expr} {a b : List Stmt} {tc : TT} (hc : PT X c tc) (ha : PSs X a t) (hb : PSs X b u) : PS X (.If c a b pos) (tIfS tc t u) := by
  intro pins s σ H D I h
  refine wpAny_If (thn (hc pins s σ H _ I h) fun d s1 ⟨H1, I1, q1⟩ => ?_)
  cases d with
  | true => exact ha pins s1 σ H1 D I1 q1
  | false => exact hb pins s1 σ H1 D I1 q1
noncomputable def tNever : TS := fun _ _ _ => False
theorem ps_never : PS X st tNever := fun _ _ _ _ _ _ h => h.elim
end
noncomputable abbrev TG := V → St → Hp → (St → Hp → Prop) → Prop
noncomputable abbrev TGs := List V → St → Hp → (St → Hp → Prop) → Prop
noncomputable def PG (X : Cx) (target : Expr) (t : TG) : Prop :=
  ∀ (pins : List (Addr × Obj)) (s : Shared) (σ : St) (H : Hp) (v : V) (u : Value) (Q : St → Hp → Prop), Inv X pins σ H s → RelV v u → t v σ H Q →
    wpAny (model X.prog X.w) X.A (assign target X.env u) (fun _ s' => ∃ σ' H', Inv X pins σ' H' s' ∧ Q σ' H') X.xe s
noncomputable def PGs (X : Cx) (ts : List Expr) (t : TGs) : Prop :=
  ∀ (pins : List (Addr × Obj)) (s : Shared) (σ : St) (H : Hp) (vs : List V) (us : List Value) (Q : St → Hp → Prop), Inv X pins σ H s → Vals vs us → t vs σ H Q →
    wpAny (model X.prog X.w) X.A (assignInOrder ((assignEach ts X.env).map (·.2)) us) (fun _ s' => ∃ σ' H', Inv X pins σ' H' s' ∧ Q σ' H') X.xe s
noncomputable abbrev TSet := V → V → V → Hp → (Hp → Prop) → Prop
noncomputable def PSet (X : Cx) (t : TSet) : Prop :=
  ∀ (pins : List (Addr × Obj)) (s : Shared) (σ : St) (H : Hp) (o i v : V) (ov iv u : Value) (Q : Hp → Prop), Inv X pins σ H s → RelV o ov → RelV i iv → RelV v u → t o i v H Q →
    wpAny (model X.prog X.w) X.A (setItem ov iv u) (fun _ s' => ∃ H', Inv X pins σ H' s' ∧ Q H') X.xe s
section
variable {X : Cx} {pos : Pos}
noncomputable def gName (i : Nat) : TG := fun v σ H Q => Q (σ.set i (some v)) H
theorem pg_name {i : Nat} {x : Str} (hN : X.N.Nodup) (hi : X.N[i]? = some x) (hx : Loc X.env.scope x) (hf : X.fn x = true ∨ X.env.scope.names.lookup x = some .local := by first | exact .inl rfl | exact .inr rfl | assumption) : PG X (.Name x pos) (gName i) := by
  intro pins s σ H v u Q I r h
  exact wpAny_assign_Name (store_ok I hN hi hx r (fun s' I' => ⟨_, H, I', h⟩) hf)
noncomputable def gNil : TGs := fun vs σ H Q => vs = [] ∧ Q σ H
noncomputable def gCons (t : TG) (u : TGs) : TGs := fun vs σ H Q => ∃ v r, vs = v :: r ∧ t v σ H fun σ' H' => u r σ' H' Q
theorem pgs_nil : PGs X [] gNil := by
  intro pins s σ H vs us Q I r h
  obtain ⟨e, h⟩ := h
  subst e
  cases r
  exact assignInOrder_nil ⟨σ, H, I, h⟩
theorem pgs_cons {e : Expr} {es : List Expr} {t : TG} {u : TGs} (h1 : PG X e t) (h2 : PGs X es u)
    (hs : (assignEach (e :: es) X.env).map (·.2) = assign e X.env :: (assignEach es X.env).map (·.2) := by rfl) : PGs X (e :: es) (gCons t u) := by
  intro pins s σ H vs us Q I r h
  obtain ⟨v, vr, e1, h⟩ := h
  subst e1
  cases r with
  | cons r rr =>
    rw [hs]
    refine assignInOrder_cons (thn (h1 pins s σ H _ _ _ I r h) fun _ s1 ⟨σ1, H1, I1, q1⟩ => ?_)
    exact h2 pins s1 σ1 H1 _ _ Q I1 rr q1
noncomputable def gTup (K : PySem.W.Frag) (n : Nat) (t : TGs) : TG := fun v σ H Q => ∃ a xs, v = .ref a ∧ SqT K H a xs ∧ xs.length = n ∧ t xs σ H Q
theorem pg_tup {es : List Expr} {k : Nat} {t : TGs} {n : Nat} (hc : X.calm = true) (h : PGs X es t)
    (hn : (assignEach es X.env).length = n := by rfl) (hst : (assignEach es X.env).findIdx? (·.1) = none := by rfl) : PG X (.Tuple es k pos) (gTup X.K n t) := by
  intro pins s σ H v u Q I r hw
  obtain ⟨a, xs, e1, hq, hl, hw⟩ := hw
  subst e1
  cases r
  obtain ⟨its, rv, ht, hz⟩ := I.tuple hq
  refine assign_Tuple_tuple (I.ok.hd hc) ht (by simp [hn, ← hl, rv.length]) hst fun h' hx => ?_
  have I1 : Inv X pins σ H { s with heap := h' } := I.kept (t' := s.toks) fun b o e => hx b o (Nat.ne_of_lt (Heap.lt_size e)) e
  exact h pins _ σ H xs _ Q I1 (by simpa using rv) hw
noncomputable def gSub (to ti : TE) (t : TSet) : TG := fun v σ H Q => to σ H fun o H1 => ti σ H1 fun i H2 => t o i v H2 fun H3 => Q σ H3
theorem pg_sub {o i : Expr} {to ti : TE} {t : TSet} (ho : PE X o to) (hi : PE X i ti) (hs : PSet X t)
    (ha : ∀ v, assign (.Subscript o i pos) X.env v = (do
      let ov ← holding [v] (eval o X.env)
      let iv ← holding [v, ov] (eval i X.env)
      standAt pos
      holding [v, ov, iv] (setItem ov iv v)
      release [v, ov, iv] []) := by intro _; rfl) : PG X (.Subscript o i pos) (gSub to ti t) := by
  intro pins s σ H v u Q I r h
  rw [ha]
  refine wpAny_bind (wpAny_holding (thn (ho pins s σ H _ I h) fun ov s1 ⟨x, H1, I1, r1, q1⟩ => ?_))
  refine wpAny_bind (wpAny_holding (thn (hi pins s1 σ H1 _ I1 q1) fun iv s2 ⟨y, H2, I2, r2, q2⟩ => ?_))
  refine wpAny_bind (wpAny_standAt (wpAny_bind (wpAny_holding (thn (hs pins s2 σ H2 x y v ov iv u _ I2 r1 r2 r q2) fun _ s3 ⟨H3, I3, q3⟩ => ?_))))
  exact wpAny_release ⟨σ, H3, I3, q3⟩
noncomputable def tAsg (te : TE) (g : TG) : TS := fun D σ H => te σ H fun x H1 => g x σ H1 D.nx
theorem ps_asg {tg e : Expr} {te : TE} {g : TG} (he : PE X e te) (hg : PG X tg g) (hs : swapsWithSole [tg] e pos.line X.env = pure false := by rfl) (hw : swappedStores [tg] e X.env = pure none := by rfl)
    (h1 : (assignEach [tg] X.env).map (·.2) = [assign tg X.env] := by rfl) : PS X (.Assign [tg] e pos) (tAsg te g) := by
  intro pins s σ H D I h
  refine wpAny_Assign_stores (thn (he pins s σ H _ I h) fun v s1 ⟨x, H1, I1, r1, q1⟩ => ?_) hs hw
  rw [h1]
  exact thn (hg pins s1 σ H1 x v _ I1 r1 q1) fun _ s2 q => q
theorem ps_set {i : Nat} {x : Str} {e : Expr} {te : TE} {pos' : Pos} (hN : X.N.Nodup) (hi : X.N[i]? = some x) (hx : Loc X.env.scope x) (he : PE X e te) (hs : swapsWith e (some (.Name x pos')) pos.line X.env = pure false := by rfl) (hf : X.fn x = true ∨ X.env.scope.names.lookup x = some .local := by first | exact .inl rfl | exact .inr rfl | assumption) :
    PS X (.Assign [.Name x pos'] e pos) (tAsg te (gName i)) := by
  intro pins s σ H D I h
  refine wpAny_Assign_Name (thn (he pins s σ H _ I h) fun v s1 ⟨y, H1, I1, r1, q1⟩ => ?_) hs
  exact store_ok I1 hN hi hx r1 (fun s2 I2 => ⟨_, H1, I2, q1⟩) hf
noncomputable def tPar (i j : Nat) (ta : TA) : TS := fun D σ H => ta σ H fun vs H1 => ∃ v w, vs = [v, w] ∧ D.nx ((σ.set i (some v)).set j (some w)) H1
theorem ps_par {i j : Nat} {x y : Str} {a b : Expr} {ta : TA} {px py pt : Pos} {kt k2 pt2} (hc : X.calm = true) (hN : X.N.Nodup) (hi : X.N[i]? = some x) (hj : X.N[j]? = some y) (hij : i ≠ j)
    (hx : X.env.scope.names.lookup x = some .local) (hy : X.env.scope.names.lookup y = some .local) (ha : PA X [a, b] ta)
    (hw : swappedStores [.Tuple [.Name x px, .Name y py] kt pt] (.Tuple [a, b] k2 pt2) X.env = pure (some [x, y]))
    (hs : swapsWithSole [.Tuple [.Name x px, .Name y py] kt pt] (.Tuple [a, b] k2 pt2) pos.line X.env = pure false := by rfl) :
    PS X (.Assign [.Tuple [.Name x px, .Name y py] kt pt] (.Tuple [a, b] k2 pt2) pos) (tPar i j ta) := by
  intro pins s σ H D I h
  rw [exec_Assign_arm]
  refine wpAny_bind (wpAny_standAt ?_)
  rw [hs]
  refine wpAny_bind (wpAny_pure ?_)
  rw [if_neg (by decide)]
  refine wpAny_bind (Tuple_ (thn (ha _ pins s σ H _ I h) fun us s1 ⟨vs, H1, I1, r1, q1⟩ => ?_))
  obtain ⟨v, w, e1, q1⟩ := q1
  subst e1
  obtain ⟨u1, u2, rfl, rv, rw'⟩ : ∃ u1 u2, us = [u1, u2] ∧ RelV v u1 ∧ RelV w u2 := by
    cases r1 with
    | cons p q =>
      cases q with
      | cons p' q' =>
        cases q'
        exact ⟨_, _, rfl, p, p'⟩
  refine wpAny_newObj_type ?_ (by show 2 ≤ sizeLine; decide)
  have I2 : Inv X pins σ H1 { s1 with heap := s1.heap.push { cls := .type "tuple", data := .seq [u1, u2].toArray } } := I1.kept (t' := s1.toks) fun b o e => Heap.get?_push_of_some _ e
  rw [hw]
  refine wpAny_bind (wpAny_pure ?_)
  show wpAny (model X.prog X.w) X.A (do rule "assign.swapped-stores"; let items ← unpackItems (.ref s1.heap.objs.size) 2 none; assignInOrder [fun v => bindName X.env y v, fun v => bindName X.env x v] items.reverse; pure Flow.next) _ _ _
  refine wpAny_bind (wpAny_rule (wpAny_bind (unpackItems_tuple (items := #[u1, u2]) (I.ok.hd hc) (IsTup.new s1.heap _) fun h' hx' => ?_)))
  have I3 := I2.kept (h' := h') (t' := s1.toks) fun b o e => hx' b o (Nat.ne_of_lt (Heap.lt_size e)) e
  show wpAny _ _ (assignInOrder [fun v => bindName X.env y v, fun v => bindName X.env x v] [u2, u1] >>= fun _ => pure Flow.next) _ _ _
  refine wpAny_bind (assignInOrder_cons (wpAny_bindName (store_ok I3 hN hj (.inl hy) rw' (fun s2 I4 => ?_) (.inr hy))))
  refine assignInOrder_cons (wpAny_bindName (store_ok I4 hN hi (.inl hx) rv (fun s3 I5 => assignInOrder_nil (wpAny_pure ?_)) (.inr hx)))
  rw [List.set_comm _ _ (Ne.symm hij)] at I5
  exact ⟨_, H1, I5, q1⟩
end
section
variable {X : Cx} {pos : Pos}
noncomputable def tWhile (c : TT) (tb : TS) : TS := fun D σ H => ∃ W : Nat → St → Hp → Prop, (∃ m, W m σ H) ∧ ∀ m σ H, W m σ H →
  c σ H fun b H1 => if b = true then ∃ N : St → Hp → Prop, (∀ σ' H', N σ' H' → ∃ m', m' < m ∧ W m' σ' H') ∧ tb { D with nx := N, ct := N, bk := D.nx } σ H1 else D.nx σ H1
theorem ps_while {c : Expr} {body : List Stmt} {tc : TT} {tb : TS} (hp : PassesOwn (model X.prog X.w) X.A X.env X.xe) (hc : PT X c tc) (hb : PSs X body tb) : PS X (.While c body [] pos) (tWhile tc tb) := by
  intro pins s σ H D I h
  obtain ⟨W, ⟨m0, w0⟩, turn⟩ := h
  refine wpAny_While (codeAny_whileLoop (fun n s' => ∃ σ' H', Inv X pins σ' H' s' ∧ W n σ' H') ?_ m0 ⟨σ, H, I, w0⟩)
  rintro n s1 ⟨σ1, H1, I1, w1⟩
  refine wpAny_passesOwn hp (thn (hc pins s1 σ1 H1 _ I1 (turn n σ1 H1 w1)) fun b s2 ⟨H2, I2, q2⟩ => ?_)
  cases b with
  | true =>
    obtain ⟨N, hN, q2⟩ := q2
    rw [if_pos rfl]
    refine wpAny_passesOwn hp (thn (hb pins s2 σ1 H2 _ I2 q2) fun f s3 q3 => ?_)
    cases f with
    | next =>
      obtain ⟨σ3, H3, I3, n3⟩ := q3
      obtain ⟨m', hm, w3⟩ := hN σ3 H3 n3
      exact ⟨m', hm, σ3, H3, I3, w3⟩
    | cont =>
      obtain ⟨σ3, H3, I3, n3⟩ := q3
      obtain ⟨m', hm, w3⟩ := hN σ3 H3 n3
      exact ⟨m', hm, σ3, H3, I3, w3⟩
    | brk => exact q3
    | ret v => exact q3
  | false =>
    rw [if_neg Bool.false_ne_true]
    exact wpAny_execs_nil ⟨σ1, H2, I2, q2⟩
end
structure It where
  go : Nat → Hp → Prop
  yld : Nat → Hp → V → Hp → Prop
  stop : Nat → Hp → Prop
noncomputable def FpOk (X : Cx) (pins : List (Addr × Obj)) (H : Hp) (b : Addr) : Prop :=
  H b = none ∧ b ≠ X.env.locals ∧ b ∉ X.fs ∧ (b ∈ X.ex ∨ X.s₀.heap.objs.size ≤ b) ∧ (∀ x c, X.env.cells.lookup x = some c → c ≠ b) ∧ ∀ p ∈ X.pn ++ pins, p.1 ≠ b
theorem Inv.fpOk {X : Cx} {pins : List (Addr × Obj)} {σ : St} {H H' : Hp} {s : Shared} {b : Addr} (I : Inv X pins σ H s) (hb : s.heap.objs.size ≤ b) (hn : H' b = none) : FpOk X pins H' b := by
  refine ⟨hn, Nat.ne_of_gt (Nat.lt_of_lt_of_le I.lt hb), I.nofs hb, .inr (Nat.le_trans I.sz hb), fun x c e z => ?_, fun p hp z => ?_⟩
  · obtain ⟨v, q⟩ := I.cell x c e
    exact absurd (Nat.lt_of_lt_of_le q.lt (by rw [z]; exact hb)) (Nat.lt_irrefl _)
  · exact absurd (Nat.lt_of_lt_of_le (Heap.lt_size (I.pin p hp).1) (by rw [z]; exact hb)) (Nat.lt_irrefl _)
structure Turn (P : Program) (w : World) (K : PySem.W.Frag) (tg : Expr) (J : It) (fp : List Addr) (it : Addr) (tn : Nat → Heap → Prop) : Prop where
  mem : it ∈ fp
  obj : ∀ i h, tn i h → ∀ b ∈ fp, ∃ o, h.get? b = some o ∧ ∀ v, o.data ≠ .cell v
  keep : ∀ i h h', tn i h → (∀ b ∈ fp, ∀ o, h.get? b = some o → h'.get? b = some o) → tn i h'
  item : ∀ (X : Cx), X.prog = P → X.w = w → X.K = K → X.calm = true → ∀ (i : Nat) (pins : List (Addr × Obj)) (s : Shared) (σ : St) (H : Hp) (E : Value → Shared → Prop), Inv X pins σ H s → (∀ b ∈ fp, FpOk X pins H b) → tn i s.heap → J.go i H →
    wpAny (model P w) X.A (pyNext (.ref it)) (fun r s1 => ∃ u, r = some u ∧
      wpAny (model P w) X.A (letOwnedTupleGo tg (.ref it) u) (fun _ s2 => ∃ x H', Inv X pins σ H' s2 ∧ RelV x u ∧ J.yld i H x H' ∧ tn (i + 1) s2.heap ∧ ∀ b ∈ fp, H' b = none) E s1) E s
  done : ∀ (X : Cx), X.prog = P → X.w = w → X.K = K → X.calm = true → ∀ (i : Nat) (pins : List (Addr × Obj)) (s : Shared) (σ : St) (H : Hp) (E : Value → Shared → Prop), Inv X pins σ H s → (∀ b ∈ fp, FpOk X pins H b) → tn i s.heap → J.stop i H →
    wpAny (model P w) X.A (pyNext (.ref it)) (fun r s1 => r = none ∧ Inv X pins σ H s1) E s
  self : ∀ (A : Around) (i : Nat) (s : Shared) (Q : Value → Shared → Prop) (E : Value → Shared → Prop), tn i s.heap → Q (.ref it) s → wpAny (model P w) A (pyIter (.ref it)) Q E s
noncomputable abbrev TI := St → Hp → (It → Hp → Prop) → Prop
noncomputable def PIE (X : Cx) (pins : List (Addr × Obj)) (σ : St) (tg : Expr) (R : It → Hp → Prop) (itv : Value) (s2 : Shared) : Prop :=
  ∃ (it : Addr) (fp : List Addr) (tn : Nat → Heap → Prop) (J : It) (H' : Hp), itv = .ref it ∧ Inv X pins σ H' s2 ∧ Turn X.prog X.w X.K tg J fp it tn ∧ tn 0 s2.heap ∧ (∀ b ∈ fp, FpOk X pins H' b) ∧ R J H'
noncomputable def PI (X : Cx) (tg iter : Expr) (wi : TI) : Prop :=
  ∀ (pins : List (Addr × Obj)) (s : Shared) (σ : St) (H : Hp) (R : It → Hp → Prop), Inv X pins σ H s → wi σ H R →
    wpAny (model X.prog X.w) X.A (eval iter X.env) (fun v s1 => wpAny (model X.prog X.w) X.A (pyIter v) (PIE X pins σ tg R) X.xe s1) X.xe s
theorem go_of {M : Model} {A : Around} {E : Value → Shared → Prop} {s : Shared} {tg : Expr} {it : Addr} {u : Value} {o : Obj} {n : String} {vs : Array Value} {Q : Unit → Shared → Prop} (ho : s.heap.get? it = some o) (hc : o.cls = .type n) (hd : o.data = .fields vs)
    (hn : ["enumerate", "zip", "dict_itemiterator", "dict_reverseitemiterator", "odict_iterator", "itertools.zip_longest", "itertools.pairwise"].contains n = false) (hQ : Q () s) : wpAny M A (letOwnedTupleGo tg (.ref it) u) Q E s := by
  unfold letOwnedTupleGo
  cases tg <;> first
    | exact wpAny_pure hQ
    | (cases u <;> first
        | exact wpAny_pure hQ
        | (refine wpAny_bind (wpAny_load ho ?_)
           rw [hc, hd]
           show wpAny M A (if (["enumerate", "zip", "dict_itemiterator", "dict_reverseitemiterator", "odict_iterator", "itertools.zip_longest", "itertools.pairwise"].contains n && vs[0]? == some (rawInt _)) = true then _ else _) Q E s
           rw [if_neg (by intro h; rw [hn, Bool.false_and] at h; cases h)]
           exact wpAny_pure hQ))
noncomputable def Itl (K : PySem.W.Frag) (a : Addr) : It :=
  ⟨fun i H => ∃ xs x, SqL K H a xs ∧ xs[i]? = some x, fun i H x H' => H' = H ∧ ∀ xs, SqL K H a xs → xs[i]? = some x, fun i H => ∃ xs, SqL K H a xs ∧ xs.length ≤ i⟩
noncomputable def Itt (K : PySem.W.Frag) (a : Addr) : It :=
  ⟨fun i H => ∃ xs x, SqT K H a xs ∧ xs[i]? = some x, fun i H x H' => H' = H ∧ ∀ xs, SqT K H a xs → xs[i]? = some x, fun i H => ∃ xs, SqT K H a xs ∧ xs.length ≤ i⟩
noncomputable def Itr (lo : Int) (n : Nat) : It := ⟨fun i _ => i < n, fun i H x H' => H' = H ∧ x = .int (lo + i), fun i _ => n ≤ i⟩
theorem turn_list {P : Program} {w : World} {K : PySem.W.Frag} {tg : Expr} (a it : Addr) : Turn P w K tg (Itl K a) [it] it (fun i h => h.IsListIter it a i) where
  mem := by simp
  obj := fun i h st b hb => by
    have e : b = it := by simpa using hb
    subst e
    obtain ⟨o, e, c, d⟩ := st
    exact ⟨o, e, fun v z => by rw [d] at z; cases z⟩
  keep := fun i h h' st k => st.at fun o e => k it (by simp) o e
  item := by
    intro X hP hw hK hc i pins s σ H E I hf st hg
    subst hP hw hK
    obtain ⟨xs, x, hq, hx⟩ := hg
    obtain ⟨its, rv, p, hz⟩ := I.list hq
    obtain ⟨u, hu, ru⟩ := rv.get hx
    obtain ⟨f0, f1, f2, f3, f4, f5⟩ := hf it (by simp)
    refine wpAny_pyNext_list_item st p.isList (x := u) (by simpa using hu) fun h' st' sb => ?_
    have I1 : Inv X pins σ H { s with heap := h' } := I.turned (t' := s.toks) (fun b o hb e => (sb.2 b hb).trans e) f0 f1 f3 f4 f5
    obtain ⟨o, e, c, d⟩ := id st'
    exact ⟨u, rfl, go_of (s := { s with heap := h' }) e c d (by decide) ⟨x, H, I1, ru, ⟨rfl, fun ys hy => by rw [I.list_inj hy hq]; exact hx⟩, st', fun b hb => (hf b hb).1⟩⟩
  done := by
    intro X hP hw hK hc i pins s σ H E I hf st hg
    subst hP hw hK
    obtain ⟨xs, hq, hx⟩ := hg
    obtain ⟨its, rv, p, hz⟩ := I.list hq
    obtain ⟨f0, f1, f2, f3, f4, f5⟩ := hf it (by simp)
    have hl := rv.length
    exact wpAny_pyNext_list_end (I.ok.hd hc) st p.isList (by simp; omega) fun h' eb => ⟨rfl, I.turned (t' := s.toks) (fun b o hb e => eb b o hb e) f0 f1 f3 f4 f5⟩
  self := fun _ _ _ _ _ st h => wpAny_pyIter_listiter st h
theorem turn_tuple {P : Program} {w : World} {K : PySem.W.Frag} {tg : Expr} (a it : Addr) : Turn P w K tg (Itt K a) [it] it (fun i h => h.IsTupleIter it a i) where
  mem := by simp
  obj := fun i h st b hb => by
    have e : b = it := by simpa using hb
    subst e
    obtain ⟨o, e, c, d⟩ := st
    exact ⟨o, e, fun v z => by rw [d] at z; cases z⟩
  keep := fun i h h' st k => st.at fun o e => k it (by simp) o e
  item := by
    intro X hP hw hK hc i pins s σ H E I hf st hg
    subst hP hw hK
    obtain ⟨xs, x, hq, hx⟩ := hg
    obtain ⟨its, rv, p, hz⟩ := I.tuple hq
    obtain ⟨u, hu, ru⟩ := rv.get hx
    obtain ⟨f0, f1, f2, f3, f4, f5⟩ := hf it (by simp)
    refine wpAny_pyNext_tuple_item st (show s.heap.IsTuple a its.toArray from p) (x := u) (by simpa using hu) fun h' st' sb => ?_
    have I1 : Inv X pins σ H { s with heap := h' } := I.turned (t' := s.toks) (fun b o hb e => (sb.2 b hb).trans e) f0 f1 f3 f4 f5
    obtain ⟨o, e, c, d⟩ := id st'
    exact ⟨u, rfl, go_of (s := { s with heap := h' }) e c d (by decide) ⟨x, H, I1, ru, ⟨rfl, fun ys hy => by rw [I.tuple_inj hy hq]; exact hx⟩, st', fun b hb => (hf b hb).1⟩⟩
  done := by
    intro X hP hw hK hc i pins s σ H E I hf st hg
    subst hP hw hK
    obtain ⟨xs, hq, hx⟩ := hg
    obtain ⟨its, rv, p, hz⟩ := I.tuple hq
    obtain ⟨f0, f1, f2, f3, f4, f5⟩ := hf it (by simp)
    have hl := rv.length
    exact wpAny_pyNext_tuple_end (I.ok.hd hc) st (show s.heap.IsTuple a its.toArray from p) (by simp; omega) fun h' eb => ⟨rfl, I.turned (t' := s.toks) (fun b o hb e => eb b o hb e) f0 f1 f3 f4 f5⟩
  self := fun _ _ _ _ _ st h => wpAny_pyIter_tupleiter st h
theorem turn_range {P : Program} {w : World} {K : PySem.W.Frag} {tg : Expr} (it : Addr) (lo : Int) (n : Nat) : Turn P w K tg (Itr lo n) [it] it (fun i h => IsRangeIter h it (lo + (i : Nat) * 1) ((n : Int) - (i : Nat)) 1) where
  mem := by simp
  obj := fun i h st b hb => by
    have e : b = it := by simpa using hb
    subst e
    exact ⟨_, st, fun v z => by
      have z' : Data.fields _ = Data.cell v := z
      cases z'⟩
  keep := fun i h h' st k => k it (by simp) _ st
  item := by
    intro X hP hw hK hc i pins s σ H E I hf st hg
    subst hP hw hK
    obtain ⟨f0, f1, f2, f3, f4, f5⟩ := hf it (by simp)
    have W := Walks.range (prog := X.prog) (w := X.w) (I.ok.hd hc) it lo 1 n
    refine W.item i s _ _ hg st fun v h' tk hv st' kk => ?_
    obtain ⟨t, rfl⟩ := hv
    have I1 : Inv X pins σ H { s with heap := h', toks := tk } := I.turned (fun b o hb e => kk b o (by simpa using hb) e) f0 f1 f3 f4 f5
    refine ⟨_, rfl, go_of (s := { s with heap := h', toks := tk }) (n := "range_iterator") st' rfl rfl (by decide) ⟨.int (lo + i), H, I1, ⟨t, ?_⟩, ⟨rfl, rfl⟩, st', fun b hb => (hf b hb).1⟩⟩
    rw [Int.mul_one]
  done := by
    intro X hP hw hK hc i pins s σ H E I hf st hg
    subst hP hw hK
    obtain ⟨f0, f1, f2, f3, f4, f5⟩ := hf it (by simp)
    exact wpAny_pyNext_range_end (I.ok.hd hc) st (by have : n ≤ i := hg; omega) fun h' eb => ⟨rfl, I.turned (t' := s.toks) (fun b o hb e => eb b o hb e) f0 f1 f3 f4 f5⟩
  self := fun _ _ _ _ _ st h => wpAny_pyIter_rangeiter st h
end L2
namespace L2
open PySem PySem.Spec PyProof.Rows
section
variable {X : Cx} {tg : Expr}
noncomputable def iList (K : PySem.W.Frag) (tl : TE) : TI := fun σ H R => tl σ H fun x H1 => ∃ a, x = .ref a ∧ (∃ xs, SqL K H1 a xs) ∧ R (Itl K a) H1
noncomputable def iTup (K : PySem.W.Frag) (tl : TE) : TI := fun σ H R => tl σ H fun x H1 => ∃ a, x = .ref a ∧ (∃ xs, SqT K H1 a xs) ∧ R (Itt K a) H1
theorem pi_list {l : Expr} {tl : TE} (hl : PE X l tl) : PI X tg l (iList X.K tl) := by
  intro pins s σ H R I h
  refine thn (hl pins s σ H _ I h) fun v s1 ⟨x, H1, I1, r1, q1⟩ => ?_
  obtain ⟨a, e, ⟨xs, hq⟩, q⟩ := q1
  subst e
  cases r1
  obtain ⟨its, rv, p, hz⟩ := I1.list hq
  refine wpAny_pyIter_list p.isList ?_
  refine ⟨s1.heap.objs.size, [s1.heap.objs.size], _, _, H1, rfl, I1.kept (t' := s1.toks) fun b o e => Heap.get?_push_of_some _ e, turn_list a _, ⟨_, Heap.get?_push_size _ rfl, rfl, rfl⟩, fun b hb => ?_, q⟩
  have e : b = s1.heap.objs.size := by simpa using hb
  subst e
  exact I1.fpOk (Nat.le_refl _) (I1.hok.fresh (Nat.le_refl _))
theorem pi_tup {l : Expr} {tl : TE} (hl : PE X l tl) : PI X tg l (iTup X.K tl) := by
  intro pins s σ H R I h
  refine thn (hl pins s σ H _ I h) fun v s1 ⟨x, H1, I1, r1, q1⟩ => ?_
  obtain ⟨a, e, ⟨xs, hq⟩, q⟩ := q1
  subst e
  cases r1
  obtain ⟨its, rv, p, hz⟩ := I1.tuple hq
  refine wpAny_pyIter_tuple (show s1.heap.IsTuple a its.toArray from p) ?_
  refine ⟨s1.heap.objs.size, [s1.heap.objs.size], _, _, H1, rfl, I1.kept (t' := s1.toks) fun b o e => Heap.get?_push_of_some _ e, turn_tuple a _, ⟨_, Heap.get?_push_size _ rfl, rfl, rfl⟩, fun b hb => ?_, q⟩
  have e : b = s1.heap.objs.size := by simpa using hb
  subst e
  exact I1.fpOk (Nat.le_refl _) (I1.hok.fresh (Nat.le_refl _))
theorem range_it {pins : List (Addr × Obj)} {σ : St} {H : Hp} {s : Shared} {R : It → Hp → Prop} {E : Value → Shared → Prop} {lo hi : Int} {t u v : Tok} {tk : Nat} (I : Inv X pins σ H s) (h1 : -(2 ^ 62) ≤ lo) (h2 : lo < 2 ^ 62) (h3 : -(2 ^ 62) ≤ hi) (h4 : hi < 2 ^ 62)
    (q : R (Itr lo (hi - lo).toNat) H) : wpAny (model X.prog X.w) X.A (pyIter (.ref s.heap.objs.size)) (PIE X pins σ tg R) E { s with heap := s.heap.push { cls := .type "range", data := .fields #[.int lo t, .int hi u, .int 1 v] }, toks := tk } := by
  refine wpAny_pyIter_range (IsRange.new ..) (small_one h1 h2 h3 h4) ?_
  have I1 : Inv X pins σ H { s with heap := s.heap.push { cls := .type "range", data := .fields #[.int lo t, .int hi u, .int 1 v] }, toks := tk } := I.kept fun b o e => Heap.get?_push_of_some _ e
  refine ⟨(s.heap.push { cls := .type "range", data := .fields #[.int lo t, .int hi u, .int 1 v] }).objs.size, [(s.heap.push { cls := .type "range", data := .fields #[.int lo t, .int hi u, .int 1 v] }).objs.size], _, _, H, rfl,
    I1.kept (t' := tk) fun b o e => Heap.get?_push_of_some _ e, turn_range _ lo (hi - lo).toNat, ?_, fun b hb => ?_, q⟩
  · have e1 : lo + ((0 : Nat) : Int) * 1 = lo := by simp
    have e2 : (((hi - lo).toNat : Nat) : Int) - ((0 : Nat) : Int) = Builtin.Range.rangeSize lo hi 1 := by rw [rangeSize_one]; split <;> omega
    show IsRangeIter _ _ (lo + ((0 : Nat) : Int) * 1) ((((hi - lo).toNat : Nat) : Int) - ((0 : Nat) : Int)) 1
    rw [e1, e2]
    exact Heap.get?_push_size _ rfl
  · have e : b = (s.heap.push { cls := .type "range", data := .fields #[.int lo t, .int hi u, .int 1 v] }).objs.size := by simpa using hb
    subst e
    exact I1.fpOk (Nat.le_refl _) (I1.hok.fresh (Nat.le_refl _))
noncomputable def iRng1 (ta : TA) : TI := fun σ H R => ta σ H fun vs H1 => ∃ j : Int, vs = [.int j] ∧ -(2 ^ 62) ≤ j ∧ j < 2 ^ 62 ∧ R (Itr 0 j.toNat) H1
theorem pi_range1 {a : Expr} {ta : TA} {p pos : Pos} (hg : Gl X "range") (hm : X.mg "range" = none) (ha : PA X [a] ta) (hs : starEach [a] X.env = [(false, eval a X.env)] := by rfl) : PI X tg (.Call (.Name "range" p) [a] [] pos) (iRng1 ta) := by
  intro pins s σ H R I h
  refine Call_ (ld_blt I hg hm boot_range (PyProof.Rows.callWith_type1 (thn (ha pos pins s σ H _ I h) fun us s1 ⟨vs, H1, I1, r1, q1⟩ => ?_) hs rfl))
  obtain ⟨j, e, q1, q2, q⟩ := q1
  subst e
  cases r1 with
  | cons r rr =>
    cases rr
    obtain ⟨t, rfl⟩ := r
    exact call_range_1 (range_it I1 (by omega) (by omega) q1 q2 (by simpa using q))
noncomputable def tFor (wi : TI) (g : TG) (tb : TS) : TS := fun D σ H => wi σ H fun J H1 => ∃ W : Nat → Nat → St → Hp → Prop, (∃ m, W 0 m σ H1) ∧ ∀ i m σ H, W i m σ H →
  (J.stop i H ∧ D.nx σ H) ∨ (J.go i H ∧ ∃ N : St → Hp → Prop, (∀ σ' H', N σ' H' → ∃ m', m' < m ∧ W (i + 1) m' σ' H') ∧ ∀ x H', J.yld i H x H' → g x σ H' fun σ2 H2 => tb { D with nx := N, ct := N, bk := D.nx } σ2 H2)
noncomputable def pinsAt (fp : List Addr) (h : Heap) : List (Addr × Obj) := fp.filterMap fun b => (h.get? b).map fun o => (b, o)
theorem mem_pinsAt {fp : List Addr} {h : Heap} {b : Addr} {o : Obj} (hb : b ∈ fp) (e : h.get? b = some o) : (b, o) ∈ pinsAt fp h := List.mem_filterMap.mpr ⟨b, hb, by rw [e]; rfl⟩
theorem of_pinsAt {fp : List Addr} {h : Heap} {p : Addr × Obj} (hp : p ∈ pinsAt fp h) : p.1 ∈ fp ∧ h.get? p.1 = some p.2 := by
  obtain ⟨b, hb, e⟩ := List.mem_filterMap.mp hp
  cases q : h.get? b with
  | none => rw [q] at e; cases e
  | some o =>
    rw [q] at e
    have e' : (b, o) = p := Option.some.inj e
    subst e'
    exact ⟨hb, q⟩
theorem Inv.pinned {pins : List (Addr × Obj)} {σ : St} {H : Hp} {s : Shared} {fp : List Addr} (I : Inv X pins σ H s) (hf : ∀ b ∈ fp, FpOk X pins H b) (ho : ∀ b ∈ fp, ∃ o, s.heap.get? b = some o ∧ ∀ v, o.data ≠ .cell v) : Inv X (pins ++ pinsAt fp s.heap) σ H s :=
  I.pins_of fun p hp => (List.mem_append.mp hp).elim (fun z => I.pin p (List.mem_append_right _ z)) fun z => by
    obtain ⟨hb, e⟩ := of_pinsAt z
    obtain ⟨f0, f1, f2, _⟩ := hf p.1 hb
    obtain ⟨o, e', d⟩ := ho p.1 hb
    rw [e] at e'; cases e'
    exact ⟨e, f0, f1, f2, d⟩
theorem Inv.unpinned {pins pl : List (Addr × Obj)} {σ : St} {H : Hp} {s : Shared} (I : Inv X (pins ++ pl) σ H s) : Inv X pins σ H s := I.pins_of fun p hp => I.pin p (List.mem_append_right _ (List.mem_append_left _ hp))
theorem ps_for {iter : Expr} {body : List Stmt} {wi : TI} {g : TG} {tb : TS} {pos : Pos} (hp : PassesOwn (model X.prog X.w) X.A X.env X.xe) (hc : X.calm = true) (hi : PI X tg iter wi) (hg : PG X tg g) (hb : PSs X body tb)
    (hs : ∀ x, foldedSetIterable iter X.env x = pure x := by intro _; rfl) : PS X (.For tg iter body [] pos) (tFor wi g tb) := by
  intro pins s σ H D I h
  refine wpAny_For (thn (hi pins s σ H _ I h) fun v s1 h1 => thn h1 fun itv s2 h2 => ?_) hs
  obtain ⟨it, fp, tn, J, H2, e, I2, T, st2, f2, W, ⟨m0, w0⟩, turn⟩ := h2
  subst e
  have stat : ∀ {H' : Hp}, (∀ b ∈ fp, H' b = none) → ∀ b ∈ fp, FpOk X pins H' b := fun hn b hb => ⟨hn b hb, (f2 b hb).2⟩
  refine codeAny_forLoop_any (fun n s' => ∃ i σ' H', Inv X pins σ' H' s' ∧ tn i s'.heap ∧ (∀ b ∈ fp, H' b = none) ∧ W i n σ' H') ?_ m0 ⟨0, σ, H2, I2, st2, fun b hb => (f2 b hb).1, w0⟩
  rintro n s3 ⟨i, σ3, H3, I3, st3, fr3, w3⟩
  rcases turn i n σ3 H3 w3 with ⟨stop, qn⟩ | ⟨go, N, hN, step⟩
  · refine wpAny_passesOwn hp (thn (T.done X rfl rfl rfl hc i pins s3 σ3 H3 X.xe I3 (stat fr3) st3 stop) fun r s4 ⟨hr, I4⟩ => ?_)
    subst hr
    exact wpAny_execs_nil ⟨σ3, H3, I4, qn⟩
  · refine wpAny_passesOwn hp (thn (T.item X rfl rfl rfl hc i pins s3 σ3 H3 X.xe I3 (stat fr3) st3 go) fun r s4 ⟨u, hr, h4⟩ => ?_)
    subst hr
    refine wpAny_passesOwn hp (thn h4 fun _ s5 ⟨x, H5, I5, r5, y5, st5, fr5⟩ => ?_)
    have I5' := I5.pinned (stat fr5) (T.obj _ _ st5)
    refine wpAny_passesOwn hp (thn (hg _ s5 σ3 H5 x u _ I5' r5 (step x H5 y5)) fun _ s6 ⟨σ6, H6, I6, q6⟩ => ?_)
    refine wpAny_passesOwn hp (thn (hb _ s6 σ6 H6 _ I6 q6) fun f s7 q7 => ?_)
    have again : ∀ {σ7 : St} {H7 : Hp}, Inv X (pins ++ pinsAt fp s5.heap) σ7 H7 s7 → N σ7 H7 → ∃ m, m < n ∧ ∃ i σ' H', Inv X pins σ' H' s7 ∧ tn i s7.heap ∧ (∀ b ∈ fp, H' b = none) ∧ W i m σ' H' := fun {σ7 H7} I7 n7 => by
      obtain ⟨m', hm, w7⟩ := hN σ7 H7 n7
      refine ⟨m', hm, i + 1, σ7, H7, I7.unpinned, T.keep _ _ _ st5 fun b hb o e => (I7.pin (b, o) (List.mem_append_right _ (List.mem_append_right _ (mem_pinsAt hb e)))).1, fun b hb => ?_, w7⟩
      obtain ⟨o, e, d⟩ := T.obj _ _ st5 b hb
      exact (I7.pin (b, o) (List.mem_append_right _ (List.mem_append_right _ (mem_pinsAt hb e)))).2.1
    cases f with
    | next => obtain ⟨σ7, H7, I7, n7⟩ := q7; exact again I7 n7
    | cont => obtain ⟨σ7, H7, I7, n7⟩ := q7; exact again I7 n7
    | brk => obtain ⟨σ7, H7, I7, q7⟩ := q7; exact ⟨σ7, H7, I7.unpinned, q7⟩
    | ret v => obtain ⟨x7, σ7, H7, I7, r7, q7⟩ := q7; exact ⟨x7, σ7, H7, I7.unpinned, r7, q7⟩
end
theorem for_list {K : PySem.W.Frag} {a : Addr} {xs : List V} {g : TG} {tb : TS} {D : Ends} {σ : St} {H : Hp} (Pv : Nat → St → Hp → Prop) (h0 : Pv 0 σ H) (hl : ∀ i σ H, i ≤ xs.length → Pv i σ H → SqL K H a xs)
    (hs : ∀ i x σ H, xs[i]? = some x → Pv i σ H → g x σ H fun σ2 H2 => tb { D with nx := Pv (i + 1), ct := Pv (i + 1), bk := D.nx } σ2 H2) (hd : ∀ σ H, Pv xs.length σ H → D.nx σ H) :
    ∃ W : Nat → Nat → St → Hp → Prop, (∃ m, W 0 m σ H) ∧ ∀ i m σ H, W i m σ H →
      ((Itl K a).stop i H ∧ D.nx σ H) ∨ ((Itl K a).go i H ∧ ∃ N : St → Hp → Prop, (∀ σ' H', N σ' H' → ∃ m', m' < m ∧ W (i + 1) m' σ' H') ∧ ∀ x H', (Itl K a).yld i H x H' → g x σ H' fun σ2 H2 => tb { D with nx := N, ct := N, bk := D.nx } σ2 H2) := by
  refine ⟨fun i m σ H => m = xs.length - i ∧ i ≤ xs.length ∧ Pv i σ H, ⟨xs.length, by simp, Nat.zero_le _, h0⟩, ?_⟩
  rintro i m σ H ⟨rfl, hi, p⟩
  have q := hl i σ H hi p
  by_cases hlt : i < xs.length
  · refine .inr ⟨⟨xs, xs[i], q, by simp [hlt]⟩, Pv (i + 1), fun σ' H' p' => ⟨xs.length - (i + 1), by omega, rfl, hlt, p'⟩, fun x H' y => ?_⟩
    obtain ⟨e, y⟩ := y
    subst e
    exact hs i x σ _ (y xs q) p
  · have e : i = xs.length := by omega
    subst e
    exact .inl ⟨⟨xs, q, Nat.le_refl _⟩, hd σ H p⟩
theorem for_tup {K : PySem.W.Frag} {a : Addr} {xs : List V} {g : TG} {tb : TS} {D : Ends} {σ : St} {H : Hp} (Pv : Nat → St → Hp → Prop) (h0 : Pv 0 σ H) (hl : ∀ i σ H, i ≤ xs.length → Pv i σ H → SqT K H a xs)
    (hs : ∀ i x σ H, xs[i]? = some x → Pv i σ H → g x σ H fun σ2 H2 => tb { D with nx := Pv (i + 1), ct := Pv (i + 1), bk := D.nx } σ2 H2) (hd : ∀ σ H, Pv xs.length σ H → D.nx σ H) :
    ∃ W : Nat → Nat → St → Hp → Prop, (∃ m, W 0 m σ H) ∧ ∀ i m σ H, W i m σ H →
      ((Itt K a).stop i H ∧ D.nx σ H) ∨ ((Itt K a).go i H ∧ ∃ N : St → Hp → Prop, (∀ σ' H', N σ' H' → ∃ m', m' < m ∧ W (i + 1) m' σ' H') ∧ ∀ x H', (Itt K a).yld i H x H' → g x σ H' fun σ2 H2 => tb { D with nx := N, ct := N, bk := D.nx } σ2 H2) := by
  refine ⟨fun i m σ H => m = xs.length - i ∧ i ≤ xs.length ∧ Pv i σ H, ⟨xs.length, by simp, Nat.zero_le _, h0⟩, ?_⟩
  rintro i m σ H ⟨rfl, hi, p⟩
  have q := hl i σ H hi p
  by_cases hlt : i < xs.length
  · refine .inr ⟨⟨xs, xs[i], q, by simp [hlt]⟩, Pv (i + 1), fun σ' H' p' => ⟨xs.length - (i + 1), by omega, rfl, hlt, p'⟩, fun x H' y => ?_⟩
    obtain ⟨e, y⟩ := y
    subst e
    exact hs i x σ _ (y xs q) p
  · have e : i = xs.length := by omega
    subst e
    exact .inl ⟨⟨xs, q, Nat.le_refl _⟩, hd σ H p⟩
theorem for_range {lo : Int} {n : Nat} {g : TG} {tb : TS} {D : Ends} {σ : St} {H : Hp} (Pv : Nat → St → Hp → Prop) (h0 : Pv 0 σ H)
    (hs : ∀ i σ H, i < n → Pv i σ H → g (.int (lo + i)) σ H fun σ2 H2 => tb { D with nx := Pv (i + 1), ct := Pv (i + 1), bk := D.nx } σ2 H2) (hd : ∀ σ H, Pv n σ H → D.nx σ H) :
    ∃ W : Nat → Nat → St → Hp → Prop, (∃ m, W 0 m σ H) ∧ ∀ i m σ H, W i m σ H →
      ((Itr lo n).stop i H ∧ D.nx σ H) ∨ ((Itr lo n).go i H ∧ ∃ N : St → Hp → Prop, (∀ σ' H', N σ' H' → ∃ m', m' < m ∧ W (i + 1) m' σ' H') ∧ ∀ x H', (Itr lo n).yld i H x H' → g x σ H' fun σ2 H2 => tb { D with nx := N, ct := N, bk := D.nx } σ2 H2) := by
  refine ⟨fun i m σ H => m = n - i ∧ i ≤ n ∧ Pv i σ H, ⟨n, by simp, Nat.zero_le _, h0⟩, ?_⟩
  rintro i m σ H ⟨rfl, hi, p⟩
  by_cases hlt : i < n
  · refine .inr ⟨hlt, Pv (i + 1), fun σ' H' p' => ⟨n - (i + 1), by omega, rfl, hlt, p'⟩, fun x H' y => ?_⟩
    obtain ⟨e, y⟩ := y
    subst e y
    exact hs i σ _ hlt p
  · have e : i = n := by omega
    subst e
    exact .inl ⟨Nat.le_refl _, hd σ H p⟩
end L2
namespace L2
open PySem PySem.Spec PyProof.Rows
noncomputable abbrev R2 := V → V → Hp → VK → Prop
noncomputable def OpR (X : Cx) (f : Value → Value → Sem Value) (r : R2) : Prop :=
  ∀ (pins : List (Addr × Obj)) (s : Shared) (σ : St) (H : Hp) (x y : V) (v u : Value) (Q : VK), Inv X pins σ H s → RelV x v → RelV y u → r x y H Q →
    wpAny (model X.prog X.w) X.A (f v u) (EP X pins σ Q) X.xe s
noncomputable def UnR (X : Cx) (f : Value → Sem Value) (r : V → Hp → VK → Prop) : Prop :=
  ∀ (pins : List (Addr × Obj)) (s : Shared) (σ : St) (H : Hp) (x : V) (v : Value) (Q : VK), Inv X pins σ H s → RelV x v → r x H Q →
    wpAny (model X.prog X.w) X.A (f v) (EP X pins σ Q) X.xe s
noncomputable def CallR (X : Cx) (f : Value) (r : List V → Hp → VK → Prop) : Prop :=
  ∀ (pins : List (Addr × Obj)) (s : Shared) (σ : St) (H : Hp) (xs : List V) (us : List Value) (Q : VK), Inv X pins σ H s → Vals xs us → r xs H Q →
    wpAny (model X.prog X.w) X.A (call f us) (EP X pins σ Q) X.xe s
noncomputable def tOp (r : R2) (ta tb : TE) : TE := fun σ H Q => ta σ H fun x H1 => tb σ H1 fun y H2 => r x y H2 Q
noncomputable def tUn (r : V → Hp → VK → Prop) (ta : TE) : TE := fun σ H Q => ta σ H fun x H1 => r x H1 Q
noncomputable def rI (C : Int → Int → Prop) (g : Int → Int → V) : R2 := fun x y H Q => ∃ i j, x = .int i ∧ y = .int j ∧ C i j ∧ Q (g i j) H
noncomputable def rI0 (g : Int → Int → V) : R2 := fun x y H Q => ∃ i j, x = .int i ∧ y = .int j ∧ Q (g i j) H
noncomputable def rU (g : Int → V) : V → Hp → VK → Prop := fun x H Q => ∃ i, x = .int i ∧ Q (g i) H
section
variable {X : Cx} {a b c : Expr} {ta tb tc : TE} {pos : Pos}
theorem binT (ha : PE X a ta) (hb : PE X b tb) {pins : List (Addr × Obj)} {s : Shared} {σ : St} {H : Hp} {R : V → V → Hp → Prop} (I : Inv X pins σ H s)
    (h : ta σ H fun x H1 => tb σ H1 fun y H2 => R x y H2) {Q : Value → Shared → Prop} {f : Value → Value → Sem Value}
    (hf : ∀ v u s2 x y H2, Inv X pins σ H2 s2 → RelV x v → RelV y u → R x y H2 → wpAny (model X.prog X.w) X.A (f v u) Q X.xe s2) :
    wpAny (model X.prog X.w) X.A (eval a X.env) (fun v s₁ => wpAny (model X.prog X.w) X.A (eval b X.env) (fun u s₂ => wpAny (model X.prog X.w) X.A (f v u) Q X.xe s₂) X.xe s₁) X.xe s := by
  refine thn (ha pins s σ H _ I h) fun v s1 ⟨x, H1, I1, r1, q1⟩ => ?_
  refine thn (hb pins s1 σ H1 _ I1 q1) fun u s2 ⟨y, H2, I2, r2, q2⟩ => ?_
  exact hf v u s2 x y H2 I2 r1 r2 q2
theorem pe_op {op : Operator} {r : R2} (ho : OpR X (binaryOp op) r) (ha : PE X a ta) (hb : PE X b tb) : PE X (.BinOp a op b pos) (tOp r ta tb) := by
  intro pins s σ H Q I h
  exact wpAny_BinOp (binT ha hb I h fun v u s2 x y H2 I2 rx ry q => ho pins s2 σ H2 x y v u Q I2 rx ry q)
theorem pe_un {op : UnaryOp} {r : V → Hp → VK → Prop} (ho : UnR X (unaryOp op) r) (ha : PE X a ta) : PE X (.UnaryOp op a pos) (tUn r ta) := by
  intro pins s σ H Q I h
  exact UnaryOp_ (thn (ha pins s σ H _ I h) fun v s1 ⟨x, H1, I1, r1, q1⟩ => ho pins s1 σ H1 x v Q I1 r1 q1)
theorem opI {f : Value → Value → Sem Value} {C : Int → Int → Prop} {g : Int → Int → Int}
    (rule : ∀ (i j : Int) (t u : Tok) (s : Shared) (Q : Value → Shared → Prop) (E : Value → Shared → Prop), C i j → Q (.int (g i j) s.toks) { s with toks := s.toks + 1 } → wpAny (model X.prog X.w) X.A (f (.int i t) (.int j u)) Q E s) :
    OpR X f (rI C fun i j => .int (g i j)) := by
  intro pins s σ H x y v u Q I rx ry h
  obtain ⟨i, j, rfl, rfl, hc, q⟩ := h
  obtain ⟨t, rfl⟩ := rx
  obtain ⟨t', rfl⟩ := ry
  exact rule i j t t' s _ _ hc ⟨.int (g i j), H, I.tok _, ⟨_, rfl⟩, q⟩
theorem opI0 {f : Value → Value → Sem Value} {g : Int → Int → Int}
    (rule : ∀ (i j : Int) (t u : Tok) (s : Shared) (Q : Value → Shared → Prop) (E : Value → Shared → Prop), Q (.int (g i j) s.toks) { s with toks := s.toks + 1 } → wpAny (model X.prog X.w) X.A (f (.int i t) (.int j u)) Q E s) :
    OpR X f (rI0 fun i j => .int (g i j)) := by
  intro pins s σ H x y v u Q I rx ry h
  obtain ⟨i, j, rfl, rfl, q⟩ := h
  obtain ⟨t, rfl⟩ := rx
  obtain ⟨t', rfl⟩ := ry
  exact rule i j t t' s _ _ ⟨.int (g i j), H, I.tok _, ⟨_, rfl⟩, q⟩
theorem opB0 {f : Value → Value → Sem Value} {g : Int → Int → Bool}
    (rule : ∀ (i j : Int) (t u : Tok) (s : Shared) (Q : Value → Shared → Prop) (E : Value → Shared → Prop), Q (.bool (g i j)) s → wpAny (model X.prog X.w) X.A (f (.int i t) (.int j u)) Q E s) :
    OpR X f (rI0 fun i j => .bl (g i j)) := by
  intro pins s σ H x y v u Q I rx ry h
  obtain ⟨i, j, rfl, rfl, q⟩ := h
  obtain ⟨t, rfl⟩ := rx
  obtain ⟨t', rfl⟩ := ry
  exact rule i j t t' s _ _ ⟨.bl (g i j), H, I, rfl, q⟩
noncomputable def CDiv (i j : Int) : Prop := 0 < j ∧ j < 1073741824
noncomputable def CPow (i j : Int) : Prop := 0 ≤ j ∧ j ≤ 1000000 ∧ i.natAbs < 2 ^ 64
noncomputable def CMul (i j : Int) : Prop := (-(2 ^ 64) < i ∧ i < 2 ^ 64) ∨ (-(2 ^ 64) < j ∧ j < 2 ^ 64)
theorem CMul.ok {i j : Int} (h : CMul i j) : IntMulOk i j := by
  rcases h with ⟨h1, h2⟩ | ⟨h1, h2⟩
  · exact .of_left (intBits_le_64 h1 h2)
  · exact .of_right (intBits_le_64 h1 h2)
theorem op_add : OpR X (binaryOp .Add) (rI0 fun i j => .int (i + j)) := opI0 fun _ _ _ _ _ _ _ q => add_int q
theorem op_sub : OpR X (binaryOp .Sub) (rI0 fun i j => .int (i - j)) := opI0 fun _ _ _ _ _ _ _ q => sub_int q
theorem op_mul : OpR X (binaryOp .Mult) (rI CMul fun i j => .int (i * j)) := opI fun _ _ _ _ _ _ _ hc q => mul_int q hc.ok
theorem op_fdiv : OpR X (binaryOp .FloorDiv) (rI CDiv fun i j => .int (i / j)) := opI fun i j _ _ _ _ _ hc q => by
  have h1 : (0 : Int) < j := hc.1
  have h2 : j < 1073741824 := hc.2
  exact floordiv_int (by omega) (by rw [Int.fdiv_eq_ediv_of_nonneg i (by omega)]; exact q) (.inl (PyProof.noPylong_small (by omega)))
theorem op_mod : OpR X (binaryOp .Mod) (rI (fun _ j => 0 < j) fun i j => .int (i % j)) := opI fun i j _ _ _ _ _ hc q => by
  have h1 : (0 : Int) < j := hc
  exact mod_int' (by omega) (by rw [Int.fmod_eq_emod_of_nonneg i (by omega)]; exact q)
theorem op_pow : OpR X (binaryOp .Pow) (rI CPow fun i j => .int (i ^ j.toNat)) := opI fun _ _ _ _ _ _ _ hc q => pow_int_small hc.1 hc.2.1 hc.2.2 q
theorem unI {f : Value → Sem Value} {g : Int → Int}
    (rule : ∀ (i : Int) (t : Tok) (s : Shared) (Q : Value → Shared → Prop) (E : Value → Shared → Prop), Q (.int (g i) s.toks) { s with toks := s.toks + 1 } → wpAny (model X.prog X.w) X.A (f (.int i t)) Q E s) :
    UnR X f (rU fun i => .int (g i)) := by
  intro pins s σ H x v Q I rx h
  obtain ⟨i, rfl, q⟩ := h
  obtain ⟨t, rfl⟩ := rx
  exact rule i t s _ _ ⟨.int (g i), H, I.tok _, ⟨_, rfl⟩, q⟩
theorem un_neg : UnR X (unaryOp .USub) (rU fun i => .int (-i)) := unI fun _ _ _ _ _ q => neg_int q
end
noncomputable def scal : V → V → Bool
  | .non, .non => true | .non, .int _ => true | .int _, .non => true | .non, .bl _ => true | .bl _, .non => true | .non, .str _ => true | .str _, .non => true
  | .int _, .int _ => true | .bl _, .bl _ => true | .str _, .str _ => true | .byt _, .byt _ => true
  | .int _, .str _ => true | .str _, .int _ => true | .bl _, .str _ => true | .str _, .bl _ => true
  | _, _ => false
noncomputable def rEq : R2 := fun x y H Q => scal x y = true ∧ Q (.bl (decide (x = y))) H
noncomputable def rNe : R2 := fun x y H Q => scal x y = true ∧ Q (.bl (!decide (x = y))) H
theorem dec_int {i j : Int} : decide (V.int i = V.int j) = (i == j) := by
  rw [Bool.eq_iff_iff]
  simp
theorem dec_bl {i j : Bool} : decide (V.bl i = V.bl j) = (i == j) := by
  rw [Bool.eq_iff_iff]
  simp
theorem dec_str {i j : Str} : decide (V.str i = V.str j) = (i == j) := by
  rw [Bool.eq_iff_iff]
  simp
theorem dec_byt {i j : Array UInt8} : decide (V.byt i = V.byt j) = (i.toList == j.toList) := by
  rw [Bool.eq_iff_iff]
  cases i
  cases j
  simp
section
variable {X : Cx} {a b c : Expr} {ta tb tc : TE} {pos : Pos}
theorem fin_bl {pins : List (Addr × Obj)} {σ : St} {H : Hp} {s : Shared} {Q : VK} {k k' : Bool} (I : Inv X pins σ H s) (q : Q (.bl k) H) (e : k = k') : EP X pins σ Q (.bool k') s := by
  subst e
  exact ⟨.bl k, H, I, rfl, q⟩
theorem op_eq : OpR X (compareOp .Eq) rEq := by
  intro pins s σ H x y v u Q I rx ry h
  obtain ⟨hs, q⟩ := h
  cases x with
  | non =>
    cases rx
    cases y with
    | non => cases ry; exact PySem.EqNone.eq_none_none (fin_bl I q (by simp))
    | bl j => cases ry; exact PySem.EqNone.eq_none_bool (fin_bl I q (by simp))
    | int j => obtain ⟨t', rfl⟩ := ry; exact PySem.EqNone.eq_none_int (fin_bl I q (by simp))
    | str j => obtain ⟨t', rfl⟩ := ry; exact PySem.EqNone.eq_none_str (fin_bl I q (by simp))
    | _ => exact absurd (show false = true from hs) Bool.false_ne_true
  | bl i =>
    cases rx
    cases y with
    | non => cases ry; exact PySem.EqNone.eq_bool_none (fin_bl I q (by simp))
    | bl j => cases ry; exact eq_bool (fin_bl I q dec_bl)
    | str j => obtain ⟨t', rfl⟩ := ry; exact PySem.EqMixed.eq_bool_str (fin_bl I q (by simp))
    | _ => exact absurd (show false = true from hs) Bool.false_ne_true
  | int i =>
    obtain ⟨t, rfl⟩ := rx
    cases y with
    | non => cases ry; exact PySem.EqNone.eq_int_none (fin_bl I q (by simp))
    | int j => obtain ⟨t', rfl⟩ := ry; exact eq_int (fin_bl I q dec_int)
    | str j => obtain ⟨t', rfl⟩ := ry; exact PySem.EqMixed.eq_int_str (fin_bl I q (by simp))
    | _ => exact absurd (show false = true from hs) Bool.false_ne_true
  | str i =>
    obtain ⟨t, rfl⟩ := rx
    cases y with
    | non => cases ry; exact PySem.EqNone.eq_str_none (fin_bl I q (by simp))
    | bl j => cases ry; exact PySem.EqMixed.eq_str_bool (fin_bl I q (by simp))
    | int j => obtain ⟨t', rfl⟩ := ry; exact PySem.EqMixed.eq_str_int (fin_bl I q (by simp))
    | str j => obtain ⟨t', rfl⟩ := ry; exact eq_str (fin_bl I q dec_str)
    | _ => exact absurd (show false = true from hs) Bool.false_ne_true
  | byt i =>
    obtain ⟨t, rfl⟩ := rx
    cases y with
    | byt j => obtain ⟨t', rfl⟩ := ry; exact PySem.W.eq_bytes (fin_bl I q dec_byt)
    | _ => exact absurd (show false = true from hs) Bool.false_ne_true
  | _ => cases y <;> exact absurd (show false = true from hs) Bool.false_ne_true
theorem op_ne : OpR X (compareOp .NotEq) rNe := by
  intro pins s σ H x y v u Q I rx ry h
  obtain ⟨hs, q⟩ := h
  cases x with
  | non =>
    cases rx
    cases y with
    | non => cases ry; exact PySem.EqNone.ne_none_none (fin_bl I q (by simp))
    | bl j => cases ry; exact PySem.EqNone.ne_none_bool (fin_bl I q (by simp))
    | int j => obtain ⟨t', rfl⟩ := ry; exact PySem.EqNone.ne_none_int (fin_bl I q (by simp))
    | str j => obtain ⟨t', rfl⟩ := ry; exact PySem.EqNone.ne_none_str (fin_bl I q (by simp))
    | _ => exact absurd (show false = true from hs) Bool.false_ne_true
  | bl i =>
    cases rx
    cases y with
    | non => cases ry; exact PySem.EqNone.ne_bool_none (fin_bl I q (by simp))
    | bl j => cases ry; exact ne_bool (fin_bl I q (congrArg not dec_bl))
    | str j => obtain ⟨t', rfl⟩ := ry; exact PySem.EqMixed.ne_bool_str (fin_bl I q (by simp))
    | _ => exact absurd (show false = true from hs) Bool.false_ne_true
  | int i =>
    obtain ⟨t, rfl⟩ := rx
    cases y with
    | non => cases ry; exact PySem.EqNone.ne_int_none (fin_bl I q (by simp))
    | int j => obtain ⟨t', rfl⟩ := ry; exact ne_int (fin_bl I q (congrArg not dec_int))
    | str j => obtain ⟨t', rfl⟩ := ry; exact PySem.EqMixed.ne_int_str (fin_bl I q (by simp))
    | _ => exact absurd (show false = true from hs) Bool.false_ne_true
  | str i =>
    obtain ⟨t, rfl⟩ := rx
    cases y with
    | non => cases ry; exact PySem.EqNone.ne_str_none (fin_bl I q (by simp))
    | bl j => cases ry; exact PySem.EqMixed.ne_str_bool (fin_bl I q (by simp))
    | int j => obtain ⟨t', rfl⟩ := ry; exact PySem.EqMixed.ne_str_int (fin_bl I q (by simp))
    | str j => obtain ⟨t', rfl⟩ := ry; exact ne_str (fin_bl I q (congrArg not dec_str))
    | _ => exact absurd (show false = true from hs) Bool.false_ne_true
  | byt i =>
    obtain ⟨t, rfl⟩ := rx
    cases y with
    | byt j => obtain ⟨t', rfl⟩ := ry; exact PySem.W.ne_bytes (fin_bl I q (congrArg not dec_byt))
    | _ => exact absurd (show false = true from hs) Bool.false_ne_true
  | _ => cases y <;> exact absurd (show false = true from hs) Bool.false_ne_true
theorem op_lt : OpR X (compareOp .Lt) (rI0 fun i j => .bl (decide (i < j))) := opB0 fun _ _ _ _ _ _ _ q => lt_int q
theorem op_le : OpR X (compareOp .LtE) (rI0 fun i j => .bl (decide (i ≤ j))) := opB0 fun _ _ _ _ _ _ _ q => le_int q
theorem op_gt : OpR X (compareOp .Gt) (rI0 fun i j => .bl (decide (j < i))) := opB0 fun _ _ _ _ _ _ _ q => gt_int q
theorem op_ge : OpR X (compareOp .GtE) (rI0 fun i j => .bl (decide (j ≤ i))) := opB0 fun _ _ _ _ _ _ _ q => ge_int q
theorem op_lt_str : OpR X (compareOp .Lt) (fun x y H Q => ∃ i j, x = .str i ∧ y = .str j ∧ Q (.bl (decide (i.cps.toList < j.cps.toList))) H) := by
  intro pins s σ H x y v u Q I rx ry h
  obtain ⟨i, j, rfl, rfl, q⟩ := h
  obtain ⟨t, rfl⟩ := rx
  obtain ⟨t', rfl⟩ := ry
  exact lt_str (fin_bl I q rfl)
theorem op_notN : OpR X (compareOp .IsNot) (fun x y H Q => y = .non ∧ Q (.bl (!decide (x = .non))) H) := by
  intro pins s σ H x y v u Q I rx ry h
  obtain ⟨rfl, q⟩ := h
  cases ry
  refine isnot_none_gen (fin_bl I q ?_)
  cases x <;> first
    | (cases rx; rfl)
    | (obtain ⟨t, rfl⟩ := rx; rfl)
theorem nomark (b : Expr) {op : CmpOp} (h : op ≠ .In := by decide) (h2 : op ≠ .NotIn := by decide) : behindInMarks op b = false := by
  have e1 : (op == CmpOp.In) = false := by cases op <;> first | rfl | exact absurd rfl h
  have e2 : (op == CmpOp.NotIn) = false := by cases op <;> first | rfl | exact absurd rfl h2
  cases b <;> simp [behindInMarks, e1, e2]
theorem pe_cmpR {op : CmpOp} {r : R2} (ho : OpR X (compareOp op) r) (ha : PE X a ta) (hb : PE X b tb) (hm : behindInMarks op b = false) : PE X (.Compare a [op] [b] pos) (tOp r ta tb) := by
  intro pins s σ H Q I h
  exact wpAny_Compare1 (binT ha hb I h fun v u s2 x y H2 I2 rx ry q => ho pins s2 σ H2 x y v u Q I2 rx ry q) hm
noncomputable def tTest (t : TE) : TT := fun σ H Q => t σ H fun x H' => ∃ k, x = .bl k ∧ Q k H'
theorem pt_cmpR {op : CmpOp} {r : R2} (ho : OpR X (compareOp op) r) (ha : PE X a ta) (hb : PE X b tb) (hm : behindInMarks op b = false) : PT X (.Compare a [op] [b] pos) (tTest (tOp r ta tb)) := by
  intro pins s σ H Q I h
  refine wpAny_isTrue_Compare1 (thn (ha pins s σ H _ I h) fun v s1 ⟨x, H1, I1, r1, q1⟩ => thn (hb pins s1 σ H1 _ I1 q1) fun u s2 ⟨y, H2, I2, r2, q2⟩ =>
    thn (ho pins s2 σ H2 x y v u _ I2 r1 r2 q2) fun c s3 ⟨z, H3, I3, r3, k, e, q3⟩ => ?_) hm
  subst e
  cases r3
  exact wpAny_truthy_bool ⟨H3, I3, q3⟩
noncomputable def tChain (r r' : R2) (ta tb tc : TE) : TE := fun σ H Q => ta σ H fun x H1 => tb σ H1 fun y H2 => r x y H2 fun z H3 => ∃ k, z = .bl k ∧
  (if k = true then tc σ H3 fun w' H4 => r' y w' H4 Q else Q (.bl false) H3)
theorem pe_chain {op op' : CmpOp} {r r' : R2} (ho : OpR X (compareOp op) r) (ho' : OpR X (compareOp op') r') (ha : PE X a ta) (hb : PE X b tb) (hc : PE X c tc)
    (hm : lastMarks [op, op'] [b, c] = false := by with_unfolding_all rfl) : PE X (.Compare a [op, op'] [b, c] pos) (tChain r r' ta tb tc) := by
  intro pins s σ H Q I h
  refine Compare_chain (thn (ha pins s σ H _ I h) fun v s1 ⟨x, H1, I1, r1, q1⟩ => chain_link (thn (hb pins s1 σ H1 _ I1 q1) fun u s2 ⟨y, H2, I2, r2, q2⟩ =>
    thn (ho pins s2 σ H2 x y v u _ I2 r1 r2 q2) fun d s3 ⟨z, H3, I3, r3, k, e, q3⟩ => ?_)) hm
  subst e
  cases r3
  refine wpAny_truthy_bool ?_
  cases k with
  | false => exact ite_ff ⟨.bl false, H3, I3, rfl, q3⟩
  | true => exact ite_tt (chain_last (thn (hc pins s3 σ H3 _ I3 q3) fun w' s4 ⟨z', H4, I4, r4, q4⟩ => ho' pins s4 σ H4 y z' u w' Q I4 r2 r4 q4))
theorem line63 : (sizeLine : Nat) < 2 ^ 63 := by rw [sizeLine_eq]; decide
theorem op_add_str : OpR X (binaryOp .Add) (fun x y H Q => ∃ i j, x = .str i ∧ y = .str j ∧ i.length + j.length ≤ sizeLine ∧ Q (.str (i ++ j)) H) := by
  intro pins s σ H x y v u Q I rx ry h
  obtain ⟨i, j, rfl, rfl, hz, q⟩ := h
  obtain ⟨t, rfl⟩ := rx
  obtain ⟨t', rfl⟩ := ry
  exact add_str (fun t' tk => ⟨.str (i ++ j), H, I.tok _, ⟨_, rfl⟩, q⟩) hz
theorem vals1 {x : V} {us : List Value} (r : Vals [x] us) : ∃ u, us = [u] ∧ RelV x u := by
  cases r with
  | cons r1 r2 => cases r2; exact ⟨_, rfl, r1⟩
theorem vals2 {x y : V} {us : List Value} (r : Vals [x, y] us) : ∃ u w', us = [u, w'] ∧ RelV x u ∧ RelV y w' := by
  cases r with
  | cons r1 r2 =>
    cases r2 with
    | cons r3 r4 => cases r4; exact ⟨_, _, rfl, r1, r3⟩
theorem call_abs : CallR X (.builtin "abs") (fun xs H Q => ∃ i, xs = [.int i] ∧ Q (.int (if i < 0 then -i else i)) H) := by
  intro pins s σ H xs us Q I r h
  obtain ⟨i, rfl, q⟩ := h
  obtain ⟨u, rfl, t, rfl⟩ := vals1 r
  exact call_abs_int fun u tk => ⟨.int (if i < 0 then -i else i), H, I.tok _, ⟨_, rfl⟩, q⟩
theorem call_min2 (hc : X.calm = true) : CallR X (.builtin "min") (fun xs H Q => ∃ i j, xs = [.int i, .int j] ∧ Q (.int (if j < i then j else i)) H) := by
  intro pins s σ H xs us Q I r h
  obtain ⟨i, j, rfl, q⟩ := h
  obtain ⟨u, w', rfl, ⟨t, rfl⟩, ⟨t', rfl⟩⟩ := vals2 r
  refine min_two_ints (I.ok.hd hc) fun h' tk k => ⟨_, H, I.kept k, ?_, q⟩
  by_cases hj : j < i
  · rw [if_pos hj, if_pos hj]; exact ⟨_, rfl⟩
  · rw [if_neg hj, if_neg hj]; exact ⟨_, rfl⟩
theorem call_int1 : CallR X (.type "int") (fun xs H Q => (∃ i, xs = [.int i] ∧ Q (.int i) H) ∨ ∃ k, xs = [.bl k] ∧ Q (.int (if k then 1 else 0)) H) := by
  intro pins s σ H xs us Q I r h
  rcases h with ⟨i, rfl, q⟩ | ⟨k, rfl, q⟩
  · obtain ⟨u, rfl, t, rfl⟩ := vals1 r
    exact call_int_int ⟨.int i, H, I, ⟨_, rfl⟩, q⟩
  · obtain ⟨u, rfl, r1⟩ := vals1 r
    cases r1
    exact call_int_bool ⟨.int (if k then 1 else 0), H, I.tok _, ⟨_, rfl⟩, q⟩
noncomputable def LenV (K : PySem.W.Frag) (x : V) (H : Hp) (n : Nat) : Prop :=
  match x with
  | .str y => y.length ≤ sizeLine ∧ n = y.length
  | .byt y => y.size ≤ sizeLine ∧ n = y.size
  | .ref p => (∃ xs, SqL K H p xs ∧ n = xs.length) ∨ ∃ xs, SqT K H p xs ∧ n = xs.length
  | _ => False
theorem call_len : CallR X (.builtin "len") (fun xs H Q => ∃ x n, xs = [x] ∧ LenV X.K x H n ∧ Q (.int n) H) := by
  intro pins s σ H xs us Q I r h
  obtain ⟨x, n, rfl, e, q⟩ := h
  obtain ⟨u, rfl, rx⟩ := vals1 r
  have hl := line63
  have hs : sizeLine = 16777216 := sizeLine_eq
  cases x with
  | str y =>
    obtain ⟨t, rfl⟩ := rx
    obtain ⟨hy, e'⟩ : y.length ≤ sizeLine ∧ n = y.length := e
    subst e'
    exact len_str (by omega) ⟨.int _, H, I.tok _, ⟨_, rfl⟩, q⟩
  | byt y =>
    obtain ⟨t, rfl⟩ := rx
    obtain ⟨hy, e'⟩ : y.size ≤ sizeLine ∧ n = y.size := e
    subst e'
    exact PySem.W.len_bytes (by omega) ⟨.int _, H, I.tok _, ⟨_, rfl⟩, q⟩
  | ref p =>
    cases rx
    have e' : (∃ xs, SqL X.K H p xs ∧ n = xs.length) ∨ ∃ xs, SqT X.K H p xs ∧ n = xs.length := e
    rcases e' with ⟨xs, hx, e'⟩ | ⟨xs, hx, e'⟩
    · subst e'
      obtain ⟨its, r', pl, hz⟩ := I.list hx
      have hlen := r'.length
      exact Calls.call_len_list pl.isList (by simp only [List.size_toArray]; omega) ⟨.int xs.length, H, I.tok _, ⟨_, by simp only [List.size_toArray]; rw [hlen]⟩, q⟩
    · subst e'
      obtain ⟨its, r', pl, hz⟩ := I.tuple hx
      have hlen := r'.length
      exact len_tuple pl (by simp only [List.size_toArray]; omega) ⟨.int xs.length, H, I.tok _, ⟨_, by simp only [List.size_toArray]; rw [hlen]⟩, q⟩
  | _ => exact (show False from e).elim
end
end L2
namespace L2
open PySem PySem.Spec PyProof.Rows
structure ObjM (h : Heap) (x dx C : Addr) (mA : Str → Option Value) : Prop where
  obj : h.get? x = some (PySem.W.instObj C dx)
  ns : h.Ns1 dx mA
  ne : dx ≠ x
theorem lookIn_ns {h : Heap} {dx : Addr} {mA : Str → Option Value} (n : h.Ns1 dx mA) : ∃ od, h.get? dx = some od ∧ ∀ name, PySem.W.lookIn name od = some (mA name) := by
  obtain ⟨o, es, ep, ho, hd, hk, _, hm⟩ := n
  refine ⟨o, ho, fun name => ?_⟩
  have e := hm name
  unfold nsFind findBy at e
  rw [← Array.find?_toList] at e
  unfold PySem.W.lookIn
  rw [hd]
  dsimp only
  split
  · rename_i y q
    rw [q] at e
    exact congrArg some e
  · rename_i q
    rw [q] at e
    have a : es.toList.any (·.refKey) = false := by
      rw [List.any_eq_false]
      intro y hy
      obtain ⟨z, t, hkey⟩ := hk y (Array.mem_toList_iff.mp hy)
      simp [DictEntry.refKey, hkey]
    have a' : ¬ es.toList.any (·.refKey) = true := by rw [a]; exact Bool.false_ne_true
    rw [if_neg a']
    exact congrArg some e
theorem ObjM.look {h : Heap} {x dx C : Addr} {mA : Str → Option Value} (I : ObjM h x dx C mA) : ∃ od, PySem.W.InstAt h x (PySem.W.instObj C dx) C (some od) ∧ ∀ name, PySem.W.lookIn name od = some (mA name) :=
  let ⟨od, ho, hl⟩ := lookIn_ns I.ns
  ⟨od, ⟨I.obj, rfl, rfl, ho⟩, hl⟩
theorem RelO.some_of {v : V} {o : Option Value} (r : RelO (some v) o) : ∃ u, o = some u ∧ RelV v u := by
  cases o with
  | none => exact (show False from r).elim
  | some u => exact ⟨u, rfl, r⟩
section
variable {P : Program} {w : World} {H H' : Hp} {h h' : Heap} {a C dx : Addr} {fs fs' : List (Str × V)}
theorem ins_get (hok : HOk P w H h) (e : H a = some (.ins C dx fs)) : ∃ mA, ObjM h a dx C mA ∧ (∀ f, RelO (fs.lookup f) (mA f)) ∧ PySem.Within mA (fs.map (·.1)) ∧ fs.length ≤ 1000 ∧ H dx = some (.own a) := by
  obtain ⟨d, z, ne, ob, mA, n, r, q⟩ := (show ObjOk P w H h a (.ins C dx fs) from hok a _ e)
  exact ⟨mA, ⟨ob, n, ne⟩, r, q, z, d⟩
end
structure Cls (K : PySem.W.Frag) (C : Addr) : Prop where
  pg : PySem.W.plainGet K C Str.empty = true
  hd : PySem.W.hasDictIn K C = true
  po : PySem.W.plainOver K C = true
  sa : PySem.W.findIn K (.ref C) "__setattr__" = some (some (.builtin "object.__setattr__"))
theorem Cls.get {K : PySem.W.Frag} {C : Addr} (c : Cls K C) (f : Str) : PySem.W.plainGet K C f = true := c.pg
section
variable {X : Cx} {pins : List (Addr × Obj)} {σ : St} {H : Hp} {s : Shared} {A : Around} {E : Value → Shared → Prop} {Q : Value → Shared → Prop} {c : Value} {b : Bool}
inductive TyOf (K : PySem.W.Frag) (H : Hp) : V → Value → Prop where
  | non : TyOf K H .non (.type "NoneType")
  | bl (x : Bool) : TyOf K H (.bl x) (.type "bool")
  | int (i : Int) : TyOf K H (.int i) (.type "int")
  | str (x : Str) : TyOf K H (.str x) (.type "str")
  | flt (x : UInt64) : TyOf K H (.flt x) (.type "float")
  | lst {a : Addr} {xs : List V} (e : H a = some (.lst xs)) : TyOf K H (.ref a) (.type "list")
  | frz {a : Addr} {o : Obj} {xs : List V} (e : H a = some (.frz o (.lst xs))) : TyOf K H (.ref a) (.type "list")
  | tup {a : Addr} {xs : List V} (e : H a = some (.tup xs)) : TyOf K H (.ref a) (.type "tuple")
  | dK {a : Addr} {kvs : List (Key × V)} (e : H a = some (.dK kvs)) : TyOf K H (.ref a) (.type "dict")
  | dT {a : Addr} {kvs : List (List Key × V)} (e : H a = some (.dT kvs)) : TyOf K H (.ref a) (.type "dict")
  | ins {a C dx : Addr} {fs : List (Str × V)} (e : H a = some (.ins C dx fs)) (cl : Cls K C) (ha : PySem.W.findIn K (.ref C) "__class__" = some (some (.builtin "object.__class__")))
      (hn : PySem.W.specialIn K (.builtin "object.__class__") "__get__" = some (some (.builtin "getset_descriptor.__get__"))) (htk : PySem.W.takesIn K (.builtin "object.__class__") = some true)
      (hm : PySem.W.mroIn K C (.type "object") = some true) : TyOf K H (.ref a) (.ref C)
theorem isinst_ok {x : V} {u t : Value} (I : Inv X pins σ H s) (rx : RelV x u) (ty : TyOf X.K H x t) (e : PySem.W.kitOne X.K t c = some b) (h : ∀ tk, Q (.bool b) { s with toks := tk }) :
    wpAny (model X.prog X.w) A (call (.builtin "isinstance") [u, c]) Q E s := by
  cases ty with
  | non => cases (show u = Value.none from rx); exact PySem.W.kia_one PySem.W.kitx_none I.kIn True.intro e (fun z => nomatch z) h
  | bl y => cases (show u = Value.bool y from rx); exact PySem.W.kia_one PySem.W.kitx_bool I.kIn True.intro e (fun z => nomatch z) h
  | int i => obtain ⟨t, q⟩ := (show ∃ t, u = Value.int i t from rx); cases q; exact PySem.W.kia_one PySem.W.kitx_int I.kIn True.intro e (fun z => nomatch z) h
  | str y => obtain ⟨t, q⟩ := (show ∃ t, u = Value.str y t from rx); cases q; exact PySem.W.kia_one PySem.W.kitx_str I.kIn True.intro e (fun z => nomatch z) h
  | flt y => obtain ⟨t, q⟩ := (show ∃ t, u = Value.float y t from rx); cases q; exact PySem.W.kia_one PySem.W.kitx_float I.kIn True.intro e (fun z => nomatch z) h
  | @lst a xs ea =>
    cases (show u = Value.ref a from rx)
    obtain ⟨_, _, n, _, h1⟩ := (show ObjOk X.prog X.w H s.heap a (.lst xs) from I.hok a _ ea)
    exact PySem.W.kia_one PySem.W.kitx_list I.kIn ⟨_, h1, rfl⟩ e (fun z => nomatch z) h
  | @frz a ob xs ea =>
    cases (show u = Value.ref a from rx)
    obtain ⟨_, _, _, n, _, h1⟩ := (show ObjOk X.prog X.w H s.heap a (.frz ob (.lst xs)) from I.hok a _ ea)
    exact PySem.W.kia_one PySem.W.kitx_list I.kIn ⟨_, h1, rfl⟩ e (fun z => nomatch z) h
  | @tup a xs ea =>
    cases (show u = Value.ref a from rx)
    obtain ⟨_, _, _, p⟩ := (show ObjOk X.prog X.w H s.heap a (.tup xs) from I.hok a _ ea)
    obtain ⟨o, h1, h2, _⟩ := p
    exact PySem.W.kia_one PySem.W.kitx_tuple I.kIn ⟨o, h1, h2⟩ e (fun z => nomatch z) h
  | @dK a kvs ea =>
    cases (show u = Value.ref a from rx)
    obtain ⟨_, _, vs, _, p⟩ := (show ObjOk X.prog X.w H s.heap a (.dK kvs) from I.hok a _ ea)
    obtain ⟨o, es, ep, h1, h2, _⟩ := p
    exact PySem.W.kia_one PySem.W.kitx_dict I.kIn ⟨o, h1, h2.1⟩ e (fun z => nomatch z) h
  | @dT a kvs ea =>
    cases (show u = Value.ref a from rx)
    obtain ⟨_, _, xs, _, o, es, ep, h1, h2, _⟩ := (show ObjOk X.prog X.w H s.heap a (.dT kvs) from I.hok a _ ea)
    exact PySem.W.kia_one PySem.W.kitx_dict I.kIn ⟨o, h1, h2.1⟩ e (fun z => nomatch z) h
  | @ins a C dx fs ea cl ha hn htk hm =>
    cases (show u = Value.ref a from rx)
    obtain ⟨mA, O, _⟩ := ins_get I.hok ea
    obtain ⟨od, J, _⟩ := O.look
    exact PySem.W.kia_one (PySem.W.kitx_own (cl.get _) cl.hd ha hn htk hm) I.kIn J e (fun z => nomatch z) h
end
end L2
namespace L2
open PySem PySem.Spec PyProof.Rows
structure Room (k : Nat) (A : Around) : Prop where
  hd : A.handled = none
  dp : A.depth + 3 * k + 5 < recursionLimit
  un : A.units + 16 * k + 200 < cLine
  gd : A.guards = some []
theorem Room.mono {j k : Nat} {A : Around} (r : Room k A) (h : j ≤ k) : Room j A := ⟨r.hd, by have := r.dp; omega, by have := r.un; omega, r.gd⟩
theorem Room.deeper {k : Nat} {A : Around} (r : Room (k + 1) A) (env : Env) : Room k (A.deeper env) :=
  ⟨r.hd, by have := r.dp; show A.depth + 1 + 3 * k + 5 < _; omega, by have := r.un; show A.units + 3 + 16 * k + 200 < _; omega, r.gd⟩
theorem Room.depth {k : Nat} {A : Around} (r : Room k A) : A.depth < recursionLimit := by have := r.dp; omega
theorem Room.units {k : Nat} {A : Around} (r : Room k A) : A.units + 64 < cLine := by have := r.un; omega
noncomputable def tNil : TA := fun _ H Q => Q [] H
noncomputable def tCons (ta : TE) (tr : TA) : TA := fun σ H Q => ta σ H fun x H1 => tr σ H1 fun xs H2 => Q (x :: xs) H2
section
variable {X : Cx} {e : Expr} {es : List Expr} {te : TE} {t : TA} {pos : Pos}
theorem pa_nil : PA X [] tNil := fun _ _ _ _ H Q I h => Calls.spliced_nil ⟨[], H, I, .nil, h⟩
theorem pa_cons (ha : PE X e te) (hr : PA X es t) (hs : starEach (e :: es) X.env = (false, eval e X.env) :: starEach es X.env := by rfl) : PA X (e :: es) (tCons te t) := by
  intro pos pins s σ H Q I h
  rw [hs]
  show wpAny _ _ (spliced ((false, eval e X.env) :: backTo pos (starEach es X.env))) _ _ s
  refine Calls.spliced_cons (thn (ha pins s σ H _ I h) fun u s1 ⟨x, H1, I1, r1, q1⟩ => ?_)
  exact thn (hr pos pins s1 σ H1 _ I1 q1) fun us s2 ⟨xs, H2, I2, r2, q2⟩ => ⟨x :: xs, H2, I2, .cons r1 r2, q2⟩
noncomputable def tTup (t : TA) : TE := fun σ H Q => t σ H fun xs H1 => xs.length ≤ sizeLine ∧ ∀ p, H1 p = none → Q (.ref p) (upd H1 p (.tup xs))
noncomputable def tLst (t : TA) : TE := fun σ H Q => t σ H fun xs H1 => xs.length ≤ sizeLine ∧ ∀ p, H1 p = none → Q (.ref p) (upd H1 p (.lst xs))
theorem pe_tup {x1} (h : PA X es t) : PE X (.Tuple es x1 pos) (tTup t) := by
  intro pins s σ H Q I hq
  refine wpAny_Tuple_spliced (thn (h pos pins s σ H _ I hq) fun us s1 ⟨xs, H1, I1, r, z, q⟩ => ⟨by rw [← r.length]; exact z, ?_⟩)
  have hf : H1 s1.heap.objs.size = none := I1.hok.fresh (Nat.le_refl _)
  refine ⟨.ref s1.heap.objs.size, upd H1 s1.heap.objs.size (.tup xs), I1.laid (t' := s1.toks) (fun b u e => Heap.get?_push_of_some _ e) (Nat.le_refl _) ?_, rfl, q _ hf⟩
  exact ⟨z, us, r, ⟨_, Heap.get?_push_size _ rfl, rfl, _, rfl, rfl⟩⟩
theorem pe_lst (h : PA X es t) : PE X (.List es pos) (tLst t) := by
  intro pins s σ H Q I hq
  refine wpAny_List_spliced (thn (h pos pins s σ H _ I hq) fun us s1 ⟨xs, H1, I1, r, z, q⟩ => ⟨by rw [← r.length]; exact z, ?_⟩)
  have hf : H1 s1.heap.objs.size = none := I1.hok.fresh (Nat.le_refl _)
  refine ⟨.ref s1.heap.objs.size, upd H1 s1.heap.objs.size (.lst xs), I1.laid (t' := s1.toks) (fun b u e => Heap.get?_push_of_some _ e) (Nat.le_refl _) ?_, rfl, q _ hf⟩
  exact ⟨z, us, 0, r, Heap.get?_push_size _ rfl⟩
end
noncomputable abbrev Sp := List V → Hp → VK → XK → Prop
noncomputable abbrev CXT := List Env → Hp → Shared → XK → Value → Shared → Prop
structure Env0 (P : Program) (w : World) (K : PySem.W.Frag) (mg : Str → Option Value) (base : Heap) (A : Around) (outer : List Env) (s : Shared) (H : Hp) : Prop where
  frames : A.frames = some outer
  mod : Mod K mg base
  bs : ∀ b o, base.get? b = some o → s.heap.get? b = some o ∧ H b = none
  bsz : base.objs.size ≤ s.heap.objs.size
  funs : s.heap.FunFrames base outer
  frf : ∀ b ∈ frs outer, H b = none
  hok : HOk P w H s.heap
  bare : AllBare s.gens
noncomputable def CE (outer : List Env) (P : Program) (w : World) (H : Hp) (s : Shared) (Q : VK) (u : Value) (s' : Shared) : Prop :=
  ∃ v H', s'.os = s.os ∧ AllBare s'.gens ∧ Un (frs outer) [] H H' s.heap s'.heap ∧ HOk P w H' s'.heap ∧ RelV v u ∧ Q v H'
noncomputable def CR (CX : CXT) (outer : List Env) (P : Program) (w : World) (H : Hp) (s : Shared) (Q : VK) (E : XK) (r : Result) (s' : Shared) : Prop :=
  match r with
  | .ok (.ret u) => CE outer P w H s Q u s'
  | .ok _ => False
  | .error e => CX outer H s E e s'
structure FnOk (P : Program) (w : World) (K : PySem.W.Frag) (mg : Str → Option Value) (base : Heap) (CX : CXT) (k : Nat) (f : Addr) (fd : FuncData) (ps : List Str) (sp : Sp) : Prop where
  len : ∀ vs H Q E, sp vs H Q E → vs.length = ps.length
  run : ∀ (A : Around) (outer : List Env) (s : Shared) (H : Hp) (args : Args) (us : List Value) (vs : List V) (Q : VK) (E : XK), Room k A → Env0 P w K mg base A outer s H → BindsTo s fd args (ps.zip us) → Vals vs us → sp vs H Q E →
    codeAny (model P w) A (.call (.ref f) args) (CR CX outer P w H s Q E) s
section
variable {X : Cx} {pins : List (Addr × Obj)} {σ : St} {H : Hp} {s s' : Shared}
theorem Inv.env0 (I : Inv X pins σ H s) : Env0 X.prog X.w X.K X.mg X.base X.A X.stack s H :=
  ⟨I.ok.frames, I.ok.mod, I.bs, Nat.le_trans I.ok.bsz I.sz, I.stack, I.stkFree, I.hok, I.bare⟩
theorem Inv.after {Q : VK} {u : Value} (I : Inv X pins σ H s) (h : CE X.stack X.prog X.w H s Q u s') : EP X pins σ Q u s' := by
  obtain ⟨v, H', os, bare, un, hok, r, q⟩ := h
  obtain ⟨hh, g, d, t, os'⟩ := s'
  obtain rfl : os' = s.os := os
  exact ⟨v, H', I.call (h' := hh) (g' := g) (d' := d) (t' := t) (ch := []) un hok bare (fun b z => absurd z (by simp)), r, q⟩
end
noncomputable def tCall (sp : Sp) (dvs : List V) (E : XK) (t : TA) : TE := fun σ H Q => t σ H fun vs H1 => sp (vs ++ dvs) H1 Q E
noncomputable def Binds (K : PySem.W.Frag) (fd : FuncData) (ps : List Str) (ds : List Value) : Prop :=
  ∀ (s : Shared) (us : List Value), K.In s.heap → (us ++ ds).length = ps.length → BindsTo s fd ⟨us, []⟩ (ps.zip (us ++ ds))
theorem Binds.all {K : PySem.W.Frag} {fd : FuncData} {ps : List Str} (h : ∀ us : List Value, us.length = ps.length → bindArgs fd ⟨us, []⟩ = pure (ps.zip us)) : Binds K fd ps [] := fun s us _ hl => by
  rw [List.append_nil] at hl ⊢
  exact .of_eq (h us hl)
noncomputable def Passes (CX : CXT) (X : Cx) (E : XK) : Prop := ∀ (pins : List (Addr × Obj)) (σ : St) (H : Hp) (s : Shared) (e : Value) (s' : Shared), Inv X pins σ H s → CX X.stack H s E e s' → X.xe e s'
section
variable {X : Cx} {CX : CXT} {k : Nat} {f C : Addr} {fd : FuncData} {ps : List Str} {sp : Sp} {dvs : List V} {ds : List Value} {E : XK} {x m : Str} {p pos apos : Pos} {e o : Expr} {es : List Expr} {ta : TE} {t : TA}
theorem run_fn {pins : List (Addr × Obj)} {σ : St} {H : Hp} {s : Shared} {Q : VK} {us : List Value} {vs : List V} (F : FnOk X.prog X.w X.K X.mg X.base CX k f fd ps sp) (hr : Room k X.A) (hb : Binds X.K fd ps ds) (hd : Vals dvs ds) (hx : Passes CX X E)
    (I : Inv X pins σ H s) (r : Vals vs us) (h : sp (vs ++ dvs) H Q E) : wpAny (model X.prog X.w) X.A (call (.ref f) us) (EP X pins σ Q) X.xe s := by
  have r2 : Vals (vs ++ dvs) (us ++ ds) := r.append hd
  have hl : (us ++ ds).length = ps.length := by rw [← r2.length]; exact F.len _ _ _ _ h
  refine wpAny_call (codeAny_mono (F.run X.A X.stack s H ⟨us, []⟩ (us ++ ds) (vs ++ dvs) Q E hr I.env0 (hb s us I.kIn hl) r2 h) fun r s' hq => ?_)
  cases r with
  | error e => exact hx pins σ H s e s' I hq
  | ok fl =>
    cases fl with
    | ret u => exact I.after hq
    | next => exact False.elim hq
    | brk => exact False.elim hq
    | cont => exact False.elim hq
theorem pe_call (F : FnOk X.prog X.w X.K X.mg X.base CX k f fd ps sp) (hr : Room k X.A) (hg : Gl X x) (hm : X.mg x = some (.ref f)) (hk : PySem.W.keepIn X.K (.ref f) = true) (hb : Binds X.K fd ps ds) (hd : Vals dvs ds) (hx : Passes CX X E)
    (ha : PA X (e :: es) t) (hdb : (x == ("__debug__" : Str)) = false := by decide) (he : starEach (e :: es) X.env = (false, eval e X.env) :: starEach es X.env := by rfl) (hpl : (backTo pos (starEach es X.env)).any (·.1) = false := by rfl) :
    PE X (.Call (.Name x p) (e :: es) [] pos) (tCall sp dvs E t) := by
  intro pins s σ H Q I h
  refine wpAny_Call_Name_kw (ld_glob I hg hm ?_ hdb)
  refine PySem.W.callWith_K (h₀ := X.base) I.ok.mod.kin hk (thn (ha pos pins s σ H _ I h) fun us s1 ⟨vs, H1, I1, r, q⟩ => ⟨I1.kIn, ?_⟩) he hpl
  exact run_fn F hr hb hd hx I1 r q
end
noncomputable def PK (X : Cx) (kws : List Keyword) (t : TA) : Prop :=
  ∀ (pos : Pos) (pins : List (Addr × Obj)) (s : Shared) (σ : St) (H : Hp) (Q : List V → Hp → Prop), Inv X pins σ H s → t σ H Q → wpAny (model X.prog X.w) X.A (evalAll ((backToKw pos (keywordEach kws X.env)).map (·.2))) (AP X pins σ Q) X.xe s
structure FnScope (N P : List Str) (sc : Scope) : Prop where
  kind : sc.kind = .function
  co : sc.isCoroutine = false
  gen : sc.isGenerator = false
  nd : N.Nodup
  pre : N.take P.length = P
  par : ∀ x ∈ P, sc.names.lookup x = some .local ∨ sc.names.lookup x = some .cell
  nofree : ∀ y ∈ sc.names, y.2 ≠ .free
theorem bindL_out {kindOf : Str → Option NameKind} {x : Str} : ∀ {binds : List (Str × Value)} {m : Str → Option Value}, (∀ v, (x, v) ∉ binds) → bindL kindOf binds m x = m x
  | [], _, _ => rfl
  | (n, v) :: r, m, h => by
    unfold bindL
    rw [bindL_out fun w hw => h w (List.mem_cons_of_mem _ hw)]
    split
    · have : x ≠ n := by rintro rfl; exact h v List.mem_cons_self
      simp [this]
    · rfl
theorem bindC_out {kindOf : Str → Option NameKind} {x : Str} : ∀ {binds : List (Str × Value)} {m : Str → Option Value}, (∀ v, (x, v) ∉ binds) → bindC kindOf binds m x = m x
  | [], _, _ => rfl
  | (n, v) :: r, m, h => by
    unfold bindC
    rw [bindC_out fun w hw => h w (List.mem_cons_of_mem _ hw)]
    split
    · rfl
    · have : x ≠ n := by rintro rfl; exact h v List.mem_cons_self
      simp [this]
theorem bindL_get {kindOf : Str → Option NameKind} {x : Str} {v : Value} : ∀ {P : List Str} {vs : List Value} {i : Nat} {m : Str → Option Value}, P.Nodup → P[i]? = some x → vs[i]? = some v → kindOf x = some .local →
    bindL kindOf (P.zip vs) m x = some v
  | [], _, _, _, _, h, _, _ => by simp at h
  | _ :: _, [], _, _, _, _, h, _ => by simp at h
  | p :: P, w :: vs, 0, m, nd, h1, h2, hk => by
    simp at h1 h2; subst h1; subst h2
    show bindL kindOf ((p, w) :: P.zip vs) m p = _
    unfold bindL
    rw [bindL_out fun v hv => (List.nodup_cons.mp nd).1 (List.of_mem_zip hv).1, if_pos hk]
    simp
  | p :: P, w :: vs, i + 1, m, nd, h1, h2, hk => by
    show bindL kindOf ((p, w) :: P.zip vs) m x = _
    unfold bindL
    exact bindL_get (i := i) (List.nodup_cons.mp nd).2 (by simpa using h1) (by simpa using h2) hk
theorem bindC_get {kindOf : Str → Option NameKind} {x : Str} {v : Value} : ∀ {P : List Str} {vs : List Value} {i : Nat} {m : Str → Option Value}, P.Nodup → P[i]? = some x → vs[i]? = some v → kindOf x ≠ some .local →
    bindC kindOf (P.zip vs) m x = some v
  | [], _, _, _, _, h, _, _ => by simp at h
  | _ :: _, [], _, _, _, _, h, _ => by simp at h
  | p :: P, w :: vs, 0, m, nd, h1, h2, hk => by
    simp at h1 h2; subst h1; subst h2
    show bindC kindOf ((p, w) :: P.zip vs) m p = _
    unfold bindC
    rw [bindC_out fun v hv => (List.nodup_cons.mp nd).1 (List.of_mem_zip hv).1, if_neg hk]
    simp
  | p :: P, w :: vs, i + 1, m, nd, h1, h2, hk => by
    show bindC kindOf ((p, w) :: P.zip vs) m x = _
    unfold bindC
    exact bindC_get (i := i) (List.nodup_cons.mp nd).2 (by simpa using h1) (by simpa using h2) hk
noncomputable def start (N : List Str) (vs : List V) : St := vs.map some ++ List.replicate (N.length - vs.length) none
noncomputable def cxOf (CX : CXT) (P : Program) (w : World) (K : PySem.W.Frag) (mg : Str → Option Value) (base : Heap) (N : List Str) (qual : Str) (scope : Scope) (f : Addr) (cd : Value) (A : Around) (outer : List Env) (s : Shared) (H : Hp) (E : XK) : Cx where
  prog := P
  w := w
  K := K
  mg := mg
  base := base
  A := A.deeper (envOfC qual scope s.heap.objs.size f cd)
  N := N
  s₀ := s
  H₀ := H
  env := envOfC qual scope s.heap.objs.size f cd
  outer := outer
  stack := envOfC qual scope s.heap.objs.size f cd :: outer
  ex := []
  calm := true
  fn := fun _ => true
  pn := []
  xe := fun e s' => wpAny (model P w) (A.deeper (envOfC qual scope s.heap.objs.size f cd)) (leaving (envOfC qual scope s.heap.objs.size f cd) e) (fun _ s'' => CX outer H s E e s'') (fun e' s'' => CX outer H s E e' s'') s'
theorem cell_has {sc : Scope} {n : Nat} {x : Str} (h : sc.names.lookup x = some .cell) : ∃ c, (cellsFrom n sc.names []).lookup x = some c := by
  have q := PySem.W.cellsFrom_some sc.names n [] (.inl h)
  exact Option.isSome_iff_exists.mp q
theorem inv_start {CX : CXT} {P : Program} {w : World} {K : PySem.W.Frag} {mg : Str → Option Value} {base : Heap} {N ps : List Str} {qual : Str} {scope : Scope} {f : Addr} {cd : Value} {A : Around} {outer : List Env} {s s1 : Shared} {H : Hp} {E : XK} {us : List Value} {vs : List V}
    (S : FnScope N ps scope) (hd : A.handled = none) (e0 : Env0 P w K mg base A outer s H) (hl : vs.length = ps.length) (r : Vals vs us)
    (x : InCallC s s.heap.objs.size (bindL (envOfC qual scope s.heap.objs.size f cd).kindOf (ps.zip us) fun _ => none) (cellsFrom (s.heap.objs.size + 1) scope.names []) (bindC (envOfC qual scope s.heap.objs.size f cd).kindOf (ps.zip us) fun _ => none) s1) :
    Inv (cxOf CX P w K mg base N qual scope f cd A outer s H E) [] (start N vs) H s1 := by
  have hpl : ps.length ≤ N.length := by have := congrArg List.length S.pre; rw [List.length_take] at this; omega
  obtain ⟨h1, tk, rfl, hk⟩ := x.done
  have noA : ∀ b : Addr, b ∉ (cxOf CX P w K mg base N qual scope f cd A outer s H E).ex := fun b z => absurd (show b ∈ ([] : List Addr) from z) (by simp)
  refine ⟨⟨e0.mod, S.kind, rfl, rfl, Nat.le_refl _, fun y z c h1 h2 => ?_, fun y hy => ?_, fun y c _ h => ?_, fun _ => hd, Around.frames_deeper e0.frames, .inr ⟨rfl, rfl⟩, fun b z => absurd z (noA b), e0.bs, e0.bsz, fun b _ _ => noA b, fun b z => absurd z (noA b), e0.funs, e0.frf⟩,
    rfl, e0.bare, Un.kept hk, ⟨_, x.toInCall.ns, fun i y v h1 h2 h3 => ?_⟩, fun y c h => ⟨_, x.cell y c h⟩, e0.hok.fresh (Nat.le_refl _), fun y c h => ?_, fun p hp => absurd (show p ∈ ([] : List (Addr × Obj)) from hp) (by simp), e0.hok.kept hk, ?_⟩
  · exact name_of_addr x.apart (PySem.mem_of_lookup h1) (PySem.mem_of_lookup h2)
  · have hy : scope.names.lookup y = some .cell ∨ scope.names.lookup y = some .free := hy
    rcases hy with hy | hy
    · exact cell_has hy
    · exact absurd rfl (S.nofree _ (PySem.mem_of_lookup hy))
  · exact Nat.le_of_lt (x.above y c (PySem.mem_of_lookup h))
  · have hi : i < vs.length := by
      unfold start at h2
      by_cases hi : i < vs.length
      · exact hi
      · rw [List.getElem?_append_right (by simpa using hi)] at h2
        rw [List.getElem?_replicate] at h2
        split at h2 <;> cases h2
    have ha : vs[i]? = some v := by
      unfold start at h2
      rw [List.getElem?_append_left (by simpa using hi), List.getElem?_map] at h2
      cases e : vs[i]? with
      | none => rw [e] at h2; cases h2
      | some a => rw [e] at h2; cases h2; rfl
    obtain ⟨u, hu, rv⟩ := r.get ha
    have hp : ps[i]? = some y := by
      rw [← S.pre, List.getElem?_take_of_lt (by omega)]; exact h1
    have ndP : ps.Nodup := by rw [← S.pre]; exact S.nd.sublist (List.take_sublist _ _)
    refine ⟨u, rv, ?_⟩
    rcases S.par y (List.mem_of_getElem? hp) with k | k
    · exact .inl ⟨k, bindL_get ndP hp hu k⟩
    · obtain ⟨c, e⟩ := cell_has (n := s.heap.objs.size + 1) k
      refine .inr ⟨.inl k, c, e, ?_⟩
      have q := x.cell y c e
      rw [bindC_get ndP hp hu (by show scope.names.lookup y ≠ _; rw [k]; decide)] at q
      exact q
  · exact e0.hok.fresh (Nat.le_of_lt (x.above y c (PySem.mem_of_lookup h)))
  · unfold start
    show _ = N.length
    rw [List.length_append, List.length_map, List.length_replicate]
    omega
theorem fn_of {CX : CXT} {P : Program} {w : World} {K : PySem.W.Frag} {mg : Str → Option Value} {base : Heap} {k : Nat} {f : Addr} {name qual : Str} {params : Arguments} {body : List Stmt} {scope : Scope} {dV kV doc pm cdv ct oc : Value} {an od : Option Addr}
    {osl : Array (Option Value)} {N ps : List Str} {sp : Sp} (lk : K.lookup f = some ⟨oc, od, .func (PySem.W.fnOf name qual params body scope dV kV doc pm an cdv ct), osl⟩) (hcd : PySem.W.codeIn K cdv qual = true) (S : FnScope N ps scope)
    (len : ∀ vs H Q E, sp vs H Q E → vs.length = ps.length)
    (hbody : ∀ (A : Around) (outer : List Env) (s : Shared) (H : Hp) (vs : List V) (Q : VK) (E : XK), Room k (A.deeper (envOfC qual scope s.heap.objs.size f cdv)) → sp vs H Q E →
      ∃ t, PSs (cxOf CX P w K mg base N qual scope f cdv A outer s H E) body t ∧ t { nx := fun _ H' => Q .non H', rt := Q } (start N vs) H) :
    FnOk P w K mg base CX (k + 1) f (PySem.W.fnOf name qual params body scope dV kV doc pm an cdv ct) ps sp := by
  refine ⟨len, fun A outer s H args us vs Q E hr e0 hb r hsp => ?_⟩
  have hl := len _ _ _ _ hsp
  have KX : K.In s.heap := e0.mod.kin.keeps fun b o e => (e0.bs b o e).1
  have lim : s.heap.NoLimit := e0.mod.nolimit.keeps fun b o e => (e0.bs b o e).1
  have hkind : ∀ y ∈ ps.zip us, scope.names.lookup y.1 = some .local ∨ (scope.names.lookup y.1 = some .cell ∧ ((cellsFrom (s.heap.objs.size + 1) scope.names []).lookup y.1).isSome = true) := fun ⟨n, v⟩ hy => by
    rcases S.par n (List.of_mem_zip hy).1 with q | q
    · exact .inl q
    · exact .inr ⟨q, PySem.W.cellsFrom_some _ _ _ (.inl q)⟩
  refine codeAny_call_function hr.depth (KX _ _ lk) rfl S.co S.gen rfl (PySem.W.codeRec_of KX hcd) (hb _ _ _ _ ?_)
  refine wpAny_newFunctionEnv_cells S.kind hkind fun env he s1 x => ?_
  subst he
  refine ⟨lim.keeps x.toInCall.keep, codeAny_func ?_⟩
  obtain ⟨t, ht, hq⟩ := hbody A outer s H vs Q E (hr.deeper _) hsp
  have I : Inv (cxOf CX P w K mg base N qual scope f cdv A outer s H E) [] (start N vs) H s1 := inv_start S hr.hd e0 hl r x
  refine wpAny_mono (ht [] s1 (start N vs) H _ I hq) (fun fl s' hs => ?_) fun e s' hs => hs
  have fin : ∀ {σ' : St} {H' : Hp} {v : V} {u : Value}, Inv (cxOf CX P w K mg base N qual scope f cdv A outer s H E) [] σ' H' s' → RelV v u → Q v H' → CE outer P w H s Q u s' :=
    fun {σ' H' v u} J rv q => ⟨v, H', J.os, J.bare, J.base, J.hok, rv, q⟩
  cases fl with
  | ret u =>
    obtain ⟨v, σ', H', J, rv, q⟩ := hs
    exact fin J rv q
  | next =>
    obtain ⟨σ', H', J, q⟩ := hs
    exact fin (v := V.non) (u := Value.none) J rfl q
  | brk =>
    obtain ⟨_, _, _, q⟩ := hs
    exact False.elim q
  | cont =>
    obtain ⟨_, _, _, q⟩ := hs
    exact False.elim q
end L2
namespace L2
open PySem PySem.Spec PyProof.Rows
section
variable {X : Cx} {x : Str} {p pos : Pos} {e : Expr} {es : List Expr} {t : TA} {id T : String} {r : List V → Hp → VK → Prop}
noncomputable def tCB (r : List V → Hp → VK → Prop) (t : TA) : TE := fun σ H Q => t σ H fun vs H1 => r vs H1 Q
theorem pe_callB (hc : CallR X (.builtin id) r) (hg : Gl X x) (hm : X.mg x = none) (hv : bootBuiltins x = some (.builtin id)) (ha : PA X (e :: es) t) (hn : x ≠ "__name__" := by decide) (hdb : (x == ("__debug__" : Str)) = false := by decide)
    (he : starEach (e :: es) X.env = (false, eval e X.env) :: starEach es X.env := by rfl) (hpl : (backTo pos (starEach es X.env)).any (·.1) = false := by rfl) : PE X (.Call (.Name x p) (e :: es) [] pos) (tCB r t) := by
  intro pins s σ H Q I h
  refine wpAny_Call_Name_kw (ld_blt I hg hm hv ?_ hn hdb)
  exact PyProof.Rows.callWith_builtin1 (thn (ha pos pins s σ H _ I h) fun us s1 ⟨vs, H1, I1, r1, q1⟩ => hc pins s1 σ H1 vs us Q I1 r1 q1) he hpl
theorem pe_callTy (hc : CallR X (.type T) r) (hg : Gl X x) (hm : X.mg x = none) (hv : bootBuiltins x = some (.type T)) (ha : PA X (e :: es) t) (hn : x ≠ "__name__" := by decide) (hdb : (x == ("__debug__" : Str)) = false := by decide)
    (he : starEach (e :: es) X.env = (false, eval e X.env) :: starEach es X.env := by rfl) (hpl : (backTo pos (starEach es X.env)).any (·.1) = false := by rfl) : PE X (.Call (.Name x p) (e :: es) [] pos) (tCB r t) := by
  intro pins s σ H Q I h
  refine wpAny_Call_Name_kw (ld_blt I hg hm hv ?_ hn hdb)
  exact PyProof.Rows.callWith_type1 (thn (ha pos pins s σ H _ I h) fun us s1 ⟨vs, H1, I1, r1, q1⟩ => hc pins s1 σ H1 vs us Q I1 r1 q1) he hpl
end
end L2
namespace HT
open PySem PyProof.Rows
section
open PySem.SeqAt
open PySem.AutoSeq1 (wpAny_loadPart')
open PySem.MeetsSeq PySem.MeetsSeq2 PySem.MeetsSeq3
end
section
variable {prog : Program} {w : World} {A : Around} {E : Value → Shared → Prop} {s : Shared}
theorem cat_tup {t b : Addr} {vs ws : List Value} {Q : Value → Shared → Prop} (ht : IsTup s.heap t vs.toArray) (hb : IsTup s.heap b ws.toArray) (hv : vs ≠ [])
    (h1 : ws = [] → Q (.ref t) s) (h2 : ws ≠ [] → Q (.ref s.heap.objs.size) { s with heap := s.heap.push { cls := .type "tuple", data := .seq (vs ++ ws).toArray } })
    (hsz : vs.length + ws.length ≤ sizeLine) : wpAny (model prog w) A (binaryOp .Add (.ref t) (.ref b)) Q E s := by
  obtain ⟨⟨cls, dd, data, sl⟩, ho, hc, n, hd⟩ := id ht
  obtain ⟨⟨cls2, dd2, data2, sl2⟩, ho2, hc2, n2, hd2⟩ := id hb
  simp only at hc hd hc2 hd2
  subst hc hd hc2 hd2
  have e : vs.toArray ++ ws.toArray = (vs ++ ws).toArray := by simp
  by_cases hw : ws = []
  · exact concat_meets ⟨_, ho, rfl⟩ ⟨_, ho2, rfl⟩ noFill_tuple_add seq_tuple_add PySem.F.slot_tuple_add PySem.F.entry_tuple_add (PySem.F.args_tuple_add_2 _ _)
      (tuple_addW1 t b vs.toArray ws.toArray n n2 dd dd2 sl sl2 (by simpa using hv) (by simp [hw])) ⟨ho, ho2, h1 hw⟩
  · refine concat_meets ⟨_, ho, rfl⟩ ⟨_, ho2, rfl⟩ noFill_tuple_add seq_tuple_add PySem.F.slot_tuple_add PySem.F.entry_tuple_add (PySem.F.args_tuple_add_2 _ _)
      (tuple_addW2 t b vs.toArray ws.toArray n n2 dd dd2 sl sl2 (by simpa using hv) (by simpa using hw) (by rw [List.size_toArray, List.size_toArray]; exact hsz)) ⟨ho, ho2, ?_⟩
    rw [e]
    exact h2 hw
noncomputable def sIx (n d : Nat) : Option Int → Nat
  | none => d
  | some v => if v < 0 then (v + (n : Int)).toNat else min v.toNat n
theorem sIx_none (n d : Nat) : sIx n d none = d := rfl
theorem sIx_nat (n d k : Nat) : sIx n d (some (k : Int)) = min k n := by
  show (if (k : Int) < 0 then ((k : Int) + (n : Int)).toNat else min (k : Int).toNat n) = min k n
  rw [if_neg (by omega), Int.toNat_natCast]
theorem sIx_le (n d : Nat) (hd : d ≤ n) (o : Option Int) : sIx n d o ≤ n := by
  cases o with
  | none => exact hd
  | some v =>
    show (if v < 0 then (v + (n : Int)).toNat else min v.toNat n) ≤ n
    by_cases hv : v < 0
    · rw [if_pos hv]; omega
    · rw [if_neg hv]; exact Nat.min_le_right _ _
theorem clip_eq (v : Int) (n d : Nat) : (if v < 0 then max (v + (n : Int)) 0 else min v (n : Int)) = ((sIx n d (some v) : Nat) : Int) := by
  show (if v < 0 then max (v + (n : Int)) 0 else min v (n : Int)) = (((if v < 0 then (v + (n : Int)).toNat else min v.toNat n) : Nat) : Int)
  by_cases hv : v < 0
  · simp only [if_pos hv]; omega
  · simp only [if_neg hv]; omega
theorem adjust_gen (lo hi : Option Int) (n : Nat) : Builtin.Slice.sliceAdjust lo hi 1 (n : Int) = (((sIx n 0 lo : Nat) : Int), ((sIx n n hi : Nat) : Int)) := by
  have h1 : ¬ ((1 : Int) < 0) := by omega
  unfold Builtin.Slice.sliceAdjust
  simp only [h1, if_false]
  refine Prod.ext ?_ ?_
  · cases lo with
    | none => rfl
    | some v => exact clip_eq v n 0
  · cases hi with
    | none => rfl
    | some v => exact clip_eq v n n
theorem places_gen (i j : Nat) : Builtin.Slice.slicePlaces (i : Int) (j : Int) 1 = j - i := by
  unfold Builtin.Slice.slicePlaces
  have h1 : (1 : Int) > 0 := by omega
  simp only [h1, if_true, Int.ediv_one]
  split <;> omega
theorem slicePart_ {v : Value} {o : Option Int} {Q : Option Int → Shared → Prop} (p : IsPart v o) (h : Q o s) : wpAny (model prog w) A (Builtin.Slice.slicePartIndex v) Q E s := by
  cases p with
  | none => exact slicePart_none h
  | int i t => exact slicePart_int h
theorem sliceApplied_gen {sl : Addr} {vl vu : Value} {lo hi : Option Int} {n : Nat} {Q : Int × Int × Nat → Shared → Prop} (hs : s.heap.IsSliceOf sl vl vu .none) (pl : IsPart vl lo) (pu : IsPart vu hi)
    (h : Q (((sIx n 0 lo : Nat) : Int), 1, sIx n n hi - sIx n 0 lo) s) : wpAny (model prog w) A (Builtin.Slice.sliceApplied (.ref sl) (pure (n : Int))) Q E s := by
  obtain ⟨os, hos, hcs, hds⟩ := id hs
  unfold Builtin.Slice.sliceApplied Builtin.Slice.sliceFields
  refine wpAny_bind (wpAny_bind (wpAny_field hos hds (x := vl) rfl (wpAny_bind (wpAny_field hos hds (x := vu) rfl (wpAny_bind (wpAny_field hos hds (x := .none) rfl (wpAny_pure ?_)))))))
  refine wpAny_bind (slicePart_none ?_)
  show wpAny _ _ (if ((1 : Int) == 0) = true then _ else _) _ _ s
  rw [if_neg (by decide)]
  refine wpAny_bind (slicePart_ pl (wpAny_bind (slicePart_ pu (wpAny_bind (wpAny_pure ?_)))))
  show wpAny _ _ (match Builtin.Slice.sliceAdjust lo hi 1 (n : Int) with | (lo, hi) => pure (lo, (1 : Int), Builtin.Slice.slicePlaces lo hi 1)) _ _ s
  rw [adjust_gen lo hi n]
  show wpAny _ _ (pure (((sIx n 0 lo : Nat) : Int), (1 : Int), Builtin.Slice.slicePlaces ((sIx n 0 lo : Nat) : Int) ((sIx n n hi : Nat) : Int) 1)) _ _ s
  rw [places_gen]
  exact wpAny_pure h
theorem pick_gen (xs : Array Value) (i k : Nat) : ((List.range k).filterMap fun (m : Nat) => xs[((i : Int) + (m : Int) * 1).toNat]?).toArray = ((xs.toList.drop i).take k).toArray := by
  have e : (fun (m : Nat) => xs[((i : Int) + (m : Int) * 1).toNat]?) = fun m => xs[i + m]? := by
    funext m
    have : ((i : Int) + (m : Int) * 1).toNat = i + m := by omega
    rw [this]
  rw [e]
  have := pick_run xs i k
  rw [List.filterMap_map] at this
  have e2 : ((fun x => xs[x]?) ∘ fun x => i + x) = fun m => xs[i + m]? := rfl
  rw [e2] at this
  rw [this]
theorem getItem_tuple_cut {t sl : Addr} {items : Array Value} {vl vu : Value} {lo hi : Option Int} {Q : Value → Shared → Prop} (ht : IsTup s.heap t items) (hs : s.heap.IsSliceOf sl vl vu .none) (pl : IsPart vl lo) (pu : IsPart vu hi)
    (hw : ¬ (sIx items.size 0 lo = 0 ∧ sIx items.size items.size hi = items.size))
    (h : Q (.ref s.heap.objs.size) { s with heap := s.heap.push { cls := .type "tuple", data := .seq ((items.toList.drop (sIx items.size 0 lo)).take (sIx items.size items.size hi - sIx items.size 0 lo)).toArray } })
    (hsz : items.size ≤ sizeLine) : wpAny (model prog w) A (getItem (.ref t) (.ref sl)) Q E s := by
  have htake : sizeOk (.seq ((items.toList.drop (sIx items.size 0 lo)).take (sIx items.size items.size hi - sIx items.size 0 lo)).toArray) := by
    show ((items.toList.drop (sIx items.size 0 lo)).take (sIx items.size items.size hi - sIx items.size 0 lo)).toArray.size ≤ sizeLine
    rw [List.size_toArray, List.length_take, List.length_drop, Array.length_toList]
    omega
  have hj : sIx items.size items.size hi ≤ items.size := sIx_le _ _ (Nat.le_refl _) hi
  obtain ⟨os, hos, hcs, hds⟩ := id hs
  have hTs : s.TypeIs (.ref sl) "slice" := ⟨os, hos, hcs⟩
  unfold getItem
  try with_reducible refine wpAny_holding ?_
  first | refine wpAny_bind (wpAny_pure ?_) | skip
  refine wpAny_bind (wpAny_sequenceKey ht.typeIs (by decide) ?_)
  refine wpAny_bind (wpAny_callSpecial?_slot (name := Str.ofString "__getitem__") ht.typeIs PyProof.Rows.slot_tuple_getitem
    (wpAny_call_entry PyProof.Rows.slot_tuple_getitem ht.typeIs entry_tuple_getitem ?_ (args_tuple_getitem _ _)))
  show wpAny _ _ (Builtin.Tuple.tupleItemsOf (.ref t) >>= _) _ _ s
  refine wpAny_bind (tupleItemsOf_ ht ?_)
  refine wpAny_bind (wpAny_typeOf hTs ?_)
  rw [if_pos (by decide)]
  refine wpAny_bind (sliceApplied_gen hs pl pu ?_)
  have hno : ¬ ((((sIx items.size 0 lo : Nat) : Int) == 0 && (1 : Int) == 1 && (sIx items.size items.size hi - sIx items.size 0 lo) == items.size) = true) := by
    intro q
    rw [Bool.and_eq_true, Bool.and_eq_true] at q
    have q1 : ((sIx items.size 0 lo : Nat) : Int) = 0 := eq_of_beq q.1.1
    have q2 : sIx items.size items.size hi - sIx items.size 0 lo = items.size := eq_of_beq q.2
    exact hw ⟨by omega, by omega⟩
  show wpAny _ _ (if (((sIx items.size 0 lo : Nat) : Int) == 0 && (1 : Int) == 1 && (sIx items.size items.size hi - sIx items.size 0 lo) == items.size) = true then _ else _) _ _ s
  rw [if_neg hno, pick_gen]
  first
    | exact wpAny_bind (m := Builtin.Tuple.tupleExact _) (wpAny_newObj_type (wpAny_pure ⟨_, rfl, wpAny_pure h⟩) htake)
    | exact wpAny_bind (m := Builtin.Tuple.tupleExact _) (wpAny_newObj_type (wpAny_bind (wpAny_pure (wpAny_pure ⟨_, rfl, wpAny_pure h⟩))) htake)
    | exact wpAny_bind (wpAny_bind (m := Builtin.Tuple.tupleExact _) (wpAny_newObj_type (wpAny_pure (wpAny_pure ⟨_, rfl, wpAny_pure h⟩)) htake))
    | exact wpAny_bind (wpAny_bind (m := Builtin.Tuple.tupleExact _) (wpAny_newObj_type (wpAny_pure ⟨_, rfl, wpAny_pure h⟩) htake))
end
end HT
namespace L2
open PySem PySem.Spec PyProof.Rows
noncomputable abbrev TO := St → Hp → (Option Int → Hp → Prop) → Prop
noncomputable def PO (X : Cx) (e : Option Expr) (t : TO) : Prop :=
  ∀ (pins : List (Addr × Obj)) (s : Shared) (σ : St) (H : Hp) (Q : Option Int → Hp → Prop), Inv X pins σ H s → t σ H Q →
    wpAny (model X.prog X.w) X.A (evalPart e X.env) (fun u s' => ∃ o H', Inv X pins σ H' s' ∧ IsPart u o ∧ Q o H') X.xe s
noncomputable def tNoPart : TO := fun _ H Q => Q none H
noncomputable def tPart (t : TE) : TO := fun σ H Q => t σ H fun x H1 => ∃ i, x = .int i ∧ Q (some i) H1
section
variable {X : Cx} {e : Expr} {te : TE} {lo hi : Option Expr} {tl th : TO} {pos p2 : Pos}
theorem po_none : PO X none tNoPart := by
  intro pins s σ H Q I h
  rw [evalPart_none]
  exact wpAny_pure ⟨none, H, I, .none, h⟩
theorem po_some (h : PE X e te) : PO X (some e) (tPart te) := by
  intro pins s σ H Q I hw
  rw [evalPart_some]
  refine thn (h pins s σ H _ I hw) fun u s1 ⟨x, H1, I1, r1, q1⟩ => ?_
  obtain ⟨i, rfl, q⟩ := q1
  obtain ⟨t, rfl⟩ := r1
  exact ⟨some i, H1, I1, .int i t, q⟩
noncomputable def SlR (X : Cx) (r : V → Option Int → Option Int → Hp → VK → Prop) : Prop :=
  ∀ (pins : List (Addr × Obj)) (s : Shared) (σ : St) (H : Hp) (x : V) (v vl vu : Value) (lo hi : Option Int) (sl : Addr) (Q : VK), Inv X pins σ H s → RelV x v → s.heap.IsSliceOf sl vl vu .none → IsPart vl lo → IsPart vu hi → r x lo hi H Q →
    ∃ T id, typeLookup (.type T) "__getitem__" = pure (some (.builtin id)) ∧ s.TypeIs v T ∧ wpAny (model X.prog X.w) X.A (getItem v (.ref sl)) (EP X pins σ Q) X.xe s
noncomputable def tSl (r : V → Option Int → Option Int → Hp → VK → Prop) (te : TE) (tl th : TO) : TE := fun σ H Q => te σ H fun x H1 => tl σ H1 fun l H2 => th σ H2 fun u H3 => r x l u H3 Q
theorem pe_slice {r : V → Option Int → Option Int → Hp → VK → Prop} (hr : SlR X r) (he : PE X e te) (hl : PO X lo tl) (hu : PO X hi th) : PE X (.Subscript e (.Slice lo hi none p2) pos) (tSl r te tl th) := by
  intro pins s σ H Q I h
  refine Subscript_ (thn (he pins s σ H _ I h) fun v s1 ⟨x, H1, I1, r1, q1⟩ => ?_)
  refine wpAny_Slice (thn (hl pins s1 σ H1 _ I1 q1) fun vl s2 ⟨l, H2, I2, pl, q2⟩ => thn (hu pins s2 σ H2 _ I2 q2) fun vu s3 ⟨u, H3, I3, pu, q3⟩ => ?_)
  rw [evalPart_none]
  refine wpAny_pure ?_
  have I4 : Inv X pins σ H3 { s3 with heap := s3.heap.push { cls := .type "slice", data := .fields #[vl, vu, .none] } } := I3.kept (t' := s3.toks) fun b ob q => Heap.get?_push_of_some _ q
  obtain ⟨T, id, hT, ht, hg⟩ := hr pins { s3 with heap := s3.heap.push { cls := .type "slice", data := .fields #[vl, vu, .none] } } σ H3 x v vl vu l u s3.heap.objs.size Q I4 r1 (Heap.IsSliceOf.new ..) pl pu q3
  show wpAny (model X.prog X.w) X.A (subscriptTail e (.Slice lo hi none p2) v (.ref s3.heap.objs.size)) (EP X pins σ Q) X.xe { s3 with heap := s3.heap.push { cls := .type "slice", data := .fields #[vl, vu, .none] } }
  exact tail_any (ops := [.ref s3.heap.objs.size, v]) ht hT hg (by with_unfolding_all rfl)
noncomputable def cutV (xs : List V) (lo hi : Option Int) : List V := (xs.drop (HT.sIx xs.length 0 lo)).take (HT.sIx xs.length xs.length hi - HT.sIx xs.length 0 lo)
theorem cutV_length (xs : List V) (lo hi : Option Int) : (cutV xs lo hi).length ≤ xs.length := by
  unfold cutV
  rw [List.length_take, List.length_drop]
  omega
noncomputable def rSlT (K : PySem.W.Frag) : V → Option Int → Option Int → Hp → VK → Prop := fun x lo hi H Q => ∃ a xs, x = .ref a ∧ SqT K H a xs ∧
  ¬ (HT.sIx xs.length 0 lo = 0 ∧ HT.sIx xs.length xs.length hi = xs.length) ∧ ∀ p, H p = none → Q (.ref p) (upd H p (.tup (cutV xs lo hi)))
theorem sl_tup : SlR X (rSlT X.K) := by
  intro pins s σ H x v vl vu lo hi sl Q I rx hs pl pu h
  obtain ⟨a, xs, rfl, hx, hw, q⟩ := h
  cases rx
  obtain ⟨its, r, ht, hz⟩ := I.tuple hx
  have hlen : its.toArray.size = xs.length := by rw [List.size_toArray]; exact r.length.symm
  refine ⟨"tuple", _, PyProof.Rows.slot_tuple_getitem.lookup, ht.typeIs, ?_⟩
  refine HT.getItem_tuple_cut ht hs pl pu (by rw [hlen]; exact hw) ?_ (by rw [hlen]; exact hz)
  rw [hlen]
  refine ⟨.ref s.heap.objs.size, _, I.laid (t' := s.toks) (o := .tup (cutV xs lo hi)) (fun b ob q => Heap.get?_push_of_some _ q) (Nat.le_refl _) ?_, rfl, q _ (I.hok.fresh (Nat.le_refl _))⟩
  exact ⟨Nat.le_trans (cutV_length xs lo hi) hz, _, (r.drop (HT.sIx xs.length 0 lo)).take (HT.sIx xs.length xs.length hi - HT.sIx xs.length 0 lo), TupN.new _ _⟩
noncomputable def rCatT (K : PySem.W.Frag) : R2 := fun x y H Q => ∃ a b xs ys, x = .ref a ∧ y = .ref b ∧ SqT K H a xs ∧ SqT K H b ys ∧ xs ≠ [] ∧ xs.length + ys.length ≤ sizeLine ∧
  (ys = [] → Q (.ref a) H) ∧ (ys ≠ [] → ∀ p, H p = none → Q (.ref p) (upd H p (.tup (xs ++ ys))))
theorem Vals.nil_iff {xs : List V} {us : List Value} (r : Vals xs us) : us = [] ↔ xs = [] := by
  cases r with
  | nil => simp
  | cons _ _ => simp
theorem op_catT : OpR X (binaryOp .Add) (rCatT X.K) := by
  intro pins s σ H x y v u Q I rx ry h
  obtain ⟨a, b, xs, ys, rfl, rfl, ha, hb, hx, hz, q1, q2⟩ := h
  cases rx
  cases ry
  obtain ⟨its, r1, p1, _⟩ := I.tuple ha
  obtain ⟨its2, r2, p2, _⟩ := I.tuple hb
  refine HT.cat_tup p1 p2 (fun z => hx (r1.nil_iff.mp z)) (fun z => ⟨.ref a, H, I, rfl, q1 (r2.nil_iff.mp z)⟩) (fun z => ?_) (by rw [← r1.length, ← r2.length]; exact hz)
  refine ⟨.ref s.heap.objs.size, _, I.laid (t' := s.toks) (o := .tup (xs ++ ys)) (fun b ob q => Heap.get?_push_of_some _ q) (Nat.le_refl _) ?_, rfl, q2 (fun w => z (r2.nil_iff.mpr w)) _ (I.hok.fresh (Nat.le_refl _))⟩
  exact ⟨by rw [List.length_append]; exact hz, _, r1.append r2, TupN.new _ _⟩
end
end L2
namespace L2
open PySem PySem.Spec PyProof.Rows
noncomputable def ixN (n : Nat) (i : Int) : Option Nat := if 0 ≤ i then (if i < n then some i.toNat else none) else if -(n : Int) ≤ i then some (i + n).toNat else none
noncomputable def atI {α : Type} (xs : List α) (i : Int) : Option α := (ixN xs.length i).bind fun j => xs[j]?
theorem ixN_seq {n : Nat} {i : Int} {j : Nat} (h : ixN n i = some j) : seqIndex? i n = some j ∧ j < n ∧ -(n : Int) ≤ i ∧ i < n := by
  unfold ixN at h
  by_cases h0 : 0 ≤ i
  · rw [if_pos h0] at h
    by_cases h1 : i < n
    · rw [if_pos h1] at h
      have e : i.toNat = j := Option.some.inj h
      exact ⟨by rw [seqIndex_of h0 h1, e], by omega, by omega, h1⟩
    · rw [if_neg h1] at h; cases h
  · rw [if_neg h0] at h
    by_cases h1 : -(n : Int) ≤ i
    · rw [if_pos h1] at h
      have e : (i + n).toNat = j := Option.some.inj h
      exact ⟨by rw [seqIndex_neg (by omega) h1, e], by omega, h1, by omega⟩
    · rw [if_neg h1] at h; cases h
theorem atI_get {α : Type} {xs : List α} {i : Int} {v : α} (h : atI xs i = some v) : ∃ j, seqIndex? i xs.length = some j ∧ xs[j]? = some v ∧ j < xs.length ∧ -(xs.length : Int) ≤ i ∧ i < xs.length := by
  unfold atI at h
  cases e : ixN xs.length i with
  | none => rw [e] at h; cases h
  | some j =>
    rw [e] at h
    obtain ⟨h1, h2, h3, h4⟩ := ixN_seq e
    exact ⟨j, h1, h, h2, h3, h4⟩
theorem atI_nat {α : Type} {xs : List α} {j : Nat} {v : α} (h : xs[j]? = some v) : atI xs (j : Int) = some v := by
  have hj : j < xs.length := (List.getElem?_eq_some_iff.mp h).1
  have e : ixN xs.length (j : Int) = some j := by
    unfold ixN
    rw [if_pos (by omega), if_pos (by omega)]; simp
  unfold atI; rw [e]; exact h
theorem atI_last {α : Type} (xs : List α) (v : α) : atI (xs ++ [v]) (-1) = some v := by
  have hl : (xs ++ [v]).length = xs.length + 1 := by simp
  have e : ixN (xs ++ [v]).length (-1) = some xs.length := by
    unfold ixN
    rw [hl, if_neg (by decide), if_pos (by omega)]
    congr 1
    omega
  unfold atI
  rw [e]
  show (xs ++ [v])[xs.length]? = some v
  simp
noncomputable def PlainIx (b : Expr) : Prop := ∀ o i, subscripted b false o i = operate [o, i] (getItem o i)
noncomputable def IxR (X : Cx) (r : R2) : Prop :=
  ∀ (value slice : Expr) (pins : List (Addr × Obj)) (s : Shared) (σ : St) (H : Hp) (x y : V) (v u : Value) (Q : VK), Inv X pins σ H s → RelV x v → RelV y u → r x y H Q →
    subscripted slice false v u = operate [v, u] (getItem v u) → wpAny (model X.prog X.w) X.A (subscriptTail value slice v u) (EP X pins σ Q) X.xe s
noncomputable def MtR (X : Cx) (id : String) (r : V → List V → Hp → VK → Prop) : Prop :=
  ∀ (pins : List (Addr × Obj)) (s : Shared) (σ : St) (H : Hp) (x : V) (xs : List V) (v : Value) (us : List Value) (Q : VK), Inv X pins σ H s → RelV x v → Vals xs us → r x xs H Q →
    wpAny (model X.prog X.w) X.A (call (.builtin id) (v :: us)) (EP X pins σ Q) X.xe s
section
variable {X : Cx} {a b : Expr} {ta tb : TE} {pos : Pos}
theorem pe_ix {r : R2} (hr : IxR X r) (ha : PE X a ta) (hb : PE X b tb) (hs : PlainIx b) : PE X (.Subscript a b pos) (tOp r ta tb) := by
  intro pins s σ H Q I h
  exact Subscript_ (binT ha hb I h fun v u s2 x y H2 I2 rx ry q => hr a b pins s2 σ H2 x y v u Q I2 rx ry q (hs _ _))
noncomputable def rIxL (K : PySem.W.Frag) : R2 := fun x y H Q => ∃ p xs i v, x = .ref p ∧ y = .int i ∧ SqL K H p xs ∧ atI xs i = some v ∧ Q v H
noncomputable def rIxT (K : PySem.W.Frag) : R2 := fun x y H Q => ∃ p xs i v, x = .ref p ∧ y = .int i ∧ SqT K H p xs ∧ atI xs i = some v ∧ Q v H
noncomputable def rIxS : R2 := fun x y H Q => ∃ z i c, x = .str z ∧ y = .int i ∧ z.length ≤ sizeLine ∧ atI z.cps.toList i = some c ∧ Q (.str ⟨#[c]⟩) H
theorem ix_list : IxR X (rIxL X.K) := by
  intro value slice pins s σ H x y v u Q I rx ry h hs
  obtain ⟨p, xs, i, z, rfl, rfl, hq, he, q⟩ := h
  cases rx
  obtain ⟨t, rfl⟩ := ry
  obtain ⟨its, r, pl, hz⟩ := I.list hq
  obtain ⟨j, h1, h2, h3, h4, h5⟩ := atI_get he
  obtain ⟨w, ew, rw'⟩ := r.get h2
  have hl := r.length
  have hn := line63
  have fin : EP X pins σ Q w s := ⟨z, H, I, rw', q⟩
  by_cases h0 : 0 ≤ i
  · have hj : i.toNat = j := by
      rw [seqIndex_of h0 h5] at h1
      exact Option.some.inj h1
    exact item_listR pl.isList h0 (by omega) (by rw [hj]; simpa using ew) fin hs
  · have hj : (i + (its.toArray.size : Int)).toNat = j := by
      rw [seqIndex_neg (by omega) h4] at h1
      rw [List.size_toArray, ← hl]
      exact Option.some.inj h1
    exact subscriptTail_builtinR (x := w) pl.isList.typeIs slot_list_getitem.lookup
      (wpAny_getItem_list_neg (Q := fun r s' => r = w ∧ EP X pins σ Q r s') pl.isList (by omega) (by rw [List.size_toArray] <;> omega) (by omega) (by rw [hj]; simpa using ew) ⟨rfl, fin⟩) hs
theorem ix_tup : IxR X (rIxT X.K) := by
  intro value slice pins s σ H x y v u Q I rx ry h hs
  obtain ⟨p, xs, i, z, rfl, rfl, hq, he, q⟩ := h
  cases rx
  obtain ⟨t, rfl⟩ := ry
  obtain ⟨its, r, pl, hz⟩ := I.tuple hq
  obtain ⟨j, h1, h2, h3, h4, h5⟩ := atI_get he
  obtain ⟨w, ew, rw'⟩ := r.get h2
  have hl := r.length
  have hn := line63
  have fin : EP X pins σ Q w s := ⟨z, H, I, rw', q⟩
  exact subscriptTail_builtinR (x := w) pl.typeIs slot_tuple_getitem.lookup
    (getItem_tuple (j := j) (Q := fun r s' => r = w ∧ EP X pins σ Q r s') pl (by omega) (by omega) (by rw [List.size_toArray, ← hl]; exact h1) (by simpa using ew) ⟨rfl, fin⟩) hs
theorem ix_str : IxR X rIxS := by
  intro value slice pins s σ H x y v u Q I rx ry h hs
  obtain ⟨z, i, c, rfl, rfl, hz, he, q⟩ := h
  obtain ⟨t, rfl⟩ := rx
  obtain ⟨t', rfl⟩ := ry
  obtain ⟨j, h1, h2, h3, h4, h5⟩ := atI_get he
  have hl : z.cps.toList.length = z.length := by simp [Str.length]
  rw [hl] at h1 h4 h5
  have hn := line63
  exact tail_any (typeIs_str s z t) slot_str_getitem.lookup (getItem_str (c := c) (by
    have e1 : decide (i < -(2 ^ 63 : Int)) = false := decide_eq_false (by omega)
    have e2 : decide (i ≥ 2 ^ 63) = false := decide_eq_false (by omega)
    rw [e1, e2, Bool.or_false]) (by rw [h1]; simpa using h2) ⟨.str ⟨#[c]⟩, H, I.tok _, ⟨_, rfl⟩, q⟩) hs
theorem mapSeq_set (its : List Value) (n j : Nat) (u : Value) : Obj.mapSeq (·.setIfInBounds j u) { cls := .type "list", data := .seq its.toArray n } = { cls := .type "list", data := .seq (its.set j u).toArray n } := by
  simp [Obj.mapSeq]
theorem Inv.lst {pins : List (Addr × Obj)} {σ : St} {H : Hp} {s : Shared} {p : Addr} {xs : List V} (I : Inv X pins σ H s) (h : H p = some (.lst xs)) :
    ∃ (its : List Value) (n : Nat), Vals xs its ∧ s.heap.get? p = some { cls := .type "list", data := .seq its.toArray n } ∧ xs.length ≤ sizeLine := by
  obtain ⟨z, its, n, r, e⟩ := I.hok p _ h
  exact ⟨its, n, r, e, z⟩
theorem Inv.lstUpd {pins : List (Addr × Obj)} {σ : St} {H : Hp} {s : Shared} {p : Addr} {xs ys : List V} {its its' : List Value} {n n' : Nat} {f : Obj → Obj} (I : Inv X pins σ H s) (h : H p = some (.lst xs))
    (ho : s.heap.get? p = some { cls := .type "list", data := .seq its.toArray n }) (hf : f { cls := .type "list", data := .seq its.toArray n } = { cls := .type "list", data := .seq its'.toArray n' }) (r : Vals ys its') (hz : ys.length ≤ sizeLine) (t : Nat) :
    Inv X pins σ (upd H p (.lst ys)) { s with heap := s.heap.update p f, toks := t } := by
  have e : (s.heap.update p f).get? p = some { cls := .type "list", data := .seq its'.toArray n' } := by
    rw [Heap.get?_update_self f ho (by rw [hf] <;> rfl), hf]
  refine I.write (x := p) (e := p) (by rw [h]; trivial) (.inl rfl) (fun b u hb q => (Heap.get?_update_other _ _ (Ne.symm hb)).trans q) ⟨_, e⟩ ?_
  exact ⟨hz, its', n', r, e⟩
noncomputable def rSetL : V → V → V → Hp → (Hp → Prop) → Prop := fun o i v H Q => ∃ p xs k j, o = .ref p ∧ i = .int k ∧ H p = some (.lst xs) ∧ ixN xs.length k = some j ∧ Q (upd H p (.lst (xs.set j v)))
theorem set_list : PSet X rSetL := by
  intro pins s σ H o i v ov iv u Q I ro ri rv h
  obtain ⟨p, xs, k, j, rfl, rfl, hp, hj, q⟩ := h
  cases ro
  obtain ⟨t, rfl⟩ := ri
  obtain ⟨its, n, r, ho, hz⟩ := I.lst hp
  obtain ⟨h1, h2, h3, h4⟩ := ixN_seq hj
  have hl := r.length
  have hn := line63
  have I' : Inv X pins σ (upd H p (.lst (xs.set j v))) { s with heap := s.heap.update p (Obj.mapSeq (·.setIfInBounds j u)) } :=
    I.lstUpd hp ho (mapSeq_set its n j u) (r.set rv j) (by rw [List.length_set]; exact hz) s.toks
  by_cases h0 : 0 ≤ k
  · have hk : k.toNat = j := by
      rw [seqIndex_of h0 h4] at h1
      exact Option.some.inj h1
    exact PySem.W.ki_setAt ho h0 (by omega) (by rw [List.size_toArray, ← hl]; exact h4) (by rw [hk]; exact ⟨_, I', q⟩)
  · have hk : (k + (its.toArray.size : Int)).toNat = j := by
      rw [seqIndex_neg (by omega) h3] at h1
      rw [List.size_toArray, ← hl]
      exact Option.some.inj h1
    exact PySem.W.ki_setBack ho (by omega) (by rw [List.size_toArray, ← hl]; exact h3) (by omega) (by rw [hk]; exact ⟨_, I', q⟩)
theorem slice_bounds (lo hi : Option Int) (n : Nat) : (sliceBounds lo hi none n).1 = ((HT.sIx n 0 lo : Nat) : Int) ∧ (sliceBounds lo hi none n).2.1 = ((HT.sIx n n hi : Nat) : Int) ∧ (sliceBounds lo hi none n).2.2 = 1 := by
  refine ⟨?_, ?_, rfl⟩
  · cases lo with
    | none => simp [sliceBounds, HT.sIx]
    | some i =>
      simp only [sliceBounds, HT.sIx, Option.getD_none, show (1 : Int) > 0 by decide, if_true]
      by_cases h : i < 0
      · simp only [h, if_true] <;> omega
      · simp only [h, if_false] <;> omega
  · cases hi with
    | none => simp [sliceBounds, HT.sIx]
    | some i =>
      simp only [sliceBounds, HT.sIx, Option.getD_none, show (1 : Int) > 0 by decide, if_true]
      by_cases h : i < 0
      · simp only [h, if_true] <;> omega
      · simp only [h, if_false] <;> omega
theorem slicePick_cut (its : List Value) (lo hi : Option Int) : slicePick its.toArray lo hi none = ((its.drop (HT.sIx its.length 0 lo)).take (HT.sIx its.length its.length hi - HT.sIx its.length 0 lo)).toArray := by
  obtain ⟨h1, h2, h3⟩ := slice_bounds lo hi its.toArray.size
  unfold slicePick
  rw [h1, h2, h3]
  simp only [sliceRange_one, pick_run, List.size_toArray] <;> rfl
noncomputable def rSlL (K : PySem.W.Frag) : V → Option Int → Option Int → Hp → VK → Prop := fun x lo hi H Q => ∃ a xs, x = .ref a ∧ SqL K H a xs ∧ ∀ p, H p = none → Q (.ref p) (upd H p (.lst (cutV xs lo hi)))
theorem sl_list : SlR X (rSlL X.K) := by
  intro pins s σ H x v vl vu lo hi sl Q I rx hs pl pu h
  obtain ⟨a, xs, rfl, hx, q⟩ := h
  cases rx
  obtain ⟨its, r, ht, hz⟩ := I.list hx
  have hlen := r.length
  refine ⟨"list", _, slot_list_getitem.lookup, ht.isList.typeIs, ?_⟩
  refine wpAny_getItem_list_slice ht.isList hs pl pu .none (by simp) ?_ (by rw [List.size_toArray] <;> omega)
  rw [slicePick_cut, ← hlen]
  refine ⟨.ref s.heap.objs.size, _, I.laid (t' := s.toks) (o := .lst (cutV xs lo hi)) (fun b ob q => Heap.get?_push_of_some _ q) (Nat.le_refl _) ?_, rfl, q _ (I.hok.fresh (Nat.le_refl _))⟩
  exact ⟨Nat.le_trans (cutV_length xs lo hi) hz, _, 0, (r.drop (HT.sIx xs.length 0 lo)).take (HT.sIx xs.length xs.length hi - HT.sIx xs.length 0 lo), Heap.get?_push_size _ rfl⟩
noncomputable def flatV : V → Bool
  | .non => true
  | .bl _ => true
  | .int _ => true
  | .str _ => true
  | _ => false
noncomputable def eqV : V → V → Bool
  | .non, .non => true
  | .bl a, .bl b => a == b
  | .bl a, .int b => (if a then 1 else 0) == b
  | .int a, .bl b => a == (if b then 1 else 0)
  | .int a, .int b => a == b
  | .str a, .str b => a == b
  | _, _ => false
theorem eqAt_V {A : Around} {s : Shared} {y x : V} {u v : Value} (ry : RelV y u) (rx : RelV x v) (fy : flatV y = true) (fx : flatV x = true) : SeqAt.EqAt A s u v (eqV y x) := by
  cases y with
  | non =>
    cases ry
    cases x with
    | non => cases rx; exact SeqAt.EqAt.same _
    | bl b => cases rx; exact SeqAt.EqAt.none_bool b
    | int b => obtain ⟨t, rfl⟩ := rx; exact SeqAt.EqAt.none_int b t
    | str b => obtain ⟨t, rfl⟩ := rx; exact SeqAt.EqAt.none_str b t
    | _ => exact absurd (show false = true from fx) Bool.false_ne_true
  | bl a =>
    cases ry
    cases x with
    | non => cases rx; exact SeqAt.EqAt.bool_none a
    | bl b => cases rx; exact SeqAt.EqAt.bool_bool a b
    | int b => obtain ⟨t, rfl⟩ := rx; exact SeqAt.EqAt.bool_int a b t
    | str b => obtain ⟨t, rfl⟩ := rx; exact SeqAt.EqAt.bool_str a b t
    | _ => exact absurd (show false = true from fx) Bool.false_ne_true
  | int a =>
    obtain ⟨t', rfl⟩ := ry
    cases x with
    | non => cases rx; exact SeqAt.EqAt.int_none a t'
    | bl b => cases rx; exact SeqAt.EqAt.int_bool a t' b
    | int b => obtain ⟨t, rfl⟩ := rx; exact SeqAt.EqAt.int_int a t' b t
    | str b => obtain ⟨t, rfl⟩ := rx; exact SeqAt.EqAt.int_str a t' b t
    | _ => exact absurd (show false = true from fx) Bool.false_ne_true
  | str a =>
    obtain ⟨t', rfl⟩ := ry
    cases x with
    | non => cases rx; exact SeqAt.EqAt.str_none a t'
    | bl b => cases rx; exact SeqAt.EqAt.str_bool a t' b
    | int b => obtain ⟨t, rfl⟩ := rx; exact SeqAt.EqAt.str_int a t' b t
    | str b => obtain ⟨t, rfl⟩ := rx; exact SeqAt.EqAt.str_str a t' b t
    | _ => exact absurd (show false = true from fx) Bool.false_ne_true
  | _ => exact absurd (show false = true from fy) Bool.false_ne_true
noncomputable def eqU (x : V) (u : Value) : Bool := match u with
  | .none => eqV .non x
  | .bool b => eqV (.bl b) x
  | .int i _ => eqV (.int i) x
  | .str z _ => eqV (.str z) x
  | _ => false
theorem eqU_of {x y : V} {u : Value} (r : RelV y u) (f : flatV y = true) : eqU x u = eqV y x := by
  cases y with
  | non => cases r; rfl
  | bl b => cases r; rfl
  | int i => obtain ⟨t, rfl⟩ := r; rfl
  | str z => obtain ⟨t, rfl⟩ := r; rfl
  | _ => exact absurd (show false = true from f) Bool.false_ne_true
theorem any_eqU {x : V} : ∀ {xs : List V} {us : List Value}, Vals xs us → xs.all flatV = true → us.any (eqU x) = xs.any fun y => eqV y x
  | _, _, .nil, _ => rfl
  | y :: xs, u :: us, .cons r t, f => by
    rw [List.all_cons, Bool.and_eq_true] at f
    rw [List.any_cons, List.any_cons, eqU_of r f.1, any_eqU t f.2]
theorem mem_eqAt {A : Around} {s : Shared} {x : V} {v : Value} (rx : RelV x v) (fx : flatV x = true) : ∀ {xs : List V} {us : List Value}, Vals xs us → xs.all flatV = true → ∀ u ∈ us, SeqAt.EqAt A s u v (eqU x u)
  | _, _, .nil, _ => fun u hu => by cases hu
  | y :: xs, u :: us, .cons r t, f => fun u' hu => by
    rw [List.all_cons, Bool.and_eq_true] at f
    rcases List.mem_cons.mp hu with rfl | hu
    · rw [eqU_of r f.1]; exact eqAt_V r rx f.1 fx
    · exact mem_eqAt rx fx t f.2 u' hu
noncomputable def inV (x : V) (xs : List V) : Bool := xs.any fun y => eqV y x
noncomputable def rIn (K : PySem.W.Frag) (neg : Bool) : R2 := fun x y H Q => ∃ p xs, y = .ref p ∧ (SqL K H p xs ∨ SqT K H p xs) ∧ flatV x = true ∧ xs.all flatV = true ∧ Q (.bl (if neg then !inV x xs else inV x xs)) H
theorem op_in_seq : OpR X (compareOp .In) (rIn X.K false) := by
  intro pins s σ H x y v u Q I rx ry h
  obtain ⟨p, xs, rfl, hq, fx, fs, q⟩ := h
  cases ry
  rcases hq with hq | hq
  · obtain ⟨its, r, pl, hz⟩ := I.list hq
    refine SeqAt.in_listAt (eqU x) pl.isList (fun w hw => mem_eqAt rx fx r fs w (by simpa using hw)) ⟨.bl _, H, I, rfl, ?_⟩
    rw [show its.toArray.any (eqU x) = its.any (eqU x) by simp, any_eqU r fs]
    exact q
  · obtain ⟨its, r, pl, hz⟩ := I.tuple hq
    refine SeqAt.in_tupleAt (eqU x) pl (fun w hw => mem_eqAt rx fx r fs w (by simpa using hw)) ⟨.bl _, H, I, rfl, ?_⟩
    rw [show its.toArray.any (eqU x) = its.any (eqU x) by simp, any_eqU r fs]
    exact q
theorem op_notIn_seq : OpR X (compareOp .NotIn) (rIn X.K true) := by
  intro pins s σ H x y v u Q I rx ry h
  obtain ⟨p, xs, rfl, hq, fx, fs, q⟩ := h
  cases ry
  rcases hq with hq | hq
  · obtain ⟨its, r, pl, hz⟩ := I.list hq
    refine SeqAt.notIn_listAt (eqU x) pl.isList (fun w hw => mem_eqAt rx fx r fs w (by simpa using hw)) ⟨.bl _, H, I, rfl, ?_⟩
    rw [show its.toArray.any (eqU x) = its.any (eqU x) by simp, any_eqU r fs]
    exact q
  · obtain ⟨its, r, pl, hz⟩ := I.tuple hq
    refine SeqAt.notIn_tupleAt (eqU x) pl (fun w hw => mem_eqAt rx fx r fs w (by simpa using hw)) ⟨.bl _, H, I, rfl, ?_⟩
    rw [show its.toArray.any (eqU x) = its.any (eqU x) by simp, any_eqU r fs]
    exact q
theorem call_list_of : CallR X (.type "list") (fun xs H Q => ∃ p ys, xs = [.ref p] ∧ (SqL X.K H p ys ∨ SqT X.K H p ys) ∧ ∀ l, H l = none → Q (.ref l) (upd H l (.lst ys))) := by
  intro pins s σ H xs us Q I r h
  obtain ⟨p, ys, rfl, hq, q⟩ := h
  obtain ⟨u, rfl, rx⟩ := vals1 r
  cases rx
  have fin : ∀ (its : List Value), Vals ys its → ys.length ≤ sizeLine → ∀ (h' : Heap) (c' : Nat), (∀ b o', s.heap.get? b = some o' → h'.get? b = some o') →
      h'.get? s.heap.objs.size = some { cls := .type "list", dict := none, data := .seq its.toArray c', slots := #[] } → EP X pins σ Q (.ref s.heap.objs.size) { s with heap := h' } := fun its r' hz h' c' kp e =>
    ⟨.ref s.heap.objs.size, _, I.laid (t' := s.toks) kp (Nat.le_refl _) (show ObjOk X.prog X.w _ h' _ (.lst ys) from ⟨hz, its, c', r', e⟩), rfl, q _ (I.hok.fresh (Nat.le_refl _))⟩
  rcases hq with hq | hq
  · obtain ⟨its, r', pl, hz⟩ := I.list hq
    have hlen := r'.length
    obtain ⟨o, ho, hc, n, hd⟩ := pl.isList
    exact call_list_seq p (.inl rfl) ho hc hd (fun h' c' kp e => fin its r' hz h' c' kp e) (by simp only [List.size_toArray] <;> omega)
  · obtain ⟨its, r', pl, hz⟩ := I.tuple hq
    have hlen := r'.length
    obtain ⟨o, ho, hc, n, hd⟩ := pl
    exact call_list_seq p (.inr rfl) ho hc hd (fun h' c' kp e => fin its r' hz h' c' kp e) (by simp only [List.size_toArray] <;> omega)
theorem call_tuple_of : CallR X (.type "tuple") (fun xs H Q => ∃ p ys, xs = [.ref p] ∧ ((SqL X.K H p ys ∧ ∀ l, H l = none → Q (.ref l) (upd H l (.tup ys))) ∨ (SqT X.K H p ys ∧ Q (.ref p) H))) := by
  intro pins s σ H xs us Q I r h
  obtain ⟨p, ys, rfl, h⟩ := h
  obtain ⟨u, rfl, rx⟩ := vals1 r
  cases rx
  rcases h with ⟨hq, q⟩ | ⟨hq, q⟩
  · obtain ⟨its, r', pl, hz⟩ := I.list hq
    have hlen := r'.length
    refine call_tuple_list pl.isList (fun h' kp => ?_) (by simp only [List.size_toArray] <;> omega)
    have I1 : Inv X pins σ H { s with heap := h' } := I.kept (t' := s.toks) kp
    have I2 : Inv X pins σ (upd H h'.objs.size (.tup ys)) { s with heap := h'.push { cls := .type "tuple", data := .seq its.toArray } } :=
      I1.laid (t' := s.toks) (fun b o e => Heap.get?_push_of_some _ e) (Nat.le_refl _) (show ObjOk X.prog X.w _ _ _ (.tup ys) from ⟨hz, its, r', TupN.new _ _⟩)
    exact ⟨.ref h'.objs.size, _, I2, rfl, q _ (I1.hok.fresh (Nat.le_refl _))⟩
  · obtain ⟨its, r', pl, hz⟩ := I.tuple hq
    exact call_tuple_same pl ⟨.ref p, H, I, rfl, q⟩
noncomputable def tyV (K : PySem.W.Frag) (T : String) (x : V) (H : Hp) : Prop := match x with
  | .str _ => T = "str"
  | .int _ => T = "int"
  | .ref p => (T = "list" ∧ ∃ xs, SqL K H p xs) ∨ (T = "tuple" ∧ ∃ o, K.lookup p = some o ∧ o.cls = .type "tuple" ∧ o.dict = none) ∨
      (T = "dict" ∧ ((∃ kvs, H p = some (.dK kvs)) ∨ ∃ kvs, H p = some (.dT kvs))) ∨ (T = "set" ∧ ∃ S n, H p = some (.set S n))
  | _ => False
theorem tyV_is {pins : List (Addr × Obj)} {σ : St} {H : Hp} {s : Shared} {T : String} {x : V} {v : Value} (I : Inv X pins σ H s) (r : RelV x v) (ty : tyV X.K T x H) :
    s.TypeIs v T ∧ ∀ a, v = .ref a → ∃ ob, s.heap.get? a = some ob ∧ ob.dict = none := by
  cases x with
  | str z =>
    obtain ⟨t, rfl⟩ := r
    cases (show T = "str" from ty)
    exact ⟨typeIs_str s z t, fun _ e => nomatch e⟩
  | int i =>
    obtain ⟨t, rfl⟩ := r
    cases (show T = "int" from ty)
    exact ⟨typeIs_int s i t, fun _ e => nomatch e⟩
  | ref p =>
    cases r
    rcases ty with ⟨rfl, xs, hq⟩ | ⟨rfl, o, hk, hc, hd⟩ | ⟨rfl, hk⟩ | ⟨rfl, S, n, hk⟩
    · obtain ⟨its, _, pl, _⟩ := I.list hq
      refine ⟨pl.isList.typeIs, fun a e => ?_⟩
      cases e
      obtain ⟨o, n, e, c, hd, _⟩ := pl
      exact ⟨o, e, hd⟩
    · refine ⟨⟨o, I.kIn p o hk, hc⟩, fun a e => ?_⟩
      cases e
      exact ⟨o, I.kIn _ o hk, hd⟩
    · have z : ∃ o, s.heap.get? p = some o ∧ o.ExactDict := by
        rcases hk with ⟨kvs, hk⟩ | ⟨kvs, hk⟩
        · obtain ⟨_, _, _, _, o, _, _, e, ex, _⟩ := I.hok p _ hk
          exact ⟨o, e, ex⟩
        · obtain ⟨_, _, _, _, o, _, _, e, ex, _⟩ := I.hok p _ hk
          exact ⟨o, e, ex⟩
      obtain ⟨o, e, ex⟩ := z
      refine ⟨⟨o, e, ex.1⟩, fun a e2 => ?_⟩
      cases e2
      exact ⟨o, e, ex.2.1⟩
    · obtain ⟨o, _, _, _, e, ex, _⟩ := I.hok p _ hk
      refine ⟨⟨o, e, ex.1⟩, fun a e2 => ?_⟩
      cases e2
      exact ⟨o, e, ex.2.1⟩
  | _ => exact False.elim ty
noncomputable def tBM (K : PySem.W.Frag) (T : String) (r : V → List V → Hp → VK → Prop) (to : TE) (t : TA) : TE := fun σ H Q => to σ H fun x H1 => tyV K T x H1 ∧ t σ H1 fun xs H2 => r x xs H2 Q
variable {o e : Expr} {es : List Expr} {to : TE} {t : TA} {name : Str} {apos cpos : Pos} {T id : String} {r : V → List V → Hp → VK → Prop}
theorem pe_bm (pa : PlainAttrs T) (slot : Slot T name id) (hty : typeOf (.builtin id) = pure (.type "method_descriptor")) (hm : MtR X id r) (ho : PE X o to) (ha : PA X (e :: es) t)
    (hbase : attributeBase o name X.env (eval o X.env) = eval o X.env := by rfl)
    (hfew : ((backTo cpos (starEach (e :: es) X.env)).all (fun x => !x.1) && (backToKw cpos (keywordEach [] X.env)).all (fun x => x.1.isSome)
      && decide ((e :: es).length + ([] : List Keyword).length + (if ([] : List Keyword).isEmpty then 0 else 1) < 30)) = true := by rfl)
    (hline : (apos.endLine == cpos.line) = true := by rfl) (hs : starEach (e :: es) X.env = (false, eval e X.env) :: starEach es X.env := by rfl) (hplain : (backTo cpos (starEach es X.env)).any (·.1) = false := by rfl) :
    PE X (.Call (.Attribute o name apos) (e :: es) [] cpos) (tBM X.K T r to t) := by
  intro pins s σ H Q I h
  refine wpAny_Call_method_late hbase hfew hline rfl (thn (ho pins s σ H _ I h) fun v s1 ⟨x, H1, I1, r1, ty, q1⟩ => ?_)
  obtain ⟨h1, h2⟩ := tyV_is I1 r1 ty
  refine ⟨T, id, pa, slot, hty, h1, h2, ?_⟩
  have hA := ha cpos pins s1 σ H1 _ I1 q1
  rw [hs] at hA ⊢
  refine Calls.callWith_builtin (by show (false || (backTo cpos (starEach es X.env)).any (·.1)) = false; rw [hplain] <;> rfl) (Calls.evalArgs_plain ?_)
  exact thn hA fun us s2 ⟨vs, H2, I2, r2, q2⟩ => hm pins s2 σ H2 x vs v us Q I2 r1 r2 q2
end
end L2
namespace L2
open PySem PySem.Spec PyProof.Rows
noncomputable def MtM (X : Cx) (id : String) (r : V → List V → Hp → VK → Prop) : Prop :=
  ∀ (pins : List (Addr × Obj)) (s : Shared) (σ : St) (H : Hp) (x : V) (xs : List V) (v : Value) (us : List Value) (Q : VK), Inv X pins σ H s → RelV x v → Vals xs us → r x xs H Q →
    wpAny (model X.prog X.w) X.A (call (.builtin id) (v :: us)) (EP X pins σ Q) X.xe s
theorem Vals.one : ∀ {x : V} {us : List Value}, Vals [x] us → ∃ u, us = [u] ∧ RelV x u
  | _, _, .cons r .nil => ⟨_, rfl, r⟩
section
variable {X : Cx} {pins : List (Addr × Obj)} {σ : St} {H : Hp} {s : Shared} {l b : Addr} {xs ys zs : List V}
theorem Inv.lset {its its' : List Value} {n : Nat} {f : Array Value → Array Value} {t' : Nat} (I : Inv X pins σ H s) (hH : H l = some (.lst xs))
    (e : s.heap.get? l = some { cls := .type "list", data := .seq its.toArray n }) (hf : f its.toArray = its'.toArray) (hv : Vals ys its') (hz : ys.length ≤ sizeLine) :
    Inv X pins σ (upd H l (.lst ys)) { s with heap := s.heap.update l (Obj.mapSeq f), toks := t' } := by
  have q := PySem.IsL.update e f
  rw [hf] at q
  refine I.write (x := l) (e := l) (by rw [hH]; exact trivial) (.inl rfl) (fun b' u hb hu => (Heap.get?_update_other s.heap (Obj.mapSeq f) (Ne.symm hb)).trans hu) ⟨_, q⟩ ?_
  exact ⟨hz, its', _, hv, q⟩
theorem Inv.lnew {its : List Value} {t' : Nat} (I : Inv X pins σ H s) (hv : Vals ys its) (hz : ys.length ≤ sizeLine) :
    Inv X pins σ (upd H s.heap.objs.size (.lst ys)) { s with heap := s.heap.push { cls := .type "list", data := .seq its.toArray }, toks := t' } :=
  I.laid (fun _ _ q => Heap.get?_push_of_some _ q) (Nat.le_refl _) ⟨hz, its, 0, hv, Heap.get?_push_size _ rfl⟩
theorem Inv.fresh (I : Inv X pins σ H s) : H s.heap.objs.size = none := I.hok.fresh (Nat.le_refl _)
theorem Inv.lstM (I : Inv X pins σ H s) (hH : H l = some (.lst xs)) : xs.length ≤ sizeLine ∧ ∃ (its : List Value) (n : Nat), Vals xs its ∧ xs.length = its.length ∧ s.heap.get? l = some { cls := .type "list", data := .seq its.toArray n } := by
  obtain ⟨z, its, n, r, e⟩ := I.hok l _ hH
  exact ⟨z, its, n, r, r.length, e⟩
end
section
variable {X : Cx}
noncomputable def rAppend : V → List V → Hp → VK → Prop := fun x vs H Q => ∃ l xs y, x = .ref l ∧ vs = [y] ∧ H l = some (.lst xs) ∧ xs.length < sizeLine ∧ Q .non (upd H l (.lst (xs ++ [y])))
theorem mt_append : MtM X "list.append" rAppend := by
  intro pins s σ H x vs v us Q I rx rv h
  obtain ⟨l, xs, y, rfl, rfl, hH, hz, q⟩ := h
  cases rx
  obtain ⟨u, rfl, ru⟩ := rv.one
  obtain ⟨z, its, n, r, hl, e⟩ := I.lstM hH
  refine call_meets F.slot_list_append ⟨_, e, rfl⟩ F.entry_list_append (F.args_list_append_2 _ _) (PySem.list_append l its.toArray n u (by rw [List.size_toArray]; omega)) ⟨e, ?_⟩
  refine ⟨.non, _, I.lset (its' := its ++ [u]) hH e (by simp) (r.append (.cons ru .nil)) ?_, rfl, q⟩
  rw [List.length_append, List.length_singleton]
  omega
noncomputable def rCat : R2 := fun x y H Q => ∃ l b xs zs, x = .ref l ∧ y = .ref b ∧ H l = some (.lst xs) ∧ H b = some (.lst zs) ∧ xs.length + zs.length ≤ sizeLine ∧ ∀ p, H p = none → Q (.ref p) (upd H p (.lst (xs ++ zs)))
theorem op_cat : OpR X (binaryOp .Add) rCat := by
  intro pins s σ H x y v u Q I rx ry h
  obtain ⟨l, b, xs, zs, rfl, rfl, hH, hB, hz, q⟩ := h
  cases rx
  cases ry
  obtain ⟨z, its, n, r, hl, e⟩ := I.lstM hH
  obtain ⟨z2, its2, n2, r2, hl2, e2⟩ := I.lstM hB
  refine PySem.P.add_list e e2 ?_ (by rw [List.size_toArray, List.size_toArray]; omega)
  have ea : its.toArray ++ its2.toArray = (its ++ its2).toArray := by simp
  rw [ea]
  exact ⟨.ref _, _, I.lnew (t' := s.toks) (r.append r2) (by rw [List.length_append]; omega), rfl, q _ I.fresh⟩
end
end L2
namespace L2
open PySem PySem.Spec PyProof.Rows
section
variable {κ : Type} [DecidableEq κ]
noncomputable def valV (kvs : List (κ × V)) (k : κ) : Option V := (kvs.find? fun kv => decide (kv.1 = k)).map (·.2)
noncomputable def putK (kvs : List (κ × V)) (k : κ) (v : V) : List (κ × V) :=
  if (kvs.any fun kv => decide (kv.1 = k)) = true then kvs.map (fun kv => if kv.1 = k then (kv.1, v) else kv) else kvs ++ [(k, v)]
theorem valV_nil {k : κ} : valV ([] : List (κ × V)) k = none := rfl
theorem valV_pos {p : κ × V} {r : List (κ × V)} {k : κ} (e : p.1 = k) : valV (p :: r) k = some p.2 := by simp [valV, List.find?_cons, e]
theorem valV_neg {p : κ × V} {r : List (κ × V)} {k : κ} (e : ¬ p.1 = k) : valV (p :: r) k = valV r k := by simp [valV, List.find?_cons, e]
theorem valV_any (k : κ) : ∀ kvs : List (κ × V), (kvs.any fun kv => decide (kv.1 = k)) = (valV kvs k).isSome
  | [] => rfl
  | p :: r => by
    rw [List.any_cons]
    by_cases e : p.1 = k
    · simp only [valV_pos e, decide_eq_true e, Bool.true_or, Option.isSome_some]
    · rw [valV_neg e, decide_eq_false e, Bool.false_or]; exact valV_any k r
theorem valV_map (k j : κ) (y : V) : ∀ kvs : List (κ × V), valV (kvs.map fun kv => if kv.1 = k then (kv.1, y) else kv) j = (valV kvs j).map fun x => if j = k then y else x
  | [] => rfl
  | p :: r => by
    have ih := valV_map k j y r
    rw [List.map_cons]
    by_cases h : p.1 = k
    · rw [if_pos h]
      by_cases e : p.1 = j
      · rw [valV_pos (p := (p.1, y)) e, valV_pos e, Option.map_some, if_pos (e.symm.trans h)]
      · rw [valV_neg (p := (p.1, y)) e, valV_neg e, ih]
    · rw [if_neg h]
      by_cases e : p.1 = j
      · rw [valV_pos (p := p) e, valV_pos e, Option.map_some, if_neg (fun z => h (e.trans z))]
      · rw [valV_neg (p := p) e, valV_neg e, ih]
theorem valV_snoc (k j : κ) (y : V) : ∀ kvs : List (κ × V), valV kvs k = none → valV (kvs ++ [(k, y)]) j = if j = k then some y else valV kvs j
  | [], _ => by
    by_cases e : k = j
    · rw [if_pos e.symm]; exact valV_pos (p := (k, y)) e
    · rw [if_neg (fun z => e z.symm)]; exact valV_neg (p := (k, y)) e
  | p :: r, hn => by
    rw [List.cons_append]
    have hk : ¬ p.1 = k := fun z => by rw [valV_pos z] at hn; cases hn
    rw [valV_neg hk] at hn
    have ih := valV_snoc k j y r hn
    by_cases e : p.1 = j
    · rw [valV_pos e, valV_pos e, if_neg (fun z => hk (e.trans z))]
    · rw [valV_neg e, valV_neg e, ih]
theorem valV_put (kvs : List (κ × V)) (k j : κ) (y : V) : valV (putK kvs k y) j = if j = k then some y else valV kvs j := by
  unfold putK
  by_cases a : (kvs.any fun kv => decide (kv.1 = k)) = true
  · rw [if_pos a, valV_map]
    rw [valV_any] at a
    by_cases e : j = k
    · obtain ⟨x, hx⟩ := Option.isSome_iff_exists.mp a
      rw [if_pos e, e, hx, Option.map_some, if_pos rfl]
    · rw [if_neg e]
      cases valV kvs j with
      | none => rfl
      | some x => rw [Option.map_some, if_neg e]
  · rw [if_neg a]
    refine valV_snoc k j y kvs ?_
    rw [valV_any] at a
    cases q : valV kvs k with
    | none => rfl
    | some x => rw [q] at a; exact (a rfl).elim
theorem length_putK (kvs : List (κ × V)) (k : κ) (v : V) : (putK kvs k v).length ≤ kvs.length + 1 := by
  unfold putK
  split
  · rw [List.length_map]; omega
  · rw [List.length_append, List.length_cons, List.length_nil]; omega
theorem putK_new {kvs : List (κ × V)} {k : κ} (v : V) (h : valV kvs k = none) : putK kvs k v = kvs ++ [(k, v)] := by
  unfold putK
  rw [valV_any, h]
  exact if_neg (by decide)
theorem RelO.isSome_eq {o : Option V} {u : Option Value} (r : RelO o u) : o.isSome = u.isSome := by
  cases o with
  | none => cases u with
    | none => rfl
    | some _ => exact (show False from r).elim
  | some _ => cases u with
    | none => exact (show False from r).elim
    | some _ => rfl
theorem KV.val {kvs : List (κ × V)} {vs : List (κ × Value)} (r : KV kvs vs) (k : κ) : RelO (valV kvs k) (valueAt vs k) := by
  unfold KV at r
  induction r with
  | nil => exact True.intro
  | @cons p q ps qs h t ih =>
    obtain ⟨h1, h2⟩ := h
    by_cases e : p.1 = k
    · have e' : q.1 = k := h1.symm.trans e
      have b : valueAt (q :: qs) k = some q.2 := by simp [valueAt, List.find?_cons, e']
      rw [valV_pos e, b]; exact h2
    · have e' : ¬ q.1 = k := fun z => e (h1.trans z)
      have b : valueAt (q :: qs) k = valueAt qs k := by simp [valueAt, List.find?_cons, e']
      rw [valV_neg e, b]; exact ih
theorem KV.any {kvs : List (κ × V)} {vs : List (κ × Value)} (r : KV kvs vs) (k : κ) : (kvs.any fun kv => decide (kv.1 = k)) = vs.any fun kv => decide (kv.1 = k) := by
  unfold KV at r
  induction r with
  | nil => rfl
  | cons h t ih => rw [List.any_cons, List.any_cons, ih, h.1]
theorem KV.repl {kvs : List (κ × V)} {vs : List (κ × Value)} (r : KV kvs vs) (k : κ) {y : V} {u : Value} (ry : RelV y u) :
    KV (kvs.map fun kv => if kv.1 = k then (kv.1, y) else kv) (vs.map fun kv => if kv.1 = k then (kv.1, u) else kv) := by
  unfold KV at r ⊢
  induction r with
  | nil => exact .nil
  | @cons p q ps qs h t ih =>
    rw [List.map_cons, List.map_cons]
    refine .cons ?_ ih
    obtain ⟨h1, h2⟩ := h
    by_cases e : p.1 = k
    · rw [if_pos e, if_pos (h1.symm.trans e)]; exact ⟨h1, ry⟩
    · rw [if_neg e, if_neg (fun z => e (h1.trans z))]; exact ⟨h1, h2⟩
theorem KV.put {kvs : List (κ × V)} {vs : List (κ × Value)} (r : KV kvs vs) (k : κ) {y : V} {u : Value} (ry : RelV y u) : KV (putK kvs k y) (stored vs k u) := by
  unfold putK stored
  rw [r.any k]
  by_cases e : (vs.any fun kv => decide (kv.1 = k)) = true
  · rw [if_pos e, if_pos e]; exact r.repl k ry
  · rw [if_neg e, if_neg e]; exact Paired.snoc r ⟨rfl, ry⟩
theorem KV.length {kvs : List (κ × V)} {vs : List (κ × Value)} (r : KV kvs vs) : kvs.length = vs.length := Paired.length r
end
theorem kV_is {P : Program} {w : World} {k : Key} {u : Value} (r : RelV (kV k) u) : (mixKind P w).is k u = true := by
  cases k with
  | inl i => obtain ⟨t, e⟩ := (show ∃ t, u = Value.int i t from r); subst e; exact mixKind_int P w i t
  | inr x => obtain ⟨t, e⟩ := (show ∃ t, u = Value.str x t from r); subst e; exact mixKind_str P w x t
theorem items_are {P : Program} {w : World} : ∀ {ks : List Key} {us : List Value}, Vals (ks.map kV) us → ItemsAre (mixKind P w) ks us
  | [], _, r => by rw [List.map_nil] at r; cases r; exact .nil
  | k :: ks, _, r => by
    rw [List.map_cons] at r
    cases r with
    | cons h t => exact .cons (kV_is h) (items_are t)
noncomputable abbrev KT (H : Hp) : List (List Key × V) → List (List Key × Addr × Value) → Prop := Paired fun p q => p.1 = q.1 ∧ H q.2.1 = some (.tup (p.1.map kV)) ∧ RelV p.2 q.2.2
theorem KT.val {H : Hp} {kvs : List (List Key × V)} {xs : List (List Key × Addr × Value)} (r : KT H kvs xs) (k : List Key) : RelO (valV kvs k) ((atKey xs k).map (·.2)) := by
  induction r with
  | nil => exact True.intro
  | @cons p q ps qs h t ih =>
    obtain ⟨h1, _, h2⟩ := h
    by_cases e : p.1 = k
    · have e' : q.1 = k := h1.symm.trans e
      have b : atKey (q :: qs) k = some q.2 := by simp [atKey, List.find?_cons, e']
      rw [valV_pos e, b]; exact h2
    · have e' : ¬ q.1 = k := fun z => e (h1.trans z)
      have b : atKey (q :: qs) k = atKey qs k := by simp [atKey, List.find?_cons, e']
      rw [valV_neg e, b]; exact ih
theorem KT.repl {H : Hp} {kvs : List (List Key × V)} {xs : List (List Key × Addr × Value)} (r : KT H kvs xs) (k : List Key) {y : V} {u : Value} (ry : RelV y u) :
    KT H (kvs.map fun kv => if kv.1 = k then (kv.1, y) else kv) (xs.map (putAt k u)) := by
  induction r with
  | nil => exact .nil
  | @cons p q ps qs h t ih =>
    rw [List.map_cons, List.map_cons]
    refine .cons ?_ ih
    obtain ⟨h1, h2, h3⟩ := h
    unfold putAt
    by_cases e : p.1 = k
    · rw [if_pos e, if_pos (h1.symm.trans e)]; exact ⟨h1, h2, ry⟩
    · rw [if_neg e, if_neg (fun z => e (h1.trans z))]; exact ⟨h1, h2, h3⟩
theorem KT.put {H : Hp} {kvs : List (List Key × V)} {xs : List (List Key × Addr × Value)} (r : KT H kvs xs) (k : List Key) {b : Addr} {y : V} {u : Value} (hb : H b = some (.tup (k.map kV))) (ry : RelV y u) :
    KT H (putK kvs k y) (storedH xs k b u) := by
  have e : (kvs.any fun kv => decide (kv.1 = k)) = (atKey xs k).isSome := by
    rw [valV_any, (r.val k).isSome_eq, Option.isSome_map]
  unfold putK storedH
  rw [e]
  by_cases q : (atKey xs k).isSome = true
  · rw [if_pos q, if_pos q]; exact r.repl k ry
  · rw [if_neg q, if_neg q]; exact Paired.snoc r ⟨rfl, hb, ry⟩
theorem KT.keeps {H H' : Hp} {kvs : List (List Key × V)} {xs : List (List Key × Addr × Value)} (r : KT H kvs xs) (ht : ∀ b ys, H b = some (.tup ys) → H' b = some (.tup ys)) : KT H' kvs xs :=
  Paired.mapP r fun _ _ z => ⟨z.1, ht _ _ z.2.1, z.2.2⟩
section
variable {P : Program} {w : World} {H : Hp} {h : Heap} {a : Addr}
theorem rd_of {u : HO} (ok : HOk P w H h) (e : Rd H a u) : ObjOk P w H h a u := e.ok ok
theorem dk_rd {kvs : List (Key × V)} (ok : HOk P w H h) (e : Rd H a (.dK kvs)) : kvs.length ≤ sizeLine ∧ (a == sysModules) = false ∧ ∃ vs, KV kvs vs ∧ h.DictOf (mixKind P w) a vs :=
  show ObjOk P w H h a (.dK kvs) from rd_of ok e
theorem dk_of {kvs : List (Key × V)} (ok : HOk P w H h) (e : H a = some (.dK kvs)) : kvs.length ≤ sizeLine ∧ (a == sysModules) = false ∧ ∃ vs, KV kvs vs ∧ h.DictOf (mixKind P w) a vs := dk_rd ok (.inl e)
theorem key_of {ks : List Key} (ok : HOk P w H h) (e : H a = some (.tup (ks.map kV))) : (tupleKind (mixKind P w)).is h ks a := by
  obtain ⟨_, its, r, o, h1, h2, n, h3, _⟩ := (show ObjOk P w H h a (.tup (ks.map kV)) from ok a _ e)
  exact ⟨o, its.toArray, n, h1, h2, h3, by simpa using items_are r⟩
theorem dt_rd {kvs : List (List Key × V)} (ok : HOk P w H h) (e : Rd H a (.dT kvs)) : kvs.length ≤ sizeLine ∧ (a == sysModules) = false ∧
    ∃ xs, KT H kvs xs ∧ h.DictOfH (tupleKind (mixKind P w)) a xs := by
  obtain ⟨z, y, xs, r, o, es, ep, h1, h2, h3, h4, h5⟩ := (show ObjOk P w H h a (.dT kvs) from rd_of ok e)
  refine ⟨z, y, xs, r, o, es, ep, h1, h2, h3, h4, fun x hx => ?_, h5⟩
  have all : ∀ {l : List (List Key × V)} {m : List (List Key × Addr × Value)}, KT H l m → ∀ x ∈ m, (tupleKind (mixKind P w)).is h x.1 x.2.1 := by
    intro l m q
    induction q with
    | nil => intro x hx; exact nomatch hx
    | @cons p q ps qs hq t ih =>
      intro x hx
      rcases List.mem_cons.mp hx with e | hx
      · subst e
        exact key_of ok (by rw [← hq.1]; exact hq.2.1)
      · exact ih x hx
  exact all r x hx
theorem dt_of {kvs : List (List Key × V)} (ok : HOk P w H h) (e : H a = some (.dT kvs)) : kvs.length ≤ sizeLine ∧ (a == sysModules) = false ∧
    ∃ xs, KT H kvs xs ∧ h.DictOfH (tupleKind (mixKind P w)) a xs := dt_rd ok (.inl e)
end
noncomputable def DGet (H : Hp) (a : Addr) (y : V) (r : Option V) : Prop :=
  (∃ kvs k, Rd H a (.dK kvs) ∧ y = kV k ∧ r = valV kvs k) ∨ ∃ kvs k b, Rd H a (.dT kvs) ∧ y = .ref b ∧ H b = some (.tup (k.map kV)) ∧ r = valV kvs k
noncomputable def DPut (H : Hp) (a : Addr) (y v : V) (H' : Hp) : Prop :=
  (∃ kvs k, H a = some (.dK kvs) ∧ y = kV k ∧ kvs.length < sizeLine ∧ H' = upd H a (.dK (putK kvs k v))) ∨
  ∃ kvs k b, H a = some (.dT kvs) ∧ y = .ref b ∧ H b = some (.tup (k.map kV)) ∧ kvs.length < sizeLine ∧ H' = upd H a (.dT (putK kvs k v))
theorem DGet.k {H : Hp} {a : Addr} {kvs : List (Key × V)} {k : Key} (e : H a = some (.dK kvs)) : DGet H a (kV k) (valV kvs k) := .inl ⟨kvs, k, .inl e, rfl, rfl⟩
theorem DPut.k {H : Hp} {a : Addr} {kvs : List (Key × V)} {k : Key} {v : V} (e : H a = some (.dK kvs)) (hl : kvs.length < sizeLine) : DPut H a (kV k) v (upd H a (.dK (putK kvs k v))) := .inl ⟨kvs, k, e, rfl, hl, rfl⟩
theorem DPut.t {H : Hp} {a b : Addr} {kvs : List (List Key × V)} {k : List Key} {v : V} (e : H a = some (.dT kvs)) (eb : H b = some (.tup (k.map kV))) (hl : kvs.length < sizeLine) :
    DPut H a (.ref b) v (upd H a (.dT (putK kvs k v))) := .inr ⟨kvs, k, b, e, rfl, eb, hl, rfl⟩
section
variable {X : Cx} {pins : List (Addr × Obj)} {σ : St} {H : Hp} {s : Shared} {a : Addr} {y v : V} {u r : Value} {o : Option V} {A : Around} {E : Value → Shared → Prop}
theorem Inv.big (I : Inv X pins σ H s) : sysModules < s.heap.objs.size := by
  have h : mainGlobals < s.heap.objs.size := (I.mod.glob.keeps I.bk).lt
  exact Nat.lt_trans (by decide) h
theorem d_getItem {Q : Value → Shared → Prop} (hu : A.units + 1 < cLine) (I : Inv X pins σ H s) (g : DGet H a y (some v)) (ry : RelV y u) (h : ∀ w' s', Inv X pins σ H s' → RelV v w' → Q w' s') :
    wpAny (model X.prog X.w) A (getItem (.ref a) u) Q E s := by
  rcases g with ⟨kvs, k, e, ey, l⟩ | ⟨kvs, k, b, e, ey, eb, l⟩
  · subst ey
    obtain ⟨z, hd, vs, rel, dd⟩ := dk_rd I.hok e
    obtain ⟨w', hw, rw'⟩ := RelO.some_of (v := v) (o := valueAt vs k) (by rw [l]; exact rel.val k)
    exact wpAny_getItem_of (kV_is ry) dd.mapOf hw (h w' _ (I.tok _) rw')
  · subst ey
    cases (show u = Value.ref b from ry)
    obtain ⟨z, hd, xs, rel, dd⟩ := dt_rd I.hok e
    obtain ⟨w', hw, rw'⟩ := RelO.some_of (v := v) (o := (atKey xs k).map (·.2)) (by rw [l]; exact rel.val k)
    obtain ⟨p, hp, hp2⟩ := Option.map_eq_some_iff.mp hw
    refine wpAny_getItem_heap (tupleKind_room_in1 hu) (key_of I.hok eb) dd hp ?_
    rw [hp2]
    exact h w' _ (I.tok _) rw'
theorem d_in {Q : Value → Shared → Prop} (hu : A.units + 1 < cLine) (I : Inv X pins σ H s) (g : DGet H a y o) (ry : RelV y u) (h : ∀ s', Inv X pins σ H s' → Q (.bool o.isSome) s') :
    wpAny (model X.prog X.w) A (compareOp .In u (.ref a)) Q E s := by
  rcases g with ⟨kvs, k, e, ey, l⟩ | ⟨kvs, k, b, e, ey, eb, l⟩
  · subst ey
    obtain ⟨z, hd, vs, rel, dd⟩ := dk_rd I.hok e
    refine wpAny_in_of (kV_is ry) hd dd.mapOf ?_
    rw [← (rel.val k).isSome_eq, ← l]
    exact h _ (I.tok _)
  · subst ey
    cases (show u = Value.ref b from ry)
    obtain ⟨z, hd, xs, rel, dd⟩ := dt_rd I.hok e
    refine wpAny_in_heap (tupleKind_room_in1 hu) (key_of I.hok eb) hd dd ?_
    have q := (rel.val k).isSome_eq
    rw [Option.isSome_map] at q
    rw [← q, ← l]
    exact h _ (I.tok _)
theorem d_notIn {Q : Value → Shared → Prop} (hu : A.units + 1 < cLine) (I : Inv X pins σ H s) (g : DGet H a y o) (ry : RelV y u) (h : ∀ s', Inv X pins σ H s' → Q (.bool (!o.isSome)) s') :
    wpAny (model X.prog X.w) A (compareOp .NotIn u (.ref a)) Q E s := by
  rcases g with ⟨kvs, k, e, ey, l⟩ | ⟨kvs, k, b, e, ey, eb, l⟩
  · subst ey
    obtain ⟨z, hd, vs, rel, dd⟩ := dk_rd I.hok e
    refine wpAny_notIn_of (kV_is ry) hd dd.mapOf ?_
    rw [← (rel.val k).isSome_eq, ← l]
    exact h _ (I.tok _)
  · subst ey
    cases (show u = Value.ref b from ry)
    obtain ⟨z, hd, xs, rel, dd⟩ := dt_rd I.hok e
    refine wpAny_notIn_heap (tupleKind_room_in1 hu) (key_of I.hok eb) hd dd ?_
    have q := (rel.val k).isSome_eq
    rw [Option.isSome_map] at q
    rw [← q, ← l]
    exact h _ (I.tok _)
theorem d_write {h' : Heap} {t' : Nat} {ob : HO} (I : Inv X pins σ H s) (mu : Mut (H a)) (hs : Heap.SameBut a s.heap h') (he : ∃ q, h'.get? a = some q) (new : ObjOk X.prog X.w (upd H a ob) h' a ob) :
    Inv X pins σ (upd H a ob) { s with heap := h', toks := t' } :=
  I.write (x := a) (e := a) mu (.inl rfl) (fun b q hb z => (hs.2 b hb).trans z) he new
theorem dk_new {P : Program} {w : World} {H' : Hp} {h' : Heap} {kvs : List (Key × V)} {vs : List (Key × Value)} (z : kvs.length ≤ sizeLine) (hd : (a == sysModules) = false) (rel : KV kvs vs) (dd : h'.DictOf (mixKind P w) a vs) :
    ObjOk P w H' h' a (.dK kvs) := ⟨z, hd, vs, rel, dd⟩
theorem d_setItem {H' : Hp} {Q : Unit → Shared → Prop} (hu : A.units + 1 < cLine) (I : Inv X pins σ H s) (g : DPut H a y v H') (ry : RelV y u) (rv : RelV v r) (h : ∀ s', Inv X pins σ H' s' → Q () s') :
    wpAny (model X.prog X.w) A (setItem (.ref a) u r) Q E s := by
  rcases g with ⟨kvs, k, e, ey, l, eH⟩ | ⟨kvs, k, b, e, ey, eb, l, eH⟩
  · subst ey eH
    obtain ⟨z, hd, vs, rel, dd⟩ := dk_of I.hok e
    have hz : vs.length ≤ sizeLine := by rw [← rel.length]; exact z
    have hl : (putK kvs k v).length ≤ sizeLine := by have := length_putK kvs k v; omega
    refine wpAny_setItem_pairs (hsz := hz) (kV_is ry) dd fun h' dd' hs => h _ ?_
    have he : ∃ q, h'.get? a = some q := let ⟨q, _, _, hq, _⟩ := dd'; ⟨q, hq⟩
    exact d_write I (by rw [e]; exact True.intro) hs he (dk_new hl hd (rel.put k rv) dd')
  · subst ey eH
    cases (show u = Value.ref b from ry)
    obtain ⟨z, hd, xs, rel, dd⟩ := dt_of I.hok e
    have hz : xs.length ≤ sizeLine := by rw [← Paired.length rel]; exact z
    have hl : (putK kvs k v).length ≤ sizeLine := by have := length_putK kvs k v; omega
    refine wpAny_setItem_heap (hsz := hz) (tupleKind_room_in1 hu) (key_of I.hok eb) dd fun h' dd' hs => h _ ?_
    obtain ⟨q, es, ep, hq, h2, h3, h4, _, h5⟩ := dd'
    refine d_write I (by rw [e]; exact True.intro) hs ⟨q, hq⟩ ⟨hl, hd, _, (rel.put k eb rv).keeps fun c ys ec => ?_, q, es, ep, hq, h2, h3, h4, h5⟩
    rw [upd_ne (ne_of ec e (fun z => nomatch z))]
    exact ec
end
section
variable {X : Cx} {pins : List (Addr × Obj)} {σ : St} {H : Hp} {s : Shared} {a : Addr} {kvs : List (Key × V)} {k : Key} {u : Value} {A : Around} {E : Value → Shared → Prop}
theorem d_len {Q : Value → Shared → Prop} (I : Inv X pins σ H s) (e : Rd H a (.dK kvs)) (h : ∀ t s', Inv X pins σ H s' → Q (.int kvs.length t) s') : wpAny (model X.prog X.w) A (call (.builtin "len") [.ref a]) Q E s := by
  obtain ⟨z, hd, vs, rel, dd⟩ := dk_rd I.hok e
  refine call_len_dict hd dd (by rw [← rel.length]; rw [sizeLine_eq] at z; omega) ?_
  rw [← rel.length]
  exact h _ _ (I.tok _)
end
theorem dict_typeIs {X : Cx} {pins : List (Addr × Obj)} {σ : St} {H : Hp} {s : Shared} {a : Addr} {y : V} {o : Option V} (I : Inv X pins σ H s) (g : DGet H a y o) : s.TypeIs (.ref a) "dict" := by
  rcases g with ⟨kvs, k, e, _, _⟩ | ⟨kvs, k, b, e, _, _, _⟩
  · obtain ⟨_, _, vs, _, dd⟩ := dk_rd I.hok e
    exact dd.typeIs
  · obtain ⟨_, _, xs, _, dd⟩ := dt_rd I.hok e
    exact dd.typeIs
theorem dk_empty {P : Program} {w : World} {H : Hp} (h : Heap) (hb : sysModules < h.objs.size) : ObjOk P w H (h.push { cls := .type "dict", data := .dict #[] }) h.objs.size (.dK []) :=
  ⟨Nat.zero_le _, beq_eq_false_iff_ne.mpr (Ne.symm (Nat.ne_of_lt hb)), [], .nil, Heap.DictOf.new h⟩
theorem dt_empty {P : Program} {w : World} {H : Hp} (h : Heap) (hb : sysModules < h.objs.size) : ObjOk P w H (h.push { cls := .type "dict", data := .dict #[] }) h.objs.size (.dT []) :=
  ⟨Nat.zero_le _, beq_eq_false_iff_ne.mpr (Ne.symm (Nat.ne_of_lt hb)), [], .nil, _, #[], 0, Heap.get?_push_size _ rfl, ⟨rfl, rfl, rfl⟩, rfl, rfl, List.nodup_nil⟩
noncomputable def tDNewK : TE := fun _ H Q => ∀ p, H p = none → Q (.ref p) (upd H p (.dK []))
noncomputable def tDNewT : TE := fun _ H Q => ∀ p, H p = none → Q (.ref p) (upd H p (.dT []))
section
variable {X : Cx} {pos : Pos}
theorem pe_dnewK : PE X (.Dict [] [] pos) tDNewK := fun pins s σ H Q I h =>
  wpAny_Dict_empty ⟨.ref s.heap.objs.size, _, I.laid (a := s.heap.objs.size) (o := .dK []) (t' := s.toks) (fun _ _ q => Heap.get?_push_of_some _ q) (Nat.le_refl _) (dk_empty s.heap I.big), rfl, h _ (I.hok.fresh (Nat.le_refl _))⟩
theorem pe_dnewT : PE X (.Dict [] [] pos) tDNewT := fun pins s σ H Q I h =>
  wpAny_Dict_empty ⟨.ref s.heap.objs.size, _, I.laid (a := s.heap.objs.size) (o := .dT []) (t' := s.toks) (fun _ _ q => Heap.get?_push_of_some _ q) (Nat.le_refl _) (dt_empty s.heap I.big), rfl, h _ (I.hok.fresh (Nat.le_refl _))⟩
end
noncomputable def tPairs : List (TE × TE) → St → Hp → (List (V × V) → Hp → Prop) → Prop
  | [], _, H, Q => Q [] H
  | (tk, tv) :: r, σ, H, Q => tk σ H fun x H1 => tv σ H1 fun y H2 => tPairs r σ H2 fun ps H3 => Q ((x, y) :: ps) H3
noncomputable abbrev VV : List (V × V) → List (Value × Value) → Prop := Paired fun p q => RelV p.1 q.1 ∧ RelV p.2 q.2
noncomputable def PPs (X : Cx) (pos : Pos) (keys : List (Option Expr)) (values : List Expr) (trs : List (TE × TE)) : Prop :=
  ∀ (pins : List (Addr × Obj)) (s : Shared) (σ : St) (H : Hp) (Q : List (V × V) → Hp → Prop), Inv X pins σ H s → tPairs trs σ H Q →
    wpAny (model X.prog X.w) X.A (evalPairs (pairTrees keys values X.env pos)) (fun vs s' => ∃ ps H', Inv X pins σ H' s' ∧ VV ps vs ∧ Q ps H') X.xe s
theorem pps_nil {X : Cx} {pos : Pos} : PPs X pos [] [] [] := fun pins s σ H Q I h => pairTrees_nil_walk ⟨[], H, I, .nil, h⟩
theorem pps_cons {X : Cx} {pos : Pos} {k v : Expr} {ks : List (Option Expr)} {vs : List Expr} {tk tv : TE} {trs : List (TE × TE)} (hk : PE X k tk) (hv : PE X v tv) (hr : PPs X pos ks vs trs) :
    PPs X pos (some k :: ks) (v :: vs) ((tk, tv) :: trs) := fun pins s σ H Q I h =>
  pairTrees_cons_walk (thn (hk pins s σ H _ I h) fun u s1 ⟨x, H1, I1, rx, q1⟩ => thn (hv pins s1 σ H1 _ I1 q1) fun w2 s2 ⟨y, H2, I2, ry, q2⟩ =>
    thn (hr pins s2 σ H2 _ I2 q2) fun ws s3 ⟨ps, H3, I3, rel, q3⟩ => ⟨(x, y) :: ps, H3, I3, .cons ⟨rx, ry⟩ rel, q3⟩)
noncomputable def mergeK (kvs more : List (Key × V)) : List (Key × V) := more.foldl (fun acc kv => putK acc kv.1 kv.2) kvs
theorem KV.merge : ∀ {more : List (Key × V)} {rs : List (Key × Value)} {kvs : List (Key × V)} {vs : List (Key × Value)}, KV more rs → KV kvs vs → KV (mergeK kvs more) (merged vs rs) := by
  intro more rs kvs vs r
  unfold KV at r
  induction r generalizing kvs vs with
  | nil => intro q; exact q
  | @cons p q ps qs h t ih =>
    intro r0
    have e : KV (putK kvs p.1 p.2) (stored vs q.1 q.2) := by
      have := r0.put p.1 h.2
      rw [← h.1]; exact this
    exact ih e
theorem length_mergeK : ∀ (more kvs : List (Key × V)), (mergeK kvs more).length ≤ kvs.length + more.length
  | [], kvs => by show kvs.length ≤ kvs.length + 0; omega
  | p :: r, kvs => by
    have h1 := length_mergeK r (putK kvs p.1 p.2)
    have h2 := length_putK kvs p.1 p.2
    show (mergeK (putK kvs p.1 p.2) r).length ≤ _
    rw [List.length_cons]; omega
theorem carries_of {P : Program} {w : World} : ∀ {kvs : List (Key × V)} {ws : List (Value × Value)}, VV (kvs.map fun kv => (kV kv.1, kv.2)) ws → ∃ rs, Carries (mixKind P w) ws rs ∧ KV kvs rs
  | [], _, r => by rw [List.map_nil] at r; cases r; exact ⟨[], True.intro, .nil⟩
  | p :: kvs, _, r => by
    rw [List.map_cons] at r
    cases r with
    | @cons a b as bs h t =>
      obtain ⟨rs, c, q⟩ := carries_of (P := P) (w := w) t
      obtain ⟨b1, b2⟩ := b
      exact ⟨(p.1, b2) :: rs, ⟨kV_is h.1, rfl, c⟩, .cons ⟨rfl, h.2⟩ q⟩
noncomputable def tDisp (trs : List (TE × TE)) : TE := fun σ H Q => ∀ p, H p = none → tPairs trs σ (upd H p (.dK [])) fun ps H2 => H2 p = some (.dK []) ∧ ∃ kvs : List (Key × V), ps = kvs.map (fun kv => (kV kv.1, kv.2)) ∧ kvs.length ≤ 15 ∧ Q (.ref p) (upd H2 p (.dK (mergeK [] kvs)))
theorem pe_disp {X : Cx} {pos : Pos} {keys : List (Option Expr)} {values : List Expr} {trs : List (TE × TE)} (h : PPs X pos keys values trs) (hall : keys.all (·.isSome) = true) (hl : keys.length = values.length) (h0 : keys ≠ [])
    (h15 : keys.length ≤ 15) : PE X (.Dict keys values pos) (tDisp trs) := by
  intro pins s σ H Q I q
  have hn := I.hok.fresh (Nat.le_refl s.heap.objs.size)
  have I1 := I.laid (a := s.heap.objs.size) (o := .dK []) (h' := s.heap.push { cls := .type "dict", data := .dict #[] }) (t' := s.toks) (fun _ _ q => Heap.get?_push_of_some _ q) (Nat.le_refl _) (dk_empty s.heap I.big)
  refine wpAny_Dict_walk (knd := mixKind X.prog X.w) hall hl h0 h15 (thn (h pins _ σ _ _ I1 (q _ hn)) fun ws s2 ⟨ps, H2, I2, rel, e, kvs, ep, lk, q2⟩ => ?_)
  subst ep
  obtain ⟨rs, c, rk⟩ := carries_of (P := X.prog) (w := X.w) rel
  obtain ⟨z, hd, vs0, r0, dd⟩ := dk_of I2.hok e
  cases r0
  refine ⟨rs, c, dd, fun h' dd' hs => ⟨.ref s.heap.objs.size, _, ?_, rfl, q2⟩⟩
  have hz : (mergeK [] kvs).length ≤ sizeLine := by
    have h1 := length_mergeK kvs []
    rw [List.length_nil] at h1
    rw [sizeLine_eq]; omega
  have he : ∃ q, h'.get? s.heap.objs.size = some q := let ⟨q, _, _, hq, _⟩ := dd'; ⟨q, hq⟩
  exact d_write I2 (by rw [e]; exact True.intro) hs he (dk_new hz hd (rk.merge .nil) dd')
end L2
namespace Att
open PySem PySem.W PySem.Calls PyProof.Rows
theorem ints_of_wellAll {P : Params} {h : Heap} : ∀ (ns : List Int) (vs : List Value), WellAll P h vs (ns.map WData.int) → IntsAre vs ns := by
  intro ns
  induction ns with
  | nil =>
    intro vs w
    rw [List.map_nil] at w
    cases w
    exact .nil
  | cons n ns ih =>
    intro vs w
    rw [List.map_cons] at w
    cases w with
    | cons a b =>
      cases a
      exact .cons _ _ (ih _ b)
theorem script_of {l : OpenLaw} {n : Nat} (hn : l.most = some n) {P : Params} {h : Heap} {args : List WData} {vals : List Value}
    (hpre : l.row.toRowW.claim.pre args = true) (hwl : WellAll P h vals args) :
    ∃ a vs ns, vals = [Value.ref a] ∧ args = [WData.list (ns.map WData.int)] ∧ h.get? a = some { cls := .type "list", data := .seq vs.toArray } ∧ IntsAre vs ns ∧ ns.length ≤ n := by
  have hsh : WShape.hasAll [] args [.list .int] = true := (pre_splitW hpre).1
  have hc : l.pre.holds [] { args := args } = true := (pre_splitW hpre).2
  obtain ⟨d, r, rfl, h1, h2⟩ := hasAllW_cons hsh
  obtain rfl := hasAllW_nil h2
  obtain ⟨xs, rfl, h3⟩ := hasW_list h1
  obtain ⟨ns, rfl⟩ := items_int h3
  have hlen : ns.length ≤ n := by
    unfold OpenLaw.pre at hc
    have h4 : (WTm.not (.lt (.lit (.int (n : Int))) (.len (.arg 0)))).holds [] { args := [.list (ns.map .int)] } = true := by
      have h4 := (holds_andW hc).1
      rw [hn] at h4
      exact h4
    have h5 := condW_of h4 (w_not (w_lt w_lit (w_len_list (w_arg rfl))))
    rw [List.length_map] at h5
    refine Nat.le_of_not_lt fun q => ?_
    have q' : (n : Int) < ((ns.length : Nat) : Int) := by omega
    first
      | (rw [decide_eq_true q'] at h5; exact absurd h5 (by decide))
      | (simp at h5; omega)
  cases hwl with
  | cons w1 w2 =>
    cases w2
    cases w1 with
    | list ho hall => exact ⟨_, _, ns, rfl, rfl, ho, ints_of_wellAll ns _ hall, hlen⟩
theorem post_true (l : OpenLaw) (args : List WData) : l.row.toRowW.claim.post args (.bool true) args = true :=
  postW_of (r := l.row.toRowW) (X := (true == true))
    (show WShape.has [] (.bool true) .bool = true by first | rfl | decide | simp [WShape.has, WShape.arms, WShape.armsAll])
    (show (WTm.eq .res (.lit (.bool true))).value [] { args := args, res := some (.bool true), after := args } = some (.bool (true == true)) from w_eq_bool (w_res rfl) w_lit) rfl
theorem attach_call {l : OpenLaw} {n : Nat} {q : Program} {loose : List Str} {XP : (Str → Option Value) → Heap → Prop} {YP : World → Heap → Prop} {d : DefRec}
    (hn : l.most = some n) (hdf : d.params.defaults = [])
    (call : ∀ (w : World) (s₀ s₁ : Shared) (mg mb : Str → Option Value) (fa : Addr) (o : Obj) (pm cd doc : Value) (a : Addr) (vs : List Value) (ns : List Int),
      Ground q loose [] XP w s₀ mg mb s₁.heap → YP w s₁.heap →
      s₁.heap.get? fa = some o → o.data = .func (docDef d.name d.params d.body d.scope pm cd doc) → s₁.heap.CodeRec cd d.name → mg d.name = some (.ref fa) →
      s₁.heap.get? a = some { cls := .type "list", data := .seq vs.toArray } → IntsAre vs ns → ns.length ≤ n → s₁.gens = #[] →
      codeAny (model l.prog w) callerA (.call (.ref fa) ⟨[.ref a], []⟩) (fun r s' => r = .ok (.ret (.bool true)) ∧ OldK s₁.heap s'.heap ∧ s'.os = s₁.os ∧ AllBare s'.gens) s₁) :
    WalkO q loose XP YP l.row.toRowW d [] (fun f vs => PySem.call f vs) := by
  intro w s₀ s₁ mg mb G Y fa o pm cd doc dV kV ho hd hcd hD hmg hg args vals as hpre hlay hrd hwl hlo
  obtain rfl : dV = .none := Dflts.none hD hdf
  obtain rfl : kV = .none := Dflts.noKw hD
  obtain ⟨a, vs, ns, rfl, rfl, hobj, hints, hlen⟩ := script_of hn hpre hwl
  refine enter_call (codeAny_mono (call w s₀ s₁ mg mb fa o pm cd doc a vs ns G Y ho (fd_plain hd) hcd hmg hobj hints hlen hg) fun r s' hq => ?_)
  obtain ⟨rfl, h2, h3, h4⟩ := hq
  exact ⟨.inl ⟨.bool true, .bool true, [], rfl, fun _ => rfl, .bool true, post_true l _, fun _ => ⟨List.Pairwise.nil, fun _ hm => (nomatch hm)⟩⟩, h2, h3, h4⟩
end Att
namespace L2
open PySem PySem.Spec PyProof.Rows
theorem vals_ints : ∀ {vs : List Value} {ns : List Int}, IntsAre vs ns → Vals (ns.map V.int) vs
  | _, _, .nil => .nil
  | _, _, .cons n t h => .cons ⟨t, rfl⟩ (vals_ints h)
noncomputable def Only (H : Hp) : Prop := ∀ b, H b = none ∨ ∃ o xs, H b = some (.frz o (.lst xs))
theorem law_call {P : Program} {w : World} {K : PySem.W.Frag} {mg mb : Str → Option Value} {CX : CXT} {k : Nat} {fa a : Addr} {fd : FuncData} {x : Str} {sp : Sp} {s₁ : Shared} {vs : List Value} {ns : List Int}
    (KX : K.In s₁.heap) (hns : s₁.heap.Ns mainGlobals mg) (hb : s₁.heap.Ns builtinsNs mb) (hbb : ∀ x : Str, x ≠ "__name__" → mb x = bootBuiltins x) (hlim : s₁.heap.NoLimit) (hg : s₁.gens = #[])
    (ha : s₁.heap.get? a = some { cls := .type "list", data := .seq vs.toArray }) (hi : IntsAre vs ns) (hl : ns.length ≤ sizeLine) (hr : Room k callerA)
    (F : ∀ base : Heap, K.In base → base.Ns mainGlobals mg → FnOk P w K mg base CX k fa fd [x] sp) (hbind : ∀ (s : Shared) (u : Value), BindsTo s fd ⟨[u], []⟩ [(x, u)])
    (hsp : ∀ H : Hp, Only H → SqL K H a (ns.map V.int) → sp [.ref a] H (fun v _ => v = .bl true) fun _ _ _ => False)
    (hCX : ∀ H e s', CX [] H s₁ (fun _ _ _ => False) e s' → False) :
    codeAny (model P w) callerA (.call (.ref fa) ⟨[.ref a], []⟩) (fun r s' => r = .ok (.ret (.bool true)) ∧ OldK s₁.heap s'.heap ∧ s'.os = s₁.os ∧ AllBare s'.gens) s₁ := by
  have rv := vals_ints hi
  have lenV := hi.length
  have core : ∀ H : Hp, Only H → SqL K H a (ns.map V.int) → HOk P w H s₁.heap → (∀ b, H b ≠ none → b = a) → (H a ≠ none → K.lookup a = none) →
      codeAny (model P w) callerA (.call (.ref fa) ⟨[.ref a], []⟩) (fun r s' => r = .ok (.ret (.bool true)) ∧ OldK s₁.heap s'.heap ∧ s'.os = s₁.os ∧ AllBare s'.gens) s₁ := by
    intro H hO hS hok hA hK
    have base_of : ∀ {b : Addr} {o : Obj}, s₁.heap.get? b = some o → H b = none → (hidT s₁.heap H).get? b = some o := fun e n => hidT_get e n
    have noA : ∀ {b : Addr} {o : Obj} {es : Array DictEntry} {ep : Nat}, s₁.heap.get? b = some o → o.data = .dict es ep → H b = none := fun {b o es ep} e d => by
      cases q : H b with
      | none => rfl
      | some u =>
        have e' : b = a := hA b (by rw [q]; simp)
        subst e'
        rw [ha] at e; cases e
        have d' : Data.seq vs.toArray _ = Data.dict es ep := d
        cases d'
    have nsK : ∀ {b : Addr} {m : Str → Option Value}, s₁.heap.Ns b m → (hidT s₁.heap H).Ns b m := fun {b m} ⟨o, es, ep, e, d, r⟩ => ⟨o, es, ep, base_of e (noA e d), d, r⟩
    have hKb : K.In (hidT s₁.heap H) := fun b o e => base_of (KX b o e) (by
      cases q : H b with
      | none => rfl
      | some u =>
        have e' : b = a := hA b (by rw [q]; simp)
        subst e'
        rw [hK (by rw [q]; simp)] at e; cases e)
    have hM : Mod K mg (hidT s₁.heap H) := ⟨hKb, nsK hns, ⟨mb, nsK hb, hbb⟩, let ⟨mc, h1, h2⟩ := hlim; ⟨mc, nsK h1, h2⟩⟩
    have e0 : Env0 P w K mg (hidT s₁.heap H) callerA [] s₁ H := ⟨rfl, hM, fun b o e => of_hidT e, Nat.le_of_eq (hidT_size _ _), trivial, fun b hb => absurd (show b ∈ ([] : List Addr) from hb) (by simp), hok, .of_eq hg⟩
    refine codeAny_mono ((F _ hKb (nsK hns)).run callerA [] s₁ H ⟨[.ref a], []⟩ [.ref a] [.ref a] _ _ hr e0 (hbind s₁ (.ref a)) (.cons rfl .nil) (hsp H hO hS)) fun r s' h => ?_
    cases r with
    | error e => exact (hCX H e s' h).elim
    | ok fl =>
      cases fl with
      | next => exact False.elim h
      | brk => exact False.elim h
      | cont => exact False.elim h
      | ret u =>
        obtain ⟨v, H', os, bare, un, hok', r', q⟩ := h
        have q' : v = .bl true := q
        subst q'
        obtain rfl : u = Value.bool true := r'
        refine ⟨rfl, OldK.of_keep fun b o e => ?_, os, bare⟩
        cases q : H b with
        | none => exact un.keep b o e q (by intro z; exact absurd (show b ∈ ([] : List Addr) from z) (by simp)) (by simp)
        | some u =>
          rcases hO b with z | ⟨ob, xs, z⟩
          · rw [q] at z; cases z
          · have z2 := un.frzs b ob _ z
            obtain ⟨e1, _⟩ := hok b _ z
            obtain ⟨e2, _⟩ := hok' b _ z2
            rw [e] at e1; cases e1
            exact e2
  cases hk : K.lookup a with
  | some o =>
    have e := KX a o hk
    rw [ha] at e
    cases e
    refine core (fun _ => none) (fun _ => .inl rfl) (.inr ⟨_, vs.toArray, _, hk, rfl, rfl, rfl, by rw [List.size_toArray, lenV]; exact hl, by simpa using rv⟩) (fun b u z => by have z' : (none : Option HO) = some u := z; cases z') (fun b z => absurd rfl z) fun z => absurd rfl z
  | none =>
    refine core (fun b => if b = a then some (.frz { cls := .type "list", data := .seq vs.toArray } (.lst (ns.map V.int))) else none) (fun b => ?_) (.inl (.inr ⟨{ cls := .type "list", data := .seq vs.toArray }, if_pos rfl⟩)) (fun b u z => ?_) (fun b z => ?_) fun _ => hk
    · by_cases hb : b = a
      · exact .inr ⟨_, _, if_pos hb⟩
      · exact .inl (if_neg hb)
    · by_cases hb : b = a
      · have z' := (if_pos hb).symm.trans z
        cases z'
        subst hb
        exact ⟨ha, by rw [List.length_map]; exact hl, vs, _, rv, ha⟩
      · have z' := (if_neg hb).symm.trans z
        cases z'
    · by_cases hb : b = a
      · exact hb
      · exact absurd (if_neg hb) z
end L2
namespace L2
open PySem PySem.Spec PyProof.Rows
theorem walk_of {l : PySem.W.OpenLaw} {n k : Nat} {q : Program} {loose : List Str} {XP : (Str → Option Value) → Heap → Prop} {YP : World → Heap → Prop} {d : DefRec} {K : Params → PySem.W.Frag} {CX : World → CXT} {sp : World → Sp} {x : Str}
    (hn : l.most = some n) (hn2 : n ≤ sizeLine) (hdf : d.params.defaults = []) (hr : Room k callerA)
    (hY : ∀ (w : World) (h : Heap), YP w h → (K w.params).In h)
    (F : ∀ (w : World) (mg : Str → Option Value) (fa : Addr) (h : Heap), (K w.params).In h → h.Ns mainGlobals mg → mg d.name = some (.ref fa) →
      ∃ fd : FuncData, (∀ (s : Shared) (u : Value), BindsTo s fd ⟨[u], []⟩ [(x, u)]) ∧
        ∀ base : Heap, (K w.params).In base → base.Ns mainGlobals mg → FnOk l.prog w (K w.params) mg base (CX w) k fa fd [x] (sp w))
    (hsp : ∀ (w : World) (H : Hp) (a : Addr) (ns : List Int), ns.length ≤ n → Only H → SqL (K w.params) H a (ns.map V.int) → sp w [.ref a] H (fun v _ => v = .bl true) fun _ _ _ => False)
    (hCX : ∀ (w : World) (H : Hp) (s : Shared) (e : Value) (s' : Shared), CX w [] H s (fun _ _ _ => False) e s' → False) :
    PySem.W.WalkO q loose XP YP l.row.toRowW d [] (fun f vs => PySem.call f vs) := by
  refine Att.attach_call hn hdf fun w s₀ s₁ mg mb fa o pm cd doc a vs ns G Y ho hd hcd hmg hobj hints hlen hg => ?_
  have KX := hY w _ Y
  obtain ⟨fd, hb, hF⟩ := F w mg fa _ KX G.T.g hmg
  exact law_call KX G.T.g G.T.b G.T.builtins G.T.nolimit hg hobj hints (Nat.le_trans hlen hn2) hr hF hb (fun H hO hS => hsp w H a ns hlen hO hS) fun H e s' => hCX w H s₁ e s'
end L2
namespace L2
open PySem PySem.Spec PyProof.Rows
noncomputable def defArgs (s : Stmt) : Arguments := match s with
  | .FunctionDef _ a _ _ _ _ _ _ _ _ => a
  | _ => { posonlyargs := [], args := [], vararg := none, kwonlyargs := [], kw_defaults := [], kwarg := none, defaults := [] }
noncomputable def defBody (s : Stmt) : List Stmt := match s with
  | .FunctionDef _ _ b _ _ _ _ _ _ _ => b
  | _ => []
noncomputable def defScope (s : Stmt) : Scope := match s with
  | .FunctionDef _ _ _ _ _ _ sc _ _ _ => sc
  | _ => { kind := .function, names := [], isGenerator := false, isCoroutine := false }
noncomputable abbrev CX0 : CXT := fun _ _ _ _ _ _ => False
noncomputable abbrev E0 : XK := fun _ _ _ => False
theorem pass0 {X : Cx} : Passes CX0 X E0 := fun _ _ _ _ _ _ _ h => h.elim
structure Fun (K : PySem.W.Frag) (x qual : Str) (st : Stmt) (f : Addr) (fd : FuncData) : Prop where
  ex : ∃ (oc : Value) (od : Option Addr) (kV doc pm : Value) (an : Option Addr) (cdv ct : Value) (osl : Array (Option Value)),
    fd = PySem.W.fnOf x qual (defArgs st) (defBody st) (defScope st) .none kV doc pm an cdv ct ∧ K.lookup f = some ⟨oc, od, .func fd, osl⟩ ∧ PySem.W.codeIn K cdv qual = true
  kp : PySem.W.keepIn K (.ref f) = true
section
variable {P : Program} {w : World} {K : PySem.W.Frag} {mg : Str → Option Value} {base : Heap}
theorem Fun.ok {x qual : Str} {st : Stmt} {f : Addr} {fd : FuncData} {N ps : List Str} {k : Nat} {sp : Sp} (F : Fun K x qual st f fd) (S : FnScope N ps (defScope st)) (len : ∀ vs H Q E, sp vs H Q E → vs.length = ps.length)
    (hbody : ∀ (cdv : Value) (A : Around) (outer : List Env) (s : Shared) (H : Hp) (vs : List V) (Q : VK) (E : XK), Room k (A.deeper (envOfC qual (defScope st) s.heap.objs.size f cdv)) → sp vs H Q E →
      ∃ t, PSs (cxOf CX0 P w K mg base N qual (defScope st) f cdv A outer s H E).nox (defBody st) t ∧ t { nx := fun _ H' => Q .non H', rt := Q } (start N vs) H) : FnOk P w K mg base CX0 (k + 1) f fd ps sp := by
  obtain ⟨oc, od, kV, doc, pm, an, cdv, ct, osl, rfl, lk, hcd⟩ := F.ex
  refine fn_of lk hcd S len fun A outer s H vs Q E hr hsp => ?_
  obtain ⟨t, h, q⟩ := hbody cdv A outer s H vs Q E hr hsp
  exact ⟨t, h.nox, q⟩
theorem Fun.binds {x qual : Str} {st : Stmt} {f : Addr} {fd : FuncData} {ps : List Str} (F : Fun K x qual st f fd)
    (h : ∀ (kV doc pm : Value) (an : Option Addr) (cdv ct : Value) (us : List Value), us.length = ps.length → bindArgs (PySem.W.fnOf x qual (defArgs st) (defBody st) (defScope st) .none kV doc pm an cdv ct) ⟨us, []⟩ = pure (ps.zip us)) : Binds K fd ps [] := by
  obtain ⟨oc, od, kV, doc, pm, an, cdv, ct, osl, rfl, lk, hcd⟩ := F.ex
  exact .all (h kV doc pm an cdv ct)
theorem fun_mk {x qual : Str} {st : Stmt} {f : Addr} {oc : Value} {od an : Option Addr} {osl : Array (Option Value)} {kV doc pm cdv ct : Value} (l : K.lookup f = some ⟨oc, od, .func (PySem.W.fnOf x qual (defArgs st) (defBody st) (defScope st) .none kV doc pm an cdv ct), osl⟩)
    (c : PySem.W.codeIn K cdv qual = true) (k : PySem.W.keepIn K (.ref f) = true) : Fun K x qual st f (PySem.W.fnOf x qual (defArgs st) (defBody st) (defScope st) .none kV doc pm an cdv ct) := ⟨⟨oc, od, kV, doc, pm, an, cdv, ct, osl, rfl, l, c⟩, k⟩
end
theorem small1000 {n : Nat} (h : n ≤ 1000) : n < sizeLine := Nat.lt_of_le_of_lt h (by decide)
section
variable {X : Cx}
theorem pv (i : Nat) {x : Str} {pos : Pos} (hN : X.N[i]? = some x := by rfl) (hv : Vis X.env.scope x := by first | exact Or.inl rfl | exact Or.inr (Or.inl rfl) | exact Or.inr (Or.inr rfl)) (hd : (x == ("__debug__" : Str)) = false := by decide)
    (hcd : (x == ("__classdict__" : Str)) = false := by decide) : PE X (.Name x pos) (tVar i) := pe_var hN hv hd hcd
theorem call_lenD : CallR X (.builtin "len") (fun xs H Q => ∃ a kvs, xs = [V.ref a] ∧ H a = some (.dK kvs) ∧ Q (.int kvs.length) H) := by
  intro pins s σ H xs us Q I r h
  obtain ⟨a, kvs, rfl, ha, q⟩ := h
  obtain ⟨u, rfl, ru⟩ := vals1 r
  cases ru
  exact d_len I (.inl ha) fun t s' I' => ⟨.int kvs.length, H, I', ⟨t, rfl⟩, q⟩
end
theorem iteF {A B : Prop} (h : B) : if false = true then A else B := by
  rw [if_neg Bool.false_ne_true]
  exact h
theorem iteT {A B : Prop} (h : A) : if true = true then A else B := by
  rw [if_pos rfl]
  exact h
theorem ite2 {c A B : Prop} [Decidable c] (h1 : c → A) (h2 : ¬ c → B) : if c then A else B := by
  by_cases h : c
  · rw [if_pos h]
    exact h1 h
  · rw [if_neg h]
    exact h2 h
noncomputable def Same (H H' : Hp) : Prop := ∀ b o, H b = some o → H' b = some o
theorem Same.refl (H : Hp) : Same H H := fun _ _ h => h
theorem Same.trans {H H1 H2 : Hp} (a : Same H H1) (b : Same H1 H2) : Same H H2 := fun c o h => b c o (a c o h)
section
variable {κ : Type} [DecidableEq κ]
theorem valV_not {kvs : List (κ × V)} {k : κ} (h : valV kvs k = none) : ¬ k ∈ kvs.map (·.1) := by
  intro m
  obtain ⟨p, hp, e⟩ := List.mem_map.mp m
  have q : (kvs.any fun kv => decide (kv.1 = k)) = true := List.any_eq_true.mpr ⟨p, hp, decide_eq_true e⟩
  rw [valV_any, h] at q
  exact absurd q (by simp)
theorem valV_in {kvs : List (κ × V)} {k : κ} {v : V} (h : valV kvs k = some v) : k ∈ kvs.map (·.1) := by
  have q : (kvs.any fun kv => decide (kv.1 = k)) = true := by
    rw [valV_any, h]
    all_goals rfl
  obtain ⟨p, hp, e⟩ := List.any_eq_true.mp q
  exact List.mem_map.mpr ⟨p, hp, of_decide_eq_true e⟩
theorem nd_snoc : ∀ {l : List κ} {k : κ}, l.Nodup → ¬ k ∈ l → (l ++ [k]).Nodup
  | [], k, _, _ => by simp
  | a :: r, k, h, hk => by
    obtain ⟨h1, h2⟩ := List.nodup_cons.mp h
    show (a :: (r ++ [k])).Nodup
    refine List.nodup_cons.mpr ⟨fun m => ?_, nd_snoc h2 fun m => hk (List.mem_cons.mpr (Or.inr m))⟩
    rcases List.mem_append.mp m with q | q
    · exact h1 q
    · exact hk (List.mem_cons.mpr (Or.inl (List.mem_singleton.mp q).symm))
theorem nd_putK {kvs : List (κ × V)} {k : κ} (v : V) (hn : (kvs.map (·.1)).Nodup) (h : valV kvs k = none) : ((putK kvs k v).map (·.1)).Nodup := by
  rw [putK_new v h, List.map_append]
  exact nd_snoc hn (valV_not h)
end
end L2
set_option maxHeartbeats 4000000
namespace L2
open PySem PySem.Spec PyProof.Rows
theorem clos_go {env : Env} {f : Str × NameKind → List (Str × Addr) → Sem (ForInStep (List (Str × Addr)))}
    (f1 : ∀ n k r, k ≠ NameKind.free → f (n, k) r = pure (.yield r))
    (f2 : ∀ n c r, env.cells.lookup n = some c → f (n, NameKind.free) r = pure (.yield ((n, c) :: r))) :
    ∀ (names : List (Str × NameKind)) (acc : List (Str × Addr)),
    (∀ y ∈ names, y.2 = NameKind.free → ∃ c, env.cells.lookup y.1 = some c) →
    (∀ x c, acc.lookup x = some c → env.cells.lookup x = some c) →
    ∃ cl, forIn names acc f = (pure cl : Sem (List (Str × Addr))) ∧ (∀ x c, cl.lookup x = some c → env.cells.lookup x = some c) ∧
      (∀ x, (acc.lookup x).isSome = true → (cl.lookup x).isSome = true) ∧ ∀ y ∈ names, y.2 = NameKind.free → (cl.lookup y.1).isSome = true
  | [], acc, _, h => ⟨acc, by rw [List.forIn_nil], h, fun _ q => q, fun y hy => nomatch hy⟩
  | (n, k) :: r, acc, hn, h => by
    by_cases hk : k = NameKind.free
    · subst hk
      obtain ⟨c, hc⟩ := hn (n, .free) List.mem_cons_self rfl
      have hc' : env.cells.lookup n = some c := hc
      obtain ⟨cl, e, a, b, d⟩ := clos_go f1 f2 r ((n, c) :: acc) (fun y hy => hn y (List.mem_cons_of_mem _ hy)) (fun x c' q => by
        rw [List.lookup_cons] at q
        cases e : x == n with
        | true =>
          rw [e] at q
          cases q
          rw [show x = n from LawfulBEq.eq_of_beq e]
          exact hc'
        | false =>
          rw [e] at q
          exact h x c' q)
      refine ⟨cl, ?_, a, fun x q => b x ?_, fun y hy hf => ?_⟩
      · rw [List.forIn_cons, f2 n c acc hc', pure_bind]
        exact e
      · rw [List.lookup_cons]
        cases x == n with
        | true => rfl
        | false => exact q
      · rcases List.mem_cons.mp hy with rfl | hy
        · refine b _ ?_
          rw [List.lookup_cons]
          simp
        · exact d y hy hf
    · obtain ⟨cl, e, a, b, d⟩ := clos_go f1 f2 r acc (fun y hy => hn y (List.mem_cons_of_mem _ hy)) h
      refine ⟨cl, ?_, a, b, fun y hy hf => ?_⟩
      · rw [List.forIn_cons, f1 n k acc hk, pure_bind]
        exact e
      · rcases List.mem_cons.mp hy with rfl | hy
        · exact absurd hf hk
        · exact d y hy hf
theorem clos_ok {scope : Scope} {env : Env} (hf : ∀ y ∈ scope.names, y.2 = NameKind.free → ∃ c, env.cells.lookup y.1 = some c) :
    ∃ cl, closureFor scope env = pure cl ∧ (∀ x c, cl.lookup x = some c → env.cells.lookup x = some c) ∧
      ∀ y ∈ scope.names, y.2 = NameKind.free → ∃ c, cl.lookup y.1 = some c := by
  have go := clos_go (env := env) (f := fun (x : Str × NameKind) (r : List (Str × Addr)) => match x with
      | (name, kind) => if (kind == NameKind.free) = true then do let c ← cellOf env name; pure (ForInStep.yield ((name, c) :: r)) else pure (ForInStep.yield r))
    (fun n k r hk => by
      have z : (k == NameKind.free) = false := by simpa using hk
      simp only [z, Bool.false_eq_true, if_false])
    (fun n c r hc => by
      simp only [beq_self_eq_true, if_true, cellOf, hc, pure_bind])
    scope.names [] hf (fun x c q => by cases q)
  obtain ⟨cl, e, a, _, d⟩ := go
  refine ⟨cl, ?_, a, fun y hy z => Option.isSome_iff_exists.mp (d y hy z)⟩
  simp only [closureFor]
  first
    | exact e
    | (simp only [bind_pure]; exact e)
    | (refine Eq.trans ?_ e; simp only [bind_pure])
noncomputable def cxC (X : Cx) (scope : Scope) (N : List Str) (cl : List (Str × Addr)) (C : Addr) (s₀ : Shared) (H₀ : Hp) (ex : List Addr) : Cx where
  prog := X.prog
  w := X.w
  K := X.K
  mg := X.mg
  base := X.base
  A := X.A
  N := N
  s₀ := s₀
  H₀ := H₀
  env := compEnvC scope cl C X.env
  outer := X.stack
  stack := X.stack
  ex := ex
  fn := fun _ => false
  calm := X.calm
  pn := []
  xe := fun _ _ => False
noncomputable def inSt (k : Nat) (fr : List Nat) (σ : St) : St := List.replicate k none ++ fr.map fun i => (σ[i]?).join
noncomputable def frOk (osc scope : Scope) (NX : List Str) (fr : List Nat) : Bool := fr.all fun i => match NX[i]? with
  | some x => (decide (osc.names.lookup x = some .cell) || decide (osc.names.lookup x = some .free)) && decide (scope.names.lookup x = some .free)
  | none => false
structure CompSc (osc scope : Scope) (NX own : List Str) (fr : List Nat) (N : List Str) : Prop where
  kind : scope.kind = .function
  nocell : ∀ y ∈ scope.names, y.2 ≠ NameKind.cell
  loc : ∀ y ∈ scope.names, y.2 = NameKind.local → scope.names.lookup y.1 = some .local
  free : ∀ y ∈ scope.names, y.2 = NameKind.free → osc.names.lookup y.1 = some .cell ∨ osc.names.lookup y.1 = some .free
  names : N.map some = own.map some ++ fr.map fun i => NX[i]?
  outer : frOk osc scope NX fr = true
noncomputable def compOk (osc scope : Scope) (NX own : List Str) (fr : List Nat) (N : List Str) : Bool :=
  decide (scope.kind = .function) && (scope.names.all (fun y => decide (y.2 ≠ NameKind.cell)) && (scope.names.all (fun y => decide (y.2 = NameKind.local → scope.names.lookup y.1 = some .local)) &&
    (scope.names.all (fun y => decide (y.2 = NameKind.free → (osc.names.lookup y.1 = some .cell ∨ osc.names.lookup y.1 = some .free))) && (decide (N.map some = own.map some ++ fr.map fun i => NX[i]?) && frOk osc scope NX fr))))
theorem CompSc.of {osc scope : Scope} {NX own : List Str} {fr : List Nat} {N : List Str} (h : compOk osc scope NX own fr N = true) : CompSc osc scope NX own fr N := by
  unfold compOk at h
  simp only [Bool.and_eq_true, decide_eq_true_eq, List.all_eq_true] at h
  obtain ⟨h1, h2, h3, h4, h5, h6⟩ := h
  exact ⟨h1, h2, h3, h4, h5, h6⟩
theorem CompSc.len {osc scope : Scope} {NX own : List Str} {fr : List Nat} {N : List Str} (S : CompSc osc scope NX own fr N) : N.length = own.length + fr.length := by
  have h := congrArg List.length S.names
  simpa using h
theorem lookup_relabel_free {env : Env} : ∀ {names : List (Str × NameKind)} {x : Str}, names.lookup x = some .free →
    (names.map fun (n, k) => if (k == NameKind.free && env.scope.kind == .function && env.kindOf n == some .cell) then (n, NameKind.cell) else (n, k)).lookup x = some .cell ∨
    (names.map fun (n, k) => if (k == NameKind.free && env.scope.kind == .function && env.kindOf n == some .cell) then (n, NameKind.cell) else (n, k)).lookup x = some .free
  | [], _, h => by simp at h
  | (n, k) :: r, x, h => by
    have ih := @lookup_relabel_free env r x
    cases hx : x == n with
    | true =>
      simp only [List.lookup_cons, hx] at h
      cases h
      simp only [List.map_cons]
      split
      · left; simp [List.lookup_cons, hx]
      · right; simp [List.lookup_cons, hx]
    | false =>
      simp only [List.lookup_cons, hx] at h
      simp only [List.map_cons]
      split
      · simp only [List.lookup_cons, hx]; exact ih h
      · simp only [List.lookup_cons, hx]; exact ih h
theorem of_relabel {env : Env} : ∀ {names : List (Str × NameKind)} {x : Str} {k' : NameKind},
    (names.map fun (n, k) => if (k == NameKind.free && env.scope.kind == .function && env.kindOf n == some .cell) then (n, NameKind.cell) else (n, k)).lookup x = some k' →
    k' = .cell ∨ k' = .free → (∀ y ∈ names, y.2 ≠ NameKind.cell) → ∃ y ∈ names, y.1 = x ∧ y.2 = .free
  | [], _, _, h, _, _ => by simp at h
  | (n, k) :: r, x, k', h, hk, nc => by
    have ih := @of_relabel env r x k'
    simp only [List.map_cons] at h
    cases hx : x == n with
    | true =>
      have ex : x = n := LawfulBEq.eq_of_beq hx
      refine ⟨(n, k), List.mem_cons_self, ex.symm, ?_⟩
      have nck : k ≠ .cell := nc (n, k) List.mem_cons_self
      by_cases z : k = .free
      · exact z
      · have zb : (k == NameKind.free) = false := by simpa using z
        simp only [zb, Bool.false_and, Bool.false_eq_true, if_false, List.lookup_cons, hx] at h
        cases h
        rcases hk with q | q
        · exact absurd q nck
        · exact absurd q z
    | false =>
      have h' : (r.map fun (n, k) => if (k == NameKind.free && env.scope.kind == .function && env.kindOf n == some .cell) then (n, NameKind.cell) else (n, k)).lookup x = some k' := by
        split at h
        · simpa only [List.lookup_cons, hx] using h
        · simpa only [List.lookup_cons, hx] using h
      obtain ⟨y, hy, a, b⟩ := ih h' hk fun z hz => nc z (List.mem_cons_of_mem _ hz)
      exact ⟨y, List.mem_cons_of_mem _ hy, a, b⟩
section
variable {X : Cx} {pins : List (Addr × Obj)} {σ : St} {H : Hp} {s : Shared}
noncomputable def PTs (X : Cx) (ifs : List Expr) (t : TT) : Prop :=
  ∀ (pins : List (Addr × Obj)) (s : Shared) (σ : St) (H : Hp) (Q : Bool → Hp → Prop), Inv X pins σ H s → t σ H Q →
    wpAny (model X.prog X.w) X.A (forIn ifs true fun c r => if r = true then do let ok ← isTrue c X.env (eval c X.env); pure (ForInStep.yield ok) else pure (ForInStep.yield r)) (TP X pins σ Q) X.xe s
noncomputable def tYes : TT := fun _ H Q => Q true H
theorem pts_nil : PTs X [] tYes := fun _ _ _ H _ I h => wpAny_tests_nil ⟨H, I, h⟩
theorem pts_one {c : Expr} {t : TT} (h : PT X c t) : PTs X [c] t := fun pins s σ H Q I q => wpAny_tests_one (h pins s σ H Q I q)
theorem nx {α : Type} {t : Sem α} {Q Q' : α → Shared → Prop} {M : Model} {A : Around} {E : Value → Shared → Prop} {s : Shared} (h : wpAny M A t Q (fun _ _ => False) s) (hQ : ∀ a s, Q a s → Q' a s) : wpAny M A t Q' E s :=
  wpAny_mono h hQ fun _ _ f => f.elim
theorem inv_block {scope : Scope} {own : List Str} {fr : List Nat} {N : List Str} {cl : List (Str × Addr)} {s3 s4 : Shared} {H3 : Hp} {fp : List Addr} {m : Str → Option Value}
    (hc : X.calm = true) (S : CompSc X.env.scope scope X.N own fr N)
    (c1 : ∀ x c, cl.lookup x = some c → X.env.cells.lookup x = some c) (c2 : ∀ y ∈ scope.names, y.2 = NameKind.free → ∃ c, cl.lookup y.1 = some c)
    (I3 : Inv X pins σ H3 s3) (f3 : ∀ b ∈ fp, FpOk X pins H3 b ∧ b < s3.heap.objs.size)
    (hk : ∀ b o, s3.heap.get? b = some o → s4.heap.get? b = some o) (hn : s4.heap.Ns s3.heap.objs.size m) (ho : s4.os = s3.os) (hg : s4.gens = s3.gens) :
    Inv (cxC X scope N cl s3.heap.objs.size s3 H3 fp) [] (inSt own.length fr σ) H3 s4 := by
  have kindF : (compEnvC scope cl s3.heap.objs.size X.env).scope.kind = .function := by
    show (relabel scope X.env).kind = .function
    exact S.kind
  refine ⟨⟨I3.ok.mod, kindF, I3.ok.glob, I3.ok.blt, Nat.le_refl _, ?_, ?_, ?_, I3.ok.hd, I3.ok.frames, .inl rfl, ?_, ?_, ?_, ?_, ?_, I3.stack, I3.stkFree⟩, ho, ?_, Un.kept hk, ⟨m, hn, ?_⟩, ?_, ?_, ?_, ?_, I3.hok.kept hk, ?_⟩
  · exact fun x y c h1 h2 => I3.ok.inj x y c (c1 x c h1) (c1 y c h2)
  · intro x hx
    have hx' : (relabel scope X.env).names.lookup x = some .cell ∨ (relabel scope X.env).names.lookup x = some .free := hx
    obtain ⟨k', hk', hkk⟩ : ∃ k', (relabel scope X.env).names.lookup x = some k' ∧ (k' = NameKind.cell ∨ k' = NameKind.free) := by
      rcases hx' with q | q
      · exact ⟨_, q, .inl rfl⟩
      · exact ⟨_, q, .inr rfl⟩
    obtain ⟨y, hy, e, hf⟩ := of_relabel (env := X.env) hk' hkk S.nocell
    subst e
    exact c2 y hy hf
  · exact fun x c h => by cases h
  · intro b hb
    obtain ⟨f, hl⟩ := f3 b hb
    refine ⟨Nat.ne_of_lt hl, fun x c h => f.2.2.2.2.1 x c (c1 x c h)⟩
  · exact fun b o e => I3.bs b o e
  · exact Nat.le_trans I3.ok.bsz I3.sz
  · intro b o e hb
    obtain ⟨f, hl⟩ := f3 b hb
    rcases f.2.2.2.1 with z | z
    · exact I3.ok.noex b o e z
    · exact absurd (Nat.lt_of_lt_of_le (Heap.lt_size e) (Nat.le_trans I3.ok.bsz z)) (Nat.lt_irrefl _)
  · intro b hb
    obtain ⟨f, hl⟩ := f3 b hb
    show b ∉ frs X.stack
    intro z
    rcases List.mem_cons.mp (I3.stkSub b z) with q | q
    · exact f.2.1 q
    · exact f.2.2.1 q
  · rw [hg]; exact I3.bare
  · intro i x v h1 h2 h3
    have h1 : N[i]? = some x := h1
    obtain ⟨m0, hn0, hl0⟩ := I3.loc
    have hi : own.length ≤ i := by
      refine Nat.le_of_not_lt fun q => ?_
      unfold inSt at h2
      rw [List.getElem?_append_left (by simpa using q), List.getElem?_replicate] at h2
      split at h2 <;> cases h2
    obtain ⟨j, rfl⟩ := Nat.exists_eq_add_of_le hi
    have h2' : (fr.map fun i => (σ[i]?).join)[j]? = some (some v) := by
      unfold inSt at h2
      rw [List.getElem?_append_right (by simp)] at h2
      simpa using h2
    rw [List.getElem?_map] at h2'
    cases ej : fr[j]? with
    | none => rw [ej] at h2'; cases h2'
    | some k =>
      rw [ej] at h2'
      have e2 : (σ[k]?).join = some v := Option.some.inj h2'
      have eσ : σ[k]? = some (some v) := by
        cases q : σ[k]? with
        | none => rw [q] at e2; cases e2
        | some o => rw [q] at e2; exact congrArg some e2
      have eN : X.N[k]? = some x := by
        have q := congrArg (fun l => l[own.length + j]?) S.names
        simp only [List.getElem?_map, h1, List.getElem?_append_right (show (own.map some).length ≤ own.length + j by simp), List.length_map, Nat.add_sub_cancel_left, ej, Option.map_some] at q
        exact (Option.some.inj q).symm
      have ok := List.all_eq_true.mp S.outer k (List.mem_of_getElem? ej)
      rw [eN] at ok
      simp only [Bool.and_eq_true, Bool.or_eq_true, decide_eq_true_eq] at ok
      obtain ⟨ok1, ok2⟩ := ok
      have vis : Vis X.env.scope x := .inr ok1
      obtain ⟨u, r, l⟩ := hl0 k x v eN eσ vis
      refine ⟨u, r, ?_⟩
      rcases l with ⟨l, _⟩ | ⟨_, c, e, z⟩
      · have l : X.env.scope.names.lookup x = some .local := l
        rcases ok1 with q | q
        · rw [l] at q; cases q
        · rw [l] at q; cases q
      · obtain ⟨c', e'⟩ := c2 (x, .free) (PySem.mem_of_lookup ok2) rfl
        have e' : cl.lookup x = some c' := e'
        have ec : c' = c := Option.some.inj ((c1 x c' e').symm.trans e)
        subst ec
        refine .inr ⟨lookup_relabel_free (env := X.env) ok2, c', e', ?_⟩
        obtain ⟨o, h1, h2⟩ := z
        exact ⟨o, hk _ _ h1, h2⟩
  · intro x c e
    obtain ⟨v, o, h1, h2⟩ := I3.cell x c (c1 x c e)
    exact ⟨v, o, hk _ _ h1, h2⟩
  · exact I3.hok.fresh (Nat.le_refl _)
  · exact fun x c e => I3.freeC x c (c1 x c e)
  · intro p hp
    exact absurd hp (by simp [cxC])
  · show (inSt own.length fr σ).length = N.length
    rw [S.len]
    simp [inSt]
end
section
variable {prog : Program} {w : World} {A : Around} {R : Result → Shared → Prop} {s : Shared}
theorem comp_loop {elt tg iter : Expr} {ifs : List Expr} {scope : Scope} {pos : Pos} {it acc : Value} {env : Env} (J : Nat → Shared → Prop)
    (turn : ∀ k s, J k s → ∀ E : Value → Shared → Prop, wpAny (model prog w) A (pyNext it) (fun r s1 => match r with
      | none => R (.ok .next) s1
      | some v => wpAny (model prog w) A (letOwnedTupleGo tg it v) (fun _ s2 => wpAny (model prog w) A (assign tg env v) (fun _ s3 =>
          wpAny (model prog w) A (forIn ifs true fun c r => if r = true then do let ok ← isTrue c env (eval c env); pure (ForInStep.yield ok) else pure (ForInStep.yield r)) (fun ok s4 =>
            if ok = true then wpAny (model prog w) A (eval elt env) (fun x s5 => wpAny (model prog w) A (call (.builtin "list.append") [acc, x]) (fun _ s6 => ∃ m, m < k ∧ J m s6) E s5) E s4
            else ∃ m, m < k ∧ J m s4) E s3) E s2) E s1) E s)
    (k : Nat) (h : J k s) : codeAny (model prog w) A (.compLoop (.ListComp elt [⟨tg, iter, ifs, 0⟩] scope pos) 0 it acc env) R s := by
  refine codeAny_loop rfl J (fun k s hJ => ?_) k h
  show wpAny _ A ((compTurn (.ListComp elt [⟨tg, iter, ifs, 0⟩] scope pos) 0 it acc env).onRaise (fun e => do noteFrame e env; theTreesLotGoes e)) _ _ s
  refine wpAny_noted ?_
  rw [compTurn_list]
  refine wpAny_bind (wpAny_standAt (wpAny_bind (thn (turn k s hJ _) fun r s1 h1 => ?_)))
  cases r with
  | none => exact wpAny_pure h1
  | some v =>
    refine wpAny_bind (thn h1 fun _ s2 h2 => wpAny_bind (thn h2 fun _ s3 h3 => wpAny_bind (thn h3 fun ok s4 h4 => ?_)))
    cases ok with
    | false => exact wpAny_pure ⟨rfl, h4⟩
    | true => exact wpAny_bind (wpAny_bind (thn h4 fun x s5 h5 => wpAny_bind (thn h5 fun _ s6 h6 => wpAny_pure (wpAny_pure ⟨rfl, h6⟩))))
end
noncomputable def tCompW (k : Nat) (fr : List Nat) (g : TG) (tc : TT) (te : TE) (J : It) (σ : St) (H1 : Hp) (Q : VK) : Prop :=
  ∀ D, H1 D = none → ∃ W : Nat → Nat → List V → St → Hp → Prop, (∃ m, W 0 m [] (inSt k fr σ) (upd H1 D (.lst []))) ∧ ∀ i m acc σ' H', W i m acc σ' H' → H' D = some (.lst acc) →
    (J.stop i H' ∧ Q (.ref D) H') ∨ (J.go i H' ∧ ∃ N : List V → St → Hp → Prop, (∀ acc' σ2 H2, N acc' σ2 H2 → ∃ m', m' < m ∧ W (i + 1) m' acc' σ2 H2) ∧ ∀ x H2, J.yld i H' x H2 → g x σ' H2 fun σ2 H3 => tc σ2 H3 fun b H4 =>
      if b = true then te σ2 H4 fun y H5 => H5 D = some (.lst acc) ∧ acc.length < sizeLine ∧ N (acc ++ [y]) σ2 (upd H5 D (.lst (acc ++ [y])))
      else H4 D = some (.lst acc) ∧ N acc σ2 H4)
noncomputable def tComp (k : Nat) (fr : List Nat) (wi : TI) (g : TG) (tc : TT) (te : TE) : TE := fun σ H Q => wi σ H fun J H1 => tCompW k fr g tc te J σ H1 Q
section
variable {X : Cx} {pins : List (Addr × Obj)} {σ : St} {H : Hp} {s : Shared} {tg elt iter : Expr} {ifs : List Expr} {scope : Scope} {pos : Pos}
theorem comp_block {own : List Str} {fr : List Nat} {N : List Str} {cl : List (Str × Addr)} {H2 : Hp} {s2 : Shared} {fp : List Addr} {it : Addr} {J : It} {tn : Nat → Heap → Prop} {g : TG} {tc : TT} {te : TE} {Q : VK} {E : Value → Shared → Prop} {POST : Value → Addr → Result → Shared → Prop}
    (hc : X.calm = true) (S : CompSc X.env.scope scope X.N own fr N)
    (c1 : ∀ x c, cl.lookup x = some c → X.env.cells.lookup x = some c) (c2 : ∀ y ∈ scope.names, y.2 = NameKind.free → ∃ c, cl.lookup y.1 = some c)
    (hg : ∀ C s₀ H₀ ex, PG (cxC X scope N cl C s₀ H₀ ex) tg g) (ht : ∀ C s₀ H₀ ex, PTs (cxC X scope N cl C s₀ H₀ ex) ifs tc) (he : ∀ C s₀ H₀ ex, PE (cxC X scope N cl C s₀ H₀ ex) elt te)
    (I2 : Inv X pins σ H2 s2) (T : Turn X.prog X.w X.K tg J fp it tn) (t2 : tn 0 s2.heap) (f2 : ∀ b ∈ fp, FpOk X pins H2 b) (q : tCompW own.length fr g tc te J σ H2 Q)
    (fin : ∀ D C s' H' m, Inv X pins σ H' s' → FpOk X pins H' C → s'.heap.Ns C m → Q (.ref D) H' → POST (.ref D) C (.ok .next) s') :
    wpAny (model X.prog X.w) X.A (newList []) (fun acc s3 => wpAny (model X.prog X.w) X.A (newFunctionEnv scope X.env.globals cl [] X.env.qual none .none (some X.env)) (fun cenv s4 =>
      codeAny (model X.prog X.w) X.A (.compStart (.ListComp elt [⟨tg, iter, ifs, 0⟩] scope pos) 0 (.ref it) acc { cenv with scope := relabel scope X.env }) (POST acc cenv.locals) s4) E s3) E s2 := by
  refine wpAny_newObj_type (wpAny_newFunctionEnv S.nocell (by intro y hy; simp at hy) (fun h4 ns4 sb4 => ?_) S.kind)
  dsimp only at ns4 sb4 ⊢
  have hD : H2 s2.heap.objs.size = none := I2.hok.fresh (Nat.le_refl _)
  obtain ⟨W, ⟨m0, w0⟩, turn⟩ := q s2.heap.objs.size hD
  have I3 : Inv X pins σ (upd H2 s2.heap.objs.size (.lst [])) { s2 with heap := s2.heap.push { cls := .type "list", dict := none, data := .seq ([] : List Value).toArray }, toks := s2.toks } :=
    I2.laid (fun b u q => Heap.get?_push_of_some _ q) (Nat.le_refl _) ⟨Nat.zero_le _, [], _, .nil, Heap.get?_push_size _ rfl⟩
  generalize hh3 : s2.heap.push { cls := .type "list", dict := none, data := .seq ([] : List Value).toArray } = h3 at *
  have z3 : h3.objs.size = s2.heap.objs.size + 1 := by rw [← hh3, Heap.size_push]
  have k23 : ∀ b o, s2.heap.get? b = some o → h3.get? b = some o := fun b o e => by rw [← hh3]; exact Heap.get?_push_of_some _ e
  have k34 : ∀ b o, h3.get? b = some o → h4.get? b = some o := fun b o e => sb4.extBut b o (Nat.ne_of_lt (Heap.lt_size e)) (Heap.get?_push_of_some _ e)
  have fpl : ∀ b ∈ fp, b < s2.heap.objs.size := fun b hb => by
    obtain ⟨o, e, _⟩ := T.obj _ _ t2 b hb
    exact Heap.lt_size e
  have f3 : ∀ b ∈ fp, FpOk X pins (upd H2 s2.heap.objs.size (.lst [])) b ∧ b < h3.objs.size := fun b hb => by
    refine ⟨⟨?_, (f2 b hb).2⟩, by rw [z3]; exact Nat.lt_succ_of_lt (fpl b hb)⟩
    rw [upd_ne (Nat.ne_of_lt (fpl b hb))]
    exact (f2 b hb).1
  generalize hs3 : ({ s2 with heap := h3, toks := s2.toks } : Shared) = s3 at I3
  have es3 : s3.heap = h3 := by rw [← hs3]
  have hs3' : ({ s2 with heap := h3 } : Shared) = s3 := hs3
  have I4 := inv_block (s3 := s3) (s4 := { s3 with heap := h4, toks := s3.toks + ([] : List (Str × Value)).length }) hc S c1 c2 I3 (by rw [es3]; exact f3) (by rw [es3]; exact k34) (m := fun x => ([] : List (Str × Value)).reverse.lookup x) (by rw [es3]; exact ns4) rfl rfl
  rw [es3] at I4
  have stat : ∀ {H' : Hp} {s' : Shared} {σ' : St} {pl : List (Addr × Obj)}, Inv (cxC X scope N cl h3.objs.size s3 (upd H2 s2.heap.objs.size (.lst [])) fp) pl σ' H' s' → (∀ p ∈ pl, p.1 ∉ fp) → (∀ b ∈ fp, H' b = none) → ∀ b ∈ fp, FpOk (cxC X scope N cl h3.objs.size s3 (upd H2 s2.heap.objs.size (.lst [])) fp) pl H' b := fun {H' s' σ' pl} I' hpl hn b hb => by
    refine ⟨hn b hb, Nat.ne_of_lt (f3 b hb).2, I'.ok.exfs b hb, .inl hb, fun x c e => (f2 b hb).2.2.2.2.1 x c (c1 x c e), fun p hp => ?_⟩
    intro z
    exact hpl p (by simpa [cxC] using hp) (z ▸ hb)
  have loop : ∀ s4 : Shared, s4 = { s3 with heap := h4, toks := s3.toks + ([] : List (Str × Value)).length } →
      codeAny (model X.prog X.w) X.A (.compLoop (.ListComp elt [⟨tg, iter, ifs, 0⟩] scope pos) 0 (.ref it) (.ref s2.heap.objs.size) (compEnvC scope cl h3.objs.size X.env)) (POST (.ref s2.heap.objs.size) h3.objs.size) s4 := by
    rintro s4 rfl
    refine comp_loop (fun n s' => ∃ i acc σ' H', Inv (cxC X scope N cl h3.objs.size s3 (upd H2 s2.heap.objs.size (.lst [])) fp) [] σ' H' s' ∧ tn i s'.heap ∧ (∀ b ∈ fp, H' b = none) ∧ H' s2.heap.objs.size = some (.lst acc) ∧ W i n acc σ' H') ?_ m0
      ⟨0, [], _, _, I4, T.keep _ _ _ t2 fun b hb o e => k34 b o (k23 b o e), fun b hb => (f3 b hb).1.1, upd_same, w0⟩
    rintro n s5 ⟨i, acc, σ5, H5, I5, t5, fr5, d5, w5⟩ E'
    rcases turn i n acc σ5 H5 w5 d5 with ⟨stop, qn⟩ | ⟨go, NN, hNN, step⟩
    · refine thn (T.done (cxC X scope N cl h3.objs.size s3 (upd H2 s2.heap.objs.size (.lst [])) fp) rfl rfl rfl hc i [] s5 σ5 H5 E' I5 (stat I5 (by simp) fr5) t5 stop) fun r s6 ⟨hr, I6⟩ => ?_
      subst hr
      obtain ⟨m6, n6, _⟩ := id I6.loc
      have J6 : Inv X pins σ H5 s6 := I3.call' (ch := fp) I6.os I6.base I6.hok I6.bare fun b hb => ⟨(f2 b hb).2.2.2.1, (f2 b hb).2.1, (f2 b hb).2.2.2.2.1, (f2 b hb).2.2.2.2.2⟩
      exact fin _ _ s6 H5 m6 J6 (I2.fpOk (by rw [z3]; exact Nat.le_succ _) I6.free) n6 qn
    · refine thn (T.item (cxC X scope N cl h3.objs.size s3 (upd H2 s2.heap.objs.size (.lst [])) fp) rfl rfl rfl hc i [] s5 σ5 H5 E' I5 (stat I5 (by simp) fr5) t5 go) fun r s6 ⟨u, hr, h6⟩ => ?_
      subst hr
      refine thn h6 fun _ s7 ⟨x, H7, I7, r7, y7, t7, fr7⟩ => ?_
      have I7' := I7.pinned (stat I7 (by simp) fr7) (T.obj _ _ t7)
      have backTn : ∀ {s' : Shared} {H' : Hp} {σ' : St}, Inv (cxC X scope N cl h3.objs.size s3 (upd H2 s2.heap.objs.size (.lst [])) fp) ([] ++ pinsAt fp s7.heap) σ' H' s' → tn (i + 1) s'.heap ∧ ∀ b ∈ fp, H' b = none := fun {s' H' σ'} I' => by
        refine ⟨T.keep _ _ _ t7 fun b hb o e => (I'.pin (b, o) (List.mem_append_right _ (List.mem_append_right _ (mem_pinsAt hb e)))).1, fun b hb => ?_⟩
        obtain ⟨o, e, _⟩ := T.obj _ _ t7 b hb
        exact (I'.pin (b, o) (List.mem_append_right _ (List.mem_append_right _ (mem_pinsAt hb e)))).2.1
      refine nx (hg _ _ _ _ _ s7 σ5 H7 x u _ I7' r7 (step x H7 y7)) fun _ s8 ⟨σ8, H8, I8, q8⟩ => ?_
      refine nx (ht _ _ _ _ _ s8 σ8 H8 _ I8 q8) fun ok s9 ⟨H9, I9, q9⟩ => ?_
      cases ok with
      | false =>
        obtain ⟨d9, n9⟩ := q9
        obtain ⟨m', hm, w9⟩ := hNN _ _ _ n9
        obtain ⟨a1, a2⟩ := backTn I9
        exact ⟨m', hm, i + 1, acc, σ8, H9, I9.unpinned, a1, a2, d9, w9⟩
      | true =>
        rw [if_pos rfl]
        refine nx (he _ _ _ _ _ s9 σ8 H9 _ I9 q9) fun y s10 ⟨v, H10, I10, r10, d10, l10, n10⟩ => ?_
        obtain ⟨m', hm, w10⟩ := hNN _ _ _ n10
        refine nx (mt_append _ s10 σ8 H10 (.ref s2.heap.objs.size) [v] (.ref s2.heap.objs.size) [y] (fun _ H' => H' = upd H10 s2.heap.objs.size (.lst (acc ++ [v]))) I10 rfl (.cons r10 .nil) ⟨_, acc, v, rfl, rfl, d10, l10, rfl⟩) fun _ s11 ⟨_, H11, I11, _, e11⟩ => ?_
        subst e11
        obtain ⟨a1, a2⟩ := backTn I11
        exact ⟨m', hm, i + 1, _, σ8, _, I11.unpinned, a1, a2, upd_same, w10⟩
  exact codeAny_compStart_list (loop _ (by rw [← hs3])) (T.self _ 0 _ _ _ (T.keep _ _ _ t2 fun b hb o e => k34 b o (k23 b o e)) (loop _ (by rw [← hs3])))
theorem pe_comp (osc : Scope) (NX own : List Str) (fr : List Nat) (N : List Str) {wi : TI} {g : TG} {tc : TT} {te : TE} (hc : X.calm = true)
    (hi : PI X tg iter wi) (hg : ∀ cl C s₀ H₀ ex, PG (cxC X scope N cl C s₀ H₀ ex) tg g) (ht : ∀ cl C s₀ H₀ ex, PTs (cxC X scope N cl C s₀ H₀ ex) ifs tc) (he : ∀ cl C s₀ H₀ ex, PE (cxC X scope N cl C s₀ H₀ ex) elt te)
    (hs : ∀ x, foldedSetIterable iter X.env x = pure x := by intro _; rfl) (hosc : X.env.scope = osc := by rfl) (hNX : X.N = NX := by rfl) (hS : compOk osc scope NX own fr N = true := by decide +kernel) :
    PE X (.ListComp elt [⟨tg, iter, ifs, 0⟩] scope pos) (tComp own.length fr wi g tc te) := by
  intro pins s σ H Q I h
  have S : CompSc X.env.scope scope X.N own fr N := by rw [hosc, hNX]; exact CompSc.of hS
  obtain ⟨cl, ecl, c1, c2⟩ := clos_ok (scope := scope) (env := X.env) fun y hy hf => I.ok.has y.1 (S.free y hy hf)
  rw [eval_ListComp]
  refine wpAny_comprehension_free (use := none) rfl hs ecl S.kind S.loc (thn (hi pins s σ H _ I h) fun v s1 h1 => thn h1 fun itv s2 h2 => ?_)
  obtain ⟨it, fp, tn, J, H2, e, I2, T, t2, f2, q⟩ := h2
  subst e
  refine comp_block (POST := fun acc C => compPost (model X.prog X.w) X.A X.xe none (EP X pins σ Q) acc C) hc S c1 c2 (hg cl) (ht cl) (he cl) I2 T t2 f2 q fun D C s' H' m I' fC ns q' => ?_
  refine ⟨m, ns, fun h' sb => ⟨.ref D, H', ?_, rfl, q'⟩⟩
  obtain ⟨g0, g1, _, g3, g4, g5⟩ := fC
  exact I'.turned (t' := s'.toks) (fun b o hb e => (sb.2 b hb).trans e) g0 g1 g3 g4 g5
theorem ps_setC {wi : TI} {g : TG} {tc : TT} {te : TE} {i : Nat} {x : Str} {px spos : Pos} (hN : X.N.Nodup) (hi' : X.N[i]? = some x) (hx : X.env.scope.names.lookup x = some .local)
    (hsw : swapsWith (.ListComp elt [⟨tg, iter, ifs, 0⟩] scope pos) (some (.Name x px)) spos.line X.env = pure true)
    (osc : Scope) (NX own : List Str) (fr : List Nat) (N : List Str) (hc : X.calm = true)
    (hi : PI X tg iter wi) (hg : ∀ cl C s₀ H₀ ex, PG (cxC X scope N cl C s₀ H₀ ex) tg g) (ht : ∀ cl C s₀ H₀ ex, PTs (cxC X scope N cl C s₀ H₀ ex) ifs tc) (he : ∀ cl C s₀ H₀ ex, PE (cxC X scope N cl C s₀ H₀ ex) elt te)
    (hs : ∀ x, foldedSetIterable iter X.env x = pure x := by intro _; rfl) (hosc : X.env.scope = osc := by rfl) (hNX : X.N = NX := by rfl) (hS : compOk osc scope NX own fr N = true := by decide +kernel) :
    PS X (.Assign [.Name x px] (.ListComp elt [⟨tg, iter, ifs, 0⟩] scope pos) spos) (tAsg (tComp own.length fr wi g tc te) (gName i)) := by
  intro pins s σ H D I h
  have S : CompSc X.env.scope scope X.N own fr N := by rw [hosc, hNX]; exact CompSc.of hS
  obtain ⟨cl, ecl, c1, c2⟩ := clos_ok (scope := scope) (env := X.env) fun y hy hf => I.ok.has y.1 (S.free y hy hf)
  rw [exec_Assign_Name_used _ _ _ _ hsw]
  refine wpAny_bind (wpAny_standAt (wpAny_bind ?_))
  show wpAny _ X.A (do let _ ← comprehension (.ListComp elt [⟨tg, iter, ifs, 0⟩] scope pos) scope X.env _ (newList []) false (eval iter X.env) (some (assign (.Name x px) X.env))) _ _ s
  refine wpAny_bind (thn (wpAny_comprehension_free (use := some (assign (.Name x px) X.env)) (Q := fun _ s' => SP X pins D .next s') rfl hs ecl S.kind S.loc (thn (hi pins s σ H _ I h) fun v s1 h1 => thn h1 fun itv s2 h2 => ?_)) fun _ s' hq => wpAny_pure (wpAny_pure hq))
  obtain ⟨it, fp, tn, J, H2, e, I2, T, t2, f2, q⟩ := h2
  subst e
  refine comp_block (POST := fun acc C => compPost (model X.prog X.w) X.A X.xe (some (assign (.Name x px) X.env)) (fun _ s' => SP X pins D .next s') acc C) hc S c1 c2 (hg cl) (ht cl) (he cl) I2 T t2 f2 q fun D' C s' H' m I' fC ns q' => ?_
  show wpAny _ X.A (assign (.Name x px) X.env (.ref D')) _ _ s'
  refine wpAny_assign_Name (store_ok2 I' hN hi' (.inl hx) (show RelV (.ref D') (.ref D') from rfl) (fun s3 I3 sb => ?_) (.inr hx))
  obtain ⟨a, sb, ha⟩ := sb
  obtain ⟨g0, g1, g2, g3, g4, g5⟩ := fC
  have aC : C ≠ a := by
    rcases ha with z | z
    · rw [z]; exact g1
    · exact fun w => g4 x a z w.symm
  refine ⟨m, ns.sameBut sb aC, fun h' sb' => ⟨_, H', ?_, q'⟩⟩
  exact I3.turned (t' := s3.toks) (fun b o hb e => (sb'.2 b hb).trans e) g0 g1 g3 g4 g5
end
end L2
namespace L2
open PySem PySem.Spec PyProof.Rows
noncomputable def sgV (x : Str) (i : Nat) : Option V := (x.cps[i]?).map fun c => V.str ⟨#[c]⟩
noncomputable def Its (x : Str) : It := ⟨fun i _ => i < x.cps.size, fun i H v H' => H' = H ∧ sgV x i = some v, fun i _ => x.cps.size ≤ i⟩
theorem turn_signs {P : Program} {w : World} {K : PySem.W.Frag} {tg : Expr} (T : String) (it : Addr) (x : Str) (t : Tok)
    (hn : ["enumerate", "zip", "dict_itemiterator", "dict_reverseitemiterator", "odict_iterator", "itertools.zip_longest", "itertools.pairwise"].contains T = false)
    (W : ∀ A : Around, A.handled = none → Walks P w A it [it] [it] x.cps.size (SignAt x) (fun i h => h.IsStrIter it T x t i))
    (hs : ∀ (A : Around) (i : Nat) (s : Shared) (Q : Value → Shared → Prop) (E : Value → Shared → Prop), s.heap.IsStrIter it T x t i → Q (.ref it) s → wpAny (model P w) A (pyIter (.ref it)) Q E s) :
    Turn P w K tg (Its x) [it] it (fun i h => h.IsStrIter it T x t i ∧ i ≤ x.cps.size) where
  mem := by simp
  obj := fun i h st b hb => by
    have e : b = it := by simpa using hb
    subst e
    obtain ⟨o, e, c, d⟩ := st.1
    exact ⟨o, e, fun v z => by rw [d] at z; cases z⟩
  keep := fun i h h' st k => ⟨by
    obtain ⟨o, e, c⟩ := st.1
    exact ⟨o, k it (by simp) o e, c⟩, st.2⟩
  item := by
    intro X hP hw hK hc i pins s σ H E I hf st hg
    subst hP hw hK
    obtain ⟨f0, f1, f2, f3, f4, f5⟩ := hf it (by simp)
    refine (W X.A (I.ok.hd hc)).item i s _ _ hg st.1 fun v h' tk hv st' kk => ?_
    obtain ⟨c, u, hcp, rfl⟩ := hv
    have I1 : Inv X pins σ H { s with heap := h', toks := tk } := I.turned (fun b o hb e => kk b o (by simpa using hb) e) f0 f1 f3 f4 f5
    obtain ⟨o, e, cc, d⟩ := id st'
    refine ⟨_, rfl, go_of (s := { s with heap := h', toks := tk }) e cc d hn ⟨.str ⟨#[c]⟩, H, I1, ⟨u, rfl⟩, ⟨rfl, ?_⟩, ⟨st', ?_⟩, fun b hb => (hf b hb).1⟩⟩
    · unfold sgV; rw [hcp]; rfl
    · exact hg
  done := by
    intro X hP hw hK hc i pins s σ H E I hf st hg
    subst hP hw hK
    obtain ⟨f0, f1, f2, f3, f4, f5⟩ := hf it (by simp)
    have e : i = x.cps.size := Nat.le_antisymm st.2 hg
    subst e
    exact (W X.A (I.ok.hd hc)).done s _ _ st.1 fun h' tk kk => ⟨rfl, I.turned (fun b o hb e => kk b o (by simpa using hb) e) f0 f1 f3 f4 f5⟩
  self := fun A i s Q E st h => hs A i s Q E st.1 h
noncomputable def iStr (tl : TE) : TI := fun σ H R => tl σ H fun x H1 => ∃ z, x = .str z ∧ R (Its z) H1
theorem pi_str {X : Cx} {tg l : Expr} {tl : TE} (hl : PE X l tl) : PI X tg l (iStr tl) := by
  intro pins s σ H R I h
  refine thn (hl pins s σ H _ I h) fun v s1 ⟨x, H1, I1, r1, q1⟩ => ?_
  obtain ⟨z, e, q⟩ := q1
  subst e
  obtain ⟨t, rfl⟩ := r1
  have fin : ∀ (T : String), ["enumerate", "zip", "dict_itemiterator", "dict_reverseitemiterator", "odict_iterator", "itertools.zip_longest", "itertools.pairwise"].contains T = false →
      (∀ A : Around, A.handled = none → Walks X.prog X.w A s1.heap.objs.size [s1.heap.objs.size] [s1.heap.objs.size] z.cps.size (SignAt z) (fun i h => h.IsStrIter s1.heap.objs.size T z t i)) →
      (∀ (A : Around) (i : Nat) (s : Shared) (Q : Value → Shared → Prop) (E : Value → Shared → Prop), s.heap.IsStrIter s1.heap.objs.size T z t i → Q (.ref s1.heap.objs.size) s → wpAny (model X.prog X.w) A (pyIter (.ref s1.heap.objs.size)) Q E s) →
      PIE X pins σ tg R (.ref s1.heap.objs.size) { s1 with heap := s1.heap.push { cls := .type T, data := .fields #[.str z t, .int 0 0] } } := fun T hn W hs => by
    refine ⟨_, [s1.heap.objs.size], _, _, H1, rfl, I1.kept (t' := s1.toks) fun b o e => Heap.get?_push_of_some _ e, turn_signs T _ z t hn W hs, ⟨⟨_, Heap.get?_push_size _ rfl, rfl, rfl⟩, Nat.zero_le _⟩, fun b hb => ?_, q⟩
    have e : b = s1.heap.objs.size := by simpa using hb
    subst e
    exact I1.fpOk (Nat.le_refl _) (I1.hok.fresh (Nat.le_refl _))
  cases ha : z.cps.all (· < 128)
  · exact wpAny_pyIter_wide ha (fin "str_iterator" (by decide) (fun A hA => Walks.strWide hA _ z t) fun A i s Q E st h => wpAny_pyIter_striter_wide st h)
  · exact wpAny_pyIter_ascii ha (fin "str_ascii_iterator" (by decide) (fun A hA => Walks.strAscii hA _ z t) fun A i s Q E st h => wpAny_pyIter_striter_ascii st h)
noncomputable def Ite (K : PySem.W.Frag) (a : Addr) : It :=
  ⟨fun i H => ∃ xs x, SqL K H a xs ∧ xs[i]? = some x, fun i H v H' => ∃ p x, H p = none ∧ v = .ref p ∧ (∀ xs, SqL K H a xs → xs[i]? = some x) ∧ H' = upd H p (.tup [.int i, x]), fun i H => ∃ xs, SqL K H a xs ∧ xs.length ≤ i⟩
theorem turn_enum {P : Program} {w : World} {K : PySem.W.Frag} {elts : List Expr} {k : Nat} {tp : Pos} (a e it : Addr) (hne : e ≠ it) :
    Turn P w K (.Tuple elts k tp) (Ite K a) [e, it] e (fun i h => (∃ old, IsEnum h e it i old) ∧ h.IsListIter it a i) where
  mem := by simp
  obj := fun i h st b hb => by
    obtain ⟨⟨old, he⟩, hit⟩ := st
    have hb : b = e ∨ b = it := by simpa using hb
    rcases hb with z | z
    · subst z
      exact ⟨_, he, fun v z => by cases z⟩
    · subst z
      obtain ⟨o, e1, c, d⟩ := hit
      exact ⟨o, e1, fun v z => by rw [d] at z; cases z⟩
  keep := fun i h h' st kk => by
    obtain ⟨⟨old, he⟩, hit⟩ := st
    exact ⟨⟨old, kk e (by simp) _ he⟩, hit.at fun o q => kk it (by simp) o q⟩
  item := by
    intro X hP hw hK hc i pins s σ H E I hf st hg
    subst hP hw hK
    obtain ⟨⟨old, he⟩, hit⟩ := st
    obtain ⟨xs, x, hq, hx⟩ := hg
    obtain ⟨its, rv, p, hz⟩ := I.list hq
    obtain ⟨u, hu, ru⟩ := rv.get hx
    obtain ⟨f0, f1, f2, f3, f4, f5⟩ := hf e (by simp)
    obtain ⟨g0, g1, g2, g3, g4, g5⟩ := hf it (by simp)
    refine wpAny_pyNext_enum_item he hit p.isList (x := u) (by simpa using hu) hne fun h1 ho hit1 ht1 hz1 k1 => ?_
    have hel : e < s.heap.objs.size := Heap.lt_size he
    have hil : it < s.heap.objs.size := by obtain ⟨o, q, _⟩ := hit; exact Heap.lt_size q
    refine ⟨_, rfl, wpAny_letOwnedTupleGo_enum ho fun h2 he2 sb2 => ?_⟩
    have sb2 : Heap.SameBut e h1 h2 := sb2
    have T2 : h2.get? s.heap.objs.size = some { cls := .type "tuple", data := .seq #[.int i s.toks, u] } := (sb2.2 _ (Nat.ne_of_gt hel)).trans ht1
    have hp : H s.heap.objs.size = none := I.hok.fresh (Nat.le_refl _)
    have nit : ∀ b v, H b = some v → b ≠ e ∧ b ≠ it := fun b v q => ⟨fun z => (by rw [z, f0] at q; cases q), fun z => (by rw [z, g0] at q; cases q)⟩
    have kk : ∀ b o, b ≠ e → b ≠ it → s.heap.get? b = some o → h2.get? b = some o := fun b o n1 n2 q => (sb2.2 b n1).trans (k1 b o n1 n2 q)
    have up : ∀ b v, H b = some v → upd H s.heap.objs.size (.tup [.int i, x]) b = some v := fun b v q => by rw [upd_ne (ne_of_none q hp)]; exact q
    have I1 : Inv X pins σ (upd H s.heap.objs.size (.tup [.int i, x])) { s with heap := h2, gens := s.gens, drawn := s.drawn, toks := s.toks + 1 } := by
      refine I.step (g' := s.gens) (d' := s.drawn) (ch := [e, it]) (fun b hb => ?_) (fun b o _ _ hb q _ => kk b o (fun z => hb (by simp [z])) (fun z => hb (by simp [z])) q) (fun b o _ _ hb q _ => ⟨o.slots, kk b o (fun z => hb (by simp [z])) (fun z => hb (by simp [z])) q⟩) (fun b o _ q n => ?_)
        (fun b o hb q => ⟨o, kk b o (fun z => hb (by simp [z])) (fun z => hb (by simp [z])) q⟩) (fun b ys q => up b _ q) (fun b o v q => up b _ q) (fun b ps q => ⟨#[], by rw [up b _ q]; simp⟩) (fun m hm => ?_) (fun b v q => ?_) I.bare
      · have hb : b = e ∨ b = it := by simpa using hb
        rcases hb with z | z
        · subst z; exact ⟨f3, f1, f4, f5⟩
        · subst z; exact ⟨g3, g1, g4, g5⟩
      · rw [upd_ne (Nat.ne_of_lt (Heap.lt_size q))]; exact n
      · obtain ⟨o, es, ep, ho, r⟩ := hm
        exact ⟨o, es, ep, kk _ o (Ne.symm f1) (Ne.symm g1) ho, r⟩
      · by_cases hb : b = s.heap.objs.size
        · subst hb
          rw [upd_same] at q
          have q' : HO.tup [V.int i, x] = v := Option.some.inj q
          subst q'
          exact ⟨by show 2 ≤ sizeLine; decide, [.int i s.toks, u], .cons ⟨_, rfl⟩ (.cons ru .nil), ⟨_, T2, rfl, _, rfl, rfl⟩⟩
        · rw [upd_ne hb] at q
          refine (I.hok b v q).stay (fun c v' hc q' => ?_) (fun c q => up c _ q) fun c ys q => up c _ q
          rcases hc with z | z
          · rw [z] at q' ⊢; exact kk b v' (nit b v q).1 (nit b v q).2 q'
          · exact kk c v' (nit c _ z).1 (nit c _ z).2 q'
    refine ⟨.ref s.heap.objs.size, upd H s.heap.objs.size (.tup [.int i, x]), I1, rfl, ⟨_, x, hp, rfl, fun ys hy => by rw [I.list_inj hy hq]; exact hx, rfl⟩, ⟨⟨u, ?_⟩, ?_⟩, fun b hb => ?_⟩
    · exact (by simpa using he2)
    · exact hit1.at fun o q => (sb2.2 it (Ne.symm hne)).trans q
    · have hb : b = e ∨ b = it := by simpa using hb
      rcases hb with z | z
      · rw [z, upd_ne (Nat.ne_of_lt hel)]; exact f0
      · rw [z, upd_ne (Nat.ne_of_lt hil)]; exact g0
  done := by
    intro X hP hw hK hc i pins s σ H E I hf st hg
    subst hP hw hK
    obtain ⟨⟨old, he⟩, hit⟩ := st
    obtain ⟨xs, hq, hx⟩ := hg
    obtain ⟨its, rv, p, hz⟩ := I.list hq
    obtain ⟨g0, g1, g2, g3, g4, g5⟩ := hf it (by simp)
    have hl := rv.length
    exact wpAny_pyNext_enum_end (I.ok.hd hc) he hit p.isList (by simp; omega) fun h' eb => ⟨rfl, I.turned (t' := s.toks) (fun b o hb q => eb b o hb q) g0 g1 g3 g4 g5⟩
  self := fun _ _ _ _ _ st h => by
    obtain ⟨⟨old, he⟩, _⟩ := st
    exact wpAny_pyIter_enum he h
end L2
namespace L2
open PySem PySem.Spec PyProof.Rows
mutual
inductive Rep (H : Hp) : V → PyData → Prop
  | non : Rep H .non .none
  | bl (b : Bool) : Rep H (.bl b) (.bool b)
  | int (i : Int) : Rep H (.int i) (.int i)
  | str (x : Str) : Rep H (.str x) (.str x)
  | lst {a : Addr} {xs : List V} {ds : List PyData} : H a = some (.lst xs) → RepAll H xs ds → Rep H (.ref a) (.list ds)
  | tup {a : Addr} {xs : List V} {ds : List PyData} : H a = some (.tup xs) → RepAll H xs ds → Rep H (.ref a) (.tuple ds)
inductive RepAll (H : Hp) : List V → List PyData → Prop
  | nil : RepAll H [] []
  | cons {x : V} {xs : List V} {d : PyData} {ds : List PyData} : Rep H x d → RepAll H xs ds → RepAll H (x :: xs) (d :: ds)
end
mutual
theorem Rep.reads {P : Program} {w : World} {H : Hp} {h : Heap} (ok : HOk P w H h) : ∀ {v : V} {d : PyData} {u : Value}, Rep H v d → RelV v u → ∃ as, Reads h u d as
  | _, _, _, .non, r => by cases r; exact ⟨_, .none⟩
  | _, _, _, .bl b, r => by cases r; exact ⟨_, .bool b⟩
  | _, _, _, .int i, r => by obtain ⟨t, rfl⟩ := r; exact ⟨_, .int i t⟩
  | _, _, _, .str x, r => by obtain ⟨t, rfl⟩ := r; exact ⟨_, .str x t⟩
  | _, _, _, .lst (a := a) (xs := xs) e rs, r => by
    cases r
    obtain ⟨_, its, n, rv, eh⟩ := (show ObjOk P w H h a (.lst xs) from ok a _ e)
    obtain ⟨as, z⟩ := RepAll.reads ok rs rv
    exact ⟨_, .list eh rfl rfl (by simpa using z)⟩
  | _, _, _, .tup (a := a) (xs := xs) e rs, r => by
    cases r
    obtain ⟨_, its, rv, o, eh, hc, n, hd, _⟩ := (show ObjOk P w H h a (.tup xs) from ok a _ e)
    obtain ⟨as, z⟩ := RepAll.reads ok rs rv
    exact ⟨_, .tuple eh hc hd (by simpa using z)⟩
theorem RepAll.reads {P : Program} {w : World} {H : Hp} {h : Heap} (ok : HOk P w H h) : ∀ {vs : List V} {ds : List PyData} {us : List Value}, RepAll H vs ds → Vals vs us → ∃ as, ReadsAll h us ds as
  | _, _, _, .nil, r => by cases r; exact ⟨_, .nil⟩
  | _, _, _, .cons q qs, r => by
    cases r with
    | cons r1 r2 =>
      obtain ⟨as, z⟩ := Rep.reads ok q r1
      obtain ⟨bs, zs⟩ := RepAll.reads ok qs r2
      exact ⟨_, .cons z zs⟩
end
mutual
theorem Rep.same {H H' : Hp} (s : Same H H') : ∀ {v : V} {d : PyData}, Rep H v d → Rep H' v d
  | _, _, .non => .non
  | _, _, .bl b => .bl b
  | _, _, .int i => .int i
  | _, _, .str x => .str x
  | _, _, .lst e rs => .lst (s _ _ e) (rs.same s)
  | _, _, .tup e rs => .tup (s _ _ e) (rs.same s)
theorem RepAll.same {H H' : Hp} (s : Same H H') : ∀ {vs : List V} {ds : List PyData}, RepAll H vs ds → RepAll H' vs ds
  | _, _, .nil => .nil
  | _, _, .cons q qs => .cons (q.same s) (qs.same s)
end
section
variable {X : Cx}
noncomputable def shp (d : PyData) : Prop := SeqAt.shaped d = true
noncomputable def rEqD : R2 := fun x y H Q => ∃ da db, Rep H x da ∧ Rep H y db ∧ shp da ∧ shp db ∧ Q (.bl (PyData.eqv da db)) H
noncomputable def rNeD : R2 := fun x y H Q => ∃ da db, Rep H x da ∧ Rep H y db ∧ shp da ∧ shp db ∧ Q (.bl (!PyData.eqv da db)) H
theorem op_eqD (hu : X.A.units + 64 < cLine) : OpR X (compareOp .Eq) rEqD := by
  intro pins s σ H x y v u Q I rx ry h
  obtain ⟨da, db, ra, rb, sa, sb, q⟩ := h
  obtain ⟨as, za⟩ := ra.reads I.hok rx
  obtain ⟨bs, zb⟩ := rb.reads I.hok ry
  exact eq_dataH za zb sa sb hu ⟨.bl _, H, I, rfl, q⟩
theorem op_neD (hu : X.A.units + 64 < cLine) : OpR X (compareOp .NotEq) rNeD := by
  intro pins s σ H x y v u Q I rx ry h
  obtain ⟨da, db, ra, rb, sa, sb, q⟩ := h
  obtain ⟨as, za⟩ := ra.reads I.hok rx
  obtain ⟨bs, zb⟩ := rb.reads I.hok ry
  exact ne_dataH za zb sa sb hu ⟨.bl _, H, I, rfl, q⟩
theorem op_le_str : OpR X (compareOp .LtE) (fun x y H Q => ∃ i j, x = .str i ∧ y = .str j ∧ Q (.bl (!decide (j.cps.toList < i.cps.toList))) H) := by
  intro pins s σ H x y v u Q I rx ry h
  obtain ⟨i, j, rfl, rfl, q⟩ := h
  obtain ⟨t, rfl⟩ := rx
  obtain ⟨t', rfl⟩ := ry
  exact PySem.P.le_str (fin_bl I q (by simp))
theorem all_range (bs : List Bool) : ((List.range bs.length).all fun i => bs.getD i false) = bs.all id := by
  rw [Bool.eq_iff_iff, List.all_eq_true, List.all_eq_true]
  constructor
  · intro h b hb
    obtain ⟨i, hi, rfl⟩ := List.mem_iff_getElem.mp hb
    have := h i (by simpa using hi)
    simpa [List.getD_eq_getElem?_getD, hi] using this
  · intro h i hi
    have hi : i < bs.length := by simpa using hi
    have := h bs[i] (List.getElem_mem hi)
    simpa [List.getD_eq_getElem?_getD, hi] using this
theorem vals_bl {bs : List Bool} {its : List Value} (r : Vals (bs.map V.bl) its) {i : Nat} {v : Value} (e : its[i]? = some v) : v = .bool (bs.getD i false) := by
  have hl := r.length
  rw [List.length_map] at hl
  have hi : i < bs.length := by rw [hl]; exact (List.getElem?_eq_some_iff.mp e).1
  obtain ⟨u, hu, ru⟩ := r.get (i := i) (x := V.bl (bs.getD i false)) (by rw [List.getElem?_map]; simp [List.getD_eq_getElem?_getD, hi])
  rw [e] at hu
  cases hu
  exact ru
theorem call_all_bl (hc : X.calm = true) : CallR X (.builtin "all") (fun xs H Q => ∃ p bs, xs = [.ref p] ∧ H p = some (.lst (List.map V.bl bs)) ∧ Q (.bl (bs.all id)) H) := by
  intro pins s σ H xs us Q I r h
  obtain ⟨p, bs, rfl, e, q⟩ := h
  obtain ⟨u, rfl, ru⟩ := vals1 r
  cases ru
  obtain ⟨hz, its, n, rv, eh⟩ := (show ObjOk X.prog X.w H s.heap p (.lst (List.map V.bl bs)) from I.hok p _ e)
  have hl : s.heap.IsList p its.toArray := ⟨_, eh, rfl, n, rfl⟩
  have hlen : its.length = bs.length := by have := rv.length; rw [List.length_map] at this; exact this.symm
  have hpl : p < s.heap.objs.size := Heap.lt_size eh
  refine call_all_walk (wpAny_pyIter_list hl ?_)
  refine ⟨s.heap.objs.size, [s.heap.objs.size, p], [s.heap.objs.size], its.toArray.size, _, _, fun i => bs.getD i false, rfl,
    Walks.list (A := X.A.in1) (I.ok.hd hc) _ p (Nat.ne_of_lt hpl) its.toArray, ⟨⟨_, Heap.get?_push_size _ rfl, rfl, rfl⟩, ⟨_, Heap.get?_push_of_some _ eh, rfl, n, rfl⟩⟩, ?_, fun h' tk hk => ?_⟩
  · intro i v s' Q' E' hv hQ'
    have hv : its[i]? = some v := by simpa using hv
    rw [vals_bl rv hv]
    exact wpAny_pure hQ'
  · refine ⟨.bl _, H, I.kept fun b o eb => hk b o (by simpa using Nat.ne_of_lt (Heap.lt_size eb)) (Heap.get?_push_of_some _ eb), rfl, ?_⟩
    rw [List.size_toArray, hlen, all_range]
    exact q
theorem strs_of : ∀ {ys : List Str} {us : List Value}, Vals (ys.map V.str) us → StrsAre us ys
  | [], us, r => by cases r; exact .nil
  | y :: ys, us, r => by
    cases r with
    | cons r1 r2 =>
      obtain ⟨t, rfl⟩ := r1
      exact .cons y t (strs_of r2)
noncomputable def rJoin : V → List V → Hp → VK → Prop := fun x xs H Q => ∃ z p ys, x = .str z ∧ xs = [.ref p] ∧ H p = some (.lst (List.map V.str ys)) ∧ (ys.map (·.length)).sum + ys.length * z.length ≤ 16777216 ∧ Q (.str (Txt.join z ys)) H
theorem mt_join : MtR X "str.join" rJoin := by
  intro pins s σ H x xs v us Q I rx rv h
  obtain ⟨z, p, ys, rfl, rfl, e, hz, q⟩ := h
  obtain ⟨t, rfl⟩ := rx
  obtain ⟨u, rfl, ru⟩ := vals1 rv
  cases ru
  obtain ⟨_, its, n, rv, eh⟩ := (show ObjOk X.prog X.w H s.heap p (.lst (List.map V.str ys)) from I.hok p _ e)
  exact join_list (D := p) (items := its.toArray) ⟨_, eh, rfl, n, rfl⟩ (by simpa using strs_of rv) hz fun t' k => ⟨.str _, H, I.tok k, ⟨t', rfl⟩, q⟩
noncomputable def rSlS : V → Option Int → Option Int → Hp → VK → Prop := fun x lo hi H Q => ∃ z, x = .str z ∧ z.length ≤ sizeLine ∧ Q (.str (Txt.slice z lo hi)) H
theorem sl_str : SlR X rSlS := by
  intro pins s σ H x v vl vu lo hi sl Q I rx hs pl pu h
  obtain ⟨z, rfl, hz, q⟩ := h
  obtain ⟨t, rfl⟩ := rx
  refine ⟨"str", _, PySem.F.slot_str_getitem.lookup, typeIs_str _ _ _, ?_⟩
  obtain ⟨o, h1, h2, h3⟩ := hs
  have fin : ∀ t' k, EP X pins σ Q (.str (Txt.slice z lo hi) t') { s with toks := k } := fun t' k => ⟨.str _, H, I.tok k, ⟨t', rfl⟩, q⟩
  cases pl with
  | none => cases pu with
    | none => exact wpAny_getItem_str_slice (l := none) (u := none) (st := none) ⟨o, h1, h2, h3⟩ rfl (post_val_or_str ⟨Nat.le_trans (Txt.slice_le z _ _) hz, fin⟩)
    | int j tj => exact wpAny_getItem_str_slice (l := none) (u := some (j, tj)) (st := none) ⟨o, h1, h2, h3⟩ rfl (post_val_or_str ⟨Nat.le_trans (Txt.slice_le z _ _) hz, fin⟩)
  | int i ti => cases pu with
    | none => exact wpAny_getItem_str_slice (l := some (i, ti)) (u := none) (st := none) ⟨o, h1, h2, h3⟩ rfl (post_val_or_str ⟨Nat.le_trans (Txt.slice_le z _ _) hz, fin⟩)
    | int j tj => exact wpAny_getItem_str_slice (l := some (i, ti)) (u := some (j, tj)) (st := none) ⟨o, h1, h2, h3⟩ rfl (post_val_or_str ⟨Nat.le_trans (Txt.slice_le z _ _) hz, fin⟩)
noncomputable def rIsi (K : PySem.W.Frag) (c : String) : List V → Hp → VK → Prop := fun xs H Q => ∃ x t b, xs = [x, .ty c] ∧ TyOf K H x t ∧ PySem.W.kitOne K t (.type c) = some b ∧ Q (.bl b) H
theorem call_isi (c : String) : CallR X (.builtin "isinstance") (rIsi X.K c) := by
  intro pins s σ H xs us Q I r h
  obtain ⟨x, t, b, rfl, ty, e, q⟩ := h
  obtain ⟨u, w', rfl, ru, rw'⟩ := vals2 r
  cases rw'
  exact isinst_ok I ru ty e fun tk => ⟨.bl b, H, I.tok tk, rfl, q⟩
theorem any_readOf {P : Program} {w : World} {H : Hp} {h : Heap} (ok : HOk P w H h) {d : PyData} : ∀ {xs : List V} {ds : List PyData} {us : List Value}, RepAll H xs ds → Vals xs us → PyData.canLayAll0 ds = true → us.any (fun u => PyData.eqv (SeqAt.readOf h u) d) = ds.any fun e => PyData.eqv e d
  | _, _, _, .nil, r, _ => by cases r; rfl
  | _, _, _, .cons q qs, r, hl => by
    cases r with
    | cons r1 r2 =>
      have hl' := Bool.and_eq_true_iff.mp (show (PyData.canLay0 _ && PyData.canLayAll0 _) = true from hl)
      obtain ⟨as, z⟩ := q.reads ok r1
      rw [List.any_cons, List.any_cons, SeqAt.readOf_eq hl'.1 z, any_readOf ok qs r2 hl'.2]
theorem mem_readOf {P : Program} {w : World} {H : Hp} {A : Around} {s : Shared} (ok : HOk P w H s.heap) {d : PyData} {x : V} {v : Value} {bs : List Addr} (zx : Reads s.heap v d bs) (hd : d.canLay0 = true) (hu : A.units + d.depth < cLine) :
    ∀ {xs : List V} {ds : List PyData} {us : List Value}, RepAll H xs ds → Vals xs us → PyData.canLayAll0 ds = true → ∀ u ∈ us, SeqAt.EqAt A s u v (PyData.eqv (SeqAt.readOf s.heap u) d)
  | _, _, _, .nil, r, _ => by cases r; intro u hu; cases hu
  | _, _, _, .cons q qs, r, hl => by
    cases r with
    | cons r1 r2 =>
      have hl' := Bool.and_eq_true_iff.mp (show (PyData.canLay0 _ && PyData.canLayAll0 _) = true from hl)
      intro u hm
      rcases List.mem_cons.mp hm with rfl | hm
      · obtain ⟨as, z⟩ := q.reads ok r1
        rw [SeqAt.readOf_eq hl'.1 z]
        exact SeqAt.eqAt_reads _ _ _ _ _ _ _ _ z zx hl'.1 hd (Nat.lt_of_le_of_lt (Nat.add_le_add_left (Nat.min_le_right _ _) _) hu)
      · exact mem_readOf (x := x) ok zx hd hu qs r2 hl'.2 u hm
noncomputable def rInD (neg : Bool) : R2 := fun x y H Q => ∃ p xs ds d, y = .ref p ∧ H p = some (.lst xs) ∧ RepAll H xs ds ∧ Rep H x d ∧ PyData.canLayAll0 ds = true ∧ d.canLay0 = true ∧ d.depth ≤ 16 ∧
  Q (.bl (if neg then !(ds.any fun e => PyData.eqv e d) else ds.any fun e => PyData.eqv e d)) H
theorem op_inD (hu : X.A.units + 64 < cLine) : OpR X (compareOp .In) (rInD false) := by
  intro pins s σ H x y v u Q I rx ry h
  obtain ⟨p, xs, ds, d, rfl, e, rs, r, cs, c, dp, q⟩ := h
  cases ry
  obtain ⟨_, its, n, rv, eh⟩ := (show ObjOk X.prog X.w H s.heap p (.lst xs) from I.hok p _ e)
  obtain ⟨bs, zx⟩ := r.reads I.hok rx
  refine SeqAt.in_listAt (fun u => PyData.eqv (SeqAt.readOf s.heap u) d) ⟨_, eh, rfl, n, rfl⟩ (fun w hw => mem_readOf (x := x) I.hok zx c (by show X.A.units + 1 + d.depth < cLine; omega) rs rv cs w (by simpa using hw)) ⟨.bl _, H, I, rfl, ?_⟩
  rw [show its.toArray.any (fun u => PyData.eqv (SeqAt.readOf s.heap u) d) = its.any (fun u => PyData.eqv (SeqAt.readOf s.heap u) d) by simp, any_readOf I.hok rs rv cs]
  exact q
theorem op_notInD (hu : X.A.units + 64 < cLine) : OpR X (compareOp .NotIn) (rInD true) := by
  intro pins s σ H x y v u Q I rx ry h
  obtain ⟨p, xs, ds, d, rfl, e, rs, r, cs, c, dp, q⟩ := h
  cases ry
  obtain ⟨_, its, n, rv, eh⟩ := (show ObjOk X.prog X.w H s.heap p (.lst xs) from I.hok p _ e)
  obtain ⟨bs, zx⟩ := r.reads I.hok rx
  refine SeqAt.notIn_listAt (fun u => PyData.eqv (SeqAt.readOf s.heap u) d) ⟨_, eh, rfl, n, rfl⟩ (fun w hw => mem_readOf (x := x) I.hok zx c (by show X.A.units + 1 + d.depth < cLine; omega) rs rv cs w (by simpa using hw)) ⟨.bl _, H, I, rfl, ?_⟩
  rw [show its.toArray.any (fun u => PyData.eqv (SeqAt.readOf s.heap u) d) = its.any (fun u => PyData.eqv (SeqAt.readOf s.heap u) d) by simp, any_readOf I.hok rs rv cs]
  exact q
end
end L2
namespace L2
open PySem PySem.Spec PyProof.Rows
structure Cal (P : Program) (w : World) (K : PySem.W.Frag) (mg : Str → Option Value) (base : Heap) (k : Nat) (x : Str) (ps : List Str) (sp : Sp) : Prop where
  ex : ∃ (f : Addr) (fd : FuncData), FnOk P w K mg base CX0 k f fd ps sp ∧ mg x = some (.ref f) ∧ PySem.W.keepIn K (.ref f) = true ∧ Binds K fd ps []
section
variable {X : Cx} {x : Str} {ps : List Str} {sp : Sp} {k j : Nat} {p pos : Pos} {e : Expr} {es : List Expr} {t : TA}
theorem pe_cal (c : Cal X.prog X.w X.K X.mg X.base k x ps sp) (hr : Room k X.A) (hg : Gl X x) (ha : PA X (e :: es) t)
    (hs : starEach (e :: es) X.env = (false, eval e X.env) :: starEach es X.env := by rfl) (hpl : (backTo pos (starEach es X.env)).any (·.1) = false := by rfl) (hdb : (x == ("__debug__" : Str)) = false := by decide) :
    PE X (.Call (.Name x p) (e :: es) [] pos) (tCall sp [] E0 t) := by
  obtain ⟨f, fd, G, mf, kp, b⟩ := c.ex
  exact pe_call G hr hg mf kp b .nil pass0 ha (hdb := hdb) (he := hs) (hpl := hpl)
end
section
variable {X : Cx}
inductive AddR (H : Hp) : V → V → VK → Prop
  | int {i j : Int} {Q : VK} : Q (.int (i + j)) H → AddR H (.int i) (.int j) Q
  | str {i j : Str} {Q : VK} : i.length + j.length ≤ sizeLine → Q (.str (i ++ j)) H → AddR H (.str i) (.str j) Q
  | lst {l b : Addr} {xs zs : List V} {Q : VK} : H l = some (.lst xs) → H b = some (.lst zs) → xs.length + zs.length ≤ sizeLine → (∀ p, H p = none → Q (.ref p) (upd H p (.lst (xs ++ zs)))) → AddR H (.ref l) (.ref b) Q
theorem op_addX : OpR X (binaryOp .Add) (fun x y H Q => AddR H x y Q) := by
  intro pins s σ H x y v u Q I rx ry h
  cases h with
  | int q => exact op_add pins s σ H _ _ v u Q I rx ry ⟨_, _, rfl, rfl, q⟩
  | str hz q => exact op_add_str pins s σ H _ _ v u Q I rx ry ⟨_, _, rfl, rfl, hz, q⟩
  | lst h1 h2 hz q => exact op_cat pins s σ H _ _ v u Q I rx ry ⟨_, _, _, _, rfl, rfl, h1, h2, hz, q⟩
inductive EqR (neg : Bool) (H : Hp) : V → V → VK → Prop
  | sc {x y : V} {Q : VK} : scal x y = true → Q (.bl (if neg then !decide (x = y) else decide (x = y))) H → EqR neg H x y Q
  | tr {x y : V} {da db : PyData} {Q : VK} : Rep H x da → Rep H y db → shp da → shp db → Q (.bl (if neg then !PyData.eqv da db else PyData.eqv da db)) H → EqR neg H x y Q
theorem op_eqX (hu : X.A.units + 64 < cLine) : OpR X (compareOp .Eq) (fun x y H Q => EqR false H x y Q) := by
  intro pins s σ H x y v u Q I rx ry h
  cases h with
  | sc h q => exact op_eq pins s σ H _ _ v u Q I rx ry ⟨h, q⟩
  | tr ra rb sa sb q => exact op_eqD hu pins s σ H _ _ v u Q I rx ry ⟨_, _, ra, rb, sa, sb, q⟩
theorem op_neX (hu : X.A.units + 64 < cLine) : OpR X (compareOp .NotEq) (fun x y H Q => EqR true H x y Q) := by
  intro pins s σ H x y v u Q I rx ry h
  cases h with
  | sc h q => exact op_ne pins s σ H _ _ v u Q I rx ry ⟨h, q⟩
  | tr ra rb sa sb q => exact op_neD hu pins s σ H _ _ v u Q I rx ry ⟨_, _, ra, rb, sa, sb, q⟩
inductive SlX (K : PySem.W.Frag) (H : Hp) : V → Option Int → Option Int → VK → Prop
  | str {z : Str} {lo hi : Option Int} {Q : VK} : z.length ≤ sizeLine → Q (.str (Txt.slice z lo hi)) H → SlX K H (.str z) lo hi Q
  | lst {a : Addr} {xs : List V} {lo hi : Option Int} {Q : VK} : SqL K H a xs → (∀ p, H p = none → Q (.ref p) (upd H p (.lst (cutV xs lo hi)))) → SlX K H (.ref a) lo hi Q
theorem sl_X : SlR X (fun x lo hi H Q => SlX X.K H x lo hi Q) := by
  intro pins s σ H x v vl vu lo hi sl Q I rx hs pl pu h
  cases h with
  | str hz q => exact sl_str pins s σ H _ v vl vu lo hi sl Q I rx hs pl pu ⟨_, rfl, hz, q⟩
  | lst h1 q => exact sl_list pins s σ H _ v vl vu lo hi sl Q I rx hs pl pu ⟨_, _, rfl, h1, q⟩
end
section
variable {X : Cx}
inductive CmR (f : Int → Int → Bool) (g : Str → Str → Bool) (H : Hp) : V → V → VK → Prop
  | int {i j : Int} {Q : VK} : Q (.bl (f i j)) H → CmR f g H (.int i) (.int j) Q
  | str {i j : Str} {Q : VK} : Q (.bl (g i j)) H → CmR f g H (.str i) (.str j) Q
theorem op_leX : OpR X (compareOp .LtE) (fun x y H Q => CmR (fun i j => decide (i ≤ j)) (fun i j => !decide (j.cps.toList < i.cps.toList)) H x y Q) := by
  intro pins s σ H x y v u Q I rx ry h
  cases h with
  | int q => exact op_le pins s σ H _ _ v u Q I rx ry ⟨_, _, rfl, rfl, q⟩
  | str q => exact op_le_str pins s σ H _ _ v u Q I rx ry ⟨_, _, rfl, rfl, q⟩
theorem op_ltX : OpR X (compareOp .Lt) (fun x y H Q => CmR (fun i j => decide (i < j)) (fun i j => decide (i.cps.toList < j.cps.toList)) H x y Q) := by
  intro pins s σ H x y v u Q I rx ry h
  cases h with
  | int q => exact op_lt pins s σ H _ _ v u Q I rx ry ⟨_, _, rfl, rfl, q⟩
  | str q => exact op_lt_str pins s σ H _ _ v u Q I rx ry ⟨_, _, rfl, rfl, q⟩
inductive IsB (neg : Bool) (H : Hp) : V → V → VK → Prop
  | int {i : Int} {b : Bool} {Q : VK} : Q (.bl neg) H → IsB neg H (.int i) (.bl b) Q
  | bl {c b : Bool} {Q : VK} : Q (.bl (if neg then !decide (c = b) else decide (c = b))) H → IsB neg H (.bl c) (.bl b) Q
  | non {x : V} {Q : VK} : Q (.bl (if neg then !decide (x = .non) else decide (x = .non))) H → IsB neg H x .non Q
theorem op_isNotX : OpR X (compareOp .IsNot) (fun x y H Q => IsB true H x y Q) := by
  intro pins s σ H x y v u Q I rx ry h
  cases h with
  | int q =>
    obtain ⟨t, rfl⟩ := rx
    cases ry
    exact wpAny_isNot_other (by rfl) (by intro z; cases z) ⟨.bl _, H, I, rfl, q⟩
  | @bl c b _ q =>
    cases rx
    cases ry
    exact wpAny_isNot_plain (by rfl) (fin_bl I q (by cases c <;> cases b <;> rfl))
  | non q => exact op_notN pins s σ H _ _ v u Q I rx ry ⟨rfl, q⟩
theorem m_join (K : PySem.W.Frag) {o e : Expr} {to : TE} {t : TA} {apos cpos : Pos} (ho : PE X o to) (ha : PA X [e] t)
    (hbase : attributeBase o "join" X.env (eval o X.env) = eval o X.env := by rfl)
    (hfew : ((backTo cpos (starEach [e] X.env)).all (fun x => !x.1) && (backToKw cpos (keywordEach [] X.env)).all (fun x => x.1.isSome)
      && decide ([e].length + ([] : List Keyword).length + (if ([] : List Keyword).isEmpty then 0 else 1) < 30)) = true := by rfl)
    (hline : (apos.endLine == cpos.line) = true := by rfl) (hs : starEach [e] X.env = (false, eval e X.env) :: starEach [] X.env := by rfl) (hplain : (backTo cpos (starEach [] X.env)).any (·.1) = false := by rfl) (hK : X.K = K := by rfl) :
    PE X (.Call (.Attribute o "join" apos) [e] [] cpos) (tBM K "str" rJoin to t) := hK ▸ pe_bm PySem.F.plainAttrs_str PySem.F.slot_str_join PySem.F.type_str_join mt_join ho ha hbase hfew hline hs hplain
theorem m_append (K : PySem.W.Frag) {o e : Expr} {to : TE} {t : TA} {apos cpos : Pos} (ho : PE X o to) (ha : PA X [e] t)
    (hbase : attributeBase o "append" X.env (eval o X.env) = eval o X.env := by rfl)
    (hfew : ((backTo cpos (starEach [e] X.env)).all (fun x => !x.1) && (backToKw cpos (keywordEach [] X.env)).all (fun x => x.1.isSome)
      && decide ([e].length + ([] : List Keyword).length + (if ([] : List Keyword).isEmpty then 0 else 1) < 30)) = true := by rfl)
    (hline : (apos.endLine == cpos.line) = true := by rfl) (hs : starEach [e] X.env = (false, eval e X.env) :: starEach [] X.env := by rfl) (hplain : (backTo cpos (starEach [] X.env)).any (·.1) = false := by rfl) (hK : X.K = K := by rfl) :
    PE X (.Call (.Attribute o "append" apos) [e] [] cpos) (tBM K "list" rAppend to t) := hK ▸ pe_bm PySem.F.plainAttrs_list PySem.F.slot_list_append PySem.F.type_list_append mt_append ho ha hbase hfew hline hs hplain
theorem sl_K (K : PySem.W.Frag) (hK : X.K = K := by rfl) : SlR X (fun x lo hi H Q => SlX K H x lo hi Q) := hK ▸ sl_X
theorem pi_listK (K : PySem.W.Frag) {tg l : Expr} {tl : TE} (hl : PE X l tl) (hK : X.K = K := by rfl) : PI X tg l (iList K tl) := hK ▸ pi_list hl
theorem pi_tupK (K : PySem.W.Frag) {tg l : Expr} {tl : TE} (hl : PE X l tl) (hK : X.K = K := by rfl) : PI X tg l (iTup K tl) := hK ▸ pi_tup hl
end
theorem gYes {i : Nat} {v : V} {σ : St} {H : Hp} {A B : St → Hp → Prop} (h : A (σ.set i (some v)) H) : gName i v σ H fun σ2 H3 => tYes σ2 H3 fun b H4 => if b = true then A σ2 H4 else B σ2 H4 := by
  show (if true = true then A (σ.set i (some v)) H else B (σ.set i (some v)) H)
  rw [if_pos rfl]
  exact h
section
variable {K : PySem.W.Frag} {k : Nat} {fr : List Nat} {g : TG} {tc : TT} {te : TE} {σ : St} {H1 : Hp} {Q : VK}
theorem comp_items {J : It} (xs : List V) (Ok : Hp → Prop) (hgo : ∀ i H, Ok H → i < xs.length → J.go i H) (hyl : ∀ i H x H', Ok H → i < xs.length → J.yld i H x H' → H' = H ∧ xs[i]? = some x) (hst : ∀ H, Ok H → J.stop xs.length H)
    (Pv : Addr → Nat → List V → St → Hp → Prop)
    (h : ∀ D, H1 D = none → Pv D 0 [] (inSt k fr σ) (upd H1 D (.lst [])) ∧ (∀ i acc σ' H', i ≤ xs.length → Pv D i acc σ' H' → H' D = some (.lst acc) → Ok H') ∧
      (∀ i acc σ' H' x, xs[i]? = some x → Pv D i acc σ' H' → H' D = some (.lst acc) → g x σ' H' fun σ2 H3 => tc σ2 H3 fun b H4 =>
        if b = true then te σ2 H4 fun y H5 => H5 D = some (.lst acc) ∧ acc.length < sizeLine ∧ Pv D (i + 1) (acc ++ [y]) σ2 (upd H5 D (.lst (acc ++ [y]))) else H4 D = some (.lst acc) ∧ Pv D (i + 1) acc σ2 H4) ∧
      ∀ acc σ' H', Pv D xs.length acc σ' H' → H' D = some (.lst acc) → Q (.ref D) H') : tCompW k fr g tc te J σ H1 Q := by
  intro D hD
  obtain ⟨h0, hok, hs, hd⟩ := h D hD
  refine ⟨fun i m acc σ' H' => m = xs.length - i ∧ i ≤ xs.length ∧ Pv D i acc σ' H', ⟨xs.length, by simp, Nat.zero_le _, h0⟩, ?_⟩
  rintro i m acc σ' H' ⟨rfl, hi, p⟩ hacc
  have ok := hok i acc σ' H' hi p hacc
  by_cases hlt : i < xs.length
  · refine .inr ⟨hgo i H' ok hlt, Pv D (i + 1), fun acc' σ2 H2 p' => ⟨xs.length - (i + 1), by omega, rfl, hlt, p'⟩, fun x H2 y => ?_⟩
    obtain ⟨e, hx⟩ := hyl i H' x H2 ok hlt y
    subst e
    exact hs i acc σ' H2 x hx p hacc
  · have e : i = xs.length := by omega
    subst e
    exact .inl ⟨hst H' ok, hd acc σ' H' p hacc⟩
noncomputable def rngV (n : Nat) : List V := (List.range n).map fun i => V.int (0 + (i : Nat))
theorem comp_range {n : Nat} (Pv : Addr → Nat → List V → St → Hp → Prop)
    (h : ∀ D, H1 D = none → Pv D 0 [] (inSt k fr σ) (upd H1 D (.lst [])) ∧
      (∀ i acc σ' H', i < n → Pv D i acc σ' H' → H' D = some (.lst acc) → g (.int (0 + (i : Nat))) σ' H' fun σ2 H3 => tc σ2 H3 fun b H4 =>
        if b = true then te σ2 H4 fun y H5 => H5 D = some (.lst acc) ∧ acc.length < sizeLine ∧ Pv D (i + 1) (acc ++ [y]) σ2 (upd H5 D (.lst (acc ++ [y]))) else H4 D = some (.lst acc) ∧ Pv D (i + 1) acc σ2 H4) ∧
      ∀ acc σ' H', Pv D n acc σ' H' → H' D = some (.lst acc) → Q (.ref D) H') : tCompW k fr g tc te (Itr 0 n) σ H1 Q := by
  have hl : (rngV n).length = n := by simp [rngV]
  refine comp_items (rngV n) (fun _ => True) (fun i H _ hi => by rw [hl] at hi; exact hi) (fun i H x H' _ hi y => ⟨y.1, ?_⟩) (fun H _ => by show n ≤ (rngV n).length; rw [hl]; exact Nat.le_refl _) Pv fun D hD => ?_
  · rw [hl] at hi
    rw [y.2]
    simp [rngV, hi]
  · obtain ⟨a, b, c⟩ := h D hD
    refine ⟨a, fun _ _ _ _ _ _ _ => trivial, fun i acc σ' H' x hx p hacc => ?_, by rw [hl]; exact c⟩
    have hi : i < n := by rw [← hl]; exact (List.getElem?_eq_some_iff.mp hx).1
    have e : x = V.int (0 + (i : Nat)) := by
      simp [rngV, hi] at hx
      rw [← hx]; simp
    subst e
    exact b i acc σ' H' hi p hacc
theorem comp_list {a : Addr} (xs : List V) (Pv : Addr → Nat → List V → St → Hp → Prop)
    (h : ∀ D, H1 D = none → Pv D 0 [] (inSt k fr σ) (upd H1 D (.lst [])) ∧ (∀ i acc σ' H', i ≤ xs.length → Pv D i acc σ' H' → H' D = some (.lst acc) → SqL K H' a xs) ∧
      (∀ i acc σ' H' x, xs[i]? = some x → Pv D i acc σ' H' → H' D = some (.lst acc) → g x σ' H' fun σ2 H3 => tc σ2 H3 fun b H4 =>
        if b = true then te σ2 H4 fun y H5 => H5 D = some (.lst acc) ∧ acc.length < sizeLine ∧ Pv D (i + 1) (acc ++ [y]) σ2 (upd H5 D (.lst (acc ++ [y]))) else H4 D = some (.lst acc) ∧ Pv D (i + 1) acc σ2 H4) ∧
      ∀ acc σ' H', Pv D xs.length acc σ' H' → H' D = some (.lst acc) → Q (.ref D) H') : tCompW k fr g tc te (Itl K a) σ H1 Q :=
  comp_items xs (fun H => SqL K H a xs) (fun i H q hi => ⟨xs, xs[i], q, by simp [hi]⟩) (fun i H x H' q hi y => ⟨y.1, y.2 xs q⟩) (fun H q => ⟨xs, q, Nat.le_refl _⟩) Pv h
theorem comp_tup {a : Addr} (xs : List V) (Pv : Addr → Nat → List V → St → Hp → Prop)
    (h : ∀ D, H1 D = none → Pv D 0 [] (inSt k fr σ) (upd H1 D (.lst [])) ∧ (∀ i acc σ' H', i ≤ xs.length → Pv D i acc σ' H' → H' D = some (.lst acc) → SqT K H' a xs) ∧
      (∀ i acc σ' H' x, xs[i]? = some x → Pv D i acc σ' H' → H' D = some (.lst acc) → g x σ' H' fun σ2 H3 => tc σ2 H3 fun b H4 =>
        if b = true then te σ2 H4 fun y H5 => H5 D = some (.lst acc) ∧ acc.length < sizeLine ∧ Pv D (i + 1) (acc ++ [y]) σ2 (upd H5 D (.lst (acc ++ [y]))) else H4 D = some (.lst acc) ∧ Pv D (i + 1) acc σ2 H4) ∧
      ∀ acc σ' H', Pv D xs.length acc σ' H' → H' D = some (.lst acc) → Q (.ref D) H') : tCompW k fr g tc te (Itt K a) σ H1 Q :=
  comp_items xs (fun H => SqT K H a xs) (fun i H q hi => ⟨xs, xs[i], q, by simp [hi]⟩) (fun i H x H' q hi y => ⟨y.1, y.2 xs q⟩) (fun H q => ⟨xs, q, Nat.le_refl _⟩) Pv h
noncomputable def signsV (z : Str) : List V := z.cps.toList.map fun c => V.str ⟨#[c]⟩
theorem comp_str {z : Str} (Pv : Addr → Nat → List V → St → Hp → Prop)
    (h : ∀ D, H1 D = none → Pv D 0 [] (inSt k fr σ) (upd H1 D (.lst [])) ∧
      (∀ i acc σ' H' c, z.cps.toList[i]? = some c → Pv D i acc σ' H' → H' D = some (.lst acc) → g (.str ⟨#[c]⟩) σ' H' fun σ2 H3 => tc σ2 H3 fun b H4 =>
        if b = true then te σ2 H4 fun y H5 => H5 D = some (.lst acc) ∧ acc.length < sizeLine ∧ Pv D (i + 1) (acc ++ [y]) σ2 (upd H5 D (.lst (acc ++ [y]))) else H4 D = some (.lst acc) ∧ Pv D (i + 1) acc σ2 H4) ∧
      ∀ acc σ' H', Pv D z.cps.toList.length acc σ' H' → H' D = some (.lst acc) → Q (.ref D) H') : tCompW k fr g tc te (Its z) σ H1 Q := by
  have hl : (signsV z).length = z.cps.toList.length := by simp [signsV]
  refine comp_items (signsV z) (fun _ => True) (fun i H _ hi => by rw [hl] at hi; show i < z.cps.size; simpa using hi) (fun i H x H' _ hi y => ⟨y.1, ?_⟩) (fun H _ => by show z.cps.size ≤ (signsV z).length; rw [hl]; simp) Pv fun D hD => ?_
  · have y2 := y.2
    unfold sgV at y2
    simp only [signsV, List.getElem?_map, Array.getElem?_toList]
    exact y2
  · obtain ⟨a, b, c⟩ := h D hD
    refine ⟨a, fun _ _ _ _ _ _ _ => trivial, fun i acc σ' H' x hx p hacc => ?_, by rw [hl]; exact c⟩
    simp only [signsV, List.getElem?_map] at hx
    cases e : z.cps.toList[i]? with
    | none => rw [e] at hx; cases hx
    | some cc =>
      rw [e] at hx
      cases hx
      exact b i acc σ' H' cc e p hacc
end
noncomputable def But (p : Addr) (H H' : Hp) : Prop := ∀ b o, b ≠ p → H b = some o → H' b = some o
theorem But.refl (p : Addr) (H : Hp) : But p H H := fun _ _ _ h => h
theorem But.trans {p : Addr} {H H1 H2 : Hp} (a : But p H H1) (b : But p H1 H2) : But p H H2 := fun c o n h => b c o n (a c o n h)
theorem But.upd {p : Addr} {H : Hp} {o : HO} : But p H (upd H p o) := fun b o' n h => by rw [upd_ne n]; exact h
theorem But.of_same {p : Addr} {H H' : Hp} (s : Same H H') : But p H H' := fun b o _ h => s b o h
theorem Same.new {H : Hp} {p : Addr} {o : HO} (h : H p = none) : Same H (upd H p o) := fun b o' e => by rw [upd_ne (ne_of_none e h)]; exact e
theorem Rd.but {p : Addr} {H H' : Hp} (b : But p H H') {a : Addr} {u : HO} (n : a ≠ p) (h : Rd H a u) : Rd H' a u := by
  rcases h with h | ⟨o, h⟩
  · exact .inl (b _ _ n h)
  · exact .inr ⟨o, b _ _ n h⟩
theorem SqL.but {K : PySem.W.Frag} {p : Addr} {H H' : Hp} (b : But p H H') {a : Addr} {xs : List V} (n : a ≠ p) (h : SqL K H a xs) : SqL K H' a xs := by
  rcases h with h | h
  · exact .inl (h.but b n)
  · exact .inr h
structure Blt (mg : Str → Option Value) : Prop where
  len : mg "len" = none
  range : mg "range" = none
  abs : mg "abs" = none
  all : mg "all" = none
  repr : mg "repr" = none
  isinstance : mg "isinstance" = none
  str : mg "str" = none
  int : mg "int" = none
  bool : mg "bool" = none
  enumerate : mg "enumerate" = none
  list : mg "list" = none
  tuple : mg "tuple" = none
  dict : mg "dict" = none
  min : mg "min" = none
  max : mg "max" = none
section
variable {X : Cx} {p pos : Pos} {e f : Expr} {t : TA}
noncomputable def rLen (K : PySem.W.Frag) : List V → Hp → VK → Prop := fun xs H Q => ∃ x n, xs = [x] ∧ LenV K x H n ∧ Q (.int n) H
noncomputable def rAbs : List V → Hp → VK → Prop := fun xs H Q => ∃ i, xs = [.int i] ∧ Q (.int (if i < 0 then -i else i)) H
noncomputable def rAll : List V → Hp → VK → Prop := fun xs H Q => ∃ p bs, xs = [.ref p] ∧ H p = some (.lst (List.map V.bl bs)) ∧ Q (.bl (bs.all id)) H
theorem b_len (K : PySem.W.Frag) (B : Blt X.mg) (ha : PA X [e] t) (hg : Gl X "len" := by rfl) (he : starEach [e] X.env = (false, eval e X.env) :: starEach [] X.env := by rfl) (hpl : (backTo pos (starEach [] X.env)).any (·.1) = false := by rfl) (hK : X.K = K := by rfl) : PE X (.Call (.Name "len" p) [e] [] pos) (tCB (rLen K) t) :=
  hK ▸ pe_callB call_len hg B.len PySem.boot_len ha (by decide) (by decide) he hpl
theorem b_abs (B : Blt X.mg) (ha : PA X [e] t) (hg : Gl X "abs" := by rfl) (he : starEach [e] X.env = (false, eval e X.env) :: starEach [] X.env := by rfl) (hpl : (backTo pos (starEach [] X.env)).any (·.1) = false := by rfl) : PE X (.Call (.Name "abs" p) [e] [] pos) (tCB rAbs t) :=
  pe_callB call_abs hg B.abs boot_abs ha (by decide) (by decide) he hpl
theorem b_all (hc : X.calm = true) (B : Blt X.mg) (ha : PA X [e] t) (hg : Gl X "all" := by rfl) (he : starEach [e] X.env = (false, eval e X.env) :: starEach [] X.env := by rfl) (hpl : (backTo pos (starEach [] X.env)).any (·.1) = false := by rfl) : PE X (.Call (.Name "all" p) [e] [] pos) (tCB rAll t) :=
  pe_callB (call_all_bl hc) hg B.all boot_all ha (by decide) (by decide) he hpl
theorem b_isi (K : PySem.W.Frag) (c : String) (B : Blt X.mg) (ha : PA X [e, f] t) (hg : Gl X "isinstance" := by rfl) (he : starEach [e, f] X.env = (false, eval e X.env) :: starEach [f] X.env := by rfl) (hpl : (backTo pos (starEach [f] X.env)).any (·.1) = false := by rfl) (hK : X.K = K := by rfl) : PE X (.Call (.Name "isinstance" p) [e, f] [] pos) (tCB (rIsi K c) t) :=
  hK ▸ pe_callB (call_isi c) hg B.isinstance boot_isinstance ha (by decide) (by decide) he hpl
theorem g_str (B : Blt X.mg) (hg : Gl X "str" := by rfl) : PE X (.Name "str" p) (tC (.ty "str")) := pe_bltn hg B.str PyProof.Rows.boot_str rfl
theorem g_list (B : Blt X.mg) (hg : Gl X "list" := by rfl) : PE X (.Name "list" p) (tC (.ty "list")) := pe_bltn hg B.list (show bootBuiltins "list" = some (.type "list") by decide +kernel) rfl
end
end L2
namespace L2
open PySem PySem.Spec PyProof.Rows PySem.Builtin PySem.Builtin.Str
theorem len_app (x y : Str) : (x ++ y).length = x.length + y.length := by
  show (x.cps ++ y.cps).size = x.cps.size + y.cps.size
  rw [Array.size_append]
theorem sum_le {ys : List Str} {n : Nat} (h : ∀ y ∈ ys, y.length ≤ n) : (ys.map (·.length)).sum ≤ ys.length * n := by
  induction ys with
  | nil => simp
  | cons y r ih =>
    have h1 := h y (by simp)
    have h2 := ih fun z hz => h z (List.mem_cons_of_mem _ hz)
    simp only [List.map_cons, List.sum_cons, List.length_cons]
    rw [Nat.succ_mul]
    omega
theorem at_ok {α : Type} {xs : List α} {j : Int} (h0 : 0 ≤ j) (h1 : j < xs.length) : ∃ v, atI xs j = some v ∧ v ∈ xs := by
  obtain ⟨k, rfl⟩ := Int.eq_ofNat_of_zero_le h0
  have hk : k < xs.length := by omega
  exact ⟨xs[k], atI_nat (by simp [hk]), List.getElem_mem hk⟩
theorem at_int {ns : List Int} {j : Int} (h0 : 0 ≤ j) (h1 : j < (ns.map V.int).length) : ∃ c, atI (ns.map V.int) j = some (.int c) := by
  obtain ⟨v, e, m⟩ := at_ok h0 h1
  obtain ⟨c, _, rfl⟩ := List.mem_map.mp m
  exact ⟨c, e⟩
theorem fst_small (x : Int) : -(2 ^ 64) < x % 2147483647 ∧ x % 2147483647 < 2 ^ 64 := by
  have h1 := Int.emod_nonneg x (show (2147483647 : Int) ≠ 0 by decide)
  have h2 := Int.emod_lt_of_pos x (show (0 : Int) < 2147483647 by decide)
  omega
theorem But.at {p D : Addr} {H H' : Hp} {o : HO} (b : But p H H') (hD : H D = none) : But p H (L2.upd H' D o) := fun c o' n h => by rw [upd_ne (ne_of_none h hD)]; exact b c o' n h
theorem But.free {p D : Addr} {H H' : Hp} (b : But p H H') (n : D ≠ p) (h : H' D = none) : H D = none := by
  cases e : H D with
  | none => rfl
  | some o => rw [b D o n e] at h; cases h
end L2
namespace L2
open PySem PySem.Spec PyProof.Rows
section
variable {X : Cx}
inductive InR (K : PySem.W.Frag) (neg : Bool) (H : Hp) : V → V → VK → Prop
  | dic {a : Addr} {y : V} {o : Option V} {Q : VK} : DGet H a y o → Q (.bl (if neg then !o.isSome else o.isSome)) H → InR K neg H y (.ref a) Q
  | seq {p : Addr} {x : V} {xs : List V} {Q : VK} : (SqL K H p xs ∨ SqT K H p xs) → flatV x = true → xs.all flatV = true → Q (.bl (if neg then !inV x xs else inV x xs)) H → InR K neg H x (.ref p) Q
  | tr {p : Addr} {x : V} {xs : List V} {ds : List PyData} {d : PyData} {Q : VK} : H p = some (.lst xs) → RepAll H xs ds → Rep H x d → PyData.canLayAll0 ds = true → d.canLay0 = true → d.depth ≤ 16 →
      Q (.bl (if neg then !(ds.any fun e => PyData.eqv e d) else ds.any fun e => PyData.eqv e d)) H → InR K neg H x (.ref p) Q
theorem op_inX (K : PySem.W.Frag) (hu : X.A.units + 64 < cLine) (hK : X.K = K := by rfl) : OpR X (compareOp .In) (fun x y H Q => InR K false H x y Q) := by
  subst hK
  intro pins s σ H x y v u Q I rx ry h
  cases h with
  | dic g q =>
    cases ry
    exact d_in (by omega) I g rx fun s' I' => ⟨.bl _, H, I', rfl, q⟩
  | seq hq fx fs q => exact op_in_seq pins s σ H _ _ v u Q I rx ry ⟨_, _, rfl, hq, fx, fs, q⟩
  | tr e rs r cs c dp q => exact op_inD hu pins s σ H _ _ v u Q I rx ry ⟨_, _, _, _, rfl, e, rs, r, cs, c, dp, q⟩
theorem op_notInX (K : PySem.W.Frag) (hu : X.A.units + 64 < cLine) (hK : X.K = K := by rfl) : OpR X (compareOp .NotIn) (fun x y H Q => InR K true H x y Q) := by
  subst hK
  intro pins s σ H x y v u Q I rx ry h
  cases h with
  | dic g q =>
    cases ry
    exact d_notIn (by omega) I g rx fun s' I' => ⟨.bl _, H, I', rfl, q⟩
  | seq hq fx fs q => exact op_notIn_seq pins s σ H _ _ v u Q I rx ry ⟨_, _, rfl, hq, fx, fs, q⟩
  | tr e rs r cs c dp q => exact op_notInD hu pins s σ H _ _ v u Q I rx ry ⟨_, _, _, _, rfl, e, rs, r, cs, c, dp, q⟩
inductive IxX (K : PySem.W.Frag) (H : Hp) : V → V → VK → Prop
  | lst {p : Addr} {xs : List V} {i : Int} {v : V} {Q : VK} : SqL K H p xs → atI xs i = some v → Q v H → IxX K H (.ref p) (.int i) Q
  | tup {p : Addr} {xs : List V} {i : Int} {v : V} {Q : VK} : SqT K H p xs → atI xs i = some v → Q v H → IxX K H (.ref p) (.int i) Q
  | str {z : Str} {i : Int} {c : Nat} {Q : VK} : z.length ≤ sizeLine → atI z.cps.toList i = some c → Q (.str ⟨#[c]⟩) H → IxX K H (.str z) (.int i) Q
  | dic {a : Addr} {y v : V} {Q : VK} : DGet H a y (some v) → Q v H → IxX K H (.ref a) y Q
theorem ix_X (K : PySem.W.Frag) (hu : X.A.units + 64 < cLine) (hK : X.K = K := by rfl) : IxR X (fun x y H Q => IxX K H x y Q) := by
  subst hK
  intro value slice pins s σ H x y v u Q I rx ry h hs
  cases h with
  | lst hq e q => exact ix_list value slice pins s σ H _ _ v u Q I rx ry ⟨_, _, _, _, rfl, rfl, hq, e, q⟩ hs
  | tup hq e q => exact ix_tup value slice pins s σ H _ _ v u Q I rx ry ⟨_, _, _, _, rfl, rfl, hq, e, q⟩ hs
  | str hz e q => exact ix_str value slice pins s σ H _ _ v u Q I rx ry ⟨_, _, _, rfl, rfl, hz, e, q⟩ hs
  | dic g q =>
    cases rx
    exact tail_any (dict_typeIs I g) PySem.F.slot_dict_getitem.lookup (d_getItem (by omega) I g ry fun w' s3 I3 rw' => ⟨_, H, I3, rw', q⟩) hs
inductive SetX (H : Hp) : V → V → V → (Hp → Prop) → Prop
  | lst {p : Addr} {xs : List V} {k : Int} {j : Nat} {v : V} {Q : Hp → Prop} : H p = some (.lst xs) → ixN xs.length k = some j → Q (upd H p (.lst (xs.set j v))) → SetX H (.ref p) (.int k) v Q
  | dic {a : Addr} {y v : V} {H' : Hp} {Q : Hp → Prop} : DPut H a y v H' → Q H' → SetX H (.ref a) y v Q
theorem set_X (hu : X.A.units + 64 < cLine) : PSet X (fun o i v H Q => SetX H o i v Q) := by
  intro pins s σ H o i v ov iv u Q I ro ri rv h
  cases h with
  | lst e ej q => exact set_list pins s σ H _ _ _ ov iv u Q I ro ri rv ⟨_, _, _, _, rfl, rfl, e, ej, q⟩
  | dic g q =>
    cases ro
    exact d_setItem (by omega) I g ri rv fun s4 I4 => ⟨_, I4, q⟩
theorem pg_tupK (K : PySem.W.Frag) {es : List Expr} {k : Nat} {pos : Pos} {t : TGs} {n : Nat} (hc : X.calm = true) (h : PGs X es t)
    (hn : (assignEach es X.env).length = n := by rfl) (hst : (assignEach es X.env).findIdx? (·.1) = none := by rfl) (hK : X.K = K := by rfl) : PG X (.Tuple es k pos) (gTup K n t) := hK ▸ pg_tup hc h hn hst
variable {p pos p2 pos2 : Pos} {e f : Expr} {t : TA}
end
end L2
namespace L2
open PySem PySem.Spec PyProof.Rows
section
variable {X : Cx} {p pos p2 pos2 : Pos} {e f : Expr} {t : TA}
noncomputable def rTupL (K : PySem.W.Frag) : List V → Hp → VK → Prop := fun xs H Q => ∃ a ys, xs = [.ref a] ∧ SqL K H a ys ∧ ∀ l, H l = none → Q (.ref l) (upd H l (.tup ys))
theorem b_tuple (K : PySem.W.Frag) (B : Blt X.mg) (ha : PA X [e] t) (hg : Gl X "tuple" := by rfl) (he : starEach [e] X.env = (false, eval e X.env) :: starEach [] X.env := by rfl) (hpl : (backTo pos (starEach [] X.env)).any (·.1) = false := by rfl) (hK : X.K = K := by rfl) :
    PE X (.Call (.Name "tuple" p) [e] [] pos) (tCB (rTupL K) t) := by
  subst hK
  refine pe_callTy (r := rTupL X.K) (fun pins s σ H xs us Q I r h => ?_) hg B.tuple (show bootBuiltins "tuple" = some (.type "tuple") by decide +kernel) ha (by decide) (by decide) he hpl
  obtain ⟨a, ys, rfl, hq, q⟩ := h
  exact call_tuple_of pins s σ H _ us Q I r ⟨a, ys, rfl, .inl ⟨hq, q⟩⟩
inductive LstR (K : PySem.W.Frag) (H : Hp) : V → VK → Prop
  | seq {a : Addr} {ys : List V} {Q : VK} : (SqL K H a ys ∨ SqT K H a ys) → (∀ l, H l = none → Q (.ref l) (upd H l (.lst ys))) → LstR K H (.ref a) Q
  | rng {a : Addr} {n : Nat} {Q : VK} : H a = some (.rng 0 (n : Int)) → n ≤ 1000 → (∀ l, H l = none → Q (.ref l) (upd H l (.lst (rngV n)))) → LstR K H (.ref a) Q
noncomputable def rLst (K : PySem.W.Frag) : List V → Hp → VK → Prop := fun xs H Q => ∃ x, xs = [x] ∧ LstR K H x Q
theorem vals_rng {n : Nat} {its : List Value} (hl : its.length = n) (h : ∀ i v, its[i]? = some v → ∃ t, v = Value.int (0 + (i : Nat) * 1) t) : Vals (rngV n) its := by
  subst hl
  have key : ∀ (its : List Value) (k : Nat), (∀ i v, its[i]? = some v → ∃ t, v = Value.int (0 + ((k + i : Nat) : Int)) t) → Vals ((List.range' k its.length).map fun i => V.int (0 + (i : Nat))) its := by
    intro its
    induction its with
    | nil => intro k _; exact .nil
    | cons u r ih =>
      intro k h
      rw [List.length_cons, List.range'_succ, List.map_cons]
      refine .cons ?_ (ih (k + 1) fun i v e => ?_)
      · obtain ⟨t, e⟩ := h 0 u rfl
        exact ⟨t, by rw [e, Nat.add_zero]⟩
      · obtain ⟨t, e'⟩ := h (i + 1) v (by simpa using e)
        exact ⟨t, by rw [e', show ((k + (i + 1) : Nat) : Int) = ((k + 1 + i : Nat) : Int) by omega]⟩
  have := key its 0 fun i v e => by
    obtain ⟨t, e'⟩ := h i v e
    exact ⟨t, by rw [e', Int.mul_one, Nat.zero_add]⟩
  rw [rngV, List.range_eq_range']
  exact this
theorem b_list (K : PySem.W.Frag) (hc : X.calm = true) (B : Blt X.mg) (ha : PA X [e] t) (hg : Gl X "list" := by rfl) (he : starEach [e] X.env = (false, eval e X.env) :: starEach [] X.env := by rfl) (hpl : (backTo pos (starEach [] X.env)).any (·.1) = false := by rfl) (hK : X.K = K := by rfl) :
    PE X (.Call (.Name "list" p) [e] [] pos) (tCB (rLst K) t) := by
  subst hK
  refine pe_callTy (r := rLst X.K) (fun pins s σ H xs us Q I r h => ?_) hg B.list (show bootBuiltins "list" = some (.type "list") by decide +kernel) ha (by decide) (by decide) he hpl
  obtain ⟨x, rfl, h⟩ := h
  cases h with
  | seq hq q => exact call_list_of pins s σ H _ us Q I r ⟨_, _, rfl, hq, q⟩
  | @rng a n _ ea hn q =>
    obtain ⟨u, rfl, ru⟩ := vals1 r
    cases ru
    obtain ⟨t1, t2, t3, eh⟩ := (show ObjOk X.prog X.w H s.heap a (.rng 0 (n : Int)) from I.hok a _ ea)
    refine call_list_range (n := n) (I.ok.hd hc) eh (small_one (by decide) (by decide) (by omega) (by omega)) (by rw [rangeSize_one]; split <;> omega) (by omega) fun h' tk acc' c' hk hl hi => ?_
    have hv : Vals (rngV n) acc'.toList := vals_rng (by simpa using hi.1) fun i v e => hi.2 i v (by simpa using e)
    refine ⟨.ref _, _, I.laid (o := .lst (rngV n)) hk (Nat.le_refl _) ⟨?_, acc'.toList, c', hv, by simpa using hl⟩, rfl, q _ (I.hok.fresh (Nat.le_refl _))⟩
    have : (rngV n).length = n := by simp [rngV]
    rw [this]
    exact Nat.le_of_lt (small1000 hn)
theorem b_min (hc : X.calm = true) (B : Blt X.mg) (ha : PA X [e, f] t) (hg : Gl X "min" := by rfl) (he : starEach [e, f] X.env = (false, eval e X.env) :: starEach [f] X.env := by rfl) (hpl : (backTo pos (starEach [f] X.env)).any (·.1) = false := by rfl) :
    PE X (.Call (.Name "min" p) [e, f] [] pos) (tCB (fun xs H Q => ∃ i j, xs = [.int i, .int j] ∧ Q (.int (if j < i then j else i)) H) t) :=
  pe_callB (call_min2 hc) hg B.min (show bootBuiltins "min" = some (.builtin "min") by decide +kernel) ha (by decide) (by decide) he hpl
theorem ins_at {its : List Value} {u : Value} {k : Nat} {x : Int} (hx : x = (k : Int)) (hk : k ≤ its.length) :
    (fun xs : Array Value => have k := if x < 0 then (x + (xs.size : Int)).toNat else min x.toNat xs.size; (xs.extract 0 k).push u ++ xs.extract k) its.toArray = (its.take k ++ u :: its.drop k).toArray := by
  subst hx
  simp only [List.size_toArray]
  rw [if_neg (by omega), Int.toNat_natCast, Nat.min_eq_left hk]
  simp [List.extract_eq_drop_take]
  exact List.take_of_length_le (by rw [List.length_drop]; omega)
noncomputable def rInsert : V → List V → Hp → VK → Prop := fun x vs H Q => ∃ l xs i k y, x = .ref l ∧ vs = [.int i, y] ∧ i = ((k : Nat) : Int) ∧ H l = some (.lst xs) ∧ k ≤ xs.length ∧ xs.length < sizeLine ∧ Q .non (upd H l (.lst (xs.take k ++ y :: xs.drop k)))
theorem mt_insert : MtR X "list.insert" rInsert := by
  intro pins s σ H x vs v us Q I rx rv h
  obtain ⟨l, xs, i, k, y, rfl, rfl, hi, hH, hk, hz, q⟩ := h
  cases rx
  obtain ⟨u1, u2, rfl, r1, r2⟩ := vals2 rv
  obtain ⟨t, rfl⟩ := r1
  obtain ⟨z, its, n, r, hl, e⟩ := I.lstM hH
  have hs : its.length ≤ sizeLine := by omega
  have hfit : Builtin.List.listFitsIndex i = true := by
    have h1 : i < 2 ^ 63 := by have := line63; omega
    exact fitsIndex_both (by omega) h1
  have ME := PySem.AutoSeq1.list_insert_list_int_val_1 l its.toArray n i t u2 (by simp [hfit]) (by rw [List.size_toArray]; exact hs)
  refine call_meets F.slot_list_insert ⟨_, e, rfl⟩ F.entry_list_insert (F.args_list_insert_3 _ _ _) ME ⟨e, ?_⟩
  refine ⟨.non, _, I.lset (its' := its.take k ++ u2 :: its.drop k) hH e (ins_at hi (by omega)) (Vals.append (r.take k) (.cons r2 (r.drop k))) ?_, rfl, q⟩
  simp only [List.length_append, List.length_cons, List.length_take, List.length_drop]
  omega
theorem m_insert (K : PySem.W.Frag) {o e f : Expr} {to : TE} {t : TA} {apos cpos : Pos} (ho : PE X o to) (ha : PA X [e, f] t)
    (hbase : attributeBase o "insert" X.env (eval o X.env) = eval o X.env := by rfl)
    (hfew : ((backTo cpos (starEach [e, f] X.env)).all (fun x => !x.1) && (backToKw cpos (keywordEach [] X.env)).all (fun x => x.1.isSome)
      && decide ([e, f].length + ([] : List Keyword).length + (if ([] : List Keyword).isEmpty then 0 else 1) < 30)) = true := by rfl)
    (hline : (apos.endLine == cpos.line) = true := by rfl) (hs : starEach [e, f] X.env = (false, eval e X.env) :: starEach [f] X.env := by rfl) (hplain : (backTo cpos (starEach [f] X.env)).any (·.1) = false := by rfl) (hK : X.K = K := by rfl) :
    PE X (.Call (.Attribute o "insert" apos) [e, f] [] cpos) (tBM K "list" rInsert to t) := hK ▸ pe_bm PySem.F.plainAttrs_list PySem.F.slot_list_insert PySem.F.type_list_insert mt_insert ho ha hbase hfew hline hs hplain
end
end L2
namespace L2
open PySem PySem.Spec PyProof.Rows
noncomputable def Nm (s : Str) : Prop := 1 ≤ s.length ∧ s.length ≤ 8 ∧ ∀ c ∈ s.cps.toList, 97 ≤ c ∧ c ≤ 122
noncomputable def pairD (e : Str × Str) : PyData := .tuple [.str e.1, .str e.2]
section
variable {H H' : Hp}
theorem Rep.tupI {v : V} {ds : List PyData} (h : Rep H v (.tuple ds)) : ∃ a xs, v = .ref a ∧ H a = some (.tup xs) ∧ RepAll H xs ds := by
  cases h with
  | tup e r => exact ⟨_, _, rfl, e, r⟩
theorem Rep.strI {v : V} {s : Str} (h : Rep H v (.str s)) : v = .str s := by cases h; rfl
theorem RepAll.nilI {xs : List V} (h : RepAll H xs []) : xs = [] := by cases h; rfl
theorem RepAll.consI {xs : List V} {d : PyData} {ds : List PyData} (h : RepAll H xs (d :: ds)) : ∃ y ys, xs = y :: ys ∧ Rep H y d ∧ RepAll H ys ds := by
  cases h with
  | cons a b => exact ⟨_, _, rfl, a, b⟩
theorem RepAll.strs : ∀ {xs : List V} {ss : List Str}, RepAll H xs (ss.map PyData.str) → xs = ss.map V.str
  | _, [], h => by rw [h.nilI]; rfl
  | _, s :: ss, h => by
    obtain ⟨y, ys, rfl, a, b⟩ := RepAll.consI h
    rw [a.strI, RepAll.strs b]; rfl
theorem RepAll.of_strs : ∀ (ss : List Str), RepAll H (ss.map V.str) (ss.map PyData.str)
  | [] => .nil
  | s :: ss => .cons (.str s) (RepAll.of_strs ss)
theorem RepAll.len {xs : List V} {ds : List PyData} (h : RepAll H xs ds) : xs.length = ds.length := by
  induction ds generalizing xs with
  | nil => rw [h.nilI]; rfl
  | cons d ds ih =>
    obtain ⟨y, ys, rfl, a, b⟩ := h.consI
    simp [ih b]
theorem RepAll.get {xs : List V} {ds : List PyData} (h : RepAll H xs ds) {i : Nat} {x : V} (e : xs[i]? = some x) : ∃ d, ds[i]? = some d ∧ Rep H x d := by
  induction ds generalizing xs i with
  | nil => rw [h.nilI] at e; simp at e
  | cons d ds ih =>
    obtain ⟨y, ys, rfl, a, b⟩ := h.consI
    cases i with
    | zero => simp at e; subst e; exact ⟨d, rfl, a⟩
    | succ i => simpa using ih b (by simpa using e)
theorem RepAll.append {xs ys : List V} {ds es : List PyData} (h : RepAll H xs ds) (g : RepAll H ys es) : RepAll H (xs ++ ys) (ds ++ es) := by
  induction ds generalizing xs with
  | nil => rw [h.nilI]; exact g
  | cons d ds ih =>
    obtain ⟨y, zs, rfl, a, b⟩ := h.consI
    exact .cons a (ih b)
theorem pair_at {v : V} {e : Str × Str} (h : Rep H v (pairD e)) : ∃ a, v = .ref a ∧ H a = some (.tup [.str e.1, .str e.2]) := by
  obtain ⟨a, xs, rfl, ha, r⟩ := Rep.tupI h
  obtain ⟨y, ys, rfl, r1, r⟩ := r.consI
  obtain ⟨z, zs, rfl, r2, r⟩ := r.consI
  have e1 := RepAll.nilI r
  subst e1
  rw [r1.strI, r2.strI] at ha
  exact ⟨a, rfl, ha⟩
theorem pair_rep {a : Addr} {s t : Str} (h : H a = some (.tup [.str s, .str t])) : Rep H (.ref a) (pairD (s, t)) := .tup h (.cons (.str _) (.cons (.str _) .nil))
end
end L2
set_option autoImplicit false
namespace MG
variable {α : Type}
noncomputable def Walk (R : α → α → Prop) : Nat → α → α → Prop
  | 0, x, y => x = y
  | n + 1, x, y => ∃ z, Walk R n x z ∧ R z y
noncomputable def Rch (R : α → α → Prop) (x y : α) : Prop := ∃ n, Walk R n x y
variable {R : α → α → Prop} {x : α}
theorem Rch.refl : Rch R x x := ⟨0, rfl⟩
theorem Rch.step {y z : α} (h : Rch R x y) (r : R y z) : Rch R x z := by
  obtain ⟨n, w⟩ := h
  exact ⟨n + 1, y, w, r⟩
theorem Rch.closed {S : α → Prop} (h0 : S x) (hs : ∀ y z, S y → R y z → S z) {y : α} (h : Rch R x y) : S y := by
  obtain ⟨n, w⟩ := h
  induction n generalizing y with
  | zero => have : x = y := w
            subst this; exact h0
  | succ n ih =>
    obtain ⟨z, w, r⟩ := w
    exact hs z y (ih w) r
end MG
namespace MG
variable {α : Type} {R : α → α → Prop} {x : α}
end MG
namespace L2
open PySem PySem.Spec PyProof.Rows
theorem canLay_nm {s : Str} (h : Nm s) : PyData.canLay0 (.str s) = true := by
  show (s.cps.all (· < 0x110000)) = true
  rw [← Array.all_toList, List.all_eq_true]
  intro c hc
  have := h.2.2 c hc
  exact decide_eq_true (by omega)
theorem canLay_strs : ∀ ss : List Str, (∀ s ∈ ss, Nm s) → PyData.canLayAll0 (ss.map PyData.str) = true
  | [], _ => rfl
  | s :: ss, h => by
    show (PyData.canLay0 (.str s) && PyData.canLayAll0 (ss.map PyData.str)) = true
    rw [canLay_strs ss fun x hx => h x (List.mem_cons_of_mem _ hx), canLay_nm (h s (by simp))]
    rfl
theorem eqv_shp {d : PyData} (h : shp d) : PyData.eqv d d = true := SeqAt.eqv_refl d (SeqAt.canLay_of_shaped h)
theorem for_enum {K : PySem.W.Frag} {a : Addr} {xs : List V} {g : TG} {tb : TS} {D : Ends} {σ : St} {H : Hp} (Pv : Nat → St → Hp → Prop) (h0 : Pv 0 σ H) (hl : ∀ i σ H, i ≤ xs.length → Pv i σ H → SqL K H a xs)
    (hs : ∀ i x σ H p, xs[i]? = some x → Pv i σ H → H p = none → g (.ref p) σ (upd H p (.tup [.int i, x])) fun σ2 H2 => tb { D with nx := Pv (i + 1), ct := Pv (i + 1), bk := D.nx } σ2 H2) (hd : ∀ σ H, Pv xs.length σ H → D.nx σ H) :
    ∃ W : Nat → Nat → St → Hp → Prop, (∃ m, W 0 m σ H) ∧ ∀ i m σ H, W i m σ H →
      ((Ite K a).stop i H ∧ D.nx σ H) ∨ ((Ite K a).go i H ∧ ∃ N : St → Hp → Prop, (∀ σ' H', N σ' H' → ∃ m', m' < m ∧ W (i + 1) m' σ' H') ∧ ∀ x H', (Ite K a).yld i H x H' → g x σ H' fun σ2 H2 => tb { D with nx := N, ct := N, bk := D.nx } σ2 H2) := by
  refine ⟨fun i m σ H => m = xs.length - i ∧ i ≤ xs.length ∧ Pv i σ H, ⟨xs.length, by simp, Nat.zero_le _, h0⟩, ?_⟩
  rintro i m σ H ⟨rfl, hi, p⟩
  have q := hl i σ H hi p
  by_cases hlt : i < xs.length
  · refine .inr ⟨⟨xs, xs[i], q, by simp [hlt]⟩, Pv (i + 1), fun σ' H' p' => ⟨xs.length - (i + 1), by omega, rfl, hlt, p'⟩, fun x H' y => ?_⟩
    obtain ⟨r, z, hr, rfl, hz, rfl⟩ := y
    exact hs i z σ H r (hz xs q) p hr
  · have e : i = xs.length := by omega
    subst e
    exact .inl ⟨⟨xs, q, Nat.le_refl _⟩, hd σ H p⟩
noncomputable def Tie (ts : List (Str × Str)) (a b : Str) : Prop := (a, b) ∈ ts
end L2
namespace MG
variable {α : Type} {R : α → α → Prop} {x : α}
variable {es : List (Nat × Nat)} {goal : Nat}
end MG
namespace MG
variable {es : List (Nat × Nat)}
end MG
namespace L2
open PySem PySem.Spec PyProof.Rows
theorem same_free {H H' : Hp} {b : Addr} (s : Same H H') (h : H' b = none) : H b = none := by
  cases q : H b with
  | none => rfl
  | some o => rw [s _ _ q] at h; cases h
theorem same_at {H H' : Hp} {b : Addr} {o : HO} (s : Same H H') (h : H b = none) : Same H (upd H' b o) := fun c o' hc => by
  rw [upd_ne (ne_of_none hc h)]; exact s _ _ hc
section
variable {X : Cx} {p pos p2 pos2 : Pos} {e f : Expr} {t : TA}
theorem vals_get {xs : List V} {us : List Value} (r : Vals xs us) {j : Nat} {u : Value} (e : us[j]? = some u) : ∃ x, xs[j]? = some x ∧ RelV x u := by
  induction r generalizing j with
  | nil => simp at e
  | @cons a b as bs h t ih =>
    cases j with
    | zero => simp at e; subst e; exact ⟨a, rfl, h⟩
    | succ j => simpa using ih (by simpa using e)
end
end L2
namespace MG
section
variable {α : Type} [DecidableEq α]
noncomputable def ix : List α → α → Nat
  | [], _ => 0
  | a :: r, x => if a = x then 0 else ix r x + 1
theorem ix_here (a : α) (r : List α) : ix (a :: r) a = 0 := by show (if a = a then 0 else _) = 0; rw [if_pos rfl]
theorem ix_next {a x : α} (r : List α) (h : a ≠ x) : ix (a :: r) x = ix r x + 1 := by show (if a = x then 0 else _) = _; rw [if_neg h]
theorem ix_at {l : List α} (nd : l.Nodup) : ∀ {i : Nat} {x : α}, l[i]? = some x → ix l x = i := by
  induction l with
  | nil => intro i x e; simp at e
  | cons a r ih =>
    intro i x e
    have ⟨h1, h2⟩ := List.nodup_cons.mp nd
    cases i with
    | zero => simp at e; subst e; exact ix_here a r
    | succ i =>
      have e' : r[i]? = some x := by simpa using e
      have hx := List.mem_of_getElem? e'
      rw [ix_next r (fun q : a = x => h1 (q ▸ hx)), ih h2 e']
theorem at_ix {l : List α} {x : α} (h : x ∈ l) : l[ix l x]? = some x := by
  induction l with
  | nil => cases h
  | cons a r ih =>
    by_cases q : a = x
    · subst q; rw [ix_here]; rfl
    · rw [ix_next r q]
      rcases List.mem_cons.mp h with h | h
      · exact absurd h.symm q
      · simpa using ih h
theorem ix_lt {l : List α} {x : α} (h : x ∈ l) : ix l x < l.length := (List.getElem?_eq_some_iff.mp (at_ix h)).1
end
variable {es : List (Nat × Nat)}
end MG
namespace L2
open PySem PySem.Spec PyProof.Rows
open PySem.AutoSeq1 (wpAny_loadPart')
section
variable {prog : Program} {w : World} {A : Around} {E : Value → Shared → Prop} {s : Shared}
theorem nextT_item {jt tt : Addr} {i : Nat} {its : Array Value} {y : Value} {Q : Value → Shared → Prop} (hj : s.heap.IsTupleIter jt tt i) (htt : s.heap.IsTuple tt its) (hy : its[i]? = some y)
    (hQ : ∀ h', h'.IsTupleIter jt tt (i + 1) → Heap.SameBut jt s.heap h' → Q y { s with heap := h' }) : wpAny (model prog w) A (Builtin.SmallTypes.nextOf (.ref jt)) Q E s := by
  obtain ⟨oj, hoj, cj, dj⟩ := id hj
  obtain ⟨ot, hot, _, nt, dt⟩ := htt
  unfold Builtin.SmallTypes.nextOf
  refine wpAny_bind (wpAny_callSpecial?_slot (name := Str.ofString "__next__") hj.typeIs F.slot_tuple_iterator_next (wpAny_call_entry F.slot_tuple_iterator_next hj.typeIs F.entry_tuple_iterator_next ?_ (F.args_tuple_iterator_next_1 _)))
  show wpAny _ _ (field (.ref jt) 0 >>= _) _ _ s
  refine wpAny_bind (wpAny_field hoj dj (x := .ref tt) rfl ?_)
  show wpAny _ _ (if (Value.ref tt == Value.none) = true then _ else _) _ _ s
  rw [if_neg (show ¬ ((Value.ref tt == Value.none) = true) from Bool.false_ne_true)]
  show wpAny _ _ (field (.ref jt) 1 >>= _) _ _ s
  refine wpAny_bind (wpAny_field hoj dj (x := .int i 0) rfl (wpAny_bind (wpAny_seqItems hot dt ?_)))
  simp only [Int.toNat_natCast, hy]
  refine wpAny_bind (wpAny_setField hoj dj (by simp) (wpAny_pure ⟨y, rfl, wpAny_pure (hQ _ ?_ (Heap.SameBut.update ..))⟩))
  exact ⟨_, Heap.get?_update_self _ hoj (Obj.isFreed_of_fields (Obj.data_mapFields dj _)), (Obj.cls_mapFields ..).trans cj, by rw [Obj.data_mapFields dj]; simp [rawInt]⟩
theorem nextT_end {jt tt : Addr} {i : Nat} {its : Array Value} {Q : Value → Shared → Prop} (hh : A.handled = none) (hj : s.heap.IsTupleIter jt tt i) (htt : s.heap.IsTuple tt its) (hy : its[i]? = none)
    (hE : ∀ h' e, Heap.ExtBut jt s.heap h' → (∃ o, h'.get? e = some o ∧ o.cls = .type "StopIteration") → E (.ref e) { s with heap := h' }) : wpAny (model prog w) A (Builtin.SmallTypes.nextOf (.ref jt)) Q E s := by
  obtain ⟨oj, hoj, cj, dj⟩ := id hj
  obtain ⟨ot, hot, _, nt, dt⟩ := htt
  unfold Builtin.SmallTypes.nextOf
  refine wpAny_bind (wpAny_callSpecial?_slot (name := Str.ofString "__next__") hj.typeIs F.slot_tuple_iterator_next (wpAny_call_entry F.slot_tuple_iterator_next hj.typeIs F.entry_tuple_iterator_next ?_ (F.args_tuple_iterator_next_1 _)))
  show wpAny _ _ (field (.ref jt) 0 >>= _) _ _ s
  refine wpAny_bind (wpAny_field hoj dj (x := .ref tt) rfl ?_)
  show wpAny _ _ (if (Value.ref tt == Value.none) = true then _ else _) _ _ s
  rw [if_neg (show ¬ ((Value.ref tt == Value.none) = true) from Bool.false_ne_true)]
  show wpAny _ _ (field (.ref jt) 1 >>= _) _ _ s
  refine wpAny_bind (wpAny_field hoj dj (x := .int i 0) rfl (wpAny_bind (wpAny_seqItems hot dt ?_)))
  simp only [Int.toNat_natCast, hy]
  refine wpAny_bind (wpAny_rule (wpAny_bind (wpAny_setField hoj dj (by simp) ?_)))
  show wpAny _ _ (newExc (.type "StopIteration") [] >>= _) _ _ _
  refine wpAny_bind ?_
  simp only [newExc, newTuple]
  refine wpAny_bind (wpAny_newObj_type (wpAny_bind (m := firstArgMember _ _) (wpAny_of_eq (a := Value.none) (by first | rfl | (simp only [firstArgMember]; rfl)) ?_)) (by size_fits))
  refine wpAny_newObj_type ?_ (by size_fits)
  simp only [raiseNew]
  refine wpAny_bind (wpAny_handled ?_)
  first | rw [show A.in1.handled = none from hh] | rw [hh]
  refine wpAny_bind (wpAny_pure (wpAny_throw (hE _ _ (((Heap.SameBut.update ..).extBut.push _).push _) ⟨_, Heap.get?_push_size _ rfl, rfl⟩)))
theorem drawsT {prog : Program} {w : World} {A : Around} (hh : A.handled = none) (jt tt : Addr) (hne : tt ≠ jt) (its : Array Value) :
    Draws prog w A jt [jt, tt] its.size (fun i y => its[i]? = some y) (fun i h => h.IsTupleIter jt tt i ∧ h.IsTuple tt its) where
  live := fun i h st => let ⟨o, e, _⟩ := st.1; ⟨o, e⟩
  frame := fun i h h' st k => ⟨let ⟨o, e, r⟩ := st.1; ⟨o, k jt (by simp) o e, r⟩, let ⟨o, e, r⟩ := st.2; ⟨o, k tt (by simp) o e, r⟩⟩
  item := fun i s Q E hi st hQ => nextT_item st.1 st.2 (y := its[i]) (by simp [hi]) fun h' j' sb => hQ _ h' s.toks (by simp [hi]) ⟨j', st.2.extBut sb.extBut hne⟩ sb
  done := fun s Q E st hE => nextT_end hh st.1 st.2 (by simp) hE
set_option maxHeartbeats 1000000 in
theorem meets_enumT (l : Addr) (its : Array Value) (n : Nat) (dct : Option Addr) (sl : Array (Option Value)) :
    Meets (Builtin.«enumerate.__new__» ⟨[.type "enumerate", .ref l], []⟩) (fun _ R s => s.heap.get? l = some { cls := .type "tuple", dict := dct, data := .seq its n, slots := sl } ∧
      R (.ok (.ret (.ref (s.heap.push { cls := .type "tuple_iterator", data := .fields #[.ref l, .int 0 0] }).objs.size)))
        { s with heap := (s.heap.push { cls := .type "tuple_iterator", data := .fields #[.ref l, .int 0 0] }).push { cls := .type "enumerate", data := .fields #[.none, .bool false, .ref s.heap.objs.size, rawInt 0, .none, .none] } }) :=
  .of_wp fun prog w A R s h => by
    obtain ⟨h0, g0, d0, t0, os0⟩ := s
    obtain ⟨hl, h⟩ := h
    have hsub := sub_enumerate
    have hT : Heap.IsTuple (Shared.heap ⟨h0, g0, d0, t0, os0⟩) l its := ⟨_, hl, rfl, n, rfl⟩
    wp_walk using wpAny_loadPart' hl
    refine wpAny_stack_any fun st => wpAny_pure ?_
    split
    · rename_i c _ _ _ _ _
      cases (c == Value.type "enumerate")
      · wp_walk using wpAny_loadPart' hl, wpAny_pyIter_tuple hT
        exact ⟨_, rfl, h⟩
      · wp_walk using wpAny_loadPart' hl, wpAny_pyIter_tuple hT
        exact ⟨_, rfl, h⟩
    · wp_walk using wpAny_loadPart' hl, wpAny_pyIter_tuple hT
      exact ⟨_, rfl, h⟩
theorem call_enumT {l : Addr} {its : Array Value} {Q : Value → Shared → Prop} (hT : s.heap.IsTuple l its)
    (h : ∀ h', IsEnum h' (s.heap.objs.size + 1) s.heap.objs.size 0 .none → h'.IsTupleIter s.heap.objs.size l 0 → (∀ b o, s.heap.get? b = some o → h'.get? b = some o) → Q (.ref (s.heap.objs.size + 1)) { s with heap := h' }) :
    wpAny (model prog w) A (call (.type "enumerate") [.ref l]) Q E s := by
  obtain ⟨⟨c, dct, dt, sl⟩, hl, hc, n, hd⟩ := hT
  replace hc : c = .type "tuple" := hc
  replace hd : dt = .seq its n := hd
  subst hc hd
  refine callType_new F.called_enumerate (by decide) (F.typeCall_enumerate_1 _) (F.newCall_enumerate_1 _) (fun obj => F.args_object_init_2 obj _) F.entry_enumerate_new (meets_enumT l its n dct sl) ⟨hl, ?_⟩
  have hz : (s.heap.push { cls := .type "tuple_iterator", data := .fields #[.ref l, .int 0 0] }).objs.size = s.heap.objs.size + 1 := Heap.size_push ..
  show _ ∧ _
  rw [hz]
  have he : IsEnum ((s.heap.push { cls := .type "tuple_iterator", data := .fields #[.ref l, .int 0 0] }).push { cls := .type "enumerate", data := .fields #[.none, .bool false, .ref s.heap.objs.size, rawInt 0, .none, .none] }) (s.heap.objs.size + 1) s.heap.objs.size 0 .none := by
    have := Heap.get?_push_size (s.heap.push { cls := .type "tuple_iterator", data := .fields #[.ref l, .int 0 0] }) (o := { cls := .type "enumerate", data := .fields #[.none, .bool false, .ref s.heap.objs.size, rawInt 0, .none, .none] }) rfl
    rw [hz] at this; exact this
  exact ⟨⟨_, he, rfl⟩, h _ he ⟨_, Heap.get?_push_of_some _ (Heap.get?_push_size _ rfl), rfl, rfl⟩ fun b o x => Heap.get?_push_of_some _ (Heap.get?_push_of_some _ x)⟩
end
noncomputable def IteT (K : PySem.W.Frag) (a : Addr) : It :=
  ⟨fun i H => ∃ xs x, SqT K H a xs ∧ xs[i]? = some x, fun i H v H' => ∃ p x, H p = none ∧ v = .ref p ∧ (∀ xs, SqT K H a xs → xs[i]? = some x) ∧ H' = upd H p (.tup [.int i, x]), fun i H => ∃ xs, SqT K H a xs ∧ xs.length ≤ i⟩
theorem turn_enumT {P : Program} {w : World} {K : PySem.W.Frag} {elts : List Expr} {k : Nat} {tp : Pos} (a e it : Addr) (hne : e ≠ it) :
    Turn P w K (.Tuple elts k tp) (IteT K a) [e, it] e (fun i h => (∃ old, IsEnum h e it i old) ∧ h.IsTupleIter it a i) where
  mem := by simp
  obj := fun i h st b hb => by
    obtain ⟨⟨old, he⟩, hit⟩ := st
    have hb : b = e ∨ b = it := by simpa using hb
    rcases hb with z | z
    · subst z
      exact ⟨_, he, fun v z => by cases z⟩
    · subst z
      obtain ⟨o, e1, c, d⟩ := hit
      exact ⟨o, e1, fun v z => by rw [d] at z; cases z⟩
  keep := fun i h h' st kk => by
    obtain ⟨⟨old, he⟩, hit⟩ := st
    exact ⟨⟨old, kk e (by simp) _ he⟩, let ⟨o, q, r⟩ := hit; ⟨o, kk it (by simp) o q, r⟩⟩
  item := by
    intro X hP hw hK hc i pins s σ H E I hf st hg
    subst hP hw hK
    obtain ⟨⟨old, he⟩, hit⟩ := st
    obtain ⟨xs, x, hq, hx⟩ := hg
    obtain ⟨its, rv, p, hz⟩ := I.tuple hq
    obtain ⟨u, hu, ru⟩ := rv.get hx
    obtain ⟨f0, f1, f2, f3, f4, f5⟩ := hf e (by simp)
    obtain ⟨g0, g1, g2, g3, g4, g5⟩ := hf it (by simp)
    have hel : e < s.heap.objs.size := Heap.lt_size he
    have hil : it < s.heap.objs.size := by obtain ⟨o, q, _⟩ := hit; exact Heap.lt_size q
    have hae : a ≠ e := fun z => by
      obtain ⟨o, q, c, _⟩ := p
      rw [z, he] at q; cases q; simp at c
    have hai : a ≠ it := fun z => by
      obtain ⟨o, q, c, _⟩ := p
      obtain ⟨o', q', c', _⟩ := hit
      rw [z, q'] at q; cases q; rw [c] at c'; simp at c'
    have hul := (List.getElem?_eq_some_iff.mp hu).1
    refine wpAny_pyNext_enum_itemD (drawsT (A := X.A.in1) (show X.A.in1.handled = none from I.ok.hd hc) it a hai its.toArray) he ⟨hit, p⟩ (by simpa using hul) hne (by simp [hne, Ne.symm hae]) fun u' h1 tk hu' ho hit1 ht1 hz1 k1 => ?_
    have eu : u' = u := by
      have : its[i]? = some u' := by simpa using hu'
      rw [hu] at this
      exact (Option.some.inj this).symm
    subst eu
    refine ⟨_, rfl, wpAny_letOwnedTupleGo_enum ho fun h2 he2 sb2 => ?_⟩
    have sb2 : Heap.SameBut e h1 h2 := sb2
    have T2 : h2.get? s.heap.objs.size = some { cls := .type "tuple", data := .seq #[.int i tk, u'] } := (sb2.2 _ (Nat.ne_of_gt hel)).trans ht1
    have hp : H s.heap.objs.size = none := I.hok.fresh (Nat.le_refl _)
    have nit : ∀ b v, H b = some v → b ≠ e ∧ b ≠ it := fun b v q => ⟨fun z => (by rw [z, f0] at q; cases q), fun z => (by rw [z, g0] at q; cases q)⟩
    have kk : ∀ b o, b ≠ e → b ≠ it → s.heap.get? b = some o → h2.get? b = some o := fun b o n1 n2 q => (sb2.2 b n1).trans (k1 b o n1 n2 q)
    have up : ∀ b v, H b = some v → upd H s.heap.objs.size (.tup [.int i, x]) b = some v := fun b v q => by rw [upd_ne (ne_of_none q hp)]; exact q
    have I1 : Inv X pins σ (upd H s.heap.objs.size (.tup [.int i, x])) { s with heap := h2, gens := s.gens, drawn := s.drawn, toks := tk + 1 } := by
      refine I.step (g' := s.gens) (d' := s.drawn) (ch := [e, it]) (fun b hb => ?_) (fun b o _ _ hb q _ => kk b o (fun z => hb (by simp [z])) (fun z => hb (by simp [z])) q) (fun b o _ _ hb q _ => ⟨o.slots, kk b o (fun z => hb (by simp [z])) (fun z => hb (by simp [z])) q⟩) (fun b o _ q n => ?_)
        (fun b o hb q => ⟨o, kk b o (fun z => hb (by simp [z])) (fun z => hb (by simp [z])) q⟩) (fun b ys q => up b _ q) (fun b o v q => up b _ q) (fun b ps q => ⟨#[], by rw [up b _ q]; simp⟩) (fun m hm => ?_) (fun b v q => ?_) I.bare
      · have hb : b = e ∨ b = it := by simpa using hb
        rcases hb with z | z
        · subst z; exact ⟨f3, f1, f4, f5⟩
        · subst z; exact ⟨g3, g1, g4, g5⟩
      · rw [upd_ne (Nat.ne_of_lt (Heap.lt_size q))]; exact n
      · obtain ⟨o, es, ep, ho, r⟩ := hm
        exact ⟨o, es, ep, kk _ o (Ne.symm f1) (Ne.symm g1) ho, r⟩
      · by_cases hb : b = s.heap.objs.size
        · subst hb
          rw [upd_same] at q
          have q' : HO.tup [V.int i, x] = v := Option.some.inj q
          subst q'
          exact ⟨by show 2 ≤ sizeLine; decide, [.int i tk, u'], .cons ⟨_, rfl⟩ (.cons ru .nil), ⟨_, T2, rfl, _, rfl, rfl⟩⟩
        · rw [upd_ne hb] at q
          refine (I.hok b v q).stay (fun c v' hc q' => ?_) (fun c q => up c _ q) fun c ys q => up c _ q
          rcases hc with z | z
          · rw [z] at q' ⊢; exact kk b v' (nit b v q).1 (nit b v q).2 q'
          · exact kk c v' (nit c _ z).1 (nit c _ z).2 q'
    refine ⟨.ref s.heap.objs.size, upd H s.heap.objs.size (.tup [.int i, x]), I1, rfl, ⟨_, x, hp, rfl, fun ys hy => by rw [I.tuple_inj hy hq]; exact hx, rfl⟩, ⟨⟨u', ?_⟩, ?_⟩, fun b hb => ?_⟩
    · exact (by simpa using he2)
    · obtain ⟨o, q, r⟩ := hit1.1
      exact ⟨o, (sb2.2 it (Ne.symm hne)).trans q, r⟩
    · have hb : b = e ∨ b = it := by simpa using hb
      rcases hb with z | z
      · rw [z, upd_ne (Nat.ne_of_lt hel)]; exact f0
      · rw [z, upd_ne (Nat.ne_of_lt hil)]; exact g0
  done := by
    intro X hP hw hK hc i pins s σ H E I hf st hg
    subst hP hw hK
    obtain ⟨⟨old, he⟩, hit⟩ := st
    obtain ⟨xs, hq, hx⟩ := hg
    obtain ⟨its, rv, p, hz⟩ := I.tuple hq
    obtain ⟨g0, g1, g2, g3, g4, g5⟩ := hf it (by simp)
    have hl := rv.length
    have hT : s.TypeIs (.ref e) "enumerate" := ⟨_, he, rfl⟩
    unfold pyNext
    refine wpAny_bind (wpAny_attempt (wpAny_callSpecial?_slot (name := Str.ofString "__next__") hT F.slot_enumerate_next (wpAny_call_entry F.slot_enumerate_next hT F.entry_enumerate_next ?_ (F.args_enumerate_next_1 _))))
    show wpAny _ _ (field (.ref e) 2 >>= _) _ _ _
    refine wpAny_bind (wpAny_field he rfl (x := .ref it) rfl (wpAny_bind (nextT_end (I.ok.hd hc) hit p (by simp; omega) fun h' x he' hx' => ?_)))
    obtain ⟨o, ho, hc'⟩ := hx'
    refine wpAny_bind (wpAny_isInstance (T := "StopIteration") (b := true) ⟨o, ho, hc'⟩ isSubtype_stop ?_)
    exact wpAny_pure ⟨rfl, I.turned (t' := s.toks) (fun b o hb q => he' b o hb q) g0 g1 g3 g4 g5⟩
  self := fun _ _ _ _ _ st h => by
    obtain ⟨⟨old, he⟩, _⟩ := st
    exact wpAny_pyIter_enum he h
inductive EnmR (K : PySem.W.Frag) (H : Hp) : V → (It → Hp → Prop) → Prop
  | lst {a : Addr} {xs : List V} {R : It → Hp → Prop} : SqL K H a xs → R (Ite K a) H → EnmR K H (.ref a) R
  | tup {a : Addr} {xs : List V} {R : It → Hp → Prop} : SqT K H a xs → R (IteT K a) H → EnmR K H (.ref a) R
noncomputable def iEnumX (K : PySem.W.Frag) (ta : TA) : TI := fun σ H R => ta σ H fun vs H1 => ∃ x, vs = [x] ∧ EnmR K H1 x R
theorem pi_enumX (K : PySem.W.Frag) {X : Cx} {elts : List Expr} {k : Nat} {tp : Pos} {a : Expr} {ta : TA} {p pos : Pos} (hg : Gl X "enumerate") (hm : X.mg "enumerate" = none) (ha : PA X [a] ta) (hs : starEach [a] X.env = [(false, eval a X.env)] := by rfl) (hK : X.K = K := by rfl) :
    PI X (.Tuple elts k tp) (.Call (.Name "enumerate" p) [a] [] pos) (iEnumX K ta) := by
  subst hK
  intro pins s σ H R I h
  refine Call_ (ld_blt I hg hm boot_enumerate (PyProof.Rows.callWith_type1 (thn (ha pos pins s σ H _ I h) fun us s1 ⟨vs, H1, I1, r1, q1⟩ => ?_) hs rfl))
  obtain ⟨x, e, q⟩ := q1
  subst e
  obtain ⟨u, rfl, ru⟩ := vals1 r1
  have fin : ∀ b, b = s1.heap.objs.size + 1 ∨ b = s1.heap.objs.size → FpOk X pins H1 b := fun b hb => by
    rcases hb with z | z
    · subst z; exact I1.fpOk (Nat.le_succ _) (I1.hok.fresh (Nat.le_succ _))
    · subst z; exact I1.fpOk (Nat.le_refl _) (I1.hok.fresh (Nat.le_refl _))
  cases q with
  | lst hq q =>
    cases ru
    obtain ⟨its, rv, pl, hz⟩ := I1.list hq
    refine call_enumerate_list pl.isList fun h' he hit hz' k' => wpAny_pyIter_enum (s := { s1 with heap := h' }) he ?_
    exact ⟨_, [s1.heap.objs.size + 1, s1.heap.objs.size], _, _, H1, rfl, I1.kept (t' := s1.toks) k', turn_enum _ _ _ (Nat.succ_ne_self _), ⟨⟨_, he⟩, hit⟩, fun b hb => fin b (by simpa using hb), q⟩
  | tup hq q =>
    cases ru
    obtain ⟨its, rv, pl, hz⟩ := I1.tuple hq
    refine call_enumT pl fun h' he hit k' => wpAny_pyIter_enum (s := { s1 with heap := h' }) he ?_
    exact ⟨_, [s1.heap.objs.size + 1, s1.heap.objs.size], _, _, H1, rfl, I1.kept (t' := s1.toks) k', turn_enumT _ _ _ (Nat.succ_ne_self _), ⟨⟨_, he⟩, hit⟩, fun b hb => fin b (by simpa using hb), q⟩
theorem for_enumT {K : PySem.W.Frag} {a : Addr} {xs : List V} {g : TG} {tb : TS} {D : Ends} {σ : St} {H : Hp} (Pv : Nat → St → Hp → Prop) (h0 : Pv 0 σ H) (hl : ∀ i σ H, i ≤ xs.length → Pv i σ H → SqT K H a xs)
    (hs : ∀ i x σ H p, xs[i]? = some x → Pv i σ H → H p = none → g (.ref p) σ (upd H p (.tup [.int i, x])) fun σ2 H2 => tb { D with nx := Pv (i + 1), ct := Pv (i + 1), bk := D.nx } σ2 H2) (hd : ∀ σ H, Pv xs.length σ H → D.nx σ H) :
    ∃ W : Nat → Nat → St → Hp → Prop, (∃ m, W 0 m σ H) ∧ ∀ i m σ H, W i m σ H →
      ((IteT K a).stop i H ∧ D.nx σ H) ∨ ((IteT K a).go i H ∧ ∃ N : St → Hp → Prop, (∀ σ' H', N σ' H' → ∃ m', m' < m ∧ W (i + 1) m' σ' H') ∧ ∀ x H', (IteT K a).yld i H x H' → g x σ H' fun σ2 H2 => tb { D with nx := N, ct := N, bk := D.nx } σ2 H2) := by
  refine ⟨fun i m σ H => m = xs.length - i ∧ i ≤ xs.length ∧ Pv i σ H, ⟨xs.length, by simp, Nat.zero_le _, h0⟩, ?_⟩
  rintro i m σ H ⟨rfl, hi, p⟩
  have q := hl i σ H hi p
  by_cases hlt : i < xs.length
  · refine .inr ⟨⟨xs, xs[i], q, by simp [hlt]⟩, Pv (i + 1), fun σ' H' p' => ⟨xs.length - (i + 1), by omega, rfl, hlt, p'⟩, fun x H' y => ?_⟩
    obtain ⟨r, z, hr, rfl, hz, rfl⟩ := y
    exact hs i z σ H r (hz xs q) p hr
  · have e : i = xs.length := by omega
    subst e
    exact .inl ⟨⟨xs, q, Nat.le_refl _⟩, hd σ H p⟩
end L2
namespace L2
open PySem PySem.Spec PyProof.Rows
noncomputable abbrev Zp (h : Heap) (z TI TO : Addr) (f0 : Value) (f1 : Bool) : Prop := h.get? z = some { cls := .type "zip", dict := none, data := .fields #[f0, .bool f1, .bool false, .ref TI, .ref TO], slots := #[] }
noncomputable def F0 (f0 : Value) : Prop := f0 = .none ∨ ∃ T : Nat, f0 = rawInt (T : Int)
section
variable {prog : Program} {w : World} {A : Around} {E : Value → Shared → Prop} {s : Shared}
theorem alive_any {a : Addr} {Q : Option Obj → Shared → Prop} (h : Q (s.heap.get? a) s) : wpAny (model prog w) A (loadIfAlive a) Q E s := fun _ _ _ => h
theorem zp_free {z TI TO : Addr} {f0 : Value} {f1 : Bool} (hf : F0 f0) (hz : Zp s.heap z TI TO f0 f1) {Q : Bool → Shared → Prop} (h : ∀ b f1' h', Zp h' z TI TO f0 f1' → Heap.SameBut z s.heap h' → Q b { s with heap := h' }) :
    wpAny (model prog w) A (Builtin.SmallTypes.ownedTupleIsFree (.ref z)) Q E s := by
  unfold Builtin.SmallTypes.ownedTupleIsFree
  rcases hf with rfl | ⟨T, rfl⟩
  · exact wpAny_bind (wpAny_field hz rfl (x := .none) rfl (wpAny_pure (h true f1 s.heap hz (Heap.SameBut.refl ..))))
  · refine wpAny_bind (wpAny_field hz rfl (x := rawInt (T : Int)) rfl ?_)
    refine wpAny_bind (alive_any ?_)
    cases s.heap.get? (T : Int).toNat with
    | none => exact wpAny_pure (h true f1 s.heap hz (Heap.SameBut.refl ..))
    | some o =>
      show wpAny _ _ (field (.ref z) 1 >>= _) _ _ _
      refine wpAny_bind (wpAny_field hz rfl (x := .bool f1) rfl ?_)
      cases f1 with
      | true => exact wpAny_pure (h false true s.heap hz (Heap.SameBut.refl ..))
      | false =>
        show wpAny _ _ (setField (.ref z) 1 (.bool true) >>= _) _ _ _
        exact wpAny_bind (wpAny_setField_rec hz (by simp) fun h1 hz1 sb => wpAny_pure (h false true h1 hz1 sb))
end
end L2
namespace L2
open PySem PySem.Spec PyProof.Rows
theorem zip_next_typed {prog : Program} {w : World} {A : Around} {E : Value → Shared → Prop} {s : Shared} {z : Addr} {Q : Option Value → Shared → Prop} (hT : s.TypeIs (.ref z) "zip")
    (h : wpAny (model prog w) A.in1 (Builtin.«zip.__next__» ⟨[.ref z], []⟩) (fun fin s' => ∃ v, fin = .done (.ret v) ∧ Q (some v) s') (fun e s' => (∃ o, s'.heap.get? (match e with | .ref a => a | _ => 0) = some o ∧ o.cls = .type "StopIteration") ∧ (∃ a, e = .ref a) ∧ Q none s') s) :
    wpAny (model prog w) A (pyNext (.ref z)) Q E s := by
  unfold pyNext
  refine wpAny_bind (wpAny_attempt (wpAny_callSpecial?_slot (name := Str.ofString "__next__") hT F.slot_zip_next (wpAny_call_entry F.slot_zip_next hT F.entry_zip_next (wpAny_mono h (fun fin s' ⟨v, e, q⟩ => ⟨v, e, wpAny_pure q⟩) fun e s' q => ?_) (F.args_zip_next_1 _))))
  obtain ⟨⟨o, ho, hc⟩, ⟨a, rfl⟩, q⟩ := q
  exact wpAny_bind (wpAny_isInstance (T := "StopIteration") (b := true) ⟨o, ho, hc⟩ isSubtype_stop (wpAny_pure q))
end L2
namespace L2
open PySem PySem.Spec PyProof.Rows
inductive Thg (H : Hp) : V → Prop
  | non : Thg H .non
  | bl (b : Bool) : Thg H (.bl b)
  | int (i : Int) : Thg H (.int i)
  | str {z : Str} : z.length ≤ sizeLine → Thg H (.str z)
  | lst {a : Addr} {xs : List V} : H a = some (.lst xs) → Thg H (.ref a)
  | tup {a : Addr} {xs : List V} : H a = some (.tup xs) → Thg H (.ref a)
  | dK {a : Addr} {kvs : List (Key × V)} : H a = some (.dK kvs) → Thg H (.ref a)
  | dT {a : Addr} {kvs : List (List Key × V)} : H a = some (.dT kvs) → Thg H (.ref a)
theorem Thg.same {H H' : Hp} {x : V} (h : Thg H x) (s : Same H H') : Thg H' x := by
  cases h with
  | non => exact .non
  | bl b => exact .bl b
  | int i => exact .int i
  | str z => exact .str z
  | lst e => exact .lst (s _ _ e)
  | tup e => exact .tup (s _ _ e)
  | dK e => exact .dK (s _ _ e)
  | dT e => exact .dT (s _ _ e)
noncomputable def isS : V → Bool
  | .str _ => true
  | _ => false
noncomputable def isI : V → Bool
  | .int _ | .bl _ => true
  | _ => false
noncomputable def isB : V → Bool
  | .bl _ => true
  | _ => false
noncomputable def isL (H : Hp) : V → Bool
  | .ref a => match H a with
    | some (.lst _) => true
    | _ => false
  | _ => false
noncomputable def isT (H : Hp) : V → Bool
  | .ref a => match H a with
    | some (.tup _) => true
    | _ => false
  | _ => false
theorem isL_of {H : Hp} {a : Addr} {xs : List V} (e : H a = some (.lst xs)) : isL H (.ref a) = true := by show (match H a with | some (.lst _) => true | _ => false) = true; rw [e]
theorem isT_of {H : Hp} {a : Addr} {xs : List V} (e : H a = some (.tup xs)) : isT H (.ref a) = true := by show (match H a with | some (.tup _) => true | _ => false) = true; rw [e]
theorem isT_inv {H : Hp} {x : V} (h : isT H x = true) : ∃ a xs, x = .ref a ∧ H a = some (.tup xs) := by
  cases x with
  | ref a =>
    have h : (match H a with | some (.tup _) => true | _ => false) = true := h
    split at h
    · rename_i xs e; exact ⟨a, xs, rfl, e⟩
    · cases h
  | _ => cases h
theorem isL_not {H : Hp} {a : Addr} {o : HO} (e : H a = some o) (n : ∀ xs, o ≠ .lst xs) : isL H (.ref a) = false := by
  show (match H a with | some (.lst _) => true | _ => false) = false
  rw [e]; split
  · rename_i xs q; exact absurd (Option.some.inj q) (n xs)
  · rfl
theorem isT_not {H : Hp} {a : Addr} {o : HO} (e : H a = some o) (n : ∀ xs, o ≠ .tup xs) : isT H (.ref a) = false := by
  show (match H a with | some (.tup _) => true | _ => false) = false
  rw [e]; split
  · rename_i xs q; exact absurd (Option.some.inj q) (n xs)
  · rfl
theorem ty_thg {K : PySem.W.Frag} {H : Hp} {x : V} (h : Thg H x) : ∃ t, TyOf K H x t ∧ PySem.W.kitOne K t (.type "str") = some (isS x) ∧ PySem.W.kitOne K t (.type "int") = some (isI x) ∧ PySem.W.kitOne K t (.type "bool") = some (isB x) ∧
    PySem.W.kitOne K t (.type "list") = some (isL H x) ∧ PySem.W.kitOne K t (.type "tuple") = some (isT H x) := by
  cases h with
  | non => exact ⟨_, .non, by rfl, by rfl, by rfl, by rfl, by rfl⟩
  | bl b => exact ⟨_, .bl b, by rfl, by rfl, by rfl, by rfl, by rfl⟩
  | int i => exact ⟨_, .int i, by rfl, by rfl, by rfl, by rfl, by rfl⟩
  | str z => exact ⟨_, .str _, by rfl, by rfl, by rfl, by rfl, by rfl⟩
  | lst e => exact ⟨_, .lst e, by rfl, by rfl, by rfl, by rw [isL_of e]; rfl, by rw [isT_not e (fun _ z => by cases z)]; rfl⟩
  | tup e => exact ⟨_, .tup e, by rfl, by rfl, by rfl, by rw [isL_not e (fun _ z => by cases z)]; rfl, by rw [isT_of e]; rfl⟩
  | dK e => exact ⟨_, .dK e, by rfl, by rfl, by rfl, by rw [isL_not e (fun _ z => by cases z)]; rfl, by rw [isT_not e (fun _ z => by cases z)]; rfl⟩
  | dT e => exact ⟨_, .dT e, by rfl, by rfl, by rfl, by rw [isL_not e (fun _ z => by cases z)]; rfl, by rw [isT_not e (fun _ z => by cases z)]; rfl⟩
noncomputable def isLow (c : Nat) : Bool := decide (97 ≤ c) && decide (c ≤ 122)
noncomputable def isNm : V → Bool
  | .str z => decide (1 ≤ z.length) && (decide (z.length ≤ 8) && z.cps.toList.all isLow)
  | _ => false
theorem isNm_iff {z : Str} : isNm (.str z) = true ↔ Nm z := by
  show (decide (1 ≤ z.length) && (decide (z.length ≤ 8) && z.cps.toList.all isLow)) = true ↔ _
  rw [Bool.and_eq_true, Bool.and_eq_true, decide_eq_true_iff, decide_eq_true_iff, List.all_eq_true]
  unfold Nm
  constructor
  · rintro ⟨h1, h2, h3⟩
    refine ⟨h1, h2, fun c hc => ?_⟩
    have h := h3 c hc
    unfold isLow at h
    rw [Bool.and_eq_true, decide_eq_true_iff, decide_eq_true_iff] at h
    exact h
  · rintro ⟨h1, h2, h3⟩
    refine ⟨h1, h2, fun c hc => ?_⟩
    unfold isLow
    rw [Bool.and_eq_true, decide_eq_true_iff, decide_eq_true_iff]
    exact h3 c hc
theorem lt_one (c d : Nat) : decide ([c] < [d]) = decide (c < d) := by
  by_cases h : c < d
  · rw [decide_eq_true h]; exact decide_eq_true (List.Lex.rel h)
  · rw [decide_eq_false h]
    refine decide_eq_false fun z => ?_
    cases z with
    | rel z => exact h z
    | cons z => cases z
noncomputable def spIsName : Sp := fun vs H Q _ => ∃ x, vs = [x] ∧ Thg H x ∧ ∀ H', Same H H' → Q (.bl (isNm x)) H'
noncomputable def pK (e : Str × Str) : List Key := [.inr e.1, .inr e.2]
theorem pK_inj {e f : Str × Str} (h : pK e = pK f) : e = f := by
  unfold pK at h
  have h1 := List.cons.inj h
  have h2 := List.cons.inj h1.2
  exact Prod.ext (Sum.inr.inj h1.1) (Sum.inr.inj h2.1)
inductive PlR (H : Hp) : V → VK → Prop
  | nm {a : Addr} {xs : List Str} {Q : VK} : (H a = some (.lst (List.map V.str xs)) ∨ H a = some (.tup (List.map V.str xs))) → xs.length ≤ 1000 →
      (∀ d kvs H', Same H H' → H d = none → H' d = some (.dK kvs) → (∀ s, (valV kvs (.inr s)).isSome = true ↔ s ∈ xs) → (∀ s v, valV kvs (.inr s) = some v → ∃ j : Nat, v = .int j ∧ xs[j]? = some s) → (kvs.map (·.1)).Nodup → (∀ k ∈ kvs.map (·.1), ∃ s ∈ xs, k = Sum.inr s) → Q (.ref d) H') → PlR H (.ref a) Q
  | pr {a : Addr} {refs : List V} {ps : List (Str × Str)} {Q : VK} : (H a = some (.lst refs) ∨ H a = some (.tup refs)) → RepAll H refs (ps.map pairD) → ps.length ≤ 1000 →
      (∀ d kvs H', Same H H' → H d = none → H' d = some (.dT kvs) → (∀ e : Str × Str, (valV kvs (pK e)).isSome = true ↔ e ∈ ps) → Q (.ref d) H') → PlR H (.ref a) Q
noncomputable def spPlacesX : Sp := fun vs H Q _ => ∃ x, vs = [x] ∧ PlR H x Q
section
variable {X : Cx} {p pos p2 pos2 : Pos} {e f : Expr} {t : TA}
inductive IntR (H : Hp) : V → VK → Prop
  | int {i : Int} {Q : VK} : Q (.int i) H → IntR H (.int i) Q
  | bl {b : Bool} {Q : VK} : Q (.int (if b then 1 else 0)) H → IntR H (.bl b) Q
theorem b_int (B : Blt X.mg) (ha : PA X [e] t) (hg : Gl X "int" := by rfl) (he : starEach [e] X.env = (false, eval e X.env) :: starEach [] X.env := by rfl) (hpl : (backTo pos (starEach [] X.env)).any (·.1) = false := by rfl) :
    PE X (.Call (.Name "int" p) [e] [] pos) (tCB (fun xs H Q => ∃ x, xs = [x] ∧ IntR H x Q) t) := by
  refine pe_callTy (r := fun xs H Q => ∃ x, xs = [x] ∧ IntR H x Q) (fun pins s σ H xs us Q I r h => ?_) hg B.int PyProof.Rows.boot_int ha (by decide) (by decide) he hpl
  obtain ⟨x, rfl, h⟩ := h
  cases h with
  | int q => exact call_int1 pins s σ H _ us Q I r (.inl ⟨_, rfl, q⟩)
  | bl q => exact call_int1 pins s σ H _ us Q I r (.inr ⟨_, rfl, q⟩)
theorem g_tuple (B : Blt X.mg) (hg : Gl X "tuple" := by rfl) : PE X (.Name "tuple" p) (tC (.ty "tuple")) := pe_bltn hg B.tuple (show bootBuiltins "tuple" = some (.type "tuple") by decide +kernel) rfl
noncomputable def rIsi2 (K : PySem.W.Frag) (c d : String) : List V → Hp → VK → Prop := fun xs H Q => ∃ x a t b, xs = [x, .ref a] ∧ H a = some (.tup [.ty c, .ty d]) ∧ TyOf K H x t ∧ PySem.W.kitAny K t [.type c, .type d] = some b ∧ Q (.bl b) H
theorem isinst_tup {pins : List (Addr × Obj)} {σ : St} {H : Hp} {s : Shared} {A : Around} {E : Value → Shared → Prop} {Q : Value → Shared → Prop} {x : V} {u t : Value} {tp : Addr} {dd : Option Addr} {its : List Value} {n : Nat} {sl : Array (Option Value)} {b : Bool}
    (I : Inv X pins σ H s) (rx : RelV x u) (ty : TyOf X.K H x t) (htp : s.heap.get? tp = some ⟨.type "tuple", dd, .seq its.toArray n, sl⟩) (e : PySem.W.kitAny X.K t its = some b) (h : ∀ tk, Q (.bool b) { s with toks := tk }) :
    wpAny (model X.prog X.w) A (call (.builtin "isinstance") [u, .ref tp]) Q E s := by
  cases ty with
  | non => cases (show u = Value.none from rx); exact PySem.W.kia_tup PySem.W.kitx_none I.kIn True.intro htp e (fun z => nomatch z) h
  | bl y => cases (show u = Value.bool y from rx); exact PySem.W.kia_tup PySem.W.kitx_bool I.kIn True.intro htp e (fun z => nomatch z) h
  | int i => obtain ⟨t, q⟩ := (show ∃ t, u = Value.int i t from rx); cases q; exact PySem.W.kia_tup PySem.W.kitx_int I.kIn True.intro htp e (fun z => nomatch z) h
  | str y => obtain ⟨t, q⟩ := (show ∃ t, u = Value.str y t from rx); cases q; exact PySem.W.kia_tup PySem.W.kitx_str I.kIn True.intro htp e (fun z => nomatch z) h
  | flt y => obtain ⟨t, q⟩ := (show ∃ t, u = Value.float y t from rx); cases q; exact PySem.W.kia_tup PySem.W.kitx_float I.kIn True.intro htp e (fun z => nomatch z) h
  | @lst a xs ea =>
    cases (show u = Value.ref a from rx)
    obtain ⟨_, _, n, _, h1⟩ := (show ObjOk X.prog X.w H s.heap a (.lst xs) from I.hok a _ ea)
    exact PySem.W.kia_tup PySem.W.kitx_list I.kIn ⟨_, h1, rfl⟩ htp e (fun z => nomatch z) h
  | @frz a ob xs ea =>
    cases (show u = Value.ref a from rx)
    obtain ⟨_, _, _, n, _, h1⟩ := (show ObjOk X.prog X.w H s.heap a (.frz ob (.lst xs)) from I.hok a _ ea)
    exact PySem.W.kia_tup PySem.W.kitx_list I.kIn ⟨_, h1, rfl⟩ htp e (fun z => nomatch z) h
  | @tup a xs ea =>
    cases (show u = Value.ref a from rx)
    obtain ⟨_, _, _, p⟩ := (show ObjOk X.prog X.w H s.heap a (.tup xs) from I.hok a _ ea)
    obtain ⟨o, h1, h2, _⟩ := p
    exact PySem.W.kia_tup PySem.W.kitx_tuple I.kIn ⟨o, h1, h2⟩ htp e (fun z => nomatch z) h
  | @dK a kvs ea =>
    cases (show u = Value.ref a from rx)
    obtain ⟨_, _, vs, _, p⟩ := (show ObjOk X.prog X.w H s.heap a (.dK kvs) from I.hok a _ ea)
    obtain ⟨o, es, ep, h1, h2, _⟩ := p
    exact PySem.W.kia_tup PySem.W.kitx_dict I.kIn ⟨o, h1, h2.1⟩ htp e (fun z => nomatch z) h
  | @dT a kvs ea =>
    cases (show u = Value.ref a from rx)
    obtain ⟨_, _, xs, _, o, es, ep, h1, h2, _⟩ := (show ObjOk X.prog X.w H s.heap a (.dT kvs) from I.hok a _ ea)
    exact PySem.W.kia_tup PySem.W.kitx_dict I.kIn ⟨o, h1, h2.1⟩ htp e (fun z => nomatch z) h
  | @ins a C dx fs ea cl ha hn htk hm =>
    cases (show u = Value.ref a from rx)
    obtain ⟨mA, O, _⟩ := ins_get I.hok ea
    obtain ⟨od, J, _⟩ := O.look
    exact PySem.W.kia_tup (PySem.W.kitx_own (cl.get _) cl.hd ha hn htk hm) I.kIn J htp e (fun z => nomatch z) h
theorem call_isi2 (c d : String) : CallR X (.builtin "isinstance") (rIsi2 X.K c d) := by
  intro pins s σ H xs us Q I r h
  obtain ⟨x, a, t, b, rfl, ea, ty, e, q⟩ := h
  obtain ⟨u, w', rfl, ru, rw'⟩ := vals2 r
  cases rw'
  obtain ⟨_, its, rv, ⟨oc, od, odt, osl⟩, h1, h2, n, h3, _⟩ := (show ObjOk X.prog X.w H s.heap a (.tup [.ty c, .ty d]) from I.hok a _ ea)
  have h2 : oc = .type "tuple" := h2
  have h3 : odt = .seq its.toArray n := h3
  subst h2 h3
  obtain ⟨u1, u2, rfl, r1, r2⟩ := vals2 rv
  cases r1
  cases r2
  exact isinst_tup I ru ty h1 e fun tk => ⟨.bl b, H, I.tok tk, rfl, q⟩
theorem b_isi2 (K : PySem.W.Frag) (c d : String) (B : Blt X.mg) (ha : PA X [e, f] t) (hg : Gl X "isinstance" := by rfl) (he : starEach [e, f] X.env = (false, eval e X.env) :: starEach [f] X.env := by rfl) (hpl : (backTo pos (starEach [f] X.env)).any (·.1) = false := by rfl) (hK : X.K = K := by rfl) : PE X (.Call (.Name "isinstance" p) [e, f] [] pos) (tCB (rIsi2 K c d) t) :=
  hK ▸ pe_callB (call_isi2 c d) hg B.isinstance boot_isinstance ha (by decide) (by decide) he hpl
end
theorem kit_lt {K : PySem.W.Frag} {H : Hp} {x : V} {t : Value} (h1 : PySem.W.kitOne K t (.type "list") = some (isL H x)) (h2 : PySem.W.kitOne K t (.type "tuple") = some (isT H x)) : PySem.W.kitAny K t [.type "list", .type "tuple"] = some (isL H x || isT H x) := by
  unfold PySem.W.kitAny
  rw [h1]
  cases isL H x with
  | true => rfl
  | false =>
    show PySem.W.kitAny K t [.type "tuple"] = _
    unfold PySem.W.kitAny
    rw [h2]
    cases isT H x <;> rfl
end L2
namespace MG
variable {es : List (Nat × Nat)} {goal : Nat}
end MG
namespace L2
open PySem PySem.Spec PyProof.Rows
section
variable {X : Cx} {p pos : Pos} {e : Expr} {t : TA}
noncomputable def rLenD : List V → Hp → VK → Prop := fun xs H Q => ∃ a kvs, xs = [V.ref a] ∧ H a = some (.dK kvs) ∧ Q (.int kvs.length) H
theorem b_lenD (B : Blt X.mg) (ha : PA X [e] t) (hg : Gl X "len" := by rfl) (he : starEach [e] X.env = (false, eval e X.env) :: starEach [] X.env := by rfl) (hpl : (backTo pos (starEach [] X.env)).any (·.1) = false := by rfl) : PE X (.Call (.Name "len" p) [e] [] pos) (tCB rLenD t) :=
  pe_callB call_lenD hg B.len PySem.boot_len ha (by decide) (by decide) he hpl
end
theorem twice_of {α : Type} [DecidableEq α] : ∀ {l : List α}, ¬ l.Nodup → ∃ l1 a l2, l = l1 ++ a :: l2 ∧ a ∈ l2
  | [], h => absurd List.nodup_nil h
  | x :: l, h => by
    by_cases q : x ∈ l
    · exact ⟨[], x, l, rfl, q⟩
    · have h : ¬ l.Nodup := fun z => h (List.nodup_cons.mpr ⟨q, z⟩)
      obtain ⟨l1, a, l2, e, m⟩ := twice_of h
      exact ⟨x :: l1, a, l2, by rw [e]; rfl, m⟩
theorem len_keys {α : Type} [DecidableEq α] {ks ws : List α} (nd : ks.Nodup) (h1 : ∀ k ∈ ks, k ∈ ws) (h2 : ∀ w ∈ ws, w ∈ ks) : ks.length = ws.length ↔ ws.Nodup := by
  constructor
  · intro hl
    refine Classical.byContradiction fun hn => ?_
    obtain ⟨l1, a, l2, e, m⟩ := twice_of hn
    have := nd.length_le_of_subset (l₂ := l1 ++ l2) fun k hk => by
      have := h1 k hk
      rw [e] at this
      rcases List.mem_append.mp this with q | q
      · exact List.mem_append_left _ q
      · rcases List.mem_cons.mp q with q | q
        · rw [q]; exact List.mem_append_right _ m
        · exact List.mem_append_right _ q
    rw [hl, e, List.length_append, List.length_append, List.length_cons] at this
    omega
  · intro hw
    exact Nat.le_antisymm (nd.length_le_of_subset h1) (hw.length_le_of_subset h2)
theorem len_kvs {kvs : List (Key × V)} {ws : List Str} (nd : (kvs.map (·.1)).Nodup) (ks : ∀ k ∈ kvs.map (·.1), ∃ s ∈ ws, k = Sum.inr s) (hin : ∀ s, (valV kvs (.inr s)).isSome = true ↔ s ∈ ws) : kvs.length = ws.length ↔ ws.Nodup := by
  have h := len_keys (ks := kvs.map (·.1)) (ws := ws.map (Sum.inr : Str → Key)) nd (fun k hk => by
      obtain ⟨s, hs, rfl⟩ := ks k hk
      exact List.mem_map.mpr ⟨s, hs, rfl⟩) (fun k hk => by
      obtain ⟨s, hs, rfl⟩ := List.mem_map.mp hk
      obtain ⟨v, hv⟩ := Option.isSome_iff_exists.mp ((hin s).mpr hs)
      exact valV_in hv)
  rw [List.length_map, List.length_map] at h
  rw [h]
  constructor
  · intro q
    exact List.Pairwise.of_map (Sum.inr : Str → Key) (fun a b n e => n (by rw [e])) q
  · intro q
    exact List.Pairwise.map _ (fun a b n e => n (Sum.inr.inj e)) q
end L2
namespace L2
open PySem PySem.Spec PyProof.Rows PySem.Builtin PySem.Builtin.Str
theorem slice_to {z : Str} {j : Nat} (h : j ≤ z.length) : (Txt.slice z none (some (j : Int))).length = j := by
  have e : Txt.slice z none (some (j : Int)) = StrLaws.sliceText z none (some (j : Int)) := rfl
  rw [e, StrLaws.sliceText_to ⟨by omega, by simp [Str.length] at h ⊢; omega⟩]
  show (List.take _ _).toArray.size = j
  rw [List.size_toArray]
  simp [Str.length] at h ⊢
  omega
noncomputable def Lo (t : Str) : Prop := ∀ x ∈ t.cps.toList, 97 ≤ x ∧ x ≤ 122
theorem Lo.nil : Lo "" := fun c hc => by
  have hc : c ∈ ("" : Str).cps.toList := hc
  rw [show ("" : Str).cps.toList = [] by decide +kernel] at hc
  cases hc
theorem Lo.one {c : Nat} (h : 97 ≤ c ∧ c ≤ 122) : Lo ⟨#[c]⟩ := fun d hd => by
  have : d = c := by simpa using hd
  omega
theorem Lo.app {x y : Str} (hx : Lo x) (hy : Lo y) : Lo (x ++ y) := fun c hc => by
  have hc : c ∈ (x.cps ++ y.cps).toList := hc
  rw [Array.toList_append] at hc
  rcases List.mem_append.mp hc with h | h
  · exact hx c h
  · exact hy c h
theorem Lo.slice {x : Str} (h : Lo x) (l u : Option Int) : Lo (Txt.slice x l u) := by
  unfold Txt.slice
  split
  · exact h
  · intro c hc
    have hc : c ∈ (List.filterMap (x.cps[·]?) (strSliceIndices l u 1 x.length)).toArray.toList := hc
    rw [List.toList_toArray] at hc
    obtain ⟨i, _, e⟩ := List.mem_filterMap.mp hc
    exact h c (by simpa using Array.mem_of_getElem? e)
theorem Lo.joinS {sep : Str} (hs : Lo sep) : ∀ {ys : List Str}, (∀ y ∈ ys, Lo y) → Lo (Str.join sep ys)
  | [], _ => fun c hc => by
    have hc : c ∈ (#[] : Array Nat).toList := hc
    simp at hc
  | [y], h => h y (by simp)
  | y :: z :: r, h => by
    show Lo (y ++ sep ++ Str.join sep (z :: r))
    exact ((h y (by simp)).app hs).app (Lo.joinS hs fun x hx => h x (List.mem_cons_of_mem _ hx))
theorem Lo.join {sep : Str} {ys : List Str} (hs : Lo sep) (h : ∀ y ∈ ys, Lo y) : Lo (Txt.join sep ys) := by
  unfold Txt.join
  rw [StrLaws.glued_eq_join]
  exact Lo.joinS hs h
theorem Lo.nm {z : Str} (h : Lo z) (h1 : 1 ≤ z.length) (h2 : z.length ≤ 8) : Nm z := ⟨h1, h2, h⟩
noncomputable def abc (j : Int) : Str := ⟨#[97 + j.toNat]⟩
theorem abc_lo {j : Int} (h0 : 0 ≤ j) (h1 : j < 26) : Lo (abc j) := Lo.one (by omega)
theorem abc_at {j : Int} (h0 : 0 ≤ j) (h1 : j < 26) : atI ("abcdefghijklmnopqrstuvwxyz" : Str).cps.toList j = some (97 + j.toNat) := by
  obtain ⟨k, rfl⟩ := Int.eq_ofNat_of_zero_le h0
  have hk : k < 26 := by omega
  exact (by decide +kernel : ∀ k : Nat, k < 26 → atI ("abcdefghijklmnopqrstuvwxyz" : Str).cps.toList (k : Int) = some (97 + (k : Int).toNat)) k hk
theorem join_len {ys : List Str} (h : ∀ y ∈ ys, y.length = 1) : (Txt.join "" ys).length = ys.length := by
  have e0 : ("" : Str).length = 0 := by decide +kernel
  unfold Txt.join
  rw [size_glued, e0, Nat.mul_zero, Nat.add_zero]
  induction ys with
  | nil => rfl
  | cons y r ih =>
    have h1 := h y (by simp)
    have h2 := ih fun z hz => h z (List.mem_cons_of_mem _ hz)
    simp only [List.map_cons, List.sum_cons, List.length_cons]
    omega
theorem nodup_by {α : Type} (f : Nat → α) (m : Nat) (h : ∀ i j, i < j → j < m → f i ≠ f j) : ((List.range m).map f).Nodup := by
  rw [List.nodup_iff_pairwise_ne, List.pairwise_map]
  refine List.Pairwise.imp_of_mem ?_ (List.pairwise_lt_range (n := m))
  intro a b ha hb hab
  exact h a b hab (List.mem_range.mp hb)
theorem range_snoc {α : Type} (f : Nat → α) (i : Nat) : (List.range (i + 1)).map f = (List.range i).map f ++ [f i] := by rw [List.range_succ, List.map_append]; rfl
theorem star_c {c : Const} {j : Nat} {p : Pos} {es : List Expr} {env : Env} : starEach (.Constant c j p :: es) env = (false, eval (.Constant c j p) env) :: starEach es env := rfl
end L2
namespace L2
open PySem PySem.Spec PyProof.Rows
noncomputable def SqA (H : Hp) (a : Addr) (xs : List V) : Prop := H a = some (.lst xs) ∨ H a = some (.tup xs)
theorem SqA.same {H H' : Hp} {a : Addr} {xs : List V} (h : SqA H a xs) (s : Same H H') : SqA H' a xs := by
  rcases h with h | h
  · exact .inl (s _ _ h)
  · exact .inr (s _ _ h)
theorem SqA.len {K : PySem.W.Frag} {H : Hp} {a : Addr} {xs : List V} (h : SqA H a xs) : LenV K (.ref a) H xs.length := by
  rcases h with h | h
  · exact .inl ⟨xs, .of h, rfl⟩
  · exact .inr ⟨xs, .of h, rfl⟩
theorem SqA.thg {H : Hp} {a : Addr} {xs : List V} (h : SqA H a xs) : Thg H (.ref a) := by
  rcases h with h | h
  · exact .lst h
  · exact .tup h
theorem SqA.lt {H : Hp} {a : Addr} {xs : List V} (h : SqA H a xs) : (isL H (.ref a) || isT H (.ref a)) = true := by
  rcases h with h | h
  · rw [isL_of h]; rfl
  · rw [isT_of h, Bool.or_true]
end L2
namespace L2
open PySem PySem.Spec PyProof.Rows
theorem cutV_from (xs : List V) (k : Nat) : cutV xs (some (k : Int)) none = xs.drop k := by
  unfold cutV
  rw [HT.sIx_nat, HT.sIx_none]
  by_cases h : k ≤ xs.length
  · rw [Nat.min_eq_left h, List.take_of_length_le (by rw [List.length_drop]; omega)]
  · rw [Nat.min_eq_right (by omega), List.drop_of_length_le (Nat.le_refl _), List.drop_of_length_le (by omega)]; simp
theorem cutV_to (xs : List V) (k : Nat) (h : k ≤ xs.length) : cutV xs none (some (k : Int)) = xs.take k := by
  unfold cutV
  rw [HT.sIx_nat, HT.sIx_none, Nat.min_eq_left h, List.drop_zero, Nat.sub_zero]
end L2
namespace MG
variable {α : Type}
end MG
namespace L2
open PySem PySem.Spec PyProof.Rows
theorem wpAny_flat {α : Type} {M : Model} {A : Around} {E : Value → Shared → Prop} {s : Shared} {m : Sem (Option α)} {P : α → Shared → Prop}
    (h : wpAny M A m (fun r s1 => ∃ u, r = some u ∧ wpAny M A (pure () : Sem Unit) (fun _ s2 => P u s2) E s1) E s) : wpAny M A m (fun r s1 => ∃ u, r = some u ∧ P u s1) E s := by
  intro Γ p hΓ
  exact Sem.wp_mono M Γ m (fun r p' s1 ⟨u, e, q⟩ => ⟨u, e, q Γ p' hΓ⟩) (fun _ _ _ z => z) p s (h Γ p hΓ)
theorem Inv.atA {X : Cx} {pins : List (Addr × Obj)} {σ : St} {H : Hp} {s : Shared} (I : Inv X pins σ H s) (A' : Around) (h1 : A'.handled = X.A.handled) (h2 : A'.frames = X.A.frames) : Inv { X with A := A' } pins σ H s :=
  ⟨⟨I.ok.mod, I.ok.kind, I.ok.glob, I.ok.blt, I.ok.above, I.ok.inj, I.ok.has, I.ok.cab, fun c => h1.trans (I.ok.hd c), h2.trans I.ok.frames, I.ok.stk, I.ok.exf, I.ok.bs, I.ok.bsz, I.ok.noex, I.ok.exfs, I.ok.funs, I.ok.frf⟩,
    I.os, I.bare, I.base, I.loc, I.cell, I.free, I.freeC, I.pin, I.hok, I.len⟩
theorem Inv.ofA {X : Cx} {pins : List (Addr × Obj)} {σ : St} {H : Hp} {s : Shared} {A' : Around} (ok : X.Ok) (I : Inv { X with A := A' } pins σ H s) : Inv X pins σ H s :=
  ⟨ok, I.os, I.bare, I.base, I.loc, I.cell, I.free, I.freeC, I.pin, I.hok, I.len⟩
theorem keys_miss_tuple : typeLookup (.type "tuple") "keys" = pure none := am_miss_of_fast (by decide +kernel)
section
variable {prog : Program} {w : World} {A : Around} {E : Value → Shared → Prop} {s : Shared}
theorem nokeys_tuple {a : Addr} {o : Obj} {xs : Array Value} {k : Nat} {Q : Option Value → Shared → Prop}
    (hx : s.heap.get? a = some o) (hc : o.cls = .type "tuple") (hdat : o.data = .seq xs k) (hd : o.dict = none) (hA : A.handled = none)
    (h : ∀ h' tk, (∀ b ob, s.heap.get? b = some ob → h'.get? b = some ob) → Q none { s with heap := h', toks := tk }) :
    wpAny (model prog w) A (getAttr? (.ref a) "keys") Q E s := by
  obtain ⟨c, dct, dat, sl⟩ := o
  simp only at hc hdat hd
  subst hc hdat hd
  obtain ⟨hp, g, d, tk, os⟩ := s
  have hT : ∀ tk', (⟨hp, g, d, tk', os⟩ : Shared).TypeIs (.ref a) "tuple" := fun _ => ⟨_, hx, rfl⟩
  have f1 := sub_AttributeError
  have f3 := F.slot_tuple_getattribute.lookup
  have f4 := F.slot_tuple_getattribute.bind (.ref a)
  have f5 := am_tuple_getattr_none
  unfold getAttr? getAttrBy? getAttrBy
  repeat (any_goals (first | assumption | exact hT _ | ((with_reducible show wpAny _ _ (call (Value.builtin "tuple.__getattribute__") _ _) _ _ _); refine call_meets F.slot_tuple_getattribute (hT _) am_entry_tuple_getattribute (F.args_tuple_getattribute_2 _ _) (meets_getattribute_miss_tuple a xs k sl "keys" _ keys_miss_tuple (by decide +kernel)) ⟨hx, hA, fun h' tk' e hx' => ?_⟩) | wp_step))
  obtain ⟨t', u', he⟩ := hx'.there
  show wpAny _ _ (getattributeRaised _ _ _ _ _ _ _) _ _ _
  unfold getattributeRaised
  repeat (any_goals (first | assumption | wp_step))
  exact h _ _ hx'.keeps
end
end L2
namespace L2
open PySem PySem.Spec PyProof.Rows
namespace DU
theorem entry_loop : entryFor table "dict.update.loop" = some Builtin.«dict.update.loop» := entryFor_of_fast (by kernel_rfl)
theorem plain_loop : plainId "dict.update.loop" = true := by decide +kernel
end DU
section
variable {X : Cx} {pins : List (Addr × Obj)} {σ : St} {H : Hp} {s : Shared} {a : Addr} {y v : V} {u r : Value} {A : Around} {E : Value → Shared → Prop}
theorem d_dictSet {H' : Hp} {Q : Unit → Shared → Prop} (hu : A.units < cLine) (I : Inv X pins σ H s) (g : DPut H a y v H') (ry : RelV y u) (rv : RelV v r) (h : ∀ s', Inv X pins σ H' s' → (∀ b o, b ≠ a → s.heap.get? b = some o → s'.heap.get? b = some o) → Q () s') :
    wpAny (model X.prog X.w) A (dictSet a u r) Q E s := by
  rcases g with ⟨kvs, k, e, ey, l, eH⟩ | ⟨kvs, k, b, e, ey, eb, l, eH⟩
  · subst ey eH
    obtain ⟨z, hd, vs, rel, dd⟩ := dk_of I.hok e
    have hz : vs.length ≤ sizeLine := by rw [← rel.length]; exact z
    have hl : (putK kvs k v).length ≤ sizeLine := by have := length_putK kvs k v; omega
    refine wpAny_dictSet_pairs (hsz := hz) (kV_is ry) dd fun h' dd' hs => h _ ?_ fun b o n q => hs.extBut _ _ n q
    have he : ∃ q, h'.get? a = some q := let ⟨q, _, _, hq, _⟩ := dd'; ⟨q, hq⟩
    exact d_write I (by rw [e]; exact True.intro) hs he (dk_new hl hd (rel.put k rv) dd')
  · subst ey eH
    cases (show u = Value.ref b from ry)
    obtain ⟨z, hd, xs, rel, dd⟩ := dt_of I.hok e
    have hz : xs.length ≤ sizeLine := by rw [← Paired.length rel]; exact z
    have hl : (putK kvs k v).length ≤ sizeLine := by have := length_putK kvs k v; omega
    refine wpAny_dictSet_heap (hsz := hz) hu (key_of I.hok eb) dd fun h' dd' hs => h _ ?_ fun b o n q => hs.extBut _ _ n q
    obtain ⟨q, es, ep, hq, h2, h3, h4, _, h5⟩ := dd'
    refine d_write I (by rw [e]; exact True.intro) hs ⟨q, hq⟩ ⟨hl, hd, _, (rel.put k eb rv).keeps fun c ys ec => ?_, q, es, ep, hq, h2, h3, h4, h5⟩
    rw [upd_ne (ne_of ec e (fun z => nomatch z))]
    exact ec
theorem DPut.at_ {H' : Hp} (g : DPut H a y v H') : (∃ o, H a = some o) ∧ ∀ b, b ≠ a → H' b = H b := by
  rcases g with ⟨kvs, k, e, ey, l, eH⟩ | ⟨kvs, k, b, e, ey, eb, l, eH⟩
  · exact ⟨⟨_, e⟩, fun b n => by rw [eH, upd_ne n]⟩
  · exact ⟨⟨_, e⟩, fun b n => by rw [eH, upd_ne n]⟩
end
theorem dict_loop {X : Cx} {pins : List (Addr × Obj)} {σ : St} {nm : Str} {tp : Pos} {J : It} {fp : List Addr} {it : Addr} {tn : Nat → Heap → Prop} (T : Turn X.prog X.w X.K (.Name nm tp) J fp it tn) (hc : X.calm = true) (hu : X.A.units + 64 < cLine) (d : Addr) (n : Nat) (Dv : Nat → Hp → Prop)
    (go : ∀ i H, i < n → Dv i H → J.go i H ∧ ∀ x H1, J.yld i H x H1 → ∃ b k v H2, x = .ref b ∧ SqT X.K H1 b [k, v] ∧ DPut H1 d k v H2 ∧ Dv (i + 1) H2)
    (stop : ∀ H, Dv n H → J.stop n H) {R : Result → Shared → Prop} : ∀ (k i : Nat) (j : Int) (s : Shared) (H : Hp), n - i = k → i ≤ n → Inv X pins σ H s → (∀ b ∈ fp, FpOk X pins H b) → tn i s.heap → Dv i H →
      (∀ H' s', Inv X pins σ H' s' → Dv n H' → R (.ok (.ret .none)) s') → codeAny (model X.prog X.w) X.A.in1 (.builtin "dict.update.loop" ⟨[.ref d, .ref it, rawInt j, .none], []⟩) R s := by
  intro k
  induction k with
  | zero =>
    intro i j s H hk hi I hf ht hd hR
    have hin : i = n := by omega
    subst hin
    refine codeAny_builtin DU.entry_loop ?_
    rw [Around.under_plainId DU.plain_loop _]
    show wpAny _ X.A.in1.in1 (pyNext (.ref it) >>= _) _ _ s
    refine wpAny_bind (wpAny_mono (T.done { X with A := X.A.in1.in1 } rfl rfl rfl hc i pins s σ H _ (I.atA _ rfl rfl) hf ht (stop H hd)) (fun r s1 ⟨e, I1⟩ => ?_) fun _ _ z => z)
    subst e
    show wpAny _ _ (Builtin.Dict.addKeywords d [] >>= _) _ _ _
    exact wpAny_bind (wpAny_pure (wpAny_pure (hR H s1 (Inv.ofA I.ok I1) hd)))
  | succ k ih =>
    intro i j s H hk hi I hf ht hd hR
    have hlt : i < n := by omega
    obtain ⟨hg, hy⟩ := go i H hlt hd
    refine codeAny_builtin DU.entry_loop ?_
    rw [Around.under_plainId DU.plain_loop _]
    show wpAny _ X.A.in1.in1 (pyNext (.ref it) >>= _) _ _ s
    refine wpAny_bind (wpAny_mono (wpAny_flat (T.item { X with A := X.A.in1.in1 } rfl rfl rfl hc i pins s σ H _ (I.atA _ rfl rfl) hf ht hg)) (fun r s1 ⟨u, e, x, H1, I1, rx, yl, t1, fn⟩ => ?_) fun _ _ z => z)
    subst e
    replace I1 := Inv.ofA I.ok I1
    obtain ⟨b, kk, v, H2, ex, sq, dp, dv⟩ := hy x H1 yl
    subst ex
    cases (show u = Value.ref b from rx)
    obtain ⟨its, rv, pt, hz⟩ := I1.tuple sq
    obtain ⟨u1, u2, e2, r1, r2⟩ := vals2 rv
    subst e2
    obtain ⟨o, ho, hcl, m, hdt⟩ := pt
    show wpAny _ _ (holding [Value.ref b] _ >>= _) _ _ _
    refine wpAny_bind (wpAny_holding ?_)
    show wpAny _ _ (Sem.tryCatch (Builtin.Dict.pairItems (Value.ref b)) _ >>= _) _ _ _
    refine wpAny_bind (wpAny_tryCatch ?_)
    unfold Builtin.Dict.pairItems
    refine wpAny_bind (wpAny_typeOf (T := "tuple") ⟨o, ho, hcl⟩ ?_)
    simp only [show ((Value.type "tuple" == Value.type "list") || (Value.type "tuple" == Value.type "tuple")) = true from rfl, if_true]
    unfold seqItems?
    refine wpAny_bind (wpAny_bind (wpAny_load ho ?_))
    rw [hdt]
    refine wpAny_pure (wpAny_pure ?_)
    show wpAny _ _ (holding [u1, u2] (dictSet d u1 u2)) _ _ _
    have hu' : X.A.in1.in1.units < cLine := by show X.A.units + 1 + 1 < cLine; omega
    refine wpAny_holding (d_dictSet hu' I1 dp r1 r2 fun s2 I2 hk2 => ?_)
    have dn : ∀ b ∈ fp, b ≠ d := fun b hb q => by
      obtain ⟨o, eo⟩ := dp.at_.1
      rw [← q, fn b hb] at eo
      cases eo
    refine wpAny_pure ⟨plainId_quiet DU.plain_loop _, ih (i + 1) (j + 1) s2 H2 (by omega) hlt I2 (fun b hb => ?_) (T.keep _ _ _ t1 fun b hb o q => hk2 b o (dn b hb) q) dv hR⟩
    obtain ⟨_, f1, f2, f3, f4, f5⟩ := hf b hb
    exact ⟨(dp.at_.2 b (dn b hb)).trans (fn b hb), f1, f2, f3, f4, f5⟩
theorem Rd.fresh {H : Hp} {a l : Addr} {u o : HO} (r : Rd H a u) (hl : H l = none) : Rd (upd H l o) a u := by
  have n : a ≠ l := fun e => by subst e; rcases r with r | ⟨_, r⟩ <;> rw [hl] at r <;> cases r
  unfold Rd
  rw [upd_ne n]
  exact r
theorem SqT.fresh {K : PySem.W.Frag} {H : Hp} {a l : Addr} {xs : List V} {o : HO} (r : SqT K H a xs) (hl : H l = none) : SqT K (upd H l o) a xs := by
  rcases r with r | r
  · exact Or.inl (r.fresh hl)
  · exact Or.inr r
theorem foldK_le {κ : Type} [DecidableEq κ] : ∀ (ps : List (κ × V)) (m : List (κ × V)), (ps.foldl (fun m q => putK m q.1 q.2) m).length ≤ m.length + ps.length := by
  intro ps
  induction ps with
  | nil => intro m; exact Nat.le_refl _
  | cons q r ih =>
    intro m
    have h1 := ih (putK m q.1 q.2)
    have h2 := length_putK m q.1 q.2
    rw [List.foldl_cons, List.length_cons]
    omega
noncomputable def mkK {κ : Type} [DecidableEq κ] (ps : List (κ × V)) : List (κ × V) := ps.foldl (fun m q => putK m q.1 q.2) []
theorem mkK_le {κ : Type} [DecidableEq κ] (ps : List (κ × V)) : (mkK ps).length ≤ ps.length := by
  have := foldK_le ps []
  rw [List.length_nil, Nat.zero_add] at this
  exact this
theorem mkK_take {κ : Type} [DecidableEq κ] (ps : List (κ × V)) (i : Nat) (q : κ × V) (h : ps[i]? = some q) : mkK (ps.take (i + 1)) = putK (mkK (ps.take i)) q.1 q.2 := by
  unfold mkK
  rw [List.take_add_one, h, List.foldl_append]
  rfl
end L2
namespace L2
open PySem PySem.Spec PyProof.Rows
namespace SP
open PySem.Builtin PySem.Builtin.Str PySem.StrLaws
noncomputable abbrev one (c : Nat) : Str := ⟨#[c]⟩
end SP
end L2
namespace L2
open PySem PySem.Spec PyProof.Rows
section
variable {prog : Program} {w : World} {A : Around} {E : Value → Shared → Prop} {s : Shared}
theorem draw_listL {it t : Addr} {items : Array Value} (hne : t ≠ it) : ∀ (n i : Nat) (s : Shared) (Q : List Value → Shared → Prop), s.heap.IsListIter it t i → s.heap.IsList t items → i + n ≤ items.size →
    (∀ h', h'.IsListIter it t (i + n) → Heap.SameBut it s.heap h' → Q ((items.toList.drop i).take n) { s with heap := h' }) → wpAny (model prog w) A (draw (.ref it) n) Q E s
  | 0, i, s, Q, hit, _, _, hQ => by
    show wpAny _ _ (pure []) Q E s
    exact wpAny_pure (by simpa using hQ s.heap hit (Heap.SameBut.refl ..))
  | n + 1, i, s, Q, hit, ht, hle, hQ => by
    have hlt : i < items.size := by omega
    show wpAny _ _ (pyNext (.ref it) >>= _) Q E s
    refine wpAny_bind (wpAny_pyNext_list_item hit ht (x := items[i]) (by simp [hlt]) fun h₁ hit₁ hs₁ => ?_)
    refine wpAny_bind (wpAny_holding (draw_listL hne n (i + 1) _ _ hit₁ (ht.at fun o e => hs₁.extBut _ _ hne e) (by omega) fun h₂ hit₂ hs₂ => wpAny_pure ?_))
    have hd : items.toList.drop i = items[i] :: items.toList.drop (i + 1) := by simp [List.drop_eq_getElem_cons, hlt]
    have := hQ h₂ (by rw [show i + (n + 1) = i + 1 + n by omega]; exact hit₂) (hs₁.trans hs₂)
    rw [hd, List.take_succ_cons] at this
    exact this
theorem unpackItems_listL {t : Addr} {items : Array Value} {Q : List Value → Shared → Prop} (hh : A.handled = none) (ht : s.heap.IsList t items)
    (hQ : ∀ h', Heap.ExtBut s.heap.objs.size s.heap h' → Q items.toList { s with heap := h' }) : wpAny (model prog w) A (unpackItems (.ref t) items.size none) Q E s := by
  have hlt : t ≠ s.heap.objs.size := by obtain ⟨o, ho, _⟩ := ht; exact Nat.ne_of_lt (Heap.lt_size ho)
  have hT : s.TypeIs (.ref t) "list" := by obtain ⟨o, ho, hc, _⟩ := ht; exact ⟨o, ho, hc⟩
  unfold unpackItems
  refine wpAny_bind ?_
  · unfold notIterableAtAll
    refine wpAny_bind (wpAny_specialOf hT F.slot_list_iter.lookup ?_)
    refine wpAny_pure ?_
    simp only [Bool.false_eq_true, if_false]
    refine wpAny_bind (wpAny_holding (wpAny_pyIter_list ht ?_))
    refine wpAny_bind (wpAny_holding (draw_listL hlt items.size 0 _ _ ⟨_, Heap.get?_push_size _ rfl, rfl, rfl⟩ (ht.at fun o e => Heap.get?_push_of_some _ e) (by omega) fun h₁ hit₁ hs₁ => ?_))
    have hall : List.take items.size (List.drop 0 items.toList) = items.toList := by
      rw [List.drop_zero]; exact List.take_of_length_le (by simp)
    rw [hall]
    rw [if_neg (by simp)]
    have ht₁ : h₁.IsList t items := ht.at fun o e => hs₁.extBut _ _ hlt (Heap.get?_push_of_some _ e)
    refine wpAny_bind (wpAny_holding (wpAny_pyNext_list_end hh hit₁ ht₁ (by simp) fun h₂ he₂ => ?_))
    simp only [Option.isSome_none, Bool.false_eq_true, if_false]
    refine wpAny_pure (hQ h₂ fun b o hb e => he₂ b o hb (hs₁.extBut b o hb (Heap.get?_push_of_some _ e)))
end
noncomputable def gLst (K : PySem.W.Frag) (n : Nat) (t : TGs) : TG := fun v σ H Q => ∃ a xs, v = .ref a ∧ SqL K H a xs ∧ xs.length = n ∧ t xs σ H Q
theorem pg_lstK (K : PySem.W.Frag) {X : Cx} {es : List Expr} {k : Nat} {pos : Pos} {t : TGs} {n : Nat} (hc : X.calm = true) (h : PGs X es t)
    (hn : (assignEach es X.env).length = n := by rfl) (hst : (assignEach es X.env).findIdx? (·.1) = none := by rfl) (hK : X.K = K := by rfl) : PG X (.Tuple es k pos) (gLst K n t) := by
  subst hK
  intro pins s σ H v u Q I r hw
  obtain ⟨a, xs, e1, hq, hl, hw⟩ := hw
  subst e1
  cases r
  obtain ⟨its, rv, ht, hz⟩ := I.list hq
  rw [assign_Tuple]
  refine wpAny_bind (wpAny_standAt ?_)
  unfold unpack
  rw [show (assignEach es X.env).length = its.toArray.size by simp [hn, ← hl, rv.length], hst]
  refine wpAny_bind (wpAny_holding (unpackItems_listL (I.ok.hd hc) ht.isList fun h' hx => ?_))
  have I1 : Inv X pins σ H { s with heap := h' } := I.kept (t' := s.toks) fun b o e => hx b o (Nat.ne_of_lt (Heap.lt_size e)) e
  exact h pins _ σ H xs _ Q I1 (by simpa using rv) hw
end L2
namespace MG
variable {es : List (Nat × Nat)} {goal : Nat}
end MG
set_option maxHeartbeats 400000
namespace L2
open PySem PySem.Spec PyProof.Rows
theorem ne_list_lengths {prog : Program} {w : World} {A : Around} {E : Value → Shared → Prop} {s : Shared} {l b : Addr} {items items2 : Array Value} {Q : Value → Shared → Prop} (hl : s.heap.IsList l items) (hb : s.heap.IsList b items2) (hsz : (items.size != items2.size) = true) (hu : A.units < cLine) (h : Q (Value.bool true) s) : wpAny (model prog w) A (compareOp CmpOp.NotEq (Value.ref l) (Value.ref b)) Q E s := by
  obtain ⟨⟨cls, dd, data, sl⟩, ho, hc, n, hd⟩ := id hl
  obtain ⟨⟨cls2, dd2, data2, sl2⟩, ho2, hc2, n2, hd2⟩ := id hb
  have hc : cls = .type "list" := hc
  have hd : data = .seq items n := hd
  have hc2 : cls2 = .type "list" := hc2
  have hd2 : data2 = .seq items2 n2 := hd2
  subst hc hd hc2 hd2
  show wpAny (model prog w) A (richCompare CmpOp.NotEq (Value.ref l) (Value.ref b)) Q E s
  refine richCompare_meets_room ⟨_, ho, rfl⟩ ⟨_, ho2, rfl⟩ F.slot_list_ne F.entry_list_ne (F.args_list_ne_2 _ _) (SeqAt.list_ne_lengthsAt l b items items2 n n2 dd dd2 sl sl2 hsz) ⟨ho, ho2, ?_⟩ hu
  exact ⟨(fun x => nomatch x), h⟩
section
variable {X : Cx}
noncomputable def rInDT (neg : Bool) : V → V → Hp → VK → Prop := fun x y H Q => ∃ p xs ds d, y = .ref p ∧ H p = some (.tup xs) ∧ RepAll H xs ds ∧ Rep H x d ∧ PyData.canLayAll0 ds = true ∧ d.canLay0 = true ∧ d.depth ≤ 16 ∧ Q (.bl (if neg then !(ds.any fun e => PyData.eqv e d) else ds.any fun e => PyData.eqv e d)) H
theorem op_notInDT (hu : X.A.units + 64 < cLine) : OpR X (compareOp .NotIn) (rInDT true) := by
  intro pins s σ H x y v u Q I rx ry h
  obtain ⟨p, xs, ds, d, rfl, e, rs, r, cs, c, dp, q⟩ := h
  cases ry
  obtain ⟨its, rv, pl, _⟩ := I.tuple (a := p) (xs := xs) (.of e)
  obtain ⟨bs, zx⟩ := r.reads I.hok rx
  refine SeqAt.notIn_tupleAt (fun u => PyData.eqv (SeqAt.readOf s.heap u) d) pl (fun w hw => mem_readOf (x := x) I.hok zx c (by show X.A.units + 1 + d.depth < cLine; omega) rs rv cs w (by simpa using hw)) ⟨.bl _, H, I, rfl, ?_⟩
  rw [show its.toArray.any (fun u => PyData.eqv (SeqAt.readOf s.heap u) d) = its.any (fun u => PyData.eqv (SeqAt.readOf s.heap u) d) by simp, any_readOf I.hok rs rv cs]
  exact q
theorem op_inDT (hu : X.A.units + 64 < cLine) : OpR X (compareOp .In) (rInDT false) := by
  intro pins s σ H x y v u Q I rx ry h
  obtain ⟨p, xs, ds, d, rfl, e, rs, r, cs, c, dp, q⟩ := h
  cases ry
  obtain ⟨its, rv, pl, _⟩ := I.tuple (a := p) (xs := xs) (.of e)
  obtain ⟨bs, zx⟩ := r.reads I.hok rx
  refine SeqAt.in_tupleAt (fun u => PyData.eqv (SeqAt.readOf s.heap u) d) pl (fun w hw => mem_readOf (x := x) I.hok zx c (by show X.A.units + 1 + d.depth < cLine; omega) rs rv cs w (by simpa using hw)) ⟨.bl _, H, I, rfl, ?_⟩
  rw [show its.toArray.any (fun u => PyData.eqv (SeqAt.readOf s.heap u) d) = its.any (fun u => PyData.eqv (SeqAt.readOf s.heap u) d) by simp, any_readOf I.hok rs rv cs]
  exact q
end
end L2
set_option maxHeartbeats 4000000
namespace L2
open PySem PySem.Spec PyProof.Rows
noncomputable def Hd (N : Addr → Prop) (H : Hp) : Prop := ∀ l, H l = none → N l
noncomputable def Mono (G : Hp → V → Prop) : Prop := ∀ H H' x, Same H H' → G H x → G H' x
end L2
namespace L2
open PySem PySem.Spec PyProof.Rows
noncomputable def zipK (ks : List Str) (ys : List V) : List (Key × V) := (ks.map Sum.inr).zip ys
end L2
namespace L2
open PySem PySem.Spec PyProof.Rows
theorem putK_snoc {kvs : List (Key × V)} {k : Key} {v : V} (h : k ∉ kvs.map (·.1)) : putK kvs k v = kvs ++ [(k, v)] := by
  unfold putK
  rw [if_neg]
  intro z
  obtain ⟨kv, hm, e⟩ := List.any_eq_true.mp z
  exact h (List.mem_map.mpr ⟨kv, hm, of_decide_eq_true e⟩)
theorem mkK_zip : ∀ (ks : List Str) (ys : List V), ks.Nodup → mkK (zipK ks ys) = zipK ks ys := by
  have key : ∀ (ks : List Str) (ys : List V) (m : List (Key × V)), ks.Nodup → (∀ k ∈ ks, (Sum.inr k : Key) ∉ m.map (·.1)) → (zipK ks ys).foldl (fun m q => putK m q.1 q.2) m = m ++ zipK ks ys := by
    intro ks
    induction ks with
    | nil => intro ys m _ _; unfold zipK; simp
    | cons k ks ih =>
      intro ys m nd hm
      cases ys with
      | nil => unfold zipK; simp
      | cons y ys =>
        obtain ⟨h1, h2⟩ := List.nodup_cons.mp nd
        have e : zipK (k :: ks) (y :: ys) = (.inr k, y) :: zipK ks ys := rfl
        rw [e, List.foldl_cons]
        show List.foldl _ (putK m (.inr k) y) _ = _
        rw [putK_snoc (hm k (by simp)), ih ys _ h2 (fun x hx => ?_)]
        · simp
        · rw [List.map_append, List.mem_append]
          rintro (z | z)
          · exact hm x (List.mem_cons_of_mem _ hx) z
          · have : (Sum.inr x : Key) = Sum.inr k := by simpa using z
            exact h1 (Sum.inr.inj this ▸ hx)
  intro ks ys nd
  unfold mkK
  rw [key ks ys [] nd (fun k _ h => by cases h)]
  rfl
theorem valV_zip : ∀ {ks : List Str} {ys : List V} {i : Nat} {k : Str} {y : V}, ks.Nodup → ks[i]? = some k → ys[i]? = some y → valV (zipK ks ys) (.inr k) = some y
  | [], _, _, _, _, _, h, _ => by simp at h
  | k :: ks, [], _, _, _, _, _, h => by simp at h
  | k :: ks, y :: ys, 0, k', y', nd, h1, h2 => by
    have e1 : k = k' := by simpa using h1
    have e2 : y = y' := by simpa using h2
    subst e1 e2
    exact valV_pos (p := (Sum.inr k, y)) rfl
  | k :: ks, y :: ys, i + 1, k', y', nd, h1, h2 => by
    obtain ⟨n1, n2⟩ := List.nodup_cons.mp nd
    have h1 : ks[i]? = some k' := by simpa using h1
    have h2 : ys[i]? = some y' := by simpa using h2
    have ne : ¬ (Sum.inr k : Key) = Sum.inr k' := fun z => n1 (by rw [Sum.inr.inj z]; exact List.mem_of_getElem? h1)
    show valV ((Sum.inr k, y) :: zipK ks ys) _ = _
    rw [valV_neg ne]
    exact valV_zip n2 h1 h2
theorem once {G T : Prop} (m : T → G) (t : T) : G := m t
end L2
namespace MG
noncomputable def mx : List Int → Int
  | [] => 0
  | x :: l => max x (mx l)
noncomputable def dp (es : List (Nat × Nat)) (W : Nat → Int) : Nat → Nat → Int
  | 0, _ => 0
  | k + 1, v => W v + mx ((es.filter fun e => decide (e.2 = v)).map fun e => dp es W k e.1)
end MG
namespace L2
open PySem PySem.Spec PyProof.Rows
section
variable {prog : Program} {w : World} {A : Around} {E : Value → Shared → Prop} {s : Shared}
theorem zptt_item {z TI TO i1 i2 l1 l2 : Addr} {k1 k2 : Nat} {f0 : Value} {f1 : Bool} {xs ys : Array Value} {x y a b : Value} {Q : Value → Shared → Prop} (D : ZipApart z TI TO i1 i2 l1 l2) (hf : F0 f0)
    (hz : Zp s.heap z TI TO f0 f1) (hTI : IsPair s.heap TI (.ref i1) (.ref i2)) (hTO : IsPair s.heap TO a b)
    (h1 : s.heap.IsTupleIter i1 l1 k1) (h2 : s.heap.IsTupleIter i2 l2 k2) (hl1 : s.heap.IsTuple l1 xs) (hl2 : s.heap.IsTuple l2 ys) (hx : xs[k1]? = some x) (hy : ys[k2]? = some y)
    (hQ : ∀ h' f0' f1', F0 f0' → Zp h' z TI TO f0' f1' → (∃ a b, IsPair h' TO a b) → h'.IsTupleIter i1 l1 (k1 + 1) → h'.IsTupleIter i2 l2 (k2 + 1) → IsPair h' s.heap.objs.size x y →
      (∀ c o, c ≠ z → c ≠ TO → c ≠ i1 → c ≠ i2 → s.heap.get? c = some o → h'.get? c = some o) → Q (.ref s.heap.objs.size) { s with heap := h' }) :
    wpAny (model prog w) A (Builtin.«zip.__next__» ⟨[.ref z], []⟩) (fun fin s' => ∃ v, fin = .done (.ret v) ∧ Q v s') E s := by
  show wpAny _ _ (field (.ref z) 2 >>= _) _ _ _
  refine wpAny_bind (wpAny_field hz rfl (x := .bool false) rfl ?_)
  show wpAny _ _ (field (.ref z) 3 >>= _) _ _ _
  refine wpAny_bind (wpAny_field hz rfl (x := .ref TI) rfl (wpAny_bind (wpAny_seqItems hTI rfl ?_)))
  refine wpAny_bind (zp_free hf hz fun own f1' g0 hz0 sb0 => ?_)
  have sz0 : g0.objs.size = s.heap.objs.size := sb0.1
  cases own with
  | true =>
    simp only [if_true]
    refine wpAny_bind (wpAny_rule ?_)
    refine wpAny_bind (wpAny_field (s := { s with heap := g0 }) hz0 rfl (x := .ref TO) rfl ?_)
    refine wpAny_bind (wpAny_setField_rec (s := { s with heap := g0 }) hz0 (by simp) fun g1 hz1 sb1 => ?_)
    replace hz1 : Zp g1 z TI TO .ellipsis f1' := hz1
    refine wpAny_bind ?_
    simp only [List.zipIdx_cons, List.zipIdx_nil, List.forIn_cons, List.forIn_nil]
    refine wpAny_bind (wpAny_bind (wpAny_onRaise ?_))
    show wpAny _ _ (Builtin.SmallTypes.nextOf (.ref i1) >>= _) _ _ _
    have up1 : ∀ c o, c ≠ z → s.heap.get? c = some o → g1.get? c = some o := fun c o n e => sb1.extBut _ _ n (sb0.extBut _ _ n e)
    refine wpAny_bind (nextT_item (h1.at fun o e => up1 _ o D.i1z e) (hl1.at fun o e => up1 _ o D.l1z e) hx fun g2 j1 sb2 => wpAny_pure ?_)
    have hTO2 : IsPair g2 TO a b := sb2.extBut _ _ D.TOi1 (up1 _ _ D.TOz hTO)
    refine wpAny_bind (wpAny_seqItems hTO2 rfl (wpAny_bind (wpAny_updateSeq_pair hTO2 fun g3 hTO3 sb3 => ?_)))
    replace hTO3 : IsPair g3 TO x b := hTO3
    refine wpAny_bind (wpAny_letGo (wpAny_pure (wpAny_bind (wpAny_bind (wpAny_onRaise ?_)))))
    show wpAny _ _ (Builtin.SmallTypes.nextOf (.ref i2) >>= _) _ _ _
    have up3 : ∀ c o, c ≠ z → c ≠ i1 → c ≠ TO → s.heap.get? c = some o → g3.get? c = some o := fun c o n1 n2 n3 e => sb3.extBut _ _ n3 (sb2.extBut _ _ n2 (up1 _ _ n1 e))
    refine wpAny_bind (nextT_item (h2.at fun o e => up3 _ o D.i2z D.i12.symm D.TOi2.symm e) (hl2.at fun o e => up3 _ o D.l2z D.l2i1 D.l2TO e) hy fun g4 j2 sb4 => wpAny_pure ?_)
    have hTO4 : IsPair g4 TO x b := sb4.extBut _ _ D.TOi2 hTO3
    refine wpAny_bind (wpAny_seqItems hTO4 rfl (wpAny_bind (wpAny_updateSeq_pair hTO4 fun g5 hTO5 sb5 => ?_)))
    replace hTO5 : IsPair g5 TO x y := hTO5
    refine wpAny_bind (wpAny_letGo (wpAny_pure (wpAny_pure ?_)))
    refine wpAny_bind (wpAny_seqItems hTO5 rfl (wpAny_bind (wpAny_newTuple ?_)))
    have hsz : g5.objs.size = s.heap.objs.size := by rw [sb5.1, sb4.1, sb3.1, sb2.1, sb1.1, sz0]
    have hz5 : Zp g5 z TI TO .ellipsis f1' := sb5.extBut _ _ D.TOz.symm (sb4.extBut _ _ D.i2z.symm (sb3.extBut _ _ D.TOz.symm (sb2.extBut _ _ D.i1z.symm hz1)))
    have j15 : g5.IsTupleIter i1 l1 (k1 + 1) := j1.at fun o e => sb5.extBut _ _ D.TOi1.symm (sb4.extBut _ _ D.i12 (sb3.extBut _ _ D.TOi1.symm e))
    have j25 : g5.IsTupleIter i2 l2 (k2 + 1) := j2.at fun o e => sb5.extBut _ _ D.TOi2.symm e
    have hk5 : ∀ c o, c ≠ z → c ≠ TO → c ≠ i1 → c ≠ i2 → s.heap.get? c = some o → g5.get? c = some o := fun c o c1 c2 c3 c4 e => sb5.extBut _ _ c2 (sb4.extBut _ _ c4 (up3 _ _ c1 c3 c2 e))
    have hzlt : z < g5.objs.size := Heap.lt_size hz5
    show wpAny _ _ (Builtin.SmallTypes.ownedTupleHandOut (.ref z) (.ref g5.objs.size) >>= _) _ _ _
    refine wpAny_bind ?_
    unfold Builtin.SmallTypes.ownedTupleHandOut
    have hz6 : Zp (g5.push { cls := .type "tuple", data := .seq #[x, y] }) z TI TO .ellipsis f1' := Heap.get?_push_of_some _ hz5
    refine wpAny_bind (wpAny_setField_rec hz6 (by simp) fun g7 hz7 sb7 => ?_)
    replace hz7 : Zp g7 z TI TO (rawInt g5.objs.size) f1' := hz7
    refine wpAny_setField_rec hz7 (by simp) fun g8 hz8 sb8 => ?_
    replace hz8 : Zp g8 z TI TO (rawInt g5.objs.size) false := hz8
    have up : ∀ c o, c ≠ z → g5.get? c = some o → g8.get? c = some o := fun c o c1 e => sb8.extBut _ _ c1 (sb7.extBut _ _ c1 (Heap.get?_push_of_some _ e))
    have hT8 : IsPair g8 g5.objs.size x y := sb8.extBut _ _ (Nat.ne_of_gt hzlt) (sb7.extBut _ _ (Nat.ne_of_gt hzlt) (Heap.get?_push_size _ rfl))
    refine wpAny_pure ⟨_, rfl, ?_⟩
    show Q (.ref g5.objs.size) _
    rw [hsz] at hz8 hT8 ⊢
    exact hQ g8 _ _ (.inr ⟨_, rfl⟩) hz8 ⟨x, y, up _ _ D.TOz hTO5⟩ (j15.at fun o e => up _ o D.i1z e) (j25.at fun o e => up _ o D.i2z e) hT8 fun c o c1 c2 c3 c4 e => up c o c1 (hk5 c o c1 c2 c3 c4 e)
  | false =>
    simp only [Bool.false_eq_true, if_false]
    refine wpAny_bind ?_
    rw [← Array.forIn_toList]
    simp only [List.forIn_cons, List.forIn_nil]
    refine wpAny_bind (wpAny_bind (wpAny_holding ?_))
    show wpAny _ _ (Builtin.SmallTypes.nextOf (.ref i1) >>= _) _ _ _
    have up1 : ∀ c o, c ≠ z → s.heap.get? c = some o → g0.get? c = some o := fun c o n e => sb0.extBut _ _ n e
    refine wpAny_bind (nextT_item (s := { s with heap := g0 }) (h1.at fun o e => up1 _ o D.i1z e) (hl1.at fun o e => up1 _ o D.l1z e) hx fun g2 j1 sb2 => wpAny_pure ?_)
    replace sb2 : Heap.SameBut i1 g0 g2 := sb2
    refine wpAny_pure (wpAny_bind (wpAny_bind (wpAny_holding ?_)))
    show wpAny _ _ (Builtin.SmallTypes.nextOf (.ref i2) >>= _) _ _ _
    have up2 : ∀ c o, c ≠ z → c ≠ i1 → s.heap.get? c = some o → g2.get? c = some o := fun c o n1 n2 e => sb2.extBut _ _ n2 (up1 _ _ n1 e)
    refine wpAny_bind (nextT_item (h2.at fun o e => up2 _ o D.i2z D.i12.symm e) (hl2.at fun o e => up2 _ o D.l2z D.l2i1 e) hy fun g4 j2 sb4 => wpAny_pure ?_)
    replace sb4 : Heap.SameBut i2 g2 g4 := sb4
    refine wpAny_pure (wpAny_pure ?_)
    show wpAny _ _ (newTuple [x, y] >>= _) _ _ _
    refine wpAny_bind (wpAny_newTuple (wpAny_pure ⟨_, rfl, ?_⟩))
    have hsz : g4.objs.size = s.heap.objs.size := by rw [sb4.1, sb2.1, sz0]
    show Q (.ref g4.objs.size) _
    have pu : ∀ c o, g4.get? c = some o → (g4.push { cls := .type "tuple", data := .seq #[x, y] }).get? c = some o := fun c o e => Heap.get?_push_of_some _ e
    have hT8 : IsPair (g4.push { cls := .type "tuple", data := .seq #[x, y] }) g4.objs.size x y := Heap.get?_push_size _ rfl
    rw [hsz] at hT8 ⊢
    exact hQ _ _ _ hf (pu _ _ (sb4.extBut _ _ D.i2z.symm (sb2.extBut _ _ D.i1z.symm hz0))) ⟨a, b, pu _ _ (sb4.extBut _ _ D.TOi2 (up2 _ _ D.TOz D.TOi1 hTO))⟩ (j1.at fun o e => pu _ o (sb4.extBut _ _ D.i12 e)) (j2.at fun o e => pu _ o e) hT8 fun c o c1 c2 c3 c4 e => pu _ _ (sb4.extBut _ _ c4 (up2 _ _ c1 c3 e))
theorem zptt_end {z TI TO i1 i2 l1 l2 : Addr} {k1 k2 : Nat} {f0 : Value} {f1 : Bool} {xs ys : Array Value} {a b : Value} {Q : Fin → Shared → Prop} (hh : A.handled = none) (D : ZipApart z TI TO i1 i2 l1 l2) (hf : F0 f0)
    (hz : Zp s.heap z TI TO f0 f1) (hTI : IsPair s.heap TI (.ref i1) (.ref i2)) (hTO : IsPair s.heap TO a b)
    (h1 : s.heap.IsTupleIter i1 l1 k1) (h2 : s.heap.IsTupleIter i2 l2 k2) (hl1 : s.heap.IsTuple l1 xs) (hl2 : s.heap.IsTuple l2 ys) (hend : xs[k1]? = none ∨ ys[k2]? = none)
    (hE : ∀ h' e, (∀ c o, c ≠ z → c ≠ TO → c ≠ i1 → c ≠ i2 → s.heap.get? c = some o → h'.get? c = some o) → (∃ o, h'.get? e = some o ∧ o.cls = .type "StopIteration") → E (.ref e) { s with heap := h' }) :
    wpAny (model prog w) A (Builtin.«zip.__next__» ⟨[.ref z], []⟩) Q E s := by
  show wpAny _ _ (field (.ref z) 2 >>= _) _ _ _
  refine wpAny_bind (wpAny_field hz rfl (x := .bool false) rfl ?_)
  show wpAny _ _ (field (.ref z) 3 >>= _) _ _ _
  refine wpAny_bind (wpAny_field hz rfl (x := .ref TI) rfl (wpAny_bind (wpAny_seqItems hTI rfl ?_)))
  refine wpAny_bind (zp_free hf hz fun own f1' g0 hz0 sb0 => ?_)
  cases own with
  | true =>
    simp only [if_true]
    refine wpAny_bind (wpAny_rule ?_)
    refine wpAny_bind (wpAny_field (s := { s with heap := g0 }) hz0 rfl (x := .ref TO) rfl ?_)
    refine wpAny_bind (wpAny_setField_rec (s := { s with heap := g0 }) hz0 (by simp) fun g1 hz1 sb1 => ?_)
    replace hz1 : Zp g1 z TI TO .ellipsis f1' := hz1
    refine wpAny_bind ?_
    simp only [List.zipIdx_cons, List.zipIdx_nil, List.forIn_cons, List.forIn_nil]
    refine wpAny_bind (wpAny_bind (wpAny_onRaise ?_))
    show wpAny _ _ (Builtin.SmallTypes.nextOf (.ref i1) >>= _) _ _ _
    have up1 : ∀ c o, c ≠ z → s.heap.get? c = some o → g1.get? c = some o := fun c o n e => sb1.extBut _ _ n (sb0.extBut _ _ n e)
    cases hx : xs[k1]? with
    | none =>
      refine wpAny_bind (nextT_end hh (h1.at fun o e => up1 _ o D.i1z e) (hl1.at fun o e => up1 _ o D.l1z e) hx fun g2 e sb2 he => ?_)
      obtain ⟨oe, hoe, hce⟩ := he
      have hz2 : Zp g2 z TI TO .ellipsis f1' := sb2 _ _ D.i1z.symm hz1
      have hez : e ≠ z := fun q => by subst q; rw [hz2] at hoe; cases hoe; simp at hce
      exact wpAny_setField_rec hz2 (by simp) fun g3 _ sb3 => hE g3 e (fun c o c1 _ c3 _ q => sb3.extBut _ _ c1 (sb2 _ _ c3 (up1 _ _ c1 q))) ⟨oe, sb3.extBut _ _ hez hoe, hce⟩
    | some x =>
      have hy : ys[k2]? = none := by rcases hend with q | q; rw [hx] at q; cases q; exact q
      refine wpAny_bind (nextT_item (h1.at fun o e => up1 _ o D.i1z e) (hl1.at fun o e => up1 _ o D.l1z e) hx fun g2 j1 sb2 => wpAny_pure ?_)
      have hTO2 : IsPair g2 TO a b := sb2.extBut _ _ D.TOi1 (up1 _ _ D.TOz hTO)
      refine wpAny_bind (wpAny_seqItems hTO2 rfl (wpAny_bind (wpAny_updateSeq_pair hTO2 fun g3 hTO3 sb3 => ?_)))
      refine wpAny_bind (wpAny_letGo (wpAny_pure (wpAny_bind (wpAny_bind (wpAny_onRaise ?_)))))
      show wpAny _ _ (Builtin.SmallTypes.nextOf (.ref i2) >>= _) _ _ _
      have up3 : ∀ c o, c ≠ z → c ≠ i1 → c ≠ TO → s.heap.get? c = some o → g3.get? c = some o := fun c o n1 n2 n3 e => sb3.extBut _ _ n3 (sb2.extBut _ _ n2 (up1 _ _ n1 e))
      refine wpAny_bind (nextT_end hh (h2.at fun o e => up3 _ o D.i2z D.i12.symm D.TOi2.symm e) (hl2.at fun o e => up3 _ o D.l2z D.l2i1 D.l2TO e) hy fun g4 e sb4 he => ?_)
      obtain ⟨oe, hoe, hce⟩ := he
      have hz4 : Zp g4 z TI TO .ellipsis f1' := sb4 _ _ D.i2z.symm (sb3.extBut _ _ D.TOz.symm (sb2.extBut _ _ D.i1z.symm hz1))
      have hez : e ≠ z := fun q => by subst q; rw [hz4] at hoe; cases hoe; simp at hce
      exact wpAny_setField_rec hz4 (by simp) fun g5 _ sb5 => hE g5 e (fun c o c1 c2 c3 c4 q => sb5.extBut _ _ c1 (sb4 _ _ c4 (up3 _ _ c1 c3 c2 q))) ⟨oe, sb5.extBut _ _ hez hoe, hce⟩
  | false =>
    simp only [Bool.false_eq_true, if_false]
    refine wpAny_bind ?_
    rw [← Array.forIn_toList]
    simp only [List.forIn_cons, List.forIn_nil]
    refine wpAny_bind (wpAny_bind (wpAny_holding ?_))
    show wpAny _ _ (Builtin.SmallTypes.nextOf (.ref i1) >>= _) _ _ _
    have up1 : ∀ c o, c ≠ z → s.heap.get? c = some o → g0.get? c = some o := fun c o n e => sb0.extBut _ _ n e
    cases hx : xs[k1]? with
    | none =>
      refine wpAny_bind (nextT_end (s := { s with heap := g0 }) hh (h1.at fun o e => up1 _ o D.i1z e) (hl1.at fun o e => up1 _ o D.l1z e) hx fun g2 e sb2 he => ?_)
      exact hE g2 e (fun c o c1 _ c3 _ q => sb2 _ _ c3 (up1 _ _ c1 q)) he
    | some x =>
      have hy : ys[k2]? = none := by rcases hend with q | q; rw [hx] at q; cases q; exact q
      refine wpAny_bind (nextT_item (s := { s with heap := g0 }) (h1.at fun o e => up1 _ o D.i1z e) (hl1.at fun o e => up1 _ o D.l1z e) hx fun g2 j1 sb2 => wpAny_pure ?_)
      replace sb2 : Heap.SameBut i1 g0 g2 := sb2
      refine wpAny_pure (wpAny_bind (wpAny_bind (wpAny_holding ?_)))
      show wpAny _ _ (Builtin.SmallTypes.nextOf (.ref i2) >>= _) _ _ _
      have up2 : ∀ c o, c ≠ z → c ≠ i1 → s.heap.get? c = some o → g2.get? c = some o := fun c o n1 n2 e => sb2.extBut _ _ n2 (up1 _ _ n1 e)
      refine wpAny_bind (nextT_end hh (h2.at fun o e => up2 _ o D.i2z D.i12.symm e) (hl2.at fun o e => up2 _ o D.l2z D.l2i1 e) hy fun g4 e sb4 he => ?_)
      exact hE g4 e (fun c o c1 c2 c3 c4 q => sb4 _ _ c4 (up2 _ _ c1 c3 q)) he
noncomputable abbrev zqq1 (h : Heap) (l : Addr) : Heap := h.push { cls := .type "tuple_iterator", data := .fields #[.ref l, .int 0 0] }
noncomputable abbrev zqq2 (h : Heap) (l m : Addr) : Heap := (zqq1 h l).push { cls := .type "tuple_iterator", data := .fields #[.ref m, .int 0 0] }
noncomputable abbrev zqq3 (h : Heap) (l m : Addr) : Heap := (zqq2 h l m).push { cls := .type "tuple", data := .seq #[.ref h.objs.size, .ref (zqq1 h l).objs.size] }
noncomputable abbrev zqq4 (h : Heap) (l m : Addr) : Heap := (zqq3 h l m).push { cls := .type "tuple", data := .seq #[.none, .none] }
noncomputable abbrev zqq5 (h : Heap) (l m : Addr) : Heap := (zqq4 h l m).push { cls := .type "zip", data := .fields #[.none, .bool false, .bool false, .ref (zqq2 h l m).objs.size, .ref (zqq3 h l m).objs.size] }
theorem meets_zipTT (l m : Addr) (xs ys : Array Value) : Meets (Builtin.«zip.__new__» ⟨[.type "zip", .ref l, .ref m], []⟩) (fun _ R s => s.heap.IsTuple l xs ∧ s.heap.IsTuple m ys ∧ R (.ok (.ret (.ref (zqq4 s.heap l m).objs.size))) { s with heap := zqq5 s.heap l m }) :=
  .of_wp fun prog w A R s h => by
    obtain ⟨h0, g0, d0, t0, os0⟩ := s
    obtain ⟨hl, hm, h⟩ := h
    have hsub := sub_zip
    have e1 : Heap.IsTuple (Shared.heap ⟨h0, g0, d0, t0, os0⟩) l xs := hl
    have e2 : Heap.IsTuple (Shared.heap ⟨zqq1 h0 l, g0, d0, t0, os0⟩) m ys := Heap.IsTuple.push hm _
    wp_walk using wpAny_pyIter_tuple e1, wpAny_pyIter_tuple e2
    exact ⟨_, rfl, h⟩
theorem call_zipTT {l m : Addr} {xs ys : Array Value} {Q : Value → Shared → Prop} (hl : s.heap.IsTuple l xs) (hm : s.heap.IsTuple m ys)
    (h : ∀ h', Zp h' (s.heap.objs.size + 4) (s.heap.objs.size + 2) (s.heap.objs.size + 3) .none false → IsPair h' (s.heap.objs.size + 2) (.ref s.heap.objs.size) (.ref (s.heap.objs.size + 1)) → IsPair h' (s.heap.objs.size + 3) .none .none →
      h'.IsTupleIter s.heap.objs.size l 0 → h'.IsTupleIter (s.heap.objs.size + 1) m 0 → (∀ c o, s.heap.get? c = some o → h'.get? c = some o) → Q (.ref (s.heap.objs.size + 4)) { s with heap := h' }) :
    wpAny (model prog w) A (call (.type "zip") [.ref l, .ref m]) Q E s := by
  have a1 : (zqq1 s.heap l).objs.size = s.heap.objs.size + 1 := Heap.size_push ..
  have a2 : (zqq2 s.heap l m).objs.size = s.heap.objs.size + 2 := (Heap.size_push ..).trans (by rw [a1])
  have a3 : (zqq3 s.heap l m).objs.size = s.heap.objs.size + 3 := (Heap.size_push ..).trans (by rw [a2])
  have a4 : (zqq4 s.heap l m).objs.size = s.heap.objs.size + 4 := (Heap.size_push ..).trans (by rw [a3])
  have k5 : ∀ {c : Addr} {o : Obj}, (zqq4 s.heap l m).get? c = some o → (zqq5 s.heap l m).get? c = some o := fun q => Heap.get?_push_of_some _ q
  have k4 : ∀ {c : Addr} {o : Obj}, (zqq3 s.heap l m).get? c = some o → (zqq5 s.heap l m).get? c = some o := fun q => k5 (Heap.get?_push_of_some _ q)
  have k3 : ∀ {c : Addr} {o : Obj}, (zqq2 s.heap l m).get? c = some o → (zqq5 s.heap l m).get? c = some o := fun q => k4 (Heap.get?_push_of_some _ q)
  have k2 : ∀ {c : Addr} {o : Obj}, (zqq1 s.heap l).get? c = some o → (zqq5 s.heap l m).get? c = some o := fun q => k3 (Heap.get?_push_of_some _ q)
  have b5 : (zqq5 s.heap l m).get? (zqq4 s.heap l m).objs.size = some { cls := .type "zip", data := .fields #[.none, .bool false, .bool false, .ref (zqq2 s.heap l m).objs.size, .ref (zqq3 s.heap l m).objs.size] } := Heap.get?_push_size _ rfl
  have b4 := k5 (Heap.get?_push_size (zqq3 s.heap l m) (o := { cls := .type "tuple", data := .seq #[.none, .none] }) rfl)
  have b3 := k4 (Heap.get?_push_size (zqq2 s.heap l m) (o := { cls := .type "tuple", data := .seq #[.ref s.heap.objs.size, .ref (zqq1 s.heap l).objs.size] }) rfl)
  have b2 := k3 (Heap.get?_push_size (zqq1 s.heap l) (o := { cls := .type "tuple_iterator", data := .fields #[.ref m, .int 0 0] }) rfl)
  have b1 := k2 (Heap.get?_push_size s.heap (o := { cls := .type "tuple_iterator", data := .fields #[.ref l, .int 0 0] }) rfl)
  rw [a2, a3, a4] at b5
  rw [a3] at b4
  rw [a1, a2] at b3
  rw [a1] at b2
  refine callType_new F.called_zip (by decide) (F.typeCall_zip_2 _ _) (F.newCall_zip_2 _ _) (fun ob => F.args_object_init_3 ob _ _) F.entry_zip_new (meets_zipTT l m xs ys) ⟨hl, hm, ?_⟩
  show _ ∧ _
  rw [a4]
  exact ⟨⟨_, b5, rfl⟩, h _ b5 b3 b4 ⟨_, b1, rfl, rfl⟩ ⟨_, b2, rfl, rfl⟩ fun c o q => k2 (Heap.get?_push_of_some _ q)⟩
end
noncomputable def Itztt (K : PySem.W.Frag) (a b : Addr) : It :=
  ⟨fun i H => ∃ xs ys x y, SqT K H a xs ∧ SqT K H b ys ∧ xs[i]? = some x ∧ ys[i]? = some y,
   fun i H v H' => ∃ p x y, H p = none ∧ v = .ref p ∧ (∀ xs, SqT K H a xs → xs[i]? = some x) ∧ (∀ ys, SqT K H b ys → ys[i]? = some y) ∧ H' = upd H p (.tup [x, y]),
   fun i H => ∃ xs ys, SqT K H a xs ∧ SqT K H b ys ∧ (xs.length ≤ i ∨ ys.length ≤ i)⟩
theorem turn_zipTT {P : Program} {w : World} {K : PySem.W.Frag} {nm : Str} {tp : Pos} (a b z TI TO i1 i2 : Addr) (D : ZipApart z TI TO i1 i2 a b) :
    Turn P w K (.Name nm tp) (Itztt K a b) [z, TI, TO, i1, i2] z (fun i h => (∃ f0 f1, F0 f0 ∧ Zp h z TI TO f0 f1) ∧ IsPair h TI (.ref i1) (.ref i2) ∧ (∃ c d, IsPair h TO c d) ∧ h.IsTupleIter i1 a i ∧ h.IsTupleIter i2 b i) where
  mem := by simp
  obj := fun i h st c hc => by
    obtain ⟨⟨f0, f1, _, hz⟩, hTI, ⟨u, v, hTO⟩, ⟨o1, e1, _, d1⟩, ⟨o2, e2, _, d2⟩⟩ := st
    have hc : c = z ∨ c = TI ∨ c = TO ∨ c = i1 ∨ c = i2 := by simpa using hc
    rcases hc with rfl | rfl | rfl | rfl | rfl
    · exact ⟨_, hz, fun v q => by cases q⟩
    · exact ⟨_, hTI, fun v q => by cases q⟩
    · exact ⟨_, hTO, fun v q => by cases q⟩
    · exact ⟨_, e1, fun v q => by rw [d1] at q; cases q⟩
    · exact ⟨_, e2, fun v q => by rw [d2] at q; cases q⟩
  keep := fun i h h' st k => by
    obtain ⟨⟨f0, f1, hf, hz⟩, hTI, ⟨u, v, hTO⟩, h1, h2⟩ := st
    exact ⟨⟨f0, f1, hf, k z (by simp) _ hz⟩, k TI (by simp) _ hTI, ⟨u, v, k TO (by simp) _ hTO⟩, h1.at fun o e => k i1 (by simp) o e, h2.at fun o e => k i2 (by simp) o e⟩
  item := by
    intro X hP hw hK hc i pins s σ H E I hf st hg
    subst hP hw hK
    obtain ⟨⟨f0, f1, hf0, hz⟩, hTI, ⟨ta, tb, hTO⟩, h1, h2⟩ := st
    obtain ⟨xs, ys, x, y, hqa, hqb, hx, hy⟩ := hg
    obtain ⟨its, rv, pa, _⟩ := I.tuple hqa
    obtain ⟨jts, rw', pb, _⟩ := I.tuple hqb
    obtain ⟨u, hu, ru⟩ := rv.get hx
    obtain ⟨v, hv, rv'⟩ := rw'.get hy
    refine zip_next_typed ⟨_, hz, rfl⟩ (zptt_item D hf0 hz hTI hTO h1 h2 (show s.heap.IsTuple a its.toArray from pa) (show s.heap.IsTuple b jts.toArray from pb) (x := u) (y := v) (by simpa using hu) (by simpa using hv) fun h' f0' f1' hf' hz' hTO' j1 j2 hpr k => ⟨_, rfl, ?_⟩)
    refine wpAny_pure (s := { s with heap := h' }) ?_
    have hp : H s.heap.objs.size = none := I.hok.fresh (Nat.le_refl _)
    have fr : ∀ c ∈ [z, TI, TO, i1, i2], H c = none := fun c hc => (hf c hc).1
    have nit : ∀ c o, H c = some o → c ≠ z ∧ c ≠ TO ∧ c ≠ i1 ∧ c ≠ i2 := fun c o q => by
      refine ⟨?_, ?_, ?_, ?_⟩ <;> (intro e; rw [e, fr _ (by simp)] at q; cases q)
    have up : ∀ c o, H c = some o → upd H s.heap.objs.size (.tup [x, y]) c = some o := fun c o q => by rw [upd_ne (ne_of_none q hp)]; exact q
    have kk : ∀ c o, c ∉ [z, TO, i1, i2] → s.heap.get? c = some o → h'.get? c = some o := fun c o n q => k c o (fun e => n (by simp [e])) (fun e => n (by simp [e])) (fun e => n (by simp [e])) (fun e => n (by simp [e])) q
    have mem5 : ∀ c ∈ [z, TO, i1, i2], c ∈ [z, TI, TO, i1, i2] := fun c hc => by simp at hc ⊢; rcases hc with e | e | e | e <;> simp [e]
    have hlt : ∀ c ∈ [z, TI, TO, i1, i2], c < s.heap.objs.size := fun c hc => by
      have hc : c = z ∨ c = TI ∨ c = TO ∨ c = i1 ∨ c = i2 := by simpa using hc
      rcases hc with rfl | rfl | rfl | rfl | rfl
      · exact Heap.lt_size hz
      · exact Heap.lt_size hTI
      · exact Heap.lt_size hTO
      · obtain ⟨o, e, _⟩ := h1; exact Heap.lt_size e
      · obtain ⟨o, e, _⟩ := h2; exact Heap.lt_size e
    have I1 : Inv X pins σ (upd H s.heap.objs.size (.tup [x, y])) { s with heap := h', gens := s.gens, drawn := s.drawn, toks := s.toks } := by
      refine I.step (g' := s.gens) (d' := s.drawn) (ch := [z, TO, i1, i2]) (fun c hc => ?_) (fun c o _ _ n q _ => kk c o n q) (fun c o _ _ n q _ => ⟨o.slots, kk c o n q⟩) (fun c o _ q n => ?_) (fun c o n q => ⟨o, kk c o n q⟩) (fun c ys q => up c _ q) (fun c o v q => up c _ q) (fun c ps q => ⟨#[], by rw [up c _ q]; simp⟩) (fun m hm => ?_) (fun c o q => ?_) I.bare
      · obtain ⟨_, g1, _, g3, g4, g5⟩ := hf c (mem5 c hc)
        exact ⟨g3, g1, g4, g5⟩
      · rw [upd_ne (Nat.ne_of_lt (Heap.lt_size q))]; exact n
      · obtain ⟨o, es, ep, ho, r⟩ := hm
        refine ⟨o, es, ep, kk _ o (fun n => ?_) ho, r⟩
        exact (hf _ (mem5 _ n)).2.1 rfl
      · by_cases hb : c = s.heap.objs.size
        · subst hb
          rw [upd_same] at q
          have q' : HO.tup [x, y] = o := Option.some.inj q
          subst q'
          exact ⟨by show 2 ≤ sizeLine; decide, [u, v], .cons ru (.cons rv' .nil), ⟨_, hpr, rfl, _, rfl, rfl⟩⟩
        · rw [upd_ne hb] at q
          refine (I.hok c o q).stay (fun d o' hd q' => ?_) (fun d q => up d _ q) fun d ys q => up d _ q
          rcases hd with e | e
          · rw [e] at q' ⊢; obtain ⟨n1, n2, n3, n4⟩ := nit c o q; exact k c o' n1 n2 n3 n4 q'
          · obtain ⟨n1, n2, n3, n4⟩ := nit d _ e; exact k d o' n1 n2 n3 n4 q'
    refine ⟨.ref s.heap.objs.size, upd H s.heap.objs.size (.tup [x, y]), I1, rfl, ⟨_, x, y, hp, rfl, fun zs hz => by rw [I.tuple_inj hz hqa]; exact hx, fun zs hz => by rw [I.tuple_inj hz hqb]; exact hy, rfl⟩, ⟨⟨f0', f1', hf', hz'⟩, ?_, hTO', j1, j2⟩, fun c hc => ?_⟩
    · exact k TI _ D.TIz D.TITO D.TIi1 D.TIi2 hTI
    · rw [upd_ne (Nat.ne_of_lt (hlt c hc))]; exact fr c hc
  done := by
    intro X hP hw hK hc i pins s σ H E I hf st hg
    subst hP hw hK
    obtain ⟨⟨f0, f1, hf0, hz⟩, hTI, ⟨ta, tb, hTO⟩, h1, h2⟩ := st
    obtain ⟨xs, ys, hqa, hqb, hxy⟩ := hg
    obtain ⟨its, rv, pa, _⟩ := I.tuple hqa
    obtain ⟨jts, rw', pb, _⟩ := I.tuple hqb
    have l1 := rv.length
    have l2 := rw'.length
    have hend : its.toArray[i]? = none ∨ jts.toArray[i]? = none := by
      rcases hxy with q | q
      · exact .inl (by simp; omega)
      · exact .inr (by simp; omega)
    refine zip_next_typed ⟨_, hz, rfl⟩ (zptt_end (A := X.A.in1) (show X.A.in1.handled = none from I.ok.hd hc) D hf0 hz hTI hTO h1 h2 (show s.heap.IsTuple a its.toArray from pa) (show s.heap.IsTuple b jts.toArray from pb) hend fun h' e k he => ⟨he, ⟨e, rfl⟩, rfl, ?_⟩)
    have fr : ∀ c ∈ [z, TI, TO, i1, i2], H c = none := fun c hc => (hf c hc).1
    have nit : ∀ c o, H c = some o → c ≠ z ∧ c ≠ TO ∧ c ≠ i1 ∧ c ≠ i2 := fun c o q => by
      refine ⟨?_, ?_, ?_, ?_⟩ <;> (intro e; rw [e, fr _ (by simp)] at q; cases q)
    have kk : ∀ c o, c ∉ [z, TO, i1, i2] → s.heap.get? c = some o → h'.get? c = some o := fun c o n q => k c o (fun e => n (by simp [e])) (fun e => n (by simp [e])) (fun e => n (by simp [e])) (fun e => n (by simp [e])) q
    have mem5 : ∀ c ∈ [z, TO, i1, i2], c ∈ [z, TI, TO, i1, i2] := fun c hc => by simp at hc ⊢; rcases hc with e | e | e | e <;> simp [e]
    refine I.step (h' := h') (g' := s.gens) (d' := s.drawn) (t' := s.toks) (ch := [z, TO, i1, i2]) (fun c hc => ?_) (fun c o _ _ n q _ => kk c o n q) (fun c o _ _ n q _ => ⟨o.slots, kk c o n q⟩) (fun c o _ q n => n) (fun c o n q => ⟨o, kk c o n q⟩) (fun c ys q => q) (fun c o v q => q) (fun c ps q => ⟨#[], by rw [q]; simp⟩) (fun m hm => ?_) (fun c o q => ?_) I.bare
    · obtain ⟨_, g1, _, g3, g4, g5⟩ := hf c (mem5 c hc)
      exact ⟨g3, g1, g4, g5⟩
    · obtain ⟨o, es, ep, ho, r⟩ := hm
      refine ⟨o, es, ep, kk _ o (fun n => ?_) ho, r⟩
      exact (hf _ (mem5 _ n)).2.1 rfl
    · refine (I.hok c o q).stay (fun d o' hd q' => ?_) (fun d q => q) fun d ys q => q
      rcases hd with e | e
      · rw [e] at q' ⊢; obtain ⟨n1, n2, n3, n4⟩ := nit c o q; exact k c o' n1 n2 n3 n4 q'
      · obtain ⟨n1, n2, n3, n4⟩ := nit d _ e; exact k d o' n1 n2 n3 n4 q'
  self := fun A i s Q E st h => by
    obtain ⟨⟨f0, f1, hf0, hz⟩, _⟩ := st
    have hT : s.TypeIs (.ref z) "zip" := ⟨_, hz, rfl⟩
    refine wpAny_pyIter_slot hT F.slot_zip_iter (wpAny_call_entry F.slot_zip_iter hT F.entry_zip_iter ?_ (F.args_zip_iter_1 _))
    show wpAny _ _ (ret (.ref z)) _ _ s
    exact wpAny_pure ⟨_, rfl, "zip", _, hT, F.slot_zip_next.lookup, h⟩
end L2
namespace L2
open PySem PySem.Spec PyProof.Rows
section
variable {X : Cx}
noncomputable def rCatTA (K : PySem.W.Frag) : R2 := fun x y H Q => ∃ a b xs ys, x = .ref a ∧ y = .ref b ∧ SqT K H a xs ∧ SqT K H b ys ∧ xs.length + ys.length ≤ sizeLine ∧
  (xs = [] → Q (.ref b) H) ∧ (xs ≠ [] → ys = [] → Q (.ref a) H) ∧ (xs ≠ [] → ys ≠ [] → ∀ p, H p = none → Q (.ref p) (upd H p (.tup (xs ++ ys))))
theorem op_catTA (K : PySem.W.Frag) (hK : X.K = K := by rfl) : OpR X (binaryOp .Add) (rCatTA K) := by
  subst hK
  intro pins s σ H x y v u Q I rx ry h
  obtain ⟨a, b, xs, ys, rfl, rfl, ha, hb, hz, q0, q1, q2⟩ := h
  by_cases hx : xs = []
  · cases rx
    cases ry
    obtain ⟨its, r1, p1, _⟩ := I.tuple ha
    obtain ⟨its2, r2, p2, _⟩ := I.tuple hb
    have e1 : its = [] := r1.nil_iff.mpr hx
    obtain ⟨⟨cls, dd, data, sl⟩, ho, hc, n, hd⟩ := id p1
    obtain ⟨⟨cls2, dd2, data2, sl2⟩, ho2, hc2, n2, hd2⟩ := id p2
    simp only at hc hd hc2 hd2
    subst hc hd hc2 hd2
    exact concat_meets ⟨_, ho, rfl⟩ ⟨_, ho2, rfl⟩ noFill_tuple_add seq_tuple_add F.slot_tuple_add F.entry_tuple_add (F.args_tuple_add_2 _ _) (tuple_addW0 a b its.toArray its2.toArray n n2 dd dd2 sl sl2 (by simp [e1])) ⟨ho, ho2, ⟨.ref b, H, I, rfl, q0 hx⟩⟩
  · exact op_catT pins s σ H _ _ v u Q I rx ry ⟨a, b, xs, ys, rfl, rfl, ha, hb, hx, hz, q1 hx, q2 hx⟩
end
end L2
namespace L2
open PySem PySem.Spec PyProof.Rows
section
variable {prog : Program} {w : World} {A : Around} {E : Value → Shared → Prop} {s : Shared}
theorem go_zipP {elts : List Expr} {x1} {pos : Pos} {z TI TO T : Addr} {f0 : Value} {f1 : Bool} {Q : Unit → Shared → Prop} (hf : F0 f0) (hz : Zp s.heap z TI TO f0 f1)
    (hQ : ∀ h' f0', F0 f0' → Zp h' z TI TO f0' f1 → Heap.SameBut z s.heap h' → Q () { s with heap := h' }) : wpAny (model prog w) A (letOwnedTupleGo (.Tuple elts x1 pos) (.ref z) (.ref T)) Q E s := by
  unfold letOwnedTupleGo
  refine wpAny_bind (wpAny_load hz ?_)
  show wpAny _ A (if (["enumerate", "zip", "dict_itemiterator", "dict_reverseitemiterator", "odict_iterator", "itertools.zip_longest", "itertools.pairwise"].contains "zip" && _) = true then _ else _) Q E s
  split
  · refine wpAny_bind (wpAny_rule ?_)
    show wpAny _ A (setField (.ref z) 0 .none) Q E s
    exact wpAny_setField_rec hz (by simp) fun h' hz' sb => hQ h' _ (.inl rfl) hz' sb
  · exact wpAny_pure (hQ s.heap f0 hf hz (Heap.SameBut.refl _ _))
end
end L2
namespace L2
open PySem PySem.Spec PyProof.Rows
section
open PySem.W PySem.Calls Builtin Builtin.ObjectAttr Builtin.Getset_descriptor
variable {K : Frag} {x C : Addr} {h : Heap} {M : Model}
variable {prog : Program} {w : World} {A : Around} {E : Value → Shared → Prop} {s : Shared}
end
end L2
namespace L2
open PySem PySem.Spec PyProof.Rows
section
open PySem.W Builtin Builtin.ObjectAttr
variable {prog : Program} {w : World} {A : Around} {E : Value → Shared → Prop} {s : Shared} {K : Frag} {x C t : Addr} {f : Str} {v : Value}
end
end L2
namespace L2
open PySem PySem.Spec PyProof.Rows
section
open PySem.W PySem.Calls Builtin Builtin.ObjectAttr
variable {K : Frag} {x C : Addr} {h : Heap} {M : Model} {prog : Program} {w : World} {A : Around} {E : Value → Shared → Prop} {s : Shared} {ox od : Obj} {f : Str} {u : Value}
end
end L2
namespace L2
open PySem PySem.Spec PyProof.Rows
variable {K : PySem.W.Frag} {mg : Str → Option Value} {base : Heap}
end L2
namespace MG
variable {es : List (Nat × Nat)} {goal : Nat}
end MG
namespace MG
variable {es : List (Nat × Nat)} {n : Nat} {ks ls : List Nat}
end MG
namespace L2
open PySem PySem.Spec PyProof.Rows
section
variable {X : Cx} {p pos : Pos} {e : Expr} {t : TA}
theorem sl_tupK (K : PySem.W.Frag) (hK : X.K = K := by rfl) : SlR X (rSlT K) := hK ▸ sl_tup
end
end L2
namespace L2
open PySem PySem.Spec PyProof.Rows PySem.W
noncomputable def up1 (c : Nat) : Nat := if 97 ≤ c ∧ c ≤ 122 then c - 32 else c
end L2
namespace L2
open PySem PySem.Spec PyProof.Rows
namespace SU
theorem entry_loop : entryFor table "set.update.loop" = some Builtin.«set.update.loop» := entryFor_of_tree (by kernel_rfl)
theorem plain_loop : plainId "set.update.loop" = true := by decide +kernel
end SU
end L2
namespace L2
open PySem PySem.Spec PyProof.Rows
noncomputable def iZipTT (K : PySem.W.Frag) (ta : TA) : TI := fun σ H R => ta σ H fun vs H1 => ∃ a b xs ys, vs = [.ref a, .ref b] ∧ SqT K H1 a xs ∧ SqT K H1 b ys ∧ R (Itztt K a b) H1
theorem turn_zipTTP {P : Program} {w : World} {K : PySem.W.Frag} {elts : List Expr} {x1} {tp : Pos} (a b z TI TO i1 i2 : Addr) (D : ZipApart z TI TO i1 i2 a b) :
    Turn P w K (.Tuple elts x1 tp) (Itztt K a b) [z, TI, TO, i1, i2] z (fun i h => (∃ f0 f1, F0 f0 ∧ Zp h z TI TO f0 f1) ∧ IsPair h TI (.ref i1) (.ref i2) ∧ (∃ c d, IsPair h TO c d) ∧ h.IsTupleIter i1 a i ∧ h.IsTupleIter i2 b i) := by
  have T := turn_zipTT (P := P) (w := w) (K := K) (nm := "x") (tp := tp) a b z TI TO i1 i2 D
  refine ⟨T.mem, T.obj, T.keep, ?_, T.done, T.self⟩
  intro X hP hw hK hc i pins s σ H E I hf st hg
  refine thn (T.item X hP hw hK hc i pins s σ H E I hf st hg) fun r s1 ⟨u, hr, h⟩ => ⟨u, hr, ?_⟩
  have key : wpAny (model P w) X.A (letOwnedTupleGo (.Name "x" tp) (.ref z) u >>= fun _ => letOwnedTupleGo (.Tuple elts x1 tp) (.ref z) u) (fun _ s2 => ∃ x H', Inv X pins σ H' s2 ∧ RelV x u ∧ (Itztt K a b).yld i H x H' ∧ ((∃ f0 f1, F0 f0 ∧ Zp s2.heap z TI TO f0 f1) ∧ IsPair s2.heap TI (.ref i1) (.ref i2) ∧ (∃ c d, IsPair s2.heap TO c d) ∧ s2.heap.IsTupleIter i1 a (i + 1) ∧ s2.heap.IsTupleIter i2 b (i + 1)) ∧ ∀ c ∈ [z, TI, TO, i1, i2], H' c = none) E s1 := by
    refine wpAny_bind (thn h fun _ s2 ⟨x, H', I', rx, yl, tn, hn⟩ => ?_)
    obtain ⟨p, x0, y0, hp, rfl, hx0, hy0, rfl⟩ := id yl
    cases rx
    obtain ⟨⟨f0, f1, hf0, hz⟩, hTI, ⟨ta, tb, hTO⟩, h1, h2⟩ := tn
    refine go_zipP hf0 hz fun h' f0' hf' hz' sb => ?_
    have kk : ∀ c o, c ≠ z → s2.heap.get? c = some o → h'.get? c = some o := fun c o n e => sb.extBut c o n e
    have nz : ∀ c o, upd H p (.tup [x0, y0]) c = some o → c ≠ z := fun c o q e => by rw [e, hn z (by simp)] at q; cases q
    refine ⟨.ref p, _, ?_, rfl, yl, ⟨⟨f0', f1, hf', hz'⟩, kk _ _ D.TIz hTI, ⟨ta, tb, kk _ _ D.TOz hTO⟩, h1.at fun o e => kk _ o D.i1z e, h2.at fun o e => kk _ o D.i2z e⟩, hn⟩
    have k1 : ∀ c o, c ∉ [z] → s2.heap.get? c = some o → h'.get? c = some o := fun c o n e => kk c o (fun q => n (by simp [q])) e
    refine I'.step (h' := h') (g' := s2.gens) (d' := s2.drawn) (t' := s2.toks) (ch := [z]) (fun c hc => ?_) (fun c o _ _ n q _ => k1 c o n q) (fun c o _ _ n q _ => ⟨o.slots, k1 c o n q⟩) (fun c o _ q n => n) (fun c o n q => ⟨o, k1 c o n q⟩) (fun c ys q => q) (fun c o v q => q) (fun c ps q => ⟨#[], by rw [q]; simp⟩) (fun m hm => ?_) (fun c o q => ?_) I'.bare
    · have hc : c = z := by simpa using hc
      subst hc
      obtain ⟨_, g1, _, g3, g4, g5⟩ := hf c (by simp)
      exact ⟨g3, g1, g4, g5⟩
    · obtain ⟨o, es, ep, ho, r⟩ := hm
      refine ⟨o, es, ep, k1 _ o (fun n => ?_) ho, r⟩
      exact (hf _ (by rw [List.mem_singleton.mp n]; simp)).2.1 rfl
    · refine (I'.hok c o q).stay (fun d o' hd q' => ?_) (fun d q => q) fun d ys q => q
      rcases hd with e | e
      · rw [e] at q' ⊢; exact kk c o' (nz c o q) q'
      · exact kk d o' (nz d _ e) q'
  exact key
theorem pi_zipTTP (K : PySem.W.Frag) {X : Cx} {elts : List Expr} {x1} {tp : Pos} {a b : Expr} {ta : TA} {p pos : Pos} (hg : Gl X "zip") (hm : X.mg "zip" = none) (ha : PA X [a, b] ta) (hs : starEach [a, b] X.env = (false, eval a X.env) :: starEach [b] X.env := by rfl) (hpl : (backTo pos (starEach [b] X.env)).any (·.1) = false := by rfl) (hK : X.K = K := by rfl) :
    PI X (.Tuple elts x1 tp) (.Call (.Name "zip" p) [a, b] [] pos) (iZipTT K ta) := by
  subst hK
  intro pins s σ H R I h
  refine Call_ (ld_blt I hg hm (show bootBuiltins "zip" = some (.type "zip") by decide +kernel) (PyProof.Rows.callWith_type1 (thn (ha pos pins s σ H _ I h) fun us s1 ⟨vs, H1, I1, r1, q1⟩ => ?_) hs hpl))
  obtain ⟨l1, l2, xs, ys, e, hqa, hqb, q⟩ := q1
  subst e
  obtain ⟨u1, u2, rfl, r1, r2⟩ := vals2 r1
  cases r1
  cases r2
  obtain ⟨its, rv, pa, _⟩ := I1.tuple hqa
  obtain ⟨jts, rw', pb, _⟩ := I1.tuple hqb
  have a1 : l1 < s1.heap.objs.size := by obtain ⟨_, e, _⟩ := pa; exact Heap.lt_size e
  have a2 : l2 < s1.heap.objs.size := by obtain ⟨_, e, _⟩ := pb; exact Heap.lt_size e
  refine call_zipTT (show s1.heap.IsTuple l1 its.toArray from pa) (show s1.heap.IsTuple l2 jts.toArray from pb) fun h' hz hTI hTO hi1 hi2 hk => ?_
  have T := turn_zipTTP (P := X.prog) (w := X.w) (K := X.K) (elts := elts) (x1 := x1) (tp := tp) l1 l2 _ _ _ _ _ (zipApart_new a1 a2)
  have t0 : (∃ f0 f1, F0 f0 ∧ Zp h' (s1.heap.objs.size + 4) (s1.heap.objs.size + 2) (s1.heap.objs.size + 3) f0 f1) ∧ IsPair h' (s1.heap.objs.size + 2) (.ref s1.heap.objs.size) (.ref (s1.heap.objs.size + 1)) ∧ (∃ c d, IsPair h' (s1.heap.objs.size + 3) c d) ∧ h'.IsTupleIter s1.heap.objs.size l1 0 ∧ h'.IsTupleIter (s1.heap.objs.size + 1) l2 0 := ⟨⟨_, _, .inl rfl, hz⟩, hTI, ⟨_, _, hTO⟩, hi1, hi2⟩
  refine T.self X.A 0 { s1 with heap := h' } _ _ t0 ?_
  refine ⟨_, _, _, _, H1, rfl, I1.kept (t' := s1.toks) hk, T, t0, fun b hb => ?_, q⟩
  have hb : b = s1.heap.objs.size + 4 ∨ b = s1.heap.objs.size + 2 ∨ b = s1.heap.objs.size + 3 ∨ b = s1.heap.objs.size ∨ b = s1.heap.objs.size + 1 := by simpa using hb
  have hle : s1.heap.objs.size ≤ b := by rcases hb with e | e | e | e | e <;> rw [e] <;> first | exact Nat.le_refl _ | exact Nat.le_add_right _ _
  exact I1.fpOk hle (I1.hok.fresh hle)
theorem comp_zipTT {K : PySem.W.Frag} {k : Nat} {fr : List Nat} {g : TG} {tc : TT} {te : TE} {σ : St} {H1 : Hp} {Q : VK} {a b : Addr} (xs ys : List V) (Pv : Addr → Nat → List V → St → Hp → Prop)
    (h : ∀ D, H1 D = none → Pv D 0 [] (inSt k fr σ) (upd H1 D (.lst [])) ∧ (∀ i acc σ' H', i ≤ (xs.zip ys).length → Pv D i acc σ' H' → H' D = some (.lst acc) → SqT K H' a xs ∧ SqT K H' b ys) ∧
      (∀ i acc σ' H' x y p, (xs.zip ys)[i]? = some (x, y) → Pv D i acc σ' H' → H' D = some (.lst acc) → H' p = none → g (.ref p) σ' (upd H' p (.tup [x, y])) fun σ2 H3 => tc σ2 H3 fun b H4 =>
        if b = true then te σ2 H4 fun y H5 => H5 D = some (.lst acc) ∧ acc.length < sizeLine ∧ Pv D (i + 1) (acc ++ [y]) σ2 (upd H5 D (.lst (acc ++ [y]))) else H4 D = some (.lst acc) ∧ Pv D (i + 1) acc σ2 H4) ∧
      ∀ acc σ' H', Pv D (xs.zip ys).length acc σ' H' → H' D = some (.lst acc) → Q (.ref D) H') : tCompW k fr g tc te (Itztt K a b) σ H1 Q := by
  intro D hD
  obtain ⟨h0, hok, hs, hd⟩ := h D hD
  refine ⟨fun i m acc σ' H' => m = (xs.zip ys).length - i ∧ i ≤ (xs.zip ys).length ∧ Pv D i acc σ' H', ⟨(xs.zip ys).length, by simp, Nat.zero_le _, h0⟩, ?_⟩
  rintro i m acc σ' H' ⟨rfl, hi, p⟩ hacc
  obtain ⟨oka, okb⟩ := hok i acc σ' H' hi p hacc
  have hl : (xs.zip ys).length = min xs.length ys.length := List.length_zip
  by_cases hlt : i < (xs.zip ys).length
  · refine .inr ⟨⟨xs, ys, xs[i]'(by omega), ys[i]'(by omega), oka, okb, by simp, by simp⟩, Pv D (i + 1), fun acc' σ2 H2 p' => ⟨(xs.zip ys).length - (i + 1), by omega, rfl, hlt, p'⟩, fun v H2 yl => ?_⟩
    obtain ⟨q, x, y, hq, rfl, hx, hy, rfl⟩ := yl
    refine hs i acc σ' H' x y q ?_ p hacc hq
    rw [List.getElem?_zip_eq_some]
    exact ⟨hx xs oka, hy ys okb⟩
  · have e : i = (xs.zip ys).length := by omega
    subst e
    exact .inl ⟨⟨xs, ys, oka, okb, by omega⟩, hd acc σ' H' p hacc⟩
noncomputable def iSeq (K : PySem.W.Frag) (tl : TE) : TI := fun σ H R => tl σ H fun x H1 => ∃ a, x = .ref a ∧ ((∃ xs, SqL K H1 a xs) ∧ R (Itl K a) H1 ∨ (∃ xs, SqT K H1 a xs) ∧ R (Itt K a) H1)
theorem pi_seqK (K : PySem.W.Frag) {X : Cx} {tg l : Expr} {tl : TE} (hl : PE X l tl) (hK : X.K = K := by rfl) : PI X tg l (iSeq K tl) := by
  subst hK
  intro pins s σ H R I h
  refine thn (hl pins s σ H _ I h) fun v s1 ⟨x, H1, I1, r1, q1⟩ => ?_
  obtain ⟨a, e, q⟩ := q1
  subst e
  cases r1
  have fp : ∀ b ∈ [s1.heap.objs.size], FpOk X pins H1 b := fun b hb => by
    have e : b = s1.heap.objs.size := by simpa using hb
    subst e
    exact I1.fpOk (Nat.le_refl _) (I1.hok.fresh (Nat.le_refl _))
  rcases q with ⟨⟨xs, hq⟩, q⟩ | ⟨⟨xs, hq⟩, q⟩
  · obtain ⟨its, rv, p, hz⟩ := I1.list hq
    exact wpAny_pyIter_list p.isList ⟨s1.heap.objs.size, [s1.heap.objs.size], _, _, H1, rfl, I1.kept (t' := s1.toks) fun b o e => Heap.get?_push_of_some _ e, turn_list a _, ⟨_, Heap.get?_push_size _ rfl, rfl, rfl⟩, fp, q⟩
  · obtain ⟨its, rv, p, hz⟩ := I1.tuple hq
    exact wpAny_pyIter_tuple (show s1.heap.IsTuple a its.toArray from p) ⟨s1.heap.objs.size, [s1.heap.objs.size], _, _, H1, rfl, I1.kept (t' := s1.toks) fun b o e => Heap.get?_push_of_some _ e, turn_tuple a _, ⟨_, Heap.get?_push_size _ rfl, rfl, rfl⟩, fp, q⟩
theorem comp_seq {K : PySem.W.Frag} {k : Nat} {fr : List Nat} {g : TG} {tc : TT} {te : TE} {σ : St} {H1 : Hp} {Q : VK} {a : Addr} (xs : List V) (Pv : Addr → Nat → List V → St → Hp → Prop) (ha : SqA H1 a xs)
    (h : ∀ D, H1 D = none → Pv D 0 [] (inSt k fr σ) (upd H1 D (.lst [])) ∧ (∀ i acc σ' H', i ≤ xs.length → Pv D i acc σ' H' → H' D = some (.lst acc) → H' a = H1 a) ∧
      (∀ i acc σ' H' x, xs[i]? = some x → Pv D i acc σ' H' → H' D = some (.lst acc) → g x σ' H' fun σ2 H3 => tc σ2 H3 fun b H4 =>
        if b = true then te σ2 H4 fun y H5 => H5 D = some (.lst acc) ∧ acc.length < sizeLine ∧ Pv D (i + 1) (acc ++ [y]) σ2 (upd H5 D (.lst (acc ++ [y]))) else H4 D = some (.lst acc) ∧ Pv D (i + 1) acc σ2 H4) ∧
      ∀ acc σ' H', Pv D xs.length acc σ' H' → H' D = some (.lst acc) → Q (.ref D) H') : (∃ xs, SqL K H1 a xs) ∧ tCompW k fr g tc te (Itl K a) σ H1 Q ∨ (∃ xs, SqT K H1 a xs) ∧ tCompW k fr g tc te (Itt K a) σ H1 Q := by
  rcases ha with ha | ha
  · exact .inl ⟨⟨xs, .of ha⟩, comp_list xs Pv fun D hD => let ⟨h0, h1, h2, h3⟩ := h D hD; ⟨h0, fun i acc σ' H' hi p q => .of ((h1 i acc σ' H' hi p q).trans ha), h2, h3⟩⟩
  · exact .inr ⟨⟨xs, .of ha⟩, comp_tup xs Pv fun D hD => let ⟨h0, h1, h2, h3⟩ := h D hD; ⟨h0, fun i acc σ' H' hi p q => .of ((h1 i acc σ' H' hi p q).trans ha), h2, h3⟩⟩
noncomputable def KD (P : Program) (w : World) (K : PySem.W.Frag) (a : Addr) (vs : List (Key × Value)) : Prop :=
  (a == sysModules) = false ∧ ∃ o es ep, K.lookup a = some o ∧ o.ExactDict ∧ o.data = .dict es ep ∧ KeysOf (mixKind P w) es ∧ Pairs (mixKind P w) es.toList vs ∧ (vs.map (·.1)).Nodup
theorem KD.dict {P : Program} {w : World} {K : PySem.W.Frag} {a : Addr} {vs : List (Key × Value)} {h : Heap} (k : KD P w K a vs) (X : K.In h) : h.DictOf (mixKind P w) a vs :=
  let ⟨_, o, es, ep, e, r⟩ := k; ⟨o, es, ep, X a o e, r⟩
section
variable {X : Cx}
theorem op_notInKD {vs : List (Key × Value)} {a : Addr} (k : KD X.prog X.w X.K a vs) : OpR X (compareOp .NotIn) (fun x y H Q => ∃ z, x = kV z ∧ y = .ref a ∧ Q (.bl (!(valueAt vs z).isSome)) H) := by
  intro pins s σ H x y v u Q I rx ry ⟨z, ex, ey, q⟩
  subst ex; subst ey
  cases ry
  exact wpAny_notIn_of (kV_is rx) k.1 (k.dict I.kIn).mapOf ⟨.bl _, H, I.tok _, rfl, q⟩
theorem ix_KD {vs : List (Key × Value)} {a : Addr} (k : KD X.prog X.w X.K a vs) : IxR X (fun x y H Q => ∃ z v u, x = .ref a ∧ y = kV z ∧ valueAt vs z = some v ∧ RelV u v ∧ Q u H) := by
  intro value slice pins s σ H x y v u Q I rx ry ⟨z, v', u', ex, ey, hv, rv, q⟩ hs
  subst ex; subst ey
  cases rx
  have dd := k.dict I.kIn
  exact tail_any dd.typeIs PySem.F.slot_dict_getitem.lookup (wpAny_getItem_of (kV_is ry) dd.mapOf hv ⟨_, H, I.tok _, rv, q⟩) hs
end
end L2
namespace L2
open PySem PySem.Spec PyProof.Rows
section
variable {X : Cx}
noncomputable def rNil (K : PySem.W.Frag) (neg : Bool) : V → V → Hp → VK → Prop := fun x y H Q => ∃ a b xs, x = .ref a ∧ y = .ref b ∧ SqL K H a xs ∧ H b = some (.lst []) ∧ Q (.bl (if neg then !xs.isEmpty else xs.isEmpty)) H
theorem op_neNil (K : PySem.W.Frag) (hu : X.A.units + 64 < cLine) (hK : X.K = K := by rfl) : OpR X (compareOp .NotEq) (rNil K true) := by
  subst hK
  intro pins s σ H x y v u Q I rx ry h
  obtain ⟨a, b, xs, rfl, rfl, ha, hb, q⟩ := h
  cases rx
  cases ry
  obtain ⟨its, rv, pl, hz⟩ := I.list ha
  obtain ⟨jts, rw', pb, _⟩ := I.list (a := b) (xs := []) (.of hb)
  cases rw'
  have l1 := rv.length
  cases xs with
  | nil =>
    cases rv
    obtain ⟨o, e, c, n, d⟩ := pl.isList
    obtain ⟨o2, e2, c2, n2, d2⟩ := pb.isList
    have za : Reads s.heap (.ref a) (.list []) _ := .list e c d (by simpa using ReadsAll.nil)
    have zb : Reads s.heap (.ref b) (.list []) _ := .list e2 c2 d2 (by simpa using ReadsAll.nil)
    exact ne_dataH za zb rfl rfl hu ⟨.bl _, H, I, rfl, q⟩
  | cons x r =>
    have hsz : (its.toArray.size != ([] : List Value).toArray.size) = true := by
      rw [bne_iff_ne, List.size_toArray, ← l1]
      simp
    exact ne_list_lengths pl.isList pb.isList hsz (by omega) ⟨.bl true, H, I, rfl, q⟩
end
noncomputable def penK (a : Addr) (i n : Int) : List (Key × V) := [(.inr "script", .ref a), (.inr "at", .int i), (.inr "left", .int n)]
noncomputable def DPV (H : Hp) (p a : Addr) : Prop := ∃ (i n : Int), H p = some (.dK (penK a i n)) ∧ 0 ≤ i ∧ 0 ≤ n
noncomputable def DPen (K : PySem.W.Frag) (H : Hp) (p a : Addr) : Prop := (∃ ns : List Int, ∀ H', But p H H' → SqL K H' a (ns.map V.int)) ∧ DPV H p a
theorem DPen.but {K : PySem.W.Frag} {H H' : Hp} {p a : Addr} (h : DPen K H p a) (b : But p H H') (v : DPV H' p a) : DPen K H' p a := ⟨let ⟨ns, q⟩ := h.1; ⟨ns, fun H2 b2 => q H2 (b.trans b2)⟩, v⟩
theorem DPV.upd {H : Hp} {p a D : Addr} {o : HO} (h : DPV H p a) (n : p ≠ D) : DPV (L2.upd H D o) p a := let ⟨i, m, e, q⟩ := h; ⟨i, m, by rw [upd_ne n]; exact e, q⟩
theorem DPV.ne {H : Hp} {p a D : Addr} (h : DPV H p a) (e : H D = none) : p ≠ D := let ⟨_, _, q, _⟩ := h; ne_of_none q e
theorem DPV.same {H H' : Hp} {p a : Addr} (h : DPV H p a) (s : Same H H') : DPV H' p a := let ⟨i, m, e, q⟩ := h; ⟨i, m, s _ _ e, q⟩
theorem DPen.new {K : PySem.W.Frag} {H H' : Hp} {p a : Addr} {ns : List Int} (h : SqL K H a (ns.map V.int)) (hp : H p = none) (s : Same H H') (v : DPV H' p a) : DPen K H' p a := by
  refine ⟨⟨ns, fun H2 b => ?_⟩, v⟩
  rcases h with h | h
  · have n : a ≠ p := by
      rcases h with h | ⟨ob, h⟩
      · exact ne_of_none h hp
      · exact ne_of_none h hp
    exact SqL.but (fun c o' n' e => b c o' n' (s c o' e)) n (.inl h)
  · exact .inr h
theorem penG_s {H : Hp} {p a : Addr} {i n : Int} (h : H p = some (.dK (penK a i n))) : DGet H p (.str "script") (some (.ref a)) := DGet.k (k := .inr "script") h
theorem penG_a {H : Hp} {p a : Addr} {i n : Int} (h : H p = some (.dK (penK a i n))) : DGet H p (.str "at") (some (.int i)) := DGet.k (k := .inr "at") h
theorem penG_l {H : Hp} {p a : Addr} {i n : Int} (h : H p = some (.dK (penK a i n))) : DGet H p (.str "left") (some (.int n)) := DGet.k (k := .inr "left") h
theorem penP_a {H : Hp} {p a : Addr} {i n j : Int} (h : H p = some (.dK (penK a i n))) : DPut H p (.str "at") (.int j) (upd H p (.dK (penK a j n))) := DPut.k (k := .inr "at") h (by show 3 < sizeLine; decide)
theorem penP_l {H : Hp} {p a : Addr} {i n j : Int} (h : H p = some (.dK (penK a i n))) : DPut H p (.str "left") (.int j) (upd H p (.dK (penK a i j))) := DPut.k (k := .inr "left") h (by show 3 < sizeLine; decide)
noncomputable def spDrw (K : PySem.W.Frag) : Sp := fun vs H Q _ => ∃ (p a : Addr) (m : Int), vs = [.ref p, .int m] ∧ DPen K H p a ∧ 0 < m ∧ m < 1073741824 ∧ ∀ r H', 0 ≤ r → r < m → DPV H' p a → But p H H' → Q (.int r) H'
end L2
open PySem
namespace PySem.SeqAt
theorem tuple_indexAt (l : Addr) (items : Array Value) (n : Nat) (dd : Option Addr) (sl : Array (Option Value)) (x : Value) (e : Value → Bool) (j : Nat) (hj : j < items.size)
    (hit : e items[j] = true) (hno : ∀ m (hm : m < items.size), m < j → e items[m] = false) :
    Meets (Builtin.«tuple.index» ⟨[.ref l, x], []⟩)
      (fun A R s => s.heap.get? l = some { cls := .type "tuple", dict := dd, data := .seq items n, slots := sl } ∧ (∀ y, y ∈ items → EqAt A.in1 s y x (e y)) ∧ R (.ok (.ret (.int j s.toks))) { s with toks := s.toks + 1 }) :=
  .of_wp fun prog w A R s h => by
    obtain ⟨hp, g, d, tk, os⟩ := s; obtain ⟨hl, he, h⟩ := h
    unfold Builtin.«tuple.index»
    simp only [Std.Legacy.Range.forIn_eq_forIn_range']
    wp_walk using wpAny_loadPart' hl, wpAny_forIn_list _ (fun rest b s' => b.1 = none ∧ s' = ⟨hp, g, d, tk, os⟩ ∧ ∃ i, i ≤ j ∧ rest = List.range' i (items.size - i)) _
    · rintro i rest ⟨b1, b2⟩ s' ⟨hb, rfl, k, hk, hr⟩
      have hlt : 0 < items.size - k := by omega
      obtain ⟨m, hm⟩ : ∃ m, items.size - k = m + 1 := ⟨_, (Nat.succ_pred_eq_of_pos hlt).symm⟩
      rw [hm, List.range'_succ] at hr
      obtain ⟨rfl, rfl⟩ := List.cons.inj hr
      have hi : items[i]? = some (items[i]'(by omega)) := by simp
      rw [hi]
      refine wpAny_bind (he _ (Array.getElem_mem (by omega)) prog w _ _ ?_)
      by_cases q : i = j
      · subst q
        rw [hit]
        wp_walk
        exact ⟨_, rfl, h⟩
      · rw [hno i (by omega) (by omega)]
        wp_walk
        refine ⟨rfl, rfl, i + 1, by omega, ?_⟩
        rw [show items.size - (i + 1) = m by omega]
    · rintro ⟨b1, b2⟩ s' ⟨hb, rfl, k, hk, hr⟩
      exfalso
      have := congrArg List.length hr
      simp at this
      omega
    · refine ⟨rfl, rfl, 0, Nat.zero_le _, ?_⟩
      rw [Std.Legacy.Range.size]
      simp
end PySem.SeqAt
namespace HT
open PySem PySem.Spec PyProof.Rows
variable {prog : Program} {w : World} {A : Around} {E : Value → Shared → Prop} {s : Shared}
end HT
namespace L2
open PySem PySem.Spec PyProof.Rows
section
variable {X : Cx}
noncomputable def rIndexT : V → List V → Hp → VK → Prop := fun x vs H Q => ∃ l xs y j z, x = .ref l ∧ vs = [y] ∧ H l = some (.tup xs) ∧ flatV y = true ∧ xs.all flatV = true ∧ xs[j]? = some z ∧ eqV z y = true ∧ (∀ (m : Nat) z', m < j → xs[m]? = some z' → eqV z' y = false) ∧ Q (.int ((j : Nat) : Int)) H
theorem args_tuple_index_2 (a b : Value) : argsOk "tuple.index" ⟨[a, b], []⟩ := by
  unfold argsOk; rw [signature?_of (id := "tuple.index") (n := ['x', 'e', 'd', 'n', 'i']) (o := ['e', 'l', 'p', 'u', 't']) (by kernel_rfl) F.owner_tuple]; kernel_rfl
theorem mt_indexT : MtR X "tuple.index" rIndexT := by
  intro pins s σ H x vs v us Q I rx rv h
  obtain ⟨l, xs, y, j, z, rfl, rfl, hH, fy, fs, hj, hz, hno, q⟩ := h
  cases rx
  obtain ⟨u, rfl, ru⟩ := vals1 rv
  obtain ⟨zz, its, r, ⟨oc, od, odt, osl⟩, e, hc, n, hd, _⟩ := (show ObjOk X.prog X.w H s.heap l (.tup xs) from I.hok l _ hH)
  simp only at hc hd
  subst hc hd
  have hjl := (List.getElem?_eq_some_iff.mp hj).1
  have hlen := r.length
  have look : ∀ m (hm : m < its.length), ∃ z', xs[m]? = some z' ∧ eqU y its[m] = eqV z' y := fun m hm => by
    obtain ⟨z', hz', rz⟩ := vals_get r (List.getElem?_eq_getElem hm)
    exact ⟨z', hz', eqU_of rz (List.all_eq_true.mp fs z' (List.mem_of_getElem? hz'))⟩
  have hjs : j < its.toArray.size := by simpa using (by omega : j < its.length)
  refine call_meets F.slot_tuple_index ⟨_, e, rfl⟩ F.entry_tuple_index (args_tuple_index_2 _ _) (SeqAt.tuple_indexAt l its.toArray n _ _ u (eqU y) j hjs ?_ ?_) ⟨e, fun w hw => mem_eqAt ru fy r fs w (by simpa using hw), ⟨.int _, H, ?_, ⟨_, rfl⟩, q⟩⟩
  · obtain ⟨z', h1, h2⟩ := look j (by omega)
    rw [hj] at h1
    cases h1
    simpa using h2.trans hz
  · intro m hm hlt
    obtain ⟨z', h1, h2⟩ := look m (by simpa using hm)
    simpa using h2.trans (hno m z' hlt h1)
  · exact I.kept fun b o eb => eb
end
theorem call_dictT {X : Cx} (hc : X.calm = true) (hu : X.A.units + 64 < cLine) {pins : List (Addr × Obj)} {s : Shared} {σ : St} {H : Hp} {p : Addr} {xs : List V} {Q : VK} {oi : Nat → HO} (I : Inv X pins σ H s) (hq : H p = some (.tup xs)) (h0 : oi 0 = .dK [])
    (hgo : ∀ (i : Nat) (x : V), xs[i]? = some x → ∃ b k v, x = V.ref b ∧ SqT X.K H b [k, v] ∧ ∀ l, H l = none → DPut (upd H l (oi i)) l k v (upd H l (oi (i + 1)))) (q : ∀ l, H l = none → Q (.ref l) (upd H l (oi xs.length))) :
    wpAny (model X.prog X.w) X.A (call (.type "dict") [.ref p]) (EP X pins σ Q) X.xe s := by
  refine callType_codes (Q₁ := fun obj s₁ => obj = .ref s.heap.objs.size ∧ s₁ = { s with heap := s.heap.push { cls := .type "dict", data := .dict #[] } }) F.kt_called_dict (F.kt_typeCall_dict_1 _) F.entry_dict_init (kt_code_dict_new _ ⟨rfl, rfl⟩) ?_
  rintro obj s₁ ⟨rfl, rfl⟩
  have hl : H s.heap.objs.size = none := I.hok.fresh (Nat.le_refl _)
  have npl : p ≠ s.heap.objs.size := ne_of_none hq hl
  have I1 : Inv X pins σ (upd H s.heap.objs.size (oi 0)) { s with heap := s.heap.push { cls := .type "dict", data := .dict #[] } } := by
    refine I.laid (a := s.heap.objs.size) (o := oi 0) (t' := s.toks) (fun _ _ q => Heap.get?_push_of_some _ q) (Nat.le_refl _) ?_
    rw [h0]; exact dk_empty s.heap I.big
  have tD : (⟨s.heap.push { cls := .type "dict", data := .dict #[] }, s.gens, s.drawn, s.toks, s.os⟩ : Shared).TypeIs (.ref s.heap.objs.size) "dict" := ⟨_, Heap.get?_push_size _ rfl, rfl⟩
  refine ⟨tD, F.args_dict_init_2 _ _, ?_⟩
  unfold Builtin.«dict.__init__» Builtin.Dict.selfAndRest
  refine wpAny_bind (wpAny_bind (wpAny_notOrdered_dict tD ?_))
  show wpAny _ _ (pure (s.heap.objs.size, [Value.ref p])) _ _ _
  refine wpAny_pure ?_
  show wpAny _ _ (Builtin.Dict.updateFrom "dict.__init__" s.heap.objs.size (.ref p) [] .none) _ _ _
  unfold Builtin.Dict.updateFrom
  have hA : X.A.in1.in1.handled = none := I.ok.hd hc
  have hq1 : upd H s.heap.objs.size (oi 0) p = some (.tup xs) := by rw [upd_ne npl]; exact hq
  obtain ⟨hz, its, rv, o, ho, hcl, n, hdt, hdn⟩ := (show ObjOk X.prog X.w _ _ p (.tup xs) from I1.hok p _ hq1)
  refine wpAny_bind (wpAny_typeOf (T := "tuple") ⟨o, ho, hcl⟩ ?_)
  rw [if_pos (by decide)]
  refine wpAny_bind (nokeys_tuple ho hcl hdt hdn hA fun h' tk kp => ?_)
  have I2 := I1.kept (h' := h') (t' := tk) kp
  refine wpAny_bind (wpAny_rule (wpAny_bind ?_))
  obtain ⟨its2, rv2, pl2, hz2⟩ := I2.tuple (SqT.of hq1)
  refine wpAny_pyIter_tuple pl2 ?_
  refine wpAny_pure ⟨plainId_quiet DU.plain_loop _, ?_⟩
  have sqi : ∀ i, SqT X.K (upd H s.heap.objs.size (oi i)) p xs := fun i => .of (by rw [upd_ne npl]; exact hq)
  refine dict_loop (nm := "x") (tp := default) (turn_tuple p h'.objs.size) hc hu s.heap.objs.size xs.length (fun i H' => H' = upd H s.heap.objs.size (oi i)) (fun i H' hi e => ?_) (fun H' e => ?_) _ 0 0 _ _ rfl (Nat.zero_le _) (I2.kept (t' := tk) fun b o e => Heap.get?_push_of_some _ e) (fun b hb => ?_) ⟨_, Heap.get?_push_size _ rfl, rfl, rfl⟩ rfl fun H' s' I' e => ?_
  · subst e
    refine ⟨⟨xs, xs[i], sqi i, List.getElem?_eq_getElem hi⟩, fun x H1 ⟨e1, e2⟩ => ?_⟩
    subst e1
    obtain ⟨b, k, v, ex, sq, dp⟩ := hgo i x (e2 xs (sqi i))
    exact ⟨b, k, v, _, ex, sq.fresh hl, dp _ hl, rfl⟩
  · subst e
    exact ⟨xs, sqi _, Nat.le_refl _⟩
  · have e : b = h'.objs.size := by simpa using hb
    subst e
    exact I2.fpOk (Nat.le_refl _) (I2.hok.fresh (Nat.le_refl _))
  · subst e
    exact ⟨rfl, .ref _, _, I', rfl, q _ hl⟩
noncomputable def rDicKT (K : PySem.W.Frag) : List V → Hp → VK → Prop := fun vs H Q => ∃ p xs, ∃ ps : List (Key × V), vs = [.ref p] ∧ H p = some (.tup xs) ∧ xs.length = ps.length ∧ xs.length ≤ 1000 ∧
  (∀ (i : Nat) (q : Key × V) (x : V), ps[i]? = some q → xs[i]? = some x → ∃ b, x = V.ref b ∧ SqT K H b [kV q.1, q.2]) ∧ ∀ l, H l = none → Q (.ref l) (upd H l (.dK (mkK ps)))
section
variable {X : Cx} {p pos : Pos} {e : Expr} {t : TA}
theorem b_dicKT (K : PySem.W.Frag) (hc : X.calm = true) (hu : X.A.units + 64 < cLine) (B : Blt X.mg) (ha : PA X [e] t) (hg : Gl X "dict" := by rfl) (he : starEach [e] X.env = (false, eval e X.env) :: starEach [] X.env := by rfl) (hpl : (backTo pos (starEach [] X.env)).any (·.1) = false := by rfl) (hK : X.K = K := by rfl) :
    PE X (.Call (.Name "dict" p) [e] [] pos) (tCB (rDicKT K) t) := by
  subst hK
  refine pe_callTy (r := rDicKT X.K) (fun pins s σ H xs us Q I r h => ?_) hg B.dict (show bootBuiltins "dict" = some (.type "dict") by decide +kernel) ha (by decide) (by decide) he hpl
  obtain ⟨p, xs, ps, rfl, hq, hl, hz, hp, q⟩ := h
  obtain ⟨u, rfl, ru⟩ := vals1 r
  cases ru
  have sz : 1000 < sizeLine := by decide
  refine call_dictT hc hu (oi := fun i => .dK (mkK (ps.take i))) I hq rfl (fun i x hx => ?_) fun l hl' => ?_
  · have hi : i < ps.length := by rw [← hl]; exact (List.getElem?_eq_some_iff.mp hx).1
    obtain ⟨b, ex, sq⟩ := hp i ps[i] x (List.getElem?_eq_getElem hi) hx
    refine ⟨b, kV ps[i].1, ps[i].2, ex, sq, fun l hl' => ?_⟩
    have d := DPut.k (H := upd H l (.dK (mkK (ps.take i)))) (a := l) (kvs := mkK (ps.take i)) (k := ps[i].1) (v := ps[i].2) upd_same (by have := mkK_le (ps.take i); rw [List.length_take] at this; omega)
    rw [upd_upd, ← mkK_take ps i ps[i] (List.getElem?_eq_getElem hi)] at d
    exact d
  · rw [hl, List.take_length]
    exact q l hl'
end
end L2
namespace MG
variable {α : Type}
end MG
namespace L2
open PySem
noncomputable abbrev Kn := List (Str × List Str)
noncomputable def kids (ks : Kn) : List Str := ks.flatMap (·.2)
noncomputable def parK (ks : Kn) (u : Str) : Str := ((ks.find? fun k => decide (u ∈ k.2)).map (·.1)).getD ""
theorem nd_len {xs ys : List Str} (nd : xs.Nodup) (h : ∀ x ∈ xs, x ∈ ys) : xs.length ≤ ys.length := by
  induction xs generalizing ys with
  | nil => exact Nat.zero_le _
  | cons x xs ih =>
    rw [List.nodup_cons] at nd
    have hx := h x (by simp)
    have p := (List.perm_cons_erase hx).length_eq
    rw [List.length_cons] at p ⊢
    have := ih (ys := ys.erase x) nd.2 fun z hz => (List.mem_erase_of_ne (fun q : z = x => nd.1 (q ▸ hz))).mpr (h z (List.mem_cons_of_mem _ hz))
    omega
structure Tre (us : List Str) (ks : Kn) : Prop where
  perm : (kids ks).Perm us
  nd : us.Nodup
  nm : ∀ u ∈ us, Nm u
  len : us.length ≤ 60
  top : ("" : Str) ∈ ks.map (·.1)
  kn : (ks.map (·.1)).Nodup
  sub : ∀ k ∈ ks, k.1 = "" ∨ k.1 ∈ us
  up : ∀ k ∈ ks, ∀ u ∈ k.2, k.1 = "" ∨ MG.ix us k.1 < MG.ix us u
section
variable {us : List Str} {ks : Kn}
theorem Tre.knd (T : Tre us ks) : (kids ks).Nodup := T.perm.nodup_iff.mpr T.nd
theorem Tre.has (T : Tre us ks) {u : Str} (h : u ∈ us) : ∃ k ∈ ks, u ∈ k.2 := by
  have := T.perm.mem_iff.mpr h
  exact List.mem_flatMap.mp this
theorem Tre.isIn (T : Tre us ks) {k : Str × List Str} {u : Str} (hk : k ∈ ks) (hu : u ∈ k.2) : u ∈ us := T.perm.mem_iff.mp (List.mem_flatMap.mpr ⟨k, hk, hu⟩)
theorem kids_uniq : ∀ {ks : Kn}, (kids ks).Nodup → ∀ {k k' : Str × List Str} {u : Str}, k ∈ ks → k' ∈ ks → u ∈ k.2 → u ∈ k'.2 → k = k'
  | [], _, _, _, _, h, _, _, _ => by cases h
  | q :: ks, nd, k, k', u, h, h', hu, hu' => by
    have nd : (q.2 ++ kids ks).Nodup := nd
    rw [List.nodup_append] at nd
    obtain ⟨_, n2, n3⟩ := nd
    rcases List.mem_cons.mp h with e | g
    · rcases List.mem_cons.mp h' with e' | g'
      · rw [e, e']
      · subst e
        exact absurd rfl (n3 u hu u (List.mem_flatMap.mpr ⟨k', g', hu'⟩))
    · rcases List.mem_cons.mp h' with e' | g'
      · subst e'
        exact absurd rfl (n3 u hu' u (List.mem_flatMap.mpr ⟨k, g, hu⟩))
      · exact kids_uniq n2 g g' hu hu'
theorem kn_uniq : ∀ {ks : Kn}, (ks.map (·.1)).Nodup → ∀ {k k' : Str × List Str}, k ∈ ks → k' ∈ ks → k.1 = k'.1 → k = k'
  | [], _, _, _, h, _, _ => by cases h
  | q :: ks, nd, k, k', h, h', e0 => by
    rw [List.map_cons, List.nodup_cons] at nd
    rcases List.mem_cons.mp h with e | g
    · rcases List.mem_cons.mp h' with e' | g'
      · rw [e, e']
      · subst e
        exact absurd (e0 ▸ List.mem_map.mpr ⟨k', g', rfl⟩) nd.1
    · rcases List.mem_cons.mp h' with e' | g'
      · subst e'
        exact absurd (e0 ▸ List.mem_map.mpr ⟨k, g, rfl⟩) nd.1
      · exact kn_uniq nd.2 g g' e0
theorem Tre.par (T : Tre us ks) {k : Str × List Str} {u : Str} (hk : k ∈ ks) (hu : u ∈ k.2) : parK ks u = k.1 := by
  unfold parK
  cases q : ks.find? fun k => decide (u ∈ k.2) with
  | none =>
    have := List.find?_eq_none.mp q k hk
    exact absurd (decide_eq_true hu) this
  | some k' =>
    have h1 := List.find?_some q
    have h2 := List.mem_of_find?_eq_some q
    rw [kids_uniq T.knd hk h2 hu (of_decide_eq_true h1)]; rfl
theorem Tre.par_in (T : Tre us ks) {u : Str} (h : u ∈ us) : (parK ks u = "" ∨ parK ks u ∈ us) ∧ parK ks u ∈ ks.map (·.1) := by
  obtain ⟨k, hk, hu⟩ := T.has h
  rw [T.par hk hu]
  exact ⟨T.sub k hk, List.mem_map.mpr ⟨k, hk, rfl⟩⟩
theorem Tre.kid (T : Tre us ks) {u : Str} {c : List Str} (h : u ∈ us) (hk : (parK ks u, c) ∈ ks) : u ∈ c := by
  obtain ⟨k, hk', hu⟩ := T.has h
  rw [T.par hk' hu] at hk
  have : k = (k.1, c) := kn_uniq T.kn hk' hk rfl
  rw [this] at hu; exact hu
theorem Tre.few (T : Tre us ks) : ks.length ≤ 61 := by
  have := nd_len (ys := "" :: us) T.kn fun x hx => by
    obtain ⟨k, hk, rfl⟩ := List.mem_map.mp hx
    rcases T.sub k hk with q | q
    · rw [q]; simp
    · exact List.mem_cons_of_mem _ q
  rw [List.length_map, List.length_cons] at this
  have := T.len
  omega
noncomputable def rkU (us : List Str) (u : Str) : Nat := if u = "" then 0 else MG.ix us u + 1
theorem Tre.nn (T : Tre us ks) {u : Str} (h : u ∈ us) : u ≠ "" := fun z => by
  have := (T.nm u h).1
  rw [z] at this
  exact absurd this (by decide)
theorem Tre.rk (T : Tre us ks) {u : Str} (h : u ∈ us) : rkU us (parK ks u) < rkU us u := by
  obtain ⟨k, hk, hu⟩ := T.has h
  rw [T.par hk hu]
  unfold rkU
  rw [if_neg (T.nn h)]
  rcases T.up k hk u hu with q | q
  · rw [if_pos q]; omega
  · split
    · omega
    · omega
theorem Tre.rk60 (T : Tre us ks) {u : Str} (h : u ∈ us) : rkU us u ≤ 60 := by
  unfold rkU
  rw [if_neg (T.nn h)]
  have := MG.ix_lt h
  have := T.len
  omega
noncomputable def linN (par : Str → Str) : Nat → Str → List Str
  | 0, _ => []
  | n + 1, u => if u = "" then [] else linN par n (par u) ++ [u]
theorem Tre.stable (T : Tre us ks) : ∀ (n m : Nat) (u : Str), u = "" ∨ u ∈ us → rkU us u < n → rkU us u < m → linN (parK ks) n u = linN (parK ks) m u
  | 0, _, _, _, h, _ => absurd h (Nat.not_lt_zero _)
  | _, 0, _, _, _, h => absurd h (Nat.not_lt_zero _)
  | n + 1, m + 1, u, hu, h1, h2 => by
    show (if u = "" then [] else linN (parK ks) n (parK ks u) ++ [u]) = (if u = "" then [] else linN (parK ks) m (parK ks u) ++ [u])
    by_cases q : u = ""
    · rw [if_pos q, if_pos q]
    · have hu : u ∈ us := hu.resolve_left q
      have := T.rk hu
      rw [if_neg q, if_neg q, T.stable n m (parK ks u) (T.par_in hu).1 (by omega) (by omega)]
noncomputable def lin (ks : Kn) (u : Str) : List Str := linN (parK ks) 100 u
theorem Tre.lin (T : Tre us ks) {u : Str} (h : u ∈ us) : lin ks u = L2.lin ks (parK ks u) ++ [u] := by
  have h1 := T.rk h
  have h2 := T.rk60 h
  show (if u = "" then [] else linN (parK ks) 99 (parK ks u) ++ [u]) = _
  rw [if_neg (T.nn h), T.stable 99 100 (parK ks u) (T.par_in h).1 (by omega) (by omega)]; rfl
theorem Tre.lin_ind (T : Tre us ks) {P : Str → Prop} (h0 : P "") (h1 : ∀ u ∈ us, P (parK ks u) → P u) : ∀ u : Str, u = "" ∨ u ∈ us → P u := by
  have go : ∀ n u, rkU us u < n → u = "" ∨ u ∈ us → P u := by
    intro n
    induction n with
    | zero => intro u h; omega
    | succ n ih =>
      intro u h hu
      by_cases q : u = ""
      · rw [q]; exact h0
      · have hu := hu.resolve_left q
        have := T.rk hu
        exact h1 u hu (ih _ (by omega) (T.par_in hu).1)
  intro u hu
  exact go _ u (Nat.lt_succ_self _) hu
theorem Tre.lin_in (T : Tre us ks) : ∀ u : Str, u = "" ∨ u ∈ us → ∀ z ∈ L2.lin ks u, z ∈ us := by
  refine T.lin_ind (P := fun u => ∀ z ∈ L2.lin ks u, z ∈ us) (fun z hz => by cases hz) fun u hu ih z hz => ?_
  rw [T.lin hu] at hz
  rcases List.mem_append.mp hz with q | q
  · exact ih z q
  · rw [List.mem_singleton.mp q]; exact hu
theorem Tre.lin_len (T : Tre us ks) : ∀ u : Str, u = "" ∨ u ∈ us → (L2.lin ks u).length ≤ rkU us u := by
  refine T.lin_ind (P := fun u => (L2.lin ks u).length ≤ rkU us u) (Nat.zero_le _) fun u hu ih => ?_
  rw [T.lin hu, List.length_append]
  have := T.rk hu
  show _ + 1 ≤ _
  omega
noncomputable def Chn (par : Str → Str) : Str → List Str → Prop
  | _, [] => True
  | k, x :: r => par x = k ∧ Chn par x r
theorem Chn.snoc {par : Str → Str} {u : Str} : ∀ {k : Str} {l : List Str}, Chn par k l → par u = (l.getLast?).getD k → Chn par k (l ++ [u])
  | k, [], _, h => ⟨h, trivial⟩
  | k, [x], c, h => ⟨c.1, h, trivial⟩
  | k, x :: y :: r, c, h => ⟨c.1, Chn.snoc (l := y :: r) c.2 (by rw [List.getLast?_cons_cons] at h; rw [h]; cases q : (y :: r).getLast? with | none => simp at q | some z => rfl)⟩
theorem Tre.lin_last (T : Tre us ks) : ∀ u : Str, u = "" ∨ u ∈ us → ((L2.lin ks u).getLast?).getD "" = u := by
  refine T.lin_ind (P := fun u => ((L2.lin ks u).getLast?).getD "" = u) rfl fun u hu _ => ?_
  rw [T.lin hu]; simp
theorem Tre.lin_chn (T : Tre us ks) : ∀ u : Str, u = "" ∨ u ∈ us → Chn (parK ks) "" (L2.lin ks u) := by
  refine T.lin_ind (P := fun u => Chn (parK ks) "" (L2.lin ks u)) trivial fun u hu ih => ?_
  rw [T.lin hu]
  exact ih.snoc (T.lin_last _ (T.par_in hu).1).symm
noncomputable def prt : Str → List Str → List Str → Option (Str × Str × Str)
  | k, x :: a, y :: b => if x = y then prt x a b else some (k, x, y)
  | _, _, _ => none
theorem prt_some {par : Str → Str} : ∀ {k : Str} {a b : List Str} {q x y : Str}, Chn par k a → Chn par k b → prt k a b = some (q, x, y) → par x = q ∧ par y = q ∧ x ∈ a ∧ y ∈ b ∧ x ≠ y
  | k, [], _, _, _, _, _, _, h => by simp [prt] at h
  | k, _ :: _, [], _, _, _, _, _, h => by simp [prt] at h
  | k, u :: a, v :: b, q, x, y, ca, cb, h => by
    have h : (if u = v then prt u a b else some (k, u, v)) = some (q, x, y) := h
    by_cases e : u = v
    · rw [if_pos e] at h
      rw [← e] at cb
      obtain ⟨h1, h2, h3, h4, h5⟩ := prt_some ca.2 cb.2 h
      exact ⟨h1, h2, List.mem_cons_of_mem _ h3, List.mem_cons_of_mem _ h4, h5⟩
    · rw [if_neg e] at h
      injection h with h
      injection h with h1 h
      injection h with h2 h3
      subst h1 h2 h3
      exact ⟨ca.1, cb.1, by simp, by simp, e⟩
theorem prt_swap : ∀ (k : Str) (a b : List Str), prt k b a = (prt k a b).map fun t => (t.1, t.2.2, t.2.1)
  | k, [], b => by cases b <;> rfl
  | k, x :: a, [] => rfl
  | k, x :: a, y :: b => by
    show (if y = x then prt y b a else some (k, y, x)) = (if x = y then prt x a b else some (k, x, y)).map _
    by_cases e : x = y
    · subst e
      rw [if_pos rfl, if_pos rfl]
      exact prt_swap x a b
    · rw [if_neg (fun z => e z.symm), if_neg e]; rfl
noncomputable def partO (ks : Kn) (u v : Str) : Option (Str × Str × Str) := prt "" (lin ks u) (lin ks v)
theorem Tre.part (T : Tre us ks) {u v q x y : Str} (hu : u ∈ us) (hv : v ∈ us) (h : partO ks u v = some (q, x, y)) : parK ks x = q ∧ parK ks y = q ∧ x ∈ us ∧ y ∈ us ∧ x ≠ y := by
  obtain ⟨h1, h2, h3, h4, h5⟩ := prt_some (T.lin_chn u (.inr hu)) (T.lin_chn v (.inr hv)) h
  exact ⟨h1, h2, T.lin_in u (.inr hu) x h3, T.lin_in v (.inr hv) y h4, h5⟩
noncomputable abbrev tp (a : List Str) : List Str := ("" : Str) :: a
noncomputable def Gon (a b : List Str) (i : Nat) : Prop := i = 0 ∨ (1 ≤ i ∧ prt "" a b = prt ((tp a).getD (i - 1) "") ((tp a).drop i) ((tp b).drop i))
theorem Gon.step {a b : List Str} {i : Nat} {x : Str} (g : Gon a b i) (h1 : (tp a)[i]? = some x) (h2 : (tp b)[i]? = some x) : Gon a b (i + 1) := by
  right
  refine ⟨by omega, ?_⟩
  rcases g with rfl | ⟨hi, g⟩
  · rfl
  · have l1 := (List.getElem?_eq_some_iff.mp h1)
    have l2 := (List.getElem?_eq_some_iff.mp h2)
    have e : (tp a).getD (i + 1 - 1) "" = x := by rw [Nat.add_sub_cancel, List.getD_eq_getElem?_getD, h1]; rfl
    rw [g, List.drop_eq_getElem_cons l1.1, List.drop_eq_getElem_cons l2.1, l1.2, l2.2, e]
    show (if x = x then _ else _) = _
    rw [if_pos rfl]
theorem Gon.stop {a b : List Str} {i : Nat} (g : Gon a b i) (h : i = min (a.length + 1) (b.length + 1)) : prt "" a b = none := by
  rcases g with rfl | ⟨hi, g⟩
  · omega
  · rw [g]
    by_cases q : a.length ≤ b.length
    · rw [List.drop_of_length_le (l := tp a) (by rw [List.length_cons]; omega)]; rfl
    · rw [List.drop_of_length_le (l := tp b) (by rw [List.length_cons]; omega)]
      cases (tp a).drop i <;> rfl
theorem Gon.part {a b : List Str} {i : Nat} {x y : Str} (g : Gon a b i) (h1 : (tp a)[i]? = some x) (h2 : (tp b)[i]? = some y) (ne : x ≠ y) : 1 ≤ i ∧ prt "" a b = some ((tp a).getD (i - 1) "", x, y) := by
  rcases g with rfl | ⟨hi, g⟩
  · exfalso
    injection h1 with h1
    injection h2 with h2
    exact ne (h1.symm.trans h2)
  · have l1 := (List.getElem?_eq_some_iff.mp h1)
    have l2 := (List.getElem?_eq_some_iff.mp h2)
    refine ⟨hi, ?_⟩
    rw [g, List.drop_eq_getElem_cons l1.1, List.drop_eq_getElem_cons l2.1, l1.2, l2.2]
    show (if x = y then _ else _) = _
    rw [if_neg ne]
end
end L2
namespace L2
open PySem
noncomputable def knotD (k : Str × List Str) : PyData := .tuple [.str k.1, .tuple (k.2.map PyData.str)]
noncomputable def knotsD (ks : Kn) : PyData := .tuple (ks.map knotD)
noncomputable def pairsT (ps : List (Str × Str)) : PyData := .tuple (ps.map pairD)
noncomputable def houseD (ks : Kn) (ts ws wn : List (Str × Str)) : PyData := .tuple [knotsD ks, pairsT ts, pairsT ws, pairsT wn]
section
variable {H H' : Hp}
theorem knot_at {v : V} {k : Str × List Str} (h : Rep H v (knotD k)) : ∃ ta la, v = .ref ta ∧ H ta = some (.tup [.str k.1, .ref la]) ∧ H la = some (.tup (k.2.map V.str)) := by
  obtain ⟨q, ws, rfl, hq, r0⟩ := Rep.tupI h
  obtain ⟨y, ys, rfl, r1, r3⟩ := r0.consI
  obtain ⟨z, zs, rfl, r2, r4⟩ := r3.consI
  have e1 := RepAll.nilI r4
  subst e1
  have e0 := Rep.strI r1
  subst e0
  obtain ⟨b, xb, rfl, hb, rb⟩ := Rep.tupI r2
  have e2 := RepAll.strs rb
  subst e2
  exact ⟨q, b, rfl, hq, hb⟩
theorem knot_get {refs : List V} {ks : Kn} (rp : RepAll H refs (ks.map knotD)) {i : Nat} {x : V} (hx : refs[i]? = some x) : ∃ k ta la, ks[i]? = some k ∧ x = .ref ta ∧ H ta = some (.tup [.str k.1, .ref la]) ∧ H la = some (.tup (k.2.map V.str)) := by
  obtain ⟨d, hd, rd⟩ := rp.get hx
  rw [List.getElem?_map] at hd
  cases q : ks[i]? with
  | none => rw [q] at hd; cases hd
  | some e =>
    rw [q] at hd
    have hd : knotD e = d := Option.some.inj hd
    rw [← hd] at rd
    obtain ⟨ta, la, h1, h2, h3⟩ := knot_at rd
    exact ⟨e, ta, la, rfl, h1, h2, h3⟩
theorem knots_at {v : V} {ks : Kn} (h : Rep H v (knotsD ks)) : ∃ a refs, v = .ref a ∧ H a = some (.tup refs) ∧ RepAll H refs (ks.map knotD) := Rep.tupI h
theorem pairsT_at {v : V} {ps : List (Str × Str)} (h : Rep H v (pairsT ps)) : ∃ a refs, v = .ref a ∧ H a = some (.tup refs) ∧ RepAll H refs (ps.map pairD) := Rep.tupI h
theorem house_at {v : V} {ks : Kn} {ts ws wn : List (Str × Str)} (h : Rep H v (houseD ks ts ws wn)) : ∃ q a b c d, v = .ref q ∧ H q = some (.tup [.ref a, .ref b, .ref c, .ref d]) ∧ Rep H (.ref a) (knotsD ks) ∧ Rep H (.ref b) (pairsT ts) ∧ Rep H (.ref c) (pairsT ws) ∧ Rep H (.ref d) (pairsT wn) := by
  obtain ⟨q, xs, rfl, hq, r0⟩ := Rep.tupI h
  obtain ⟨y, ys, rfl, r1, r3⟩ := r0.consI
  obtain ⟨z, zs, rfl, r2, r4⟩ := r3.consI
  obtain ⟨z3, zs3, rfl, r5, r6⟩ := r4.consI
  obtain ⟨z4, zs4, rfl, r7, r8⟩ := r6.consI
  have e1 := RepAll.nilI r8
  subst e1
  obtain ⟨a, _, rfl, _⟩ := Rep.tupI r1
  obtain ⟨b, _, rfl, _⟩ := Rep.tupI r2
  obtain ⟨c, _, rfl, _⟩ := Rep.tupI r5
  obtain ⟨d, _, rfl, _⟩ := Rep.tupI r7
  exact ⟨q, a, b, c, d, rfl, hq, r1, r2, r5, r7⟩
theorem house_rep {q a b c d : Addr} {ks : Kn} {ts ws wn : List (Str × Str)} (hq : H q = some (.tup [.ref a, .ref b, .ref c, .ref d])) (r1 : Rep H (.ref a) (knotsD ks)) (r2 : Rep H (.ref b) (pairsT ts)) (r3 : Rep H (.ref c) (pairsT ws)) (r4 : Rep H (.ref d) (pairsT wn)) : Rep H (.ref q) (houseD ks ts ws wn) :=
  .tup hq (.cons r1 (.cons r2 (.cons r3 (.cons r4 .nil))))
theorem tupBut {p a : Addr} {ys xs : List V} (hp : H p = some (.lst ys)) (b : But p H H') (h : H a = some (.tup xs)) : H' a = some (.tup xs) := b a _ (ne_of h hp (by intro z; cases z)) h
theorem repBut_pair {p : Addr} {ys : List V} (hp : H p = some (.lst ys)) (b : But p H H') {v : V} {e : Str × Str} (h : Rep H v (pairD e)) : Rep H' v (pairD e) := by
  obtain ⟨a, rfl, ha⟩ := pair_at h
  exact pair_rep (tupBut hp b ha)
theorem repBut_all {α : Type} {f : α → PyData} (k : ∀ {v : V} {e : α}, Rep H v (f e) → Rep H' v (f e)) : ∀ {es : List α} {xs : List V}, RepAll H xs (es.map f) → RepAll H' xs (es.map f)
  | [], xs, h => by rw [RepAll.nilI h]; exact .nil
  | e :: es, xs, h => by
    obtain ⟨y, ys', rfl, a, c⟩ := RepAll.consI h
    exact .cons (k a) (repBut_all k c)
theorem repBut_pairs {p : Addr} {ys : List V} (hp : H p = some (.lst ys)) (b : But p H H') {v : V} {ps : List (Str × Str)} (h : Rep H v (pairsT ps)) : Rep H' v (pairsT ps) := by
  obtain ⟨a, xs, rfl, ha, r⟩ := pairsT_at h
  exact .tup (tupBut hp b ha) (repBut_all (repBut_pair hp b) r)
theorem repBut_knot {p : Addr} {ys : List V} (hp : H p = some (.lst ys)) (b : But p H H') {v : V} {k : Str × List Str} (h : Rep H v (knotD k)) : Rep H' v (knotD k) := by
  obtain ⟨ta, la, rfl, h1, h2⟩ := knot_at h
  exact .tup (tupBut hp b h1) (.cons (.str _) (.cons (.tup (tupBut hp b h2) (RepAll.of_strs _)) .nil))
theorem repBut_knots {p : Addr} {ys : List V} (hp : H p = some (.lst ys)) (b : But p H H') {v : V} {ks : Kn} (h : Rep H v (knotsD ks)) : Rep H' v (knotsD ks) := by
  obtain ⟨a, xs, rfl, ha, r⟩ := knots_at h
  exact .tup (tupBut hp b ha) (repBut_all (repBut_knot hp b) r)
theorem repBut_house {p : Addr} {ys : List V} (hp : H p = some (.lst ys)) (b : But p H H') {v : V} {ks : Kn} {ts ws wn : List (Str × Str)} (h : Rep H v (houseD ks ts ws wn)) : Rep H' v (houseD ks ts ws wn) := by
  obtain ⟨q, a, c, d, e, rfl, hq, r1, r2, r3, r4⟩ := house_at h
  exact house_rep (tupBut hp b hq) (repBut_knots hp b r1) (repBut_pairs hp b r2) (repBut_pairs hp b r3) (repBut_pairs hp b r4)
end
noncomputable def ArK (kvs : List (Key × V)) (us : List Str) (ks : Kn) : Prop := ∀ u ∈ us, valV kvs (.inr u) = some (.str (parK ks u))
theorem kids_app (a b : Kn) : kids (a ++ b) = kids a ++ kids b := List.flatMap_append
theorem kids_take {ks : Kn} {i : Nat} {k : Str × List Str} (h : ks[i]? = some k) : kids (ks.take (i + 1)) = kids (ks.take i) ++ k.2 := by
  rw [List.take_add_one, h, kids_app]
  show _ ++ ([k].flatMap (·.2)) = _
  simp
structure ArN (H H' : Hp) (d : Addr) (ks : Kn) (i j : Nat) (kvs : List (Key × V)) : Prop where
  sm : Same H H'
  at_ : H' d = some (.dK kvs)
  len : kvs.length ≤ (kids (ks.take i)).length + j
  old : ∀ k ∈ ks.take i, ∀ u ∈ k.2, valV kvs (.inr u) = some (.str k.1)
  cur : ∀ k, ks[i]? = some k → ∀ u ∈ k.2.take j, valV kvs (.inr u) = some (.str k.1)
section
variable {H H' : Hp} {d : Addr} {ks : Kn} {i j : Nat} {kvs : List (Key × V)}
theorem ArN.put (h : ArN H H' d ks i j kvs) (hd : H d = none) (nd : (kids ks).Nodup) {k : Str × List Str} (hk : ks[i]? = some k) {u : Str} (hu : k.2[j]? = some u) :
    ArN H (upd H' d (.dK (putK kvs (.inr u) (.str k.1)))) d ks i (j + 1) (putK kvs (.inr u) (.str k.1)) := by
  have nd2 : (kids (ks.take i) ++ k.2).Nodup := by
    rw [← kids_take hk]
    have e : kids ks = kids (ks.take (i + 1)) ++ kids (ks.drop (i + 1)) := by rw [← kids_app, List.take_append_drop]
    rw [e] at nd
    exact (List.nodup_append.mp nd).1
  obtain ⟨_, n2, n3⟩ := List.nodup_append.mp nd2
  have hum := List.mem_of_getElem? hu
  refine ⟨fun b o hb => ?_, upd_same, ?_, fun k' hk' u' hu' => ?_, fun k' hk' u' hu' => ?_⟩
  · rw [upd_ne (ne_of_none hb hd)]; exact h.sm _ _ hb
  · have := length_putK kvs (.inr u) (V.str k.1)
    have := h.len
    omega
  · rw [valV_put, if_neg (fun z => n3 u' (List.mem_flatMap.mpr ⟨k', hk', hu'⟩) u hum (by injection z))]
    exact h.old k' hk' u' hu'
  · rw [hk] at hk'
    cases hk'
    rw [List.take_add_one, hu] at hu'
    rw [valV_put]
    by_cases q : u' = u
    · subst q; rw [if_pos rfl]
    · rw [if_neg (fun z => q (by injection z))]
      rcases List.mem_append.mp hu' with z | z
      · exact h.cur k hk u' z
      · exact absurd (by simpa using z) q
theorem ArN.next (h : ArN H H' d ks i j kvs) {k : Str × List Str} (hk : ks[i]? = some k) (hj : j = k.2.length) : ArN H H' d ks (i + 1) 0 kvs := by
  subst hj
  refine ⟨h.sm, h.at_, ?_, fun k' hk' u hu => ?_, fun k' _ u hu => by simp at hu⟩
  · rw [kids_take hk, List.length_append]; exact h.len
  · rw [List.take_add_one, hk] at hk'
    rcases List.mem_append.mp hk' with z | z
    · exact h.old k' z u hu
    · have : k' = k := by simpa using z
      subst this
      exact h.cur k' hk u (by rw [List.take_of_length_le (Nat.le_refl _)]; exact hu)
theorem ArN.room (h : ArN H H' d ks i j kvs) {k : Str × List Str} (hk : ks[i]? = some k) (hj : j < k.2.length) (hl : (kids ks).length ≤ 60) : kvs.length ≤ 60 := by
  have e : kids ks = kids (ks.take (i + 1)) ++ kids (ks.drop (i + 1)) := by rw [← kids_app, List.take_append_drop]
  rw [e, kids_take hk, List.length_append, List.length_append] at hl
  have := h.len
  omega
theorem ArN.fin {us : List Str} (h : ArN H H' d ks i 0 kvs) (T : Tre us ks) (hi : i = ks.length) : ArK kvs us ks := fun u hu => by
  obtain ⟨k, hk, hu'⟩ := T.has hu
  rw [T.par hk hu']
  subst hi
  exact h.old k (by rw [List.take_of_length_le (Nat.le_refl _)]; exact hk) u hu'
end
noncomputable def PrtV (H : Hp) (v : V) : Option (Str × Str × Str) → Prop
  | none => v = .non
  | some (k, x, y) => ∃ t, v = .ref t ∧ H t = some (.tup [.str k, .str x, .str y])
end L2
namespace L2
open PySem
noncomputable abbrev KL := List (Addr × Addr × (Str × List Str))
noncomputable abbrev ksOf (kl : KL) : Kn := kl.map fun q => q.2.2
section
variable {H H' : Hp} {L p : Addr} {kl : KL}
theorem mem_set_ix {α : Type} {l : List α} {j : Nat} {b x : α} (h : x ∈ l.set j b) : x = b ∨ ∃ m, m ≠ j ∧ l[m]? = some x := by
  obtain ⟨m, hm⟩ := List.getElem?_of_mem h
  by_cases q : m = j
  · subst q
    rw [List.getElem?_set] at hm
    rw [if_pos rfl] at hm
    split at hm
    · exact .inl (Option.some.inj hm).symm
    · cases hm
  · rw [List.getElem?_set_ne (Ne.symm q)] at hm
    exact .inr ⟨m, q, hm⟩
theorem set_same {α β : Type} {f : α → β} {l : List α} {j : Nat} {x y : α} (h : l[j]? = some x) (e : f y = f x) : (l.set j y).map f = l.map f := by
  rw [List.map_set, e]
  refine List.ext_getElem? fun m => ?_
  rw [List.getElem?_set]
  split
  · rename_i q
    subst q
    have := (List.getElem?_eq_some_iff.mp h).1
    rw [List.length_map, if_pos this, List.getElem?_map, h]; rfl
  · rfl
theorem ins_mem {α : Type} {l : List α} {k : Nat} {x y : α} (h : y ∈ l.take k ++ x :: l.drop k) : y = x ∨ y ∈ l := by
  rcases List.mem_append.mp h with q | q
  · exact .inr (List.mem_of_mem_take q)
  · rcases List.mem_cons.mp q with q | q
    · exact .inl q
    · exact .inr (List.mem_of_mem_drop q)
theorem ins_perm' {α : Type} (l : List α) (k : Nat) (x : α) : (l.take k ++ x :: l.drop k).Perm (x :: l) := by
  have := List.perm_middle (a := x) (l₁ := l.take k) (l₂ := l.drop k)
  rw [List.take_append_drop] at this
  exact this
end
structure TrN (us : List Str) (i : Nat) (ks : Kn) : Prop where
  perm : (kids ks).Perm (us.take i)
  top : ("" : Str) ∈ ks.map (·.1)
  kn : (ks.map (·.1)).Nodup
  sub : ∀ k ∈ ks, k.1 = "" ∨ k.1 ∈ us.take i
  up : ∀ k ∈ ks, ∀ u ∈ k.2, k.1 = "" ∨ MG.ix us k.1 < MG.ix us u
section
variable {us : List Str} {i : Nat} {ks : Kn}
theorem TrN.start : TrN us 0 [("", [])] := ⟨by show ([] : List Str).Perm _; rw [List.take_zero], by simp, by simp, fun k hk => by rw [List.mem_singleton.mp hk]; exact .inl rfl, fun k hk u hu => by rw [List.mem_singleton.mp hk] at hu; cases hu⟩
theorem kids_set {j : Nat} {nm u : Str} {ch ch' : List Str} (pc : ch'.Perm (u :: ch)) : ∀ {ks : Kn} {j : Nat}, ks[j]? = some (nm, ch) → (kids (ks.set j (nm, ch'))).Perm (u :: kids ks)
  | [], j, h => by simp at h
  | k :: ks, 0, h => by
    have h : k = (nm, ch) := by simpa using h
    subst h
    show (ch' ++ kids ks).Perm (u :: (ch ++ kids ks))
    exact (pc.append_right _)
  | k :: ks, j + 1, h => by
    have h : ks[j]? = some (nm, ch) := by simpa using h
    have ih := kids_set pc (ks := ks) (j := j) h
    show (k.2 ++ kids (ks.set j (nm, ch'))).Perm (u :: (k.2 ++ kids ks))
    exact (ih.append_left _).trans List.perm_middle
theorem TrN.step (h : TrN us i ks) (nd : us.Nodup) {u : Str} (hu : us[i]? = some u) {j : Nat} {nm : Str} {ch ch' : List Str} (hj : ks[j]? = some (nm, ch)) (pc : ch'.Perm (u :: ch)) : TrN us (i + 1) (ks.set j (nm, ch')) := by
  have hi := (List.getElem?_eq_some_iff.mp hu).1
  have tk : us.take (i + 1) = us.take i ++ [u] := by rw [List.take_add_one, hu]; rfl
  have hm := List.mem_of_getElem? hj
  have e1 : ((ks.set j (nm, ch')).map fun k => k.1) = ks.map fun k => k.1 := set_same hj rfl
  have ixu : MG.ix us u = i := MG.ix_at nd hu
  have ixo : ∀ x ∈ us.take i, MG.ix us x < i := fun x hx => by
    obtain ⟨m, hm⟩ := List.getElem?_of_mem hx
    have hml := (List.getElem?_eq_some_iff.mp hm).1
    rw [List.length_take] at hml
    rw [List.getElem?_take_of_lt (by omega)] at hm
    rw [MG.ix_at nd hm]; omega
  refine ⟨?_, by rw [e1]; exact h.top, by rw [e1]; exact h.kn, fun k hk => ?_, fun k hk x hx => ?_⟩
  · rw [tk]
    refine (kids_set (j := j) pc hj).trans (((h.perm.cons u)).trans ?_)
    exact (List.perm_append_singleton u _).symm
  · have : k.1 ∈ ks.map fun k => k.1 := by rw [← e1]; exact List.mem_map.mpr ⟨k, hk, rfl⟩
    obtain ⟨k', hk', e⟩ := List.mem_map.mp this
    rw [← e, tk]
    rcases h.sub k' hk' with q | q
    · exact .inl q
    · exact .inr (List.mem_append_left _ q)
  · rcases mem_set_ix hk with rfl | ⟨m, _, hm'⟩
    · rcases List.mem_cons.mp (pc.mem_iff.mp hx) with rfl | hx
      · rcases h.sub _ hm with q | q
        · exact .inl q
        · right
          rw [ixu]
          exact ixo _ q
      · exact h.up _ hm x hx
    · exact h.up _ (List.mem_of_getElem? hm') x hx
theorem TrN.knot (h : TrN us (i + 1) ks) (nd : us.Nodup) (nn : ∀ u ∈ us, u ≠ "") {u : Str} (hu : us[i]? = some u) (hnew : u ∉ ks.map (·.1)) (k : Nat) : TrN us (i + 1) (ks.take k ++ (u, []) :: ks.drop k) := by
  have hm := List.mem_of_getElem? hu
  have pm := ins_perm' ks k (u, ([] : List Str))
  have pn := pm.map fun k : Str × List Str => k.1
  refine ⟨?_, pn.mem_iff.mpr (List.mem_cons_of_mem _ h.top), pn.nodup_iff.mpr (by rw [List.map_cons, List.nodup_cons]; exact ⟨hnew, h.kn⟩), fun q hq => ?_, fun q hq x hx => ?_⟩
  · have e : kids (ks.take k ++ (u, []) :: ks.drop k) = kids ks := by
      have a : kids ((u, ([] : List Str)) :: ks.drop k) = kids (ks.drop k) := rfl
      rw [kids_app, a, ← kids_app, List.take_append_drop]
    rw [e]; exact h.perm
  · rcases ins_mem hq with rfl | hq
    · right
      show u ∈ us.take (i + 1)
      rw [List.take_add_one, hu]; simp
    · exact h.sub q hq
  · rcases ins_mem hq with rfl | hq
    · cases hx
    · exact h.up q hq x hx
theorem TrN.fin (h : TrN us us.length ks) (nd : us.Nodup) (nm : ∀ u ∈ us, Nm u) (len : us.length ≤ 60) : Tre us ks :=
  ⟨by have := h.perm; rwa [List.take_of_length_le (Nat.le_refl _)] at this, nd, nm, len, h.top, h.kn, fun k hk => by have := h.sub k hk; rwa [List.take_of_length_le (Nat.le_refl _)] at this, h.up⟩
end
end L2
namespace L2
open PySem
theorem knots_las {H : Hp} : ∀ {ks : Kn} {refs : List V}, RepAll H refs (ks.map knotD) → ∃ ls : List V, ls.length = ks.length ∧ ∀ (i : Nat) (k : Str × List Str), ks[i]? = some k → ∃ ta la, refs[i]? = some (.ref ta) ∧ ls[i]? = some (.ref la) ∧ H ta = some (.tup [.str k.1, .ref la]) ∧ H la = some (.tup (k.2.map V.str))
  | [], refs, _ => ⟨[], rfl, fun i k h => by simp at h⟩
  | k :: ks, refs, h => by
    obtain ⟨y, ys, rfl, r1, r2⟩ := RepAll.consI h
    obtain ⟨ta, la, rfl, h1, h2⟩ := knot_at r1
    obtain ⟨ls, hl, ih⟩ := knots_las r2
    refine ⟨.ref la :: ls, by rw [List.length_cons, List.length_cons, hl], fun i k' hk => ?_⟩
    cases i with
    | zero =>
      have : k = k' := by simpa using hk
      subst this
      exact ⟨ta, la, rfl, rfl, h1, h2⟩
    | succ i => exact ih i k' (by simpa using hk)
theorem zipK_len (xs : List Str) (ys : List V) (h : ys.length = xs.length) : (zipK xs ys).length = xs.length := by
  unfold zipK
  rw [List.length_zip, List.length_map]
  omega
theorem zipK_at {xs : List Str} {ys : List V} {i : Nat} {q : Key × V} (h : (zipK xs ys)[i]? = some q) : ∃ x, xs[i]? = some x ∧ q.1 = .inr x ∧ ys[i]? = some q.2 := by
  unfold zipK at h
  rw [List.getElem?_zip_eq_some, List.getElem?_map] at h
  cases e : xs[i]? with
  | none => rw [e] at h; cases h.1
  | some x =>
    rw [e] at h
    exact ⟨x, rfl, (Option.some.inj h.1).symm, h.2⟩
theorem dict_knots {K : PySem.W.Frag} {H : Hp} {a : Addr} {us : List Str} {ks : Kn} {Q : VK} (R : Rep H (.ref a) (knotsD ks)) (T : Tre us ks)
    (h : ∀ D dk, H D = none → (∀ k ∈ ks, ∃ la, valV dk (.inr k.1) = some (.ref la) ∧ H la = some (.tup (k.2.map V.str))) → Q (.ref D) (upd H D (.dK dk))) : rDicKT K [.ref a] H Q := by
  obtain ⟨a', refs, e0, ha, rp⟩ := knots_at R
  cases e0
  obtain ⟨ls, hl, hat⟩ := knots_las rp
  have rlen := rp.len
  rw [List.length_map] at rlen
  have few := T.few
  have zl : (zipK (ks.map (·.1)) ls).length = ks.length := by rw [zipK_len _ _ (by rw [List.length_map]; exact hl), List.length_map]
  refine ⟨a, refs, zipK (ks.map (·.1)) ls, rfl, ha, by rw [zl]; exact rlen, by omega, fun i q x hq hx => ?_, fun D hD => ?_⟩
  · obtain ⟨nm, h1, h2, h3⟩ := zipK_at hq
    rw [List.getElem?_map] at h1
    cases e : ks[i]? with
    | none => rw [e] at h1; cases h1
    | some k =>
      rw [e] at h1
      obtain ⟨ta, la, g1, g2, g3, g4⟩ := hat i k e
      rw [g1] at hx
      rw [g2] at h3
      have ex : V.ref ta = x := Option.some.inj hx
      have e3 : V.ref la = q.2 := Option.some.inj h3
      have e1 : k.1 = nm := Option.some.inj h1
      refine ⟨ta, ex.symm, .of ?_⟩
      rw [h2, ← e3, ← e1]; exact g3
  · refine h D _ hD fun k hk => ?_
    obtain ⟨i, hi⟩ := List.getElem?_of_mem hk
    obtain ⟨ta, la, g1, g2, g3, g4⟩ := hat i k hi
    refine ⟨la, ?_, g4⟩
    rw [mkK_zip _ _ T.kn]
    exact valV_zip T.kn (by rw [List.getElem?_map, hi]; rfl) g2
theorem canLay_pairsN : ∀ {ps : List (Str × Str)}, (∀ e ∈ ps, Nm e.1 ∧ Nm e.2) → PyData.canLayAll0 (ps.map pairD) = true
  | [], _ => rfl
  | e :: ps, h => by
    have := h e (by simp)
    show (PyData.canLay0 (pairD e) && PyData.canLayAll0 (ps.map pairD)) = true
    rw [canLay_pairsN fun x hx => h x (List.mem_cons_of_mem _ hx)]
    show ((PyData.canLay0 (.str e.1) && (PyData.canLay0 (.str e.2) && true)) && true) = true
    rw [canLay_nm this.1, canLay_nm this.2]; rfl
theorem canLay_pairN {e : Str × Str} (h : Nm e.1 ∧ Nm e.2) : PyData.canLay0 (pairD e) = true := by
  show (PyData.canLay0 (.str e.1) && (PyData.canLay0 (.str e.2) && true)) = true
  rw [canLay_nm h.1, canLay_nm h.2]; rfl
theorem flat_strs (xs : List Str) : (List.map V.str xs).all flatV = true := by
  rw [List.all_map, List.all_eq_true]
  intro x _; rfl
theorem in_strs (x : Str) (xs : List Str) : inV (V.str x) (List.map V.str xs) = decide (x ∈ xs) := by
  rw [Bool.eq_iff_iff, decide_eq_true_iff]
  unfold inV
  rw [List.any_map, List.any_eq_true]
  constructor
  · rintro ⟨y, hy, q⟩
    have q : (y == x) = true := q
    have q : y = x := by simpa using q
    exact q ▸ hy
  · intro h
    refine ⟨x, h, ?_⟩
    show (x == x) = true
    simp
noncomputable def tBMT (r : V → List V → Hp → VK → Prop) (to : TE) (t : TA) : TE := fun σ H Q => to σ H fun x H1 => (∃ p xs, x = .ref p ∧ H1 p = some (.tup xs)) ∧ t σ H1 fun xs H2 => r x xs H2 Q
theorem m_indexTT {X : Cx} {o e : Expr} {to : TE} {t : TA} {apos cpos : Pos} (ho : PE X o to) (ha : PA X [e] t)
    (hbase : attributeBase o "index" X.env (eval o X.env) = eval o X.env := by rfl)
    (hfew : ((backTo cpos (starEach [e] X.env)).all (fun x => !x.1) && (backToKw cpos (keywordEach [] X.env)).all (fun x => x.1.isSome)
      && decide ([e].length + ([] : List Keyword).length + (if ([] : List Keyword).isEmpty then 0 else 1) < 30)) = true := by rfl)
    (hline : (apos.endLine == cpos.line) = true := by rfl) (hs : starEach [e] X.env = (false, eval e X.env) :: starEach [] X.env := by rfl) (hplain : (backTo cpos (starEach [] X.env)).any (·.1) = false := by rfl) :
    PE X (.Call (.Attribute o "index" apos) [e] [] cpos) (tBMT rIndexT to t) := by
  intro pins s σ H Q I h
  refine wpAny_Call_method_late hbase hfew hline rfl (thn (ho pins s σ H _ I h) fun v s1 ⟨x, H1, I1, r1, ⟨p, xs, ex, hp⟩, q1⟩ => ?_)
  subst ex
  cases r1
  obtain ⟨_, its, rv, ob, e1, e2, n, e3, e4⟩ := (show ObjOk X.prog X.w H1 s1.heap p (.tup xs) from I1.hok p _ hp)
  refine ⟨"tuple", "tuple.index", PySem.F.plainAttrs_tuple, PySem.F.slot_tuple_index, PySem.F.type_tuple_index, ⟨ob, e1, e2⟩, fun a z => ?_, ?_⟩
  · cases z
    exact ⟨ob, e1, e4⟩
  · have hA := ha cpos pins s1 σ H1 _ I1 q1
    rw [hs] at hA ⊢
    refine Calls.callWith_builtin (by show (false || (backTo cpos (starEach [] X.env)).any (·.1)) = false; rw [hplain] <;> rfl) (Calls.evalArgs_plain (thn hA fun us s2 ⟨vs, H2, I2, r2, q2⟩ => ?_))
    exact mt_indexT pins s2 σ H2 (.ref p) vs (.ref p) us Q I2 rfl r2 q2
end L2
namespace L2
open PySem
noncomputable abbrev Prs := List (Str × Str)
noncomputable def wU (c : List Str) (wn : Prs) (word : Str) : List Str := c.filter fun u => decide ((word, u) ∈ wn)
end L2
namespace MG
variable {es : List (Nat × Nat)} {s n P t L : Nat} {me par : Nat → Nat} {rw : Nat → List Nat}
inductive Chn (P : Nat) (me par : Nat → Nat) : Nat → Nat → List Nat → Prop
  | done : Chn P me par P 0 []
  | step {j m : Nat} {w : List Nat} : 0 < j → Chn P me par j m w → Chn P me par (par j) (m + 1) (me j :: w)
end MG
open PySem
namespace PySem.SeqAt
end PySem.SeqAt
namespace HT
open PySem PySem.Spec PyProof.Rows
variable {prog : Program} {w : World} {A : Around} {E : Value → Shared → Prop} {s : Shared}
end HT
namespace L2
open PySem
noncomputable def kdO (ks : Kn) (u : Str) : List Str := ((ks.find? fun k => decide (k.1 = u)).map (·.2)).getD []
section
variable {us : List Str} {ks : Kn}
noncomputable def rd (ks : Kn) : Nat → Str → List Str
  | 0, u => [u]
  | n + 1, u => u :: (kdO ks u).flatMap (rd ks n)
end
end L2
namespace L2
open PySem
section
variable {H H' : Hp}
theorem tupButD {p a : Addr} {ys : List (Key × V)} {xs : List V} (hp : H p = some (.dK ys)) (b : But p H H') (h : H a = some (.tup xs)) : H' a = some (.tup xs) := b a _ (ne_of h hp (by intro z; cases z)) h
theorem repButD_pair {p : Addr} {ys : List (Key × V)} (hp : H p = some (.dK ys)) (b : But p H H') {v : V} {e : Str × Str} (h : Rep H v (pairD e)) : Rep H' v (pairD e) := by
  obtain ⟨a, rfl, ha⟩ := pair_at h
  exact pair_rep (tupButD hp b ha)
theorem repButD_all {α : Type} {f : α → PyData} (k : ∀ {v : V} {e : α}, Rep H v (f e) → Rep H' v (f e)) : ∀ {es : List α} {xs : List V}, RepAll H xs (es.map f) → RepAll H' xs (es.map f)
  | [], xs, h => by rw [RepAll.nilI h]; exact .nil
  | e :: es, xs, h => by
    obtain ⟨y, ys', rfl, a, c⟩ := RepAll.consI h
    exact .cons (k a) (repButD_all k c)
theorem repButD_pairs {p : Addr} {ys : List (Key × V)} (hp : H p = some (.dK ys)) (b : But p H H') {v : V} {ps : List (Str × Str)} (h : Rep H v (pairsT ps)) : Rep H' v (pairsT ps) := by
  obtain ⟨a, xs, rfl, ha, r⟩ := pairsT_at h
  exact .tup (tupButD hp b ha) (repButD_all (repButD_pair hp b) r)
theorem repButD_knot {p : Addr} {ys : List (Key × V)} (hp : H p = some (.dK ys)) (b : But p H H') {v : V} {k : Str × List Str} (h : Rep H v (knotD k)) : Rep H' v (knotD k) := by
  obtain ⟨ta, la, rfl, h1, h2⟩ := knot_at h
  exact .tup (tupButD hp b h1) (.cons (.str _) (.cons (.tup (tupButD hp b h2) (RepAll.of_strs _)) .nil))
theorem repButD_knots {p : Addr} {ys : List (Key × V)} (hp : H p = some (.dK ys)) (b : But p H H') {v : V} {ks : Kn} (h : Rep H v (knotsD ks)) : Rep H' v (knotsD ks) := by
  obtain ⟨a, xs, rfl, ha, r⟩ := knots_at h
  exact .tup (tupButD hp b ha) (repButD_all (repButD_knot hp b) r)
theorem repButD_house {p : Addr} {ys : List (Key × V)} (hp : H p = some (.dK ys)) (b : But p H H') {v : V} {ks : Kn} {ts ws wn : List (Str × Str)} (h : Rep H v (houseD ks ts ws wn)) : Rep H' v (houseD ks ts ws wn) := by
  obtain ⟨q, a, c, d, e, rfl, hq, r1, r2, r3, r4⟩ := house_at h
  exact house_rep (tupButD hp b hq) (repButD_knots hp b r1) (repButD_pairs hp b r2) (repButD_pairs hp b r3) (repButD_pairs hp b r4)
end
theorem DPV.at_dK {H : Hp} {p a : Addr} (h : DPV H p a) : ∃ ys, H p = some (.dK ys) := let ⟨_, _, q, _⟩ := h; ⟨_, q⟩
structure KLL (H : Hp) (L : Addr) (kl : KL) : Prop where
  l : H L = some (.lst (kl.map fun q => V.ref q.1))
  t : ∀ q ∈ kl, H q.1 = some (.lst [.str q.2.2.1, .ref q.2.1])
  c : ∀ q ∈ kl, H q.2.1 = some (.lst (List.map V.str q.2.2.2))
  nd : (kl.map fun q => q.2.1).Nodup
  nl : ∀ q ∈ kl, q.2.1 ≠ L
theorem ne_pl {s : Str} {r : Addr} {ch : List Str} : HO.lst [.str s, .ref r] ≠ HO.lst (List.map V.str ch) := fun z => by
  have z : [V.str s, V.ref r] = List.map V.str ch := HO.lst.inj z
  have : V.ref r ∈ List.map V.str ch := by rw [← z]; simp
  obtain ⟨y, _, e⟩ := List.mem_map.mp this
  cases e
theorem ne_pr {s : Str} {r : Addr} {α : Type} {f : α → Addr} {l : List α} : HO.lst [.str s, .ref r] ≠ HO.lst (l.map fun q => V.ref (f q)) := fun z => by
  have z : [V.str s, V.ref r] = l.map fun q => V.ref (f q) := HO.lst.inj z
  have : V.str s ∈ l.map fun q => V.ref (f q) := by rw [← z]; simp
  obtain ⟨y, _, e⟩ := List.mem_map.mp this
  cases e
section
variable {H H' : Hp} {L p : Addr} {kl : KL}
theorem KLL.draw (h : KLL H L kl) {ys : List (Key × V)} (hp : H p = some (.dK ys)) (b : But p H H') : KLL H' L kl :=
  ⟨b _ _ (ne_of h.l hp (by intro z; cases z)) h.l, fun q hq => b _ _ (ne_of (h.t q hq) hp (by intro z; cases z)) (h.t q hq), fun q hq => b _ _ (ne_of (h.c q hq) hp (by intro z; cases z)) (h.c q hq), h.nd, h.nl⟩
theorem KLL.same (h : KLL H L kl) (s : Same H H') : KLL H' L kl := ⟨s _ _ h.l, fun q hq => s _ _ (h.t q hq), fun q hq => s _ _ (h.c q hq), h.nd, h.nl⟩
theorem KLL.put (h : KLL H L kl) {j : Nat} {ta la : Addr} {nm : Str} {ch ch' : List Str} (hj : kl[j]? = some (ta, la, (nm, ch))) :
    KLL (upd H la (.lst (List.map V.str ch'))) L (kl.set j (ta, la, (nm, ch'))) := by
  have hm := List.mem_of_getElem? hj
  have nj := h.nl _ hm
  have hc := h.c _ hm
  have e1 : ((kl.set j (ta, la, (nm, ch'))).map fun q => q.1) = kl.map fun q => q.1 := set_same hj rfl
  have e2 : ((kl.set j (ta, la, (nm, ch'))).map fun q => q.2.1) = kl.map fun q => q.2.1 := set_same hj rfl
  refine ⟨?_, fun q hq => ?_, fun q hq => ?_, by rw [e2]; exact h.nd, fun q hq => ?_⟩
  · rw [upd_ne (Ne.symm nj), h.l]
    have := congrArg (List.map V.ref) e1
    rw [List.map_map, List.map_map] at this
    exact congrArg (fun z => some (HO.lst z)) this.symm
  · rcases mem_set_ix hq with rfl | ⟨m, _, hm'⟩
    · have := h.t _ hm
      rw [upd_ne (ne_of this hc ne_pl)]; exact this
    · have := h.t _ (List.mem_of_getElem? hm')
      rw [upd_ne (ne_of this hc ne_pl)]; exact this
  · rcases mem_set_ix hq with rfl | ⟨m, hmj, hm'⟩
    · exact upd_same
    · have hne : q.2.1 ≠ la := fun z => by
        have h1 : (kl.map fun q => q.2.1)[m]? = some la := by rw [List.getElem?_map, hm']; exact congrArg some z
        have h2 : (kl.map fun q => q.2.1)[j]? = some la := by rw [List.getElem?_map, hj]; rfl
        exact hmj ((List.getElem?_inj (List.getElem?_eq_some_iff.mp h1).1 h.nd).mp (h1.trans h2.symm))
      rw [upd_ne hne]; exact h.c _ (List.mem_of_getElem? hm')
  · rcases mem_set_ix hq with rfl | ⟨m, _, hm'⟩
    · exact nj
    · exact h.nl _ (List.mem_of_getElem? hm')
theorem KLL.add (h : KLL H L kl) {ta la : Addr} {u : Str} (ht : H ta = some (.lst [.str u, .ref la])) (hl : H la = some (.lst [])) (hla : la ∉ kl.map fun q => q.2.1) (h1 : la ≠ L) :
    KLL (upd H L (.lst ((kl.map fun q => V.ref q.1) ++ [V.ref ta]))) L (kl ++ [(ta, la, (u, []))]) := by
  refine ⟨?_, fun q hq => ?_, fun q hq => ?_, ?_, fun q hq => ?_⟩
  · rw [upd_same, List.map_append]; rfl
  · rcases List.mem_append.mp hq with hq | hq
    · have := h.t q hq
      rw [upd_ne (ne_of this h.l ne_pr)]; exact this
    · rw [List.mem_singleton.mp hq]
      rw [upd_ne (ne_of ht h.l ne_pr)]; exact ht
  · rcases List.mem_append.mp hq with hq | hq
    · rw [upd_ne (h.nl q hq)]; exact h.c q hq
    · rw [List.mem_singleton.mp hq]
      rw [upd_ne h1]; exact hl
  · rw [List.map_append]
    refine (List.perm_append_singleton _ _).nodup_iff.mpr ?_
    exact List.nodup_cons.mpr ⟨hla, h.nd⟩
  · rcases List.mem_append.mp hq with hq | hq
    · exact h.nl q hq
    · rw [List.mem_singleton.mp hq]; exact h1
theorem KLL.dic (h : KLL H L kl) {D : Addr} {lv lv2 : List (Key × V)} (hD : H D = some (.dK lv)) : KLL (upd H D (.dK lv2)) L kl :=
  ⟨by rw [upd_ne (ne_of h.l hD (by intro z; cases z))]; exact h.l, fun q hq => by rw [upd_ne (ne_of (h.t q hq) hD (by intro z; cases z))]; exact h.t q hq, fun q hq => by rw [upd_ne (ne_of (h.c q hq) hD (by intro z; cases z))]; exact h.c q hq, h.nd, h.nl⟩
theorem TrN.addKnot {us : List Str} {i : Nat} {ks : Kn} (h : TrN us (i + 1) ks) (nd : us.Nodup) (nn : ∀ u ∈ us, u ≠ "") {u : Str} (hu : us[i]? = some u) (hnew : u ∉ ks.map (·.1)) : TrN us (i + 1) (ks ++ [(u, [])]) := by
  have := h.knot nd nn hu hnew ks.length
  rwa [List.take_of_length_le (Nat.le_refl _), List.drop_of_length_le (Nat.le_refl _)] at this
end
end L2
namespace L2
open PySem PySem.Spec PyProof.Rows
section
variable {X : Cx}
noncomputable def rNeNilT (K : PySem.W.Frag) : V → V → Hp → VK → Prop := fun x y H Q => ∃ a b xs, x = .ref a ∧ y = .ref b ∧ SqT K H a xs ∧ H b = some (.tup []) ∧ Q (.bl (!xs.isEmpty)) H
theorem op_neNilT (K : PySem.W.Frag) (hu : X.A.units + 64 < cLine) (hK : X.K = K := by rfl) : OpR X (compareOp .NotEq) (rNeNilT K) := by
  subst hK
  intro pins s σ H x y v u Q I rx ry h
  obtain ⟨a, b, xs, rfl, rfl, ha, hb, q⟩ := h
  cases rx
  cases ry
  obtain ⟨its, rv, pl, hz⟩ := I.tuple ha
  obtain ⟨jts, rw', pb, _⟩ := I.tuple (a := b) (xs := []) (.of hb)
  cases rw'
  have l1 := rv.length
  refine SeqAt.RcNeAt.tuples (e := fun _ => true) (show s.heap.IsTuple a its.toArray from pl) (show s.heap.IsTuple b (List.toArray []) from pb) (by omega) (fun i h1 h2 => absurd h2 (by simp)) X.prog X.w X.xe _ ⟨.bl _, H, I, rfl, ?_⟩
  have e : (!((List.range (min its.toArray.size (List.toArray ([] : List Value)).size)).all (fun _ => true) && its.toArray.size == (List.toArray ([] : List Value)).size)) = !xs.isEmpty := by
    cases xs with
    | nil => cases rv; rfl
    | cons x r =>
      cases its with
      | nil => cases rv
      | cons y q => simp
  rw [e]
  exact q
end
end L2
namespace L2
open PySem PySem.Spec PyProof.Rows
noncomputable def tCallV (f : Addr) (sp : Sp) (E : XK) (tf : TE) (t : TA) : TE := fun σ H Q => tf σ H fun v H1 => v = .ref f ∧ t σ H1 fun vs H2 => sp (vs ++ []) H2 Q E
theorem pe_callV {X : Cx} {CX : CXT} {k : Nat} {f : Addr} {fd : FuncData} {ps : List Str} {sp : Sp} {E : XK} {func e : Expr} {es : List Expr} {pos : Pos} {tf : TE} {t : TA} (F : FnOk X.prog X.w X.K X.mg X.base CX k f fd ps sp) (hr : Room k X.A) (hk : PySem.W.keepIn X.K (.ref f) = true) (hb : Binds X.K fd ps []) (hx : Passes CX X E)
    (hf : PE X func tf) (ha : PA X (e :: es) t) (he : starEach (e :: es) X.env = (false, eval e X.env) :: starEach es X.env := by rfl) (hpl : (backTo pos (starEach es X.env)).any (·.1) = false := by rfl)
    (hev : eval (.Call func (e :: es) [] pos) X.env = (eval func X.env >>= fun v => callWith pos v [] (backTo pos (starEach (e :: es) X.env)) (backToKw pos (keywordEach [] X.env))) := by rfl) :
    PE X (.Call func (e :: es) [] pos) (tCallV f sp E tf t) := by
  intro pins s σ H Q I h
  rw [hev]
  refine wpAny_bind (thn (hf pins s σ H _ I h) fun u s1 ⟨v, H1, I1, r1, q1, q2⟩ => ?_)
  subst q1
  obtain rfl : u = Value.ref f := r1
  refine PySem.W.callWith_K (h₀ := X.base) I1.ok.mod.kin hk (thn (ha pos pins s1 σ H1 _ I1 q2) fun us s2 ⟨vs, H2, I2, r, q⟩ => ⟨I2.kIn, ?_⟩) he hpl
  exact run_fn F hr hb .nil hx I2 r q
end L2
namespace L2
open PySem PySem.Spec PyProof.Rows
open _root_.HT PySem.SeqAt PySem.MeetsSeq PySem.MeetsSeq2 PySem.MeetsSeq3
namespace HTW
variable {prog : Program} {w : World} {A : Around} {E : Value → Shared → Prop} {s : Shared}
theorem getItem_tuple_whole {t sl : Addr} {items : Array Value} {vl vu : Value} {lo hi : Option Int} {Q : Value → Shared → Prop} (ht : IsTup s.heap t items) (hs : s.heap.IsSliceOf sl vl vu .none) (pl : IsPart vl lo) (pu : IsPart vu hi)
    (h0 : sIx items.size 0 lo = 0) (h1 : sIx items.size items.size hi = items.size)
    (h : Q (.ref t) s) : wpAny (model prog w) A (getItem (.ref t) (.ref sl)) Q E s := by
  obtain ⟨os, hos, hcs, hds⟩ := id hs
  have hTs : s.TypeIs (.ref sl) "slice" := ⟨os, hos, hcs⟩
  unfold getItem
  try with_reducible refine wpAny_holding ?_
  first | refine wpAny_bind (wpAny_pure ?_) | skip
  refine wpAny_bind (wpAny_sequenceKey ht.typeIs (by decide) ?_)
  refine wpAny_bind (wpAny_callSpecial?_slot (name := Str.ofString "__getitem__") ht.typeIs PyProof.Rows.slot_tuple_getitem
    (wpAny_call_entry PyProof.Rows.slot_tuple_getitem ht.typeIs entry_tuple_getitem ?_ (args_tuple_getitem _ _)))
  show wpAny _ _ (Builtin.Tuple.tupleItemsOf (.ref t) >>= _) _ _ s
  refine wpAny_bind (tupleItemsOf_ ht ?_)
  refine wpAny_bind (wpAny_typeOf hTs ?_)
  rw [if_pos (by decide)]
  refine wpAny_bind (sliceApplied_gen hs pl pu ?_)
  have hyes : (((sIx items.size 0 lo : Nat) : Int) == 0 && (1 : Int) == 1 && (sIx items.size items.size hi - sIx items.size 0 lo) == items.size) = true := by
    rw [h0, h1]; simp
  show wpAny _ _ (if (((sIx items.size 0 lo : Nat) : Int) == 0 && (1 : Int) == 1 && (sIx items.size items.size hi - sIx items.size 0 lo) == items.size) = true then _ else _) _ _ s
  rw [if_pos hyes]
  unfold Builtin.Tuple.tupleIsExact
  refine wpAny_bind (wpAny_bind (wpAny_typeOf ht.typeIs (wpAny_pure ?_)))
  rw [if_pos (by decide)]
  refine wpAny_bind (wpAny_rule (wpAny_pure ⟨_, rfl, wpAny_pure h⟩))
end HTW
section
variable {X : Cx}
theorem cut_whole {xs : List V} {lo hi : Option Int} (h0 : HT.sIx xs.length 0 lo = 0) (h1 : HT.sIx xs.length xs.length hi = xs.length) : cutV xs lo hi = xs := by
  unfold cutV
  rw [h0, h1, List.drop_zero, Nat.sub_zero, List.take_of_length_le (Nat.le_refl _)]
noncomputable def rSlTA : V → Option Int → Option Int → Hp → VK → Prop := fun x lo hi H Q => ∃ a xs, x = .ref a ∧ H a = some (.tup xs) ∧ ∀ p H', Same H H' → H' p = some (.tup (cutV xs lo hi)) → Q (.ref p) H'
theorem sl_tupA : SlR X rSlTA := by
  intro pins s σ H x v vl vu lo hi sl Q I rx hs pl pu h
  obtain ⟨a, xs, rfl, hx, q⟩ := h
  by_cases hw : HT.sIx xs.length 0 lo = 0 ∧ HT.sIx xs.length xs.length hi = xs.length
  · cases rx
    obtain ⟨its, r, ht, hz⟩ := I.tuple (.of hx)
    have hlen : its.toArray.size = xs.length := by rw [List.size_toArray]; exact r.length.symm
    refine ⟨"tuple", _, PyProof.Rows.slot_tuple_getitem.lookup, ht.typeIs, ?_⟩
    refine HTW.getItem_tuple_whole ht hs pl pu (by rw [hlen]; exact hw.1) (by rw [hlen]; exact hw.2) ?_
    exact ⟨.ref a, H, I, rfl, q a H (Same.refl H) (by rw [cut_whole hw.1 hw.2]; exact hx)⟩
  · exact sl_tup pins s σ H _ v vl vu lo hi sl Q I rx hs pl pu ⟨a, xs, rfl, .of hx, hw, fun p hp => q p _ (Same.new hp) upd_same⟩
noncomputable def rCatTB : R2 := fun x y H Q => ∃ a b xs ys, x = .ref a ∧ y = .ref b ∧ H a = some (.tup xs) ∧ H b = some (.tup ys) ∧ xs.length + ys.length ≤ sizeLine ∧ ∀ p H', Same H H' → H' p = some (.tup (xs ++ ys)) → Q (.ref p) H'
theorem op_catTB : OpR X (binaryOp .Add) rCatTB := by
  intro pins s σ H x y v u Q I rx ry h
  obtain ⟨a, b, xs, ys, rfl, rfl, ha, hb, hz, q⟩ := h
  refine op_catTA X.K rfl pins s σ H _ _ v u Q I rx ry ⟨a, b, xs, ys, rfl, rfl, .of ha, .of hb, hz, fun e => q b H (Same.refl H) (by rw [e]; exact hb), fun _ e => q a H (Same.refl H) (by rw [e, List.append_nil]; exact ha), fun _ _ p hp => q p _ (Same.new hp) upd_same⟩
end
end L2
namespace K47
open PySem L2
noncomputable def top (i : Nat) : Stmt := PySem.Challenge.pw_orderkeep_k47_new_things.main.body.getD i (.Pass ⟨0, 0, 0, 0⟩)
noncomputable abbrev sIsName : Stmt := top 14
noncomputable abbrev sPlaces : Stmt := top 18
noncomputable abbrev sUNm : Stmt := top 19
noncomputable abbrev sUnlike : Stmt := top 20
noncomputable abbrev sChildren : Stmt := top 33
noncomputable abbrev sHomes : Stmt := top 36
noncomputable abbrev sWanted : Stmt := top 44
noncomputable abbrev sWithRow : Stmt := top 54
noncomputable abbrev sWithThing : Stmt := top 55
noncomputable abbrev sIsSingle : Stmt := top 70
noncomputable abbrev sIsMany : Stmt := top 71
noncomputable abbrev sHasWord : Stmt := top 72
noncomputable abbrev sIsPart : Stmt := top 73
noncomputable abbrev sRefuse : Stmt := top 80
noncomputable abbrev sRefuseThing : Stmt := top 81
noncomputable abbrev sNeedNewName : Stmt := top 89
noncomputable abbrev sNeedKnot : Stmt := top 91
noncomputable abbrev sNeedRoom : Stmt := top 94
noncomputable abbrev sLedTo : Stmt := top 98
noncomputable abbrev sLetsNoneIn : Stmt := top 99
noncomputable abbrev sPaperOf : Stmt := top 106
noncomputable abbrev sIsDeed : Stmt := top 114
noncomputable abbrev sBehind : Stmt := top 115
noncomputable abbrev sIsDeedWithin : Stmt := top 116
noncomputable abbrev sSingles : Stmt := top 117
noncomputable abbrev sBehindSingle : Stmt := top 118
noncomputable abbrev sPen : Stmt := top 120
noncomputable abbrev sDraw : Stmt := top 121
noncomputable abbrev sNames : Stmt := top 122
noncomputable abbrev sLawKnots : Stmt := top 123
noncomputable abbrev sLawLine : Stmt := top 124
noncomputable abbrev sLawPart : Stmt := top 125
noncomputable abbrev sLawEdges : Stmt := top 126
noncomputable abbrev sReached : Stmt := top 127
noncomputable abbrev sLawHouse : Stmt := top 128
noncomputable abbrev sLawUnits : Stmt := top 129
noncomputable abbrev sLawFresh : Stmt := top 130
noncomputable abbrev sDue : Stmt := top 131
noncomputable abbrev sLaw : Stmt := top 132
section
variable {P : Program} {w : World} {K : PySem.W.Frag} {mg : Str → Option Value} {base : Heap}
noncomputable def spPenD (K : PySem.W.Frag) : Sp := fun vs H Q _ => ∃ (a : Addr) (ns : List Int), vs = [.ref a] ∧ SqL K H a (ns.map V.int) ∧ ∀ p H', DPen K H' p a → Q (.ref p) H'
theorem scPen : FnScope ["_law_script"] ["_law_script"] (defScope sPen) := ⟨rfl, rfl, rfl, by decide +kernel, rfl, by decide +kernel, by decide +kernel⟩
theorem ok_pen {f : Addr} {fd : FuncData} (F : Fun K "_law_pen" "_law_pen" sPen f fd) (B : Blt mg) : FnOk P w K mg base CX0 1 f fd ["_law_script"] (spPenD K) := by
  refine F.ok scPen (fun vs H Q E h => ?_) (fun cdv A outer s H vs Q E hr h => ?_)
  · obtain ⟨a, ns, rfl, _⟩ := h
    rfl
  · obtain ⟨a, ns, rfl, hS, k⟩ := h
    have nd := scPen.nd
    refine ⟨_, (pss_one (ps_ret (pe_disp (pps_cons pe_str (pv 0) (pps_cons pe_str pe_int (pps_cons pe_str pe_int pps_nil))) rfl rfl (by simp) (by decide)))), ?_⟩
    refine fun p hp => ⟨_, rfl, ?_⟩
    refine ⟨upd_same, penK a 0 0, rfl, (by show 3 ≤ 15; decide), ?_⟩
    have s1 : Same H (upd (upd H p (.dK [])) p (.dK (mergeK [] (penK a 0 0)))) := by rw [upd_upd]; exact Same.new hp
    exact k p _ (DPen.new hS hp s1 ⟨0, 0, upd_same, by decide, by decide⟩)
theorem hS_new {H : Hp} {a l : Addr} {o : HO} {xs : List V} (h : SqL K H a xs) (e : H l = none) : SqL K (upd H l o) a xs := by
  have s := Same.new (o := o) e
  rcases h with (h | ⟨ob, h⟩) | h
  · exact .inl (.inl (s _ _ h))
  · exact .inl (.inr ⟨ob, s _ _ h⟩)
  · exact .inr h
theorem scDraw : FnScope ["_law_pen_here", "_law_many", "_law_found", "_law_at", "_law_cell", "_law_number"] ["_law_pen_here", "_law_many"] (defScope sDraw) := ⟨rfl, rfl, rfl, by decide +kernel, rfl, by decide +kernel, by decide +kernel⟩
theorem ok_draw {f : Addr} {fd : FuncData} (F : Fun K "_law_draw" "_law_draw" sDraw f fd) (B : Blt mg) : FnOk P w K mg base CX0 1 f fd ["_law_pen_here", "_law_many"] (spDrw K) := by
  refine F.ok scDraw (fun vs H Q E h => ?_) (fun cdv A outer s H vs Q E hr h => ?_)
  · obtain ⟨p, a, m, rfl, _⟩ := h
    rfl
  · obtain ⟨p, a, m, rfl, ⟨⟨ns, hS⟩, i, n, hp, hi, hn⟩, hm, hm2, k⟩ := h
    have nd := scDraw.nd
    refine ⟨_, (pss_cons (ps_if (pt_cmpR op_gt (pe_ix (ix_X K hr.units) (pv 0) pe_str (fun _ _ => rfl)) pe_int (nomark _)) (pss_cons (ps_set (i := 2) nd rfl (Or.inl rfl) (pe_op op_mod (pe_ix (ix_X K hr.units) (pv 0) pe_str (fun _ _ => rfl)) (pv 1)))
      (pss_cons (ps_asg (pe_op op_fdiv (pe_ix (ix_X K hr.units) (pv 0) pe_str (fun _ _ => rfl)) (pv 1)) (pg_sub (pv 0) pe_str (set_X hr.units)))
      (pss_one (ps_ret (pv 2))))) pss_nil)
      (pss_cons (ps_set (i := 3) nd rfl (Or.inl rfl) (pe_ix (ix_X K hr.units) (pv 0) pe_str (fun _ _ => rfl)))
      (pss_cons (ps_asg (pe_op op_addX (pv 3) pe_int) (pg_sub (pv 0) pe_str (set_X hr.units)))
      (pss_cons (ps_set (i := 4) nd rfl (Or.inl rfl) pe_int)
      (pss_cons (ps_if (pt_cmpR (op_neNil K hr.units) (pe_ix (ix_X K hr.units) (pv 0) pe_str (fun _ _ => rfl)) (pe_lst pa_nil) (nomark _)) (pss_one (ps_set (i := 4) nd rfl (Or.inl rfl) (pe_ix (ix_X K hr.units) (pe_ix (ix_X K hr.units) (pv 0) pe_str (fun _ _ => rfl)) (pe_op op_mod (pv 3) (b_len K B (pa_cons (pe_ix (ix_X K hr.units) (pv 0) pe_str (fun _ _ => rfl)) pa_nil))) (fun _ _ => rfl)))) pss_nil)
      (pss_cons (ps_if (PW.pt (pw_and (pt_cmpR op_ltX (pv 3) (b_len K B (pa_cons (pe_ix (ix_X K hr.units) (pv 0) pe_str (fun _ _ => rfl)) pa_nil)) (nomark _)) (pw_and1 (pt_cmpR op_ge (b_abs B (pa_cons (pv 4) pa_nil)) (pe_op op_pow pe_int pe_int) (nomark _))))) (pss_cons (ps_asg (pe_op op_fdiv (b_abs B (pa_cons (pv 4) pa_nil)) (pv 1)) (pg_sub (pv 0) pe_str (set_X hr.units)))
      (pss_one (ps_ret (pe_op op_mod (b_abs B (pa_cons (pv 4) pa_nil)) (pv 1))))) pss_nil)
      (pss_cons (ps_set (i := 5) nd rfl (Or.inl rfl) (pe_op op_mod (pe_op op_mul (pe_op op_addX (pe_op op_addX (pe_op op_mod (pv 4) pe_int) (pe_op op_mul pe_int (pv 3))) pe_int) pe_int) pe_int))
      (pss_cons (ps_set (i := 5) nd rfl (Or.inl rfl) (pe_op op_mod (pe_op op_addX (pe_op op_addX (pe_op op_mul (pv 5) (pv 5)) (pe_op op_mul pe_int (pv 5))) (pv 3)) pe_int))
      (pss_one (ps_ret (pe_op op_mod (pe_op op_fdiv (pv 5) pe_int) (pv 1)))))))))))), ?_⟩
    refine ⟨_, rfl, .dic (penG_l hp) ⟨_, _, rfl, rfl, _, rfl, ?_⟩⟩
    refine ite2 (fun h => ?_) (fun h => ?_)
    · refine ⟨_, rfl, .dic (penG_l hp) ⟨_, rfl, _, _, rfl, rfl, hm, ?_⟩⟩
      refine ⟨_, rfl, .dic (penG_l hp) ⟨_, rfl, _, _, rfl, rfl, ⟨hm, hm2⟩, ?_⟩⟩
      refine ⟨_, rfl, .dic (penP_l hp) ?_⟩
      refine ⟨_, rfl, ?_⟩
      exact k _ _ (Int.emod_nonneg _ (by omega)) (Int.emod_lt_of_pos _ hm) ⟨i, n / m, upd_same, hi, Int.ediv_nonneg hn (by omega)⟩ But.upd
    · refine ⟨_, rfl, .dic (penG_a hp) ?_⟩
      refine ⟨_, rfl, .int ?_⟩
      refine ⟨_, rfl, .dic (penP_a hp) ?_⟩
      have hp1 : (upd H p (.dK (penK a (i + 1) n))) p = some (.dK (penK a (i + 1) n)) := upd_same
      have hS1 : SqL K (upd H p (.dK (penK a (i + 1) n))) a (ns.map V.int) := hS _ But.upd
      have bu1 : But p H (upd H p (.dK (penK a (i + 1) n))) := But.upd
      generalize upd H p (.dK (penK a (i + 1) n)) = H1 at hp1 hS1 bu1 ⊢
      refine ⟨_, rfl, .dic (penG_s hp1) ⟨(by show 0 ≤ sizeLine; decide), fun lz hlz => ⟨_, _, _, rfl, rfl, hS_new hS1 hlz, upd_same, _, rfl, ?_⟩⟩⟩
      have nlz : p ≠ lz := ne_of_none hp1 hlz
      have hp2 : (upd H1 lz (.lst [])) p = some (.dK (penK a (i + 1) n)) := by rw [upd_ne nlz]; exact hp1
      have bu2 : But p H (upd H1 lz (.lst [])) := bu1.trans (But.of_same (Same.new hlz))
      have hS2 : SqL K (upd H1 lz (.lst [])) a (ns.map V.int) := hS _ bu2
      generalize upd H1 lz (.lst []) = H2 at hp2 hS2 bu2 ⊢
      have fin : ∀ c : Int, 0 ≤ c → Q (.int (c % m)) H2 := fun c hc => k _ _ (Int.emod_nonneg _ (by omega)) (Int.emod_lt_of_pos _ hm) ⟨i + 1, n, hp2, by omega, hn⟩ bu2
      refine ite2 (fun h => ?a) (fun h => ?b)
      case' a =>
        have hl : (0 : Int) < ((ns.map V.int).length : Nat) := by
          cases ns with
          | nil => exact absurd h (by simp)
          | cons x r => show (0 : Int) < ((r.map V.int).length + 1 : Nat); omega
        obtain ⟨c, hc⟩ := at_int (ns := ns) (j := i % ((ns.map V.int).length : Nat)) (Int.emod_nonneg _ (by omega)) (Int.emod_lt_of_pos _ hl)
        refine ⟨_, rfl, .dic (penG_s hp2) ⟨_, rfl, _, rfl, .dic (penG_s hp2) ⟨_, _, rfl, Or.inl ⟨_, hS2, rfl⟩, _, _, rfl, rfl, hl, .lst hS2 hc ?_⟩⟩⟩
      all_goals
        refine ⟨_, rfl, _, rfl, .dic (penG_s hp2) ⟨_, _, rfl, Or.inl ⟨_, hS2, rfl⟩, .int ⟨_, rfl, ?_⟩⟩⟩
        refine ite2 (fun h1 => ?_) (fun h1 => ?_)
        · refine ⟨_, rfl, _, rfl, _, _, rfl, rfl, ⟨by decide, by decide, by decide⟩, _, _, rfl, rfl, _, rfl, ?_⟩
          refine ite2 (fun h2 => ?_) (fun h2 => ?_)
          · refine ⟨_, rfl, _, rfl, _, rfl, _, _, rfl, rfl, ⟨hm, hm2⟩, ?_⟩
            refine ⟨_, rfl, .dic (penP_l hp2) ?_⟩
            refine ⟨_, rfl, _, rfl, _, rfl, _, _, rfl, rfl, hm, ?_⟩
            refine k _ _ (Int.emod_nonneg _ (by omega)) (Int.emod_lt_of_pos _ hm) ⟨i + 1, _, upd_same, by omega, Int.ediv_nonneg (by split <;> omega) (by omega)⟩ (bu2.trans But.upd)
          · refine ⟨_, rfl, _, _, rfl, rfl, (by show (0 : Int) < _; decide), _, rfl, _, _, rfl, rfl, .inl ⟨by decide, by decide⟩, .int (.int ⟨_, _, rfl, rfl, .inr ⟨by decide, by decide⟩, _, _, rfl, rfl, (by show (0 : Int) < _; decide), ?_⟩)⟩
            refine ⟨_, rfl, _, rfl, _, _, rfl, rfl, .inl (fst_small _), _, rfl, _, _, rfl, rfl, .inl ⟨by decide, by decide⟩, .int ⟨_, rfl, .int ⟨_, _, rfl, rfl, (by show (0 : Int) < _; decide), ?_⟩⟩⟩
            refine ⟨_, rfl, _, _, rfl, rfl, ⟨by decide, by decide⟩, _, rfl, _, _, rfl, rfl, hm, ?_⟩
            exact fin _ (Int.ediv_nonneg (Int.emod_nonneg _ (by decide)) (by decide))
        · refine ⟨_, rfl, _, _, rfl, rfl, (by show (0 : Int) < _; decide), _, rfl, _, _, rfl, rfl, .inl ⟨by decide, by decide⟩, .int (.int ⟨_, _, rfl, rfl, .inr ⟨by decide, by decide⟩, _, _, rfl, rfl, (by show (0 : Int) < _; decide), ?_⟩)⟩
          refine ⟨_, rfl, _, rfl, _, _, rfl, rfl, .inl (fst_small _), _, rfl, _, _, rfl, rfl, .inl ⟨by decide, by decide⟩, .int ⟨_, rfl, .int ⟨_, _, rfl, rfl, (by show (0 : Int) < _; decide), ?_⟩⟩⟩
          refine ⟨_, rfl, _, _, rfl, rfl, ⟨by decide, by decide⟩, _, rfl, _, _, rfl, rfl, hm, ?_⟩
          exact fin _ (Int.ediv_nonneg (Int.emod_nonneg _ (by decide)) (by decide))
end
end K47
namespace K47
open PySem L2
section
variable {P : Program} {w : World} {K : PySem.W.Frag} {mg : Str → Option Value} {base : Heap}
theorem scPlaces : FnScope ["things", "places", "place", "thing"] ["things"] (defScope sPlaces) := ⟨rfl, rfl, rfl, by decide +kernel, rfl, by decide +kernel, by decide +kernel⟩
theorem pair_get {H : Hp} {refs : List V} {ps : List (Str × Str)} (rp : RepAll H refs (ps.map pairD)) {j : Nat} {x : V} (hx : refs[j]? = some x) : ∃ e ta, ps[j]? = some e ∧ x = .ref ta ∧ H ta = some (.tup [.str e.1, .str e.2]) := by
  obtain ⟨d, hd, rd⟩ := rp.get hx
  rw [List.getElem?_map] at hd
  cases q : ps[j]? with
  | none => rw [q] at hd; cases hd
  | some e =>
    rw [q] at hd
    have hd : pairD e = d := Option.some.inj hd
    rw [← hd] at rd
    obtain ⟨ta, h1, h2⟩ := pair_at rd
    exact ⟨e, ta, rfl, h1, h2⟩
theorem str_get {ss : List Str} {i : Nat} {x : V} (h : (List.map V.str ss)[i]? = some x) : ∃ s, ss[i]? = some s ∧ V.str s = x := by
  rw [List.getElem?_map] at h
  cases q : ss[i]? with
  | none => rw [q] at h; cases h
  | some e => rw [q] at h; exact ⟨e, rfl, Option.some.inj h⟩
structure PlN (H H' : Hp) (d : Addr) (xs : List Str) (i : Nat) (kvs : List (Key × V)) : Prop where
  sm : Same H H'
  at_ : H' d = some (.dK kvs)
  len : kvs.length ≤ i
  inn : ∀ s, (valV kvs (.inr s)).isSome = true ↔ s ∈ xs.take i
  ix : ∀ s v, valV kvs (.inr s) = some v → ∃ j : Nat, v = .int j ∧ xs[j]? = some s
  nd : (kvs.map (·.1)).Nodup
  ks : ∀ k ∈ kvs.map (·.1), ∃ s ∈ xs, k = Sum.inr s
theorem map_putK {kvs : List (Key × V)} {k : Key} {v : V} (h : (valV kvs k).isSome = true) : (putK kvs k v).map (·.1) = kvs.map (·.1) := by
  unfold putK
  rw [if_pos (by rw [valV_any]; exact h), List.map_map]
  refine List.map_congr_left fun p _ => ?_
  show (if p.1 = k then (p.1, v) else p).1 = p.1
  split <;> rfl
theorem PlN.step {H H' : Hp} {d p : Addr} {xs : List Str} {i : Nat} {kvs : List (Key × V)} {t : Str} {o : HO} (h : PlN H H' d xs i kvs) (hd : H d = none) (hp : H' p = none) (ht : xs[i]? = some t) :
    PlN H (upd (upd H' p o) d (.dK (putK kvs (.inr t) (.int (i : Nat))))) d xs (i + 1) (putK kvs (.inr t) (.int (i : Nat))) := by
  refine ⟨?_, upd_same, ?_, ?_, ?_, ?_, ?_⟩
  · intro b o hb
    rw [upd_ne (ne_of_none hb hd)]
    exact Same.new hp _ _ (h.sm _ _ hb)
  · have := length_putK kvs (.inr t) (V.int (i : Nat))
    have := h.len
    omega
  · intro s
    rw [valV_put, List.take_add_one, ht, List.mem_append]
    by_cases q : s = t
    · subst q
      simp
    · rw [if_neg (fun z => q (Sum.inr.inj z)), h.inn s]
      simp [q]
  · intro s v e
    rw [valV_put] at e
    by_cases q : s = t
    · subst q
      rw [if_pos rfl] at e
      exact ⟨i, (Option.some.inj e).symm, ht⟩
    · rw [if_neg (fun z => q (Sum.inr.inj z))] at e
      exact h.ix s v e
  · cases q : valV kvs (.inr t) with
    | none => exact nd_putK _ h.nd q
    | some v => rw [map_putK (by rw [q]; rfl)]; exact h.nd
  · intro k hk
    cases q : valV kvs (.inr t) with
    | none =>
      rw [putK_new _ q, List.map_append] at hk
      rcases List.mem_append.mp hk with hk | hk
      · exact h.ks k hk
      · have : k = Sum.inr t := by simpa using hk
        exact ⟨t, List.mem_of_getElem? ht, this⟩
    | some v => rw [map_putK (by rw [q]; rfl)] at hk; exact h.ks k hk
theorem ok_placesX {f : Addr} {fd : FuncData} (F : Fun K "places_of" "places_of" sPlaces f fd) (B : Blt mg) : FnOk P w K mg base CX0 1 f fd ["things"] spPlacesX := by
  refine F.ok scPlaces (fun vs H Q E h => ?_) (fun cdv A outer s H vs Q E hr h => ?_)
  · obtain ⟨x, rfl, _⟩ := h
    rfl
  · obtain ⟨x, rfl, h⟩ := h
    have nd := scPlaces.nd
    cases h with
    | @nm a xs _ ha hl k =>
      refine ⟨_, (pss_cons (ps_set (i := 1) nd rfl (Or.inl rfl) pe_dnewK)
      (pss_cons (ps_for PassesOwn.never rfl (pi_enumX K rfl B.enumerate (pa_cons (pv 0) pa_nil)) (pg_tupK (n := 2) K rfl (pgs_cons (pg_name (i := 2) nd rfl (Or.inl rfl)) (pgs_cons (pg_name (i := 3) nd rfl (Or.inl rfl)) pgs_nil))) (pss_one (ps_asg (pv 2) (pg_sub (pv 1) (pv 3) (set_X hr.units)))))
      (pss_one (ps_ret (pv 1))))), ?_⟩
      intro d hd
      have s0 := Same.new (o := .dK []) hd
      have start : PlN H (upd H d (.dK [])) d xs 0 [] := ⟨s0, upd_same, Nat.le_refl _, (fun s => by simp [valV_nil]), (fun s v e => by cases e), List.nodup_nil, (fun k hk => by cases hk)⟩
      rcases ha with ha | ha
      · refine ⟨_, rfl, _, rfl, .lst (.of (s0 _ _ ha)) ?_⟩
        refine for_enum (xs := List.map V.str xs) (fun i σ H' => ∃ o1 o2 kvs, σ = [some (.ref a), some (.ref d), o1, o2] ∧ PlN H H' d xs i kvs) ?_ ?_ ?_ ?_
        · exact ⟨none, none, [], rfl, start⟩
        · rintro i σ H' hi ⟨o1, o2, kvs, rfl, pl⟩
          exact .of (pl.sm _ _ ha)
        · rintro i x σ H' p hx ⟨o1, o2, kvs, rfl, pl⟩ hp
          obtain ⟨t, ht, rfl⟩ := str_get hx
          have hil := (List.getElem?_eq_some_iff.mp ht).1
          have hdp : d ≠ p := ne_of_none pl.at_ hp
          have := pl.len
          refine ⟨p, _, rfl, .of upd_same, rfl, _, _, rfl, _, _, rfl, rfl, ?_⟩
          exact ⟨_, rfl, _, rfl, _, rfl, .dic (DPut.k (k := .inr t) (by rw [upd_ne hdp]; exact pl.at_) (small1000 (by omega))) ⟨_, _, _, rfl, pl.step hd hp ht⟩⟩
        · rintro σ H' ⟨o1, o2, kvs, rfl, pl⟩
          have hin := pl.inn
          rw [List.length_map, List.take_of_length_le (Nat.le_refl _)] at hin
          exact ⟨_, rfl, k d kvs H' pl.sm hd pl.at_ hin pl.ix pl.nd pl.ks⟩
      · refine ⟨_, rfl, _, rfl, .tup (.of (s0 _ _ ha)) ?_⟩
        refine for_enumT (xs := List.map V.str xs) (fun i σ H' => ∃ o1 o2 kvs, σ = [some (.ref a), some (.ref d), o1, o2] ∧ PlN H H' d xs i kvs) ?_ ?_ ?_ ?_
        · exact ⟨none, none, [], rfl, start⟩
        · rintro i σ H' hi ⟨o1, o2, kvs, rfl, pl⟩
          exact .of (pl.sm _ _ ha)
        · rintro i x σ H' p hx ⟨o1, o2, kvs, rfl, pl⟩ hp
          obtain ⟨t, ht, rfl⟩ := str_get hx
          have hil := (List.getElem?_eq_some_iff.mp ht).1
          have hdp : d ≠ p := ne_of_none pl.at_ hp
          have := pl.len
          refine ⟨p, _, rfl, .of upd_same, rfl, _, _, rfl, _, _, rfl, rfl, ?_⟩
          exact ⟨_, rfl, _, rfl, _, rfl, .dic (DPut.k (k := .inr t) (by rw [upd_ne hdp]; exact pl.at_) (small1000 (by omega))) ⟨_, _, _, rfl, pl.step hd hp ht⟩⟩
        · rintro σ H' ⟨o1, o2, kvs, rfl, pl⟩
          have hin := pl.inn
          rw [List.length_map, List.take_of_length_le (Nat.le_refl _)] at hin
          exact ⟨_, rfl, k d kvs H' pl.sm hd pl.at_ hin pl.ix pl.nd pl.ks⟩
    | @pr a refs ps _ ha rp hl k =>
      refine ⟨_, (pss_cons (ps_set (i := 1) nd rfl (Or.inl rfl) pe_dnewT)
      (pss_cons (ps_for PassesOwn.never rfl (pi_enumX K rfl B.enumerate (pa_cons (pv 0) pa_nil)) (pg_tupK (n := 2) K rfl (pgs_cons (pg_name (i := 2) nd rfl (Or.inl rfl)) (pgs_cons (pg_name (i := 3) nd rfl (Or.inl rfl)) pgs_nil))) (pss_one (ps_asg (pv 2) (pg_sub (pv 1) (pv 3) (set_X hr.units)))))
      (pss_one (ps_ret (pv 1))))), ?_⟩
      have rlen := rp.len
      rw [List.length_map] at rlen
      intro d hd
      have s0 := Same.new (o := .dT []) hd
      have turn : ∀ (i : Nat) (e : Str × Str) (ta p : Addr) (H' : Hp) (kvs : List (List Key × V)), Same H H' → H' d = some (.dT kvs) → kvs.length ≤ i → i < ps.length → (∀ f : Str × Str, (valV kvs (pK f)).isSome = true ↔ f ∈ ps.take i) → ps[i]? = some e → H' p = none →
          Same H (upd (upd H' p (.tup [.int (i : Nat), .ref ta])) d (.dT (putK kvs (pK e) (.int (i : Nat))))) ∧ (putK kvs (pK e) (V.int (i : Nat))).length ≤ i + 1 ∧ ∀ f : Str × Str, (valV (putK kvs (pK e) (V.int (i : Nat))) (pK f)).isSome = true ↔ f ∈ ps.take (i + 1) := by
        intro i e ta p H' kvs sm hk hkl hi hin he hp
        refine ⟨?_, ?_, fun f => ?_⟩
        · intro b o hb
          rw [upd_ne (ne_of_none hb hd)]
          exact Same.new hp _ _ (sm _ _ hb)
        · have := length_putK kvs (pK e) (V.int (i : Nat))
          omega
        · rw [valV_put, List.take_add_one, he, List.mem_append]
          by_cases q : f = e
          · subst q; simp
          · rw [if_neg (fun z => q (pK_inj z)), hin f]
            simp [q]
      rcases ha with ha | ha
      · refine ⟨_, rfl, _, rfl, .lst (.of (s0 _ _ ha)) ?_⟩
        refine for_enum (xs := refs) (fun i σ H' => ∃ o1 o2 kvs, σ = [some (.ref a), some (.ref d), o1, o2] ∧ Same H H' ∧ H' d = some (.dT kvs) ∧ kvs.length ≤ i ∧ ∀ f : Str × Str, (valV kvs (pK f)).isSome = true ↔ f ∈ ps.take i) ?_ ?_ ?_ ?_
        · exact ⟨none, none, [], rfl, s0, upd_same, Nat.le_refl _, fun s => by simp [valV_nil]⟩
        · rintro i σ H' hi ⟨o1, o2, kvs, rfl, sm, _⟩
          exact .of (sm _ _ ha)
        · rintro i x σ H' p hx ⟨o1, o2, kvs, rfl, sm, hk, hkl, hin⟩ hp
          obtain ⟨e, ta, he, rfl, hta⟩ := pair_get (rp.same sm) hx
          have hil := (List.getElem?_eq_some_iff.mp he).1
          have hdp : d ≠ p := ne_of_none hk hp
          obtain ⟨g1, g2, g3⟩ := turn i e ta p H' kvs sm hk hkl hil hin he hp
          refine ⟨p, _, rfl, .of upd_same, rfl, _, _, rfl, _, _, rfl, rfl, ?_⟩
          exact ⟨_, rfl, _, rfl, _, rfl, .dic (DPut.t (k := pK e) (by rw [upd_ne hdp]; exact hk) (Same.new hp _ _ hta) (small1000 (by omega))) ⟨_, _, _, rfl, g1, upd_same, g2, g3⟩⟩
        · rintro σ H' ⟨o1, o2, kvs, rfl, sm, hk, hkl, hin⟩
          rw [rlen, List.take_of_length_le (Nat.le_refl _)] at hin
          exact ⟨_, rfl, k d kvs H' sm hd hk hin⟩
      · refine ⟨_, rfl, _, rfl, .tup (.of (s0 _ _ ha)) ?_⟩
        refine for_enumT (xs := refs) (fun i σ H' => ∃ o1 o2 kvs, σ = [some (.ref a), some (.ref d), o1, o2] ∧ Same H H' ∧ H' d = some (.dT kvs) ∧ kvs.length ≤ i ∧ ∀ f : Str × Str, (valV kvs (pK f)).isSome = true ↔ f ∈ ps.take i) ?_ ?_ ?_ ?_
        · exact ⟨none, none, [], rfl, s0, upd_same, Nat.le_refl _, fun s => by simp [valV_nil]⟩
        · rintro i σ H' hi ⟨o1, o2, kvs, rfl, sm, _⟩
          exact .of (sm _ _ ha)
        · rintro i x σ H' p hx ⟨o1, o2, kvs, rfl, sm, hk, hkl, hin⟩ hp
          obtain ⟨e, ta, he, rfl, hta⟩ := pair_get (rp.same sm) hx
          have hil := (List.getElem?_eq_some_iff.mp he).1
          have hdp : d ≠ p := ne_of_none hk hp
          obtain ⟨g1, g2, g3⟩ := turn i e ta p H' kvs sm hk hkl hil hin he hp
          refine ⟨p, _, rfl, .of upd_same, rfl, _, _, rfl, _, _, rfl, rfl, ?_⟩
          exact ⟨_, rfl, _, rfl, _, rfl, .dic (DPut.t (k := pK e) (by rw [upd_ne hdp]; exact hk) (Same.new hp _ _ hta) (small1000 (by omega))) ⟨_, _, _, rfl, g1, upd_same, g2, g3⟩⟩
        · rintro σ H' ⟨o1, o2, kvs, rfl, sm, hk, hkl, hin⟩
          rw [rlen, List.take_of_length_le (Nat.le_refl _)] at hin
          exact ⟨_, rfl, k d kvs H' sm hd hk hin⟩
end
end K47
namespace K47
open PySem L2
section
variable {P : Program} {w : World} {K : PySem.W.Frag} {mg : Str → Option Value} {base : Heap}
theorem scIsName : FnScope ["thing"] ["thing"] (defScope sIsName) := ⟨rfl, rfl, rfl, by decide +kernel, rfl, by decide +kernel, by decide +kernel⟩
theorem ok_isname {f : Addr} {fd : FuncData} {tk : Tok} (F : Fun K "is_name" "is_name" sIsName f fd) (B : Blt mg) (T : mg "MOST_SIGNS" = some (.int 8 tk)) : FnOk P w K mg base CX0 1 f fd ["thing"] spIsName := by
  refine F.ok scIsName (fun vs H Q E h => ?_) (fun cdv A outer s H vs Q E hr h => ?_)
  · obtain ⟨x, rfl, _⟩ := h
    rfl
  · obtain ⟨x, rfl, hx, k⟩ := h
    have nd := scIsName.nd
    obtain ⟨t, ty, t1, _⟩ := ty_thg (K := K) hx
    refine ⟨_, (pss_cons (ps_if (pt_not (pt_val (b_isi K "str" B (pa_cons (pv 0) (pa_cons (g_str B) pa_nil))))) (pss_one (ps_ret pe_bl)) pss_nil)
      (pss_cons (ps_if (PW.pt (pw_or (pt_cmpR op_ltX (b_len K B (pa_cons (pv 0) pa_nil)) pe_int (nomark _)) (pw_or1 (pt_cmpR op_gt (b_len K B (pa_cons (pv 0) pa_nil)) (pe_glob (v := .int 8) rfl T ⟨_, rfl⟩) (nomark _))))) (pss_one (ps_ret pe_bl)) pss_nil)
      (pss_one (ps_ret (b_all rfl B (pa_cons (pe_comp (defScope sIsName) ["thing"] ["sign"] [] ["sign"] rfl (pi_str (pv 0)) (fun _ _ _ _ _ => (pg_name (i := 0) (show (["sign"] : List Str).Nodup by decide) rfl (Or.inl rfl))) (fun _ _ _ _ _ => pts_nil) (fun _ _ _ _ _ => (pe_chain op_leX op_leX pe_str (pv 0) pe_str))) pa_nil)))))), ?_⟩
    refine ⟨_, rfl, x, t, _, rfl, ty, t1, _, rfl, ?_⟩
    refine ite2 (fun hn => ?_) (fun hn => ?_)
    · have e : isNm x = false := by cases x <;> first | rfl | (simp [isS] at hn)
      have q := k H (Same.refl H)
      rw [e] at q
      exact q
    · obtain ⟨z, rfl⟩ : ∃ z, x = .str z := by cases x <;> first | exact ⟨_, rfl⟩ | (simp [isS] at hn)
      have hzz : z.length ≤ sizeLine := by
        cases hx with
        | str h => exact h
      refine ⟨_, rfl, _, _, rfl, ⟨hzz, rfl⟩, .int ⟨_, rfl, ?_⟩⟩
      refine ite2 (fun h1 => ?_) (fun h1 => ?_)
      · refine iteT ?_
        have q := k H (Same.refl H)
        have h1 : (z.length : Int) < 1 := of_decide_eq_true h1
        have e : isNm (.str z) = false := by
          show (decide (1 ≤ z.length) && _) = false
          rw [decide_eq_false (by omega)]; rfl
        rw [e] at q
        exact q
      · have h1 : ¬ (z.length : Int) < 1 := of_decide_eq_false (by simpa using h1)
        refine ⟨_, rfl, _, _, rfl, ⟨hzz, rfl⟩, _, _, rfl, rfl, _, rfl, ?_⟩
        refine ite2 (fun h2 => ?_) (fun h2 => ?_)
        · have q := k H (Same.refl H)
          have h2 : (8 : Int) < z.length := of_decide_eq_true h2
          have e : isNm (.str z) = false := by
            show (decide (1 ≤ z.length) && (decide (z.length ≤ 8) && _)) = false
            rw [decide_eq_false (show ¬ z.length ≤ 8 by omega), Bool.false_and, Bool.and_false]
          rw [e] at q
          exact q
        · have h2 : ¬ (8 : Int) < z.length := of_decide_eq_false (by simpa using h2)
          have e : isNm (.str z) = z.cps.toList.all isLow := by
            show (decide (1 ≤ z.length) && (decide (z.length ≤ 8) && _)) = _
            rw [decide_eq_true (show 1 ≤ z.length by omega), decide_eq_true (show z.length ≤ 8 by omega), Bool.true_and, Bool.true_and]
          refine ⟨_, rfl, z, rfl, ?_⟩
          refine comp_str (fun D i acc σ' H' => ∃ o, σ' = [o] ∧ acc = (z.cps.toList.take i).map (fun c => V.bl (isLow c)) ∧ Same H H' ∧ H D = none) fun D hD => ⟨⟨none, rfl, rfl, Same.new hD, hD⟩, ?_, ?_⟩
          · rintro i acc σ' H' c hc ⟨o, rfl, rfl, sm, hD0⟩ hacc
            refine gYes ?_
            have sg : ∀ b : Bool, b = isLow c → (H' D = some (.lst ((z.cps.toList.take i).map (fun c => V.bl (isLow c)))) ∧ ((z.cps.toList.take i).map (fun c => V.bl (isLow c))).length < sizeLine ∧
                (∃ o, [some (V.str ⟨#[c]⟩)] = [o] ∧ (z.cps.toList.take i).map (fun c => V.bl (isLow c)) ++ [V.bl b] = (z.cps.toList.take (i + 1)).map (fun c => V.bl (isLow c)) ∧ Same H (upd H' D (.lst ((z.cps.toList.take i).map (fun c => V.bl (isLow c)) ++ [V.bl b]))) ∧ H D = none)) := fun b hb => by
              refine ⟨hacc, ?_, _, rfl, ?_, ?_, hD0⟩
              · rw [List.length_map]
                refine small1000 ?_
                have := List.length_take_le' i z.cps.toList
                have h2' : z.length ≤ 8 := by omega
                have hl : z.cps.toList.length = z.length := by simp [Str.length]
                omega
              · rw [List.take_add_one, hc, List.map_append, hb]; rfl
              · intro b' o' e'
                rw [upd_ne (ne_of_none e' hD0)]
                exact sm b' o' e'
            refine ⟨_, rfl, .str ⟨_, rfl, ?_⟩⟩
            have e1 : (!decide ((⟨#[c]⟩ : Str).cps.toList < ("a" : Str).cps.toList)) = decide (97 ≤ c) := by
              show (!decide ([c] < [97])) = _
              rw [lt_one]
              by_cases hh : c < 97
              · rw [decide_eq_true hh, decide_eq_false (by omega)]; rfl
              · rw [decide_eq_false hh, decide_eq_true (by omega)]; rfl
            have e2 : (!decide (("z" : Str).cps.toList < (⟨#[c]⟩ : Str).cps.toList)) = decide (c ≤ 122) := by
              show (!decide ([122] < [c])) = _
              rw [lt_one]
              by_cases hh : 122 < c
              · rw [decide_eq_true hh, decide_eq_false (by omega)]; rfl
              · rw [decide_eq_false hh, decide_eq_true (by omega)]; rfl
            rw [e1]
            refine ite2 (fun h3 => ?_) (fun h3 => ?_)
            · refine .str (sg _ ?_)
              rw [e2]
              unfold isLow
              rw [h3, Bool.true_and]
            · refine sg false ?_
              unfold isLow
              have h3 : decide (97 ≤ c) = false := by simpa using h3
              rw [h3, Bool.false_and]
          · rintro acc σ' H' ⟨o, rfl, rfl, sm, hD0⟩ hacc
            rw [List.take_of_length_le (Nat.le_refl _)] at hacc
            refine ⟨D, z.cps.toList.map isLow, rfl, by rw [List.map_map]; exact hacc, ?_⟩
            have q := k H' sm
            rw [e] at q
            have e4 : (z.cps.toList.map isLow).all id = z.cps.toList.all isLow := by rw [List.all_map]; rfl
            rw [e4]
            exact q
end
end K47
namespace K47
open PySem L2
section
variable {P : Program} {w : World} {K : PySem.W.Frag} {mg : Str → Option Value} {base : Heap}
noncomputable def spUnlike : Sp := fun vs H Q _ => ∃ (a : Addr) (ss : List Str), vs = [.ref a] ∧ SqA H a (List.map V.str ss) ∧ ss.length ≤ 1000 ∧ ∀ H', Same H H' → Q (.bl (decide ss.Nodup)) H'
theorem scUnlike : FnScope ["things"] ["things"] (defScope sUnlike) := ⟨rfl, rfl, rfl, by decide +kernel, rfl, by decide +kernel, by decide +kernel⟩
theorem ok_unlike {f : Addr} {fd : FuncData} (F : Fun K "are_unlike" "are_unlike" sUnlike f fd) (B : Blt mg) (cplaces_of : Cal P w K mg base 1 "places_of" ["things"] spPlacesX) : FnOk P w K mg base CX0 2 f fd ["things"] spUnlike := by
  refine F.ok scUnlike (fun vs H Q E h => ?_) (fun cdv A outer s H vs Q E hr h => ?_)
  · obtain ⟨a, ss, rfl, _⟩ := h
    rfl
  · obtain ⟨a, ss, rfl, ha, hlen, k⟩ := h
    have nd := scUnlike.nd
    refine ⟨_, (pss_one (ps_ret (pe_cmpR (op_eqX hr.units) (b_lenD B (pa_cons (pe_cal cplaces_of (hr.mono (by decide)) rfl (pa_cons (pv 0) pa_nil)) pa_nil)) (b_len K B (pa_cons (pv 0) pa_nil)) (nomark _)))), ?_⟩
    refine ⟨_, rfl, _, rfl, ?_⟩
    refine .nm ha hlen fun d kvs H1 s1 hd0 hd hin hat knd ks => ⟨d, kvs, rfl, hd, _, rfl, _, ss.length, rfl, ?_, .sc rfl ?_⟩
    · have := (SqA.same ha s1).len (K := K)
      rw [List.length_map] at this
      exact this
    · have e := len_kvs knd ks hin
      have e2 : decide (V.int (kvs.length : Nat) = V.int (ss.length : Nat)) = decide ss.Nodup := by
        rw [Bool.eq_iff_iff, decide_eq_true_iff, decide_eq_true_iff, ← e]
        exact ⟨fun z => Int.ofNat.inj (V.int.inj z), fun z => by rw [z]⟩
      show Q (.bl (decide (V.int (kvs.length : Nat) = V.int (ss.length : Nat)))) H1
      rw [e2]
      exact k H1 s1
end
end K47
namespace K47
open PySem L2
section
variable {P : Program} {w : World} {K : PySem.W.Frag} {mg : Str → Option Value} {base : Heap}
open Classical in
noncomputable def dec (P : Prop) : Bool := decide P
open Classical in
theorem dec_t {P : Prop} (h : P) : dec P = true := by unfold dec; exact decide_eq_true h
open Classical in
theorem dec_f {P : Prop} (h : ¬ P) : dec P = false := by unfold dec; exact decide_eq_false h
open Classical in
theorem dec_iff {P : Prop} : dec P = true ↔ P := by unfold dec; exact decide_eq_true_iff
theorem isL_get {H : Hp} {x : V} (h : isL H x = true) : ∃ a us, x = .ref a ∧ H a = some (.lst us) := by
  cases x with
  | ref a =>
    have h : (match H a with | some (.lst _) => true | _ => false) = true := h
    split at h
    · rename_i xs e; exact ⟨a, xs, rfl, e⟩
    · cases h
  | _ => cases h
theorem isT_get {H : Hp} {x : V} (h : isT H x = true) : ∃ a us, x = .ref a ∧ H a = some (.tup us) := by
  cases x with
  | ref a =>
    have h : (match H a with | some (.tup _) => true | _ => false) = true := h
    split at h
    · rename_i xs e; exact ⟨a, xs, rfl, e⟩
    · cases h
  | _ => cases h
theorem isL_keep {H H' : Hp} {x : V} (h : Thg H x) (s : Same H H') : isL H' x = isL H x ∧ isT H' x = isT H x := by
  cases h with
  | non => exact ⟨rfl, rfl⟩
  | bl b => exact ⟨rfl, rfl⟩
  | int i => exact ⟨rfl, rfl⟩
  | str z => exact ⟨rfl, rfl⟩
  | lst e => exact ⟨by rw [isL_of e, isL_of (s _ _ e)], by rw [isT_not e (fun _ z => by cases z), isT_not (s _ _ e) (fun _ z => by cases z)]⟩
  | tup e => exact ⟨by rw [isL_not e (fun _ z => by cases z), isL_not (s _ _ e) (fun _ z => by cases z)], by rw [isT_of e, isT_of (s _ _ e)]⟩
  | dK e => exact ⟨by rw [isL_not e (fun _ z => by cases z), isL_not (s _ _ e) (fun _ z => by cases z)], by rw [isT_not e (fun _ z => by cases z), isT_not (s _ _ e) (fun _ z => by cases z)]⟩
  | dT e => exact ⟨by rw [isL_not e (fun _ z => by cases z), isL_not (s _ _ e) (fun _ z => by cases z)], by rw [isT_not e (fun _ z => by cases z), isT_not (s _ _ e) (fun _ z => by cases z)]⟩
theorem thg_obj {H H' : Hp} {a : Addr} (h : Thg H (.ref a)) (s : Same H H') : H' a = H a := by
  cases h with
  | lst e => rw [e, s _ _ e]
  | tup e => rw [e, s _ _ e]
  | dK e => rw [e, s _ _ e]
  | dT e => rw [e, s _ _ e]
noncomputable def Rw (G : Hp → V → Prop) (H : Hp) (x : V) : Prop := Thg H x ∧ ∀ a ys, x = .ref a → SqA H a ys → ys.length ≤ 1000 ∧ ∀ y ∈ ys, G H y
theorem mono_thg : Mono Thg := fun _ _ _ s h => h.same s
theorem Rw.same {G : Hp → V → Prop} {H H' : Hp} {x : V} (mo : Mono G) (h : Rw G H x) (s : Same H H') : Rw G H' x := ⟨h.1.same s, fun a ys e q => by
  subst e
  unfold SqA at q
  rw [thg_obj h.1 s] at q
  obtain ⟨l, k⟩ := h.2 a ys rfl q
  exact ⟨l, fun y hy => mo _ _ _ s (k y hy)⟩⟩
theorem mono_rw {G : Hp → V → Prop} (mo : Mono G) : Mono (Rw G) := fun _ _ _ s h => h.same mo s
theorem Rw.imp {G G' : Hp → V → Prop} {H : Hp} {x : V} (h : Rw G H x) (i : ∀ y, G H y → G' H y) : Rw G' H x := ⟨h.1, fun a ys e q => ⟨(h.2 a ys e q).1, fun y hy => i y ((h.2 a ys e q).2 y hy)⟩⟩
theorem nms_of : ∀ {ys : List V}, ys.all isNm = true → ∃ ss : List Str, ys = List.map V.str ss ∧ ∀ s ∈ ss, Nm s
  | [], _ => ⟨[], rfl, fun _ h => by cases h⟩
  | y :: ys, h => by
    rw [List.all_cons, Bool.and_eq_true] at h
    obtain ⟨ss, rfl, k⟩ := nms_of h.2
    cases y with
    | str z => exact ⟨z :: ss, rfl, fun s hs => (List.mem_cons.mp hs).elim (fun e => by rw [e]; exact isNm_iff.mp h.1) (k s)⟩
    | _ => cases h.1
theorem strs_inj {xs ys : List Str} (h : List.map V.str xs = List.map V.str ys) : xs = ys := by
  induction xs generalizing ys with
  | nil => cases ys with
    | nil => rfl
    | cons y r => cases h
  | cons x r ih => cases ys with
    | nil => cases h
    | cons y q =>
      obtain ⟨a, b⟩ := List.cons.inj h
      rw [V.str.inj a, ih b]
theorem sq_uniq {H : Hp} {a : Addr} {xs ys : List V} (h : SqA H a xs) (k : SqA H a ys) : xs = ys := by
  rcases h with h | h <;> rcases k with k | k <;> rw [h] at k <;> cases k <;> rfl
noncomputable def Unm (H : Hp) (x : V) (ss : List Str) : Prop := ∃ a, x = .ref a ∧ SqA H a (List.map V.str ss) ∧ ss.Nodup ∧ ∀ s ∈ ss, Nm s
theorem Unm.same {H H' : Hp} {x : V} {ss : List Str} (h : Thg H x) (s : Same H H') : Unm H' x ss ↔ Unm H x ss := by
  constructor
  · rintro ⟨a, rfl, q, r⟩
    unfold SqA at q
    rw [thg_obj h s] at q
    exact ⟨a, rfl, q, r⟩
  · rintro ⟨a, rfl, q, r⟩
    exact ⟨a, rfl, q.same s, r⟩
noncomputable def spUNmG : Sp := fun vs H Q _ => ∃ x, vs = [x] ∧ Rw Thg H x ∧ ∀ H', Same H H' → Q (.bl (dec (∃ ss, Unm H x ss))) H'
theorem sq_at {H H' : Hp} {a : Addr} {xs : List V} (h : SqA H a xs) (s : Same H H') : H' a = H a := by
  rcases h with h | h <;> rw [h, s _ _ h]
theorem scUNm : FnScope ["things"] ["things"] (defScope sUNm) := ⟨rfl, rfl, rfl, by decide +kernel, rfl, by decide +kernel, by decide +kernel⟩
theorem ok_unmG {f : Addr} {fd : FuncData} (F : Fun K "are_unlike_names" "are_unlike_names" sUNm f fd) (B : Blt mg) (cis_name : Cal P w K mg base 1 "is_name" ["thing"] spIsName) (care_unlike : Cal P w K mg base 2 "are_unlike" ["things"] spUnlike) : FnOk P w K mg base CX0 3 f fd ["things"] spUNmG := by
  refine F.ok scUNm (fun vs H Q E h => ?_) (fun cdv A outer s H vs Q E hr h => ?_)
  · obtain ⟨x, rfl, _⟩ := h
    rfl
  · obtain ⟨x, rfl, tx, k⟩ := h
    have nd := scUNm.nd
    by_cases hl : isL H x = true ∨ isT H x = true
    · obtain ⟨a, ys, rfl, ha⟩ : ∃ a ys, x = .ref a ∧ SqA H a ys := hl.elim (fun h => let ⟨a, ys, e, q⟩ := isL_get h; ⟨a, ys, e, .inl q⟩) (fun h => let ⟨a, ys, e, q⟩ := isT_get h; ⟨a, ys, e, .inr q⟩)
      obtain ⟨yl, yth⟩ := tx.2 a ys rfl ha
      have no : ys.all isNm = false → dec (∃ ss, Unm H (.ref a) ss) = false := fun h => dec_f fun ⟨ss, b, e, q, _, nm⟩ => by
        cases e
        rw [sq_uniq ha q, List.all_eq_true.mpr fun v hv => by
          obtain ⟨z, hz, rfl⟩ := List.mem_map.mp hv
          exact isNm_iff.mpr (nm z hz)] at h
        cases h
      have yes : ∀ ss, ys = List.map V.str ss → (∀ s ∈ ss, Nm s) → dec (∃ ss, Unm H (.ref a) ss) = decide ss.Nodup := fun ss e nm => by
        subst e
        rw [Bool.eq_iff_iff, dec_iff, decide_eq_true_iff]
        constructor
        · rintro ⟨ss', b, e, q, h, _⟩
          cases e
          rw [strs_inj (sq_uniq ha q)]; exact h
        · intro h
          exact ⟨ss, a, rfl, ha, h, nm⟩
      refine ⟨_, (pss_cons (ps_if (pt_not (pt_val (b_isi2 K "list" "tuple" B (pa_cons (pv 0) (pa_cons (pe_tup (pa_cons (g_list B) (pa_cons (g_tuple B) pa_nil))) pa_nil))))) (pss_one (ps_ret pe_bl)) pss_nil)
      (pss_one (ps_ret (pe_and (b_all rfl B (pa_cons (pe_comp (defScope sUNm) ["things"] ["thing"] [] ["thing"] rfl (pi_seqK K (pv 0)) (fun _ _ _ _ _ => (pg_name (i := 0) (show (["thing"] : List Str).Nodup by decide) rfl (Or.inl rfl))) (fun _ _ _ _ _ => pts_nil) (fun _ _ _ _ _ => (pe_cal cis_name (hr.mono (by decide)) rfl (pa_cons (pv 0) pa_nil)))) pa_nil)) (pe_one (pe_cal care_unlike (hr.mono (by decide)) rfl (pa_cons (pv 0) pa_nil))))))), ?_⟩
      refine ⟨_, rfl, (by show 2 ≤ sizeLine; decide), fun tp htp => ?_⟩
      have s0 := Same.new (o := .tup [V.ty "list", V.ty "tuple"]) htp
      have A0 : SqA (upd H tp (.tup [V.ty "list", V.ty "tuple"])) a ys := SqA.same ha s0
      obtain ⟨t, ty, _, _, _, t4, t5⟩ := ty_thg (K := K) A0.thg
      have kl := kit_lt t4 t5
      rw [A0.lt] at kl
      refine ⟨_, tp, t, _, rfl, upd_same, ty, kl, _, rfl, ?_⟩
      refine ite2 (fun h => absurd h (by decide)) (fun _ => ?_)
      generalize upd H tp (.tup [V.ty "list", V.ty "tuple"]) = H0 at s0 A0 ⊢
      refine ⟨_, rfl, a, rfl, ?_⟩
      refine comp_seq ys (fun D i acc σ' H' => ∃ o, σ' = [o] ∧ acc = List.map V.bl ((ys.take i).map isNm) ∧ Same H0 H' ∧ H0 D = none) A0 fun D hD => ⟨?_, ?_, ?_, ?_⟩
      · exact ⟨none, rfl, rfl, Same.new hD, hD⟩
      · rintro i acc σ' H' _ ⟨o, rfl, _, sm, _⟩ _
        exact sq_at A0 sm
      · rintro i acc σ' H' x hx ⟨o, rfl, rfl, sm, hD0⟩ hacc
        have hil := (List.getElem?_eq_some_iff.mp hx).1
        refine gYes ?_
        refine ⟨_, rfl, _, rfl, ((yth x (List.mem_of_getElem? hx)).same s0).same sm, fun H2 s2 => ?_⟩
        exact ⟨s2 _ _ hacc, by rw [List.length_map, List.length_map, List.length_take]; exact small1000 (by omega), _, rfl, by rw [List.take_add_one, hx, List.map_append, List.map_append]; rfl, same_at (sm.trans s2) hD0, hD0⟩
      · rintro acc σ' H2 ⟨o, rfl, rfl, s2, hD0⟩ hacc
        rw [List.take_of_length_le (Nat.le_refl _)] at hacc
        refine ⟨D, ys.map isNm, rfl, hacc, _, rfl, ?_⟩
        have e : (ys.map isNm).all id = ys.all isNm := by rw [List.all_map]; rfl
        rw [e]
        refine ite2 (fun h => ?_) (fun h => ?_)
        · obtain ⟨ss, es, nm⟩ := nms_of h
          rw [yes ss es nm] at k
          subst es
          rw [List.length_map] at yl
          exact ⟨_, rfl, a, ss, rfl, A0.same s2, yl, fun H3 s3 => k H3 ((s0.trans s2).trans s3)⟩
        · have h : ys.all isNm = false := by simpa using h
          rw [no h] at k
          exact k _ (s0.trans s2)
    · refine ⟨_, (pss_cons (ps_if (pt_not (pt_val (b_isi2 K "list" "tuple" B (pa_cons (pv 0) (pa_cons (pe_tup (pa_cons (g_list B) (pa_cons (g_tuple B) pa_nil))) pa_nil))))) (pss_one (ps_ret pe_bl)) pss_nil)
      (pss_one (ps_ret (pe_and (b_all rfl B (pa_cons (pe_comp (defScope sUNm) ["things"] ["thing"] [] ["thing"] rfl (pi_seqK K (pv 0)) (fun _ _ _ _ _ => (pg_name (i := 0) (show (["thing"] : List Str).Nodup by decide) rfl (Or.inl rfl))) (fun _ _ _ _ _ => pts_nil) (fun _ _ _ _ _ => (pe_cal cis_name (hr.mono (by decide)) rfl (pa_cons (pv 0) pa_nil)))) pa_nil)) (pe_one (pe_cal care_unlike (hr.mono (by decide)) rfl (pa_cons (pv 0) pa_nil))))))), ?_⟩
      have h1 : isL H x = false := by cases c : isL H x with | true => exact absurd (.inl c) hl | false => rfl
      have h2 : isT H x = false := by cases c : isT H x with | true => exact absurd (.inr c) hl | false => rfl
      refine ⟨_, rfl, (by show 2 ≤ sizeLine; decide), fun tp htp => ?_⟩
      have s0 := Same.new (o := .tup [V.ty "list", V.ty "tuple"]) htp
      obtain ⟨t, ty, _, _, _, t4, t5⟩ := ty_thg (K := K) (tx.1.same s0)
      have kl := kit_lt t4 t5
      rw [(isL_keep tx.1 s0).1, (isL_keep tx.1 s0).2, h1, h2] at kl
      refine ⟨_, tp, t, _, rfl, upd_same, ty, kl, _, rfl, iteT ?_⟩
      have e : dec (∃ ss, Unm H x ss) = false := dec_f fun ⟨ss, a, e, q, _⟩ => by
        subst e
        rcases q with q | q
        · rw [isL_of q] at h1; cases h1
        · rw [isT_of q] at h2; cases h2
      rw [e] at k
      exact k _ s0
end
end K47
namespace K47
open PySem L2
section
variable {P : Program} {w : World} {K : PySem.W.Frag} {mg : Str → Option Value} {base : Heap}
theorem at0 {α : Type} {y : α} {r : List α} : atI (y :: r) 0 = some y := atI_nat (j := 0) rfl
theorem at1 {α : Type} {x y : α} {r : List α} : atI (x :: y :: r) 1 = some y := atI_nat (j := 1) rfl
noncomputable def Hd : Nat → Hp → V → Prop
  | 0, H, x => Thg H x
  | n + 1, H, x => Rw (Hd n) H x
theorem Hd.mono : ∀ n, Mono (Hd n)
  | 0 => mono_thg
  | n + 1 => mono_rw (Hd.mono n)
theorem Hd.thg : ∀ {n : Nat} {H : Hp} {x : V}, Hd n H x → Thg H x
  | 0, _, _, h => h
  | _ + 1, _, _, h => h.1
theorem Hd.less : ∀ {n : Nat} {H : Hp} {x : V}, Hd (n + 1) H x → Hd n H x
  | 0, _, _, h => h.1
  | _ + 1, _, _, h => Rw.imp h fun _ => Hd.less
noncomputable def tupO (H : Hp) : V → Option (List V)
  | .ref a => match H a with | some (.tup xs) => some xs | _ => none
  | _ => none
noncomputable def seqO (H : Hp) : V → Option (List V)
  | .ref a => match H a with | some (.tup xs) => some xs | some (.lst xs) => some xs | _ => none
  | _ => none
noncomputable def hwB (H : Hp) (x : V) : Bool := match tupO H x with | some (.str _ :: _) => true | _ => false
noncomputable def membB (H : Hp) (x : V) : Bool := dec (∃ ss, Unm H x ss ∧ ss ≠ [])
noncomputable def partB (H : Hp) (s : Str) (x : V) : Bool :=
  if s = "members" then membB H x else if s = "word" then decide (x = .str "first") || decide (x = .str "last") else if s = "knot" ∧ x = .str "" then true else isNm x
noncomputable def partsA : List (Str × List Str) := [("thing", ["name", "knot"]), ("tie", ["name", "name"]), ("wait", ["name", "name"]), ("untie", ["name", "name"]), ("drop", ["name"]), ("group", ["name", "members"]), ("open", ["name"]), ("want", ["word", "name"]), ("unwant", ["word", "name"])]
noncomputable def sortsOf (w : Str) : Option (List Str) := partsA.lookup w
noncomputable def sgB (H : Hp) (w : Str) (ps : List V) : Bool := match sortsOf w with
  | some ss => decide (ps.length = ss.length) && (ss.zip ps).all fun e => partB H e.1 e.2
  | none => false
noncomputable def singleB (H : Hp) (x : V) : Bool := match tupO H x with | some (.str w :: ps) => sgB H w ps | _ => false
noncomputable def manyL (H : Hp) (w : Str) : List V → Option (List V)
  | [y] => if w = "many" then seqO H y else none
  | _ => none
noncomputable def manyO (H : Hp) (x : V) : Option (List V) := match tupO H x with | some (.str w :: ps) => manyL H w ps | _ => none
noncomputable def deedB : Nat → Hp → V → Bool
  | 0, H, x => match manyO H x with | some _ => false | none => singleB H x
  | n + 1, H, x => match manyO H x with | some ys => ys.all (deedB n H) | none => singleB H x
theorem tupO_of {H : Hp} {a : Addr} {xs : List V} (h : H a = some (.tup xs)) : tupO H (.ref a) = some xs := by show (match H a with | some (.tup xs) => some xs | _ => none) = some xs; rw [h]
theorem tupO_get {H : Hp} {x : V} {xs : List V} (h : tupO H x = some xs) : ∃ a, x = .ref a ∧ H a = some (.tup xs) := by
  cases x with
  | ref a =>
    have h : (match H a with | some (.tup xs) => some xs | _ => none) = some xs := h
    split at h
    · rename_i ys e; cases h; exact ⟨a, rfl, e⟩
    · cases h
  | _ => cases h
theorem tupO_T {H : Hp} {x : V} : tupO H x = none ↔ isT H x = false := by
  cases x with
  | ref a =>
    show (match H a with | some (.tup xs) => some xs | _ => none) = none ↔ (match H a with | some (.tup _) => true | _ => false) = false
    split <;> simp
  | _ => exact ⟨fun _ => rfl, fun _ => rfl⟩
theorem seqO_get {H : Hp} {x : V} {xs : List V} (h : seqO H x = some xs) : ∃ a, x = .ref a ∧ SqA H a xs := by
  cases x with
  | ref a =>
    have h : (match H a with | some (.tup xs) => some xs | some (.lst xs) => some xs | _ => none) = some xs := h
    split at h
    · rename_i ys e; cases h; exact ⟨a, rfl, .inr e⟩
    · rename_i ys e; cases h; exact ⟨a, rfl, .inl e⟩
    · cases h
  | _ => cases h
theorem seqO_LT {H : Hp} {x : V} : (seqO H x).isSome = (isL H x || isT H x) := by
  cases x with
  | ref a =>
    show ((match H a with | some (.tup xs) => some xs | some (.lst xs) => some xs | _ => none) : Option (List V)).isSome = ((match H a with | some (.lst _) => true | _ => false) || (match H a with | some (.tup _) => true | _ => false))
    cases e : H a with
    | none => rfl
    | some o => cases o <;> rfl
  | _ => rfl
theorem tupO_same {H H' : Hp} {x : V} (h : Thg H x) (s : Same H H') : tupO H' x = tupO H x := by
  cases x with
  | ref a => show (match H' a with | some (.tup xs) => some xs | _ => none) = (match H a with | some (.tup xs) => some xs | _ => none); rw [thg_obj h s]
  | _ => rfl
theorem seqO_same {H H' : Hp} {x : V} (h : Thg H x) (s : Same H H') : seqO H' x = seqO H x := by
  cases x with
  | ref a => show (match H' a with | some (.tup xs) => some xs | some (.lst xs) => some xs | _ => none) = (match H a with | some (.tup xs) => some xs | some (.lst xs) => some xs | _ => none); rw [thg_obj h s]
  | _ => rfl
theorem Hd.tup {n : Nat} {H : Hp} {x : V} {xs : List V} (h : Hd (n + 1) H x) (e : tupO H x = some xs) : xs.length ≤ 1000 ∧ ∀ y ∈ xs, Hd n H y := by
  obtain ⟨a, rfl, q⟩ := tupO_get e
  exact h.2 a xs rfl (.inr q)
theorem Hd.seq {n : Nat} {H : Hp} {x : V} {xs : List V} (h : Hd (n + 1) H x) (e : seqO H x = some xs) : xs.length ≤ 1000 ∧ ∀ y ∈ xs, Hd n H y := by
  obtain ⟨a, rfl, q⟩ := seqO_get e
  exact h.2 a xs rfl q
theorem membB_same {H H' : Hp} {x : V} (h : Thg H x) (s : Same H H') : membB H' x = membB H x := by
  unfold membB
  rw [Bool.eq_iff_iff, dec_iff, dec_iff]
  exact ⟨fun ⟨ss, a, b⟩ => ⟨ss, (Unm.same h s).mp a, b⟩, fun ⟨ss, a, b⟩ => ⟨ss, (Unm.same h s).mpr a, b⟩⟩
theorem partB_same {H H' : Hp} {x : V} (h : Thg H x) (s : Same H H') (w : Str) : partB H' w x = partB H w x := by
  unfold partB
  rw [membB_same h s]
theorem all_same {α : Type} {xs : List α} {f g : α → Bool} (h : ∀ x ∈ xs, f x = g x) : xs.all f = xs.all g := by
  rw [Bool.eq_iff_iff, List.all_eq_true, List.all_eq_true]
  exact ⟨fun k x hx => by rw [← h x hx]; exact k x hx, fun k x hx => by rw [h x hx]; exact k x hx⟩
theorem singleB_same {H H' : Hp} {x : V} (h : Hd 1 H x) (s : Same H H') : singleB H' x = singleB H x := by
  unfold singleB
  rw [tupO_same h.thg s]
  split
  · rename_i w ps e
    unfold sgB
    split
    · congr 1
      refine all_same fun e' he' => ?_
      exact partB_same ((h.tup e).2 _ (List.mem_cons_of_mem _ (List.of_mem_zip he').2)).thg s _
    · rfl
  · rfl
theorem manyL_same {H H' : Hp} {w : Str} {ps : List V} (h : ∀ y ∈ ps, Thg H y) (s : Same H H') : manyL H' w ps = manyL H w ps := by
  unfold manyL
  split
  · rename_i y
    rw [seqO_same (h y (by simp)) s]
  · rfl
theorem manyO_same {H H' : Hp} {x : V} (h : Hd 1 H x) (s : Same H H') : manyO H' x = manyO H x := by
  unfold manyO
  rw [tupO_same h.thg s]
  split
  · rename_i w ps e
    exact manyL_same (fun y hy => ((h.tup e).2 y (List.mem_cons_of_mem _ hy)).thg) s
  · rfl
theorem Hd.many {n : Nat} {H : Hp} {x : V} {ys : List V} (h : Hd (n + 2) H x) (e : manyO H x = some ys) : ys.length ≤ 1000 ∧ ∀ y ∈ ys, Hd n H y := by
  unfold manyO at e
  split at e
  · rename_i w ps e2
    unfold manyL at e
    split at e
    · rename_i y
      split at e
      · exact ((h.tup e2).2 y (by simp)).seq e
      · cases e
    · cases e
  · cases e
theorem Hd.one : ∀ {n : Nat} {H : Hp} {x : V}, Hd (n + 1) H x → Hd 1 H x
  | 0, _, _, h => h
  | _ + 1, _, _, h => Hd.one h.less
theorem Hd.two : ∀ {n : Nat} {H : Hp} {x : V}, Hd (n + 2) H x → Hd 2 H x
  | 0, _, _, h => h
  | _ + 1, _, _, h => Hd.two h.less
theorem deedB_same : ∀ {n : Nat} {H H' : Hp} {x : V}, Hd (2 * n + 2) H x → Same H H' → deedB n H' x = deedB n H x
  | 0, H, H', x, h, s => by unfold deedB; rw [manyO_same h.one s, singleB_same h.one s]
  | n + 1, H, H', x, h, s => by
    unfold deedB
    rw [manyO_same h.one s, singleB_same h.one s]
    split
    · rename_i ys e
      exact all_same fun y hy => deedB_same ((Hd.many (n := 2 * n + 2) h e).2 y hy) s
    · rfl
theorem gYes2 {x : V} {q : Addr} {u v : V} {σ : St} {H : Hp} {A B : St → Hp → Prop} (hx : x = .ref q) (hq : SqT K H q [u, v]) (h : A ((σ.set 0 (some u)).set 1 (some v)) H) :
    gTup K 2 (gCons (gName 0) (gCons (gName 1) gNil)) x σ H fun σ2 H3 => tYes σ2 H3 fun b H4 => if b = true then A σ2 H4 else B σ2 H4 := by
  subst hx
  refine ⟨q, _, rfl, hq, rfl, _, _, rfl, _, _, rfl, rfl, ?_⟩
  show (if true = true then A ((σ.set 0 (some u)).set 1 (some v)) H else B ((σ.set 0 (some u)).set 1 (some v)) H)
  rw [if_pos rfl]
  exact h
end
end K47
namespace K47
open PySem L2
section
variable {P : Program} {w : World} {K : PySem.W.Frag} {mg : Str → Option Value} {base : Heap}
noncomputable def spHW : Sp := fun vs H Q _ => ∃ x, vs = [x] ∧ Hd 1 H x ∧ Q (.bl (hwB H x)) H
theorem scHW : FnScope ["thing"] ["thing"] (defScope sHasWord) := ⟨rfl, rfl, rfl, by decide +kernel, rfl, by decide +kernel, by decide +kernel⟩
theorem ok_hw {f : Addr} {fd : FuncData} (F : Fun K "has_word" "has_word" sHasWord f fd) (B : Blt mg) : FnOk P w K mg base CX0 1 f fd ["thing"] spHW := by
  refine F.ok scHW (fun vs H Q E h => ?_) (fun cdv A outer s H vs Q E hr h => ?_)
  · obtain ⟨x, rfl, _⟩ := h
    rfl
  · obtain ⟨x, rfl, hx, k⟩ := h
    have nd := scHW.nd
    obtain ⟨t, ty, _, _, _, _, t5⟩ := ty_thg (K := K) hx.thg
    refine ⟨_, (pss_one (ps_ret (pe_and (b_isi K "tuple" B (pa_cons (pv 0) (pa_cons (g_tuple B) pa_nil))) (pe_and (pe_cmpR op_gt (b_len K B (pa_cons (pv 0) pa_nil)) pe_int (nomark _)) (pe_one (b_isi K "str" B (pa_cons (pe_ix (ix_X K hr.units) (pv 0) pe_int (fun _ _ => rfl)) (pa_cons (g_str B) pa_nil)))))))), ?_⟩
    refine ⟨_, rfl, _, t, _, rfl, ty, t5, _, rfl, ?_⟩
    unfold hwB at k
    refine ite2 (fun h => ?_) (fun h => ?_)
    · obtain ⟨a, xs, rfl, e⟩ := isT_inv h
      rw [tupO_of e] at k
      refine ⟨_, rfl, _, _, rfl, Or.inr ⟨_, .of e, rfl⟩, _, _, rfl, rfl, _, rfl, ?_⟩
      cases xs with
      | nil => exact ite2 (fun h => absurd h (by decide)) fun _ => k
      | cons y r =>
        refine ite2 (fun _ => ?_) (fun h => absurd (by show decide ((0 : Int) < ((r.length + 1 : Nat) : Int)) = true; rw [decide_eq_true_iff]; omega) h)
        have ty2 := ((hx.tup (tupO_of e)).2 y (by simp)).thg
        obtain ⟨t', ty', t1, _⟩ := ty_thg (K := K) ty2
        refine ⟨_, rfl, .tup (.of e) at0 ⟨_, t', _, rfl, ty', t1, ?_⟩⟩
        cases y with
        | str z => exact k
        | _ => exact k
    · rw [tupO_T.mpr (by simpa using h)] at k
      exact k
noncomputable def spIM : Sp := fun vs H Q _ => ∃ x, vs = [x] ∧ Hd 2 H x ∧ ∀ H', Same H H' → Q (.bl (manyO H x).isSome) H'
theorem scIM : FnScope ["thing"] ["thing"] (defScope sIsMany) := ⟨rfl, rfl, rfl, by decide +kernel, rfl, by decide +kernel, by decide +kernel⟩
theorem hw_get {H : Hp} {x : V} (h : hwB H x = true) : ∃ a w ps, x = .ref a ∧ H a = some (.tup (.str w :: ps)) := by
  unfold hwB at h
  split at h
  · rename_i w ps e
    obtain ⟨a, rfl, q⟩ := tupO_get e
    exact ⟨a, w, ps, rfl, q⟩
  · cases h
theorem hw_no {H : Hp} {x : V} (h : hwB H x = false) : manyO H x = none ∧ singleB H x = false := by
  unfold hwB at h
  unfold manyO singleB
  split at h
  · cases h
  · rename_i n
    exact ⟨rfl, rfl⟩
theorem ok_im {f : Addr} {fd : FuncData} (F : Fun K "is_many" "is_many" sIsMany f fd) (B : Blt mg) (chas_word : Cal P w K mg base 1 "has_word" ["thing"] spHW) : FnOk P w K mg base CX0 2 f fd ["thing"] spIM := by
  refine F.ok scIM (fun vs H Q E h => ?_) (fun cdv A outer s H vs Q E hr h => ?_)
  · obtain ⟨x, rfl, _⟩ := h
    rfl
  · obtain ⟨x, rfl, hx, k⟩ := h
    have nd := scIM.nd
    refine ⟨_, (pss_cons (ps_if (PW.pt (pw_or (pt_not (pt_val (pe_cal chas_word (hr.mono (by decide)) rfl (pa_cons (pv 0) pa_nil)))) (pw_or (pt_cmpR (op_neX hr.units) (pe_ix (ix_X K hr.units) (pv 0) pe_int (fun _ _ => rfl)) pe_str (nomark _)) (pw_or1 (pt_cmpR (op_neX hr.units) (b_len K B (pa_cons (pv 0) pa_nil)) pe_int (nomark _)))))) (pss_one (ps_ret pe_bl)) pss_nil)
      (pss_one (ps_ret (b_isi2 K "list" "tuple" B (pa_cons (pe_ix (ix_X K hr.units) (pv 0) pe_int (fun _ _ => rfl)) (pa_cons (pe_tup (pa_cons (g_list B) (pa_cons (g_tuple B) pa_nil))) pa_nil)))))), ?_⟩
    refine ⟨_, rfl, x, rfl, hx.less, _, rfl, ?_⟩
    cases hw : hwB H x with
    | false =>
      rw [(hw_no hw).1] at k
      exact iteT (iteT (k H (Same.refl H)))
    | true =>
      obtain ⟨a, w, ps, rfl, e⟩ := hw_get hw
      refine iteF ?_
      have em : manyO H (.ref a) = manyL H w ps := by unfold manyO; rw [tupO_of e]
      have hp := (hx.tup (tupO_of e))
      rw [em] at k
      refine ⟨_, rfl, .tup (.of e) at0 (.sc rfl ⟨_, rfl, ?_⟩)⟩
      refine ite2 (fun h => ?_) (fun h => ?_)
      · have : manyL H w ps = none := by
          unfold manyL
          split
          · rw [if_neg fun z => ?_]
            rw [z] at h
            exact absurd h (by decide)
          · rfl
        rw [this] at k
        exact iteT (k H (Same.refl H))
      · have hw2 : w = "many" := by
          have h : ¬ (!decide (V.str w = V.str "many")) = true := h
          simp at h
          exact h
        subst hw2
        refine ⟨_, rfl, _, _, rfl, Or.inr ⟨_, .of e, rfl⟩, .sc rfl ⟨_, rfl, ?_⟩⟩
        refine ite2 (fun h => ?_) (fun h => ?_)
        · have h : (!decide (V.int (((V.str "many" :: ps).length : Nat) : Int) = V.int 2)) = true := h
          have : manyL H "many" ps = none := by
            unfold manyL
            split
            · exact absurd h (by simp)
            · rfl
          rw [this] at k
          exact k H (Same.refl H)
        · have h : ¬ (!decide (V.int (((V.str "many" :: ps).length : Nat) : Int) = V.int 2)) = true := h
          have pl : ps.length = 1 := by
            simp at h
            omega
          obtain ⟨y, rfl⟩ := List.length_eq_one_iff.mp pl
          have ek : manyL H "many" [y] = seqO H y := by show (if ("many" : Str) = "many" then seqO H y else none) = seqO H y; rw [if_pos rfl]
          rw [ek, seqO_LT] at k
          refine ⟨_, rfl, .tup (.of e) at1 ⟨(by show 2 ≤ sizeLine; decide), fun tp htp => ?_⟩⟩
          have s0 := Same.new (o := .tup [V.ty "list", V.ty "tuple"]) htp
          have ty0 := (hp.2 y (by simp)).thg
          obtain ⟨t, ty, _, _, _, t4, t5⟩ := ty_thg (K := K) (ty0.same s0)
          have kl := kit_lt t4 t5
          rw [(isL_keep ty0 s0).1, (isL_keep ty0 s0).2] at kl
          exact ⟨_, tp, t, _, rfl, upd_same, ty, kl, k _ s0⟩
end
end K47
namespace K47
open PySem L2
section
variable {P : Program} {w : World} {K : PySem.W.Frag} {mg : Str → Option Value} {base : Heap}
noncomputable def spPart : Sp := fun vs H Q _ => ∃ s x, vs = [.str s, x] ∧ Hd 1 H x ∧ ∀ H', Same H H' → Q (.bl (partB H s x)) H'
theorem scPart : FnScope ["sort", "part"] ["sort", "part"] (defScope sIsPart) := ⟨rfl, rfl, rfl, by decide +kernel, rfl, by decide +kernel, by decide +kernel⟩
theorem dec_str {a b : Str} : decide (V.str a = V.str b) = decide (a = b) := by
  rw [Bool.eq_iff_iff, decide_eq_true_iff, decide_eq_true_iff]
  exact ⟨V.str.inj, fun h => by rw [h]⟩
theorem isS_get {x : V} (h : isS x = true) : ∃ z, x = .str z := by
  cases x with
  | str z => exact ⟨z, rfl⟩
  | _ => cases h
theorem ok_part {f W : Addr} {fd : FuncData} (F : Fun K "is_part" "is_part" sIsPart f fd) (B : Blt mg) (TW : mg "WORDS" = some (.ref W)) (KW : ∀ H, SqT K H W [.str "first", .str "last"])
    (care_unlike_names : Cal P w K mg base 3 "are_unlike_names" ["things"] spUNmG) (cis_name : Cal P w K mg base 1 "is_name" ["thing"] spIsName) : FnOk P w K mg base CX0 4 f fd ["sort", "part"] spPart := by
  refine F.ok scPart (fun vs H Q E h => ?_) (fun cdv A outer s H vs Q E hr h => ?_)
  · obtain ⟨s, x, rfl, _⟩ := h
    rfl
  · obtain ⟨z, x, rfl, hx, k⟩ := h
    have nd := scPart.nd
    obtain ⟨t, ty, t1, _⟩ := ty_thg (K := K) hx.thg
    refine ⟨_, (pss_cons (ps_if (pt_cmpR (op_eqX hr.units) (pv 0) pe_str (nomark _)) (pss_one (ps_ret (pe_and (pe_cal care_unlike_names (hr.mono (by decide)) rfl (pa_cons (pv 1) pa_nil)) (pe_one (pe_cmpR op_gt (b_len K B (pa_cons (pv 1) pa_nil)) pe_int (nomark _)))))) pss_nil)
      (pss_cons (ps_if (pt_cmpR (op_eqX hr.units) (pv 0) pe_str (nomark _)) (pss_one (ps_ret (pe_and (b_isi K "str" B (pa_cons (pv 1) (pa_cons (g_str B) pa_nil))) (pe_one (pe_cmpR (op_inX K hr.units) (pv 1) (pe_glob (v := .ref W) rfl TW rfl) (by with_unfolding_all rfl)))))) pss_nil)
      (pss_cons (ps_if (PW.pt (pw_and (pt_cmpR (op_eqX hr.units) (pv 0) pe_str (nomark _)) (pw_and (pt_val (b_isi K "str" B (pa_cons (pv 1) (pa_cons (g_str B) pa_nil)))) (pw_and1 (pt_cmpR (op_eqX hr.units) (pv 1) pe_str (nomark _)))))) (pss_one (ps_ret pe_bl)) pss_nil)
      (pss_one (ps_ret (pe_cal cis_name (hr.mono (by decide)) rfl (pa_cons (pv 1) pa_nil))))))), ?_⟩
    refine ⟨_, rfl, .sc rfl ⟨_, rfl, ite2 (fun h => ?_) (fun h => ?_)⟩⟩
    · have ez : z = "members" := by
        have h : decide (V.str z = V.str "members") = true := h
        rw [dec_str] at h
        exact of_decide_eq_true h
      subst ez
      have ek : partB H "members" x = membB H x := by unfold partB; rw [if_pos rfl]
      rw [ek] at k
      unfold membB at k
      refine ⟨_, rfl, x, rfl, hx, fun H1 s1 => ⟨_, rfl, ite2 (fun h => ?_) (fun h => ?_)⟩⟩
      · obtain ⟨ss, a, rfl, hA, snd, snm⟩ := dec_iff.mp h
        refine ⟨_, rfl, _, _, rfl, (SqA.same hA s1).len, _, _, rfl, rfl, ?_⟩
        have e : dec (∃ ss, Unm H (.ref a) ss ∧ ss ≠ []) = decide ((0 : Int) < (((List.map V.str ss).length : Nat) : Int)) := by
          rw [Bool.eq_iff_iff, dec_iff, decide_eq_true_iff, List.length_map]
          constructor
          · rintro ⟨ss', ⟨b, e, q, _⟩, l⟩
            cases e
            rw [strs_inj (sq_uniq hA q)]
            cases ss' with
            | nil => exact absurd rfl l
            | cons x r => show (0 : Int) < ((r.length + 1 : Nat) : Int); omega
          · intro l
            exact ⟨ss, ⟨a, rfl, hA, snd, snm⟩, fun z => by rw [z] at l; exact absurd l (by decide)⟩
        have z := k H1 s1
        rw [e] at z
        exact z
      · rw [dec_f fun ⟨ss, q, _⟩ => h (dec_t ⟨ss, q⟩)] at k
        exact k H1 s1
    · have n1 : z ≠ "members" := fun e => h (by rw [e]; rfl)
      refine ⟨_, rfl, .sc rfl ⟨_, rfl, ite2 (fun h => ?_) (fun h => ?_)⟩⟩
      · have ez : z = "word" := by
          have h : decide (V.str z = V.str "word") = true := h
          rw [dec_str] at h
          exact of_decide_eq_true h
        subst ez
        have ek : partB H "word" x = (decide (x = .str "first") || decide (x = .str "last")) := by unfold partB; rw [if_neg n1, if_pos rfl]
        rw [ek] at k
        refine ⟨_, rfl, _, t, _, rfl, ty, t1, _, rfl, ite2 (fun h => ?_) (fun h => ?_)⟩
        · obtain ⟨y, rfl⟩ := isS_get h
          refine ⟨_, rfl, .seq (.inr (KW H)) rfl rfl ?_⟩
          have z := k H (Same.refl H)
          have e : inV (V.str y) [V.str "first", V.str "last"] = (decide (V.str y = .str "first") || decide (V.str y = .str "last")) := by
            show inV (V.str y) (List.map V.str ["first", "last"]) = _
            rw [in_strs, dec_str, dec_str, Bool.eq_iff_iff, decide_eq_true_iff, Bool.or_eq_true, decide_eq_true_iff, decide_eq_true_iff]
            simp
          rw [e]
          exact z
        · have h : isS x = false := by simpa using h
          have e1 : decide (x = .str "first") = false := decide_eq_false fun e => by rw [e] at h; cases h
          have e2 : decide (x = .str "last") = false := decide_eq_false fun e => by rw [e] at h; cases h
          rw [e1, e2] at k
          exact k H (Same.refl H)
      · have n2 : z ≠ "word" := fun e => h (by rw [e]; rfl)
        have ek : partB H z x = if z = "knot" ∧ x = .str "" then true else isNm x := by unfold partB; rw [if_neg n1, if_neg n2]
        rw [ek] at k
        have fin : ¬ (z = "knot" ∧ x = .str "") → spIsName [x] H Q E0 := fun n => ⟨x, rfl, hx.thg, fun H' s' => by have z := k H' s'; rw [if_neg n] at z; exact z⟩
        refine ⟨_, rfl, .sc rfl ⟨_, rfl, ite2 (fun h => ?_) (fun h => ?_)⟩⟩
        · have ez : z = "knot" := by
            have h : decide (V.str z = V.str "knot") = true := h
            rw [dec_str] at h
            exact of_decide_eq_true h
          refine ⟨_, rfl, _, t, _, rfl, ty, t1, _, rfl, ite2 (fun h => ?_) (fun h => ?_)⟩
          · obtain ⟨y, rfl⟩ := isS_get h
            refine ⟨_, rfl, .sc rfl ⟨_, rfl, ite2 (fun h => ?_) (fun h => ?_)⟩⟩
            · have ey : V.str y = .str "" := of_decide_eq_true h
              have z := k H (Same.refl H)
              rw [if_pos ⟨ez, ey⟩] at z
              exact z
            · exact ⟨_, rfl, fin fun e => h (decide_eq_true e.2)⟩
          · refine iteF ⟨_, rfl, fin fun e => h (by rw [e.2]; rfl)⟩
        · exact iteF ⟨_, rfl, fin fun e => h (by rw [e.1]; rfl)⟩
structure PK (P : Program) (w : World) (K : PySem.W.Frag) (D0 : Addr) (vs : List (Key × Value)) : Prop where
  kd : KD P w K D0 vs
  at_ : ∀ w ss, sortsOf w = some ss → ∃ a, valueAt vs (.inr w) = some (.ref a) ∧ ∀ H, SqT K H a (List.map V.str ss)
  no : ∀ w, sortsOf w = none → valueAt vs (.inr w) = none
theorem sorts_few {w : Str} {ss : List Str} (h : sortsOf w = some ss) : ss.length ≤ 2 := by
  unfold sortsOf at h
  have : ∀ (l : List (Str × List Str)), (∀ e ∈ l, e.2.length ≤ 2) → l.lookup w = some ss → ss.length ≤ 2 := by
    intro l
    induction l with
    | nil => intro _ h; cases h
    | cons e r ih =>
      intro a h
      rw [List.lookup_cons] at h
      split at h
      · cases h; exact a e (by simp)
      · exact ih (fun e he => a e (List.mem_cons_of_mem _ he)) h
  exact this partsA (by decide) h
theorem cut_tl {x : V} {xs : List V} : cutV (x :: xs) (some 1) none = xs := by
  exact cutV_from (x :: xs) 1
theorem cut_no {x : V} {xs : List V} : ¬ (HT.sIx (x :: xs).length 0 (some 1) = 0 ∧ HT.sIx (x :: xs).length (x :: xs).length none = (x :: xs).length) := fun h => by
  have h := h.1
  have e : HT.sIx (x :: xs).length 0 (some ((1 : Nat) : Int)) = min 1 (x :: xs).length := HT.sIx_nat _ _ _
  have h : HT.sIx (x :: xs).length 0 (some ((1 : Nat) : Int)) = 0 := h
  rw [e, List.length_cons] at h
  omega
noncomputable def spSing : Sp := fun vs H Q _ => ∃ x, vs = [x] ∧ Hd 2 H x ∧ ∀ H', Same H H' → Q (.bl (singleB H x)) H'
theorem scSing : FnScope ["thing", "sorts"] ["thing"] (defScope sIsSingle) := ⟨rfl, rfl, rfl, by decide +kernel, rfl, by decide +kernel, by decide +kernel⟩
theorem ok_sing {f D0 : Addr} {fd : FuncData} {vs : List (Key × Value)} (F : Fun K "is_single" "is_single" sIsSingle f fd) (B : Blt mg) (Zz : mg "zip" = none) (TP : mg "PARTS" = some (.ref D0)) (PP : PK P w K D0 vs)
    (chas_word : Cal P w K mg base 1 "has_word" ["thing"] spHW) (cis_part : Cal P w K mg base 4 "is_part" ["sort", "part"] spPart) : FnOk P w K mg base CX0 5 f fd ["thing"] spSing := by
  refine F.ok scSing (fun vs H Q E h => ?_) (fun cdv A outer s H vs Q E hr h => ?_)
  · obtain ⟨x, rfl, _⟩ := h
    rfl
  · obtain ⟨x, rfl, hx, k⟩ := h
    have nd := scSing.nd
    have KP := PP.kd
    refine ⟨_, (pss_cons (ps_if (PW.pt (pw_or (pt_not (pt_val (pe_cal chas_word (hr.mono (by decide)) rfl (pa_cons (pv 0) pa_nil)))) (pw_or1 (pt_cmpR (op_notInKD KP) (pe_ix (ix_X K hr.units) (pv 0) pe_int (fun _ _ => rfl)) (pe_glob (v := .ref D0) rfl TP rfl) (by with_unfolding_all rfl))))) (pss_one (ps_ret pe_bl)) pss_nil)
      (pss_cons (ps_set (i := 1) nd rfl (Or.inl rfl) (pe_ix (ix_KD KP) (pe_glob (v := .ref D0) rfl TP rfl) (pe_ix (ix_X K hr.units) (pv 0) pe_int (fun _ _ => rfl)) (fun _ _ => rfl)))
      (pss_cons (ps_if (pt_cmpR (op_neX hr.units) (b_len K B (pa_cons (pv 0) pa_nil)) (pe_op op_addX (b_len K B (pa_cons (pv 1) pa_nil)) pe_int) (nomark _)) (pss_one (ps_ret pe_bl)) pss_nil)
      (pss_one (ps_ret (b_all rfl B (pa_cons (pe_comp (defScope sIsSingle) ["thing", "sorts"] ["sort", "part"] [] ["sort", "part"] rfl (pi_zipTTP K rfl Zz (pa_cons (pv 1) (pa_cons (pe_slice (sl_tupK K) (pv 0) (po_some pe_int) po_none) pa_nil))) (fun _ _ _ _ _ => (pg_tupK (n := 2) K rfl (pgs_cons (pg_name (i := 0) (show (["sort", "part"] : List Str).Nodup by decide) rfl (Or.inl rfl)) (pgs_cons (pg_name (i := 1) (show (["sort", "part"] : List Str).Nodup by decide) rfl (Or.inl rfl)) pgs_nil)))) (fun _ _ _ _ _ => pts_nil) (fun _ _ _ _ _ => (pe_cal cis_part (hr.mono (by decide)) rfl (pa_cons (pv 0) (pa_cons (pv 1) pa_nil))))) pa_nil))))))), ?_⟩
    refine ⟨_, rfl, x, rfl, hx.less, _, rfl, ?_⟩
    cases hw : hwB H x with
    | false =>
      rw [(hw_no hw).2] at k
      exact iteT (iteT (k H (Same.refl H)))
    | true =>
      obtain ⟨a, w, ps, rfl, e⟩ := hw_get hw
      have es : singleB H (.ref a) = sgB H w ps := by unfold singleB; rw [tupO_of e]
      have hp := (hx.tup (tupO_of e))
      rw [es] at k
      unfold sgB at k
      refine iteF ?_
      refine ⟨_, rfl, .tup (.of e) at0 ⟨.inr w, rfl, rfl, _, rfl, ?_⟩⟩
      cases q : sortsOf w with
      | none =>
        rw [PP.no w q]
        rw [q] at k
        exact iteT (k H (Same.refl H))
      | some ss =>
        obtain ⟨b, hv, hS⟩ := PP.at_ w ss q
        rw [q] at k
        have k : ∀ H', Same H H' → Q (.bl (decide (ps.length = ss.length) && (ss.zip ps).all fun e => partB H e.1 e.2)) H' := k
        have few := sorts_few q
        rw [hv]
        refine iteF ?_
        refine ⟨_, rfl, .tup (.of e) at0 ⟨.inr w, .ref b, .ref b, rfl, rfl, hv, rfl, ?_⟩⟩
        refine ⟨_, rfl, _, _, rfl, Or.inr ⟨_, .of e, rfl⟩, _, rfl, _, _, rfl, Or.inr ⟨_, hS H, rfl⟩, .int (.sc rfl ⟨_, rfl, ?_⟩)⟩
        refine ite2 (fun h => ?_) (fun h => ?_)
        · have h : (!decide (V.int (((V.str w :: ps).length : Nat) : Int) = V.int ((((List.map V.str ss).length : Nat) : Int) + 1))) = true := h
          have n : ¬ ps.length = ss.length := fun z => by
            rw [List.length_map, List.length_cons, z] at h
            exact absurd h (by simp)
          have z := k H (Same.refl H)
          rw [decide_eq_false n] at z
          exact z
        · have h : ¬ (!decide (V.int (((V.str w :: ps).length : Nat) : Int) = V.int ((((List.map V.str ss).length : Nat) : Int) + 1))) = true := h
          have n : ps.length = ss.length := by
            rw [List.length_map, List.length_cons] at h
            simp at h
            omega
          rw [decide_eq_true n, Bool.true_and] at k
          refine ⟨_, rfl, _, rfl, _, rfl, a, _, rfl, .of e, cut_no, fun pp hpp => ?_⟩
          rw [cut_tl]
          have s0 := Same.new (o := .tup ps) hpp
          have e1 : (upd H pp (.tup ps)) pp = some (.tup ps) := upd_same
          generalize upd H pp (.tup ps) = H0 at s0 e1 ⊢
          have zl : ((List.map V.str ss).zip ps).length = ss.length := by rw [List.length_zip, List.length_map]; omega
          refine ⟨b, pp, _, _, rfl, hS H0, .of e1, ?_⟩
          refine comp_zipTT (List.map V.str ss) ps (fun D i acc σ' H' => ∃ o1 o2, σ' = [o1, o2] ∧ acc = List.map V.bl (((ss.zip ps).take i).map fun e => partB H e.1 e.2) ∧ Same H0 H' ∧ H0 D = none) fun D hD => ⟨?_, ?_, ?_, ?_⟩
          · exact ⟨none, none, rfl, rfl, Same.new hD, hD⟩
          · rintro i acc σ' H' _ ⟨o1, o2, rfl, _, sm, _⟩ _
            exact ⟨hS H', .of (sm _ _ e1)⟩
          · rintro i acc σ' H' x y p hx ⟨o1, o2, rfl, rfl, sm, hD0⟩ hacc hp0
            obtain ⟨hx1, hx2⟩ := List.getElem?_zip_eq_some.mp hx
            obtain ⟨z, hz, rfl⟩ := str_get hx1
            have hil := (List.getElem?_eq_some_iff.mp hz).1
            have s1 := Same.new (o := .tup [V.str z, y]) hp0
            have hy : Hd 1 H y := hp.2 y (List.mem_cons_of_mem _ (List.mem_of_getElem? hx2))
            have sA := (s0.trans sm).trans s1
            refine gYes2 rfl (.of upd_same) ?_
            refine ⟨_, rfl, _, rfl, z, y, rfl, Hd.mono 1 _ _ _ sA hy, fun H2 s2 => ?_⟩
            rw [partB_same hy.thg sA]
            refine ⟨s2 _ _ (s1 _ _ hacc), by rw [List.length_map, List.length_map, List.length_take]; exact small1000 (by omega), _, _, rfl, ?_, same_at ((sm.trans s1).trans s2) hD0, hD0⟩
            have hz2 : (ss.zip ps)[i]? = some (z, y) := List.getElem?_zip_eq_some.mpr ⟨hz, hx2⟩
            rw [List.take_add_one, hz2, List.map_append, List.map_append]; rfl
          · rintro acc σ' H2 ⟨o1, o2, rfl, rfl, s2, hD0⟩ hacc
            rw [zl, List.take_of_length_le (by rw [List.length_zip]; omega)] at hacc
            refine ⟨D, (ss.zip ps).map fun e => partB H e.1 e.2, rfl, hacc, ?_⟩
            have z := k H2 (s0.trans s2)
            rw [show (ss.zip ps).all (fun e => partB H e.1 e.2) = ((ss.zip ps).map fun e => partB H e.1 e.2).all id by rw [List.all_map]; rfl] at z
            exact z
end
end K47
namespace K47
open PySem L2
section
variable {P : Program} {w : World} {K : PySem.W.Frag} {mg : Str → Option Value} {base : Heap}
noncomputable def spDW (n : Nat) : Sp := fun vs H Q _ => ∃ x, vs = [x, .int (n : Int)] ∧ Hd (2 * n + 2) H x ∧ ∀ H', Same H H' → Q (.bl (deedB n H x)) H'
noncomputable def spDWp : Nat → Sp
  | 0 => fun _ _ _ _ => False
  | n + 1 => spDW n
theorem scDW : FnScope ["thing", "many"] ["thing", "many"] (defScope sIsDeedWithin) := ⟨rfl, rfl, rfl, by decide +kernel, rfl, by decide +kernel, by decide +kernel⟩
theorem many_get {H : Hp} {x : V} {ys : List V} (h : manyO H x = some ys) : ∃ a b, x = .ref a ∧ H a = some (.tup [.str "many", .ref b]) ∧ SqA H b ys := by
  unfold manyO at h
  split at h
  · rename_i w ps e
    unfold manyL at h
    split at h
    · rename_i y
      split at h
      · rename_i ew
        subst ew
        obtain ⟨b, rfl, q⟩ := seqO_get h
        obtain ⟨a, rfl, q2⟩ := tupO_get e
        exact ⟨a, b, rfl, q2, q⟩
      · cases h
    · cases h
  · cases h
theorem ok_dw1 {f : Addr} {fd : FuncData} {n : Nat} (F : Fun K "is_deed_within" "is_deed_within" sIsDeedWithin f fd) (B : Blt mg) (cis_many : Cal P w K mg base 2 "is_many" ["thing"] spIM) (cis_single : Cal P w K mg base 5 "is_single" ["thing"] spSing)
    (cis_deed_within : Cal P w K mg base (n + 5) "is_deed_within" ["thing", "many"] (spDWp n)) : FnOk P w K mg base CX0 (n + 5 + 1) f fd ["thing", "many"] (spDW n) := by
  refine F.ok scDW (fun vs H Q E h => ?_) (fun cdv A outer s H vs Q E hr h => ?_)
  · obtain ⟨x, rfl, _⟩ := h
    rfl
  · obtain ⟨x, rfl, hx, k⟩ := h
    have nd := scDW.nd
    have h5 : 5 ≤ n + 5 := Nat.le_add_left ..
    have h2 : 2 ≤ n + 5 := Nat.le_trans (by decide) h5
    refine ⟨_, (pss_cons (ps_if (pt_not (pt_val (pe_cal cis_many (hr.mono h2) rfl (pa_cons (pv 0) pa_nil)))) (pss_one (ps_ret (pe_cal cis_single (hr.mono h5) rfl (pa_cons (pv 0) pa_nil)))) pss_nil)
      (pss_one (ps_ret (pe_and (pe_cmpR op_gt (pv 1) pe_int (nomark _)) (pe_one (b_all rfl B (pa_cons (pe_comp (defScope sIsDeedWithin) ["thing", "many"] ["deed"] [1] ["deed", "many"] rfl (pi_seqK K (pe_ix (ix_X K hr.units) (pv 0) pe_int (fun _ _ => rfl))) (fun _ _ _ _ _ => (pg_name (i := 0) (show (["deed", "many"] : List Str).Nodup by decide) rfl (Or.inl rfl))) (fun _ _ _ _ _ => pts_nil) (fun _ _ _ _ _ => (pe_cal cis_deed_within (hr.mono (Nat.le_refl _)) rfl (pa_cons (pv 0) (pa_cons (pe_op op_sub (pv 1) pe_int) pa_nil))))) pa_nil))))))), ?_⟩
    refine ⟨_, rfl, x, rfl, hx.two, fun H1 s1 => ⟨_, rfl, ?_⟩⟩
    cases q : manyO H x with
    | none =>
      have ek : deedB n H x = singleB H x := by cases n <;> (unfold deedB; rw [q])
      rw [ek] at k
      refine iteT ⟨_, rfl, x, rfl, Hd.mono 2 _ _ _ s1 hx.two, fun H2 s2 => ?_⟩
      rw [singleB_same hx.one s1]
      exact k H2 (s1.trans s2)
    | some ys =>
      refine iteF ?_
      cases n with
      | zero =>
        have ek : deedB 0 H x = false := by unfold deedB; rw [q]
        rw [ek] at k
        refine ⟨_, rfl, _, _, rfl, rfl, _, rfl, ite2 (fun h => absurd h (by decide)) fun _ => k H1 s1⟩
      | succ n =>
        have ek : deedB (n + 1) H x = ys.all (deedB n H) := by rw [deedB]; rw [q]
        rw [ek] at k
        obtain ⟨yl, yh⟩ := Hd.many (n := 2 * n + 2) hx q
        obtain ⟨a, b, rfl, ha, hb⟩ := many_get q
        refine ⟨_, rfl, _, _, rfl, rfl, _, rfl, ite2 (fun _ => ?_) (fun h => absurd (decide_eq_true (by omega)) h)⟩
        have ha1 := s1 _ _ ha
        have hb1 := SqA.same hb s1
        refine ⟨_, rfl, .tup (.of ha1) at1 ⟨b, rfl, ?_⟩⟩
        refine comp_seq ys (fun D i acc σ' H' => ∃ o, σ' = [o, some (.int ((n + 1 : Nat) : Int))] ∧ acc = List.map V.bl ((ys.take i).map (deedB n H)) ∧ Same H1 H' ∧ H1 D = none) hb1 fun D hD => ⟨?_, ?_, ?_, ?_⟩
        · exact ⟨none, rfl, rfl, Same.new hD, hD⟩
        · rintro i acc σ' H' _ ⟨o, rfl, _, sm, _⟩ _
          exact sq_at hb1 sm
        · rintro i acc σ' H' x hx ⟨o, rfl, rfl, sm, hD0⟩ hacc
          have hil := (List.getElem?_eq_some_iff.mp hx).1
          have hy := yh x (List.mem_of_getElem? hx)
          refine gYes ?_
          refine ⟨_, rfl, _, rfl, _, _, rfl, rfl, x, (by show [x, V.int (((n + 1 : Nat) : Int) - 1)] = _; rw [show ((n + 1 : Nat) : Int) - 1 = (n : Int) by omega]), Hd.mono _ _ _ _ (s1.trans sm) hy, fun H2 s2 => ?_⟩
          rw [deedB_same hy (s1.trans sm)]
          exact ⟨s2 _ _ hacc, by rw [List.length_map, List.length_map, List.length_take]; exact small1000 (by omega), _, rfl, by rw [List.take_add_one, hx, List.map_append, List.map_append]; rfl, same_at (sm.trans s2) hD0, hD0⟩
        · rintro acc σ' H2 ⟨o, rfl, rfl, s2, hD0⟩ hacc
          rw [List.take_of_length_le (Nat.le_refl _)] at hacc
          refine ⟨D, ys.map (deedB n H), rfl, hacc, ?_⟩
          have z := k H2 (s1.trans s2)
          rw [show ys.all (deedB n H) = (ys.map (deedB n H)).all id by rw [List.all_map]; rfl] at z
          exact z
theorem ok_dw {f : Addr} {fd : FuncData} (F : Fun K "is_deed_within" "is_deed_within" sIsDeedWithin f fd) (B : Blt mg) (cis_many : Cal P w K mg base 2 "is_many" ["thing"] spIM) (cis_single : Cal P w K mg base 5 "is_single" ["thing"] spSing)
    (mk : ∀ h sp, FnOk P w K mg base CX0 h f fd ["thing", "many"] sp → Cal P w K mg base h "is_deed_within" ["thing", "many"] sp) : ∀ n, FnOk P w K mg base CX0 (n + 6) f fd ["thing", "many"] (spDW n)
  | 0 => ok_dw1 F B cis_many cis_single (mk 5 _ ⟨fun vs H Q E h => h.elim, fun A outer s H args us' vs Q E hr he hb hv h => h.elim⟩)
  | n + 1 => ok_dw1 F B cis_many cis_single (mk _ _ (ok_dw F B cis_many cis_single mk n))
noncomputable def spDeed : Sp := fun vs H Q _ => ∃ x, vs = [x] ∧ Hd 6 H x ∧ ∀ H', Same H H' → Q (.bl (deedB 2 H x)) H'
theorem scDeed : FnScope ["thing"] ["thing"] (defScope sIsDeed) := ⟨rfl, rfl, rfl, by decide +kernel, rfl, by decide +kernel, by decide +kernel⟩
theorem ok_deed {f : Addr} {fd : FuncData} {tk : Tok} (F : Fun K "is_deed" "is_deed" sIsDeed f fd) (B : Blt mg) (TM : mg "MOST_MANY" = some (.int 2 tk)) (cis_deed_within : Cal P w K mg base 8 "is_deed_within" ["thing", "many"] (spDW 2)) : FnOk P w K mg base CX0 9 f fd ["thing"] spDeed := by
  refine F.ok scDeed (fun vs H Q E h => ?_) (fun cdv A outer s H vs Q E hr h => ?_)
  · obtain ⟨x, rfl, _⟩ := h
    rfl
  · obtain ⟨x, rfl, hx, k⟩ := h
    have nd := scDeed.nd
    refine ⟨_, (pss_one (ps_ret (pe_cal cis_deed_within (hr.mono (by decide)) rfl (pa_cons (pv 0) (pa_cons (pe_glob (v := .int 2) rfl TM ⟨_, rfl⟩) pa_nil))))), ?_⟩
    exact ⟨_, rfl, x, rfl, hx, k⟩
end
end K47
namespace K47
open PySem L2
section
variable {P : Program} {w : World} {K : PySem.W.Frag} {mg : Str → Option Value} {base : Heap}
noncomputable abbrev letters : Str := "abcdefghijklmnopqrstuvwxyz"
theorem nil_ {σ : St} {H : Hp} {k : List V → Hp → Prop} (h : k [] H) : tNil σ H k := h
theorem name_go {i : Nat} {v : V} {σ : St} {H : Hp} {k : St → Hp → Prop} (h : k (σ.set i (some v)) H) : gName i v σ H k := h
theorem seq_inv {s r : TS} {D : Ends} {σ : St} {H : Hp} (Inv : St → Hp → Prop) (fin : ∀ σ' H', Inv σ' H' → r D σ' H') (main : ∀ N : St → Hp → Prop, (∀ σ' H', Inv σ' H' → N σ' H') → s { D with nx := N } σ H) : tSeq s r D σ H := main _ fin
theorem at_mem {xs : List V} {m : Nat} {r : Int} (hl : xs.length = m) (h0 : 0 ≤ r) (h1 : r < m) : ∃ x, atI xs r = some x ∧ x ∈ xs := by
  obtain ⟨j, rfl⟩ := Int.eq_ofNat_of_zero_le h0
  have hj : j < xs.length := by omega
  exact ⟨xs[j], atI_nat (List.getElem?_eq_getElem hj), List.getElem_mem hj⟩
noncomputable def nmF (z : Str) (sp : Nat) (st r : Int) (i : Nat) : Str := Txt.slice z none (some (sp : Int)) ++ ⟨#[97 + ((st + 7 * (0 + (i : Int))) % 26).toNat]⟩ ++ Txt.slice z (some (sp : Int)) none ++ (if i % 2 = 0 then ("" : Str) else ⟨#[97 + r.toNat]⟩)
theorem mid4 {x y w w' : Str} {c d : Nat} (h : (x ++ ⟨#[c]⟩ ++ y ++ w : Str) = x ++ ⟨#[d]⟩ ++ y ++ w') : c = d := by
  have h : (x.cps ++ #[c] ++ y.cps ++ w.cps).toList = (x.cps ++ #[d] ++ y.cps ++ w'.cps).toList := congrArg (fun s : Str => s.cps.toList) h
  simp only [Array.toList_append, List.append_assoc, List.append_cancel_left_eq] at h
  have h : c :: (y.cps.toList ++ w.cps.toList) = d :: (y.cps.toList ++ w'.cps.toList) := by simpa using h
  exact (List.cons.inj h).1
theorem nmF_nd {z : Str} {sp : Nat} {st r : Int} {m : Nat} (hm : m ≤ 26) : ((List.range m).map (nmF z sp st r)).Nodup := nodup_by _ m fun i j hij hj e => by
  have := mid4 e
  omega
theorem slice_fromL {z : Str} {j : Nat} (h : j ≤ z.length) : (Txt.slice z (some (j : Int)) none).length ≤ z.length - j := by
  have e : Txt.slice z (some (j : Int)) none = StrLaws.sliceText z (some (j : Int)) none := rfl
  rw [e, StrLaws.sliceText_from ⟨by omega, by simp [Str.length] at h ⊢; omega⟩]
  show (List.take _ _).toArray.size ≤ _
  rw [List.size_toArray]
  simp [Str.length]
theorem nmF_nm {z : Str} {sp : Nat} {st r : Int} {i : Nat} (hj : Lo z) (hz : z.length ≤ 6) (hs : sp ≤ z.length) (h0 : 0 ≤ r) (h1 : r < 26) : Nm (nmF z sp st r i) := by
  have q0 := Int.emod_nonneg (st + 7 * (0 + (i : Int))) (show (26 : Int) ≠ 0 by decide)
  have q1 := Int.emod_lt_of_pos (st + 7 * (0 + (i : Int))) (show (0 : Int) < 26 by decide)
  have l1 := slice_to hs
  have l2 := slice_fromL hs
  have le : ∀ c : Nat, (⟨#[c]⟩ : Str).length = 1 := fun _ => rfl
  unfold nmF
  refine Lo.nm (((Lo.app (Lo.app (hj.slice _ _) (Lo.one (by omega))) (hj.slice _ _))).app ?_) ?_ ?_
  · split
    · exact Lo.nil
    · exact Lo.one (by omega)
  · rw [len_app, len_app, len_app, le]; omega
  · rw [len_app, len_app, len_app, le, l1]
    have : (if i % 2 = 0 then ("" : Str) else ⟨#[97 + r.toNat]⟩).length ≤ 1 := by
      split
      · decide +kernel
      · exact Nat.le_refl _
    omega
noncomputable def spNames (K : PySem.W.Frag) : Sp := fun vs H Q _ => ∃ (p a : Addr) (m : Nat), vs = [.ref p, .int (m : Int)] ∧ DPen K H p a ∧ m ≤ 13 ∧
  ∀ l ss H', ss.length = m → ss.Nodup → (∀ s ∈ ss, Nm s) → H' l = some (.lst (List.map V.str ss)) → H l = none → l ≠ p → DPV H' p a → But p H H' → Q (.ref l) H'
theorem scNames : FnScope ["_law_pen_here", "_law_many", "_law_letters", "_law_base", "_law_spot", "_law_start", "_law_more", "_law_found", "_law_k", "_law_letter"] ["_law_pen_here", "_law_many"] (defScope sNames) := ⟨rfl, rfl, rfl, by decide +kernel, rfl, by decide +kernel, by decide +kernel⟩
theorem ok_names {f : Addr} {fd : FuncData} (F : Fun K "_law_names" "_law_names" sNames f fd) (B : Blt mg) (c_law_draw : Cal P w K mg base 1 "_law_draw" ["_law_pen_here", "_law_many"] (spDrw K)) : FnOk P w K mg base CX0 2 f fd ["_law_pen_here", "_law_many"] (spNames K) := by
  refine F.ok scNames (fun vs H Q E h => ?_) (fun cdv A outer s H vs Q E hr h => ?_)
  · obtain ⟨p, a, m, rfl, _⟩ := h
    rfl
  · obtain ⟨p, a, m, rfl, hP, hm, k⟩ := h
    have nd := scNames.nd
    have v0 := hP.2
    have lL : letters.length ≤ sizeLine := by decide +kernel
    refine ⟨_, (pss_cons (ps_set (i := 2) nd rfl (Or.inr rfl) pe_str)
      (pss_cons (ps_set (i := 3) nd rfl (Or.inl rfl) (m_join K pe_str (pa_cons (pe_comp (defScope sNames) ["_law_pen_here", "_law_many", "_law_letters", "_law_base", "_law_spot", "_law_start", "_law_more", "_law_found", "_law_k", "_law_letter"] ["_law_k"] [2, 0] ["_law_k", "_law_letters", "_law_pen_here"] rfl (pi_range1 rfl B.range (pa_cons (pe_cal c_law_draw (hr.mono (by decide)) rfl (pa_cons (pv 0) (pa_cons pe_int pa_nil))) pa_nil)) (fun _ _ _ _ _ => (pg_name (i := 0) (show (["_law_k", "_law_letters", "_law_pen_here"] : List Str).Nodup by decide) rfl (Or.inl rfl))) (fun _ _ _ _ _ => pts_nil) (fun _ _ _ _ _ => (pe_ix (ix_X K hr.units) (pv 1) (pe_cal c_law_draw (hr.mono (by decide)) rfl (pa_cons (pv 2) (pa_cons pe_int pa_nil))) (fun _ _ => rfl)))) pa_nil)))
      (pss_cons (ps_if (pt_cmpR (op_eqX hr.units) (pe_cal c_law_draw (hr.mono (by decide)) rfl (pa_cons (pv 0) (pa_cons pe_int pa_nil))) pe_int (nomark _)) (pss_one (ps_set (i := 3) nd rfl (Or.inl rfl) (pe_ix (ix_X K hr.units) (pe_lst (pa_cons pe_str (pa_cons pe_str (pa_cons pe_str (pa_cons pe_str (pa_cons pe_str pa_nil star_c) star_c) star_c) star_c) star_c)) (pe_cal c_law_draw (hr.mono (by decide)) rfl (pa_cons (pv 0) (pa_cons pe_int pa_nil))) (fun _ _ => rfl)))) pss_nil)
      (pss_cons (ps_set (i := 4) nd rfl (Or.inl rfl) (pe_cal c_law_draw (hr.mono (by decide)) rfl (pa_cons (pv 0) (pa_cons (pe_op op_addX (b_len K B (pa_cons (pv 3) pa_nil)) pe_int) pa_nil))))
      (pss_cons (ps_set (i := 5) nd rfl (Or.inl rfl) (pe_cal c_law_draw (hr.mono (by decide)) rfl (pa_cons (pv 0) (pa_cons pe_int pa_nil))))
      (pss_cons (ps_set (i := 6) nd rfl (Or.inl rfl) (pe_lst (pa_cons pe_str (pa_cons (pe_ix (ix_X K hr.units) (pv 2) (pe_cal c_law_draw (hr.mono (by decide)) rfl (pa_cons (pv 0) (pa_cons pe_int pa_nil))) (fun _ _ => rfl)) pa_nil))))
      (pss_cons (ps_set (i := 7) nd rfl (Or.inl rfl) (pe_lst pa_nil))
      (pss_cons (ps_for PassesOwn.never rfl (pi_range1 rfl B.range (pa_cons (pv 1) pa_nil)) (pg_name (i := 8) nd rfl (Or.inl rfl)) (pss_cons (ps_set (i := 9) nd rfl (Or.inl rfl) (pe_ix (ix_X K hr.units) (pv 2) (pe_op op_mod (pe_op op_addX (pv 5) (pe_op op_mul pe_int (pv 8))) pe_int) (fun _ _ => rfl)))
      (pss_one (ps_expr (m_append K (pv 7) (pa_cons (pe_op op_addX (pe_op op_addX (pe_op op_addX (pe_slice (sl_K K) (pv 3) po_none (po_some (pv 4))) (pv 9)) (pe_slice (sl_K K) (pv 3) (po_some (pv 4)) po_none)) (pe_ix (ix_X K hr.units) (pv 6) (pe_op op_mod (pv 8) pe_int) (fun _ _ => rfl))) pa_nil))))))
      (pss_one (ps_ret (pv 7))))))))))), ?_⟩
    refine ⟨rfl, _, rfl, p, a, 7, rfl, hP, by decide, by decide, fun r1 H1 r10 r11 v1 b1 => ?_⟩
    obtain ⟨n1, rfl⟩ := Int.eq_ofNat_of_zero_le r10
    refine ⟨_, rfl, by omega, by omega, ?_⟩
    refine comp_range (fun D i acc σ' H' => ∃ o ys, σ' = [o, some (.str letters), some (.ref p)] ∧ acc = List.map V.str ys ∧ ys.length = i ∧ (∀ y ∈ ys, y.length = 1 ∧ Lo y) ∧ DPV H' p a ∧ But p H1 H' ∧ H1 D = none ∧ p ≠ D) fun D hD => ⟨?_, ?_, ?_⟩
    · have hDp := v1.ne hD
      exact ⟨none, [], rfl, rfl, rfl, (fun y hy => by cases hy), v1.upd hDp, (But.refl p H1).at hD, hD, hDp⟩
    · rintro i acc σ' H' hi ⟨o, ys, rfl, rfl, hl, hys, v, b, hD0, hDp⟩ hacc
      refine gYes ?_
      refine ⟨_, rfl, _, rfl, p, a, 26, rfl, hP.but (b1.trans b) v, by decide, by decide, fun r5 H5 h50 h51 v5 b5 => ?_⟩
      refine .str lL (abc_at h50 h51) ⟨b5 _ _ (Ne.symm hDp) hacc, ?_, _, ys ++ [abc r5], rfl, by simp [abc], by simp [hl], ?_, v5.upd hDp, (b.trans b5).at hD0, hD0, hDp⟩
      · rw [List.length_map, hl]; exact small1000 (by simp at hi; omega)
      · intro y hy
        rcases List.mem_append.mp hy with hy | hy
        · exact hys y hy
        · have : y = abc r5 := by simpa using hy
          subst this
          exact ⟨rfl, abc_lo h50 h51⟩
    · rintro acc σ' H5 ⟨o, ys, rfl, rfl, hl, hys, v5, b5, hD0, hDp⟩ hacc
      have hj : Lo (Txt.join "" ys) := Lo.join Lo.nil fun y hy => (hys y hy).2
      have yl : ys.length ≤ 6 := by simp at hl; omega
      have hz8 : (Txt.join "" ys).length ≤ 6 := by rw [join_len fun y hy => (hys y hy).1]; exact yl
      have e0 : ("" : Str).length = 0 := by decide +kernel
      have hsum := sum_le (n := 1) fun y hy => Nat.le_of_eq (hys y hy).1
      have s1000 : 1000 ≤ sizeLine := by decide
      refine ⟨_, D, ys, rfl, rfl, hacc, by rw [e0]; omega, ?_⟩
      have b5 := b1.trans b5
      generalize Txt.join "" ys = z at hj hz8 ⊢
      clear hacc hys hl hsum yl hD0 hDp b1 v1
      refine name_go ?_
      dsimp only
      refine seq_inv (fun σ' H' => ∃ z, σ' = [some (.ref p), some (.int (m : Int)), some (.str letters), some (.str z), none, none, none, none, none, none] ∧ Lo z ∧ z.length ≤ 6 ∧ DPV H' p a ∧ But p H H') ?_ ?_
      · clear hj hz8 z v5 b5
        rintro σ' H6 ⟨z, rfl, hj, hz, v6, b6⟩
        have zl : z.length ≤ sizeLine := by omega
        refine ⟨_, rfl, _, rfl, _, _, rfl, ⟨zl, rfl⟩, .int ⟨p, a, _, rfl, hP.but b6 v6, by omega, by omega, fun r7 H7 h70 h71 v7 b7 => ?_⟩⟩
        have b7 := b6.trans b7
        refine ⟨_, rfl, p, a, 26, rfl, hP.but b7 v7, by decide, by decide, fun r8 H8 h80 h81 v8 b8 => ?_⟩
        have b8 := b7.trans b8
        refine ⟨_, rfl, _, rfl, p, a, 26, rfl, hP.but b8 v8, by decide, by decide, fun r9 H9 h90 h91 v9 b9 => ?_⟩
        have b9 := b8.trans b9
        refine .str lL (abc_at h90 h91) (nil_ ⟨(by show 2 ≤ sizeLine; decide), fun lm hlm => ?_⟩)
        have nlm : p ≠ lm := v9.ne hlm
        have s10 := Same.new (o := .lst [V.str "", V.str ⟨#[97 + r9.toNat]⟩]) hlm
        have e10 : upd H9 lm (.lst [V.str "", V.str ⟨#[97 + r9.toNat]⟩]) lm = some (.lst [V.str "", V.str ⟨#[97 + r9.toNat]⟩]) := upd_same
        have v10 := v9.same s10
        have b10 := b9.trans (But.of_same (p := p) s10)
        generalize upd H9 lm (.lst [V.str "", V.str ⟨#[97 + r9.toNat]⟩]) = H10 at s10 e10 v10 b10 ⊢
        refine ⟨(by show 0 ≤ sizeLine; decide), fun fl hfl => ?_⟩
        have hpf := v10.ne hfl
        have hf0 := b10.free (Ne.symm hpf) hfl
        have nfl : lm ≠ fl := ne_of_none e10 hfl
        obtain ⟨sp, rfl⟩ := Int.eq_ofNat_of_zero_le h70
        have spz : sp ≤ z.length := by omega
        refine ⟨_, rfl, _, rfl, by omega, by omega, ?_⟩
        refine for_range (fun i σ H' => ∃ o8 o9, σ = [some (.ref p), some (.int (m : Int)), some (.str letters), some (.str z), some (.int (sp : Int)), some (.int r8), some (.ref lm), some (.ref fl), o8, o9] ∧ H' fl = some (.lst (List.map V.str ((List.range i).map (nmF z sp r8 r9)))) ∧ H' lm = some (.lst [V.str "", V.str ⟨#[97 + r9.toNat]⟩]) ∧ DPV H' p a ∧ But p H H')
          ⟨none, none, rfl, upd_same, by rw [upd_ne nfl]; exact e10, v10.upd hpf, b10.at hf0⟩ ?_ ?_
        · rintro i σ H11 hi ⟨o8, o9, rfl, hf, hlm', v11, b11⟩
          have hi : i < m := by simpa using hi
          refine ⟨_, rfl, _, rfl, _, rfl, _, _, rfl, rfl, .inl ⟨by decide, by decide⟩, .int ⟨_, _, rfl, rfl, (by show (0 : Int) < _; decide), ?_⟩⟩
          have q0 := Int.emod_nonneg (r8 + 7 * (0 + (i : Nat) : Int)) (show (26 : Int) ≠ 0 by decide)
          have q1 := Int.emod_lt_of_pos (r8 + 7 * (0 + (i : Nat) : Int)) (show (0 : Int) < 26 by decide)
          refine .str lL (abc_at q0 q1) ?_
          refine ⟨_, rfl, .inl ⟨rfl, _, .of hf⟩, ?_⟩
          have l1 := slice_to spz
          have l2 := slice_fromL spz
          have le : ∀ c : Nat, (⟨#[c]⟩ : Str).length = 1 := fun _ => rfl
          have hx : atI [V.str "", V.str ⟨#[97 + r9.toNat]⟩] ((0 + (i : Int)) % 2) = some (.str (if i % 2 = 0 then ("" : Str) else ⟨#[97 + r9.toNat]⟩)) := by
            by_cases q : i % 2 = 0
            · rw [if_pos q, show (0 + (i : Int)) % 2 = ((0 : Nat) : Int) by omega]; exact atI_nat rfl
            · rw [if_neg q, show (0 + (i : Int)) % 2 = ((1 : Nat) : Int) by omega]; exact atI_nat rfl
          have l3 : (if i % 2 = 0 then ("" : Str) else ⟨#[97 + r9.toNat]⟩).length ≤ 1 := by
            split
            · decide +kernel
            · exact Nat.le_refl _
          refine ⟨_, rfl, _, rfl, _, rfl, .str zl ⟨_, rfl, .str (by rw [le, l1]; omega) ⟨_, rfl, _, rfl, _, rfl, .str zl (.str (by rw [len_app, le, l1]; omega) ⟨_, rfl, _, rfl, _, _, rfl, rfl, (by show (0 : Int) < _; decide), .lst (.of hlm') hx (.str (by rw [len_app, len_app, le, l1]; omega) (nil_ ⟨fl, _, _, rfl, rfl, hf, ?_, ?_⟩))⟩)⟩⟩⟩
          · rw [List.length_map, List.length_map, List.length_range]; exact small1000 (by omega)
          · refine ⟨_, _, rfl, ?_, by rw [upd_ne nfl]; exact hlm', v11.upd hpf, b11.at hf0⟩
            rw [upd_same, range_snoc, List.map_append]; rfl
        · rintro σ H11 ⟨o8, o9, rfl, hf, _, v11, b11⟩
          exact ⟨_, rfl, k fl _ H11 (by rw [List.length_map, List.length_range]; omega) (nmF_nd (by omega)) (fun s hs => by
            obtain ⟨j, _, rfl⟩ := List.mem_map.mp hs
            exact nmF_nm hj hz spz h90 h91) hf hf0 (Ne.symm hpf) v11 b11⟩
      · intro N hN
        refine ⟨_, rfl, p, a, 5, rfl, hP.but b5 v5, by decide, by decide, fun r6 H6 _ _ v6 b6 => .sc rfl ⟨_, rfl, ite2 (fun _ => ?_) (fun _ => ?_)⟩⟩
        · refine ⟨(by show 5 ≤ sizeLine; decide), fun lz hlz => ?_⟩
          have nlz : lz ≠ p := Ne.symm (v6.ne hlz)
          have s7 := Same.new (o := .lst (List.map V.str ["tie", "top", "first", "wait", "group"])) hlz
          have e7 : upd H6 lz (.lst (List.map V.str ["tie", "top", "first", "wait", "group"])) lz = some (.lst (List.map V.str ["tie", "top", "first", "wait", "group"])) := upd_same
          have b7 := (b5.trans b6).trans (But.of_same (p := p) s7)
          refine ⟨_, rfl, p, a, 5, rfl, hP.but b7 (v6.same s7), by decide, by decide, fun r H8 r0 r1 v8 b8 => ?_⟩
          obtain ⟨x, hx, mx⟩ := at_mem (xs := List.map V.str ["tie", "top", "first", "wait", "group"]) (m := 5) rfl r0 r1
          obtain ⟨y, hy, rfl⟩ := List.mem_map.mp mx
          refine .lst (.of (b8 _ _ nlz e7)) hx (hN _ _ ⟨y, rfl, ?_, ?_, v8, b7.trans b8⟩)
          · have : ∀ y ∈ (["tie", "top", "first", "wait", "group"] : List Str), ∀ c ∈ y.cps.toList, 97 ≤ c ∧ c ≤ 122 := by decide +kernel
            exact this y hy
          · have : ∀ y ∈ (["tie", "top", "first", "wait", "group"] : List Str), y.length ≤ 6 := by decide +kernel
            exact this y hy
        · exact hN _ _ ⟨z, rfl, hj, hz8, v6, b5.trans b6⟩
end
end K47
namespace K47
open PySem L2
section
variable {P : Program} {w : World} {K : PySem.W.Frag} {mg : Str → Option Value} {base : Heap}
theorem gYesL {x : V} {q : Addr} {u v : V} {σ : St} {H : Hp} {A B : St → Hp → Prop} (hx : x = .ref q) (hq : SqL K H q [u, v]) (h : A ((σ.set 0 (some u)).set 1 (some v)) H) :
    gLst K 2 (gCons (gName 0) (gCons (gName 1) gNil)) x σ H fun σ2 H3 => tYes σ2 H3 fun b H4 => if b = true then A σ2 H4 else B σ2 H4 := by
  subst hx
  refine ⟨q, _, rfl, hq, rfl, _, _, rfl, _, _, rfl, rfl, ?_⟩
  show (if true = true then A ((σ.set 0 (some u)).set 1 (some v)) H else B ((σ.set 0 (some u)).set 1 (some v)) H)
  rw [if_pos rfl]
  exact h
theorem repKnots_upd {H : Hp} {D : Addr} {xs ys : List V} {ks : Kn} {acc : List V} (hD : H D = some (.lst xs)) (rp : RepAll H acc (ks.map knotD)) : RepAll (upd H D (.lst ys)) acc (ks.map knotD) :=
  repBut_all (fun h => repBut_knot hD But.upd h) rp
noncomputable def spKnots (K : PySem.W.Frag) : Sp := fun vs H Q _ => ∃ (p a n : Addr) (us : List Str), vs = [.ref p, .ref n] ∧ DPen K H p a ∧ H n = some (.lst (List.map V.str us)) ∧ us.Nodup ∧ (∀ u ∈ us, Nm u) ∧ us.length ≤ 60 ∧
  ∀ q ks H', Rep H' (.ref q) (knotsD ks) → Tre us ks → ks.head?.map (·.1) = some ("" : Str) → DPV H' p a → But p H H' → Q (.ref q) H'
theorem scKnots : FnScope ["_law_pen_here", "_law_names_here", "_law_knots_here", "_law_deep", "_law_name", "_law_where"] ["_law_pen_here", "_law_names_here"] (defScope sLawKnots) := ⟨rfl, rfl, rfl, by decide +kernel, rfl, by decide +kernel, by decide +kernel⟩
theorem ok_knots {f : Addr} {fd : FuncData} (F : Fun K "_law_knots" "_law_knots" sLawKnots f fd) (B : Blt mg) (c_law_draw : Cal P w K mg base 1 "_law_draw" ["_law_pen_here", "_law_many"] (spDrw K)) : FnOk P w K mg base CX0 2 f fd ["_law_pen_here", "_law_names_here"] (spKnots K) := by
  refine F.ok scKnots (fun vs H Q E h => ?_) (fun cdv A outer s H vs Q E hr h => ?_)
  · obtain ⟨p, a, n, us, rfl, _⟩ := h
    rfl
  · obtain ⟨p, a, n, us, rfl, hP, hn, und, unm, ulen, k⟩ := h
    have nd := scKnots.nd
    have v0 := hP.2
    obtain ⟨ys0, hp0⟩ := v0.at_dK
    have hnp : n ≠ p := ne_of hn hp0 (by intro z; cases z)
    refine ⟨_, (pss_cons (ps_set (i := 2) nd rfl (Or.inl rfl) (pe_lst (pa_cons (pe_lst (pa_cons pe_str (pa_cons (pe_lst pa_nil) pa_nil))) pa_nil)))
      (pss_cons (ps_set (i := 3) nd rfl (Or.inl rfl) (pe_disp (pps_cons pe_str pe_int pps_nil) rfl rfl (by simp) (by decide)))
      (pss_cons (ps_for PassesOwn.never rfl (pi_listK K (pv 1)) (pg_name (i := 4) nd rfl (Or.inl rfl)) (pss_cons (ps_set (i := 5) nd rfl (Or.inl rfl) (pe_ix (ix_X K hr.units) (pv 2) (pe_cal c_law_draw (hr.mono (by decide)) rfl (pa_cons (pv 0) (pa_cons (b_len K B (pa_cons (pv 2) pa_nil)) pa_nil))) (fun _ _ => rfl)))
      (pss_cons (ps_expr (m_insert K (pe_ix (ix_X K hr.units) (pv 5) pe_int (fun _ _ => rfl)) (pa_cons (pe_cal c_law_draw (hr.mono (by decide)) rfl (pa_cons (pv 0) (pa_cons (pe_op op_addX (b_len K B (pa_cons (pe_ix (ix_X K hr.units) (pv 5) pe_int (fun _ _ => rfl)) pa_nil)) pe_int) pa_nil))) (pa_cons (pv 4) pa_nil))))
      (pss_one (ps_if (PW.pt (pw_and (pt_cmpR (op_eqX hr.units) (pe_cal c_law_draw (hr.mono (by decide)) rfl (pa_cons (pv 0) (pa_cons pe_int pa_nil))) pe_int (nomark _)) (pw_and1 (pt_cmpR op_ltX (pe_ix (ix_X K hr.units) (pv 3) (pe_ix (ix_X K hr.units) (pv 5) pe_int (fun _ _ => rfl)) (fun _ _ => rfl)) pe_int (nomark _))))) (pss_cons (ps_expr (m_append K (pv 2) (pa_cons (pe_lst (pa_cons (pv 4) (pa_cons (pe_lst pa_nil) pa_nil))) pa_nil)))
      (pss_one (ps_asg (pe_op op_addX (pe_ix (ix_X K hr.units) (pv 3) (pe_ix (ix_X K hr.units) (pv 5) pe_int (fun _ _ => rfl)) (fun _ _ => rfl)) pe_int) (pg_sub (pv 3) (pv 4) (set_X hr.units))))) pss_nil)))))
      (pss_one (ps_ret (b_tuple K B (pa_cons (pe_comp (defScope sLawKnots) ["_law_pen_here", "_law_names_here", "_law_knots_here", "_law_deep", "_law_name", "_law_where"] ["_law_name", "_law_inside"] [] ["_law_name", "_law_inside"] rfl (pi_listK K (pv 2)) (fun _ _ _ _ _ => (pg_lstK (n := 2) K rfl (pgs_cons (pg_name (i := 0) (show (["_law_name", "_law_inside"] : List Str).Nodup by decide) rfl (Or.inl rfl)) (pgs_cons (pg_name (i := 1) (show (["_law_name", "_law_inside"] : List Str).Nodup by decide) rfl (Or.inl rfl)) pgs_nil)))) (fun _ _ _ _ _ => pts_nil) (fun _ _ _ _ _ => (pe_tup (pa_cons (pv 0) (pa_cons (b_tuple K B (pa_cons (pv 1) pa_nil)) pa_nil))))) pa_nil))))))), ?_⟩
    have nn : ∀ u ∈ us, u ≠ "" := fun u hu z => by have := (unm u hu).1; rw [z] at this; exact absurd this (by decide)
    refine ⟨(by show 0 ≤ sizeLine; decide), fun l0 h0 => ?_⟩
    have b0 : But p H (upd H l0 (.lst [])) := (But.refl p H).at h0
    have e0 : upd H l0 (.lst []) l0 = some (.lst []) := upd_same
    have v1 : DPV (upd H l0 (.lst [])) p a := v0.upd (v0.ne h0)
    generalize upd H l0 (.lst []) = H1 at b0 e0 v1 ⊢
    refine nil_ ⟨(by show 2 ≤ sizeLine; decide), fun t0 ht0 => ?_⟩
    have s2 := Same.new (o := .lst [V.str "", V.ref l0]) ht0
    have et : upd H1 t0 (.lst [V.str "", V.ref l0]) t0 = some (.lst [V.str "", V.ref l0]) := upd_same
    have e0 := s2 _ _ e0
    have v2 := v1.same s2
    have b2 := b0.trans (But.of_same (p := p) s2)
    generalize upd H1 t0 (.lst [V.str "", V.ref l0]) = H2 at et e0 v2 b2 ⊢
    refine nil_ ⟨(by show 1 ≤ sizeLine; decide), fun L hL => ?_⟩
    have s3 := Same.new (o := .lst [V.ref t0]) hL
    have eL : upd H2 L (.lst [V.ref t0]) L = some (.lst [V.ref t0]) := upd_same
    have nL0 : l0 ≠ L := ne_of_none e0 hL
    have nLp : L ≠ p := Ne.symm (v2.ne hL)
    have e0 := s3 _ _ e0
    have et := s3 _ _ et
    have v3 := v2.same s3
    have b3 := b2.trans (But.of_same (p := p) s3)
    generalize upd H2 L (.lst [V.ref t0]) = H3 at eL et e0 v3 b3 ⊢
    have kls : KLL H3 L [(t0, l0, ("", []))] := ⟨eL, fun q hq => by rw [List.mem_singleton.mp hq]; exact et, fun q hq => by rw [List.mem_singleton.mp hq]; exact e0, by simp, fun q hq => by rw [List.mem_singleton.mp hq]; exact nL0⟩
    intro D hD
    refine ⟨upd_same, [(.inr "", .int 0)], rfl, (by decide), ?_⟩
    rw [upd_upd]
    have s4 := Same.new (o := .dK (mergeK [] [((.inr "" : Key), V.int 0)])) hD
    have eD : upd H3 D (.dK (mergeK [] [((.inr "" : Key), V.int 0)])) D = some (.dK [((.inr "" : Key), V.int 0)]) := upd_same
    have kls := kls.same s4
    have v4 := v3.same s4
    have b4 := b3.trans (But.of_same (p := p) s4)
    have nDp : D ≠ p := Ne.symm (v3.ne hD)
    have hf : H D = none := b3.free nDp hD
    generalize upd H3 D (.dK (mergeK [] [((.inr "" : Key), V.int 0)])) = H4 at eD kls v4 b4 ⊢
    have frL : H L = none := b2.free nLp hL
    refine ⟨_, rfl, n, rfl, ⟨_, .of (b4 n _ hnp hn)⟩, ?_⟩
    refine for_list (xs := List.map V.str us) (fun i σ H' => ∃ (o5 o6 : Option V) (kl : KL) (lv : List (Key × V)), σ = [some (.ref p), some (.ref n), some (.ref L), some (.ref D), o5, o6] ∧ KLL H' L kl ∧ TrN us i (ksOf kl) ∧ H' D = some (.dK lv) ∧ lv.length ≤ i + 1 ∧ kl.length ≤ i + 1 ∧ (∀ k ∈ ksOf kl, ∃ m : Int, valV lv (.inr k.1) = some (.int m)) ∧ (∀ q ∈ kl, H q.2.1 = none) ∧ (ksOf kl).head?.map (·.1) = some ("" : Str) ∧ DPV H' p a ∧ But p H H') ?_ ?_ ?_ ?_
    · refine ⟨none, none, _, _, rfl, kls, TrN.start, eD, Nat.le_refl _, Nat.le_refl _, fun k hk => ?_, fun q hq => ?_, rfl, v4, b4⟩
      · rw [List.mem_singleton.mp hk]
        exact ⟨0, rfl⟩
      · rw [List.mem_singleton.mp hq]; exact h0
    · rintro i σ H' hi ⟨o5, o6, kl, lv, rfl, _, _, _, _, _, _, _, _, _, b⟩
      exact .of (b n _ hnp hn)
    · rintro i x σ H5 hx ⟨o5, o6, kl, lv, rfl, kls, tr, hD5, hlv, hkl, lev, frs, hd5, v5, b5⟩
      obtain ⟨u, hu, rfl⟩ := str_get hx
      have hil := (List.getElem?_eq_some_iff.mp hu).1
      have hum := List.mem_of_getElem? hu
      obtain ⟨ys5, hp5⟩ := v5.at_dK
      have mlk : (kl.map fun q => V.ref q.1).length = kl.length := List.length_map ..
      have kpos : 0 < kl.length := by
        have := List.length_pos_of_mem tr.top
        rw [List.length_map, List.length_map] at this
        exact this
      refine ⟨_, rfl, _, rfl, _, rfl, _, _, rfl, Or.inl ⟨_, .of kls.l, rfl⟩, p, a, _, rfl, hP.but b5 v5, by rw [mlk]; omega, by rw [mlk]; omega, fun r H6 h60 h61 v6 b56 => ?_⟩
      have kls := kls.draw hp5 b56
      have hD6 : H6 D = some (.dK lv) := b56 D _ nDp hD5
      have b6 := b5.trans b56
      obtain ⟨j, rfl⟩ := Int.eq_ofNat_of_zero_le h60
      rw [mlk] at h61
      obtain ⟨⟨ta, la, nm, ch⟩, hj⟩ : ∃ q, kl[j]? = some q := ⟨_, List.getElem?_eq_getElem (by omega)⟩
      have hjm := List.mem_of_getElem? hj
      have hjk : (ksOf kl)[j]? = some (nm, ch) := by rw [List.getElem?_map, hj]; rfl
      have hta := kls.t _ hjm
      have hla := kls.c _ hjm
      have nla := kls.nl _ hjm
      refine .lst (.of kls.l) (atI_nat (by rw [List.getElem?_map, hj]; rfl)) ?_
      have chl : ch.length ≤ i := by
        have h1 := tr.perm.length_eq
        rw [List.length_take] at h1
        have h3 : ch.length ≤ (kids (ksOf kl)).length := by
          have := (List.sublist_flatten_of_mem (L := (ksOf kl).map (·.2)) (List.mem_map.mpr ⟨(nm, ch), List.mem_of_getElem? hjk, rfl⟩)).length_le
          rw [← List.flatMap_def] at this
          exact this
        omega
      have mlc : (List.map V.str ch).length = ch.length := List.length_map ..
      obtain ⟨ys6, hp6⟩ := v6.at_dK
      have a1 : atI [V.str nm, V.ref la] 1 = some (.ref la) := atI_nat (j := 1) rfl
      have a0 : atI [V.str nm, V.ref la] 0 = some (.str nm) := atI_nat (j := 0) rfl
      refine ⟨_, rfl, .lst (.of hta) a1 ⟨.inl ⟨rfl, _, .of hla⟩, _, rfl, _, rfl, .lst (.of hta) a1 ⟨_, _, rfl, Or.inl ⟨_, .of hla, rfl⟩, .int ⟨p, a, _, rfl, hP.but b6 v6, by rw [mlc]; omega, by rw [mlc]; omega, fun r2 H7 h70 h71 v7 b67 => ?_⟩⟩⟩⟩
      have kls := kls.draw hp6 b67
      have hD7 : H7 D = some (.dK lv) := b67 D _ nDp hD6
      have b7 := b6.trans b67
      have hla := kls.c _ hjm
      obtain ⟨m, rfl⟩ := Int.eq_ofNat_of_zero_le h70
      rw [mlc] at h71
      refine ⟨_, rfl, la, _, _, m, _, rfl, rfl, rfl, hla, by rw [mlc]; omega, by rw [mlc]; exact small1000 (by omega), ?_⟩
      have e8 : (List.map V.str ch).take m ++ V.str u :: (List.map V.str ch).drop m = List.map V.str (ch.take m ++ u :: ch.drop m) := by simp [List.map_take, List.map_drop]
      rw [e8]
      have pc := ins_perm' ch m u
      have tr2 := tr.step und hu hjk pc
      have kls := kls.put (ch' := ch.take m ++ u :: ch.drop m) hj
      have eks : ksOf (kl.set j (ta, la, (nm, ch.take m ++ u :: ch.drop m))) = (ksOf kl).set j (nm, ch.take m ++ u :: ch.drop m) := List.map_set ..
      have hta8 := kls.t _ (List.mem_of_getElem? (show (kl.set j (ta, la, (nm, ch.take m ++ u :: ch.drop m)))[j]? = some (ta, la, (nm, ch.take m ++ u :: ch.drop m)) by rw [List.getElem?_set_self (by omega)]))
      rw [← eks] at tr2
      have hD8 : upd H7 la (.lst (List.map V.str (ch.take m ++ u :: ch.drop m))) D = some (.dK lv) := by rw [upd_ne (ne_of hD7 hla (by intro z; cases z))]; exact hD7
      have npl : p ≠ la := by obtain ⟨ys7, hp7⟩ := v7.at_dK; exact ne_of hp7 hla (by intro z; cases z)
      have v8 := v7.upd (o := .lst (List.map V.str (ch.take m ++ u :: ch.drop m))) npl
      have b8 := b7.at (o := .lst (List.map V.str (ch.take m ++ u :: ch.drop m))) (frs _ hjm)
      generalize upd H7 la (.lst (List.map V.str (ch.take m ++ u :: ch.drop m))) = H8 at kls hD8 v8 b8 hta8 ⊢
      have e1 : ((kl.set j (ta, la, (nm, ch.take m ++ u :: ch.drop m))).map fun q => q.2.1) = kl.map fun q => q.2.1 := set_same hj rfl
      have en : ((ksOf (kl.set j (ta, la, (nm, ch.take m ++ u :: ch.drop m)))).map fun k => k.1) = (ksOf kl).map fun k => k.1 := by rw [eks]; exact set_same hjk rfl
      have hd8 : (ksOf (kl.set j (ta, la, (nm, ch.take m ++ u :: ch.drop m)))).head?.map (·.1) = some ("" : Str) := by
        rw [← List.head?_map, en, List.head?_map]; exact hd5
      have frs2 : ∀ q ∈ kl.set j (ta, la, (nm, ch.take m ++ u :: ch.drop m)), H q.2.1 = none := fun q hq => by
        have : q.2.1 ∈ kl.map fun q => q.2.1 := by rw [← e1]; exact List.mem_map.mpr ⟨q, hq, rfl⟩
        obtain ⟨q', hq', e⟩ := List.mem_map.mp this
        rw [← e]; exact frs q' hq'
      have lev2 : ∀ k ∈ ksOf (kl.set j (ta, la, (nm, ch.take m ++ u :: ch.drop m))), ∃ m : Int, valV lv (.inr k.1) = some (.int m) := fun k hk => by
        have : k.1 ∈ (ksOf kl).map fun k => k.1 := by rw [← en]; exact List.mem_map.mpr ⟨k, hk, rfl⟩
        obtain ⟨k', hk', e⟩ := List.mem_map.mp this
        rw [← e]; exact lev k' hk'
      have hnew : u ∉ (ksOf (kl.set j (ta, la, (nm, ch.take m ++ u :: ch.drop m)))).map (·.1) := fun z => by
        rw [en] at z
        obtain ⟨k', hk', e⟩ := List.mem_map.mp z
        rcases tr.sub k' hk' with q | q
        · exact nn u hum (e.symm.trans q)
        · rw [e] at q
          obtain ⟨m', hm'⟩ := List.getElem?_of_mem q
          have hml := (List.getElem?_eq_some_iff.mp hm').1
          rw [List.length_take] at hml
          rw [List.getElem?_take_of_lt (by omega)] at hm'
          have := (List.getElem?_inj (by omega) und).mp (hm'.trans hu.symm)
          omega
      have klen2 : (kl.set j (ta, la, (nm, ch.take m ++ u :: ch.drop m))).length ≤ i + 1 := by rw [List.length_set]; exact hkl
      obtain ⟨lm, hlm⟩ := lev (nm, ch) (List.mem_of_getElem? hjk)
      have a1' : atI [V.str nm, V.ref la] 0 = some (.str nm) := a0
      clear e8 eks en e1 lev frs hjk hj hjm tr hta hla nla
      generalize kl.set j (ta, la, (nm, ch.take m ++ u :: ch.drop m)) = kl2 at kls tr2 frs2 lev2 hnew klen2 hd8
      obtain ⟨ys8, hp8⟩ := v8.at_dK
      refine ⟨_, rfl, p, a, 4, rfl, hP.but b8 v8, by decide, by decide, fun r3 H9 h90 h91 v9 b89 => .sc rfl ⟨_, rfl, ?_⟩⟩
      have kls := kls.draw hp8 b89
      have hD9 : H9 D = some (.dK lv) := b89 D _ nDp hD8
      have hta9 : H9 ta = some (.lst [.str nm, .ref la]) := b89 _ _ (ne_of hta8 hp8 (by intro z; cases z)) hta8
      have b9 := b8.trans b89
      have fin : ∃ (o5 o6 : Option V) (kl : KL) (lv : List (Key × V)), [some (V.ref p), some (.ref n), some (.ref L), some (.ref D), some (.str u), some (.ref ta)] = [some (V.ref p), some (.ref n), some (.ref L), some (.ref D), o5, o6] ∧ KLL H9 L kl ∧ TrN us (i + 1) (ksOf kl) ∧ H9 D = some (.dK lv) ∧ lv.length ≤ i + 1 + 1 ∧ kl.length ≤ i + 1 + 1 ∧ (∀ k ∈ ksOf kl, ∃ m : Int, valV lv (.inr k.1) = some (.int m)) ∧ (∀ q ∈ kl, H q.2.1 = none) ∧ (ksOf kl).head?.map (·.1) = some ("" : Str) ∧ DPV H9 p a ∧ But p H H9 :=
        ⟨_, _, kl2, lv, rfl, kls, tr2, hD9, by omega, by omega, lev2, frs2, hd8, v9, b9⟩
      refine ite2 (fun _ => ?_) (fun _ => iteF fin)
      refine ⟨_, rfl, _, rfl, .lst (.of hta9) a0 (.dic (.inl ⟨lv, .inr nm, .inl hD9, rfl, hlm.symm⟩) (.int ⟨_, rfl, ite2 (fun _ => ?_) (fun _ => fin)⟩))⟩
      clear fin
      have ml2 : (kl2.map fun q => V.ref q.1).length = kl2.length := List.length_map ..
      refine ⟨_, rfl, .inl ⟨rfl, _, .of kls.l⟩, ?_⟩
      refine ⟨_, rfl, (by show 0 ≤ sizeLine; decide), fun ln hln => nil_ ⟨(by show 2 ≤ sizeLine; decide), fun tn htn => ?_⟩⟩
      have s1 := Same.new (o := .lst []) hln
      have el : upd H9 ln (.lst []) ln = some (.lst []) := upd_same
      have nlp : ln ≠ p := Ne.symm (v9.ne hln)
      have nlL : ln ≠ L := Ne.symm (ne_of_none kls.l hln)
      have nlk : ln ∉ kl2.map fun q => q.2.1 := fun z => by
        obtain ⟨q, hq, e⟩ := List.mem_map.mp z
        have := kls.c q hq
        rw [e, hln] at this; cases this
      have frl : H ln = none := b9.free nlp hln
      have kls := kls.same s1
      have hDC := s1 _ _ hD9
      have htC := s1 _ _ hta9
      have vC := v9.same s1
      have bC := b9.trans (But.of_same (p := p) s1)
      generalize upd H9 ln (.lst []) = HC at el kls hDC vC bC htn htC ⊢
      have s2 := Same.new (o := .lst [V.str u, V.ref ln]) htn
      have etn : upd HC tn (.lst [V.str u, V.ref ln]) tn = some (.lst [V.str u, V.ref ln]) := upd_same
      have el := s2 _ _ el
      have kls := kls.same s2
      have hDD := s2 _ _ hDC
      have htD := s2 _ _ htC
      have vD := vC.same s2
      have bD := bC.trans (But.of_same (p := p) s2)
      generalize upd HC tn (.lst [V.str u, V.ref ln]) = HD at el kls hDD vD bD etn htD ⊢
      refine nil_ ⟨L, _, _, rfl, rfl, kls.l, by rw [ml2]; exact small1000 (by omega), ?_⟩
      have hDE : upd HD L (.lst ((kl2.map fun q => V.ref q.1) ++ [V.ref tn])) D = some (.dK lv) := by rw [upd_ne (ne_of hDD kls.l (by intro z; cases z))]; exact hDD
      have htE : upd HD L (.lst ((kl2.map fun q => V.ref q.1) ++ [V.ref tn])) ta = some (.lst [.str nm, .ref la]) := by rw [upd_ne (ne_of htD kls.l ne_pr)]; exact htD
      have vE := vD.upd (o := .lst ((kl2.map fun q => V.ref q.1) ++ [V.ref tn])) (Ne.symm nLp)
      have bE := bD.at (o := .lst ((kl2.map fun q => V.ref q.1) ++ [V.ref tn])) frL
      have klsE := kls.add etn el nlk nlL
      generalize upd HD L (.lst ((kl2.map fun q => V.ref q.1) ++ [V.ref tn])) = HE at hDE vE bE klsE htE ⊢
      refine ⟨_, rfl, _, rfl, .lst (.of htE) a0 (.dic (.inl ⟨lv, .inr nm, .inl hDE, rfl, hlm.symm⟩) (.int ⟨_, rfl, _, rfl, .dic (DPut.k (k := .inr u) hDE (small1000 (by omega))) ?_⟩))⟩
      have levA : ∀ k : Str, (k = u ∨ ∃ m : Int, valV lv (.inr k) = some (.int m)) → ∃ m : Int, valV (putK lv (.inr u) (.int (lm + 1))) (.inr k) = some (.int m) := fun k hk => by
        rw [valV_put]
        by_cases q : k = u
        · rw [if_pos (by rw [q])]; exact ⟨_, rfl⟩
        · rw [if_neg (fun z => q (by injection z))]
          exact hk.resolve_left q
      have lvA := length_putK lv (.inr u) (V.int (lm + 1))
      have eks2 : ksOf (kl2 ++ [(tn, ln, (u, []))]) = ksOf kl2 ++ [(u, [])] := List.map_append
      refine ⟨_, _, kl2 ++ [(tn, ln, (u, []))], _, rfl, klsE.dic hDE, ?_, upd_same, by omega, by rw [List.length_append]; show kl2.length + 1 ≤ _; omega, fun k hk => ?_, fun q hq => ?_, ?_, vE.upd (Ne.symm nDp), bE.at hf⟩
      · rw [eks2]; exact tr2.addKnot und nn hu hnew
      · rw [eks2] at hk
        refine levA k.1 ?_
        rcases List.mem_append.mp hk with hk | hk
        · exact .inr (lev2 k hk)
        · rw [List.mem_singleton.mp hk]; exact .inl rfl
      · rcases List.mem_append.mp hq with hq | hq
        · exact frs2 q hq
        · rw [List.mem_singleton.mp hq]; exact frl
      · rw [eks2]
        cases q : ksOf kl2 with
        | nil => rw [q] at hd8; cases hd8
        | cons x r => rw [q] at hd8; exact hd8
    · rintro σ H5 ⟨o5, o6, kl, lv, rfl, kls, tr, hD5, hlv, hkl, lev, frs, hd5, v5, b5⟩
      rw [List.length_map] at tr hkl
      have T := tr.fin und unm ulen
      refine ⟨_, rfl, L, rfl, ⟨_, .of kls.l⟩, ?_⟩
      refine comp_list (kl.map fun q => V.ref q.1) (fun DD i acc σ' H' => ∃ o1 o2, σ' = [o1, o2] ∧ RepAll H' acc (((ksOf kl).take i).map knotD) ∧ Same H5 H' ∧ H5 DD = none) fun DD hDD => ⟨?_, ?_, ?_, ?_⟩
      · exact ⟨none, none, rfl, .nil, Same.new hDD, hDD⟩
      · rintro i acc σ' H' _ ⟨o1, o2, rfl, _, sm, _⟩ _
        exact .of (sm _ _ kls.l)
      · rintro i acc σ' H' x hx ⟨o1, o2, rfl, rp, sm, hDD0⟩ hacc
        obtain ⟨⟨ta, la, nm, ch⟩, hq, rfl⟩ : ∃ q : Addr × Addr × (Str × List Str), kl[i]? = some q ∧ V.ref q.1 = x := by
          rw [List.getElem?_map] at hx
          cases q : kl[i]? with
          | none => rw [q] at hx; cases hx
          | some e => rw [q] at hx; exact ⟨e, rfl, Option.some.inj hx⟩
        have hil := (List.getElem?_eq_some_iff.mp hq).1
        have hqm := List.mem_of_getElem? hq
        have ht := sm _ _ (kls.t _ hqm)
        have hc := sm _ _ (kls.c _ hqm)
        have al := rp.len
        rw [List.length_map, List.length_take, List.length_map] at al
        refine gYesL rfl (.of ht) ?_
        refine ⟨_, rfl, _, rfl, la, _, rfl, .of hc, fun lt hlt => nil_ ⟨(by show 2 ≤ sizeLine; decide), fun tt htt => ?_⟩⟩
        have s1 := Same.new (o := .tup (List.map V.str ch)) hlt
        have e1 : upd H' lt (.tup (List.map V.str ch)) lt = some (.tup (List.map V.str ch)) := upd_same
        generalize upd H' lt (.tup (List.map V.str ch)) = H6 at s1 e1 htt ⊢
        have s2 := Same.new (o := .tup [V.str nm, V.ref lt]) htt
        have e2 : upd H6 tt (.tup [V.str nm, V.ref lt]) tt = some (.tup [V.str nm, V.ref lt]) := upd_same
        have e1 := s2 _ _ e1
        have s12 := s1.trans s2
        generalize upd H6 tt (.tup [V.str nm, V.ref lt]) = H7 at s2 e2 e1 s12 ⊢
        have hacc7 := s12 _ _ hacc
        have nDD : ∀ {b : Addr} {o : HO}, H7 b = some o → (∀ xs, o ≠ .lst xs) → b ≠ DD := fun h n => ne_of h hacc7 (n _)
        refine ⟨hacc7, small1000 (by omega), _, _, rfl, ?_, same_at (sm.trans s12) hDD0, hDD0⟩
        have hk : (ksOf kl)[i]? = some (nm, ch) := by rw [List.getElem?_map, hq]; rfl
        rw [List.take_add_one, hk, List.map_append]
        refine RepAll.append ?_ (.cons (.tup (by rw [upd_ne (nDD e2 (fun _ z => by cases z))]; exact e2) (.cons (.str _) (.cons (.tup (by rw [upd_ne (nDD e1 (fun _ z => by cases z))]; exact e1) (RepAll.of_strs _)) .nil))) .nil)
        exact repKnots_upd hacc7 (rp.same s12)
      · rintro acc σ' H6 ⟨o1, o2, rfl, rp, s6, hDD0⟩ hacc
        rw [List.length_map, List.take_of_length_le (by rw [List.length_map]; exact Nat.le_refl _)] at rp
        refine nil_ ⟨DD, acc, rfl, .of hacc, fun q hq => ?_⟩
        have s7 := Same.new (o := .tup acc) hq
        exact k q (ksOf kl) _ (.tup upd_same (rp.same s7)) T hd5 (v5.same (s6.trans s7)) (b5.trans (But.of_same (s6.trans s7)))
end
end K47
namespace K47
open PySem L2
section
variable {P : Program} {w : World} {K : PySem.W.Frag} {mg : Str → Option Value} {base : Heap}
noncomputable def spLine (g : Kn → Str → List Str) : Sp := fun vs H Q _ => ∃ (kt : Addr) (us : List Str) (ks : Kn) (u : Str), vs = [.ref kt, .str u] ∧ Rep H (.ref kt) (knotsD ks) ∧ Tre us ks ∧ u ∈ us ∧ ∀ l H', Same H H' → H l = none → H' l = some (.lst (List.map V.str (g ks u))) → Q (.ref l) H'
theorem scLine : FnScope ["_law_knots_here", "_law_unit", "_law_line_here"] ["_law_knots_here", "_law_unit"] (defScope sLawLine) := ⟨rfl, rfl, rfl, by decide +kernel, rfl, by decide +kernel, by decide +kernel⟩
theorem par_head {ks : Kn} {us : List Str} {x : Str} (T : Tre us ks) (hx : x ∈ us) : ∃ r, (ks.filter fun k => decide (x ∈ k.2)).map (fun k => V.str k.1) = V.str (parK ks x) :: r := by
  obtain ⟨k, hk, hu⟩ := T.has hx
  have hm : k ∈ ks.filter fun k => decide (x ∈ k.2) := List.mem_filter.mpr ⟨hk, decide_eq_true hu⟩
  cases q : ks.filter fun k => decide (x ∈ k.2) with
  | nil => rw [q] at hm; cases hm
  | cons k' r =>
    have h' : k' ∈ ks.filter fun k => decide (x ∈ k.2) := by rw [q]; simp
    obtain ⟨h1, h2⟩ := List.mem_filter.mp h'
    refine ⟨r.map fun k => V.str k.1, ?_⟩
    rw [T.par h1 (of_decide_eq_true h2)]; rfl
theorem ok_line {f : Addr} {fd : FuncData} (F : Fun K "_law_line" "_law_line" sLawLine f fd) (B : Blt mg) : FnOk P w K mg base CX0 1 f fd ["_law_knots_here", "_law_unit"] (spLine fun ks u => tp (lin ks u)) := by
  refine F.ok scLine (fun vs H Q E h => ?_) (fun cdv A outer s H vs Q E hr h => ?_)
  · obtain ⟨kt, us, ks, u, rfl, _⟩ := h
    rfl
  · obtain ⟨kt, us, ks, u, rfl, rk, T, hu, k⟩ := h
    have nd := scLine.nd
    obtain ⟨_, refs, e, hkt, krp⟩ := knots_at rk
    cases e
    have kl := krp.len
    rw [List.length_map] at kl
    have few := T.few
    refine ⟨_, (pss_cons (ps_set (i := 2) nd rfl (Or.inr rfl) (pe_lst (pa_cons (pv 1) pa_nil)))
      (pss_cons (ps_while PassesOwn.never (pt_cmpR (op_neX hr.units) (pe_ix (ix_X K hr.units) (pv 2) pe_int (fun _ _ => rfl)) pe_str (nomark _)) (pss_one (ps_expr (m_insert K (pv 2) (pa_cons pe_int (pa_cons (pe_ix (ix_X K hr.units) (pe_comp (defScope sLawLine) ["_law_knots_here", "_law_unit", "_law_line_here"] ["_law_name", "_law_inside"] [2] ["_law_name", "_law_inside", "_law_line_here"] rfl (pi_tupK K (pv 0)) (fun _ _ _ _ _ => (pg_tupK (n := 2) K rfl (pgs_cons (pg_name (i := 0) (show (["_law_name", "_law_inside", "_law_line_here"] : List Str).Nodup by decide) rfl (Or.inl rfl)) (pgs_cons (pg_name (i := 1) (show (["_law_name", "_law_inside", "_law_line_here"] : List Str).Nodup by decide) rfl (Or.inl rfl)) pgs_nil)))) (fun _ _ _ _ _ => (pts_one (pt_cmpR (op_inX K hr.units) (pe_ix (ix_X K hr.units) (pv 2) pe_int (fun _ _ => rfl)) (pv 1) (by with_unfolding_all rfl)))) (fun _ _ _ _ _ => (pv 0))) pe_int (fun _ _ => rfl)) pa_nil))))))
      (pss_one (ps_ret (pv 2))))), ?_⟩
    refine ⟨_, rfl, (by show 1 ≤ sizeLine; decide), fun ll hll => ?_⟩
    have s0 := Same.new (o := .lst [V.str u]) hll
    refine ⟨fun m σ H' => ∃ (x : Str) (r : List Str), m = rkU us x ∧ σ = [some (.ref kt), some (.str u), some (.ref ll)] ∧ H' ll = some (.lst (List.map V.str (x :: r))) ∧ (x = "" ∨ x ∈ us) ∧ tp (lin ks u) = tp (lin ks x) ++ r ∧ Same H H',
      ⟨_, u, [], rfl, rfl, upd_same, .inr hu, (List.append_nil _).symm, s0⟩, ?_⟩
    rintro m σ H1 ⟨x, r, rfl, rfl, hl1, hx, hlin, s1⟩
    have pl := T.lin_len u (.inr hu)
    have p60 := T.rk60 hu
    have hlen := congrArg List.length hlin
    rw [List.length_append, List.length_cons, List.length_cons] at hlen
    refine ⟨_, rfl, .lst (.of hl1) at0 (.sc rfl ⟨_, rfl, ?_⟩)⟩
    refine ite2 (fun h => ?_) (fun h => ?_)
    · have hne : x ≠ "" := fun z => by rw [z] at h; exact absurd h (by decide)
      have hx := hx.resolve_left hne
      have hrk := T.rk hx
      refine ⟨fun σ' H' => ∃ (y : Str) (r : List Str), rkU us y < rkU us x ∧ σ' = [some (.ref kt), some (.str u), some (.ref ll)] ∧ H' ll = some (.lst (List.map V.str (y :: r))) ∧ (y = "" ∨ y ∈ us) ∧ tp (lin ks u) = tp (lin ks y) ++ r ∧ Same H H',
        fun σ' H' ⟨y, r, h1, h2⟩ => ⟨_, h1, y, r, rfl, h2⟩, ?_⟩
      have hkt1 := s1 _ _ hkt
      refine ⟨_, rfl, .inl ⟨rfl, _, .of hl1⟩, _, rfl, kt, rfl, ⟨_, .of hkt1⟩, ?_⟩
      refine comp_tup refs (fun D i acc σ' H' => ∃ o1 o2, σ' = [o1, o2, some (.ref ll)] ∧ acc = ((ks.take i).filter fun k => decide (x ∈ k.2)).map (fun k => V.str k.1) ∧ Same H1 H' ∧ H1 D = none) fun D hD => ⟨?_, ?_, ?_, ?_⟩
      · exact ⟨none, none, rfl, rfl, Same.new hD, hD⟩
      · rintro i acc σ' H' _ ⟨o1, o2, rfl, _, sm, _⟩ _
        exact .of (sm _ _ hkt1)
      · rintro i acc σ' H' v hv ⟨o1, o2, rfl, rfl, sm, hD0⟩ hacc
        obtain ⟨kn, ta, la, hki, rfl, hta, hla⟩ := knot_get (krp.same (s1.trans sm)) hv
        have hil := (List.getElem?_eq_some_iff.mp hki).1
        have fl : (((ks.take i).filter fun k => decide (x ∈ k.2)).map (fun k => V.str k.1)).length ≤ 61 := by
          rw [List.length_map]
          refine Nat.le_trans (List.length_filter_le ..) ?_
          rw [List.length_take]; omega
        refine ⟨ta, _, rfl, .of hta, rfl, _, _, rfl, _, _, rfl, rfl, ?_⟩
        refine ⟨_, rfl, .lst (.of (sm _ _ hl1)) at0 ⟨_, rfl, .seq (.inr (.of hla)) rfl (flat_strs _) ⟨_, rfl, ?_⟩⟩⟩
        show if inV (V.str x) (List.map V.str kn.2) = true then _ else _
        rw [in_strs]
        have tk : (ks.take (i + 1)).filter (fun k => decide (x ∈ k.2)) = (ks.take i).filter (fun k => decide (x ∈ k.2)) ++ if decide (x ∈ kn.2) = true then [kn] else [] := by
          rw [List.take_add_one, hki, List.filter_append]
          by_cases q : x ∈ kn.2 <;> simp [q]
        refine ite2 (fun h => ?_) (fun h => ?_)
        · rw [if_pos h] at tk
          exact ⟨_, rfl, hacc, small1000 (by omega), _, _, rfl, by rw [tk, List.map_append]; rfl, same_at sm hD0, hD0⟩
        · rw [if_neg h, List.append_nil] at tk
          exact ⟨hacc, _, _, rfl, by rw [tk], sm, hD0⟩
      · rintro acc σ' H2 ⟨o1, o2, rfl, rfl, s2, hD0⟩ hacc
        rw [kl, List.take_of_length_le (Nat.le_refl _)] at hacc
        obtain ⟨rr, er⟩ := par_head T hx
        rw [er] at hacc
        refine .lst (.of hacc) at0 (nil_ ⟨ll, _, _, 0, _, rfl, rfl, rfl, s2 _ _ hl1, Nat.zero_le _, by rw [List.length_map, List.length_cons]; exact small1000 (by omega), ?_⟩)
        refine ⟨parK ks x, x :: r, hrk, rfl, upd_same, (T.par_in hx).1, ?_, same_at (s1.trans s2) hll⟩
        rw [hlin, T.lin hx]
        show ("" : Str) :: (_ ++ _) ++ _ = ("" : Str) :: _ ++ _
        simp
    · have hz : x = "" := Classical.byContradiction fun z => h (by rw [if_pos rfl, decide_eq_false (fun q => z (V.str.inj q))]; rfl)
      subst hz
      refine ⟨_, rfl, k ll _ s1 hll ?_⟩
      show H1 ll = some (.lst (List.map V.str (tp (lin ks u))))
      rw [hlin]; exact hl1
end
end K47
namespace K47
open PySem L2
section
variable {P : Program} {w : World} {K : PySem.W.Frag} {mg : Str → Option Value} {base : Heap}
theorem str_at {ss : List Str} {i : Nat} (h : i < ss.length) : atI (List.map V.str ss) (i : Int) = some (.str (ss.getD i "")) := atI_nat (by simp [h, List.getD_eq_getElem?_getD])
noncomputable def spLPart : Sp := fun vs H Q _ => ∃ (kt : Addr) (us : List Str) (ks : Kn) (u v : Str), vs = [.ref kt, .str u, .str v] ∧ Rep H (.ref kt) (knotsD ks) ∧ Tre us ks ∧ u ∈ us ∧ v ∈ us ∧ ∀ x H', Same H H' → PrtV H' x (partO ks u v) → Q x H'
theorem scLPart : FnScope ["_law_knots_here", "_law_one", "_law_other", "_law_ones", "_law_others", "_law_k"] ["_law_knots_here", "_law_one", "_law_other"] (defScope sLawPart) := ⟨rfl, rfl, rfl, by decide +kernel, rfl, by decide +kernel, by decide +kernel⟩
theorem ok_lpart {f : Addr} {fd : FuncData} (F : Fun K "_law_part" "_law_part" sLawPart f fd) (B : Blt mg) (c_law_line : Cal P w K mg base 1 "_law_line" ["_law_knots_here", "_law_unit"] (spLine fun ks u => tp (lin ks u))) : FnOk P w K mg base CX0 2 f fd ["_law_knots_here", "_law_one", "_law_other"] spLPart := by
  refine F.ok scLPart (fun vs H Q E h => ?_) (fun cdv A outer s H vs Q E hr h => ?_)
  · obtain ⟨d, us, ks, u, v, rfl, _⟩ := h
    rfl
  · obtain ⟨d, us, ks, u, v, rfl, hd, T, hu, hv, k⟩ := h
    have nd := scLPart.nd
    refine ⟨_, (pss_cons (ps_set (i := 3) nd rfl (Or.inl rfl) (pe_cal c_law_line (hr.mono (by decide)) rfl (pa_cons (pv 0) (pa_cons (pv 1) pa_nil))))
      (pss_cons (ps_set (i := 4) nd rfl (Or.inl rfl) (pe_cal c_law_line (hr.mono (by decide)) rfl (pa_cons (pv 0) (pa_cons (pv 2) pa_nil))))
      (pss_cons (ps_set (i := 5) nd rfl (Or.inl rfl) pe_int)
      (pss_cons (ps_while PassesOwn.never (PW.pt (pw_and (pt_cmpR op_ltX (pv 5) (b_min rfl B (pa_cons (b_len K B (pa_cons (pv 3) pa_nil)) (pa_cons (b_len K B (pa_cons (pv 4) pa_nil)) pa_nil))) (nomark _)) (pw_and1 (pt_cmpR (op_eqX hr.units) (pe_ix (ix_X K hr.units) (pv 3) (pv 5) (fun _ _ => rfl)) (pe_ix (ix_X K hr.units) (pv 4) (pv 5) (fun _ _ => rfl)) (nomark _))))) (pss_one (ps_set (i := 5) nd rfl (Or.inl rfl) (pe_op op_addX (pv 5) pe_int))))
      (pss_cons (ps_if (pt_cmpR (op_eqX hr.units) (pv 5) (b_min rfl B (pa_cons (b_len K B (pa_cons (pv 3) pa_nil)) (pa_cons (b_len K B (pa_cons (pv 4) pa_nil)) pa_nil))) (nomark _)) (pss_one (ps_ret pe_non)) pss_nil)
      (pss_one (ps_ret (pe_tup (pa_cons (pe_ix (ix_X K hr.units) (pv 3) (pe_op op_sub (pv 5) pe_int) (fun _ _ => rfl)) (pa_cons (pe_ix (ix_X K hr.units) (pv 3) (pv 5) (fun _ _ => rfl)) (pa_cons (pe_ix (ix_X K hr.units) (pv 4) (pv 5) (fun _ _ => rfl)) pa_nil))))))))))), ?_⟩
    refine ⟨_, rfl, _, rfl, d, us, ks, u, rfl, hd, T, hu, fun la H1 s1 hla0 hla => ?_⟩
    refine ⟨_, rfl, _, rfl, d, us, ks, v, rfl, hd.same s1, T, hv, fun lb H2 s2 hlb0 hlb => ?_⟩
    have hla2 := s2 _ _ hla
    have s12 := s1.trans s2
    have n1 : (List.map V.str (tp (lin ks u))).length = (lin ks u).length + 1 := by rw [List.length_map, List.length_cons]
    have n2 : (List.map V.str (tp (lin ks v))).length = (lin ks v).length + 1 := by rw [List.length_map, List.length_cons]
    refine ⟨fun m σ H' => ∃ i : Nat, m = (lin ks u).length + 2 - i ∧ σ = [some (.ref d), some (.str u), some (.str v), some (.ref la), some (.ref lb), some (.int (i : Int))] ∧ i ≤ min ((lin ks u).length + 1) ((lin ks v).length + 1) ∧ Gon (lin ks u) (lin ks v) i ∧ H' = H2,
      ⟨_, 0, rfl, rfl, Nat.zero_le _, .inl rfl, rfl⟩, ?_⟩
    rintro m σ H3 ⟨i, rfl, rfl, hi, gon, rfl⟩
    have emn : ∀ a b : Nat, (if ((b : Nat) : Int) < ((a : Nat) : Int) then ((b : Nat) : Int) else ((a : Nat) : Int)) = ((min a b : Nat) : Int) := fun a b => by split <;> omega
    refine ⟨_, rfl, _, rfl, _, _, rfl, Or.inl ⟨_, .of hla2, rfl⟩, _, rfl, _, _, rfl, Or.inl ⟨_, .of hlb, rfl⟩, _, _, rfl, .int ⟨_, rfl, ?_⟩⟩
    rw [n1, n2, emn]
    have mn : ∀ j, j < min ((lin ks u).length + 1) ((lin ks v).length + 1) → ∃ x y, (tp (lin ks u))[j]? = some x ∧ (tp (lin ks v))[j]? = some y := fun j hj =>
      ⟨_, _, List.getElem?_eq_getElem (by rw [List.length_cons]; omega), List.getElem?_eq_getElem (by rw [List.length_cons]; omega)⟩
    refine ite2 (fun h => ?_) (fun h => ?_)
    · have h : (i : Int) < ((min ((lin ks u).length + 1) ((lin ks v).length + 1) : Nat) : Int) := of_decide_eq_true h
      have hi : i < min ((lin ks u).length + 1) ((lin ks v).length + 1) := by omega
      obtain ⟨x, y, hx, hy⟩ := mn i hi
      have ax : atI (List.map V.str (tp (lin ks u))) (i : Int) = some (.str x) := atI_nat (by rw [List.getElem?_map, hx]; rfl)
      have ay : atI (List.map V.str (tp (lin ks v))) (i : Int) = some (.str y) := atI_nat (by rw [List.getElem?_map, hy]; rfl)
      refine ⟨_, rfl, _, rfl, .lst (.of hla2) ax ⟨_, rfl, _, rfl, .lst (.of hlb) ay (.sc rfl ⟨_, rfl, ?_⟩)⟩⟩
      refine ite2 (fun hc => ?_) (fun hc => ?_)
      · have he : x = y := Classical.byContradiction fun z => by rw [if_neg (by decide), decide_eq_false (fun q => z (V.str.inj q))] at hc; cases hc
        subst he
        refine ⟨fun σ' H' => σ' = [some (.ref d), some (.str u), some (.str v), some (.ref la), some (.ref lb), some (.int ((i + 1 : Nat) : Int))] ∧ H' = H3, fun σ' H' ⟨h1, h2⟩ => ⟨(lin ks u).length + 2 - (i + 1), by omega, i + 1, rfl, h1, by omega, gon.step hx hy, h2⟩, ?_⟩
        exact ⟨_, rfl, .int ⟨rfl, rfl⟩⟩
      · have hne : x ≠ y := fun z => hc (by rw [z, if_neg (by decide), decide_eq_true rfl])
        obtain ⟨h1, hp⟩ := gon.part hx hy hne
        refine ⟨_, rfl, _, rfl, _, _, rfl, Or.inl ⟨_, .of hla2, rfl⟩, _, rfl, _, _, rfl, Or.inl ⟨_, .of hlb, rfl⟩, _, _, rfl, .sc rfl ⟨_, rfl, ?_⟩⟩
        rw [n1, n2, emn]
        refine ite2 (fun h => ?_) (fun _ => ?_)
        · exfalso
          have h : V.int (i : Int) = V.int ((min ((lin ks u).length + 1) ((lin ks v).length + 1) : Nat) : Int) := of_decide_eq_true h
          have := V.int.inj h
          omega
        · have aq : atI (List.map V.str (tp (lin ks u))) ((i : Int) - 1) = some (.str ((tp (lin ks u)).getD (i - 1) "")) := by
            rw [show (i : Int) - 1 = ((i - 1 : Nat) : Int) by omega]
            exact str_at (by rw [List.length_cons]; omega)
          refine ⟨_, rfl, _, rfl, _, _, rfl, rfl, .lst (.of hla2) aq ⟨_, rfl, _, rfl, .lst (.of hla2) ax ⟨_, rfl, _, rfl, .lst (.of hlb) ay ⟨(by show 3 ≤ sizeLine; decide), fun t ht => ?_⟩⟩⟩⟩
          refine k (.ref t) _ (s12.trans (Same.new ht)) ?_
          show PrtV _ _ (prt "" (lin ks u) (lin ks v))
          rw [hp]
          exact ⟨t, rfl, upd_same⟩
    · have h : ¬ (i : Int) < ((min ((lin ks u).length + 1) ((lin ks v).length + 1) : Nat) : Int) := fun z => h (decide_eq_true z)
      have hz := gon.stop (by omega)
      refine iteF ?_
      refine ⟨_, rfl, _, rfl, _, _, rfl, Or.inl ⟨_, .of hla2, rfl⟩, _, rfl, _, _, rfl, Or.inl ⟨_, .of hlb, rfl⟩, _, _, rfl, .sc rfl ⟨_, rfl, ?_⟩⟩
      rw [n1, n2, emn]
      refine ite2 (fun _ => ?_) (fun h2 => ?_)
      · refine k .non H3 s12 ?_
        show PrtV _ _ (prt "" (lin ks u) (lin ks v))
        rw [hz]; rfl
      · exfalso
        refine h2 ?_
        rw [if_neg (by decide), decide_eq_true_iff]
        congr 1
        omega
end
end K47
namespace K47
open PySem L2
section
variable {P : Program} {w : World} {K : PySem.W.Frag} {mg : Str → Option Value} {base : Heap}
theorem scReached : FnScope ["_law_edges_here", "_law_one", "_law_found", "_law_at", "_law_first", "_law_other"] ["_law_edges_here", "_law_one"] (defScope sReached) := ⟨rfl, rfl, rfl, by decide +kernel, rfl, by decide +kernel, by decide +kernel⟩
noncomputable def spReachL : Sp := fun vs H Q _ => ∃ (wq : Addr) (refs : List V) (ss : List Str) (ts : List (Str × Str)) (one : Str), vs = [.ref wq, .str one] ∧ H wq = some (.lst refs) ∧ RepAll H refs (ts.map pairD) ∧ (∀ e ∈ ts, e.1 ∈ ss ∧ e.2 ∈ ss) ∧ one ∈ ss ∧ ss.length ≤ 60 ∧
  ∀ l (seen : List Str) H', Same H H' → H l = none → H' l = some (.lst (List.map V.str seen)) → (∀ t, t ∈ seen ↔ MG.Rch (Tie ts) one t) → seen.length ≤ 60 → Q (.ref l) H'
theorem ok_reachL {f : Addr} {fd : FuncData} (F : Fun K "_law_reached" "_law_reached" sReached f fd) (B : Blt mg) : FnOk P w K mg base CX0 1 f fd ["_law_edges_here", "_law_one"] spReachL := by
  refine F.ok scReached (fun vs H Q E h => ?_) (fun cdv A outer s H vs Q E hr h => ?_)
  · obtain ⟨wq, refs, ss, ts, one, rfl, _⟩ := h
    rfl
  · obtain ⟨wq, refs, ss, ts, one, rfl, hb, rp, hev, hone, hn, k⟩ := h
    have nd := scReached.nd
    refine ⟨_, (pss_cons (ps_set (i := 2) nd rfl (Or.inl rfl) (pe_lst (pa_cons (pv 1) pa_nil)))
      (pss_cons (ps_set (i := 3) nd rfl (Or.inl rfl) pe_int)
      (pss_cons (ps_while PassesOwn.never (pt_cmpR op_ltX (pv 3) (b_len K B (pa_cons (pv 2) pa_nil)) (nomark _)) (pss_cons (ps_for PassesOwn.never rfl (pi_listK K (pv 0)) (pg_tupK (n := 2) K rfl (pgs_cons (pg_name (i := 4) nd rfl (Or.inl rfl)) (pgs_cons (pg_name (i := 5) nd rfl (Or.inl rfl)) pgs_nil))) (pss_one (ps_if (PW.pt (pw_and (pt_cmpR (op_eqX hr.units) (pv 4) (pe_ix (ix_X K hr.units) (pv 2) (pv 3) (fun _ _ => rfl)) (nomark _)) (pw_and1 (pt_cmpR (op_notInX K hr.units) (pv 5) (pv 2) (by with_unfolding_all rfl))))) (pss_one (ps_expr (m_append K (pv 2) (pa_cons (pv 5) pa_nil)))) pss_nil)))
      (pss_one (ps_set (i := 3) nd rfl (Or.inl rfl) (pe_op op_addX (pv 3) pe_int)))))
      (pss_one (ps_ret (pv 2)))))), ?_⟩
    have rlen := rp.len
    rw [List.length_map] at rlen
    refine ⟨_, rfl, (by show 1 ≤ sizeLine; decide), fun l0 hl0 => ?_⟩
    have inn : ∀ y, MG.Rch (Tie ts) one y → y ∈ ss := fun y r => MG.Rch.closed (S := fun y => y ∈ ss) hone (fun a b _ r => (hev _ r).2) r
    refine ⟨fun m σ H' => ∃ (at_ : Nat) (seen : List Str) (o4 o5 : Option V), m + at_ = ss.length ∧ σ = [some (.ref wq), some (.str one), some (.ref l0), some (.int ((at_ : Nat) : Int)), o4, o5] ∧ Same H H' ∧ H' l0 = some (.lst (List.map V.str seen)) ∧ seen.Nodup ∧ (∀ x ∈ seen, MG.Rch (Tie ts) one x) ∧ one ∈ seen ∧ at_ ≤ seen.length ∧ ∀ i x, i < at_ → seen[i]? = some x → ∀ y, (x, y) ∈ ts → y ∈ seen,
      ⟨ss.length, 0, [one], none, none, by omega, rfl, Same.new hl0, upd_same, by simp, (fun x hx => (show x = one by simpa using hx) ▸ MG.Rch.refl), by simp, by omega, fun i x hi => by omega⟩, ?_⟩
    rintro m σ H1 ⟨at_, seen, o4, o5, hm, rfl, sm, hs, hnd, hrc, hmem, hat, hclo⟩
    have hsn : seen.length ≤ ss.length := hnd.length_le_of_subset fun x hx => inn x (hrc x hx)
    have hln : (List.map V.str seen).length = seen.length := List.length_map ..
    refine ⟨_, rfl, _, rfl, _, _, rfl, Or.inl ⟨_, .of hs, rfl⟩, .int ⟨_, rfl, ?_⟩⟩
    refine ite2 (fun hc => ?_) (fun hc => ?_)
    · have hc : (at_ : Int) < ((List.map V.str seen).length : Nat) := of_decide_eq_true hc
      have hlt : at_ < seen.length := by omega
      obtain ⟨z, hz⟩ : ∃ z, seen[at_]? = some z := ⟨_, List.getElem?_eq_getElem hlt⟩
      have rz := hrc z (List.mem_of_getElem? hz)
      refine ⟨fun σ' H' => ∃ (seen : List Str) (o4 o5 : Option V), σ' = [some (.ref wq), some (.str one), some (.ref l0), some (.int ((at_ + 1 : Nat) : Int)), o4, o5] ∧ Same H H' ∧ H' l0 = some (.lst (List.map V.str seen)) ∧ seen.Nodup ∧ (∀ x ∈ seen, MG.Rch (Tie ts) one x) ∧ one ∈ seen ∧ at_ + 1 ≤ seen.length ∧ ∀ i x, i < at_ + 1 → seen[i]? = some x → ∀ y, (x, y) ∈ ts → y ∈ seen,
        fun σ' H' ⟨seen, o4, o5, p⟩ => ⟨m - 1, by omega, at_ + 1, seen, o4, o5, by omega, p⟩, ?_⟩
      refine ⟨_, rfl, wq, rfl, ⟨_, .of (sm _ _ hb)⟩, ?_⟩
      refine for_list (xs := refs) (fun j σ H' => ∃ (seen : List Str) (o4 o5 : Option V), σ = [some (.ref wq), some (.str one), some (.ref l0), some (.int ((at_ : Nat) : Int)), o4, o5] ∧ Same H H' ∧ H' l0 = some (.lst (List.map V.str seen)) ∧ seen.Nodup ∧ (∀ x ∈ seen, MG.Rch (Tie ts) one x) ∧ one ∈ seen ∧ at_ < seen.length ∧ seen[at_]? = some z ∧ (∀ i x, i < at_ → seen[i]? = some x → ∀ y, (x, y) ∈ ts → y ∈ seen) ∧ ∀ f ∈ ts.take j, f.1 = z → f.2 ∈ seen) ?_ ?_ ?_ ?_
      · exact ⟨seen, o4, o5, rfl, sm, hs, hnd, hrc, hmem, hlt, hz, hclo, fun e he => by simp at he⟩
      · rintro j σ H' hj ⟨seen, o4, o5, rfl, sm, _⟩
        exact .of (sm _ _ hb)
      · rintro j x σ H' hx ⟨seen, o4, o5, rfl, sm, hs, hnd, hrc, hmem, hlt, hz, hclo, hdn⟩
        obtain ⟨d, hd, rd⟩ := (rp.same sm).get hx
        rw [List.getElem?_map] at hd
        obtain ⟨e, he, rfl⟩ : ∃ e, ts[j]? = some e ∧ pairD e = d := by
          cases q : ts[j]? with
          | none => rw [q] at hd; cases hd
          | some e => rw [q] at hd; exact ⟨e, rfl, Option.some.inj hd⟩
        obtain ⟨ta, rfl, hta⟩ := pair_at rd
        have hem := List.mem_of_getElem? he
        have hsn : seen.length ≤ ss.length := hnd.length_le_of_subset fun x hx => inn x (hrc x hx)
        have skip : (e.1 = z → e.2 ∈ seen) → ∀ f ∈ ts.take (j + 1), f.1 = z → f.2 ∈ seen := fun h f hf q => by
          rw [List.take_add_one, he, List.mem_append] at hf
          rcases hf with hf | hf
          · exact hdn f hf q
          · have : f = e := by simpa using hf
            subst this; exact h q
        have zat : atI (List.map V.str seen) (at_ : Int) = some (.str z) := atI_nat (by rw [List.getElem?_map, hz]; rfl)
        refine ⟨ta, _, rfl, .of hta, rfl, _, _, rfl, _, _, rfl, rfl, ?_⟩
        refine ⟨_, rfl, _, rfl, _, rfl, .lst (.of hs) zat (.sc rfl ⟨_, rfl, ?_⟩)⟩
        refine ite2 (fun h1 => ?_) (fun h1 => ?_)
        · have h1 : e.1 = z := V.str.inj (of_decide_eq_true h1)
          refine ⟨_, rfl, _, rfl, .seq (.inl (.of hs)) rfl (flat_strs _) ⟨_, rfl, ?_⟩⟩
          rw [in_strs]
          refine ite2 (fun h2 => ?_) (fun h2 => ?_)
          · have h2 : e.2 ∉ seen := by simpa using h2
            refine ⟨_, rfl, .inl ⟨rfl, _, .of hs⟩, ?_⟩
            refine ⟨_, rfl, l0, _, _, rfl, rfl, hs, by rw [List.length_map]; exact small1000 (by omega), ?_⟩
            refine ⟨seen ++ [e.2], _, _, rfl, ?_, ?_, ?_, ?_, ?_, ?_, ?_, ?_, ?_⟩
            · intro c o hc
              rw [upd_ne (ne_of_none hc hl0)]
              exact sm _ _ hc
            · rw [upd_same]; simp
            · rw [List.nodup_append]
              refine ⟨hnd, by simp, fun a ha b hb => ?_⟩
              have : b = e.2 := by simpa using hb
              subst this
              rintro rfl
              exact h2 ha
            · intro x hx
              rcases List.mem_append.mp hx with hx | hx
              · exact hrc x hx
              · have : x = e.2 := by simpa using hx
                subst this
                exact MG.Rch.step rz (by rw [← h1]; exact hem)
            · exact List.mem_append_left _ hmem
            · simp; omega
            · rw [List.getElem?_append_left hlt]; exact hz
            · intro i x hi hx y hy
              rw [List.getElem?_append_left (by omega)] at hx
              exact List.mem_append_left _ (hclo i x hi hx y hy)
            · intro f hf q
              rw [List.take_add_one, he, List.mem_append] at hf
              rcases hf with hf | hf
              · exact List.mem_append_left _ (hdn f hf q)
              · have : f = e := by simpa using hf
                subst this; simp
          · have h2 : e.2 ∈ seen := by simpa using h2
            exact ⟨seen, _, _, rfl, sm, hs, hnd, hrc, hmem, hlt, hz, hclo, skip fun _ => h2⟩
        · have h1 : e.1 ≠ z := fun q => h1 (decide_eq_true (by rw [q]))
          exact iteF ⟨seen, _, _, rfl, sm, hs, hnd, hrc, hmem, hlt, hz, hclo, skip fun q => absurd q h1⟩
      · rintro σ H' ⟨seen, o4, o5, rfl, sm, hs, hnd, hrc, hmem, hlt, hz, hclo, hdn⟩
        rw [rlen, List.take_of_length_le (Nat.le_refl _)] at hdn
        refine ⟨_, rfl, .int ⟨seen, o4, o5, rfl, sm, hs, hnd, hrc, hmem, hlt, fun i x hi hx y hy => ?_⟩⟩
        by_cases q : i < at_
        · exact hclo i x q hx y hy
        · have : i = at_ := by omega
          subst this
          rw [hz] at hx
          cases hx
          exact hdn _ hy rfl
    · have hc : ¬ (at_ : Int) < ((List.map V.str seen).length : Nat) := fun q => hc (decide_eq_true q)
      refine ⟨_, rfl, k l0 seen H1 sm hl0 hs (fun t => ⟨hrc t, fun r => ?_⟩) (by omega)⟩
      refine MG.Rch.closed (S := fun y => y ∈ seen) hmem (fun a b ha r => ?_) r
      obtain ⟨j, hj, ej⟩ := List.mem_iff_getElem.mp ha
      exact hclo j a (by omega) (by rw [List.getElem?_eq_getElem hj, ej]) b r
end
end K47
namespace K47
open PySem L2
section
variable {P : Program} {w : World} {K : PySem.W.Frag} {mg : Str → Option Value} {base : Heap}
noncomputable abbrev Prs := List (Str × Str)
noncomputable def PsIn (us : List Str) (ps : List (Str × Str)) : Prop := ∀ e ∈ ps, e.1 ∈ us ∧ e.2 ∈ us
noncomputable def TsI (us : List Str) (ks : Kn) (ts : List (Str × Str)) : Prop := ∀ e ∈ ts, e.1 ∈ us ∧ e.2 ∈ us ∧ (partO ks e.1 e.2).isSome = true
structure Fnd (H H' : Hp) (lf : Addr) (us : List Str) (fr : List V) (ps : List (Str × Str)) (n : Nat) : Prop where
  f : H' lf = some (.lst fr)
  r : RepAll H' fr (ps.map pairD)
  i : PsIn us ps
  l : ps.length ≤ n
  s : Same H H'
theorem Fnd.more {H H' H2 : Hp} {lf : Addr} {us : List Str} {fr : List V} {ps : List (Str × Str)} {n m : Nat} (h : Fnd H H' lf us fr ps n) (s : Same H' H2) (hm : n ≤ m) : Fnd H H2 lf us fr ps m := ⟨s _ _ h.f, h.r.same s, h.i, Nat.le_trans h.l hm, h.s.trans s⟩
theorem Fnd.app {H H' : Hp} {lf t : Addr} {us : List Str} {fr : List V} {ps : List (Str × Str)} {n : Nat} {x y : Str} (h : Fnd H H' lf us fr ps n) (ht : H' t = some (.tup [.str x, .str y])) (hx : x ∈ us) (hy : y ∈ us) (hl : H lf = none) : Fnd H (upd H' lf (.lst (fr ++ [.ref t]))) lf us (fr ++ [.ref t]) (ps ++ [(x, y)]) (n + 1) := by
  refine ⟨upd_same, ?_, fun e he => ?_, by rw [List.length_append]; have := h.l; show _ + 1 ≤ _; omega, same_at h.s hl⟩
  · rw [List.map_append]
    exact RepAll.append (repBut_all (repBut_pair h.f But.upd) h.r) (.cons (repBut_pair h.f But.upd (pair_rep ht)) .nil)
  · rcases List.mem_append.mp he with q | q
    · exact h.i e q
    · rw [List.mem_singleton.mp q]; exact ⟨hx, hy⟩
theorem Fnd.len {H H' : Hp} {lf : Addr} {us : List Str} {fr : List V} {ps : List (Str × Str)} {n : Nat} (h : Fnd H H' lf us fr ps n) : fr.length ≤ n := by
  have := h.r.len
  rw [List.length_map] at this
  have := h.l
  omega
theorem eqv_pair (e f : Str × Str) : PyData.eqv (pairD e) (pairD f) = decide (e = f) := by
  obtain ⟨a, b⟩ := e
  obtain ⟨c, d⟩ := f
  show ((a == c) && ((b == d) && true)) = _
  rw [Bool.and_true, Bool.eq_iff_iff]
  simp only [Bool.and_eq_true, beq_iff_eq, decide_eq_true_eq, Prod.mk.injEq]
theorem any_pair (ps : Prs) (x : Str × Str) : ((ps.map pairD).any fun e => PyData.eqv e (pairD x)) = decide (x ∈ ps) := by
  rw [List.any_map, Bool.eq_iff_iff, List.any_eq_true, decide_eq_true_iff]
  constructor
  · rintro ⟨e, he, q⟩
    have q : PyData.eqv (pairD e) (pairD x) = true := q
    rw [eqv_pair, decide_eq_true_iff] at q
    exact q ▸ he
  · intro h
    exact ⟨x, h, by show PyData.eqv (pairD x) (pairD x) = true; rw [eqv_pair]; simp⟩
theorem canLay_prN {e : Str × Str} (h1 : Nm e.1) (h2 : Nm e.2) : (pairD e).canLay0 = true := by
  have h : (PyData.canLay0 (pairD e) && true) = true := canLay_pairsN (ps := [e]) fun x hx => by rw [List.mem_singleton.mp hx]; exact ⟨h1, h2⟩
  rwa [Bool.and_true] at h
noncomputable def spEdg : Sp := fun vs H Q _ => ∃ (q : Addr) (us : List Str) (ks : Kn) (ts ws wn : List (Str × Str)) (knot : Str) (c : List Str), vs = [.ref q, .str knot] ∧ Rep H (.ref q) (houseD ks ts ws wn) ∧ Tre us ks ∧ TsI us ks ts ∧ (∀ e ∈ wn, e.2 ∈ us) ∧ (knot, c) ∈ ks ∧ ts.length ≤ 200 ∧ wn.length ≤ 122 ∧
  ∀ (l : Addr) (refs : List V) (es : Prs) (H' : Hp), Same H H' → H l = none → H' l = some (.lst refs) → RepAll H' refs (es.map pairD) → es.length ≤ 100000 → PsIn us es → Q (.ref l) H'
theorem scEdg : FnScope ["_law_house_here", "_law_knot", "_law_knots_here", "_law_ties", "_law_waiting", "_law_wants", "_law_kids", "_law_found", "_law_one", "_law_other", "_law_part_here", "_law_word", "_law_unit", "_law_pair"] ["_law_house_here", "_law_knot"] (defScope sLawEdges) := ⟨rfl, rfl, rfl, by decide +kernel, rfl, by decide +kernel, by decide +kernel⟩
theorem ok_edg {f : Addr} {fd : FuncData} (F : Fun K "_law_edges" "_law_edges" sLawEdges f fd) (B : Blt mg) (c_law_part : Cal P w K mg base 2 "_law_part" ["_law_knots_here", "_law_one", "_law_other"] spLPart) : FnOk P w K mg base CX0 3 f fd ["_law_house_here", "_law_knot"] spEdg := by
  refine F.ok scEdg (fun vs H Q E h => ?_) (fun cdv A outer s H vs Q E hr h => ?_)
  · obtain ⟨q, us, ks, ts, ws, wn, knot, c0, rfl, _⟩ := h
    rfl
  · obtain ⟨q, us, ks, ts, ws, wn, knot, c0, rfl, R, T, tok, wok, hkk, tl, wl, k⟩ := h
    have nd := scEdg.nd
    refine ⟨_, (pss_cons (ps_asg (pv 0) (pg_tupK (n := 4) K rfl (pgs_cons (pg_name (i := 2) nd rfl (Or.inl rfl)) (pgs_cons (pg_name (i := 3) nd rfl (Or.inl rfl)) (pgs_cons (pg_name (i := 4) nd rfl (Or.inl rfl)) (pgs_cons (pg_name (i := 5) nd rfl (Or.inl rfl)) pgs_nil))))))
      (pss_cons (ps_set (i := 6) nd rfl (Or.inl rfl) (pe_ix (ix_X K hr.units) (b_dicKT K rfl hr.units B (pa_cons (pv 2) pa_nil)) (pv 1) (fun _ _ => rfl)))
      (pss_cons (ps_set (i := 7) nd rfl (Or.inl rfl) (pe_lst pa_nil))
      (pss_cons (ps_for PassesOwn.never rfl (pi_tupK K (pv 3)) (pg_tupK (n := 2) K rfl (pgs_cons (pg_name (i := 8) nd rfl (Or.inl rfl)) (pgs_cons (pg_name (i := 9) nd rfl (Or.inl rfl)) pgs_nil))) (pss_cons (ps_set (i := 10) nd rfl (Or.inl rfl) (pe_cal c_law_part (hr.mono (by decide)) rfl (pa_cons (pv 2) (pa_cons (pv 8) (pa_cons (pv 9) pa_nil)))))
      (pss_one (ps_if (PW.pt (pw_and (pt_cmpR (op_eqX hr.units) (pe_ix (ix_X K hr.units) (pv 10) pe_int (fun _ _ => rfl)) (pv 1) (nomark _)) (pw_and1 (pt_cmpR (op_notInX K hr.units) (pe_slice (sl_tupK K) (pv 10) (po_some pe_int) po_none) (pv 7) (by with_unfolding_all rfl))))) (pss_one (ps_expr (m_append K (pv 7) (pa_cons (pe_slice (sl_tupK K) (pv 10) (po_some pe_int) po_none) pa_nil)))) pss_nil))))
      (pss_cons (ps_for PassesOwn.never rfl (pi_tupK K (pv 5)) (pg_tupK (n := 2) K rfl (pgs_cons (pg_name (i := 11) nd rfl (Or.inl rfl)) (pgs_cons (pg_name (i := 12) nd rfl (Or.inl rfl)) pgs_nil))) (pss_one (ps_if (pt_cmpR (op_inX K hr.units) (pv 12) (pv 6) (by with_unfolding_all rfl)) (pss_one (ps_for PassesOwn.never rfl (pi_tupK K (pv 6)) (pg_name (i := 8) nd rfl (Or.inl rfl)) (pss_cons (ps_set (i := 13) nd rfl (Or.inl rfl) (pe_ix (ix_X K hr.units) (pe_lst (pa_cons (pe_tup (pa_cons (pv 8) (pa_cons (pv 12) pa_nil))) (pa_cons (pe_tup (pa_cons (pv 12) (pa_cons (pv 8) pa_nil))) pa_nil))) (b_int B (pa_cons (pe_cmpR (op_eqX hr.units) (pv 11) pe_str (nomark _)) pa_nil)) (fun _ _ => rfl)))
      (pss_one (ps_if (PW.pt (pw_and (pt_cmpR (op_neX hr.units) (pv 8) (pv 12) (nomark _)) (pw_and1 (pt_cmpR (op_notInX K hr.units) (pv 13) (pv 7) (by with_unfolding_all rfl))))) (pss_one (ps_expr (m_append K (pv 7) (pa_cons (pv 13) pa_nil)))) pss_nil))))) pss_nil)))
      (pss_one (ps_ret (pv 7)))))))), ?_⟩
    have nmu : ∀ {ps : List (Str × Str)}, PsIn us ps → ∀ e ∈ ps, Nm e.1 ∧ Nm e.2 := fun h e he => ⟨T.nm _ (h e he).1, T.nm _ (h e he).2⟩
    have sz : 200000 < sizeLine := by decide
    have ulen := T.len
    obtain ⟨q', a, b, c, d4, e0, hq, R1, R2, _, R4⟩ := house_at R
    cases e0
    refine ⟨_, rfl, q, _, rfl, .of hq, rfl, _, _, rfl, _, _, rfl, _, _, rfl, _, _, rfl, rfl, ?_⟩
    refine ⟨_, rfl, nil_ (dict_knots R1 T fun D dk hD hdk => ?_)⟩
    obtain ⟨la, hva, hla⟩ := hdk _ hkk
    have s1 := Same.new (o := .dK dk) hD
    refine ⟨_, rfl, .dic (.inl ⟨dk, .inr knot, .inl upd_same, rfl, hva.symm⟩) ?_⟩
    generalize upd H D (.dK dk) = H1 at s1 ⊢
    refine ⟨(by show 0 ≤ sizeLine; decide), fun lf hlf => ?_⟩
    have s3 := Same.new (o := .lst []) hlf
    have s13 := s1.trans s3
    have frf : H lf = none := same_free s1 hlf
    have fn0 : Fnd H (upd H1 lf (.lst [])) lf us [] [] 0 := ⟨upd_same, .nil, (fun e he => by cases he), Nat.le_refl _, s13⟩
    generalize upd H1 lf (.lst []) = H3 at s13 fn0 ⊢
    obtain ⟨b', rb, e0, hb, rpb⟩ := pairsT_at R2
    cases e0
    obtain ⟨d4', rw4, e0, hd4, rpw⟩ := pairsT_at R4
    cases e0
    have rblen := rpb.len
    have rwlen := rpw.len
    rw [List.length_map] at rblen rwlen
    refine ⟨_, rfl, b, rfl, ⟨_, .of (s13 _ _ hb)⟩, ?_⟩
    refine for_tup (xs := rb) (fun i σ H' => ∃ (o8 o9 o10 : Option V) (fr : List V) (ps : List (Str × Str)), σ = [some (.ref q), some (.str knot), some (.ref a), some (.ref b), some (.ref c), some (.ref d4), some (.ref la), some (.ref lf), o8, o9, o10, none, none, none] ∧ Fnd H H' lf us fr ps i) ?_ ?_ ?_ ?_
    · exact ⟨none, none, none, [], [], rfl, fn0⟩
    · rintro i σ H' hi ⟨o8, o9, o10, fr, ps, rfl, fn⟩
      exact .of (fn.s _ _ hb)
    · rintro i x σ H' hx ⟨o8, o9, o10, fr, ps, rfl, fn⟩
      obtain ⟨e, ta, he, rfl, hta⟩ := pair_get (rpb.same fn.s) hx
      have hil := (List.getElem?_eq_some_iff.mp he).1
      obtain ⟨m1, m2, po⟩ := tok e (List.mem_of_getElem? he)
      refine ⟨ta, _, rfl, .of hta, rfl, _, _, rfl, _, _, rfl, rfl, ?_⟩
      refine ⟨_, rfl, _, rfl, _, rfl, a, us, ks, e.1, e.2, rfl, R1.same fn.s, T, m1, m2, fun x H4 s4 hx4 => ?_⟩
      cases qp : partO ks e.1 e.2 with
      | none => rw [qp] at po; cases po
      | some pp =>
        obtain ⟨kq, u1, v1⟩ := pp
        rw [qp] at hx4
        obtain ⟨t, rfl, ht⟩ := hx4
        obtain ⟨_, _, n1, n2, _⟩ := T.part m1 m2 qp
        have fn4 := fn.more s4 (Nat.le_refl i)
        have fl := fn4.len
        refine ⟨_, rfl, .tup (.of ht) at0 ⟨_, rfl, .sc rfl ⟨_, rfl, ite2 (fun _ => ?_) (fun _ => ?_)⟩⟩⟩
        · refine ⟨_, rfl, _, rfl, t, _, rfl, .of ht, cut_no, fun t2 h2 => ?_⟩
          rw [cut_tl]
          have s5 := Same.new (o := .tup [V.str u1, V.str v1]) h2
          have e5 : upd H4 t2 (.tup [V.str u1, V.str v1]) t2 = some (.tup [V.str u1, V.str v1]) := upd_same
          have fn5 := fn4.more s5 (Nat.le_refl i)
          have ht5 := s5 _ _ ht
          generalize upd H4 t2 (.tup [V.str u1, V.str v1]) = H5 at s5 e5 fn5 ht5 ⊢
          refine ⟨_, rfl, .tr fn5.f fn5.r (pair_rep (s := u1) (t := v1) e5) (canLay_pairsN (nmu fn5.i)) ?_ ?_ ⟨_, rfl, ?_⟩⟩
          · exact canLay_prN (T.nm _ n1) (T.nm _ n2)
          · show 1 ≤ 16; decide
          · refine ite2 (fun _ => ?_) (fun _ => ⟨_, _, _, fr, ps, rfl, fn5.more (Same.refl _) (Nat.le_succ i)⟩)
            refine ⟨_, rfl, .inl ⟨rfl, _, .of fn5.f⟩, _, rfl, _, rfl, t, _, rfl, .of ht5, cut_no, fun t3 h3 => ?_⟩
            rw [cut_tl]
            have s6 := Same.new (o := .tup [V.str u1, V.str v1]) h3
            have e6 : upd H5 t3 (.tup [V.str u1, V.str v1]) t3 = some (.tup [V.str u1, V.str v1]) := upd_same
            have fn6 := fn5.more s6 (Nat.le_refl i)
            generalize upd H5 t3 (.tup [V.str u1, V.str v1]) = H6 at s6 e6 fn6 ⊢
            refine nil_ ⟨lf, _, _, rfl, rfl, fn6.f, by omega, ?_⟩
            exact ⟨_, _, _, _, _, rfl, fn6.app e6 n1 n2 frf⟩
        · exact ⟨_, _, _, fr, ps, rfl, fn4.more (Same.refl _) (Nat.le_succ i)⟩
    · rintro σ H4 ⟨o8, o9, o10, fr, ps, rfl, fn⟩
      refine ⟨_, rfl, d4, rfl, ⟨_, .of (fn.s _ _ hd4)⟩, ?_⟩
      have crl : c0.length ≤ 60 := by
        have h3 : c0.length ≤ (kids ks).length := by
          have := (List.sublist_flatten_of_mem (L := ks.map (·.2)) (List.mem_map.mpr ⟨(knot, c0), hkk, rfl⟩)).length_le
          rw [← List.flatMap_def] at this
          exact this
        have := T.perm.length_eq
        omega
      have cin : ∀ z ∈ c0, z ∈ us := fun z hz => T.isIn hkk hz
      refine for_tup (xs := rw4) (fun i σ H' => ∃ (o8 o9 o10 o11 o12 o13 : Option V) (fr : List V) (ps : List (Str × Str)), σ = [some (.ref q), some (.str knot), some (.ref a), some (.ref b), some (.ref c), some (.ref d4), some (.ref la), some (.ref lf), o8, o9, o10, o11, o12, o13] ∧ Fnd H H' lf us fr ps (200 + i * 60)) ?_ ?_ ?_ ?_
      · exact ⟨o8, o9, o10, none, none, none, fr, ps, rfl, fn.more (Same.refl _) (by omega)⟩
      · rintro i σ H' hi ⟨o8, o9, o10, o11, o12, o13, fr, ps, rfl, fn⟩
        exact .of (fn.s _ _ hd4)
      · rintro i x σ H' hx ⟨o8, o9, o10, o11, o12, o13, fr, ps, rfl, fn⟩
        obtain ⟨e, ta, he, rfl, hta⟩ := pair_get (rpw.same fn.s) hx
        have hil := (List.getElem?_eq_some_iff.mp he).1
        have m2 := wok e (List.mem_of_getElem? he)
        have hlc := fn.s _ _ hla
        refine ⟨ta, _, rfl, .of hta, rfl, _, _, rfl, _, _, rfl, rfl, ?_⟩
        refine ⟨_, rfl, _, rfl, .seq (.inr (.of hlc)) rfl (flat_strs _) ⟨_, rfl, ite2 (fun _ => ?_) (fun _ => ?_)⟩⟩
        · refine ⟨_, rfl, la, rfl, ⟨_, .of hlc⟩, ?_⟩
          refine for_tup (xs := List.map V.str c0) (fun j σ H' => ∃ (o8 o9 o10 o13 : Option V) (fr : List V) (ps : List (Str × Str)), σ = [some (.ref q), some (.str knot), some (.ref a), some (.ref b), some (.ref c), some (.ref d4), some (.ref la), some (.ref lf), o8, o9, o10, some (.str e.1), some (.str e.2), o13] ∧ Fnd H H' lf us fr ps (200 + i * 60 + j)) ?_ ?_ ?_ ?_
          · exact ⟨o8, o9, o10, o13, fr, ps, rfl, fn⟩
          · rintro j σ H' hj ⟨o8, o9, o10, o13, fr, ps, rfl, fn⟩
            exact .of (fn.s _ _ hla)
          · rintro j x σ H5 hx ⟨o8, o9, o10, o13, fr, ps, rfl, fn⟩
            obtain ⟨z, hz, rfl⟩ := str_get hx
            have hjl := (List.getElem?_eq_some_iff.mp hz).1
            have mz := cin z (List.mem_of_getElem? hz)
            have hjj : j < 60 := by omega
            refine ⟨_, rfl, _, rfl, (by show 2 ≤ sizeLine; decide), fun t1 h1 => ?_⟩
            have s1 := Same.new (o := .tup [V.str z, V.str e.2]) h1
            have e1 : upd H5 t1 (.tup [V.str z, V.str e.2]) t1 = some (.tup [V.str z, V.str e.2]) := upd_same
            generalize upd H5 t1 (.tup [V.str z, V.str e.2]) = H6 at s1 e1 ⊢
            refine ⟨_, rfl, _, rfl, (by show 2 ≤ sizeLine; decide), fun t2 h2 => nil_ ⟨(by show 2 ≤ sizeLine; decide), fun l2 hl2 => ?_⟩⟩
            have s2 := s1.trans (Same.new (o := .tup [V.str e.2, V.str z]) h2)
            have e2 : upd H6 t2 (.tup [V.str e.2, V.str z]) t2 = some (.tup [V.str e.2, V.str z]) := upd_same
            have e1 := Same.new (o := .tup [V.str e.2, V.str z]) h2 _ _ e1
            generalize upd H6 t2 (.tup [V.str e.2, V.str z]) = H7 at s2 e2 e1 hl2 ⊢
            have s3 := s2.trans (Same.new (o := .lst [V.ref t1, V.ref t2]) hl2)
            have e3 : upd H7 l2 (.lst [V.ref t1, V.ref t2]) l2 = some (.lst [V.ref t1, V.ref t2]) := upd_same
            have e2 := Same.new (o := .lst [V.ref t1, V.ref t2]) hl2 _ _ e2
            have e1 := Same.new (o := .lst [V.ref t1, V.ref t2]) hl2 _ _ e1
            generalize upd H7 l2 (.lst [V.ref t1, V.ref t2]) = H8 at s3 e3 e2 e1 ⊢
            have fn8 := fn.more s3 (Nat.le_refl _)
            have fl := fn8.len
            refine ⟨_, rfl, .sc rfl ⟨_, rfl, .bl ?_⟩⟩
            have pick : ∀ bb : Bool, ∃ (t : Addr) (x y : Str), atI [V.ref t1, V.ref t2] (if bb = true then 1 else 0) = some (.ref t) ∧ H8 t = some (.tup [.str x, .str y]) ∧ x ∈ us ∧ y ∈ us := fun bb => by
              cases bb with
              | true => exact ⟨t2, e.2, z, at1, e2, m2, mz⟩
              | false => exact ⟨t1, z, e.2, at0, e1, mz, m2⟩
            obtain ⟨t, x, y, hx, ht, mx, my⟩ := pick (if false = true then !decide (V.str e.1 = V.str "first") else decide (V.str e.1 = V.str "first"))
            refine .lst (.of e3) hx ?_
            refine ⟨_, rfl, _, rfl, .sc rfl ⟨_, rfl, ite2 (fun _ => ?_) (fun _ => ?_)⟩⟩
            · refine ⟨_, rfl, _, rfl, .tr fn8.f fn8.r (pair_rep (s := x) (t := y) ht) (canLay_pairsN (nmu fn8.i)) (canLay_prN (T.nm _ mx) (T.nm _ my)) (by show 1 ≤ 16; decide) ⟨_, rfl, ite2 (fun _ => ?_) (fun _ => ?_)⟩⟩
              · refine ⟨_, rfl, .inl ⟨rfl, _, .of fn8.f⟩, _, rfl, nil_ ⟨lf, _, _, rfl, rfl, fn8.f, by omega, ?_⟩⟩
                exact ⟨_, _, _, _, _, _, rfl, fn8.app ht mx my frf⟩
              · exact ⟨_, _, _, _, fr, ps, rfl, fn8.more (Same.refl _) (Nat.le_succ _)⟩
            · exact iteF ⟨_, _, _, _, fr, ps, rfl, fn8.more (Same.refl _) (Nat.le_succ _)⟩
          · rintro σ H5 ⟨o8, o9, o10, o13, fr, ps, rfl, fn⟩
            exact ⟨_, _, _, _, _, _, fr, ps, rfl, fn.more (Same.refl _) (by rw [List.length_map]; omega)⟩
        · exact ⟨_, _, _, _, _, _, fr, ps, rfl, fn.more (Same.refl _) (by omega)⟩
      · rintro σ H5 ⟨o8, o9, o10, o11, o12, o13, fr, ps, rfl, fn⟩
        refine ⟨_, rfl, k lf fr ps H5 fn.s frf fn.f fn.r ?_ fn.i⟩
        have := fn.l
        omega
end
end K47
namespace K47
open PySem L2
section
variable {P : Program} {w : World} {K : PySem.W.Frag} {mg : Str → Option Value} {base : Heap}
noncomputable def Lp (H : Hp) (l : Addr) (ps : Prs) : Prop := ∃ refs, H l = some (.lst refs) ∧ RepAll H refs (ps.map pairD)
section
variable {H H' : Hp} {l p : Addr} {ps : Prs}
theorem Lp.but (h : Lp H l ps) {ys : List (Key × V)} (hp : H p = some (.dK ys)) (b : But p H H') : Lp H' l ps :=
  let ⟨r, h1, h2⟩ := h; ⟨r, b _ _ (ne_of h1 hp (by intro z; cases z)) h1, repButD_all (repButD_pair hp b) h2⟩
theorem Lp.same (h : Lp H l ps) (s : Same H H') : Lp H' l ps := let ⟨r, h1, h2⟩ := h; ⟨r, s _ _ h1, h2.same s⟩
theorem Lp.other (h : Lp H l ps) {l2 : Addr} {xs ys : List V} (h2 : H l2 = some (.lst xs)) (n : l ≠ l2) : Lp (upd H l2 (.lst ys)) l ps :=
  let ⟨r, h1, hr⟩ := h; ⟨r, by rw [upd_ne n]; exact h1, repBut_all (repBut_pair h2 But.upd) hr⟩
theorem Lp.app {refs : List V} (h1 : H l = some (.lst refs)) (h2 : RepAll H refs (ps.map pairD)) {t : Addr} {e : Str × Str} (ht : H t = some (.tup [.str e.1, .str e.2])) : Lp (upd H l (.lst (refs ++ [.ref t]))) l (ps ++ [e]) := by
  refine ⟨_, upd_same, ?_⟩
  rw [List.map_append]
  exact RepAll.append (repBut_all (repBut_pair h1 But.upd) h2) (.cons (repBut_pair h1 But.upd (pair_rep (s := e.1) (t := e.2) ht)) .nil)
theorem RepAll.takeP : ∀ {xs : List V} {ds : List PyData} (k : Nat), RepAll H xs ds → RepAll H (xs.take k) (ds.take k)
  | _, _, 0, _ => .nil
  | _, _, _ + 1, .nil => .nil
  | _, _, k + 1, .cons a b => .cons a (RepAll.takeP k b)
theorem RepAll.dropP : ∀ {xs : List V} {ds : List PyData} (k : Nat), RepAll H xs ds → RepAll H (xs.drop k) (ds.drop k)
  | _, _, 0, r => r
  | _, _, _ + 1, .nil => .nil
  | _, _, k + 1, .cons _ b => RepAll.dropP k b
theorem Lp.ins {refs : List V} (h1 : H l = some (.lst refs)) (h2 : RepAll H refs (ps.map pairD)) {t : Addr} {e : Str × Str} (k : Nat) (ht : H t = some (.tup [.str e.1, .str e.2])) : Lp (upd H l (.lst (refs.take k ++ .ref t :: refs.drop k))) l (ps.take k ++ e :: ps.drop k) := by
  refine ⟨_, upd_same, ?_⟩
  rw [List.map_append, List.map_cons, List.map_take, List.map_drop]
  have r2 : RepAll (upd H l (.lst (refs.take k ++ .ref t :: refs.drop k))) refs (ps.map pairD) := repBut_all (repBut_pair h1 But.upd) h2
  exact RepAll.append (RepAll.takeP k r2) (.cons (repBut_pair h1 But.upd (pair_rep (s := e.1) (t := e.2) ht)) (RepAll.dropP k r2))
end
theorem idx_str {H : Hp} {l : Addr} {c : List Str} {x : Str} {Q : VK} (hl : H l = some (.tup (c.map V.str))) (cn : c.Nodup) (hx : x ∈ c) (q : ∀ j : Nat, Q (.int (j : Int)) H) : rIndexT (.ref l) [.str x] H Q := by
  refine ⟨l, _, .str x, MG.ix c x, .str x, rfl, rfl, hl, rfl, flat_strs c, by rw [List.getElem?_map, MG.at_ix hx]; rfl, by show (x == x) = true; simp, fun m z' hm hz => ?_, q _⟩
  obtain ⟨z, hz', rfl⟩ := str_get hz
  have hne : z ≠ x := fun e => by rw [e] at hz'; have := MG.ix_at cn hz'; omega
  show (z == x) = false
  simpa using hne
theorem at2 {α : Type} {x y z : α} {r : List α} : atI (x :: y :: z :: r) 2 = some z := atI_nat (j := 2) rfl
noncomputable def WnL (ks : Kn) (wn : Prs) : Prop := ∀ e ∈ wn, (e.1 = "first" ∧ ∃ k ∈ ks, k.2.head? = some e.2) ∨ (e.1 = "last" ∧ ∃ k ∈ ks, k.2.getLast? = some e.2)
noncomputable def spHouse (K : PySem.W.Frag) : Sp := fun vs H Q _ => ∃ (p a : Addr), vs = [.ref p, .int 13] ∧ DPen K H p a ∧
  ∀ q us ks ts ws wn H', Rep H' (.ref q) (houseD ks ts ws wn) → Tre us ks → ks.head?.map (·.1) = some ("" : Str) → us.length ≤ 13 → TsI us ks ts → PsIn us ws → WnL ks wn → ts.length ≤ 26 → ws.length ≤ 7 → wn.length ≤ 122 → DPV H' p a → But p H H' → Q (.ref q) H'
theorem scHouse : FnScope ["_law_pen_here", "_law_most", "_law_names_here", "_law_knots_here", "_law_ties", "_law_k", "_law_one", "_law_other", "_law_part_here", "_law_kids", "_law_wants", "_law_name", "_law_pick", "_law_house_here", "_law_waiting"] ["_law_pen_here", "_law_most"] (defScope sLawHouse) := ⟨rfl, rfl, rfl, by decide +kernel, rfl, by decide +kernel, by decide +kernel⟩
theorem ok_house {f : Addr} {fd : FuncData} (F : Fun K "_law_house" "_law_house" sLawHouse f fd) (B : Blt mg) (c_law_draw : Cal P w K mg base 1 "_law_draw" ["_law_pen_here", "_law_many"] (spDrw K)) (c_law_names : Cal P w K mg base 2 "_law_names" ["_law_pen_here", "_law_many"] (spNames K)) (c_law_knots : Cal P w K mg base 2 "_law_knots" ["_law_pen_here", "_law_names_here"] (spKnots K)) (c_law_part : Cal P w K mg base 2 "_law_part" ["_law_knots_here", "_law_one", "_law_other"] spLPart) (c_law_edges : Cal P w K mg base 3 "_law_edges" ["_law_house_here", "_law_knot"] spEdg) (c_law_reached : Cal P w K mg base 1 "_law_reached" ["_law_edges_here", "_law_one"] spReachL) : FnOk P w K mg base CX0 4 f fd ["_law_pen_here", "_law_most"] (spHouse K) := by
  refine F.ok scHouse (fun vs H Q E h => ?_) (fun cdv A outer s H vs Q E hr h => ?_)
  · obtain ⟨p, a, rfl, _⟩ := h
    rfl
  · obtain ⟨p, a, rfl, hP, k⟩ := h
    have nd := scHouse.nd
    refine ⟨_, (pss_cons (ps_set (i := 2) nd rfl (Or.inl rfl) (pe_cal c_law_names (hr.mono (by decide)) rfl (pa_cons (pv 0) (pa_cons (pe_op op_addX pe_int (pe_cal c_law_draw (hr.mono (by decide)) rfl (pa_cons (pv 0) (pa_cons (pe_op op_sub (pv 1) pe_int) pa_nil)))) pa_nil))))
      (pss_cons (ps_set (i := 3) nd rfl (Or.inl rfl) (pe_cal c_law_knots (hr.mono (by decide)) rfl (pa_cons (pv 0) (pa_cons (pv 2) pa_nil))))
      (pss_cons (ps_set (i := 4) nd rfl (Or.inl rfl) (pe_lst pa_nil))
      (pss_cons (ps_for PassesOwn.never rfl (pi_range1 rfl B.range (pa_cons (pe_cal c_law_draw (hr.mono (by decide)) rfl (pa_cons (pv 0) (pa_cons (pe_op op_mul pe_int (b_len K B (pa_cons (pv 2) pa_nil))) pa_nil))) pa_nil)) (pg_name (i := 5) nd rfl (Or.inl rfl)) (pss_cons (ps_set (i := 6) nd rfl (Or.inl rfl) (pe_ix (ix_X K hr.units) (pv 2) (pe_cal c_law_draw (hr.mono (by decide)) rfl (pa_cons (pv 0) (pa_cons (b_len K B (pa_cons (pv 2) pa_nil)) pa_nil))) (fun _ _ => rfl)))
      (pss_cons (ps_set (i := 7) nd rfl (Or.inl rfl) (pe_ix (ix_X K hr.units) (pv 2) (pe_cal c_law_draw (hr.mono (by decide)) rfl (pa_cons (pv 0) (pa_cons (b_len K B (pa_cons (pv 2) pa_nil)) pa_nil))) (fun _ _ => rfl)))
      (pss_cons (ps_set (i := 8) nd rfl (Or.inl rfl) (pe_cal c_law_part (hr.mono (by decide)) rfl (pa_cons (pv 3) (pa_cons (pv 6) (pa_cons (pv 7) pa_nil)))))
      (pss_one (ps_if (pt_cmpR op_isNotX (pv 8) pe_non (nomark _)) (pss_cons (ps_set (i := 9) nd rfl (Or.inl rfl) (pe_ix (ix_X K hr.units) (b_dicKT K rfl hr.units B (pa_cons (pv 3) pa_nil)) (pe_ix (ix_X K hr.units) (pv 8) pe_int (fun _ _ => rfl)) (fun _ _ => rfl)))
      (pss_cons (ps_if (pt_cmpR op_gt (m_indexTT (pv 9) (pa_cons (pe_ix (ix_X K hr.units) (pv 8) pe_int (fun _ _ => rfl)) pa_nil)) (m_indexTT (pv 9) (pa_cons (pe_ix (ix_X K hr.units) (pv 8) pe_int (fun _ _ => rfl)) pa_nil)) (nomark _)) (pss_one (ps_par (i := 6) (j := 7) rfl nd rfl rfl (by decide) rfl rfl (pa_cons (pv 7) (pa_cons (pv 6) pa_nil)) rfl)) pss_nil)
      (pss_one (ps_if (pt_cmpR (op_notInX K hr.units) (pe_tup (pa_cons (pv 6) (pa_cons (pv 7) pa_nil))) (pv 4) (by with_unfolding_all rfl)) (pss_one (ps_expr (m_append K (pv 4) (pa_cons (pe_tup (pa_cons (pv 6) (pa_cons (pv 7) pa_nil))) pa_nil)))) pss_nil)))) pss_nil))))))
      (pss_cons (ps_set (i := 10) nd rfl (Or.inl rfl) (pe_lst pa_nil))
      (pss_cons (ps_for PassesOwn.never rfl (pi_tupK K (pv 3)) (pg_tupK (n := 2) K rfl (pgs_cons (pg_name (i := 11) nd rfl (Or.inl rfl)) (pgs_cons (pg_name (i := 9) nd rfl (Or.inl rfl)) pgs_nil))) (pss_cons (ps_set (i := 12) nd rfl (Or.inl rfl) (pe_cal c_law_draw (hr.mono (by decide)) rfl (pa_cons (pv 0) (pa_cons pe_int pa_nil))))
      (pss_cons (ps_if (PW.pt (pw_and (pt_cmpR (op_neNilT K hr.units) (pv 9) (pe_tup pa_nil) (nomark _)) (pw_and1 (pt_cmpR (op_inX K hr.units) (pv 12) (pe_tup (pa_cons pe_int (pa_cons pe_int pa_nil))) (by with_unfolding_all rfl))))) (pss_one (ps_expr (m_insert K (pv 10) (pa_cons (pe_cal c_law_draw (hr.mono (by decide)) rfl (pa_cons (pv 0) (pa_cons (pe_op op_addX (b_len K B (pa_cons (pv 10) pa_nil)) pe_int) pa_nil))) (pa_cons (pe_tup (pa_cons pe_str (pa_cons (pe_ix (ix_X K hr.units) (pv 9) pe_int (fun _ _ => rfl)) pa_nil))) pa_nil))))) pss_nil)
      (pss_one (ps_if (PW.pt (pw_and (pt_cmpR op_gt (b_len K B (pa_cons (pv 9) pa_nil)) pe_int (nomark _)) (pw_and1 (pt_cmpR (op_inX K hr.units) (pv 12) (pe_tup (pa_cons pe_int (pa_cons pe_int pa_nil))) (by with_unfolding_all rfl))))) (pss_one (ps_expr (m_insert K (pv 10) (pa_cons (pe_cal c_law_draw (hr.mono (by decide)) rfl (pa_cons (pv 0) (pa_cons (pe_op op_addX (b_len K B (pa_cons (pv 10) pa_nil)) pe_int) pa_nil))) (pa_cons (pe_tup (pa_cons pe_str (pa_cons (pe_ix (ix_X K hr.units) (pv 9) (pe_un un_neg pe_int) (fun _ _ => rfl)) pa_nil))) pa_nil))))) pss_nil)))))
      (pss_cons (ps_set (i := 13) nd rfl (Or.inl rfl) (pe_tup (pa_cons (pv 3) (pa_cons (b_tuple K B (pa_cons (pv 4) pa_nil)) (pa_cons (pe_tup pa_nil) (pa_cons (b_tuple K B (pa_cons (pv 10) pa_nil)) pa_nil))))))
      (pss_cons (ps_set (i := 14) nd rfl (Or.inl rfl) (pe_lst pa_nil))
      (pss_cons (ps_for PassesOwn.never rfl (pi_range1 rfl B.range (pa_cons (pe_cal c_law_draw (hr.mono (by decide)) rfl (pa_cons (pv 0) (pa_cons pe_int pa_nil))) pa_nil)) (pg_name (i := 5) nd rfl (Or.inl rfl)) (pss_cons (ps_set (i := 6) nd rfl (Or.inl rfl) (pe_ix (ix_X K hr.units) (pv 2) (pe_cal c_law_draw (hr.mono (by decide)) rfl (pa_cons (pv 0) (pa_cons (b_len K B (pa_cons (pv 2) pa_nil)) pa_nil))) (fun _ _ => rfl)))
      (pss_cons (ps_set (i := 7) nd rfl (Or.inl rfl) (pe_ix (ix_X K hr.units) (pv 2) (pe_cal c_law_draw (hr.mono (by decide)) rfl (pa_cons (pv 0) (pa_cons (b_len K B (pa_cons (pv 2) pa_nil)) pa_nil))) (fun _ _ => rfl)))
      (pss_cons (ps_set (i := 8) nd rfl (Or.inl rfl) (pe_cal c_law_part (hr.mono (by decide)) rfl (pa_cons (pv 3) (pa_cons (pv 6) (pa_cons (pv 7) pa_nil)))))
      (pss_one (ps_if (PW.pt (pw_and (pt_cmpR op_isNotX (pv 8) pe_non (nomark _)) (pw_and1 (pt_cmpR (op_notInX K hr.units) (pe_tup (pa_cons (pv 6) (pa_cons (pv 7) pa_nil))) (pe_op op_addX (pv 4) (pv 14)) (by with_unfolding_all rfl))))) (pss_one (ps_if (pt_cmpR (op_inX K hr.units) (pe_ix (ix_X K hr.units) (pv 8) pe_int (fun _ _ => rfl)) (pe_cal c_law_reached (hr.mono (by decide)) rfl (pa_cons (pe_cal c_law_edges (hr.mono (by decide)) rfl (pa_cons (pv 13) (pa_cons (pe_ix (ix_X K hr.units) (pv 8) pe_int (fun _ _ => rfl)) pa_nil))) (pa_cons (pe_ix (ix_X K hr.units) (pv 8) pe_int (fun _ _ => rfl)) pa_nil))) (by with_unfolding_all rfl)) (pss_one (ps_expr (m_append K (pv 14) (pa_cons (pe_tup (pa_cons (pv 6) (pa_cons (pv 7) pa_nil))) pa_nil)))) pss_nil)) pss_nil))))))
      (pss_one (ps_ret (pe_tup (pa_cons (pv 3) (pa_cons (b_tuple K B (pa_cons (pv 4) pa_nil)) (pa_cons (b_tuple K B (pa_cons (pv 14) pa_nil)) (pa_cons (b_tuple K B (pa_cons (pv 10) pa_nil)) pa_nil)))))))))))))))), ?_⟩
    refine ⟨_, rfl, _, rfl, _, rfl, _, _, rfl, rfl, p, a, _, rfl, hP, by decide, by decide, fun r1 H1 r10 r11 v1 b1 => .int (nil_ ?_)⟩
    obtain ⟨n1, rfl⟩ := Int.eq_ofNat_of_zero_le r10
    have r11 : (n1 : Int) < 12 := r11
    refine ⟨p, a, n1 + 2, (by show [V.ref p, V.int (2 + (n1 : Int))] = _; rw [show (2 + (n1 : Int)) = ((n1 + 2 : Nat) : Int) by omega]), hP.but b1 v1, by omega, fun ln us H2 ul und unm hln hln0 nln v2 b2 => ?_⟩
    have b2 := b1.trans b2
    refine ⟨_, rfl, _, rfl, p, a, ln, us, rfl, hP.but b2 v2, hln, und, unm, by omega, fun kt ks H3 rk T hd v3 b3 => ?_⟩
    obtain ⟨ys2, hp2⟩ := v2.at_dK
    have hln3 := b3 _ _ nln hln
    have b3 := b2.trans b3
    have unl : (List.map V.str us).length = us.length := List.length_map ..
    refine ⟨(by show 0 ≤ sizeLine; decide), fun lt hlt => ?_⟩
    have s4 := Same.new (o := .lst []) hlt
    have lp4 : Lp (upd H3 lt (.lst [])) lt [] := ⟨[], upd_same, .nil⟩
    have nlt : lt ≠ p := Ne.symm (v3.ne hlt)
    have nltn : ln ≠ lt := ne_of_none hln3 hlt
    have flt : H lt = none := b3.free nlt hlt
    have v4 := v3.same s4
    have b4 := b3.trans (But.of_same (p := p) s4)
    have rk4 := rk.same s4
    have hln4 := s4 _ _ hln3
    generalize upd H3 lt (.lst []) = H4 at s4 lp4 v4 b4 rk4 hln4 ⊢
    refine ⟨_, rfl, _, rfl, _, _, rfl, Or.inl ⟨_, .of hln4, rfl⟩, _, _, rfl, rfl, ?_⟩
    refine ⟨.inl ⟨by decide, by decide⟩, p, a, _, rfl, hP.but b4 v4, by rw [unl]; omega, by rw [unl]; omega, fun r5 H5 r50 r51 v5 b5 => ?_⟩
    rw [unl] at r51
    obtain ⟨ys4, hp4⟩ := v4.at_dK
    have lp5 := lp4.but hp4 b5
    have hln5 := b5 _ _ nln hln4
    have rk5 := repButD_knots hp4 b5 rk4
    have b5 := b4.trans b5
    have pickn : ∀ r : Int, 0 ≤ r → r < (((List.map V.str us).length : Nat) : Int) → ∃ u ∈ us, atI (List.map V.str us) r = some (.str u) := fun r h0 h1 => by
      obtain ⟨x, hx, mx⟩ := at_mem (xs := List.map V.str us) (m := (List.map V.str us).length) rfl h0 h1
      obtain ⟨u, hu, rfl⟩ := List.mem_map.mp mx
      exact ⟨u, hu, hx⟩
    have nmu : ∀ {ps : List (Str × Str)}, PsIn us ps → ∀ e ∈ ps, Nm e.1 ∧ Nm e.2 := fun h e he => ⟨unm _ (h e he).1, unm _ (h e he).2⟩
    have s1000 : 1000 ≤ sizeLine := by decide
    clear hlt s4 hp2 hp4 rk v1 b1 v2 b2 v3 v4 b4 hln4 hln3 rk4 lp4
    refine ⟨_, rfl, by omega, by omega, ?_⟩
    refine for_range (fun i σ H' => ∃ (o5 o6 o7 o8 o9 : Option V) (ts : Prs), σ = [some (.ref p), some (.int 13), some (.ref ln), some (.ref kt), some (.ref lt), o5, o6, o7, o8, o9, none, none, none, none, none] ∧ Lp H' lt ts ∧ TsI us ks ts ∧ ts.length ≤ i ∧ H' ln = some (.lst (List.map V.str us)) ∧ Rep H' (.ref kt) (knotsD ks) ∧ DPV H' p a ∧ But p H H') ⟨none, none, none, none, none, [], rfl, lp5, (fun e he => by cases he), Nat.le_refl 0, hln5, rk5, v5, b5⟩ ?_ ?_
    · rintro i σ H6 hi ⟨o5, o6, o7, o8, o9, ts, rfl, lp6, ti, tl, hln6, rk6, v6, b6⟩
      have hi : i < 26 := by have : i < (r5 - 0).toNat := by simpa using hi
                             omega
      obtain ⟨ys6, hp6⟩ := v6.at_dK
      refine ⟨_, rfl, _, rfl, _, rfl, _, _, rfl, Or.inl ⟨_, .of hln6, rfl⟩, p, a, _, rfl, hP.but b6 v6, by rw [unl]; omega, by rw [unl]; omega, fun r7 H7 r70 r71 v7 b7 => ?_⟩
      obtain ⟨u, hu, ax⟩ := pickn r7 r70 r71
      have lp7 := lp6.but hp6 b7
      have hln7 := b7 _ _ nln hln6
      have rk7 := repButD_knots hp6 b7 rk6
      have b7 := b6.trans b7
      refine .lst (.of hln7) ax ?_
      obtain ⟨ys7, hp7⟩ := v7.at_dK
      refine ⟨_, rfl, _, rfl, _, rfl, _, _, rfl, Or.inl ⟨_, .of hln7, rfl⟩, p, a, _, rfl, hP.but b7 v7, by rw [unl]; omega, by rw [unl]; omega, fun r8 H8 r80 r81 v8 b8 => ?_⟩
      obtain ⟨v, hv, ay⟩ := pickn r8 r80 r81
      have lp8 := lp7.but hp7 b8
      have hln8 := b8 _ _ nln hln7
      have rk8 := repButD_knots hp7 b8 rk7
      have b8 := b7.trans b8
      refine .lst (.of hln8) ay ?_
      refine ⟨_, rfl, _, rfl, _, rfl, kt, us, ks, u, v, rfl, rk8, T, hu, hv, fun x H9 s9 hx9 => ?_⟩
      have lp9 := lp8.same s9
      have hln9 := s9 _ _ hln8
      have rk9 := rk8.same s9
      have v9 := v8.same s9
      have b9 := b8.trans (But.of_same (p := p) s9)
      cases qp : partO ks u v with
      | none =>
        rw [qp] at hx9
        have hx9 : x = .non := hx9
        subst hx9
        refine ⟨_, rfl, .non ⟨_, rfl, ite2 (fun h => absurd h (by decide)) (fun _ => ?_)⟩⟩
        exact ⟨_, _, _, _, _, ts, rfl, lp9, ti, by omega, hln9, rk9, v9, b9⟩
      | some pp =>
        obtain ⟨kq, u1, v1⟩ := pp
        rw [qp] at hx9
        obtain ⟨t, rfl, ht⟩ := hx9
        obtain ⟨pu, pv, mu, mv, ne⟩ := T.part hu hv qp
        refine ⟨_, rfl, .non ⟨_, rfl, ite2 (fun _ => ?_) (fun h => absurd (by simp) h)⟩⟩
        obtain ⟨kn, hkn, ekn⟩ := List.mem_map.mp (T.par_in mu).2
        rw [pu] at ekn
        obtain ⟨kq', c⟩ := kn
        have ekn : kq' = kq := ekn
        subst ekn
        have uc : u1 ∈ c := T.kid mu (by rw [pu]; exact hkn)
        have vc : v1 ∈ c := T.kid mv (by rw [pv]; exact hkn)
        have cnd : c.Nodup := by
          have := T.knd
          unfold kids at this
          rw [List.flatMap_def] at this
          exact (List.sublist_flatten_of_mem (List.mem_map.mpr ⟨(kq', c), hkn, rfl⟩)).nodup this
        refine ⟨_, rfl, nil_ (dict_knots rk9 T fun D dk hD hdk => ?_)⟩
        obtain ⟨la, hva, hla⟩ := hdk _ hkn
        have sA := Same.new (o := .dK dk) hD
        refine ⟨_, rfl, .tup (.of (sA _ _ ht)) at0 (.dic (.inl ⟨dk, .inr kq', .inl upd_same, rfl, hva.symm⟩) ?_)⟩
        have lpA := lp9.same sA
        have hlnA := sA _ _ hln9
        have rkA := rk9.same sA
        have vA := v9.same sA
        have bA := b9.trans (But.of_same (p := p) sA)
        have htA := sA _ _ ht
        have hlaA := sA _ _ hla
        generalize upd H9 D (.dK dk) = HA at sA lpA hlnA rkA vA bA htA hlaA ⊢
        refine name_go ?_
        dsimp only
        refine seq_inv (fun σ' H' => H' = HA ∧ ∃ (x y : Str) (o5 : Option V), σ' = [some (.ref p), some (.int 13), some (.ref ln), some (.ref kt), some (.ref lt), o5, some (.str x), some (.str y), some (.ref t), some (.ref la), none, none, none, none, none] ∧ x ∈ us ∧ y ∈ us ∧ (partO ks x y).isSome = true) ?_ ?_
        · rintro σ' H' ⟨rfl, x, y, o5, rfl, hx, hy, hpo⟩
          refine ⟨_, rfl, _, rfl, (by show 2 ≤ sizeLine; decide), fun t1 h1 => ?_⟩
          obtain ⟨refs, hr1, hr2⟩ := lpA
          have s1 := Same.new (o := .tup [V.str x, V.str y]) h1
          have e1 : upd H' t1 (.tup [V.str x, V.str y]) t1 = some (.tup [V.str x, V.str y]) := upd_same
          have psi : PsIn us ts := fun e he => ⟨(ti e he).1, (ti e he).2.1⟩
          have rl := hr2.len
          rw [List.length_map] at rl
          refine ⟨_, rfl, .tr (s1 _ _ hr1) (hr2.same s1) (pair_rep (s := x) (t := y) e1) (canLay_pairsN (nmu psi)) (canLay_prN (unm _ hx) (unm _ hy)) (by show 1 ≤ 16; decide) ⟨_, rfl, ?_⟩⟩
          have vB := vA.same s1
          have bB := bA.trans (But.of_same (p := p) s1)
          have hlnB := s1 _ _ hlnA
          have rkB := rkA.same s1
          have hr1B := s1 _ _ hr1
          have hr2B := hr2.same s1
          generalize upd H' t1 (.tup [V.str x, V.str y]) = HB at s1 e1 vB bB hlnB rkB hr1B hr2B ⊢
          refine ite2 (fun _ => ?_) (fun _ => ⟨_, _, _, _, _, ts, rfl, ⟨refs, hr1B, hr2B⟩, ti, by omega, hlnB, rkB, vB, bB⟩)
          refine ⟨_, rfl, .inl ⟨rfl, _, .of hr1B⟩, _, rfl, _, rfl, (by show 2 ≤ sizeLine; decide), fun t2 h2 => ?_⟩
          have s2 := Same.new (o := .tup [V.str x, V.str y]) h2
          have e2 : upd HB t2 (.tup [V.str x, V.str y]) t2 = some (.tup [V.str x, V.str y]) := upd_same
          have vC := vB.same s2
          have bC := bB.trans (But.of_same (p := p) s2)
          have hlnC := s2 _ _ hlnB
          have rkC := rkB.same s2
          have hr1C := s2 _ _ hr1B
          have hr2C := hr2B.same s2
          generalize upd HB t2 (.tup [V.str x, V.str y]) = HC at s2 e2 vC bC hlnC rkC hr1C hr2C ⊢
          refine nil_ ⟨lt, _, _, rfl, rfl, hr1C, by omega, ?_⟩
          refine ⟨_, _, _, _, _, ts ++ [(x, y)], rfl, Lp.app (e := (x, y)) hr1C hr2C e2, fun e he => ?_, by rw [List.length_append]; show ts.length + 1 ≤ _; omega, by rw [upd_ne nltn]; exact hlnC, repBut_knots hr1C But.upd rkC, vC.upd (Ne.symm nlt), bC.at flt⟩
          rcases List.mem_append.mp he with he | he
          · exact ti e he
          · rw [List.mem_singleton.mp he]; exact ⟨hx, hy, hpo⟩
        · intro N hN
          refine ⟨_, rfl, ⟨_, _, rfl, hlaA⟩, _, rfl, .tup (.of htA) at1 (nil_ (idx_str hlaA cnd uc fun j1 => ⟨_, rfl, ⟨_, _, rfl, hlaA⟩, _, rfl, .tup (.of htA) at2 (nil_ (idx_str hlaA cnd vc fun j2 => ⟨_, _, rfl, rfl, _, rfl, ite2 (fun _ => ?_) (fun _ => ?_)⟩))⟩))⟩
          · refine ⟨_, rfl, _, rfl, nil_ ⟨_, _, rfl, hN _ _ ⟨rfl, v, u, _, rfl, hv, hu, ?_⟩⟩⟩
            have e : partO ks v u = _ := prt_swap "" (lin ks u) (lin ks v)
            rw [e]
            show ((partO ks u v).map _).isSome = true
            rw [qp]; rfl
          · exact hN _ _ ⟨rfl, u, v, _, rfl, hu, hv, by rw [qp]; rfl⟩
    · rintro σ H6 ⟨o5, o6, o7, o8, o9, ts, rfl, lp6, ti, tl, hln6, rk6, v6, b6⟩
      have tl : ts.length ≤ 26 := by omega
      clear lp5 hln5 rk5 v5 b5
      refine ⟨(by show 0 ≤ sizeLine; decide), fun lw hlw => ?_⟩
      have nlw : lw ≠ p := Ne.symm (v6.ne hlw)
      have nlwn : ln ≠ lw := ne_of_none hln6 hlw
      have nlwt : lt ≠ lw := by obtain ⟨r, h1, _⟩ := lp6; exact ne_of_none h1 hlw
      have flw : H lw = none := b6.free nlw hlw
      obtain ⟨_, krefs, e0, hkt, krp⟩ := knots_at rk6
      cases e0
      have krl := krp.len
      rw [List.length_map] at krl
      have few := T.few
      obtain ⟨J, eJ⟩ : ∃ J : Prs → Hp → Prop, J = fun wn H' => Lp H' lw wn ∧ WnL ks wn ∧ Lp H' lt ts ∧ H' ln = some (.lst (List.map V.str us)) ∧ H' kt = some (.tup krefs) ∧ RepAll H' krefs (ks.map knotD) ∧ DPV H' p a ∧ But p H H' := ⟨_, rfl⟩
      have Js : ∀ wn H' H'', J wn H' → Same H' H'' → J wn H'' := fun wn H' H'' h s => by
        rw [eJ] at h ⊢
        obtain ⟨h1, h2, h3, h4, h5, h6, h7, h8⟩ := h
        exact ⟨h1.same s, h2, h3.same s, s _ _ h4, s _ _ h5, h6.same s, h7.same s, h8.trans (But.of_same s)⟩
      have Jd : ∀ wn H' H'', J wn H' → But p H' H'' → DPV H'' p a → J wn H'' := fun wn H' H'' h b v => by
        rw [eJ] at h ⊢
        obtain ⟨h1, h2, h3, h4, h5, h6, h7, h8⟩ := h
        obtain ⟨ys, hp⟩ := h7.at_dK
        exact ⟨h1.but hp b, h2, h3.but hp b, b _ _ nln h4, tupButD hp b h5, repButD_all (repButD_knot hp b) h6, v, h8.trans b⟩
      have Ji : ∀ wn H' (refs : List V) (t : Addr) (e : Str × Str) (m : Nat), J wn H' → H' lw = some (.lst refs) → RepAll H' refs (wn.map pairD) → H' t = some (.tup [.str e.1, .str e.2]) → ((e.1 = "first" ∧ ∃ k ∈ ks, k.2.head? = some e.2) ∨ (e.1 = "last" ∧ ∃ k ∈ ks, k.2.getLast? = some e.2)) → J (wn.take m ++ e :: wn.drop m) (upd H' lw (.lst (refs.take m ++ .ref t :: refs.drop m))) := fun wn H' refs t e m h hr1 hr2 ht he => by
        rw [eJ] at h ⊢
        obtain ⟨h1, h2, h3, h4, h5, h6, h7, h8⟩ := h
        refine ⟨Lp.ins hr1 hr2 m ht, fun x hx => ?_, h3.other hr1 nlwt, by rw [upd_ne nlwn]; exact h4, by rw [upd_ne (ne_of h5 hr1 (by intro z; cases z))]; exact h5, repBut_all (repBut_knot hr1 But.upd) h6, h7.upd (Ne.symm nlw), h8.at flw⟩
        rcases ins_mem hx with rfl | hx
        · exact he
        · exact h2 x hx
      have J0 : J [] (upd H6 lw (.lst [])) := by
        rw [eJ]
        have s := Same.new (o := .lst []) hlw
        exact ⟨⟨[], upd_same, .nil⟩, (fun e he => by cases he), lp6.same s, s _ _ hln6, s _ _ hkt, krp.same s, v6.same s, b6.trans (But.of_same s)⟩
      have Jv : ∀ wn H', J wn H' → DPV H' p a ∧ But p H H' ∧ H' kt = some (.tup krefs) ∧ RepAll H' krefs (ks.map knotD) ∧ Lp H' lw wn := fun wn H' h => by rw [eJ] at h; exact ⟨h.2.2.2.2.2.2.1, h.2.2.2.2.2.2.2, h.2.2.2.2.1, h.2.2.2.2.2.1, h.1⟩
      generalize upd H6 lw (.lst []) = H7 at J0 ⊢
      refine ⟨_, rfl, kt, rfl, ⟨_, .of (Jv _ _ J0).2.2.1⟩, ?_⟩
      refine for_tup (xs := krefs) (fun i σ H' => ∃ (o5 o6 o7 o8 o9 o11 o12 : Option V) (wn : Prs), σ = [some (.ref p), some (.int 13), some (.ref ln), some (.ref kt), some (.ref lt), o5, o6, o7, o8, o9, some (.ref lw), o11, o12, none, none] ∧ J wn H' ∧ wn.length ≤ 2 * i) ⟨o5, o6, o7, o8, o9, none, none, [], rfl, J0, Nat.zero_le _⟩ ?_ ?_ ?_
      · rintro i σ H' hi ⟨_, _, _, _, _, _, _, wn, rfl, j, _⟩
        exact .of (Jv _ _ j).2.2.1
      · rintro i x σ H8 hx ⟨o5, o6, o7, o8, o9, o11, o12, wn, rfl, j8, wl⟩
        obtain ⟨v8, b8, hkt8, krp8, _⟩ := Jv _ _ j8
        obtain ⟨kn, ta, la, hki, rfl, hta, hla⟩ := knot_get krp8 hx
        have hkm := List.mem_of_getElem? hki
        have hil := (List.getElem?_eq_some_iff.mp hki).1
        refine ⟨ta, _, rfl, .of hta, rfl, _, _, rfl, _, _, rfl, rfl, ?_⟩
        refine ⟨_, rfl, p, a, 6, rfl, hP.but b8 v8, by decide, by decide, fun pk H9 _ _ v9 b9 => ?_⟩
        obtain ⟨ys8, hp8⟩ := v8.at_dK
        have j9 := Jd _ _ _ j8 b9 v9
        have hla9 := tupButD hp8 b9 hla
        refine name_go ?_
        dsimp only
        refine seq_inv (fun σ' H' => ∃ (wn : Prs) (o5 o6 o7 o8 : Option V), σ' = [some (.ref p), some (.int 13), some (.ref ln), some (.ref kt), some (.ref lt), o5, o6, o7, o8, some (.ref la), some (.ref lw), some (.str kn.1), some (.int pk), none, none] ∧ J wn H' ∧ wn.length ≤ 2 * i + 1 ∧ H' la = some (.tup (kn.2.map V.str))) ?_ ?_
        · rintro σ' HA ⟨wn, o5, o6, o7, o8, rfl, jA, wlA, hlaA⟩
          refine ⟨_, rfl, _, _, rfl, Or.inr ⟨_, .of hlaA, rfl⟩, _, _, rfl, rfl, _, rfl, ite2 (fun h => ?_) (fun _ => iteF ⟨_, _, _, _, _, _, _, wn, rfl, jA, by omega⟩)⟩
          have h : (1 : Int) < (((kn.2.map V.str).length : Nat) : Int) := of_decide_eq_true h
          rw [List.length_map] at h
          refine ⟨_, rfl, (by show 2 ≤ sizeLine; decide), fun tq htq => .seq (.inr (.of upd_same)) rfl rfl ⟨_, rfl, ?_⟩⟩
          have sB := Same.new (o := .tup [V.int 2, V.int 3]) htq
          have jB := Js _ _ _ jA sB
          have hlaB := sB _ _ hlaA
          generalize upd HA tq (.tup [V.int 2, V.int 3]) = HB at sB jB hlaB ⊢
          refine ite2 (fun _ => ?_) (fun _ => ⟨_, _, _, _, _, _, _, wn, rfl, jB, by omega⟩)
          obtain ⟨vB, bB, _, _, refs, hr1, hr2⟩ := Jv _ _ jB
          have rl := hr2.len
          rw [List.length_map] at rl
          obtain ⟨ysB, hpB⟩ := vB.at_dK
          refine ⟨_, rfl, .inl ⟨rfl, _, .of hr1⟩, _, rfl, _, rfl, _, _, rfl, Or.inl ⟨_, .of hr1, rfl⟩, .int ⟨p, a, _, rfl, hP.but bB vB, by omega, by omega, fun r3 HC r30 r31 vC bC => ?_⟩⟩
          have jC := Jd _ _ _ jB bC vC
          have hlaC := tupButD hpB bC hlaB
          obtain ⟨_, _, _, _, refs2, hr3, hr4⟩ := Jv _ _ jC
          have rl2 := hr4.len
          rw [List.length_map] at rl2
          obtain ⟨m, rfl⟩ := Int.eq_ofNat_of_zero_le r30
          obtain ⟨z, hz⟩ : ∃ z, kn.2.getLast? = some z := by
            cases q : kn.2.getLast? with
            | none => rw [List.getLast?_eq_none_iff] at q; rw [q] at h; exact absurd h (by decide)
            | some z => exact ⟨z, rfl⟩
          have az : atI (kn.2.map V.str) (-1) = some (.str z) := by
            obtain ⟨ys, e⟩ := List.getLast?_eq_some_iff.mp hz
            rw [e, List.map_append]
            exact atI_last _ _
          refine ⟨_, rfl, _, rfl, .tup (.of hlaC) az (nil_ ⟨(by show 2 ≤ sizeLine; decide), fun t2 h2 => ?_⟩)⟩
          have s2 := Same.new (o := .tup [V.str "last", V.str z]) h2
          have e2 : upd HC t2 (.tup [V.str "last", V.str z]) t2 = some (.tup [V.str "last", V.str z]) := upd_same
          have jD := Js _ _ _ jC s2
          have hr3 := s2 _ _ hr3
          have hr4 := hr4.same s2
          generalize upd HC t2 (.tup [V.str "last", V.str z]) = HD at s2 e2 jD hr3 hr4 ⊢
          refine nil_ ⟨lw, _, _, m, _, rfl, rfl, rfl, hr3, by omega, by omega, ?_⟩
          refine ⟨_, _, _, _, _, _, _, _, rfl, Ji _ _ refs2 t2 ("last", z) m jD hr3 hr4 e2 (.inr ⟨rfl, kn, hkm, hz⟩), ?_⟩
          rw [List.length_append, List.length_cons, List.length_take, List.length_drop]; omega
        · intro N hN
          have fin : ∀ H', J wn H' → H' la = some (.tup (kn.2.map V.str)) → N [some (.ref p), some (.int 13), some (.ref ln), some (.ref kt), some (.ref lt), o5, o6, o7, o8, some (.ref la), some (.ref lw), some (.str kn.1), some (.int pk), none, none] H' := fun H' j h => hN _ _ ⟨wn, _, _, _, _, rfl, j, by omega, h⟩
          refine ⟨_, rfl, (by show 0 ≤ sizeLine; decide), fun t0 h0 => ?_⟩
          have sA := Same.new (o := .tup []) h0
          have jA := Js _ _ _ j9 sA
          have hlaA := sA _ _ hla9
          refine ⟨la, t0, _, rfl, rfl, .of hlaA, upd_same, _, rfl, ?_⟩
          generalize upd H9 t0 (.tup []) = HA at sA jA hlaA ⊢
          cases ek : kn.2 with
          | nil => exact iteF (fin _ jA hlaA)
          | cons z r =>
            refine iteT ⟨_, rfl, (by show 2 ≤ sizeLine; decide), fun tq htq => .seq (.inr (.of upd_same)) rfl rfl ⟨_, rfl, ?_⟩⟩
            have sB := Same.new (o := .tup [V.int 1, V.int 3]) htq
            have jB := Js _ _ _ jA sB
            have hlaB := sB _ _ hlaA
            generalize upd HA tq (.tup [V.int 1, V.int 3]) = HB at sB jB hlaB ⊢
            refine ite2 (fun _ => ?_) (fun _ => fin _ jB hlaB)
            obtain ⟨vB, bB, _, _, refs, hr1, hr2⟩ := Jv _ _ jB
            have rl := hr2.len
            rw [List.length_map] at rl
            obtain ⟨ysB, hpB⟩ := vB.at_dK
            refine ⟨_, rfl, .inl ⟨rfl, _, .of hr1⟩, _, rfl, _, rfl, _, _, rfl, Or.inl ⟨_, .of hr1, rfl⟩, .int ⟨p, a, _, rfl, hP.but bB vB, by omega, by omega, fun r3 HC r30 r31 vC bC => ?_⟩⟩
            have jC := Jd _ _ _ jB bC vC
            have hlaC := tupButD hpB bC hlaB
            obtain ⟨_, _, _, _, refs2, hr3, hr4⟩ := Jv _ _ jC
            have rl2 := hr4.len
            rw [List.length_map] at rl2
            obtain ⟨m, rfl⟩ := Int.eq_ofNat_of_zero_le r30
            have az : atI (kn.2.map V.str) 0 = some (.str z) := by rw [ek]; exact at0
            refine ⟨_, rfl, .tup (.of hlaC) az (nil_ ⟨(by show 2 ≤ sizeLine; decide), fun t2 h2 => ?_⟩)⟩
            have s2 := Same.new (o := .tup [V.str "first", V.str z]) h2
            have e2 : upd HC t2 (.tup [V.str "first", V.str z]) t2 = some (.tup [V.str "first", V.str z]) := upd_same
            have jD := Js _ _ _ jC s2
            have hlaD := s2 _ _ hlaC
            have hr3 := s2 _ _ hr3
            have hr4 := hr4.same s2
            generalize upd HC t2 (.tup [V.str "first", V.str z]) = HD at s2 e2 jD hr3 hr4 hlaD ⊢
            refine nil_ ⟨lw, _, _, m, _, rfl, rfl, rfl, hr3, by omega, by omega, ?_⟩
            refine hN _ _ ⟨_, _, _, _, _, rfl, Ji _ _ refs2 t2 ("first", z) m jD hr3 hr4 e2 (.inl ⟨rfl, kn, hkm, by rw [ek]; rfl⟩), ?_, by rw [upd_ne (ne_of hlaD hr3 (by intro z; cases z))]; exact hlaD⟩
            rw [List.length_append, List.length_cons, List.length_take, List.length_drop]; omega
      · rintro σ H8 ⟨o5, o6, o7, o8, o9, o11, o12, wn, rfl, j8, wl⟩
        have wl : wn.length ≤ 122 := by omega
        rw [eJ] at j8
        obtain ⟨⟨wrefs, hw1, hw2⟩, wok, ⟨trefs, ht1, ht2⟩, hln8, hkt8, krp8, v8, b8⟩ := j8
        clear Js Jd Ji J0 Jv eJ J
        refine ⟨_, rfl, _, rfl, lt, _, rfl, .of ht1, fun tt htt => ⟨(by show 0 ≤ sizeLine; decide), fun te hte => ⟨_, rfl, lw, wrefs, rfl, .of (Same.new hte _ _ (Same.new htt _ _ hw1)), fun tw htw => nil_ ⟨(by show 4 ≤ sizeLine; decide), fun hq hhq => ?_⟩⟩⟩⟩
        · have s1 := Same.new (o := .tup trefs) htt
          have e1 : upd H8 tt (.tup trefs) tt = some (.tup trefs) := upd_same
          generalize upd H8 tt (.tup trefs) = H9 at s1 e1 hte htw hhq ⊢
          have s2 := Same.new (o := .tup []) hte
          have e2 : upd H9 te (.tup []) te = some (.tup []) := upd_same
          have e1 := s2 _ _ e1
          have s12 := s1.trans s2
          generalize upd H9 te (.tup []) = HA at s12 e1 e2 htw hhq ⊢
          have s3 := Same.new (o := .tup wrefs) htw
          have e3 : upd HA tw (.tup wrefs) tw = some (.tup wrefs) := upd_same
          have e1 := s3 _ _ e1
          have e2 := s3 _ _ e2
          have s13 := s12.trans s3
          generalize upd HA tw (.tup wrefs) = HB at s13 e1 e2 e3 hhq ⊢
          have s4 := Same.new (o := .tup [V.ref kt, V.ref tt, V.ref te, V.ref tw]) hhq
          have e4 : upd HB hq (.tup [V.ref kt, V.ref tt, V.ref te, V.ref tw]) hq = some (.tup [V.ref kt, V.ref tt, V.ref te, V.ref tw]) := upd_same
          have sC := s13.trans s4
          have rh : Rep (upd HB hq (.tup [V.ref kt, V.ref tt, V.ref te, V.ref tw])) (.ref hq) (houseD ks ts [] wn) := house_rep e4 (.tup (sC _ _ hkt8) (krp8.same sC)) (.tup (s4 _ _ e1) (ht2.same sC)) (.tup (s4 _ _ e2) .nil) (.tup (s4 _ _ e3) (hw2.same sC))
          have rkC : Rep (upd HB hq (.tup [V.ref kt, V.ref tt, V.ref te, V.ref tw])) (.ref kt) (knotsD ks) := .tup (sC _ _ hkt8) (krp8.same sC)
          have vC := v8.same sC
          have bC := b8.trans (But.of_same (p := p) sC)
          have hlnC := sC _ _ hln8
          have lpt : Lp (upd HB hq (.tup [V.ref kt, V.ref tt, V.ref te, V.ref tw])) lt ts := ⟨trefs, sC _ _ ht1, ht2.same sC⟩
          have lpw : Lp (upd HB hq (.tup [V.ref kt, V.ref tt, V.ref te, V.ref tw])) lw wn := ⟨wrefs, sC _ _ hw1, hw2.same sC⟩
          generalize upd HB hq (.tup [V.ref kt, V.ref tt, V.ref te, V.ref tw]) = HC at rh rkC vC bC hlnC lpt lpw ⊢
          clear s1 s12 s13 s4 sC e1 e2 e3 e4 hhq htw hte htt hw1 hw2 ht1 ht2 hln8 hkt8 krp8 v8 b8 lp6 hln6 rk6 v6 b6 hkt krp hlw
          refine ⟨(by show 0 ≤ sizeLine; decide), fun lx hlx => ?_⟩
          have nlx : lx ≠ p := Ne.symm (vC.ne hlx)
          have nlxn : ln ≠ lx := ne_of_none hlnC hlx
          have nlxt : lt ≠ lx := by obtain ⟨r, h1, _⟩ := lpt; exact ne_of_none h1 hlx
          have nlxw : lw ≠ lx := by obtain ⟨r, h1, _⟩ := lpw; exact ne_of_none h1 hlx
          have flx : H lx = none := bC.free nlx hlx
          have psi : PsIn us ts := fun e he => ⟨(ti e he).1, (ti e he).2.1⟩
          obtain ⟨J, eJ⟩ : ∃ J : Prs → Hp → Prop, J = fun ws H' => Lp H' lx ws ∧ PsIn us ws ∧ Lp H' lt ts ∧ Lp H' lw wn ∧ H' ln = some (.lst (List.map V.str us)) ∧ Rep H' (.ref hq) (houseD ks ts [] wn) ∧ Rep H' (.ref kt) (knotsD ks) ∧ DPV H' p a ∧ But p H H' := ⟨_, rfl⟩
          have Js : ∀ ws H' H'', J ws H' → Same H' H'' → J ws H'' := fun ws H' H'' h s => by
            rw [eJ] at h ⊢
            obtain ⟨h1, h2, h3, h4, h5, h6, h7, h8, h9⟩ := h
            exact ⟨h1.same s, h2, h3.same s, h4.same s, s _ _ h5, h6.same s, h7.same s, h8.same s, h9.trans (But.of_same s)⟩
          have Jd : ∀ ws H' H'', J ws H' → But p H' H'' → DPV H'' p a → J ws H'' := fun ws H' H'' h b v => by
            rw [eJ] at h ⊢
            obtain ⟨h1, h2, h3, h4, h5, h6, h7, h8, h9⟩ := h
            obtain ⟨ys, hp⟩ := h8.at_dK
            exact ⟨h1.but hp b, h2, h3.but hp b, h4.but hp b, b _ _ nln h5, repButD_house hp b h6, repButD_knots hp b h7, v, h9.trans b⟩
          have J0 : J [] (upd HC lx (.lst [])) := by
            rw [eJ]
            have s := Same.new (o := .lst []) hlx
            exact ⟨⟨[], upd_same, .nil⟩, (fun e he => by cases he), lpt.same s, lpw.same s, s _ _ hlnC, rh.same s, rkC.same s, vC.same s, bC.trans (But.of_same s)⟩
          have Jv : ∀ ws H', J ws H' → DPV H' p a ∧ But p H H' ∧ H' ln = some (.lst (List.map V.str us)) ∧ Rep H' (.ref hq) (houseD ks ts [] wn) ∧ Rep H' (.ref kt) (knotsD ks) ∧ Lp H' lx ws ∧ Lp H' lt ts ∧ PsIn us ws ∧ Lp H' lw wn := fun ws H' h => by rw [eJ] at h; exact ⟨h.2.2.2.2.2.2.2.1, h.2.2.2.2.2.2.2.2, h.2.2.2.2.1, h.2.2.2.2.2.1, h.2.2.2.2.2.2.1, h.1, h.2.2.1, h.2.1, h.2.2.2.1⟩
          have Ja : ∀ ws H' (refs : List V) (t : Addr) (e : Str × Str), J ws H' → H' lx = some (.lst refs) → RepAll H' refs (ws.map pairD) → H' t = some (.tup [.str e.1, .str e.2]) → e.1 ∈ us → e.2 ∈ us → J (ws ++ [e]) (upd H' lx (.lst (refs ++ [.ref t]))) := fun ws H' refs t e h hr1 hr2 ht he1 he2 => by
            rw [eJ] at h ⊢
            obtain ⟨h1, h2, h3, h4, h5, h6, h7, h8, h9⟩ := h
            refine ⟨Lp.app hr1 hr2 ht, fun x hx => ?_, h3.other hr1 nlxt, h4.other hr1 nlxw, by rw [upd_ne nlxn]; exact h5, repBut_house hr1 But.upd h6, repBut_knots hr1 But.upd h7, h8.upd (Ne.symm nlx), h9.at flx⟩
            rcases List.mem_append.mp hx with hx | hx
            · exact h2 x hx
            · rw [List.mem_singleton.mp hx]; exact ⟨he1, he2⟩
          generalize upd HC lx (.lst []) = HD at J0 ⊢
          obtain ⟨vD, bD, _⟩ := Jv _ _ J0
          refine ⟨_, rfl, p, a, 7, rfl, hP.but bD vD, by decide, by decide, fun rw_ HE w0 w1 vE bE => ?_⟩
          have jE := Jd _ _ _ J0 bE vE
          refine ⟨_, rfl, by omega, by omega, ?_⟩
          refine for_range (fun i σ H' => ∃ (o5 o6 o7 o8 o9 o11 o12 : Option V) (ws : Prs), σ = [some (.ref p), some (.int 13), some (.ref ln), some (.ref kt), some (.ref lt), o5, o6, o7, o8, o9, some (.ref lw), o11, o12, some (.ref hq), some (.ref lx)] ∧ J ws H' ∧ ws.length ≤ i) ⟨o5, o6, o7, o8, o9, o11, o12, [], rfl, jE, Nat.zero_le _⟩ ?_ ?_
          · rintro i σ H9 hi ⟨o5, o6, o7, o8, o9, o11, o12, ws, rfl, j9, wl9⟩
            have hi : i < 7 := by
              have : i < (rw_ - 0).toNat := by simpa using hi
              omega
            obtain ⟨v9, b9, hln9, _⟩ := Jv _ _ j9
            refine ⟨_, rfl, _, rfl, _, rfl, _, _, rfl, Or.inl ⟨_, .of hln9, rfl⟩, p, a, _, rfl, hP.but b9 v9, by rw [unl]; omega, by rw [unl]; omega, fun r7 HF r70 r71 v10 b10 => ?_⟩
            obtain ⟨u, hu, ax⟩ := pickn r7 r70 r71
            have jF := Jd _ _ _ j9 b10 v10
            obtain ⟨vF, bF, hlnF, _⟩ := Jv _ _ jF
            refine .lst (.of hlnF) ax ?_
            refine ⟨_, rfl, _, rfl, _, rfl, _, _, rfl, Or.inl ⟨_, .of hlnF, rfl⟩, p, a, _, rfl, hP.but bF vF, by rw [unl]; omega, by rw [unl]; omega, fun r8 HG r80 r81 v11 b11 => ?_⟩
            obtain ⟨v, hv, ay⟩ := pickn r8 r80 r81
            have jG := Jd _ _ _ jF b11 v11
            obtain ⟨vG, bG, hlnG, _, rkG, _⟩ := Jv _ _ jG
            refine .lst (.of hlnG) ay ?_
            refine ⟨_, rfl, _, rfl, _, rfl, kt, us, ks, u, v, rfl, rkG, T, hu, hv, fun x HI sI hxI => ?_⟩
            have jI := Js _ _ _ jG sI
            cases qp : partO ks u v with
            | none =>
              rw [qp] at hxI
              have hxI : x = .non := hxI
              subst hxI
              refine ⟨_, rfl, .non ⟨_, rfl, ite2 (fun h => absurd h (by decide)) (fun _ => iteF ?_)⟩⟩
              exact ⟨_, _, _, _, _, _, _, ws, rfl, jI, by omega⟩
            | some pp =>
              obtain ⟨kq, u1, v1⟩ := pp
              rw [qp] at hxI
              obtain ⟨t, rfl, ht⟩ := hxI
              obtain ⟨pu, pv, mu, mv, ne⟩ := T.part hu hv qp
              refine ⟨_, rfl, .non ⟨_, rfl, ite2 (fun _ => ?_) (fun h => absurd (by simp) h)⟩⟩
              obtain ⟨_, _, _, _, _, ⟨xr, hx1, hx2⟩, ⟨tr, ht1, ht2⟩, wsi, _⟩ := Jv _ _ jI
              have xl := hx2.len
              have trl := ht2.len
              rw [List.length_map] at xl trl
              refine ⟨_, rfl, _, rfl, (by show 2 ≤ sizeLine; decide), fun t1 h1 => ?_⟩
              have s1 := Same.new (o := .tup [V.str u, V.str v]) h1
              have e1 : upd HI t1 (.tup [V.str u, V.str v]) t1 = some (.tup [V.str u, V.str v]) := upd_same
              have jK := Js _ _ _ jI s1
              have htK := s1 _ _ ht
              have hx1 := s1 _ _ hx1
              have ht1 := s1 _ _ ht1
              have hx2 := hx2.same s1
              have ht2 := ht2.same s1
              generalize upd HI t1 (.tup [V.str u, V.str v]) = HK at s1 e1 jK htK hx1 ht1 hx2 ht2 ⊢
              refine ⟨_, rfl, _, rfl, .lst ht1 hx1 (by omega) fun lq hlq => ?_⟩
              have s2 := Same.new (o := .lst (tr ++ xr)) hlq
              have e2 : upd HK lq (.lst (tr ++ xr)) lq = some (.lst (tr ++ xr)) := upd_same
              have jL := Js _ _ _ jK s2
              have htL := s2 _ _ htK
              have e1 := s2 _ _ e1
              have rq : RepAll (upd HK lq (.lst (tr ++ xr))) (tr ++ xr) ((ts ++ ws).map pairD) := by rw [List.map_append]; exact RepAll.append (ht2.same s2) (hx2.same s2)
              generalize upd HK lq (.lst (tr ++ xr)) = HL at s2 e2 jL htL e1 rq ⊢
              have psw : PsIn us (ts ++ ws) := fun e he => (List.mem_append.mp he).elim (psi e) (wsi e)
              refine .tr e2 rq (pair_rep (s := u) (t := v) e1) (canLay_pairsN (nmu psw)) (canLay_prN (unm _ hu) (unm _ hv)) (by show 1 ≤ 16; decide) ⟨_, rfl, ?_⟩
              refine ite2 (fun _ => ?_) (fun _ => ⟨_, _, _, _, _, _, _, ws, rfl, jL, by omega⟩)
              obtain ⟨kn, hkn, ekn⟩ := List.mem_map.mp (T.par_in mu).2
              rw [pu] at ekn
              obtain ⟨kq', c⟩ := kn
              have ekn : kq' = kq := ekn
              subst ekn
              obtain ⟨_, _, _, rhL, _⟩ := Jv _ _ jL
              refine ⟨_, rfl, .tup (.of htL) at1 ⟨_, rfl, _, rfl, .tup (.of htL) at0 (nil_ ⟨hq, us, ks, ts, [], wn, kq', c, rfl, rhL, T, ti, fun e he => ?_, hkn, by omega, wl, fun le er es HM sM hle0 hle rpe el esi => ?_⟩)⟩⟩
              · rcases wok e he with ⟨_, k', hk', hh⟩ | ⟨_, k', hk', hh⟩
                · exact T.isIn hk' (List.mem_of_mem_head? hh)
                · exact T.isIn hk' (List.mem_of_getLast? hh)
              · have jM := Js _ _ _ jL sM
                have htM := sM _ _ htL
                refine ⟨_, rfl, .tup (.of htM) at2 (nil_ ⟨le, er, us, es, v1, rfl, hle, rpe, esi, mv, T.len, fun lr seen HN sN hlr0 hlr hiff seen60 => ?_⟩)⟩
                have jN := Js _ _ _ jM sN
                refine .seq (.inl (.of hlr)) rfl (flat_strs _) ⟨_, rfl, ite2 (fun _ => ?_) (fun _ => ⟨_, _, _, _, _, _, _, ws, rfl, jN, by omega⟩)⟩
                obtain ⟨_, _, _, _, _, ⟨xr, hx1, hx2⟩, _⟩ := Jv _ _ jN
                have xl := hx2.len
                rw [List.length_map] at xl
                refine ⟨_, rfl, .inl ⟨rfl, _, .of hx1⟩, _, rfl, _, rfl, (by show 2 ≤ sizeLine; decide), fun t2 h2 => ?_⟩
                have s3 := Same.new (o := .tup [V.str u, V.str v]) h2
                have e3 : upd HN t2 (.tup [V.str u, V.str v]) t2 = some (.tup [V.str u, V.str v]) := upd_same
                have jO := Js _ _ _ jN s3
                have hx1 := s3 _ _ hx1
                have hx2 := hx2.same s3
                generalize upd HN t2 (.tup [V.str u, V.str v]) = HO_ at s3 e3 jO hx1 hx2 ⊢
                refine nil_ ⟨lx, _, _, rfl, rfl, hx1, by omega, ?_⟩
                refine ⟨_, _, _, _, _, _, _, ws ++ [(u, v)], rfl, Ja _ _ xr t2 (u, v) jO hx1 hx2 e3 hu hv, ?_⟩
                rw [List.length_append]; show ws.length + 1 ≤ i + 1; omega
          · rintro σ H9 ⟨o5, o6, o7, o8, o9, o11, o12, ws, rfl, j9, wl9⟩
            have wl9 : ws.length ≤ 7 := by omega
            obtain ⟨v9, b9, _, _, rk9, ⟨xr, hx1, hx2⟩, ⟨tr, ht1, ht2⟩, wsi, ⟨wr, hw1, hw2⟩⟩ := Jv _ _ j9
            refine ⟨_, rfl, _, rfl, lt, tr, rfl, .of ht1, fun tt htt => ⟨_, rfl, lx, xr, rfl, .of (Same.new htt _ _ hx1), fun te hte => ⟨_, rfl, lw, wr, rfl, .of (Same.new hte _ _ (Same.new htt _ _ hw1)), fun tw htw => nil_ ⟨(by show 4 ≤ sizeLine; decide), fun q hq' => ?_⟩⟩⟩⟩
            have s1 := Same.new (o := .tup tr) htt
            have e1 : upd H9 tt (.tup tr) tt = some (.tup tr) := upd_same
            generalize upd H9 tt (.tup tr) = HF at s1 e1 hte htw hq' ⊢
            have s2 := Same.new (o := .tup xr) hte
            have e2 : upd HF te (.tup xr) te = some (.tup xr) := upd_same
            have e1 := s2 _ _ e1
            have s12 := s1.trans s2
            generalize upd HF te (.tup xr) = HG at s12 e1 e2 htw hq' ⊢
            have s3 := Same.new (o := .tup wr) htw
            have e3 : upd HG tw (.tup wr) tw = some (.tup wr) := upd_same
            have e1 := s3 _ _ e1
            have e2 := s3 _ _ e2
            have s13 := s12.trans s3
            generalize upd HG tw (.tup wr) = HI at s13 e1 e2 e3 hq' ⊢
            have s4 := Same.new (o := .tup [V.ref kt, V.ref tt, V.ref te, V.ref tw]) hq'
            have sC := s13.trans s4
            exact k q us ks ts ws wn _ (house_rep upd_same (rk9.same sC) (.tup (s4 _ _ e1) (ht2.same sC)) (.tup (s4 _ _ e2) (hx2.same sC)) (.tup (s4 _ _ e3) (hw2.same sC))) T hd (by omega) ti wsi wok tl wl9 wl (v9.same sC) (b9.trans (But.of_same sC))
end
end K47
namespace K47
open PySem L2
section
variable {P : Program} {w : World} {K : PySem.W.Frag} {mg : Str → Option Value} {base : Heap}
noncomputable def KI (kvs : List (Key × V)) (us : List Str) : Prop := ∀ z, valV kvs z ≠ none → ∃ u ∈ us, z = .inr u
theorem KI.nil {us : List Str} : KI [] us := fun z h => absurd rfl h
theorem KI.put {kvs : List (Key × V)} {us : List Str} {u : Str} {v : V} (h : KI kvs us) (hu : u ∈ us) : KI (putK kvs (.inr u) v) us := fun z hz => by
  by_cases q : z = .inr u
  · exact ⟨u, hu, q⟩
  · rw [valV_put, if_neg q] at hz
    exact h z hz
noncomputable def spHomes : Sp := fun vs H Q _ => ∃ (q : Addr) (us : List Str) (ks : Kn) (ts ws wn : List (Str × Str)), vs = [.ref q] ∧ Rep H (.ref q) (houseD ks ts ws wn) ∧ Tre us ks ∧ ∀ d kvs H', Same H H' → H d = none → H' d = some (.dK kvs) → ArK kvs us ks → KI kvs us → kvs.length ≤ us.length → Q (.ref d) H'
theorem scHomes : FnScope ["house", "table", "knot", "child"] ["house"] (defScope sHomes) := ⟨rfl, rfl, rfl, by decide +kernel, rfl, by decide +kernel, by decide +kernel⟩
theorem ok_homes {f : Addr} {fd : FuncData} (F : Fun K "homes" "homes" sHomes f fd) (B : Blt mg) : FnOk P w K mg base CX0 1 f fd ["house"] spHomes := by
  refine F.ok scHomes (fun vs H Q E h => ?_) (fun cdv A outer s H vs Q E hr h => ?_)
  · obtain ⟨q, us, ks, ts, ws, wn, rfl, _⟩ := h
    rfl
  · obtain ⟨q, us, ks, ts, ws, wn, rfl, R, T, k⟩ := h
    have nd := scHomes.nd
    refine ⟨_, (pss_cons (ps_set (i := 1) nd rfl (Or.inl rfl) pe_dnewK)
      (pss_cons (ps_for PassesOwn.never rfl (pi_tupK K (pe_ix (ix_X K hr.units) (pv 0) pe_int (fun _ _ => rfl))) (pg_name (i := 2) nd rfl (Or.inl rfl)) (pss_one (ps_for PassesOwn.never rfl (pi_tupK K (pe_ix (ix_X K hr.units) (pv 2) pe_int (fun _ _ => rfl))) (pg_name (i := 3) nd rfl (Or.inl rfl)) (pss_one (ps_asg (pe_ix (ix_X K hr.units) (pv 2) pe_int (fun _ _ => rfl)) (pg_sub (pv 1) (pv 3) (set_X hr.units)))))))
      (pss_one (ps_ret (pv 1))))), ?_⟩
    obtain ⟨q', a, b, c, d4, e0, hq, R1, _⟩ := house_at R
    cases e0
    obtain ⟨a', refs, e0, ha, rp⟩ := knots_at R1
    cases e0
    have rlen := rp.len
    rw [List.length_map] at rlen
    have k60 : (kids ks).length ≤ 60 := by rw [T.perm.length_eq]; exact T.len
    intro d hd
    have s0 := Same.new (o := .dK []) hd
    refine ⟨_, rfl, .tup (.of (s0 _ _ hq)) rfl ⟨a, rfl, ⟨_, .of (s0 _ _ ha)⟩, ?_⟩⟩
    refine for_tup (xs := refs) (fun i σ H' => ∃ o2 o3 kvs, σ = [some (.ref q), some (.ref d), o2, o3] ∧ ArN H H' d ks i 0 kvs ∧ KI kvs us) ?_ ?_ ?_ ?_
    · exact ⟨none, none, [], rfl, ⟨s0, upd_same, Nat.zero_le _, (fun k hk => by simp at hk), fun k _ u hu => by simp at hu⟩, KI.nil⟩
    · rintro i σ H' hi ⟨o2, o3, kvs, rfl, ar, ki⟩
      exact .of (ar.sm _ _ ha)
    · rintro i x σ H' hx ⟨o2, o3, kvs, rfl, ar, ki⟩
      obtain ⟨kn, ta, la, hk, rfl, hta, hla⟩ := knot_get rp hx
      refine ⟨_, rfl, .tup (.of (ar.sm _ _ hta)) rfl ⟨la, rfl, ⟨_, .of (ar.sm _ _ hla)⟩, ?_⟩⟩
      refine for_tup (xs := kn.2.map V.str) (fun j σ H' => ∃ o3 kvs, σ = [some (.ref q), some (.ref d), some (.ref ta), o3] ∧ ArN H H' d ks i j kvs ∧ KI kvs us) ?_ ?_ ?_ ?_
      · exact ⟨o3, kvs, rfl, ar, ki⟩
      · rintro j σ H' hj ⟨o3, kvs, rfl, ar, ki⟩
        exact .of (ar.sm _ _ hla)
      · rintro j y σ H' hy ⟨o3, kvs, rfl, ar, ki⟩
        obtain ⟨u, hu, rfl⟩ := str_get hy
        have hr := ar.room hk (List.getElem?_eq_some_iff.mp hu).1 k60
        exact ⟨_, rfl, .tup (.of (ar.sm _ _ hta)) rfl ⟨_, rfl, _, rfl, .dic (DPut.k (k := .inr u) ar.at_ (small1000 (by omega))) ⟨_, _, rfl, ar.put hd T.knd hk hu, ki.put (T.perm.mem_iff.mp (List.mem_flatMap.mpr ⟨kn, List.mem_of_getElem? hk, List.mem_of_getElem? hu⟩))⟩⟩⟩
      · rintro σ H' ⟨o3, kvs, rfl, ar, ki⟩
        rw [List.length_map] at ar
        exact ⟨_, _, kvs, rfl, ar.next hk rfl, ki⟩
    · rintro σ H' ⟨o2, o3, kvs, rfl, ar, ki⟩
      exact ⟨_, rfl, k d kvs H' ar.sm hd ar.at_ (ar.fin T rlen) ki (by have hl := ar.len; rw [rlen, List.take_of_length_le (Nat.le_refl _), T.perm.length_eq] at hl; exact hl)⟩
noncomputable def spChildren : Sp := fun vs H Q _ => ∃ (q : Addr) (us : List Str) (ks : Kn) (ts ws wn : Prs) (k : Str × List Str), vs = [.ref q, .str k.1] ∧ Rep H (.ref q) (houseD ks ts ws wn) ∧ Tre us ks ∧ k ∈ ks ∧ ∀ l H', Same H H' → H l = none → H' l = some (.lst (List.map V.str k.2)) → Q (.ref l) H'
theorem scChildren : FnScope ["house", "knot"] ["house", "knot"] (defScope sChildren) := ⟨rfl, rfl, rfl, by decide +kernel, rfl, by decide +kernel, by decide +kernel⟩
theorem ok_children {f : Addr} {fd : FuncData} (F : Fun K "children" "children" sChildren f fd) (B : Blt mg) : FnOk P w K mg base CX0 1 f fd ["house", "knot"] spChildren := by
  refine F.ok scChildren (fun vs H Q E h => ?_) (fun cdv A outer s H vs Q E hr h => ?_)
  · obtain ⟨q, us, ks, ts, ws, wn, kk, rfl, _⟩ := h
    rfl
  · obtain ⟨q, us, ks, ts, ws, wn, kk, rfl, R, T, hkk, k⟩ := h
    have nd := scChildren.nd
    refine ⟨_, (pss_one (ps_ret (b_list K rfl B (pa_cons (pe_ix (ix_X K hr.units) (b_dicKT K rfl hr.units B (pa_cons (pe_ix (ix_X K hr.units) (pv 0) pe_int (fun _ _ => rfl)) pa_nil)) (pv 1) (fun _ _ => rfl)) pa_nil)))), ?_⟩
    obtain ⟨q', a, b, c, d4, e0, hq, R1, _⟩ := house_at R
    cases e0
    refine ⟨_, rfl, .tup (.of hq) rfl (nil_ (dict_knots R1 T fun D dk hD hdk => ?_))⟩
    obtain ⟨la, hva, hla⟩ := hdk kk hkk
    have s1 := Same.new (o := .dK dk) hD
    refine ⟨_, rfl, .dic (.inl ⟨dk, .inr kk.1, .inl upd_same, rfl, hva.symm⟩) ?_⟩
    generalize upd H D (.dK dk) = H1 at s1 ⊢
    refine nil_ ⟨_, rfl, .seq (.inr (.of (s1 _ _ hla))) fun l hl => ?_⟩
    exact k l _ (s1.trans (Same.new hl)) (same_free s1 hl) upd_same
theorem nm_first : Nm "first" := by refine ⟨by decide +kernel, by decide +kernel, ?_⟩; decide +kernel
theorem nm_last : Nm "last" := by refine ⟨by decide +kernel, by decide +kernel, ?_⟩; decide +kernel
theorem nm_word {z : Str} (h : z = "first" ∨ z = "last") : Nm z := by
  rcases h with rfl | rfl
  · exact nm_first
  · exact nm_last
noncomputable def WnOk (us : List Str) (wn : List (Str × Str)) : Prop := ∀ e ∈ wn, (e.1 = "first" ∨ e.1 = "last") ∧ e.2 ∈ us
noncomputable def spWanted : Sp := fun vs H Q _ => ∃ (q l : Addr) (us c : List Str) (ks : Kn) (ts ws wn : Prs) (word : Str), vs = [.ref q, .ref l, .str word] ∧ Rep H (.ref q) (houseD ks ts ws wn) ∧ Tre us ks ∧ WnOk us wn ∧ (word = "first" ∨ word = "last") ∧ H l = some (.lst (List.map V.str c)) ∧ (∀ u ∈ c, Nm u) ∧ c.length ≤ 60 ∧ ∀ D H', Same H H' → H D = none → H' D = some (.lst (List.map V.str (wU c wn word))) → Q (.ref D) H'
theorem scWanted : FnScope ["house", "row", "word"] ["house", "row", "word"] (defScope sWanted) := ⟨rfl, rfl, rfl, by decide +kernel, rfl, by decide +kernel, by decide +kernel⟩
theorem ok_wanted {f : Addr} {fd : FuncData} (F : Fun K "wanted" "wanted" sWanted f fd) (B : Blt mg) : FnOk P w K mg base CX0 1 f fd ["house", "row", "word"] spWanted := by
  refine F.ok scWanted (fun vs H Q E h => ?_) (fun cdv A outer s H vs Q E hr h => ?_)
  · obtain ⟨q, l, us, c, ks, ts, ws, wn, word, rfl, _⟩ := h
    rfl
  · obtain ⟨q, l, us, c, ks, ts, ws, wn, word, rfl, R, T, wok, hw, hl, cnm, cl, k⟩ := h
    have nd := scWanted.nd
    refine ⟨_, (pss_one (ps_ret (pe_comp (defScope sWanted) ["house", "row", "word"] ["child"] [2, 0] ["child", "word", "house"] rfl (pi_listK K (pv 1)) (fun _ _ _ _ _ => (pg_name (i := 0) (show (["child", "word", "house"] : List Str).Nodup by decide) rfl (Or.inl rfl))) (fun _ _ _ _ _ => (pts_one (pt_cmpR (op_inDT hr.units) (pe_tup (pa_cons (pv 1) (pa_cons (pv 0) pa_nil))) (pe_ix (ix_X K hr.units) (pv 2) pe_int (fun _ _ => rfl)) (by with_unfolding_all rfl)))) (fun _ _ _ _ _ => (pv 0))))), ?_⟩
    obtain ⟨q', a, b, c3, d4, e0, hq, _, _, _, R4⟩ := house_at R
    cases e0
    obtain ⟨d4', rw4, e0, hd4, rpw⟩ := pairsT_at R4
    cases e0
    have cay : PyData.canLayAll0 (wn.map pairD) = true := canLay_pairsN fun e he => ⟨nm_word (wok e he).1, T.nm _ (wok e he).2⟩
    refine ⟨_, rfl, l, rfl, ⟨_, .of hl⟩, ?_⟩
    refine comp_list (List.map V.str c) (fun D j acc σ' H' => ∃ (o0 : Option V), σ' = [o0, some (.str word), some (.ref q)] ∧ acc = List.map V.str (wU (c.take j) wn word) ∧ Same H H' ∧ H D = none) fun D hD => ⟨?_, ?_, ?_, ?_⟩
    · exact ⟨none, rfl, rfl, Same.new hD, hD⟩
    · rintro j acc σ' H' _ ⟨o0, rfl, _, sm, _⟩ _
      exact .of (sm _ _ hl)
    · rintro j acc σ' H' v hv ⟨o0, rfl, rfl, sm, hD0⟩ hacc
      obtain ⟨u, hu, rfl⟩ := str_get hv
      have hjl := (List.getElem?_eq_some_iff.mp hu).1
      have ewU : wU (c.take (j + 1)) wn word = wU (c.take j) wn word ++ (if (decide ((word, u) ∈ wn)) = true then [u] else []) := by
        unfold wU
        rw [List.take_add_one, hu, List.filter_append]
        congr 1
        show List.filter _ [u] = _
        rw [List.filter_cons, List.filter_nil]
      have alen : (wU (c.take j) wn word).length ≤ j := by
        have := List.length_filter_le (fun u => decide ((word, u) ∈ wn)) (c.take j)
        rw [List.length_take] at this
        unfold wU
        omega
      dsimp only [gName]
      refine ⟨_, rfl, _, rfl, (by show 2 ≤ sizeLine; decide), fun t ht => ?_⟩
      have st := Same.new (o := .tup [V.str word, V.str u]) ht
      have et : upd H' t (.tup [V.str word, V.str u]) t = some (.tup [V.str word, V.str u]) := upd_same
      have hacc2 := st _ _ hacc
      have sm2 := sm.trans st
      generalize upd H' t (.tup [V.str word, V.str u]) = H2 at et hacc2 sm2 ⊢
      refine ⟨_, rfl, .tup (.of (sm2 _ _ hq)) rfl ⟨d4, rw4, _, pairD (word, u), rfl, sm2 _ _ hd4, rpw.same sm2, pair_rep et, cay, canLay_pairN (e := (word, u)) ⟨nm_word hw, cnm u (List.mem_of_getElem? hu)⟩, (by show 1 ≤ 16; decide), _, rfl, ?_⟩⟩
      rw [if_neg (show ¬ false = true by decide), any_pair]
      refine ite2 (fun hc => ?_) (fun hc => ?_)
      · rw [if_pos hc] at ewU
        exact ⟨_, rfl, hacc2, by rw [List.length_map]; exact small1000 (by omega), _, rfl, by rw [ewU, List.map_append]; rfl, same_at sm2 hD0, hD0⟩
      · rw [if_neg hc, List.append_nil] at ewU
        exact ⟨hacc2, _, rfl, by rw [ewU], sm2, hD0⟩
    · rintro acc σ' H' ⟨o0, rfl, rfl, sm, hD0⟩ hacc
      rw [List.length_map, List.take_of_length_le (Nat.le_refl _)] at hacc
      exact k D H' sm hD0 hacc
end
end K47
namespace K47
open PySem L2
section
variable {P : Program} {w : World} {K : PySem.W.Frag} {mg : Str → Option Value} {base : Heap}
theorem knot_rep {H : Hp} {ta la : Addr} {k : Str × List Str} (h1 : H ta = some (.tup [.str k.1, .ref la])) (h2 : H la = some (.tup (k.2.map V.str))) : Rep H (.ref ta) (knotD k) := .tup h1 (.cons (.str _) (.cons (.tup h2 (RepAll.of_strs _)) .nil))
noncomputable def rowK (knot : Str) (row : List Str) (k : Str × List Str) : Str × List Str := if k.1 = knot then (knot, row) else k
noncomputable def spWithRow : Sp := fun vs H Q _ => ∃ (q l : Addr) (ks : Kn) (ts ws wn : Prs) (knot : Str) (row : List Str), vs = [.ref q, .str knot, .ref l] ∧ Rep H (.ref q) (houseD ks ts ws wn) ∧ H l = some (.lst (List.map V.str row)) ∧ ks.length ≤ 100 ∧ ∀ q' H', Same H H' → Rep H' (.ref q') (houseD (ks.map (rowK knot row)) ts ws wn) → Q (.ref q') H'
theorem scWithRow : FnScope ["house", "knot", "row", "knots"] ["house", "knot", "row"] (defScope sWithRow) := ⟨rfl, rfl, rfl, by decide +kernel, rfl, by decide +kernel, by decide +kernel⟩
theorem ok_with_row {f : Addr} {fd : FuncData} (F : Fun K "with_row" "with_row" sWithRow f fd) (B : Blt mg) : FnOk P w K mg base CX0 1 f fd ["house", "knot", "row"] spWithRow := by
  refine F.ok scWithRow (fun vs H Q E h => ?_) (fun cdv A outer s H vs Q E hr h => ?_)
  · obtain ⟨q, l, ks, ts, ws, wn, knot, row, rfl, _⟩ := h
    rfl
  · obtain ⟨q, l, ks, ts, ws, wn, knot, row, rfl, R, hl, kl, k⟩ := h
    have nd := scWithRow.nd
    refine ⟨_, (pss_cons (ps_setC (i := 3) nd rfl rfl (by rfl) (defScope sWithRow) ["house", "knot", "row", "knots"] ["held"] [1, 2] ["held", "knot", "row"] rfl (pi_tupK K (pe_ix (ix_X K hr.units) (pv 0) pe_int (fun _ _ => rfl))) (fun _ _ _ _ _ => (pg_name (i := 0) (show (["held", "knot", "row"] : List Str).Nodup by decide) rfl (Or.inl rfl))) (fun _ _ _ _ _ => pts_nil) (fun _ _ _ _ _ => (pe_ifExp (pt_cmpR (op_eqX hr.units) (pe_ix (ix_X K hr.units) (pv 0) pe_int (fun _ _ => rfl)) (pv 1) (nomark _)) (pe_tup (pa_cons (pv 1) (pa_cons (b_tuple K B (pa_cons (pv 2) pa_nil)) pa_nil))) (pv 0))))
      (pss_one (ps_ret (pe_tup (pa_cons (b_tuple K B (pa_cons (pv 3) pa_nil)) (pa_cons (pe_ix (ix_X K hr.units) (pv 0) pe_int (fun _ _ => rfl)) (pa_cons (pe_ix (ix_X K hr.units) (pv 0) pe_int (fun _ _ => rfl)) (pa_cons (pe_ix (ix_X K hr.units) (pv 0) pe_int (fun _ _ => rfl)) pa_nil)))))))), ?_⟩
    obtain ⟨q', a, b, c3, d4, e0, hq, R1, R2, R3, R4⟩ := house_at R
    cases e0
    obtain ⟨a', refs, e0, ha, rp⟩ := knots_at R1
    cases e0
    have rlen := rp.len
    rw [List.length_map] at rlen
    refine ⟨_, rfl, .tup (.of hq) rfl ⟨a, rfl, ⟨_, .of ha⟩, ?_⟩⟩
    refine comp_tup refs (fun D j acc σ' H' => ∃ (o0 : Option V), σ' = [o0, some (.str knot), some (.ref l)] ∧ RepAll H' acc (((ks.take j).map (rowK knot row)).map knotD) ∧ Same H H' ∧ H D = none) fun D hD => ⟨?_, ?_, ?_, ?_⟩
    · exact ⟨none, rfl, .nil, Same.new hD, hD⟩
    · rintro j acc σ' H' _ ⟨o0, rfl, _, sm, _⟩ _
      exact .of (sm _ _ ha)
    · rintro j acc σ' H' v hv ⟨o0, rfl, ra, sm, hD0⟩ hacc
      obtain ⟨kn, ta, la, hk, rfl, hta, hla⟩ := knot_get rp hv
      have hil := (List.getElem?_eq_some_iff.mp hk).1
      have alen := ra.len
      rw [List.length_map, List.length_map, List.length_take] at alen
      have etk : (ks.take (j + 1)).map (rowK knot row) = (ks.take j).map (rowK knot row) ++ [rowK knot row kn] := by
        rw [List.take_add_one, hk, List.map_append]; rfl
      refine gYes ?_
      refine ⟨_, rfl, .tup (.of (sm _ _ hta)) rfl ⟨_, rfl, .sc rfl ⟨_, rfl, ?_⟩⟩⟩
      refine ite2 (fun h => ?_) (fun h => ?_)
      · have hn : kn.1 = knot := by simpa using h
        refine ⟨_, rfl, _, rfl, l, _, rfl, .of (sm _ _ hl), fun t1 h1 => nil_ ⟨(by show 2 ≤ sizeLine; decide), fun t2 h2 => ?_⟩⟩
        have s1 := Same.new (o := .tup (List.map V.str row)) h1
        have e1 : upd H' t1 (.tup (List.map V.str row)) t1 = some (.tup (List.map V.str row)) := upd_same
        generalize upd H' t1 (.tup (List.map V.str row)) = H1 at s1 e1 h2 ⊢
        have s2 := Same.new (o := .tup [V.str knot, V.ref t1]) h2
        have e2 : upd H1 t2 (.tup [V.str knot, V.ref t1]) t2 = some (.tup [V.str knot, V.ref t1]) := upd_same
        have e1 := s2 _ _ e1
        have s12 := s1.trans s2
        generalize upd H1 t2 (.tup [V.str knot, V.ref t1]) = H2 at s12 e1 e2 ⊢
        have hacc2 := s12 _ _ hacc
        refine ⟨hacc2, small1000 (by omega), _, rfl, ?_, same_at (sm.trans s12) hD0, hD0⟩
        rw [etk, List.map_append]
        refine RepAll.append (repBut_all (repBut_knot hacc2 But.upd) (ra.same s12)) (.cons ?_ .nil)
        rw [show rowK knot row kn = (knot, row) by unfold rowK; rw [if_pos hn]]
        exact knot_rep (k := (knot, row)) (tupBut hacc2 But.upd e2) (tupBut hacc2 But.upd e1)
      · have hn : kn.1 ≠ knot := fun z => h (by simpa using z)
        refine ⟨_, rfl, hacc, small1000 (by omega), _, rfl, ?_, same_at sm hD0, hD0⟩
        rw [etk, List.map_append]
        refine RepAll.append (repBut_all (repBut_knot hacc But.upd) ra) (.cons ?_ .nil)
        rw [show rowK knot row kn = kn by unfold rowK; rw [if_neg hn]]
        exact knot_rep (tupBut hacc But.upd (sm _ _ hta)) (tupBut hacc But.upd (sm _ _ hla))
    · rintro acc σ' H' ⟨o0, rfl, ra, sm, hD0⟩ hacc
      rw [rlen, List.take_of_length_le (Nat.le_refl _)] at ra
      refine ⟨_, rfl, D, acc, rfl, .of hacc, fun t1 h1 => ?_⟩
      have s1 := Same.new (o := .tup acc) h1
      have e1 : upd H' t1 (.tup acc) t1 = some (.tup acc) := upd_same
      have sA := sm.trans s1
      have ra := ra.same s1
      generalize upd H' t1 (.tup acc) = H1 at e1 sA ra ⊢
      refine ⟨_, rfl, .tup (.of (sA _ _ hq)) rfl ⟨_, rfl, .tup (.of (sA _ _ hq)) rfl ⟨_, rfl, .tup (.of (sA _ _ hq)) rfl (nil_ ⟨(by show 4 ≤ sizeLine; decide), fun t2 h2 => ?_⟩)⟩⟩⟩
      have s2 := Same.new (o := .tup [V.ref t1, V.ref b, V.ref c3, V.ref d4]) h2
      have sB := sA.trans s2
      exact k t2 _ sB (house_rep upd_same (.tup (s2 _ _ e1) (ra.same s2)) (R2.same sB) (R3.same sB) (R4.same sB))
noncomputable def othK (c lst : List Str) : List Str := c.filter fun u => !decide (u ∈ lst)
noncomputable def thingK (c : List Str) (wn : Prs) (name : Str) : List Str := othK c (wU c wn "last") ++ [name] ++ wU c wn "last"
theorem row_len {us : List Str} {ks : Kn} (T : Tre us ks) {k : Str × List Str} (hk : k ∈ ks) : k.2.length ≤ 60 := by
  have h1 := nd_len (xs := k.2) (ys := us) ?_ fun x hx => T.isIn hk hx
  · have := T.len; omega
  · have := T.knd
    obtain ⟨a, b, e⟩ := List.append_of_mem hk
    rw [e, kids_app] at this
    have := (List.nodup_append.mp this).2.1
    rw [show k :: b = [k] ++ b from rfl, kids_app] at this
    have := (List.nodup_append.mp this).1
    rw [show kids [k] = k.2 by show [k].flatMap (·.2) = _; simp] at this
    exact this
noncomputable def spWithThing : Sp := fun vs H Q _ => ∃ (q : Addr) (us : List Str) (ks : Kn) (ts ws wn : Prs) (name : Str) (kk : Str × List Str), vs = [.ref q, .str name, .str kk.1] ∧ Rep H (.ref q) (houseD ks ts ws wn) ∧ Tre us ks ∧ WnOk us wn ∧ kk ∈ ks ∧ ∀ q' H', Same H H' → Rep H' (.ref q') (houseD (ks.map (rowK kk.1 (thingK kk.2 wn name))) ts ws wn) → Q (.ref q') H'
theorem scWithThing : FnScope ["house", "name", "knot", "row", "last", "others"] ["house", "name", "knot"] (defScope sWithThing) := ⟨rfl, rfl, rfl, by decide +kernel, rfl, by decide +kernel, by decide +kernel⟩
theorem ok_with_thing {f : Addr} {fd : FuncData} (F : Fun K "with_thing" "with_thing" sWithThing f fd) (B : Blt mg) (cchildren : Cal P w K mg base 1 "children" ["house", "knot"] spChildren) (cwanted : Cal P w K mg base 1 "wanted" ["house", "row", "word"] spWanted) (cwith_row : Cal P w K mg base 1 "with_row" ["house", "knot", "row"] spWithRow) : FnOk P w K mg base CX0 2 f fd ["house", "name", "knot"] spWithThing := by
  refine F.ok scWithThing (fun vs H Q E h => ?_) (fun cdv A outer s H vs Q E hr h => ?_)
  · obtain ⟨q, us, ks, ts, ws, wn, name, kk, rfl, _⟩ := h
    rfl
  · obtain ⟨q, us, ks, ts, ws, wn, name, kk, rfl, R, T, wok, hkk, k⟩ := h
    have nd := scWithThing.nd
    have klen := row_len T hkk
    have kfew := T.few
    have sz : 200 ≤ sizeLine := by decide
    refine ⟨_, (pss_cons (ps_set (i := 3) nd rfl (Or.inl rfl) (pe_cal cchildren (hr.mono (by decide)) rfl (pa_cons (pv 0) (pa_cons (pv 2) pa_nil))))
      (pss_cons (ps_set (i := 4) nd rfl (Or.inr rfl) (pe_cal cwanted (hr.mono (by decide)) rfl (pa_cons (pv 0) (pa_cons (pv 3) (pa_cons pe_str pa_nil)))))
      (pss_cons (ps_setC (i := 5) nd rfl rfl (by rfl) (defScope sWithThing) ["house", "name", "knot", "row", "last", "others"] ["child"] [4] ["child", "last"] rfl (pi_listK K (pv 3)) (fun _ _ _ _ _ => (pg_name (i := 0) (show (["child", "last"] : List Str).Nodup by decide) rfl (Or.inl rfl))) (fun _ _ _ _ _ => (pts_one (pt_cmpR (op_notInX K hr.units) (pv 0) (pv 1) (by with_unfolding_all rfl)))) (fun _ _ _ _ _ => (pv 0)))
      (pss_one (ps_ret (pe_cal cwith_row (hr.mono (by decide)) rfl (pa_cons (pv 0) (pa_cons (pv 2) (pa_cons (pe_op op_addX (pe_op op_addX (pv 5) (pe_lst (pa_cons (pv 1) pa_nil))) (pv 4)) pa_nil))))))))), ?_⟩
    refine ⟨_, rfl, _, rfl, nil_ ⟨q, us, ks, ts, ws, wn, kk, rfl, R, T, hkk, fun l H1 s1 _ hl => ?_⟩⟩
    refine ⟨_, rfl, _, rfl, q, l, us, kk.2, ks, ts, ws, wn, "last", rfl, R.same s1, T, wok, .inr rfl, hl, (fun u hu => T.nm u (T.isIn hkk hu)), klen, fun l2 H2 s2 _ hl2 => ?_⟩
    have hl := s2 _ _ hl
    have sA := s1.trans s2
    have wl : (wU kk.2 wn "last").length ≤ 60 := Nat.le_trans (List.length_filter_le _ _) klen
    refine ⟨_, rfl, l, rfl, ⟨_, .of hl⟩, ?_⟩
    refine comp_list (List.map V.str kk.2) (fun D j acc σ' H' => ∃ (o0 : Option V), σ' = [o0, some (.ref l2)] ∧ acc = List.map V.str (othK (kk.2.take j) (wU kk.2 wn "last")) ∧ Same H2 H' ∧ H2 D = none) fun D hD => ⟨?_, ?_, ?_, ?_⟩
    · exact ⟨none, rfl, rfl, Same.new hD, hD⟩
    · rintro j acc σ' H' _ ⟨o0, rfl, _, sm, _⟩ _
      exact .of (sm _ _ hl)
    · rintro j acc σ' H' v hv ⟨o0, rfl, rfl, sm, hD0⟩ hacc
      obtain ⟨u, hu, rfl⟩ := str_get hv
      have hjl := (List.getElem?_eq_some_iff.mp hu).1
      have eo : othK (kk.2.take (j + 1)) (wU kk.2 wn "last") = othK (kk.2.take j) (wU kk.2 wn "last") ++ (if (!decide (u ∈ wU kk.2 wn "last")) = true then [u] else []) := by
        unfold othK
        rw [List.take_add_one, hu, List.filter_append]
        congr 1
        show List.filter _ [u] = _
        rw [List.filter_cons, List.filter_nil]
      have alen : (othK (kk.2.take j) (wU kk.2 wn "last")).length ≤ j := by
        have := List.length_filter_le (fun u => !decide (u ∈ wU kk.2 wn "last")) (kk.2.take j)
        rw [List.length_take] at this
        unfold othK
        omega
      dsimp only [gName]
      refine ⟨_, rfl, _, rfl, .seq (.inl (.of (sm _ _ hl2))) rfl (flat_strs _) ⟨_, rfl, ?_⟩⟩
      rw [in_strs, if_pos (show true = true from rfl)]
      refine ite2 (fun hc => ?_) (fun hc => ?_)
      · rw [if_pos hc] at eo
        exact ⟨_, rfl, hacc, by rw [List.length_map]; exact small1000 (by omega), _, rfl, by rw [eo, List.map_append]; rfl, same_at sm hD0, hD0⟩
      · rw [if_neg hc, List.append_nil] at eo
        exact ⟨hacc, _, rfl, by rw [eo], sm, hD0⟩
    · rintro acc σ' H3 ⟨o0, rfl, rfl, s3, hD0⟩ hacc
      rw [List.length_map, List.take_of_length_le (Nat.le_refl _)] at hacc
      have sB := sA.trans s3
      have ol : (othK kk.2 (wU kk.2 wn "last")).length ≤ 60 := Nat.le_trans (List.length_filter_le _ _) klen
      refine ⟨_, rfl, _, rfl, _, rfl, _, rfl, (by show 1 ≤ sizeLine; decide), fun t1 h1 => ?_⟩
      have s4 := Same.new (o := .lst [V.str name]) h1
      have e4 : upd H3 t1 (.lst [V.str name]) t1 = some (.lst [V.str name]) := upd_same
      have sC := sB.trans s4
      have hacc := s4 _ _ hacc
      have hl2 := s4 _ _ (s3 _ _ hl2)
      generalize upd H3 t1 (.lst [V.str name]) = H4 at e4 sC hacc hl2 ⊢
      refine .lst hacc e4 (by rw [List.length_map]; exact small1000 (by omega)) fun t2 h2 => ?_
      have s5 := Same.new (o := .lst (List.map V.str (othK kk.2 (wU kk.2 wn "last")) ++ [V.str name])) h2
      have e5 : upd H4 t2 (.lst (List.map V.str (othK kk.2 (wU kk.2 wn "last")) ++ [V.str name])) t2 = _ := upd_same
      have sD := sC.trans s5
      have hl2 := s5 _ _ hl2
      generalize upd H4 t2 (.lst (List.map V.str (othK kk.2 (wU kk.2 wn "last")) ++ [V.str name])) = H5 at e5 sD hl2 ⊢
      refine ⟨_, rfl, .lst e5 hl2 (by rw [List.length_append, List.length_map, List.length_map]; show _ + 1 + _ ≤ _; omega) fun t3 h3 => ?_⟩
      have s6 := Same.new (o := .lst (List.map V.str (othK kk.2 (wU kk.2 wn "last")) ++ [V.str name] ++ List.map V.str (wU kk.2 wn "last"))) h3
      have sE := sD.trans s6
      refine nil_ ⟨q, t3, ks, ts, ws, wn, kk.1, thingK kk.2 wn name, rfl, R.same sE, ?_, by omega, fun q' H6 s7 r7 => k q' H6 (sE.trans s7) r7⟩
      rw [upd_same]
      unfold thingK
      rw [List.map_append, List.map_append]; rfl
end
end K47
namespace K47
open PySem L2
section
variable {P : Program} {w : World} {K : PySem.W.Frag} {mg : Str → Option Value} {base : Heap}
noncomputable def spNewName : Sp := fun vs H Q _ => ∃ (q : Addr) (us : List Str) (ks : Kn) (ts ws wn : Prs) (name : Str), vs = [.ref q, .str name] ∧ Rep H (.ref q) (houseD ks ts ws wn) ∧ Tre us ks ∧ name ∉ us ∧ ∀ H', Same H H' → Q .non H'
theorem scNewName : FnScope ["house", "name"] ["house", "name"] (defScope sNeedNewName) := ⟨rfl, rfl, rfl, by decide +kernel, rfl, by decide +kernel, by decide +kernel⟩
theorem ok_new_name {f : Addr} {fd : FuncData} (F : Fun K "need_new_name" "need_new_name" sNeedNewName f fd) (B : Blt mg) (chomes : Cal P w K mg base 1 "homes" ["house"] spHomes) : FnOk P w K mg base CX0 2 f fd ["house", "name"] spNewName := by
  refine F.ok scNewName (fun vs H Q E h => ?_) (fun cdv A outer s H vs Q E hr h => ?_)
  · obtain ⟨q, us, ks, ts, ws, wn, name, rfl, _⟩ := h
    rfl
  · obtain ⟨q, us, ks, ts, ws, wn, name, rfl, R, T, hn, k⟩ := h
    have nd := scNewName.nd
    refine ⟨_, (pss_one (ps_if (pt_cmpR (op_inX K hr.units) (pv 1) (pe_cal chomes (hr.mono (by decide)) rfl (pa_cons (pv 0) pa_nil)) (by with_unfolding_all rfl)) (pss_one ps_never) pss_nil)), ?_⟩
    refine ⟨_, rfl, _, rfl, q, us, ks, ts, ws, wn, rfl, R, T, fun d kvs H1 s1 hd0 hd ar ki kl => ?_⟩
    have no : valV kvs (.inr name) = none := Classical.byContradiction fun z => by
      obtain ⟨u, hu, e⟩ := ki _ z
      cases e
      exact hn hu
    refine .dic (.inl ⟨kvs, .inr name, .inl hd, rfl, no.symm⟩) ⟨_, rfl, ite2 (fun h => absurd h (by decide)) (fun _ => k H1 s1)⟩
noncomputable def spNeedKnot : Sp := fun vs H Q _ => ∃ (q : Addr) (us : List Str) (ks : Kn) (ts ws wn : Prs) (kk : Str × List Str), vs = [.ref q, .str kk.1] ∧ Rep H (.ref q) (houseD ks ts ws wn) ∧ Tre us ks ∧ kk ∈ ks ∧ ∀ H', Same H H' → Q .non H'
theorem scNeedKnot : FnScope ["house", "knot"] ["house", "knot"] (defScope sNeedKnot) := ⟨rfl, rfl, rfl, by decide +kernel, rfl, by decide +kernel, by decide +kernel⟩
theorem ok_need_knot {f : Addr} {fd : FuncData} (F : Fun K "need_knot" "need_knot" sNeedKnot f fd) (B : Blt mg) : FnOk P w K mg base CX0 1 f fd ["house", "knot"] spNeedKnot := by
  refine F.ok scNeedKnot (fun vs H Q E h => ?_) (fun cdv A outer s H vs Q E hr h => ?_)
  · obtain ⟨q, us, ks, ts, ws, wn, kk, rfl, _⟩ := h
    rfl
  · obtain ⟨q, us, ks, ts, ws, wn, kk, rfl, R, T, hkk, k⟩ := h
    have nd := scNeedKnot.nd
    refine ⟨_, (pss_one (ps_if (pt_cmpR (op_notInX K hr.units) (pv 1) (b_dicKT K rfl hr.units B (pa_cons (pe_ix (ix_X K hr.units) (pv 0) pe_int (fun _ _ => rfl)) pa_nil)) (by with_unfolding_all rfl)) (pss_one ps_never) pss_nil)), ?_⟩
    obtain ⟨q', a, b, c, d4, e0, hq, R1, _⟩ := house_at R
    cases e0
    refine ⟨_, rfl, _, rfl, .tup (.of hq) rfl (nil_ (dict_knots R1 T fun D dk hD hdk => ?_))⟩
    obtain ⟨la, hva, hla⟩ := hdk kk hkk
    refine .dic (.inl ⟨dk, .inr kk.1, .inl upd_same, rfl, hva.symm⟩) ⟨_, rfl, ite2 (fun h => by cases (show false = true from h)) (fun _ => k _ (Same.new hD))⟩
noncomputable def spNeedRoom : Sp := fun vs H Q _ => ∃ (q : Addr) (us : List Str) (ks : Kn) (ts ws wn : Prs), vs = [.ref q] ∧ Rep H (.ref q) (houseD ks ts ws wn) ∧ Tre us ks ∧ us.length < 60 ∧ ∀ H', Same H H' → Q .non H'
theorem scNeedRoom : FnScope ["house"] ["house"] (defScope sNeedRoom) := ⟨rfl, rfl, rfl, by decide +kernel, rfl, by decide +kernel, by decide +kernel⟩
theorem ok_need_room {f : Addr} {fd : FuncData} {tk : Tok} (F : Fun K "need_room" "need_room" sNeedRoom f fd) (B : Blt mg) (TU : mg "MOST_UNITS" = some (.int 60 tk)) (chomes : Cal P w K mg base 1 "homes" ["house"] spHomes) : FnOk P w K mg base CX0 2 f fd ["house"] spNeedRoom := by
  refine F.ok scNeedRoom (fun vs H Q E h => ?_) (fun cdv A outer s H vs Q E hr h => ?_)
  · obtain ⟨q, us, ks, ts, ws, wn, rfl, _⟩ := h
    rfl
  · obtain ⟨q, us, ks, ts, ws, wn, rfl, R, T, hn, k⟩ := h
    have nd := scNeedRoom.nd
    refine ⟨_, (pss_one (ps_if (pt_cmpR op_ge (b_lenD B (pa_cons (pe_cal chomes (hr.mono (by decide)) rfl (pa_cons (pv 0) pa_nil)) pa_nil)) (pe_glob (v := .int 60) rfl TU ⟨_, rfl⟩) (nomark _)) (pss_one ps_never) pss_nil)), ?_⟩
    refine ⟨_, rfl, q, us, ks, ts, ws, wn, rfl, R, T, fun d kvs H1 s1 hd0 hd ar ki kl => ?_⟩
    refine nil_ ⟨d, kvs, rfl, hd, _, _, rfl, rfl, _, rfl, ite2 (fun h => ?_) (fun _ => k H1 s1)⟩
    have h := of_decide_eq_true h
    omega
noncomputable def spRefThing : Sp := fun vs H Q _ => ∃ (q t : Addr) (us : List Str) (ks : Kn) (ts ws wn : Prs) (name : Str) (kk : Str × List Str), vs = [.ref q, .ref t] ∧ H t = some (.tup [.str "thing", .str name, .str kk.1]) ∧ Rep H (.ref q) (houseD ks ts ws wn) ∧ Tre us ks ∧ name ∉ us ∧ kk ∈ ks ∧ us.length < 60 ∧ ∀ H', Same H H' → Q .non H'
theorem scRefThing : FnScope ["house", "deed"] ["house", "deed"] (defScope sRefuseThing) := ⟨rfl, rfl, rfl, by decide +kernel, rfl, by decide +kernel, by decide +kernel⟩
theorem ok_ref_thing {f : Addr} {fd : FuncData} (F : Fun K "refuse_thing" "refuse_thing" sRefuseThing f fd) (B : Blt mg) (cneed_new_name : Cal P w K mg base 2 "need_new_name" ["house", "name"] spNewName) (cneed_knot : Cal P w K mg base 1 "need_knot" ["house", "knot"] spNeedKnot) (cneed_room : Cal P w K mg base 2 "need_room" ["house"] spNeedRoom) : FnOk P w K mg base CX0 3 f fd ["house", "deed"] spRefThing := by
  refine F.ok scRefThing (fun vs H Q E h => ?_) (fun cdv A outer s H vs Q E hr h => ?_)
  · obtain ⟨q, t, us, ks, ts, ws, wn, name, kk, rfl, _⟩ := h
    rfl
  · obtain ⟨q, t, us, ks, ts, ws, wn, name, kk, rfl, ht, R, T, hn, hkk, hl, k⟩ := h
    have nd := scRefThing.nd
    refine ⟨_, (pss_cons (ps_expr (pe_cal cneed_new_name (hr.mono (by decide)) rfl (pa_cons (pv 0) (pa_cons (pe_ix (ix_X K hr.units) (pv 1) pe_int (fun _ _ => rfl)) pa_nil))))
      (pss_cons (ps_expr (pe_cal cneed_knot (hr.mono (by decide)) rfl (pa_cons (pv 0) (pa_cons (pe_ix (ix_X K hr.units) (pv 1) pe_int (fun _ _ => rfl)) pa_nil))))
      (pss_one (ps_expr (pe_cal cneed_room (hr.mono (by decide)) rfl (pa_cons (pv 0) pa_nil)))))), ?_⟩
    refine ⟨_, rfl, _, rfl, .tup (.of ht) rfl (nil_ ⟨q, us, ks, ts, ws, wn, name, rfl, R, T, hn, fun H1 s1 => ?_⟩)⟩
    refine ⟨_, rfl, _, rfl, .tup (.of (s1 _ _ ht)) rfl (nil_ ⟨q, us, ks, ts, ws, wn, kk, rfl, R.same s1, T, hkk, fun H2 s2 => ?_⟩)⟩
    have s12 := s1.trans s2
    exact ⟨_, rfl, q, us, ks, ts, ws, wn, rfl, R.same s12, T, hl, fun H3 s3 => k H3 (s12.trans s3)⟩
noncomputable def spRefuse : Sp := spRefThing
theorem scRefuse : FnScope ["house", "deed"] ["house", "deed"] (defScope sRefuse) := ⟨rfl, rfl, rfl, by decide +kernel, rfl, by decide +kernel, by decide +kernel⟩
theorem ok_refuse {f fT : Addr} {fd fdT : FuncData} {dA : Addr} {dv : List (Key × Value)} (F : Fun K "refuse" "refuse" sRefuse f fd) (B : Blt mg) (TR : mg "REFUSALS" = some (.ref dA)) (KR : KD P w K dA dv) (hv : valueAt dv (.inr "thing") = some (.ref fT)) (hk : PySem.W.keepIn K (.ref fT) = true) (FT : FnOk P w K mg base CX0 3 fT fdT ["house", "deed"] spRefThing) (hb : Binds K fdT ["house", "deed"] []) : FnOk P w K mg base CX0 4 f fd ["house", "deed"] spRefuse := by
  refine F.ok scRefuse (fun vs H Q E h => ?_) (fun cdv A outer s H vs Q E hr h => ?_)
  · obtain ⟨q, t, us, ks, ts, ws, wn, name, kk, rfl, _⟩ := h
    rfl
  · obtain ⟨q, t, us, ks, ts, ws, wn, name, kk, rfl, ht, h⟩ := h
    have nd := scRefuse.nd
    refine ⟨_, (pss_one (ps_expr (pe_callV FT (hr.mono (by decide)) hk hb pass0 (pe_ix (ix_KD KR) (pe_glob (v := .ref dA) rfl TR rfl) (pe_ix (ix_X K hr.units) (pv 1) pe_int (fun _ _ => rfl)) (fun _ _ => rfl)) (pa_cons (pv 0) (pa_cons (pv 1) pa_nil))))), ?_⟩
    refine ⟨_, rfl, .tup (.of ht) rfl ⟨.inr "thing", _, .ref fT, rfl, rfl, hv, rfl, rfl, ?_⟩⟩
    refine ⟨_, rfl, _, rfl, nil_ ⟨q, t, us, ks, ts, ws, wn, name, kk, rfl, ht, ?_⟩⟩
    exact h
end
end K47
namespace K47
open PySem L2
section
variable {P : Program} {w : World} {K : PySem.W.Frag} {mg : Str → Option Value} {base : Heap}
structure ThD (H : Hp) (q t : Addr) (us : List Str) (ks : Kn) (ts ws wn : Prs) (name : Str) (kk : Str × List Str) : Prop where
  at_ : H t = some (.tup [.str "thing", .str name, .str kk.1])
  rep : Rep H (.ref q) (houseD ks ts ws wn)
  tre : Tre us ks
  wok : WnOk us wn
  new : name ∉ us
  nm : Nm name
  kin : kk ∈ ks
  few : us.length < 60
theorem ThD.same {H H' : Hp} {q t : Addr} {us : List Str} {ks : Kn} {ts ws wn : Prs} {name : Str} {kk : Str × List Str} (h : ThD H q t us ks ts ws wn name kk) (s : Same H H') : ThD H' q t us ks ts ws wn name kk :=
  ⟨s _ _ h.at_, h.rep.same s, h.tre, h.wok, h.new, h.nm, h.kin, h.few⟩
theorem hd_str {H : Hp} {z : Str} (hz : z.length ≤ 1000) : ∀ n, Hd n H (.str z)
  | 0 => .str (Nat.le_trans hz (by decide))
  | _ + 1 => ⟨.str (Nat.le_trans hz (by decide)), fun a ys e => by cases e⟩
section
variable {H : Hp} {q t : Addr} {us : List Str} {ks : Kn} {ts ws wn : Prs} {name : Str} {kk : Str × List Str}
theorem ThD.knm (h : ThD H q t us ks ts ws wn name kk) : kk.1 = "" ∨ Nm kk.1 := (h.tre.sub kk h.kin).imp id (h.tre.nm _)
theorem ThD.klen (h : ThD H q t us ks ts ws wn name kk) : kk.1.length ≤ 8 := by
  rcases h.knm with z | z
  · rw [z]; decide
  · exact z.2.1
theorem ThD.hd (h : ThD H q t us ks ts ws wn name kk) : ∀ n, Hd n H (.ref t)
  | 0 => Thg.tup h.at_
  | n + 1 => ⟨Thg.tup h.at_, fun a ys e sq => by
      cases e
      have ey : ys = [.str "thing", .str name, .str kk.1] := by
        rcases sq with z | z
        · rw [h.at_] at z; cases z
        · rw [h.at_] at z; cases z; rfl
      subst ey
      refine ⟨by show 3 ≤ 1000; decide, fun y hy => ?_⟩
      have kl := h.klen
      have nl := h.nm.2.1
      simp only [List.mem_cons, List.not_mem_nil, or_false] at hy
      rcases hy with rfl | rfl | rfl
      · exact hd_str (by decide) n
      · exact hd_str (by omega) n
      · exact hd_str (by omega) n⟩
theorem ThD.single (h : ThD H q t us ks ts ws wn name kk) : singleB H (.ref t) = true := by
  unfold singleB
  rw [tupO_of h.at_]
  show sgB H "thing" [.str name, .str kk.1] = true
  unfold sgB
  rw [show sortsOf "thing" = some (["name", "knot"] : List Str) by decide +kernel]
  show (true && (partB H "name" (.str name) && (partB H "knot" (.str kk.1) && true))) = true
  have p1 : partB H "name" (.str name) = true := by
    unfold partB
    rw [if_neg (by decide), if_neg (by decide), if_neg (fun z => absurd z.1 (by decide))]
    exact isNm_iff.mpr h.nm
  have p2 : partB H "knot" (.str kk.1) = true := by
    unfold partB
    rw [if_neg (by decide), if_neg (by decide)]
    rcases h.knm with z | z
    · rw [if_pos ⟨rfl, by rw [z]⟩]
    · split
      · rfl
      · exact isNm_iff.mpr z
  rw [p1, p2]; rfl
theorem ThD.deed (h : ThD H q t us ks ts ws wn name kk) : deedB 2 H (.ref t) = true := by
  have hm : manyO H (.ref t) = none := by
    unfold manyO
    rw [tupO_of h.at_]; rfl
  show (match manyO H (.ref t) with | some ys => ys.all (deedB 1 H) | none => singleB H (.ref t)) = true
  rw [hm]
  exact h.single
end
noncomputable def spNoneIn : Sp := fun vs H Q _ => ∃ (q t : Addr) (us : List Str) (ks : Kn) (ts ws wn : Prs) (name : Str) (kk : Str × List Str), vs = [.ref q, .ref t] ∧ ThD H q t us ks ts ws wn name kk ∧ Q (.bl true) H
theorem scNoneIn : FnScope ["house", "deed"] ["house", "deed"] (defScope sLetsNoneIn) := ⟨rfl, rfl, rfl, by decide +kernel, rfl, by decide +kernel, by decide +kernel⟩
theorem ok_none_in {f : Addr} {fd : FuncData} (F : Fun K "lets_none_in" "lets_none_in" sLetsNoneIn f fd) (B : Blt mg) : FnOk P w K mg base CX0 1 f fd ["house", "deed"] spNoneIn := by
  refine F.ok scNoneIn (fun vs H Q E h => ?_) (fun cdv A outer s H vs Q E hr h => ?_)
  · obtain ⟨q, t, us, ks, ts, ws, wn, name, kk, rfl, _⟩ := h
    rfl
  · obtain ⟨q, t, us, ks, ts, ws, wn, name, kk, rfl, D, k⟩ := h
    have nd := scNoneIn.nd
    refine ⟨_, (pss_one (ps_ret (pe_or (pe_cmpR (op_eqX hr.units) (pe_ix (ix_X K hr.units) (pv 1) pe_int (fun _ _ => rfl)) pe_str (nomark _)) (pe_one (pe_and (pe_cmpR (op_eqX hr.units) (pe_ix (ix_X K hr.units) (pv 1) pe_int (fun _ _ => rfl)) pe_str (nomark _)) (pe_one (pe_cmpR (op_inX K hr.units) (pe_slice (sl_K K) (pv 1) (po_some pe_int) po_none) (pe_ix (ix_X K hr.units) (pv 0) pe_int (fun _ _ => rfl)) (by with_unfolding_all rfl)))))))), ?_⟩
    refine ⟨_, rfl, .tup (.of D.at_) rfl (.sc rfl ?_)⟩
    exact ⟨_, rfl, ite2 (fun _ => k) (fun h => absurd rfl h)⟩
noncomputable def spPaper : Sp := fun vs H Q _ => ∃ (q t : Addr) (us : List Str) (ks : Kn) (ts ws wn : Prs) (name : Str) (kk : Str × List Str), vs = [.ref q, .ref t] ∧ ThD H q t us ks ts ws wn name kk ∧ ∀ l H', Same H H' → H' l = some (.lst []) → Q (.ref l) H'
theorem scPaper : FnScope ["house", "deed"] ["house", "deed"] (defScope sPaperOf) := ⟨rfl, rfl, rfl, by decide +kernel, rfl, by decide +kernel, by decide +kernel⟩
theorem ok_paper {f : Addr} {fd : FuncData} (F : Fun K "paper_of" "paper_of" sPaperOf f fd) (B : Blt mg) (cis_single : Cal P w K mg base 5 "is_single" ["thing"] spSing) (crefuse : Cal P w K mg base 4 "refuse" ["house", "deed"] spRefuse) (clets_none_in : Cal P w K mg base 1 "lets_none_in" ["house", "deed"] spNoneIn) : FnOk P w K mg base CX0 6 f fd ["house", "deed"] spPaper := by
  refine F.ok scPaper (fun vs H Q E h => ?_) (fun cdv A outer s H vs Q E hr h => ?_)
  · obtain ⟨q, t, us, ks, ts, ws, wn, name, kk, rfl, _⟩ := h
    rfl
  · obtain ⟨q, t, us, ks, ts, ws, wn, name, kk, rfl, D, k⟩ := h
    have nd := scPaper.nd
    refine ⟨_, (pss_cons (ps_if (pt_not (pt_val (pe_cal cis_single (hr.mono (by decide)) rfl (pa_cons (pv 1) pa_nil)))) (pss_one ps_never) pss_nil)
      (pss_cons (ps_expr (pe_cal crefuse (hr.mono (by decide)) rfl (pa_cons (pv 0) (pa_cons (pv 1) pa_nil))))
      (pss_cons (ps_if (pt_cmpR (op_inX K hr.units) (pe_ix (ix_X K hr.units) (pv 1) pe_int (fun _ _ => rfl)) (pe_tup (pa_cons pe_str (pa_cons pe_str pa_nil))) (by with_unfolding_all rfl)) (pss_one ps_never) pss_nil)
      (pss_cons (ps_if (pt_cmpR (op_eqX hr.units) (pe_ix (ix_X K hr.units) (pv 1) pe_int (fun _ _ => rfl)) pe_str (nomark _)) (pss_one ps_never) pss_nil)
      (pss_cons (ps_if (pt_cmpR (op_eqX hr.units) (pe_ix (ix_X K hr.units) (pv 1) pe_int (fun _ _ => rfl)) pe_str (nomark _)) (pss_one ps_never) pss_nil)
      (pss_cons (ps_if (pt_val (pe_cal clets_none_in (hr.mono (by decide)) rfl (pa_cons (pv 0) (pa_cons (pv 1) pa_nil)))) (pss_one (ps_ret (pe_lst pa_nil))) pss_nil)
      (pss_one ps_never))))))), ?_⟩
    refine ⟨_, rfl, _, rfl, D.hd 2, fun H1 s1 => ?_⟩
    rw [D.single]
    refine ⟨_, rfl, ite2 (fun h => by cases (show false = true from h)) (fun _ => ?_)⟩
    have D1 := D.same s1
    refine ⟨_, rfl, _, rfl, nil_ ⟨q, t, us, ks, ts, ws, wn, name, kk, rfl, D1.at_, D1.rep, D.tre, D.new, D.kin, D.few, fun H2 s2 => ?_⟩⟩
    have D2 := D1.same s2
    have s12 := s1.trans s2
    refine ⟨_, rfl, .tup (.of D2.at_) rfl ⟨(by show 2 ≤ sizeLine; decide), fun t1 h1 => ?_⟩⟩
    have s3 := Same.new (o := .tup [V.str "tie", V.str "wait"]) h1
    have e3 : upd H2 t1 (.tup [V.str "tie", V.str "wait"]) t1 = some (.tup [V.str "tie", V.str "wait"]) := upd_same
    have D3 := D2.same s3
    have s13 := s12.trans s3
    generalize upd H2 t1 (.tup [V.str "tie", V.str "wait"]) = H3 at s13 e3 D3 ⊢
    refine .seq (.inr (.of e3)) rfl rfl ⟨_, rfl, ite2 (fun h => absurd h (by decide)) (fun _ => ?_)⟩
    refine ⟨_, rfl, .tup (.of D3.at_) rfl (.sc rfl ⟨_, rfl, ite2 (fun h => absurd h (by decide)) (fun _ => ?_)⟩)⟩
    refine ⟨_, rfl, .tup (.of D3.at_) rfl (.sc rfl ⟨_, rfl, ite2 (fun h => absurd h (by decide)) (fun _ => ?_)⟩)⟩
    refine ⟨_, rfl, _, rfl, nil_ ⟨q, t, us, ks, ts, ws, wn, name, kk, rfl, D3, _, rfl, ite2 (fun _ => ?_) (fun h => absurd rfl h)⟩⟩
    refine ⟨(by show 0 ≤ sizeLine; decide), fun l hl => ?_⟩
    exact k l _ (s13.trans (Same.new hl)) upd_same
noncomputable def spLed : Sp := fun vs H Q _ => ∃ (q t l : Addr) (us : List Str) (ks : Kn) (ts ws wn : Prs) (name : Str) (kk : Str × List Str), vs = [.ref q, .ref t, .ref l] ∧ ThD H q t us ks ts ws wn name kk ∧ ∀ q' H', Same H H' → Rep H' (.ref q') (houseD (ks.map (rowK kk.1 (thingK kk.2 wn name))) ts ws wn) → Q (.ref q') H'
theorem scLed : FnScope ["house", "deed", "paper"] ["house", "deed", "paper"] (defScope sLedTo) := ⟨rfl, rfl, rfl, by decide +kernel, rfl, by decide +kernel, by decide +kernel⟩
theorem ok_led {f : Addr} {fd : FuncData} (F : Fun K "led_to" "led_to" sLedTo f fd) (B : Blt mg) (cwith_thing : Cal P w K mg base 2 "with_thing" ["house", "name", "knot"] spWithThing) : FnOk P w K mg base CX0 3 f fd ["house", "deed", "paper"] spLed := by
  refine F.ok scLed (fun vs H Q E h => ?_) (fun cdv A outer s H vs Q E hr h => ?_)
  · obtain ⟨q, t, l, us, ks, ts, ws, wn, name, kk, rfl, _⟩ := h
    rfl
  · obtain ⟨q, t, l, us, ks, ts, ws, wn, name, kk, rfl, D, k⟩ := h
    have nd := scLed.nd
    refine ⟨_, (pss_cons (ps_if (pt_cmpR (op_eqX hr.units) (pe_ix (ix_X K hr.units) (pv 1) pe_int (fun _ _ => rfl)) pe_str (nomark _)) (pss_one (ps_ret (pe_cal cwith_thing (hr.mono (by decide)) rfl (pa_cons (pv 0) (pa_cons (pe_ix (ix_X K hr.units) (pv 1) pe_int (fun _ _ => rfl)) (pa_cons (pe_ix (ix_X K hr.units) (pv 1) pe_int (fun _ _ => rfl)) pa_nil)))))) pss_nil)
      (pss_cons ps_never
      (pss_cons ps_never
      (pss_cons ps_never
      (pss_one ps_never))))), ?_⟩
    refine ⟨_, rfl, .tup (.of D.at_) rfl (.sc rfl ⟨_, rfl, ite2 (fun _ => ?_) (fun h => absurd rfl h)⟩)⟩
    exact ⟨_, rfl, _, rfl, .tup (.of D.at_) rfl ⟨_, rfl, .tup (.of D.at_) rfl (nil_ ⟨q, us, ks, ts, ws, wn, name, kk, rfl, D.rep, D.tre, D.wok, D.kin, k⟩)⟩⟩
noncomputable def spSingles : Sp := fun vs H Q _ => ∃ (q t : Addr) (us : List Str) (ks : Kn) (ts ws wn : Prs) (name : Str) (kk : Str × List Str), vs = [.ref t] ∧ ThD H q t us ks ts ws wn name kk ∧ ∀ l H', Same H H' → H' l = some (.lst [.ref t]) → Q (.ref l) H'
theorem scSingles : FnScope ["deed", "told", "part"] ["deed"] (defScope sSingles) := ⟨rfl, rfl, rfl, by decide +kernel, rfl, by decide +kernel, by decide +kernel⟩
theorem ok_singles {f : Addr} {fd : FuncData} (F : Fun K "singles" "singles" sSingles f fd) (B : Blt mg) : FnOk P w K mg base CX0 1 f fd ["deed"] spSingles := by
  refine F.ok scSingles (fun vs H Q E h => ?_) (fun cdv A outer s H vs Q E hr h => ?_)
  · obtain ⟨q, t, us, ks, ts, ws, wn, name, kk, rfl, _⟩ := h
    rfl
  · obtain ⟨q, t, us, ks, ts, ws, wn, name, kk, rfl, D, k⟩ := h
    have nd := scSingles.nd
    refine ⟨_, (pss_cons (ps_if (pt_cmpR (op_neX hr.units) (pe_ix (ix_X K hr.units) (pv 0) pe_int (fun _ _ => rfl)) pe_str (nomark _)) (pss_one (ps_ret (pe_lst (pa_cons (pv 0) pa_nil)))) pss_nil)
      (pss_cons ps_never
      (pss_cons ps_never
      (pss_one ps_never)))), ?_⟩
    refine ⟨_, rfl, .tup (.of D.at_) rfl (.sc rfl ⟨_, rfl, ite2 (fun _ => ?_) (fun h => absurd rfl h)⟩)⟩
    exact ⟨_, rfl, (by show 1 ≤ sizeLine; decide), fun l hl => k l _ (Same.new hl) upd_same⟩
noncomputable def spBehS : Sp := fun vs H Q _ => ∃ (q t : Addr) (us : List Str) (ks : Kn) (ts ws wn : Prs) (name : Str) (kk : Str × List Str), vs = [.ref q, .ref t] ∧ ThD H q t us ks ts ws wn name kk ∧ ∀ q' H', Same H H' → Rep H' (.ref q') (houseD (ks.map (rowK kk.1 (thingK kk.2 wn name))) ts ws wn) → Q (.ref q') H'
theorem scBehS : FnScope ["house", "deed", "paper"] ["house", "deed"] (defScope sBehindSingle) := ⟨rfl, rfl, rfl, by decide +kernel, rfl, by decide +kernel, by decide +kernel⟩
theorem ok_behS {f : Addr} {fd : FuncData} (F : Fun K "behind_single" "behind_single" sBehindSingle f fd) (B : Blt mg) (cpaper_of : Cal P w K mg base 6 "paper_of" ["house", "deed"] spPaper) (cled_to : Cal P w K mg base 3 "led_to" ["house", "deed", "paper"] spLed) : FnOk P w K mg base CX0 7 f fd ["house", "deed"] spBehS := by
  refine F.ok scBehS (fun vs H Q E h => ?_) (fun cdv A outer s H vs Q E hr h => ?_)
  · obtain ⟨q, t, us, ks, ts, ws, wn, name, kk, rfl, _⟩ := h
    rfl
  · obtain ⟨q, t, us, ks, ts, ws, wn, name, kk, rfl, D, k⟩ := h
    have nd := scBehS.nd
    refine ⟨_, (pss_cons (ps_set (i := 2) nd rfl (Or.inl rfl) (pe_cal cpaper_of (hr.mono (by decide)) rfl (pa_cons (pv 0) (pa_cons (pv 1) pa_nil))))
      (pss_cons (ps_if (PW.pt (pw_and (pt_cmpR (op_inX K hr.units) (pe_ix (ix_X K hr.units) (pv 1) pe_int (fun _ _ => rfl)) (pe_tup (pa_cons pe_str (pa_cons pe_str (pa_cons pe_str pa_nil)))) (by with_unfolding_all rfl)) (pw_and1 (pt_cmpR (op_inX K hr.units) (pe_ix (ix_X K hr.units) (pe_ix (ix_X K hr.units) (pv 2) pe_int (fun _ _ => rfl)) pe_int (fun _ _ => rfl)) (pe_tup (pa_cons pe_str (pa_cons pe_str pa_nil))) (by with_unfolding_all rfl))))) (pss_one ps_never) pss_nil)
      (pss_one (ps_ret (pe_cal cled_to (hr.mono (by decide)) rfl (pa_cons (pv 0) (pa_cons (pv 1) (pa_cons (pv 2) pa_nil)))))))), ?_⟩
    refine ⟨_, rfl, _, rfl, nil_ ⟨q, t, us, ks, ts, ws, wn, name, kk, rfl, D, fun l H1 s1 hl => ?_⟩⟩
    have D1 := D.same s1
    refine ⟨_, rfl, .tup (.of D1.at_) rfl ⟨(by show 3 ≤ sizeLine; decide), fun t1 h1 => ?_⟩⟩
    have s3 := Same.new (o := .tup [V.str "tie", V.str "want", V.str "group"]) h1
    have e3 : upd H1 t1 (.tup [V.str "tie", V.str "want", V.str "group"]) t1 = some (.tup [V.str "tie", V.str "want", V.str "group"]) := upd_same
    have D3 := D1.same s3
    have s13 := s1.trans s3
    generalize upd H1 t1 (.tup [V.str "tie", V.str "want", V.str "group"]) = H3 at s13 e3 D3 ⊢
    refine .seq (.inr (.of e3)) rfl rfl ⟨_, rfl, ite2 (fun h => absurd h (by decide)) (fun _ => ite2 (fun h => absurd h (by decide)) (fun _ => ?_))⟩
    exact ⟨_, rfl, _, rfl, _, rfl, nil_ ⟨q, t, l, us, ks, ts, ws, wn, name, kk, rfl, D3, fun q' H4 s4 r4 => k q' H4 (s13.trans s4) r4⟩⟩
theorem scBehT : FnScope ["house", "deed", "left", "single"] ["house", "deed"] (defScope sBehind) := ⟨rfl, rfl, rfl, by decide +kernel, rfl, by decide +kernel, by decide +kernel⟩
theorem ok_behT {f : Addr} {fd : FuncData} (F : Fun K "behind" "behind" sBehind f fd) (B : Blt mg) (cis_deed : Cal P w K mg base 9 "is_deed" ["thing"] spDeed) (csingles : Cal P w K mg base 1 "singles" ["deed"] spSingles) (cbehind_single : Cal P w K mg base 7 "behind_single" ["house", "deed"] spBehS) : FnOk P w K mg base CX0 10 f fd ["house", "deed"] spBehS := by
  refine F.ok scBehT (fun vs H Q E h => ?_) (fun cdv A outer s H vs Q E hr h => ?_)
  · obtain ⟨q, t, us, ks, ts, ws, wn, name, kk, rfl, _⟩ := h
    rfl
  · obtain ⟨q, t, us, ks, ts, ws, wn, name, kk, rfl, D, k⟩ := h
    have nd := scBehT.nd
    refine ⟨_, (pss_cons (ps_if (pt_not (pt_val (pe_cal cis_deed (hr.mono (by decide)) rfl (pa_cons (pv 1) pa_nil)))) (pss_one ps_never) pss_nil)
      (pss_cons (ps_set (i := 2) nd rfl (Or.inl rfl) (pv 0))
      (pss_cons (ps_for PassesOwn.never rfl (pi_listK K (pe_cal csingles (hr.mono (by decide)) rfl (pa_cons (pv 1) pa_nil))) (pg_name (i := 3) nd rfl (Or.inl rfl)) (pss_one (ps_set (i := 2) nd rfl (Or.inl rfl) (pe_cal cbehind_single (hr.mono (by decide)) rfl (pa_cons (pv 2) (pa_cons (pv 3) pa_nil))))))
      (pss_one (ps_ret (pv 2)))))), ?_⟩
    refine ⟨_, rfl, _, rfl, D.hd 6, fun H1 s1 => ?_⟩
    rw [D.deed]
    refine ⟨_, rfl, ite2 (fun h => by cases (show false = true from h)) (fun _ => ?_)⟩
    have D1 := D.same s1
    refine ⟨_, rfl, ⟨_, rfl, nil_ ⟨q, t, us, ks, ts, ws, wn, name, kk, rfl, D1, fun l H2 s2 hl => ?_⟩⟩⟩
    have D2 := D1.same s2
    have s12 := s1.trans s2
    refine ⟨l, rfl, ⟨_, .of hl⟩, ?_⟩
    refine for_list (xs := [V.ref t]) (fun i σ H' => (i = 0 ∧ H' = H2 ∧ ∃ o3, σ = [some (.ref q), some (.ref t), some (.ref q), o3]) ∨ (i = 1 ∧ ∃ q' o3, σ = [some (.ref q), some (.ref t), some (.ref q'), o3] ∧ Same H2 H' ∧ Rep H' (.ref q') (houseD (ks.map (rowK kk.1 (thingK kk.2 wn name))) ts ws wn))) ?_ ?_ ?_ ?_
    · exact .inl ⟨rfl, rfl, none, rfl⟩
    · rintro i σ H' hi (⟨_, rfl, _⟩ | ⟨_, q', o3, rfl, s3, _⟩)
      · exact .of hl
      · exact .of (s3 _ _ hl)
    · rintro i x σ H' hx (⟨rfl, rfl, o3, rfl⟩ | ⟨rfl, _⟩)
      · have ex : V.ref t = x := Option.some.inj hx
        subst ex
        refine ⟨_, rfl, _, rfl, nil_ ⟨q, t, us, ks, ts, ws, wn, name, kk, rfl, D2, fun q' H3 s3 r3 => ?_⟩⟩
        exact .inr ⟨rfl, q', _, rfl, s3, r3⟩
      · cases hx
    · rintro σ H' (⟨h, _⟩ | ⟨_, q', o3, rfl, s3, r3⟩)
      · exact absurd h (by show ¬ (1 : Nat) = 0; decide)
      · exact ⟨_, rfl, k q' H' (s12.trans s3) r3⟩
end
end K47
namespace K47
open PySem L2
section
variable {P : Program} {w : World} {K : PySem.W.Frag} {mg : Str → Option Value} {base : Heap}
noncomputable def spUnits : Sp := fun vs H Q _ => ∃ (q : Addr) (ks : Kn) (ts ws wn : Prs), vs = [.ref q] ∧ Rep H (.ref q) (houseD ks ts ws wn) ∧ (kids ks).length ≤ 100 ∧ ∀ l H', Same H H' → H' l = some (.lst (List.map V.str (kids ks))) → Q (.ref l) H'
theorem scUnits : FnScope ["_law_house_here", "_law_found", "_law_name", "_law_kids"] ["_law_house_here"] (defScope sLawUnits) := ⟨rfl, rfl, rfl, by decide +kernel, rfl, by decide +kernel, by decide +kernel⟩
theorem ok_units {f : Addr} {fd : FuncData} (F : Fun K "_law_units" "_law_units" sLawUnits f fd) (B : Blt mg) : FnOk P w K mg base CX0 1 f fd ["_law_house_here"] spUnits := by
  refine F.ok scUnits (fun vs H Q E h => ?_) (fun cdv A outer s H vs Q E hr h => ?_)
  · obtain ⟨q, ks, ts, ws, wn, rfl, _⟩ := h
    rfl
  · obtain ⟨q, ks, ts, ws, wn, rfl, R, kl, k⟩ := h
    have nd := scUnits.nd
    have sz : 200000 < sizeLine := by decide
    refine ⟨_, (pss_cons (ps_set (i := 1) nd rfl (Or.inl rfl) (pe_lst pa_nil))
      (pss_cons (ps_for PassesOwn.never rfl (pi_tupK K (pe_ix (ix_X K hr.units) (pv 0) pe_int (fun _ _ => rfl))) (pg_tupK (n := 2) K rfl (pgs_cons (pg_name (i := 2) nd rfl (Or.inl rfl)) (pgs_cons (pg_name (i := 3) nd rfl (Or.inl rfl)) pgs_nil))) (pss_one (ps_set (i := 1) nd rfl (Or.inl rfl) (pe_op op_addX (pv 1) (b_list K rfl B (pa_cons (pv 3) pa_nil))))))
      (pss_one (ps_ret (pv 1))))), ?_⟩
    obtain ⟨q', a, b, c, d4, e0, hq, R1, _⟩ := house_at R
    cases e0
    obtain ⟨a', refs, e0, ha, rp⟩ := knots_at R1
    cases e0
    have rlen := rp.len
    rw [List.length_map] at rlen
    refine ⟨(by show 0 ≤ sizeLine; decide), fun d hd => ?_⟩
    have s0 := Same.new (o := .lst []) hd
    refine ⟨_, rfl, .tup (.of (s0 _ _ hq)) rfl ⟨a, rfl, ⟨_, .of (s0 _ _ ha)⟩, ?_⟩⟩
    refine for_tup (xs := refs) (fun i σ H' => ∃ l o2 o3, σ = [some (.ref q), some (.ref l), o2, o3] ∧ H' l = some (.lst (List.map V.str (kids (ks.take i)))) ∧ Same H H') ?_ ?_ ?_ ?_
    · exact ⟨d, none, none, rfl, upd_same, s0⟩
    · rintro i σ H' hi ⟨l, o2, o3, rfl, hl, sm⟩
      exact .of (sm _ _ ha)
    · rintro i x σ H' hx ⟨l, o2, o3, rfl, hl, sm⟩
      obtain ⟨kn, ta, la, hk, rfl, hta, hla⟩ := knot_get rp hx
      have ek := kids_take hk
      have el : kids ks = kids (ks.take (i + 1)) ++ kids (ks.drop (i + 1)) := by rw [← kids_app, List.take_append_drop]
      have kl2 := kl
      rw [el, ek, List.length_append, List.length_append] at kl2
      refine ⟨ta, _, rfl, .of (sm _ _ hta), rfl, _, _, rfl, _, _, rfl, rfl, ?_⟩
      refine ⟨_, rfl, _, rfl, nil_ ⟨_, rfl, .seq (.inr (.of (sm _ _ hla))) fun l2 hl2 => ?_⟩⟩
      have s1 := Same.new (o := .lst (List.map V.str kn.2)) hl2
      refine .lst (s1 _ _ hl) upd_same (by rw [List.length_map, List.length_map]; omega) fun l3 hl3 => ?_
      refine ⟨l3, _, _, rfl, ?_, (sm.trans s1).trans (Same.new hl3)⟩
      rw [upd_same, ek, List.map_append]
    · rintro σ H' ⟨l, o2, o3, rfl, hl, sm⟩
      rw [rlen, List.take_of_length_le (Nat.le_refl _)] at hl
      exact ⟨_, rfl, k l H' sm hl⟩
end
end K47
namespace K47
open PySem L2
section
variable {P : Program} {w : World} {K : PySem.W.Frag} {mg : Str → Option Value} {base : Heap}
noncomputable def dueAt (c : List Str) (wn : Prs) : Nat := match c.getLast? with | some x => if ((("last" : Str), x) : Str × Str) ∈ wn then c.length - 1 else c.length | none => c.length
noncomputable def dueR (c : List Str) (wn : Prs) (name : Str) : List Str := c.take (dueAt c wn) ++ [name] ++ c.drop (dueAt c wn)
theorem dueAt_le (c : List Str) (wn : Prs) : dueAt c wn ≤ c.length := by
  unfold dueAt
  split
  · split <;> omega
  · exact Nat.le_refl _
noncomputable def spDue : Sp := fun vs H Q _ => ∃ (q : Addr) (us : List Str) (ks : Kn) (ts ws wn : Prs) (name knot : Str), vs = [.ref q, .str name, .str knot] ∧ Rep H (.ref q) (houseD ks ts ws wn) ∧ Tre us ks ∧ WnOk us wn ∧ ∀ q' H', Same H H' → Rep H' (.ref q') (houseD (ks.map fun k => if k.1 = knot then (k.1, dueR k.2 wn name) else k) ts ws wn) → Q (.ref q') H'
theorem scDue : FnScope ["_law_house_here", "_law_name", "_law_knot", "_law_knots_here", "_law_other", "_law_kids", "_law_at"] ["_law_house_here", "_law_name", "_law_knot"] (defScope sDue) := ⟨rfl, rfl, rfl, by decide +kernel, rfl, by decide +kernel, by decide +kernel⟩
theorem ok_due {f : Addr} {fd : FuncData} (F : Fun K "_law_due" "_law_due" sDue f fd) (B : Blt mg) : FnOk P w K mg base CX0 1 f fd ["_law_house_here", "_law_name", "_law_knot"] spDue := by
  refine F.ok scDue (fun vs H Q E h => ?_) (fun cdv A outer s H vs Q E hr h => ?_)
  · obtain ⟨q, us, ks, ts, ws, wn, name, knot, rfl, _⟩ := h
    rfl
  · obtain ⟨q, us, ks, ts, ws, wn, name, knot, rfl, R, T, wok, k⟩ := h
    have nd := scDue.nd
    have sz : 200000 < sizeLine := by decide
    refine ⟨_, (pss_cons (ps_set (i := 3) nd rfl (Or.inl rfl) (pe_lst pa_nil))
      (pss_cons (ps_for PassesOwn.never rfl (pi_tupK K (pe_ix (ix_X K hr.units) (pv 0) pe_int (fun _ _ => rfl))) (pg_tupK (n := 2) K rfl (pgs_cons (pg_name (i := 4) nd rfl (Or.inl rfl)) (pgs_cons (pg_name (i := 5) nd rfl (Or.inl rfl)) pgs_nil))) (pss_cons (ps_if (pt_cmpR (op_eqX hr.units) (pv 4) (pv 2) (nomark _)) (pss_cons (ps_set (i := 6) nd rfl (Or.inl rfl) (b_len K B (pa_cons (pv 5) pa_nil)))
      (pss_cons (ps_if (PW.pt (pw_and (pt_cmpR (op_neNilT K hr.units) (pv 5) (pe_tup pa_nil) (nomark _)) (pw_and1 (pt_cmpR (op_inDT hr.units) (pe_tup (pa_cons pe_str (pa_cons (pe_ix (ix_X K hr.units) (pv 5) (pe_un un_neg pe_int) (fun _ _ => rfl)) pa_nil))) (pe_ix (ix_X K hr.units) (pv 0) pe_int (fun _ _ => rfl)) (by with_unfolding_all rfl))))) (pss_one (ps_set (i := 6) nd rfl (Or.inl rfl) (pe_op op_sub (pv 6) pe_int))) pss_nil)
      (pss_one (ps_set (i := 5) nd rfl (Or.inl rfl) (pe_op op_catTB (pe_op op_catTB (pe_slice sl_tupA (pv 5) po_none (po_some (pv 6))) (pe_tup (pa_cons (pv 1) pa_nil))) (pe_slice sl_tupA (pv 5) (po_some (pv 6)) po_none)))))) pss_nil)
      (pss_one (ps_expr (m_append K (pv 3) (pa_cons (pe_tup (pa_cons (pv 4) (pa_cons (pv 5) pa_nil))) pa_nil))))))
      (pss_one (ps_ret (pe_op op_catTB (pe_tup (pa_cons (b_tuple K B (pa_cons (pv 3) pa_nil)) pa_nil)) (pe_slice sl_tupA (pv 0) (po_some pe_int) po_none)))))), ?_⟩
    obtain ⟨q', a, b, c3, d4, e0, hq, R1, R2, R3, R4⟩ := house_at R
    cases e0
    obtain ⟨a', refs, e0, ha, rp⟩ := knots_at R1
    cases e0
    obtain ⟨d4', rw4, e0, hd4, rpw⟩ := pairsT_at R4
    cases e0
    have cay : PyData.canLayAll0 (wn.map pairD) = true := canLay_pairsN fun e he => ⟨nm_word (wok e he).1, T.nm _ (wok e he).2⟩
    have rlen := rp.len
    rw [List.length_map] at rlen
    have kfew := T.few
    refine ⟨(by show 0 ≤ sizeLine; decide), fun d hd => ?_⟩
    have s0 := Same.new (o := .lst []) hd
    refine ⟨_, rfl, .tup (.of (s0 _ _ hq)) rfl ⟨a, rfl, ⟨_, .of (s0 _ _ ha)⟩, ?_⟩⟩
    refine for_tup (xs := refs) (fun i σ H' => ∃ acc o4 o5 o6, σ = [some (.ref q), some (.str name), some (.str knot), some (.ref d), o4, o5, o6] ∧ H' d = some (.lst acc) ∧ RepAll H' acc (((ks.take i).map fun k => if k.1 = knot then (k.1, dueR k.2 wn name) else k).map knotD) ∧ Same H H') ?_ ?_ ?_ ?_
    · exact ⟨[], none, none, none, rfl, upd_same, .nil, s0⟩
    · rintro i σ H' hi ⟨acc, o4, o5, o6, rfl, hl, ra, sm⟩
      exact .of (sm _ _ ha)
    · rintro i x σ H' hx ⟨acc, o4, o5, o6, rfl, hl, ra, sm⟩
      obtain ⟨kn, ta, la, hk, rfl, hta, hla⟩ := knot_get rp hx
      have hil := (List.getElem?_eq_some_iff.mp hk).1
      have hkm := List.mem_of_getElem? hk
      have clen := row_len T hkm
      have alen := ra.len
      rw [List.length_map, List.length_map, List.length_take] at alen
      have etk : ((ks.take (i + 1)).map fun k => if k.1 = knot then (k.1, dueR k.2 wn name) else k) = ((ks.take i).map fun k => if k.1 = knot then (k.1, dueR k.2 wn name) else k) ++ [if kn.1 = knot then (kn.1, dueR kn.2 wn name) else kn] := by
        rw [List.take_add_one, hk, List.map_append]; rfl
      refine ⟨ta, _, rfl, .of (sm _ _ hta), rfl, _, _, rfl, _, _, rfl, rfl, ?_⟩
      refine ⟨_, rfl, _, rfl, .sc rfl ⟨_, rfl, ?_⟩⟩
      refine ite2 (fun h => ?_) (fun h => ?_)
      · have hn : kn.1 = knot := by simpa using h
        rw [if_pos hn] at etk
        refine ⟨_, rfl, nil_ ⟨_, _, rfl, Or.inr ⟨_, .of (sm _ _ hla), rfl⟩, ?_⟩⟩
        rw [List.length_map]
        refine ⟨_, rfl, (by show 0 ≤ sizeLine; decide), fun t0 h0 => ?_⟩
        have s1 := Same.new (o := .tup []) h0
        have e1 : upd H' t0 (.tup []) t0 = some (.tup []) := upd_same
        have hla1 := s1 _ _ (sm _ _ hla)
        generalize upd H' t0 (.tup []) = H1 at s1 e1 hla1 ⊢
        refine ⟨la, t0, _, rfl, rfl, .of hla1, e1, _, rfl, ?_⟩
        have dle := dueAt_le kn.2 wn
        have hl1 := s1 _ _ hl
        have ra1 := ra.same s1
        have sm1 := sm.trans s1
        have ad : ∀ x ini, kn.2 = ini ++ [x] → dueAt kn.2 wn = if ((("last" : Str), x) : Str × Str) ∈ wn then kn.2.length - 1 else kn.2.length := fun x ini ec => by
          unfold dueAt
          rw [show kn.2.getLast? = some x by rw [ec]; simp]
        refine ite2 (fun h1 => ?_) (fun h1 => ite2 (fun h => by cases (show false = true from h)) (fun _ => ?_))
        · rcases List.eq_nil_or_concat kn.2 with z | ⟨ini, x, ec⟩
          · rw [z] at h1; cases (show false = true from h1)
          have ec : kn.2 = ini ++ [x] := by rw [ec, List.concat_eq_append]
          have at1 : atI (List.map V.str kn.2) (-1) = some (.str x) := by rw [ec, List.map_append]; exact atI_last _ _
          have hxk : x ∈ kn.2 := by rw [ec]; simp
          refine ⟨_, rfl, _, rfl, .tup (.of hla1) at1 (nil_ ⟨(by show 2 ≤ sizeLine; decide), fun t2 h2 => ?_⟩)⟩
          have s2 := Same.new (o := .tup [V.str "last", V.str x]) h2
          have e2 : upd H1 t2 (.tup [V.str "last", V.str x]) t2 = some (.tup [V.str "last", V.str x]) := upd_same
          have hl2 := s2 _ _ hl1
          have ra2 := ra1.same s2
          have sm2 := sm1.trans s2
          have hla2 := s2 _ _ hla1
          generalize upd H1 t2 (.tup [V.str "last", V.str x]) = H2 at s2 e2 hl2 ra2 sm2 hla2 ⊢
          refine ⟨_, rfl, .tup (.of (sm2 _ _ hq)) rfl ⟨d4, rw4, _, pairD ("last", x), rfl, sm2 _ _ hd4, rpw.same sm2, pair_rep e2, cay, canLay_pairN (e := ("last", x)) ⟨nm_last, T.nm x (T.isIn hkm hxk)⟩, (by show 1 ≤ 16; decide), _, rfl, ?_⟩⟩
          rw [if_neg (show ¬ false = true by decide), any_pair]
          have hdd := ad x ini ec
          have cpos : 1 ≤ kn.2.length := by rw [ec, List.length_append]; show 1 ≤ _ + 1; omega
          refine ite2 (fun hc => ?_) (fun hc => ?_)
          · rw [if_pos (of_decide_eq_true hc)] at hdd
            have ei : ((kn.2.length : Nat) : Int) - 1 = ((dueAt kn.2 wn : Nat) : Int) := by omega
            refine ⟨_, rfl, _, _, rfl, rfl, ?_⟩
            dsimp only
            rw [ei]
            refine ⟨_, rfl, _, rfl, _, rfl, la, _, rfl, hla2, fun p1 G1 g1 hp1 => ?_⟩
            rw [cutV_to _ _ (by rw [List.length_map]; exact dle)] at hp1
            refine ⟨_, rfl, nil_ ⟨(by show 1 ≤ sizeLine; decide), fun p2 hp2 => ?_⟩⟩
            have g2 := Same.new (o := .tup [V.str name]) hp2
            refine ⟨p1, p2, _, _, rfl, rfl, g2 _ _ hp1, upd_same, (by rw [List.length_take, List.length_map]; show _ + 1 ≤ _; omega), fun p3 G3 g3 hp3 => ?_⟩
            have s13 := (g1.trans g2).trans g3
            refine ⟨_, rfl, _, rfl, _, rfl, la, _, rfl, s13 _ _ hla2, fun p4 G4 g4 hp4 => ?_⟩
            rw [cutV_from] at hp4
            refine ⟨p3, p4, _, _, rfl, rfl, g4 _ _ hp3, hp4, (by rw [List.length_append, List.length_take, List.length_drop, List.length_map]; show _ + 1 + _ ≤ _; omega), fun p5 G5 g5 hp5 => ?_⟩
            have s15 := (s13.trans g4).trans g5
            have ep : List.take (dueAt kn.2 wn) (List.map V.str kn.2) ++ [V.str name] ++ List.drop (dueAt kn.2 wn) (List.map V.str kn.2) = List.map V.str (dueR kn.2 wn name) := by
              unfold dueR
              rw [List.map_append, List.map_append, List.map_take, List.map_drop]; rfl
            rw [ep] at hp5
            have hl5 := s15 _ _ hl2
            refine ⟨_, rfl, .inl ⟨rfl, _, .of hl5⟩, _, rfl, _, rfl, nil_ ⟨(by show 2 ≤ sizeLine; decide), fun t6 h6 => ?_⟩⟩
            have s6 := Same.new (o := .tup [V.str kn.1, V.ref p5]) h6
            have e6 : upd G5 t6 (.tup [V.str kn.1, V.ref p5]) t6 = some (.tup [V.str kn.1, V.ref p5]) := upd_same
            have s26 := s15.trans s6
            have hl6 := s6 _ _ hl5
            have hp6 := s6 _ _ hp5
            generalize upd G5 t6 (.tup [V.str kn.1, V.ref p5]) = G6 at s26 e6 hl6 hp6 ⊢
            refine nil_ ⟨d, _, _, rfl, rfl, hl6, by omega, ?_⟩
            refine ⟨_, _, _, _, rfl, upd_same, ?_, same_at (sm2.trans s26) hd⟩
            rw [etk, List.map_append]
            exact RepAll.append (repBut_all (repBut_knot hl6 But.upd) (ra2.same s26)) (.cons (knot_rep (k := (kn.1, dueR kn.2 wn name)) (tupBut hl6 But.upd e6) (tupBut hl6 But.upd hp6)) .nil)
          · rw [if_neg (fun z => hc (decide_eq_true z))] at hdd
            rw [← hdd]
            refine ⟨_, rfl, _, rfl, _, rfl, la, _, rfl, hla2, fun p1 G1 g1 hp1 => ?_⟩
            rw [cutV_to _ _ (by rw [List.length_map]; exact dle)] at hp1
            refine ⟨_, rfl, nil_ ⟨(by show 1 ≤ sizeLine; decide), fun p2 hp2 => ?_⟩⟩
            have g2 := Same.new (o := .tup [V.str name]) hp2
            refine ⟨p1, p2, _, _, rfl, rfl, g2 _ _ hp1, upd_same, (by rw [List.length_take, List.length_map]; show _ + 1 ≤ _; omega), fun p3 G3 g3 hp3 => ?_⟩
            have s13 := (g1.trans g2).trans g3
            refine ⟨_, rfl, _, rfl, _, rfl, la, _, rfl, s13 _ _ hla2, fun p4 G4 g4 hp4 => ?_⟩
            rw [cutV_from] at hp4
            refine ⟨p3, p4, _, _, rfl, rfl, g4 _ _ hp3, hp4, (by rw [List.length_append, List.length_take, List.length_drop, List.length_map]; show _ + 1 + _ ≤ _; omega), fun p5 G5 g5 hp5 => ?_⟩
            have s15 := (s13.trans g4).trans g5
            have ep : List.take (dueAt kn.2 wn) (List.map V.str kn.2) ++ [V.str name] ++ List.drop (dueAt kn.2 wn) (List.map V.str kn.2) = List.map V.str (dueR kn.2 wn name) := by
              unfold dueR
              rw [List.map_append, List.map_append, List.map_take, List.map_drop]; rfl
            rw [ep] at hp5
            have hl5 := s15 _ _ hl2
            refine ⟨_, rfl, .inl ⟨rfl, _, .of hl5⟩, _, rfl, _, rfl, nil_ ⟨(by show 2 ≤ sizeLine; decide), fun t6 h6 => ?_⟩⟩
            have s6 := Same.new (o := .tup [V.str kn.1, V.ref p5]) h6
            have e6 : upd G5 t6 (.tup [V.str kn.1, V.ref p5]) t6 = some (.tup [V.str kn.1, V.ref p5]) := upd_same
            have s26 := s15.trans s6
            have hl6 := s6 _ _ hl5
            have hp6 := s6 _ _ hp5
            generalize upd G5 t6 (.tup [V.str kn.1, V.ref p5]) = G6 at s26 e6 hl6 hp6 ⊢
            refine nil_ ⟨d, _, _, rfl, rfl, hl6, by omega, ?_⟩
            refine ⟨_, _, _, _, rfl, upd_same, ?_, same_at (sm2.trans s26) hd⟩
            rw [etk, List.map_append]
            exact RepAll.append (repBut_all (repBut_knot hl6 But.upd) (ra2.same s26)) (.cons (knot_rep (k := (kn.1, dueR kn.2 wn name)) (tupBut hl6 But.upd e6) (tupBut hl6 But.upd hp6)) .nil)
        · have hz : kn.2 = [] := by
            cases e : kn.2 with
            | nil => rfl
            | cons y r => exact absurd (by rw [e]; rfl) h1
          have hdd : dueAt kn.2 wn = kn.2.length := by unfold dueAt; rw [hz]; rfl
          have hl2 := hl1
          have ra2 := ra1
          have sm2 := sm1
          have hla2 := hla1
          rw [← hdd]
          refine ⟨_, rfl, _, rfl, _, rfl, la, _, rfl, hla2, fun p1 G1 g1 hp1 => ?_⟩
          rw [cutV_to _ _ (by rw [List.length_map]; exact dle)] at hp1
          refine ⟨_, rfl, nil_ ⟨(by show 1 ≤ sizeLine; decide), fun p2 hp2 => ?_⟩⟩
          have g2 := Same.new (o := .tup [V.str name]) hp2
          refine ⟨p1, p2, _, _, rfl, rfl, g2 _ _ hp1, upd_same, (by rw [List.length_take, List.length_map]; show _ + 1 ≤ _; omega), fun p3 G3 g3 hp3 => ?_⟩
          have s13 := (g1.trans g2).trans g3
          refine ⟨_, rfl, _, rfl, _, rfl, la, _, rfl, s13 _ _ hla2, fun p4 G4 g4 hp4 => ?_⟩
          rw [cutV_from] at hp4
          refine ⟨p3, p4, _, _, rfl, rfl, g4 _ _ hp3, hp4, (by rw [List.length_append, List.length_take, List.length_drop, List.length_map]; show _ + 1 + _ ≤ _; omega), fun p5 G5 g5 hp5 => ?_⟩
          have s15 := (s13.trans g4).trans g5
          have ep : List.take (dueAt kn.2 wn) (List.map V.str kn.2) ++ [V.str name] ++ List.drop (dueAt kn.2 wn) (List.map V.str kn.2) = List.map V.str (dueR kn.2 wn name) := by
            unfold dueR
            rw [List.map_append, List.map_append, List.map_take, List.map_drop]; rfl
          rw [ep] at hp5
          have hl5 := s15 _ _ hl2
          refine ⟨_, rfl, .inl ⟨rfl, _, .of hl5⟩, _, rfl, _, rfl, nil_ ⟨(by show 2 ≤ sizeLine; decide), fun t6 h6 => ?_⟩⟩
          have s6 := Same.new (o := .tup [V.str kn.1, V.ref p5]) h6
          have e6 : upd G5 t6 (.tup [V.str kn.1, V.ref p5]) t6 = some (.tup [V.str kn.1, V.ref p5]) := upd_same
          have s26 := s15.trans s6
          have hl6 := s6 _ _ hl5
          have hp6 := s6 _ _ hp5
          generalize upd G5 t6 (.tup [V.str kn.1, V.ref p5]) = G6 at s26 e6 hl6 hp6 ⊢
          refine nil_ ⟨d, _, _, rfl, rfl, hl6, by omega, ?_⟩
          refine ⟨_, _, _, _, rfl, upd_same, ?_, same_at (sm2.trans s26) hd⟩
          rw [etk, List.map_append]
          exact RepAll.append (repBut_all (repBut_knot hl6 But.upd) (ra2.same s26)) (.cons (knot_rep (k := (kn.1, dueR kn.2 wn name)) (tupBut hl6 But.upd e6) (tupBut hl6 But.upd hp6)) .nil)
      · have hn : kn.1 ≠ knot := fun z => h (by simpa using z)
        rw [if_neg hn] at etk
        refine ⟨_, rfl, .inl ⟨rfl, _, .of hl⟩, _, rfl, _, rfl, nil_ ⟨(by show 2 ≤ sizeLine; decide), fun t2 h2 => ?_⟩⟩
        have s2 := Same.new (o := .tup [V.str kn.1, V.ref la]) h2
        have e2 : upd H' t2 (.tup [V.str kn.1, V.ref la]) t2 = some (.tup [V.str kn.1, V.ref la]) := upd_same
        have sm2 := sm.trans s2
        have hl2 := s2 _ _ hl
        have ra2 := ra.same s2
        generalize upd H' t2 (.tup [V.str kn.1, V.ref la]) = H2 at sm2 e2 hl2 ra2 ⊢
        refine nil_ ⟨d, _, _, rfl, rfl, hl2, by omega, ?_⟩
        refine ⟨_, _, _, _, rfl, upd_same, ?_, same_at sm2 hd⟩
        rw [etk, List.map_append]
        exact RepAll.append (repBut_all (repBut_knot hl2 But.upd) ra2) (.cons (knot_rep (tupBut hl2 But.upd e2) (tupBut hl2 But.upd (sm2 _ _ hla))) .nil)
    · rintro σ H' ⟨acc, o4, o5, o6, rfl, hl, ra, sm⟩
      rw [rlen, List.take_of_length_le (Nat.le_refl _)] at ra
      refine ⟨_, rfl, d, acc, rfl, .of hl, fun t1 h1 => nil_ ⟨(by show 1 ≤ sizeLine; decide), fun t2 h2 => ?_⟩⟩
      have s1 := Same.new (o := .tup acc) h1
      have e1 : upd H' t1 (.tup acc) t1 = some (.tup acc) := upd_same
      have sA := sm.trans s1
      have ra := ra.same s1
      generalize upd H' t1 (.tup acc) = H1 at e1 sA ra h2 ⊢
      have s2 := Same.new (o := .tup [V.ref t1]) h2
      have e2 : upd H1 t2 (.tup [V.ref t1]) t2 = some (.tup [V.ref t1]) := upd_same
      have sB := sA.trans s2
      have e1 := s2 _ _ e1
      have ra := ra.same s2
      generalize upd H1 t2 (.tup [V.ref t1]) = H2 at e1 e2 sB ra ⊢
      refine ⟨_, rfl, _, rfl, q, _, rfl, sB _ _ hq, fun t3 H3 s3 e3 => ?_⟩
      have e3 : H3 t3 = some (.tup [V.ref b, V.ref c3, V.ref d4]) := e3
      refine ⟨t2, t3, _, _, rfl, rfl, s3 _ _ e2, e3, (by show 1 + 3 ≤ sizeLine; decide), fun t4 H4 s4 e4 => ?_⟩
      have s34 := s3.trans s4
      have sC := sB.trans s34
      exact k t4 H4 sC (house_rep e4 (.tup (s34 _ _ e1) (ra.same s34)) (R2.same sC) (R3.same sC) (R4.same sC))
end
end K47
namespace K47
open PySem L2
section
variable {P : Program} {w : World} {K : PySem.W.Frag} {mg : Str → Option Value} {base : Heap}
noncomputable def WnLast (ks : Kn) (wn : Prs) : Prop := ∀ e ∈ wn, e.1 = ("last" : Str) → ∃ k ∈ ks, k.2.getLast? = some e.2
theorem row_nodup {us : List Str} {ks : Kn} (T : Tre us ks) {k : Str × List Str} (hk : k ∈ ks) : k.2.Nodup := by
  have := T.knd
  unfold kids at this
  rw [List.flatMap_def] at this
  exact (List.sublist_flatten_of_mem (List.mem_map.mpr ⟨k, hk, rfl⟩)).nodup this
theorem filter_no {α : Type} {p : α → Bool} : ∀ {xs : List α}, (∀ x ∈ xs, p x = false) → xs.filter p = []
  | [], _ => rfl
  | x :: xs, h => by rw [List.filter_cons, if_neg (by rw [h x (List.mem_cons_self ..)]; decide)]; exact filter_no fun y hy => h y (List.mem_cons_of_mem _ hy)
theorem filter_yes {α : Type} {p : α → Bool} : ∀ {xs : List α}, (∀ x ∈ xs, p x = true) → xs.filter p = xs
  | [], _ => rfl
  | x :: xs, h => by rw [List.filter_cons, if_pos (h x (List.mem_cons_self ..)), filter_yes fun y hy => h y (List.mem_cons_of_mem _ hy)]
theorem thing_due {us : List Str} {ks : Kn} {wn : Prs} {name : Str} {kk : Str × List Str} (T : Tre us ks) (wl : WnLast ks wn) (hk : kk ∈ ks) : thingK kk.2 wn name = dueR kk.2 wn name := by
  rcases List.eq_nil_or_concat kk.2 with z | ⟨ini, x, ec⟩
  · rw [z]; rfl
  have ec : kk.2 = ini ++ [x] := by rw [ec, List.concat_eq_append]
  have cn := row_nodup T hk
  rw [ec] at cn
  have xni : x ∉ ini := fun z => (List.nodup_append.mp cn).2.2 x z x (by simp) rfl
  have only : ∀ u ∈ kk.2, ((("last" : Str), u) : Str × Str) ∈ wn → u = x := fun u hu hw => by
    obtain ⟨k, h1, h2⟩ := wl _ hw rfl
    have h2 : k.2.getLast? = some u := h2
    have e := kids_uniq T.knd h1 hk (List.mem_of_getLast? h2) hu
    subst e
    rw [ec] at h2
    simp at h2
    exact h2.symm
  have wi : ini.filter (fun u => decide (((("last" : Str), u) : Str × Str) ∈ wn)) = [] := filter_no fun u hu => decide_eq_false fun hw => xni (by
    have := only u (by rw [ec]; exact List.mem_append_left _ hu) hw
    rw [← this]; exact hu)
  have ed : dueAt kk.2 wn = if ((("last" : Str), x) : Str × Str) ∈ wn then kk.2.length - 1 else kk.2.length := by
    unfold dueAt
    rw [show kk.2.getLast? = some x by rw [ec]; simp]
  unfold thingK dueR
  rw [ed]
  by_cases hw : ((("last" : Str), x) : Str × Str) ∈ wn
  · have eu : wU kk.2 wn "last" = [x] := by
      unfold wU
      rw [ec, List.filter_append, wi, List.filter_cons, if_pos (decide_eq_true hw)]; rfl
    have eo : othK kk.2 [x] = ini := by
      unfold othK
      rw [ec, List.filter_append, filter_yes (fun u hu => by rw [decide_eq_false (fun z => xni (by rw [← List.mem_singleton.mp z]; exact hu))]; rfl), List.filter_cons, if_neg (by simp)]
      simp
    rw [eu, eo, if_pos hw, ec]
    simp
  · have eu : wU kk.2 wn "last" = [] := by
      unfold wU
      rw [ec, List.filter_append, wi, List.filter_cons, if_neg (fun z => hw (of_decide_eq_true z))]; rfl
    have eo : othK kk.2 [] = kk.2 := filter_yes fun u _ => by simp
    rw [eu, eo, if_neg hw]
    simp
end
end K47
namespace K47
open PySem L2
section
variable {P : Program} {w : World} {K : PySem.W.Frag} {mg : Str → Option Value} {base : Heap}
noncomputable def dueK (knot : Str) (wn : Prs) (name : Str) (k : Str × List Str) : Str × List Str := if k.1 = knot then (k.1, dueR k.2 wn name) else k
theorem dueK_1 {knot : Str} {wn : Prs} {name : Str} (k : Str × List Str) : (dueK knot wn name k).1 = k.1 := by unfold dueK; split <;> rfl
theorem ix_old {us : List Str} {name u : Str} (nd : (us ++ [name]).Nodup) (h : u ∈ us) : MG.ix (us ++ [name]) u = MG.ix us u :=
  MG.ix_at nd (by rw [List.getElem?_append_left (MG.ix_lt h)]; exact MG.at_ix h)
theorem ix_new {us : List Str} {name : Str} (nd : (us ++ [name]).Nodup) : MG.ix (us ++ [name]) name = us.length :=
  MG.ix_at nd (by rw [List.getElem?_append_right (Nat.le_refl _), Nat.sub_self]; rfl)
theorem dueR_perm (c : List Str) (wn : Prs) (name : Str) : (dueR c wn name).Perm (c ++ [name]) := by
  unfold dueR
  have h1 : (c.take (dueAt c wn) ++ [name] ++ c.drop (dueAt c wn)).Perm (c.take (dueAt c wn) ++ (c.drop (dueAt c wn) ++ [name])) := by
    rw [List.append_assoc]
    exact List.Perm.append_left _ List.perm_append_comm
  rw [← List.append_assoc, List.take_append_drop] at h1
  exact h1
theorem dueK_other {knot : Str} {wn : Prs} {name : Str} : ∀ {ks : Kn}, knot ∉ ks.map (·.1) → ks.map (dueK knot wn name) = ks
  | [], _ => rfl
  | k :: ks, h => by
    have h1 : k.1 ≠ knot := fun z => h (by rw [← z]; exact List.mem_cons_self ..)
    rw [List.map_cons, dueK_other fun z => h (List.mem_cons_of_mem _ z), show dueK knot wn name k = k by unfold dueK; rw [if_neg h1]]
theorem due_kids {knot : Str} {wn : Prs} {name : Str} : ∀ {ks : Kn}, (ks.map (·.1)).Nodup → knot ∈ ks.map (·.1) → (kids (ks.map (dueK knot wn name))).Perm (kids ks ++ [name])
  | [], _, h => by cases h
  | k :: ks, n, h => by
    rw [List.map_cons] at n
    obtain ⟨n1, n2⟩ := List.nodup_cons.mp n
    have ec : kids (k :: ks) = k.2 ++ kids ks := rfl
    have ec2 : kids ((k :: ks).map (dueK knot wn name)) = (dueK knot wn name k).2 ++ kids (ks.map (dueK knot wn name)) := rfl
    rw [ec, ec2]
    by_cases z : k.1 = knot
    · rw [dueK_other (by rw [← z]; exact n1), show (dueK knot wn name k).2 = dueR k.2 wn name by unfold dueK; rw [if_pos z]]
      refine ((dueR_perm k.2 wn name).append_right _).trans ?_
      rw [List.append_assoc, List.append_assoc]
      exact List.Perm.append_left _ List.perm_append_comm
    · rw [show dueK knot wn name k = k by unfold dueK; rw [if_neg z], List.append_assoc]
      refine List.Perm.append_left _ (due_kids n2 ?_)
      rw [List.map_cons] at h
      exact (List.mem_cons.mp h).resolve_left fun q => z q.symm
theorem Tre_add {us : List Str} {ks : Kn} {wn : Prs} {name knot : Str} (T : Tre us ks) (hn : name ∉ us) (hm : Nm name) (hl : us.length < 60) (hk : knot ∈ ks.map (·.1)) : Tre (us ++ [name]) (ks.map (dueK knot wn name)) := by
  have nd2 : (us ++ [name]).Nodup := List.nodup_append.mpr ⟨T.nd, by simp, fun a ha b hb => by
    rw [List.mem_singleton.mp hb]
    exact fun z => hn (by rw [← z]; exact ha)⟩
  have e1 : (ks.map (dueK knot wn name)).map (·.1) = ks.map (·.1) := by
    rw [List.map_map]
    exact List.map_congr_left fun k _ => dueK_1 k
  refine ⟨(due_kids T.kn hk).trans (T.perm.append_right _), nd2, fun u hu => ?_, ?_, by rw [e1]; exact T.top, by rw [e1]; exact T.kn, fun k hk' => ?_, fun k hk' u hu => ?_⟩
  · rcases List.mem_append.mp hu with z | z
    · exact T.nm u z
    · rw [List.mem_singleton.mp z]; exact hm
  · rw [List.length_append]; show _ + 1 ≤ 60; omega
  · obtain ⟨k0, h0, rfl⟩ := List.mem_map.mp hk'
    rw [dueK_1]
    exact (T.sub k0 h0).imp id fun z => List.mem_append_left _ z
  · obtain ⟨k0, h0, rfl⟩ := List.mem_map.mp hk'
    rw [dueK_1]
    have hs := T.sub k0 h0
    have hu2 : u ∈ k0.2 ∨ u = name := by
      unfold dueK at hu
      split at hu
      · have := (dueR_perm k0.2 wn name).mem_iff.mp hu
        rcases List.mem_append.mp this with z | z
        · exact .inl z
        · exact .inr (List.mem_singleton.mp z)
      · exact .inl hu
    rcases hs with z | z
    · exact .inl z
    · right
      rw [ix_old nd2 z]
      rcases hu2 with q | rfl
      · rw [ix_old nd2 (T.isIn h0 q)]
        exact (T.up k0 h0 u q).resolve_left fun z2 => by
          have := (T.nm _ z).1
          rw [z2] at this
          exact absurd this (by decide)
      · rw [ix_new nd2]; exact MG.ix_lt z
theorem WnLast_add {ks : Kn} {wn : Prs} {name knot : Str} (h : WnLast ks wn) : WnLast (ks.map (dueK knot wn name)) wn := fun e he h1 => by
  obtain ⟨k, hk, hl⟩ := h e he h1
  refine ⟨_, List.mem_map.mpr ⟨k, hk, rfl⟩, ?_⟩
  unfold dueK
  split
  · have hw : ((("last" : Str), e.2) : Str × Str) ∈ wn := by rw [← h1]; exact he
    have ed : dueAt k.2 wn = k.2.length - 1 := by unfold dueAt; rw [hl]; show (if _ then _ else _) = _; rw [if_pos hw]
    show (dueR k.2 wn name).getLast? = _
    obtain ⟨ini, ec⟩ : ∃ ini, k.2 = ini ++ [e.2] := by
      rcases List.eq_nil_or_concat k.2 with z | ⟨ini, x, ec⟩
      · rw [z] at hl; cases hl
      · rw [List.concat_eq_append] at ec
        rw [ec] at hl
        simp at hl
        exact ⟨ini, by rw [ec, hl]⟩
    unfold dueR
    rw [ed, ec]
    simp
  · exact hl
theorem WnOk_add {us : List Str} {wn : Prs} {name : Str} (h : WnOk us wn) : WnOk (us ++ [name]) wn := fun e he => ⟨(h e he).1, List.mem_append_left _ (h e he).2⟩
theorem rowK_due {us : List Str} {ks : Kn} {wn : Prs} {name : Str} {kk : Str × List Str} (T : Tre us ks) (wl : WnLast ks wn) (hk : kk ∈ ks) : ks.map (rowK kk.1 (thingK kk.2 wn name)) = ks.map (dueK kk.1 wn name) :=
  List.map_congr_left fun k hk' => by
    unfold rowK dueK
    by_cases z : k.1 = kk.1
    · have e : k = kk := by
        obtain ⟨i, hi⟩ := List.getElem?_of_mem hk'
        obtain ⟨j, hj⟩ := List.getElem?_of_mem hk
        have hi2 : (ks.map (·.1))[i]? = some k.1 := by rw [List.getElem?_map, hi]; rfl
        have hj2 : (ks.map (·.1))[j]? = some k.1 := by rw [List.getElem?_map, hj, z]; rfl
        have hij : i = j := by rw [← MG.ix_at T.kn hi2, ← MG.ix_at T.kn hj2]
        subst hij
        rw [hi] at hj
        exact Option.some.inj hj
      subst e
      rw [if_pos rfl, if_pos rfl, thing_due T wl hk]
    · rw [if_neg z, if_neg z]
theorem WnLast_of {ks : Kn} {wn : Prs} (h : WnL ks wn) : WnLast ks wn := fun e he h1 => by
  rcases h e he with z | z
  · exact absurd (z.1.symm.trans h1) (by decide)
  · exact z.2
end
end K47
namespace K47
open PySem L2
section
variable {P : Program} {w : World} {K : PySem.W.Frag} {mg : Str → Option Value} {base : Heap}
noncomputable def frN (z : Str) (st : Int) (i : Nat) : Str := z ++ ⟨#[97 + ((st + (0 + (i : Int))) % 26).toNat]⟩
theorem frN_inj {z : Str} {st : Int} {c d : Nat} (h : (z ++ ⟨#[c]⟩ : Str) = z ++ ⟨#[d]⟩) : c = d := by
  have h : (z.cps ++ #[c]).toList = (z.cps ++ #[d]).toList := congrArg (fun s : Str => s.cps.toList) h
  simp only [Array.toList_append, List.append_cancel_left_eq] at h
  simpa using h
theorem frN_nd {z : Str} {st : Int} : ((List.range 26).map (frN z st)).Nodup := nodup_by _ 26 fun i j hij hj e => by
  have := frN_inj (st := st) e
  omega
theorem frN_nm {z : Str} {st : Int} {i : Nat} (hj : Lo z) (hz : z.length ≤ 7) : Nm (frN z st i) := by
  have q0 := Int.emod_nonneg (st + (0 + (i : Int))) (show (26 : Int) ≠ 0 by decide)
  have q1 := Int.emod_lt_of_pos (st + (0 + (i : Int))) (show (0 : Int) < 26 by decide)
  have le : ∀ c : Nat, (⟨#[c]⟩ : Str).length = 1 := fun _ => rfl
  unfold frN
  refine Lo.nm (hj.app (Lo.one (by omega))) ?_ ?_
  · rw [len_app, le]; omega
  · rw [len_app, le]; omega
noncomputable def spFresh (K : PySem.W.Frag) : Sp := fun vs H Q _ => ∃ (p a q : Addr) (ks : Kn) (ts ws wn : Prs), vs = [.ref p, .ref q] ∧ DPen K H p a ∧ Rep H (.ref q) (houseD ks ts ws wn) ∧ (kids ks).length ≤ 25 ∧
  ∀ name H', Nm name → name ∉ kids ks → DPV H' p a → But p H H' → Q (.str name) H'
theorem scFresh : FnScope ["_law_pen_here", "_law_house_here", "_law_letters", "_law_stem", "_law_start", "_law_some"] ["_law_pen_here", "_law_house_here"] (defScope sLawFresh) := ⟨rfl, rfl, rfl, by decide +kernel, rfl, by decide +kernel, by decide +kernel⟩
theorem ok_fresh {f : Addr} {fd : FuncData} (F : Fun K "_law_fresh" "_law_fresh" sLawFresh f fd) (B : Blt mg) (c_law_draw : Cal P w K mg base 1 "_law_draw" ["_law_pen_here", "_law_many"] (spDrw K)) (c_law_units : Cal P w K mg base 1 "_law_units" ["_law_house_here"] spUnits) : FnOk P w K mg base CX0 2 f fd ["_law_pen_here", "_law_house_here"] (spFresh K) := by
  refine F.ok scFresh (fun vs H Q E h => ?_) (fun cdv A outer s H vs Q E hr h => ?_)
  · obtain ⟨p, a, q, ks, ts, ws, wn, rfl, _⟩ := h
    rfl
  · obtain ⟨p, a, q, ks, ts, ws, wn, rfl, hP, R, kl, k⟩ := h
    have nd := scFresh.nd
    have v0 := hP.2
    have lL : letters.length ≤ sizeLine := by decide +kernel
    refine ⟨_, (pss_cons (ps_set (i := 2) nd rfl (Or.inr rfl) pe_str)
      (pss_cons (ps_set (i := 3) nd rfl (Or.inr rfl) (m_join K pe_str (pa_cons (pe_comp (defScope sLawFresh) ["_law_pen_here", "_law_house_here", "_law_letters", "_law_stem", "_law_start", "_law_some"] ["_law_k"] [2, 0] ["_law_k", "_law_letters", "_law_pen_here"] rfl (pi_range1 rfl B.range (pa_cons (pe_cal c_law_draw (hr.mono (by decide)) rfl (pa_cons (pv 0) (pa_cons pe_int pa_nil))) pa_nil)) (fun _ _ _ _ _ => (pg_name (i := 0) (show (["_law_k", "_law_letters", "_law_pen_here"] : List Str).Nodup by decide) rfl (Or.inl rfl))) (fun _ _ _ _ _ => pts_nil) (fun _ _ _ _ _ => (pe_ix (ix_X K hr.units) (pv 1) (pe_cal c_law_draw (hr.mono (by decide)) rfl (pa_cons (pv 2) (pa_cons pe_int pa_nil))) (fun _ _ => rfl)))) pa_nil)))
      (pss_cons (ps_set (i := 4) nd rfl (Or.inr rfl) (pe_cal c_law_draw (hr.mono (by decide)) rfl (pa_cons (pv 0) (pa_cons pe_int pa_nil))))
      (pss_cons (ps_setC (i := 5) nd rfl rfl (by rfl) (defScope sLawFresh) ["_law_pen_here", "_law_house_here", "_law_letters", "_law_stem", "_law_start", "_law_some"] ["_law_k"] [3, 2, 4] ["_law_k", "_law_stem", "_law_letters", "_law_start"] rfl (pi_range1 rfl B.range (pa_cons pe_int pa_nil)) (fun _ _ _ _ _ => (pg_name (i := 0) (show (["_law_k", "_law_stem", "_law_letters", "_law_start"] : List Str).Nodup by decide) rfl (Or.inl rfl))) (fun _ _ _ _ _ => pts_nil) (fun _ _ _ _ _ => (pe_op op_addX (pv 1) (pe_ix (ix_X K hr.units) (pv 2) (pe_op op_mod (pe_op op_addX (pv 3) (pv 0)) pe_int) (fun _ _ => rfl)))))
      (pss_one (ps_ret (pe_ix (ix_X K hr.units) (pe_comp (defScope sLawFresh) ["_law_pen_here", "_law_house_here", "_law_letters", "_law_stem", "_law_start", "_law_some"] ["_law_name"] [1] ["_law_name", "_law_house_here"] rfl (pi_listK K (pv 5)) (fun _ _ _ _ _ => (pg_name (i := 0) (show (["_law_name", "_law_house_here"] : List Str).Nodup by decide) rfl (Or.inl rfl))) (fun _ _ _ _ _ => (pts_one (pt_cmpR (op_notInX K hr.units) (pv 0) (pe_cal c_law_units (hr.mono (by decide)) rfl (pa_cons (pv 1) pa_nil)) (by with_unfolding_all rfl)))) (fun _ _ _ _ _ => (pv 0))) pe_int (fun _ _ => rfl)))))))), ?_⟩
    refine ⟨rfl, _, rfl, p, a, 8, rfl, hP, by decide, by decide, fun r1 H1 r10 r11 v1 b1 => ?_⟩
    obtain ⟨n1, rfl⟩ := Int.eq_ofNat_of_zero_le r10
    refine ⟨_, rfl, by omega, by omega, ?_⟩
    refine comp_range (fun D i acc σ' H' => ∃ o ys, σ' = [o, some (.str letters), some (.ref p)] ∧ acc = List.map V.str ys ∧ ys.length = i ∧ (∀ y ∈ ys, y.length = 1 ∧ Lo y) ∧ DPV H' p a ∧ But p H1 H' ∧ H1 D = none ∧ p ≠ D) fun D hD => ⟨?_, ?_, ?_⟩
    · have hDp := v1.ne hD
      exact ⟨none, [], rfl, rfl, rfl, (fun y hy => by cases hy), v1.upd hDp, (But.refl p H1).at hD, hD, hDp⟩
    · rintro i acc σ' H' hi ⟨o, ys, rfl, rfl, hl, hys, v, b, hD0, hDp⟩ hacc
      refine gYes ?_
      refine ⟨_, rfl, _, rfl, p, a, 26, rfl, hP.but (b1.trans b) v, by decide, by decide, fun r5 H5 h50 h51 v5 b5 => ?_⟩
      refine .str lL (abc_at h50 h51) ⟨b5 _ _ (Ne.symm hDp) hacc, ?_, _, ys ++ [abc r5], rfl, by simp [abc], by simp [hl], ?_, v5.upd hDp, (b.trans b5).at hD0, hD0, hDp⟩
      · rw [List.length_map, hl]; exact small1000 (by simp at hi; omega)
      · intro y hy
        rcases List.mem_append.mp hy with hy | hy
        · exact hys y hy
        · have : y = abc r5 := by simpa using hy
          subst this
          exact ⟨rfl, abc_lo h50 h51⟩
    · rintro acc σ' H5 ⟨o, ys, rfl, rfl, hl, hys, v5, b5, hD0, hDp⟩ hacc
      have hj : Lo (Txt.join "" ys) := Lo.join Lo.nil fun y hy => (hys y hy).2
      have yl : ys.length ≤ 7 := by simp at hl; omega
      have hz8 : (Txt.join "" ys).length ≤ 7 := by rw [join_len fun y hy => (hys y hy).1]; exact yl
      have e0 : ("" : Str).length = 0 := by decide +kernel
      have hsum := sum_le (n := 1) fun y hy => Nat.le_of_eq (hys y hy).1
      have s1000 : 1000 ≤ sizeLine := by decide
      refine ⟨_, D, ys, rfl, rfl, hacc, by rw [e0]; omega, ?_⟩
      have b5 := b1.trans b5
      generalize Txt.join "" ys = z at hj hz8 ⊢
      clear hacc hys hl hsum yl hD0 hDp b1 v1
      refine ⟨_, rfl, p, a, 26, rfl, hP.but b5 v5, by decide, by decide, fun r6 H6 h60 h61 v6 b6 => ?_⟩
      have b6 := b5.trans b6
      refine ⟨_, rfl, by decide, by decide, ?_⟩
      refine comp_range (fun D i acc σ' H' => ∃ o, σ' = [o, some (.str z), some (.str letters), some (.int r6)] ∧ acc = List.map V.str ((List.range i).map (frN z r6)) ∧ Same H6 H' ∧ H6 D = none) fun D hD => ⟨?_, ?_, ?_⟩
      · exact ⟨none, rfl, rfl, Same.new hD, hD⟩
      · rintro i acc σ' H' hi ⟨o, rfl, rfl, sm, hD0⟩ hacc
        refine gYes ?_
        have q0 := Int.emod_nonneg (r6 + (0 + (i : Nat) : Int)) (show (26 : Int) ≠ 0 by decide)
        have q1 := Int.emod_lt_of_pos (r6 + (0 + (i : Nat) : Int)) (show (0 : Int) < 26 by decide)
        refine ⟨_, rfl, _, rfl, _, rfl, _, rfl, .int ⟨_, _, rfl, rfl, (by show (0 : Int) < _; decide), ?_⟩⟩
        refine .str lL (abc_at q0 q1) (.str (by show _ + 1 ≤ _; omega) ⟨hacc, ?_, _, rfl, ?_, same_at sm hD0, hD0⟩)
        · rw [List.length_map, List.length_map, List.length_range]; exact small1000 (by simp at hi; omega)
        · rw [List.range_succ, List.map_append, List.map_append]; rfl
      · rintro acc σ' H7 ⟨o, rfl, rfl, s7, hD0⟩ hacc
        have b7 := b6.trans (But.of_same (p := p) s7)
        have v7 := v6.same s7
        obtain ⟨_, _, hp0, _⟩ := v0
        have R7 := repButD_house hp0 b7 R
        have el : List.range (26 : Int).toNat = List.range 26 := rfl
        have hacc : H7 D = some (.lst (List.map V.str ((List.range 26).map (frN z r6)))) := hacc
        have nn : ∀ u ∈ (List.range 26).map (frN z r6), Nm u := fun u hu => by
          obtain ⟨i, _, rfl⟩ := List.mem_map.mp hu
          exact frN_nm hj hz8
        have ndd := frN_nd (z := z) (st := r6)
        have nl : ((List.range 26).map (frN z r6)).length = 26 := by rw [List.length_map, List.length_range]
        generalize (List.range 26).map (frN z r6) = ns at hacc nn ndd nl ⊢
        refine ⟨_, rfl, D, rfl, ⟨_, .of hacc⟩, ?_⟩
        refine comp_list (List.map V.str ns) (fun D2 j acc σ' H' => ∃ (o0 : Option V), σ' = [o0, some (.ref q)] ∧ acc = List.map V.str (othK (ns.take j) (kids ks)) ∧ Same H7 H' ∧ H7 D2 = none) fun D2 hD2 => ⟨?_, ?_, ?_, ?_⟩
        · exact ⟨none, rfl, rfl, Same.new hD2, hD2⟩
        · rintro j acc σ' H' _ ⟨o0, rfl, _, sm, _⟩ _
          exact .of (sm _ _ hacc)
        · rintro j acc σ' H' v hv ⟨o0, rfl, rfl, sm, hD20⟩ hac
          obtain ⟨u, hu, rfl⟩ := str_get hv
          have hjl := (List.getElem?_eq_some_iff.mp hu).1
          have eo : othK (ns.take (j + 1)) (kids ks) = othK (ns.take j) (kids ks) ++ (if (!decide (u ∈ kids ks)) = true then [u] else []) := by
            unfold othK
            rw [List.take_add_one, hu, List.filter_append]
            congr 1
            show List.filter _ [u] = _
            rw [List.filter_cons, List.filter_nil]
          have alen : (othK (ns.take j) (kids ks)).length ≤ j := by
            have := List.length_filter_le (fun u => !decide (u ∈ kids ks)) (ns.take j)
            rw [List.length_take] at this
            unfold othK
            omega
          dsimp only [gName]
          refine ⟨_, rfl, _, rfl, nil_ ⟨q, ks, ts, ws, wn, rfl, R7.same sm, by omega, fun l3 H8 s8 hl3 => ?_⟩⟩
          have hac := s8 _ _ hac
          have sm := sm.trans s8
          refine .seq (.inl (.of hl3)) rfl (flat_strs _) ⟨_, rfl, ?_⟩
          rw [in_strs, if_pos (show true = true from rfl)]
          refine ite2 (fun hc => ?_) (fun hc => ?_)
          · rw [if_pos hc] at eo
            exact ⟨_, rfl, hac, by rw [List.length_map]; exact small1000 (by omega), _, rfl, by rw [eo, List.map_append]; rfl, same_at sm hD20, hD20⟩
          · rw [if_neg hc, List.append_nil] at eo
            exact ⟨hac, _, rfl, by rw [eo], sm, hD20⟩
        · rintro acc σ' H9 ⟨o0, rfl, rfl, s9, hD20⟩ hac
          rw [List.length_map, List.take_of_length_le (Nat.le_refl _)] at hac
          have ne : othK ns (kids ks) ≠ [] := fun e => by
            have all : ∀ u ∈ ns, u ∈ kids ks := fun u hu => Classical.byContradiction fun hn => by
              have : u ∈ othK ns (kids ks) := List.mem_filter.mpr ⟨hu, by rw [decide_eq_false hn]; rfl⟩
              rw [e] at this
              cases this
            have := nd_len ndd all
            omega
          cases eo : othK ns (kids ks) with
          | nil => exact absurd eo ne
          | cons u r =>
            rw [eo] at hac
            have hu : u ∈ othK ns (kids ks) := by rw [eo]; exact List.mem_cons_self ..
            obtain ⟨hu1, hu2⟩ := List.mem_filter.mp hu
            refine .lst (.of hac) (atI_nat (j := 0) rfl) (k u H9 (nn u hu1) (fun z2 => by rw [decide_eq_true z2] at hu2; cases hu2) (v7.same s9) (b7.trans (But.of_same (p := p) s9)))
end
end K47
namespace K47
open PySem L2
section
variable {P : Program} {w : World} {K : PySem.W.Frag} {mg : Str → Option Value} {base : Heap}
theorem dep_pairs : ∀ ts : List (Str × Str), PyData.depthAll (ts.map pairD) ≤ 1
  | [] => by decide
  | e :: es => by
    show max (PyData.depth (pairD e)) (PyData.depthAll (es.map pairD)) ≤ 1
    have h1 : PyData.depth (pairD e) = 1 := rfl
    have h2 := dep_pairs es
    omega
theorem dep_strs : ∀ ss : List Str, PyData.depthAll (ss.map PyData.str) = 0
  | [] => rfl
  | s :: ss => by
    show max (PyData.depth (.str s)) (PyData.depthAll (ss.map PyData.str)) = 0
    rw [dep_strs ss]; rfl
theorem dep_knots : ∀ ks : Kn, PyData.depthAll (ks.map knotD) ≤ 2
  | [] => by decide
  | k :: ks => by
    show max (max 0 (max (PyData.depthAll (k.2.map PyData.str) + 1) 0) + 1) (PyData.depthAll (ks.map knotD)) ≤ 2
    have := dep_knots ks
    rw [dep_strs]
    omega
theorem lay_knots : ∀ ks : Kn, (∀ k ∈ ks, (k.1 = "" ∨ Nm k.1) ∧ ∀ u ∈ k.2, Nm u) → PyData.canLayAll0 (ks.map knotD) = true
  | [], _ => rfl
  | k :: ks, h => by
    obtain ⟨h1, h2⟩ := h k (List.mem_cons_self ..)
    show ((PyData.canLay0 (.str k.1) && (PyData.canLayAll0 (k.2.map PyData.str) && true)) && PyData.canLayAll0 (ks.map knotD)) = true
    rw [lay_knots ks fun x hx => h x (List.mem_cons_of_mem _ hx), canLay_strs _ h2]
    rcases h1 with z | z
    · rw [z, show PyData.canLay0 (.str "") = true by decide +kernel]; rfl
    · rw [canLay_nm z]; rfl
theorem shp_house {us : List Str} {ks : Kn} {ts ws wn : Prs} (T : Tre us ks) (h1 : ∀ e ∈ ts, Nm e.1 ∧ Nm e.2) (h2 : ∀ e ∈ ws, Nm e.1 ∧ Nm e.2) (h3 : ∀ e ∈ wn, Nm e.1 ∧ Nm e.2) : shp (houseD ks ts ws wn) := by
  show ((PyData.canLayAll0 (ks.map knotD) && (PyData.canLayAll0 (ts.map pairD) && (PyData.canLayAll0 (ws.map pairD) && (PyData.canLayAll0 (wn.map pairD) && true)))) && decide (max (PyData.depthAll (ks.map knotD) + 1) (max (PyData.depthAll (ts.map pairD) + 1) (max (PyData.depthAll (ws.map pairD) + 1) (max (PyData.depthAll (wn.map pairD) + 1) 0))) + 1 ≤ 64)) = true
  have d0 := dep_knots ks
  have d1 := dep_pairs ts
  have d2 := dep_pairs ws
  have d3 := dep_pairs wn
  rw [lay_knots ks fun k hk => ⟨(T.sub k hk).imp id (T.nm _), fun u hu => T.nm u (T.isIn hk hu)⟩, canLay_pairsN h1, canLay_pairsN h2, canLay_pairsN h3, decide_eq_true (by omega)]
  rfl
end
end K47
namespace K47
open PySem L2
section
variable {P : Program} {w : World} {K : PySem.W.Frag} {mg : Str → Option Value} {base : Heap}
noncomputable def spLaw (K : PySem.W.Frag) : Sp := fun vs H Q _ => ∃ (a : Addr) (ns : List Int), vs = [.ref a] ∧ SqL K H a (ns.map V.int) ∧ ∀ H', Q (.bl true) H'
structure HI (H : Hp) (q : Addr) (us : List Str) (ks : Kn) (ts ws wn : Prs) (n : Nat) : Prop where
  rep : Rep H (.ref q) (houseD ks ts ws wn)
  tre : Tre us ks
  wl : WnLast ks wn
  wok : WnOk us wn
  pt : PsIn us ts
  pw : PsIn us ws
  len : us.length ≤ n
theorem HI.same {H H' : Hp} {q : Addr} {us : List Str} {ks : Kn} {ts ws wn : Prs} {n : Nat} (h : HI H q us ks ts ws wn n) (s : Same H H') : HI H' q us ks ts ws wn n := ⟨h.rep.same s, h.tre, h.wl, h.wok, h.pt, h.pw, h.len⟩
theorem HI.but {H H' : Hp} {q p : Addr} {us : List Str} {ks : Kn} {ts ws wn : Prs} {n : Nat} (h : HI H q us ks ts ws wn n) {ys : List (Key × V)} (hp : H p = some (.dK ys)) (b : But p H H') : HI H' q us ks ts ws wn n := ⟨repButD_house hp b h.rep, h.tre, h.wl, h.wok, h.pt, h.pw, h.len⟩
theorem HI.shp {H : Hp} {q : Addr} {us : List Str} {ks : Kn} {ts ws wn : Prs} {n : Nat} (h : HI H q us ks ts ws wn n) : shp (houseD ks ts ws wn) :=
  shp_house h.tre (fun e he => ⟨h.tre.nm _ (h.pt e he).1, h.tre.nm _ (h.pt e he).2⟩) (fun e he => ⟨h.tre.nm _ (h.pw e he).1, h.tre.nm _ (h.pw e he).2⟩) (fun e he => ⟨nm_word (h.wok e he).1, h.tre.nm _ (h.wok e he).2⟩)
theorem HI.add {H H' : Hp} {q q' : Addr} {us : List Str} {ks : Kn} {ts ws wn : Prs} {n : Nat} {name knot : Str} (h : HI H q us ks ts ws wn n) (hn : name ∉ us) (hm : Nm name) (hl : us.length < 60) (hk : knot ∈ ks.map (·.1)) (r : Rep H' (.ref q') (houseD (ks.map (dueK knot wn name)) ts ws wn)) : HI H' q' (us ++ [name]) (ks.map (dueK knot wn name)) ts ws wn (n + 1) :=
  ⟨r, Tre_add h.tre hn hm hl hk, WnLast_add h.wl, WnOk_add h.wok, fun e he => ⟨List.mem_append_left _ (h.pt e he).1, List.mem_append_left _ (h.pt e he).2⟩, fun e he => ⟨List.mem_append_left _ (h.pw e he).1, List.mem_append_left _ (h.pw e he).2⟩, by rw [List.length_append]; show _ + 1 ≤ _; have := h.len; omega⟩
theorem WnOk_of {us : List Str} {ks : Kn} {wn : Prs} (T : Tre us ks) (h : WnL ks wn) : WnOk us wn := fun e he => by
  rcases h e he with ⟨h1, k, hk, h2⟩ | ⟨h1, k, hk, h2⟩
  · exact ⟨.inl h1, T.isIn hk (List.mem_of_mem_head? h2)⟩
  · exact ⟨.inr h1, T.isIn hk (List.mem_of_getLast? h2)⟩
theorem scLaw : FnScope ["_law_script", "_law_pen_here", "_law_house_here", "_law_lone", "_law_turn", "_law_name", "_law_knot", "_law_due_here", "_law_handed"] ["_law_script"] (defScope sLaw) := ⟨rfl, rfl, rfl, by decide +kernel, rfl, by decide +kernel, by decide +kernel⟩
theorem ok_law {f : Addr} {fd : FuncData} (F : Fun K "law" "law" sLaw f fd) (B : Blt mg) (c_law_pen : Cal P w K mg base 1 "_law_pen" ["_law_script"] (spPenD K)) (c_law_draw : Cal P w K mg base 1 "_law_draw" ["_law_pen_here", "_law_many"] (spDrw K)) (c_law_house : Cal P w K mg base 4 "_law_house" ["_law_pen_here", "_law_most"] (spHouse K)) (c_law_fresh : Cal P w K mg base 2 "_law_fresh" ["_law_pen_here", "_law_house_here"] (spFresh K)) (c_law_due : Cal P w K mg base 1 "_law_due" ["_law_house_here", "_law_name", "_law_knot"] spDue) (cbehind : Cal P w K mg base 10 "behind" ["house", "deed"] spBehS) : FnOk P w K mg base CX0 11 f fd ["_law_script"] (spLaw K) := by
  refine F.ok scLaw (fun vs H Q E h => ?_) (fun cdv A outer s H vs Q E hr h => ?_)
  · obtain ⟨a, ns, rfl, _⟩ := h
    rfl
  · obtain ⟨sc, ns, rfl, hS, k⟩ := h
    have nd := scLaw.nd
    have sz : 200000 < sizeLine := by decide
    refine ⟨_, (pss_cons (ps_set (i := 1) nd rfl (Or.inl rfl) (pe_cal c_law_pen (hr.mono (by decide)) rfl (pa_cons (pv 0) pa_nil)))
      (pss_cons (ps_set (i := 2) nd rfl (Or.inr rfl) (pe_cal c_law_house (hr.mono (by decide)) rfl (pa_cons (pv 1) (pa_cons pe_int pa_nil))))
      (pss_cons (ps_setC (i := 3) nd rfl rfl (by rfl) (defScope sLaw) ["_law_script", "_law_pen_here", "_law_house_here", "_law_lone", "_law_turn", "_law_name", "_law_knot", "_law_due_here", "_law_handed"] ["_law_knot", "_law_kids"] [2] ["_law_knot", "_law_kids", "_law_house_here"] rfl (pi_tupK K (pe_ix (ix_X K hr.units) (pv 2) pe_int (fun _ _ => rfl))) (fun _ _ _ _ _ => (pg_tupK (n := 2) K rfl (pgs_cons (pg_name (i := 0) (show (["_law_knot", "_law_kids", "_law_house_here"] : List Str).Nodup by decide) rfl (Or.inl rfl)) (pgs_cons (pg_name (i := 1) (show (["_law_knot", "_law_kids", "_law_house_here"] : List Str).Nodup by decide) rfl (Or.inl rfl)) pgs_nil)))) (fun _ _ _ _ _ => (pts_one (PW.pt (pw_and (pt_cmpR (op_eqX hr.units) (b_len K B (pa_cons (pv 1) pa_nil)) pe_int (nomark _)) (pw_and1 (pt_cmpR (op_notInDT hr.units) (pe_tup (pa_cons pe_str (pa_cons (pe_ix (ix_X K hr.units) (pv 1) pe_int (fun _ _ => rfl)) pa_nil))) (pe_ix (ix_X K hr.units) (pv 2) pe_int (fun _ _ => rfl)) (by with_unfolding_all rfl))))))) (fun _ _ _ _ _ => (pe_ix (ix_X K hr.units) (pv 1) pe_int (fun _ _ => rfl))))
      (pss_cons (ps_if (PW.pt (pw_and (pt_cmpR (op_neNil K hr.units) (pv 3) (pe_lst pa_nil) (nomark _)) (pw_and1 (pt_cmpR (op_eqX hr.units) (pe_cal c_law_draw (hr.mono (by decide)) rfl (pa_cons (pv 1) (pa_cons pe_int pa_nil))) pe_int (nomark _))))) (pss_one (ps_set (i := 2) nd rfl (Or.inr rfl) (pe_op op_catTB (pe_slice sl_tupA (pv 2) po_none (po_some pe_int)) (pe_tup (pa_cons (pe_op op_catTB (pe_ix (ix_X K hr.units) (pv 2) pe_int (fun _ _ => rfl)) (pe_tup (pa_cons (pe_tup (pa_cons pe_str (pa_cons (pe_ix (ix_X K hr.units) (pv 3) pe_int (fun _ _ => rfl)) pa_nil))) pa_nil))) pa_nil))))) pss_nil)
      (pss_cons (ps_for PassesOwn.never rfl (pi_range1 rfl B.range (pa_cons (pe_op op_addX pe_int (pe_cal c_law_draw (hr.mono (by decide)) rfl (pa_cons (pv 1) (pa_cons pe_int pa_nil)))) pa_nil)) (pg_name (i := 4) nd rfl (Or.inl rfl)) (pss_cons (ps_set (i := 5) nd rfl (Or.inl rfl) (pe_cal c_law_fresh (hr.mono (by decide)) rfl (pa_cons (pv 1) (pa_cons (pv 2) pa_nil))))
      (pss_cons (ps_set (i := 6) nd rfl (Or.inl rfl) (pe_ix (ix_X K hr.units) (pe_ix (ix_X K hr.units) (pe_ix (ix_X K hr.units) (pv 2) pe_int (fun _ _ => rfl)) (pe_cal c_law_draw (hr.mono (by decide)) rfl (pa_cons (pv 1) (pa_cons (b_len K B (pa_cons (pe_ix (ix_X K hr.units) (pv 2) pe_int (fun _ _ => rfl)) pa_nil)) pa_nil))) (fun _ _ => rfl)) pe_int (fun _ _ => rfl)))
      (pss_cons (ps_set (i := 7) nd rfl (Or.inl rfl) (pe_cal c_law_due (hr.mono (by decide)) rfl (pa_cons (pv 2) (pa_cons (pv 5) (pa_cons (pv 6) pa_nil)))))
      (pss_cons (ps_set (i := 8) nd rfl (Or.inl rfl) (pe_tup (pa_cons (pe_ix (ix_X K hr.units) (pv 2) pe_int (fun _ _ => rfl)) (pa_cons (pe_ix (ix_X K hr.units) (pv 2) pe_int (fun _ _ => rfl)) (pa_cons (pe_ix (ix_X K hr.units) (pv 2) pe_int (fun _ _ => rfl)) (pa_cons (pe_ix (ix_X K hr.units) (pv 2) pe_int (fun _ _ => rfl)) pa_nil))))))
      (pss_cons (ps_if (PW.pt (pw_or (pt_cmpR (op_neX hr.units) (pe_cal cbehind (hr.mono (by decide)) rfl (pa_cons (pv 8) (pa_cons (pe_tup (pa_cons pe_str (pa_cons (pv 5) (pa_cons (pv 6) pa_nil)))) pa_nil))) (pv 7) (nomark _)) (pw_or1 (pt_cmpR (op_neX hr.units) (pv 8) (pv 2) (nomark _))))) (pss_one (ps_ret pe_bl)) pss_nil)
      (pss_one (ps_set (i := 2) nd rfl (Or.inr rfl) (pv 7)))))))))
      (pss_one (ps_ret pe_bl))))))), ?_⟩
    refine ⟨_, rfl, sc, ns, rfl, hS, fun p H1 hP => ?_⟩
    refine ⟨_, rfl, p, sc, rfl, hP, fun q us ks ts ws wn H2 R T _ ul ti pw wl tl wsl wnl v2 b2 => ?_⟩
    have J2 : HI H2 q us ks ts ws wn 13 := ⟨R, T, WnLast_of wl, WnOk_of T wl, fun e he => ⟨(ti e he).1, (ti e he).2.1⟩, pw, ul⟩
    obtain ⟨q', a, b, c3, d4, e0, hq, R1, R2, R3, R4⟩ := house_at R
    cases e0
    obtain ⟨a', refs, e0, ha, rp⟩ := knots_at R1
    cases e0
    obtain ⟨d4', rw4, e0, hd4, rpw⟩ := pairsT_at R4
    cases e0
    have cay : PyData.canLayAll0 (wn.map pairD) = true := canLay_pairsN fun e he => ⟨nm_word (J2.wok e he).1, T.nm _ (J2.wok e he).2⟩
    have rlen := rp.len
    rw [List.length_map] at rlen
    have kfew := T.few
    have rwl := rpw.len
    rw [List.length_map] at rwl
    refine ⟨_, rfl, .tup (.of hq) rfl ⟨a, rfl, ⟨_, .of ha⟩, ?_⟩⟩
    refine comp_tup refs (fun D i acc σ' H' => ∃ (o0 o1 : Option V) (ls : List Str), σ' = [o0, o1, some (.ref q)] ∧ acc = List.map V.str ls ∧ ls.length ≤ i ∧ (∀ u ∈ ls, ∃ k ∈ ks, k.2 = [u]) ∧ Same H2 H' ∧ H2 D = none) fun D hD => ⟨?_, ?_, ?_, ?_⟩
    · exact ⟨none, none, [], rfl, rfl, Nat.le_refl 0, (fun u hu => by cases hu), Same.new hD, hD⟩
    · rintro i acc σ' H' _ ⟨o0, o1, ls, rfl, _, _, _, sm, _⟩ _
      exact .of (sm _ _ ha)
    · rintro i acc σ' H' x hx ⟨o0, o1, ls, rfl, rfl, ll, lk, sm, hD0⟩ hac
      obtain ⟨kn, ta, la, hk, rfl, hta, hla⟩ := knot_get rp hx
      have hil := (List.getElem?_eq_some_iff.mp hk).1
      have hkm := List.mem_of_getElem? hk
      refine ⟨ta, _, rfl, .of (sm _ _ hta), rfl, _, _, rfl, _, _, rfl, rfl, ?_⟩
      refine ⟨_, rfl, nil_ ⟨_, _, rfl, Or.inr ⟨_, .of (sm _ _ hla), rfl⟩, .sc rfl ⟨_, rfl, ?_⟩⟩⟩
      refine ite2 (fun h => ?_) (fun h => ?_)
      · have h1 : kn.2.length = 1 := by
          rw [List.length_map] at h
          have h : decide (V.int ((kn.2.length : Nat) : Int) = V.int 1) = true := h
          have := of_decide_eq_true h
          injection this with this
          omega
        obtain ⟨u, hu⟩ := List.length_eq_one_iff.mp h1
        have hxk : u ∈ kn.2 := by rw [hu]; simp
        have hla1 := sm _ _ hla
        have at0' : atI (List.map V.str kn.2) 0 = some (.str u) := by rw [hu]; rfl
        refine ⟨_, rfl, .tup (.of hla1) at0' (nil_ ⟨(by show 2 ≤ sizeLine; decide), fun t2 h2 => ?_⟩)⟩
        have s2 := Same.new (o := .tup [V.str "first", V.str u]) h2
        have e2 : upd H' t2 (.tup [V.str "first", V.str u]) t2 = some (.tup [V.str "first", V.str u]) := upd_same
        have sm2 := sm.trans s2
        have hac2 := s2 _ _ hac
        have hla2 := s2 _ _ hla1
        generalize upd H' t2 (.tup [V.str "first", V.str u]) = G2 at s2 e2 sm2 hac2 hla2 ⊢
        refine ⟨_, rfl, .tup (.of (sm2 _ _ hq)) rfl ⟨d4, rw4, _, pairD ("first", u), rfl, sm2 _ _ hd4, rpw.same sm2, pair_rep e2, cay, canLay_pairN (e := ("first", u)) ⟨nm_first, T.nm u (T.isIn hkm hxk)⟩, (by show 1 ≤ 16; decide), _, rfl, ?_⟩⟩
        rw [if_pos (show true = true from rfl), any_pair]
        refine ite2 (fun hc => ?_) (fun hc => ?_)
        · refine ⟨_, rfl, .tup (.of hla2) at0' ⟨hac2, ?_, _, _, ls ++ [u], rfl, by rw [List.map_append]; rfl, by rw [List.length_append]; show _ + 1 ≤ _; omega, fun z hz => ?_, same_at sm2 hD0, hD0⟩⟩
          · rw [List.length_map]; exact small1000 (by omega)
          · rcases List.mem_append.mp hz with hz | hz
            · exact lk z hz
            · rw [List.mem_singleton.mp hz]; exact ⟨kn, hkm, hu⟩
        · exact ⟨hac2, _, _, ls, rfl, rfl, by omega, lk, sm2, hD0⟩
      · exact iteF ⟨hac, _, _, ls, rfl, rfl, by omega, lk, sm, hD0⟩
    · rintro acc σ' H3 ⟨o0, o1, ls, rfl, rfl, ll, lk, s3, hD0⟩ hac
      have v3 := v2.same s3
      have b3 := b2.trans (But.of_same (p := p) s3)
      have J3 := J2.same s3
      have hq3 := s3 _ _ hq
      have hd43 := s3 _ _ hd4
      refine name_go ?_
      dsimp only
      refine seq_inv (fun σ' H' => ∃ q' wn', σ' = [some (.ref sc), some (.ref p), some (.ref q'), some (.ref D), none, none, none, none, none] ∧ HI H' q' us ks ts ws wn' 13 ∧ DPV H' p sc ∧ But p H1 H') ?_ ?_
      · rintro σ' H4 ⟨q4, wn4, rfl, J4, v4, b4⟩
        refine ⟨_, rfl, p, sc, 5, rfl, hP.but b4 v4, by decide, by decide, fun r5 H5 r50 r51 v5 b5 => .int ?_⟩
        obtain ⟨j5, rfl⟩ := Int.eq_ofNat_of_zero_le r50
        obtain ⟨ys4, hp4⟩ := v4.at_dK
        have J5 := J4.but hp4 b5
        have b5 := b4.trans b5
        refine ⟨_, rfl, by omega, by omega, ?_⟩
        rw [show (1 + ((j5 : Nat) : Int)).toNat = 1 + j5 by omega]
        refine for_range (fun i σ H' => ∃ q us ks o4 o5 o6 o7 o8, σ = [some (.ref sc), some (.ref p), some (.ref q), some (.ref D), o4, o5, o6, o7, o8] ∧ HI H' q us ks ts ws wn4 (13 + i) ∧ DPV H' p sc ∧ But p H1 H') ⟨q4, us, ks, none, none, none, none, none, rfl, J5, v5, b5⟩ ?_ ?_
        · clear J5 J4 J3 J2 R1 R2 R3 R4 rp rpw R T
          rintro i σ H6 hi ⟨q, us, ks, o4, o5, o6, o7, o8, rfl, J6, v6, b6⟩
          have hi : i < 5 := by omega
          have T := J6.tre
          have ul := J6.len
          have kl : (kids ks).length = us.length := T.perm.length_eq
          refine ⟨_, rfl, _, rfl, nil_ ⟨p, sc, q, ks, ts, ws, wn4, rfl, hP.but b6 v6, J6.rep, by omega, fun name H7 nm7 nin v7 b7 => ?_⟩⟩
          have nin : name ∉ us := fun z => nin (T.perm.mem_iff.mpr z)
          obtain ⟨ys6, hp6⟩ := v6.at_dK
          have J7 := J6.but hp6 b7
          have b7 := b6.trans b7
          obtain ⟨_, a, b, c, d, e0, hq7, R71, _⟩ := house_at J7.rep
          cases e0
          obtain ⟨_, refs, e0, ha7, rp7⟩ := knots_at R71
          cases e0
          have rlen := rp7.len
          rw [List.length_map] at rlen
          have kfew := T.few
          have kpos : 0 < ks.length := by
            have := T.top
            cases ks with
            | nil => cases this
            | cons _ _ => exact Nat.succ_pos _
          refine ⟨_, rfl, .tup (.of hq7) rfl ⟨_, rfl, _, rfl, .tup (.of hq7) rfl (nil_ ⟨_, _, rfl, Or.inr ⟨_, .of ha7, rfl⟩, nil_ ⟨p, sc, _, rfl, hP.but b7 v7, by omega, by omega, fun r8 H8 r80 r81 v8 b8 => ?_⟩⟩)⟩⟩
          obtain ⟨ys7, hp7⟩ := v7.at_dK
          have J8 := J7.but hp7 b8
          have hq8 := tupButD hp7 b8 hq7
          have ha8 := tupButD hp7 b8 ha7
          have rp8 := repButD_all (repButD_knot hp7 b8) rp7
          have b8 := b7.trans b8
          obtain ⟨x, ax, hx⟩ := at_ok (xs := refs) r80 (by simpa using r81)
          obtain ⟨j8, hj8⟩ := List.getElem?_of_mem hx
          obtain ⟨kn, ta, la, hk, rfl, hta, hla⟩ := knot_get rp8 hj8
          have hkm := List.mem_of_getElem? hk
          refine .tup (.of ha8) ax (.tup (.of hta) at0 ?_)
          refine ⟨_, rfl, _, rfl, _, rfl, nil_ ⟨q, us, ks, ts, ws, wn4, name, kn.1, rfl, J8.rep, T, J8.wok, fun q9 H9 s9 R9 => ?_⟩⟩
          have J9 := J8.same s9
          have hq9 := s9 _ _ hq8
          have v9 := v8.same s9
          have b9 := b8.trans (But.of_same (p := p) s9)
          have R9 : Rep H9 (.ref q9) (houseD (ks.map (dueK kn.1 wn4 name)) ts ws wn4) := R9
          refine ⟨_, rfl, .tup (.of hq9) rfl ⟨_, rfl, .tup (.of hq9) rfl ⟨_, rfl, .tup (.of hq9) rfl ⟨_, rfl, .tup (.of hq9) rfl (nil_ ⟨(by show 4 ≤ sizeLine; decide), fun tA hA => ?_⟩)⟩⟩⟩⟩
          have sA := Same.new (o := .tup [V.ref a, V.ref b, V.ref c, V.ref d]) hA
          have eA : upd H9 tA (.tup [V.ref a, V.ref b, V.ref c, V.ref d]) tA = some (.tup [V.ref a, V.ref b, V.ref c, V.ref d]) := upd_same
          have JA := J9.same sA
          have RA := R9.same sA
          have vA := v9.same sA
          have bA := b9.trans (But.of_same (p := p) sA)
          have hqA := sA _ _ hq9
          generalize upd H9 tA (.tup [V.ref a, V.ref b, V.ref c, V.ref d]) = HA at sA eA JA RA vA bA hqA ⊢
          have RhA : Rep HA (.ref tA) (houseD ks ts ws wn4) := by
            obtain ⟨_, a1, b1, c1, d1, e0, hqA', R1, R2, R3, R4⟩ := house_at JA.rep
            cases e0
            rw [hqA] at hqA'
            cases hqA'
            exact house_rep eA R1 R2 R3 R4
          refine ⟨_, rfl, _, rfl, _, rfl, nil_ ⟨(by show 3 ≤ sizeLine; decide), fun tB hB => ?_⟩⟩
          have sB := Same.new (o := .tup [V.str "thing", V.str name, V.str kn.1]) hB
          have eB : upd HA tB (.tup [V.str "thing", V.str name, V.str kn.1]) tB = some (.tup [V.str "thing", V.str name, V.str kn.1]) := upd_same
          have JB := JA.same sB
          have RB := RA.same sB
          have RhB := RhA.same sB
          have vB := vA.same sB
          have bB := bA.trans (But.of_same (p := p) sB)
          generalize upd HA tB (.tup [V.str "thing", V.str name, V.str kn.1]) = HB at sB eB JB RB RhB vB bB ⊢
          refine nil_ ⟨tA, tB, us, ks, ts, ws, wn4, name, kn, rfl, ⟨eB, RhB, T, JB.wok, nin, nm7, hkm, by omega⟩, fun qC HC sC RC => ?_⟩
          rw [rowK_due T JB.wl hkm] at RC
          have JC : HI HC q9 (us ++ [name]) (ks.map (dueK kn.1 wn4 name)) ts ws wn4 (13 + (i + 1)) := JB.add nin nm7 (by omega) (List.mem_map.mpr ⟨kn, hkm, rfl⟩) (RB.same sC)
          have shC := JC.shp
          have shB := JB.shp
          refine ⟨_, rfl, .tr RC JC.rep shC shC ⟨_, rfl, ?_⟩⟩
          rw [eqv_shp shC]
          refine iteF ?_
          refine ⟨_, rfl, _, rfl, .tr (RhB.same sC) (JB.rep.same sC) shB shB ⟨_, rfl, ?_⟩⟩
          rw [eqv_shp shB]
          refine iteF ?_
          exact ⟨_, rfl, q9, _, _, _, _, _, _, _, rfl, JC, vB.same sC, bB.trans (But.of_same (p := p) sC)⟩
        · rintro σ H6 _
          exact k H6
      · intro N hN
        refine ⟨_, rfl, (by show 0 ≤ sizeLine; decide), fun l0 h0 => ?_⟩
        have s4 := Same.new (o := .lst []) h0
        have e4 : upd H3 l0 (.lst []) l0 = some (.lst []) := upd_same
        have v4 := v3.same s4
        have b4 := b3.trans (But.of_same (p := p) s4)
        have J4 := J3.same s4
        have hq4 := s4 _ _ hq3
        have hd44 := s4 _ _ hd43
        have hac4 := s4 _ _ hac
        have rpw4 := (rpw.same s3).same s4
        generalize upd H3 l0 (.lst []) = H4 at s4 e4 v4 b4 J4 hq4 hd44 hac4 rpw4 ⊢
        refine ⟨D, l0, _, rfl, rfl, .of hac4, e4, _, rfl, ?_⟩
        refine ite2 (fun h1 => ?_) (fun h1 => iteF (hN _ _ ⟨q, wn, rfl, J4, v4, b4⟩))
        cases ls with
        | nil => cases (show false = true from h1)
        | cons u lr =>
        obtain ⟨kn, hkm, hku⟩ := lk u (List.mem_cons_self ..)
        refine ⟨_, rfl, p, sc, 2, rfl, hP.but b4 v4, by decide, by decide, fun r5 H5 r50 r51 v5 b5 => .sc rfl ⟨_, rfl, ?_⟩⟩
        obtain ⟨ys4, hp4⟩ := v4.at_dK
        have J5 := J4.but hp4 b5
        have hq5 := tupButD hp4 b5 hq4
        have hd45 := tupButD hp4 b5 hd44
        have rpw5 := repButD_all (repButD_pair hp4 b5) rpw4
        have nDp : D ≠ p := ne_of hac4 hp4 (by intro z; cases z)
        have hac5 := b5 _ _ nDp hac4
        have b5 := b4.trans b5
        refine ite2 (fun _ => ?_) (fun _ => hN _ _ ⟨q, wn, rfl, J5, v5, b5⟩)
        refine ⟨_, rfl, _, rfl, q, _, rfl, hq5, fun t6 H6 s6 e6 => ?_⟩
        have e6 : H6 t6 = some (.tup [V.ref a, V.ref b, V.ref c3]) := e6
        refine ⟨_, rfl, .tup (.of (s6 _ _ hq5)) rfl ⟨_, rfl, .lst (.of (s6 _ _ hac5)) at0 (nil_ ⟨(by show 2 ≤ sizeLine; decide), fun t7 h7 => ?_⟩)⟩⟩
        have s7 := Same.new (o := .tup [V.str "last", V.str u]) h7
        have e7 : upd H6 t7 (.tup [V.str "last", V.str u]) t7 = some (.tup [V.str "last", V.str u]) := upd_same
        have s67 := s6.trans s7
        have e67 := s7 _ _ e6
        generalize upd H6 t7 (.tup [V.str "last", V.str u]) = H7 at s7 e7 s67 e67 ⊢
        refine nil_ ⟨(by show 1 ≤ sizeLine; decide), fun t8 h8 => ?_⟩
        have s8 := Same.new (o := .tup [V.ref t7]) h8
        have e8 : upd H7 t8 (.tup [V.ref t7]) t8 = some (.tup [V.ref t7]) := upd_same
        have s68 := s67.trans s8
        have e78 := s8 _ _ e7
        have e68 := s8 _ _ e67
        generalize upd H7 t8 (.tup [V.ref t7]) = H8 at s8 e8 s68 e78 e68 ⊢
        refine ⟨d4, t8, _, _, rfl, rfl, s68 _ _ hd45, e8, (by show rw4.length + 1 ≤ _; omega), fun t9 H9 s9 e9 => ?_⟩
        refine nil_ ⟨(by show 1 ≤ sizeLine; decide), fun tA hA => ?_⟩
        have sA := Same.new (o := .tup [V.ref t9]) hA
        have eA : upd H9 tA (.tup [V.ref t9]) tA = some (.tup [V.ref t9]) := upd_same
        have s6A := (s68.trans s9).trans sA
        have e6A := sA _ _ (s9 _ _ e68)
        have e9A := sA _ _ e9
        have e7A := sA _ _ (s9 _ _ e78)
        generalize upd H9 tA (.tup [V.ref t9]) = HA at sA eA s6A e6A e9A e7A ⊢
        refine ⟨t6, tA, _, _, rfl, rfl, e6A, eA, (by show 3 + 1 ≤ sizeLine; decide), fun tB HB sB eB => ?_⟩
        have eB : HB tB = some (.tup [V.ref a, V.ref b, V.ref c3, V.ref t9]) := eB
        have s5B := s6A.trans sB
        have bB := b5.trans (But.of_same (p := p) s5B)
        obtain ⟨_, a1, b1, c1, d1, e0, hq5', R51, R52, R53, _⟩ := house_at J5.rep
        cases e0
        rw [hq5] at hq5'
        cases hq5'
        refine hN _ _ ⟨tB, wn ++ [(("last" : Str), u)], rfl, ⟨house_rep eB (R51.same s5B) (R52.same s5B) (R53.same s5B) (.tup (sB _ _ e9A) ?_), T, fun e he h1 => ?_, fun e he => ?_, J5.pt, J5.pw, J5.len⟩, v5.same s5B, bB⟩
        · rw [List.map_append]
          exact RepAll.append (rpw5.same s5B) (.cons (pair_rep (s := "last") (t := u) (sB _ _ e7A)) .nil)
        · rcases List.mem_append.mp he with he | he
          · exact J5.wl e he h1
          · rw [List.mem_singleton.mp he]; exact ⟨kn, hkm, by rw [hku]; rfl⟩
        · rcases List.mem_append.mp he with he | he
          · exact J5.wok e he
          · rw [List.mem_singleton.mp he]; exact ⟨.inr rfl, T.isIn hkm (by rw [hku]; simp)⟩
end
end K47
namespace K47
open PySem L2
section
variable {P : Program} {w : World} {K : PySem.W.Frag} {mg : Str → Option Value} {base : Heap}
theorem sq_lit {K : PySem.W.Frag} {a : Addr} {od : Option Addr} {us : List Value} {n : Nat} {sl : Array (Option Value)} {xs : List V} (l : K.lookup a = some ⟨.type "tuple", od, .seq us.toArray n, sl⟩) (hz : us.length ≤ 1000) (r : Vals xs us) : ∀ H, SqT K H a xs := fun H =>
  .inr ⟨_, us.toArray, n, l, rfl, rfl, by rw [List.size_toArray]; exact Nat.le_trans hz (by decide), by rw [List.toList_toArray]; exact r⟩
structure Ent where
  x : Str
  t : Tok
  a : Addr
noncomputable def Ent.e (P : Params) (e : Ent) : DictEntry := ⟨PyData.keyHash P e.x, .str e.x e.t, .ref e.a⟩
noncomputable def Ent.kv (e : Ent) : Key × Value := (.inr e.x, .ref e.a)
theorem kd_lit {P : Program} {w : World} {K : PySem.W.Frag} {D0 : Addr} {ep : Nat} (l : List Ent) (h : K.lookup D0 = some ⟨.type "dict", none, .dict (l.map (Ent.e w.params)).toArray ep, #[]⟩) (hs : (D0 == sysModules) = false) (nd : (l.map (·.x)).Nodup) : KD P w K D0 (l.map Ent.kv) := by
  refine ⟨hs, _, _, ep, h, ⟨rfl, rfl, rfl⟩, rfl, fun e he => ?_, ?_, ?_⟩
  · have he : e ∈ l.map (Ent.e w.params) := by simpa using he
    obtain ⟨q, _, rfl⟩ := List.mem_map.mp he
    exact ⟨.inr q.x, mixKind_str _ _ _ _, rfl⟩
  · rw [List.toList_toArray]
    clear h nd
    induction l with
    | nil => exact .nil
    | cons q r ih => exact .cons (mixKind_str _ _ _ _) rfl ih
  · rw [List.map_map]
    have e : l.map ((·.1) ∘ Ent.kv) = (l.map (·.x)).map (Sum.inr : Str → Key) := by rw [List.map_map]; rfl
    rw [e]
    exact List.Pairwise.map _ (fun a b n q => n (Sum.inr.inj q)) nd
theorem val_lit {w : Str} : ∀ {l : List Ent} {q : List (Str × List Str)}, l.map (·.x) = q.map (·.1) →
    (q.lookup w = none → valueAt (l.map Ent.kv) (.inr w) = none) ∧ ∀ ss, q.lookup w = some ss → ∃ i : Nat, ∃ e : Ent, l[i]? = some e ∧ q[i]? = some (w, ss) ∧ valueAt (l.map Ent.kv) (.inr w) = some (.ref e.a)
  | [], [], _ => ⟨fun _ => rfl, fun ss h => by cases h⟩
  | e :: l, (x, s) :: q, h => by
    have h0 : e.x = x := (List.cons.inj h).1
    have ih := val_lit (w := w) (l := l) (q := q) (List.cons.inj h).2
    by_cases c : x = w
    · subst c
      refine ⟨fun z => ?_, fun ss z => ⟨0, e, rfl, ?_, ?_⟩⟩
      · rw [List.lookup_cons, beq_self_eq_true] at z; cases z
      · rw [List.lookup_cons, beq_self_eq_true] at z; cases z; rfl
      · unfold valueAt Ent.kv
        rw [List.map_cons, List.find?_cons]
        simp [h0]
    · have c2 : (w == x) = false := by rw [beq_eq_false_iff_ne]; exact fun z => c z.symm
      have v : valueAt ((e :: l).map Ent.kv) (.inr w) = valueAt (l.map Ent.kv) (.inr w) := by
        unfold valueAt
        rw [List.map_cons, List.find?_cons]
        have : decide ((Ent.kv e).1 = (Sum.inr w : Key)) = false := decide_eq_false fun z => c (h0 ▸ Sum.inr.inj z)
        simp only [this]
      refine ⟨fun z => ?_, fun ss z => ?_⟩
      · rw [List.lookup_cons, c2] at z
        rw [v]; exact ih.1 z
      · rw [List.lookup_cons, c2] at z
        obtain ⟨i, e', h1, h2, h3⟩ := ih.2 ss z
        exact ⟨i + 1, e', h1, h2, by rw [v]; exact h3⟩
  | [], _ :: _, h => by cases h
  | _ :: _, [], h => by cases h
theorem paired_get {α β : Type} {F : α → β → Prop} : ∀ {xs : List α} {ys : List β} {i : Nat} {a : α} {b : β}, Paired F xs ys → xs[i]? = some a → ys[i]? = some b → F a b
  | _, _, _, _, _, .nil, e, _ => by simp at e
  | _, _, 0, _, _, .cons r _, e, g => by simp at e g; subst e; subst g; exact r
  | _, _, i + 1, _, _, .cons _ t, e, g => paired_get (i := i) t (by simpa using e) (by simpa using g)
theorem pk_mk {P : Program} {w : World} {K : PySem.W.Frag} {D0 : Addr} {ep : Nat} (l : List Ent) (h : K.lookup D0 = some ⟨.type "dict", none, .dict (l.map (Ent.e w.params)).toArray ep, #[]⟩) (hs : (D0 == sysModules) = false) (hk : l.map (·.x) = partsA.map (·.1))
    (sq : Paired (fun (e : Ent) (q : Str × List Str) => ∀ H, SqT K H e.a (List.map V.str q.2)) l partsA) : PK P w K D0 (l.map Ent.kv) := by
  refine ⟨kd_lit l h hs (by rw [hk]; decide +kernel), fun w ss z => ?_, fun w z => (val_lit hk).1 z⟩
  obtain ⟨i, e, h1, h2, h3⟩ := (val_lit hk).2 ss z
  exact ⟨e.a, h3, paired_get sq h1 h2⟩
end
end K47
namespace K47
open PySem L2
section
variable {P : Program} {w : World} {K : PySem.W.Frag} {mg : Str → Option Value} {base : Heap}
theorem ref_nd : (["thing", "tie", "wait", "untie", "drop", "group", "open", "want", "unwant"] : List Str).Nodup := by decide +kernel
theorem val_first {x : Str} {t : Tok} {a : Addr} {l : List Ent} : valueAt (((⟨x, t, a⟩ : Ent) :: l).map Ent.kv) (.inr x) = some (.ref a) := by simp [valueAt, Ent.kv]
theorem ar1 {us : List Value} (h : us.length = 1) : ∃ a, us = [a] := List.length_eq_one_iff.mp h
theorem ar2 {us : List Value} (h : us.length = 2) : ∃ a1 a2, us = [a1, a2] := by
  obtain ⟨a1, t, rfl⟩ := List.exists_cons_of_length_eq_add_one h
  obtain ⟨a2, rfl⟩ := ar1 (Nat.succ.inj h)
  exact ⟨a1, a2, rfl⟩
theorem ar3 {us : List Value} (h : us.length = 3) : ∃ a1 a2 a3, us = [a1, a2, a3] := by
  obtain ⟨a1, t, rfl⟩ := List.exists_cons_of_length_eq_add_one h
  obtain ⟨a2, a3, rfl⟩ := ar2 (Nat.succ.inj h)
  exact ⟨a1, a2, a3, rfl⟩
theorem all_mk {l : PySem.W.OpenLaw} {w : World} {K : PySem.W.Frag} {h : Heap} {mg : Str → Option Value} {fa f1 f2 f3 f4 f5 f6 f7 f8 f9 f10 f11 f12 f13 f14 f15 f16 f17 f18 f19 f20 f21 f22 f23 f24 f25 f26 f27 f28 f29 f30 f31 f32 f33 f34 f35 f36 f37 f38 f39 : Addr} (X : K.In h) (G : h.Ns mainGlobals mg) (hfa : mg "law" = some (.ref fa))
    {od1 an1 od2 an2 od3 an3 od4 an4 od5 an5 od6 an6 od7 an7 od8 an8 od9 an9 od10 an10 od11 an11 od12 an12 od13 an13 od14 an14 od15 an15 od16 an16 od17 an17 od18 an18 od19 an19 od20 an20 od21 an21 od22 an22 od23 an23 od24 an24 od25 an25 od26 an26 od27 an27 od28 an28 od29 an29 od30 an30 od31 an31 od32 an32 od33 an33 od34 an34 od35 an35 od36 an36 od37 an37 od38 an38 od39 an39 : Option Addr} {sl1 sl2 sl3 sl4 sl5 sl6 sl7 sl8 sl9 sl10 sl11 sl12 sl13 sl14 sl15 sl16 sl17 sl18 sl19 sl20 sl21 sl22 sl23 sl24 sl25 sl26 sl27 sl28 sl29 sl30 sl31 sl32 sl33 sl34 sl35 sl36 sl37 sl38 sl39 : Array (Option Value)} {oc1 kV1 dc1 pm1 cd1 ct1 oc2 kV2 dc2 pm2 cd2 ct2 oc3 kV3 dc3 pm3 cd3 ct3 oc4 kV4 dc4 pm4 cd4 ct4 oc5 kV5 dc5 pm5 cd5 ct5 oc6 kV6 dc6 pm6 cd6 ct6 oc7 kV7 dc7 pm7 cd7 ct7 oc8 kV8 dc8 pm8 cd8 ct8 oc9 kV9 dc9 pm9 cd9 ct9 oc10 kV10 dc10 pm10 cd10 ct10 oc11 kV11 dc11 pm11 cd11 ct11 oc12 kV12 dc12 pm12 cd12 ct12 oc13 kV13 dc13 pm13 cd13 ct13 oc14 kV14 dc14 pm14 cd14 ct14 oc15 kV15 dc15 pm15 cd15 ct15 oc16 kV16 dc16 pm16 cd16 ct16 oc17 kV17 dc17 pm17 cd17 ct17 oc18 kV18 dc18 pm18 cd18 ct18 oc19 kV19 dc19 pm19 cd19 ct19 oc20 kV20 dc20 pm20 cd20 ct20 oc21 kV21 dc21 pm21 cd21 ct21 oc22 kV22 dc22 pm22 cd22 ct22 oc23 kV23 dc23 pm23 cd23 ct23 oc24 kV24 dc24 pm24 cd24 ct24 oc25 kV25 dc25 pm25 cd25 ct25 oc26 kV26 dc26 pm26 cd26 ct26 oc27 kV27 dc27 pm27 cd27 ct27 oc28 kV28 dc28 pm28 cd28 ct28 oc29 kV29 dc29 pm29 cd29 ct29 oc30 kV30 dc30 pm30 cd30 ct30 oc31 kV31 dc31 pm31 cd31 ct31 oc32 kV32 dc32 pm32 cd32 ct32 oc33 kV33 dc33 pm33 cd33 ct33 oc34 kV34 dc34 pm34 cd34 ct34 oc35 kV35 dc35 pm35 cd35 ct35 oc36 kV36 dc36 pm36 cd36 ct36 oc37 kV37 dc37 pm37 cd37 ct37 oc38 kV38 dc38 pm38 cd38 ct38 oc39 kV39 dc39 pm39 cd39 ct39 : Value}
    (a1 : PySem.W.nsIn K mainGlobals "is_name" = some (some (.ref f1))) (l1 : K.lookup f1 = some ⟨oc1, od1, .func (PySem.W.fnOf "is_name" "is_name" (defArgs sIsName) (defBody sIsName) (defScope sIsName) .none kV1 dc1 pm1 an1 cd1 ct1), sl1⟩) (c1 : PySem.W.codeIn K cd1 "is_name" = true) (k1 : PySem.W.keepIn K (.ref f1) = true)
    (a2 : PySem.W.nsIn K mainGlobals "places_of" = some (some (.ref f2))) (l2 : K.lookup f2 = some ⟨oc2, od2, .func (PySem.W.fnOf "places_of" "places_of" (defArgs sPlaces) (defBody sPlaces) (defScope sPlaces) .none kV2 dc2 pm2 an2 cd2 ct2), sl2⟩) (c2 : PySem.W.codeIn K cd2 "places_of" = true) (k2 : PySem.W.keepIn K (.ref f2) = true)
    (a3 : PySem.W.nsIn K mainGlobals "are_unlike_names" = some (some (.ref f3))) (l3 : K.lookup f3 = some ⟨oc3, od3, .func (PySem.W.fnOf "are_unlike_names" "are_unlike_names" (defArgs sUNm) (defBody sUNm) (defScope sUNm) .none kV3 dc3 pm3 an3 cd3 ct3), sl3⟩) (c3 : PySem.W.codeIn K cd3 "are_unlike_names" = true) (k3 : PySem.W.keepIn K (.ref f3) = true)
    (a4 : PySem.W.nsIn K mainGlobals "are_unlike" = some (some (.ref f4))) (l4 : K.lookup f4 = some ⟨oc4, od4, .func (PySem.W.fnOf "are_unlike" "are_unlike" (defArgs sUnlike) (defBody sUnlike) (defScope sUnlike) .none kV4 dc4 pm4 an4 cd4 ct4), sl4⟩) (c4 : PySem.W.codeIn K cd4 "are_unlike" = true) (k4 : PySem.W.keepIn K (.ref f4) = true)
    (a5 : PySem.W.nsIn K mainGlobals "children" = some (some (.ref f5))) (l5 : K.lookup f5 = some ⟨oc5, od5, .func (PySem.W.fnOf "children" "children" (defArgs sChildren) (defBody sChildren) (defScope sChildren) .none kV5 dc5 pm5 an5 cd5 ct5), sl5⟩) (c5 : PySem.W.codeIn K cd5 "children" = true) (k5 : PySem.W.keepIn K (.ref f5) = true)
    (a6 : PySem.W.nsIn K mainGlobals "homes" = some (some (.ref f6))) (l6 : K.lookup f6 = some ⟨oc6, od6, .func (PySem.W.fnOf "homes" "homes" (defArgs sHomes) (defBody sHomes) (defScope sHomes) .none kV6 dc6 pm6 an6 cd6 ct6), sl6⟩) (c6 : PySem.W.codeIn K cd6 "homes" = true) (k6 : PySem.W.keepIn K (.ref f6) = true)
    (a7 : PySem.W.nsIn K mainGlobals "wanted" = some (some (.ref f7))) (l7 : K.lookup f7 = some ⟨oc7, od7, .func (PySem.W.fnOf "wanted" "wanted" (defArgs sWanted) (defBody sWanted) (defScope sWanted) .none kV7 dc7 pm7 an7 cd7 ct7), sl7⟩) (c7 : PySem.W.codeIn K cd7 "wanted" = true) (k7 : PySem.W.keepIn K (.ref f7) = true)
    (a8 : PySem.W.nsIn K mainGlobals "with_row" = some (some (.ref f8))) (l8 : K.lookup f8 = some ⟨oc8, od8, .func (PySem.W.fnOf "with_row" "with_row" (defArgs sWithRow) (defBody sWithRow) (defScope sWithRow) .none kV8 dc8 pm8 an8 cd8 ct8), sl8⟩) (c8 : PySem.W.codeIn K cd8 "with_row" = true) (k8 : PySem.W.keepIn K (.ref f8) = true)
    (a9 : PySem.W.nsIn K mainGlobals "with_thing" = some (some (.ref f9))) (l9 : K.lookup f9 = some ⟨oc9, od9, .func (PySem.W.fnOf "with_thing" "with_thing" (defArgs sWithThing) (defBody sWithThing) (defScope sWithThing) .none kV9 dc9 pm9 an9 cd9 ct9), sl9⟩) (c9 : PySem.W.codeIn K cd9 "with_thing" = true) (k9 : PySem.W.keepIn K (.ref f9) = true)
    (a10 : PySem.W.nsIn K mainGlobals "is_single" = some (some (.ref f10))) (l10 : K.lookup f10 = some ⟨oc10, od10, .func (PySem.W.fnOf "is_single" "is_single" (defArgs sIsSingle) (defBody sIsSingle) (defScope sIsSingle) .none kV10 dc10 pm10 an10 cd10 ct10), sl10⟩) (c10 : PySem.W.codeIn K cd10 "is_single" = true) (k10 : PySem.W.keepIn K (.ref f10) = true)
    (a11 : PySem.W.nsIn K mainGlobals "is_many" = some (some (.ref f11))) (l11 : K.lookup f11 = some ⟨oc11, od11, .func (PySem.W.fnOf "is_many" "is_many" (defArgs sIsMany) (defBody sIsMany) (defScope sIsMany) .none kV11 dc11 pm11 an11 cd11 ct11), sl11⟩) (c11 : PySem.W.codeIn K cd11 "is_many" = true) (k11 : PySem.W.keepIn K (.ref f11) = true)
    (a12 : PySem.W.nsIn K mainGlobals "has_word" = some (some (.ref f12))) (l12 : K.lookup f12 = some ⟨oc12, od12, .func (PySem.W.fnOf "has_word" "has_word" (defArgs sHasWord) (defBody sHasWord) (defScope sHasWord) .none kV12 dc12 pm12 an12 cd12 ct12), sl12⟩) (c12 : PySem.W.codeIn K cd12 "has_word" = true) (k12 : PySem.W.keepIn K (.ref f12) = true)
    (a13 : PySem.W.nsIn K mainGlobals "is_part" = some (some (.ref f13))) (l13 : K.lookup f13 = some ⟨oc13, od13, .func (PySem.W.fnOf "is_part" "is_part" (defArgs sIsPart) (defBody sIsPart) (defScope sIsPart) .none kV13 dc13 pm13 an13 cd13 ct13), sl13⟩) (c13 : PySem.W.codeIn K cd13 "is_part" = true) (k13 : PySem.W.keepIn K (.ref f13) = true)
    (a14 : PySem.W.nsIn K mainGlobals "refuse" = some (some (.ref f14))) (l14 : K.lookup f14 = some ⟨oc14, od14, .func (PySem.W.fnOf "refuse" "refuse" (defArgs sRefuse) (defBody sRefuse) (defScope sRefuse) .none kV14 dc14 pm14 an14 cd14 ct14), sl14⟩) (c14 : PySem.W.codeIn K cd14 "refuse" = true) (k14 : PySem.W.keepIn K (.ref f14) = true)
    (a15 : PySem.W.nsIn K mainGlobals "refuse_thing" = some (some (.ref f15))) (l15 : K.lookup f15 = some ⟨oc15, od15, .func (PySem.W.fnOf "refuse_thing" "refuse_thing" (defArgs sRefuseThing) (defBody sRefuseThing) (defScope sRefuseThing) .none kV15 dc15 pm15 an15 cd15 ct15), sl15⟩) (c15 : PySem.W.codeIn K cd15 "refuse_thing" = true) (k15 : PySem.W.keepIn K (.ref f15) = true)
    (a16 : PySem.W.nsIn K mainGlobals "need_new_name" = some (some (.ref f16))) (l16 : K.lookup f16 = some ⟨oc16, od16, .func (PySem.W.fnOf "need_new_name" "need_new_name" (defArgs sNeedNewName) (defBody sNeedNewName) (defScope sNeedNewName) .none kV16 dc16 pm16 an16 cd16 ct16), sl16⟩) (c16 : PySem.W.codeIn K cd16 "need_new_name" = true) (k16 : PySem.W.keepIn K (.ref f16) = true)
    (a17 : PySem.W.nsIn K mainGlobals "need_knot" = some (some (.ref f17))) (l17 : K.lookup f17 = some ⟨oc17, od17, .func (PySem.W.fnOf "need_knot" "need_knot" (defArgs sNeedKnot) (defBody sNeedKnot) (defScope sNeedKnot) .none kV17 dc17 pm17 an17 cd17 ct17), sl17⟩) (c17 : PySem.W.codeIn K cd17 "need_knot" = true) (k17 : PySem.W.keepIn K (.ref f17) = true)
    (a18 : PySem.W.nsIn K mainGlobals "need_room" = some (some (.ref f18))) (l18 : K.lookup f18 = some ⟨oc18, od18, .func (PySem.W.fnOf "need_room" "need_room" (defArgs sNeedRoom) (defBody sNeedRoom) (defScope sNeedRoom) .none kV18 dc18 pm18 an18 cd18 ct18), sl18⟩) (c18 : PySem.W.codeIn K cd18 "need_room" = true) (k18 : PySem.W.keepIn K (.ref f18) = true)
    (a19 : PySem.W.nsIn K mainGlobals "led_to" = some (some (.ref f19))) (l19 : K.lookup f19 = some ⟨oc19, od19, .func (PySem.W.fnOf "led_to" "led_to" (defArgs sLedTo) (defBody sLedTo) (defScope sLedTo) .none kV19 dc19 pm19 an19 cd19 ct19), sl19⟩) (c19 : PySem.W.codeIn K cd19 "led_to" = true) (k19 : PySem.W.keepIn K (.ref f19) = true)
    (a20 : PySem.W.nsIn K mainGlobals "lets_none_in" = some (some (.ref f20))) (l20 : K.lookup f20 = some ⟨oc20, od20, .func (PySem.W.fnOf "lets_none_in" "lets_none_in" (defArgs sLetsNoneIn) (defBody sLetsNoneIn) (defScope sLetsNoneIn) .none kV20 dc20 pm20 an20 cd20 ct20), sl20⟩) (c20 : PySem.W.codeIn K cd20 "lets_none_in" = true) (k20 : PySem.W.keepIn K (.ref f20) = true)
    (a21 : PySem.W.nsIn K mainGlobals "paper_of" = some (some (.ref f21))) (l21 : K.lookup f21 = some ⟨oc21, od21, .func (PySem.W.fnOf "paper_of" "paper_of" (defArgs sPaperOf) (defBody sPaperOf) (defScope sPaperOf) .none kV21 dc21 pm21 an21 cd21 ct21), sl21⟩) (c21 : PySem.W.codeIn K cd21 "paper_of" = true) (k21 : PySem.W.keepIn K (.ref f21) = true)
    (a22 : PySem.W.nsIn K mainGlobals "is_deed" = some (some (.ref f22))) (l22 : K.lookup f22 = some ⟨oc22, od22, .func (PySem.W.fnOf "is_deed" "is_deed" (defArgs sIsDeed) (defBody sIsDeed) (defScope sIsDeed) .none kV22 dc22 pm22 an22 cd22 ct22), sl22⟩) (c22 : PySem.W.codeIn K cd22 "is_deed" = true) (k22 : PySem.W.keepIn K (.ref f22) = true)
    (a23 : PySem.W.nsIn K mainGlobals "behind" = some (some (.ref f23))) (l23 : K.lookup f23 = some ⟨oc23, od23, .func (PySem.W.fnOf "behind" "behind" (defArgs sBehind) (defBody sBehind) (defScope sBehind) .none kV23 dc23 pm23 an23 cd23 ct23), sl23⟩) (c23 : PySem.W.codeIn K cd23 "behind" = true) (k23 : PySem.W.keepIn K (.ref f23) = true)
    (a24 : PySem.W.nsIn K mainGlobals "is_deed_within" = some (some (.ref f24))) (l24 : K.lookup f24 = some ⟨oc24, od24, .func (PySem.W.fnOf "is_deed_within" "is_deed_within" (defArgs sIsDeedWithin) (defBody sIsDeedWithin) (defScope sIsDeedWithin) .none kV24 dc24 pm24 an24 cd24 ct24), sl24⟩) (c24 : PySem.W.codeIn K cd24 "is_deed_within" = true) (k24 : PySem.W.keepIn K (.ref f24) = true)
    (a25 : PySem.W.nsIn K mainGlobals "singles" = some (some (.ref f25))) (l25 : K.lookup f25 = some ⟨oc25, od25, .func (PySem.W.fnOf "singles" "singles" (defArgs sSingles) (defBody sSingles) (defScope sSingles) .none kV25 dc25 pm25 an25 cd25 ct25), sl25⟩) (c25 : PySem.W.codeIn K cd25 "singles" = true) (k25 : PySem.W.keepIn K (.ref f25) = true)
    (a26 : PySem.W.nsIn K mainGlobals "behind_single" = some (some (.ref f26))) (l26 : K.lookup f26 = some ⟨oc26, od26, .func (PySem.W.fnOf "behind_single" "behind_single" (defArgs sBehindSingle) (defBody sBehindSingle) (defScope sBehindSingle) .none kV26 dc26 pm26 an26 cd26 ct26), sl26⟩) (c26 : PySem.W.codeIn K cd26 "behind_single" = true) (k26 : PySem.W.keepIn K (.ref f26) = true)
    (a27 : PySem.W.nsIn K mainGlobals "_law_pen" = some (some (.ref f27))) (l27 : K.lookup f27 = some ⟨oc27, od27, .func (PySem.W.fnOf "_law_pen" "_law_pen" (defArgs sPen) (defBody sPen) (defScope sPen) .none kV27 dc27 pm27 an27 cd27 ct27), sl27⟩) (c27 : PySem.W.codeIn K cd27 "_law_pen" = true) (k27 : PySem.W.keepIn K (.ref f27) = true)
    (a28 : PySem.W.nsIn K mainGlobals "_law_draw" = some (some (.ref f28))) (l28 : K.lookup f28 = some ⟨oc28, od28, .func (PySem.W.fnOf "_law_draw" "_law_draw" (defArgs sDraw) (defBody sDraw) (defScope sDraw) .none kV28 dc28 pm28 an28 cd28 ct28), sl28⟩) (c28 : PySem.W.codeIn K cd28 "_law_draw" = true) (k28 : PySem.W.keepIn K (.ref f28) = true)
    (a29 : PySem.W.nsIn K mainGlobals "_law_names" = some (some (.ref f29))) (l29 : K.lookup f29 = some ⟨oc29, od29, .func (PySem.W.fnOf "_law_names" "_law_names" (defArgs sNames) (defBody sNames) (defScope sNames) .none kV29 dc29 pm29 an29 cd29 ct29), sl29⟩) (c29 : PySem.W.codeIn K cd29 "_law_names" = true) (k29 : PySem.W.keepIn K (.ref f29) = true)
    (a30 : PySem.W.nsIn K mainGlobals "_law_knots" = some (some (.ref f30))) (l30 : K.lookup f30 = some ⟨oc30, od30, .func (PySem.W.fnOf "_law_knots" "_law_knots" (defArgs sLawKnots) (defBody sLawKnots) (defScope sLawKnots) .none kV30 dc30 pm30 an30 cd30 ct30), sl30⟩) (c30 : PySem.W.codeIn K cd30 "_law_knots" = true) (k30 : PySem.W.keepIn K (.ref f30) = true)
    (a31 : PySem.W.nsIn K mainGlobals "_law_line" = some (some (.ref f31))) (l31 : K.lookup f31 = some ⟨oc31, od31, .func (PySem.W.fnOf "_law_line" "_law_line" (defArgs sLawLine) (defBody sLawLine) (defScope sLawLine) .none kV31 dc31 pm31 an31 cd31 ct31), sl31⟩) (c31 : PySem.W.codeIn K cd31 "_law_line" = true) (k31 : PySem.W.keepIn K (.ref f31) = true)
    (a32 : PySem.W.nsIn K mainGlobals "_law_part" = some (some (.ref f32))) (l32 : K.lookup f32 = some ⟨oc32, od32, .func (PySem.W.fnOf "_law_part" "_law_part" (defArgs sLawPart) (defBody sLawPart) (defScope sLawPart) .none kV32 dc32 pm32 an32 cd32 ct32), sl32⟩) (c32 : PySem.W.codeIn K cd32 "_law_part" = true) (k32 : PySem.W.keepIn K (.ref f32) = true)
    (a33 : PySem.W.nsIn K mainGlobals "_law_edges" = some (some (.ref f33))) (l33 : K.lookup f33 = some ⟨oc33, od33, .func (PySem.W.fnOf "_law_edges" "_law_edges" (defArgs sLawEdges) (defBody sLawEdges) (defScope sLawEdges) .none kV33 dc33 pm33 an33 cd33 ct33), sl33⟩) (c33 : PySem.W.codeIn K cd33 "_law_edges" = true) (k33 : PySem.W.keepIn K (.ref f33) = true)
    (a34 : PySem.W.nsIn K mainGlobals "_law_reached" = some (some (.ref f34))) (l34 : K.lookup f34 = some ⟨oc34, od34, .func (PySem.W.fnOf "_law_reached" "_law_reached" (defArgs sReached) (defBody sReached) (defScope sReached) .none kV34 dc34 pm34 an34 cd34 ct34), sl34⟩) (c34 : PySem.W.codeIn K cd34 "_law_reached" = true) (k34 : PySem.W.keepIn K (.ref f34) = true)
    (a35 : PySem.W.nsIn K mainGlobals "_law_house" = some (some (.ref f35))) (l35 : K.lookup f35 = some ⟨oc35, od35, .func (PySem.W.fnOf "_law_house" "_law_house" (defArgs sLawHouse) (defBody sLawHouse) (defScope sLawHouse) .none kV35 dc35 pm35 an35 cd35 ct35), sl35⟩) (c35 : PySem.W.codeIn K cd35 "_law_house" = true) (k35 : PySem.W.keepIn K (.ref f35) = true)
    (a36 : PySem.W.nsIn K mainGlobals "_law_units" = some (some (.ref f36))) (l36 : K.lookup f36 = some ⟨oc36, od36, .func (PySem.W.fnOf "_law_units" "_law_units" (defArgs sLawUnits) (defBody sLawUnits) (defScope sLawUnits) .none kV36 dc36 pm36 an36 cd36 ct36), sl36⟩) (c36 : PySem.W.codeIn K cd36 "_law_units" = true) (k36 : PySem.W.keepIn K (.ref f36) = true)
    (a37 : PySem.W.nsIn K mainGlobals "_law_fresh" = some (some (.ref f37))) (l37 : K.lookup f37 = some ⟨oc37, od37, .func (PySem.W.fnOf "_law_fresh" "_law_fresh" (defArgs sLawFresh) (defBody sLawFresh) (defScope sLawFresh) .none kV37 dc37 pm37 an37 cd37 ct37), sl37⟩) (c37 : PySem.W.codeIn K cd37 "_law_fresh" = true) (k37 : PySem.W.keepIn K (.ref f37) = true)
    (a38 : PySem.W.nsIn K mainGlobals "_law_due" = some (some (.ref f38))) (l38 : K.lookup f38 = some ⟨oc38, od38, .func (PySem.W.fnOf "_law_due" "_law_due" (defArgs sDue) (defBody sDue) (defScope sDue) .none kV38 dc38 pm38 an38 cd38 ct38), sl38⟩) (c38 : PySem.W.codeIn K cd38 "_law_due" = true) (k38 : PySem.W.keepIn K (.ref f38) = true)
    (a39 : PySem.W.nsIn K mainGlobals "law" = some (some (.ref f39))) (l39 : K.lookup f39 = some ⟨oc39, od39, .func (PySem.W.fnOf "law" "law" (defArgs sLaw) (defBody sLaw) (defScope sLaw) .none kV39 dc39 pm39 an39 cd39 ct39), sl39⟩) (c39 : PySem.W.codeIn K cd39 "law" = true) (k39 : PySem.W.keepIn K (.ref f39) = true)
    (z1 : PySem.W.nsIn K mainGlobals "len" = some none) (z2 : PySem.W.nsIn K mainGlobals "range" = some none) (z3 : PySem.W.nsIn K mainGlobals "abs" = some none) (z4 : PySem.W.nsIn K mainGlobals "all" = some none) (z5 : PySem.W.nsIn K mainGlobals "repr" = some none) (z6 : PySem.W.nsIn K mainGlobals "isinstance" = some none) (z7 : PySem.W.nsIn K mainGlobals "str" = some none) (z8 : PySem.W.nsIn K mainGlobals "int" = some none) (z9 : PySem.W.nsIn K mainGlobals "bool" = some none) (z10 : PySem.W.nsIn K mainGlobals "enumerate" = some none) (z11 : PySem.W.nsIn K mainGlobals "list" = some none) (z12 : PySem.W.nsIn K mainGlobals "tuple" = some none) (z13 : PySem.W.nsIn K mainGlobals "dict" = some none) (z14 : PySem.W.nsIn K mainGlobals "min" = some none) (z15 : PySem.W.nsIn K mainGlobals "max" = some none) (z16 : PySem.W.nsIn K mainGlobals "zip" = some none)
    {tk1 : Tok} (y1 : PySem.W.nsIn K mainGlobals "MOST_SIGNS" = some (some (.int 8 tk1)))
    {tk2 : Tok} (y2 : PySem.W.nsIn K mainGlobals "MOST_MANY" = some (some (.int 2 tk2)))
    {tk3 : Tok} (y3 : PySem.W.nsIn K mainGlobals "MOST_UNITS" = some (some (.int 60 tk3)))
    {W : Addr} {odW : Option Addr} {tW1 tW2 : Tok} {nW : Nat} {slW : Array (Option Value)} (gW : PySem.W.nsIn K mainGlobals "WORDS" = some (some (.ref W))) (lW : K.lookup W = some ⟨.type "tuple", odW, .seq ([.str "first" tW1, .str "last" tW2] : List Value).toArray nW, slW⟩)
    {D0 : Addr} {epD : Nat} {tD1 tD2 tD3 tD4 tD5 tD6 tD7 tD8 tD9 : Tok} {sD1 sD2 sD3 sD4 sD5 sD6 sD7 sD8 sD9 : Addr} (gD : PySem.W.nsIn K mainGlobals "PARTS" = some (some (.ref D0))) (lD : K.lookup D0 = some ⟨.type "dict", none, .dict ([⟨PyData.keyHash w.params "thing", .str "thing" tD1, .ref sD1⟩, ⟨PyData.keyHash w.params "tie", .str "tie" tD2, .ref sD2⟩, ⟨PyData.keyHash w.params "wait", .str "wait" tD3, .ref sD3⟩, ⟨PyData.keyHash w.params "untie", .str "untie" tD4, .ref sD4⟩, ⟨PyData.keyHash w.params "drop", .str "drop" tD5, .ref sD5⟩, ⟨PyData.keyHash w.params "group", .str "group" tD6, .ref sD6⟩, ⟨PyData.keyHash w.params "open", .str "open" tD7, .ref sD7⟩, ⟨PyData.keyHash w.params "want", .str "want" tD8, .ref sD8⟩, ⟨PyData.keyHash w.params "unwant", .str "unwant" tD9, .ref sD9⟩] : List DictEntry).toArray epD, #[]⟩) (nD : (D0 == sysModules) = false)
    {oP1 : Option Addr} {uP1_0 uP1_1 : Tok} {nP1 : Nat} {lP1 : Array (Option Value)} (qP1 : K.lookup sD1 = some ⟨.type "tuple", oP1, .seq ([.str "name" uP1_0, .str "knot" uP1_1] : List Value).toArray nP1, lP1⟩)
    {oP2 : Option Addr} {uP2_0 uP2_1 : Tok} {nP2 : Nat} {lP2 : Array (Option Value)} (qP2 : K.lookup sD2 = some ⟨.type "tuple", oP2, .seq ([.str "name" uP2_0, .str "name" uP2_1] : List Value).toArray nP2, lP2⟩)
    {oP3 : Option Addr} {uP3_0 uP3_1 : Tok} {nP3 : Nat} {lP3 : Array (Option Value)} (qP3 : K.lookup sD3 = some ⟨.type "tuple", oP3, .seq ([.str "name" uP3_0, .str "name" uP3_1] : List Value).toArray nP3, lP3⟩)
    {oP4 : Option Addr} {uP4_0 uP4_1 : Tok} {nP4 : Nat} {lP4 : Array (Option Value)} (qP4 : K.lookup sD4 = some ⟨.type "tuple", oP4, .seq ([.str "name" uP4_0, .str "name" uP4_1] : List Value).toArray nP4, lP4⟩)
    {oP5 : Option Addr} {uP5_0 : Tok} {nP5 : Nat} {lP5 : Array (Option Value)} (qP5 : K.lookup sD5 = some ⟨.type "tuple", oP5, .seq ([.str "name" uP5_0] : List Value).toArray nP5, lP5⟩)
    {oP6 : Option Addr} {uP6_0 uP6_1 : Tok} {nP6 : Nat} {lP6 : Array (Option Value)} (qP6 : K.lookup sD6 = some ⟨.type "tuple", oP6, .seq ([.str "name" uP6_0, .str "members" uP6_1] : List Value).toArray nP6, lP6⟩)
    {oP7 : Option Addr} {uP7_0 : Tok} {nP7 : Nat} {lP7 : Array (Option Value)} (qP7 : K.lookup sD7 = some ⟨.type "tuple", oP7, .seq ([.str "name" uP7_0] : List Value).toArray nP7, lP7⟩)
    {oP8 : Option Addr} {uP8_0 uP8_1 : Tok} {nP8 : Nat} {lP8 : Array (Option Value)} (qP8 : K.lookup sD8 = some ⟨.type "tuple", oP8, .seq ([.str "word" uP8_0, .str "name" uP8_1] : List Value).toArray nP8, lP8⟩)
    {oP9 : Option Addr} {uP9_0 uP9_1 : Tok} {nP9 : Nat} {lP9 : Array (Option Value)} (qP9 : K.lookup sD9 = some ⟨.type "tuple", oP9, .seq ([.str "word" uP9_0, .str "name" uP9_1] : List Value).toArray nP9, lP9⟩)
    {DR : Addr} {epR : Nat} {tR1 tR2 tR3 tR4 tR5 tR6 tR7 tR8 tR9 : Tok} {rR2 rR4 rR5 rR6 rR7 rR8 rR9 : Addr} (gR : PySem.W.nsIn K mainGlobals "REFUSALS" = some (some (.ref DR))) (lR : K.lookup DR = some ⟨.type "dict", none, .dict ([⟨PyData.keyHash w.params "thing", .str "thing" tR1, .ref f15⟩, ⟨PyData.keyHash w.params "tie", .str "tie" tR2, .ref rR2⟩, ⟨PyData.keyHash w.params "wait", .str "wait" tR3, .ref rR2⟩, ⟨PyData.keyHash w.params "untie", .str "untie" tR4, .ref rR4⟩, ⟨PyData.keyHash w.params "drop", .str "drop" tR5, .ref rR5⟩, ⟨PyData.keyHash w.params "group", .str "group" tR6, .ref rR6⟩, ⟨PyData.keyHash w.params "open", .str "open" tR7, .ref rR7⟩, ⟨PyData.keyHash w.params "want", .str "want" tR8, .ref rR8⟩, ⟨PyData.keyHash w.params "unwant", .str "unwant" tR9, .ref rR9⟩] : List DictEntry).toArray epR, #[]⟩) (nR : (DR == sysModules) = false)
    : ∃ fd : FuncData, (∀ (s : Shared) (v : Value), BindsTo s fd ⟨[v], []⟩ [("_law_script", v)]) ∧ ∀ base : Heap, K.In base → base.Ns mainGlobals mg → FnOk l.prog w K mg base CX0 11 fa fd ["_law_script"] (spLaw K) := by
  have e := hfa.symm.trans (PySem.W.mg_of X G a39)
  cases e
  have B : Blt mg := ⟨PySem.W.mg_none_of X G z1, PySem.W.mg_none_of X G z2, PySem.W.mg_none_of X G z3, PySem.W.mg_none_of X G z4, PySem.W.mg_none_of X G z5, PySem.W.mg_none_of X G z6, PySem.W.mg_none_of X G z7, PySem.W.mg_none_of X G z8, PySem.W.mg_none_of X G z9, PySem.W.mg_none_of X G z10, PySem.W.mg_none_of X G z11, PySem.W.mg_none_of X G z12, PySem.W.mg_none_of X G z13, PySem.W.mg_none_of X G z14, PySem.W.mg_none_of X G z15⟩
  have Zzip := PySem.W.mg_none_of X G z16
  have TMOST_SIGNS := PySem.W.mg_of X G y1
  have TMOST_MANY := PySem.W.mg_of X G y2
  have TMOST_UNITS := PySem.W.mg_of X G y3
  have F1 := fun_mk (st := sIsName) l1 c1 k1
  have F2 := fun_mk (st := sPlaces) l2 c2 k2
  have F3 := fun_mk (st := sUNm) l3 c3 k3
  have F4 := fun_mk (st := sUnlike) l4 c4 k4
  have F5 := fun_mk (st := sChildren) l5 c5 k5
  have F6 := fun_mk (st := sHomes) l6 c6 k6
  have F7 := fun_mk (st := sWanted) l7 c7 k7
  have F8 := fun_mk (st := sWithRow) l8 c8 k8
  have F9 := fun_mk (st := sWithThing) l9 c9 k9
  have F10 := fun_mk (st := sIsSingle) l10 c10 k10
  have F11 := fun_mk (st := sIsMany) l11 c11 k11
  have F12 := fun_mk (st := sHasWord) l12 c12 k12
  have F13 := fun_mk (st := sIsPart) l13 c13 k13
  have F14 := fun_mk (st := sRefuse) l14 c14 k14
  have F15 := fun_mk (st := sRefuseThing) l15 c15 k15
  have F16 := fun_mk (st := sNeedNewName) l16 c16 k16
  have F17 := fun_mk (st := sNeedKnot) l17 c17 k17
  have F18 := fun_mk (st := sNeedRoom) l18 c18 k18
  have F19 := fun_mk (st := sLedTo) l19 c19 k19
  have F20 := fun_mk (st := sLetsNoneIn) l20 c20 k20
  have F21 := fun_mk (st := sPaperOf) l21 c21 k21
  have F22 := fun_mk (st := sIsDeed) l22 c22 k22
  have F23 := fun_mk (st := sBehind) l23 c23 k23
  have F24 := fun_mk (st := sIsDeedWithin) l24 c24 k24
  have F25 := fun_mk (st := sSingles) l25 c25 k25
  have F26 := fun_mk (st := sBehindSingle) l26 c26 k26
  have F27 := fun_mk (st := sPen) l27 c27 k27
  have F28 := fun_mk (st := sDraw) l28 c28 k28
  have F29 := fun_mk (st := sNames) l29 c29 k29
  have F30 := fun_mk (st := sLawKnots) l30 c30 k30
  have F31 := fun_mk (st := sLawLine) l31 c31 k31
  have F32 := fun_mk (st := sLawPart) l32 c32 k32
  have F33 := fun_mk (st := sLawEdges) l33 c33 k33
  have F34 := fun_mk (st := sReached) l34 c34 k34
  have F35 := fun_mk (st := sLawHouse) l35 c35 k35
  have F36 := fun_mk (st := sLawUnits) l36 c36 k36
  have F37 := fun_mk (st := sLawFresh) l37 c37 k37
  have F38 := fun_mk (st := sDue) l38 c38 k38
  have F39 := fun_mk (st := sLaw) l39 c39 k39
  have b1 := F1.binds (ps := ["thing"]) fun _ _ _ _ _ _ us hl => by obtain ⟨_, rfl⟩ := ar1 hl; rfl
  have b2 := F2.binds (ps := ["things"]) fun _ _ _ _ _ _ us hl => by obtain ⟨_, rfl⟩ := ar1 hl; rfl
  have b3 := F3.binds (ps := ["things"]) fun _ _ _ _ _ _ us hl => by obtain ⟨_, rfl⟩ := ar1 hl; rfl
  have b4 := F4.binds (ps := ["things"]) fun _ _ _ _ _ _ us hl => by obtain ⟨_, rfl⟩ := ar1 hl; rfl
  have b5 := F5.binds (ps := ["house", "knot"]) fun _ _ _ _ _ _ us hl => by obtain ⟨_, _, rfl⟩ := ar2 hl; rfl
  have b6 := F6.binds (ps := ["house"]) fun _ _ _ _ _ _ us hl => by obtain ⟨_, rfl⟩ := ar1 hl; rfl
  have b7 := F7.binds (ps := ["house", "row", "word"]) fun _ _ _ _ _ _ us hl => by obtain ⟨_, _, _, rfl⟩ := ar3 hl; rfl
  have b8 := F8.binds (ps := ["house", "knot", "row"]) fun _ _ _ _ _ _ us hl => by obtain ⟨_, _, _, rfl⟩ := ar3 hl; rfl
  have b9 := F9.binds (ps := ["house", "name", "knot"]) fun _ _ _ _ _ _ us hl => by obtain ⟨_, _, _, rfl⟩ := ar3 hl; rfl
  have b10 := F10.binds (ps := ["thing"]) fun _ _ _ _ _ _ us hl => by obtain ⟨_, rfl⟩ := ar1 hl; rfl
  have b11 := F11.binds (ps := ["thing"]) fun _ _ _ _ _ _ us hl => by obtain ⟨_, rfl⟩ := ar1 hl; rfl
  have b12 := F12.binds (ps := ["thing"]) fun _ _ _ _ _ _ us hl => by obtain ⟨_, rfl⟩ := ar1 hl; rfl
  have b13 := F13.binds (ps := ["sort", "part"]) fun _ _ _ _ _ _ us hl => by obtain ⟨_, _, rfl⟩ := ar2 hl; rfl
  have b14 := F14.binds (ps := ["house", "deed"]) fun _ _ _ _ _ _ us hl => by obtain ⟨_, _, rfl⟩ := ar2 hl; rfl
  have b15 := F15.binds (ps := ["house", "deed"]) fun _ _ _ _ _ _ us hl => by obtain ⟨_, _, rfl⟩ := ar2 hl; rfl
  have b16 := F16.binds (ps := ["house", "name"]) fun _ _ _ _ _ _ us hl => by obtain ⟨_, _, rfl⟩ := ar2 hl; rfl
  have b17 := F17.binds (ps := ["house", "knot"]) fun _ _ _ _ _ _ us hl => by obtain ⟨_, _, rfl⟩ := ar2 hl; rfl
  have b18 := F18.binds (ps := ["house"]) fun _ _ _ _ _ _ us hl => by obtain ⟨_, rfl⟩ := ar1 hl; rfl
  have b19 := F19.binds (ps := ["house", "deed", "paper"]) fun _ _ _ _ _ _ us hl => by obtain ⟨_, _, _, rfl⟩ := ar3 hl; rfl
  have b20 := F20.binds (ps := ["house", "deed"]) fun _ _ _ _ _ _ us hl => by obtain ⟨_, _, rfl⟩ := ar2 hl; rfl
  have b21 := F21.binds (ps := ["house", "deed"]) fun _ _ _ _ _ _ us hl => by obtain ⟨_, _, rfl⟩ := ar2 hl; rfl
  have b22 := F22.binds (ps := ["thing"]) fun _ _ _ _ _ _ us hl => by obtain ⟨_, rfl⟩ := ar1 hl; rfl
  have b23 := F23.binds (ps := ["house", "deed"]) fun _ _ _ _ _ _ us hl => by obtain ⟨_, _, rfl⟩ := ar2 hl; rfl
  have b24 := F24.binds (ps := ["thing", "many"]) fun _ _ _ _ _ _ us hl => by obtain ⟨_, _, rfl⟩ := ar2 hl; rfl
  have b25 := F25.binds (ps := ["deed"]) fun _ _ _ _ _ _ us hl => by obtain ⟨_, rfl⟩ := ar1 hl; rfl
  have b26 := F26.binds (ps := ["house", "deed"]) fun _ _ _ _ _ _ us hl => by obtain ⟨_, _, rfl⟩ := ar2 hl; rfl
  have b27 := F27.binds (ps := ["_law_script"]) fun _ _ _ _ _ _ us hl => by obtain ⟨_, rfl⟩ := ar1 hl; rfl
  have b28 := F28.binds (ps := ["_law_pen_here", "_law_many"]) fun _ _ _ _ _ _ us hl => by obtain ⟨_, _, rfl⟩ := ar2 hl; rfl
  have b29 := F29.binds (ps := ["_law_pen_here", "_law_many"]) fun _ _ _ _ _ _ us hl => by obtain ⟨_, _, rfl⟩ := ar2 hl; rfl
  have b30 := F30.binds (ps := ["_law_pen_here", "_law_names_here"]) fun _ _ _ _ _ _ us hl => by obtain ⟨_, _, rfl⟩ := ar2 hl; rfl
  have b31 := F31.binds (ps := ["_law_knots_here", "_law_unit"]) fun _ _ _ _ _ _ us hl => by obtain ⟨_, _, rfl⟩ := ar2 hl; rfl
  have b32 := F32.binds (ps := ["_law_knots_here", "_law_one", "_law_other"]) fun _ _ _ _ _ _ us hl => by obtain ⟨_, _, _, rfl⟩ := ar3 hl; rfl
  have b33 := F33.binds (ps := ["_law_house_here", "_law_knot"]) fun _ _ _ _ _ _ us hl => by obtain ⟨_, _, rfl⟩ := ar2 hl; rfl
  have b34 := F34.binds (ps := ["_law_edges_here", "_law_one"]) fun _ _ _ _ _ _ us hl => by obtain ⟨_, _, rfl⟩ := ar2 hl; rfl
  have b35 := F35.binds (ps := ["_law_pen_here", "_law_most"]) fun _ _ _ _ _ _ us hl => by obtain ⟨_, _, rfl⟩ := ar2 hl; rfl
  have b36 := F36.binds (ps := ["_law_house_here"]) fun _ _ _ _ _ _ us hl => by obtain ⟨_, rfl⟩ := ar1 hl; rfl
  have b37 := F37.binds (ps := ["_law_pen_here", "_law_house_here"]) fun _ _ _ _ _ _ us hl => by obtain ⟨_, _, rfl⟩ := ar2 hl; rfl
  have b38 := F38.binds (ps := ["_law_house_here", "_law_name", "_law_knot"]) fun _ _ _ _ _ _ us hl => by obtain ⟨_, _, _, rfl⟩ := ar3 hl; rfl
  refine ⟨PySem.W.fnOf "law" "law" (defArgs sLaw) (defBody sLaw) (defScope sLaw) .none kV39 dc39 pm39 an39 cd39 ct39, fun s v => .of_eq rfl, fun base XB GB => ?_⟩
  have KW := sq_lit (xs := [V.str "first", V.str "last"]) lW (Nat.le_of_ble_eq_true rfl) (.cons ⟨_, rfl⟩ (.cons ⟨_, rfl⟩ .nil))
  have TW := PySem.W.mg_of X G gW
  have TP := PySem.W.mg_of X G gD
  have PP : PK l.prog w K D0 _ := pk_mk [⟨"thing", tD1, sD1⟩, ⟨"tie", tD2, sD2⟩, ⟨"wait", tD3, sD3⟩, ⟨"untie", tD4, sD4⟩, ⟨"drop", tD5, sD5⟩, ⟨"group", tD6, sD6⟩, ⟨"open", tD7, sD7⟩, ⟨"want", tD8, sD8⟩, ⟨"unwant", tD9, sD9⟩] lD nD rfl (.cons (sq_lit qP1 (Nat.le_of_ble_eq_true rfl) (.cons ⟨_, rfl⟩ (.cons ⟨_, rfl⟩ .nil))) (.cons (sq_lit qP2 (Nat.le_of_ble_eq_true rfl) (.cons ⟨_, rfl⟩ (.cons ⟨_, rfl⟩ .nil))) (.cons (sq_lit qP3 (Nat.le_of_ble_eq_true rfl) (.cons ⟨_, rfl⟩ (.cons ⟨_, rfl⟩ .nil))) (.cons (sq_lit qP4 (Nat.le_of_ble_eq_true rfl) (.cons ⟨_, rfl⟩ (.cons ⟨_, rfl⟩ .nil))) (.cons (sq_lit qP5 (Nat.le_of_ble_eq_true rfl) (.cons ⟨_, rfl⟩ .nil)) (.cons (sq_lit qP6 (Nat.le_of_ble_eq_true rfl) (.cons ⟨_, rfl⟩ (.cons ⟨_, rfl⟩ .nil))) (.cons (sq_lit qP7 (Nat.le_of_ble_eq_true rfl) (.cons ⟨_, rfl⟩ .nil)) (.cons (sq_lit qP8 (Nat.le_of_ble_eq_true rfl) (.cons ⟨_, rfl⟩ (.cons ⟨_, rfl⟩ .nil))) (.cons (sq_lit qP9 (Nat.le_of_ble_eq_true rfl) (.cons ⟨_, rfl⟩ (.cons ⟨_, rfl⟩ .nil))) .nil)))))))))
  have TR := PySem.W.mg_of X G gR
  have KR : KD l.prog w K DR _ := kd_lit [⟨"thing", tR1, f15⟩, ⟨"tie", tR2, rR2⟩, ⟨"wait", tR3, rR2⟩, ⟨"untie", tR4, rR4⟩, ⟨"drop", tR5, rR5⟩, ⟨"group", tR6, rR6⟩, ⟨"open", tR7, rR7⟩, ⟨"want", tR8, rR8⟩, ⟨"unwant", tR9, rR9⟩] lR nR ref_nd
  have c__law_pen : Cal l.prog w K mg base 1 "_law_pen" ["_law_script"] (spPenD K) := ⟨_, _, ok_pen F27 B, PySem.W.mg_of X G a27, k27, b27⟩
  have c__law_draw : Cal l.prog w K mg base 1 "_law_draw" ["_law_pen_here", "_law_many"] (spDrw K) := ⟨_, _, ok_draw F28 B, PySem.W.mg_of X G a28, k28, b28⟩
  have c_places_of : Cal l.prog w K mg base 1 "places_of" ["things"] spPlacesX := ⟨_, _, ok_placesX F2 B, PySem.W.mg_of X G a2, k2, b2⟩
  have c_is_name : Cal l.prog w K mg base 1 "is_name" ["thing"] spIsName := ⟨_, _, ok_isname F1 B TMOST_SIGNS, PySem.W.mg_of X G a1, k1, b1⟩
  have c_are_unlike : Cal l.prog w K mg base 2 "are_unlike" ["things"] spUnlike := ⟨_, _, ok_unlike F4 B c_places_of, PySem.W.mg_of X G a4, k4, b4⟩
  have c_are_unlike_names : Cal l.prog w K mg base 3 "are_unlike_names" ["things"] spUNmG := ⟨_, _, ok_unmG F3 B c_is_name c_are_unlike, PySem.W.mg_of X G a3, k3, b3⟩
  have c_has_word : Cal l.prog w K mg base 1 "has_word" ["thing"] spHW := ⟨_, _, ok_hw F12 B, PySem.W.mg_of X G a12, k12, b12⟩
  have c_is_many : Cal l.prog w K mg base 2 "is_many" ["thing"] spIM := ⟨_, _, ok_im F11 B c_has_word, PySem.W.mg_of X G a11, k11, b11⟩
  have c_is_part : Cal l.prog w K mg base 4 "is_part" ["sort", "part"] spPart := ⟨_, _, ok_part F13 B TW KW c_are_unlike_names c_is_name, PySem.W.mg_of X G a13, k13, b13⟩
  have c_is_single : Cal l.prog w K mg base 5 "is_single" ["thing"] spSing := ⟨_, _, ok_sing F10 B Zzip TP PP c_has_word c_is_part, PySem.W.mg_of X G a10, k10, b10⟩
  have c_is_deed_within : Cal l.prog w K mg base 8 "is_deed_within" ["thing", "many"] (spDW 2) := ⟨_, _, ok_dw F24 B c_is_many c_is_single (fun _ _ o => ⟨_, _, o, PySem.W.mg_of X G a24, k24, b24⟩) 2, PySem.W.mg_of X G a24, k24, b24⟩
  have c_is_deed : Cal l.prog w K mg base 9 "is_deed" ["thing"] spDeed := ⟨_, _, ok_deed F22 B TMOST_MANY c_is_deed_within, PySem.W.mg_of X G a22, k22, b22⟩
  have c_homes : Cal l.prog w K mg base 1 "homes" ["house"] spHomes := ⟨_, _, ok_homes F6 B, PySem.W.mg_of X G a6, k6, b6⟩
  have c_children : Cal l.prog w K mg base 1 "children" ["house", "knot"] spChildren := ⟨_, _, ok_children F5 B, PySem.W.mg_of X G a5, k5, b5⟩
  have c_wanted : Cal l.prog w K mg base 1 "wanted" ["house", "row", "word"] spWanted := ⟨_, _, ok_wanted F7 B, PySem.W.mg_of X G a7, k7, b7⟩
  have c_with_row : Cal l.prog w K mg base 1 "with_row" ["house", "knot", "row"] spWithRow := ⟨_, _, ok_with_row F8 B, PySem.W.mg_of X G a8, k8, b8⟩
  have c_with_thing : Cal l.prog w K mg base 2 "with_thing" ["house", "name", "knot"] spWithThing := ⟨_, _, ok_with_thing F9 B c_children c_wanted c_with_row, PySem.W.mg_of X G a9, k9, b9⟩
  have c_need_new_name : Cal l.prog w K mg base 2 "need_new_name" ["house", "name"] spNewName := ⟨_, _, ok_new_name F16 B c_homes, PySem.W.mg_of X G a16, k16, b16⟩
  have c_need_knot : Cal l.prog w K mg base 1 "need_knot" ["house", "knot"] spNeedKnot := ⟨_, _, ok_need_knot F17 B, PySem.W.mg_of X G a17, k17, b17⟩
  have c_need_room : Cal l.prog w K mg base 2 "need_room" ["house"] spNeedRoom := ⟨_, _, ok_need_room F18 B TMOST_UNITS c_homes, PySem.W.mg_of X G a18, k18, b18⟩
  have c_refuse_thing : Cal l.prog w K mg base 3 "refuse_thing" ["house", "deed"] spRefThing := ⟨_, _, ok_ref_thing F15 B c_need_new_name c_need_knot c_need_room, PySem.W.mg_of X G a15, k15, b15⟩
  have c_refuse : Cal l.prog w K mg base 4 "refuse" ["house", "deed"] spRefuse := ⟨_, _, ok_refuse F14 B TR KR val_first k15 (ok_ref_thing F15 B c_need_new_name c_need_knot c_need_room) b15, PySem.W.mg_of X G a14, k14, b14⟩
  have c_lets_none_in : Cal l.prog w K mg base 1 "lets_none_in" ["house", "deed"] spNoneIn := ⟨_, _, ok_none_in F20 B, PySem.W.mg_of X G a20, k20, b20⟩
  have c_paper_of : Cal l.prog w K mg base 6 "paper_of" ["house", "deed"] spPaper := ⟨_, _, ok_paper F21 B c_is_single c_refuse c_lets_none_in, PySem.W.mg_of X G a21, k21, b21⟩
  have c_led_to : Cal l.prog w K mg base 3 "led_to" ["house", "deed", "paper"] spLed := ⟨_, _, ok_led F19 B c_with_thing, PySem.W.mg_of X G a19, k19, b19⟩
  have c_singles : Cal l.prog w K mg base 1 "singles" ["deed"] spSingles := ⟨_, _, ok_singles F25 B, PySem.W.mg_of X G a25, k25, b25⟩
  have c_behind_single : Cal l.prog w K mg base 7 "behind_single" ["house", "deed"] spBehS := ⟨_, _, ok_behS F26 B c_paper_of c_led_to, PySem.W.mg_of X G a26, k26, b26⟩
  have c_behind : Cal l.prog w K mg base 10 "behind" ["house", "deed"] spBehS := ⟨_, _, ok_behT F23 B c_is_deed c_singles c_behind_single, PySem.W.mg_of X G a23, k23, b23⟩
  have c__law_names : Cal l.prog w K mg base 2 "_law_names" ["_law_pen_here", "_law_many"] (spNames K) := ⟨_, _, ok_names F29 B c__law_draw, PySem.W.mg_of X G a29, k29, b29⟩
  have c__law_knots : Cal l.prog w K mg base 2 "_law_knots" ["_law_pen_here", "_law_names_here"] (spKnots K) := ⟨_, _, ok_knots F30 B c__law_draw, PySem.W.mg_of X G a30, k30, b30⟩
  have c__law_line : Cal l.prog w K mg base 1 "_law_line" ["_law_knots_here", "_law_unit"] (spLine fun ks u => tp (lin ks u)) := ⟨_, _, ok_line F31 B, PySem.W.mg_of X G a31, k31, b31⟩
  have c__law_part : Cal l.prog w K mg base 2 "_law_part" ["_law_knots_here", "_law_one", "_law_other"] spLPart := ⟨_, _, ok_lpart F32 B c__law_line, PySem.W.mg_of X G a32, k32, b32⟩
  have c__law_reached : Cal l.prog w K mg base 1 "_law_reached" ["_law_edges_here", "_law_one"] spReachL := ⟨_, _, ok_reachL F34 B, PySem.W.mg_of X G a34, k34, b34⟩
  have c__law_edges : Cal l.prog w K mg base 3 "_law_edges" ["_law_house_here", "_law_knot"] spEdg := ⟨_, _, ok_edg F33 B c__law_part, PySem.W.mg_of X G a33, k33, b33⟩
  have c__law_house : Cal l.prog w K mg base 4 "_law_house" ["_law_pen_here", "_law_most"] (spHouse K) := ⟨_, _, ok_house F35 B c__law_draw c__law_names c__law_knots c__law_part c__law_edges c__law_reached, PySem.W.mg_of X G a35, k35, b35⟩
  have c__law_units : Cal l.prog w K mg base 1 "_law_units" ["_law_house_here"] spUnits := ⟨_, _, ok_units F36 B, PySem.W.mg_of X G a36, k36, b36⟩
  have c__law_fresh : Cal l.prog w K mg base 2 "_law_fresh" ["_law_pen_here", "_law_house_here"] (spFresh K) := ⟨_, _, ok_fresh F37 B c__law_draw c__law_units, PySem.W.mg_of X G a37, k37, b37⟩
  have c__law_due : Cal l.prog w K mg base 1 "_law_due" ["_law_house_here", "_law_name", "_law_knot"] spDue := ⟨_, _, ok_due F38 B, PySem.W.mg_of X G a38, k38, b38⟩
  exact ok_law F39 B c__law_pen c__law_draw c__law_house c__law_fresh c__law_due c_behind
theorem walk {l : PySem.W.OpenLaw} {q : Program} {loose : List Str} {XP : (Str → Option Value) → Heap → Prop} {YP : World → Heap → Prop} {d : DefRec} {K : Params → PySem.W.Frag} (hn : l.most = some 63) (hdf : d.params.defaults = [])
    (hY : ∀ (w : World) (h : Heap), YP w h → (K w.params).In h)
    (F : ∀ (w : World) (mg : Str → Option Value) (fa : Addr) (h : Heap), (K w.params).In h → h.Ns mainGlobals mg → mg d.name = some (.ref fa) →
      ∃ fd : FuncData, (∀ (s : Shared) (u : Value), BindsTo s fd ⟨[u], []⟩ [("_law_script", u)]) ∧ ∀ base : Heap, (K w.params).In base → base.Ns mainGlobals mg → FnOk l.prog w (K w.params) mg base CX0 11 fa fd ["_law_script"] (spLaw (K w.params))) :
    PySem.W.WalkO q loose XP YP l.row.toRowW d [] (fun f vs => PySem.call f vs) :=
  L2.walk_of (n := 63) (k := 11) (x := "_law_script") (CX := fun _ => CX0) (sp := fun w => spLaw (K w.params)) hn (by decide) hdf ⟨rfl, by decide, by decide, rfl⟩ hY F (fun _ _ a ns hl _ hS => ⟨a, ns, rfl, hS, fun _ => rfl⟩) fun _ _ _ _ _ z => z
end
end K47
open PySem PySem.W PyProof.Rows
set_option maxRecDepth 100000 in
set_option maxHeartbeats 0 in
theorem PySem.Challenge.cw_orderkeep_k47_new_things_holds : PySem.Challenge.rw_orderkeep_k47_new_things.Holds := by
  w_on; o_law; k_head; (case hw => w_witness2)
  k_fill
  refine K47.walk (l := PySem.Challenge.rw_orderkeep_k47_new_things) rfl rfl (fun w h Y => PySem.W.km_in_of Y) ?F
  case F =>
    intro w mg fa h KX G hmg
    refine' K47.all_mk KX G hmg ?a1 ?l1 ?c1 ?k1 ?a2 ?l2 ?c2 ?k2 ?a3 ?l3 ?c3 ?k3 ?a4 ?l4 ?c4 ?k4 ?a5 ?l5 ?c5 ?k5 ?a6 ?l6 ?c6 ?k6 ?a7 ?l7 ?c7 ?k7 ?a8 ?l8 ?c8 ?k8 ?a9 ?l9 ?c9 ?k9 ?a10 ?l10 ?c10 ?k10 ?a11 ?l11 ?c11 ?k11 ?a12 ?l12 ?c12 ?k12 ?a13 ?l13 ?c13 ?k13 ?a14 ?l14 ?c14 ?k14 ?a15 ?l15 ?c15 ?k15 ?a16 ?l16 ?c16 ?k16 ?a17 ?l17 ?c17 ?k17 ?a18 ?l18 ?c18 ?k18 ?a19 ?l19 ?c19 ?k19 ?a20 ?l20 ?c20 ?k20 ?a21 ?l21 ?c21 ?k21 ?a22 ?l22 ?c22 ?k22 ?a23 ?l23 ?c23 ?k23 ?a24 ?l24 ?c24 ?k24 ?a25 ?l25 ?c25 ?k25 ?a26 ?l26 ?c26 ?k26 ?a27 ?l27 ?c27 ?k27 ?a28 ?l28 ?c28 ?k28 ?a29 ?l29 ?c29 ?k29 ?a30 ?l30 ?c30 ?k30 ?a31 ?l31 ?c31 ?k31 ?a32 ?l32 ?c32 ?k32 ?a33 ?l33 ?c33 ?k33 ?a34 ?l34 ?c34 ?k34 ?a35 ?l35 ?c35 ?k35 ?a36 ?l36 ?c36 ?k36 ?a37 ?l37 ?c37 ?k37 ?a38 ?l38 ?c38 ?k38 ?a39 ?l39 ?c39 ?k39 ?z1 ?z2 ?z3 ?z4 ?z5 ?z6 ?z7 ?z8 ?z9 ?z10 ?z11 ?z12 ?z13 ?z14 ?z15 ?z16 ?y1 ?y2 ?y3 ?gW ?lW ?gD ?lD ?nD ?qP1 ?qP2 ?qP3 ?qP4 ?qP5 ?qP6 ?qP7 ?qP8 ?qP9 ?gR ?lR ?nR
    (case a1 => k_is)
    (case l1 => k_is)
    (case c1 => k_is)
    (case k1 => k_is)
    (case a2 => k_is)
    (case l2 => k_is)
    (case c2 => k_is)
    (case k2 => k_is)
    (case a3 => k_is)
    (case l3 => k_is)
    (case c3 => k_is)
    (case k3 => k_is)
    (case a4 => k_is)
    (case l4 => k_is)
    (case c4 => k_is)
    (case k4 => k_is)
    (case a5 => k_is)
    (case l5 => k_is)
    (case c5 => k_is)
    (case k5 => k_is)
    (case a6 => k_is)
    (case l6 => k_is)
    (case c6 => k_is)
    (case k6 => k_is)
    (case a7 => k_is)
    (case l7 => k_is)
    (case c7 => k_is)
    (case k7 => k_is)
    (case a8 => k_is)
    (case l8 => k_is)
    (case c8 => k_is)
    (case k8 => k_is)
    (case a9 => k_is)
    (case l9 => k_is)
    (case c9 => k_is)
    (case k9 => k_is)
    (case a10 => k_is)
    (case l10 => k_is)
    (case c10 => k_is)
    (case k10 => k_is)
    (case a11 => k_is)
    (case l11 => k_is)
    (case c11 => k_is)
    (case k11 => k_is)
    (case a12 => k_is)
    (case l12 => k_is)
    (case c12 => k_is)
    (case k12 => k_is)
    (case a13 => k_is)
    (case l13 => k_is)
    (case c13 => k_is)
    (case k13 => k_is)
    (case a14 => k_is)
    (case l14 => k_is)
    (case c14 => k_is)
    (case k14 => k_is)
    (case a15 => k_is)
    (case l15 => k_is)
    (case c15 => k_is)
    (case k15 => k_is)
    (case a16 => k_is)
    (case l16 => k_is)
    (case c16 => k_is)
    (case k16 => k_is)
    (case a17 => k_is)
    (case l17 => k_is)
    (case c17 => k_is)
    (case k17 => k_is)
    (case a18 => k_is)
    (case l18 => k_is)
    (case c18 => k_is)
    (case k18 => k_is)
    (case a19 => k_is)
    (case l19 => k_is)
    (case c19 => k_is)
    (case k19 => k_is)
    (case a20 => k_is)
    (case l20 => k_is)
    (case c20 => k_is)
    (case k20 => k_is)
    (case a21 => k_is)
    (case l21 => k_is)
    (case c21 => k_is)
    (case k21 => k_is)
    (case a22 => k_is)
    (case l22 => k_is)
    (case c22 => k_is)
    (case k22 => k_is)
    (case a23 => k_is)
    (case l23 => k_is)
    (case c23 => k_is)
    (case k23 => k_is)
    (case a24 => k_is)
    (case l24 => k_is)
    (case c24 => k_is)
    (case k24 => k_is)
    (case a25 => k_is)
    (case l25 => k_is)
    (case c25 => k_is)
    (case k25 => k_is)
    (case a26 => k_is)
    (case l26 => k_is)
    (case c26 => k_is)
    (case k26 => k_is)
    (case a27 => k_is)
    (case l27 => k_is)
    (case c27 => k_is)
    (case k27 => k_is)
    (case a28 => k_is)
    (case l28 => k_is)
    (case c28 => k_is)
    (case k28 => k_is)
    (case a29 => k_is)
    (case l29 => k_is)
    (case c29 => k_is)
    (case k29 => k_is)
    (case a30 => k_is)
    (case l30 => k_is)
    (case c30 => k_is)
    (case k30 => k_is)
    (case a31 => k_is)
    (case l31 => k_is)
    (case c31 => k_is)
    (case k31 => k_is)
    (case a32 => k_is)
    (case l32 => k_is)
    (case c32 => k_is)
    (case k32 => k_is)
    (case a33 => k_is)
    (case l33 => k_is)
    (case c33 => k_is)
    (case k33 => k_is)
    (case a34 => k_is)
    (case l34 => k_is)
    (case c34 => k_is)
    (case k34 => k_is)
    (case a35 => k_is)
    (case l35 => k_is)
    (case c35 => k_is)
    (case k35 => k_is)
    (case a36 => k_is)
    (case l36 => k_is)
    (case c36 => k_is)
    (case k36 => k_is)
    (case a37 => k_is)
    (case l37 => k_is)
    (case c37 => k_is)
    (case k37 => k_is)
    (case a38 => k_is)
    (case l38 => k_is)
    (case c38 => k_is)
    (case k38 => k_is)
    (case a39 => k_is)
    (case l39 => k_is)
    (case c39 => k_is)
    (case k39 => k_is)
    (case z1 => k_is)
    (case z2 => k_is)
    (case z3 => k_is)
    (case z4 => k_is)
    (case z5 => k_is)
    (case z6 => k_is)
    (case z7 => k_is)
    (case z8 => k_is)
    (case z9 => k_is)
    (case z10 => k_is)
    (case z11 => k_is)
    (case z12 => k_is)
    (case z13 => k_is)
    (case z14 => k_is)
    (case z15 => k_is)
    (case z16 => k_is)
    (case y1 => k_is)
    (case y2 => k_is)
    (case y3 => k_is)
    (case gW => k_is)
    (case lW => k_is)
    (case gD => k_is)
    (case lD => k_is)
    (case nD => exact rfl)
    (case qP1 => k_is)
    (case qP2 => k_is)
    (case qP3 => k_is)
    (case qP4 => k_is)
    (case qP5 => k_is)
    (case qP6 => k_is)
    (case qP7 => k_is)
    (case qP8 => k_is)
    (case qP9 => k_is)
    (case gR => k_is)
    (case lR => k_is)
    (case nR => exact rfl)