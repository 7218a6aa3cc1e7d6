import PyProof.Rows.All
import Wide.All
import OpenK.AllK
import Wide.FinOn
import Lean
import PyProof.EqAt
import PyProof.EqKinds
import PyProof.TupleCall
import PyProof.Rows.SumAny
import PyProof.StationsW
import PyProof.ExcClass3
import OpenK.KOwn
import KE.KTryDeep
import KE.KIsAll
import PyProof.ExcAttrAll.ValueError
import PyProof.ExcBaseAll.ValueError
import PyProof.InstStoreFacts
import PyProof.RulesTry
import PyProof.Rows.SortStr
import PyProof.TupleOfSeq
import KE.KxWritten
import PyProof.Conv_bool
import KE.KStrOpen
import PyProof.Rows.FStr
import PyProof.SetRoads
import PyProof.DictKinds
import PyProof.Rows.Range3
import PyProof.FactsAll.tuple_2
import PyProof.CollectIter
import PyProof.TupleOfGen
import PyProof.AttrMissHeap
import KE.KDictOf
import PyProof.StrOps2
import PyProof.DictWalks
import KE.KDictList
import PyProof.Rows.ZipGen
import PySem.Challenge.RW_orderkeep_k49_ties_that_wait
namespace PySem.W.Fast
def tw16520883380323796495:=0
def tw9584273570130509421:=0
def tw10897715748281067073:=0
def tw7235022000492798610:=0
def tw15865980855478481625:=0
def tw7736546092718049656:=0
def tw6113714347543794826:=0
def tw6741539550899238909:=0
def tw2033113212175582690:=0
def tw9725747149641954108:=0
def tw12361498392848650876:=0
def tw6157921486742823583:=0
def tw13559467248433615951:=0
def tw6684897873738627235:=0
def tw5093114541562719428:=0
def tw13329441550290580728:=0
def tw10852119547001557133:=0
def tw3298922725294893660:=0
def tw12305015436586608647:=0
def tw10253582836091781895:=0
def tw8223798718695430294:=0
def tw4885282359080109288:=0
def tw3871174380598311567:=0
def tw7104903792809182873:=0
def tw14383170146036782981:=0
def tw9818454083905740157:=0
def tw11780953219225567228:=0
def tw11140462808077873482:=0
def tw13509243410973399793:=0
def tw18290693357029344783:=0
def tw7138245927524085989:=0
def tw1994234579079964233:=0
def tw5941855591661924842:=0
def tw13356504027013761392:=0
def tw16399418860044044077:=0
def tw18421164260269039445:=0
def tw12599505414093666705:=0
def tw3179453110346005736:=0
def tw8213217689929573724:=0
def tw4987856061306294587:=0
def tw4729371816395275943:=0
def tw11199991681987346081:=0
def tw9185639276662397053:=0
def tw10024532416692067321:=0
def tw16088177875911266840:=0
def tw15223804292140345269:=0
def tw16946532244709811639:=0
def tw260326964665999981:=0
def tw16052799564971704286:=0
def tw3207816950370593835:=0
def tw8319514409606541827:=0
def tw12398095013474460219:=0
def tw4711845915840429256:=0
def tw16710615776776343288:=0
def tw12780881524365907526:=0
def tw3941350140564931637:=0
def tw2313427573729024761:=0
def tw18294888315578035441:=0
def tw14582866429174285253:=0
def tw7377771747744848326:=0
def tw10083651069220458668:=0
def tw15343467544881449349:=0
def tw8299090782634884168:=0
def tw11015523634903559517:=0
def tw18380471577901506780:=0
def tw6769599333603255925:=0
def tw17190056154253857873:=0
def tw14614419314193075064:=0
def tw467072120009772291:=0
def tw17054892076360193207:=0
def tw6328931914142129472:=0
def tw9226725169732583997:=0
def tw8216562730034603145:=0
def tw4710246774965065841:=0
def tw4864817625368164554:=0
def tw5951645413107221140:=0
def tw8558864566649114447:=0
def tw890462178898232538:=0
def tw13234023472762258448:=0
def tw13354393206401266911:=0
def tw17157667839378853099:=0
def tw18101299263163626249:=0
def tw11690715822052010452:=0
def tw4554931454952397034:=0
def tw4889183843394762701:=0
def tw4147146534850384904:=0
def tw15642494887479314006:=0
def tw9000009872064693292:=0
def tw18156586807901490334:=0
def tw16564580154707922010:=0
def tw2136520742784433826:=0
def tw12224251009510588233:=0
def tw11018985620354738199:=0
def tw3707377359893770063:=0
def tw5783164488165070036:=0
def tw9553268799400839097:=0
def tw8063490300201985903:=0
def tw11647277823725749049:=0
def tw10959352298397726715:=0
def tw2804474508424772737:=0
def tw1847087312625779242:=0
def tw11222142366516622793:=0
def tw9436089718028031806:=0
def tw7923144380819607116:=0
def tw9872637015283087334:=0
def tw9963069024086574457:=0
def tw14465893112251415028:=0
def tw15038500214935138922:=0
def tw875868135845622980:=0
def tw12646865486069731846:=0
def tw8742299953317937280:=0
def tw7509118679687701412:=0
def tw13086717255982351644:=0
def tw15519814875664663773:=0
def tw7700463254288533157:=0
def tw8902662708698093174:=0
def tw10208354652997963380:=0
def tw1794222070624610582:=0
def tw11130429290106256847:=0
def tw3362403629456714306:=0
def tw6365132579279106724:=0
def tw1976941341750485482:=0
def tw2749577440462020768:=0
def tw5468592733954851632:=0
def tw4744488074354237500:=0
def tw3566792919555870455:=0
def tw972880829818761131:=0
def tw14825649560051243266:=0
def tw16937997455134960600:=0
def tw1276412522019741166:=0
def tw3349843654439057922:=0
def tw12814328606836195718:=0
def tw6187870686426052177:=0
def tw17704431658740220628:=0
def tw3035500979212836156:=0
def tw17601784094632077978:=0
def tw8346611213610999403:=0
def tw6831620227207145781:=0
def tw15952313700440363323:=0
def tw11796684628378844385:=0
def tw16120404425176708288:=0
def tw10945258280524563732:=0
def tw17442769563968840552:=0
def tw2098001544998911715:=0
def tw14181414020042635678:=0
def tw14112331117319864136:=0
def tw16633294435535703693:=0
def tw4302219074192514654:=0
def tw9250043409602967479:=0
def tw17076805470056495102:=0
def tw2192626218046569262:=0
def tw5305406898235195347:=0
def tw4578024833351277886:=0
def tw349650223814862744:=0
def tw9478173823602527787:=0
def tw5064909018112644418:=0
def tw5813439554585200411:=0
def tw7286655592193669333:=0
def tw1338512117173226234:=0
def tw16097949329432781410:=0
def tw12298761763330092297:=0
def tw11157380020785832192:=0
def tw7663400839368933379:=0
def tw15353511600993275114:=0
def tw12652542028598275992:=0
def tw5548076336885532137:=0
def tw17223333786915656424:=0
def tw15895515212411747596:=0
def tw6035375409082693938:=0
def tw5823469437942984546:=0
def tw3570408250508792722:=0
def tw3925471226017336580:=0
def tw12032024167723407428:=0
def tw9643305791780646966:=0
def tw13029627771931880167:=0
def tw1362915490859746415:=0
def tw13603666355615187738:=0
def tw16718260839861320838:=0
def tw18434201774062139191:=0
def tw4619295504247150233:=0
def tw4809568552112090666:=0
def tw7205007879682471970:=0
def tw5012863153042488063:=0
def tw16391940299765124318:=0
def tw3516144792312830936:=0
def tw2089638211030706231:=0
def tw8636274142627647136:=0
def tw14010003757424702228:=0
def tw302685924574581058:=0
def tw15439186586198655355:=0
def tw14989331373888456581:=0
def tw17510890892540307767:=0
def tw4307103611090639586:=0
def tw8773181005320477902:=0
def tw10758390227756483832:=0
def tw16027040439357008206:=0
def tw8523002805745822439:=0
def tw479618102463973048:=0
def tw1415182984685534775:=0
def tw472311016577829842:=0
def tw15980761888221812269:=0
def tw10532741678668633594:=0
def tw1690286284865114209:=0
def tw14347122943745256179:=0
def tw12134679868954305710:=0
def tw2095626123856877662:=0
def tw17957096548765258188:=0
def tw495921624273075857:=0
def tw7868427043174038496:=0
def tw6490434153848169018:=0
def tw5809463065161122589:=0
def tw7436945189714553927:=0
def tw12459058009111216589:=0
def tw1264100327721500132:=0
def tw10816919810119881886:=0
def tw130578526447499797:=0
def tw10173919316000650865:=0
def tw14486978307715408893:=0
def tw14672090986984821121:=0
def tw9015119376098137091:=0
def tw13137430449189284887:=0
def tw2436820565948070052:=0
def tw5580410000193534641:=0
def tw17648288435378902330:=0
def tw10729648252590818055:=0
def tw9753418885558362661:=0
def tw13086563071807781467:=0
def tw8987365943161243049:=0
def tw5982054101554761288:=0
def tw13415400013271276304:=0
def tw16165836551248820876:=0
def tw12630511762809361425:=0
def tw3966549177174677861:=0
def tw9239913998676364327:=0
def tw9870731368658660140:=0
def tw1333145046861602155:=0
def tw17345052188948544647:=0
def tw2914107184877841042:=0
def tw8341439104713914972:=0
def tw6213187112831604005:=0
def tw2474234362602943556:=0
def tw8777977061804512760:=0
def tw773916938723085555:=0
def tw4673188595467340825:=0
def tw4625758524432311588:=0
def tw2301468466221116489:=0
def tw17531797491432645099:=0
def tw2708048669958884585:=0
def tw9866504028056469329:=0
def tw4924081226063606951:=0
def tw9716410798028973194:=0
def tw4587357613077748580:=0
def tw15761758069278913193:=0
def tw13141766280402603814:=0
def tw6602995714697493831:=0
def tw2456824503801639246:=0
def tw3169202383597341626:=0
def tw2066820625568871217:=0
def tw1186288017887380198:=0
def tw18308372154938269774:=0
def tw10135984523160237541:=0
def tw17414869075707122136:=0
def tw10840241953797149633:=0
def tw9515276173801002520:=0
def tw982350757265298674:=0
def tw7372430731188419434:=0
def tw17318395988586866427:=0
def tw4701176042701372441:=0
def tw4502744062105138579:=0
def tw11672921409450683371:=0
def tw18106552762618909411:=0
def tw18191285715929367732:=0
def tw5846331184440909885:=0
def tw8007620276298198103:=0
def tw1761810868666769501:=0
def tw523488982498895019:=0
def tw4063156485491424409:=0
def tw17964475621114586695:=0
def tw17899426978405688221:=0
def tw8307064755541041198:=0
def tw2040152404833391119:=0
def tw13274356969982143482:=0
def tw15448644547489243687:=0
def tw12587588402744868871:=0
def tw9473047201400149551:=0
def tw12394778681300289920:=0
def tw10495958031064577070:=0
def tw15566288927674130678:=0
def tw14182841310454819550:=0
def tw3385742830715592935:=0
def tw2437352302140521759:=0
def tw15229459697276368846:=0
def tw9632859329728157938:=0
def tw18105840492155824150:=0
def tw1289727715463435543:=0
def tw11960915175042308467:=0
def tw7675502864307497989:=0
def tw17442393548291689871:=0
def tw3476579408062256737:=0
def tw14673979372134148344:=0
def tw14800489247334906691:=0
def tw8487442018244746827:=0
def tw10580650084086417849:=0
def tw11351858648261354170:=0
def tw13077594815238066750:=0
def tw16915845180118591039:=0
def tw13575356006053776219:=0
def tw8660021498024387931:=0
def tw1177594569445702659:=0
def tw2922384589576782436:=0
def tw5104003671264281821:=0
def tw10332400834634982239:=0
def tw6000204091647447928:=0
def tw10151041386122427866:=0
def tw319413629760941524:=0
def tw14424486436273441991:=0
def tw2024713615124931174:=0
def tw9509530147809046125:=0
def tw12572073930153848241:=0
def tw12781054760299915155:=0
def tw9534324148365323434:=0
def tw10673094674819265440:=0
def tw12507936622311921914:=0
def tw5833104748607419972:=0
def tw2683791630756292991:=0
def tw3567861990322188015:=0
def tw2891195118970847435:=0
def tw11325671169369141534:=0
def tw6570169200417162417:=0
def tw16260041803139869273:=0
def tw7163758335248305775:=0
def tw9683204882753749735:=0
def tw396652486569295754:=0
def tw790928886914400664:=0
def tw1386600498311414976:=0
def tw11648285030833628378:=0
def tw11116391709229052494:=0
def tw3361528595009959071:=0
def tw2956966876775677497:=0
def tw4788492861162131927:=0
def tw9540758383214395325:=0
def tw11932742800044844553:=0
def tw14486041066703804564:=0
def tw17342573475321205036:=0
def tw14322518750799085008:=0
def tw14076549125564366950:=0
def tw16308029543999100471:=0
def tw10550101452697318620:=0
def tw18141797889867926710:=0
def tw701408672681351363:=0
def tw16824903056676165219:=0
def tw14965708594979510066:=0
def tw11380475091636823674:=0
def tw561465958916796444:=0
def tw12699452970833531566:=0
def tw12306104651488209271:=0
def tw16261799263282683383:=0
def tw3479222265938136953:=0
def tw6594296342990182409:=0
def tw3995203378526922711:=0
def tw12596781145248629465:=0
def tw496515590156873684:=0
def tw9051644766299358952:=0
def tw7006504086757553028:=0
def tw7439232935489707533:=0
def tw7294585364182663638:=0
def tw2831769091945915697:=0
def tw4989716690053191976:=0
def tw5403019649887739941:=0
def tw14666624527461878976:=0
def tw17428533301252390512:=0
def tw16844168882676556395:=0
def tw1196522417169966713:=0
def tw14002369091881985669:=0
def tw2760952168165214064:=0
def tw18059021654436573746:=0
def tw3097185720950866530:=0
def tw3517920350004919916:=0
def tw10814099753753720340:=0
def tw14828727581576052155:=0
def tw6721897505320275838:=0
def tw10426331095719074278:=0
def tw6430759910090313853:=0
def tw11239500993802300353:=0
def tw4479705303993944219:=0
def tw5861447501584451447:=0
def tw3796461426580886147:=0
def tw17778669042704430686:=0
def tw8338656509480646779:=0
def tw8471094177493796403:=0
def tw1266337314889318970:=0
def tw1429241897246183939:=0
def tw2103503836409880440:=0
def tw8666121431645327605:=0
def tw10902594139620336102:=0
def tw2851470497353663077:=0
def tw15830581902254855724:=0
def tw16225834685994137303:=0
def tw9344778195330829662:=0
def tw4703292194333756533:=0
def tw12670970019001603918:=0
def tw3451458527372528598:=0
def tw17156909737873340908:=0
def tw13313458053661304993:=0
def tw8733311798060789099:=0
def tw12818746533053190816:=0
def tw1836774183654607091:=0
def tw15843788246812280523:=0
def tw16346058619570516756:=0
def tw2208568878066715614:=0
def tw3228437723709227759:=0
def tw8737108876752895986:=0
def tw4132235684594983625:=0
def tw3572444623688009049:=0
def tw5816698643888762831:=0
def tw17091581768979047451:=0
def tw10946965613245923336:=0
def tw17539057178430590760:=0
def tw15150039466481563193:=0
def tw16925577118324705139:=0
def tw16490743346018385545:=0
def tw7368226009959783999:=0
def tw5906858410377465067:=0
def tw4678070447487108947:=0
def tw555567053927869882:=0
def tw7227630654690934412:=0
def tw16679574163892736444:=0
def tw46075554109198753:=0
def tw15826495304857580528:=0
def tw11188253947420495397:=0
def tw3366336104254990240:=0
def tw1255718279479148026:=0
def tw12769719527348056316:=0
def tw18349439821985232594:=0
def tw1045427943805602303:=0
def tw5608563838899150345:=0
def tw18076177311125558239:=0
def tw17255666656914340192:=0
def tw18318101360066275792:=0
def tw6662049741604264782:=0
def tw10966719892982235553:=0
def tw9278541497828927418:=0
def tw13060732343261408459:=0
def tw4598734168927125448:=0
def tw15327084320028299053:=0
def tw12222772010916128406:=0
def tw9635349535471162513:=0
def tw10632749319055895740:=0
def tw2489706821456476786:=0
def tw17544796256056972292:=0
def tw2240748033446024832:=0
def tw10082230260648531711:=0
def tw11403885900596388442:=0
def tw15088065163713688679:=0
def tw12004674018593441400:=0
def tw6409411276831869339:=0
def tw996080083845036715:=0
def tw617508732386880539:=0
def tw7957946643823758488:=0
def tw11246319867050748271:=0
def tw2889717271213279002:=0
def tw13759253976442561639:=0
def tw6913909542365176802:=0
def tw1970400901255284350:=0
def tw9343332737334966760:=0
def tw15513423077262316700:=0
def tw669102555922479328:=0
def tw18194449505230587894:=0
def tw6026809714900444144:=0
def tw15785137978267863796:=0
def tw15312430143290702440:=0
def tw1955969397239005014:=0
def tw11392222847715967456:=0
def tw4651715997113791384:=0
def tw10618669849036240367:=0
def tw11949772788614915309:=0
def tw18183758462282713207:=0
def tw18096551119252845352:=0
def tw17590114242757604106:=0
def tw17010153103450821030:=0
def tw13661291558343983492:=0
def tw6393958703640076726:=0
def tw8667878440874895860:=0
def tw17651328781435601896:=0
def tw1166924696652823203:=0
def tw12152619671527234031:=0
def tw18212681342072967251:=0
def tw8525002644736359119:=0
def tw11205224997751510423:=0
def tw4531401548272745446:=0
def tw16818409370431249845:=0
def tw6141687168317275072:=0
def tw13090365736777780512:=0
def tw1797766964090038406:=0
def tw14175970487185458337:=0
def tw8595473901760422409:=0
def tw10067399833197348710:=0
def tw10348822026216930519:=0
def tw13866041481355133347:=0
def tw3866883901394647886:=0
def tw1867765508024920333:=0
def tw15161359252606893112:=0
def tw8145885959818529795:=0
def tw11074226897728784233:=0
def tw11536391131080152964:=0
def tw9935420142574245309:=0
def tw17170650809635760799:=0
def tw16109840543504815830:=0
def tw169156631305327264:=0
def tw6932666437123210934:=0
def tw1793426600237701375:=0
def tw13548454720669043797:=0
def tw97716029924368576:=0
def tw4819652998221704579:=0
def tw6186584637984386309:=0
def tw12455593740450560767:=0
def tw1552789860112705806:=0
def tw6775287655132525159:=0
def tw4102306171215196447:=0
def tw15982776664121720325:=0
def tw11012981834320371167:=0
def tw13658075815568230529:=0
def tw873118838723831706:=0
def tw8511739370716232165:=0
def tw8444841700848770814:=0
def tw12708964881424043472:=0
def tw2700749063721995701:=0
def tw18273234912977264244:=0
def tw146631104165281779:=0
def tw10918481406190209913:=0
def tw17025985919029519327:=0
def tw8354918540857912110:=0
def tw1401539924894588461:=0
def tw18049312450372682860:=0
def tw16697917527071496634:=0
def tw2676743098282242867:=0
def tw4419931049548461033:=0
def tw13399684276503117160:=0
def tw12863435827442023701:=0
def tw8669743857885804959:=0
def tw1128609967119139418:=0
def tw17478135151938770925:=0
def tw17496427271629930094:=0
def tw11390671209333622331:=0
def tw13105659587384682256:=0
def tw17486649108613292053:=0
def tw2379078258524623933:=0
def tw2572618774417036497:=0
def tw1877358584864714802:=0
def tw8807525363926833724:=0
def tw7716628489697430824:=0
def tw16086403897158234991:=0
def tw10848164997541128742:=0
def tw12894734955812549338:=0
def tw12912595468438946677:=0
def tw12213153921878876913:=0
def tw14893015338384465672:=0
def tw9375126720060408489:=0
def tw1647610507916236898:=0
def tw12258644147513595749:=0
def tw4680575556724376519:=0
def tw1938974363677013210:=0
def tw10675590883500815425:=0
def tw14968152508380013010:=0
def tw12760028504408074308:=0
def tw9418978548994723633:=0
def tw3857229898533921441:=0
def tw3158504088803077680:=0
def tw11533740314981299387:=0
def tw13734876038516178521:=0
def tw12757307068904604913:=0
def tw5073318176338946280:=0
def tw15733933314580102598:=0
def tw4428834180885733017:=0
def tw8464860493414583774:=0
def tw6967139352922418391:=0
def tw10181143979708946110:=0
def tw8280983780995754337:=0
def tw3168758405868507940:=0
def tw8802791785936754653:=0
def tw16044025778115937307:=0
def tw10218897459908364780:=0
def tw12339143753709838426:=0
def tw18045342392242257711:=0
def tw11385981457988826895:=0
def tw12474966671565109973:=0
def tw218707793870285060:=0
def tw13006407078130157560:=0
def tw13701087484206897943:=0
def tw1270882637194257171:=0
def tw15313456268876416406:=0
def tw12373150577065673923:=0
def tw10560871403202891060:=0
def tw10969063651247159676:=0
def tw7491323622677579813:=0
def tw6275314180788414445:=0
def tw4297097917035410116:=0
def tw9210248649871226808:=0
def tw14676986112888309575:=0
def tw2801117648843425007:=0
def tw18240765025226621421:=0
def tw17724199484638578351:=0
def tw368092882174711910:=0
def tw10162476533316852835:=0
def tw17677364881253527052:=0
def tw6080766032832614095:=0
def tw4654277233149879466:=0
def tw14739474658096439766:=0
def tw9165531969990097345:=0
def tw3794607894361102260:=0
def tw7300058666260472726:=0
def tw2335914555890402993:=0
def tw17966645855836342797:=0
def tw15011241140411529034:=0
def tw13292224694937422277:=0
def tw17182663929579117887:=0
def tw4743294127582797041:=0
def tw14294784803180541966:=0
def tw14283710438453411562:=0
def tw7081755500651374593:=0
def tw2583208340626632297:=0
def tw5425981042366061446:=0
def tw4678546616871487590:=0
def tw10318432222891307308:=0
def tw4620845910769306416:=0
def tw306021668382194223:=0
def tw16404822544547082738:=0
def tw2088010106269859417:=0
def tw5803607189059330606:=0
def tw8271468277470382048:=0
def tw6567315609240038460:=0
def tw879917442165258458:=0
def tw16012958398494413370:=0
def tw17916561869673018484:=0
def tw2158448608320818035:=0
def tw16025211142512925182:=0
def tw9722472956500765633:=0
def tw8398471622149995777:=0
def tw16870876034323511012:=0
def tw1629324930029669575:=0
def tw10561343528614566026:=0
def tw9265585076955710770:=0
def tw15482679314367055602:=0
def tw8549236958192453233:=0
def tw10334394289927943272:=0
def tw6550459179722437668:=0
def tw1000559155541208139:=0
def tw12033811654101047919:=0
def tw4821873369868861935:=0
def tw7693236914932021230:=0
def tw4170859746615049581:=0
def tw5851989032548824816:=0
def tw2852857838982922917:=0
def tw7867263215431204862:=0
def tw15893227421198922602:=0
def tw3165354381119469614:=0
def tw13563254412210130076:=0
def tw8000099129639390993:=0
def tw12241907723054010437:=0
def tw14929350827258496194:=0
def tw9042172504372572238:=0
def tw16242129096174472125:=0
def tw5592783512121826749:=0
def tw14775452001395147228:=0
def tw467364344883918563:=0
def tw14268732354533590707:=0
def tw10862840827782319918:=0
def tw10698166079382247879:=0
def tw1920327561882275989:=0
def tw5311999381105634275:=0
def tw3922221804580981839:=0
def tw18300485988377282986:=0
def tw7089215326555583838:=0
def tw12701117473206616298:=0
def tw96360062082511768:=0
def tw879316769101152687:=0
def tw9853485088755061652:=0
def tw370681592283524915:=0
def tw7696901955272358193:=0
def tw7912770165886143498:=0
def tw12679031385558967252:=0
def tw13317571570276311452:=0
def tw123843951507056544:=0
def tw12178817086542772847:=0
def tw2276668028330043001:=0
def tw4202932109502893383:=0
def tw8996339508858686415:=0
def tw4221485249868908909:=0
def tw7072306869764521530:=0
def tw2691415330724791138:=0
def tw15738387897300302970:=0
def tw6654628530670827182:=0
def tw11652310745347207037:=0
def tw9168641241406917722:=0
def tw1432816052015839712:=0
def tw6988048435315158511:=0
def tw18105441956875293241:=0
def tw5168791975268331837:=0
def tw13292419425851980261:=0
def tw2082274263146052278:=0
def tw883055699096689793:=0
def tw11046761781201465561:=0
def tw13717506465834410739:=0
def tw1853839786961183373:=0
def tw14578451240825346176:=0
def tw13818000933632728606:=0
def tw10000873928461543882:=0
def tw14640263083312789658:=0
def tw15867148307574824345:=0
def tw4452037567306690211:=0
def tw116460713896392288:=0
def tw833786348063333405:=0
def tw6842471815850640159:=0
def tw16073323282918663872:=0
def tw3025969793920101930:=0
def tw11346601019345690896:=0
def tw15378359135199851803:=0
def tw1362119255570993396:=0
def tw2113548916031917989:=0
def tw7025764943979495625:=0
def tw11326583390980790349:=0
def tw8783349730002322247:=0
def tw5707773600322525639:=0
def tw1910187923808842920:=0
def tw4270197802371788489:=0
def tw6623007759543966738:=0
def tw8261376121401722965:=0
def tw13972377555503849179:=0
def tw11284892957192559683:=0
def tw18170384508691784428:=0
def tw12803062420720781636:=0
def tw8708450032611504266:=0
def tw3472698053038150090:=0
def tw17159477789669777288:=0
def tw17402660357703116507:=0
def tw2185546025304065376:=0
def tw4536330109062473749:=0
def tw12646485910461686558:=0
def tw2856788664682587128:=0
def tw12597229726334285710:=0
def tw2351258239266590690:=0
def tw11348644742230711880:=0
def tw18108522554433385432:=0
def tw17852036202235228643:=0
def tw10071103512588825012:=0
def tw6728910465437709735:=0
def tw14496224160588809272:=0
def tw2187676272573526579:=0
def tw3290307692959337475:=0
def tw14615440967220006868:=0
def tw13059056842451521634:=0
def tw10614499458129377748:=0
def tw16595569047032454416:=0
def tw16276772671728275133:=0
def tw18407873294200251775:=0
def tw10760111852099982756:=0
def tw4651148459219166347:=0
end PySem.W.Fast
section
open PySem PySem.Spec PyProof.Rows
abbrev zZ:=@wpAny_bind
abbrev z0:=@List.length_map
abbrev Aa:=@Nat.le_refl
abbrev Ab:=@wpAny_pure
abbrev Ac:=@List.getElem?_eq_some_iff
abbrev Ad:=@List.mem_of_getElem?
abbrev Ae:=@List.map_append
abbrev Af:=@Option.some.inj
abbrev Ag:=@List.mem_map
abbrev Ah:=@Heap.lt_size
abbrev Ai:=@decide_eq_true
abbrev Aj:=@List.mem_append
abbrev Ak:=@List.take_of_length_le
abbrev Al:=@List.getElem?_map
abbrev Am:=@List.take_add_one
abbrev An:=@Heap.get?_push_of_some
abbrev Ao:=@of_decide_eq_true
abbrev Ap:=@List.mem_filter
abbrev Aq:=@List.length_append
abbrev Ar:=@List.getElem?_eq_getElem
abbrev As:=@List.length_take
abbrev At:=@Heap.get?_push_size
abbrev Au:=@List.size_toArray
abbrev Av:=@List.mem_singleton
abbrev Aw:=@List.length_cons
abbrev Ax:=@Nat.ne_of_lt
abbrev Ay:=@decide_eq_false
abbrev Az:=@Nat.le_trans
abbrev AA:=@List.mem_cons
abbrev AB:=@Bool.false_ne_true
abbrev AC:=@Nat.zero_le
abbrev AD:=@List.map_cons
abbrev AE:=@List.getElem?_of_mem
abbrev AF:=@List.mem_cons_of_mem
abbrev AG:=@List.getD_eq_getElem?_getD
abbrev AH:=@List.length_filter_le
abbrev AI:=@List.filter_append
abbrev AJ:=@List.idxOf_lt_length_of_mem
abbrev AK:=@List.append_nil
abbrev AL:=@List.nodup_cons
abbrev AM:=@List.mem_range
abbrev AN:=@wpAny_holding
abbrev AO:=@wpAny_field
abbrev AQ:=@List.map_map
abbrev AR:=@List.mem_append_left
abbrev AS:=@List.mem_append_right
abbrev AT:=@List.getElem?_zip_eq_some
abbrev AU:=@Nat.lt_of_lt_of_le
abbrev AV:=@Bool.eq_iff_iff
abbrev AW:=@Nat.le_of_lt
abbrev AX:=@Int.eq_ofNat_of_zero_le
abbrev AY:=@List.length_drop
abbrev AZ:=@List.lookup_cons
abbrev A0:=@List.find?_cons
abbrev A3:=@List.length_zip
abbrev A4:=@List.nodup_append
abbrev A5:=@List.mem_cons_self
abbrev A6:=@Heap.size_push
abbrev A7:=@List.drop_of_length_le
abbrev A8:=@List.mem_flatMap
abbrev A9:=@List.getElem?_append_left
abbrev Ba:=@Bool.and_eq_true
abbrev Bb:=@Nat.le_succ
abbrev Bc:=@Int.emod_nonneg
abbrev Bd:=@List.mem_of_mem_take
abbrev Be:=@List.mem_of_mem_drop
abbrev Bg:=@wpAny_pyIter_tuple
abbrev Bh:=@Option.isSome_iff_exists
abbrev Bi:=@Bool.false_eq_true
abbrev Bj:=@List.all_eq_true
abbrev Bk:=@wpAny_seqItems
abbrev Bl:=@wpAny_setField_rec
abbrev Bm:=@List.drop_eq_getElem_cons
abbrev Bn:=@List.getElem?_inj
abbrev Bo:=@Nat.ne_of_gt
abbrev Bp:=@List.getElem?_append_right
abbrev Br:=@List.getElem?_take_of_lt
abbrev Bs:=@Int.toNat_natCast
abbrev Bt:=@List.any_cons
abbrev Bv:=@List.nodup_nil
abbrev Bw:=@Nat.le_of_not_lt
abbrev Bx:=@Int.emod_lt_of_pos
abbrev By:=@List.append_assoc
abbrev Bz:=@List.take_append_drop
abbrev BA:=@Nat.lt_of_not_le
abbrev BB:=@List.pairwise_iff_getElem
abbrev BC:=@Nat.lt_irrefl
abbrev BD:=@Array.length_toList
abbrev BE:=@List.mem_filterMap
abbrev BF:=@List.forIn_cons
abbrev BG:=@List.filter_sublist
abbrev BH:=@Nat.eq_zero_or_pos
abbrev BI:=@List.map_take
abbrev BJ:=@List.take_sublist
abbrev BK:=@List.any_eq_true
abbrev BL:=@List.getElem_mem
abbrev BM:=@Nat.le_add_right
abbrev BN:=@List.pairwise_lt_range
abbrev BO:=@List.length_range
abbrev BP:=@List.getElem?_eq_none
abbrev BQ:=@List.flatMap_append
abbrev BR:=@List.getElem?_drop
abbrev BS:=@List.filter_congr
abbrev BU:=@List.getElem?_set_self
abbrev BV:=@List.getElem?_set_ne
abbrev BW:=@Nat.add_sub_cancel_left
abbrev BX:=@List.sublist_flatten_of_mem
abbrev BY:=@List.exists_cons_of_length_eq_add_one
end
noncomputable section
set_option autoImplicit true
set_option Elab.async false
set_option linter.all false
set_option maxRecDepth 100000
namespace L2
open PySem PySem.Spec PyProof.Rows
abbrev Key:=Sum Int Str
def i5:Key->Value->Bool
 | .inl k,v=>Value.isInt k v
 | .inr x,v=>Value.isStrOf x v
def keyH (w:World):Key->Int
 | .inl k=>hashInt k
 | .inr x=>hashStr w x
theorem bZ:∀ {k:Key}{v:Value},i5 k v=true->(∃i t,k=Sum.inl i/\v=Value.int i t)∨(∃x t,k=Sum.inr x/\v=Value.str x t)
 | .inl i,v,h=>by
  obtain⟨t,e⟩:=Value.isInt_shape (k:=i) (v:=v) h
  exact .inl ⟨i,t,rfl,e⟩
 | .inr x,v,h=>by
  obtain⟨t,e⟩:=Value.isStrOf_shape (x:=x) (v:=v) h
  exact .inr ⟨x,t,rfl,e⟩
theorem tU (i:Int) (t:Tok):i5 (.inl i) (.int i t)=true:=by simp[i5,Value.isInt]
theorem si (x:Str) (t:Tok):i5 (.inr x) (.str x t)=true:=by simp[i5,Value.isStrOf]
theorem yN (a b:Int):decide ((Sum.inl a:Key)=Sum.inl b)=(a==b):=by
 by_cases e:a=b
 ·subst e;simp
 ·have h:¬ (Sum.inl a:Key)=Sum.inl b:=fun q=>e (Sum.inl.inj q)
  rw[Ay h]
  exact(beq_eq_false_iff_ne.mpr e).symm
theorem yi (a b:Str):decide ((Sum.inr a:Key)=Sum.inr b)=decide (a=b):=by
 by_cases e:a=b
 ·subst e;simp
 ·have h:¬ (Sum.inr a:Key)=Sum.inr b:=fun q=>e (Sum.inr.inj q)
  rw[Ay h,Ay e]
theorem zq (a:Int) (b:Str):decide ((Sum.inl a:Key)=Sum.inr b)=false:=Ay (fun q=>nomatch q)
theorem yu (a:Str) (b:Int):decide ((Sum.inr a:Key)=Sum.inl b)=false:=Ay (fun q=>nomatch q)
def bu (prog:Program) (w:World):PySem.KeyKind prog w Key where
 is:=i5
 hash:=keyH w
 inj:=fun v a b ha hb=>by
  rcases bZ ha with⟨i,t,rfl,rfl⟩ | ⟨x,t,rfl,rfl⟩
  ·rcases bZ hb with⟨j,u,rfl,e⟩ | ⟨y,u,rfl,e⟩
   ·injection e with e1 _;rw[e1]
   ·exact nomatch e
  ·rcases bZ hb with⟨j,u,rfl,e⟩ | ⟨y,u,rfl,e⟩
   ·exact nomatch e
   ·injection e with e1 _;rw[e1]
 byValue:=fun k v h=>by
  rcases bZ h with⟨i,t,rfl,rfl⟩ | ⟨x,t,rfl,rfl⟩ <;> rfl
 pyHash:=fun hv h=>by
  rcases bZ hv with⟨i,t,rfl,rfl⟩ | ⟨x,t,rfl,rfl⟩
  ·exact wpAny_pyHash_int h
  ·exact wpAny_pyHash_str h
 eqBool:=fun hu hv h=>by
  rcases bZ hu with⟨i,t,rfl,rfl⟩ | ⟨x,t,rfl,rfl⟩
  ·rcases bZ hv with⟨j,u,rfl,rfl⟩ | ⟨y,u,rfl,rfl⟩
   ·rw[yN] at h;exact wpAny_eqBool_int h
   ·rw[zq] at h;exact SeqAt.EqAt.int_str i t y u _ _ _ _ h
  ·rcases bZ hv with⟨j,u,rfl,rfl⟩ | ⟨y,u,rfl,rfl⟩
   ·rw[yu] at h;exact SeqAt.EqAt.str_int x t j u _ _ _ _ h
   ·rw[yi] at h;exact wpAny_eqBool_str h
 «strs»:=fun k x t v h=>by
  rcases bZ h with⟨i,u,rfl,e⟩ | ⟨y,u,rfl,e⟩
  ·exact nomatch e
  ·injection e with e1 _
   subst e1
   cases v <;> rfl
theorem oX (prog:Program) (w:World) (i:Int) (t:Tok):(bu prog w).is (.inl i) (.int i t)=true:=tU i t
theorem gu (prog:Program) (w:World) (x:Str) (t:Tok):(bu prog w).is (.inr x) (.str x t)=true:=si x t
inductive V where
 | non | bl (b:Bool) | int (i:Int) | str (x:Str) | byt (b:Array UInt8) | flt (b:UInt64) | ref (a:Addr) | ty (n:String)
 deriving DecidableEq
def RelV:V->Value->Prop
 | .non,u=>u=Value.none
 | .bl b,u=>u=Value.bool b
 | .int i,u=>∃t,u=Value.int i t
 | .str x,u=>∃t,u=Value.str x t
 | .byt b,u=>∃t,u=Value.bytes b t
 | .flt b,u=>∃t,u=Value.float b t
 | .ref a,u=>u=Value.ref a
 | .ty n,u=>u=Value.type n
abbrev Vals:List V->List Value->Prop:=Paired RelV
theorem Vals.length (r:Vals xs us):xs.length=us.length:=Paired.length r
theorem Vals.get:∀ {xs:List V}{us:List Value}{i:Nat}{x:V},Vals xs us->xs[i]? = some x->∃u,us[i]? = some u/\RelV x u
 | _,_,_,_,.nil,e=>by simp at e
 | _,_,0,_,.cons r _,e=>by simp at e;subst e;exact⟨_,rfl,r⟩
 | _,_,i+1,x,.cons _ t,e=>by
  obtain⟨u,h1,h2⟩:=Vals.get (i:=i) (x:=x) t (by simpa using e)
  exact⟨u,by simpa using h1,h2⟩
theorem Vals.set (r:RelV x u):∀ {xs:List V}{us:List Value}(i:Nat),Vals xs us->Vals (xs.set i x) (us.set i u)
 | _,_,_,.nil=>.nil
 | _,_,0,.cons _ t=>.cons r t
 | _,_,i+1,.cons q t=>.cons q (Vals.set r i t)
theorem Vals.append:∀ {xs ys:List V}{us ws:List Value},Vals xs us->Vals ys ws->Vals (xs++ys) (us++ws)
 | _,_,_,_,.nil,s=>s
 | _,_,_,_,.cons r t,s=>.cons r (Vals.append t s)
theorem Vals.take:∀ {xs:List V}{us:List Value}(n:Nat),Vals xs us->Vals (xs.take n) (us.take n)
 | _,_,0,_=>.nil
 | _,_,_+1,.nil=>.nil
 | _,_,n+1,.cons r t=>.cons r (Vals.take n t)
theorem Vals.drop:∀ {xs:List V}{us:List Value}(n:Nat),Vals xs us->Vals (xs.drop n) (us.drop n)
 | _,_,0,r=>r
 | _,_,_+1,.nil=>.nil
 | _,_,n+1,.cons _ t=>Vals.drop n t
def RelO:Option V->Option Value->Prop
 | some v,some u=>RelV v u
 | none,none=>True
 | _,_=>False
def KV:List (κ × V)->List (κ × Value)->Prop:=Paired fun (p:κ × V) (q:κ × Value)=>p.1=q.1/\RelV p.2 q.2
def kV:Key->V
 | .inl i=>.int i
 | .inr x=>.str x
inductive HO where
    | lst (xs:List V)
    | tup (xs:List V)
    | dK (kvs:List (Key × V)) | dT (kvs:List (List Key × V))
    | set (S:Int->Bool) (n:Nat)
    | ins (C dx:Addr) (fs:List (Str × V))
    | own (x:Addr)
    | xd (fs:List (Str × V))
    | met (f x:Addr)
    | rng (lo hi:Int)
    | frz (o:Obj) (u:HO)
    | tbl (ps:Array Value)
    | ext (φ:Heap->Prop)
abbrev Hp:=Addr->Option HO
def upd (H:Hp) (a:Addr) (o:HO):Hp:=fun b=>if b=a then some o else H b
theorem ae:upd H a o a=some o:=by unfold upd;rw[if_pos rfl]
theorem af (h:b≠a):upd H a o b=H b:=by unfold upd;rw[if_neg h]
theorem kR:upd (upd H a o) a u=upd H a u:=by
 funext b;unfold upd;split <;> rfl
theorem ba {H:Hp}{a b:Addr}{o u:HO}(h:H a=some o) (h':H b=some u) (d:o≠u):a≠b:=by
 intro e;subst e;rw[h] at h';exact d (Af h')
theorem ah {H:Hp}{a b:Addr}{o:HO}(h:H a=some o) (h':H b=none):a≠b:=by
 intro e;subst e;rw[h] at h';cases h'
def TupN (h:Heap) (a:Addr) (items:Array Value):Prop:=∃o,h.get? a=some o/\o.cls=.type "tuple"/\∃n,o.data=.seq items n/\o.dict=none
theorem TupN.tup (x:TupN h a items):IsTup h a items:=let ⟨o,e,c,n,d,_⟩:=x;⟨o,e,c,n,d⟩
theorem TupN.new (h:Heap) (items:Array Value):TupN (h.push { cls:=.type "tuple",data:=.seq items }) h.objs.size items:=⟨_,At _ rfl,rfl,_,rfl,rfl⟩
section
variable (P:Program) (w:World)
def ObjOk (H:Hp) (h:Heap) (a:Addr):HO -> Prop
 | .lst xs=>xs.length<=sizeLine/\∃(its:List Value) (n:Nat),Vals xs its/\h.get? a=some { cls:=.type "list",data:=.seq its.toArray n }
 | .tup xs=>xs.length<=sizeLine/\∃its:List Value,Vals xs its/\TupN h a its.toArray
 | .dK kvs=>kvs.length<=sizeLine/\(a==sysModules)=false/\∃vs,KV kvs vs/\h.DictOf (bu P w) a vs
 | .dT kvs=>kvs.length<=sizeLine/\(a==sysModules)=false/\∃xs:List (List Key × Addr × Value),
     Paired (fun (p:List Key × V) (q:List Key × Addr × Value)=>p.1=q.1/\H q.2.1=some (.tup (p.1.map kV))/\RelV p.2 q.2.2) kvs xs /\
     ∃o es ep,h.get? a=some o/\o.ExactDict/\o.data=.dict es ep/\es.toList=xs.map (entryOfKey (tupleKind (bu P w)))/\(xs.map (·.1)).Nodup
 | .set S n=>h.SetOf (intKind P w) a S n
 | .ins C dx fs=>H dx=some (.own a)/\fs.length<=1000/\dx≠a/\h.get? a=some (W.instObj C dx) /\
     ∃mA,h.Ns1 dx mA/\(∀f,RelO (fs.lookup f) (mA f))/\PySem.Within mA (fs.map (·.1))
 | .own _=>∃o,h.get? a=some o
 | .xd fs=>∃mA,h.Ns1 a mA/\∀f,RelO (fs.lookup f) (mA f)
 | .rng lo hi=>∃t u v,h.get? a=some { cls:=.type "range",data:=.fields #[.int lo t,.int hi u,.int 1 v] }
 | .frz o u=>h.get? a=some o/\ObjOk H h a u
 | .tbl ps=>h.get? a=some { cls:=.none,data:=.fields ps }
 | .met f x=>h.get? a=some (W.methodObj (.ref f) (.ref x))
 | .ext φ=>φ h/\(∃o,h.get? a=some o)/\∀h1 h2:Heap,φ h1->(∀o,h1.get? a=some o->h2.get? a=some o)->φ h2
def HOk (H:Hp) (h:Heap):Prop:=∀a o,H a=some o->ObjOk P w H h a o
end
section
variable {P:Program}{w:World}{H H':Hp}{h h':Heap}{a:Addr}{o:HO}
theorem ObjOk.lt (x:ObjOk P w H h a o):a<h.objs.size:=by
 cases o with
 | lst xs=>obtain⟨_,_,_,_,e⟩:=x;exact Ah e
 | tup xs=>obtain⟨_,_,_,p⟩:=x;exact p.tup.lt
 | dK kvs=>obtain⟨_,_,_,_,o,_,_,e,_⟩:=x;exact Ah e
 | dT kvs=>obtain⟨_,_,_,_,o,_,_,e,_⟩:=x;exact Ah e
 | set S n=>obtain⟨o,_,_,_,e,_⟩:=x;exact Ah e
 | ins C dx fs=>obtain⟨_,_,_,e,_⟩:=x;exact Ah e
 | own y=>obtain⟨_,e⟩:=x;exact Ah e
 | xd fs=>obtain⟨_,⟨_,_,_,e,_⟩,_⟩:=x;exact Ah e
 | rng lo hi=>obtain⟨_,_,_,e⟩:=x;exact Ah e
 | frz ob u=>obtain⟨e,_⟩:=x;exact Ah e
 | tbl ps=>exact Ah (show h.get? a=some _ from x)
 | met f y=>exact Ah (show h.get? a=some _ from x)
 | ext φ=>obtain⟨_,⟨_,e⟩,_⟩:=x;exact Ah e
theorem Paired.mapP:∀ {l₁:List α}{l₂:List β},Paired F l₁ l₂->(∀a b,F a b->G a b)->Paired G l₁ l₂
 | _,_,.nil,_=>.nil
 | _,_,.cons r t,f=>.cons (f _ _ r) (Paired.mapP t f)
theorem ObjOk.stay (x:ObjOk P w H h a o) (k:∀b u,(b=a∨H b=some (.own a))->h.get? b=some u->h'.get? b=some u)
    (ho:∀b,H b=some (.own a)->H' b=some (.own a)) (ht:∀b xs,H b=some (.tup xs)->H' b=some (.tup xs)):ObjOk P w H' h' a o:=by
 induction o with
 | lst xs=>obtain⟨z,its,n,r,e⟩:=x;exact⟨z,its,n,r,k _ _ (.inl rfl) e⟩
 | tup xs=>obtain⟨z,its,r,ob,e,c⟩:=x;exact⟨z,its,r,ob,k _ _ (.inl rfl) e,c⟩
 | dK kvs=>obtain⟨z,y,vs,r,ob,es,ep,e,c⟩:=x;exact⟨z,y,vs,r,ob,es,ep,k _ _ (.inl rfl) e,c⟩
 | dT kvs =>
  obtain⟨z,y,xs,r,ob,es,ep,e,c⟩:=x
  exact⟨z,y,xs,Paired.mapP r fun p q z=>⟨z.1,ht _ _ z.2.1,z.2.2⟩,ob,es,ep,k _ _ (.inl rfl) e,c⟩
 | set S n=>obtain⟨ob,es,ep,t,e,c⟩:=x;exact⟨ob,es,ep,t,k _ _ (.inl rfl) e,c⟩
 | ins C dx fs =>
  obtain⟨d,z,ne,e,mA,⟨od,es,ep,e2,c⟩,r⟩:=x
  exact⟨ho _ d,z,ne,k _ _ (.inl rfl) e,mA,⟨od,es,ep,k _ _ (.inr d) e2,c⟩,r⟩
 | own y=>obtain⟨ob,e⟩:=x;exact⟨ob,k _ _ (.inl rfl) e⟩
 | xd fs=>obtain⟨mA,⟨od,es,ep,e,c⟩,r⟩:=x;exact⟨mA,⟨od,es,ep,k _ _ (.inl rfl) e,c⟩,r⟩
 | rng lo hi=>obtain⟨t,u,v,e⟩:=x;exact⟨t,u,v,k _ _ (.inl rfl) e⟩
 | frz ob u ih=>obtain⟨e,q⟩:=x;exact⟨k _ _ (.inl rfl) e,ih q⟩
 | tbl ps =>
  have e:h.get? a=some { cls:=.none,data:=.fields ps }:=x
  show h'.get? a=some { cls:=.none,data:=.fields ps }
  exact k a _ (.inl rfl) e
 | met f y =>
  have e:h.get? a=some (W.methodObj (.ref f) (.ref y)):=x
  show h'.get? a=some (W.methodObj (.ref f) (.ref y))
  exact k a _ (.inl rfl) e
 | ext φ=>obtain⟨p,⟨o,e⟩,st⟩:=x;exact⟨st _ _ p fun o q=>k _ _ (.inl rfl) q,⟨o,k _ _ (.inl rfl) e⟩,st⟩
theorem HOk.lt (x:HOk P w H h) (e:H a=some o):a<h.objs.size:=(x a o e).lt
theorem HOk.fresh (x:HOk P w H h) (e:h.objs.size<=a):H a=none:=by
 cases q:H a with
 | none=>rfl
 | some u=>exact absurd (AU (x.lt q) e) (BC _)
theorem HOk.kept (x:HOk P w H h) (k:∀b u,h.get? b=some u->h'.get? b=some u):HOk P w H h':=fun a o e =>
 (x a o e).stay (fun b u _ q=>k b u q) (fun _ q=>q) fun _ _ q=>q
theorem HOk.laid (x:HOk P w H h) (k:∀b u,h.get? b=some u->h'.get? b=some u) (hp:h.objs.size<=a) (new:ObjOk P w (upd H a o) h' a o):HOk P w (upd H a o) h':=fun b u e=>by
 have hn:=x.fresh hp
 by_cases hb:b=a
 ·subst hb;rw[ae] at e;cases e;exact new
 ·rw[af hb] at e
  exact(x b u e).stay (fun c v _ q=>k c v q) (fun c q=>by rw[af (ah q hn)];exact q) fun c xs q=>by rw[af (ah q hn)];exact q
end
def Rd (H:Hp) (a:Addr) (u:HO):Prop:=H a=some u∨∃o,H a=some (.frz o u)
theorem Rd.ok (r:Rd H a u) (x:HOk P w H h):ObjOk P w H h a u:=by
 rcases r with r | ⟨o,r⟩
 ·exact x a u r
 ·obtain⟨_,q⟩:=x a _ r
  exact q
def Mut:Option HO->Prop
 | some (.lst _)=>True
 | some (.dK _)=>True
 | some (.dT _)=>True
 | some (.set _ _)=>True
 | some (.ins _ _ _)=>True
 | some (.ext _)=>True
 | _=>False
section
variable {P:Program}{w:World}{H:Hp}{h h':Heap}{x e:Addr}{o':HO}
theorem HOk.write (ok:HOk P w H h) (mu:Mut (H x)) (he:e=x ∨ H e=some (.own x)) (k:∀b u, b ≠ e -> h.get? b=some u -> h'.get? b=some u) (heo:∃u, h'.get? e=some u)
    (new:ObjOk P w (upd H x o') h' x o'):HOk P w (upd H x o') h':=fun b u q=>by
 have nown:∀c y,H c=some (.own y)->c≠x:=fun c y r z=>by subst z;rw[r] at mu;exact mu
 have ntup:∀c xs,H c=some (.tup xs)->c≠x:=fun c xs r z=>by subst z;rw[r] at mu;exact mu
 by_cases hb:b=x
 ·subst hb;rw[ae] at q;cases q;exact new
 ·rw[af hb] at q
  by_cases hbe:b=e
  ·have q':H b=some (.own x):=by
      rcases he with z | z
      ·exact absurd (hbe.trans z) hb
      ·rw[hbe];exact z
   rw[q] at q';cases q'
   obtain⟨v,hv⟩:=heo
   exact⟨v,by rw[hbe];exact hv⟩
  ·refine(ok b u q).stay (fun c v hc r=>k c v ?_ r) (fun c r=>by rw[af (nown c b r)];exact r) fun c xs r=>by rw[af (ntup c xs r)];exact r
   rcases hc with rfl | hc
   ·exact hbe
   ·rintro rfl
    rcases he with z | z
    ·exact nown c b hc z
    ·rw[hc] at z;cases z;exact hb rfl
end
structure Un (fs ex:List Addr) (H H':Hp) (h h':Heap):Prop where
 keep:∀b o,h.get? b=some o->H b=none->b∉fs->b∉ex->h'.get? b=some o
 slot:∀b o,h.get? b=some o->H b=none->b∈fs->b∉ex->∃sl,h'.get? b=some { o with slots:=sl }
 free:∀b o,h.get? b=some o->H b=none->b∉ex->H' b=none
 there:∀b o,h.get? b=some o->b∉ex->∃o',h'.get? b=some o'
 tups:∀b xs,H b=some (.tup xs)->H' b=some (.tup xs)
 frzs:∀b o u,H b=some (.frz o u)->H' b=some (.frz o u)
 tbls:∀b ps,H b=some (.tbl ps)->∃more,H' b=some (.tbl (ps++more))
section
variable {fs fs' ex ex':List Addr}{H H1 H2:Hp}{h h1 h2 h':Heap}{a x e:Addr}{o:HO}
theorem Un.any (u:Un fs ex H H1 h h1) (q:h.get? b=some ob) (n:H b=none) (hx:b∉ex):∃sl,h1.get? b=some { ob with slots:=sl }:=by
 by_cases hb:b∈fs
 ·exact u.slot b ob q n hb hx
 ·exact⟨ob.slots,u.keep b ob q n hb hx⟩
theorem Un.kept (k:∀b u,h.get? b=some u->h'.get? b=some u):Un fs ex H H h h' :=
 ⟨fun b ob q _ _ _=>k b ob q,fun b ob q _ _ _=>⟨ob.slots,k b ob q⟩,fun _ _ _ n _=>n,fun b ob q _=>⟨ob,k b ob q⟩,fun _ _ q=>q,fun _ _ _ q=>q,fun _ ps q=>⟨#[],by rw[q];simp⟩⟩
theorem Un.refl:Un fs ex H H h h:=Un.kept fun _ _ q=>q
theorem Un.laid (k:∀b u,h.get? b=some u->h'.get? b=some u) (hp:h.objs.size<=a) (hn:H a=none):Un fs ex H (upd H a o) h h' where
 keep:=fun b u q _ _ _=>k b u q
 slot:=fun b u q _ _ _=>⟨u.slots,k b u q⟩
 free:=fun b u q n _=>by rw[af (Ax (AU (Ah q) hp))];exact n
 there:=fun b u q _=>⟨u,k b u q⟩
 tups:=fun b xs q=>by rw[af (ah q hn)];exact q
 frzs:=fun b u xs q=>by rw[af (ah q hn)];exact q
 tbls:=fun b ps q=>⟨#[],by rw[af (ah q hn),q];simp⟩
theorem Un.write (mu:Mut (H x)) (he:e=x∨H e=some (.own x)) (k:∀b u,b≠e->h.get? b=some u->h'.get? b=some u) (heo:∃u,h'.get? e=some u):Un fs ex H (upd H x o) h h':=by
 have hx:∀b,H b=none->b≠x:=fun b n z=>by subst z;rw[n] at mu;exact mu
 have hb:∀b,H b=none->b≠e:=fun b n z=>by
  subst z
  rcases he with r | r
  ·exact hx b n r
  ·rw[n] at r;cases r
 have hm:∀b u,H b=some u->¬ Mut (some u)->b≠x:=fun b u q nm z=>by subst z;rw[q] at mu;exact nm mu
 refine⟨fun b u q n _ _=>k b u (hb b n) q,fun b u q n _ _=>⟨u.slots,k b u (hb b n) q⟩,fun b u q n _=>by rw[af (hx b n)];exact n,fun b u q _=>?_,
  fun b xs q=>by rw[af (hm b _ q fun z=>z)];exact q,fun b u xs q=>by rw[af (hm b _ q fun z=>z)];exact q,fun b ps q=>⟨#[],by rw[af (hm b _ q fun z=>z),q];simp⟩⟩
 by_cases hbe:b=e
 ·subst hbe;exact heo
 ·exact⟨u,k b u hbe q⟩
end
def trk (h:Heap) (H:Hp):List Addr:=(List.range h.objs.size).filter fun a=>(H a).isSome
def gZ (h:Heap) (H:Hp):Heap:=W.hideAll h (trk h H)
theorem sJ (h:Heap) (H:Hp):(gZ h H).objs.size=h.objs.size:=W.hideAll_size _ _
theorem vp (e:h.get? b=some o) (n:H b=none):(gZ h H).get? b=some o :=
 W.hideAll_get _ e fun hm=>by
  have q:(H b).isSome=true:=(Ap.mp hm).2
  rw[n] at q;simp at q
theorem x3 (e:(gZ h H).get? b=some o):h.get? b=some o/\H b=none:=by
 have e':h.get? b=some o:=W.of_hideAll (trk h H) e
 refine⟨e',?_⟩
 cases q:H b with
 | none=>rfl
 | some x =>
  have hm:b∈trk h H:=Ap.mpr ⟨AM.mpr (Ah e'),by simp[q]⟩
  have z:(gZ h H).get? b=none:=W.hideAll_none (trk h H) hm
  rw[z] at e;cases e
def xt (g h:Heap) (L:Addr):List (Addr × Obj):=(List.range h.objs.size).filterMap fun a=>if a=L∨(g.get? a).isSome=true then none else (h.get? a).map fun o=>(a,o)
def dh (g h:Heap) (L d:Addr):List (Addr × Obj):=(xt g h L).filter fun p=>decide (p.1≠d)
structure Mod (K:W.Frag) (mg:Str->Option Value) (base:Heap):Prop where
 kin:K.In base
 glob:base.Ns mainGlobals mg
 blt:∃mb,base.Ns builtinsNs mb/\∀x:Str,x≠"__name__"->mb x=bootBuiltins x
 nolimit:base.NoLimit
structure Cx where
 prog:Program
 w:World
 K:W.Frag
 mg:Str->Option Value
 base:Heap
 A:Around
 N:List Str
 s₀:Shared
 H₀:Hp
 env:Env
 outer:List Env
 stack:List Env
 ex:List Addr
 fn:Str->Bool
 calm:Bool
 pn:List (Addr × Obj)
 xe:Value->Shared->Prop
def frs (l:List Env):List Addr:=l.filterMap (·.frame)
abbrev Cx.fs (X:Cx):List Addr:=frs X.outer
def Vis (sc:Scope) (x:Str):Prop:=sc.names.lookup x=some .local∨sc.names.lookup x=some .cell∨sc.names.lookup x=some .free
def Loc (sc:Scope) (x:Str):Prop:=sc.names.lookup x=some .local∨sc.names.lookup x=some .cell
def Look (env:Env) (h:Heap) (m:Str->Option Value) (x:Str) (u:Value):Prop :=
 (env.kindOf x=some .local/\m x=some u)∨((env.kindOf x=some .cell∨env.kindOf x=some .free)/\∃c,env.cells.lookup x=some c/\h.IsCell c (some u))
structure Cx.Ok (X:Cx):Prop where
 mod:Mod X.K X.mg X.base
 kind:X.env.scope.kind=.function
 glob:X.env.globals=mainGlobals
 blt:X.env.builtins=builtinsNs
 above:X.s₀.heap.objs.size<=X.env.locals
 inj:∀x y c,X.env.cells.lookup x=some c->X.env.cells.lookup y=some c->x=y
 has:∀x,(X.env.kindOf x=some .cell∨X.env.kindOf x=some .free)->∃c,X.env.cells.lookup x=some c
 cab:∀x c,X.fn x=true->X.env.cells.lookup x=some c->X.s₀.heap.objs.size<=c
 hd:X.calm=true->X.A.handled=none
 frames:X.A.frames=some X.stack
 stk:X.stack=X.outer∨(X.stack=X.env::X.outer/\X.env.frame=some X.env.locals)
 exf:∀b∈X.ex,b≠X.env.locals/\∀x c,X.env.cells.lookup x=some c->c≠b
 bs:∀b o,X.base.get? b=some o->X.s₀.heap.get? b=some o/\X.H₀ b=none
 bsz:X.base.objs.size<=X.s₀.heap.objs.size
 noex:∀b o,X.base.get? b=some o->b∉X.ex
 exfs:∀b∈X.ex,b∉X.fs
 funs:X.s₀.heap.FunFrames X.base X.outer
 frf:∀b∈X.fs,X.H₀ b=none
structure Inv (X:Cx) (pins:List (Addr × Obj)) (σ:List (Option V)) (H:Hp) (s:Shared):Prop where
 ok:X.Ok
 os:s.os=X.s₀.os
 bare:AllBare s.gens
 base:Un X.fs X.ex X.H₀ H X.s₀.heap s.heap
 loc:∃m,s.heap.Ns X.env.locals m/\∀(i:Nat) (x:Str) (v:V),X.N[i]? = some x->σ[i]? = some (some v)->Vis X.env.scope x->∃u,RelV v u/\Look X.env s.heap m x u
 cell:∀x c,X.env.cells.lookup x=some c->∃v,s.heap.IsCell c v
 free:H X.env.locals=none
 freeC:∀x c,X.env.cells.lookup x=some c->H c=none
 pin:∀p∈X.pn++pins,s.heap.get? p.1=some p.2/\H p.1=none/\p.1≠X.env.locals/\p.1∉X.fs/\∀v,p.2.data≠.cell v
 hok:HOk X.prog X.w H s.heap
 len:σ.length=X.N.length
section
variable {X:Cx}{pins:List (Addr × Obj)}{σ:List (Option V)}{H H':Hp}{s:Shared}{h':Heap}
theorem Cx.Ok.nofr (ok:X.Ok) (e:X.base.get? b=some o):b∉X.fs:=fun hb=>by
 have:=(ok.funs.mem hb).1
 rw[e] at this;cases this
theorem Inv.bs (I:Inv X pins σ H s):∀b o,X.base.get? b=some o->s.heap.get? b=some o/\H b=none:=fun b o e =>
 ⟨I.base.keep b o (I.ok.bs b o e).1 (I.ok.bs b o e).2 (I.ok.nofr e) (I.ok.noex b o e),I.base.free b o (I.ok.bs b o e).1 (I.ok.bs b o e).2 (I.ok.noex b o e)⟩
theorem Inv.bk (I:Inv X pins σ H s):∀b o,X.base.get? b=some o->s.heap.get? b=some o:=fun b o e=>(I.bs b o e).1
theorem Inv.mod (I:Inv X pins σ H s):Mod X.K X.mg X.base:=I.ok.mod
theorem Inv.kIn (I:Inv X pins σ H s):X.K.In s.heap:=I.ok.mod.kin.keeps I.bk
theorem Inv.lt (I:Inv X pins σ H s):X.env.locals<s.heap.objs.size:=let ⟨_,hn,_⟩:=I.loc;hn.lt
theorem Inv.sz (I:Inv X pins σ H s):X.s₀.heap.objs.size<=s.heap.objs.size:=Az I.ok.above (AW I.lt)
theorem Inv.nofs (I:Inv X pins σ H s) (h:s.heap.objs.size<=a):a∉X.fs:=fun hb=>by
 obtain⟨_,o,ho,_⟩:=I.ok.funs.mem hb
 exact absurd (AU (Ah ho) (Az I.sz h)) (BC _)
theorem Inv.cne (I:Inv X pins σ H s):∀x c,X.env.cells.lookup x=some c->c≠X.env.locals:=fun x c e z=>by
 obtain⟨v,o,ho,hd⟩:=I.cell x c e
 obtain⟨m,⟨o',es,ep,ho',hd',_⟩,_⟩:=I.loc
 rw[z,ho'] at ho;cases ho;rw[hd'] at hd;cases hd
theorem Inv.funs (I:Inv X pins σ H s):s.heap.FunFrames X.base X.outer := by
 have all:∀(l:List Env),(∀b∈frs l,b∈X.fs)->X.s₀.heap.FunFrames X.base l->s.heap.FunFrames X.base l:=by
  intro l
  induction l with
  | nil=>intro _ _;trivial
  | cons env r ih =>
   intro hs hl
   obtain⟨hk,⟨L,o,hf,hn,ho,hd⟩,hr⟩:=hl
   have hL:L∈X.fs:=hs L (by unfold frs;rw[List.filterMap_cons,hf];exact A5)
   obtain⟨sl,e⟩:=I.base.slot L o ho (I.ok.frf L hL) hL fun z=>I.ok.exfs L z hL
   exact⟨hk,⟨L,_,hf,hn,e,hd⟩,ih (fun b hb=>hs b (by unfold frs;rw[List.filterMap_cons,hf];exact AF _ hb)) hr⟩
 exact all X.outer (fun _ hb=>hb) I.ok.funs
theorem Inv.stack (I:Inv X pins σ H s):s.heap.FunFrames X.base X.stack:=by
 rcases I.ok.stk with e | ⟨e,hf⟩
 ·rw[e];exact I.funs
 ·rw[e]
  obtain⟨m,hn,_⟩:=I.loc
  refine .cons (by rw[I.ok.kind];decide) hf hn ?_ I.funs
  exact Heap.get?_none_of_le (Az I.ok.bsz I.ok.above)
theorem Inv.stkSub (I:Inv X pins σ H s):∀b∈frs X.stack,b∈X.env.locals::X.fs:=fun b hb=>by
 rcases I.ok.stk with e | ⟨e,hf⟩
 ·rw[e] at hb;exact AF _ hb
 ·rw[e] at hb
  unfold frs at hb
  rw[List.filterMap_cons,hf] at hb
  exact hb
theorem Inv.stkFree (I:Inv X pins σ H s):∀b∈frs X.stack,H b=none:=fun b hb=>by
 rcases AA.mp (I.stkSub b hb) with e | hb
 ·rw[e];exact I.free
 ·obtain⟨_,o,ho,_⟩:=I.ok.funs.mem hb
  exact I.base.free b o ho (I.ok.frf b hb) fun z=>I.ok.exfs b z hb
theorem Inv.step {g':Array GenState}{t':Nat}{d':Drawn}{ch:List Addr}(I:Inv X pins σ H s)
    (hch:∀b∈ch,(b∈X.ex∨X.s₀.heap.objs.size<=b)/\b≠X.env.locals/\(∀x c,X.env.cells.lookup x=some c->c≠b)/\∀p∈X.pn++pins,p.1≠b)
    (keep:∀b o,b≠X.env.locals->b∉X.fs->b∉ch->s.heap.get? b=some o->H b=none->h'.get? b=some o)
    (slot:∀b o,b≠X.env.locals->b∈X.fs->b∉ch->s.heap.get? b=some o->H b=none->∃sl,h'.get? b=some { o with slots:=sl }) (free:∀b o,b∉ch->s.heap.get? b=some o->H b=none->H' b=none)
    (there:∀b o,b∉ch->s.heap.get? b=some o->∃o',h'.get? b=some o')
    (tups:∀b xs,H b=some (.tup xs)->H' b=some (.tup xs)) (frzs:∀b o u,H b=some (.frz o u)->H' b=some (.frz o u)) (tbls:∀b ps,H b=some (.tbl ps)->∃more,H' b=some (.tbl (ps++more)))
    (ns:∀m,s.heap.Ns X.env.locals m->h'.Ns X.env.locals m) (hok:HOk X.prog X.w H' h') (hg:AllBare g') :
    Inv X pins σ H' { s with heap:=h',gens:=g',drawn:=d',toks:=t' }:=by
 have neL:∀b o,X.s₀.heap.get? b=some o->b≠X.env.locals:=fun b o e=>Ax (AU (Ah e) I.ok.above)
 have neC:∀b o,X.s₀.heap.get? b=some o->b∉X.ex->b∉ch:=fun b o e hx hb=>by
  rcases (hch b hb).1 with z | z
  ·exact hx z
  ·exact absurd (AU (Ah e) z) (BC _)
 have cellK:∀x c,X.env.cells.lookup x=some c->∀v,s.heap.IsCell c v->h'.IsCell c v:=fun x c e v ⟨o,ho,hd⟩=>by
  have nch:c∉ch:=fun z=>(hch c z).2.2.1 x c e rfl
  by_cases hc:c∈X.fs
  ·obtain⟨sl,q⟩:=slot c o (I.cne x c e) hc nch ho (I.freeC x c e)
   exact⟨_,q,hd⟩
  ·exact⟨o,keep c o (I.cne x c e) hc nch ho (I.freeC x c e),hd⟩
 refine⟨I.ok,I.os,hg,⟨fun b o e n hb hx=>?_,fun b o e n hb hx=>?_,fun b o e n hx=>?_,fun b o e hx=>?_,fun b xs e=>tups b xs (I.base.tups b xs e),fun b o xs e=>frzs b o xs (I.base.frzs b o xs e),fun b ps e=>?_⟩,?_,fun x c e=>?_,?_,fun x c e=>?_,fun p hp=>?_,hok,I.len⟩
 ·exact keep b o (neL b o e) hb (neC b o e hx) (I.base.keep b o e n hb hx) (I.base.free b o e n hx)
 ·obtain⟨sl,e1⟩:=I.base.slot b o e n hb hx
  obtain⟨sl',e2⟩:=slot b _ (neL b o e) hb (neC b o e hx) e1 (I.base.free b o e n hx)
  exact⟨sl',e2⟩
 ·obtain⟨o',e1⟩:=I.base.there b o e hx
  exact free b o' (neC b o e hx) e1 (I.base.free b o e n hx)
 ·obtain⟨o',e1⟩:=I.base.there b o e hx
  exact there b o' (neC b o e hx) e1
 ·obtain⟨m1,e1⟩:=I.base.tbls b ps e
  obtain⟨m2,e2⟩:=tbls b _ e1
  exact⟨m1++m2,by rw[e2,Array.append_assoc]⟩
 ·obtain⟨m,hn,hl⟩:=I.loc
  refine⟨m,ns m hn,fun i x v e1 e2 e3=>?_⟩
  obtain⟨u,r,l⟩:=hl i x v e1 e2 e3
  refine⟨u,r,?_⟩
  rcases l with l | ⟨k,c,e,z⟩
  ·exact .inl l
  ·exact .inr ⟨k,c,e,cellK x c e _ z⟩
 ·obtain⟨v,z⟩:=I.cell x c e
  exact⟨v,cellK x c e v z⟩
 ·obtain⟨m,⟨o,_,_,ho,_⟩,_⟩:=I.loc
  exact free _ o (fun z=>(hch _ z).2.1 rfl) ho I.free
 ·obtain⟨v,o,ho,hd⟩:=I.cell x c e
  exact free c o (fun z=>(hch c z).2.2.1 x c e rfl) ho (I.freeC x c e)
 ·obtain⟨e,n,ne,nf,d⟩:=I.pin p hp
  have nch:p.1∉ch:=fun z=>(hch p.1 z).2.2.2 p hp rfl
  exact⟨keep p.1 p.2 ne nf nch e n,free p.1 p.2 nch e n,ne,nf,d⟩
theorem Inv.un {t':Nat}(I:Inv X pins σ H s) (u:Un X.fs [] H H' s.heap h') (hok:HOk X.prog X.w H' h'):Inv X pins σ H' { s with heap:=h',toks:=t' }:=by
 obtain⟨m,⟨o,es,ep,ho,r⟩,_⟩:=id I.loc
 obtain⟨sl,hL⟩:=u.any ho I.free (by simp)
 exact I.step (g':=s.gens) (d':=s.drawn) (ch:=[]) (fun _ z=>nomatch z) (fun b o _ hb _ e n=>u.keep b o e n hb (by simp)) (fun b o _ hb _ e n=>u.slot b o e n hb (by simp)) (fun b o _ e n=>u.free b o e n (by simp)) (fun b o _ e=>u.there b o e (by simp)) u.tups u.frzs u.tbls (fun m' hm=>by
  obtain⟨o',es',ep',ho',r'⟩:=hm
  rw[ho] at ho';cases ho'
  exact⟨_,es',ep',hL,r'⟩) hok I.bare
theorem Inv.call {g':Array GenState}{t':Nat}{d':Drawn}{ch:List Addr}(I:Inv X pins σ H s) (u:Un (frs X.stack) ch H H' s.heap h') (hok:HOk X.prog X.w H' h') (hg:AllBare g')
    (hch:∀b∈ch,(b∈X.ex∨X.s₀.heap.objs.size<=b)/\b≠X.env.locals/\(∀x c,X.env.cells.lookup x=some c->c≠b)/\∀p∈X.pn++pins,p.1≠b) :
    Inv X pins σ H' { s with heap:=h',gens:=g',drawn:=d',toks:=t' }:=by
 obtain⟨m,⟨o,es,ep,ho,r⟩,_⟩:=id I.loc
 obtain⟨sl,hL⟩:=u.any ho I.free fun z=>(hch _ z).2.1 rfl
 exact I.step (ch:=ch) hch (fun b o hL hb hc e n=>u.keep b o e n (fun z=>(AA.mp (I.stkSub b z)).elim hL hb) hc) (fun b o _ _ hc e n=>u.any e n hc) (fun b o hc e n=>u.free b o e n hc) (fun b o hc e=>u.there b o e hc) u.tups u.frzs u.tbls (fun m' hm=>by
  obtain⟨o',es',ep',ho',r'⟩:=hm
  rw[ho] at ho';cases ho'
  exact⟨_,es',ep',hL,r'⟩) hok hg
theorem Inv.turned {t':Nat}(I:Inv X pins σ H s) (k:∀b o,b≠it->s.heap.get? b=some o->h'.get? b=some o) (hn:H it=none) (hL:it≠X.env.locals)
    (h1:it∈X.ex∨X.s₀.heap.objs.size<=it) (h2:∀x c,X.env.cells.lookup x=some c->c≠it) (h3:∀p∈X.pn++pins,p.1≠it):Inv X pins σ H { s with heap:=h',toks:=t' }:=by
 have nit:∀b u,H b=some u->b≠it:=fun b u e z=>by rw[z,hn] at e;cases e
 refine I.step (g':=s.gens) (d':=s.drawn) (ch:=[it]) (fun b hb=>?_) (fun b o _ _ hc e _=>k b o (fun z=>hc (by simp[z])) e) (fun b o _ _ hc e _=>⟨o.slots,k b o (fun z=>hc (by simp[z])) e⟩) (fun _ _ _ _ n=>n)
  (fun b o hc e=>⟨o,k b o (fun z=>hc (by simp[z])) e⟩) (fun _ _ e=>e) (fun _ _ _ e=>e) (fun b ps e=>⟨#[],by rw[e];simp⟩) (fun m hm=>?_) (fun b u e=>?_) I.bare
 ·have e:b=it:=by simpa using hb
  subst e
  exact⟨h1,hL,h2,h3⟩
 ·obtain⟨o,es,ep,ho,r⟩:=hm
  exact⟨o,es,ep,k _ o (Ne.symm hL) ho,r⟩
 ·refine(I.hok b u e).stay (fun c v hc q=>k c v ?_ q) (fun _ q=>q) fun _ _ q=>q
  rcases hc with z | z
  ·rw[z];exact nit b u e
  ·exact nit c _ z
theorem Inv.tok (I:Inv X pins σ H s) (t:Nat):Inv X pins σ H { s with toks:=t }:=I.un (h':=s.heap) (t':=t) Un.refl I.hok
theorem Inv.kept (I:Inv X pins σ H s) (k:∀b u,s.heap.get? b=some u->h'.get? b=some u):Inv X pins σ H { s with heap:=h',toks:=t' }:=I.un (Un.kept k) (I.hok.kept k)
theorem Inv.laid (I:Inv X pins σ H s) (k:∀b u,s.heap.get? b=some u->h'.get? b=some u) (hp:s.heap.objs.size<=a) (new:ObjOk X.prog X.w (upd H a o) h' a o) :
    Inv X pins σ (upd H a o) { s with heap:=h',toks:=t' }:=I.un (Un.laid k hp (I.hok.fresh hp)) (I.hok.laid k hp new)
theorem Inv.write (I:Inv X pins σ H s) (mu:Mut (H x)) (he:e=x∨H e=some (.own x)) (k:∀b u,b≠e->s.heap.get? b=some u->h'.get? b=some u) (heo:∃u,h'.get? e=some u)
    (new:ObjOk X.prog X.w (upd H x o) h' x o):Inv X pins σ (upd H x o) { s with heap:=h',toks:=t' }:=I.un (Un.write mu he k heo) (I.hok.write mu he k heo new)
theorem Inv.pins_of (I:Inv X pins σ H s) (h:∀p∈pins',s.heap.get? p.1=some p.2/\H p.1=none/\p.1≠X.env.locals/\p.1∉X.fs/\∀v,p.2.data≠.cell v):Inv X pins' σ H s :=
 ⟨I.ok,I.os,I.bare,I.base,I.loc,I.cell,I.free,I.freeC,fun p hp=>(Aj.mp hp).elim (fun z=>I.pin p (AR _ z)) (h p),I.hok,I.len⟩
theorem nq {N:List Str}(hN:N.Nodup) {i j:Nat}{x:Str}(a:N[i]? = some x) (b:N[j]? = some x):i=j:=by
 obtain⟨h1,e1⟩:=Ac.mp a
 obtain⟨h2,e2⟩:=Ac.mp b
 exact(List.getElem_inj hN).mp (e1.trans e2.symm)
theorem lO {M:Model}{i:Nat}{x:Str}{Q:Unit -> Shared -> Prop}(I:Inv X pins σ H s) (hN:X.N.Nodup) (hi:X.N[i]? = some x) (hx:Loc X.env.scope x) (r:RelV v u)
    (h:∀s',Inv X pins (σ.set i (some v)) H s'->(∃a,Heap.SameBut a s.heap s'.heap/\(a=X.env.locals∨X.env.cells.lookup x=some a))->Q () s') (hf:X.fn x=true∨X.env.scope.names.lookup x=some .local:=by first | exact .inl rfl | exact .inr rfl | assumption):wpAny M A (storeName X.env x u) Q E s:=by
 obtain⟨m,hn,hl⟩:=id I.loc
 have hcls:(X.env.scope.kind==.class||(X.env.scope.kind==.module&&X.env.locals != X.env.globals))=false:=by rw[I.ok.kind];rfl
 have hiσ:i<σ.length:=by rw[I.len];exact(Ac.mp hi).1
 have cne:=I.cne
 have tracked:∀ {a:Addr} {h':Heap},(∃o,s.heap.get? a=some o/\H a=none)->Heap.SameBut a s.heap h'->HOk X.prog X.w H h':=fun {a h'} ha hs b ob e=>by
  obtain⟨_,_,hfree⟩:=ha
  refine(I.hok b ob e).stay (fun c w' hc q=>(hs.2 c ?_).trans q) (fun _ q=>q) fun _ _ q=>q
  rintro rfl
  rcases hc with rfl | hc
  ·rw[hfree] at e;cases e
  ·rw[hfree] at hc;cases hc
 rcases hx with hk | hk
 ·refine wpAny_storeName_local hk hn (fun h' hn' hs => ?_) hcls
  obtain⟨oL,_,_,hoL,_⟩:=id hn
  refine h _ ⟨I.ok,I.os,I.bare,⟨fun b o e n hb hx=>?_,fun b o e n hb hx=>?_,I.base.free,fun b o e hx=>?_,I.base.tups,I.base.frzs,I.base.tbls⟩,⟨_,hn',fun j y v' e1 e2 e3=>?_⟩,fun y c e=>?_,I.free,I.freeC,fun p hp=>?_,tracked ⟨oL,hoL,I.free⟩ hs,by simpa using I.len⟩ ⟨_,hs,.inl rfl⟩
  ·exact(hs.2 b (Ax (AU (Ah e) I.ok.above))).trans (I.base.keep b o e n hb hx)
  ·obtain⟨sl,e1⟩:=I.base.slot b o e n hb hx
   exact⟨sl,(hs.2 b (Ax (AU (Ah e) I.ok.above))).trans e1⟩
  ·obtain⟨o',e1⟩:=I.base.there b o e hx
   exact⟨o',(hs.2 b (Ax (AU (Ah e) I.ok.above))).trans e1⟩
  ·by_cases hj:j=i
   ·subst hj
    rw[hi] at e1;cases e1
    rw[BU hiσ] at e2
    cases e2
    exact⟨u,r,.inl ⟨hk,by simp⟩⟩
   ·rw[BV (Ne.symm hj)] at e2
    obtain⟨u',r',q⟩:=hl j y v' e1 e2 e3
    refine⟨u',r',?_⟩
    rcases q with⟨k,e⟩ | ⟨k,c,e,z⟩
    ·refine .inl ⟨k,?_⟩
     have:y≠x:=fun e=>hj (nq hN e1 (e ▸ hi))
     simp[this,e]
    ·exact .inr ⟨k,c,e,z.sameBut hs (cne y c e)⟩
  ·obtain⟨w',z⟩:=I.cell y c e
   exact⟨w',z.sameBut hs (cne y c e)⟩
  ·obtain⟨e,n,ne,nf,d⟩:=I.pin p hp
   exact⟨(hs.2 p.1 ne).trans e,n,ne,nf,d⟩
 ·have hfn:X.fn x=true := by
     rcases hf with z | z
     ·exact z
     ·rw[z] at hk;cases hk
  obtain⟨c,hc⟩:=I.ok.has x (.inl hk)
  obtain⟨w',z⟩:=I.cell x c hc
  refine wpAny_storeName_cell I.ok.kind hk hc z (fun h' hc' hs=>?_)
  obtain⟨oc,hoc,hocd⟩:=id z
  refine h { s with heap:=h' } ⟨I.ok,I.os,I.bare,⟨fun b o e n hb hx=>?_,fun b o e n hb hx=>?_,I.base.free,fun b o e hx=>?_,I.base.tups,I.base.frzs,I.base.tbls⟩,⟨m,hn.sameBut hs (Ne.symm (cne x c hc)),fun j y v' e1 e2 e3=>?_⟩,fun y c' e=>?_,I.free,I.freeC,fun p hp=>?_,tracked ⟨oc,hoc,I.freeC x c hc⟩ hs,by simpa using I.len⟩ ⟨c,hs,.inr hc⟩
  ·exact(hs.2 b (Ax (AU (Ah e) (I.ok.cab x c hfn hc)))).trans (I.base.keep b o e n hb hx)
  ·obtain⟨sl,e1⟩:=I.base.slot b o e n hb hx
   exact⟨sl,(hs.2 b (Ax (AU (Ah e) (I.ok.cab x c hfn hc)))).trans e1⟩
  ·obtain⟨o',e1⟩:=I.base.there b o e hx
   exact⟨o',(hs.2 b (Ax (AU (Ah e) (I.ok.cab x c hfn hc)))).trans e1⟩
  ·by_cases hj:j=i
   ·subst hj
    rw[hi] at e1;cases e1
    rw[BU hiσ] at e2
    cases e2
    exact⟨u,r,.inr ⟨.inl hk,c,hc,hc'⟩⟩
   ·rw[BV (Ne.symm hj)] at e2
    obtain⟨u',r',q⟩:=hl j y v' e1 e2 e3
    refine⟨u',r',?_⟩
    rcases q with q | ⟨k,c',e,z'⟩
    ·exact .inl q
    ·refine .inr ⟨k,c',e,z'.sameBut hs ?_⟩
     rintro rfl
     exact hj (nq hN e1 (I.ok.inj _ _ _ e hc ▸ hi))
  ·by_cases hcc:c'=c
   ·subst hcc;exact⟨_,hc'⟩
   ·obtain⟨w2,z2⟩:=I.cell y c' e
    exact⟨w2,z2.sameBut hs hcc⟩
  ·obtain⟨e,n,ne,nf,d⟩:=I.pin p hp
   refine⟨(hs.2 p.1 ?_).trans e,n,ne,nf,d⟩
   intro q
   rw[q,hoc] at e
   have q':oc=p.2:=Af e
   exact d w' (by rw[<- q'];exact hocd)
theorem gY (I:Inv X pins σ H s) (hN:X.N.Nodup) (hi:X.N[i]? = some x) (hx:Loc X.env.scope x) (r:RelV v u)
    (h:∀s',Inv X pins (σ.set i (some v)) H s'->Q () s') (hf:X.fn x=true∨X.env.scope.names.lookup x=some .local:=by first | exact .inl rfl | exact .inr rfl | assumption):wpAny M A (storeName X.env x u) Q E s :=
 lO I hN hi hx r (fun s' I' _=>h s' I') hf
theorem Inv.call' (I:Inv X pins σ H s) (ho:s'.os=s.os) (u:Un (frs X.stack) ch H H' s.heap s'.heap) (hok:HOk X.prog X.w H' s'.heap) (hg:AllBare s'.gens)
    (hch:∀b∈ch,(b∈X.ex∨X.s₀.heap.objs.size<=b)/\b≠X.env.locals/\(∀x c,X.env.cells.lookup x=some c->c≠b)/\∀p∈X.pn++pins,p.1≠b):Inv X pins σ H' s':=by
 obtain⟨h',g',d',t',o'⟩:=s'
 have e:o'=s.os:=ho
 subst e
 exact I.call (g':=g') (t':=t') (d':=d') u hok hg hch
end
abbrev XK:=Value->Option Addr->Hp->Prop
abbrev St:=List (Option V)
abbrev VK:=V->Hp->Prop
abbrev TE:=St->Hp->VK->Prop
abbrev TT:=St->Hp->(Bool->Hp->Prop)->Prop
abbrev TA:=St->Hp->(List V->Hp->Prop)->Prop
structure Ends where
 nx:St->Hp->Prop
 rt:VK
 bk:St->Hp->Prop:=fun _ _=>False
 ct:St->Hp->Prop:=fun _ _=>False
abbrev TS:=Ends->St->Hp->Prop
def EP (X:Cx) (pins:List (Addr × Obj)) (σ:St) (Q:VK) (u:Value) (s':Shared):Prop:=∃v H',Inv X pins σ H' s'/\RelV v u/\Q v H'
def TP (X:Cx) (pins:List (Addr × Obj)) (σ:St) (Q:Bool->Hp->Prop) (b:Bool) (s':Shared):Prop:=∃H',Inv X pins σ H' s'/\Q b H'
def AP (X:Cx) (pins:List (Addr × Obj)) (σ:St) (Q:List V->Hp->Prop) (us:List Value) (s':Shared):Prop:=∃vs H',Inv X pins σ H' s'/\Vals vs us/\Q vs H'
def SP (X:Cx) (pins:List (Addr × Obj)) (D:Ends) (f:Flow) (s':Shared):Prop :=
 match f with
 | .next=>∃σ' H',Inv X pins σ' H' s'/\D.nx σ' H'
 | .brk=>∃σ' H',Inv X pins σ' H' s'/\D.bk σ' H'
 | .cont=>∃σ' H',Inv X pins σ' H' s'/\D.ct σ' H'
 | .ret u=>∃v σ' H',Inv X pins σ' H' s'/\RelV v u/\D.rt v H'
def PE (X:Cx) (e:Expr) (t:TE):Prop :=
 ∀(pins:List (Addr × Obj)) (s:Shared) (σ:St) (H:Hp) (Q:VK),Inv X pins σ H s->t σ H Q->wpAny (model X.prog X.w) X.A (eval e X.env) (EP X pins σ Q) X.xe s
def PT (X:Cx) (e:Expr) (t:TT):Prop :=
 ∀(pins:List (Addr × Obj)) (s:Shared) (σ:St) (H:Hp) (Q:Bool->Hp->Prop),Inv X pins σ H s->t σ H Q->wpAny (model X.prog X.w) X.A (isTrue e X.env (eval e X.env)) (TP X pins σ Q) X.xe s
def PW (X:Cx) (e:Expr) (t:TT):Prop :=
 ∀(whole:Sem Value) (pins:List (Addr × Obj)) (s:Shared) (σ:St) (H:Hp) (Q:Bool->Hp->Prop),Inv X pins σ H s->t σ H Q->wpAny (model X.prog X.w) X.A (isTrue e X.env whole) (TP X pins σ Q) X.xe s
theorem PW.pt (h:PW X e t):PT X e t:=h _
def PA (X:Cx) (es:List Expr) (t:TA):Prop :=
 ∀(pos:Pos) (pins:List (Addr × Obj)) (s:Shared) (σ:St) (H:Hp) (Q:List V->Hp->Prop),Inv X pins σ H s->t σ H Q->wpAny (model X.prog X.w) X.A (spliced (backTo pos (starEach es X.env))) (AP X pins σ Q) X.xe s
def PS (X:Cx) (st:Stmt) (t:TS):Prop :=
 ∀(pins:List (Addr × Obj)) (s:Shared) (σ:St) (H:Hp) (D:Ends),Inv X pins σ H s->t D σ H->wpAny (model X.prog X.w) X.A (exec st X.env) (SP X pins D) X.xe s
def PSs (X:Cx) (st:List Stmt) (t:TS):Prop :=
 ∀(pins:List (Addr × Obj)) (s:Shared) (σ:St) (H:Hp) (D:Ends),Inv X pins σ H s->t D σ H->wpAny (model X.prog X.w) X.A (execs st X.env) (SP X pins D) X.xe s
theorem thn (h:wpAny M A t Q E s) (hQ:∀a s,Q a s->Q' a s):wpAny M A t Q' E s:=wpAny_mono h hQ fun _ _ x=>x
section
variable {X:Cx}
theorem bin (ha:PE X a ta) (hb:PE X b tb) {R:V->V->Hp->Prop}(I:Inv X pins σ H s) (h:ta σ H fun x H1=>tb σ H1 fun y H2=>R x y H2)
    {α:Type} {Q:α->Shared->Prop} {f:Value->Value->Sem α}
    (hf:∀v u s2 x y H2,Inv X pins σ H2 s2->RelV x v->RelV y u->R x y H2->wpAny (model X.prog X.w) X.A (f v u) Q X.xe s2) :
    wpAny (model X.prog X.w) X.A (eval a X.env) (fun v s₁=>wpAny (model X.prog X.w) X.A (eval b X.env) (fun u s₂=>wpAny (model X.prog X.w) X.A (f v u) Q X.xe s₂) X.xe s₁) X.xe s:=by
 refine thn (ha pins s σ H _ I h) fun v s1 ⟨x,H1,I1,r1,q1⟩=>?_
 refine thn (hb pins s1 σ H1 _ I1 q1) fun u s2 ⟨y,H2,I2,r2,q2⟩=>?_
 exact hf v u s2 x y H2 I2 r1 r2 q2
def yX (i:Nat):TE:=fun σ H Q=>∃v,σ[i]? = some (some v)/\Q v H
def tC (v:V):TE:=fun _ H Q=>Q v H
theorem y8 (hN:X.N[i]? = some x) (hv:Vis X.env.scope x) (hd:(x==("__debug__":Str))=false:=by decide) (hcd:(x==("__classdict__":Str))=false:=by decide):PE X (.Name x pos) (yX i):=by
 intro pins s σ H Q I h
 obtain⟨v,e,h⟩:=h
 obtain⟨m,hn,hl⟩:=I.loc
 obtain⟨u,r,l⟩:=hl i x v hN e hv
 have fin:EP X pins σ Q u s:=⟨v,H,I,r,h⟩
 rcases l with⟨hk,hm⟩ | ⟨hk,c,hc,hcell⟩
 ·exact wpAny_Name (wpAny_loadName_local I.ok.kind hk hn hm fin) hd
 ·rcases hk with hk | hk
  ·exact wpAny_Name (wpAny_loadName_cell I.ok.kind hk hc hcell fin) hd
  ·exact wpAny_Name (wpAny_loadName_free I.ok.kind hk hc hcell fin hcd) hd
theorem ab {i j pos}:PE X (.Constant (.int i) j pos) (tC (.int i)):=fun _ _ _ H _ I h=>wpAny_Constant_int ⟨.int i,H,I.tok _,⟨_,rfl⟩,h⟩
theorem mO {b j pos}:PE X (.Constant (.bool b) j pos) (tC (.bl b)):=fun _ _ _ H _ I h=>Constant_bool ⟨.bl b,H,I,rfl,h⟩
theorem ci {j pos}:PE X (.Constant .none j pos) (tC .non):=fun _ _ _ H _ I h=>Constant_none ⟨.non,H,I,rfl,h⟩
theorem aA {x j pos}:PE X (.Constant (.str x) j pos) (tC (.str x)):=fun _ _ _ H _ I h=>Calls.Constant_str ⟨.str x,H,I.tok _,⟨_,rfl⟩,h⟩
def Gl (X:Cx) (x:Str):Prop:=X.env.kindOf x=some .globalImplicit
theorem qA (I:Inv X pins σ H s) (hg:Gl X x) (hm:X.mg x=some u) (h:Q u s)
    (hd:(x==("__debug__":Str))=false:=by decide):wpAny (model X.prog X.w) X.A (eval (.Name x pos) X.env) Q E s :=
 Calls.Name_function_global I.ok.kind hg (Calls.loadGlobal_global (by rw[I.ok.glob];exact I.mod.glob.keeps I.bk) hm h) hd
theorem di (I:Inv X pins σ H s) (hg:Gl X x) (hm:X.mg x=none) (hv:bootBuiltins x=some u) (h:Q u s)
    (hn:x≠"__name__":=by decide) (hd:(x==("__debug__":Str))=false:=by decide):wpAny (model X.prog X.w) X.A (eval (.Name x pos) X.env) Q E s:=by
 obtain⟨mb,h1,h2⟩:=I.mod.blt
 exact Calls.Name_function_global I.ok.kind hg (Calls.loadGlobal_builtin (by rw[I.ok.glob];exact I.mod.glob.keeps I.bk) hm (by rw[I.ok.blt];exact h1.keeps I.bk) ((h2 x hn).trans hv) h) hd
theorem fM (hg:Gl X x) (hm:X.mg x=some u) (r:RelV v u) (hd:(x==("__debug__":Str))=false:=by decide):PE X (.Name x pos) (tC v) :=
 fun _ _ _ H _ I h=>qA I hg hm ⟨v,H,I,r,h⟩ hd
theorem pV (hg:Gl X x) (hm:X.mg x=none) (hv:bootBuiltins x=some u) (r:RelV v u) (hn:x≠"__name__":=by decide) (hd:(x==("__debug__":Str))=false:=by decide):PE X (.Name x pos) (tC v) :=
 fun _ _ _ H _ I h=>di I hg hm hv ⟨v,H,I,r,h⟩ hn hd
variable {a b:Expr}{ta tb:TE}{pos:Pos}
def tB (t:TE):TT:=fun σ H Q=>t σ H fun x H1=>∃c,x=.bl c/\Q c H1
theorem fe (h:PE X e t) (he:∀whole,isTrue e X.env whole=(do let v ← whole;standAt e.pos;holding [v] (truthy v)):=by intro _;rfl):PT X e (tB t):=by
 intro pins s σ H Q I hw
 refine isTrue_plain (thn (h pins s σ H _ I hw) fun v s1 ⟨x,H1,I1,r1,q1⟩=>?_) (he _)
 obtain⟨d,rfl,q⟩:=q1
 cases r1
 exact wpAny_truthy_bool ⟨H1,I1,q⟩
variable {tA tB':TT}{dh:List Expr}
def tAnd (t u:TT):TT:=fun σ H Q=>t σ H fun c H1=>if c=true then u σ H1 Q else Q false H1
def tOr (t u:TT):TT:=fun σ H Q=>t σ H fun c H1=>if c=true then Q true H1 else u σ H1 Q
def tNot (t:TT):TT:=fun σ H Q=>t σ H fun c H1=>Q (!c) H1
theorem bY (ha:PT X a tA):PW X (.BoolOp .And [a] pos) tA:=by
 intro wh pins s σ H Q I h
 refine isTrue_and (thn (ha pins s σ H Q I h) fun c s1 e=>?_)
 cases c with
 | true=>exact isTrue_and_nil e
 | false=>exact e
theorem gH (ha:PT X a tA):PW X (.BoolOp .Or [a] pos) tA:=by
 intro wh pins s σ H Q I h
 refine isTrue_or (thn (ha pins s σ H Q I h) fun c s1 e=>?_)
 cases c with
 | false=>exact isTrue_or_nil e
 | true=>exact e
theorem cx (ha:PT X a tA) (hb:PW X (.BoolOp .And (b::dh) pos) tB'):PW X (.BoolOp .And (a::b::dh) pos) (tAnd tA tB'):=by
 intro wh pins s σ H Q I h
 refine isTrue_and (thn (ha pins s σ H _ I h) fun c s1 ⟨H1,I1,q1⟩=>?_)
 cases c with
 | true=>exact hb wh pins s1 σ H1 Q I1 q1
 | false=>exact⟨H1,I1,q1⟩
theorem gf (ha:PT X a tA) (hb:PW X (.BoolOp .Or (b::dh) pos) tB'):PW X (.BoolOp .Or (a::b::dh) pos) (tOr tA tB'):=by
 intro wh pins s σ H Q I h
 refine isTrue_or (thn (ha pins s σ H _ I h) fun c s1 ⟨H1,I1,q1⟩=>?_)
 cases c with
 | true=>exact⟨H1,I1,q1⟩
 | false=>exact hb wh pins s1 σ H1 Q I1 q1
theorem fQ (ha:PT X a tA):PT X (.UnaryOp .Not a pos) (tNot tA):=by
 intro pins s σ H Q I h
 exact isTrue_not (ha pins s σ H (fun c H1=>Q (!c) H1) I h)
def zT (ta tb:TE):TE:=fun σ H Q=>ta σ H fun x H1=>∃c,x=.bl c/\if c=true then tb σ H1 Q else Q (.bl false) H1
theorem yZ {op}(h:PE X a t):PE X (.BoolOp op [a] pos) t:=fun pins s σ H Q I hw=>BoolOp_one (h pins s σ H Q I hw)
theorem uF (ha:PE X a ta) (hb:PE X (.BoolOp .And (b::dh) pos) tb):PE X (.BoolOp .And (a::b::dh) pos) (zT ta tb):=by
 intro pins s σ H Q I h
 refine BoolOp_and (thn (ha pins s σ H _ I h) fun v s1 ⟨x,H1,I1,r1,q1⟩=>?_)
 obtain⟨c,rfl,q1⟩:=q1
 cases r1
 refine wpAny_truthy_bool ?_
 cases c with
 | true=>exact hb pins s1 σ H1 Q I1 q1
 | false=>exact⟨.bl false,H1,I1,rfl,q1⟩
def tIf (t:TT) (ta tb:TE):TE:=fun σ H Q=>t σ H fun c H1=>if c=true then ta σ H1 Q else tb σ H1 Q
theorem nX (hc:PT X c tA) (ha:PE X a ta) (hb:PE X b tb):PE X (.IfExp c a b pos) (tIf tA ta tb):=by
 intro pins s σ H Q I h
 refine wpAny_IfExp (thn (hc pins s σ H _ I h) fun d s1 ⟨H1,I1,q1⟩=>?_)
 cases d with
 | true=>exact ha pins s1 σ H1 Q I1 q1
 | false=>exact hb pins s1 σ H1 Q I1 q1
end
def SqL (K:W.Frag) (H:Hp) (a:Addr) (xs:List V):Prop :=
 Rd H a (.lst xs) ∨
  ∃(o:Obj) (its:Array Value) (n:Nat),K.lookup a=some o/\o.cls=.type "list"/\o.dict=none/\o.data=.seq its n/\its.size<=sizeLine/\Vals xs its.toList
def SqT (K:W.Frag) (H:Hp) (a:Addr) (xs:List V):Prop :=
 Rd H a (.tup xs) ∨
  ∃(o:Obj) (its:Array Value) (n:Nat),K.lookup a=some o/\o.cls=.type "tuple"/\o.data=.seq its n/\its.size<=sizeLine/\Vals xs its.toList
def absV:Value->Option V
 | .none=>some .non
 | .bool b=>some (.bl b)
 | .int i _=>some (.int i)
 | .str x _=>some (.str x)
 | .bytes b _=>some (.byt b)
 | .float b _=>some (.flt b)
 | .ref a=>some (.ref a)
 | .type n=>some (.ty n)
 | _=>none
theorem RelV.abs (r:RelV x u):absV u=some x:=by
 cases x with
 | non=>cases r;rfl
 | bl _=>cases r;rfl
 | int _=>obtain⟨t,rfl⟩:=r;rfl
 | str _=>obtain⟨t,rfl⟩:=r;rfl
 | byt _=>obtain⟨t,rfl⟩:=r;rfl
 | flt _=>obtain⟨t,rfl⟩:=r;rfl
 | ref _=>cases r;rfl
 | ty _=>cases r;rfl
theorem RelV.inj (r:RelV x u) (q:RelV y u):x=y:=Af (r.abs.symm.trans q.abs)
theorem Vals.inj:∀ {xs ys:List V}{us:List Value},Vals xs us->Vals ys us->xs=ys
 | _,_,_,.nil,.nil=>rfl
 | _,_,_,.cons r t,.cons r' t'=>by rw[r.inj r',Vals.inj t t']
section
variable {X:Cx}{pins:List (Addr × Obj)}{σ:St}{H:Hp}{s:Shared}{a:Addr}{xs ys:List V}
theorem SqL.of {K:W.Frag}(h:H a=some (.lst xs)):SqL K H a xs:=.inl (.inl h)
theorem SqT.of {K:W.Frag}(h:H a=some (.tup xs)):SqT K H a xs:=.inl (.inl h)
theorem Inv.list (I:Inv X pins σ H s) (h:SqL X.K H a xs):∃its:List Value,Vals xs its/\PlainL s.heap a its.toArray/\xs.length<=sizeLine:=by
 rcases h with h | ⟨o,its,n,hk,hc,hd,hs,hz,r⟩
 ·obtain⟨z,its,n,r,e⟩:=h.ok I.hok
  exact⟨its,r,⟨_,n,e,rfl,rfl,rfl⟩,z⟩
 ·refine⟨its.toList,r,⟨o,n,I.kIn a o hk,hc,hd,by simpa using hs⟩,?_⟩
  have e:=r.length
  simp only[BD] at e
  omega
theorem Inv.tuple (I:Inv X pins σ H s) (h:SqT X.K H a xs):∃its:List Value,Vals xs its/\IsTup s.heap a its.toArray/\xs.length<=sizeLine:=by
 rcases h with h | ⟨o,its,n,hk,hc,hs,hz,r⟩
 ·obtain⟨z,its,r,p⟩:=h.ok I.hok
  exact⟨its,r,p.tup,z⟩
 ·refine⟨its.toList,r,⟨o,I.kIn a o hk,hc,n,by simpa using hs⟩,?_⟩
  have e:=r.length
  simp only[BD] at e
  omega
theorem Inv.list_inj (I:Inv X pins σ H s) (h:SqL X.K H a xs) (h':SqL X.K H a ys):xs=ys:=by
 obtain⟨its,r,⟨o,n,e,_,_,d⟩,_⟩:=I.list h
 obtain⟨its',r',⟨o',n',e',_,_,d'⟩,_⟩:=I.list h'
 rw[e] at e';cases e'
 rw[d] at d'
 injection d' with d1 _
 have:its=its':=by simpa using congrArg Array.toList d1
 subst this
 exact r.inj r'
theorem Inv.tuple_inj (I:Inv X pins σ H s) (h:SqT X.K H a xs) (h':SqT X.K H a ys):xs=ys:=by
 obtain⟨its,r,⟨o,e,_,n,d⟩,_⟩:=I.tuple h
 obtain⟨its',r',⟨o',e',_,n',d'⟩,_⟩:=I.tuple h'
 rw[e] at e';cases e'
 rw[d] at d'
 injection d' with d1 _
 have:its=its':=by simpa using congrArg Array.toList d1
 subst this
 exact r.inj r'
end
abbrev Cx.wish (X:Cx) (E:Value->Shared->Prop):Cx:={ X with xe:=E }
abbrev Cx.nox (X:Cx):Cx:=X.wish fun _ _=>False
theorem Cx.Ok.wish {X:Cx}(ok:X.Ok) (E:Value->Shared->Prop):(X.wish E).Ok :=
 ⟨ok.mod,ok.kind,ok.glob,ok.blt,ok.above,ok.inj,ok.has,ok.cab,ok.hd,ok.frames,ok.stk,ok.exf,ok.bs,ok.bsz,ok.noex,ok.exfs,ok.funs,ok.frf⟩
theorem Cx.Ok.unwish {X:Cx}{E:Value->Shared->Prop}(ok:(X.wish E).Ok):X.Ok :=
 ⟨ok.mod,ok.kind,ok.glob,ok.blt,ok.above,ok.inj,ok.has,ok.cab,ok.hd,ok.frames,ok.stk,ok.exf,ok.bs,ok.bsz,ok.noex,ok.exfs,ok.funs,ok.frf⟩
section
variable {X:Cx}{pins:List (Addr × Obj)}{σ:St}{H:Hp}{s:Shared}{E:Value->Shared->Prop}
theorem Inv.wish (I:Inv X pins σ H s) (E:Value->Shared->Prop):Inv (X.wish E) pins σ H s:=⟨I.ok.wish E,I.os,I.bare,I.base,I.loc,I.cell,I.free,I.freeC,I.pin,I.hok,I.len⟩
theorem Inv.unwish (I:Inv (X.wish E) pins σ H s):Inv X pins σ H s:=⟨I.ok.unwish,I.os,I.bare,I.base,I.loc,I.cell,I.free,I.freeC,I.pin,I.hok,I.len⟩
theorem SP.unwish (h:SP (X.wish E) pins D f s'):SP X pins D f s':=by
 cases f with
 | next=>obtain⟨σ',H',I,q⟩:=h;exact⟨σ',H',I.unwish,q⟩
 | brk=>obtain⟨σ',H',I,q⟩:=h;exact⟨σ',H',I.unwish,q⟩
 | cont=>obtain⟨σ',H',I,q⟩:=h;exact⟨σ',H',I.unwish,q⟩
 | ret u=>obtain⟨v,σ',H',I,r,q⟩:=h;exact⟨v,σ',H',I.unwish,r,q⟩
theorem PSs.nox {st:List Stmt}{t:TS}(h:PSs X.nox st t):PSs X st t:=fun pins s σ H D I hw =>
 wpAny_mono (h pins s σ H D (I.wish _) hw) (fun _ _ q=>q.unwish) fun _ _ z=>False.elim z
end
section
variable {X:Cx}{st:Stmt}{dh:List Stmt}{t u:TS}{e:Expr}{te:TE}{pos:Pos}
def zU:TS:=fun D σ H=>D.nx σ H
def yn (t u:TS):TS:=fun D σ H=>t { D with nx:=u D } σ H
theorem av:PSs X [] zU:=fun _ _ σ H _ I h=>wpAny_execs_nil ⟨σ,H,I,h⟩
theorem aa (h1:PS X st t) (h2:PSs X dh u):PSs X (st::dh) (yn t u):=by
 intro pins s σ H D I h
 refine wpAny_execs_cons (thn (h1 pins s σ H { D with nx:=u D } I h) fun f s1 q=>?_)
 cases f with
 | next =>
  obtain⟨σ',H',I',q⟩:=q
  exact h2 pins s1 σ' H' D I' q
 | ret v=>exact q
 | brk=>exact q
 | cont=>exact q
theorem ac (h1:PS X st t):PSs X [st] t:=by
 intro pins s σ H D I h
 refine wpAny_execs_cons (thn (h1 pins s σ H D I h) fun f s1 q=>?_)
 cases f with
 | next=>exact wpAny_execs_nil q
 | ret v=>exact q
 | brk=>exact q
 | cont=>exact q
theorem Inv.quiet (I:Inv X pins σ H s):interactive X.env=false:=by simp[interactive,I.ok.kind]
def zC (te:TE):TS:=fun D σ H=>te σ H fun _ H1=>D.nx σ H1
theorem bm (he:PE X e te) (hs:swapsWith e none pos.line X.env=pure false:=by rfl):PS X (.Expr e pos) (zC te):=by
 intro pins s σ H D I h
 exact wpAny_Expr_any (thn (he pins s σ H _ I h) fun v s1 ⟨x,H1,I1,r1,q1⟩=>⟨σ,H1,I1,q1⟩) I.quiet hs
def tRet (te:TE):TS:=fun D σ H=>te σ H D.rt
theorem am (he:PE X e te):PS X (.Return (some e) pos) (tRet te):=by
 intro pins s σ H D I h
 exact wpAny_Return_some (thn (he pins s σ H _ I h) fun v s1 ⟨x,H1,I1,r1,q1⟩=>⟨x,σ,H1,I1,r1,q1⟩)
def tIfS (c:TT) (t u:TS):TS:=fun D σ H=>c σ H fun b H1=>if b=true then t D σ H1 else u D σ H1
theorem aI (hc:PT X c tc) (ha:PSs X a t) (hb:PSs X b u):PS X (.If c a b pos) (tIfS tc t u):=by
 intro pins s σ H D I h
 refine wpAny_If (thn (hc pins s σ H _ I h) fun d s1 ⟨H1,I1,q1⟩=>?_)
 cases d with
 | true=>exact ha pins s1 σ H1 D I1 q1
 | false=>exact hb pins s1 σ H1 D I1 q1
def yI:TS:=fun _ _ _=>False
theorem aN:PS X st yI:=fun _ _ _ _ _ _ h=>h.elim
end
abbrev TG:=V->St->Hp->(St->Hp->Prop)->Prop
abbrev TGs:=List V->St->Hp->(St->Hp->Prop)->Prop
def PG (X:Cx) (target:Expr) (t:TG):Prop :=
 ∀(pins:List (Addr × Obj)) (s:Shared) (σ:St) (H:Hp) (v:V) (u:Value) (Q:St->Hp->Prop),Inv X pins σ H s->RelV v u->t v σ H Q ->
  wpAny (model X.prog X.w) X.A (assign target X.env u) (fun _ s'=>∃σ' H',Inv X pins σ' H' s'/\Q σ' H') X.xe s
def PGs (X:Cx) (ts:List Expr) (t:TGs):Prop :=
 ∀(pins:List (Addr × Obj)) (s:Shared) (σ:St) (H:Hp) (vs:List V) (us:List Value) (Q:St->Hp->Prop),Inv X pins σ H s->Vals vs us->t vs σ H Q ->
  wpAny (model X.prog X.w) X.A (assignInOrder ((assignEach ts X.env).map (·.2)) us) (fun _ s'=>∃σ' H',Inv X pins σ' H' s'/\Q σ' H') X.xe s
abbrev yK:=V->V->V->Hp->(Hp->Prop)->Prop
def uW (X:Cx) (t:yK):Prop :=
 ∀(pins:List (Addr × Obj)) (s:Shared) (σ:St) (H:Hp) (o i v:V) (ov iv u:Value) (Q:Hp->Prop),Inv X pins σ H s->RelV o ov->RelV i iv->RelV v u->t o i v H Q ->
  wpAny (model X.prog X.w) X.A (setItem ov iv u) (fun _ s'=>∃H',Inv X pins σ H' s'/\Q H') X.xe s
section
variable {X:Cx}{pos:Pos}
def aQ (i:Nat):TG:=fun v σ H Q=>Q (σ.set i (some v)) H
theorem ai (hN:X.N.Nodup) (hi:X.N[i]? = some x) (hx:Loc X.env.scope x) (hf:X.fn x=true∨X.env.scope.names.lookup x=some .local:=by first | exact .inl rfl | exact .inr rfl | assumption):PG X (.Name x pos) (aQ i):=by
 intro pins s σ H v u Q I r h
 exact wpAny_assign_Name (gY I hN hi hx r (fun s' I'=>⟨_,H,I',h⟩) hf)
def u8:TGs:=fun vs σ H Q=>vs=[]/\Q σ H
def j3 (t:TG) (u:TGs):TGs:=fun vs σ H Q=>∃v r,vs=v::r/\t v σ H fun σ' H'=>u r σ' H' Q
theorem bz:PGs X [] u8:=by
 intro pins s σ H vs us Q I r h
 obtain⟨e,h⟩:=h
 subst e
 cases r
 exact assignInOrder_nil ⟨σ,H,I,h⟩
theorem aF (h1:PG X e t) (h2:PGs X es u)
    (hs:(assignEach (e::es) X.env).map (·.2)=assign e X.env::(assignEach es X.env).map (·.2):=by rfl):PGs X (e::es) (j3 t u):=by
 intro pins s σ H vs us Q I r h
 obtain⟨v,vr,e1,h⟩:=h
 subst e1
 cases r with
 | cons r rr =>
  rw[hs]
  refine assignInOrder_cons (thn (h1 pins s σ H _ _ _ I r h) fun _ s1 ⟨σ1,H1,I1,q1⟩=>?_)
  exact h2 pins s1 σ1 H1 _ _ Q I1 rr q1
def wa (K:W.Frag) (n:Nat) (t:TGs):TG:=fun v σ H Q=>∃a xs,v=.ref a/\SqT K H a xs/\xs.length=n/\t xs σ H Q
theorem yz (hc:X.calm=true) (h:PGs X es t)
    (hn:(assignEach es X.env).length=n:=by rfl) (hst:(assignEach es X.env).findIdx? (·.1)=none:=by rfl):PG X (.Tuple es k pos) (wa X.K n t):=by
 intro pins s σ H v u Q I r hw
 obtain⟨a,xs,e1,hq,hl,hw⟩:=hw
 subst e1
 cases r
 obtain⟨its,rv,ht,hz⟩:=I.tuple hq
 refine assign_Tuple_tuple (I.ok.hd hc) ht (by simp[hn,<- hl,rv.length]) hst fun h' hx=>?_
 have I1:Inv X pins σ H { s with heap:=h' }:=I.kept (t':=s.toks) fun b o e=>hx b o (Ax (Ah e)) e
 exact h pins _ σ H xs _ Q I1 (by simpa using rv) hw
def gSub (to ti:TE) (t:yK):TG:=fun v σ H Q=>to σ H fun o H1=>ti σ H1 fun i H2=>t o i v H2 fun H3=>Q σ H3
theorem cO (ho:PE X o to) (hi:PE X i ti) (hs:uW X t)
    (ha:∀v,assign (.Subscript o i pos) X.env v=(do
     let ov ← holding [v] (eval o X.env)
     let iv ← holding [v,ov] (eval i X.env)
     standAt pos
     holding [v,ov,iv] (setItem ov iv v)
     release [v,ov,iv] []):=by intro _;rfl):PG X (.Subscript o i pos) (gSub to ti t):=by
 intro pins s σ H v u Q I r h
 rw[ha]
 refine zZ (AN (thn (ho pins s σ H _ I h) fun ov s1 ⟨x,H1,I1,r1,q1⟩=>?_))
 refine zZ (AN (thn (hi pins s1 σ H1 _ I1 q1) fun iv s2 ⟨y,H2,I2,r2,q2⟩=>?_))
 refine zZ (wpAny_standAt (zZ (AN (thn (hs pins s2 σ H2 x y v ov iv u _ I2 r1 r2 r q2) fun _ s3 ⟨H3,I3,q3⟩=>?_))))
 exact wpAny_release ⟨σ,H3,I3,q3⟩
def rC (te:TE) (g:TG):TS:=fun D σ H=>te σ H fun x H1=>g x σ H1 D.nx
theorem bU (he:PE X e te) (hg:PG X tg g) (hs:swapsWithSole [tg] e pos.line X.env=pure false:=by rfl) (hw:swappedStores [tg] e X.env=pure none:=by rfl)
    (h1:(assignEach [tg] X.env).map (·.2)=[assign tg X.env]:=by rfl):PS X (.Assign [tg] e pos) (rC te g):=by
 intro pins s σ H D I h
 refine wpAny_Assign_stores (thn (he pins s σ H _ I h) fun v s1 ⟨x,H1,I1,r1,q1⟩=>?_) hs hw
 rw[h1]
 exact thn (hg pins s1 σ H1 x v _ I1 r1 q1) fun _ s2 q=>q
theorem bV (hN:X.N.Nodup) (hi:X.N[i]? = some x) (hx:Loc X.env.scope x) (he:PE X e te) (hs:swapsWith e (some (.Name x pos')) pos.line X.env=pure false:=by rfl) (hf:X.fn x=true∨X.env.scope.names.lookup x=some .local:=by first | exact .inl rfl | exact .inr rfl | assumption) :
    PS X (.Assign [.Name x pos'] e pos) (rC te (aQ i)):=by
 intro pins s σ H D I h
 refine wpAny_Assign_Name (thn (he pins s σ H _ I h) fun v s1 ⟨y,H1,I1,r1,q1⟩=>?_) hs
 exact gY I1 hN hi hx r1 (fun s2 I2=>⟨_,H1,I2,q1⟩) hf
def tPar (i j:Nat) (ta:TA):TS:=fun D σ H=>ta σ H fun vs H1=>∃v w,vs=[v,w]/\D.nx ((σ.set i (some v)).set j (some w)) H1
theorem zf {kt k2 pt2}(hc:X.calm=true) (hN:X.N.Nodup) (hi:X.N[i]? = some x) (hj:X.N[j]? = some y) (hij:i ≠ j)
    (hx:X.env.scope.names.lookup x=some .local) (hy:X.env.scope.names.lookup y=some .local) (ha:PA X [a,b] ta)
    (hw:swappedStores [.Tuple [.Name x px,.Name y py] kt pt] (.Tuple [a,b] k2 pt2) X.env=pure (some [x,y]))
    (hs:swapsWithSole [.Tuple [.Name x px,.Name y py] kt pt] (.Tuple [a,b] k2 pt2) pos.line X.env=pure false:=by rfl) :
    PS X (.Assign [.Tuple [.Name x px,.Name y py] kt pt] (.Tuple [a,b] k2 pt2) pos) (tPar i j ta):=by
 intro pins s σ H D I h
 rw[exec_Assign_arm]
 refine zZ (wpAny_standAt ?_)
 rw[hs]
 refine zZ (Ab ?_)
 rw[if_neg (by decide)]
 refine zZ (Tuple_ (thn (ha _ pins s σ H _ I h) fun us s1 ⟨vs,H1,I1,r1,q1⟩=>?_))
 obtain⟨v,w,e1,q1⟩:=q1
 subst e1
 obtain⟨u1, u2, rfl, rv, rw'⟩:∃u1 u2, us=[u1, u2] /\ RelV v u1 /\ RelV w u2 := by
  cases r1 with
  | cons p q =>
   cases q with
   | cons p' q' =>
    cases q'
    exact⟨_,_,rfl,p,p'⟩
 refine wpAny_newObj_type ?_ (by show 2<=sizeLine;decide)
 have I2:Inv X pins σ H1 { s1 with heap:=s1.heap.push { cls:=.type "tuple",data:=.seq [u1,u2].toArray } }:=I1.kept (t':=s1.toks) fun b o e=>An _ e
 rw[hw]
 refine zZ (Ab ?_)
 show wpAny (model X.prog X.w) X.A (do rule "assign.swapped-stores";let items ← unpackItems (.ref s1.heap.objs.size) 2 none;assignInOrder [fun v=>bindName X.env y v,fun v=>bindName X.env x v] items.reverse;pure Flow.next) _ _ _
 refine zZ (wpAny_rule (zZ (unpackItems_tuple (items:=#[u1,u2]) (I.ok.hd hc) (IsTup.new s1.heap _) fun h' hx'=>?_)))
 have I3:=I2.kept (h':=h') (t':=s1.toks) fun b o e=>hx' b o (Ax (Ah e)) e
 show wpAny _ _ (assignInOrder [fun v=>bindName X.env y v,fun v=>bindName X.env x v] [u2,u1] >>= fun _=>pure Flow.next) _ _ _
 refine zZ (assignInOrder_cons (wpAny_bindName (gY I3 hN hj (.inl hy) rw' (fun s2 I4=>?_) (.inr hy))))
 refine assignInOrder_cons (wpAny_bindName (gY I4 hN hi (.inl hx) rv (fun s3 I5=>assignInOrder_nil (Ab ?_)) (.inr hx)))
 rw[List.set_comm _ _ (Ne.symm hij)] at I5
 exact⟨_,H1,I5,q1⟩
end
section
variable {X:Cx}{pos:Pos}
def zu (c:TT) (tb:TS):TS:=fun D σ H=>∃W:Nat->St->Hp->Prop,(∃m,W m σ H)/\∀m σ H,W m σ H ->
 c σ H fun b H1=>if b=true then ∃N:St->Hp->Prop,(∀σ' H',N σ' H'->∃m',m'<m/\W m' σ' H')/\tb { D with nx:=N,ct:=N,bk:=D.nx } σ H1 else D.nx σ H1
theorem dP (hp:PassesOwn (model X.prog X.w) X.A X.env X.xe) (hc:PT X c tc) (hb:PSs X body tb):PS X (.While c body [] pos) (zu tc tb) := by
 intro pins s σ H D I h
 obtain⟨W,⟨m0,w0⟩,turn⟩:=h
 refine wpAny_While (codeAny_whileLoop (fun n s'=>∃σ' H',Inv X pins σ' H' s'/\W n σ' H') ?_ m0 ⟨σ,H,I,w0⟩)
 rintro n s1 ⟨σ1,H1,I1,w1⟩
 refine wpAny_passesOwn hp (thn (hc pins s1 σ1 H1 _ I1 (turn n σ1 H1 w1)) fun b s2 ⟨H2,I2,q2⟩=>?_)
 cases b with
 | true =>
  obtain⟨N,hN,q2⟩:=q2
  rw[if_pos rfl]
  refine wpAny_passesOwn hp (thn (hb pins s2 σ1 H2 _ I2 q2) fun f s3 q3=>?_)
  cases f with
  | next =>
   obtain⟨σ3,H3,I3,n3⟩:=q3
   obtain⟨m',hm,w3⟩:=hN σ3 H3 n3
   exact⟨m',hm,σ3,H3,I3,w3⟩
  | cont =>
   obtain⟨σ3,H3,I3,n3⟩:=q3
   obtain⟨m',hm,w3⟩:=hN σ3 H3 n3
   exact⟨m',hm,σ3,H3,I3,w3⟩
  | brk=>exact q3
  | ret v=>exact q3
 | false =>
  rw[if_neg AB]
  exact wpAny_execs_nil ⟨σ1,H2,I2,q2⟩
end
structure It where
 go:Nat->Hp->Prop
 yld:Nat->Hp->V->Hp->Prop
 stop:Nat->Hp->Prop
def ed (X:Cx) (pins:List (Addr × Obj)) (H:Hp) (b:Addr):Prop :=
 H b=none/\b≠X.env.locals/\b∉X.fs/\(b∈X.ex∨X.s₀.heap.objs.size<=b)/\(∀x c,X.env.cells.lookup x=some c->c≠b)/\∀p∈X.pn++pins,p.1≠b
theorem Inv.fpOk (I:Inv X pins σ H s) (hb:s.heap.objs.size<=b) (hn:H' b=none):ed X pins H' b:=by
 refine⟨hn,Bo (AU I.lt hb),I.nofs hb,.inr (Az I.sz hb),fun x c e z=>?_,fun p hp z=>?_⟩
 ·obtain⟨v,q⟩:=I.cell x c e
  exact absurd (AU q.lt (by rw[z];exact hb)) (BC _)
 ·exact absurd (AU (Ah (I.pin p hp).1) (by rw[z];exact hb)) (BC _)
structure Turn (P:Program) (w:World) (K:W.Frag) (tg:Expr) (J:It) (fp:List Addr) (it:Addr) (tn:Nat -> Heap -> Prop):Prop where
 mem:it∈fp
 obj:∀i h,tn i h->∀b∈fp,∃o,h.get? b=some o/\∀v,o.data≠.cell v
 keep:∀i h h',tn i h->(∀b∈fp,∀o,h.get? b=some o->h'.get? b=some o)->tn i h'
 item:∀(X:Cx),X.prog=P->X.w=w->X.K=K->X.calm=true->∀(i:Nat) (pins:List (Addr × Obj)) (s:Shared) (σ:St) (H:Hp) (E:Value->Shared->Prop),Inv X pins σ H s->(∀b∈fp,ed X pins H b)->tn i s.heap->J.go i H ->
  wpAny (model P w) X.A (pyNext (.ref it)) (fun r s1=>∃u,r=some u /\
   wpAny (model P w) X.A (letOwnedTupleGo tg (.ref it) u) (fun _ s2=>∃x H',Inv X pins σ H' s2/\RelV x u/\J.yld i H x H'/\tn (i+1) s2.heap/\∀b∈fp,H' b=none) E s1) E s
 done:∀(X:Cx),X.prog=P->X.w=w->X.K=K->X.calm=true->∀(i:Nat) (pins:List (Addr × Obj)) (s:Shared) (σ:St) (H:Hp) (E:Value->Shared->Prop),Inv X pins σ H s->(∀b∈fp,ed X pins H b)->tn i s.heap->J.stop i H ->
  wpAny (model P w) X.A (pyNext (.ref it)) (fun r s1=>r=none/\Inv X pins σ H s1) E s
 self:∀(A:Around) (i:Nat) (s:Shared) (Q:Value->Shared->Prop) (E:Value->Shared->Prop),tn i s.heap->Q (.ref it) s->wpAny (model P w) A (pyIter (.ref it)) Q E s
abbrev TI:=St->Hp->(It->Hp->Prop)->Prop
def PIE (X:Cx) (pins:List (Addr × Obj)) (σ:St) (tg:Expr) (R:It->Hp->Prop) (itv:Value) (s2:Shared):Prop :=
 ∃(it:Addr) (fp:List Addr) (tn:Nat->Heap->Prop) (J:It) (H':Hp),itv=.ref it/\Inv X pins σ H' s2/\Turn X.prog X.w X.K tg J fp it tn/\tn 0 s2.heap/\(∀b∈fp,ed X pins H' b)/\R J H'
def PI (X:Cx) (tg iter:Expr) (wi:TI):Prop :=
 ∀(pins:List (Addr × Obj)) (s:Shared) (σ:St) (H:Hp) (R:It->Hp->Prop),Inv X pins σ H s->wi σ H R ->
  wpAny (model X.prog X.w) X.A (eval iter X.env) (fun v s1=>wpAny (model X.prog X.w) X.A (pyIter v) (PIE X pins σ tg R) X.xe s1) X.xe s
theorem mS (ho:s.heap.get? it=some o) (hc:o.cls=.type n) (hd:o.data=.fields vs)
    (hn:["enumerate","zip","dict_itemiterator","dict_reverseitemiterator","odict_iterator","itertools.zip_longest","itertools.pairwise"].contains n=false) (hQ:Q () s):wpAny M A (letOwnedTupleGo tg (.ref it) u) Q E s:=by
 unfold letOwnedTupleGo
 cases tg <;> first
  | exact Ab hQ
  | (cases u <;> first
      | exact Ab hQ
      | (refine zZ (wpAny_load ho ?_)
         rw[hc,hd]
         show wpAny M A (if (["enumerate","zip","dict_itemiterator","dict_reverseitemiterator","odict_iterator","itertools.zip_longest","itertools.pairwise"].contains n&&vs[0]?==some (rawInt _))=true then _ else _) Q E s
         rw[if_neg (by intro h;rw[hn,Bool.false_and] at h;cases h)]
         exact Ab hQ))
def Itl (K:W.Frag) (a:Addr):It :=
 ⟨fun i H=>∃xs x,SqL K H a xs/\xs[i]? = some x,fun i H x H'=>H'=H/\∀xs,SqL K H a xs->xs[i]? = some x,fun i H=>∃xs,SqL K H a xs/\xs.length<=i⟩
def Itt (K:W.Frag) (a:Addr):It :=
 ⟨fun i H=>∃xs x,SqT K H a xs/\xs[i]? = some x,fun i H x H'=>H'=H/\∀xs,SqT K H a xs->xs[i]? = some x,fun i H=>∃xs,SqT K H a xs/\xs.length<=i⟩
def Itr (lo:Int) (n:Nat):It:=⟨fun i _=>i<n,fun i H x H'=>H'=H/\x=.int (lo+i),fun i _=>n<=i⟩
theorem sK {P:Program}{w:World}{K:W.Frag}{tg:Expr}(a it:Addr):Turn P w K tg (Itl K a) [it] it (fun i h=>h.IsListIter it a i) where
 mem:=by simp
 obj:=fun i h st b hb=>by
  have e:b=it:=by simpa using hb
  subst e
  obtain⟨o,e,c,d⟩:=st
  exact⟨o,e,fun v z=>by rw[d] at z;cases z⟩
 keep:=fun i h h' st k=>st.at fun o e=>k it (by simp) o e
 item:=by
  intro X hP hw hK hc i pins s σ H E I hf st hg
  subst hP hw hK
  obtain⟨xs,x,hq,hx⟩:=hg
  obtain⟨its,rv,p,hz⟩:=I.list hq
  obtain⟨u,hu,ru⟩:=rv.get hx
  obtain⟨f0,f1,f2,f3,f4,f5⟩:=hf it (by simp)
  refine wpAny_pyNext_list_item st p.isList (x:=u) (by simpa using hu) fun h' st' sb=>?_
  have I1:Inv X pins σ H { s with heap:=h' }:=I.turned (t':=s.toks) (fun b o hb e=>(sb.2 b hb).trans e) f0 f1 f3 f4 f5
  obtain⟨o,e,c,d⟩:=id st'
  exact⟨u,rfl,mS (s:={ s with heap:=h' }) e c d (by decide) ⟨x,H,I1,ru,⟨rfl,fun ys hy=>by rw[I.list_inj hy hq];exact hx⟩,st',fun b hb=>(hf b hb).1⟩⟩
 done:=by
  intro X hP hw hK hc i pins s σ H E I hf st hg
  subst hP hw hK
  obtain⟨xs,hq,hx⟩:=hg
  obtain⟨its,rv,p,hz⟩:=I.list hq
  obtain⟨f0,f1,f2,f3,f4,f5⟩:=hf it (by simp)
  have hl:=rv.length
  exact wpAny_pyNext_list_end (I.ok.hd hc) st p.isList (by simp;omega) fun h' eb=>⟨rfl,I.turned (t':=s.toks) (fun b o hb e=>eb b o hb e) f0 f1 f3 f4 f5⟩
 self:=fun _ _ _ _ _ st h=>wpAny_pyIter_listiter st h
theorem kw {P:Program}{w:World}{K:W.Frag}{tg:Expr}(a it:Addr):Turn P w K tg (Itt K a) [it] it (fun i h=>h.IsTupleIter it a i) where
 mem:=by simp
 obj:=fun i h st b hb=>by
  have e:b=it:=by simpa using hb
  subst e
  obtain⟨o,e,c,d⟩:=st
  exact⟨o,e,fun v z=>by rw[d] at z;cases z⟩
 keep:=fun i h h' st k=>st.at fun o e=>k it (by simp) o e
 item:=by
  intro X hP hw hK hc i pins s σ H E I hf st hg
  subst hP hw hK
  obtain⟨xs,x,hq,hx⟩:=hg
  obtain⟨its,rv,p,hz⟩:=I.tuple hq
  obtain⟨u,hu,ru⟩:=rv.get hx
  obtain⟨f0,f1,f2,f3,f4,f5⟩:=hf it (by simp)
  refine wpAny_pyNext_tuple_item st (show s.heap.IsTuple a its.toArray from p) (x:=u) (by simpa using hu) fun h' st' sb=>?_
  have I1:Inv X pins σ H { s with heap:=h' }:=I.turned (t':=s.toks) (fun b o hb e=>(sb.2 b hb).trans e) f0 f1 f3 f4 f5
  obtain⟨o,e,c,d⟩:=id st'
  exact⟨u,rfl,mS (s:={ s with heap:=h' }) e c d (by decide) ⟨x,H,I1,ru,⟨rfl,fun ys hy=>by rw[I.tuple_inj hy hq];exact hx⟩,st',fun b hb=>(hf b hb).1⟩⟩
 done:=by
  intro X hP hw hK hc i pins s σ H E I hf st hg
  subst hP hw hK
  obtain⟨xs,hq,hx⟩:=hg
  obtain⟨its,rv,p,hz⟩:=I.tuple hq
  obtain⟨f0,f1,f2,f3,f4,f5⟩:=hf it (by simp)
  have hl:=rv.length
  exact wpAny_pyNext_tuple_end (I.ok.hd hc) st (show s.heap.IsTuple a its.toArray from p) (by simp;omega) fun h' eb=>⟨rfl,I.turned (t':=s.toks) (fun b o hb e=>eb b o hb e) f0 f1 f3 f4 f5⟩
 self:=fun _ _ _ _ _ st h=>wpAny_pyIter_tupleiter st h
theorem rZ {P:Program}{w:World}{K:W.Frag}{tg:Expr}(it:Addr) (lo:Int) (n:Nat):Turn P w K tg (Itr lo n) [it] it (fun i h => IsRangeIter h it (lo+(i:Nat) * 1) ((n:Int)-(i:Nat)) 1) where
 mem:=by simp
 obj:=fun i h st b hb=>by
  have e:b=it:=by simpa using hb
  subst e
  exact⟨_,st,fun v z=>by
   have z':Data.fields _=Data.cell v:=z
   cases z'⟩
 keep:=fun i h h' st k=>k it (by simp) _ st
 item:=by
  intro X hP hw hK hc i pins s σ H E I hf st hg
  subst hP hw hK
  obtain⟨f0,f1,f2,f3,f4,f5⟩:=hf it (by simp)
  have W:=Walks.range (prog:=X.prog) (w:=X.w) (I.ok.hd hc) it lo 1 n
  refine W.item i s _ _ hg st fun v h' tk hv st' kk=>?_
  obtain⟨t,rfl⟩:=hv
  have I1:Inv X pins σ H { s with heap:=h',toks:=tk }:=I.turned (fun b o hb e=>kk b o (by simpa using hb) e) f0 f1 f3 f4 f5
  refine⟨_,rfl,mS (s:={ s with heap:=h',toks:=tk }) (n:="range_iterator") st' rfl rfl (by decide) ⟨.int (lo+i),H,I1,⟨t,?_⟩,⟨rfl,rfl⟩,st',fun b hb=>(hf b hb).1⟩⟩
  rw[Int.mul_one]
 done:=by
  intro X hP hw hK hc i pins s σ H E I hf st hg
  subst hP hw hK
  obtain⟨f0,f1,f2,f3,f4,f5⟩:=hf it (by simp)
  exact wpAny_pyNext_range_end (I.ok.hd hc) st (by have:n<=i:=hg;omega) fun h' eb=>⟨rfl,I.turned (t':=s.toks) (fun b o hb e=>eb b o hb e) f0 f1 f3 f4 f5⟩
 self:=fun _ _ _ _ _ st h=>wpAny_pyIter_rangeiter st h
section
variable {X:Cx}{tg:Expr}
def wR (K:W.Frag) (tl:TE):TI:=fun σ H R=>tl σ H fun x H1=>∃a,x=.ref a/\(∃xs,SqL K H1 a xs)/\R (Itl K a) H1
def y9 (K:W.Frag) (tl:TE):TI:=fun σ H R=>tl σ H fun x H1=>∃a,x=.ref a/\(∃xs,SqT K H1 a xs)/\R (Itt K a) H1
theorem xf {l:Expr}{tl:TE}(hl:PE X l tl):PI X tg l (wR X.K tl):=by
 intro pins s σ H R I h
 refine thn (hl pins s σ H _ I h) fun v s1 ⟨x,H1,I1,r1,q1⟩=>?_
 obtain⟨a,e,⟨xs,hq⟩,q⟩:=q1
 subst e
 cases r1
 obtain⟨its,rv,p,hz⟩:=I1.list hq
 refine wpAny_pyIter_list p.isList ?_
 refine⟨s1.heap.objs.size,[s1.heap.objs.size],_,_,H1,rfl,I1.kept (t':=s1.toks) fun b o e=>An _ e,sK a _,⟨_,At _ rfl,rfl,rfl⟩,fun b hb=>?_,q⟩
 have e:b=s1.heap.objs.size:=by simpa using hb
 subst e
 exact I1.fpOk (Aa _) (I1.hok.fresh (Aa _))
theorem zi {l:Expr}{tl:TE}(hl:PE X l tl):PI X tg l (y9 X.K tl):=by
 intro pins s σ H R I h
 refine thn (hl pins s σ H _ I h) fun v s1 ⟨x,H1,I1,r1,q1⟩=>?_
 obtain⟨a,e,⟨xs,hq⟩,q⟩:=q1
 subst e
 cases r1
 obtain⟨its,rv,p,hz⟩:=I1.tuple hq
 refine Bg (show s1.heap.IsTuple a its.toArray from p) ?_
 refine⟨s1.heap.objs.size,[s1.heap.objs.size],_,_,H1,rfl,I1.kept (t':=s1.toks) fun b o e=>An _ e,kw a _,⟨_,At _ rfl,rfl,rfl⟩,fun b hb=>?_,q⟩
 have e:b=s1.heap.objs.size:=by simpa using hb
 subst e
 exact I1.fpOk (Aa _) (I1.hok.fresh (Aa _))
theorem uP {R:It->Hp->Prop}{lo hi:Int}{tk:Nat}(I:Inv X pins σ H s) (h1:-(2 ^ 62)<=lo) (h2:lo<2 ^ 62) (h3:-(2 ^ 62)<=hi) (h4:hi<2 ^ 62)
    (q:R (Itr lo (hi-lo).toNat) H):wpAny (model X.prog X.w) X.A (pyIter (.ref s.heap.objs.size)) (PIE X pins σ tg R) E { s with heap:=s.heap.push { cls:=.type "range",data:=.fields #[.int lo t,.int hi u,.int 1 v] },toks:=tk }:=by
 refine wpAny_pyIter_range (IsRange.new ..) (small_one h1 h2 h3 h4) ?_
 have I1:Inv X pins σ H { s with heap:=s.heap.push { cls:=.type "range",data:=.fields #[.int lo t,.int hi u,.int 1 v] },toks:=tk }:=I.kept fun b o e=>An _ e
 refine⟨(s.heap.push { cls:=.type "range",data:=.fields #[.int lo t,.int hi u,.int 1 v] }).objs.size,[(s.heap.push { cls:=.type "range",data:=.fields #[.int lo t,.int hi u,.int 1 v] }).objs.size],_,_,H,rfl,
  I1.kept (t':=tk) fun b o e=>An _ e,rZ _ lo (hi-lo).toNat,?_,fun b hb=>?_,q⟩
 ·have e1:lo+((0:Nat):Int) * 1=lo:=by simp
  have e2:(((hi-lo).toNat:Nat):Int)-((0:Nat):Int)=Builtin.Range.rangeSize lo hi 1:=by rw[rangeSize_one];split <;> omega
  show IsRangeIter _ _ (lo+((0:Nat):Int) * 1) ((((hi-lo).toNat:Nat):Int)-((0:Nat):Int)) 1
  rw[e1,e2]
  exact At _ rfl
 ·have e:b=(s.heap.push { cls:=.type "range",data:=.fields #[.int lo t,.int hi u,.int 1 v] }).objs.size:=by simpa using hb
  subst e
  exact I1.fpOk (Aa _) (I1.hok.fresh (Aa _))
def zM (ta:TA):TI:=fun σ H R=>ta σ H fun vs H1=>∃j:Int,vs=[.int j]/\-(2 ^ 62)<=j/\j<2 ^ 62/\R (Itr 0 j.toNat) H1
theorem dq (hg:Gl X "range") (hm:X.mg "range"=none) (ha:PA X [a] ta) (hs:starEach [a] X.env=[(false,eval a X.env)]:=by rfl):PI X tg (.Call (.Name "range" p) [a] [] pos) (zM ta):=by
 intro pins s σ H R I h
 refine Call_ (di I hg hm boot_range (PyProof.Rows.callWith_type1 (thn (ha pos pins s σ H _ I h) fun us s1 ⟨vs,H1,I1,r1,q1⟩=>?_) hs rfl))
 obtain⟨j,e,q1,q2,q⟩:=q1
 subst e
 cases r1 with
 | cons r rr =>
  cases rr
  obtain⟨t,rfl⟩:=r
  exact call_range_1 (uP I1 (by omega) (by omega) q1 q2 (by simpa using q))
def tFor (wi:TI) (g:TG) (tb:TS):TS:=fun D σ H=>wi σ H fun J H1=>∃W:Nat->Nat->St->Hp->Prop,(∃m,W 0 m σ H1)/\∀i m σ H,W i m σ H ->
 (J.stop i H/\D.nx σ H)∨(J.go i H/\∃N:St->Hp->Prop,(∀σ' H',N σ' H'->∃m',m'<m/\W (i+1) m' σ' H')/\∀x H',J.yld i H x H'->g x σ H' fun σ2 H2=>tb { D with nx:=N,ct:=N,bk:=D.nx } σ2 H2)
def iH (fp:List Addr) (h:Heap):List (Addr × Obj):=fp.filterMap fun b=>(h.get? b).map fun o=>(b,o)
theorem fE (hb:b∈fp) (e:h.get? b=some o):(b,o)∈iH fp h:=BE.mpr ⟨b,hb,by rw[e];rfl⟩
theorem tQ (hp:p∈iH fp h):p.1∈fp/\h.get? p.1=some p.2:=by
 obtain⟨b,hb,e⟩:=BE.mp hp
 cases q:h.get? b with
 | none=>rw[q] at e;cases e
 | some o =>
  rw[q] at e
  have e':(b,o)=p:=Af e
  subst e'
  exact⟨hb,q⟩
theorem Inv.pinned (I:Inv X pins σ H s) (hf:∀b∈fp,ed X pins H b) (ho:∀b∈fp,∃o,s.heap.get? b=some o/\∀v,o.data≠.cell v):Inv X (pins++iH fp s.heap) σ H s :=
 I.pins_of fun p hp=>(Aj.mp hp).elim (fun z=>I.pin p (AS _ z)) fun z=>by
  obtain⟨hb,e⟩:=tQ z
  obtain⟨f0,f1,f2,_⟩:=hf p.1 hb
  obtain⟨o,e',d⟩:=ho p.1 hb
  rw[e] at e';cases e'
  exact⟨e,f0,f1,f2,d⟩
theorem Inv.unpinned (I:Inv X (pins++pl) σ H s):Inv X pins σ H s:=I.pins_of fun p hp=>I.pin p (AS _ (AR _ hp))
theorem aZ (hp:PassesOwn (model X.prog X.w) X.A X.env X.xe) (hc:X.calm=true) (hi:PI X tg iter wi) (hg:PG X tg g) (hb:PSs X body tb)
    (hs:∀x,foldedSetIterable iter X.env x=pure x:=by intro _;rfl):PS X (.For tg iter body [] pos) (tFor wi g tb):=by
 intro pins s σ H D I h
 refine wpAny_For (thn (hi pins s σ H _ I h) fun v s1 h1=>thn h1 fun itv s2 h2=>?_) hs
 obtain⟨it,fp,tn,J,H2,e,I2,T,st2,f2,W,⟨m0,w0⟩,turn⟩:=h2
 subst e
 have stat:∀ {H':Hp},(∀b∈fp,H' b=none)->∀b∈fp,ed X pins H' b:=fun hn b hb=>⟨hn b hb,(f2 b hb).2⟩
 refine codeAny_forLoop_any (fun n s'=>∃i σ' H',Inv X pins σ' H' s'/\tn i s'.heap/\(∀b∈fp,H' b=none)/\W i n σ' H') ?_ m0 ⟨0,σ,H2,I2,st2,fun b hb=>(f2 b hb).1,w0⟩
 rintro n s3 ⟨i,σ3,H3,I3,st3,fr3,w3⟩
 rcases turn i n σ3 H3 w3 with⟨stop,qn⟩ | ⟨go,N,hN,step⟩
 ·refine wpAny_passesOwn hp (thn (T.done X rfl rfl rfl hc i pins s3 σ3 H3 X.xe I3 (stat fr3) st3 stop) fun r s4 ⟨hr,I4⟩=>?_)
  subst hr
  exact wpAny_execs_nil ⟨σ3,H3,I4,qn⟩
 ·refine wpAny_passesOwn hp (thn (T.item X rfl rfl rfl hc i pins s3 σ3 H3 X.xe I3 (stat fr3) st3 go) fun r s4 ⟨u,hr,h4⟩=>?_)
  subst hr
  refine wpAny_passesOwn hp (thn h4 fun _ s5 ⟨x,H5,I5,r5,y5,st5,fr5⟩=>?_)
  have I5':=I5.pinned (stat fr5) (T.obj _ _ st5)
  refine wpAny_passesOwn hp (thn (hg _ s5 σ3 H5 x u _ I5' r5 (step x H5 y5)) fun _ s6 ⟨σ6,H6,I6,q6⟩=>?_)
  refine wpAny_passesOwn hp (thn (hb _ s6 σ6 H6 _ I6 q6) fun f s7 q7=>?_)
  have again:∀ {σ7:St} {H7:Hp},Inv X (pins++iH fp s5.heap) σ7 H7 s7->N σ7 H7->∃m,m<n/\∃i σ' H',Inv X pins σ' H' s7/\tn i s7.heap/\(∀b∈fp,H' b=none)/\W i m σ' H':=fun {σ7 H7} I7 n7=>by
   obtain⟨m',hm,w7⟩:=hN σ7 H7 n7
   refine⟨m',hm,i+1,σ7,H7,I7.unpinned,T.keep _ _ _ st5 fun b hb o e=>(I7.pin (b,o) (AS _ (AS _ (fE hb e)))).1,fun b hb=>?_,w7⟩
   obtain⟨o,e,d⟩:=T.obj _ _ st5 b hb
   exact(I7.pin (b,o) (AS _ (AS _ (fE hb e)))).2.1
  cases f with
  | next=>obtain⟨σ7,H7,I7,n7⟩:=q7;exact again I7 n7
  | cont=>obtain⟨σ7,H7,I7,n7⟩:=q7;exact again I7 n7
  | brk=>obtain⟨σ7,H7,I7,q7⟩:=q7;exact⟨σ7,H7,I7.unpinned,q7⟩
  | ret v=>obtain⟨x7,σ7,H7,I7,r7,q7⟩:=q7;exact⟨x7,σ7,H7,I7.unpinned,r7,q7⟩
end
theorem cS {K:W.Frag}{a:Addr}{xs:List V}{g:TG}{tb:TS}{D:Ends}{σ:St}{H:Hp}(Pv:Nat -> St -> Hp -> Prop) (h0:Pv 0 σ H) (hl:∀i σ H, i <= xs.length -> Pv i σ H -> SqL K H a xs)
    (hs:∀i x σ H,xs[i]? = some x->Pv i σ H->g x σ H fun σ2 H2=>tb { D with nx:=Pv (i+1),ct:=Pv (i+1),bk:=D.nx } σ2 H2) (hd:∀σ H,Pv xs.length σ H->D.nx σ H) :
    ∃W:Nat->Nat->St->Hp->Prop,(∃m,W 0 m σ H)/\∀i m σ H,W i m σ H ->
     ((Itl K a).stop i H/\D.nx σ H)∨((Itl K a).go i H/\∃N:St->Hp->Prop,(∀σ' H',N σ' H'->∃m',m'<m/\W (i+1) m' σ' H')/\∀x H',(Itl K a).yld i H x H'->g x σ H' fun σ2 H2=>tb { D with nx:=N,ct:=N,bk:=D.nx } σ2 H2):=by
 refine⟨fun i m σ H=>m=xs.length-i/\i<=xs.length/\Pv i σ H,⟨xs.length,by simp,AC _,h0⟩,?_⟩
 rintro i m σ H ⟨rfl,hi,p⟩
 have q:=hl i σ H hi p
 by_cases hlt:i<xs.length
 ·refine .inr ⟨⟨xs,xs[i],q,by simp[hlt]⟩,Pv (i+1),fun σ' H' p'=>⟨xs.length-(i+1),by omega,rfl,hlt,p'⟩,fun x H' y=>?_⟩
  obtain⟨e,y⟩:=y
  subst e
  exact hs i x σ _ (y xs q) p
 ·have e:i=xs.length:=by omega
  subst e
  exact .inl ⟨⟨xs,q,Aa _⟩,hd σ H p⟩
theorem cC {K:W.Frag}{a:Addr}{xs:List V}{g:TG}{tb:TS}{D:Ends}{σ:St}{H:Hp}(Pv:Nat -> St -> Hp -> Prop) (h0:Pv 0 σ H) (hl:∀i σ H, i <= xs.length -> Pv i σ H -> SqT K H a xs)
    (hs:∀i x σ H,xs[i]? = some x->Pv i σ H->g x σ H fun σ2 H2=>tb { D with nx:=Pv (i+1),ct:=Pv (i+1),bk:=D.nx } σ2 H2) (hd:∀σ H,Pv xs.length σ H->D.nx σ H) :
    ∃W:Nat->Nat->St->Hp->Prop,(∃m,W 0 m σ H)/\∀i m σ H,W i m σ H ->
     ((Itt K a).stop i H/\D.nx σ H)∨((Itt K a).go i H/\∃N:St->Hp->Prop,(∀σ' H',N σ' H'->∃m',m'<m/\W (i+1) m' σ' H')/\∀x H',(Itt K a).yld i H x H'->g x σ H' fun σ2 H2=>tb { D with nx:=N,ct:=N,bk:=D.nx } σ2 H2):=by
 refine⟨fun i m σ H=>m=xs.length-i/\i<=xs.length/\Pv i σ H,⟨xs.length,by simp,AC _,h0⟩,?_⟩
 rintro i m σ H ⟨rfl,hi,p⟩
 have q:=hl i σ H hi p
 by_cases hlt:i<xs.length
 ·refine .inr ⟨⟨xs,xs[i],q,by simp[hlt]⟩,Pv (i+1),fun σ' H' p'=>⟨xs.length-(i+1),by omega,rfl,hlt,p'⟩,fun x H' y=>?_⟩
  obtain⟨e,y⟩:=y
  subst e
  exact hs i x σ _ (y xs q) p
 ·have e:i=xs.length:=by omega
  subst e
  exact .inl ⟨⟨xs,q,Aa _⟩,hd σ H p⟩
theorem gh {lo:Int}{n:Nat}{g:TG}{tb:TS}{D:Ends}{σ:St}{H:Hp}(Pv:Nat -> St -> Hp -> Prop) (h0:Pv 0 σ H)
    (hs:∀i σ H,i<n->Pv i σ H->g (.int (lo+i)) σ H fun σ2 H2=>tb { D with nx:=Pv (i+1),ct:=Pv (i+1),bk:=D.nx } σ2 H2) (hd:∀σ H,Pv n σ H->D.nx σ H) :
    ∃W:Nat->Nat->St->Hp->Prop,(∃m,W 0 m σ H)/\∀i m σ H,W i m σ H ->
     ((Itr lo n).stop i H/\D.nx σ H)∨((Itr lo n).go i H/\∃N:St->Hp->Prop,(∀σ' H',N σ' H'->∃m',m'<m/\W (i+1) m' σ' H')/\∀x H',(Itr lo n).yld i H x H'->g x σ H' fun σ2 H2=>tb { D with nx:=N,ct:=N,bk:=D.nx } σ2 H2):=by
 refine⟨fun i m σ H=>m=n-i/\i<=n/\Pv i σ H,⟨n,by simp,AC _,h0⟩,?_⟩
 rintro i m σ H ⟨rfl,hi,p⟩
 by_cases hlt:i<n
 ·refine .inr ⟨hlt,Pv (i+1),fun σ' H' p'=>⟨n-(i+1),by omega,rfl,hlt,p'⟩,fun x H' y=>?_⟩
  obtain⟨e,y⟩:=y
  subst e y
  exact hs i σ _ hlt p
 ·have e:i=n:=by omega
  subst e
  exact .inl ⟨Aa _,hd σ H p⟩
abbrev R2:=V->V->Hp->VK->Prop
def OpR (X:Cx) (f:Value->Value->Sem Value) (r:R2):Prop :=
 ∀(pins:List (Addr × Obj)) (s:Shared) (σ:St) (H:Hp) (x y:V) (v u:Value) (Q:VK),Inv X pins σ H s->RelV x v->RelV y u->r x y H Q ->
  wpAny (model X.prog X.w) X.A (f v u) (EP X pins σ Q) X.xe s
def UnR (X:Cx) (f:Value->Sem Value) (r:V->Hp->VK->Prop):Prop :=
 ∀(pins:List (Addr × Obj)) (s:Shared) (σ:St) (H:Hp) (x:V) (v:Value) (Q:VK),Inv X pins σ H s->RelV x v->r x H Q ->
  wpAny (model X.prog X.w) X.A (f v) (EP X pins σ Q) X.xe s
def eK (X:Cx) (f:Value) (r:List V->Hp->VK->Prop):Prop :=
 ∀(pins:List (Addr × Obj)) (s:Shared) (σ:St) (H:Hp) (xs:List V) (us:List Value) (Q:VK),Inv X pins σ H s->Vals xs us->r xs H Q ->
  wpAny (model X.prog X.w) X.A (call f us) (EP X pins σ Q) X.xe s
def tOp (r:R2) (ta tb:TE):TE:=fun σ H Q=>ta σ H fun x H1=>tb σ H1 fun y H2=>r x y H2 Q
def tUn (r:V->Hp->VK->Prop) (ta:TE):TE:=fun σ H Q=>ta σ H fun x H1=>r x H1 Q
def rI (C:Int->Int->Prop) (g:Int->Int->V):R2:=fun x y H Q=>∃i j,x=.int i/\y=.int j/\C i j/\Q (g i j) H
def rI0 (g:Int->Int->V):R2:=fun x y H Q=>∃i j,x=.int i/\y=.int j/\Q (g i j) H
def rU (g:Int->V):V->Hp->VK->Prop:=fun x H Q=>∃i,x=.int i/\Q (g i) H
section
variable {X:Cx}{a b c:Expr}{ta tb tc:TE}{pos:Pos}
theorem vK (ha:PE X a ta) (hb:PE X b tb) {R:V->V->Hp->Prop}(I:Inv X pins σ H s)
    (h:ta σ H fun x H1=>tb σ H1 fun y H2=>R x y H2) {f:Value->Value->Sem Value}
    (hf:∀v u s2 x y H2,Inv X pins σ H2 s2->RelV x v->RelV y u->R x y H2->wpAny (model X.prog X.w) X.A (f v u) Q X.xe s2) :
    wpAny (model X.prog X.w) X.A (eval a X.env) (fun v s₁=>wpAny (model X.prog X.w) X.A (eval b X.env) (fun u s₂=>wpAny (model X.prog X.w) X.A (f v u) Q X.xe s₂) X.xe s₁) X.xe s:=by
 refine thn (ha pins s σ H _ I h) fun v s1 ⟨x,H1,I1,r1,q1⟩=>?_
 refine thn (hb pins s1 σ H1 _ I1 q1) fun u s2 ⟨y,H2,I2,r2,q2⟩=>?_
 exact hf v u s2 x y H2 I2 r1 r2 q2
theorem aG {op:Operator}{r:R2}(ho:OpR X (binaryOp op) r) (ha:PE X a ta) (hb:PE X b tb):PE X (.BinOp a op b pos) (tOp r ta tb):=by
 intro pins s σ H Q I h
 exact wpAny_BinOp (vK ha hb I h fun v u s2 x y H2 I2 rx ry q=>ho pins s2 σ H2 x y v u Q I2 rx ry q)
theorem gn (ho:UnR X (unaryOp op) r) (ha:PE X a ta):PE X (.UnaryOp op a pos) (tUn r ta):=by
 intro pins s σ H Q I h
 exact UnaryOp_ (thn (ha pins s σ H _ I h) fun v s1 ⟨x,H1,I1,r1,q1⟩=>ho pins s1 σ H1 x v Q I1 r1 q1)
theorem opI {f:Value->Value->Sem Value}{C:Int->Int->Prop}{g:Int->Int->Int}
    (rule:∀(i j:Int) (t u:Tok) (s:Shared) (Q:Value->Shared->Prop) (E:Value->Shared->Prop),C i j->Q (.int (g i j) s.toks) { s with toks:=s.toks+1 }->wpAny (model X.prog X.w) X.A (f (.int i t) (.int j u)) Q E s) :
    OpR X f (rI C fun i j=>.int (g i j)):=by
 intro pins s σ H x y v u Q I rx ry h
 obtain⟨i,j,rfl,rfl,hc,q⟩:=h
 obtain⟨t,rfl⟩:=rx
 obtain⟨t',rfl⟩:=ry
 exact rule i j t t' s _ _ hc ⟨.int (g i j),H,I.tok _,⟨_,rfl⟩,q⟩
theorem y6 {f:Value->Value->Sem Value}{g:Int->Int->Int}
    (rule:∀(i j:Int) (t u:Tok) (s:Shared) (Q:Value->Shared->Prop) (E:Value->Shared->Prop),Q (.int (g i j) s.toks) { s with toks:=s.toks+1 }->wpAny (model X.prog X.w) X.A (f (.int i t) (.int j u)) Q E s) :
    OpR X f (rI0 fun i j=>.int (g i j)):=by
 intro pins s σ H x y v u Q I rx ry h
 obtain⟨i,j,rfl,rfl,q⟩:=h
 obtain⟨t,rfl⟩:=rx
 obtain⟨t',rfl⟩:=ry
 exact rule i j t t' s _ _ ⟨.int (g i j),H,I.tok _,⟨_,rfl⟩,q⟩
theorem qM {f:Value->Value->Sem Value}{g:Int->Int->Bool}
    (rule:∀(i j:Int) (t u:Tok) (s:Shared) (Q:Value->Shared->Prop) (E:Value->Shared->Prop),Q (.bool (g i j)) s->wpAny (model X.prog X.w) X.A (f (.int i t) (.int j u)) Q E s) :
    OpR X f (rI0 fun i j=>.bl (g i j)):=by
 intro pins s σ H x y v u Q I rx ry h
 obtain⟨i,j,rfl,rfl,q⟩:=h
 obtain⟨t,rfl⟩:=rx
 obtain⟨t',rfl⟩:=ry
 exact rule i j t t' s _ _ ⟨.bl (g i j),H,I,rfl,q⟩
def CDiv (i j:Int):Prop:=0<j/\j<1073741824
def CPow (i j:Int):Prop:=0<=j/\j<=1000000/\i.natAbs<2 ^ 64
def CMul (i j:Int):Prop:=(-(2 ^ 64)<i/\i<2 ^ 64)∨(-(2 ^ 64)<j/\j<2 ^ 64)
theorem CMul.ok (h:CMul i j):IntMulOk i j:=by
 rcases h with⟨h1,h2⟩ | ⟨h1,h2⟩
 ·exact .of_left (intBits_le_64 h1 h2)
 ·exact .of_right (intBits_le_64 h1 h2)
theorem yJ:OpR X (binaryOp .Add) (rI0 fun i j=>.int (i+j)):=y6 fun _ _ _ _ _ _ _ q=>add_int q
theorem oN:OpR X (binaryOp .Sub) (rI0 fun i j=>.int (i-j)):=y6 fun _ _ _ _ _ _ _ q=>sub_int q
theorem gO:OpR X (binaryOp .Mult) (rI CMul fun i j=>.int (i * j)):=opI fun _ _ _ _ _ _ _ hc q=>mul_int q hc.ok
theorem kK:OpR X (binaryOp .FloorDiv) (rI CDiv fun i j=>.int (i / j)):=opI fun i j _ _ _ _ _ hc q=>by
 have h1:(0:Int)<j:=hc.1
 have h2:j<1073741824:=hc.2
 exact floordiv_int (by omega) (by rw[Int.fdiv_eq_ediv_of_nonneg i (by omega)];exact q) (.inl (PyProof.noPylong_small (by omega)))
theorem eM:OpR X (binaryOp .Mod) (rI (fun _ j=>0<j) fun i j=>.int (i % j)):=opI fun i j _ _ _ _ _ hc q=>by
 have h1:(0:Int)<j:=hc
 exact mod_int' (by omega) (by rw[Int.fmod_eq_emod_of_nonneg i (by omega)];exact q)
theorem ya:OpR X (binaryOp .Pow) (rI CPow fun i j=>.int (i ^ j.toNat)):=opI fun _ _ _ _ _ _ _ hc q=>pow_int_small hc.1 hc.2.1 hc.2.2 q
theorem unI {f:Value->Sem Value}{g:Int->Int}
    (rule:∀(i:Int) (t:Tok) (s:Shared) (Q:Value->Shared->Prop) (E:Value->Shared->Prop),Q (.int (g i) s.toks) { s with toks:=s.toks+1 }->wpAny (model X.prog X.w) X.A (f (.int i t)) Q E s) :
    UnR X f (rU fun i=>.int (g i)):=by
 intro pins s σ H x v Q I rx h
 obtain⟨i,rfl,q⟩:=h
 obtain⟨t,rfl⟩:=rx
 exact rule i t s _ _ ⟨.int (g i),H,I.tok _,⟨_,rfl⟩,q⟩
theorem fj:UnR X (unaryOp .USub) (rU fun i=>.int (-i)):=unI fun _ _ _ _ _ q=>neg_int q
end
def va:V->V->Bool
 | .non,.non=>true | .non,.int _=>true | .int _,.non=>true | .non,.bl _=>true | .bl _,.non=>true | .non,.str _=>true | .str _,.non=>true
 | .int _,.int _=>true | .bl _,.bl _=>true | .str _,.str _=>true | .byt _,.byt _=>true
 | .int _,.str _=>true | .str _,.int _=>true | .bl _,.str _=>true | .str _,.bl _=>true
 | _,_=>false
def rEq:R2:=fun x y H Q=>va x y=true/\Q (.bl (decide (x=y))) H
def rNe:R2:=fun x y H Q=>va x y=true/\Q (.bl (!decide (x=y))) H
theorem qz:decide (V.int i=V.int j)=(i==j):=by
 rw[AV]
 simp
theorem sh:decide (V.bl i=V.bl j)=(i==j):=by
 rw[AV]
 simp
theorem p6:decide (V.str i=V.str j)=(i==j):=by
 rw[AV]
 simp
theorem pO:decide (V.byt i=V.byt j)=(i.toList==j.toList):=by
 rw[AV]
 cases i
 cases j
 simp
section
variable {X:Cx}{a b c:Expr}{ta tb tc:TE}{pos:Pos}
theorem aR (I:Inv X pins σ H s) (q:Q (.bl k) H) (e:k=k'):EP X pins σ Q (.bool k') s:=by
 subst e
 exact⟨.bl k,H,I,rfl,q⟩
theorem zW:OpR X (compareOp .Eq) rEq:=by
 intro pins s σ H x y v u Q I rx ry h
 obtain⟨hs,q⟩:=h
 cases x with
 | non =>
  cases rx
  cases y with
  | non=>cases ry;exact PySem.EqNone.eq_none_none (aR I q (by simp))
  | bl j=>cases ry;exact PySem.EqNone.eq_none_bool (aR I q (by simp))
  | int j=>obtain⟨t',rfl⟩:=ry;exact PySem.EqNone.eq_none_int (aR I q (by simp))
  | str j=>obtain⟨t',rfl⟩:=ry;exact PySem.EqNone.eq_none_str (aR I q (by simp))
  | _=>exact absurd (show false=true from hs) AB
 | bl i =>
  cases rx
  cases y with
  | non=>cases ry;exact PySem.EqNone.eq_bool_none (aR I q (by simp))
  | bl j=>cases ry;exact eq_bool (aR I q sh)
  | str j=>obtain⟨t',rfl⟩:=ry;exact PySem.EqMixed.eq_bool_str (aR I q (by simp))
  | _=>exact absurd (show false=true from hs) AB
 | int i =>
  obtain⟨t,rfl⟩:=rx
  cases y with
  | non=>cases ry;exact PySem.EqNone.eq_int_none (aR I q (by simp))
  | int j=>obtain⟨t',rfl⟩:=ry;exact eq_int (aR I q qz)
  | str j=>obtain⟨t',rfl⟩:=ry;exact PySem.EqMixed.eq_int_str (aR I q (by simp))
  | _=>exact absurd (show false=true from hs) AB
 | str i =>
  obtain⟨t,rfl⟩:=rx
  cases y with
  | non=>cases ry;exact PySem.EqNone.eq_str_none (aR I q (by simp))
  | bl j=>cases ry;exact PySem.EqMixed.eq_str_bool (aR I q (by simp))
  | int j=>obtain⟨t',rfl⟩:=ry;exact PySem.EqMixed.eq_str_int (aR I q (by simp))
  | str j=>obtain⟨t',rfl⟩:=ry;exact eq_str (aR I q p6)
  | _=>exact absurd (show false=true from hs) AB
 | byt i =>
  obtain⟨t,rfl⟩:=rx
  cases y with
  | byt j=>obtain⟨t',rfl⟩:=ry;exact W.eq_bytes (aR I q pO)
  | _=>exact absurd (show false=true from hs) AB
 | _=>cases y <;> exact absurd (show false=true from hs) AB
theorem zS:OpR X (compareOp .NotEq) rNe:=by
 intro pins s σ H x y v u Q I rx ry h
 obtain⟨hs,q⟩:=h
 cases x with
 | non =>
  cases rx
  cases y with
  | non=>cases ry;exact PySem.EqNone.ne_none_none (aR I q (by simp))
  | bl j=>cases ry;exact PySem.EqNone.ne_none_bool (aR I q (by simp))
  | int j=>obtain⟨t',rfl⟩:=ry;exact PySem.EqNone.ne_none_int (aR I q (by simp))
  | str j=>obtain⟨t',rfl⟩:=ry;exact PySem.EqNone.ne_none_str (aR I q (by simp))
  | _=>exact absurd (show false=true from hs) AB
 | bl i =>
  cases rx
  cases y with
  | non=>cases ry;exact PySem.EqNone.ne_bool_none (aR I q (by simp))
  | bl j=>cases ry;exact ne_bool (aR I q (congrArg not sh))
  | str j=>obtain⟨t',rfl⟩:=ry;exact PySem.EqMixed.ne_bool_str (aR I q (by simp))
  | _=>exact absurd (show false=true from hs) AB
 | int i =>
  obtain⟨t,rfl⟩:=rx
  cases y with
  | non=>cases ry;exact PySem.EqNone.ne_int_none (aR I q (by simp))
  | int j=>obtain⟨t',rfl⟩:=ry;exact ne_int (aR I q (congrArg not qz))
  | str j=>obtain⟨t',rfl⟩:=ry;exact PySem.EqMixed.ne_int_str (aR I q (by simp))
  | _=>exact absurd (show false=true from hs) AB
 | str i =>
  obtain⟨t,rfl⟩:=rx
  cases y with
  | non=>cases ry;exact PySem.EqNone.ne_str_none (aR I q (by simp))
  | bl j=>cases ry;exact PySem.EqMixed.ne_str_bool (aR I q (by simp))
  | int j=>obtain⟨t',rfl⟩:=ry;exact PySem.EqMixed.ne_str_int (aR I q (by simp))
  | str j=>obtain⟨t',rfl⟩:=ry;exact ne_str (aR I q (congrArg not p6))
  | _=>exact absurd (show false=true from hs) AB
 | byt i =>
  obtain⟨t,rfl⟩:=rx
  cases y with
  | byt j=>obtain⟨t',rfl⟩:=ry;exact W.ne_bytes (aR I q (congrArg not pO))
  | _=>exact absurd (show false=true from hs) AB
 | _=>cases y <;> exact absurd (show false=true from hs) AB
theorem zP:OpR X (compareOp .Lt) (rI0 fun i j=>.bl (decide (i<j))):=qM fun _ _ _ _ _ _ _ q=>lt_int q
theorem zD:OpR X (compareOp .LtE) (rI0 fun i j=>.bl (decide (i<=j))):=qM fun _ _ _ _ _ _ _ q=>le_int q
theorem gi:OpR X (compareOp .Gt) (rI0 fun i j=>.bl (decide (j<i))):=qM fun _ _ _ _ _ _ _ q=>gt_int q
theorem wJ:OpR X (compareOp .GtE) (rI0 fun i j=>.bl (decide (j<=i))):=qM fun _ _ _ _ _ _ _ q=>ge_int q
theorem uo:OpR X (compareOp .Lt) (fun x y H Q=>∃i j,x=.str i/\y=.str j/\Q (.bl (decide (i.cps.toList<j.cps.toList))) H):=by
 intro pins s σ H x y v u Q I rx ry h
 obtain⟨i,j,rfl,rfl,q⟩:=h
 obtain⟨t,rfl⟩:=rx
 obtain⟨t',rfl⟩:=ry
 exact lt_str (aR I q rfl)
theorem ze:OpR X (compareOp .Is) (fun x y H Q=>y=.non/\Q (.bl (decide (x=.non))) H):=by
 intro pins s σ H x y v u Q I rx ry h
 obtain⟨rfl,q⟩:=h
 cases ry
 refine is_none_gen (aR I q ?_)
 cases x <;> first
  | (cases rx;rfl)
  | (obtain⟨t,rfl⟩:=rx;rfl)
theorem xx:OpR X (compareOp .IsNot) (fun x y H Q=>y=.non/\Q (.bl (!decide (x=.non))) H):=by
 intro pins s σ H x y v u Q I rx ry h
 obtain⟨rfl,q⟩:=h
 cases ry
 refine isnot_none_gen (aR I q ?_)
 cases x <;> first
  | (cases rx;rfl)
  | (obtain⟨t,rfl⟩:=rx;rfl)
theorem au (b:Expr) (h:op≠.In:=by decide) (h2:op≠.NotIn:=by decide):behindInMarks op b=false:=by
 have e1:(op==CmpOp.In)=false:=by cases op <;> first | rfl | exact absurd rfl h
 have e2:(op==CmpOp.NotIn)=false:=by cases op <;> first | rfl | exact absurd rfl h2
 cases b <;> simp[behindInMarks,e1,e2]
theorem iW {op:CmpOp}{r:R2}(ho:OpR X (compareOp op) r) (ha:PE X a ta) (hb:PE X b tb) (hm:behindInMarks op b=false):PE X (.Compare a [op] [b] pos) (tOp r ta tb):=by
 intro pins s σ H Q I h
 exact wpAny_Compare1 (vK ha hb I h fun v u s2 x y H2 I2 rx ry q=>ho pins s2 σ H2 x y v u Q I2 rx ry q) hm
def zY (t:TE):TT:=fun σ H Q=>t σ H fun x H'=>∃k,x=.bl k/\Q k H'
theorem ag (ho:OpR X (compareOp op) r) (ha:PE X a ta) (hb:PE X b tb) (hm:behindInMarks op b=false):PT X (.Compare a [op] [b] pos) (zY (tOp r ta tb)):=by
 intro pins s σ H Q I h
 refine wpAny_isTrue_Compare1 (thn (ha pins s σ H _ I h) fun v s1 ⟨x,H1,I1,r1,q1⟩=>thn (hb pins s1 σ H1 _ I1 q1) fun u s2 ⟨y,H2,I2,r2,q2⟩ =>
  thn (ho pins s2 σ H2 x y v u _ I2 r1 r2 q2) fun c s3 ⟨z,H3,I3,r3,k,e,q3⟩=>?_) hm
 subst e
 cases r3
 exact wpAny_truthy_bool ⟨H3,I3,q3⟩
def yE (r r':R2) (ta tb tc:TE):TE:=fun σ H Q=>ta σ H fun x H1=>tb σ H1 fun y H2=>r x y H2 fun z H3=>∃k,z=.bl k /\
 (if k=true then tc σ H3 fun w' H4=>r' y w' H4 Q else Q (.bl false) H3)
theorem vb (ho:OpR X (compareOp op) r) (ho':OpR X (compareOp op') r') (ha:PE X a ta) (hb:PE X b tb) (hc:PE X c tc)
    (hm:lastMarks [op,op'] [b,c]=false:=by with_unfolding_all rfl):PE X (.Compare a [op,op'] [b,c] pos) (yE r r' ta tb tc):=by
 intro pins s σ H Q I h
 refine Compare_chain (thn (ha pins s σ H _ I h) fun v s1 ⟨x,H1,I1,r1,q1⟩=>chain_link (thn (hb pins s1 σ H1 _ I1 q1) fun u s2 ⟨y,H2,I2,r2,q2⟩ =>
  thn (ho pins s2 σ H2 x y v u _ I2 r1 r2 q2) fun d s3 ⟨z,H3,I3,r3,k,e,q3⟩=>?_)) hm
 subst e
 cases r3
 refine wpAny_truthy_bool ?_
 cases k with
 | false=>exact ite_ff ⟨.bl false,H3,I3,rfl,q3⟩
 | true=>exact ite_tt (chain_last (thn (hc pins s3 σ H3 _ I3 q3) fun w' s4 ⟨z',H4,I4,r4,q4⟩=>ho' pins s4 σ H4 y z' u w' Q I4 r2 r4 q4))
theorem gF:(sizeLine:Nat)<2 ^ 63:=by rw[sizeLine_eq];decide
theorem qQ:OpR X (binaryOp .Add) (fun x y H Q=>∃i j,x=.str i/\y=.str j/\i.length+j.length<=sizeLine/\Q (.str (i++j)) H):=by
 intro pins s σ H x y v u Q I rx ry h
 obtain⟨i,j,rfl,rfl,hz,q⟩:=h
 obtain⟨t,rfl⟩:=rx
 obtain⟨t',rfl⟩:=ry
 exact add_str (fun t' tk=>⟨.str (i++j),H,I.tok _,⟨_,rfl⟩,q⟩) hz
theorem cU (r:Vals [x] us):∃u,us=[u]/\RelV x u:=by
 cases r with
 | cons r1 r2=>cases r2;exact⟨_,rfl,r1⟩
theorem fH (r:Vals [x,y] us):∃u w',us=[u,w']/\RelV x u/\RelV y w':=by
 cases r with
 | cons r1 r2 =>
  cases r2 with
  | cons r3 r4=>cases r4;exact⟨_,_,rfl,r1,r3⟩
theorem u7:eK X (.builtin "abs") (fun xs H Q=>∃i,xs=[.int i]/\Q (.int (if i<0 then -i else i)) H):=by
 intro pins s σ H xs us Q I r h
 obtain⟨i,rfl,q⟩:=h
 obtain⟨u,rfl,t,rfl⟩:=cU r
 exact call_abs_int fun u tk=>⟨.int (if i<0 then -i else i),H,I.tok _,⟨_,rfl⟩,q⟩
theorem sT (hc:X.calm=true):eK X (.builtin "min") (fun xs H Q=>∃i j,xs=[.int i,.int j]/\Q (.int (if j<i then j else i)) H):=by
 intro pins s σ H xs us Q I r h
 obtain⟨i,j,rfl,q⟩:=h
 obtain⟨u,w',rfl,⟨t,rfl⟩,⟨t',rfl⟩⟩:=fH r
 refine min_two_ints (I.ok.hd hc) fun h' tk k=>⟨_,H,I.kept k,?_,q⟩
 by_cases hj:j<i
 ·rw[if_pos hj,if_pos hj];exact⟨_,rfl⟩
 ·rw[if_neg hj,if_neg hj];exact⟨_,rfl⟩
theorem mi:eK X (.type "int") (fun xs H Q=>(∃i,xs=[.int i]/\Q (.int i) H)∨∃k,xs=[.bl k]/\Q (.int (if k then 1 else 0)) H):=by
 intro pins s σ H xs us Q I r h
 rcases h with⟨i,rfl,q⟩ | ⟨k,rfl,q⟩
 ·obtain⟨u,rfl,t,rfl⟩:=cU r
  exact call_int_int ⟨.int i,H,I,⟨_,rfl⟩,q⟩
 ·obtain⟨u,rfl,r1⟩:=cU r
  cases r1
  exact call_int_bool ⟨.int (if k then 1 else 0),H,I.tok _,⟨_,rfl⟩,q⟩
def yh (K:W.Frag) (x:V) (H:Hp) (n:Nat):Prop :=
 match x with
 | .str y=>y.length<=sizeLine/\n=y.length
 | .byt y=>y.size<=sizeLine/\n=y.size
 | .ref p=>(∃xs,SqL K H p xs/\n=xs.length)∨∃xs,SqT K H p xs/\n=xs.length
 | _=>False
theorem uV:eK X (.builtin "len") (fun xs H Q => ∃x n, xs=[x] /\ yh X.K x H n /\ Q (.int n) H) := by
 intro pins s σ H xs us Q I r h
 obtain⟨x,n,rfl,e,q⟩:=h
 obtain⟨u,rfl,rx⟩:=cU r
 have hl:=gF
 have hs:sizeLine=16777216:=sizeLine_eq
 cases x with
 | str y =>
  obtain⟨t,rfl⟩:=rx
  obtain⟨hy,e'⟩:y.length<=sizeLine/\n=y.length:=e
  subst e'
  exact len_str (by omega) ⟨.int _,H,I.tok _,⟨_,rfl⟩,q⟩
 | byt y =>
  obtain⟨t,rfl⟩:=rx
  obtain⟨hy,e'⟩:y.size<=sizeLine/\n=y.size:=e
  subst e'
  exact W.len_bytes (by omega) ⟨.int _,H,I.tok _,⟨_,rfl⟩,q⟩
 | ref p =>
  cases rx
  have e':(∃xs,SqL X.K H p xs/\n=xs.length)∨∃xs,SqT X.K H p xs/\n=xs.length:=e
  rcases e' with⟨xs,hx,e'⟩ | ⟨xs,hx,e'⟩
  ·subst e'
   obtain⟨its,r',pl,hz⟩:=I.list hx
   have hlen:=r'.length
   exact Calls.call_len_list pl.isList (by simp only[Au];omega) ⟨.int xs.length,H,I.tok _,⟨_,by simp only[Au];rw[hlen]⟩,q⟩
  ·subst e'
   obtain⟨its,r',pl,hz⟩:=I.tuple hx
   have hlen:=r'.length
   exact len_tuple pl (by simp only[Au];omega) ⟨.int xs.length,H,I.tok _,⟨_,by simp only[Au];rw[hlen]⟩,q⟩
 | _=>exact(show False from e).elim
end
structure ObjM (h:Heap) (x dx C:Addr) (mA:Str->Option Value):Prop where
 obj:h.get? x=some (W.instObj C dx)
 ns:h.Ns1 dx mA
 ne:dx≠x
theorem tu {h:Heap}{dx:Addr}{mA:Str -> Option Value}(n:h.Ns1 dx mA):∃od, h.get? dx=some od /\ ∀name, W.lookIn name od=some (mA name) := by
 obtain⟨o,es,ep,ho,hd,hk,_,hm⟩:=n
 refine⟨o,ho,fun name=>?_⟩
 have e:=hm name
 unfold nsFind findBy at e
 rw[<- Array.find?_toList] at e
 unfold W.lookIn
 rw[hd]
 dsimp only
 split
 ·rename_i y q
  rw[q] at e
  exact congrArg some e
 ·rename_i q
  rw[q] at e
  have a:es.toList.any (·.refKey)=false:=by
   rw[List.any_eq_false]
   intro y hy
   obtain⟨z,t,hkey⟩:=hk y (Array.mem_toList_iff.mp hy)
   simp[DictEntry.refKey,hkey]
  have a':¬ es.toList.any (·.refKey)=true:=by rw[a];exact AB
  rw[if_neg a']
  exact congrArg some e
theorem ObjM.look (I:ObjM h x dx C mA):∃od,W.InstAt h x (W.instObj C dx) C (some od)/\∀name,W.lookIn name od=some (mA name) :=
 let ⟨od,ho,hl⟩:=tu I.ns
 ⟨od,⟨I.obj,rfl,rfl,ho⟩,hl⟩
theorem RelO.some_of (r:RelO (some v) o):∃u,o=some u/\RelV v u:=by
 cases o with
 | none=>exact(show False from r).elim
 | some u=>exact⟨u,rfl,r⟩
section
variable {P:Program}{w:World}{H H':Hp}{h h':Heap}{a C dx:Addr}{fs fs':List (Str × V)}
theorem xS (hok:HOk P w H h) (e:H a=some (.ins C dx fs)):∃mA,ObjM h a dx C mA/\(∀f,RelO (fs.lookup f) (mA f))/\PySem.Within mA (fs.map (·.1))/\fs.length<=1000/\H dx=some (.own a):=by
 obtain⟨d,z,ne,ob,mA,n,r,q⟩:=(show ObjOk P w H h a (.ins C dx fs) from hok a _ e)
 exact⟨mA,⟨ob,n,ne⟩,r,q,z,d⟩
end
structure Cls (K:W.Frag) (C:Addr):Prop where
 pg:W.plainGet K C Str.empty=true
 hd:W.hasDictIn K C=true
 po:W.plainOver K C=true
 sa:W.findIn K (.ref C) "__setattr__"=some (some (.builtin "object.__setattr__"))
theorem Cls.get {K:W.Frag}{C:Addr}(c:Cls K C) (f:Str):W.plainGet K C f=true:=c.pg
section
variable {X:Cx}{pins:List (Addr × Obj)}{σ:St}{H:Hp}{s:Shared}{A:Around}{E:Value->Shared->Prop}{Q:Value->Shared->Prop}{c:Value}{b:Bool}
inductive TyOf (K:W.Frag) (H:Hp):V -> Value -> Prop where
 | non:TyOf K H .non (.type "NoneType")
 | bl (x:Bool):TyOf K H (.bl x) (.type "bool")
 | int (i:Int):TyOf K H (.int i) (.type "int")
 | str (x:Str):TyOf K H (.str x) (.type "str")
 | flt (x:UInt64):TyOf K H (.flt x) (.type "float")
 | lst {a:Addr} {xs:List V} (e:H a=some (.lst xs)):TyOf K H (.ref a) (.type "list")
 | frz {a:Addr} {o:Obj} {xs:List V} (e:H a=some (.frz o (.lst xs))):TyOf K H (.ref a) (.type "list")
 | tup {a:Addr} {xs:List V} (e:H a=some (.tup xs)):TyOf K H (.ref a) (.type "tuple")
 | dK {a:Addr} {kvs:List (Key × V)} (e:H a=some (.dK kvs)):TyOf K H (.ref a) (.type "dict")
 | dT {a:Addr} {kvs:List (List Key × V)} (e:H a=some (.dT kvs)):TyOf K H (.ref a) (.type "dict")
 | ins {a C dx:Addr} {fs:List (Str × V)} (e:H a=some (.ins C dx fs)) (cl:Cls K C) (ha:W.findIn K (.ref C) "__class__"=some (some (.builtin "object.__class__")))
     (hn:W.specialIn K (.builtin "object.__class__") "__get__"=some (some (.builtin "getset_descriptor.__get__"))) (htk:W.takesIn K (.builtin "object.__class__")=some true)
     (hm:W.mroIn K C (.type "object")=some true):TyOf K H (.ref a) (.ref C)
theorem uv (I:Inv X pins σ H s) (rx:RelV x u) (ty:TyOf X.K H x t) (e:W.kitOne X.K t c=some b) (h:∀tk,Q (.bool b) { s with toks:=tk }) :
    wpAny (model X.prog X.w) A (call (.builtin "isinstance") [u,c]) Q E s:=by
 cases ty with
 | non=>cases (show u=Value.none from rx);exact W.kia_one W.kitx_none I.kIn True.intro e (fun z=>nomatch z) h
 | bl y=>cases (show u=Value.bool y from rx);exact W.kia_one W.kitx_bool I.kIn True.intro e (fun z=>nomatch z) h
 | int i=>obtain⟨t,q⟩:=(show ∃t,u=Value.int i t from rx);cases q;exact W.kia_one W.kitx_int I.kIn True.intro e (fun z=>nomatch z) h
 | str y=>obtain⟨t,q⟩:=(show ∃t,u=Value.str y t from rx);cases q;exact W.kia_one W.kitx_str I.kIn True.intro e (fun z=>nomatch z) h
 | flt y=>obtain⟨t,q⟩:=(show ∃t,u=Value.float y t from rx);cases q;exact W.kia_one W.kitx_float I.kIn True.intro e (fun z=>nomatch z) h
 | @lst a xs ea =>
  cases (show u=Value.ref a from rx)
  obtain⟨_,_,n,_,h1⟩:=(show ObjOk X.prog X.w H s.heap a (.lst xs) from I.hok a _ ea)
  exact W.kia_one W.kitx_list I.kIn ⟨_,h1,rfl⟩ e (fun z=>nomatch z) h
 | @frz a ob xs ea =>
  cases (show u=Value.ref a from rx)
  obtain⟨_,_,_,n,_,h1⟩:=(show ObjOk X.prog X.w H s.heap a (.frz ob (.lst xs)) from I.hok a _ ea)
  exact W.kia_one W.kitx_list I.kIn ⟨_,h1,rfl⟩ e (fun z=>nomatch z) h
 | @tup a xs ea =>
  cases (show u=Value.ref a from rx)
  obtain⟨_,_,_,p⟩:=(show ObjOk X.prog X.w H s.heap a (.tup xs) from I.hok a _ ea)
  obtain⟨o,h1,h2,_⟩:=p
  exact W.kia_one W.kitx_tuple I.kIn ⟨o,h1,h2⟩ e (fun z=>nomatch z) h
 | @dK a kvs ea =>
  cases (show u=Value.ref a from rx)
  obtain⟨_,_,vs,_,p⟩:=(show ObjOk X.prog X.w H s.heap a (.dK kvs) from I.hok a _ ea)
  obtain⟨o,es,ep,h1,h2,_⟩:=p
  exact W.kia_one W.kitx_dict I.kIn ⟨o,h1,h2.1⟩ e (fun z=>nomatch z) h
 | @dT a kvs ea =>
  cases (show u=Value.ref a from rx)
  obtain⟨_,_,xs,_,o,es,ep,h1,h2,_⟩:=(show ObjOk X.prog X.w H s.heap a (.dT kvs) from I.hok a _ ea)
  exact W.kia_one W.kitx_dict I.kIn ⟨o,h1,h2.1⟩ e (fun z=>nomatch z) h
 | @ins a C dx fs ea cl ha hn htk hm =>
  cases (show u=Value.ref a from rx)
  obtain⟨mA,O,_⟩:=xS I.hok ea
  obtain⟨od,J,_⟩:=O.look
  exact W.kia_one (W.kitx_own (cl.get _) cl.hd ha hn htk hm) I.kIn J e (fun z=>nomatch z) h
end
structure Room (k:Nat) (A:Around):Prop where
 hd:A.handled=none
 dp:A.depth+3 * k+5<recursionLimit
 un:A.units+16 * k+200<cLine
 gd:A.guards=some []
theorem Room.mono (r:Room k A) (h:j<=k):Room j A:=⟨r.hd,by have:=r.dp;omega,by have:=r.un;omega,r.gd⟩
theorem Room.deeper (r:Room (k+1) A) (env:Env):Room k (A.deeper env) :=
 ⟨r.hd,by have:=r.dp;show A.depth+1+3 * k+5<_;omega,by have:=r.un;show A.units+3+16 * k+200<_;omega,r.gd⟩
theorem Room.depth (r:Room k A):A.depth<recursionLimit:=by have:=r.dp;omega
theorem Room.units (r:Room k A):A.units+64<cLine:=by have:=r.un;omega
def rS:TA:=fun _ H Q=>Q [] H
def mP (ta:TE) (tr:TA):TA:=fun σ H Q=>ta σ H fun x H1=>tr σ H1 fun xs H2=>Q (x::xs) H2
section
variable {X:Cx}{e:Expr}{es:List Expr}{te:TE}{t:TA}{pos:Pos}
theorem bT:PA X [] rS:=fun _ _ _ _ H Q I h=>Calls.spliced_nil ⟨[],H,I,.nil,h⟩
theorem ak (ha:PE X e te) (hr:PA X es t) (hs:starEach (e::es) X.env=(false,eval e X.env)::starEach es X.env:=by rfl):PA X (e::es) (mP te t):=by
 intro pos pins s σ H Q I h
 rw[hs]
 show wpAny _ _ (spliced ((false,eval e X.env)::backTo pos (starEach es X.env))) _ _ s
 refine Calls.spliced_cons (thn (ha pins s σ H _ I h) fun u s1 ⟨x,H1,I1,r1,q1⟩=>?_)
 exact thn (hr pos pins s1 σ H1 _ I1 q1) fun us s2 ⟨xs,H2,I2,r2,q2⟩=>⟨x::xs,H2,I2,.cons r1 r2,q2⟩
def tTup (t:TA):TE:=fun σ H Q=>t σ H fun xs H1=>xs.length<=sizeLine/\∀p,H1 p=none->Q (.ref p) (upd H1 p (.tup xs))
def tLst (t:TA):TE:=fun σ H Q=>t σ H fun xs H1=>xs.length<=sizeLine/\∀p,H1 p=none->Q (.ref p) (upd H1 p (.lst xs))
theorem aB {x1}(h:PA X es t):PE X (.Tuple es x1 pos) (tTup t):=by
 intro pins s σ H Q I hq
 refine wpAny_Tuple_spliced (thn (h pos pins s σ H _ I hq) fun us s1 ⟨xs,H1,I1,r,z,q⟩=>⟨by rw[<- r.length];exact z,?_⟩)
 have hf:H1 s1.heap.objs.size=none:=I1.hok.fresh (Aa _)
 refine⟨.ref s1.heap.objs.size,upd H1 s1.heap.objs.size (.tup xs),I1.laid (t':=s1.toks) (fun b u e=>An _ e) (Aa _) ?_,rfl,q _ hf⟩
 exact⟨z,us,r,⟨_,At _ rfl,rfl,_,rfl,rfl⟩⟩
theorem aS (h:PA X es t):PE X (.List es pos) (tLst t):=by
 intro pins s σ H Q I hq
 refine wpAny_List_spliced (thn (h pos pins s σ H _ I hq) fun us s1 ⟨xs,H1,I1,r,z,q⟩=>⟨by rw[<- r.length];exact z,?_⟩)
 have hf:H1 s1.heap.objs.size=none:=I1.hok.fresh (Aa _)
 refine⟨.ref s1.heap.objs.size,upd H1 s1.heap.objs.size (.lst xs),I1.laid (t':=s1.toks) (fun b u e=>An _ e) (Aa _) ?_,rfl,q _ hf⟩
 exact⟨z,us,0,r,At _ rfl⟩
end
abbrev Sp:=List V->Hp->VK->XK->Prop
abbrev CXT:=List Env->Hp->Shared->XK->Value->Shared->Prop
structure Env0 (P:Program) (w:World) (K:W.Frag) (mg:Str->Option Value) (base:Heap) (A:Around) (outer:List Env) (s:Shared) (H:Hp):Prop where
 frames:A.frames=some outer
 mod:Mod K mg base
 bs:∀b o,base.get? b=some o->s.heap.get? b=some o/\H b=none
 bsz:base.objs.size<=s.heap.objs.size
 funs:s.heap.FunFrames base outer
 frf:∀b∈frs outer,H b=none
 hok:HOk P w H s.heap
 bare:AllBare s.gens
def CE (outer:List Env) (P:Program) (w:World) (H:Hp) (s:Shared) (Q:VK) (u:Value) (s':Shared):Prop :=
 ∃v H',s'.os=s.os/\AllBare s'.gens/\Un (frs outer) [] H H' s.heap s'.heap/\HOk P w H' s'.heap/\RelV v u/\Q v H'
def CR (CX:CXT) (outer:List Env) (P:Program) (w:World) (H:Hp) (s:Shared) (Q:VK) (E:XK) (r:Result) (s':Shared):Prop :=
 match r with
 | .ok (.ret u)=>CE outer P w H s Q u s'
 | .ok _=>False
 | .error e=>CX outer H s E e s'
structure FnOk (P:Program) (w:World) (K:W.Frag) (mg:Str->Option Value) (base:Heap) (CX:CXT) (k:Nat) (f:Addr) (fd:FuncData) (ps:List Str) (sp:Sp):Prop where
 len:∀vs H Q E,sp vs H Q E->vs.length=ps.length
 run:∀(A:Around) (outer:List Env) (s:Shared) (H:Hp) (args:Args) (us:List Value) (vs:List V) (Q:VK) (E:XK),Room k A->Env0 P w K mg base A outer s H->BindsTo s fd args (ps.zip us)->Vals vs us->sp vs H Q E ->
  codeAny (model P w) A (.call (.ref f) args) (CR CX outer P w H s Q E) s
section
variable {X:Cx}{pins:List (Addr × Obj)}{σ:St}{H:Hp}{s s':Shared}
theorem Inv.env0 (I:Inv X pins σ H s):Env0 X.prog X.w X.K X.mg X.base X.A X.stack s H :=
 ⟨I.ok.frames,I.ok.mod,I.bs,Az I.ok.bsz I.sz,I.stack,I.stkFree,I.hok,I.bare⟩
theorem Inv.after (I:Inv X pins σ H s) (h:CE X.stack X.prog X.w H s Q u s'):EP X pins σ Q u s':=by
 obtain⟨v,H',os,bare,un,hok,r,q⟩:=h
 obtain⟨hh,g,d,t,os'⟩:=s'
 obtain rfl:os'=s.os:=os
 exact⟨v,H',I.call (h':=hh) (g':=g) (d':=d) (t':=t) (ch:=[]) un hok bare (fun b z=>absurd z (by simp)),r,q⟩
end
def rX (sp:Sp) (dvs:List V) (E:XK) (t:TA):TE:=fun σ H Q=>t σ H fun vs H1=>sp (vs++dvs) H1 Q E
def Binds (K:W.Frag) (fd:FuncData) (ps:List Str) (ds:List Value):Prop :=
 ∀(s:Shared) (us:List Value),K.In s.heap->(us++ds).length=ps.length->BindsTo s fd ⟨us,[]⟩ (ps.zip (us++ds))
theorem Binds.all {K:W.Frag}{fd:FuncData}{ps:List Str}(h:∀us:List Value,us.length=ps.length->bindArgs fd ⟨us,[]⟩=pure (ps.zip us)):Binds K fd ps []:=fun s us _ hl=>by
 rw[AK] at hl ⊢
 exact .of_eq (h us hl)
def jS (CX:CXT) (X:Cx) (E:XK):Prop:=∀(pins:List (Addr × Obj)) (σ:St) (H:Hp) (s:Shared) (e:Value) (s':Shared),Inv X pins σ H s->CX X.stack H s E e s'->X.xe e s'
section
variable {X:Cx}{CX:CXT}{k:Nat}{f C:Addr}{fd:FuncData}{ps:List Str}{sp:Sp}{dvs:List V}{ds:List Value}{E:XK}{x m:Str}{p pos apos:Pos}{e o:Expr}{es:List Expr}{ta:TE}{t:TA}
theorem uz (F:FnOk X.prog X.w X.K X.mg X.base CX k f fd ps sp) (hr:Room k X.A) (hb:Binds X.K fd ps ds) (hd:Vals dvs ds) (hx:jS CX X E)
    (I:Inv X pins σ H s) (r:Vals vs us) (h:sp (vs++dvs) H Q E):wpAny (model X.prog X.w) X.A (call (.ref f) us) (EP X pins σ Q) X.xe s:=by
 have r2:Vals (vs++dvs) (us++ds):=r.append hd
 have hl:(us++ds).length=ps.length:=by rw[<- r2.length];exact F.len _ _ _ _ h
 refine wpAny_call (codeAny_mono (F.run X.A X.stack s H ⟨us,[]⟩ (us++ds) (vs++dvs) Q E hr I.env0 (hb s us I.kIn hl) r2 h) fun r s' hq=>?_)
 cases r with
 | error e=>exact hx pins σ H s e s' I hq
 | ok fl =>
  cases fl with
  | ret u=>exact I.after hq
  | next=>exact False.elim hq
  | brk=>exact False.elim hq
  | cont=>exact False.elim hq
theorem wX (F:FnOk X.prog X.w X.K X.mg X.base CX k f fd ps sp) (hr:Room k X.A) (hg:Gl X x) (hm:X.mg x=some (.ref f)) (hk:W.keepIn X.K (.ref f)=true) (hb:Binds X.K fd ps ds) (hd:Vals dvs ds) (hx:jS CX X E)
    (ha:PA X (e::es) t) (hdb:(x==("__debug__":Str))=false:=by decide) (he:starEach (e::es) X.env=(false,eval e X.env)::starEach es X.env:=by rfl) (hpl:(backTo pos (starEach es X.env)).any (·.1)=false:=by rfl) :
    PE X (.Call (.Name x p) (e::es) [] pos) (rX sp dvs E t):=by
 intro pins s σ H Q I h
 refine wpAny_Call_Name_kw (qA I hg hm ?_ hdb)
 refine W.callWith_K (h₀:=X.base) I.ok.mod.kin hk (thn (ha pos pins s σ H _ I h) fun us s1 ⟨vs,H1,I1,r,q⟩=>⟨I1.kIn,?_⟩) he hpl
 exact uz F hr hb hd hx I1 r q
end
structure FnScope (N P:List Str) (sc:Scope):Prop where
 kind:sc.kind=.function
 co:sc.isCoroutine=false
 gen:sc.isGenerator=false
 nd:N.Nodup
 pre:N.take P.length=P
 par:∀x∈P,sc.names.lookup x=some .local∨sc.names.lookup x=some .cell
 nofree:∀y∈sc.names,y.2≠.free
theorem lX {kindOf:Str -> Option NameKind}{x:Str}:∀ {binds:List (Str × Value)}{m:Str -> Option Value}, (∀v, (x, v) ∉ binds) -> bindL kindOf binds m x=m x
 | [],_,_=>rfl
 | (n,v)::r,m,h=>by
  unfold bindL
  rw[lX fun w hw=>h w (AF _ hw)]
  split
  ·have:x≠n:=by rintro rfl;exact h v A5
   simp[this]
  ·rfl
theorem mB {kindOf:Str -> Option NameKind}{x:Str}:∀ {binds:List (Str × Value)}{m:Str -> Option Value}, (∀v, (x, v) ∉ binds) -> bindC kindOf binds m x=m x
 | [],_,_=>rfl
 | (n,v)::r,m,h=>by
  unfold bindC
  rw[mB fun w hw=>h w (AF _ hw)]
  split
  ·rfl
  ·have:x≠n:=by rintro rfl;exact h v A5
   simp[this]
theorem mq {kindOf:Str->Option NameKind}{x:Str}:∀ {P:List Str}{vs:List Value}{i:Nat}{m:Str->Option Value},P.Nodup->P[i]? = some x->vs[i]? = some v->kindOf x=some .local ->
    bindL kindOf (P.zip vs) m x=some v
 | [],_,_,_,_,h,_,_=>by simp at h
 | _::_,[],_,_,_,_,h,_=>by simp at h
 | p::P,w::vs,0,m,nd,h1,h2,hk=>by
  simp at h1 h2;subst h1;subst h2
  show bindL kindOf ((p,w)::P.zip vs) m p=_
  unfold bindL
  rw[lX fun v hv=>(AL.mp nd).1 (List.of_mem_zip hv).1,if_pos hk]
  simp
 | p::P,w::vs,i+1,m,nd,h1,h2,hk=>by
  show bindL kindOf ((p,w)::P.zip vs) m x=_
  unfold bindL
  exact mq (i:=i) (AL.mp nd).2 (by simpa using h1) (by simpa using h2) hk
theorem lV {kindOf:Str->Option NameKind}{x:Str}:∀ {P:List Str}{vs:List Value}{i:Nat}{m:Str->Option Value},P.Nodup->P[i]? = some x->vs[i]? = some v->kindOf x≠some .local ->
    bindC kindOf (P.zip vs) m x=some v
 | [],_,_,_,_,h,_,_=>by simp at h
 | _::_,[],_,_,_,_,h,_=>by simp at h
 | p::P,w::vs,0,m,nd,h1,h2,hk=>by
  simp at h1 h2;subst h1;subst h2
  show bindC kindOf ((p,w)::P.zip vs) m p=_
  unfold bindC
  rw[mB fun v hv=>(AL.mp nd).1 (List.of_mem_zip hv).1,if_neg hk]
  simp
 | p::P,w::vs,i+1,m,nd,h1,h2,hk=>by
  show bindC kindOf ((p,w)::P.zip vs) m x=_
  unfold bindC
  exact lV (i:=i) (AL.mp nd).2 (by simpa using h1) (by simpa using h2) hk
def start (N:List Str) (vs:List V):St:=vs.map some++List.replicate (N.length-vs.length) none
def jq (CX:CXT) (P:Program) (w:World) (K:W.Frag) (mg:Str->Option Value) (base:Heap) (N:List Str) (qual:Str) (scope:Scope) (f:Addr) (cd:Value) (A:Around) (outer:List Env) (s:Shared) (H:Hp) (E:XK):Cx where
 prog:=P
 w:=w
 K:=K
 mg:=mg
 base:=base
 A:=A.deeper (envOfC qual scope s.heap.objs.size f cd)
 N:=N
 s₀:=s
 H₀:=H
 env:=envOfC qual scope s.heap.objs.size f cd
 outer:=outer
 stack:=envOfC qual scope s.heap.objs.size f cd::outer
 ex:=[]
 calm:=true
 fn:=fun _=>true
 pn:=[]
 xe:=fun e s'=>wpAny (model P w) (A.deeper (envOfC qual scope s.heap.objs.size f cd)) (leaving (envOfC qual scope s.heap.objs.size f cd) e) (fun _ s''=>CX outer H s E e s'') (fun e' s''=>CX outer H s E e' s'') s'
theorem oy {sc:Scope}{n:Nat}{x:Str}(h:sc.names.lookup x=some .cell):∃c,(cellsFrom n sc.names []).lookup x=some c:=by
 have q:=W.cellsFrom_some sc.names n [] (.inl h)
 exact Bh.mp q
theorem sW {CX:CXT}{P:Program}{w:World}{K:W.Frag}{mg:Str -> Option Value}{base:Heap}{N ps:List Str}{qual:Str}{scope:Scope}{f:Addr}{cd:Value}{A:Around}{outer:List Env}{s s1:Shared}{H:Hp}{E:XK}{us:List Value}{vs:List V}
    (S:FnScope N ps scope) (hd:A.handled=none) (e0:Env0 P w K mg base A outer s H) (hl:vs.length=ps.length) (r:Vals vs us)
    (x:InCallC s s.heap.objs.size (bindL (envOfC qual scope s.heap.objs.size f cd).kindOf (ps.zip us) fun _=>none) (cellsFrom (s.heap.objs.size+1) scope.names []) (bindC (envOfC qual scope s.heap.objs.size f cd).kindOf (ps.zip us) fun _=>none) s1) :
    Inv (jq CX P w K mg base N qual scope f cd A outer s H E) [] (start N vs) H s1:=by
 have hpl:ps.length<=N.length:=by have:=congrArg List.length S.pre;rw[As] at this;omega
 obtain⟨h1,tk,rfl,hk⟩:=x.done
 have noA:∀b:Addr,b∉(jq CX P w K mg base N qual scope f cd A outer s H E).ex:=fun b z=>absurd (show b∈([]:List Addr) from z) (by simp)
 refine⟨⟨e0.mod,S.kind,rfl,rfl,Aa _,fun y z c h1 h2=>?_,fun y hy=>?_,fun y c _ h=>?_,fun _=>hd,Around.frames_deeper e0.frames,.inr ⟨rfl,rfl⟩,fun b z=>absurd z (noA b),e0.bs,e0.bsz,fun b _ _=>noA b,fun b z=>absurd z (noA b),e0.funs,e0.frf⟩,
  rfl,e0.bare,Un.kept hk,⟨_,x.toInCall.ns,fun i y v h1 h2 h3=>?_⟩,fun y c h=>⟨_,x.cell y c h⟩,e0.hok.fresh (Aa _),fun y c h=>?_,fun p hp=>absurd (show p∈([]:List (Addr × Obj)) from hp) (by simp),e0.hok.kept hk,?_⟩
 ·exact name_of_addr x.apart (PySem.mem_of_lookup h1) (PySem.mem_of_lookup h2)
 ·have hy:scope.names.lookup y=some .cell∨scope.names.lookup y=some .free:=hy
  rcases hy with hy | hy
  ·exact oy hy
  ·exact absurd rfl (S.nofree _ (PySem.mem_of_lookup hy))
 ·exact AW (x.above y c (PySem.mem_of_lookup h))
 ·have hi:i<vs.length := by
     unfold start at h2
     by_cases hi:i<vs.length
     ·exact hi
     ·rw[Bp (by simpa using hi)] at h2
      rw[List.getElem?_replicate] at h2
      split at h2 <;> cases h2
  have ha:vs[i]? = some v:=by
   unfold start at h2
   rw[A9 (by simpa using hi),Al] at h2
   cases e:vs[i]? with
   | none=>rw[e] at h2;cases h2
   | some a=>rw[e] at h2;cases h2;rfl
  obtain⟨u,hu,rv⟩:=r.get ha
  have hp:ps[i]? = some y:=by
   rw[<- S.pre,Br (by omega)];exact h1
  have ndP:ps.Nodup:=by rw[<- S.pre];exact S.nd.sublist (BJ _ _)
  refine⟨u,rv,?_⟩
  rcases S.par y (Ad hp) with k | k
  ·exact .inl ⟨k,mq ndP hp hu k⟩
  ·obtain⟨c,e⟩:=oy (n:=s.heap.objs.size+1) k
   refine .inr ⟨.inl k,c,e,?_⟩
   have q:=x.cell y c e
   rw[lV ndP hp hu (by show scope.names.lookup y≠_;rw[k];decide)] at q
   exact q
 ·exact e0.hok.fresh (AW (x.above y c (PySem.mem_of_lookup h)))
 ·unfold start
  show _=N.length
  rw[Aq,z0,List.length_replicate]
  omega
theorem zO {CX:CXT}{P:Program}{w:World}{K:W.Frag}{mg:Str -> Option Value}{base:Heap}{k:Nat}{f:Addr}{name qual:Str}{params:Arguments}{body:List Stmt}{scope:Scope}{dV kV doc pm cdv ct oc:Value}{an od:Option Addr}
    {osl:Array (Option Value)} {N ps:List Str} {sp:Sp} (lk:K.lookup f=some ⟨oc,od,.func (W.fnOf name qual params body scope dV kV doc pm an cdv ct),osl⟩) (hcd:W.codeIn K cdv qual=true) (S:FnScope N ps scope)
    (len:∀vs H Q E,sp vs H Q E->vs.length=ps.length)
    (hbody:∀(A:Around) (outer:List Env) (s:Shared) (H:Hp) (vs:List V) (Q:VK) (E:XK),Room k (A.deeper (envOfC qual scope s.heap.objs.size f cdv))->sp vs H Q E ->
     ∃t,PSs (jq CX P w K mg base N qual scope f cdv A outer s H E) body t/\t { nx:=fun _ H'=>Q .non H',rt:=Q } (start N vs) H) :
    FnOk P w K mg base CX (k+1) f (W.fnOf name qual params body scope dV kV doc pm an cdv ct) ps sp:=by
 refine⟨len,fun A outer s H args us vs Q E hr e0 hb r hsp=>?_⟩
 have hl:=len _ _ _ _ hsp
 have KX:K.In s.heap:=e0.mod.kin.keeps fun b o e=>(e0.bs b o e).1
 have lim:s.heap.NoLimit:=e0.mod.nolimit.keeps fun b o e=>(e0.bs b o e).1
 have hkind:∀y∈ps.zip us,scope.names.lookup y.1=some .local∨(scope.names.lookup y.1=some .cell/\((cellsFrom (s.heap.objs.size+1) scope.names []).lookup y.1).isSome=true):=fun ⟨n,v⟩ hy=>by
  rcases S.par n (List.of_mem_zip hy).1 with q | q
  ·exact .inl q
  ·exact .inr ⟨q,W.cellsFrom_some _ _ _ (.inl q)⟩
 refine codeAny_call_function hr.depth (KX _ _ lk) rfl S.co S.gen rfl (W.codeRec_of KX hcd) (hb _ _ _ _ ?_)
 refine wpAny_newFunctionEnv_cells S.kind hkind fun env he s1 x=>?_
 subst he
 refine⟨lim.keeps x.toInCall.keep,codeAny_func ?_⟩
 obtain⟨t,ht,hq⟩:=hbody A outer s H vs Q E (hr.deeper _) hsp
 have I:Inv (jq CX P w K mg base N qual scope f cdv A outer s H E) [] (start N vs) H s1:=sW S hr.hd e0 hl r x
 refine wpAny_mono (ht [] s1 (start N vs) H _ I hq) (fun fl s' hs=>?_) fun e s' hs=>hs
 have fin:∀ {σ':St} {H':Hp} {v:V} {u:Value},Inv (jq CX P w K mg base N qual scope f cdv A outer s H E) [] σ' H' s'->RelV v u->Q v H'->CE outer P w H s Q u s' :=
  fun {σ' H' v u} J rv q=>⟨v,H',J.os,J.bare,J.base,J.hok,rv,q⟩
 cases fl with
 | ret u =>
  obtain⟨v,σ',H',J,rv,q⟩:=hs
  exact fin J rv q
 | next =>
  obtain⟨σ',H',J,q⟩:=hs
  exact fin (v:=V.non) (u:=Value.none) J rfl q
 | brk =>
  obtain⟨_,_,_,q⟩:=hs
  exact False.elim q
 | cont =>
  obtain⟨_,_,_,q⟩:=hs
  exact False.elim q
section
variable {X:Cx}{x:Str}{p pos:Pos}{e:Expr}{es:List Expr}{t:TA}{id T:String}{r:List V->Hp->VK->Prop}
def tCB (r:List V->Hp->VK->Prop) (t:TA):TE:=fun σ H Q=>t σ H fun vs H1=>r vs H1 Q
theorem eS (hc:eK X (.builtin id) r) (hg:Gl X x) (hm:X.mg x=none) (hv:bootBuiltins x=some (.builtin id)) (ha:PA X (e::es) t) (hn:x≠"__name__":=by decide) (hdb:(x==("__debug__":Str))=false:=by decide)
    (he:starEach (e::es) X.env=(false,eval e X.env)::starEach es X.env:=by rfl) (hpl:(backTo pos (starEach es X.env)).any (·.1)=false:=by rfl):PE X (.Call (.Name x p) (e::es) [] pos) (tCB r t):=by
 intro pins s σ H Q I h
 refine wpAny_Call_Name_kw (di I hg hm hv ?_ hn hdb)
 exact PyProof.Rows.callWith_builtin1 (thn (ha pos pins s σ H _ I h) fun us s1 ⟨vs,H1,I1,r1,q1⟩=>hc pins s1 σ H1 vs us Q I1 r1 q1) he hpl
theorem fk (hc:eK X (.type T) r) (hg:Gl X x) (hm:X.mg x=none) (hv:bootBuiltins x=some (.type T)) (ha:PA X (e::es) t) (hn:x≠"__name__":=by decide) (hdb:(x==("__debug__":Str))=false:=by decide)
    (he:starEach (e::es) X.env=(false,eval e X.env)::starEach es X.env:=by rfl) (hpl:(backTo pos (starEach es X.env)).any (·.1)=false:=by rfl):PE X (.Call (.Name x p) (e::es) [] pos) (tCB r t):=by
 intro pins s σ H Q I h
 refine wpAny_Call_Name_kw (di I hg hm hv ?_ hn hdb)
 exact PyProof.Rows.callWith_type1 (thn (ha pos pins s σ H _ I h) fun us s1 ⟨vs,H1,I1,r1,q1⟩=>hc pins s1 σ H1 vs us Q I1 r1 q1) he hpl
end
end L2
namespace HT
open PySem PyProof.Rows
section
open PySem.SeqAt
open PySem.AutoSeq1 (wpAny_loadPart')
open PySem.MeetsSeq PySem.MeetsSeq2 PySem.MeetsSeq3
end
section
variable {prog:Program}{w:World}{A:Around}{E:Value->Shared->Prop}{s:Shared}
theorem cat_tup (ht:IsTup s.heap t vs.toArray) (hb:IsTup s.heap b ws.toArray) (hv:vs ≠ [])
    (h1:ws=[]->Q (.ref t) s) (h2:ws≠[]->Q (.ref s.heap.objs.size) { s with heap:=s.heap.push { cls:=.type "tuple",data:=.seq (vs++ws).toArray } })
    (hsz:vs.length+ws.length<=sizeLine):wpAny (model prog w) A (binaryOp .Add (.ref t) (.ref b)) Q E s:=by
 obtain⟨⟨cls,dd,data,sl⟩,ho,hc,n,hd⟩:=id ht
 obtain⟨⟨cls2,dd2,data2,sl2⟩,ho2,hc2,n2,hd2⟩:=id hb
 simp only at hc hd hc2 hd2
 subst hc hd hc2 hd2
 have e:vs.toArray++ws.toArray=(vs++ws).toArray:=by simp
 by_cases hw:ws=[]
 ·exact concat_meets ⟨_,ho,rfl⟩ ⟨_,ho2,rfl⟩ noFill_tuple_add seq_tuple_add PySem.F.slot_tuple_add PySem.F.entry_tuple_add (PySem.F.args_tuple_add_2 _ _)
     (tuple_addW1 t b vs.toArray ws.toArray n n2 dd dd2 sl sl2 (by simpa using hv) (by simp[hw])) ⟨ho,ho2,h1 hw⟩
 ·refine concat_meets ⟨_,ho,rfl⟩ ⟨_,ho2,rfl⟩ noFill_tuple_add seq_tuple_add PySem.F.slot_tuple_add PySem.F.entry_tuple_add (PySem.F.args_tuple_add_2 _ _)
     (tuple_addW2 t b vs.toArray ws.toArray n n2 dd dd2 sl sl2 (by simpa using hv) (by simpa using hw) (by rw[Au,Au];exact hsz)) ⟨ho,ho2,?_⟩
  rw[e]
  exact h2 hw
def sIx (n d:Nat):Option Int->Nat
 | none=>d
 | some v=>if v<0 then (v+(n:Int)).toNat else min v.toNat n
theorem sIx_none (n d:Nat):sIx n d none=d:=rfl
theorem sIx_nat (n d k:Nat):sIx n d (some (k:Int))=min k n:=by
 show (if (k:Int)<0 then ((k:Int)+(n:Int)).toNat else min (k:Int).toNat n)=min k n
 rw[if_neg (by omega),Bs]
theorem x6 (n d:Nat) (hd:d<=n) (o:Option Int):sIx n d o<=n:=by
 cases o with
 | none=>exact hd
 | some v =>
  show (if v<0 then (v+(n:Int)).toNat else min v.toNat n)<=n
  by_cases hv:v<0
  ·rw[if_pos hv];omega
  ·rw[if_neg hv];exact Nat.min_le_right _ _
theorem qi (v:Int) (n d:Nat):(if v<0 then max (v+(n:Int)) 0 else min v (n:Int))=((sIx n d (some v):Nat):Int):=by
 show (if v<0 then max (v+(n:Int)) 0 else min v (n:Int))=(((if v<0 then (v+(n:Int)).toNat else min v.toNat n):Nat):Int)
 by_cases hv:v<0
 ·simp only[if_pos hv];omega
 ·simp only[if_neg hv];omega
theorem rW (lo hi:Option Int) (n:Nat):Builtin.Slice.sliceAdjust lo hi 1 (n:Int)=(((sIx n 0 lo:Nat):Int),((sIx n n hi:Nat):Int)):=by
 have h1:¬ ((1:Int)<0):=by omega
 unfold Builtin.Slice.sliceAdjust
 simp only[h1,if_false]
 refine Prod.ext ?_ ?_
 ·cases lo with
  | none=>rfl
  | some v=>exact qi v n 0
 ·cases hi with
  | none=>rfl
  | some v=>exact qi v n n
theorem rj (i j:Nat):Builtin.Slice.slicePlaces (i:Int) (j:Int) 1=j-i:=by
 unfold Builtin.Slice.slicePlaces
 have h1:(1:Int) > 0:=by omega
 simp only[h1,if_true,Int.ediv_one]
 split <;> omega
theorem ke (p:IsPart v o) (h:Q o s):wpAny (model prog w) A (Builtin.Slice.slicePartIndex v) Q E s:=by
 cases p with
 | none=>exact slicePart_none h
 | int i t=>exact slicePart_int h
theorem fN {lo hi:Option Int}{n:Nat}{Q:Int × Int × Nat->Shared->Prop}(hs:s.heap.IsSliceOf sl vl vu .none) (pl:IsPart vl lo) (pu:IsPart vu hi)
    (h:Q (((sIx n 0 lo:Nat):Int),1,sIx n n hi-sIx n 0 lo) s):wpAny (model prog w) A (Builtin.Slice.sliceApplied (.ref sl) (pure (n:Int))) Q E s:=by
 obtain⟨os,hos,hcs,hds⟩:=id hs
 unfold Builtin.Slice.sliceApplied Builtin.Slice.sliceFields
 refine zZ (zZ (AO hos hds (x:=vl) rfl (zZ (AO hos hds (x:=vu) rfl (zZ (AO hos hds (x:=.none) rfl (Ab ?_)))))))
 refine zZ (slicePart_none ?_)
 show wpAny _ _ (if ((1:Int)==0)=true then _ else _) _ _ s
 rw[if_neg (by decide)]
 refine zZ (ke pl (zZ (ke pu (zZ (Ab ?_)))))
 show wpAny _ _ (match Builtin.Slice.sliceAdjust lo hi 1 (n:Int) with | (lo,hi)=>pure (lo,(1:Int),Builtin.Slice.slicePlaces lo hi 1)) _ _ s
 rw[rW lo hi n]
 show wpAny _ _ (pure (((sIx n 0 lo:Nat):Int),(1:Int),Builtin.Slice.slicePlaces ((sIx n 0 lo:Nat):Int) ((sIx n n hi:Nat):Int) 1)) _ _ s
 rw[rj]
 exact Ab h
theorem uX (xs:Array Value) (i k:Nat):((List.range k).filterMap fun (m:Nat)=>xs[((i:Int)+(m:Int) * 1).toNat]?).toArray=((xs.toList.drop i).take k).toArray:=by
 have e:(fun (m:Nat)=>xs[((i:Int)+(m:Int) * 1).toNat]?)=fun m=>xs[i+m]?:=by
  funext m
  have:((i:Int)+(m:Int) * 1).toNat=i+m:=by omega
  rw[this]
 rw[e]
 have:=pick_run xs i k
 rw[List.filterMap_map] at this
 have e2:((fun x=>xs[x]?) ∘ fun x=>i+x)=fun m=>xs[i+m]?:=rfl
 rw[e2] at this
 rw[this]
theorem getItem_tuple_cut {items:Array Value}{lo hi:Option Int}(ht:IsTup s.heap t items) (hs:s.heap.IsSliceOf sl vl vu .none) (pl:IsPart vl lo) (pu:IsPart vu hi)
    (hw:¬ (sIx items.size 0 lo=0/\sIx items.size items.size hi=items.size))
    (h:Q (.ref s.heap.objs.size) { s with heap:=s.heap.push { cls:=.type "tuple",data:=.seq ((items.toList.drop (sIx items.size 0 lo)).take (sIx items.size items.size hi-sIx items.size 0 lo)).toArray } })
    (hsz:items.size<=sizeLine):wpAny (model prog w) A (getItem (.ref t) (.ref sl)) Q E s:=by
 have htake:sizeOk (.seq ((items.toList.drop (sIx items.size 0 lo)).take (sIx items.size items.size hi-sIx items.size 0 lo)).toArray):=by
  show ((items.toList.drop (sIx items.size 0 lo)).take (sIx items.size items.size hi-sIx items.size 0 lo)).toArray.size<=sizeLine
  rw[Au,As,AY,BD]
  omega
 have hj:sIx items.size items.size hi<=items.size:=x6 _ _ (Aa _) hi
 obtain⟨os,hos,hcs,hds⟩:=id hs
 have hTs:s.TypeIs (.ref sl) "slice":=⟨os,hos,hcs⟩
 unfold getItem
 try with_reducible refine AN ?_
 first | refine zZ (Ab ?_) | skip
 refine zZ (wpAny_sequenceKey ht.typeIs (by decide) ?_)
 refine zZ (wpAny_callSpecial?_slot (name:=Str.ofString "__getitem__") ht.typeIs PyProof.Rows.slot_tuple_getitem
  (wpAny_call_entry PyProof.Rows.slot_tuple_getitem ht.typeIs entry_tuple_getitem ?_ (args_tuple_getitem _ _)))
 show wpAny _ _ (Builtin.Tuple.tupleItemsOf (.ref t) >>= _) _ _ s
 refine zZ (tupleItemsOf_ ht ?_)
 refine zZ (wpAny_typeOf hTs ?_)
 rw[if_pos (by decide)]
 refine zZ (fN hs pl pu ?_)
 have hno:¬ ((((sIx items.size 0 lo:Nat):Int)==0&&(1:Int)==1&&(sIx items.size items.size hi-sIx items.size 0 lo)==items.size)=true):=by
  intro q
  rw[Ba,Ba] at q
  have q1:((sIx items.size 0 lo:Nat):Int)=0:=eq_of_beq q.1.1
  have q2:sIx items.size items.size hi-sIx items.size 0 lo=items.size:=eq_of_beq q.2
  exact hw ⟨by omega,by omega⟩
 show wpAny _ _ (if (((sIx items.size 0 lo:Nat):Int)==0&&(1:Int)==1&&(sIx items.size items.size hi-sIx items.size 0 lo)==items.size)=true then _ else _) _ _ s
 rw[if_neg hno,uX]
 first
  | exact zZ (m:=Builtin.Tuple.tupleExact _) (wpAny_newObj_type (Ab ⟨_,rfl,Ab h⟩) htake)
  | exact zZ (m:=Builtin.Tuple.tupleExact _) (wpAny_newObj_type (zZ (Ab (Ab ⟨_,rfl,Ab h⟩))) htake)
  | exact zZ (zZ (m:=Builtin.Tuple.tupleExact _) (wpAny_newObj_type (Ab (Ab ⟨_,rfl,Ab h⟩)) htake))
  | exact zZ (zZ (m:=Builtin.Tuple.tupleExact _) (wpAny_newObj_type (Ab ⟨_,rfl,Ab h⟩) htake))
end
end HT
namespace L2
open PySem PySem.Spec PyProof.Rows
abbrev TO:=St->Hp->(Option Int->Hp->Prop)->Prop
def PO (X:Cx) (e:Option Expr) (t:TO):Prop :=
 ∀(pins:List (Addr × Obj)) (s:Shared) (σ:St) (H:Hp) (Q:Option Int->Hp->Prop),Inv X pins σ H s->t σ H Q ->
  wpAny (model X.prog X.w) X.A (evalPart e X.env) (fun u s'=>∃o H',Inv X pins σ H' s'/\IsPart u o/\Q o H') X.xe s
def xz:TO:=fun _ H Q=>Q none H
def zJ (t:TE):TO:=fun σ H Q=>t σ H fun x H1=>∃i,x=.int i/\Q (some i) H1
theorem rY:∀ {us:List Value}, Vals (ns.map V.int) us -> IntsAre us ns := by
 induction ns with
 | nil=>intro us r;rw[List.map_nil] at r;cases r;exact .nil
 | cons n ns ih =>
  intro us r
  rw[AD] at r
  cases r with
  | cons r1 r2 =>
   obtain⟨t,e⟩:=r1
   subst e
   exact .cons n t (ih r2)
section
variable {X:Cx}{e:Expr}{te:TE}{lo hi:Option Expr}{tl th:TO}{pos p2:Pos}
theorem cJ:PO X none xz:=by
 intro pins s σ H Q I h
 rw[evalPart_none]
 exact Ab ⟨none,H,I,.none,h⟩
theorem bQ (h:PE X e te):PO X (some e) (zJ te):=by
 intro pins s σ H Q I hw
 rw[evalPart_some]
 refine thn (h pins s σ H _ I hw) fun u s1 ⟨x,H1,I1,r1,q1⟩=>?_
 obtain⟨i,rfl,q⟩:=q1
 obtain⟨t,rfl⟩:=r1
 exact⟨some i,H1,I1,.int i t,q⟩
def SlR (X:Cx) (r:V->Option Int->Option Int->Hp->VK->Prop):Prop :=
 ∀(pins:List (Addr × Obj)) (s:Shared) (σ:St) (H:Hp) (x:V) (v vl vu:Value) (lo hi:Option Int) (sl:Addr) (Q:VK),Inv X pins σ H s->RelV x v->s.heap.IsSliceOf sl vl vu .none->IsPart vl lo->IsPart vu hi->r x lo hi H Q ->
  ∃T id,typeLookup (.type T) "__getitem__"=pure (some (.builtin id))/\s.TypeIs v T/\wpAny (model X.prog X.w) X.A (getItem v (.ref sl)) (EP X pins σ Q) X.xe s
def tSl (r:V->Option Int->Option Int->Hp->VK->Prop) (te:TE) (tl th:TO):TE:=fun σ H Q=>te σ H fun x H1=>tl σ H1 fun l H2=>th σ H2 fun u H3=>r x l u H3 Q
theorem bO (hr:SlR X r) (he:PE X e te) (hl:PO X lo tl) (hu:PO X hi th):PE X (.Subscript e (.Slice lo hi none p2) pos) (tSl r te tl th):=by
 intro pins s σ H Q I h
 refine Subscript_ (thn (he pins s σ H _ I h) fun v s1 ⟨x,H1,I1,r1,q1⟩=>?_)
 refine wpAny_Slice (thn (hl pins s1 σ H1 _ I1 q1) fun vl s2 ⟨l,H2,I2,pl,q2⟩=>thn (hu pins s2 σ H2 _ I2 q2) fun vu s3 ⟨u,H3,I3,pu,q3⟩=>?_)
 rw[evalPart_none]
 refine Ab ?_
 have I4:Inv X pins σ H3 { s3 with heap:=s3.heap.push { cls:=.type "slice",data:=.fields #[vl,vu,.none] } }:=I3.kept (t':=s3.toks) fun b ob q=>An _ q
 obtain⟨T,id,hT,ht,hg⟩:=hr pins { s3 with heap:=s3.heap.push { cls:=.type "slice",data:=.fields #[vl,vu,.none] } } σ H3 x v vl vu l u s3.heap.objs.size Q I4 r1 (Heap.IsSliceOf.new ..) pl pu q3
 show wpAny (model X.prog X.w) X.A (subscriptTail e (.Slice lo hi none p2) v (.ref s3.heap.objs.size)) (EP X pins σ Q) X.xe { s3 with heap:=s3.heap.push { cls:=.type "slice",data:=.fields #[vl,vu,.none] } }
 exact tail_any (ops:=[.ref s3.heap.objs.size,v]) ht hT hg (by with_unfolding_all rfl)
def cL (xs:List V) (lo hi:Option Int):List V:=(xs.drop (HT.sIx xs.length 0 lo)).take (HT.sIx xs.length xs.length hi-HT.sIx xs.length 0 lo)
theorem i9 (xs:List V) (lo hi:Option Int):(cL xs lo hi).length<=xs.length:=by
 unfold cL
 rw[As,AY]
 omega
def yy (K:W.Frag):V->Option Int->Option Int->Hp->VK->Prop:=fun x lo hi H Q=>∃a xs,x=.ref a/\SqT K H a xs /\
 ¬ (HT.sIx xs.length 0 lo=0/\HT.sIx xs.length xs.length hi=xs.length)/\∀p,H p=none->Q (.ref p) (upd H p (.tup (cL xs lo hi)))
theorem ui:SlR X (yy X.K):=by
 intro pins s σ H x v vl vu lo hi sl Q I rx hs pl pu h
 obtain⟨a,xs,rfl,hx,hw,q⟩:=h
 cases rx
 obtain⟨its,r,ht,hz⟩:=I.tuple hx
 have hlen:its.toArray.size=xs.length:=by rw[Au];exact r.length.symm
 refine⟨"tuple",_,PyProof.Rows.slot_tuple_getitem.lookup,ht.typeIs,?_⟩
 refine HT.getItem_tuple_cut ht hs pl pu (by rw[hlen];exact hw) ?_ (by rw[hlen];exact hz)
 rw[hlen]
 refine⟨.ref s.heap.objs.size,_,I.laid (t':=s.toks) (o:=.tup (cL xs lo hi)) (fun b ob q=>An _ q) (Aa _) ?_,rfl,q _ (I.hok.fresh (Aa _))⟩
 exact⟨Az (i9 xs lo hi) hz,_,(r.drop (HT.sIx xs.length 0 lo)).take (HT.sIx xs.length xs.length hi-HT.sIx xs.length 0 lo),TupN.new _ _⟩
def zR (K:W.Frag):R2:=fun x y H Q=>∃a b xs ys,x=.ref a/\y=.ref b/\SqT K H a xs/\SqT K H b ys/\xs≠[]/\xs.length+ys.length<=sizeLine /\
 (ys=[]->Q (.ref a) H)/\(ys≠[]->∀p,H p=none->Q (.ref p) (upd H p (.tup (xs++ys))))
theorem Vals.nil_iff (r:Vals xs us):us=[] ↔ xs=[]:=by
 cases r with
 | nil=>simp
 | cons _ _=>simp
theorem xj:OpR X (binaryOp .Add) (zR X.K):=by
 intro pins s σ H x y v u Q I rx ry h
 obtain⟨a,b,xs,ys,rfl,rfl,ha,hb,hx,hz,q1,q2⟩:=h
 cases rx
 cases ry
 obtain⟨its,r1,p1,_⟩:=I.tuple ha
 obtain⟨its2,r2,p2,_⟩:=I.tuple hb
 refine HT.cat_tup p1 p2 (fun z=>hx (r1.nil_iff.mp z)) (fun z=>⟨.ref a,H,I,rfl,q1 (r2.nil_iff.mp z)⟩) (fun z=>?_) (by rw[<- r1.length,<- r2.length];exact hz)
 refine⟨.ref s.heap.objs.size,_,I.laid (t':=s.toks) (o:=.tup (xs++ys)) (fun b ob q=>An _ q) (Aa _) ?_,rfl,q2 (fun w=>z (r2.nil_iff.mpr w)) _ (I.hok.fresh (Aa _))⟩
 exact⟨by rw[Aq];exact hz,_,r1.append r2,TupN.new _ _⟩
end
def ixN (n:Nat) (i:Int):Option Nat:=if 0<=i then (if i<n then some i.toNat else none) else if -(n:Int)<=i then some (i+n).toNat else none
def atI {α:Type}(xs:List α) (i:Int):Option α:=(ixN xs.length i).bind fun j=>xs[j]?
theorem pM (h:ixN n i=some j):seqIndex? i n=some j /\ j<n /\ -(n:Int) <= i /\ i<n := by
 unfold ixN at h
 by_cases h0:0<=i
 ·rw[if_pos h0] at h
  by_cases h1:i<n
  ·rw[if_pos h1] at h
   have e:i.toNat=j:=Af h
   exact⟨by rw[seqIndex_of h0 h1,e],by omega,by omega,h1⟩
  ·rw[if_neg h1] at h;cases h
 ·rw[if_neg h0] at h
  by_cases h1:-(n:Int)<=i
  ·rw[if_pos h1] at h
   have e:(i+n).toNat=j:=Af h
   exact⟨by rw[seqIndex_neg (by omega) h1,e],by omega,h1,by omega⟩
  ·rw[if_neg h1] at h;cases h
theorem kG (h:atI xs i=some v):∃j,seqIndex? i xs.length=some j/\xs[j]? = some v/\j<xs.length/\-(xs.length:Int)<=i/\i<xs.length:=by
 unfold atI at h
 cases e:ixN xs.length i with
 | none=>rw[e] at h;cases h
 | some j =>
  rw[e] at h
  obtain⟨h1,h2,h3,h4⟩:=pM e
  exact⟨j,h1,h,h2,h3,h4⟩
theorem bJ {α:Type}{xs:List α}{j:Nat}{v:α}(h:xs[j]? = some v):atI xs (j:Int)=some v:=by
 have hj:j<xs.length:=(Ac.mp h).1
 have e:ixN xs.length (j:Int)=some j:=by
  unfold ixN
  rw[if_pos (by omega),if_pos (by omega)];simp
 unfold atI;rw[e];exact h
theorem jz (xs:List α) (v:α):atI (xs++[v]) (-1)=some v:=by
 have hl:(xs++[v]).length=xs.length+1:=by simp
 have e:ixN (xs++[v]).length (-1)=some xs.length:=by
  unfold ixN
  rw[hl,if_neg (by decide),if_pos (by omega)]
  congr 1
  omega
 unfold atI
 rw[e]
 show (xs++[v])[xs.length]? = some v
 simp
def qD (b:Expr):Prop:=∀o i,subscripted b false o i=operate [o,i] (getItem o i)
def IxR (X:Cx) (r:R2):Prop :=
 ∀(value slice:Expr) (pins:List (Addr × Obj)) (s:Shared) (σ:St) (H:Hp) (x y:V) (v u:Value) (Q:VK),Inv X pins σ H s->RelV x v->RelV y u->r x y H Q ->
  subscripted slice false v u=operate [v,u] (getItem v u)->wpAny (model X.prog X.w) X.A (subscriptTail value slice v u) (EP X pins σ Q) X.xe s
def MtR (X:Cx) (id:String) (r:V->List V->Hp->VK->Prop):Prop :=
 ∀(pins:List (Addr × Obj)) (s:Shared) (σ:St) (H:Hp) (x:V) (xs:List V) (v:Value) (us:List Value) (Q:VK),Inv X pins σ H s->RelV x v->Vals xs us->r x xs H Q ->
  wpAny (model X.prog X.w) X.A (call (.builtin id) (v::us)) (EP X pins σ Q) X.xe s
section
variable {X:Cx}{a b:Expr}{ta tb:TE}{pos:Pos}
theorem qO (hr:IxR X r) (ha:PE X a ta) (hb:PE X b tb) (hs:qD b):PE X (.Subscript a b pos) (tOp r ta tb):=by
 intro pins s σ H Q I h
 exact Subscript_ (vK ha hb I h fun v u s2 x y H2 I2 rx ry q=>hr a b pins s2 σ H2 x y v u Q I2 rx ry q (hs _ _))
def rIxL (K:W.Frag):R2:=fun x y H Q=>∃p xs i v,x=.ref p/\y=.int i/\SqL K H p xs/\atI xs i=some v/\Q v H
def rIxT (K:W.Frag):R2:=fun x y H Q=>∃p xs i v,x=.ref p/\y=.int i/\SqT K H p xs/\atI xs i=some v/\Q v H
def rIxS:R2:=fun x y H Q=>∃z i c,x=.str z/\y=.int i/\z.length<=sizeLine/\atI z.cps.toList i=some c/\Q (.str ⟨#[c]⟩) H
theorem xg:IxR X (rIxL X.K) := by
 intro value slice pins s σ H x y v u Q I rx ry h hs
 obtain⟨p,xs,i,z,rfl,rfl,hq,he,q⟩:=h
 cases rx
 obtain⟨t,rfl⟩:=ry
 obtain⟨its,r,pl,hz⟩:=I.list hq
 obtain⟨j,h1,h2,h3,h4,h5⟩:=kG he
 obtain⟨w,ew,rw'⟩:=r.get h2
 have hl:=r.length
 have hn:=gF
 have fin:EP X pins σ Q w s:=⟨z,H,I,rw',q⟩
 by_cases h0:0<=i
 ·have hj:i.toNat=j:=by
     rw[seqIndex_of h0 h5] at h1
     exact Af h1
  exact item_listR pl.isList h0 (by omega) (by rw[hj];simpa using ew) fin hs
 ·have hj:(i+(its.toArray.size:Int)).toNat=j:=by
     rw[seqIndex_neg (by omega) h4] at h1
     rw[Au,<- hl]
     exact Af h1
  exact subscriptTail_builtinR (x:=w) pl.isList.typeIs slot_list_getitem.lookup
   (wpAny_getItem_list_neg (Q:=fun r s'=>r=w/\EP X pins σ Q r s') pl.isList (by omega) (by rw[Au] <;> omega) (by omega) (by rw[hj];simpa using ew) ⟨rfl,fin⟩) hs
theorem zn:IxR X (rIxT X.K):=by
 intro value slice pins s σ H x y v u Q I rx ry h hs
 obtain⟨p,xs,i,z,rfl,rfl,hq,he,q⟩:=h
 cases rx
 obtain⟨t,rfl⟩:=ry
 obtain⟨its,r,pl,hz⟩:=I.tuple hq
 obtain⟨j,h1,h2,h3,h4,h5⟩:=kG he
 obtain⟨w,ew,rw'⟩:=r.get h2
 have hl:=r.length
 have hn:=gF
 have fin:EP X pins σ Q w s:=⟨z,H,I,rw',q⟩
 exact subscriptTail_builtinR (x:=w) pl.typeIs slot_tuple_getitem.lookup
  (getItem_tuple (j:=j) (Q:=fun r s'=>r=w/\EP X pins σ Q r s') pl (by omega) (by omega) (by rw[Au,<- hl];exact h1) (by simpa using ew) ⟨rfl,fin⟩) hs
theorem yq:IxR X rIxS:=by
 intro value slice pins s σ H x y v u Q I rx ry h hs
 obtain⟨z,i,c,rfl,rfl,hz,he,q⟩:=h
 obtain⟨t,rfl⟩:=rx
 obtain⟨t',rfl⟩:=ry
 obtain⟨j,h1,h2,h3,h4,h5⟩:=kG he
 have hl:z.cps.toList.length=z.length:=by simp[Str.length]
 rw[hl] at h1 h4 h5
 have hn:=gF
 exact tail_any (typeIs_str s z t) slot_str_getitem.lookup (getItem_str (c:=c) (by
  have e1:decide (i < -(2 ^ 63:Int))=false:=Ay (by omega)
  have e2:decide (i ≥ 2 ^ 63)=false:=Ay (by omega)
  rw[e1,e2,Bool.or_false]) (by rw[h1];simpa using h2) ⟨.str ⟨#[c]⟩,H,I.tok _,⟨_,rfl⟩,q⟩) hs
theorem rG (its:List Value) (n j:Nat) (u:Value):Obj.mapSeq (·.setIfInBounds j u) { cls:=.type "list",data:=.seq its.toArray n }={ cls:=.type "list",data:=.seq (its.set j u).toArray n }:=by
 simp[Obj.mapSeq]
theorem Inv.lst (I:Inv X pins σ H s) (h:H p=some (.lst xs)) :
    ∃(its:List Value) (n:Nat),Vals xs its/\s.heap.get? p=some { cls:=.type "list",data:=.seq its.toArray n }/\xs.length<=sizeLine:=by
 obtain⟨z,its,n,r,e⟩:=I.hok p _ h
 exact⟨its,n,r,e,z⟩
theorem Inv.lstUpd {xs ys:List V}{its its':List Value}{n n':Nat}{f:Obj->Obj}(I:Inv X pins σ H s) (h:H p=some (.lst xs))
    (ho:s.heap.get? p=some { cls:=.type "list",data:=.seq its.toArray n }) (hf:f { cls:=.type "list",data:=.seq its.toArray n }={ cls:=.type "list",data:=.seq its'.toArray n' }) (r:Vals ys its') (hz:ys.length<=sizeLine) (t:Nat) :
    Inv X pins σ (upd H p (.lst ys)) { s with heap:=s.heap.update p f,toks:=t }:=by
 have e:(s.heap.update p f).get? p=some { cls:=.type "list",data:=.seq its'.toArray n' }:=by
  rw[Heap.get?_update_self f ho (by rw[hf] <;> rfl),hf]
 refine I.write (x:=p) (e:=p) (by rw[h];trivial) (.inl rfl) (fun b u hb q=>(Heap.get?_update_other _ _ (Ne.symm hb)).trans q) ⟨_,e⟩ ?_
 exact⟨hz,its',n',r,e⟩
def zE:V->V->V->Hp->(Hp->Prop)->Prop:=fun o i v H Q=>∃p xs k j,o=.ref p/\i=.int k/\H p=some (.lst xs)/\ixN xs.length k=some j/\Q (upd H p (.lst (xs.set j v)))
theorem u6:uW X zE := by
 intro pins s σ H o i v ov iv u Q I ro ri rv h
 obtain⟨p,xs,k,j,rfl,rfl,hp,hj,q⟩:=h
 cases ro
 obtain⟨t,rfl⟩:=ri
 obtain⟨its,n,r,ho,hz⟩:=I.lst hp
 obtain⟨h1,h2,h3,h4⟩:=pM hj
 have hl:=r.length
 have hn:=gF
 have I':Inv X pins σ (upd H p (.lst (xs.set j v))) { s with heap:=s.heap.update p (Obj.mapSeq (·.setIfInBounds j u)) } :=
  I.lstUpd hp ho (rG its n j u) (r.set rv j) (by rw[List.length_set];exact hz) s.toks
 by_cases h0:0<=k
 ·have hk:k.toNat=j:=by
     rw[seqIndex_of h0 h4] at h1
     exact Af h1
  exact W.ki_setAt ho h0 (by omega) (by rw[Au,<- hl];exact h4) (by rw[hk];exact⟨_,I',q⟩)
 ·have hk:(k+(its.toArray.size:Int)).toNat=j:=by
     rw[seqIndex_neg (by omega) h3] at h1
     rw[Au,<- hl]
     exact Af h1
  exact W.ki_setBack ho (by omega) (by rw[Au,<- hl];exact h3) (by omega) (by rw[hk];exact⟨_,I',q⟩)
theorem oG (lo hi:Option Int) (n:Nat):(sliceBounds lo hi none n).1=((HT.sIx n 0 lo:Nat):Int) /\ (sliceBounds lo hi none n).2.1=((HT.sIx n n hi:Nat):Int) /\ (sliceBounds lo hi none n).2.2=1 := by
 refine⟨?_,?_,rfl⟩
 ·cases lo with
  | none=>simp[sliceBounds,HT.sIx]
  | some i =>
   simp only[sliceBounds,HT.sIx,Option.getD_none,show (1:Int) > 0 by decide,if_true]
   by_cases h:i<0
   ·simp only[h,if_true] <;> omega
   ·simp only[h,if_false] <;> omega
 ·cases hi with
  | none=>simp[sliceBounds,HT.sIx]
  | some i =>
   simp only[sliceBounds,HT.sIx,Option.getD_none,show (1:Int) > 0 by decide,if_true]
   by_cases h:i<0
   ·simp only[h,if_true] <;> omega
   ·simp only[h,if_false] <;> omega
theorem mN (its:List Value) (lo hi:Option Int):slicePick its.toArray lo hi none=((its.drop (HT.sIx its.length 0 lo)).take (HT.sIx its.length its.length hi-HT.sIx its.length 0 lo)).toArray:=by
 obtain⟨h1,h2,h3⟩:=oG lo hi its.toArray.size
 unfold slicePick
 rw[h1,h2,h3]
 simp only[sliceRange_one,pick_run,Au] <;> rfl
def rSlL (K:W.Frag):V->Option Int->Option Int->Hp->VK->Prop:=fun x lo hi H Q=>∃a xs,x=.ref a/\SqL K H a xs/\∀p,H p=none->Q (.ref p) (upd H p (.lst (cL xs lo hi)))
theorem xW:SlR X (rSlL X.K):=by
 intro pins s σ H x v vl vu lo hi sl Q I rx hs pl pu h
 obtain⟨a,xs,rfl,hx,q⟩:=h
 cases rx
 obtain⟨its,r,ht,hz⟩:=I.list hx
 have hlen:=r.length
 refine⟨"list",_,slot_list_getitem.lookup,ht.isList.typeIs,?_⟩
 refine wpAny_getItem_list_slice ht.isList hs pl pu .none (by simp) ?_ (by rw[Au] <;> omega)
 rw[mN,<- hlen]
 refine⟨.ref s.heap.objs.size,_,I.laid (t':=s.toks) (o:=.lst (cL xs lo hi)) (fun b ob q=>An _ q) (Aa _) ?_,rfl,q _ (I.hok.fresh (Aa _))⟩
 exact⟨Az (i9 xs lo hi) hz,_,0,(r.drop (HT.sIx xs.length 0 lo)).take (HT.sIx xs.length xs.length hi-HT.sIx xs.length 0 lo),At _ rfl⟩
def cX:V->Bool
 | .non=>true
 | .bl _=>true
 | .int _=>true
 | .str _=>true
 | _=>false
def eqV:V->V->Bool
 | .non,.non=>true
 | .bl a,.bl b=>a==b
 | .bl a,.int b=>(if a then 1 else 0)==b
 | .int a,.bl b=>a==(if b then 1 else 0)
 | .int a,.int b=>a==b
 | .str a,.str b=>a==b
 | _,_=>false
theorem y4 (ry:RelV y u) (rx:RelV x v) (fy:cX y=true) (fx:cX x=true):SeqAt.EqAt A s u v (eqV y x):=by
 cases y with
 | non =>
  cases ry
  cases x with
  | non=>cases rx;exact SeqAt.EqAt.same _
  | bl b=>cases rx;exact SeqAt.EqAt.none_bool b
  | int b=>obtain⟨t,rfl⟩:=rx;exact SeqAt.EqAt.none_int b t
  | str b=>obtain⟨t,rfl⟩:=rx;exact SeqAt.EqAt.none_str b t
  | _=>exact absurd (show false=true from fx) AB
 | bl a =>
  cases ry
  cases x with
  | non=>cases rx;exact SeqAt.EqAt.bool_none a
  | bl b=>cases rx;exact SeqAt.EqAt.bool_bool a b
  | int b=>obtain⟨t,rfl⟩:=rx;exact SeqAt.EqAt.bool_int a b t
  | str b=>obtain⟨t,rfl⟩:=rx;exact SeqAt.EqAt.bool_str a b t
  | _=>exact absurd (show false=true from fx) AB
 | int a =>
  obtain⟨t',rfl⟩:=ry
  cases x with
  | non=>cases rx;exact SeqAt.EqAt.int_none a t'
  | bl b=>cases rx;exact SeqAt.EqAt.int_bool a t' b
  | int b=>obtain⟨t,rfl⟩:=rx;exact SeqAt.EqAt.int_int a t' b t
  | str b=>obtain⟨t,rfl⟩:=rx;exact SeqAt.EqAt.int_str a t' b t
  | _=>exact absurd (show false=true from fx) AB
 | str a =>
  obtain⟨t',rfl⟩:=ry
  cases x with
  | non=>cases rx;exact SeqAt.EqAt.str_none a t'
  | bl b=>cases rx;exact SeqAt.EqAt.str_bool a t' b
  | int b=>obtain⟨t,rfl⟩:=rx;exact SeqAt.EqAt.str_int a t' b t
  | str b=>obtain⟨t,rfl⟩:=rx;exact SeqAt.EqAt.str_str a t' b t
  | _=>exact absurd (show false=true from fx) AB
 | _=>exact absurd (show false=true from fy) AB
def eqU (x:V) (u:Value):Bool:=match u with
 | .none=>eqV .non x
 | .bool b=>eqV (.bl b) x
 | .int i _=>eqV (.int i) x
 | .str z _=>eqV (.str z) x
 | _=>false
theorem j4 (r:RelV y u) (f:cX y=true):eqU x u=eqV y x:=by
 cases y with
 | non=>cases r;rfl
 | bl b=>cases r;rfl
 | int i=>obtain⟨t,rfl⟩:=r;rfl
 | str z=>obtain⟨t,rfl⟩:=r;rfl
 | _=>exact absurd (show false=true from f) AB
theorem gI:∀ {xs:List V}{us:List Value},Vals xs us->xs.all cX=true->us.any (eqU x)=xs.any fun y=>eqV y x
 | _,_,.nil,_=>rfl
 | y::xs,u::us,.cons r t,f=>by
  rw[List.all_cons,Ba] at f
  rw[Bt,Bt,j4 r f.1,gI t f.2]
theorem dM (rx:RelV x v) (fx:cX x=true):∀ {xs:List V}{us:List Value},Vals xs us->xs.all cX=true->∀u∈us,SeqAt.EqAt A s u v (eqU x u)
 | _,_,.nil,_=>fun u hu=>by cases hu
 | y::xs,u::us,.cons r t,f=>fun u' hu=>by
  rw[List.all_cons,Ba] at f
  rcases AA.mp hu with rfl | hu
  ·rw[j4 r f.1];exact y4 r rx f.1 fx
  ·exact dM rx fx t f.2 u' hu
def inV (x:V) (xs:List V):Bool:=xs.any fun y=>eqV y x
def rIn (K:W.Frag) (neg:Bool):R2:=fun x y H Q=>∃p xs,y=.ref p/\(SqL K H p xs∨SqT K H p xs)/\cX x=true/\xs.all cX=true/\Q (.bl (if neg then !inV x xs else inV x xs)) H
theorem ub:OpR X (compareOp .In) (rIn X.K false):=by
 intro pins s σ H x y v u Q I rx ry h
 obtain⟨p,xs,rfl,hq,fx,fs,q⟩:=h
 cases ry
 rcases hq with hq | hq
 ·obtain⟨its,r,pl,hz⟩:=I.list hq
  refine SeqAt.in_listAt (eqU x) pl.isList (fun w hw=>dM rx fx r fs w (by simpa using hw)) ⟨.bl _,H,I,rfl,?_⟩
  rw[show its.toArray.any (eqU x)=its.any (eqU x) by simp,gI r fs]
  exact q
 ·obtain⟨its,r,pl,hz⟩:=I.tuple hq
  refine SeqAt.in_tupleAt (eqU x) pl (fun w hw=>dM rx fx r fs w (by simpa using hw)) ⟨.bl _,H,I,rfl,?_⟩
  rw[show its.toArray.any (eqU x)=its.any (eqU x) by simp,gI r fs]
  exact q
theorem no:OpR X (compareOp .NotIn) (rIn X.K true):=by
 intro pins s σ H x y v u Q I rx ry h
 obtain⟨p,xs,rfl,hq,fx,fs,q⟩:=h
 cases ry
 rcases hq with hq | hq
 ·obtain⟨its,r,pl,hz⟩:=I.list hq
  refine SeqAt.notIn_listAt (eqU x) pl.isList (fun w hw=>dM rx fx r fs w (by simpa using hw)) ⟨.bl _,H,I,rfl,?_⟩
  rw[show its.toArray.any (eqU x)=its.any (eqU x) by simp,gI r fs]
  exact q
 ·obtain⟨its,r,pl,hz⟩:=I.tuple hq
  refine SeqAt.notIn_tupleAt (eqU x) pl (fun w hw=>dM rx fx r fs w (by simpa using hw)) ⟨.bl _,H,I,rfl,?_⟩
  rw[show its.toArray.any (eqU x)=its.any (eqU x) by simp,gI r fs]
  exact q
theorem nC:eK X (.type "list") (fun xs H Q => ∃p ys, xs=[.ref p] /\ (SqL X.K H p ys ∨ SqT X.K H p ys) /\ ∀l, H l=none -> Q (.ref l) (upd H l (.lst ys))) := by
 intro pins s σ H xs us Q I r h
 obtain⟨p,ys,rfl,hq,q⟩:=h
 obtain⟨u,rfl,rx⟩:=cU r
 cases rx
 have fin:∀(its:List Value),Vals ys its->ys.length<=sizeLine->∀(h':Heap) (c':Nat),(∀b o',s.heap.get? b=some o'->h'.get? b=some o') ->
     h'.get? s.heap.objs.size=some { cls:=.type "list",dict:=none,data:=.seq its.toArray c',slots:=#[] }->EP X pins σ Q (.ref s.heap.objs.size) { s with heap:=h' }:=fun its r' hz h' c' kp e =>
  ⟨.ref s.heap.objs.size,_,I.laid (t':=s.toks) kp (Aa _) (show ObjOk X.prog X.w _ h' _ (.lst ys) from⟨hz,its,c',r',e⟩),rfl,q _ (I.hok.fresh (Aa _))⟩
 rcases hq with hq | hq
 ·obtain⟨its,r',pl,hz⟩:=I.list hq
  have hlen:=r'.length
  obtain⟨o,ho,hc,n,hd⟩:=pl.isList
  exact call_list_seq p (.inl rfl) ho hc hd (fun h' c' kp e=>fin its r' hz h' c' kp e) (by simp only[Au] <;> omega)
 ·obtain⟨its,r',pl,hz⟩:=I.tuple hq
  have hlen:=r'.length
  obtain⟨o,ho,hc,n,hd⟩:=pl
  exact call_list_seq p (.inr rfl) ho hc hd (fun h' c' kp e=>fin its r' hz h' c' kp e) (by simp only[Au] <;> omega)
theorem mL:eK X (.type "tuple") (fun xs H Q => ∃p ys, xs=[.ref p] /\ ((SqL X.K H p ys /\ ∀l, H l=none -> Q (.ref l) (upd H l (.tup ys))) ∨ (SqT X.K H p ys /\ Q (.ref p) H))) := by
 intro pins s σ H xs us Q I r h
 obtain⟨p,ys,rfl,h⟩:=h
 obtain⟨u,rfl,rx⟩:=cU r
 cases rx
 rcases h with⟨hq,q⟩ | ⟨hq,q⟩
 ·obtain⟨its,r',pl,hz⟩:=I.list hq
  have hlen:=r'.length
  refine call_tuple_list pl.isList (fun h' kp=>?_) (by simp only[Au] <;> omega)
  have I1:Inv X pins σ H { s with heap:=h' }:=I.kept (t':=s.toks) kp
  have I2:Inv X pins σ (upd H h'.objs.size (.tup ys)) { s with heap:=h'.push { cls:=.type "tuple",data:=.seq its.toArray } } :=
   I1.laid (t':=s.toks) (fun b o e=>An _ e) (Aa _) (show ObjOk X.prog X.w _ _ _ (.tup ys) from⟨hz,its,r',TupN.new _ _⟩)
  exact⟨.ref h'.objs.size,_,I2,rfl,q _ (I1.hok.fresh (Aa _))⟩
 ·obtain⟨its,r',pl,hz⟩:=I.tuple hq
  exact call_tuple_same pl ⟨.ref p,H,I,rfl,q⟩
def tyV (K:W.Frag) (T:String) (x:V) (H:Hp):Prop := match x with
 | .str _=>T="str"
 | .int _=>T="int"
 | .ref p=>(T="list"/\∃xs,SqL K H p xs)∨(T="tuple"/\∃o,K.lookup p=some o/\o.cls=.type "tuple"/\o.dict=none) ∨
     (T="dict"/\((∃kvs,H p=some (.dK kvs))∨∃kvs,H p=some (.dT kvs)))∨(T="set"/\∃S n,H p=some (.set S n))
 | _=>False
theorem sr (I:Inv X pins σ H s) (r:RelV x v) (ty:tyV X.K T x H) :
    s.TypeIs v T/\∀a,v=.ref a->∃ob,s.heap.get? a=some ob/\ob.dict=none:=by
 cases x with
 | str z =>
  obtain⟨t,rfl⟩:=r
  cases (show T="str" from ty)
  exact⟨typeIs_str s z t,fun _ e=>nomatch e⟩
 | int i =>
  obtain⟨t,rfl⟩:=r
  cases (show T="int" from ty)
  exact⟨typeIs_int s i t,fun _ e=>nomatch e⟩
 | ref p =>
  cases r
  rcases ty with⟨rfl,xs,hq⟩ | ⟨rfl,o,hk,hc,hd⟩ | ⟨rfl,hk⟩ | ⟨rfl,S,n,hk⟩
  ·obtain⟨its,_,pl,_⟩:=I.list hq
   refine⟨pl.isList.typeIs,fun a e=>?_⟩
   cases e
   obtain⟨o,n,e,c,hd,_⟩:=pl
   exact⟨o,e,hd⟩
  ·refine⟨⟨o,I.kIn p o hk,hc⟩,fun a e=>?_⟩
   cases e
   exact⟨o,I.kIn _ o hk,hd⟩
  ·have z:∃o, s.heap.get? p=some o /\ o.ExactDict := by
      rcases hk with⟨kvs,hk⟩ | ⟨kvs,hk⟩
      ·obtain⟨_,_,_,_,o,_,_,e,ex,_⟩:=I.hok p _ hk
       exact⟨o,e,ex⟩
      ·obtain⟨_,_,_,_,o,_,_,e,ex,_⟩:=I.hok p _ hk
       exact⟨o,e,ex⟩
   obtain⟨o,e,ex⟩:=z
   refine⟨⟨o,e,ex.1⟩,fun a e2=>?_⟩
   cases e2
   exact⟨o,e,ex.2.1⟩
  ·obtain⟨o,_,_,_,e,ex,_⟩:=I.hok p _ hk
   refine⟨⟨o,e,ex.1⟩,fun a e2=>?_⟩
   cases e2
   exact⟨o,e,ex.2.1⟩
 | _=>exact False.elim ty
def yw (K:W.Frag) (T:String) (r:V->List V->Hp->VK->Prop) (to:TE):TE:=fun σ H Q=>to σ H fun x H1=>tyV K T x H1/\r x [] H1 Q
def tBM (K:W.Frag) (T:String) (r:V->List V->Hp->VK->Prop) (to:TE) (t:TA):TE:=fun σ H Q=>to σ H fun x H1=>tyV K T x H1/\t σ H1 fun xs H2=>r x xs H2 Q
variable {o e:Expr}{es:List Expr}{to:TE}{t:TA}{name:Str}{apos cpos:Pos}{T id:String}{r:V->List V->Hp->VK->Prop}
theorem zc (pa:PlainAttrs T) (slot:Slot T name id) (hty:typeOf (.builtin id)=pure (.type "method_descriptor")) (hm:MtR X id r) (ho:PE X o to)
    (hbase:attributeBase o name X.env (eval o X.env)=eval o X.env:=by rfl) (hline:(apos.endLine==cpos.line)=true:=by rfl):PE X (.Call (.Attribute o name apos) [] [] cpos) (yw X.K T r to):=by
 intro pins s σ H Q I h
 refine wpAny_Call_method0_late hbase hline (thn (ho pins s σ H _ I h) fun v s1 ⟨x,H1,I1,r1,ty,q1⟩=>?_)
 obtain⟨h1,h2⟩:=sr I1 r1 ty
 exact⟨T,id,pa,slot,hty,h1,h2,Calls.callWith_builtin rfl (PySem.evalArgs_none (hm pins s1 σ H1 x [] v [] Q I1 r1 .nil q1))⟩
theorem jU (pa:PlainAttrs T) (slot:Slot T name id) (hty:typeOf (.builtin id)=pure (.type "method_descriptor")) (hm:MtR X id r) (ho:PE X o to) (ha:PA X (e :: es) t)
    (hbase:attributeBase o name X.env (eval o X.env)=eval o X.env:=by rfl)
    (hfew:((backTo cpos (starEach (e::es) X.env)).all (fun x=>!x.1)&&(backToKw cpos (keywordEach [] X.env)).all (fun x=>x.1.isSome)
     && decide ((e::es).length+([]:List Keyword).length+(if ([]:List Keyword).isEmpty then 0 else 1)<30))=true:=by rfl)
    (hline:(apos.endLine==cpos.line)=true:=by rfl) (hs:starEach (e::es) X.env=(false,eval e X.env)::starEach es X.env:=by rfl) (hplain:(backTo cpos (starEach es X.env)).any (·.1)=false:=by rfl) :
    PE X (.Call (.Attribute o name apos) (e::es) [] cpos) (tBM X.K T r to t):=by
 intro pins s σ H Q I h
 refine wpAny_Call_method_late hbase hfew hline rfl (thn (ho pins s σ H _ I h) fun v s1 ⟨x,H1,I1,r1,ty,q1⟩=>?_)
 obtain⟨h1,h2⟩:=sr I1 r1 ty
 refine⟨T,id,pa,slot,hty,h1,h2,?_⟩
 have hA:=ha cpos pins s1 σ H1 _ I1 q1
 rw[hs] at hA ⊢
 refine Calls.callWith_builtin (by show (false||(backTo cpos (starEach es X.env)).any (·.1))=false;rw[hplain] <;> rfl) (Calls.evalArgs_plain ?_)
 exact thn hA fun us s2 ⟨vs,H2,I2,r2,q2⟩=>hm pins s2 σ H2 x vs v us Q I2 r1 r2 q2
end
def MtM (X:Cx) (id:String) (r:V->List V->Hp->VK->Prop):Prop :=
 ∀(pins:List (Addr × Obj)) (s:Shared) (σ:St) (H:Hp) (x:V) (xs:List V) (v:Value) (us:List Value) (Q:VK),Inv X pins σ H s->RelV x v->Vals xs us->r x xs H Q ->
  wpAny (model X.prog X.w) X.A (call (.builtin id) (v::us)) (EP X pins σ Q) X.xe s
theorem Vals.one:∀ {x:V}{us:List Value},Vals [x] us->∃u,us=[u]/\RelV x u
 | _,_,.cons r .nil=>⟨_,rfl,r⟩
theorem Vals.zero:∀ {us:List Value},Vals [] us->us=[]
 | _,.nil=>rfl
theorem Vals.reverse (h:Vals xs us):Vals xs.reverse us.reverse:=by
 induction h with
 | nil=>exact .nil
 | cons r t ih=>rw[List.reverse_cons,List.reverse_cons];exact Vals.append ih (.cons r .nil)
section
variable {X:Cx}{pins:List (Addr × Obj)}{σ:St}{H:Hp}{s:Shared}{l b:Addr}{xs ys zs:List V}
theorem Inv.lset {its its':List Value}{n:Nat}{f:Array Value->Array Value}{t':Nat}(I:Inv X pins σ H s) (hH:H l=some (.lst xs))
    (e:s.heap.get? l=some { cls:=.type "list",data:=.seq its.toArray n }) (hf:f its.toArray=its'.toArray) (hv:Vals ys its') (hz:ys.length<=sizeLine) :
    Inv X pins σ (upd H l (.lst ys)) { s with heap:=s.heap.update l (Obj.mapSeq f),toks:=t' }:=by
 have q:=PySem.IsL.update e f
 rw[hf] at q
 refine I.write (x:=l) (e:=l) (by rw[hH];exact trivial) (.inl rfl) (fun b' u hb hu=>(Heap.get?_update_other s.heap (Obj.mapSeq f) (Ne.symm hb)).trans hu) ⟨_,q⟩ ?_
 exact⟨hz,its',_,hv,q⟩
theorem Inv.lnew (I:Inv X pins σ H s) (hv:Vals ys its) (hz:ys.length<=sizeLine) :
    Inv X pins σ (upd H s.heap.objs.size (.lst ys)) { s with heap:=s.heap.push { cls:=.type "list",data:=.seq its.toArray },toks:=t' } :=
 I.laid (fun _ _ q=>An _ q) (Aa _) ⟨hz,its,0,hv,At _ rfl⟩
theorem Inv.fresh (I:Inv X pins σ H s):H s.heap.objs.size=none:=I.hok.fresh (Aa _)
theorem Inv.lstM (I:Inv X pins σ H s) (hH:H l=some (.lst xs)):xs.length<=sizeLine/\∃(its:List Value) (n:Nat),Vals xs its/\xs.length=its.length/\s.heap.get? l=some { cls:=.type "list",data:=.seq its.toArray n }:=by
 obtain⟨z,its,n,r,e⟩:=I.hok l _ hH
 exact⟨z,its,n,r,r.length,e⟩
theorem uT (h:n<=sizeLine):Builtin.List.listTooLong n=false:=by
 unfold Builtin.List.listTooLong
 exact Ay (by omega)
end
section
variable {X:Cx}
def qE:V->List V->Hp->VK->Prop:=fun x vs H Q=>∃l xs y,x=.ref l/\vs=[y]/\H l=some (.lst xs)/\xs.length<sizeLine/\Q .non (upd H l (.lst (xs++[y])))
theorem mo:MtM X "list.append" qE:=by
 intro pins s σ H x vs v us Q I rx rv h
 obtain⟨l,xs,y,rfl,rfl,hH,hz,q⟩:=h
 cases rx
 obtain⟨u,rfl,ru⟩:=rv.one
 obtain⟨z,its,n,r,hl,e⟩:=I.lstM hH
 refine call_meets F.slot_list_append ⟨_,e,rfl⟩ F.entry_list_append (F.args_list_append_2 _ _) (PySem.list_append l its.toArray n u (by rw[Au];omega)) ⟨e,?_⟩
 refine⟨.non,_,I.lset (its':=its++[u]) hH e (by simp) (r.append (.cons ru .nil)) ?_,rfl,q⟩
 rw[Aq,List.length_singleton]
 omega
def kM:V->List V->Hp->VK->Prop:=fun x vs H Q=>∃l b xs zs,x=.ref l/\vs=[.ref b]/\H l=some (.lst xs)/\H b=some (.lst zs)/\xs.length+zs.length<=sizeLine/\Q .non (upd H l (.lst (xs++zs)))
theorem ur:MtM X "list.extend" kM:=by
 intro pins s σ H x vs v us Q I rx rv h
 obtain⟨l,b,xs,zs,rfl,rfl,hH,hB,hz,q⟩:=h
 cases rx
 obtain⟨u,rfl,ru⟩:=rv.one
 cases ru
 obtain⟨z,its,n,r,hl,e⟩:=I.lstM hH
 obtain⟨z2,its2,n2,r2,hl2,e2⟩:=I.lstM hB
 have hsz:its.toArray.size+its2.toArray.size<=sizeLine:=by rw[Au,Au];omega
 have hlong:¬ (!its.toArray.isEmpty&&Builtin.List.listTooLong (its.toArray.size+its2.toArray.size))=true:=by
  rw[uT hsz,Bool.and_false]
  exact AB
 refine call_meets F.slot_list_extend ⟨_,e,rfl⟩ F.entry_list_extend (F.args_list_extend_2 _ _)
  (AutoSeq1.list_extend_list_list_0 l its.toArray n b its2.toArray n2 hlong (by rw[Au];omega) (by omega)) ⟨e,e2,?_⟩
 refine⟨.non,_,I.lset (its':=its++its2) hH e (by simp) (r.append r2) ?_,rfl,q⟩
 rw[Aq]
 omega
def je:V->List V->Hp->VK->Prop:=fun x vs H Q=>∃l xs,x=.ref l/\vs=[]/\H l=some (.lst xs)/\Q .non (upd H l (.lst xs.reverse))
theorem rm:MtM X "list.reverse" je:=by
 intro pins s σ H x vs v us Q I rx rv h
 obtain⟨l,xs,rfl,rfl,hH,q⟩:=h
 cases rx
 have hus:=rv.zero
 subst hus
 obtain⟨z,its,n,r,hl,e⟩:=I.lstM hH
 refine call_meets F.slot_list_reverse ⟨_,e,rfl⟩ F.entry_list_reverse (F.args_list_reverse_1 _) (AutoSeq1.list_reverse_list_0 l its.toArray n (by rw[Au];omega)) ⟨e,?_⟩
 refine⟨.non,_,I.lset (its':=its.reverse) hH e (by simp) r.reverse ?_,rfl,q⟩
 rw[List.length_reverse]
 omega
def rCat:R2:=fun x y H Q=>∃l b xs zs,x=.ref l/\y=.ref b/\H l=some (.lst xs)/\H b=some (.lst zs)/\xs.length+zs.length<=sizeLine/\∀p,H p=none->Q (.ref p) (upd H p (.lst (xs++zs)))
theorem yb:OpR X (binaryOp .Add) rCat:=by
 intro pins s σ H x y v u Q I rx ry h
 obtain⟨l,b,xs,zs,rfl,rfl,hH,hB,hz,q⟩:=h
 cases rx
 cases ry
 obtain⟨z,its,n,r,hl,e⟩:=I.lstM hH
 obtain⟨z2,its2,n2,r2,hl2,e2⟩:=I.lstM hB
 refine PySem.P.add_list e e2 ?_ (by rw[Au,Au];omega)
 have ea:its.toArray++its2.toArray=(its++its2).toArray:=by simp
 rw[ea]
 exact⟨.ref _,_,I.lnew (t':=s.toks) (r.append r2) (by rw[Aq];omega),rfl,q _ I.fresh⟩
end
section
variable {κ:Type} [DecidableEq κ]
def aw (kvs:List (κ × V)) (k:κ):Option V:=(kvs.find? fun kv=>decide (kv.1=k)).map (·.2)
def bi (kvs:List (κ × V)) (k:κ) (v:V):List (κ × V) :=
 if (kvs.any fun kv=>decide (kv.1=k))=true then kvs.map (fun kv=>if kv.1=k then (kv.1,v) else kv) else kvs++[(k,v)]
theorem vO:aw ([]:List (κ × V)) k=none:=rfl
theorem cr {p:κ × V}{r:List (κ × V)}{k:κ}(e:p.1=k):aw (p::r) k=some p.2:=by simp[aw,A0,e]
theorem cp {p:κ × V}{r:List (κ × V)}{k:κ}(e:¬ p.1=k):aw (p::r) k=aw r k:=by simp[aw,A0,e]
theorem eW (k:κ):∀kvs:List (κ × V),(kvs.any fun kv=>decide (kv.1=k))=(aw kvs k).isSome
 | []=>rfl
 | p::r=>by
  rw[Bt]
  by_cases e:p.1=k
  ·simp only[cr e,Ai e,Bool.true_or,Option.isSome_some]
  ·rw[cp e,Ay e,Bool.false_or];exact eW k r
theorem oh (k j:κ) (y:V):∀kvs:List (κ × V), aw (kvs.map fun kv => if kv.1=k then (kv.1, y) else kv) j=(aw kvs j).map fun x => if j=k then y else x
 | []=>rfl
 | p::r=>by
  have ih:=oh k j y r
  rw[AD]
  by_cases h:p.1=k
  ·rw[if_pos h]
   by_cases e:p.1=j
   ·rw[cr (p:=(p.1,y)) e,cr e,Option.map_some,if_pos (e.symm.trans h)]
   ·rw[cp (p:=(p.1,y)) e,cp e,ih]
  ·rw[if_neg h]
   by_cases e:p.1=j
   ·rw[cr (p:=p) e,cr e,Option.map_some,if_neg (fun z=>h (e.trans z))]
   ·rw[cp (p:=p) e,cp e,ih]
theorem mw (k j:κ) (y:V):∀kvs:List (κ × V),aw kvs k=none->aw (kvs++[(k,y)]) j=if j=k then some y else aw kvs j
 | [],_=>by
  by_cases e:k=j
  ·rw[if_pos e.symm];exact cr (p:=(k,y)) e
  ·rw[if_neg (fun z=>e z.symm)];exact cp (p:=(k,y)) e
 | p::r,hn=>by
  rw[List.cons_append]
  have hk:¬ p.1=k:=fun z=>by rw[cr z] at hn;cases hn
  rw[cp hk] at hn
  have ih:=mw k j y r hn
  by_cases e:p.1=j
  ·rw[cr e,cr e,if_neg (fun z=>hk (e.trans z))]
  ·rw[cp e,cp e,ih]
theorem cH (kvs:List (κ × V)) (k j:κ) (y:V):aw (bi kvs k y) j=if j=k then some y else aw kvs j := by
 unfold bi
 by_cases a:(kvs.any fun kv=>decide (kv.1=k))=true
 ·rw[if_pos a,oh]
  rw[eW] at a
  by_cases e:j=k
  ·obtain⟨x,hx⟩:=Bh.mp a
   rw[if_pos e,e,hx,Option.map_some,if_pos rfl]
  ·rw[if_neg e]
   cases aw kvs j with
   | none=>rfl
   | some x=>rw[Option.map_some,if_neg e]
 ·rw[if_neg a]
  refine mw k j y kvs ?_
  rw[eW] at a
  cases q:aw kvs k with
  | none=>rfl
  | some x=>rw[q] at a;exact(a rfl).elim
theorem bw (kvs:List (κ × V)) (k:κ) (v:V):(bi kvs k v).length<=kvs.length+1:=by
 unfold bi
 split
 ·rw[z0];omega
 ·rw[Aq,Aw,List.length_nil];omega
theorem oU {kvs:List (κ × V)}{k:κ}(v:V) (h:aw kvs k=none):bi kvs k v=kvs++[(k,v)]:=by
 unfold bi
 rw[eW,h]
 exact if_neg (by decide)
theorem RelO.isSome_eq (r:RelO o u):o.isSome=u.isSome:=by
 cases o with
 | none=>cases u with
  | none=>rfl
  | some _=>exact(show False from r).elim
 | some _=>cases u with
  | none=>exact(show False from r).elim
  | some _=>rfl
theorem KV.val {kvs:List (κ × V)}{vs:List (κ × Value)}(r:KV kvs vs) (k:κ):RelO (aw kvs k) (valueAt vs k) := by
 unfold KV at r
 induction r with
 | nil=>exact True.intro
 | @cons p q ps qs h t ih =>
  obtain⟨h1,h2⟩:=h
  by_cases e:p.1=k
  ·have e':q.1=k:=h1.symm.trans e
   have b:valueAt (q::qs) k=some q.2:=by simp[valueAt,A0,e']
   rw[cr e,b];exact h2
  ·have e':¬ q.1=k:=fun z=>e (h1.trans z)
   have b:valueAt (q::qs) k=valueAt qs k:=by simp[valueAt,A0,e']
   rw[cp e,b];exact ih
theorem KV.any (r:KV kvs vs) (k:κ):(kvs.any fun kv=>decide (kv.1=k))=vs.any fun kv=>decide (kv.1=k):=by
 unfold KV at r
 induction r with
 | nil=>rfl
 | cons h t ih=>rw[Bt,Bt,ih,h.1]
theorem KV.repl (r:KV kvs vs) (k:κ) (ry:RelV y u) :
    KV (kvs.map fun kv=>if kv.1=k then (kv.1,y) else kv) (vs.map fun kv=>if kv.1=k then (kv.1,u) else kv):=by
 unfold KV at r ⊢
 induction r with
 | nil=>exact .nil
 | @cons p q ps qs h t ih =>
  rw[AD,AD]
  refine .cons ?_ ih
  obtain⟨h1,h2⟩:=h
  by_cases e:p.1=k
  ·rw[if_pos e,if_pos (h1.symm.trans e)];exact⟨h1,ry⟩
  ·rw[if_neg e,if_neg (fun z=>e (h1.trans z))];exact⟨h1,h2⟩
theorem KV.put (r:KV kvs vs) (k:κ) (ry:RelV y u):KV (bi kvs k y) (stored vs k u):=by
 unfold bi stored
 rw[r.any k]
 by_cases e:(vs.any fun kv=>decide (kv.1=k))=true
 ·rw[if_pos e,if_pos e];exact r.repl k ry
 ·rw[if_neg e,if_neg e];exact Paired.snoc r ⟨rfl,ry⟩
theorem KV.length (r:KV kvs vs):kvs.length=vs.length:=Paired.length r
end
theorem fA (r:RelV (kV k) u):(bu P w).is k u=true:=by
 cases k with
 | inl i=>obtain⟨t,e⟩:=(show ∃t,u=Value.int i t from r);subst e;exact oX P w i t
 | inr x=>obtain⟨t,e⟩:=(show ∃t,u=Value.str x t from r);subst e;exact gu P w x t
theorem lK:∀ {ks:List Key}{us:List Value},Vals (ks.map kV) us->ItemsAre (bu P w) ks us
 | [],_,r=>by rw[List.map_nil] at r;cases r;exact .nil
 | k::ks,_,r=>by
  rw[AD] at r
  cases r with
  | cons h t=>exact .cons (fA h) (lK t)
abbrev KT (H:Hp):List (List Key × V)->List (List Key × Addr × Value)->Prop:=Paired fun p q=>p.1=q.1/\H q.2.1=some (.tup (p.1.map kV))/\RelV p.2 q.2.2
theorem KT.val {kvs:List (List Key × V)}{xs:List (List Key × Addr × Value)}(r:KT H kvs xs) (k:List Key):RelO (aw kvs k) ((atKey xs k).map (·.2)) := by
 induction r with
 | nil=>exact True.intro
 | @cons p q ps qs h t ih =>
  obtain⟨h1,_,h2⟩:=h
  by_cases e:p.1=k
  ·have e':q.1=k:=h1.symm.trans e
   have b:atKey (q::qs) k=some q.2:=by simp[atKey,A0,e']
   rw[cr e,b];exact h2
  ·have e':¬ q.1=k:=fun z=>e (h1.trans z)
   have b:atKey (q::qs) k=atKey qs k:=by simp[atKey,A0,e']
   rw[cp e,b];exact ih
theorem KT.repl (r:KT H kvs xs) (k:List Key) (ry:RelV y u) :
    KT H (kvs.map fun kv=>if kv.1=k then (kv.1,y) else kv) (xs.map (putAt k u)):=by
 induction r with
 | nil=>exact .nil
 | @cons p q ps qs h t ih =>
  rw[AD,AD]
  refine .cons ?_ ih
  obtain⟨h1,h2,h3⟩:=h
  unfold putAt
  by_cases e:p.1=k
  ·rw[if_pos e,if_pos (h1.symm.trans e)];exact⟨h1,h2,ry⟩
  ·rw[if_neg e,if_neg (fun z=>e (h1.trans z))];exact⟨h1,h2,h3⟩
theorem KT.put (r:KT H kvs xs) (k:List Key) (hb:H b=some (.tup (k.map kV))) (ry:RelV y u) :
    KT H (bi kvs k y) (storedH xs k b u):=by
 have e:(kvs.any fun kv=>decide (kv.1=k))=(atKey xs k).isSome:=by
  rw[eW,(r.val k).isSome_eq,Option.isSome_map]
 unfold bi storedH
 rw[e]
 by_cases q:(atKey xs k).isSome=true
 ·rw[if_pos q,if_pos q];exact r.repl k ry
 ·rw[if_neg q,if_neg q];exact Paired.snoc r ⟨rfl,hb,ry⟩
theorem KT.keeps (r:KT H kvs xs) (ht:∀b ys,H b=some (.tup ys)->H' b=some (.tup ys)):KT H' kvs xs :=
 Paired.mapP r fun _ _ z=>⟨z.1,ht _ _ z.2.1,z.2.2⟩
section
variable {P:Program}{w:World}{H:Hp}{h:Heap}{a:Addr}
theorem wN (ok:HOk P w H h) (e:Rd H a u):ObjOk P w H h a u:=e.ok ok
theorem j0 (ok:HOk P w H h) (e:Rd H a (.dK kvs)):kvs.length<=sizeLine/\(a==sysModules)=false/\∃vs,KV kvs vs/\h.DictOf (bu P w) a vs :=
 show ObjOk P w H h a (.dK kvs) from wN ok e
theorem rQ (ok:HOk P w H h) (e:H a=some (.dK kvs)):kvs.length<=sizeLine/\(a==sysModules)=false/\∃vs,KV kvs vs/\h.DictOf (bu P w) a vs:=j0 ok (.inl e)
theorem gE (ok:HOk P w H h) (e:H a=some (.tup (ks.map kV))):(tupleKind (bu P w)).is h ks a:=by
 obtain⟨_,its,r,o,h1,h2,n,h3,_⟩:=(show ObjOk P w H h a (.tup (ks.map kV)) from ok a _ e)
 exact⟨o,its.toArray,n,h1,h2,h3,by simpa using lK r⟩
theorem kE (ok:HOk P w H h) (e:Rd H a (.dT kvs)):kvs.length <= sizeLine /\ (a==sysModules)=false /\
    ∃xs,KT H kvs xs/\h.DictOfH (tupleKind (bu P w)) a xs:=by
 obtain⟨z,y,xs,r,o,es,ep,h1,h2,h3,h4,h5⟩:=(show ObjOk P w H h a (.dT kvs) from wN ok e)
 refine⟨z,y,xs,r,o,es,ep,h1,h2,h3,h4,fun x hx=>?_,h5⟩
 have all:∀ {l:List (List Key × V)} {m:List (List Key × Addr × Value)}, KT H l m -> ∀x ∈ m, (tupleKind (bu P w)).is h x.1 x.2.1 := by
  intro l m q
  induction q with
  | nil=>intro x hx;exact nomatch hx
  | @cons p q ps qs hq t ih =>
   intro x hx
   rcases AA.mp hx with e | hx
   ·subst e
    exact gE ok (by rw[<- hq.1];exact hq.2.1)
   ·exact ih x hx
 exact all r x hx
theorem wI (ok:HOk P w H h) (e:H a=some (.dT kvs)):kvs.length<=sizeLine/\(a==sysModules)=false /\
    ∃xs,KT H kvs xs/\h.DictOfH (tupleKind (bu P w)) a xs:=kE ok (.inl e)
end
def DGet (H:Hp) (a:Addr) (y:V) (r:Option V):Prop :=
 (∃kvs k,Rd H a (.dK kvs)/\y=kV k/\r=aw kvs k)∨∃kvs k b,Rd H a (.dT kvs)/\y=.ref b/\H b=some (.tup (k.map kV))/\r=aw kvs k
def DPut (H:Hp) (a:Addr) (y v:V) (H':Hp):Prop :=
 (∃kvs k,H a=some (.dK kvs)/\y=kV k/\kvs.length<sizeLine/\H'=upd H a (.dK (bi kvs k v))) ∨
 ∃kvs k b,H a=some (.dT kvs)/\y=.ref b/\H b=some (.tup (k.map kV))/\kvs.length<sizeLine/\H'=upd H a (.dT (bi kvs k v))
theorem DGet.k {kvs:List (Key × V)}{k:Key}(e:H a=some (.dK kvs)):DGet H a (kV k) (aw kvs k):=.inl ⟨kvs,k,.inl e,rfl,rfl⟩
theorem DPut.k {kvs:List (Key × V)}{k:Key}(e:H a=some (.dK kvs)) (hl:kvs.length<sizeLine):DPut H a (kV k) v (upd H a (.dK (bi kvs k v))):=.inl ⟨kvs,k,e,rfl,hl,rfl⟩
theorem DPut.t {kvs:List (List Key × V)}{k:List Key}(e:H a=some (.dT kvs)) (eb:H b=some (.tup (k.map kV))) (hl:kvs.length<sizeLine) :
    DPut H a (.ref b) v (upd H a (.dT (bi kvs k v))):=.inr ⟨kvs,k,b,e,rfl,eb,hl,rfl⟩
section
variable {X:Cx}{pins:List (Addr × Obj)}{σ:St}{H:Hp}{s:Shared}{a:Addr}{y v:V}{u r:Value}{o:Option V}{A:Around}{E:Value->Shared->Prop}
theorem Inv.big (I:Inv X pins σ H s):sysModules<s.heap.objs.size:=by
 have h:mainGlobals<s.heap.objs.size:=(I.mod.glob.keeps I.bk).lt
 exact Nat.lt_trans (by decide) h
theorem tR (hu:A.units+1<cLine) (I:Inv X pins σ H s) (g:DGet H a y (some v)) (ry:RelV y u) (h:∀w' s',Inv X pins σ H s'->RelV v w'->Q w' s') :
    wpAny (model X.prog X.w) A (getItem (.ref a) u) Q E s:=by
 rcases g with⟨kvs,k,e,ey,l⟩ | ⟨kvs,k,b,e,ey,eb,l⟩
 ·subst ey
  obtain⟨z,hd,vs,rel,dd⟩:=j0 I.hok e
  obtain⟨w',hw,rw'⟩:=RelO.some_of (v:=v) (o:=valueAt vs k) (by rw[l];exact rel.val k)
  exact wpAny_getItem_of (fA ry) dd.mapOf hw (h w' _ (I.tok _) rw')
 ·subst ey
  cases (show u=Value.ref b from ry)
  obtain⟨z,hd,xs,rel,dd⟩:=kE I.hok e
  obtain⟨w',hw,rw'⟩:=RelO.some_of (v:=v) (o:=(atKey xs k).map (·.2)) (by rw[l];exact rel.val k)
  obtain⟨p,hp,hp2⟩:=Option.map_eq_some_iff.mp hw
  refine wpAny_getItem_heap (tupleKind_room_in1 hu) (gE I.hok eb) dd hp ?_
  rw[hp2]
  exact h w' _ (I.tok _) rw'
theorem d_in (hu:A.units+1<cLine) (I:Inv X pins σ H s) (g:DGet H a y o) (ry:RelV y u) (h:∀s',Inv X pins σ H s'->Q (.bool o.isSome) s') :
    wpAny (model X.prog X.w) A (compareOp .In u (.ref a)) Q E s:=by
 rcases g with⟨kvs,k,e,ey,l⟩ | ⟨kvs,k,b,e,ey,eb,l⟩
 ·subst ey
  obtain⟨z,hd,vs,rel,dd⟩:=j0 I.hok e
  refine wpAny_in_of (fA ry) hd dd.mapOf ?_
  rw[<- (rel.val k).isSome_eq,<- l]
  exact h _ (I.tok _)
 ·subst ey
  cases (show u=Value.ref b from ry)
  obtain⟨z,hd,xs,rel,dd⟩:=kE I.hok e
  refine wpAny_in_heap (tupleKind_room_in1 hu) (gE I.hok eb) hd dd ?_
  have q:=(rel.val k).isSome_eq
  rw[Option.isSome_map] at q
  rw[<- q,<- l]
  exact h _ (I.tok _)
theorem xc (hu:A.units+1<cLine) (I:Inv X pins σ H s) (g:DGet H a y o) (ry:RelV y u) (h:∀s',Inv X pins σ H s'->Q (.bool (!o.isSome)) s') :
    wpAny (model X.prog X.w) A (compareOp .NotIn u (.ref a)) Q E s:=by
 rcases g with⟨kvs,k,e,ey,l⟩ | ⟨kvs,k,b,e,ey,eb,l⟩
 ·subst ey
  obtain⟨z,hd,vs,rel,dd⟩:=j0 I.hok e
  refine wpAny_notIn_of (fA ry) hd dd.mapOf ?_
  rw[<- (rel.val k).isSome_eq,<- l]
  exact h _ (I.tok _)
 ·subst ey
  cases (show u=Value.ref b from ry)
  obtain⟨z,hd,xs,rel,dd⟩:=kE I.hok e
  refine wpAny_notIn_heap (tupleKind_room_in1 hu) (gE I.hok eb) hd dd ?_
  have q:=(rel.val k).isSome_eq
  rw[Option.isSome_map] at q
  rw[<- q,<- l]
  exact h _ (I.tok _)
theorem gJ (I:Inv X pins σ H s) (mu:Mut (H a)) (hs:Heap.SameBut a s.heap h') (he:∃q,h'.get? a=some q) (new:ObjOk X.prog X.w (upd H a ob) h' a ob) :
    Inv X pins σ (upd H a ob) { s with heap:=h',toks:=t' } :=
 I.write (x:=a) (e:=a) mu (.inl rfl) (fun b q hb z=>(hs.2 b hb).trans z) he new
theorem nh (z:kvs.length<=sizeLine) (hd:(a==sysModules)=false) (rel:KV kvs vs) (dd:h'.DictOf (bu P w) a vs) :
    ObjOk P w H' h' a (.dK kvs):=⟨z,hd,vs,rel,dd⟩
theorem tL (hu:A.units+1<cLine) (I:Inv X pins σ H s) (g:DPut H a y v H') (ry:RelV y u) (rv:RelV v r) (h:∀s',Inv X pins σ H' s'->Q () s') :
    wpAny (model X.prog X.w) A (setItem (.ref a) u r) Q E s:=by
 rcases g with⟨kvs,k,e,ey,l,eH⟩ | ⟨kvs,k,b,e,ey,eb,l,eH⟩
 ·subst ey eH
  obtain⟨z,hd,vs,rel,dd⟩:=rQ I.hok e
  have hz:vs.length<=sizeLine:=by rw[<- rel.length];exact z
  have hl:(bi kvs k v).length<=sizeLine:=by have:=bw kvs k v;omega
  refine wpAny_setItem_pairs (hsz:=hz) (fA ry) dd fun h' dd' hs=>h _ ?_
  have he:∃q,h'.get? a=some q:=let ⟨q,_,_,hq,_⟩:=dd';⟨q,hq⟩
  exact gJ I (by rw[e];exact True.intro) hs he (nh hl hd (rel.put k rv) dd')
 ·subst ey eH
  cases (show u=Value.ref b from ry)
  obtain⟨z,hd,xs,rel,dd⟩:=wI I.hok e
  have hz:xs.length<=sizeLine:=by rw[<- Paired.length rel];exact z
  have hl:(bi kvs k v).length<=sizeLine:=by have:=bw kvs k v;omega
  refine wpAny_setItem_heap (hsz:=hz) (tupleKind_room_in1 hu) (gE I.hok eb) dd fun h' dd' hs=>h _ ?_
  obtain⟨q,es,ep,hq,h2,h3,h4,_,h5⟩:=dd'
  refine gJ I (by rw[e];exact True.intro) hs ⟨q,hq⟩ ⟨hl,hd,_,(rel.put k eb rv).keeps fun c ys ec=>?_,q,es,ep,hq,h2,h3,h4,h5⟩
  rw[af (ba ec e (fun z=>nomatch z))]
  exact ec
end
theorem pE (I:Inv X pins σ H s) (g:DGet H a y o):s.TypeIs (.ref a) "dict":=by
 rcases g with⟨kvs,k,e,_,_⟩ | ⟨kvs,k,b,e,_,_,_⟩
 ·obtain⟨_,_,vs,_,dd⟩:=j0 I.hok e
  exact dd.typeIs
 ·obtain⟨_,_,xs,_,dd⟩:=kE I.hok e
  exact dd.typeIs
theorem gX (h:Heap) (hb:sysModules<h.objs.size):ObjOk P w H (h.push { cls:=.type "dict",data:=.dict #[] }) h.objs.size (.dK []) :=
 ⟨AC _,beq_eq_false_iff_ne.mpr (Ne.symm (Ax hb)),[],.nil,Heap.DictOf.new h⟩
theorem u5 (h:Heap) (hb:sysModules<h.objs.size):ObjOk P w H (h.push { cls:=.type "dict",data:=.dict #[] }) h.objs.size (.dT []) :=
 ⟨AC _,beq_eq_false_iff_ne.mpr (Ne.symm (Ax hb)),[],.nil,_,#[],0,At _ rfl,⟨rfl,rfl,rfl⟩,rfl,rfl,Bv⟩
def zr:TE:=fun _ H Q=>∀p,H p=none->Q (.ref p) (upd H p (.dK []))
def yW:TE:=fun _ H Q=>∀p,H p=none->Q (.ref p) (upd H p (.dT []))
section
variable {X:Cx}{pos:Pos}
theorem fY:PE X (.Dict [] [] pos) zr:=fun pins s σ H Q I h =>
 wpAny_Dict_empty ⟨.ref s.heap.objs.size,_,I.laid (a:=s.heap.objs.size) (o:=.dK []) (t':=s.toks) (fun _ _ q=>An _ q) (Aa _) (gX s.heap I.big),rfl,h _ (I.hok.fresh (Aa _))⟩
theorem vY:PE X (.Dict [] [] pos) yW:=fun pins s σ H Q I h =>
 wpAny_Dict_empty ⟨.ref s.heap.objs.size,_,I.laid (a:=s.heap.objs.size) (o:=.dT []) (t':=s.toks) (fun _ _ q=>An _ q) (Aa _) (u5 s.heap I.big),rfl,h _ (I.hok.fresh (Aa _))⟩
end
def nT:List (TE × TE)->St->Hp->(List (V × V)->Hp->Prop)->Prop
 | [],_,H,Q=>Q [] H
 | (tk,tv)::r,σ,H,Q=>tk σ H fun x H1=>tv σ H1 fun y H2=>nT r σ H2 fun ps H3=>Q ((x,y)::ps) H3
abbrev VV:List (V × V)->List (Value × Value)->Prop:=Paired fun p q=>RelV p.1 q.1/\RelV p.2 q.2
def PPs (X:Cx) (pos:Pos) (keys:List (Option Expr)) (values:List Expr) (trs:List (TE × TE)):Prop :=
 ∀(pins:List (Addr × Obj)) (s:Shared) (σ:St) (H:Hp) (Q:List (V × V)->Hp->Prop),Inv X pins σ H s->nT trs σ H Q ->
  wpAny (model X.prog X.w) X.A (evalPairs (pairTrees keys values X.env pos)) (fun vs s'=>∃ps H',Inv X pins σ H' s'/\VV ps vs/\Q ps H') X.xe s
theorem pR:PPs X pos [] [] []:=fun pins s σ H Q I h=>pairTrees_nil_walk ⟨[],H,I,.nil,h⟩
theorem gW (hk:PE X k tk) (hv:PE X v tv) (hr:PPs X pos ks vs trs) :
    PPs X pos (some k::ks) (v::vs) ((tk,tv)::trs):=fun pins s σ H Q I h =>
 pairTrees_cons_walk (thn (hk pins s σ H _ I h) fun u s1 ⟨x,H1,I1,rx,q1⟩=>thn (hv pins s1 σ H1 _ I1 q1) fun w2 s2 ⟨y,H2,I2,ry,q2⟩ =>
  thn (hr pins s2 σ H2 _ I2 q2) fun ws s3 ⟨ps,H3,I3,rel,q3⟩=>⟨(x,y)::ps,H3,I3,.cons ⟨rx,ry⟩ rel,q3⟩)
def eg (kvs more:List (Key × V)):List (Key × V):=more.foldl (fun acc kv=>bi acc kv.1 kv.2) kvs
theorem KV.merge:∀ {more:List (Key × V)}{rs:List (Key × Value)}{kvs:List (Key × V)}{vs:List (Key × Value)}, KV more rs -> KV kvs vs -> KV (eg kvs more) (merged vs rs) := by
 intro more rs kvs vs r
 unfold KV at r
 induction r generalizing kvs vs with
 | nil=>intro q;exact q
 | @cons p q ps qs h t ih =>
  intro r0
  have e:KV (bi kvs p.1 p.2) (stored vs q.1 q.2):=by
   have:=r0.put p.1 h.2
   rw[<- h.1];exact this
  exact ih e
theorem io:∀(more kvs:List (Key × V)),(eg kvs more).length<=kvs.length+more.length
 | [],kvs=>by show kvs.length<=kvs.length+0;omega
 | p::r,kvs=>by
  have h1:=io r (bi kvs p.1 p.2)
  have h2:=bw kvs p.1 p.2
  show (eg (bi kvs p.1 p.2) r).length<=_
  rw[Aw];omega
theorem jJ:∀ {kvs:List (Key × V)}{ws:List (Value × Value)}, VV (kvs.map fun kv => (kV kv.1, kv.2)) ws -> ∃rs, Carries (bu P w) ws rs /\ KV kvs rs
 | [],_,r=>by rw[List.map_nil] at r;cases r;exact⟨[],True.intro,.nil⟩
 | p::kvs,_,r=>by
  rw[AD] at r
  cases r with
  | @cons a b as bs h t =>
   obtain⟨rs,c,q⟩:=jJ (P:=P) (w:=w) t
   obtain⟨b1,b2⟩:=b
   exact⟨(p.1,b2)::rs,⟨fA h.1,rfl,c⟩,.cons ⟨rfl,h.2⟩ q⟩
def zL (trs:List (TE × TE)):TE:=fun σ H Q=>∀p,H p=none->nT trs σ (upd H p (.dK [])) fun ps H2=>H2 p=some (.dK [])/\∃kvs:List (Key × V),ps=kvs.map (fun kv=>(kV kv.1,kv.2))/\kvs.length<=15/\Q (.ref p) (upd H2 p (.dK (eg [] kvs)))
theorem qd (h:PPs X pos keys values trs) (hall:keys.all (·.isSome)=true) (hl:keys.length=values.length) (h0:keys≠[])
    (h15:keys.length<=15):PE X (.Dict keys values pos) (zL trs):=by
 intro pins s σ H Q I q
 have hn:=I.hok.fresh (Aa s.heap.objs.size)
 have I1:=I.laid (a:=s.heap.objs.size) (o:=.dK []) (h':=s.heap.push { cls:=.type "dict",data:=.dict #[] }) (t':=s.toks) (fun _ _ q=>An _ q) (Aa _) (gX s.heap I.big)
 refine wpAny_Dict_walk (knd:=bu X.prog X.w) hall hl h0 h15 (thn (h pins _ σ _ _ I1 (q _ hn)) fun ws s2 ⟨ps,H2,I2,rel,e,kvs,ep,lk,q2⟩=>?_)
 subst ep
 obtain⟨rs,c,rk⟩:=jJ (P:=X.prog) (w:=X.w) rel
 obtain⟨z,hd,vs0,r0,dd⟩:=rQ I2.hok e
 cases r0
 refine⟨rs,c,dd,fun h' dd' hs=>⟨.ref s.heap.objs.size,_,?_,rfl,q2⟩⟩
 have hz:(eg [] kvs).length<=sizeLine:=by
  have h1:=io kvs []
  rw[List.length_nil] at h1
  rw[sizeLine_eq];omega
 have he:∃q,h'.get? s.heap.objs.size=some q:=let ⟨q,_,_,hq,_⟩:=dd';⟨q,hq⟩
 exact gJ I2 (by rw[e];exact True.intro) hs he (nh hz hd (rk.merge .nil) dd')
end L2
namespace Att
open PySem PySem.W PySem.Calls PyProof.Rows
theorem jT:∀(ns:List Int) (vs:List Value), WellAll P h vs (ns.map WData.int) -> IntsAre vs ns := by
 intro ns
 induction ns with
 | nil =>
  intro vs w
  rw[List.map_nil] at w
  cases w
  exact .nil
 | cons n ns ih =>
  intro vs w
  rw[AD] at w
  cases w with
  | cons a b =>
   cases a
   exact .cons _ _ (ih _ b)
theorem sX {l:OpenLaw}{n:Nat}(hn:l.most=some n) {P:Params}{args:List WData}{vals:List Value}
    (hpre:l.row.toRowW.claim.pre args=true) (hwl:WellAll P h vals args) :
    ∃a vs ns,vals=[Value.ref a]/\args=[WData.list (ns.map WData.int)]/\h.get? a=some { cls:=.type "list",data:=.seq vs.toArray }/\IntsAre vs ns/\ns.length<=n:=by
 have hsh:WShape.hasAll [] args [.list .int]=true:=(pre_splitW hpre).1
 have hc:l.pre.holds [] { args:=args }=true:=(pre_splitW hpre).2
 obtain⟨d,r,rfl,h1,h2⟩:=hasAllW_cons hsh
 obtain rfl:=hasAllW_nil h2
 obtain⟨xs,rfl,h3⟩:=hasW_list h1
 obtain⟨ns,rfl⟩:=items_int h3
 have hlen:ns.length<=n:=by
  unfold OpenLaw.pre at hc
  have h4:(WTm.not (.lt (.lit (.int (n:Int))) (.len (.arg 0)))).holds [] { args:=[.list (ns.map .int)] }=true:=by
   have h4:=(holds_andW hc).1
   rw[hn] at h4
   exact h4
  have h5:=condW_of h4 (w_not (w_lt w_lit (w_len_list (w_arg rfl))))
  rw[z0] at h5
  refine Bw fun q=>?_
  have q':(n:Int)<((ns.length:Nat):Int):=by omega
  first
   | (rw[Ai q'] at h5;exact absurd h5 (by decide))
   | (simp at h5;omega)
 cases hwl with
 | cons w1 w2 =>
  cases w2
  cases w1 with
  | list ho hall=>exact⟨_,_,ns,rfl,rfl,ho,jT ns _ hall,hlen⟩
theorem sH (l:OpenLaw) (args:List WData):l.row.toRowW.claim.post args (.bool true) args=true :=
 postW_of (r:=l.row.toRowW) (X:=(true==true))
  (show WShape.has [] (.bool true) .bool=true by first | rfl | decide | simp[WShape.has,WShape.arms,WShape.armsAll])
  (show (WTm.eq .res (.lit (.bool true))).value [] { args:=args,res:=some (.bool true),after:=args }=some (.bool (true==true)) from w_eq_bool (w_res rfl) w_lit) rfl
theorem attach_call {l:OpenLaw}{n:Nat}{loose:List Str}{XP:(Str -> Option Value) -> Heap -> Prop}{YP:World -> Heap -> Prop}{d:DefRec}
    (hn:l.most=some n) (hdf:d.params.defaults=[])
    (call:∀(w:World) (s₀ s₁:Shared) (mg mb:Str->Option Value) (fa:Addr) (o:Obj) (pm cd doc:Value) (a:Addr) (vs:List Value) (ns:List Int),
     Ground q loose [] XP w s₀ mg mb s₁.heap->YP w s₁.heap ->
     s₁.heap.get? fa=some o->o.data=.func (docDef d.name d.params d.body d.scope pm cd doc)->s₁.heap.CodeRec cd d.name->mg d.name=some (.ref fa) ->
     s₁.heap.get? a=some { cls:=.type "list",data:=.seq vs.toArray }->IntsAre vs ns->ns.length<=n->s₁.gens=#[] ->
     codeAny (model l.prog w) callerA (.call (.ref fa) ⟨[.ref a],[]⟩) (fun r s'=>r=.ok (.ret (.bool true))/\OldK s₁.heap s'.heap/\s'.os=s₁.os/\AllBare s'.gens) s₁) :
    WalkO q loose XP YP l.row.toRowW d [] (fun f vs=>PySem.call f vs):=by
 intro w s₀ s₁ mg mb G Y fa o pm cd doc dV kV ho hd hcd hD hmg hg args vals as hpre hlay hrd hwl hlo
 obtain rfl:dV=.none:=Dflts.none hD hdf
 obtain rfl:kV=.none:=Dflts.noKw hD
 obtain⟨a,vs,ns,rfl,rfl,hobj,hints,hlen⟩:=sX hn hpre hwl
 refine enter_call (codeAny_mono (call w s₀ s₁ mg mb fa o pm cd doc a vs ns G Y ho (fd_plain hd) hcd hmg hobj hints hlen hg) fun r s' hq=>?_)
 obtain⟨rfl,h2,h3,h4⟩:=hq
 exact⟨.inl ⟨.bool true,.bool true,[],rfl,fun _=>rfl,.bool true,sH l _,fun _=>⟨List.Pairwise.nil,fun _ hm=>(nomatch hm)⟩⟩,h2,h3,h4⟩
end Att
namespace L2
open PySem PySem.Spec PyProof.Rows
theorem iD:∀ {vs:List Value}{ns:List Int},IntsAre vs ns->Vals (ns.map V.int) vs
 | _,_,.nil=>.nil
 | _,_,.cons n t h=>.cons ⟨t,rfl⟩ (iD h)
def vt (H:Hp):Prop:=∀b,H b=none∨∃o xs,H b=some (.frz o (.lst xs))
theorem uU {P:Program}{w:World}{K:W.Frag}{mg mb:Str -> Option Value}{CX:CXT}{k:Nat}{fa a:Addr}{fd:FuncData}{x:Str}{sp:Sp}{s₁:Shared}{vs:List Value}{ns:List Int}
    (KX:K.In s₁.heap) (hns:s₁.heap.Ns mainGlobals mg) (hb:s₁.heap.Ns builtinsNs mb) (hbb:∀x:Str,x≠"__name__"->mb x=bootBuiltins x) (hlim:s₁.heap.NoLimit) (hg:s₁.gens=#[])
    (ha:s₁.heap.get? a=some { cls:=.type "list",data:=.seq vs.toArray }) (hi:IntsAre vs ns) (hl:ns.length<=sizeLine) (hr:Room k callerA)
    (F:∀base:Heap,K.In base->base.Ns mainGlobals mg->FnOk P w K mg base CX k fa fd [x] sp) (hbind:∀(s:Shared) (u:Value),BindsTo s fd ⟨[u],[]⟩ [(x,u)])
    (hsp:∀H:Hp,vt H->SqL K H a (ns.map V.int)->sp [.ref a] H (fun v _=>v=.bl true) fun _ _ _=>False)
    (hCX:∀H e s',CX [] H s₁ (fun _ _ _=>False) e s'->False) :
    codeAny (model P w) callerA (.call (.ref fa) ⟨[.ref a],[]⟩) (fun r s'=>r=.ok (.ret (.bool true))/\OldK s₁.heap s'.heap/\s'.os=s₁.os/\AllBare s'.gens) s₁:=by
 have rv:=iD hi
 have lenV:=hi.length
 have core:∀H:Hp, vt H -> SqL K H a (ns.map V.int) -> HOk P w H s₁.heap -> (∀b, H b ≠ none -> b=a) -> (H a ≠ none -> K.lookup a=none) ->
     codeAny (model P w) callerA (.call (.ref fa) ⟨[.ref a],[]⟩) (fun r s'=>r=.ok (.ret (.bool true))/\OldK s₁.heap s'.heap/\s'.os=s₁.os/\AllBare s'.gens) s₁:=by
  intro H hO hS hok hA hK
  have base_of:∀ {b:Addr} {o:Obj},s₁.heap.get? b=some o->H b=none->(gZ s₁.heap H).get? b=some o:=fun e n=>vp e n
  have noA:∀ {b:Addr} {o:Obj} {es:Array DictEntry} {ep:Nat},s₁.heap.get? b=some o->o.data=.dict es ep->H b=none:=fun {b o es ep} e d=>by
   cases q:H b with
   | none=>rfl
   | some u =>
    have e':b=a:=hA b (by rw[q];simp)
    subst e'
    rw[ha] at e;cases e
    have d':Data.seq vs.toArray _=Data.dict es ep:=d
    cases d'
  have nsK:∀ {b:Addr} {m:Str->Option Value},s₁.heap.Ns b m->(gZ s₁.heap H).Ns b m:=fun {b m} ⟨o,es,ep,e,d,r⟩=>⟨o,es,ep,base_of e (noA e d),d,r⟩
  have hKb:K.In (gZ s₁.heap H):=fun b o e=>base_of (KX b o e) (by
   cases q:H b with
   | none=>rfl
   | some u =>
    have e':b=a:=hA b (by rw[q];simp)
    subst e'
    rw[hK (by rw[q];simp)] at e;cases e)
  have hM:Mod K mg (gZ s₁.heap H):=⟨hKb,nsK hns,⟨mb,nsK hb,hbb⟩,let ⟨mc,h1,h2⟩:=hlim;⟨mc,nsK h1,h2⟩⟩
  have e0:Env0 P w K mg (gZ s₁.heap H) callerA [] s₁ H:=⟨rfl,hM,fun b o e=>x3 e,Nat.le_of_eq (sJ _ _),trivial,fun b hb=>absurd (show b∈([]:List Addr) from hb) (by simp),hok,.of_eq hg⟩
  refine codeAny_mono ((F _ hKb (nsK hns)).run callerA [] s₁ H ⟨[.ref a],[]⟩ [.ref a] [.ref a] _ _ hr e0 (hbind s₁ (.ref a)) (.cons rfl .nil) (hsp H hO hS)) fun r s' h=>?_
  cases r with
  | error e=>exact(hCX H e s' h).elim
  | ok fl =>
   cases fl with
   | next=>exact False.elim h
   | brk=>exact False.elim h
   | cont=>exact False.elim h
   | ret u =>
    obtain⟨v,H',os,bare,un,hok',r',q⟩:=h
    have q':v=.bl true:=q
    subst q'
    obtain rfl:u=Value.bool true:=r'
    refine⟨rfl,OldK.of_keep fun b o e=>?_,os,bare⟩
    cases q:H b with
    | none=>exact un.keep b o e q (by intro z;exact absurd (show b∈([]:List Addr) from z) (by simp)) (by simp)
    | some u =>
     rcases hO b with z | ⟨ob,xs,z⟩
     ·rw[q] at z;cases z
     ·have z2:=un.frzs b ob _ z
      obtain⟨e1,_⟩:=hok b _ z
      obtain⟨e2,_⟩:=hok' b _ z2
      rw[e] at e1;cases e1
      exact e2
 cases hk:K.lookup a with
 | some o =>
  have e:=KX a o hk
  rw[ha] at e
  cases e
  refine core (fun _=>none) (fun _=>.inl rfl) (.inr ⟨_,vs.toArray,_,hk,rfl,rfl,rfl,by rw[Au,lenV];exact hl,by simpa using rv⟩) (fun b u z=>by have z':(none:Option HO)=some u:=z;cases z') (fun b z=>absurd rfl z) fun z=>absurd rfl z
 | none =>
  refine core (fun b=>if b=a then some (.frz { cls:=.type "list",data:=.seq vs.toArray } (.lst (ns.map V.int))) else none) (fun b=>?_) (.inl (.inr ⟨{ cls:=.type "list",data:=.seq vs.toArray },if_pos rfl⟩)) (fun b u z=>?_) (fun b z=>?_) fun _=>hk
  ·by_cases hb:b=a
   ·exact .inr ⟨_,_,if_pos hb⟩
   ·exact .inl (if_neg hb)
  ·by_cases hb:b=a
   ·have z':=(if_pos hb).symm.trans z
    cases z'
    subst hb
    exact⟨ha,by rw[z0];exact hl,vs,_,rv,ha⟩
   ·have z':=(if_neg hb).symm.trans z
    cases z'
  ·by_cases hb:b=a
   ·exact hb
   ·exact absurd (if_neg hb) z
theorem walk_of {l:W.OpenLaw}{n k:Nat}{loose:List Str}{XP:(Str -> Option Value) -> Heap -> Prop}{YP:World -> Heap -> Prop}{d:DefRec}{K:Params -> W.Frag}{CX:World -> CXT}{sp:World -> Sp}{x:Str}
    (hn:l.most=some n) (hn2:n<=sizeLine) (hdf:d.params.defaults=[]) (hr:Room k callerA)
    (hY:∀(w:World) (h:Heap),YP w h->(K w.params).In h)
    (F:∀(w:World) (mg:Str->Option Value) (fa:Addr) (h:Heap),(K w.params).In h->h.Ns mainGlobals mg->mg d.name=some (.ref fa) ->
     ∃fd:FuncData,(∀(s:Shared) (u:Value),BindsTo s fd ⟨[u],[]⟩ [(x,u)]) /\
      ∀base:Heap,(K w.params).In base->base.Ns mainGlobals mg->FnOk l.prog w (K w.params) mg base (CX w) k fa fd [x] (sp w))
    (hsp:∀(w:World) (H:Hp) (a:Addr) (ns:List Int),ns.length<=n->vt H->SqL (K w.params) H a (ns.map V.int)->sp w [.ref a] H (fun v _=>v=.bl true) fun _ _ _=>False)
    (hCX:∀(w:World) (H:Hp) (s:Shared) (e:Value) (s':Shared),CX w [] H s (fun _ _ _=>False) e s'->False) :
    W.WalkO q loose XP YP l.row.toRowW d [] (fun f vs=>PySem.call f vs):=by
 refine Att.attach_call hn hdf fun w s₀ s₁ mg mb fa o pm cd doc a vs ns G Y ho hd hcd hmg hobj hints hlen hg=>?_
 have KX:=hY w _ Y
 obtain⟨fd,hb,hF⟩:=F w mg fa _ KX G.T.g hmg
 exact uU KX G.T.g G.T.b G.T.builtins G.T.nolimit hg hobj hints (Az hlen hn2) hr hF hb (fun H hO hS=>hsp w H a ns hlen hO hS) fun H e s'=>hCX w H s₁ e s'
def dF (s:Stmt):Arguments:=match s with
 | .FunctionDef _ a _ _ _ _ _ _ _ _=>a
 | _=>{ posonlyargs:=[],args:=[],vararg:=none,kwonlyargs:=[],kw_defaults:=[],kwarg:=none,defaults:=[] }
def cM (s:Stmt):List Stmt:=match s with
 | .FunctionDef _ _ b _ _ _ _ _ _ _=>b
 | _=>[]
def aD (s:Stmt):Scope:=match s with
 | .FunctionDef _ _ _ _ _ _ sc _ _ _=>sc
 | _=>{ kind:=.function,names:=[],isGenerator:=false,isCoroutine:=false }
abbrev CX0:CXT:=fun _ _ _ _ _ _=>False
abbrev E0:XK:=fun _ _ _=>False
theorem wP:jS CX0 X E0:=fun _ _ _ _ _ _ _ h=>h.elim
structure Fun (K:W.Frag) (x qual:Str) (st:Stmt) (f:Addr) (fd:FuncData):Prop where
 ex:∃(oc:Value) (od:Option Addr) (kV doc pm:Value) (an:Option Addr) (cdv ct:Value) (osl:Array (Option Value)),
  fd=W.fnOf x qual (dF st) (cM st) (aD st) .none kV doc pm an cdv ct/\K.lookup f=some ⟨oc,od,.func fd,osl⟩/\W.codeIn K cdv qual=true
 kp:W.keepIn K (.ref f)=true
section
variable {P:Program}{w:World}{K:W.Frag}{mg:Str->Option Value}{base:Heap}
theorem Fun.ok {x qual:Str}{st:Stmt}{f:Addr}{fd:FuncData}{N ps:List Str}{k:Nat}{sp:Sp}(F:Fun K x qual st f fd) (S:FnScope N ps (aD st)) (len:∀vs H Q E, sp vs H Q E -> vs.length=ps.length)
    (hbody:∀(cdv:Value) (A:Around) (outer:List Env) (s:Shared) (H:Hp) (vs:List V) (Q:VK) (E:XK),Room k (A.deeper (envOfC qual (aD st) s.heap.objs.size f cdv))->sp vs H Q E ->
     ∃t,PSs (jq CX0 P w K mg base N qual (aD st) f cdv A outer s H E).nox (cM st) t/\t { nx:=fun _ H'=>Q .non H',rt:=Q } (start N vs) H):FnOk P w K mg base CX0 (k+1) f fd ps sp:=by
 obtain⟨oc,od,kV,doc,pm,an,cdv,ct,osl,rfl,lk,hcd⟩:=F.ex
 refine zO lk hcd S len fun A outer s H vs Q E hr hsp=>?_
 obtain⟨t,h,q⟩:=hbody cdv A outer s H vs Q E hr hsp
 exact⟨t,h.nox,q⟩
theorem Fun.binds {x qual:Str}{st:Stmt}{f:Addr}{fd:FuncData}{ps:List Str}(F:Fun K x qual st f fd)
    (h:∀(kV doc pm:Value) (an:Option Addr) (cdv ct:Value) (us:List Value),us.length=ps.length->bindArgs (W.fnOf x qual (dF st) (cM st) (aD st) .none kV doc pm an cdv ct) ⟨us,[]⟩=pure (ps.zip us)):Binds K fd ps []:=by
 obtain⟨oc,od,kV,doc,pm,an,cdv,ct,osl,rfl,lk,hcd⟩:=F.ex
 exact .all (h kV doc pm an cdv ct)
theorem yg {x qual:Str}{st:Stmt}{f:Addr}{oc:Value}{od an:Option Addr}{osl:Array (Option Value)}{kV doc pm cdv ct:Value}(l:K.lookup f=some ⟨oc,od,.func (W.fnOf x qual (dF st) (cM st) (aD st) .none kV doc pm an cdv ct),osl⟩)
    (c:W.codeIn K cdv qual=true) (k:W.keepIn K (.ref f)=true):Fun K x qual st f (W.fnOf x qual (dF st) (cM st) (aD st) .none kV doc pm an cdv ct):=⟨⟨oc,od,kV,doc,pm,an,cdv,ct,osl,rfl,l,c⟩,k⟩
end
theorem aj (h:n<=1000):n<sizeLine:=Nat.lt_of_le_of_lt h (by decide)
section
variable {X:Cx}
theorem pv (i:Nat) (hN:X.N[i]? = some x:=by rfl) (hv:Vis X.env.scope x:=by first | exact Or.inl rfl | exact Or.inr (Or.inl rfl) | exact Or.inr (Or.inr rfl)) (hd:(x==("__debug__":Str))=false:=by decide)
    (hcd:(x==("__classdict__":Str))=false:=by decide):PE X (.Name x pos) (yX i):=y8 hN hv hd hcd
end
theorem dH {A B:Prop}(h:B):if false=true then A else B:=by
 rw[if_neg AB]
 exact h
theorem oR {A B:Prop}(h:A):if true=true then A else B:=by
 rw[if_pos rfl]
 exact h
theorem ap {c A B:Prop} [Decidable c] (h1:c->A) (h2:¬ c->B):if c then A else B:=by
 by_cases h:c
 ·rw[if_pos h]
  exact h1 h
 ·rw[if_neg h]
  exact h2 h
def Same (H H':Hp):Prop:=∀b o,H b=some o->H' b=some o
theorem Same.refl (H:Hp):Same H H:=fun _ _ h=>h
theorem Same.trans (a:Same H H1) (b:Same H1 H2):Same H H2:=fun c o h=>b c o (a c o h)
section
variable {κ:Type} [DecidableEq κ]
theorem wf {kvs:List (κ × V)}{k:κ}(h:aw kvs k=none):¬ k∈kvs.map (·.1):=by
 intro m
 obtain⟨p,hp,e⟩:=Ag.mp m
 have q:(kvs.any fun kv=>decide (kv.1=k))=true:=BK.mpr ⟨p,hp,Ai e⟩
 rw[eW,h] at q
 exact absurd q (by simp)
theorem qk:∀ {l:List κ}{k:κ},l.Nodup->¬ k∈l->(l++[k]).Nodup
 | [],k,_,_=>by simp
 | a::r,k,h,hk=>by
  obtain⟨h1,h2⟩:=AL.mp h
  show (a::(r++[k])).Nodup
  refine AL.mpr ⟨fun m=>?_,qk h2 fun m=>hk (AA.mpr (Or.inr m))⟩
  rcases Aj.mp m with q | q
  ·exact h1 q
  ·exact hk (AA.mpr (Or.inl (Av.mp q).symm))
theorem xU {kvs:List (κ × V)}{k:κ}(v:V) (hn:(kvs.map (·.1)).Nodup) (h:aw kvs k=none):((bi kvs k v).map (·.1)).Nodup:=by
 rw[oU v h,Ae]
 exact qk hn (wf h)
end
end L2
set_option maxHeartbeats 4000000
namespace L2
open PySem PySem.Spec PyProof.Rows
theorem kN {env:Env}{f:Str × NameKind -> List (Str × Addr) -> Sem (ForInStep (List (Str × Addr)))}
    (f1:∀n k r,k≠NameKind.free->f (n,k) r=pure (.yield r))
    (f2:∀n c r,env.cells.lookup n=some c->f (n,NameKind.free) r=pure (.yield ((n,c)::r))) :
    ∀(names:List (Str × NameKind)) (acc:List (Str × Addr)),
    (∀y∈names,y.2=NameKind.free->∃c,env.cells.lookup y.1=some c) ->
    (∀x c,acc.lookup x=some c->env.cells.lookup x=some c) ->
    ∃cl,forIn names acc f=(pure cl:Sem (List (Str × Addr)))/\(∀x c,cl.lookup x=some c->env.cells.lookup x=some c) /\
     (∀x,(acc.lookup x).isSome=true->(cl.lookup x).isSome=true)/\∀y∈names,y.2=NameKind.free->(cl.lookup y.1).isSome=true
 | [],acc,_,h=>⟨acc,by rw[List.forIn_nil],h,fun _ q=>q,fun y hy=>nomatch hy⟩
 | (n, k) :: r, acc, hn, h => by
  by_cases hk:k=NameKind.free
  ·subst hk
   obtain⟨c,hc⟩:=hn (n,.free) A5 rfl
   have hc':env.cells.lookup n=some c:=hc
   obtain⟨cl,e,a,b,d⟩:=kN f1 f2 r ((n,c)::acc) (fun y hy=>hn y (AF _ hy)) (fun x c' q=>by
    rw[AZ] at q
    cases e:x==n with
    | true =>
     rw[e] at q
     cases q
     rw[show x=n from LawfulBEq.eq_of_beq e]
     exact hc'
    | false =>
     rw[e] at q
     exact h x c' q)
   refine⟨cl,?_,a,fun x q=>b x ?_,fun y hy hf=>?_⟩
   ·rw[BF,f2 n c acc hc',pure_bind]
    exact e
   ·rw[AZ]
    cases x==n with
    | true=>rfl
    | false=>exact q
   ·rcases AA.mp hy with rfl | hy
    ·refine b _ ?_
     rw[AZ]
     simp
    ·exact d y hy hf
  ·obtain⟨cl,e,a,b,d⟩:=kN f1 f2 r acc (fun y hy=>hn y (AF _ hy)) h
   refine⟨cl,?_,a,b,fun y hy hf=>?_⟩
   ·rw[BF,f1 n k acc hk,pure_bind]
    exact e
   ·rcases AA.mp hy with rfl | hy
    ·exact absurd hf hk
    ·exact d y hy hf
theorem qy {scope:Scope}{env:Env}(hf:∀y ∈ scope.names, y.2=NameKind.free -> ∃c, env.cells.lookup y.1=some c) :
    ∃cl,closureFor scope env=pure cl/\(∀x c,cl.lookup x=some c->env.cells.lookup x=some c) /\
     ∀y∈scope.names,y.2=NameKind.free->∃c,cl.lookup y.1=some c:=by
 have go:=kN (env:=env) (f:=fun (x:Str × NameKind) (r:List (Str × Addr))=>match x with
     | (name,kind)=>if (kind==NameKind.free)=true then do let c ← cellOf env name;pure (ForInStep.yield ((name,c)::r)) else pure (ForInStep.yield r))
  (fun n k r hk=>by
   have z:(k==NameKind.free)=false:=by simpa using hk
   simp only[z,Bi,if_false])
  (fun n c r hc=>by
   simp only[beq_self_eq_true,if_true,cellOf,hc,pure_bind])
  scope.names [] hf (fun x c q=>by cases q)
 obtain⟨cl,e,a,_,d⟩:=go
 refine⟨cl,?_,a,fun y hy z=>Bh.mp (d y hy z)⟩
 simp only[closureFor]
 first
  | exact e
  | (simp only[bind_pure];exact e)
  | (refine Eq.trans ?_ e;simp only[bind_pure])
def cxC (X:Cx) (scope:Scope) (N:List Str) (cl:List (Str × Addr)) (C:Addr) (s₀:Shared) (H₀:Hp) (ex:List Addr):Cx where
 prog:=X.prog
 w:=X.w
 K:=X.K
 mg:=X.mg
 base:=X.base
 A:=X.A
 N:=N
 s₀:=s₀
 H₀:=H₀
 env:=compEnvC scope cl C X.env
 outer:=X.stack
 stack:=X.stack
 ex:=ex
 fn:=fun _=>false
 calm:=X.calm
 pn:=[]
 xe:=fun _ _=>False
def eV (k:Nat) (fr:List Nat) (σ:St):St:=List.replicate k none++fr.map fun i=>(σ[i]?).join
def yF (osc scope:Scope) (NX:List Str) (fr:List Nat):Bool:=fr.all fun i=>match NX[i]? with
 | some x=>(decide (osc.names.lookup x=some .cell)||decide (osc.names.lookup x=some .free))&&decide (scope.names.lookup x=some .free)
 | none=>false
structure CompSc (osc scope:Scope) (NX own:List Str) (fr:List Nat) (N:List Str):Prop where
 kind:scope.kind=.function
 nocell:∀y∈scope.names,y.2≠NameKind.cell
 loc:∀y∈scope.names,y.2=NameKind.local->scope.names.lookup y.1=some .local
 free:∀y∈scope.names,y.2=NameKind.free->osc.names.lookup y.1=some .cell∨osc.names.lookup y.1=some .free
 names:N.map some=own.map some++fr.map fun i=>NX[i]?
 outer:yF osc scope NX fr=true
def kf (osc scope:Scope) (NX own:List Str) (fr:List Nat) (N:List Str):Bool :=
 decide (scope.kind=.function)&&(scope.names.all (fun y=>decide (y.2≠NameKind.cell))&&(scope.names.all (fun y=>decide (y.2=NameKind.local->scope.names.lookup y.1=some .local)) &&
  (scope.names.all (fun y=>decide (y.2=NameKind.free->(osc.names.lookup y.1=some .cell∨osc.names.lookup y.1=some .free)))&&(decide (N.map some=own.map some++fr.map fun i=>NX[i]?)&&yF osc scope NX fr))))
theorem CompSc.of (h:kf osc scope NX own fr N=true):CompSc osc scope NX own fr N:=by
 unfold kf at h
 simp only[Ba,decide_eq_true_eq,Bj] at h
 obtain⟨h1,h2,h3,h4,h5,h6⟩:=h
 exact⟨h1,h2,h3,h4,h5,h6⟩
theorem CompSc.len (S:CompSc osc scope NX own fr N):N.length=own.length+fr.length:=by
 have h:=congrArg List.length S.names
 simpa using h
theorem eO {env:Env}:∀ {names:List (Str × NameKind)}{x:Str}, names.lookup x=some .free ->
    (names.map fun (n,k)=>if (k==NameKind.free&&env.scope.kind==.function&&env.kindOf n==some .cell) then (n,NameKind.cell) else (n,k)).lookup x=some .cell ∨
    (names.map fun (n,k)=>if (k==NameKind.free&&env.scope.kind==.function&&env.kindOf n==some .cell) then (n,NameKind.cell) else (n,k)).lookup x=some .free
 | [],_,h=>by simp at h
 | (n,k)::r,x,h=>by
  have ih:=@eO env r x
  cases hx:x==n with
  | true =>
   simp only[AZ,hx] at h
   cases h
   simp only[AD]
   split
   ·left;simp[AZ,hx]
   ·right;simp[AZ,hx]
  | false =>
   simp only[AZ,hx] at h
   simp only[AD]
   split
   ·simp only[AZ,hx];exact ih h
   ·simp only[AZ,hx];exact ih h
theorem kj {env:Env}:∀ {names:List (Str × NameKind)}{x:Str}{k':NameKind},
    (names.map fun (n,k)=>if (k==NameKind.free&&env.scope.kind==.function&&env.kindOf n==some .cell) then (n,NameKind.cell) else (n,k)).lookup x=some k' ->
    k'=.cell∨k'=.free->(∀y∈names,y.2≠NameKind.cell)->∃y∈names,y.1=x/\y.2=.free
 | [],_,_,h,_,_=>by simp at h
 | (n, k) :: r, x, k', h, hk, nc => by
  have ih:=@kj env r x k'
  simp only[AD] at h
  cases hx:x==n with
  | true =>
   have ex:x=n:=LawfulBEq.eq_of_beq hx
   refine⟨(n,k),A5,ex.symm,?_⟩
   have nck:k≠.cell:=nc (n,k) A5
   by_cases z:k=.free
   ·exact z
   ·have zb:(k==NameKind.free)=false:=by simpa using z
    simp only[zb,Bool.false_and,Bi,if_false,AZ,hx] at h
    cases h
    rcases hk with q | q
    ·exact absurd q nck
    ·exact absurd q z
  | false =>
   have h':(r.map fun (n,k)=>if (k==NameKind.free&&env.scope.kind==.function&&env.kindOf n==some .cell) then (n,NameKind.cell) else (n,k)).lookup x=some k':=by
    split at h
    ·simpa only[AZ,hx] using h
    ·simpa only[AZ,hx] using h
   obtain⟨y,hy,a,b⟩:=ih h' hk fun z hz=>nc z (AF _ hz)
   exact⟨y,AF _ hy,a,b⟩
section
variable {X:Cx}{pins:List (Addr × Obj)}{σ:St}{H:Hp}{s:Shared}
def PTs (X:Cx) (ifs:List Expr) (t:TT):Prop :=
 ∀(pins:List (Addr × Obj)) (s:Shared) (σ:St) (H:Hp) (Q:Bool->Hp->Prop),Inv X pins σ H s->t σ H Q ->
  wpAny (model X.prog X.w) X.A (forIn ifs true fun c r=>if r=true then do let ok ← isTrue c X.env (eval c X.env);pure (ForInStep.yield ok) else pure (ForInStep.yield r)) (TP X pins σ Q) X.xe s
def qX:TT:=fun _ H Q=>Q true H
theorem cP:PTs X [] qX:=fun _ _ _ H _ I h=>wpAny_tests_nil ⟨H,I,h⟩
theorem bv (h:PT X c t):PTs X [c] t:=fun pins s σ H Q I q=>wpAny_tests_one (h pins s σ H Q I q)
theorem nx (h:wpAny M A t Q (fun _ _=>False) s) (hQ:∀a s,Q a s->Q' a s):wpAny M A t Q' E s :=
 wpAny_mono h hQ fun _ _ f=>f.elim
theorem tG {scope:Scope}{own:List Str}{fr:List Nat}{N:List Str}{cl:List (Str × Addr)}{s3 s4:Shared}{H3:Hp}{fp:List Addr}{m:Str -> Option Value}
    (hc:X.calm=true) (S:CompSc X.env.scope scope X.N own fr N)
    (c1:∀x c,cl.lookup x=some c->X.env.cells.lookup x=some c) (c2:∀y∈scope.names,y.2=NameKind.free->∃c,cl.lookup y.1=some c)
    (I3:Inv X pins σ H3 s3) (f3:∀b∈fp,ed X pins H3 b/\b<s3.heap.objs.size)
    (hk:∀b o,s3.heap.get? b=some o->s4.heap.get? b=some o) (hn:s4.heap.Ns s3.heap.objs.size m) (ho:s4.os=s3.os) (hg:s4.gens=s3.gens) :
    Inv (cxC X scope N cl s3.heap.objs.size s3 H3 fp) [] (eV own.length fr σ) H3 s4:=by
 have kindF:(compEnvC scope cl s3.heap.objs.size X.env).scope.kind=.function:=by
  show (relabel scope X.env).kind=.function
  exact S.kind
 refine⟨⟨I3.ok.mod,kindF,I3.ok.glob,I3.ok.blt,Aa _,?_,?_,?_,I3.ok.hd,I3.ok.frames,.inl rfl,?_,?_,?_,?_,?_,I3.stack,I3.stkFree⟩,ho,?_,Un.kept hk,⟨m,hn,?_⟩,?_,?_,?_,?_,I3.hok.kept hk,?_⟩
 ·exact fun x y c h1 h2=>I3.ok.inj x y c (c1 x c h1) (c1 y c h2)
 ·intro x hx
  have hx':(relabel scope X.env).names.lookup x=some .cell∨(relabel scope X.env).names.lookup x=some .free:=hx
  obtain⟨k',hk',hkk⟩:∃k',(relabel scope X.env).names.lookup x=some k'/\(k'=NameKind.cell∨k'=NameKind.free):=by
   rcases hx' with q | q
   ·exact⟨_,q,.inl rfl⟩
   ·exact⟨_,q,.inr rfl⟩
  obtain⟨y,hy,e,hf⟩:=kj (env:=X.env) hk' hkk S.nocell
  subst e
  exact c2 y hy hf
 ·exact fun x c h=>by cases h
 ·intro b hb
  obtain⟨f,hl⟩:=f3 b hb
  refine⟨Ax hl,fun x c h=>f.2.2.2.2.1 x c (c1 x c h)⟩
 ·exact fun b o e=>I3.bs b o e
 ·exact Az I3.ok.bsz I3.sz
 ·intro b o e hb
  obtain⟨f,hl⟩:=f3 b hb
  rcases f.2.2.2.1 with z | z
  ·exact I3.ok.noex b o e z
  ·exact absurd (AU (Ah e) (Az I3.ok.bsz z)) (BC _)
 ·intro b hb
  obtain⟨f,hl⟩:=f3 b hb
  show b∉frs X.stack
  intro z
  rcases AA.mp (I3.stkSub b z) with q | q
  ·exact f.2.1 q
  ·exact f.2.2.1 q
 ·rw[hg];exact I3.bare
 ·intro i x v h1 h2 h3
  have h1:N[i]? = some x:=h1
  obtain⟨m0,hn0,hl0⟩:=I3.loc
  have hi:own.length<=i:=by
   refine Bw fun q=>?_
   unfold eV at h2
   rw[A9 (by simpa using q),List.getElem?_replicate] at h2
   split at h2 <;> cases h2
  obtain⟨j,rfl⟩:=Nat.exists_eq_add_of_le hi
  have h2':(fr.map fun i=>(σ[i]?).join)[j]? = some (some v):=by
   unfold eV at h2
   rw[Bp (by simp)] at h2
   simpa using h2
  rw[Al] at h2'
  cases ej:fr[j]? with
  | none=>rw[ej] at h2';cases h2'
  | some k =>
   rw[ej] at h2'
   have e2:(σ[k]?).join=some v:=Af h2'
   have eσ:σ[k]? = some (some v):=by
    cases q:σ[k]? with
    | none=>rw[q] at e2;cases e2
    | some o=>rw[q] at e2;exact congrArg some e2
   have eN:X.N[k]? = some x:=by
    have q:=congrArg (fun l=>l[own.length+j]?) S.names
    simp only[Al,h1,Bp (show (own.map some).length<=own.length+j by simp),z0,BW,ej,Option.map_some] at q
    exact(Af q).symm
   have ok:=Bj.mp S.outer k (Ad ej)
   rw[eN] at ok
   simp only[Ba,Bool.or_eq_true,decide_eq_true_eq] at ok
   obtain⟨ok1,ok2⟩:=ok
   have vis:Vis X.env.scope x:=.inr ok1
   obtain⟨u,r,l⟩:=hl0 k x v eN eσ vis
   refine⟨u,r,?_⟩
   rcases l with⟨l,_⟩ | ⟨_,c,e,z⟩
   ·have l:X.env.scope.names.lookup x=some .local:=l
    rcases ok1 with q | q
    ·rw[l] at q;cases q
    ·rw[l] at q;cases q
   ·obtain⟨c',e'⟩:=c2 (x,.free) (PySem.mem_of_lookup ok2) rfl
    have e':cl.lookup x=some c':=e'
    have ec:c'=c:=Af ((c1 x c' e').symm.trans e)
    subst ec
    refine .inr ⟨eO (env:=X.env) ok2,c',e',?_⟩
    obtain⟨o,h1,h2⟩:=z
    exact⟨o,hk _ _ h1,h2⟩
 ·intro x c e
  obtain⟨v,o,h1,h2⟩:=I3.cell x c (c1 x c e)
  exact⟨v,o,hk _ _ h1,h2⟩
 ·exact I3.hok.fresh (Aa _)
 ·exact fun x c e=>I3.freeC x c (c1 x c e)
 ·intro p hp
  exact absurd hp (by simp[cxC])
 ·show (eV own.length fr σ).length=N.length
  rw[S.len]
  simp[eV]
end
section
variable {prog:Program}{w:World}{A:Around}{R:Result->Shared->Prop}{s:Shared}
theorem sV (J:Nat -> Shared -> Prop)
    (turn:∀k s, J k s -> ∀E:Value -> Shared -> Prop, wpAny (model prog w) A (pyNext it) (fun r s1 => match r with
     | none=>R (.ok .next) s1
     | some v => wpAny (model prog w) A (letOwnedTupleGo tg it v) (fun _ s2 => wpAny (model prog w) A (assign tg env v) (fun _ s3 =>
         wpAny (model prog w) A (forIn ifs true fun c r=>if r=true then do let ok ← isTrue c env (eval c env);pure (ForInStep.yield ok) else pure (ForInStep.yield r)) (fun ok s4 =>
          if ok=true then wpAny (model prog w) A (eval elt env) (fun x s5=>wpAny (model prog w) A (call (.builtin "list.append") [acc,x]) (fun _ s6=>∃m,m<k/\J m s6) E s5) E s4
          else ∃m,m<k/\J m s4) E s3) E s2) E s1) E s)
    (k:Nat) (h:J k s):codeAny (model prog w) A (.compLoop (.ListComp elt [⟨tg,iter,ifs,0⟩] scope pos) 0 it acc env) R s:=by
 refine codeAny_loop rfl J (fun k s hJ=>?_) k h
 show wpAny _ A ((compTurn (.ListComp elt [⟨tg,iter,ifs,0⟩] scope pos) 0 it acc env).onRaise (fun e=>do noteFrame e env;theTreesLotGoes e)) _ _ s
 refine wpAny_noted ?_
 rw[compTurn_list]
 refine zZ (wpAny_standAt (zZ (thn (turn k s hJ _) fun r s1 h1=>?_)))
 cases r with
 | none=>exact Ab h1
 | some v =>
  refine zZ (thn h1 fun _ s2 h2=>zZ (thn h2 fun _ s3 h3=>zZ (thn h3 fun ok s4 h4=>?_)))
  cases ok with
  | false=>exact Ab ⟨rfl,h4⟩
  | true=>exact zZ (zZ (thn h4 fun x s5 h5=>zZ (thn h5 fun _ s6 h6=>Ab (Ab ⟨rfl,h6⟩))))
end
def ef (k:Nat) (fr:List Nat) (g:TG) (tc:TT) (te:TE) (J:It) (σ:St) (H1:Hp) (Q:VK):Prop :=
 ∀D,H1 D=none->∃W:Nat->Nat->List V->St->Hp->Prop,(∃m,W 0 m [] (eV k fr σ) (upd H1 D (.lst [])))/\∀i m acc σ' H',W i m acc σ' H'->H' D=some (.lst acc) ->
  (J.stop i H'/\Q (.ref D) H')∨(J.go i H'/\∃N:List V->St->Hp->Prop,(∀acc' σ2 H2,N acc' σ2 H2->∃m',m'<m/\W (i+1) m' acc' σ2 H2)/\∀x H2,J.yld i H' x H2->g x σ' H2 fun σ2 H3=>tc σ2 H3 fun b H4 =>
   if b=true then te σ2 H4 fun y H5=>H5 D=some (.lst acc)/\acc.length<sizeLine/\N (acc++[y]) σ2 (upd H5 D (.lst (acc++[y])))
   else H4 D=some (.lst acc)/\N acc σ2 H4)
def wB (k:Nat) (fr:List Nat) (wi:TI) (g:TG) (tc:TT) (te:TE):TE:=fun σ H Q=>wi σ H fun J H1=>ef k fr g tc te J σ H1 Q
section
variable {X:Cx}{pins:List (Addr × Obj)}{σ:St}{H:Hp}{s:Shared}{tg elt iter:Expr}{ifs:List Expr}{scope:Scope}{pos:Pos}
theorem km {own:List Str}{fr:List Nat}{N:List Str}{cl:List (Str × Addr)}{fp:List Addr}{J:It}{tn:Nat -> Heap -> Prop}{POST:Value -> Addr -> Result -> Shared -> Prop}
    (hc:X.calm=true) (S:CompSc X.env.scope scope X.N own fr N)
    (c1:∀x c,cl.lookup x=some c->X.env.cells.lookup x=some c) (c2:∀y∈scope.names,y.2=NameKind.free->∃c,cl.lookup y.1=some c)
    (hg:∀C s₀ H₀ ex,PG (cxC X scope N cl C s₀ H₀ ex) tg g) (ht:∀C s₀ H₀ ex,PTs (cxC X scope N cl C s₀ H₀ ex) ifs tc) (he:∀C s₀ H₀ ex,PE (cxC X scope N cl C s₀ H₀ ex) elt te)
    (I2:Inv X pins σ H2 s2) (T:Turn X.prog X.w X.K tg J fp it tn) (t2:tn 0 s2.heap) (f2:∀b∈fp,ed X pins H2 b) (q:ef own.length fr g tc te J σ H2 Q)
    (fin:∀D C s' H' m,Inv X pins σ H' s'->ed X pins H' C->s'.heap.Ns C m->Q (.ref D) H'->POST (.ref D) C (.ok .next) s') :
    wpAny (model X.prog X.w) X.A (newList []) (fun acc s3=>wpAny (model X.prog X.w) X.A (newFunctionEnv scope X.env.globals cl [] X.env.qual none .none (some X.env)) (fun cenv s4 =>
     codeAny (model X.prog X.w) X.A (.compStart (.ListComp elt [⟨tg,iter,ifs,0⟩] scope pos) 0 (.ref it) acc { cenv with scope:=relabel scope X.env }) (POST acc cenv.locals) s4) E s3) E s2:=by
 refine wpAny_newObj_type (wpAny_newFunctionEnv S.nocell (by intro y hy;simp at hy) (fun h4 ns4 sb4=>?_) S.kind)
 dsimp only at ns4 sb4 ⊢
 have hD:H2 s2.heap.objs.size=none:=I2.hok.fresh (Aa _)
 obtain⟨W,⟨m0,w0⟩,turn⟩:=q s2.heap.objs.size hD
 have I3:Inv X pins σ (upd H2 s2.heap.objs.size (.lst [])) { s2 with heap:=s2.heap.push { cls:=.type "list",dict:=none,data:=.seq ([]:List Value).toArray },toks:=s2.toks } :=
  I2.laid (fun b u q=>An _ q) (Aa _) ⟨AC _,[],_,.nil,At _ rfl⟩
 generalize hh3:s2.heap.push { cls:=.type "list",dict:=none,data:=.seq ([]:List Value).toArray }=h3 at *
 have z3:h3.objs.size=s2.heap.objs.size+1:=by rw[<- hh3,A6]
 have k23:∀b o,s2.heap.get? b=some o->h3.get? b=some o:=fun b o e=>by rw[<- hh3];exact An _ e
 have k34:∀b o,h3.get? b=some o->h4.get? b=some o:=fun b o e=>sb4.extBut b o (Ax (Ah e)) (An _ e)
 have fpl:∀b∈fp,b<s2.heap.objs.size:=fun b hb=>by
  obtain⟨o,e,_⟩:=T.obj _ _ t2 b hb
  exact Ah e
 have f3:∀b∈fp,ed X pins (upd H2 s2.heap.objs.size (.lst [])) b/\b<h3.objs.size:=fun b hb=>by
  refine⟨⟨?_,(f2 b hb).2⟩,by rw[z3];exact Nat.lt_succ_of_lt (fpl b hb)⟩
  rw[af (Ax (fpl b hb))]
  exact(f2 b hb).1
 generalize hs3:({ s2 with heap:=h3,toks:=s2.toks }:Shared)=s3 at I3
 have es3:s3.heap=h3:=by rw[<- hs3]
 have hs3':({ s2 with heap:=h3 }:Shared)=s3:=hs3
 have I4:=tG (s3:=s3) (s4:={ s3 with heap:=h4,toks:=s3.toks+([]:List (Str × Value)).length }) hc S c1 c2 I3 (by rw[es3];exact f3) (by rw[es3];exact k34) (m:=fun x=>([]:List (Str × Value)).reverse.lookup x) (by rw[es3];exact ns4) rfl rfl
 rw[es3] at I4
 have stat:∀ {H':Hp} {s':Shared} {σ':St} {pl:List (Addr × Obj)},Inv (cxC X scope N cl h3.objs.size s3 (upd H2 s2.heap.objs.size (.lst [])) fp) pl σ' H' s'->(∀p∈pl,p.1∉fp)->(∀b∈fp,H' b=none)->∀b∈fp,ed (cxC X scope N cl h3.objs.size s3 (upd H2 s2.heap.objs.size (.lst [])) fp) pl H' b:=fun {H' s' σ' pl} I' hpl hn b hb=>by
  refine⟨hn b hb,Ax (f3 b hb).2,I'.ok.exfs b hb,.inl hb,fun x c e=>(f2 b hb).2.2.2.2.1 x c (c1 x c e),fun p hp=>?_⟩
  intro z
  exact hpl p (by simpa [cxC] using hp) (z ▸ hb)
 have loop:∀s4:Shared, s4={ s3 with heap := h4, toks := s3.toks+([]:List (Str × Value)).length } ->
     codeAny (model X.prog X.w) X.A (.compLoop (.ListComp elt [⟨tg,iter,ifs,0⟩] scope pos) 0 (.ref it) (.ref s2.heap.objs.size) (compEnvC scope cl h3.objs.size X.env)) (POST (.ref s2.heap.objs.size) h3.objs.size) s4:=by
  rintro s4 rfl
  refine sV (fun n s'=>∃i acc σ' H',Inv (cxC X scope N cl h3.objs.size s3 (upd H2 s2.heap.objs.size (.lst [])) fp) [] σ' H' s'/\tn i s'.heap/\(∀b∈fp,H' b=none)/\H' s2.heap.objs.size=some (.lst acc)/\W i n acc σ' H') ?_ m0
   ⟨0,[],_,_,I4,T.keep _ _ _ t2 fun b hb o e=>k34 b o (k23 b o e),fun b hb=>(f3 b hb).1.1,ae,w0⟩
  rintro n s5 ⟨i,acc,σ5,H5,I5,t5,fr5,d5,w5⟩ E'
  rcases turn i n acc σ5 H5 w5 d5 with⟨stop,qn⟩ | ⟨go,NN,hNN,step⟩
  ·refine thn (T.done (cxC X scope N cl h3.objs.size s3 (upd H2 s2.heap.objs.size (.lst [])) fp) rfl rfl rfl hc i [] s5 σ5 H5 E' I5 (stat I5 (by simp) fr5) t5 stop) fun r s6 ⟨hr,I6⟩=>?_
   subst hr
   obtain⟨m6,n6,_⟩:=id I6.loc
   have J6:Inv X pins σ H5 s6:=I3.call' (ch:=fp) I6.os I6.base I6.hok I6.bare fun b hb=>⟨(f2 b hb).2.2.2.1,(f2 b hb).2.1,(f2 b hb).2.2.2.2.1,(f2 b hb).2.2.2.2.2⟩
   exact fin _ _ s6 H5 m6 J6 (I2.fpOk (by rw[z3];exact Bb _) I6.free) n6 qn
  ·refine thn (T.item (cxC X scope N cl h3.objs.size s3 (upd H2 s2.heap.objs.size (.lst [])) fp) rfl rfl rfl hc i [] s5 σ5 H5 E' I5 (stat I5 (by simp) fr5) t5 go) fun r s6 ⟨u,hr,h6⟩=>?_
   subst hr
   refine thn h6 fun _ s7 ⟨x,H7,I7,r7,y7,t7,fr7⟩=>?_
   have I7':=I7.pinned (stat I7 (by simp) fr7) (T.obj _ _ t7)
   have backTn:∀ {s':Shared} {H':Hp} {σ':St},Inv (cxC X scope N cl h3.objs.size s3 (upd H2 s2.heap.objs.size (.lst [])) fp) ([]++iH fp s7.heap) σ' H' s'->tn (i+1) s'.heap/\∀b∈fp,H' b=none:=fun {s' H' σ'} I'=>by
    refine⟨T.keep _ _ _ t7 fun b hb o e=>(I'.pin (b,o) (AS _ (AS _ (fE hb e)))).1,fun b hb=>?_⟩
    obtain⟨o,e,_⟩:=T.obj _ _ t7 b hb
    exact(I'.pin (b,o) (AS _ (AS _ (fE hb e)))).2.1
   refine nx (hg _ _ _ _ _ s7 σ5 H7 x u _ I7' r7 (step x H7 y7)) fun _ s8 ⟨σ8,H8,I8,q8⟩=>?_
   refine nx (ht _ _ _ _ _ s8 σ8 H8 _ I8 q8) fun ok s9 ⟨H9,I9,q9⟩=>?_
   cases ok with
   | false =>
    obtain⟨d9,n9⟩:=q9
    obtain⟨m',hm,w9⟩:=hNN _ _ _ n9
    obtain⟨a1,a2⟩:=backTn I9
    exact⟨m',hm,i+1,acc,σ8,H9,I9.unpinned,a1,a2,d9,w9⟩
   | true =>
    rw[if_pos rfl]
    refine nx (he _ _ _ _ _ s9 σ8 H9 _ I9 q9) fun y s10 ⟨v,H10,I10,r10,d10,l10,n10⟩=>?_
    obtain⟨m',hm,w10⟩:=hNN _ _ _ n10
    refine nx (mo _ s10 σ8 H10 (.ref s2.heap.objs.size) [v] (.ref s2.heap.objs.size) [y] (fun _ H'=>H'=upd H10 s2.heap.objs.size (.lst (acc++[v]))) I10 rfl (.cons r10 .nil) ⟨_,acc,v,rfl,rfl,d10,l10,rfl⟩) fun _ s11 ⟨_,H11,I11,_,e11⟩=>?_
    subst e11
    obtain⟨a1,a2⟩:=backTn I11
    exact⟨m',hm,i+1,_,σ8,_,I11.unpinned,a1,a2,ae,w10⟩
 exact codeAny_compStart_list (loop _ (by rw[<- hs3])) (T.self _ 0 _ _ _ (T.keep _ _ _ t2 fun b hb o e=>k34 b o (k23 b o e)) (loop _ (by rw[<- hs3])))
theorem bj (osc:Scope) (NX own:List Str) (fr:List Nat) (N:List Str) (hc:X.calm=true)
    (hi:PI X tg iter wi) (hg:∀cl C s₀ H₀ ex,PG (cxC X scope N cl C s₀ H₀ ex) tg g) (ht:∀cl C s₀ H₀ ex,PTs (cxC X scope N cl C s₀ H₀ ex) ifs tc) (he:∀cl C s₀ H₀ ex,PE (cxC X scope N cl C s₀ H₀ ex) elt te)
    (hs:∀x,foldedSetIterable iter X.env x=pure x:=by intro _;rfl) (hosc:X.env.scope=osc:=by rfl) (hNX:X.N=NX:=by rfl) (hS:kf osc scope NX own fr N=true:=by decide +kernel) :
    PE X (.ListComp elt [⟨tg,iter,ifs,0⟩] scope pos) (wB own.length fr wi g tc te):=by
 intro pins s σ H Q I h
 have S:CompSc X.env.scope scope X.N own fr N:=by rw[hosc,hNX];exact CompSc.of hS
 obtain⟨cl,ecl,c1,c2⟩:=qy (scope:=scope) (env:=X.env) fun y hy hf=>I.ok.has y.1 (S.free y hy hf)
 rw[eval_ListComp]
 refine wpAny_comprehension_free (use:=none) rfl hs ecl S.kind S.loc (thn (hi pins s σ H _ I h) fun v s1 h1=>thn h1 fun itv s2 h2=>?_)
 obtain⟨it,fp,tn,J,H2,e,I2,T,t2,f2,q⟩:=h2
 subst e
 refine km (POST:=fun acc C=>compPost (model X.prog X.w) X.A X.xe none (EP X pins σ Q) acc C) hc S c1 c2 (hg cl) (ht cl) (he cl) I2 T t2 f2 q fun D C s' H' m I' fC ns q'=>?_
 refine⟨m,ns,fun h' sb=>⟨.ref D,H',?_,rfl,q'⟩⟩
 obtain⟨g0,g1,_,g3,g4,g5⟩:=fC
 exact I'.turned (t':=s'.toks) (fun b o hb e=>(sb.2 b hb).trans e) g0 g1 g3 g4 g5
theorem dX (hN:X.N.Nodup) (hi':X.N[i]? = some x) (hx:X.env.scope.names.lookup x=some .local)
    (hsw:swapsWith (.ListComp elt [⟨tg,iter,ifs,0⟩] scope pos) (some (.Name x px)) spos.line X.env=pure true)
    (osc:Scope) (NX own:List Str) (fr:List Nat) (N:List Str) (hc:X.calm=true)
    (hi:PI X tg iter wi) (hg:∀cl C s₀ H₀ ex,PG (cxC X scope N cl C s₀ H₀ ex) tg g) (ht:∀cl C s₀ H₀ ex,PTs (cxC X scope N cl C s₀ H₀ ex) ifs tc) (he:∀cl C s₀ H₀ ex,PE (cxC X scope N cl C s₀ H₀ ex) elt te)
    (hs:∀x,foldedSetIterable iter X.env x=pure x:=by intro _;rfl) (hosc:X.env.scope=osc:=by rfl) (hNX:X.N=NX:=by rfl) (hS:kf osc scope NX own fr N=true:=by decide +kernel) :
    PS X (.Assign [.Name x px] (.ListComp elt [⟨tg,iter,ifs,0⟩] scope pos) spos) (rC (wB own.length fr wi g tc te) (aQ i)):=by
 intro pins s σ H D I h
 have S:CompSc X.env.scope scope X.N own fr N:=by rw[hosc,hNX];exact CompSc.of hS
 obtain⟨cl,ecl,c1,c2⟩:=qy (scope:=scope) (env:=X.env) fun y hy hf=>I.ok.has y.1 (S.free y hy hf)
 rw[exec_Assign_Name_used _ _ _ _ hsw]
 refine zZ (wpAny_standAt (zZ ?_))
 show wpAny _ X.A (do let _ ← comprehension (.ListComp elt [⟨tg,iter,ifs,0⟩] scope pos) scope X.env _ (newList []) false (eval iter X.env) (some (assign (.Name x px) X.env))) _ _ s
 refine zZ (thn (wpAny_comprehension_free (use:=some (assign (.Name x px) X.env)) (Q:=fun _ s'=>SP X pins D .next s') rfl hs ecl S.kind S.loc (thn (hi pins s σ H _ I h) fun v s1 h1=>thn h1 fun itv s2 h2=>?_)) fun _ s' hq=>Ab (Ab hq))
 obtain⟨it,fp,tn,J,H2,e,I2,T,t2,f2,q⟩:=h2
 subst e
 refine km (POST:=fun acc C=>compPost (model X.prog X.w) X.A X.xe (some (assign (.Name x px) X.env)) (fun _ s'=>SP X pins D .next s') acc C) hc S c1 c2 (hg cl) (ht cl) (he cl) I2 T t2 f2 q fun D' C s' H' m I' fC ns q'=>?_
 show wpAny _ X.A (assign (.Name x px) X.env (.ref D')) _ _ s'
 refine wpAny_assign_Name (lO I' hN hi' (.inl hx) (show RelV (.ref D') (.ref D') from rfl) (fun s3 I3 sb=>?_) (.inr hx))
 obtain⟨a,sb,ha⟩:=sb
 obtain⟨g0,g1,g2,g3,g4,g5⟩:=fC
 have aC:C≠a:=by
  rcases ha with z | z
  ·rw[z];exact g1
  ·exact fun w=>g4 x a z w.symm
 refine⟨m,ns.sameBut sb aC,fun h' sb'=>⟨_,H',?_,q'⟩⟩
 exact I3.turned (t':=s3.toks) (fun b o hb e=>(sb'.2 b hb).trans e) g0 g1 g3 g4 g5
end
def sgV (x:Str) (i:Nat):Option V:=(x.cps[i]?).map fun c=>V.str ⟨#[c]⟩
def Its (x:Str):It:=⟨fun i _=>i<x.cps.size,fun i H v H'=>H'=H/\sgV x i=some v,fun i _=>x.cps.size<=i⟩
theorem rJ {P:Program}{w:World}{K:W.Frag}{tg:Expr}(T:String) (it:Addr) (x:Str) (t:Tok)
    (hn:["enumerate","zip","dict_itemiterator","dict_reverseitemiterator","odict_iterator","itertools.zip_longest","itertools.pairwise"].contains T=false)
    (W:∀A:Around,A.handled=none->Walks P w A it [it] [it] x.cps.size (SignAt x) (fun i h=>h.IsStrIter it T x t i))
    (hs:∀(A:Around) (i:Nat) (s:Shared) (Q:Value->Shared->Prop) (E:Value->Shared->Prop),s.heap.IsStrIter it T x t i->Q (.ref it) s->wpAny (model P w) A (pyIter (.ref it)) Q E s) :
    Turn P w K tg (Its x) [it] it (fun i h=>h.IsStrIter it T x t i/\i<=x.cps.size) where
 mem:=by simp
 obj:=fun i h st b hb=>by
  have e:b=it:=by simpa using hb
  subst e
  obtain⟨o,e,c,d⟩:=st.1
  exact⟨o,e,fun v z=>by rw[d] at z;cases z⟩
 keep:=fun i h h' st k=>⟨by
  obtain⟨o,e,c⟩:=st.1
  exact⟨o,k it (by simp) o e,c⟩,st.2⟩
 item:=by
  intro X hP hw hK hc i pins s σ H E I hf st hg
  subst hP hw hK
  obtain⟨f0,f1,f2,f3,f4,f5⟩:=hf it (by simp)
  refine(W X.A (I.ok.hd hc)).item i s _ _ hg st.1 fun v h' tk hv st' kk=>?_
  obtain⟨c,u,hcp,rfl⟩:=hv
  have I1:Inv X pins σ H { s with heap:=h',toks:=tk }:=I.turned (fun b o hb e=>kk b o (by simpa using hb) e) f0 f1 f3 f4 f5
  obtain⟨o,e,cc,d⟩:=id st'
  refine⟨_,rfl,mS (s:={ s with heap:=h',toks:=tk }) e cc d hn ⟨.str ⟨#[c]⟩,H,I1,⟨u,rfl⟩,⟨rfl,?_⟩,⟨st',?_⟩,fun b hb=>(hf b hb).1⟩⟩
  ·unfold sgV;rw[hcp];rfl
  ·exact hg
 done:=by
  intro X hP hw hK hc i pins s σ H E I hf st hg
  subst hP hw hK
  obtain⟨f0,f1,f2,f3,f4,f5⟩:=hf it (by simp)
  have e:i=x.cps.size:=Nat.le_antisymm st.2 hg
  subst e
  exact(W X.A (I.ok.hd hc)).done s _ _ st.1 fun h' tk kk=>⟨rfl,I.turned (fun b o hb e=>kk b o (by simpa using hb) e) f0 f1 f3 f4 f5⟩
 self:=fun A i s Q E st h=>hs A i s Q E st.1 h
def iStr (tl:TE):TI:=fun σ H R=>tl σ H fun x H1=>∃z,x=.str z/\R (Its z) H1
theorem x5 {X:Cx}{tg l:Expr}{tl:TE}(hl:PE X l tl):PI X tg l (iStr tl) := by
 intro pins s σ H R I h
 refine thn (hl pins s σ H _ I h) fun v s1 ⟨x,H1,I1,r1,q1⟩=>?_
 obtain⟨z,e,q⟩:=q1
 subst e
 obtain⟨t,rfl⟩:=r1
 have fin:∀(T:String),["enumerate","zip","dict_itemiterator","dict_reverseitemiterator","odict_iterator","itertools.zip_longest","itertools.pairwise"].contains T=false ->
     (∀A:Around,A.handled=none->Walks X.prog X.w A s1.heap.objs.size [s1.heap.objs.size] [s1.heap.objs.size] z.cps.size (SignAt z) (fun i h=>h.IsStrIter s1.heap.objs.size T z t i)) ->
     (∀(A:Around) (i:Nat) (s:Shared) (Q:Value->Shared->Prop) (E:Value->Shared->Prop),s.heap.IsStrIter s1.heap.objs.size T z t i->Q (.ref s1.heap.objs.size) s->wpAny (model X.prog X.w) A (pyIter (.ref s1.heap.objs.size)) Q E s) ->
     PIE X pins σ tg R (.ref s1.heap.objs.size) { s1 with heap:=s1.heap.push { cls:=.type T,data:=.fields #[.str z t,.int 0 0] } }:=fun T hn W hs=>by
  refine⟨_,[s1.heap.objs.size],_,_,H1,rfl,I1.kept (t':=s1.toks) fun b o e=>An _ e,rJ T _ z t hn W hs,⟨⟨_,At _ rfl,rfl,rfl⟩,AC _⟩,fun b hb=>?_,q⟩
  have e:b=s1.heap.objs.size:=by simpa using hb
  subst e
  exact I1.fpOk (Aa _) (I1.hok.fresh (Aa _))
 cases ha:z.cps.all (·<128)
 ·exact wpAny_pyIter_wide ha (fin "str_iterator" (by decide) (fun A hA=>Walks.strWide hA _ z t) fun A i s Q E st h=>wpAny_pyIter_striter_wide st h)
 ·exact wpAny_pyIter_ascii ha (fin "str_ascii_iterator" (by decide) (fun A hA=>Walks.strAscii hA _ z t) fun A i s Q E st h=>wpAny_pyIter_striter_ascii st h)
def Ite (K:W.Frag) (a:Addr):It :=
 ⟨fun i H=>∃xs x,SqL K H a xs/\xs[i]? = some x,fun i H v H'=>∃p x,H p=none/\v=.ref p/\(∀xs,SqL K H a xs->xs[i]? = some x)/\H'=upd H p (.tup [.int i,x]),fun i H=>∃xs,SqL K H a xs/\xs.length<=i⟩
theorem sR {P:Program}{w:World}{K:W.Frag}{elts:List Expr}{k:Nat}{tp:Pos}(a e it:Addr) (hne:e ≠ it) :
    Turn P w K (.Tuple elts k tp) (Ite K a) [e,it] e (fun i h=>(∃old,IsEnum h e it i old)/\h.IsListIter it a i) where
 mem:=by simp
 obj:=fun i h st b hb=>by
  obtain⟨⟨old,he⟩,hit⟩:=st
  have hb:b=e∨b=it:=by simpa using hb
  rcases hb with z | z
  ·subst z
   exact⟨_,he,fun v z=>by cases z⟩
  ·subst z
   obtain⟨o,e1,c,d⟩:=hit
   exact⟨o,e1,fun v z=>by rw[d] at z;cases z⟩
 keep:=fun i h h' st kk=>by
  obtain⟨⟨old,he⟩,hit⟩:=st
  exact⟨⟨old,kk e (by simp) _ he⟩,hit.at fun o q=>kk it (by simp) o q⟩
 item := by
  intro X hP hw hK hc i pins s σ H E I hf st hg
  subst hP hw hK
  obtain⟨⟨old,he⟩,hit⟩:=st
  obtain⟨xs,x,hq,hx⟩:=hg
  obtain⟨its,rv,p,hz⟩:=I.list hq
  obtain⟨u,hu,ru⟩:=rv.get hx
  obtain⟨f0,f1,f2,f3,f4,f5⟩:=hf e (by simp)
  obtain⟨g0,g1,g2,g3,g4,g5⟩:=hf it (by simp)
  refine wpAny_pyNext_enum_item he hit p.isList (x:=u) (by simpa using hu) hne fun h1 ho hit1 ht1 hz1 k1=>?_
  have hel:e<s.heap.objs.size:=Ah he
  have hil:it<s.heap.objs.size:=by obtain⟨o,q,_⟩:=hit;exact Ah q
  refine⟨_,rfl,wpAny_letOwnedTupleGo_enum ho fun h2 he2 sb2=>?_⟩
  have sb2:Heap.SameBut e h1 h2:=sb2
  have T2:h2.get? s.heap.objs.size=some { cls:=.type "tuple",data:=.seq #[.int i s.toks,u] }:=(sb2.2 _ (Bo hel)).trans ht1
  have hp:H s.heap.objs.size=none:=I.hok.fresh (Aa _)
  have nit:∀b v,H b=some v->b≠e/\b≠it:=fun b v q=>⟨fun z=>(by rw[z,f0] at q;cases q),fun z=>(by rw[z,g0] at q;cases q)⟩
  have kk:∀b o,b≠e->b≠it->s.heap.get? b=some o->h2.get? b=some o:=fun b o n1 n2 q=>(sb2.2 b n1).trans (k1 b o n1 n2 q)
  have up:∀b v,H b=some v->upd H s.heap.objs.size (.tup [.int i,x]) b=some v:=fun b v q=>by rw[af (ah q hp)];exact q
  have I1:Inv X pins σ (upd H s.heap.objs.size (.tup [.int i, x])) { s with heap := h2, gens := s.gens, drawn := s.drawn, toks := s.toks+1 } := by
   refine I.step (g':=s.gens) (d':=s.drawn) (ch:=[e,it]) (fun b hb=>?_) (fun b o _ _ hb q _=>kk b o (fun z=>hb (by simp[z])) (fun z=>hb (by simp[z])) q) (fun b o _ _ hb q _=>⟨o.slots,kk b o (fun z=>hb (by simp[z])) (fun z=>hb (by simp[z])) q⟩) (fun b o _ q n=>?_)
    (fun b o hb q=>⟨o,kk b o (fun z=>hb (by simp[z])) (fun z=>hb (by simp[z])) q⟩) (fun b ys q=>up b _ q) (fun b o v q=>up b _ q) (fun b ps q=>⟨#[],by rw[up b _ q];simp⟩) (fun m hm=>?_) (fun b v q=>?_) I.bare
   ·have hb:b=e∨b=it:=by simpa using hb
    rcases hb with z | z
    ·subst z;exact⟨f3,f1,f4,f5⟩
    ·subst z;exact⟨g3,g1,g4,g5⟩
   ·rw[af (Ax (Ah q))];exact n
   ·obtain⟨o,es,ep,ho,r⟩:=hm
    exact⟨o,es,ep,kk _ o (Ne.symm f1) (Ne.symm g1) ho,r⟩
   ·by_cases hb:b=s.heap.objs.size
    ·subst hb
     rw[ae] at q
     have q':HO.tup [V.int i,x]=v:=Af q
     subst q'
     exact⟨by show 2<=sizeLine;decide,[.int i s.toks,u],.cons ⟨_,rfl⟩ (.cons ru .nil),⟨_,T2,rfl,_,rfl,rfl⟩⟩
    ·rw[af hb] at q
     refine(I.hok b v q).stay (fun c v' hc q'=>?_) (fun c q=>up c _ q) fun c ys q=>up c _ q
     rcases hc with z | z
     ·rw[z] at q' ⊢;exact kk b v' (nit b v q).1 (nit b v q).2 q'
     ·exact kk c v' (nit c _ z).1 (nit c _ z).2 q'
  refine⟨.ref s.heap.objs.size,upd H s.heap.objs.size (.tup [.int i,x]),I1,rfl,⟨_,x,hp,rfl,fun ys hy=>by rw[I.list_inj hy hq];exact hx,rfl⟩,⟨⟨u,?_⟩,?_⟩,fun b hb=>?_⟩
  ·exact(by simpa using he2)
  ·exact hit1.at fun o q=>(sb2.2 it (Ne.symm hne)).trans q
  ·have hb:b=e∨b=it:=by simpa using hb
   rcases hb with z | z
   ·rw[z,af (Ax hel)];exact f0
   ·rw[z,af (Ax hil)];exact g0
 done:=by
  intro X hP hw hK hc i pins s σ H E I hf st hg
  subst hP hw hK
  obtain⟨⟨old,he⟩,hit⟩:=st
  obtain⟨xs,hq,hx⟩:=hg
  obtain⟨its,rv,p,hz⟩:=I.list hq
  obtain⟨g0,g1,g2,g3,g4,g5⟩:=hf it (by simp)
  have hl:=rv.length
  exact wpAny_pyNext_enum_end (I.ok.hd hc) he hit p.isList (by simp;omega) fun h' eb=>⟨rfl,I.turned (t':=s.toks) (fun b o hb q=>eb b o hb q) g0 g1 g3 g4 g5⟩
 self:=fun _ _ _ _ _ st h=>by
  obtain⟨⟨old,he⟩,_⟩:=st
  exact wpAny_pyIter_enum he h
mutual
inductive Rep (H:Hp):V->PyData->Prop
 | non:Rep H .non .none
 | bl (b:Bool):Rep H (.bl b) (.bool b)
 | int (i:Int):Rep H (.int i) (.int i)
 | str (x:Str):Rep H (.str x) (.str x)
 | lst {a:Addr} {xs:List V} {ds:List PyData}:H a=some (.lst xs)->RepAll H xs ds->Rep H (.ref a) (.list ds)
 | tup {a:Addr} {xs:List V} {ds:List PyData}:H a=some (.tup xs)->RepAll H xs ds->Rep H (.ref a) (.tuple ds)
inductive RepAll (H:Hp):List V->List PyData->Prop
 | nil:RepAll H [] []
 | cons {x:V} {xs:List V} {d:PyData} {ds:List PyData}:Rep H x d->RepAll H xs ds->RepAll H (x::xs) (d::ds)
end
mutual
theorem Rep.reads (ok:HOk P w H h):∀ {v:V}{d:PyData}{u:Value},Rep H v d->RelV v u->∃as,Reads h u d as
 | _,_,_,.non,r=>by cases r;exact⟨_,.none⟩
 | _,_,_,.bl b,r=>by cases r;exact⟨_,.bool b⟩
 | _,_,_,.int i,r=>by obtain⟨t,rfl⟩:=r;exact⟨_,.int i t⟩
 | _,_,_,.str x,r=>by obtain⟨t,rfl⟩:=r;exact⟨_,.str x t⟩
 | _,_,_,.lst (a:=a) (xs:=xs) e rs,r=>by
  cases r
  obtain⟨_,its,n,rv,eh⟩:=(show ObjOk P w H h a (.lst xs) from ok a _ e)
  obtain⟨as,z⟩:=RepAll.reads ok rs rv
  exact⟨_,.list eh rfl rfl (by simpa using z)⟩
 | _,_,_,.tup (a:=a) (xs:=xs) e rs,r=>by
  cases r
  obtain⟨_,its,rv,o,eh,hc,n,hd,_⟩:=(show ObjOk P w H h a (.tup xs) from ok a _ e)
  obtain⟨as,z⟩:=RepAll.reads ok rs rv
  exact⟨_,.tuple eh hc hd (by simpa using z)⟩
theorem RepAll.reads (ok:HOk P w H h):∀ {vs:List V}{ds:List PyData}{us:List Value}, RepAll H vs ds -> Vals vs us -> ∃as, ReadsAll h us ds as
 | _,_,_,.nil,r=>by cases r;exact⟨_,.nil⟩
 | _,_,_,.cons q qs,r=>by
  cases r with
  | cons r1 r2 =>
   obtain⟨as,z⟩:=Rep.reads ok q r1
   obtain⟨bs,zs⟩:=RepAll.reads ok qs r2
   exact⟨_,.cons z zs⟩
end
mutual
theorem Rep.same (s:Same H H'):∀ {v:V}{d:PyData},Rep H v d->Rep H' v d
 | _,_,.non=>.non
 | _,_,.bl b=>.bl b
 | _,_,.int i=>.int i
 | _,_,.str x=>.str x
 | _,_,.lst e rs=>.lst (s _ _ e) (rs.same s)
 | _,_,.tup e rs=>.tup (s _ _ e) (rs.same s)
theorem RepAll.same (s:Same H H'):∀ {vs:List V}{ds:List PyData},RepAll H vs ds->RepAll H' vs ds
 | _,_,.nil=>.nil
 | _,_,.cons q qs=>.cons (q.same s) (qs.same s)
end
section
variable {X:Cx}
def shp (d:PyData):Prop:=SeqAt.shaped d=true
def rEqD:R2:=fun x y H Q=>∃da db,Rep H x da/\Rep H y db/\shp da/\shp db/\Q (.bl (PyData.eqv da db)) H
def rNeD:R2:=fun x y H Q=>∃da db,Rep H x da/\Rep H y db/\shp da/\shp db/\Q (.bl (!PyData.eqv da db)) H
theorem yj (hu:X.A.units+64<cLine):OpR X (compareOp .Eq) rEqD:=by
 intro pins s σ H x y v u Q I rx ry h
 obtain⟨da,db,ra,rb,sa,sb,q⟩:=h
 obtain⟨as,za⟩:=ra.reads I.hok rx
 obtain⟨bs,zb⟩:=rb.reads I.hok ry
 exact eq_dataH za zb sa sb hu ⟨.bl _,H,I,rfl,q⟩
theorem yH (hu:X.A.units+64<cLine):OpR X (compareOp .NotEq) rNeD:=by
 intro pins s σ H x y v u Q I rx ry h
 obtain⟨da,db,ra,rb,sa,sb,q⟩:=h
 obtain⟨as,za⟩:=ra.reads I.hok rx
 obtain⟨bs,zb⟩:=rb.reads I.hok ry
 exact ne_dataH za zb sa sb hu ⟨.bl _,H,I,rfl,q⟩
theorem tV:OpR X (compareOp .LtE) (fun x y H Q=>∃i j,x=.str i/\y=.str j/\Q (.bl (!decide (j.cps.toList<i.cps.toList))) H):=by
 intro pins s σ H x y v u Q I rx ry h
 obtain⟨i,j,rfl,rfl,q⟩:=h
 obtain⟨t,rfl⟩:=rx
 obtain⟨t',rfl⟩:=ry
 exact PySem.P.le_str (aR I q (by simp))
theorem uE (bs:List Bool):((List.range bs.length).all fun i=>bs.getD i false)=bs.all id:=by
 rw[AV,Bj,Bj]
 constructor
 ·intro h b hb
  obtain⟨i,hi,rfl⟩:=List.mem_iff_getElem.mp hb
  have:=h i (by simpa using hi)
  simpa [AG,hi] using this
 ·intro h i hi
  have hi:i<bs.length:=by simpa using hi
  have:=h bs[i] (BL hi)
  simpa [AG,hi] using this
theorem xv {bs:List Bool}{its:List Value}(r:Vals (bs.map V.bl) its) {i:Nat}(e:its[i]? = some v):v=.bool (bs.getD i false):=by
 have hl:=r.length
 rw[z0] at hl
 have hi:i<bs.length:=by rw[hl];exact(Ac.mp e).1
 obtain⟨u,hu,ru⟩:=r.get (i:=i) (x:=V.bl (bs.getD i false)) (by rw[Al];simp[AG,hi])
 rw[e] at hu
 cases hu
 exact ru
theorem oY (hc:X.calm=true):eK X (.builtin "all") (fun xs H Q=>∃p bs,xs=[.ref p]/\H p=some (.lst (List.map V.bl bs))/\Q (.bl (bs.all id)) H):=by
 intro pins s σ H xs us Q I r h
 obtain⟨p,bs,rfl,e,q⟩:=h
 obtain⟨u,rfl,ru⟩:=cU r
 cases ru
 obtain⟨hz,its,n,rv,eh⟩:=(show ObjOk X.prog X.w H s.heap p (.lst (List.map V.bl bs)) from I.hok p _ e)
 have hl:s.heap.IsList p its.toArray:=⟨_,eh,rfl,n,rfl⟩
 have hlen:its.length=bs.length:=by have:=rv.length;rw[z0] at this;exact this.symm
 have hpl:p<s.heap.objs.size:=Ah eh
 refine call_all_walk (wpAny_pyIter_list hl ?_)
 refine⟨s.heap.objs.size,[s.heap.objs.size,p],[s.heap.objs.size],its.toArray.size,_,_,fun i=>bs.getD i false,rfl,
  Walks.list (A:=X.A.in1) (I.ok.hd hc) _ p (Ax hpl) its.toArray,⟨⟨_,At _ rfl,rfl,rfl⟩,⟨_,An _ eh,rfl,n,rfl⟩⟩,?_,fun h' tk hk=>?_⟩
 ·intro i v s' Q' E' hv hQ'
  have hv:its[i]? = some v:=by simpa using hv
  rw[xv rv hv]
  exact Ab hQ'
 ·refine⟨.bl _,H,I.kept fun b o eb=>hk b o (by simpa using Ax (Ah eb)) (An _ eb),rfl,?_⟩
  rw[Au,hlen,uE]
  exact q
theorem qx:∀ {ys:List Str}{us:List Value}, Vals (ys.map V.str) us -> StrsAre us ys
 | [],us,r=>by cases r;exact .nil
 | y::ys,us,r=>by
  cases r with
  | cons r1 r2 =>
   obtain⟨t,rfl⟩:=r1
   exact .cons y t (qx r2)
def wV:V->List V->Hp->VK->Prop:=fun x xs H Q=>∃z p ys,x=.str z/\xs=[.ref p]/\H p=some (.lst (List.map V.str ys))/\(ys.map (·.length)).sum+ys.length * z.length<=16777216/\Q (.str (Txt.join z ys)) H
theorem xn:MtR X "str.join" wV:=by
 intro pins s σ H x xs v us Q I rx rv h
 obtain⟨z,p,ys,rfl,rfl,e,hz,q⟩:=h
 obtain⟨t,rfl⟩:=rx
 obtain⟨u,rfl,ru⟩:=cU rv
 cases ru
 obtain⟨_,its,n,rv,eh⟩:=(show ObjOk X.prog X.w H s.heap p (.lst (List.map V.str ys)) from I.hok p _ e)
 exact join_list (D:=p) (items:=its.toArray) ⟨_,eh,rfl,n,rfl⟩ (by simpa using qx rv) hz fun t' k=>⟨.str _,H,I.tok k,⟨t',rfl⟩,q⟩
def rSlS:V->Option Int->Option Int->Hp->VK->Prop:=fun x lo hi H Q=>∃z,x=.str z/\z.length<=sizeLine/\Q (.str (Txt.slice z lo hi)) H
theorem zh:SlR X rSlS:=by
 intro pins s σ H x v vl vu lo hi sl Q I rx hs pl pu h
 obtain⟨z,rfl,hz,q⟩:=h
 obtain⟨t,rfl⟩:=rx
 refine⟨"str",_,PySem.F.slot_str_getitem.lookup,typeIs_str _ _ _,?_⟩
 obtain⟨o,h1,h2,h3⟩:=hs
 have fin:∀t' k,EP X pins σ Q (.str (Txt.slice z lo hi) t') { s with toks:=k }:=fun t' k=>⟨.str _,H,I.tok k,⟨t',rfl⟩,q⟩
 cases pl with
 | none=>cases pu with
  | none=>exact wpAny_getItem_str_slice (l:=none) (u:=none) (st:=none) ⟨o,h1,h2,h3⟩ rfl (post_val_or_str ⟨Az (Txt.slice_le z _ _) hz,fin⟩)
  | int j tj=>exact wpAny_getItem_str_slice (l:=none) (u:=some (j,tj)) (st:=none) ⟨o,h1,h2,h3⟩ rfl (post_val_or_str ⟨Az (Txt.slice_le z _ _) hz,fin⟩)
 | int i ti=>cases pu with
  | none=>exact wpAny_getItem_str_slice (l:=some (i,ti)) (u:=none) (st:=none) ⟨o,h1,h2,h3⟩ rfl (post_val_or_str ⟨Az (Txt.slice_le z _ _) hz,fin⟩)
  | int j tj=>exact wpAny_getItem_str_slice (l:=some (i,ti)) (u:=some (j,tj)) (st:=none) ⟨o,h1,h2,h3⟩ rfl (post_val_or_str ⟨Az (Txt.slice_le z _ _) hz,fin⟩)
def yL (K:W.Frag) (c:String):List V->Hp->VK->Prop:=fun xs H Q=>∃x t b,xs=[x,.ty c]/\TyOf K H x t/\W.kitOne K t (.type c)=some b/\Q (.bl b) H
theorem vJ (c:String):eK X (.builtin "isinstance") (yL X.K c):=by
 intro pins s σ H xs us Q I r h
 obtain⟨x,t,b,rfl,ty,e,q⟩:=h
 obtain⟨u,w',rfl,ru,rw'⟩:=fH r
 cases rw'
 exact uv I ru ty e fun tk=>⟨.bl b,H,I.tok tk,rfl,q⟩
theorem fG (ok:HOk P w H h):∀ {xs:List V}{ds:List PyData}{us:List Value}, RepAll H xs ds -> Vals xs us -> PyData.canLayAll0 ds=true -> us.any (fun u => PyData.eqv (SeqAt.readOf h u) d)=ds.any fun e => PyData.eqv e d
 | _,_,_,.nil,r,_=>by cases r;rfl
 | _,_,_,.cons q qs,r,hl=>by
  cases r with
  | cons r1 r2 =>
   have hl':=Bool.and_eq_true_iff.mp (show (PyData.canLay0 _&&PyData.canLayAll0 _)=true from hl)
   obtain⟨as,z⟩:=q.reads ok r1
   rw[Bt,Bt,SeqAt.readOf_eq hl'.1 z,fG ok qs r2 hl'.2]
theorem fI {P:Program}{w:World}{H:Hp}{A:Around}{s:Shared}(ok:HOk P w H s.heap) {d:PyData}{x:V}{v:Value}{bs:List Addr}(zx:Reads s.heap v d bs) (hd:d.canLay0=true) (hu:A.units+d.depth<cLine) :
    ∀ {xs:List V} {ds:List PyData} {us:List Value},RepAll H xs ds->Vals xs us->PyData.canLayAll0 ds=true->∀u∈us,SeqAt.EqAt A s u v (PyData.eqv (SeqAt.readOf s.heap u) d)
 | _,_,_,.nil,r,_=>by cases r;intro u hu;cases hu
 | _, _, _, .cons q qs, r, hl => by
  cases r with
  | cons r1 r2 =>
   have hl':=Bool.and_eq_true_iff.mp (show (PyData.canLay0 _&&PyData.canLayAll0 _)=true from hl)
   intro u hm
   rcases AA.mp hm with rfl | hm
   ·obtain⟨as,z⟩:=q.reads ok r1
    rw[SeqAt.readOf_eq hl'.1 z]
    exact SeqAt.eqAt_reads _ _ _ _ _ _ _ _ z zx hl'.1 hd (Nat.lt_of_le_of_lt (Nat.add_le_add_left (Nat.min_le_right _ _) _) hu)
   ·exact fI (x:=x) ok zx hd hu qs r2 hl'.2 u hm
def yp (neg:Bool):R2:=fun x y H Q=>∃p xs ds d,y=.ref p/\H p=some (.lst xs)/\RepAll H xs ds/\Rep H x d/\PyData.canLayAll0 ds=true/\d.canLay0=true/\d.depth<=16 /\
 Q (.bl (if neg then !(ds.any fun e=>PyData.eqv e d) else ds.any fun e=>PyData.eqv e d)) H
theorem ym (hu:X.A.units+64<cLine):OpR X (compareOp .In) (yp false):=by
 intro pins s σ H x y v u Q I rx ry h
 obtain⟨p,xs,ds,d,rfl,e,rs,r,cs,c,dp,q⟩:=h
 cases ry
 obtain⟨_,its,n,rv,eh⟩:=(show ObjOk X.prog X.w H s.heap p (.lst xs) from I.hok p _ e)
 obtain⟨bs,zx⟩:=r.reads I.hok rx
 refine SeqAt.in_listAt (fun u=>PyData.eqv (SeqAt.readOf s.heap u) d) ⟨_,eh,rfl,n,rfl⟩ (fun w hw=>fI (x:=x) I.hok zx c (by show X.A.units+1+d.depth<cLine;omega) rs rv cs w (by simpa using hw)) ⟨.bl _,H,I,rfl,?_⟩
 rw[show its.toArray.any (fun u=>PyData.eqv (SeqAt.readOf s.heap u) d)=its.any (fun u=>PyData.eqv (SeqAt.readOf s.heap u) d) by simp,fG I.hok rs rv cs]
 exact q
theorem sx (hu:X.A.units+64<cLine):OpR X (compareOp .NotIn) (yp true):=by
 intro pins s σ H x y v u Q I rx ry h
 obtain⟨p,xs,ds,d,rfl,e,rs,r,cs,c,dp,q⟩:=h
 cases ry
 obtain⟨_,its,n,rv,eh⟩:=(show ObjOk X.prog X.w H s.heap p (.lst xs) from I.hok p _ e)
 obtain⟨bs,zx⟩:=r.reads I.hok rx
 refine SeqAt.notIn_listAt (fun u=>PyData.eqv (SeqAt.readOf s.heap u) d) ⟨_,eh,rfl,n,rfl⟩ (fun w hw=>fI (x:=x) I.hok zx c (by show X.A.units+1+d.depth<cLine;omega) rs rv cs w (by simpa using hw)) ⟨.bl _,H,I,rfl,?_⟩
 rw[show its.toArray.any (fun u=>PyData.eqv (SeqAt.readOf s.heap u) d)=its.any (fun u=>PyData.eqv (SeqAt.readOf s.heap u) d) by simp,fG I.hok rs rv cs]
 exact q
end
structure Cal (P:Program) (w:World) (K:W.Frag) (mg:Str->Option Value) (base:Heap) (k:Nat) (x:Str) (ps:List Str) (sp:Sp):Prop where
 ex:∃(f:Addr) (fd:FuncData),FnOk P w K mg base CX0 k f fd ps sp/\mg x=some (.ref f)/\W.keepIn K (.ref f)=true/\Binds K fd ps []
section
variable {X:Cx}{x:Str}{ps:List Str}{sp:Sp}{k j:Nat}{p pos:Pos}{e:Expr}{es:List Expr}{t:TA}
theorem m8 (c:Cal X.prog X.w X.K X.mg X.base k x ps sp) (hr:Room k X.A) (hg:Gl X x) (ha:PA X (e::es) t)
    (hs:starEach (e::es) X.env=(false,eval e X.env)::starEach es X.env:=by rfl) (hpl:(backTo pos (starEach es X.env)).any (·.1)=false:=by rfl) (hdb:(x==("__debug__":Str))=false:=by decide) :
    PE X (.Call (.Name x p) (e::es) [] pos) (rX sp [] E0 t):=by
 obtain⟨f,fd,G,mf,kp,b⟩:=c.ex
 exact wX G hr hg mf kp b .nil wP ha (hdb:=hdb) (he:=hs) (hpl:=hpl)
end
section
variable {X:Cx}
inductive AddR (H:Hp):V->V->VK->Prop
 | int {i j:Int} {Q:VK}:Q (.int (i+j)) H->AddR H (.int i) (.int j) Q
 | str {i j:Str} {Q:VK}:i.length+j.length<=sizeLine->Q (.str (i++j)) H->AddR H (.str i) (.str j) Q
 | lst {l b:Addr} {xs zs:List V} {Q:VK}:H l=some (.lst xs)->H b=some (.lst zs)->xs.length+zs.length<=sizeLine->(∀p,H p=none->Q (.ref p) (upd H p (.lst (xs++zs))))->AddR H (.ref l) (.ref b) Q
theorem aK:OpR X (binaryOp .Add) (fun x y H Q=>AddR H x y Q):=by
 intro pins s σ H x y v u Q I rx ry h
 cases h with
 | int q=>exact yJ pins s σ H _ _ v u Q I rx ry ⟨_,_,rfl,rfl,q⟩
 | str hz q=>exact qQ pins s σ H _ _ v u Q I rx ry ⟨_,_,rfl,rfl,hz,q⟩
 | lst h1 h2 hz q=>exact yb pins s σ H _ _ v u Q I rx ry ⟨_,_,_,_,rfl,rfl,h1,h2,hz,q⟩
inductive EqR (neg:Bool) (H:Hp):V->V->VK->Prop
 | sc {x y:V} {Q:VK}:va x y=true->Q (.bl (if neg then !decide (x=y) else decide (x=y))) H->EqR neg H x y Q
 | tr {x y:V} {da db:PyData} {Q:VK}:Rep H x da->Rep H y db->shp da->shp db->Q (.bl (if neg then !PyData.eqv da db else PyData.eqv da db)) H->EqR neg H x y Q
theorem br (hu:X.A.units+64<cLine):OpR X (compareOp .Eq) (fun x y H Q=>EqR false H x y Q):=by
 intro pins s σ H x y v u Q I rx ry h
 cases h with
 | sc h q=>exact zW pins s σ H _ _ v u Q I rx ry ⟨h,q⟩
 | tr ra rb sa sb q=>exact yj hu pins s σ H _ _ v u Q I rx ry ⟨_,_,ra,rb,sa,sb,q⟩
theorem cE (hu:X.A.units+64<cLine):OpR X (compareOp .NotEq) (fun x y H Q=>EqR true H x y Q):=by
 intro pins s σ H x y v u Q I rx ry h
 cases h with
 | sc h q=>exact zS pins s σ H _ _ v u Q I rx ry ⟨h,q⟩
 | tr ra rb sa sb q=>exact yH hu pins s σ H _ _ v u Q I rx ry ⟨_,_,ra,rb,sa,sb,q⟩
inductive SlX (K:W.Frag) (H:Hp):V->Option Int->Option Int->VK->Prop
 | str {z:Str} {lo hi:Option Int} {Q:VK}:z.length<=sizeLine->Q (.str (Txt.slice z lo hi)) H->SlX K H (.str z) lo hi Q
 | lst {a:Addr} {xs:List V} {lo hi:Option Int} {Q:VK}:SqL K H a xs->(∀p,H p=none->Q (.ref p) (upd H p (.lst (cL xs lo hi))))->SlX K H (.ref a) lo hi Q
theorem sl_X:SlR X (fun x lo hi H Q=>SlX X.K H x lo hi Q):=by
 intro pins s σ H x v vl vu lo hi sl Q I rx hs pl pu h
 cases h with
 | str hz q=>exact zh pins s σ H _ v vl vu lo hi sl Q I rx hs pl pu ⟨_,rfl,hz,q⟩
 | lst h1 q=>exact xW pins s σ H _ v vl vu lo hi sl Q I rx hs pl pu ⟨_,_,rfl,h1,q⟩
end
section
variable {X:Cx}
inductive CmR (f:Int->Int->Bool) (g:Str->Str->Bool) (H:Hp):V->V->VK->Prop
 | int {i j:Int} {Q:VK}:Q (.bl (f i j)) H->CmR f g H (.int i) (.int j) Q
 | str {i j:Str} {Q:VK}:Q (.bl (g i j)) H->CmR f g H (.str i) (.str j) Q
theorem t8:OpR X (compareOp .LtE) (fun x y H Q=>CmR (fun i j=>decide (i<=j)) (fun i j=>!decide (j.cps.toList<i.cps.toList)) H x y Q):=by
 intro pins s σ H x y v u Q I rx ry h
 cases h with
 | int q=>exact zD pins s σ H _ _ v u Q I rx ry ⟨_,_,rfl,rfl,q⟩
 | str q=>exact tV pins s σ H _ _ v u Q I rx ry ⟨_,_,rfl,rfl,q⟩
theorem fg:OpR X (compareOp .Lt) (fun x y H Q=>CmR (fun i j=>decide (i<j)) (fun i j=>decide (i.cps.toList<j.cps.toList)) H x y Q):=by
 intro pins s σ H x y v u Q I rx ry h
 cases h with
 | int q=>exact zP pins s σ H _ _ v u Q I rx ry ⟨_,_,rfl,rfl,q⟩
 | str q=>exact uo pins s σ H _ _ v u Q I rx ry ⟨_,_,rfl,rfl,q⟩
inductive IsB (neg:Bool) (H:Hp):V->V->VK->Prop
 | int {i:Int} {b:Bool} {Q:VK}:Q (.bl neg) H->IsB neg H (.int i) (.bl b) Q
 | bl {c b:Bool} {Q:VK}:Q (.bl (if neg then !decide (c=b) else decide (c=b))) H->IsB neg H (.bl c) (.bl b) Q
 | non {x:V} {Q:VK}:Q (.bl (if neg then !decide (x=.non) else decide (x=.non))) H->IsB neg H x .non Q
theorem gm:OpR X (compareOp .IsNot) (fun x y H Q=>IsB true H x y Q):=by
 intro pins s σ H x y v u Q I rx ry h
 cases h with
 | int q =>
  obtain⟨t,rfl⟩:=rx
  cases ry
  exact wpAny_isNot_other (by rfl) (by intro z;cases z) ⟨.bl _,H,I,rfl,q⟩
 | @bl c b _ q =>
  cases rx
  cases ry
  exact wpAny_isNot_plain (by rfl) (aR I q (by cases c <;> cases b <;> rfl))
 | non q=>exact xx pins s σ H _ _ v u Q I rx ry ⟨rfl,q⟩
theorem gS:OpR X (compareOp .Is) (fun x y H Q=>IsB false H x y Q):=by
 intro pins s σ H x y v u Q I rx ry h
 cases h with
 | int q =>
  obtain⟨t,rfl⟩:=rx
  cases ry
  exact wpAny_is_other (by rfl) (by intro z;cases z) ⟨.bl _,H,I,rfl,q⟩
 | @bl c b _ q =>
  cases rx
  cases ry
  exact wpAny_is_plain (by rfl) (aR I q (by cases c <;> cases b <;> rfl))
 | non q=>exact ze pins s σ H _ _ v u Q I rx ry ⟨rfl,q⟩
theorem yQ (K:W.Frag) (ho:PE X o to) (ha:PA X [e] t)
    (hbase:attributeBase o "join" X.env (eval o X.env)=eval o X.env:=by rfl)
    (hfew:((backTo cpos (starEach [e] X.env)).all (fun x=>!x.1)&&(backToKw cpos (keywordEach [] X.env)).all (fun x=>x.1.isSome)
     && decide ([e].length+([]:List Keyword).length+(if ([]:List Keyword).isEmpty then 0 else 1)<30))=true:=by rfl)
    (hline:(apos.endLine==cpos.line)=true:=by rfl) (hs:starEach [e] X.env=(false,eval e X.env)::starEach [] X.env:=by rfl) (hplain:(backTo cpos (starEach [] X.env)).any (·.1)=false:=by rfl) (hK:X.K=K:=by rfl) :
    PE X (.Call (.Attribute o "join" apos) [e] [] cpos) (tBM K "str" wV to t):=hK ▸ jU PySem.F.plainAttrs_str PySem.F.slot_str_join PySem.F.type_str_join xn ho ha hbase hfew hline hs hplain
theorem cq (K:W.Frag) (ho:PE X o to) (ha:PA X [e] t)
    (hbase:attributeBase o "append" X.env (eval o X.env)=eval o X.env:=by rfl)
    (hfew:((backTo cpos (starEach [e] X.env)).all (fun x=>!x.1)&&(backToKw cpos (keywordEach [] X.env)).all (fun x=>x.1.isSome)
     && decide ([e].length+([]:List Keyword).length+(if ([]:List Keyword).isEmpty then 0 else 1)<30))=true:=by rfl)
    (hline:(apos.endLine==cpos.line)=true:=by rfl) (hs:starEach [e] X.env=(false,eval e X.env)::starEach [] X.env:=by rfl) (hplain:(backTo cpos (starEach [] X.env)).any (·.1)=false:=by rfl) (hK:X.K=K:=by rfl) :
    PE X (.Call (.Attribute o "append" apos) [e] [] cpos) (tBM K "list" qE to t):=hK ▸ jU PySem.F.plainAttrs_list PySem.F.slot_list_append PySem.F.type_list_append mo ho ha hbase hfew hline hs hplain
theorem iP (K:W.Frag) (hK:X.K=K:=by rfl):SlR X (fun x lo hi H Q=>SlX K H x lo hi Q):=hK ▸ sl_X
theorem be (K:W.Frag) (hl:PE X l tl) (hK:X.K=K:=by rfl):PI X tg l (wR K tl):=hK ▸ xf hl
theorem bc (K:W.Frag) (hl:PE X l tl) (hK:X.K=K:=by rfl):PI X tg l (y9 K tl):=hK ▸ zi hl
end
theorem iL {i:Nat}{A B:St->Hp->Prop}(h:A (σ.set i (some v)) H):aQ i v σ H fun σ2 H3=>qX σ2 H3 fun b H4=>if b=true then A σ2 H4 else B σ2 H4:=by
 show (if true=true then A (σ.set i (some v)) H else B (σ.set i (some v)) H)
 rw[if_pos rfl]
 exact h
section
variable {K:W.Frag}{k:Nat}{fr:List Nat}{g:TG}{tc:TT}{te:TE}{σ:St}{H1:Hp}{Q:VK}
theorem fF (xs:List V) (Ok:Hp -> Prop) (hgo:∀i H, Ok H -> i<xs.length -> J.go i H) (hyl:∀i H x H', Ok H -> i<xs.length -> J.yld i H x H' -> H'=H /\ xs[i]? = some x) (hst:∀H, Ok H -> J.stop xs.length H)
    (Pv:Addr->Nat->List V->St->Hp->Prop)
    (h:∀D,H1 D=none->Pv D 0 [] (eV k fr σ) (upd H1 D (.lst []))/\(∀i acc σ' H',i<=xs.length->Pv D i acc σ' H'->H' D=some (.lst acc)->Ok H') /\
     (∀i acc σ' H' x,xs[i]? = some x->Pv D i acc σ' H'->H' D=some (.lst acc)->g x σ' H' fun σ2 H3=>tc σ2 H3 fun b H4 =>
      if b=true then te σ2 H4 fun y H5=>H5 D=some (.lst acc)/\acc.length<sizeLine/\Pv D (i+1) (acc++[y]) σ2 (upd H5 D (.lst (acc++[y]))) else H4 D=some (.lst acc)/\Pv D (i+1) acc σ2 H4) /\
     ∀acc σ' H',Pv D xs.length acc σ' H'->H' D=some (.lst acc)->Q (.ref D) H'):ef k fr g tc te J σ H1 Q:=by
 intro D hD
 obtain⟨h0,hok,hs,hd⟩:=h D hD
 refine⟨fun i m acc σ' H'=>m=xs.length-i/\i<=xs.length/\Pv D i acc σ' H',⟨xs.length,by simp,AC _,h0⟩,?_⟩
 rintro i m acc σ' H' ⟨rfl,hi,p⟩ hacc
 have ok:=hok i acc σ' H' hi p hacc
 by_cases hlt:i<xs.length
 ·refine .inr ⟨hgo i H' ok hlt,Pv D (i+1),fun acc' σ2 H2 p'=>⟨xs.length-(i+1),by omega,rfl,hlt,p'⟩,fun x H2 y=>?_⟩
  obtain⟨e,hx⟩:=hyl i H' x H2 ok hlt y
  subst e
  exact hs i acc σ' H2 x hx p hacc
 ·have e:i=xs.length:=by omega
  subst e
  exact .inl ⟨hst H' ok,hd acc σ' H' p hacc⟩
def eU (n:Nat):List V:=(List.range n).map fun i=>V.int (0+(i:Nat))
theorem hG (Pv:Addr -> Nat -> List V -> St -> Hp -> Prop)
    (h:∀D,H1 D=none->Pv D 0 [] (eV k fr σ) (upd H1 D (.lst [])) /\
     (∀i acc σ' H',i<n->Pv D i acc σ' H'->H' D=some (.lst acc)->g (.int (0+(i:Nat))) σ' H' fun σ2 H3=>tc σ2 H3 fun b H4 =>
      if b=true then te σ2 H4 fun y H5=>H5 D=some (.lst acc)/\acc.length<sizeLine/\Pv D (i+1) (acc++[y]) σ2 (upd H5 D (.lst (acc++[y]))) else H4 D=some (.lst acc)/\Pv D (i+1) acc σ2 H4) /\
     ∀acc σ' H',Pv D n acc σ' H'->H' D=some (.lst acc)->Q (.ref D) H'):ef k fr g tc te (Itr 0 n) σ H1 Q:=by
 have hl:(eU n).length=n:=by simp[eU]
 refine fF (eU n) (fun _=>True) (fun i H _ hi=>by rw[hl] at hi;exact hi) (fun i H x H' _ hi y=>⟨y.1,?_⟩) (fun H _=>by show n<=(eU n).length;rw[hl];exact Aa _) Pv fun D hD=>?_
 ·rw[hl] at hi
  rw[y.2]
  simp[eU,hi]
 ·obtain⟨a,b,c⟩:=h D hD
  refine⟨a,fun _ _ _ _ _ _ _=>trivial,fun i acc σ' H' x hx p hacc=>?_,by rw[hl];exact c⟩
  have hi:i<n:=by rw[<- hl];exact(Ac.mp hx).1
  have e:x=V.int (0+(i:Nat)):=by
   simp[eU,hi] at hx
   rw[<- hx];simp
  subst e
  exact b i acc σ' H' hi p hacc
theorem bR (xs:List V) (Pv:Addr -> Nat -> List V -> St -> Hp -> Prop)
    (h:∀D,H1 D=none->Pv D 0 [] (eV k fr σ) (upd H1 D (.lst []))/\(∀i acc σ' H',i<=xs.length->Pv D i acc σ' H'->H' D=some (.lst acc)->SqL K H' a xs) /\
     (∀i acc σ' H' x,xs[i]? = some x->Pv D i acc σ' H'->H' D=some (.lst acc)->g x σ' H' fun σ2 H3=>tc σ2 H3 fun b H4 =>
      if b=true then te σ2 H4 fun y H5=>H5 D=some (.lst acc)/\acc.length<sizeLine/\Pv D (i+1) (acc++[y]) σ2 (upd H5 D (.lst (acc++[y]))) else H4 D=some (.lst acc)/\Pv D (i+1) acc σ2 H4) /\
     ∀acc σ' H',Pv D xs.length acc σ' H'->H' D=some (.lst acc)->Q (.ref D) H'):ef k fr g tc te (Itl K a) σ H1 Q :=
 fF xs (fun H=>SqL K H a xs) (fun i H q hi=>⟨xs,xs[i],q,by simp[hi]⟩) (fun i H x H' q hi y=>⟨y.1,y.2 xs q⟩) (fun H q=>⟨xs,q,Aa _⟩) Pv h
theorem bX (xs:List V) (Pv:Addr -> Nat -> List V -> St -> Hp -> Prop)
    (h:∀D,H1 D=none->Pv D 0 [] (eV k fr σ) (upd H1 D (.lst []))/\(∀i acc σ' H',i<=xs.length->Pv D i acc σ' H'->H' D=some (.lst acc)->SqT K H' a xs) /\
     (∀i acc σ' H' x,xs[i]? = some x->Pv D i acc σ' H'->H' D=some (.lst acc)->g x σ' H' fun σ2 H3=>tc σ2 H3 fun b H4 =>
      if b=true then te σ2 H4 fun y H5=>H5 D=some (.lst acc)/\acc.length<sizeLine/\Pv D (i+1) (acc++[y]) σ2 (upd H5 D (.lst (acc++[y]))) else H4 D=some (.lst acc)/\Pv D (i+1) acc σ2 H4) /\
     ∀acc σ' H',Pv D xs.length acc σ' H'->H' D=some (.lst acc)->Q (.ref D) H'):ef k fr g tc te (Itt K a) σ H1 Q :=
 fF xs (fun H=>SqT K H a xs) (fun i H q hi=>⟨xs,xs[i],q,by simp[hi]⟩) (fun i H x H' q hi y=>⟨y.1,y.2 xs q⟩) (fun H q=>⟨xs,q,Aa _⟩) Pv h
def gC (z:Str):List V:=z.cps.toList.map fun c=>V.str ⟨#[c]⟩
theorem vZ (Pv:Addr -> Nat -> List V -> St -> Hp -> Prop)
    (h:∀D,H1 D=none->Pv D 0 [] (eV k fr σ) (upd H1 D (.lst [])) /\
     (∀i acc σ' H' c,z.cps.toList[i]? = some c->Pv D i acc σ' H'->H' D=some (.lst acc)->g (.str ⟨#[c]⟩) σ' H' fun σ2 H3=>tc σ2 H3 fun b H4 =>
      if b=true then te σ2 H4 fun y H5=>H5 D=some (.lst acc)/\acc.length<sizeLine/\Pv D (i+1) (acc++[y]) σ2 (upd H5 D (.lst (acc++[y]))) else H4 D=some (.lst acc)/\Pv D (i+1) acc σ2 H4) /\
     ∀acc σ' H',Pv D z.cps.toList.length acc σ' H'->H' D=some (.lst acc)->Q (.ref D) H'):ef k fr g tc te (Its z) σ H1 Q:=by
 have hl:(gC z).length=z.cps.toList.length:=by simp[gC]
 refine fF (gC z) (fun _=>True) (fun i H _ hi=>by rw[hl] at hi;show i<z.cps.size;simpa using hi) (fun i H x H' _ hi y=>⟨y.1,?_⟩) (fun H _=>by show z.cps.size<=(gC z).length;rw[hl];simp) Pv fun D hD=>?_
 ·have y2:=y.2
  unfold sgV at y2
  simp only[gC,Al,Array.getElem?_toList]
  exact y2
 ·obtain⟨a,b,c⟩:=h D hD
  refine⟨a,fun _ _ _ _ _ _ _=>trivial,fun i acc σ' H' x hx p hacc=>?_,by rw[hl];exact c⟩
  simp only[gC,Al] at hx
  cases e:z.cps.toList[i]? with
  | none=>rw[e] at hx;cases hx
  | some cc =>
   rw[e] at hx
   cases hx
   exact b i acc σ' H' cc e p hacc
end
def But (p:Addr) (H H':Hp):Prop:=∀b o,b≠p->H b=some o->H' b=some o
theorem But.refl (p:Addr) (H:Hp):But p H H:=fun _ _ _ h=>h
theorem But.trans (a:But p H H1) (b:But p H1 H2):But p H H2:=fun c o n h=>b c o n (a c o n h)
theorem But.upd:But p H (upd H p o):=fun b o' n h=>by rw[af n];exact h
theorem But.of_same (s:Same H H'):But p H H':=fun b o _ h=>s b o h
theorem Same.new (h:H p=none):Same H (upd H p o):=fun b o' e=>by rw[af (ah e h)];exact e
theorem Rd.but (b:But p H H') (n:a≠p) (h:Rd H a u):Rd H' a u:=by
 rcases h with h | ⟨o,h⟩
 ·exact .inl (b _ _ n h)
 ·exact .inr ⟨o,b _ _ n h⟩
theorem SqL.but {K:W.Frag}{p:Addr}{H H':Hp}(b:But p H H') {a:Addr}{xs:List V}(n:a≠p) (h:SqL K H a xs):SqL K H' a xs:=by
 rcases h with h | h
 ·exact .inl (h.but b n)
 ·exact .inr h
structure Blt (mg:Str->Option Value):Prop where
 len:mg "len"=none
 range:mg "range"=none
 abs:mg "abs"=none
 all:mg "all"=none
 repr:mg "repr"=none
 isinstance:mg "isinstance"=none
 str:mg "str"=none
 int:mg "int"=none
 bool:mg "bool"=none
 enumerate:mg "enumerate"=none
 list:mg "list"=none
 tuple:mg "tuple"=none
 dict:mg "dict"=none
 min:mg "min"=none
 max:mg "max"=none
section
variable {X:Cx}{p pos:Pos}{e f:Expr}{t:TA}
def rLen (K:W.Frag):List V->Hp->VK->Prop:=fun xs H Q=>∃x n,xs=[x]/\yh K x H n/\Q (.int n) H
def rAbs:List V->Hp->VK->Prop:=fun xs H Q=>∃i,xs=[.int i]/\Q (.int (if i<0 then -i else i)) H
def rAll:List V->Hp->VK->Prop:=fun xs H Q=>∃p bs,xs=[.ref p]/\H p=some (.lst (List.map V.bl bs))/\Q (.bl (bs.all id)) H
theorem bh (K:W.Frag) (B:Blt X.mg) (ha:PA X [e] t) (hg:Gl X "len":=by rfl) (he:starEach [e] X.env=(false,eval e X.env)::starEach [] X.env:=by rfl) (hpl:(backTo pos (starEach [] X.env)).any (·.1)=false:=by rfl) (hK:X.K=K:=by rfl):PE X (.Call (.Name "len" p) [e] [] pos) (tCB (rLen K) t) :=
 hK ▸ eS uV hg B.len PySem.boot_len ha (by decide) (by decide) he hpl
theorem qR (B:Blt X.mg) (ha:PA X [e] t) (hg:Gl X "abs":=by rfl) (he:starEach [e] X.env=(false,eval e X.env)::starEach [] X.env:=by rfl) (hpl:(backTo pos (starEach [] X.env)).any (·.1)=false:=by rfl):PE X (.Call (.Name "abs" p) [e] [] pos) (tCB rAbs t) :=
 eS u7 hg B.abs boot_abs ha (by decide) (by decide) he hpl
theorem wT (hc:X.calm=true) (B:Blt X.mg) (ha:PA X [e] t) (hg:Gl X "all":=by rfl) (he:starEach [e] X.env=(false,eval e X.env)::starEach [] X.env:=by rfl) (hpl:(backTo pos (starEach [] X.env)).any (·.1)=false:=by rfl):PE X (.Call (.Name "all" p) [e] [] pos) (tCB rAll t) :=
 eS (oY hc) hg B.all boot_all ha (by decide) (by decide) he hpl
theorem mU (K:W.Frag) (c:String) (B:Blt X.mg) (ha:PA X [e,f] t) (hg:Gl X "isinstance":=by rfl) (he:starEach [e,f] X.env=(false,eval e X.env)::starEach [f] X.env:=by rfl) (hpl:(backTo pos (starEach [f] X.env)).any (·.1)=false:=by rfl) (hK:X.K=K:=by rfl):PE X (.Call (.Name "isinstance" p) [e,f] [] pos) (tCB (yL K c) t) :=
 hK ▸ eS (vJ c) hg B.isinstance boot_isinstance ha (by decide) (by decide) he hpl
theorem qU (B:Blt X.mg) (hg:Gl X "str":=by rfl):PE X (.Name "str" p) (tC (.ty "str")):=pV hg B.str PyProof.Rows.boot_str rfl
end
end L2
namespace L2
open PySem PySem.Spec PyProof.Rows PySem.Builtin PySem.Builtin.Str
theorem dC (x y:Str):(x++y).length=x.length+y.length:=by
 show (x.cps++y.cps).size=x.cps.size+y.cps.size
 rw[Array.size_append]
theorem zo {ys:List Str}{n:Nat}(h:∀y∈ys,y.length<=n):(ys.map (·.length)).sum<=ys.length * n:=by
 induction ys with
 | nil=>simp
 | cons y r ih =>
  have h1:=h y (by simp)
  have h2:=ih fun z hz=>h z (AF _ hz)
  simp only[AD,List.sum_cons,Aw]
  rw[Nat.succ_mul]
  omega
theorem zN {α:Type}{xs:List α}{j:Int}(h0:0<=j) (h1:j<xs.length):∃v,atI xs j=some v/\v∈xs:=by
 obtain⟨k,rfl⟩:=AX h0
 have hk:k<xs.length:=by omega
 exact⟨xs[k],bJ (by simp[hk]),BL hk⟩
theorem zA {ns:List Int}{j:Int}(h0:0<=j) (h1:j<(ns.map V.int).length):∃c,atI (ns.map V.int) j=some (.int c):=by
 obtain⟨v,e,m⟩:=zN h0 h1
 obtain⟨c,_,rfl⟩:=Ag.mp m
 exact⟨c,e⟩
theorem lE (x:Int):-(2 ^ 64)<x % 2147483647/\x % 2147483647<2 ^ 64:=by
 have h1:=Bc x (show (2147483647:Int)≠0 by decide)
 have h2:=Bx x (show (0:Int)<2147483647 by decide)
 omega
theorem But.at (b:But p H H') (hD:H D=none):But p H (L2.upd H' D o):=fun c o' n h=>by rw[af (ah h hD)];exact b c o' n h
theorem But.free (b:But p H H') (n:D≠p) (h:H' D=none):H D=none:=by
 cases e:H D with
 | none=>rfl
 | some o=>rw[b D o n e] at h;cases h
end L2
namespace L2
open PySem PySem.Spec PyProof.Rows
section
variable {X:Cx}
inductive InR (K:W.Frag) (neg:Bool) (H:Hp):V -> V -> VK -> Prop
 | dic {a:Addr} {y:V} {o:Option V} {Q:VK}:DGet H a y o->Q (.bl (if neg then !o.isSome else o.isSome)) H->InR K neg H y (.ref a) Q
 | seq {p:Addr} {x:V} {xs:List V} {Q:VK}:(SqL K H p xs∨SqT K H p xs)->cX x=true->xs.all cX=true->Q (.bl (if neg then !inV x xs else inV x xs)) H->InR K neg H x (.ref p) Q
 | tr {p:Addr} {x:V} {xs:List V} {ds:List PyData} {d:PyData} {Q:VK}:H p=some (.lst xs)->RepAll H xs ds->Rep H x d->PyData.canLayAll0 ds=true->d.canLay0=true->d.depth<=16 ->
     Q (.bl (if neg then !(ds.any fun e=>PyData.eqv e d) else ds.any fun e=>PyData.eqv e d)) H->InR K neg H x (.ref p) Q
theorem bL (K:W.Frag) (hu:X.A.units+64<cLine) (hK:X.K=K:=by rfl):OpR X (compareOp .In) (fun x y H Q=>InR K false H x y Q):=by
 subst hK
 intro pins s σ H x y v u Q I rx ry h
 cases h with
 | dic g q =>
  cases ry
  exact d_in (by omega) I g rx fun s' I'=>⟨.bl _,H,I',rfl,q⟩
 | seq hq fx fs q=>exact ub pins s σ H _ _ v u Q I rx ry ⟨_,_,rfl,hq,fx,fs,q⟩
 | tr e rs r cs c dp q=>exact ym hu pins s σ H _ _ v u Q I rx ry ⟨_,_,_,_,rfl,e,rs,r,cs,c,dp,q⟩
theorem cK (K:W.Frag) (hu:X.A.units+64<cLine) (hK:X.K=K:=by rfl):OpR X (compareOp .NotIn) (fun x y H Q=>InR K true H x y Q):=by
 subst hK
 intro pins s σ H x y v u Q I rx ry h
 cases h with
 | dic g q =>
  cases ry
  exact xc (by omega) I g rx fun s' I'=>⟨.bl _,H,I',rfl,q⟩
 | seq hq fx fs q=>exact no pins s σ H _ _ v u Q I rx ry ⟨_,_,rfl,hq,fx,fs,q⟩
 | tr e rs r cs c dp q=>exact sx hu pins s σ H _ _ v u Q I rx ry ⟨_,_,_,_,rfl,e,rs,r,cs,c,dp,q⟩
inductive IxX (K:W.Frag) (H:Hp):V->V->VK->Prop
 | lst {p:Addr} {xs:List V} {i:Int} {v:V} {Q:VK}:SqL K H p xs->atI xs i=some v->Q v H->IxX K H (.ref p) (.int i) Q
 | tup {p:Addr} {xs:List V} {i:Int} {v:V} {Q:VK}:SqT K H p xs->atI xs i=some v->Q v H->IxX K H (.ref p) (.int i) Q
 | str {z:Str} {i:Int} {c:Nat} {Q:VK}:z.length<=sizeLine->atI z.cps.toList i=some c->Q (.str ⟨#[c]⟩) H->IxX K H (.str z) (.int i) Q
 | dic {a:Addr} {y v:V} {Q:VK}:DGet H a y (some v)->Q v H->IxX K H (.ref a) y Q
theorem ix_X (K:W.Frag) (hu:X.A.units+64<cLine) (hK:X.K=K:=by rfl):IxR X (fun x y H Q=>IxX K H x y Q):=by
 subst hK
 intro value slice pins s σ H x y v u Q I rx ry h hs
 cases h with
 | lst hq e q=>exact xg value slice pins s σ H _ _ v u Q I rx ry ⟨_,_,_,_,rfl,rfl,hq,e,q⟩ hs
 | tup hq e q=>exact zn value slice pins s σ H _ _ v u Q I rx ry ⟨_,_,_,_,rfl,rfl,hq,e,q⟩ hs
 | str hz e q=>exact yq value slice pins s σ H _ _ v u Q I rx ry ⟨_,_,_,rfl,rfl,hz,e,q⟩ hs
 | dic g q =>
  cases rx
  exact tail_any (pE I g) PySem.F.slot_dict_getitem.lookup (tR (by omega) I g ry fun w' s3 I3 rw'=>⟨_,H,I3,rw',q⟩) hs
inductive SetX (H:Hp):V->V->V->(Hp->Prop)->Prop
 | lst {p:Addr} {xs:List V} {k:Int} {j:Nat} {v:V} {Q:Hp->Prop}:H p=some (.lst xs)->ixN xs.length k=some j->Q (upd H p (.lst (xs.set j v)))->SetX H (.ref p) (.int k) v Q
 | dic {a:Addr} {y v:V} {H':Hp} {Q:Hp->Prop}:DPut H a y v H'->Q H'->SetX H (.ref a) y v Q
theorem du (hu:X.A.units+64<cLine):uW X (fun o i v H Q=>SetX H o i v Q):=by
 intro pins s σ H o i v ov iv u Q I ro ri rv h
 cases h with
 | lst e ej q=>exact u6 pins s σ H _ _ _ ov iv u Q I ro ri rv ⟨_,_,_,_,rfl,rfl,e,ej,q⟩
 | dic g q =>
  cases ro
  exact tL (by omega) I g ri rv fun s4 I4=>⟨_,I4,q⟩
theorem bI (K:W.Frag) (hc:X.calm=true) (h:PGs X es t)
    (hn:(assignEach es X.env).length=n:=by rfl) (hst:(assignEach es X.env).findIdx? (·.1)=none:=by rfl) (hK:X.K=K:=by rfl):PG X (.Tuple es k pos) (wa K n t):=hK ▸ yz hc h hn hst
variable {p pos p2 pos2:Pos}{e f:Expr}{t:TA}
def qJ (K:W.Frag):List V->Hp->VK->Prop:=fun xs H Q=>∃a ns,xs=[.ref a]/\SqL K H a (List.map V.int ns)/\ns.length<64/\∀l ns',H l=none->ns'.Perm ns->ns'.Pairwise (·<=·)->Q (.ref l) (upd H l (.lst (List.map V.int ns')))
theorem pA:eK X (.builtin "sorted") (qJ X.K):=by
 intro pins s σ H xs us Q I r h
 obtain⟨a,ns,rfl,hq,hl,q⟩:=h
 obtain⟨u,rfl,ru⟩:=cU r
 cases ru
 obtain⟨its,rv,pl,hz⟩:=I.list hq
 have hi:=rY rv
 have hlen:its.length=ns.length:=by have:=rv.length;rw[z0] at this;exact this.symm
 refine sorted_ints pl.isList hi (by omega) fun out ns' a1 a2 a3=>?_
 obtain⟨e,he⟩:=sortedAll_at s.heap its out
 have hz':(List.map V.int ns').length<=sizeLine:=by
  rw[z0,a2.length_eq]
  exact AW (aj (by omega))
 have I1:=I.laid (a:=s.heap.objs.size+1) (o:=.lst (List.map V.int ns')) (t':=s.toks) (h':=sortedAll s.heap its out) (fun b o e=>sortedAll_old e) (Bb _) ⟨hz',out.toList,_,iD a1,by simpa [seqObj] using he⟩
 exact⟨.ref _,_,I1,rfl,q _ _ (I.hok.fresh (Bb _)) a2 a3⟩
end
section
variable {X:Cx}{p pos p2 pos2:Pos}{e f:Expr}{t:TA}
theorem wb (K:W.Frag) (hm:X.mg "sorted"=none) (ha:PA X [e] t) (hg:Gl X "sorted":=by rfl) (he:starEach [e] X.env=(false,eval e X.env)::starEach [] X.env:=by rfl) (hpl:(backTo pos (starEach [] X.env)).any (·.1)=false:=by rfl) (hK:X.K=K:=by rfl) :
    PE X (.Call (.Name "sorted" p) [e] [] pos) (tCB (qJ K) t):=hK ▸ eS pA hg hm (show bootBuiltins "sorted"=some (.builtin "sorted") by decide +kernel) ha (by decide) (by decide) he hpl
def ww (K:W.Frag):List V->Hp->VK->Prop:=fun xs H Q=>∃a ys,xs=[.ref a]/\SqL K H a ys/\∀l,H l=none->Q (.ref l) (upd H l (.tup ys))
theorem cm (K:W.Frag) (B:Blt X.mg) (ha:PA X [e] t) (hg:Gl X "tuple":=by rfl) (he:starEach [e] X.env=(false,eval e X.env)::starEach [] X.env:=by rfl) (hpl:(backTo pos (starEach [] X.env)).any (·.1)=false:=by rfl) (hK:X.K=K:=by rfl) :
    PE X (.Call (.Name "tuple" p) [e] [] pos) (tCB (ww K) t):=by
 subst hK
 refine fk (r:=ww X.K) (fun pins s σ H xs us Q I r h=>?_) hg B.tuple (show bootBuiltins "tuple"=some (.type "tuple") by decide +kernel) ha (by decide) (by decide) he hpl
 obtain⟨a,ys,rfl,hq,q⟩:=h
 exact mL pins s σ H _ us Q I r ⟨a,ys,rfl,.inl ⟨hq,q⟩⟩
inductive LstR (K:W.Frag) (H:Hp):V->VK->Prop
 | seq {a:Addr} {ys:List V} {Q:VK}:(SqL K H a ys∨SqT K H a ys)->(∀l,H l=none->Q (.ref l) (upd H l (.lst ys)))->LstR K H (.ref a) Q
 | rng {a:Addr} {n:Nat} {Q:VK}:H a=some (.rng 0 (n:Int))->n<=1000->(∀l,H l=none->Q (.ref l) (upd H l (.lst (eU n))))->LstR K H (.ref a) Q
def yd (K:W.Frag):List V->Hp->VK->Prop:=fun xs H Q=>∃x,xs=[x]/\LstR K H x Q
theorem u9 (hl:its.length=n) (h:∀i v, its[i]? = some v -> ∃t, v=Value.int (0+(i:Nat) * 1) t):Vals (eU n) its := by
 subst hl
 have key:∀(its:List Value) (k:Nat), (∀i v, its[i]? = some v -> ∃t, v=Value.int (0+((k+i:Nat):Int)) t) -> Vals ((List.range' k its.length).map fun i => V.int (0+(i:Nat))) its := by
  intro its
  induction its with
  | nil=>intro k _;exact .nil
  | cons u r ih =>
   intro k h
   rw[Aw,List.range'_succ,AD]
   refine .cons ?_ (ih (k+1) fun i v e=>?_)
   ·obtain⟨t,e⟩:=h 0 u rfl
    exact⟨t,by rw[e,Nat.add_zero]⟩
   ·obtain⟨t,e'⟩:=h (i+1) v (by simpa using e)
    exact⟨t,by rw[e',show ((k+(i+1):Nat):Int)=((k+1+i:Nat):Int) by omega]⟩
 have:=key its 0 fun i v e=>by
  obtain⟨t,e'⟩:=h i v e
  exact⟨t,by rw[e',Int.mul_one,Nat.zero_add]⟩
 rw[eU,List.range_eq_range']
 exact this
theorem iK (K:W.Frag) (hc:X.calm=true) (B:Blt X.mg) (ha:PA X [e] t) (hg:Gl X "list":=by rfl) (he:starEach [e] X.env=(false,eval e X.env)::starEach [] X.env:=by rfl) (hpl:(backTo pos (starEach [] X.env)).any (·.1)=false:=by rfl) (hK:X.K=K:=by rfl) :
    PE X (.Call (.Name "list" p) [e] [] pos) (tCB (yd K) t):=by
 subst hK
 refine fk (r:=yd X.K) (fun pins s σ H xs us Q I r h=>?_) hg B.list (show bootBuiltins "list"=some (.type "list") by decide +kernel) ha (by decide) (by decide) he hpl
 obtain⟨x,rfl,h⟩:=h
 cases h with
 | seq hq q=>exact nC pins s σ H _ us Q I r ⟨_,_,rfl,hq,q⟩
 | @rng a n _ ea hn q =>
  obtain⟨u,rfl,ru⟩:=cU r
  cases ru
  obtain⟨t1,t2,t3,eh⟩:=(show ObjOk X.prog X.w H s.heap a (.rng 0 (n:Int)) from I.hok a _ ea)
  refine call_list_range (n:=n) (I.ok.hd hc) eh (small_one (by decide) (by decide) (by omega) (by omega)) (by rw[rangeSize_one];split <;> omega) (by omega) fun h' tk acc' c' hk hl hi=>?_
  have hv:Vals (eU n) acc'.toList:=u9 (by simpa using hi.1) fun i v e=>hi.2 i v (by simpa using e)
  refine⟨.ref _,_,I.laid (o:=.lst (eU n)) hk (Aa _) ⟨?_,acc'.toList,c',hv,by simpa using hl⟩,rfl,q _ (I.hok.fresh (Aa _))⟩
  have:(eU n).length=n:=by simp[eU]
  rw[this]
  exact AW (aj hn)
theorem wF (hc:X.calm=true) (B:Blt X.mg) (ha:PA X [e,f] t) (hg:Gl X "min":=by rfl) (he:starEach [e,f] X.env=(false,eval e X.env)::starEach [f] X.env:=by rfl) (hpl:(backTo pos (starEach [f] X.env)).any (·.1)=false:=by rfl) :
    PE X (.Call (.Name "min" p) [e,f] [] pos) (tCB (fun xs H Q=>∃i j,xs=[.int i,.int j]/\Q (.int (if j<i then j else i)) H) t) :=
 eS (sT hc) hg B.min (show bootBuiltins "min"=some (.builtin "min") by decide +kernel) ha (by decide) (by decide) he hpl
theorem yR {its:List Value}{k:Nat}{x:Int}(hx:x=(k:Int)) (hk:k<=its.length) :
    (fun xs:Array Value=>have k:=if x<0 then (x+(xs.size:Int)).toNat else min x.toNat xs.size;(xs.extract 0 k).push u++xs.extract k) its.toArray=(its.take k++u::its.drop k).toArray:=by
 subst hx
 simp only[Au]
 rw[if_neg (by omega),Bs,Nat.min_eq_left hk]
 simp[List.extract_eq_drop_take]
 exact Ak (by rw[AY];omega)
def pF:V->List V->Hp->VK->Prop:=fun x vs H Q=>∃l xs i k y,x=.ref l/\vs=[.int i,y]/\i=((k:Nat):Int)/\H l=some (.lst xs)/\k<=xs.length/\xs.length<sizeLine/\Q .non (upd H l (.lst (xs.take k++y::xs.drop k)))
theorem tX:MtR X "list.insert" pF:=by
 intro pins s σ H x vs v us Q I rx rv h
 obtain⟨l,xs,i,k,y,rfl,rfl,hi,hH,hk,hz,q⟩:=h
 cases rx
 obtain⟨u1,u2,rfl,r1,r2⟩:=fH rv
 obtain⟨t,rfl⟩:=r1
 obtain⟨z,its,n,r,hl,e⟩:=I.lstM hH
 have hs:its.length<=sizeLine:=by omega
 have hfit:Builtin.List.listFitsIndex i=true:=by
  have h1:i<2 ^ 63:=by have:=gF;omega
  exact fitsIndex_both (by omega) h1
 have ME:=PySem.AutoSeq1.list_insert_list_int_val_1 l its.toArray n i t u2 (by simp[hfit]) (by rw[Au];exact hs)
 refine call_meets F.slot_list_insert ⟨_,e,rfl⟩ F.entry_list_insert (F.args_list_insert_3 _ _ _) ME ⟨e,?_⟩
 refine⟨.non,_,I.lset (its':=its.take k++u2::its.drop k) hH e (yR hi (by omega)) (Vals.append (r.take k) (.cons r2 (r.drop k))) ?_,rfl,q⟩
 simp only[Aq,Aw,As,AY]
 omega
theorem ig (K:W.Frag) (ho:PE X o to) (ha:PA X [e, f] t)
    (hbase:attributeBase o "insert" X.env (eval o X.env)=eval o X.env:=by rfl)
    (hfew:((backTo cpos (starEach [e,f] X.env)).all (fun x=>!x.1)&&(backToKw cpos (keywordEach [] X.env)).all (fun x=>x.1.isSome)
     && decide ([e,f].length+([]:List Keyword).length+(if ([]:List Keyword).isEmpty then 0 else 1)<30))=true:=by rfl)
    (hline:(apos.endLine==cpos.line)=true:=by rfl) (hs:starEach [e,f] X.env=(false,eval e X.env)::starEach [f] X.env:=by rfl) (hplain:(backTo cpos (starEach [f] X.env)).any (·.1)=false:=by rfl) (hK:X.K=K:=by rfl) :
    PE X (.Call (.Attribute o "insert" apos) [e,f] [] cpos) (tBM K "list" pF to t):=hK ▸ jU PySem.F.plainAttrs_list PySem.F.slot_list_insert PySem.F.type_list_insert tX ho ha hbase hfew hline hs hplain
end
def Nm (s:Str):Prop:=1<=s.length/\s.length<=8/\∀c∈s.cps.toList,97<=c/\c<=122
def aE (e:Str × Str):PyData:=.tuple [.str e.1,.str e.2]
def yx (ss:List Str) (ts:List (Str × Str)):PyData:=.tuple [.tuple (ss.map .str),.tuple (ts.map aE)]
section
variable {H H':Hp}
theorem Rep.tupI (h:Rep H v (.tuple ds)):∃a xs,v=.ref a/\H a=some (.tup xs)/\RepAll H xs ds:=by
 cases h with
 | tup e r=>exact⟨_,_,rfl,e,r⟩
theorem Rep.strI (h:Rep H v (.str s)):v=.str s:=by cases h;rfl
theorem RepAll.nilI (h:RepAll H xs []):xs=[]:=by cases h;rfl
theorem RepAll.consI (h:RepAll H xs (d::ds)):∃y ys,xs=y::ys/\Rep H y d/\RepAll H ys ds:=by
 cases h with
 | cons a b=>exact⟨_,_,rfl,a,b⟩
theorem RepAll.strs:∀ {xs:List V}{ss:List Str},RepAll H xs (ss.map PyData.str)->xs=ss.map V.str
 | _,[],h=>by rw[h.nilI];rfl
 | _,s::ss,h=>by
  obtain⟨y,ys,rfl,a,b⟩:=RepAll.consI h
  rw[a.strI,RepAll.strs b];rfl
theorem RepAll.of_strs:∀(ss:List Str),RepAll H (ss.map V.str) (ss.map PyData.str)
 | []=>.nil
 | s::ss=>.cons (.str s) (RepAll.of_strs ss)
theorem RepAll.len (h:RepAll H xs ds):xs.length=ds.length:=by
 induction ds generalizing xs with
 | nil=>rw[h.nilI];rfl
 | cons d ds ih =>
  obtain⟨y,ys,rfl,a,b⟩:=h.consI
  simp[ih b]
theorem RepAll.get {xs:List V}{ds:List PyData}(h:RepAll H xs ds) {i:Nat}(e:xs[i]? = some x):∃d,ds[i]? = some d/\Rep H x d:=by
 induction ds generalizing xs i with
 | nil=>rw[h.nilI] at e;simp at e
 | cons d ds ih =>
  obtain⟨y,ys,rfl,a,b⟩:=h.consI
  cases i with
  | zero=>simp at e;subst e;exact⟨d,rfl,a⟩
  | succ i=>simpa using ih b (by simpa using e)
theorem RepAll.append (h:RepAll H xs ds) (g:RepAll H ys es):RepAll H (xs++ys) (ds++es):=by
 induction ds generalizing xs with
 | nil=>rw[h.nilI];exact g
 | cons d ds ih =>
  obtain⟨y,zs,rfl,a,b⟩:=h.consI
  exact .cons a (ih b)
theorem fJ (h:Rep H v (aE e)):∃a,v=.ref a/\H a=some (.tup [.str e.1,.str e.2]):=by
 obtain⟨a,xs,rfl,ha,r⟩:=Rep.tupI h
 obtain⟨y,ys,rfl,r1,r⟩:=r.consI
 obtain⟨z,zs,rfl,r2,r⟩:=r.consI
 have e1:=RepAll.nilI r
 subst e1
 rw[r1.strI,r2.strI] at ha
 exact⟨a,rfl,ha⟩
theorem aM (h:H a=some (.tup [.str s,.str t])):Rep H (.ref a) (aE (s,t)):=.tup h (.cons (.str _) (.cons (.str _) .nil))
theorem gN (h:Rep H v (yx ss ts)):∃q a b xs,v=.ref q/\H q=some (.tup [.ref a,.ref b])/\H a=some (.tup (ss.map V.str))/\H b=some (.tup xs)/\RepAll H xs (ts.map aE):=by
 obtain⟨q,ws,rfl,hq,r0⟩:=Rep.tupI h
 obtain⟨y,ys,rfl,r1,r3⟩:=r0.consI
 obtain⟨z,zs,rfl,r2,r4⟩:=r3.consI
 obtain⟨a,xa,rfl,ha,ra⟩:=Rep.tupI r1
 obtain⟨b,xb,rfl,hb,rb⟩:=Rep.tupI r2
 have e1:=RepAll.nilI r4
 subst e1
 have e2:=RepAll.strs ra
 subst e2
 exact⟨q,a,b,xb,rfl,hq,ha,hb,rb⟩
end
end L2
namespace MG
variable {α:Type}
def Walk (R:α->α->Prop):Nat->α->α->Prop
 | 0,x,y=>x=y
 | n+1,x,y=>∃z,Walk R n x z/\R z y
def Rch (R:α->α->Prop) (x y:α):Prop:=∃n,Walk R n x y
def Dst (R:α->α->Prop) (x:α) (d:Nat) (y:α):Prop:=Walk R d x y/\∀k,k<d->¬ Walk R k x y
variable {R:α->α->Prop}{x:α}
theorem Dst.uniq (a:Dst R x d y) (b:Dst R x e y):d=e:=by
 rcases Nat.lt_trichotomy d e with h | h | h
 ·exact absurd a.1 (b.2 d h)
 ·exact h
 ·exact absurd b.1 (a.2 e h)
theorem Rch.dst (h:Rch R x y):∃d, Dst R x d y := by
 obtain⟨n,h⟩:=h
 induction n using Nat.strongRecOn generalizing y with
 | _ n ih =>
  by_cases e:∃k,k<n/\Walk R k x y
  ·obtain⟨k,hk,w⟩:=e
   exact ih k hk w
  ·exact⟨n,h,fun k hk w=>e ⟨k,hk,w⟩⟩
theorem Dst.rch (h:Dst R x d y):Rch R x y:=⟨d,h.1⟩
theorem Dst.pred (h:Dst R x (d+1) y):∃z,Dst R x d z/\R z y:=by
 obtain⟨⟨z,w,r⟩,m⟩:=h
 exact⟨z,⟨w,fun k hk w'=>m (k+1) (by omega) ⟨z,w',r⟩⟩,r⟩
theorem Dst.zero:Dst R x 0 x:=⟨rfl,fun k hk=>by omega⟩
theorem Dst.of_zero (h:Dst R x 0 y):y=x:=h.1.symm
theorem Dst.below (h:Dst R x d y):∀e, e <= d -> ∃z, Dst R x e z := by
 induction d generalizing y with
 | zero => intro e he; have:e=0 := by omega
           subst this;exact⟨y,h⟩
 | succ d ih =>
  intro e he
  by_cases q:e=d+1
  ·subst q;exact⟨y,h⟩
  ·obtain⟨z,hz,_⟩:=h.pred
   exact ih hz e (by omega)
theorem Rch.refl:Rch R x x:=⟨0,rfl⟩
theorem Rch.step (h:Rch R x y) (r:R y z):Rch R x z:=by
 obtain⟨n,w⟩:=h
 exact⟨n+1,y,w,r⟩
theorem Rch.closed {S:α -> Prop}(h0:S x) (hs:∀y z, S y -> R y z -> S z) {y:α}(h:Rch R x y):S y := by
 obtain⟨n,w⟩:=h
 induction n generalizing y with
 | zero => have:x=y := w
           subst this;exact h0
 | succ n ih =>
  obtain⟨z,w,r⟩:=w
  exact hs z y (ih w) r
structure Lev (R:α->α->Prop) (x:α) (L:Nat) (look:α->Option Nat) (edge:List α):Prop where
 snd:∀y k,look y=some k->Dst R x k y/\k<=L
 cmp:∀y k,k<=L->Dst R x k y->look y=some k
 edg:∀y,y∈edge ↔ Dst R x L y
structure Mid (R:α->α->Prop) (x:α) (L:Nat) (look:α->Option Nat) (further:List α) (done:α->α->Prop):Prop where
 snd:∀y k,look y=some k->(Dst R x k y/\k<=L)∨(k=L+1/\y∈further)
 cmp:∀y k,k<=L->Dst R x k y->look y=some k
 fur:∀y,y∈further->Dst R x (L+1) y/\look y=some (L+1)
 dn:∀z y,done z y->(look y).isSome=true
theorem Lev.start [DecidableEq α] (h:∀y,look y=if y=x then some 0 else none):Lev R x 0 look [x]:=by
 refine⟨fun y k e=>?_,fun y k hk d=>?_,fun y=>?_⟩
 ·rw[h] at e
  split at e
  ·rename_i q;subst q;cases e;exact⟨Dst.zero,Aa _⟩
  ·cases e
 ·have:k=0:=by omega
  subst this
  rw[h,if_pos d.of_zero]
 ·rw[Av]
  exact⟨fun e=>e ▸ Dst.zero,fun d=>d.of_zero⟩
theorem Lev.mid (h:Lev R x L look edge):Mid R x L look [] (fun _ _=>False) :=
 ⟨fun y k e=>.inl (h.snd y k e),h.cmp,fun y hy=>(nomatch hy),fun _ _ f=>f.elim⟩
theorem Mid.skip (h:Mid R x L look further done) (e:(look y).isSome=true):Mid R x L look further (fun a b=>done a b∨(a=z/\b=y)) :=
 ⟨h.snd,h.cmp,h.fur,fun a b d=>by
  rcases d with d | ⟨_,q⟩
  ·exact h.dn a b d
  ·rw[q];exact e⟩
theorem Mid.add (h:Mid R x L look further done) (hz:Dst R x L z) (r:R z y) (e:look y=none)
    [DecidableEq α] (hl:∀a,look' a=if a=y then some (L+1) else look a):Mid R x L look' (further++[y]) (fun a b=>done a b∨(a=z/\b=y)):=by
 have dy:Dst R x (L+1) y:=by
  refine⟨⟨z,hz.1,r⟩,fun k hk w=>?_⟩
  obtain⟨d,dd⟩:=Rch.dst ⟨k,w⟩
  have hd:d<=k:=Bw fun q=>dd.2 k q w
  rw[h.cmp y d (by omega) dd] at e
  cases e
 refine⟨fun a k q=>?_,fun a k hk d=>?_,fun a ha=>?_,fun a b d=>?_⟩
 ·rw[hl] at q
  split at q
  ·rename_i ea;cases q;subst ea;exact .inr ⟨rfl,by simp⟩
  ·rcases h.snd a k q with q' | ⟨q1,q2⟩
   ·exact .inl q'
   ·exact .inr ⟨q1,by simp[q2]⟩
 ·rw[hl]
  split
  ·rename_i ea;subst ea;have:=d.uniq dy;omega
  ·exact h.cmp a k hk d
 ·rcases Aj.mp ha with q | q
  ·refine⟨(h.fur a q).1,?_⟩
   rw[hl]
   split
   ·rfl
   ·exact(h.fur a q).2
  ·have:a=y:=by simpa using q
   subst this
   exact⟨dy,by rw[hl,if_pos rfl]⟩
 ·rw[hl]
  split
  ·rfl
  ·rename_i nb
   rcases d with d | ⟨_,q⟩
   ·exact h.dn a b d
   ·exact absurd q nb
theorem Mid.wk (h:Mid R x L look further done) (w:∀a b,done' a b->done a b):Mid R x L look further done' :=
 ⟨h.snd,h.cmp,h.fur,fun a b d=>h.dn a b (w a b d)⟩
theorem Mid.next {L:Nat}{look:α->Option Nat}{further edge:List α}{done:α->α->Prop}(h:Mid R x L look further done) (he:∀y,y∈edge ↔ Dst R x L y) (hd:∀z y,z∈edge->R z y->done z y):Lev R x (L+1) look further:=by
 have key:∀y,Dst R x (L+1) y->y∈further/\look y=some (L+1):=fun y d=>by
  obtain⟨z,dz,r⟩:=d.pred
  have s:=h.dn z y (hd z y ((he z).mpr dz) r)
  obtain⟨k,e⟩:=Bh.mp s
  rcases h.snd y k e with⟨q,hk⟩ | ⟨q1,q2⟩
  ·have:=q.uniq d;omega
  ·subst q1;exact⟨q2,e⟩
 refine⟨fun y k e=>?_,fun y k hk d=>?_,fun y=>⟨fun q=>(h.fur y q).1,fun d=>(key y d).1⟩⟩
 ·rcases h.snd y k e with⟨q,hk⟩ | ⟨q1,q2⟩
  ·exact⟨q,by omega⟩
  ·subst q1;exact⟨(h.fur y q2).1,Aa _⟩
 ·by_cases q:k=L+1
  ·subst q;exact(key y d).2
  ·exact h.cmp y k (by omega) d
theorem Lev.done (h:Lev R x L look []):∀y k,look y=some k ↔ Dst R x k y:=fun y k=>by
 refine⟨fun e=>(h.snd y k e).1,fun d=>?_⟩
 by_cases q:k<=L
 ·exact h.cmp y k q d
 ·obtain⟨z,hz⟩:=d.below L (by omega)
  exact(nomatch (h.edg z).mpr hz)
end MG
namespace MG
variable {α:Type}{R:α->α->Prop}{x:α}
theorem Dst.lt {ss:List α}(hin:∀y, Rch R x y -> y ∈ ss) {L:Nat}{y:α}(d:Dst R x L y):L<ss.length := by
 have key:∀n, n <= L+1 -> ∃zs:List α, zs.length=n /\ zs.Nodup /\ ∀z ∈ zs, ∃e, e<n /\ Dst R x e z := by
  intro n
  induction n with
  | zero=>intro _;exact⟨[],rfl,Bv,fun z hz=>by cases hz⟩
  | succ n ih =>
   intro hn
   obtain⟨zs,hl,hnd,hz⟩:=ih (by omega)
   obtain⟨z,dz⟩:=d.below n (by omega)
   refine⟨z::zs,by simp[hl],AL.mpr ⟨fun hm=>?_,hnd⟩,fun w hw=>?_⟩
   ·obtain⟨e,he,de⟩:=hz z hm
    have:=de.uniq dz
    omega
   ·rcases AA.mp hw with rfl | hw
    ·exact⟨n,by omega,dz⟩
    ·obtain⟨e,he,de⟩:=hz w hw
     exact⟨e,by omega,de⟩
 obtain⟨zs,hl,hnd,hz⟩:=key (L+1) (Aa _)
 have:=hnd.length_le_of_subset (l₂:=ss) fun z hm=>by
  obtain⟨e,_,de⟩:=hz z hm
  exact hin z de.rch
 omega
theorem Rch.map (f:α->β) (h:∀a b,R a b->S (f a) (f b)) (r:Rch R x y):Rch S (f x) (f y):=by
 obtain⟨n,w⟩:=r
 refine⟨n,?_⟩
 induction n generalizing y with
 | zero =>
  have w:x=y:=w
  subst w
  exact rfl
 | succ n ih =>
  obtain⟨z,w,r⟩:=w
  exact⟨f z,ih w,h z y r⟩
theorem Rch.back (f:α->β) (h:∀a c,S (f a) c->∃b,c=f b/\R a b) (r:Rch S (f x) c):∃y,c=f y/\Rch R x y:=by
 refine Rch.closed (S:=fun c=>∃y,c=f y/\Rch R x y) ⟨x,rfl,Rch.refl⟩ (fun y z hy r=>?_) r
 obtain⟨a,rfl,ra⟩:=hy
 obtain⟨b,rfl,rb⟩:=h a z r
 exact⟨b,rfl,ra.step rb⟩
end MG
namespace L2
open PySem PySem.Spec PyProof.Rows
def tS (ss:List Str):PyData:=.list (ss.map .str)
theorem lN (h:H a=some (.lst (ss.map V.str))):Rep H (.ref a) (tS ss):=.lst h (RepAll.of_strs ss)
theorem cz (h:Nm s):PyData.canLay0 (.str s)=true:=by
 show (s.cps.all (·<0x110000))=true
 rw[<- Array.all_toList,Bj]
 intro c hc
 have:=h.2.2 c hc
 exact Ai (by omega)
theorem gv:∀ss:List Str,(∀s∈ss,Nm s)->PyData.canLayAll0 (ss.map PyData.str)=true
 | [],_=>rfl
 | s::ss,h=>by
  show (PyData.canLay0 (.str s)&&PyData.canLayAll0 (ss.map PyData.str))=true
  rw[gv ss fun x hx=>h x (AF _ hx),cz (h s (by simp))]
  rfl
theorem fB:∀ss:List Str,PyData.depthAll (ss.map PyData.str)=0
 | []=>rfl
 | s::ss=>by
  show max (PyData.depth (.str s)) (PyData.depthAll (ss.map PyData.str))=0
  rw[fB ss];rfl
theorem lH (h:∀s∈ss,Nm s):shp (tS ss):=by
 show (PyData.canLayAll0 (ss.map PyData.str)&&decide (PyData.depthAll (ss.map PyData.str)+1<=64))=true
 rw[gv ss h,fB];rfl
theorem pQ (h:shp d):PyData.eqv d d=true:=SeqAt.eqv_refl d (SeqAt.canLay_of_shaped h)
theorem oM {K:W.Frag}{a:Addr}{xs:List V}{g:TG}{tb:TS}{D:Ends}{σ:St}{H:Hp}(Pv:Nat -> St -> Hp -> Prop) (h0:Pv 0 σ H) (hl:∀i σ H, i <= xs.length -> Pv i σ H -> SqL K H a xs)
    (hs:∀i x σ H p,xs[i]? = some x->Pv i σ H->H p=none->g (.ref p) σ (upd H p (.tup [.int i,x])) fun σ2 H2=>tb { D with nx:=Pv (i+1),ct:=Pv (i+1),bk:=D.nx } σ2 H2) (hd:∀σ H,Pv xs.length σ H->D.nx σ H) :
    ∃W:Nat->Nat->St->Hp->Prop,(∃m,W 0 m σ H)/\∀i m σ H,W i m σ H ->
     ((Ite K a).stop i H/\D.nx σ H)∨((Ite K a).go i H/\∃N:St->Hp->Prop,(∀σ' H',N σ' H'->∃m',m'<m/\W (i+1) m' σ' H')/\∀x H',(Ite K a).yld i H x H'->g x σ H' fun σ2 H2=>tb { D with nx:=N,ct:=N,bk:=D.nx } σ2 H2):=by
 refine⟨fun i m σ H=>m=xs.length-i/\i<=xs.length/\Pv i σ H,⟨xs.length,by simp,AC _,h0⟩,?_⟩
 rintro i m σ H ⟨rfl,hi,p⟩
 have q:=hl i σ H hi p
 by_cases hlt:i<xs.length
 ·refine .inr ⟨⟨xs,xs[i],q,by simp[hlt]⟩,Pv (i+1),fun σ' H' p'=>⟨xs.length-(i+1),by omega,rfl,hlt,p'⟩,fun x H' y=>?_⟩
  obtain⟨r,z,hr,rfl,hz,rfl⟩:=y
  exact hs i z σ H r (hz xs q) p hr
 ·have e:i=xs.length:=by omega
  subst e
  exact .inl ⟨⟨xs,q,Aa _⟩,hd σ H p⟩
def fO:Sp:=fun vs H Q _=>∃a xs,vs=[.ref a]/\H a=some (.lst (List.map V.str xs))/\xs.length<=1000 /\
 ∀d kvs H',Same H H'->H d=none->H' d=some (.dK kvs)->(∀s,(aw kvs (.inr s)).isSome=true ↔ s∈xs)->(∀s v,aw kvs (.inr s)=some v->∃j:Nat,v=.int j/\xs[j]? = some s)->Q (.ref d) H'
structure Web (H:Hp) (v:V) (ss:List Str) (ts:List (Str × Str)):Prop where
 rep:Rep H v (yx ss ts)
 nd:ss.Nodup
 nm:∀s∈ss,Nm s
 len:ss.length<=60
 few:ts.length<=401
 inn:∀e∈ts,e.1∈ss/\e.2∈ss
theorem Web.same (h:Web H v ss ts) (s:Same H H'):Web H' v ss ts:=⟨h.rep.same s,h.nd,h.nm,h.len,h.few,h.inn⟩
def dS (ss:List Str) (ts:List (Str × Str)) (s:Str):List Str:=ss.filter fun t=>decide ((s,t)∈ts)
def aY (ts:List (Str × Str)):List (Str × Str):=ts.map fun e=>(e.2,e.1)
theorem mem_flip:(a,b)∈aY ts ↔ (b,a)∈ts:=by
 unfold aY
 rw[Ag]
 constructor
 ·rintro⟨⟨x,y⟩,h,e⟩
  cases e;exact h
 ·intro h;exact⟨(b,a),h,rfl⟩
def gA (rev:Bool):Sp:=fun vs H Q _=>∃q ss ts s,vs=[q,.str s]/\Web H q ss ts /\
 ∀l H',Same H H'->H l=none->H' l=some (.lst (List.map V.str (dS ss (if rev then aY ts else ts) s)))->Q (.ref l) H'
def Tab (H:Hp) (d:Addr) (ss:List Str) (f:Str->List Str):Prop:=∃kvs,H d=some (.dK kvs)/\∀s∈ss,∃l,aw kvs (.inr s)=some (.ref l)/\H l=some (.lst (List.map V.str (f s)))
theorem Tab.same (h:Tab H d ss f) (s:Same H H'):Tab H' d ss f:=let ⟨kvs,a,b⟩:=h;⟨kvs,s _ _ a,fun x hx=>let ⟨l,c,e⟩:=b x hx;⟨l,c,s _ _ e⟩⟩
def ei (rev:Bool):Sp:=fun vs H Q _=>∃q ss ts,vs=[q]/\Web H q ss ts /\
 ∀d H',Same H H'->H d=none->Tab H' d ss (dS ss (if rev then aY ts else ts))->Q (.ref d) H'
def Ner (ss:List Str) (f:Str->List Str) (a b:Str):Prop:=a∈ss/\b∈f a
def spSteps:Sp:=fun vs H Q _=>∃d s ss f,vs=[.ref d,.str s]/\Tab H d ss f/\s∈ss/\ss.length<=60/\(∀t∈ss,∀u∈f t,u∈ss) /\
 ∀e kvs H',Same H H'->H e=none->H' e=some (.dK kvs)->(∀t v,aw kvs (.inr t)=some v ↔ ∃k:Nat,v=.int k/\MG.Dst (Ner ss f) s k t)->Q (.ref e) H'
def Tie (ts:List (Str × Str)) (a b:Str):Prop:=(a,b)∈ts
def ga (rev:Bool):Sp:=fun vs H Q _=>∃q ss ts s,vs=[q,.str s]/\Web H q ss ts/\s∈ss /\
 ∀l H' (g:Str->Bool),Same H H'->H l=none->(∀t,g t=true ↔ MG.Rch (Tie (if rev then aY ts else ts)) s t)->H' l=some (.lst (List.map V.str (ss.filter g)))->Q (.ref l) H'
end L2
namespace MG
variable {α:Type}{R:α->α->Prop}{x:α}
theorem Walk.map (f:α->β) (h:∀a b,R a b->S (f a) (f b)) (w:Walk R n x y):Walk S n (f x) (f y):=by
 induction n generalizing y with
 | zero =>
  have w:x=y:=w
  subst w
  exact rfl
 | succ n ih =>
  obtain⟨z,w,r⟩:=w
  exact⟨f z,ih w,h z y r⟩
theorem Walk.back (f:α->β) (h:∀a c,S (f a) c->∃b,c=f b/\R a b) (w:Walk S n (f x) c):∃y,c=f y/\Walk R n x y:=by
 induction n generalizing c with
 | zero =>
  have w:f x=c:=w
  exact⟨x,w.symm,rfl⟩
 | succ n ih =>
  obtain⟨z,w,r⟩:=w
  obtain⟨y,rfl,wy⟩:=ih w
  obtain⟨b,rfl,rb⟩:=h y c r
  exact⟨b,rfl,y,wy,rb⟩
def swp (es:List (Nat × Nat)):List (Nat × Nat):=es.map fun e=>(e.2,e.1)
theorem mem_swp:(a,b)∈swp es ↔ (b,a)∈es:=by
 unfold swp
 rw[Ag]
 constructor
 ·rintro⟨⟨x,y⟩,h,e⟩
  cases e;exact h
 ·intro h;exact⟨(b,a),h,rfl⟩
def Arr (es:List (Nat × Nat)) (a b:Nat):Prop:=(a,b)∈es
def To (es:List (Nat × Nat)) (goal k a:Nat):Prop:=Dst (Arr (swp es)) goal k a
variable {es:List (Nat × Nat)}{goal:Nat}
theorem To.pred (h:To es goal (k+1) a):∃c,(a,c)∈es/\To es goal k c:=by
 obtain⟨z,d,r⟩:=Dst.pred h
 exact⟨z,mem_swp.mp r,d⟩
theorem To.step (r:(a,c)∈es) (h:To es goal k c) (g:To es goal m a):m<=k+1:=by
 refine Bw fun q=>?_
 exact g.2 (k+1) q ⟨c,h.1,mem_swp.mpr r⟩
theorem To.zero (h:To es goal 0 a):a=goal:=h.of_zero
theorem To.here:To es goal 0 goal:=Dst.zero
theorem To.rch (h:To es goal k a):Rch (Arr (swp es)) goal a:=h.1 |> fun w=>⟨k,w⟩
theorem To.inn (val:∀e∈es,e.1<n/\e.2<n) (hg:goal<n) (h:To es goal k a):a<n :=
 Rch.closed (S:=fun y=>y<n) hg (fun x y _ r=>(val _ (mem_swp.mp r)).1) h.rch
theorem To.lt (val:∀e∈es,e.1<n/\e.2<n) (hg:goal<n) (h:To es goal k a):k<n:=by
 have:=Dst.lt (ss:=List.range n) (fun y r=>AM.mpr (Rch.closed (S:=fun y=>y<n) hg (fun x y _ r=>(val _ (mem_swp.mp r)).1) r)) h
 simpa using this
def Lst (es:List (Nat × Nat)) (goal k a b:Nat):Prop:=(a,b)∈es/\To es goal k b/\∀c,(a,c)∈es->To es goal k c->b<=c
theorem Lst.uniq (h:Lst es goal k a b) (g:Lst es goal k a c):b=c:=Nat.le_antisymm (h.2.2 c g.1 g.2.1) (g.2.2 b h.1 h.2.1)
def Wy (es:List (Nat × Nat)) (goal:Nat):Nat->Nat->List Nat->Prop
 | 0,a,ws=>a=goal/\ws=[a]
 | k+1,a,ws=>∃b r,ws=a::r/\Lst es goal k a b/\Wy es goal k b r
theorem Wy.uniq (h:Wy es goal k a ws) (g:Wy es goal k a vs):ws=vs:=by
 induction k generalizing a ws vs with
 | zero=>rw[h.2,g.2]
 | succ k ih =>
  obtain⟨b,r,rfl,l,w⟩:=h
  obtain⟨c,q,rfl,m,v⟩:=g
  have e:=l.uniq m
  subst e
  rw[ih w v]
theorem Wy.len (h:Wy es goal k a ws):ws.length=k+1:=by
 induction k generalizing a ws with
 | zero=>rw[h.2];rfl
 | succ k ih =>
  obtain⟨b,r,rfl,l,w⟩:=h
  simp[ih w]
theorem Wy.inn (val:∀e∈es,e.1<n/\e.2<n) (hg:goal<n) (h:Wy es goal k a ws):∀x∈ws,x<n:=by
 induction k generalizing a ws with
 | zero =>
  rw[h.2,h.1]
  intro x hx
  have:x=goal:=by simpa using hx
  omega
 | succ k ih =>
  obtain⟨b,r,rfl,l,w⟩:=h
  intro x hx
  rcases AA.mp hx with rfl | hx
  ·exact(val _ l.1).1
  ·exact ih w x hx
def Pre (es:List (Nat × Nat)) (goal k one j a:Nat) (ws:List Nat):Prop:=To es goal j a/\(∃us,ws=us++[a])/\(∀r,Wy es goal j a (a::r)->Wy es goal k one (ws++r))/\ws.length+j=k+1
theorem Pre.start (h:To es goal k one):Pre es goal k one k one [one]:=⟨h,⟨[],rfl⟩,fun r w=>w,by simp;omega⟩
theorem Pre.add (h:Pre es goal k one (j+1) a ws) (l:Lst es goal j a b):Pre es goal k one j b (ws++[b]):=by
 obtain⟨h1,h2,h3,h4⟩:=h
 refine⟨l.2.1,⟨ws,rfl⟩,fun r w=>?_,by simp;omega⟩
 rw[By]
 exact h3 (b::r) ⟨b,b::r,rfl,l,w⟩
theorem Pre.done (h:Pre es goal k one 0 a ws):Wy es goal k one ws:=by
 have:=h.2.2.1 [] ⟨h.1.zero,rfl⟩
 simpa using this
end MG
namespace MG
variable {es:List (Nat × Nat)}
theorem Walk.cons (r:R x y) (w:Walk R n y z):Walk R (n+1) x z:=by
 induction n generalizing z with
 | zero =>
  have w:y=z:=w
  subst w
  exact⟨x,rfl,r⟩
 | succ n ih =>
  obtain⟨v,w,q⟩:=w
  exact⟨v,ih w,q⟩
theorem m4 (w:Walk (Arr es) n a b):Walk (Arr (swp es)) n b a:=by
 induction n generalizing b with
 | zero =>
  have w:a=b:=w
  exact w.symm
 | succ n ih =>
  obtain⟨z,w,r⟩:=w
  exact Walk.cons (mem_swp.mpr r) (ih w)
theorem xV (es:List (Nat × Nat)):swp (swp es)=es:=by
 unfold swp
 rw[AQ]
 exact List.map_id'' (fun e=>rfl) es
theorem rch_to:Rch (Arr es) a goal ↔ ∃k,To es goal k a:=by
 constructor
 ·rintro⟨n,w⟩
  exact Rch.dst ⟨n,m4 w⟩
 ·rintro⟨k,h⟩
  have:=m4 h.1
  rw[xV] at this
  exact⟨k,this⟩
end MG
namespace L2
open PySem PySem.Spec PyProof.Rows
theorem bd (s:Same H H') (h:H' b=none):H b=none:=by
 cases q:H b with
 | none=>rfl
 | some o=>rw[s _ _ q] at h;cases h
theorem aW (s:Same H H') (h:H b=none):Same H (upd H' b o):=fun c o' hc=>by
 rw[af (ah hc h)];exact s _ _ hc
section
variable {X:Cx}{p pos p2 pos2:Pos}{e f:Expr}{t:TA}
def tY:V->List V->Hp->VK->Prop:=fun x vs H Q=>∃l xs y j z,x=.ref l/\vs=[y]/\H l=some (.lst xs)/\cX y=true/\xs.all cX=true/\xs[j]? = some z/\eqV z y=true/\(∀(m:Nat) z',m<j->xs[m]? = some z'->eqV z' y=false)/\Q (.int ((j:Nat):Int)) H
theorem nM {xs:List V}{us:List Value}(r:Vals xs us) {j:Nat}(e:us[j]? = some u):∃x,xs[j]? = some x/\RelV x u:=by
 induction r generalizing j with
 | nil=>simp at e
 | @cons a b as bs h t ih =>
  cases j with
  | zero=>simp at e;subst e;exact⟨a,rfl,h⟩
  | succ j=>simpa using ih (by simpa using e)
theorem we:MtR X "list.index" tY:=by
 intro pins s σ H x vs v us Q I rx rv h
 obtain⟨l,xs,y,j,z,rfl,rfl,hH,fy,fs,hj,hz,hno,q⟩:=h
 cases rx
 obtain⟨u,rfl,ru⟩:=cU rv
 obtain⟨zz,its,n,r,hl,e⟩:=I.lstM hH
 have hjl:=(Ac.mp hj).1
 have hlen:=r.length
 have hat:∀m (hm:m<its.length),∃z',xs[m]? = some z'/\eqU y its[m]=eqV z' y:=fun m hm=>by
  obtain⟨z',hz',rz⟩:=nM r (Ar hm)
  refine⟨z',hz',j4 rz ?_⟩
  exact Bj.mp fs z' (Ad hz')
 have h63:(j:Int)<2 ^ 63-1:=by
  have h1:xs.length<=sizeLine:=by omega
  have h2:(sizeLine:Nat)<2 ^ 62:=by decide
  omega
 refine call_meets F.slot_list_index ⟨_,e,rfl⟩ F.entry_list_index (F.args_list_index_2 _ _)
  (SeqAt.list_indexAt l its.toArray n _ _ u (eqU y) j (by simpa using (by omega:j<its.length)) h63 ?_ ?_) ⟨e,fun w hw=>dM ru fy r fs w (by simpa using hw),⟨.int _,H,?_,⟨_,rfl⟩,q⟩⟩
 ·obtain⟨z',h1,h2⟩:=hat j (by omega)
  rw[hj] at h1
  cases h1
  simpa using h2.trans hz
 ·intro m hm hlt
  obtain⟨z',h1,h2⟩:=hat m (by simpa using hm)
  simpa using h2.trans (hno m z' hlt h1)
 ·exact I.kept fun b o eb=>eb
theorem pN (K:W.Frag) (ho:PE X o to) (ha:PA X [e] t)
    (hbase:attributeBase o "index" X.env (eval o X.env)=eval o X.env:=by rfl)
    (hfew:((backTo cpos (starEach [e] X.env)).all (fun x=>!x.1)&&(backToKw cpos (keywordEach [] X.env)).all (fun x=>x.1.isSome)
     && decide ([e].length+([]:List Keyword).length+(if ([]:List Keyword).isEmpty then 0 else 1)<30))=true:=by rfl)
    (hline:(apos.endLine==cpos.line)=true:=by rfl) (hs:starEach [e] X.env=(false,eval e X.env)::starEach [] X.env:=by rfl) (hplain:(backTo cpos (starEach [] X.env)).any (·.1)=false:=by rfl) (hK:X.K=K:=by rfl) :
    PE X (.Call (.Attribute o "index" apos) [e] [] cpos) (tBM K "list" tY to t):=hK ▸ jU PySem.F.plainAttrs_list PySem.F.slot_list_index PySem.F.type_list_index we ho ha hbase hfew hline hs hplain
end
end L2
namespace MG
section
variable {α:Type} [DecidableEq α]
def ix:List α->α->Nat
 | [],_=>0
 | a::r,x=>if a=x then 0 else ix r x+1
theorem pW (a:α) (r:List α):ix (a::r) a=0:=by show (if a=a then 0 else _)=0;rw[if_pos rfl]
theorem qv (r:List α) (h:a≠x):ix (a::r) x=ix r x+1:=by show (if a=x then 0 else _)=_;rw[if_neg h]
theorem ix_at (nd:l.Nodup):∀ {i:Nat}{x:α}, l[i]? = some x -> ix l x=i := by
 induction l with
 | nil=>intro i x e;simp at e
 | cons a r ih =>
  intro i x e
  have ⟨h1,h2⟩:=AL.mp nd
  cases i with
  | zero=>simp at e;subst e;exact pW a r
  | succ i =>
   have e':r[i]? = some x:=by simpa using e
   have hx:=Ad e'
   rw[qv r (fun q:a=x=>h1 (q ▸ hx)),ih h2 e']
theorem at_ix {l:List α}{x:α}(h:x ∈ l):l[ix l x]? = some x := by
 induction l with
 | nil=>cases h
 | cons a r ih =>
  by_cases q:a=x
  ·subst q;rw[pW];rfl
  ·rw[qv r q]
   rcases AA.mp h with h | h
   ·exact absurd h.symm q
   ·simpa using ih h
theorem ix_lt {l:List α}{x:α}(h:x∈l):ix l x<l.length:=(Ac.mp (at_ix h)).1
end
variable {es:List (Nat × Nat)}
def Fwd (es:List (Nat × Nat)):Prop:=∃r:Nat->Nat,∀e∈es,r e.1<r e.2
end MG
namespace L2
open PySem PySem.Spec PyProof.Rows
open PySem.AutoSeq1 (wpAny_loadPart')
section
variable {prog:Program}{w:World}{A:Around}{E:Value->Shared->Prop}{s:Shared}
theorem jY (hj:s.heap.IsTupleIter jt tt i) (htt:s.heap.IsTuple tt its) (hy:its[i]? = some y)
    (hQ:∀h',h'.IsTupleIter jt tt (i+1)->Heap.SameBut jt s.heap h'->Q y { s with heap:=h' }):wpAny (model prog w) A (Builtin.SmallTypes.nextOf (.ref jt)) Q E s:=by
 obtain⟨oj,hoj,cj,dj⟩:=id hj
 obtain⟨ot,hot,_,nt,dt⟩:=htt
 unfold Builtin.SmallTypes.nextOf
 refine zZ (wpAny_callSpecial?_slot (name:=Str.ofString "__next__") hj.typeIs F.slot_tuple_iterator_next (wpAny_call_entry F.slot_tuple_iterator_next hj.typeIs F.entry_tuple_iterator_next ?_ (F.args_tuple_iterator_next_1 _)))
 show wpAny _ _ (field (.ref jt) 0 >>= _) _ _ s
 refine zZ (AO hoj dj (x:=.ref tt) rfl ?_)
 show wpAny _ _ (if (Value.ref tt==Value.none)=true then _ else _) _ _ s
 rw[if_neg (show ¬ ((Value.ref tt==Value.none)=true) from AB)]
 show wpAny _ _ (field (.ref jt) 1 >>= _) _ _ s
 refine zZ (AO hoj dj (x:=.int i 0) rfl (zZ (Bk hot dt ?_)))
 simp only[Bs,hy]
 refine zZ (wpAny_setField hoj dj (by simp) (Ab ⟨y,rfl,Ab (hQ _ ?_ (Heap.SameBut.update ..))⟩))
 exact⟨_,Heap.get?_update_self _ hoj (Obj.isFreed_of_fields (Obj.data_mapFields dj _)),(Obj.cls_mapFields ..).trans cj,by rw[Obj.data_mapFields dj];simp[rawInt]⟩
theorem iw (hh:A.handled=none) (hj:s.heap.IsTupleIter jt tt i) (htt:s.heap.IsTuple tt its) (hy:its[i]? = none)
    (hE:∀h' e,Heap.ExtBut jt s.heap h'->(∃o,h'.get? e=some o/\o.cls=.type "StopIteration")->E (.ref e) { s with heap:=h' }):wpAny (model prog w) A (Builtin.SmallTypes.nextOf (.ref jt)) Q E s:=by
 obtain⟨oj,hoj,cj,dj⟩:=id hj
 obtain⟨ot,hot,_,nt,dt⟩:=htt
 unfold Builtin.SmallTypes.nextOf
 refine zZ (wpAny_callSpecial?_slot (name:=Str.ofString "__next__") hj.typeIs F.slot_tuple_iterator_next (wpAny_call_entry F.slot_tuple_iterator_next hj.typeIs F.entry_tuple_iterator_next ?_ (F.args_tuple_iterator_next_1 _)))
 show wpAny _ _ (field (.ref jt) 0 >>= _) _ _ s
 refine zZ (AO hoj dj (x:=.ref tt) rfl ?_)
 show wpAny _ _ (if (Value.ref tt==Value.none)=true then _ else _) _ _ s
 rw[if_neg (show ¬ ((Value.ref tt==Value.none)=true) from AB)]
 show wpAny _ _ (field (.ref jt) 1 >>= _) _ _ s
 refine zZ (AO hoj dj (x:=.int i 0) rfl (zZ (Bk hot dt ?_)))
 simp only[Bs,hy]
 refine zZ (wpAny_rule (zZ (wpAny_setField hoj dj (by simp) ?_)))
 show wpAny _ _ (newExc (.type "StopIteration") [] >>= _) _ _ _
 refine zZ ?_
 simp only[newExc,newTuple]
 refine zZ (wpAny_newObj_type (zZ (m:=firstArgMember _ _) (wpAny_of_eq (a:=Value.none) (by first | rfl | (simp only[firstArgMember];rfl)) ?_)) (by size_fits))
 refine wpAny_newObj_type ?_ (by size_fits)
 simp only[raiseNew]
 refine zZ (wpAny_handled ?_)
 first | rw[show A.in1.handled=none from hh] | rw[hh]
 refine zZ (Ab (wpAny_throw (hE _ _ (((Heap.SameBut.update ..).extBut.push _).push _) ⟨_,At _ rfl,rfl⟩)))
theorem yv (hh:A.handled=none) (jt tt:Addr) (hne:tt≠jt) (its:Array Value) :
    Draws prog w A jt [jt,tt] its.size (fun i y=>its[i]? = some y) (fun i h=>h.IsTupleIter jt tt i/\h.IsTuple tt its) where
 live:=fun i h st=>let ⟨o,e,_⟩:=st.1;⟨o,e⟩
 frame:=fun i h h' st k=>⟨let ⟨o,e,r⟩:=st.1;⟨o,k jt (by simp) o e,r⟩,let ⟨o,e,r⟩:=st.2;⟨o,k tt (by simp) o e,r⟩⟩
 item:=fun i s Q E hi st hQ=>jY st.1 st.2 (y:=its[i]) (by simp[hi]) fun h' j' sb=>hQ _ h' s.toks (by simp[hi]) ⟨j',st.2.extBut sb.extBut hne⟩ sb
 done:=fun s Q E st hE=>iw hh st.1 st.2 (by simp) hE
set_option maxHeartbeats 1000000 in
theorem pj (l:Addr) (its:Array Value) (n:Nat) (dct:Option Addr) (sl:Array (Option Value)) :
    Meets (Builtin.«enumerate.__new__» ⟨[.type "enumerate",.ref l],[]⟩) (fun _ R s=>s.heap.get? l=some { cls:=.type "tuple",dict:=dct,data:=.seq its n,slots:=sl } /\
     R (.ok (.ret (.ref (s.heap.push { cls:=.type "tuple_iterator",data:=.fields #[.ref l,.int 0 0] }).objs.size)))
      { s with heap:=(s.heap.push { cls:=.type "tuple_iterator",data:=.fields #[.ref l,.int 0 0] }).push { cls:=.type "enumerate",data:=.fields #[.none,.bool false,.ref s.heap.objs.size,rawInt 0,.none,.none] } }) :=
 .of_wp fun prog w A R s h => by
  obtain⟨h0,g0,d0,t0,os0⟩:=s
  obtain⟨hl,h⟩:=h
  have hsub:=sub_enumerate
  have hT:Heap.IsTuple (Shared.heap ⟨h0,g0,d0,t0,os0⟩) l its:=⟨_,hl,rfl,n,rfl⟩
  wp_walk using wpAny_loadPart' hl
  refine wpAny_stack_any fun st=>Ab ?_
  split
  ·rename_i c _ _ _ _ _
   cases (c==Value.type "enumerate")
   ·wp_walk using wpAny_loadPart' hl,Bg hT
    exact⟨_,rfl,h⟩
   ·wp_walk using wpAny_loadPart' hl,Bg hT
    exact⟨_,rfl,h⟩
  ·wp_walk using wpAny_loadPart' hl,Bg hT
   exact⟨_,rfl,h⟩
theorem rK (hT:s.heap.IsTuple l its)
    (h:∀h',IsEnum h' (s.heap.objs.size+1) s.heap.objs.size 0 .none->h'.IsTupleIter s.heap.objs.size l 0->(∀b o,s.heap.get? b=some o->h'.get? b=some o)->Q (.ref (s.heap.objs.size+1)) { s with heap:=h' }) :
    wpAny (model prog w) A (call (.type "enumerate") [.ref l]) Q E s:=by
 obtain⟨⟨c,dct,dt,sl⟩,hl,hc,n,hd⟩:=hT
 replace hc:c=.type "tuple":=hc
 replace hd:dt=.seq its n:=hd
 subst hc hd
 refine callType_new F.called_enumerate (by decide) (F.typeCall_enumerate_1 _) (F.newCall_enumerate_1 _) (fun obj=>F.args_object_init_2 obj _) F.entry_enumerate_new (pj l its n dct sl) ⟨hl,?_⟩
 have hz:(s.heap.push { cls:=.type "tuple_iterator",data:=.fields #[.ref l,.int 0 0] }).objs.size=s.heap.objs.size+1:=A6 ..
 show _/\_
 rw[hz]
 have he:IsEnum ((s.heap.push { cls:=.type "tuple_iterator",data:=.fields #[.ref l,.int 0 0] }).push { cls:=.type "enumerate",data:=.fields #[.none,.bool false,.ref s.heap.objs.size,rawInt 0,.none,.none] }) (s.heap.objs.size+1) s.heap.objs.size 0 .none:=by
  have:=At (s.heap.push { cls:=.type "tuple_iterator",data:=.fields #[.ref l,.int 0 0] }) (o:={ cls:=.type "enumerate",data:=.fields #[.none,.bool false,.ref s.heap.objs.size,rawInt 0,.none,.none] }) rfl
  rw[hz] at this;exact this
 exact⟨⟨_,he,rfl⟩,h _ he ⟨_,An _ (At _ rfl),rfl,rfl⟩ fun b o x=>An _ (An _ x)⟩
end
def ye (K:W.Frag) (a:Addr):It :=
 ⟨fun i H=>∃xs x,SqT K H a xs/\xs[i]? = some x,fun i H v H'=>∃p x,H p=none/\v=.ref p/\(∀xs,SqT K H a xs->xs[i]? = some x)/\H'=upd H p (.tup [.int i,x]),fun i H=>∃xs,SqT K H a xs/\xs.length<=i⟩
theorem rP {P:Program}{w:World}{K:W.Frag}{elts:List Expr}{k:Nat}{tp:Pos}(a e it:Addr) (hne:e ≠ it) :
    Turn P w K (.Tuple elts k tp) (ye K a) [e,it] e (fun i h=>(∃old,IsEnum h e it i old)/\h.IsTupleIter it a i) where
 mem:=by simp
 obj:=fun i h st b hb=>by
  obtain⟨⟨old,he⟩,hit⟩:=st
  have hb:b=e∨b=it:=by simpa using hb
  rcases hb with z | z
  ·subst z
   exact⟨_,he,fun v z=>by cases z⟩
  ·subst z
   obtain⟨o,e1,c,d⟩:=hit
   exact⟨o,e1,fun v z=>by rw[d] at z;cases z⟩
 keep:=fun i h h' st kk=>by
  obtain⟨⟨old,he⟩,hit⟩:=st
  exact⟨⟨old,kk e (by simp) _ he⟩,let ⟨o,q,r⟩:=hit;⟨o,kk it (by simp) o q,r⟩⟩
 item := by
  intro X hP hw hK hc i pins s σ H E I hf st hg
  subst hP hw hK
  obtain⟨⟨old,he⟩,hit⟩:=st
  obtain⟨xs,x,hq,hx⟩:=hg
  obtain⟨its,rv,p,hz⟩:=I.tuple hq
  obtain⟨u,hu,ru⟩:=rv.get hx
  obtain⟨f0,f1,f2,f3,f4,f5⟩:=hf e (by simp)
  obtain⟨g0,g1,g2,g3,g4,g5⟩:=hf it (by simp)
  have hel:e<s.heap.objs.size:=Ah he
  have hil:it<s.heap.objs.size:=by obtain⟨o,q,_⟩:=hit;exact Ah q
  have hae:a≠e:=fun z=>by
   obtain⟨o,q,c,_⟩:=p
   rw[z,he] at q;cases q;simp at c
  have hai:a≠it:=fun z=>by
   obtain⟨o,q,c,_⟩:=p
   obtain⟨o',q',c',_⟩:=hit
   rw[z,q'] at q;cases q;rw[c] at c';simp at c'
  have hul:=(Ac.mp hu).1
  refine wpAny_pyNext_enum_itemD (yv (A:=X.A.in1) (show X.A.in1.handled=none from I.ok.hd hc) it a hai its.toArray) he ⟨hit,p⟩ (by simpa using hul) hne (by simp[hne,Ne.symm hae]) fun u' h1 tk hu' ho hit1 ht1 hz1 k1=>?_
  have eu:u'=u:=by
   have:its[i]? = some u':=by simpa using hu'
   rw[hu] at this
   exact(Af this).symm
  subst eu
  refine⟨_,rfl,wpAny_letOwnedTupleGo_enum ho fun h2 he2 sb2=>?_⟩
  have sb2:Heap.SameBut e h1 h2:=sb2
  have T2:h2.get? s.heap.objs.size=some { cls:=.type "tuple",data:=.seq #[.int i tk,u'] }:=(sb2.2 _ (Bo hel)).trans ht1
  have hp:H s.heap.objs.size=none:=I.hok.fresh (Aa _)
  have nit:∀b v,H b=some v->b≠e/\b≠it:=fun b v q=>⟨fun z=>(by rw[z,f0] at q;cases q),fun z=>(by rw[z,g0] at q;cases q)⟩
  have kk:∀b o,b≠e->b≠it->s.heap.get? b=some o->h2.get? b=some o:=fun b o n1 n2 q=>(sb2.2 b n1).trans (k1 b o n1 n2 q)
  have up:∀b v,H b=some v->upd H s.heap.objs.size (.tup [.int i,x]) b=some v:=fun b v q=>by rw[af (ah q hp)];exact q
  have I1:Inv X pins σ (upd H s.heap.objs.size (.tup [.int i, x])) { s with heap := h2, gens := s.gens, drawn := s.drawn, toks := tk+1 } := by
   refine I.step (g':=s.gens) (d':=s.drawn) (ch:=[e,it]) (fun b hb=>?_) (fun b o _ _ hb q _=>kk b o (fun z=>hb (by simp[z])) (fun z=>hb (by simp[z])) q) (fun b o _ _ hb q _=>⟨o.slots,kk b o (fun z=>hb (by simp[z])) (fun z=>hb (by simp[z])) q⟩) (fun b o _ q n=>?_)
    (fun b o hb q=>⟨o,kk b o (fun z=>hb (by simp[z])) (fun z=>hb (by simp[z])) q⟩) (fun b ys q=>up b _ q) (fun b o v q=>up b _ q) (fun b ps q=>⟨#[],by rw[up b _ q];simp⟩) (fun m hm=>?_) (fun b v q=>?_) I.bare
   ·have hb:b=e∨b=it:=by simpa using hb
    rcases hb with z | z
    ·subst z;exact⟨f3,f1,f4,f5⟩
    ·subst z;exact⟨g3,g1,g4,g5⟩
   ·rw[af (Ax (Ah q))];exact n
   ·obtain⟨o,es,ep,ho,r⟩:=hm
    exact⟨o,es,ep,kk _ o (Ne.symm f1) (Ne.symm g1) ho,r⟩
   ·by_cases hb:b=s.heap.objs.size
    ·subst hb
     rw[ae] at q
     have q':HO.tup [V.int i,x]=v:=Af q
     subst q'
     exact⟨by show 2<=sizeLine;decide,[.int i tk,u'],.cons ⟨_,rfl⟩ (.cons ru .nil),⟨_,T2,rfl,_,rfl,rfl⟩⟩
    ·rw[af hb] at q
     refine(I.hok b v q).stay (fun c v' hc q'=>?_) (fun c q=>up c _ q) fun c ys q=>up c _ q
     rcases hc with z | z
     ·rw[z] at q' ⊢;exact kk b v' (nit b v q).1 (nit b v q).2 q'
     ·exact kk c v' (nit c _ z).1 (nit c _ z).2 q'
  refine⟨.ref s.heap.objs.size,upd H s.heap.objs.size (.tup [.int i,x]),I1,rfl,⟨_,x,hp,rfl,fun ys hy=>by rw[I.tuple_inj hy hq];exact hx,rfl⟩,⟨⟨u',?_⟩,?_⟩,fun b hb=>?_⟩
  ·exact(by simpa using he2)
  ·obtain⟨o,q,r⟩:=hit1.1
   exact⟨o,(sb2.2 it (Ne.symm hne)).trans q,r⟩
  ·have hb:b=e∨b=it:=by simpa using hb
   rcases hb with z | z
   ·rw[z,af (Ax hel)];exact f0
   ·rw[z,af (Ax hil)];exact g0
 done:=by
  intro X hP hw hK hc i pins s σ H E I hf st hg
  subst hP hw hK
  obtain⟨⟨old,he⟩,hit⟩:=st
  obtain⟨xs,hq,hx⟩:=hg
  obtain⟨its,rv,p,hz⟩:=I.tuple hq
  obtain⟨g0,g1,g2,g3,g4,g5⟩:=hf it (by simp)
  have hl:=rv.length
  have hT:s.TypeIs (.ref e) "enumerate":=⟨_,he,rfl⟩
  unfold pyNext
  refine zZ (wpAny_attempt (wpAny_callSpecial?_slot (name:=Str.ofString "__next__") hT F.slot_enumerate_next (wpAny_call_entry F.slot_enumerate_next hT F.entry_enumerate_next ?_ (F.args_enumerate_next_1 _))))
  show wpAny _ _ (field (.ref e) 2 >>= _) _ _ _
  refine zZ (AO he rfl (x:=.ref it) rfl (zZ (iw (I.ok.hd hc) hit p (by simp;omega) fun h' x he' hx'=>?_)))
  obtain⟨o,ho,hc'⟩:=hx'
  refine zZ (wpAny_isInstance (T:="StopIteration") (b:=true) ⟨o,ho,hc'⟩ isSubtype_stop ?_)
  exact Ab ⟨rfl,I.turned (t':=s.toks) (fun b o hb q=>he' b o hb q) g0 g1 g3 g4 g5⟩
 self:=fun _ _ _ _ _ st h=>by
  obtain⟨⟨old,he⟩,_⟩:=st
  exact wpAny_pyIter_enum he h
inductive EnmR (K:W.Frag) (H:Hp):V->(It->Hp->Prop)->Prop
 | lst {a:Addr} {xs:List V} {R:It->Hp->Prop}:SqL K H a xs->R (Ite K a) H->EnmR K H (.ref a) R
 | tup {a:Addr} {xs:List V} {R:It->Hp->Prop}:SqT K H a xs->R (ye K a) H->EnmR K H (.ref a) R
def yY (K:W.Frag) (ta:TA):TI:=fun σ H R=>ta σ H fun vs H1=>∃x,vs=[x]/\EnmR K H1 x R
theorem nP (K:W.Frag) {X:Cx}{elts:List Expr}{k:Nat}{tp:Pos}{a:Expr}{ta:TA}{p pos:Pos}(hg:Gl X "enumerate") (hm:X.mg "enumerate"=none) (ha:PA X [a] ta) (hs:starEach [a] X.env=[(false,eval a X.env)]:=by rfl) (hK:X.K=K:=by rfl) :
    PI X (.Tuple elts k tp) (.Call (.Name "enumerate" p) [a] [] pos) (yY K ta):=by
 subst hK
 intro pins s σ H R I h
 refine Call_ (di I hg hm boot_enumerate (PyProof.Rows.callWith_type1 (thn (ha pos pins s σ H _ I h) fun us s1 ⟨vs,H1,I1,r1,q1⟩=>?_) hs rfl))
 obtain⟨x,e,q⟩:=q1
 subst e
 obtain⟨u,rfl,ru⟩:=cU r1
 have fin:∀b,b=s1.heap.objs.size+1∨b=s1.heap.objs.size->ed X pins H1 b:=fun b hb=>by
  rcases hb with z | z
  ·subst z;exact I1.fpOk (Bb _) (I1.hok.fresh (Bb _))
  ·subst z;exact I1.fpOk (Aa _) (I1.hok.fresh (Aa _))
 cases q with
 | lst hq q =>
  cases ru
  obtain⟨its,rv,pl,hz⟩:=I1.list hq
  refine call_enumerate_list pl.isList fun h' he hit hz' k'=>wpAny_pyIter_enum (s:={ s1 with heap:=h' }) he ?_
  exact⟨_,[s1.heap.objs.size+1,s1.heap.objs.size],_,_,H1,rfl,I1.kept (t':=s1.toks) k',sR _ _ _ (Nat.succ_ne_self _),⟨⟨_,he⟩,hit⟩,fun b hb=>fin b (by simpa using hb),q⟩
 | tup hq q =>
  cases ru
  obtain⟨its,rv,pl,hz⟩:=I1.tuple hq
  refine rK pl fun h' he hit k'=>wpAny_pyIter_enum (s:={ s1 with heap:=h' }) he ?_
  exact⟨_,[s1.heap.objs.size+1,s1.heap.objs.size],_,_,H1,rfl,I1.kept (t':=s1.toks) k',rP _ _ _ (Nat.succ_ne_self _),⟨⟨_,he⟩,hit⟩,fun b hb=>fin b (by simpa using hb),q⟩
end L2
namespace L2
open PySem PySem.Spec PyProof.Rows
abbrev Zp (h:Heap) (z TI TO:Addr) (f0:Value) (f1:Bool):Prop:=h.get? z=some { cls:=.type "zip",dict:=none,data:=.fields #[f0,.bool f1,.bool false,.ref TI,.ref TO],slots:=#[] }
def F0 (f0:Value):Prop:=f0=.none∨∃T:Nat,f0=rawInt (T:Int)
def ItI:Bool->Heap->Addr->Addr->Nat->Prop
 | true,h,i,l,k=>h.IsTupleIter i l k
 | false,h,i,l,k=>h.IsListIter i l k
def SqI:Bool->Heap->Addr->Array Value->Prop
 | true,h,l,xs=>h.IsTuple l xs
 | false,h,l,xs=>h.IsList l xs
theorem ItI.at (j:ItI t h i l k) (f:∀o,h.get? i=some o->h'.get? i=some o):ItI t h' i l k:=by
 cases t
 ·exact Heap.IsListIter.at (h:=h) j f
 ·exact Heap.IsTupleIter.at (h:=h) j f
theorem SqI.at (j:SqI t h l xs) (f:∀o,h.get? l=some o->h'.get? l=some o):SqI t h' l xs:=by
 cases t
 ·exact Heap.IsList.at (h:=h) j f
 ·exact Heap.IsTuple.at (h:=h) j f
section
variable {prog:Program}{w:World}{A:Around}{E:Value->Shared->Prop}{s:Shared}
theorem t9 (h:Q (s.heap.get? a) s):wpAny (model prog w) A (loadIfAlive a) Q E s:=fun _ _ _=>h
theorem pY {z TI TO:Addr}{f0:Value}{f1:Bool}(hf:F0 f0) (hz:Zp s.heap z TI TO f0 f1) {Q:Bool -> Shared -> Prop}(h:∀b f1' h', Zp h' z TI TO f0 f1' -> Heap.SameBut z s.heap h' -> Q b { s with heap := h' }) :
    wpAny (model prog w) A (Builtin.SmallTypes.ownedTupleIsFree (.ref z)) Q E s:=by
 unfold Builtin.SmallTypes.ownedTupleIsFree
 rcases hf with rfl | ⟨T,rfl⟩
 ·exact zZ (AO hz rfl (x:=.none) rfl (Ab (h true f1 s.heap hz (Heap.SameBut.refl ..))))
 ·refine zZ (AO hz rfl (x := rawInt (T:Int)) rfl ?_)
  refine zZ (t9 ?_)
  cases s.heap.get? (T:Int).toNat with
  | none=>exact Ab (h true f1 s.heap hz (Heap.SameBut.refl ..))
  | some o =>
   show wpAny _ _ (field (.ref z) 1 >>= _) _ _ _
   refine zZ (AO hz rfl (x:=.bool f1) rfl ?_)
   cases f1 with
   | true=>exact Ab (h false true s.heap hz (Heap.SameBut.refl ..))
   | false =>
    show wpAny _ _ (setField (.ref z) 1 (.bool true) >>= _) _ _ _
    exact zZ (Bl hz (by simp) fun h1 hz1 sb=>Ab (h false true h1 hz1 sb))
theorem dE (hj:ItI t s.heap jt tt i) (htt:SqI t s.heap tt its) (hy:its[i]? = some y)
    (hQ:∀h',ItI t h' jt tt (i+1)->Heap.SameBut jt s.heap h'->Q y { s with heap:=h' }):wpAny (model prog w) A (Builtin.SmallTypes.nextOf (.ref jt)) Q E s:=by
 cases t
 ·exact wpAny_nextOf_list_item hj htt hy hQ
 ·exact jY hj htt hy hQ
theorem gk (hh:A.handled=none) (hj:ItI t s.heap jt tt i) (htt:SqI t s.heap tt its) (hy:its[i]? = none)
    (hE:∀h' e,Heap.ExtBut jt s.heap h'->(∃o,h'.get? e=some o/\o.cls=.type "StopIteration")->E (.ref e) { s with heap:=h' }):wpAny (model prog w) A (Builtin.SmallTypes.nextOf (.ref jt)) Q E s:=by
 cases t
 ·exact wpAny_nextOf_list_end hh hj htt hy hE
 ·exact iw hh hj htt hy hE
theorem ve {t1 t2:Bool}{z TI TO i1 i2 l1 l2:Addr}{k1 k2:Nat}{f0:Value}{f1:Bool}{xs ys:Array Value}{x y a b:Value}{Q:Value -> Shared -> Prop}(D:ZipApart z TI TO i1 i2 l1 l2) (hf:F0 f0)
    (hz:Zp s.heap z TI TO f0 f1) (hTI:IsPair s.heap TI (.ref i1) (.ref i2)) (hTO:IsPair s.heap TO a b)
    (h1:ItI t1 s.heap i1 l1 k1) (h2:ItI t2 s.heap i2 l2 k2) (hl1:SqI t1 s.heap l1 xs) (hl2:SqI t2 s.heap l2 ys) (hx:xs[k1]? = some x) (hy:ys[k2]? = some y)
    (hQ:∀h' f0' f1',F0 f0'->Zp h' z TI TO f0' f1'->(∃a b,IsPair h' TO a b)->ItI t1 h' i1 l1 (k1+1)->ItI t2 h' i2 l2 (k2+1)->IsPair h' s.heap.objs.size x y ->
     (∀c o,c≠z->c≠TO->c≠i1->c≠i2->s.heap.get? c=some o->h'.get? c=some o)->Q (.ref s.heap.objs.size) { s with heap:=h' }) :
    wpAny (model prog w) A (Builtin.«zip.__next__» ⟨[.ref z],[]⟩) (fun fin s'=>∃v,fin=.done (.ret v)/\Q v s') E s:=by
 show wpAny _ _ (field (.ref z) 2 >>= _) _ _ _
 refine zZ (AO hz rfl (x:=.bool false) rfl ?_)
 show wpAny _ _ (field (.ref z) 3 >>= _) _ _ _
 refine zZ (AO hz rfl (x:=.ref TI) rfl (zZ (Bk hTI rfl ?_)))
 refine zZ (pY hf hz fun own f1' g0 hz0 sb0=>?_)
 have sz0:g0.objs.size=s.heap.objs.size:=sb0.1
 cases own with
 | true =>
  simp only[if_true]
  refine zZ (wpAny_rule ?_)
  refine zZ (AO (s:={ s with heap:=g0 }) hz0 rfl (x:=.ref TO) rfl ?_)
  refine zZ (Bl (s:={ s with heap:=g0 }) hz0 (by simp) fun g1 hz1 sb1=>?_)
  replace hz1:Zp g1 z TI TO .ellipsis f1':=hz1
  refine zZ ?_
  simp only[List.zipIdx_cons,List.zipIdx_nil,BF,List.forIn_nil]
  refine zZ (zZ (wpAny_onRaise ?_))
  show wpAny _ _ (Builtin.SmallTypes.nextOf (.ref i1) >>= _) _ _ _
  have up1:∀c o,c≠z->s.heap.get? c=some o->g1.get? c=some o:=fun c o n e=>sb1.extBut _ _ n (sb0.extBut _ _ n e)
  refine zZ (dE (h1.at fun o e=>up1 _ o D.i1z e) (hl1.at fun o e=>up1 _ o D.l1z e) hx fun g2 j1 sb2=>Ab ?_)
  have hTO2:IsPair g2 TO a b:=sb2.extBut _ _ D.TOi1 (up1 _ _ D.TOz hTO)
  refine zZ (Bk hTO2 rfl (zZ (wpAny_updateSeq_pair hTO2 fun g3 hTO3 sb3=>?_)))
  replace hTO3:IsPair g3 TO x b:=hTO3
  refine zZ (wpAny_letGo (Ab (zZ (zZ (wpAny_onRaise ?_)))))
  show wpAny _ _ (Builtin.SmallTypes.nextOf (.ref i2) >>= _) _ _ _
  have up3:∀c o,c≠z->c≠i1->c≠TO->s.heap.get? c=some o->g3.get? c=some o:=fun c o n1 n2 n3 e=>sb3.extBut _ _ n3 (sb2.extBut _ _ n2 (up1 _ _ n1 e))
  refine zZ (dE (h2.at fun o e=>up3 _ o D.i2z D.i12.symm D.TOi2.symm e) (hl2.at fun o e=>up3 _ o D.l2z D.l2i1 D.l2TO e) hy fun g4 j2 sb4=>Ab ?_)
  have hTO4:IsPair g4 TO x b:=sb4.extBut _ _ D.TOi2 hTO3
  refine zZ (Bk hTO4 rfl (zZ (wpAny_updateSeq_pair hTO4 fun g5 hTO5 sb5=>?_)))
  replace hTO5:IsPair g5 TO x y:=hTO5
  refine zZ (wpAny_letGo (Ab (Ab ?_)))
  refine zZ (Bk hTO5 rfl (zZ (wpAny_newTuple ?_)))
  have hsz:g5.objs.size=s.heap.objs.size:=by rw[sb5.1,sb4.1,sb3.1,sb2.1,sb1.1,sz0]
  have hz5:Zp g5 z TI TO .ellipsis f1':=sb5.extBut _ _ D.TOz.symm (sb4.extBut _ _ D.i2z.symm (sb3.extBut _ _ D.TOz.symm (sb2.extBut _ _ D.i1z.symm hz1)))
  have j15:ItI t1 g5 i1 l1 (k1+1):=j1.at fun o e=>sb5.extBut _ _ D.TOi1.symm (sb4.extBut _ _ D.i12 (sb3.extBut _ _ D.TOi1.symm e))
  have j25:ItI t2 g5 i2 l2 (k2+1):=j2.at fun o e=>sb5.extBut _ _ D.TOi2.symm e
  have hk5:∀c o,c≠z->c≠TO->c≠i1->c≠i2->s.heap.get? c=some o->g5.get? c=some o:=fun c o c1 c2 c3 c4 e=>sb5.extBut _ _ c2 (sb4.extBut _ _ c4 (up3 _ _ c1 c3 c2 e))
  have hzlt:z<g5.objs.size:=Ah hz5
  show wpAny _ _ (Builtin.SmallTypes.ownedTupleHandOut (.ref z) (.ref g5.objs.size) >>= _) _ _ _
  refine zZ ?_
  unfold Builtin.SmallTypes.ownedTupleHandOut
  have hz6:Zp (g5.push { cls:=.type "tuple",data:=.seq #[x,y] }) z TI TO .ellipsis f1':=An _ hz5
  refine zZ (Bl hz6 (by simp) fun g7 hz7 sb7=>?_)
  replace hz7:Zp g7 z TI TO (rawInt g5.objs.size) f1':=hz7
  refine Bl hz7 (by simp) fun g8 hz8 sb8=>?_
  replace hz8:Zp g8 z TI TO (rawInt g5.objs.size) false:=hz8
  have up:∀c o,c≠z->g5.get? c=some o->g8.get? c=some o:=fun c o c1 e=>sb8.extBut _ _ c1 (sb7.extBut _ _ c1 (An _ e))
  have hT8:IsPair g8 g5.objs.size x y:=sb8.extBut _ _ (Bo hzlt) (sb7.extBut _ _ (Bo hzlt) (At _ rfl))
  refine Ab ⟨_,rfl,?_⟩
  show Q (.ref g5.objs.size) _
  rw[hsz] at hz8 hT8 ⊢
  exact hQ g8 _ _ (.inr ⟨_,rfl⟩) hz8 ⟨x,y,up _ _ D.TOz hTO5⟩ (j15.at fun o e=>up _ o D.i1z e) (j25.at fun o e=>up _ o D.i2z e) hT8 fun c o c1 c2 c3 c4 e=>up c o c1 (hk5 c o c1 c2 c3 c4 e)
 | false =>
  simp only[Bi,if_false]
  refine zZ ?_
  rw[<- Array.forIn_toList]
  simp only[BF,List.forIn_nil]
  refine zZ (zZ (AN ?_))
  show wpAny _ _ (Builtin.SmallTypes.nextOf (.ref i1) >>= _) _ _ _
  have up1:∀c o,c≠z->s.heap.get? c=some o->g0.get? c=some o:=fun c o n e=>sb0.extBut _ _ n e
  refine zZ (dE (s:={ s with heap:=g0 }) (h1.at fun o e=>up1 _ o D.i1z e) (hl1.at fun o e=>up1 _ o D.l1z e) hx fun g2 j1 sb2=>Ab ?_)
  replace sb2:Heap.SameBut i1 g0 g2:=sb2
  refine Ab (zZ (zZ (AN ?_)))
  show wpAny _ _ (Builtin.SmallTypes.nextOf (.ref i2) >>= _) _ _ _
  have up2:∀c o,c≠z->c≠i1->s.heap.get? c=some o->g2.get? c=some o:=fun c o n1 n2 e=>sb2.extBut _ _ n2 (up1 _ _ n1 e)
  refine zZ (dE (h2.at fun o e=>up2 _ o D.i2z D.i12.symm e) (hl2.at fun o e=>up2 _ o D.l2z D.l2i1 e) hy fun g4 j2 sb4=>Ab ?_)
  replace sb4:Heap.SameBut i2 g2 g4:=sb4
  refine Ab (Ab ?_)
  show wpAny _ _ (newTuple [x,y] >>= _) _ _ _
  refine zZ (wpAny_newTuple (Ab ⟨_,rfl,?_⟩))
  have hsz:g4.objs.size=s.heap.objs.size:=by rw[sb4.1,sb2.1,sz0]
  show Q (.ref g4.objs.size) _
  have pu:∀c o,g4.get? c=some o->(g4.push { cls:=.type "tuple",data:=.seq #[x,y] }).get? c=some o:=fun c o e=>An _ e
  have hT8:IsPair (g4.push { cls:=.type "tuple",data:=.seq #[x,y] }) g4.objs.size x y:=At _ rfl
  rw[hsz] at hT8 ⊢
  exact hQ _ _ _ hf (pu _ _ (sb4.extBut _ _ D.i2z.symm (sb2.extBut _ _ D.i1z.symm hz0))) ⟨a,b,pu _ _ (sb4.extBut _ _ D.TOi2 (up2 _ _ D.TOz D.TOi1 hTO))⟩ (j1.at fun o e=>pu _ o (sb4.extBut _ _ D.i12 e)) (j2.at fun o e=>pu _ o e) hT8 fun c o c1 c2 c3 c4 e=>pu _ _ (sb4.extBut _ _ c4 (up2 _ _ c1 c3 e))
theorem xO {t1 t2:Bool}{z TI TO i1 i2 l1 l2:Addr}{k1 k2:Nat}{f0:Value}{f1:Bool}{xs ys:Array Value}{a b:Value}{Q:Fin -> Shared -> Prop}(hh:A.handled=none) (D:ZipApart z TI TO i1 i2 l1 l2) (hf:F0 f0)
    (hz:Zp s.heap z TI TO f0 f1) (hTI:IsPair s.heap TI (.ref i1) (.ref i2)) (hTO:IsPair s.heap TO a b)
    (h1:ItI t1 s.heap i1 l1 k1) (h2:ItI t2 s.heap i2 l2 k2) (hl1:SqI t1 s.heap l1 xs) (hl2:SqI t2 s.heap l2 ys) (hend:xs[k1]? = none∨ys[k2]? = none)
    (hE:∀h' e,(∀c o,c≠z->c≠TO->c≠i1->c≠i2->s.heap.get? c=some o->h'.get? c=some o)->(∃o,h'.get? e=some o/\o.cls=.type "StopIteration")->E (.ref e) { s with heap:=h' }) :
    wpAny (model prog w) A (Builtin.«zip.__next__» ⟨[.ref z],[]⟩) Q E s:=by
 show wpAny _ _ (field (.ref z) 2 >>= _) _ _ _
 refine zZ (AO hz rfl (x:=.bool false) rfl ?_)
 show wpAny _ _ (field (.ref z) 3 >>= _) _ _ _
 refine zZ (AO hz rfl (x:=.ref TI) rfl (zZ (Bk hTI rfl ?_)))
 refine zZ (pY hf hz fun own f1' g0 hz0 sb0=>?_)
 cases own with
 | true =>
  simp only[if_true]
  refine zZ (wpAny_rule ?_)
  refine zZ (AO (s:={ s with heap:=g0 }) hz0 rfl (x:=.ref TO) rfl ?_)
  refine zZ (Bl (s:={ s with heap:=g0 }) hz0 (by simp) fun g1 hz1 sb1=>?_)
  replace hz1:Zp g1 z TI TO .ellipsis f1':=hz1
  refine zZ ?_
  simp only[List.zipIdx_cons,List.zipIdx_nil,BF,List.forIn_nil]
  refine zZ (zZ (wpAny_onRaise ?_))
  show wpAny _ _ (Builtin.SmallTypes.nextOf (.ref i1) >>= _) _ _ _
  have up1:∀c o,c≠z->s.heap.get? c=some o->g1.get? c=some o:=fun c o n e=>sb1.extBut _ _ n (sb0.extBut _ _ n e)
  cases hx:xs[k1]? with
  | none =>
   refine zZ (gk hh (h1.at fun o e=>up1 _ o D.i1z e) (hl1.at fun o e=>up1 _ o D.l1z e) hx fun g2 e sb2 he=>?_)
   obtain⟨oe,hoe,hce⟩:=he
   have hz2:Zp g2 z TI TO .ellipsis f1':=sb2 _ _ D.i1z.symm hz1
   have hez:e≠z:=fun q=>by subst q;rw[hz2] at hoe;cases hoe;simp at hce
   exact Bl hz2 (by simp) fun g3 _ sb3=>hE g3 e (fun c o c1 _ c3 _ q=>sb3.extBut _ _ c1 (sb2 _ _ c3 (up1 _ _ c1 q))) ⟨oe,sb3.extBut _ _ hez hoe,hce⟩
  | some x =>
   have hy:ys[k2]? = none:=by rcases hend with q | q;rw[hx] at q;cases q;exact q
   refine zZ (dE (h1.at fun o e=>up1 _ o D.i1z e) (hl1.at fun o e=>up1 _ o D.l1z e) hx fun g2 j1 sb2=>Ab ?_)
   have hTO2:IsPair g2 TO a b:=sb2.extBut _ _ D.TOi1 (up1 _ _ D.TOz hTO)
   refine zZ (Bk hTO2 rfl (zZ (wpAny_updateSeq_pair hTO2 fun g3 hTO3 sb3=>?_)))
   refine zZ (wpAny_letGo (Ab (zZ (zZ (wpAny_onRaise ?_)))))
   show wpAny _ _ (Builtin.SmallTypes.nextOf (.ref i2) >>= _) _ _ _
   have up3:∀c o,c≠z->c≠i1->c≠TO->s.heap.get? c=some o->g3.get? c=some o:=fun c o n1 n2 n3 e=>sb3.extBut _ _ n3 (sb2.extBut _ _ n2 (up1 _ _ n1 e))
   refine zZ (gk hh (h2.at fun o e=>up3 _ o D.i2z D.i12.symm D.TOi2.symm e) (hl2.at fun o e=>up3 _ o D.l2z D.l2i1 D.l2TO e) hy fun g4 e sb4 he=>?_)
   obtain⟨oe,hoe,hce⟩:=he
   have hz4:Zp g4 z TI TO .ellipsis f1':=sb4 _ _ D.i2z.symm (sb3.extBut _ _ D.TOz.symm (sb2.extBut _ _ D.i1z.symm hz1))
   have hez:e≠z:=fun q=>by subst q;rw[hz4] at hoe;cases hoe;simp at hce
   exact Bl hz4 (by simp) fun g5 _ sb5=>hE g5 e (fun c o c1 c2 c3 c4 q=>sb5.extBut _ _ c1 (sb4 _ _ c4 (up3 _ _ c1 c3 c2 q))) ⟨oe,sb5.extBut _ _ hez hoe,hce⟩
 | false =>
  simp only[Bi,if_false]
  refine zZ ?_
  rw[<- Array.forIn_toList]
  simp only[BF,List.forIn_nil]
  refine zZ (zZ (AN ?_))
  show wpAny _ _ (Builtin.SmallTypes.nextOf (.ref i1) >>= _) _ _ _
  have up1:∀c o,c≠z->s.heap.get? c=some o->g0.get? c=some o:=fun c o n e=>sb0.extBut _ _ n e
  cases hx:xs[k1]? with
  | none =>
   refine zZ (gk (s:={ s with heap:=g0 }) hh (h1.at fun o e=>up1 _ o D.i1z e) (hl1.at fun o e=>up1 _ o D.l1z e) hx fun g2 e sb2 he=>?_)
   exact hE g2 e (fun c o c1 _ c3 _ q=>sb2 _ _ c3 (up1 _ _ c1 q)) he
  | some x =>
   have hy:ys[k2]? = none:=by rcases hend with q | q;rw[hx] at q;cases q;exact q
   refine zZ (dE (s:={ s with heap:=g0 }) (h1.at fun o e=>up1 _ o D.i1z e) (hl1.at fun o e=>up1 _ o D.l1z e) hx fun g2 j1 sb2=>Ab ?_)
   replace sb2:Heap.SameBut i1 g0 g2:=sb2
   refine Ab (zZ (zZ (AN ?_)))
   show wpAny _ _ (Builtin.SmallTypes.nextOf (.ref i2) >>= _) _ _ _
   have up2:∀c o,c≠z->c≠i1->s.heap.get? c=some o->g2.get? c=some o:=fun c o n1 n2 e=>sb2.extBut _ _ n2 (up1 _ _ n1 e)
   refine zZ (gk hh (h2.at fun o e=>up2 _ o D.i2z D.i12.symm e) (hl2.at fun o e=>up2 _ o D.l2z D.l2i1 e) hy fun g4 e sb4 he=>?_)
   exact hE g4 e (fun c o c1 c2 c3 c4 q=>sb4 _ _ c4 (up2 _ _ c1 c3 q)) he
end
theorem gU (hT:s.TypeIs (.ref z) "zip")
    (h:wpAny (model prog w) A.in1 (Builtin.«zip.__next__» ⟨[.ref z],[]⟩) (fun fin s'=>∃v,fin=.done (.ret v)/\Q (some v) s') (fun e s'=>(∃o,s'.heap.get? (match e with | .ref a=>a | _=>0)=some o/\o.cls=.type "StopIteration")/\(∃a,e=.ref a)/\Q none s') s) :
    wpAny (model prog w) A (pyNext (.ref z)) Q E s:=by
 unfold pyNext
 refine zZ (wpAny_attempt (wpAny_callSpecial?_slot (name:=Str.ofString "__next__") hT F.slot_zip_next (wpAny_call_entry F.slot_zip_next hT F.entry_zip_next (wpAny_mono h (fun fin s' ⟨v,e,q⟩=>⟨v,e,Ab q⟩) fun e s' q=>?_) (F.args_zip_next_1 _))))
 obtain⟨⟨o,ho,hc⟩,⟨a,rfl⟩,q⟩:=q
 exact zZ (wpAny_isInstance (T:="StopIteration") (b:=true) ⟨o,ho,hc⟩ isSubtype_stop (Ab q))
def SqK:Bool->W.Frag->Hp->Addr->List V->Prop
 | true,K,H,a,xs=>SqT K H a xs
 | false,K,H,a,xs=>SqL K H a xs
theorem ItI.obj (j:ItI t h i l k):∃o,h.get? i=some o/\∀v,o.data≠.cell v:=by
 cases t
 ·obtain⟨o,e,_,d⟩:Heap.IsListIter h i l k:=j
  exact⟨o,e,fun v q=>by rw[d] at q;cases q⟩
 ·obtain⟨o,e,_,d⟩:Heap.IsTupleIter h i l k:=j
  exact⟨o,e,fun v q=>by rw[d] at q;cases q⟩
theorem Inv.sqK (I:Inv X pins σ H s) (h:SqK t X.K H a xs):∃its:List Value,Vals xs its/\SqI t s.heap a its.toArray:=by
 cases t
 ·obtain⟨its,r,p,_⟩:=I.list h
  exact⟨its,r,p.isList⟩
 ·obtain⟨its,r,p,_⟩:=I.tuple h
  exact⟨its,r,p⟩
theorem Inv.sqK_inj (I:Inv X pins σ H s) (h:SqK t X.K H a xs) (h':SqK t X.K H a ys):xs=ys:=by
 cases t
 ·exact I.list_inj h h'
 ·exact I.tuple_inj h h'
def Itg (t1 t2:Bool) (K:W.Frag) (a b:Addr):It :=
 ⟨fun i H=>∃xs ys x y,SqK t1 K H a xs/\SqK t2 K H b ys/\xs[i]? = some x/\ys[i]? = some y,
  fun i H v H'=>∃p x y,H p=none/\v=.ref p/\(∀xs,SqK t1 K H a xs->xs[i]? = some x)/\(∀ys,SqK t2 K H b ys->ys[i]? = some y)/\H'=upd H p (.tup [x,y]),
  fun i H=>∃xs ys,SqK t1 K H a xs/\SqK t2 K H b ys/\(xs.length<=i∨ys.length<=i)⟩
theorem lG {t1 t2:Bool}{P:Program}{w:World}{K:W.Frag}{nm:Str}{tp:Pos}(a b z TI TO i1 i2:Addr) (D:ZipApart z TI TO i1 i2 a b) :
    Turn P w K (.Name nm tp) (Itg t1 t2 K a b) [z,TI,TO,i1,i2] z (fun i h=>(∃f0 f1,F0 f0/\Zp h z TI TO f0 f1)/\IsPair h TI (.ref i1) (.ref i2)/\(∃c d,IsPair h TO c d)/\ItI t1 h i1 a i/\ItI t2 h i2 b i) where
 mem:=by simp
 obj:=fun i h st c hc=>by
  obtain⟨⟨f0,f1,_,hz⟩,hTI,⟨u,v,hTO⟩,h1,h2⟩:=st
  obtain⟨o1,e1,d1⟩:=h1.obj
  obtain⟨o2,e2,d2⟩:=h2.obj
  have hc:c=z∨c=TI∨c=TO∨c=i1∨c=i2:=by simpa using hc
  rcases hc with rfl | rfl | rfl | rfl | rfl
  ·exact⟨_,hz,fun v q=>by cases q⟩
  ·exact⟨_,hTI,fun v q=>by cases q⟩
  ·exact⟨_,hTO,fun v q=>by cases q⟩
  ·exact⟨_,e1,d1⟩
  ·exact⟨_,e2,d2⟩
 keep:=fun i h h' st k=>by
  obtain⟨⟨f0,f1,hf,hz⟩,hTI,⟨u,v,hTO⟩,h1,h2⟩:=st
  exact⟨⟨f0,f1,hf,k z (by simp) _ hz⟩,k TI (by simp) _ hTI,⟨u,v,k TO (by simp) _ hTO⟩,h1.at fun o e=>k i1 (by simp) o e,h2.at fun o e=>k i2 (by simp) o e⟩
 item := by
  intro X hP hw hK hc i pins s σ H E I hf st hg
  subst hP hw hK
  obtain⟨⟨f0,f1,hf0,hz⟩,hTI,⟨ta,tb,hTO⟩,h1,h2⟩:=st
  obtain⟨xs,ys,x,y,hqa,hqb,hx,hy⟩:=hg
  obtain⟨its,rv,pa⟩:=I.sqK hqa
  obtain⟨jts,rw',pb⟩:=I.sqK hqb
  obtain⟨u,hu,ru⟩:=rv.get hx
  obtain⟨v,hv,rv'⟩:=rw'.get hy
  refine gU ⟨_,hz,rfl⟩ (ve D hf0 hz hTI hTO h1 h2 pa pb (x:=u) (y:=v) (by simpa using hu) (by simpa using hv) fun h' f0' f1' hf' hz' hTO' j1 j2 hpr k=>⟨_,rfl,?_⟩)
  refine Ab (s:={ s with heap:=h' }) ?_
  have hp:H s.heap.objs.size=none:=I.hok.fresh (Aa _)
  have fr:∀c∈[z,TI,TO,i1,i2],H c=none:=fun c hc=>(hf c hc).1
  have nit:∀c o,H c=some o->c≠z/\c≠TO/\c≠i1/\c≠i2:=fun c o q=>by
   refine⟨?_,?_,?_,?_⟩ <;> (intro e;rw[e,fr _ (by simp)] at q;cases q)
  have up:∀c o,H c=some o->upd H s.heap.objs.size (.tup [x,y]) c=some o:=fun c o q=>by rw[af (ah q hp)];exact q
  have kk:∀c o,c∉[z,TO,i1,i2]->s.heap.get? c=some o->h'.get? c=some o:=fun c o n q=>k c o (fun e=>n (by simp[e])) (fun e=>n (by simp[e])) (fun e=>n (by simp[e])) (fun e=>n (by simp[e])) q
  have mem5:∀c∈[z,TO,i1,i2],c∈[z,TI,TO,i1,i2]:=fun c hc=>by simp at hc ⊢;rcases hc with e | e | e | e <;> simp[e]
  have hlt:∀c∈[z,TI,TO,i1,i2],c<s.heap.objs.size:=fun c hc=>by
   have hc:c=z∨c=TI∨c=TO∨c=i1∨c=i2:=by simpa using hc
   rcases hc with rfl | rfl | rfl | rfl | rfl
   ·exact Ah hz
   ·exact Ah hTI
   ·exact Ah hTO
   ·obtain⟨o,e,_⟩:=h1.obj;exact Ah e
   ·obtain⟨o,e,_⟩:=h2.obj;exact Ah e
  have I1:Inv X pins σ (upd H s.heap.objs.size (.tup [x, y])) { s with heap := h', gens := s.gens, drawn := s.drawn, toks := s.toks } := by
   refine I.step (g':=s.gens) (d':=s.drawn) (ch:=[z,TO,i1,i2]) (fun c hc=>?_) (fun c o _ _ n q _=>kk c o n q) (fun c o _ _ n q _=>⟨o.slots,kk c o n q⟩) (fun c o _ q n=>?_) (fun c o n q=>⟨o,kk c o n q⟩) (fun c ys q=>up c _ q) (fun c o v q=>up c _ q) (fun c ps q=>⟨#[],by rw[up c _ q];simp⟩) (fun m hm=>?_) (fun c o q=>?_) I.bare
   ·obtain⟨_,g1,_,g3,g4,g5⟩:=hf c (mem5 c hc)
    exact⟨g3,g1,g4,g5⟩
   ·rw[af (Ax (Ah q))];exact n
   ·obtain⟨o,es,ep,ho,r⟩:=hm
    refine⟨o,es,ep,kk _ o (fun n=>?_) ho,r⟩
    exact(hf _ (mem5 _ n)).2.1 rfl
   ·by_cases hb:c=s.heap.objs.size
    ·subst hb
     rw[ae] at q
     have q':HO.tup [x,y]=o:=Af q
     subst q'
     exact⟨by show 2<=sizeLine;decide,[u,v],.cons ru (.cons rv' .nil),⟨_,hpr,rfl,_,rfl,rfl⟩⟩
    ·rw[af hb] at q
     refine(I.hok c o q).stay (fun d o' hd q'=>?_) (fun d q=>up d _ q) fun d ys q=>up d _ q
     rcases hd with e | e
     ·rw[e] at q' ⊢;obtain⟨n1,n2,n3,n4⟩:=nit c o q;exact k c o' n1 n2 n3 n4 q'
     ·obtain⟨n1,n2,n3,n4⟩:=nit d _ e;exact k d o' n1 n2 n3 n4 q'
  refine⟨.ref s.heap.objs.size,upd H s.heap.objs.size (.tup [x,y]),I1,rfl,⟨_,x,y,hp,rfl,fun zs hz=>by rw[I.sqK_inj hz hqa];exact hx,fun zs hz=>by rw[I.sqK_inj hz hqb];exact hy,rfl⟩,⟨⟨f0',f1',hf',hz'⟩,?_,hTO',j1,j2⟩,fun c hc=>?_⟩
  ·exact k TI _ D.TIz D.TITO D.TIi1 D.TIi2 hTI
  ·rw[af (Ax (hlt c hc))];exact fr c hc
 done:=by
  intro X hP hw hK hc i pins s σ H E I hf st hg
  subst hP hw hK
  obtain⟨⟨f0,f1,hf0,hz⟩,hTI,⟨ta,tb,hTO⟩,h1,h2⟩:=st
  obtain⟨xs,ys,hqa,hqb,hxy⟩:=hg
  obtain⟨its,rv,pa⟩:=I.sqK hqa
  obtain⟨jts,rw',pb⟩:=I.sqK hqb
  have l1:=rv.length
  have l2:=rw'.length
  have hend:its.toArray[i]? = none∨jts.toArray[i]? = none:=by
   rcases hxy with q | q
   ·exact .inl (by simp;omega)
   ·exact .inr (by simp;omega)
  refine gU ⟨_,hz,rfl⟩ (xO (A:=X.A.in1) (show X.A.in1.handled=none from I.ok.hd hc) D hf0 hz hTI hTO h1 h2 pa pb hend fun h' e k he=>⟨he,⟨e,rfl⟩,rfl,?_⟩)
  have fr:∀c∈[z,TI,TO,i1,i2],H c=none:=fun c hc=>(hf c hc).1
  have nit:∀c o,H c=some o->c≠z/\c≠TO/\c≠i1/\c≠i2:=fun c o q=>by
   refine⟨?_,?_,?_,?_⟩ <;> (intro e;rw[e,fr _ (by simp)] at q;cases q)
  have kk:∀c o,c∉[z,TO,i1,i2]->s.heap.get? c=some o->h'.get? c=some o:=fun c o n q=>k c o (fun e=>n (by simp[e])) (fun e=>n (by simp[e])) (fun e=>n (by simp[e])) (fun e=>n (by simp[e])) q
  have mem5:∀c∈[z,TO,i1,i2],c∈[z,TI,TO,i1,i2]:=fun c hc=>by simp at hc ⊢;rcases hc with e | e | e | e <;> simp[e]
  refine I.step (h':=h') (g':=s.gens) (d':=s.drawn) (t':=s.toks) (ch:=[z,TO,i1,i2]) (fun c hc=>?_) (fun c o _ _ n q _=>kk c o n q) (fun c o _ _ n q _=>⟨o.slots,kk c o n q⟩) (fun c o _ q n=>n) (fun c o n q=>⟨o,kk c o n q⟩) (fun c ys q=>q) (fun c o v q=>q) (fun c ps q=>⟨#[],by rw[q];simp⟩) (fun m hm=>?_) (fun c o q=>?_) I.bare
  ·obtain⟨_,g1,_,g3,g4,g5⟩:=hf c (mem5 c hc)
   exact⟨g3,g1,g4,g5⟩
  ·obtain⟨o,es,ep,ho,r⟩:=hm
   refine⟨o,es,ep,kk _ o (fun n=>?_) ho,r⟩
   exact(hf _ (mem5 _ n)).2.1 rfl
  ·refine(I.hok c o q).stay (fun d o' hd q'=>?_) (fun d q=>q) fun d ys q=>q
   rcases hd with e | e
   ·rw[e] at q' ⊢;obtain⟨n1,n2,n3,n4⟩:=nit c o q;exact k c o' n1 n2 n3 n4 q'
   ·obtain⟨n1,n2,n3,n4⟩:=nit d _ e;exact k d o' n1 n2 n3 n4 q'
 self:=fun A i s Q E st h=>by
  obtain⟨⟨f0,f1,hf0,hz⟩,_⟩:=st
  have hT:s.TypeIs (.ref z) "zip":=⟨_,hz,rfl⟩
  refine wpAny_pyIter_slot hT F.slot_zip_iter (wpAny_call_entry F.slot_zip_iter hT F.entry_zip_iter ?_ (F.args_zip_iter_1 _))
  show wpAny _ _ (ret (.ref z)) _ _ s
  exact Ab ⟨_,rfl,"zip",_,hT,F.slot_zip_next.lookup,h⟩
def Itz (K:W.Frag) (a b:Addr):It :=
 ⟨fun i H=>∃xs ys x y,SqL K H a xs/\SqL K H b ys/\xs[i]? = some x/\ys[i]? = some y,
  fun i H v H'=>∃p x y,H p=none/\v=.ref p/\(∀xs,SqL K H a xs->xs[i]? = some x)/\(∀ys,SqL K H b ys->ys[i]? = some y)/\H'=upd H p (.tup [x,y]),
  fun i H=>∃xs ys,SqL K H a xs/\SqL K H b ys/\(xs.length<=i∨ys.length<=i)⟩
theorem nS {P:Program}{w:World}{K:W.Frag}{nm:Str}{tp:Pos}(a b z TI TO i1 i2:Addr) (D:ZipApart z TI TO i1 i2 a b) :
    Turn P w K (.Name nm tp) (Itz K a b) [z,TI,TO,i1,i2] z (fun i h=>(∃f0 f1,F0 f0/\Zp h z TI TO f0 f1)/\IsPair h TI (.ref i1) (.ref i2)/\(∃c d,IsPair h TO c d)/\h.IsListIter i1 a i/\h.IsListIter i2 b i) :=
 lG (t1:=false) (t2:=false) a b z TI TO i1 i2 D
def yP (K:W.Frag) (ta:TA):TI:=fun σ H R=>ta σ H fun vs H1=>∃a b xs ys,vs=[.ref a,.ref b]/\SqL K H1 a xs/\SqL K H1 b ys/\R (Itz K a b) H1
theorem um (K:W.Frag) {X:Cx}{nm:Str}{tp:Pos}{a b:Expr}{ta:TA}{p pos:Pos}(hg:Gl X "zip") (hm:X.mg "zip"=none) (ha:PA X [a,b] ta) (hs:starEach [a,b] X.env=(false,eval a X.env)::starEach [b] X.env:=by rfl) (hpl:(backTo pos (starEach [b] X.env)).any (·.1)=false:=by rfl) (hK:X.K=K:=by rfl) :
    PI X (.Name nm tp) (.Call (.Name "zip" p) [a,b] [] pos) (yP K ta):=by
 subst hK
 intro pins s σ H R I h
 refine Call_ (di I hg hm (show bootBuiltins "zip"=some (.type "zip") by decide +kernel) (PyProof.Rows.callWith_type1 (thn (ha pos pins s σ H _ I h) fun us s1 ⟨vs,H1,I1,r1,q1⟩=>?_) hs hpl))
 obtain⟨l1,l2,xs,ys,e,hqa,hqb,q⟩:=q1
 subst e
 obtain⟨u1,u2,rfl,r1,r2⟩:=fH r1
 cases r1
 cases r2
 obtain⟨its,rv,pa,_⟩:=I1.list hqa
 obtain⟨jts,rw',pb,_⟩:=I1.list hqb
 have a1:l1<s1.heap.objs.size:=by obtain⟨_,e,_⟩:=pa.isList;exact Ah e
 have a2:l2<s1.heap.objs.size:=by obtain⟨_,e,_⟩:=pb.isList;exact Ah e
 refine call_zip_2 pa.isList pb.isList fun h' hz hTI hTO hi1 hi2 _ hk=>?_
 have T:=nS (P:=X.prog) (w:=X.w) (K:=X.K) (nm:=nm) (tp:=tp) l1 l2 _ _ _ _ _ (zipApart_new a1 a2)
 have t0:(∃f0 f1,F0 f0/\Zp h' (s1.heap.objs.size+4) (s1.heap.objs.size+2) (s1.heap.objs.size+3) f0 f1)/\IsPair h' (s1.heap.objs.size+2) (.ref s1.heap.objs.size) (.ref (s1.heap.objs.size+1))/\(∃c d,IsPair h' (s1.heap.objs.size+3) c d)/\h'.IsListIter s1.heap.objs.size l1 0/\h'.IsListIter (s1.heap.objs.size+1) l2 0:=⟨⟨_,_,.inl rfl,hz⟩,hTI,⟨_,_,hTO⟩,hi1,hi2⟩
 refine T.self X.A 0 { s1 with heap:=h' } _ _ t0 ?_
 refine⟨_,_,_,_,H1,rfl,I1.kept (t':=s1.toks) hk,T,t0,fun b hb=>?_,q⟩
 have hb:b=s1.heap.objs.size+4∨b=s1.heap.objs.size+2∨b=s1.heap.objs.size+3∨b=s1.heap.objs.size∨b=s1.heap.objs.size+1:=by simpa using hb
 have hle:s1.heap.objs.size<=b:=by rcases hb with e | e | e | e | e <;> rw[e] <;> first | exact Aa _ | exact BM _ _
 exact I1.fpOk hle (I1.hok.fresh hle)
theorem vq {K:W.Frag}{k:Nat}{fr:List Nat}{g:TG}{tc:TT}{te:TE}{σ:St}{H1:Hp}{Q:VK}{a b:Addr}(xs ys:List V) (Pv:Addr -> Nat -> List V -> St -> Hp -> Prop)
    (h:∀D,H1 D=none->Pv D 0 [] (eV k fr σ) (upd H1 D (.lst []))/\(∀i acc σ' H',i<=(xs.zip ys).length->Pv D i acc σ' H'->H' D=some (.lst acc)->SqL K H' a xs/\SqL K H' b ys) /\
     (∀i acc σ' H' x y p,(xs.zip ys)[i]? = some (x,y)->Pv D i acc σ' H'->H' D=some (.lst acc)->H' p=none->g (.ref p) σ' (upd H' p (.tup [x,y])) fun σ2 H3=>tc σ2 H3 fun b H4 =>
      if b=true then te σ2 H4 fun y H5=>H5 D=some (.lst acc)/\acc.length<sizeLine/\Pv D (i+1) (acc++[y]) σ2 (upd H5 D (.lst (acc++[y]))) else H4 D=some (.lst acc)/\Pv D (i+1) acc σ2 H4) /\
     ∀acc σ' H',Pv D (xs.zip ys).length acc σ' H'->H' D=some (.lst acc)->Q (.ref D) H'):ef k fr g tc te (Itz K a b) σ H1 Q:=by
 intro D hD
 obtain⟨h0,hok,hs,hd⟩:=h D hD
 refine⟨fun i m acc σ' H'=>m=(xs.zip ys).length-i/\i<=(xs.zip ys).length/\Pv D i acc σ' H',⟨(xs.zip ys).length,by simp,AC _,h0⟩,?_⟩
 rintro i m acc σ' H' ⟨rfl,hi,p⟩ hacc
 obtain⟨oka,okb⟩:=hok i acc σ' H' hi p hacc
 have hl:(xs.zip ys).length=min xs.length ys.length:=A3
 by_cases hlt:i<(xs.zip ys).length
 ·refine .inr ⟨⟨xs,ys,xs[i]'(by omega),ys[i]'(by omega),oka,okb,by simp,by simp⟩,Pv D (i+1),fun acc' σ2 H2 p'=>⟨(xs.zip ys).length-(i+1),by omega,rfl,hlt,p'⟩,fun v H2 yl=>?_⟩
  obtain⟨q,x,y,hq,rfl,hx,hy,rfl⟩:=yl
  refine hs i acc σ' H' x y q ?_ p hacc hq
  rw[AT]
  exact⟨hx xs oka,hy ys okb⟩
 ·have e:i=(xs.zip ys).length:=by omega
  subst e
  exact .inl ⟨⟨xs,ys,oka,okb,by omega⟩,hd acc σ' H' p hacc⟩
inductive Thg (H:Hp):V->Prop
 | non:Thg H .non
 | bl (b:Bool):Thg H (.bl b)
 | int (i:Int):Thg H (.int i)
 | str {z:Str}:z.length<=sizeLine->Thg H (.str z)
 | lst {a:Addr} {xs:List V}:H a=some (.lst xs)->Thg H (.ref a)
 | tup {a:Addr} {xs:List V}:H a=some (.tup xs)->Thg H (.ref a)
 | dK {a:Addr} {kvs:List (Key × V)}:H a=some (.dK kvs)->Thg H (.ref a)
 | dT {a:Addr} {kvs:List (List Key × V)}:H a=some (.dT kvs)->Thg H (.ref a)
def isS:V->Bool
 | .str _=>true
 | _=>false
def isI:V->Bool
 | .int _ | .bl _=>true
 | _=>false
def isB:V->Bool
 | .bl _=>true
 | _=>false
def isL (H:Hp):V->Bool
 | .ref a=>match H a with
  | some (.lst _)=>true
  | _=>false
 | _=>false
def isT (H:Hp):V->Bool
 | .ref a=>match H a with
  | some (.tup _)=>true
  | _=>false
 | _=>false
theorem zB (e:H a=some (.lst xs)):isL H (.ref a)=true:=by show (match H a with | some (.lst _)=>true | _=>false)=true;rw[e]
theorem yr (e:H a=some (.tup xs)):isT H (.ref a)=true:=by show (match H a with | some (.tup _)=>true | _=>false)=true;rw[e]
theorem ly (e:H a=some o) (n:∀xs,o≠.lst xs):isL H (.ref a)=false:=by
 show (match H a with | some (.lst _)=>true | _=>false)=false
 rw[e];split
 ·rename_i xs q;exact absurd (Af q) (n xs)
 ·rfl
theorem kI (e:H a=some o) (n:∀xs,o≠.tup xs):isT H (.ref a)=false:=by
 show (match H a with | some (.tup _)=>true | _=>false)=false
 rw[e];split
 ·rename_i xs q;exact absurd (Af q) (n xs)
 ·rfl
theorem oH {K:W.Frag}{H:Hp}{x:V}(h:Thg H x):∃t,TyOf K H x t/\W.kitOne K t (.type "str")=some (isS x)/\W.kitOne K t (.type "int")=some (isI x)/\W.kitOne K t (.type "bool")=some (isB x) /\
    W.kitOne K t (.type "list")=some (isL H x)/\W.kitOne K t (.type "tuple")=some (isT H x):=by
 cases h with
 | non=>exact⟨_,.non,by rfl,by rfl,by rfl,by rfl,by rfl⟩
 | bl b=>exact⟨_,.bl b,by rfl,by rfl,by rfl,by rfl,by rfl⟩
 | int i=>exact⟨_,.int i,by rfl,by rfl,by rfl,by rfl,by rfl⟩
 | str z=>exact⟨_,.str _,by rfl,by rfl,by rfl,by rfl,by rfl⟩
 | lst e=>exact⟨_,.lst e,by rfl,by rfl,by rfl,by rw[zB e];rfl,by rw[kI e (fun _ z=>by cases z)];rfl⟩
 | tup e=>exact⟨_,.tup e,by rfl,by rfl,by rfl,by rw[ly e (fun _ z=>by cases z)];rfl,by rw[yr e];rfl⟩
 | dK e=>exact⟨_,.dK e,by rfl,by rfl,by rfl,by rw[ly e (fun _ z=>by cases z)];rfl,by rw[kI e (fun _ z=>by cases z)];rfl⟩
 | dT e=>exact⟨_,.dT e,by rfl,by rfl,by rfl,by rw[ly e (fun _ z=>by cases z)];rfl,by rw[kI e (fun _ z=>by cases z)];rfl⟩
theorem ux (c d:Nat):decide ([c]<[d])=decide (c<d):=by
 by_cases h:c<d
 ·rw[Ai h];exact Ai (List.Lex.rel h)
 ·rw[Ay h]
  refine Ay fun z=>?_
  cases z with
  | rel z=>exact h z
  | cons z=>cases z
def pK (e:Str × Str):List Key:=[.inr e.1,.inr e.2]
theorem yk (h:pK e=pK f):e=f:=by
 unfold pK at h
 have h1:=List.cons.inj h
 have h2:=List.cons.inj h1.2
 exact Prod.ext (Sum.inr.inj h1.1) (Sum.inr.inj h2.1)
section
variable {X:Cx}{p pos p2 pos2:Pos}{e f:Expr}{t:TA}
inductive IntR (H:Hp):V->VK->Prop
 | int {i:Int} {Q:VK}:Q (.int i) H->IntR H (.int i) Q
 | bl {b:Bool} {Q:VK}:Q (.int (if b then 1 else 0)) H->IntR H (.bl b) Q
theorem wG (B:Blt X.mg) (ha:PA X [e] t) (hg:Gl X "int":=by rfl) (he:starEach [e] X.env=(false,eval e X.env)::starEach [] X.env:=by rfl) (hpl:(backTo pos (starEach [] X.env)).any (·.1)=false:=by rfl) :
    PE X (.Call (.Name "int" p) [e] [] pos) (tCB (fun xs H Q=>∃x,xs=[x]/\IntR H x Q) t):=by
 refine fk (r:=fun xs H Q=>∃x,xs=[x]/\IntR H x Q) (fun pins s σ H xs us Q I r h=>?_) hg B.int PyProof.Rows.boot_int ha (by decide) (by decide) he hpl
 obtain⟨x,rfl,h⟩:=h
 cases h with
 | int q=>exact mi pins s σ H _ us Q I r (.inl ⟨_,rfl,q⟩)
 | bl q=>exact mi pins s σ H _ us Q I r (.inr ⟨_,rfl,q⟩)
theorem w8 (B:Blt X.mg) (hg:Gl X "tuple":=by rfl):PE X (.Name "tuple" p) (tC (.ty "tuple")):=pV hg B.tuple (show bootBuiltins "tuple"=some (.type "tuple") by decide +kernel) rfl
end
end L2
namespace MG
variable {es:List (Nat × Nat)}{goal:Nat}
theorem Wy.last (h:Wy es goal k a ws):ws.getLast? = some goal:=by
 induction k generalizing a ws with
 | zero=>rw[h.2,h.1];rfl
 | succ k ih =>
  obtain⟨b,r,rfl,_,w⟩:=h
  have:=ih w
  cases r with
  | nil=>simp at this
  | cons c r=>rw[List.getLast?_cons_cons];exact this
end MG
namespace L2
open PySem PySem.Spec PyProof.Rows PySem.Builtin PySem.Builtin.Str
theorem oa {z:Str}{j:Nat}(h:j<=z.length):(Txt.slice z none (some (j:Int))).length=j:=by
 have e:Txt.slice z none (some (j:Int))=StrLaws.sliceText z none (some (j:Int)):=rfl
 rw[e,StrLaws.sliceText_to ⟨by omega,by simp[Str.length] at h ⊢;omega⟩]
 show (List.take _ _).toArray.size=j
 rw[Au]
 simp[Str.length] at h ⊢
 omega
def Lo (t:Str):Prop:=∀x∈t.cps.toList,97<=x/\x<=122
theorem Lo.nil:Lo "":=fun c hc=>by
 have hc:c∈("":Str).cps.toList:=hc
 rw[show ("":Str).cps.toList=[] by decide +kernel] at hc
 cases hc
theorem Lo.one (h:97<=c/\c<=122):Lo ⟨#[c]⟩:=fun d hd=>by
 have:d=c:=by simpa using hd
 omega
theorem Lo.app (hx:Lo x) (hy:Lo y):Lo (x++y):=fun c hc=>by
 have hc:c∈(x.cps++y.cps).toList:=hc
 rw[Array.toList_append] at hc
 rcases Aj.mp hc with h | h
 ·exact hx c h
 ·exact hy c h
theorem Lo.slice (h:Lo x) (l u:Option Int):Lo (Txt.slice x l u):=by
 unfold Txt.slice
 split
 ·exact h
 ·intro c hc
  have hc:c∈(List.filterMap (x.cps[·]?) (strSliceIndices l u 1 x.length)).toArray.toList:=hc
  rw[List.toList_toArray] at hc
  obtain⟨i,_,e⟩:=BE.mp hc
  exact h c (by simpa using Array.mem_of_getElem? e)
theorem Lo.joinS (hs:Lo sep):∀ {ys:List Str},(∀y∈ys,Lo y)->Lo (Str.join sep ys)
 | [],_=>fun c hc=>by
  have hc:c∈(#[]:Array Nat).toList:=hc
  simp at hc
 | [y],h=>h y (by simp)
 | y::z::r,h=>by
  show Lo (y++sep++Str.join sep (z::r))
  exact((h y (by simp)).app hs).app (Lo.joinS hs fun x hx=>h x (AF _ hx))
theorem Lo.join (hs:Lo sep) (h:∀y∈ys,Lo y):Lo (Txt.join sep ys):=by
 unfold Txt.join
 rw[StrLaws.glued_eq_join]
 exact Lo.joinS hs h
theorem Lo.nm (h:Lo z) (h1:1<=z.length) (h2:z.length<=8):Nm z:=⟨h1,h2,h⟩
def abc (j:Int):Str:=⟨#[97+j.toNat]⟩
theorem zp (h0:0<=j) (h1:j<26):Lo (abc j):=Lo.one (by omega)
theorem nO (h0:0<=j) (h1:j<26):atI ("abcdefghijklmnopqrstuvwxyz":Str).cps.toList j=some (97+j.toNat):=by
 obtain⟨k,rfl⟩:=AX h0
 have hk:k<26:=by omega
 exact(by decide +kernel:∀k:Nat,k<26->atI ("abcdefghijklmnopqrstuvwxyz":Str).cps.toList (k:Int)=some (97+(k:Int).toNat)) k hk
theorem uM (h:∀y∈ys,y.length=1):(Txt.join "" ys).length=ys.length:=by
 have e0:("":Str).length=0:=by decide +kernel
 unfold Txt.join
 rw[size_glued,e0,Nat.mul_zero,Nat.add_zero]
 induction ys with
 | nil=>rfl
 | cons y r ih =>
  have h1:=h y (by simp)
  have h2:=ih fun z hz=>h z (AF _ hz)
  simp only[AD,List.sum_cons,Aw]
  omega
theorem oF (f:Nat->α) (m:Nat) (h:∀i j,i<j->j<m->f i≠f j):((List.range m).map f).Nodup:=by
 rw[List.nodup_iff_pairwise_ne,List.pairwise_map]
 refine List.Pairwise.imp_of_mem ?_ (BN (n:=m))
 intro a b ha hb hab
 exact h a b hab (AM.mp hb)
theorem rL (f:Nat->α) (i:Nat):(List.range (i+1)).map f=(List.range i).map f++[f i]:=by rw[List.range_succ,Ae];rfl
theorem iy:starEach (.Constant c j p::es) env=(false,eval (.Constant c j p) env)::starEach es env:=rfl
end L2
namespace L2
open PySem PySem.Spec PyProof.Rows
section
variable {X:Cx}{p pos p2 pos2:Pos}{e f:Expr}{t:TA}
theorem qV:MtR X "list.extend" kM:=ur
theorem pf:MtR X "list.reverse" je:=rm
theorem nN (K:W.Frag) (ho:PE X o to) (ha:PA X [e] t)
    (hbase:attributeBase o "extend" X.env (eval o X.env)=eval o X.env:=by rfl)
    (hfew:((backTo cpos (starEach [e] X.env)).all (fun x=>!x.1)&&(backToKw cpos (keywordEach [] X.env)).all (fun x=>x.1.isSome)
     && decide ([e].length+([]:List Keyword).length+(if ([]:List Keyword).isEmpty then 0 else 1)<30))=true:=by rfl)
    (hline:(apos.endLine==cpos.line)=true:=by rfl) (hs:starEach [e] X.env=(false,eval e X.env)::starEach [] X.env:=by rfl) (hplain:(backTo cpos (starEach [] X.env)).any (·.1)=false:=by rfl) (hK:X.K=K:=by rfl) :
    PE X (.Call (.Attribute o "extend" apos) [e] [] cpos) (tBM K "list" kM to t):=hK ▸ jU PySem.F.plainAttrs_list PySem.F.slot_list_extend PySem.F.type_list_extend qV ho ha hbase hfew hline hs hplain
theorem sf (K:W.Frag) (ho:PE X o to) (hbase:attributeBase o "reverse" X.env (eval o X.env)=eval o X.env:=by rfl) (hline:(apos.endLine==cpos.line)=true:=by rfl) (hK:X.K=K:=by rfl) :
    PE X (.Call (.Attribute o "reverse" apos) [] [] cpos) (yw K "list" je to):=hK ▸ zc PySem.F.plainAttrs_list PySem.F.slot_list_reverse PySem.F.type_list_reverse pf ho hbase hline
end
theorem iG (xs:List V) (k:Nat):cL xs (some (k:Int)) none=xs.drop k:=by
 unfold cL
 rw[HT.sIx_nat,HT.sIx_none]
 by_cases h:k<=xs.length
 ·rw[Nat.min_eq_left h,Ak (by rw[AY];omega)]
 ·rw[Nat.min_eq_right (by omega),A7 (Aa _),A7 (by omega)];simp
theorem w4 (xs:List V) (k:Nat) (h:k<=xs.length):cL xs none (some (k:Int))=xs.take k:=by
 unfold cL
 rw[HT.sIx_nat,HT.sIx_none,Nat.min_eq_left h,List.drop_zero,Nat.sub_zero]
theorem rV {α:Type}{M:Model}{m:Sem (Option α)}{P:α->Shared->Prop}
    (h:wpAny M A m (fun r s1=>∃u,r=some u/\wpAny M A (pure ():Sem Unit) (fun _ s2=>P u s2) E s1) E s):wpAny M A m (fun r s1=>∃u,r=some u/\P u s1) E s:=by
 intro Γ p hΓ
 exact Sem.wp_mono M Γ m (fun r p' s1 ⟨u,e,q⟩=>⟨u,e,q Γ p' hΓ⟩) (fun _ _ _ z=>z) p s (h Γ p hΓ)
theorem Inv.atA (I:Inv X pins σ H s) (A':Around) (h1:A'.handled=X.A.handled) (h2:A'.frames=X.A.frames):Inv { X with A:=A' } pins σ H s :=
 ⟨⟨I.ok.mod,I.ok.kind,I.ok.glob,I.ok.blt,I.ok.above,I.ok.inj,I.ok.has,I.ok.cab,fun c=>h1.trans (I.ok.hd c),h2.trans I.ok.frames,I.ok.stk,I.ok.exf,I.ok.bs,I.ok.bsz,I.ok.noex,I.ok.exfs,I.ok.funs,I.ok.frf⟩,
  I.os,I.bare,I.base,I.loc,I.cell,I.free,I.freeC,I.pin,I.hok,I.len⟩
theorem Inv.ofA (ok:X.Ok) (I:Inv { X with A:=A' } pins σ H s):Inv X pins σ H s :=
 ⟨ok,I.os,I.bare,I.base,I.loc,I.cell,I.free,I.freeC,I.pin,I.hok,I.len⟩
theorem kx:typeLookup (.type "tuple") "keys"=pure none:=am_miss_of_fast (by decide +kernel)
theorem mM:typeLookup (.type "zip") "keys"=pure none:=am_miss_of_fast (by decide +kernel)
section
variable {prog:Program}{w:World}{A:Around}{E:Value->Shared->Prop}{s:Shared}
theorem oS 
    (hx:s.heap.get? a=some o) (hc:o.cls=.type "tuple") (hdat:o.data=.seq xs k) (hd:o.dict=none) (hA:A.handled=none)
    (h:∀h' tk,(∀b ob,s.heap.get? b=some ob->h'.get? b=some ob)->Q none { s with heap:=h',toks:=tk }) :
    wpAny (model prog w) A (getAttr? (.ref a) "keys") Q E s:=by
 obtain⟨c,dct,dat,sl⟩:=o
 simp only at hc hdat hd
 subst hc hdat hd
 obtain⟨hp,g,d,tk,os⟩:=s
 have hT:∀tk',(⟨hp,g,d,tk',os⟩:Shared).TypeIs (.ref a) "tuple":=fun _=>⟨_,hx,rfl⟩
 have f1:=sub_AttributeError
 have f3:=F.slot_tuple_getattribute.lookup
 have f4:=F.slot_tuple_getattribute.bind (.ref a)
 have f5:=am_tuple_getattr_none
 unfold getAttr? getAttrBy? getAttrBy
 repeat (any_goals (first | assumption | exact hT _ | ((with_reducible show wpAny _ _ (call (Value.builtin "tuple.__getattribute__") _ _) _ _ _);refine call_meets F.slot_tuple_getattribute (hT _) am_entry_tuple_getattribute (F.args_tuple_getattribute_2 _ _) (meets_getattribute_miss_tuple a xs k sl "keys" _ kx (by decide +kernel)) ⟨hx,hA,fun h' tk' e hx'=>?_⟩) | wp_step))
 obtain⟨t',u',he⟩:=hx'.there
 show wpAny _ _ (getattributeRaised _ _ _ _ _ _ _) _ _ _
 unfold getattributeRaised
 repeat (any_goals (first | assumption | wp_step))
 exact h _ _ hx'.keeps
end
namespace DU
theorem entry_loop:entryFor table "dict.update.loop"=some Builtin.«dict.update.loop»:=entryFor_of_fast (by kernel_rfl)
theorem plain_loop:plainId "dict.update.loop"=true:=by decide +kernel
end DU
section
variable {X:Cx}{pins:List (Addr × Obj)}{σ:St}{H:Hp}{s:Shared}{a:Addr}{y v:V}{u r:Value}{A:Around}{E:Value->Shared->Prop}
theorem uK (hu:A.units<cLine) (I:Inv X pins σ H s) (g:DPut H a y v H') (ry:RelV y u) (rv:RelV v r) (h:∀s',Inv X pins σ H' s'->(∀b o,b≠a->s.heap.get? b=some o->s'.heap.get? b=some o)->Q () s') :
    wpAny (model X.prog X.w) A (dictSet a u r) Q E s:=by
 rcases g with⟨kvs,k,e,ey,l,eH⟩ | ⟨kvs,k,b,e,ey,eb,l,eH⟩
 ·subst ey eH
  obtain⟨z,hd,vs,rel,dd⟩:=rQ I.hok e
  have hz:vs.length<=sizeLine:=by rw[<- rel.length];exact z
  have hl:(bi kvs k v).length<=sizeLine:=by have:=bw kvs k v;omega
  refine wpAny_dictSet_pairs (hsz:=hz) (fA ry) dd fun h' dd' hs=>h _ ?_ fun b o n q=>hs.extBut _ _ n q
  have he:∃q,h'.get? a=some q:=let ⟨q,_,_,hq,_⟩:=dd';⟨q,hq⟩
  exact gJ I (by rw[e];exact True.intro) hs he (nh hl hd (rel.put k rv) dd')
 ·subst ey eH
  cases (show u=Value.ref b from ry)
  obtain⟨z,hd,xs,rel,dd⟩:=wI I.hok e
  have hz:xs.length<=sizeLine:=by rw[<- Paired.length rel];exact z
  have hl:(bi kvs k v).length<=sizeLine:=by have:=bw kvs k v;omega
  refine wpAny_dictSet_heap (hsz:=hz) hu (gE I.hok eb) dd fun h' dd' hs=>h _ ?_ fun b o n q=>hs.extBut _ _ n q
  obtain⟨q,es,ep,hq,h2,h3,h4,_,h5⟩:=dd'
  refine gJ I (by rw[e];exact True.intro) hs ⟨q,hq⟩ ⟨hl,hd,_,(rel.put k eb rv).keeps fun c ys ec=>?_,q,es,ep,hq,h2,h3,h4,h5⟩
  rw[af (ba ec e (fun z=>nomatch z))]
  exact ec
theorem DPut.at_ (g:DPut H a y v H'):(∃o,H a=some o)/\∀b,b≠a->H' b=H b:=by
 rcases g with⟨kvs,k,e,ey,l,eH⟩ | ⟨kvs,k,b,e,ey,eb,l,eH⟩
 ·exact⟨⟨_,e⟩,fun b n=>by rw[eH,af n]⟩
 ·exact⟨⟨_,e⟩,fun b n=>by rw[eH,af n]⟩
end
theorem mr (T:Turn X.prog X.w X.K (.Name nm tp) J fp it tn) (hc:X.calm=true) (hu:X.A.units+64<cLine) (d:Addr) (n:Nat) (Dv:Nat -> Hp -> Prop)
    (go:∀i H,i<n->Dv i H->J.go i H/\∀x H1,J.yld i H x H1->∃b k v H2,x=.ref b/\SqT X.K H1 b [k,v]/\DPut H1 d k v H2/\Dv (i+1) H2)
    (stop:∀H,Dv n H->J.stop n H):∀(k i:Nat) (j:Int) (s:Shared) (H:Hp),n-i=k->i<=n->Inv X pins σ H s->(∀b∈fp,ed X pins H b)->tn i s.heap->Dv i H ->
     (∀H' s',Inv X pins σ H' s'->Dv n H'->R (.ok (.ret .none)) s')->codeAny (model X.prog X.w) X.A.in1 (.builtin "dict.update.loop" ⟨[.ref d,.ref it,rawInt j,.none],[]⟩) R s:=by
 intro k
 induction k with
 | zero =>
  intro i j s H hk hi I hf ht hd hR
  have hin:i=n:=by omega
  subst hin
  refine codeAny_builtin DU.entry_loop ?_
  rw[Around.under_plainId DU.plain_loop _]
  show wpAny _ X.A.in1.in1 (pyNext (.ref it) >>= _) _ _ s
  refine zZ (wpAny_mono (T.done { X with A:=X.A.in1.in1 } rfl rfl rfl hc i pins s σ H _ (I.atA _ rfl rfl) hf ht (stop H hd)) (fun r s1 ⟨e,I1⟩=>?_) fun _ _ z=>z)
  subst e
  show wpAny _ _ (Builtin.Dict.addKeywords d [] >>= _) _ _ _
  exact zZ (Ab (Ab (hR H s1 (Inv.ofA I.ok I1) hd)))
 | succ k ih =>
  intro i j s H hk hi I hf ht hd hR
  have hlt:i<n:=by omega
  obtain⟨hg,hy⟩:=go i H hlt hd
  refine codeAny_builtin DU.entry_loop ?_
  rw[Around.under_plainId DU.plain_loop _]
  show wpAny _ X.A.in1.in1 (pyNext (.ref it) >>= _) _ _ s
  refine zZ (wpAny_mono (rV (T.item { X with A:=X.A.in1.in1 } rfl rfl rfl hc i pins s σ H _ (I.atA _ rfl rfl) hf ht hg)) (fun r s1 ⟨u,e,x,H1,I1,rx,yl,t1,fn⟩=>?_) fun _ _ z=>z)
  subst e
  replace I1:=Inv.ofA I.ok I1
  obtain⟨b,kk,v,H2,ex,sq,dp,dv⟩:=hy x H1 yl
  subst ex
  cases (show u=Value.ref b from rx)
  obtain⟨its,rv,pt,hz⟩:=I1.tuple sq
  obtain⟨u1,u2,e2,r1,r2⟩:=fH rv
  subst e2
  obtain⟨o,ho,hcl,m,hdt⟩:=pt
  show wpAny _ _ (holding [Value.ref b] _ >>= _) _ _ _
  refine zZ (AN ?_)
  show wpAny _ _ (Sem.tryCatch (Builtin.Dict.pairItems (Value.ref b)) _ >>= _) _ _ _
  refine zZ (wpAny_tryCatch ?_)
  unfold Builtin.Dict.pairItems
  refine zZ (wpAny_typeOf (T:="tuple") ⟨o,ho,hcl⟩ ?_)
  simp only[show ((Value.type "tuple"==Value.type "list")||(Value.type "tuple"==Value.type "tuple"))=true from rfl,if_true]
  unfold seqItems?
  refine zZ (zZ (wpAny_load ho ?_))
  rw[hdt]
  refine Ab (Ab ?_)
  show wpAny _ _ (holding [u1,u2] (dictSet d u1 u2)) _ _ _
  have hu':X.A.in1.in1.units<cLine:=by show X.A.units+1+1<cLine;omega
  refine AN (uK hu' I1 dp r1 r2 fun s2 I2 hk2=>?_)
  have dn:∀b∈fp,b≠d:=fun b hb q=>by
   obtain⟨o,eo⟩:=dp.at_.1
   rw[<- q,fn b hb] at eo
   cases eo
  refine Ab ⟨plainId_quiet DU.plain_loop _,ih (i+1) (j+1) s2 H2 (by omega) hlt I2 (fun b hb=>?_) (T.keep _ _ _ t1 fun b hb o q=>hk2 b o (dn b hb) q) dv hR⟩
  obtain⟨_,f1,f2,f3,f4,f5⟩:=hf b hb
  exact⟨(dp.at_.2 b (dn b hb)).trans (fn b hb),f1,f2,f3,f4,f5⟩
theorem Rd.fresh (r:Rd H a u) (hl:H l=none):Rd (upd H l o) a u:=by
 have n:a≠l:=fun e=>by subst e;rcases r with r | ⟨_,r⟩ <;> rw[hl] at r <;> cases r
 unfold Rd
 rw[af n]
 exact r
theorem SqT.fresh {K:W.Frag}{H:Hp}{a l:Addr}{xs:List V}{o:HO}(r:SqT K H a xs) (hl:H l=none):SqT K (upd H l o) a xs:=by
 rcases r with r | r
 ·exact Or.inl (r.fresh hl)
 ·exact Or.inr r
theorem wo [DecidableEq κ]:∀(ps:List (κ × V)) (m:List (κ × V)),(ps.foldl (fun m q=>bi m q.1 q.2) m).length<=m.length+ps.length:=by
 intro ps
 induction ps with
 | nil=>intro m;exact Aa _
 | cons q r ih =>
  intro m
  have h1:=ih (bi m q.1 q.2)
  have h2:=bw m q.1 q.2
  rw[List.foldl_cons,Aw]
  omega
def mkK [DecidableEq κ] (ps:List (κ × V)):List (κ × V):=ps.foldl (fun m q=>bi m q.1 q.2) []
theorem uh [DecidableEq κ] (ps:List (κ × V)):(mkK ps).length<=ps.length:=by
 have:=wo ps []
 rw[List.length_nil,Nat.zero_add] at this
 exact this
theorem nK [DecidableEq κ] (ps:List (κ × V)) (i:Nat) (q:κ × V) (h:ps[i]? = some q):mkK (ps.take (i+1))=bi (mkK (ps.take i)) q.1 q.2:=by
 unfold mkK
 rw[Am,h,List.foldl_append]
 rfl
namespace SP
open PySem.Builtin PySem.Builtin.Str PySem.StrLaws
abbrev one (c:Nat):Str:=⟨#[c]⟩
end SP
end L2
namespace L2
open PySem PySem.Spec PyProof.Rows
section
variable {prog:Program}{w:World}{A:Around}{E:Value->Shared->Prop}{s:Shared}
theorem jZ (hne:t≠it):∀(n i:Nat) (s:Shared) (Q:List Value->Shared->Prop),s.heap.IsListIter it t i->s.heap.IsList t items->i+n<=items.size ->
    (∀h',h'.IsListIter it t (i+n)->Heap.SameBut it s.heap h'->Q ((items.toList.drop i).take n) { s with heap:=h' })->wpAny (model prog w) A (draw (.ref it) n) Q E s
 | 0,i,s,Q,hit,_,_,hQ=>by
  show wpAny _ _ (pure []) Q E s
  exact Ab (by simpa using hQ s.heap hit (Heap.SameBut.refl ..))
 | n+1,i,s,Q,hit,ht,hle,hQ=>by
  have hlt:i<items.size:=by omega
  show wpAny _ _ (pyNext (.ref it) >>= _) Q E s
  refine zZ (wpAny_pyNext_list_item hit ht (x:=items[i]) (by simp[hlt]) fun h₁ hit₁ hs₁=>?_)
  refine zZ (AN (jZ hne n (i+1) _ _ hit₁ (ht.at fun o e=>hs₁.extBut _ _ hne e) (by omega) fun h₂ hit₂ hs₂=>Ab ?_))
  have hd:items.toList.drop i=items[i]::items.toList.drop (i+1):=by simp[Bm,hlt]
  have:=hQ h₂ (by rw[show i+(n+1)=i+1+n by omega];exact hit₂) (hs₁.trans hs₂)
  rw[hd,List.take_succ_cons] at this
  exact this
theorem i7 (hh:A.handled=none) (ht:s.heap.IsList t items)
    (hQ:∀h',Heap.ExtBut s.heap.objs.size s.heap h'->Q items.toList { s with heap:=h' }):wpAny (model prog w) A (unpackItems (.ref t) items.size none) Q E s:=by
 have hlt:t≠s.heap.objs.size:=by obtain⟨o,ho,_⟩:=ht;exact Ax (Ah ho)
 have hT:s.TypeIs (.ref t) "list":=by obtain⟨o,ho,hc,_⟩:=ht;exact⟨o,ho,hc⟩
 unfold unpackItems
 refine zZ ?_
 ·unfold notIterableAtAll
  refine zZ (wpAny_specialOf hT F.slot_list_iter.lookup ?_)
  refine Ab ?_
  simp only[Bi,if_false]
  refine zZ (AN (wpAny_pyIter_list ht ?_))
  refine zZ (AN (jZ hlt items.size 0 _ _ ⟨_,At _ rfl,rfl,rfl⟩ (ht.at fun o e=>An _ e) (by omega) fun h₁ hit₁ hs₁=>?_))
  have hall:List.take items.size (List.drop 0 items.toList)=items.toList:=by
   rw[List.drop_zero];exact Ak (by simp)
  rw[hall]
  rw[if_neg (by simp)]
  have ht₁:h₁.IsList t items:=ht.at fun o e=>hs₁.extBut _ _ hlt (An _ e)
  refine zZ (AN (wpAny_pyNext_list_end hh hit₁ ht₁ (by simp) fun h₂ he₂=>?_))
  simp only[Option.isSome_none,Bi,if_false]
  refine Ab (hQ h₂ fun b o hb e=>he₂ b o hb (hs₁.extBut b o hb (An _ e)))
end
def zd (K:W.Frag) (n:Nat) (t:TGs):TG:=fun v σ H Q=>∃a xs,v=.ref a/\SqL K H a xs/\xs.length=n/\t xs σ H Q
theorem xF (K:W.Frag) (hc:X.calm=true) (h:PGs X es t)
    (hn:(assignEach es X.env).length=n:=by rfl) (hst:(assignEach es X.env).findIdx? (·.1)=none:=by rfl) (hK:X.K=K:=by rfl):PG X (.Tuple es k pos) (zd K n t):=by
 subst hK
 intro pins s σ H v u Q I r hw
 obtain⟨a,xs,e1,hq,hl,hw⟩:=hw
 subst e1
 cases r
 obtain⟨its,rv,ht,hz⟩:=I.list hq
 rw[assign_Tuple]
 refine zZ (wpAny_standAt ?_)
 unfold unpack
 rw[show (assignEach es X.env).length=its.toArray.size by simp[hn,<- hl,rv.length],hst]
 refine zZ (AN (i7 (I.ok.hd hc) ht.isList fun h' hx=>?_))
 have I1:Inv X pins σ H { s with heap:=h' }:=I.kept (t':=s.toks) fun b o e=>hx b o (Ax (Ah e)) e
 exact h pins _ σ H xs _ Q I1 (by simpa using rv) hw
end L2
namespace MG
variable {es:List (Nat × Nat)}{goal:Nat}
theorem Wy.split (h:Wy es goal k a ws):ws=ws.dropLast++[goal]:=by
 have hl:=h.last
 have hne:ws≠[]:=fun z=>by rw[z] at hl;cases hl
 have e:=List.dropLast_concat_getLast hne
 rw[List.getLast?_eq_getLast hne] at hl
 rw[Af hl] at e
 exact e.symm
end MG
set_option maxHeartbeats 400000
namespace L2
open PySem PySem.Spec PyProof.Rows
theorem kB (hl:s.heap.IsList l items) (hb:s.heap.IsList b items2) (hsz:(items.size != items2.size)=true) (hu:A.units<cLine) (h:Q (Value.bool true) s):wpAny (model prog w) A (compareOp CmpOp.NotEq (Value.ref l) (Value.ref b)) Q E s:=by
 obtain⟨⟨cls,dd,data,sl⟩,ho,hc,n,hd⟩:=id hl
 obtain⟨⟨cls2,dd2,data2,sl2⟩,ho2,hc2,n2,hd2⟩:=id hb
 have hc:cls=.type "list":=hc
 have hd:data=.seq items n:=hd
 have hc2:cls2=.type "list":=hc2
 have hd2:data2=.seq items2 n2:=hd2
 subst hc hd hc2 hd2
 show wpAny (model prog w) A (richCompare CmpOp.NotEq (Value.ref l) (Value.ref b)) Q E s
 refine richCompare_meets_room ⟨_,ho,rfl⟩ ⟨_,ho2,rfl⟩ F.slot_list_ne F.entry_list_ne (F.args_list_ne_2 _ _) (SeqAt.list_ne_lengthsAt l b items items2 n n2 dd dd2 sl sl2 hsz) ⟨ho,ho2,?_⟩ hu
 exact⟨(fun x=>nomatch x),h⟩
section
variable {X:Cx}
def zG (neg:Bool):V->V->Hp->VK->Prop:=fun x y H Q=>∃p xs ds d,y=.ref p/\H p=some (.tup xs)/\RepAll H xs ds/\Rep H x d/\PyData.canLayAll0 ds=true/\d.canLay0=true/\d.depth<=16/\Q (.bl (if neg then !(ds.any fun e=>PyData.eqv e d) else ds.any fun e=>PyData.eqv e d)) H
theorem fK (hu:X.A.units+64<cLine):OpR X (compareOp .In) (zG false):=by
 intro pins s σ H x y v u Q I rx ry h
 obtain⟨p,xs,ds,d,rfl,e,rs,r,cs,c,dp,q⟩:=h
 cases ry
 obtain⟨its,rv,pl,_⟩:=I.tuple (a:=p) (xs:=xs) (.of e)
 obtain⟨bs,zx⟩:=r.reads I.hok rx
 refine SeqAt.in_tupleAt (fun u=>PyData.eqv (SeqAt.readOf s.heap u) d) pl (fun w hw=>fI (x:=x) I.hok zx c (by show X.A.units+1+d.depth<cLine;omega) rs rv cs w (by simpa using hw)) ⟨.bl _,H,I,rfl,?_⟩
 rw[show its.toArray.any (fun u=>PyData.eqv (SeqAt.readOf s.heap u) d)=its.any (fun u=>PyData.eqv (SeqAt.readOf s.heap u) d) by simp,fG I.hok rs rv cs]
 exact q
end
end L2
set_option maxHeartbeats 4000000
namespace L2
open PySem PySem.Spec PyProof.Rows
section
variable {prog:Program}{w:World}{A:Around}{E:Value->Shared->Prop}{s:Shared}
abbrev zq1 (h:Heap) (l:Addr):Heap:=h.push { cls:=.type "tuple_iterator",data:=.fields #[.ref l,.int 0 0] }
abbrev zq2 (h:Heap) (l m:Addr):Heap:=(zq1 h l).push { cls:=.type "list_iterator",data:=.fields #[.ref m,.int 0 0] }
abbrev zq3 (h:Heap) (l m:Addr):Heap:=(zq2 h l m).push { cls:=.type "tuple",data:=.seq #[.ref h.objs.size,.ref (zq1 h l).objs.size] }
abbrev zq4 (h:Heap) (l m:Addr):Heap:=(zq3 h l m).push { cls:=.type "tuple",data:=.seq #[.none,.none] }
abbrev zq5 (h:Heap) (l m:Addr):Heap:=(zq4 h l m).push { cls:=.type "zip",data:=.fields #[.none,.bool false,.bool false,.ref (zq2 h l m).objs.size,.ref (zq3 h l m).objs.size] }
theorem rF (l m:Addr) (xs ys:Array Value):Meets (Builtin.«zip.__new__» ⟨[.type "zip",.ref l,.ref m],[]⟩) (fun _ R s=>s.heap.IsTuple l xs/\s.heap.IsList m ys/\R (.ok (.ret (.ref (zq4 s.heap l m).objs.size))) { s with heap:=zq5 s.heap l m }) :=
 .of_wp fun prog w A R s h=>by
  obtain⟨h0,g0,d0,t0,os0⟩:=s
  obtain⟨hl,hm,h⟩:=h
  have hsub:=sub_zip
  have e1:Heap.IsTuple (Shared.heap ⟨h0,g0,d0,t0,os0⟩) l xs:=hl
  have e2:Heap.IsList (Shared.heap ⟨zq1 h0 l,g0,d0,t0,os0⟩) m ys:=Heap.IsList.push hm _
  wp_walk using Bg e1,wpAny_pyIter_list e2
  exact⟨_,rfl,h⟩
theorem tE (hl:s.heap.IsTuple l xs) (hm:s.heap.IsList m ys)
    (h:∀h',Zp h' (s.heap.objs.size+4) (s.heap.objs.size+2) (s.heap.objs.size+3) .none false->IsPair h' (s.heap.objs.size+2) (.ref s.heap.objs.size) (.ref (s.heap.objs.size+1))->IsPair h' (s.heap.objs.size+3) .none .none ->
     h'.IsTupleIter s.heap.objs.size l 0->h'.IsListIter (s.heap.objs.size+1) m 0->(∀c o,s.heap.get? c=some o->h'.get? c=some o)->Q (.ref (s.heap.objs.size+4)) { s with heap:=h' }) :
    wpAny (model prog w) A (call (.type "zip") [.ref l,.ref m]) Q E s:=by
 have a1:(zq1 s.heap l).objs.size=s.heap.objs.size+1:=A6 ..
 have a2:(zq2 s.heap l m).objs.size=s.heap.objs.size+2:=(A6 ..).trans (by rw[a1])
 have a3:(zq3 s.heap l m).objs.size=s.heap.objs.size+3:=(A6 ..).trans (by rw[a2])
 have a4:(zq4 s.heap l m).objs.size=s.heap.objs.size+4:=(A6 ..).trans (by rw[a3])
 have k5:∀ {c:Addr} {o:Obj},(zq4 s.heap l m).get? c=some o->(zq5 s.heap l m).get? c=some o:=fun q=>An _ q
 have k4:∀ {c:Addr} {o:Obj},(zq3 s.heap l m).get? c=some o->(zq5 s.heap l m).get? c=some o:=fun q=>k5 (An _ q)
 have k3:∀ {c:Addr} {o:Obj},(zq2 s.heap l m).get? c=some o->(zq5 s.heap l m).get? c=some o:=fun q=>k4 (An _ q)
 have k2:∀ {c:Addr} {o:Obj},(zq1 s.heap l).get? c=some o->(zq5 s.heap l m).get? c=some o:=fun q=>k3 (An _ q)
 have b5:(zq5 s.heap l m).get? (zq4 s.heap l m).objs.size=some { cls:=.type "zip",data:=.fields #[.none,.bool false,.bool false,.ref (zq2 s.heap l m).objs.size,.ref (zq3 s.heap l m).objs.size] }:=At _ rfl
 have b4:=k5 (At (zq3 s.heap l m) (o:={ cls:=.type "tuple",data:=.seq #[.none,.none] }) rfl)
 have b3:=k4 (At (zq2 s.heap l m) (o:={ cls:=.type "tuple",data:=.seq #[.ref s.heap.objs.size,.ref (zq1 s.heap l).objs.size] }) rfl)
 have b2:=k3 (At (zq1 s.heap l) (o:={ cls:=.type "list_iterator",data:=.fields #[.ref m,.int 0 0] }) rfl)
 have b1:=k2 (At s.heap (o:={ cls:=.type "tuple_iterator",data:=.fields #[.ref l,.int 0 0] }) rfl)
 rw[a2,a3,a4] at b5
 rw[a3] at b4
 rw[a1,a2] at b3
 rw[a1] at b2
 refine callType_new F.called_zip (by decide) (F.typeCall_zip_2 _ _) (F.newCall_zip_2 _ _) (fun ob=>F.args_object_init_3 ob _ _) F.entry_zip_new (rF l m xs ys) ⟨hl,hm,?_⟩
 show _/\_
 rw[a4]
 exact⟨⟨_,b5,rfl⟩,h _ b5 b3 b4 ⟨_,b1,rfl,rfl⟩ ⟨_,b2,rfl,rfl⟩ fun c o q=>k2 (An _ q)⟩
theorem ju:typeLookup (.type "zip") "__getattr__"=pure none:=by rw[typeLookup_type,builtinLookup_eq_fast];kernel_rfl
theorem gw:entryFor table "zip.__getattribute__"=some Builtin.«object.__getattribute__» :=
 entryFor_alias (id':="object.__getattribute__") (by kernel_rfl) (by decide +kernel) (by decide +kernel) (by kernel_rfl)
theorem kH (a:Addr) (fs:Array Value) (sl:Array (Option Value)) (u:Tok) :
    Meets (Builtin.«object.__getattribute__» ⟨[.ref a,.str "keys" u],[]⟩) (fun A R s=>s.heap.get? a=some { cls:=.type "zip",dict:=none,data:=.fields fs,slots:=sl }/\raisesAttr (.ref a) "keys" A R s) :=
 Meets.of_wp fun prog w A R s hs=>by
  obtain⟨h0,g0,d0,t0,os0⟩:=s
  obtain⟨hx,hs⟩:=hs
  have hT:(⟨h0,g0,d0,t0,os0⟩:Shared).TypeIs (.ref a) "zip":=⟨_,hx,rfl⟩
  have hmiss:=mM
  have hname:(["__module__","__name__","__qualname__","__doc__","__annotations__"]:List Str).contains ("keys":Str)=false:=by decide +kernel
  unfold Builtin.«object.__getattribute__»
  repeat any_goals first | assumption | wp_step
  exact wpAny_raiseAttrError hs.1 hs.2 (attrMsg_fits (name:="keys") (by decide +kernel) (by size_fits))
theorem qW 
    (hx:s.heap.get? a=some o) (hc:o.cls=.type "zip") (hdat:o.data=.fields fs) (hd:o.dict=none) (hA:A.handled=none)
    (h:∀h' tk,(∀b ob,s.heap.get? b=some ob->h'.get? b=some ob)->Q none { s with heap:=h',toks:=tk }) :
    wpAny (model prog w) A (getAttr? (.ref a) "keys") Q E s:=by
 obtain⟨c,dct,dat,sl⟩:=o
 simp only at hc hdat hd
 subst hc hdat hd
 obtain⟨h0,g0,d0,t0,os0⟩:=s
 have hT:∀tk',(⟨h0,g0,d0,tk',os0⟩:Shared).TypeIs (.ref a) "zip":=fun _=>⟨_,hx,rfl⟩
 have f1:=sub_AttributeError
 have f3:=F.slot_zip_getattribute.lookup
 have f4:=F.slot_zip_getattribute.bind (.ref a)
 have f5:=ju
 unfold getAttr? getAttrBy? getAttrBy
 repeat (any_goals (first | assumption | exact hT _ | ((with_reducible show wpAny _ _ (call (Value.builtin "zip.__getattribute__") _ _) _ _ _);refine call_meets F.slot_zip_getattribute (hT _) gw (F.args_zip_getattribute_2 _ _) (kH a fs sl _) ⟨hx,hA,fun h' tk' e hx'=>?_⟩) | wp_step))
 obtain⟨t',u',he⟩:=hx'.there
 show wpAny _ _ (getattributeRaised _ _ _ _ _ _ _) _ _ _
 unfold getattributeRaised
 repeat (any_goals (first | assumption | wp_step))
 exact h _ _ hx'.keeps
end
def nB (K:W.Frag) (a b:Addr):It :=
 ⟨fun i H=>∃xs ys x y,SqT K H a xs/\SqL K H b ys/\xs[i]? = some x/\ys[i]? = some y,
  fun i H v H'=>∃p x y,H p=none/\v=.ref p/\(∀xs,SqT K H a xs->xs[i]? = some x)/\(∀ys,SqL K H b ys->ys[i]? = some y)/\H'=upd H p (.tup [x,y]),
  fun i H=>∃xs ys,SqT K H a xs/\SqL K H b ys/\(xs.length<=i∨ys.length<=i)⟩
theorem Rd.same' (r:Rd H a u) (s:Same H H'):Rd H' a u:=by
 rcases r with r | ⟨o,r⟩
 ·exact .inl (s _ _ r)
 ·exact .inr ⟨o,s _ _ r⟩
theorem SqL.same' {K:W.Frag}{H H':Hp}{a:Addr}{xs:List V}(r:SqL K H a xs) (s:Same H H'):SqL K H' a xs:=by
 rcases r with r | r
 ·exact .inl (r.same' s)
 ·exact .inr r
def cf (ks:List Str) (ys:List V):List (Key × V):=(ks.map Sum.inr).zip ys
theorem tZ {kvs:List (Key × V)}{k:Key}(h:k∉kvs.map (·.1)):bi kvs k v=kvs++[(k,v)]:=by
 unfold bi
 rw[if_neg]
 intro z
 obtain⟨kv,hm,e⟩:=BK.mp z
 exact h (Ag.mpr ⟨kv,hm,Ao e⟩)
theorem qj:∀(ks:List Str) (ys:List V), ks.Nodup -> mkK (cf ks ys)=cf ks ys := by
 have key:∀(ks:List Str) (ys:List V) (m:List (Key × V)), ks.Nodup -> (∀k ∈ ks, (Sum.inr k:Key) ∉ m.map (·.1)) -> (cf ks ys).foldl (fun m q => bi m q.1 q.2) m=m ++ cf ks ys := by
  intro ks
  induction ks with
  | nil=>intro ys m _ _;unfold cf;simp
  | cons k ks ih =>
   intro ys m nd hm
   cases ys with
   | nil=>unfold cf;simp
   | cons y ys =>
    obtain⟨h1,h2⟩:=AL.mp nd
    have e:cf (k::ks) (y::ys)=(.inr k,y)::cf ks ys:=rfl
    rw[e,List.foldl_cons]
    show List.foldl _ (bi m (.inr k) y) _=_
    rw[tZ (hm k (by simp)),ih ys _ h2 (fun x hx=>?_)]
    ·simp
    ·rw[Ae,Aj]
     rintro (z | z)
     ·exact hm x (AF _ hx) z
     ·have:(Sum.inr x:Key)=Sum.inr k:=by simpa using z
      exact h1 (Sum.inr.inj this ▸ hx)
 intro ks ys nd
 unfold mkK
 rw[key ks ys [] nd (fun k _ h=>by cases h)]
 rfl
theorem jl:∀ {ks:List Str}{ys:List V}{i:Nat}{k:Str}{y:V},ks.Nodup->ks[i]? = some k->ys[i]? = some y->aw (cf ks ys) (.inr k)=some y
 | [],_,_,_,_,_,h,_=>by simp at h
 | k::ks,[],_,_,_,_,_,h=>by simp at h
 | k::ks,y::ys,0,k',y',nd,h1,h2=>by
  have e1:k=k':=by simpa using h1
  have e2:y=y':=by simpa using h2
  subst e1 e2
  exact cr (p:=(Sum.inr k,y)) rfl
 | k::ks,y::ys,i+1,k',y',nd,h1,h2=>by
  obtain⟨n1,n2⟩:=AL.mp nd
  have h1:ks[i]? = some k':=by simpa using h1
  have h2:ys[i]? = some y':=by simpa using h2
  have ne:¬ (Sum.inr k:Key)=Sum.inr k':=fun z=>n1 (by rw[Sum.inr.inj z];exact Ad h1)
  show aw ((Sum.inr k,y)::cf ks ys) _=_
  rw[cp ne]
  exact jl n2 h1 h2
theorem once {G T:Prop}(m:T->G) (t:T):G:=m t
end L2
namespace MG
def mx:List Int->Int
 | []=>0
 | x::l=>max x (mx l)
def dp (es:List (Nat × Nat)) (W:Nat->Int):Nat->Nat->Int
 | 0,_=>0
 | k+1,v=>W v+mx ((es.filter fun e=>decide (e.2=v)).map fun e=>dp es W k e.1)
end MG
namespace L2
open PySem PySem.Spec PyProof.Rows
section
variable {prog:Program}{w:World}{A:Around}{E:Value->Shared->Prop}{s:Shared}
abbrev jv (h:Heap) (l:Addr):Heap:=h.push { cls:=.type "tuple_iterator",data:=.fields #[.ref l,.int 0 0] }
abbrev kL (h:Heap) (l m:Addr):Heap:=(jv h l).push { cls:=.type "tuple_iterator",data:=.fields #[.ref m,.int 0 0] }
abbrev kS (h:Heap) (l m:Addr):Heap:=(kL h l m).push { cls:=.type "tuple",data:=.seq #[.ref h.objs.size,.ref (jv h l).objs.size] }
abbrev na (h:Heap) (l m:Addr):Heap:=(kS h l m).push { cls:=.type "tuple",data:=.seq #[.none,.none] }
abbrev lu (h:Heap) (l m:Addr):Heap:=(na h l m).push { cls:=.type "zip",data:=.fields #[.none,.bool false,.bool false,.ref (kL h l m).objs.size,.ref (kS h l m).objs.size] }
theorem pd (l m:Addr) (xs ys:Array Value):Meets (Builtin.«zip.__new__» ⟨[.type "zip",.ref l,.ref m],[]⟩) (fun _ R s=>s.heap.IsTuple l xs/\s.heap.IsTuple m ys/\R (.ok (.ret (.ref (na s.heap l m).objs.size))) { s with heap:=lu s.heap l m }) :=
 .of_wp fun prog w A R s h=>by
  obtain⟨h0,g0,d0,t0,os0⟩:=s
  obtain⟨hl,hm,h⟩:=h
  have hsub:=sub_zip
  have e1:Heap.IsTuple (Shared.heap ⟨h0,g0,d0,t0,os0⟩) l xs:=hl
  have e2:Heap.IsTuple (Shared.heap ⟨jv h0 l,g0,d0,t0,os0⟩) m ys:=Heap.IsTuple.push hm _
  wp_walk using Bg e1,Bg e2
  exact⟨_,rfl,h⟩
theorem rD (hl:s.heap.IsTuple l xs) (hm:s.heap.IsTuple m ys)
    (h:∀h',Zp h' (s.heap.objs.size+4) (s.heap.objs.size+2) (s.heap.objs.size+3) .none false->IsPair h' (s.heap.objs.size+2) (.ref s.heap.objs.size) (.ref (s.heap.objs.size+1))->IsPair h' (s.heap.objs.size+3) .none .none ->
     h'.IsTupleIter s.heap.objs.size l 0->h'.IsTupleIter (s.heap.objs.size+1) m 0->(∀c o,s.heap.get? c=some o->h'.get? c=some o)->Q (.ref (s.heap.objs.size+4)) { s with heap:=h' }) :
    wpAny (model prog w) A (call (.type "zip") [.ref l,.ref m]) Q E s:=by
 have a1:(jv s.heap l).objs.size=s.heap.objs.size+1:=A6 ..
 have a2:(kL s.heap l m).objs.size=s.heap.objs.size+2:=(A6 ..).trans (by rw[a1])
 have a3:(kS s.heap l m).objs.size=s.heap.objs.size+3:=(A6 ..).trans (by rw[a2])
 have a4:(na s.heap l m).objs.size=s.heap.objs.size+4:=(A6 ..).trans (by rw[a3])
 have k5:∀ {c:Addr} {o:Obj},(na s.heap l m).get? c=some o->(lu s.heap l m).get? c=some o:=fun q=>An _ q
 have k4:∀ {c:Addr} {o:Obj},(kS s.heap l m).get? c=some o->(lu s.heap l m).get? c=some o:=fun q=>k5 (An _ q)
 have k3:∀ {c:Addr} {o:Obj},(kL s.heap l m).get? c=some o->(lu s.heap l m).get? c=some o:=fun q=>k4 (An _ q)
 have k2:∀ {c:Addr} {o:Obj},(jv s.heap l).get? c=some o->(lu s.heap l m).get? c=some o:=fun q=>k3 (An _ q)
 have b5:(lu s.heap l m).get? (na s.heap l m).objs.size=some { cls:=.type "zip",data:=.fields #[.none,.bool false,.bool false,.ref (kL s.heap l m).objs.size,.ref (kS s.heap l m).objs.size] }:=At _ rfl
 have b4:=k5 (At (kS s.heap l m) (o:={ cls:=.type "tuple",data:=.seq #[.none,.none] }) rfl)
 have b3:=k4 (At (kL s.heap l m) (o:={ cls:=.type "tuple",data:=.seq #[.ref s.heap.objs.size,.ref (jv s.heap l).objs.size] }) rfl)
 have b2:=k3 (At (jv s.heap l) (o:={ cls:=.type "tuple_iterator",data:=.fields #[.ref m,.int 0 0] }) rfl)
 have b1:=k2 (At s.heap (o:={ cls:=.type "tuple_iterator",data:=.fields #[.ref l,.int 0 0] }) rfl)
 rw[a2,a3,a4] at b5
 rw[a3] at b4
 rw[a1,a2] at b3
 rw[a1] at b2
 refine callType_new F.called_zip (by decide) (F.typeCall_zip_2 _ _) (F.newCall_zip_2 _ _) (fun ob=>F.args_object_init_3 ob _ _) F.entry_zip_new (pd l m xs ys) ⟨hl,hm,?_⟩
 show _/\_
 rw[a4]
 exact⟨⟨_,b5,rfl⟩,h _ b5 b3 b4 ⟨_,b1,rfl,rfl⟩ ⟨_,b2,rfl,rfl⟩ fun c o q=>k2 (An _ q)⟩
end
def sd (K:W.Frag) (a b:Addr):It :=
 ⟨fun i H=>∃xs ys x y,SqT K H a xs/\SqT K H b ys/\xs[i]? = some x/\ys[i]? = some y,
  fun i H v H'=>∃p x y,H p=none/\v=.ref p/\(∀xs,SqT K H a xs->xs[i]? = some x)/\(∀ys,SqT K H b ys->ys[i]? = some y)/\H'=upd H p (.tup [x,y]),
  fun i H=>∃xs ys,SqT K H a xs/\SqT K H b ys/\(xs.length<=i∨ys.length<=i)⟩
section
variable {X:Cx}
def x8 (K:W.Frag):R2:=fun x y H Q=>∃a b xs ys,x=.ref a/\y=.ref b/\SqT K H a xs/\SqT K H b ys/\xs.length+ys.length<=sizeLine /\
 (xs=[]->Q (.ref b) H)/\(xs≠[]->ys=[]->Q (.ref a) H)/\(xs≠[]->ys≠[]->∀p,H p=none->Q (.ref p) (upd H p (.tup (xs++ys))))
theorem uO (K:W.Frag) (hK:X.K=K:=by rfl):OpR X (binaryOp .Add) (x8 K):=by
 subst hK
 intro pins s σ H x y v u Q I rx ry h
 obtain⟨a,b,xs,ys,rfl,rfl,ha,hb,hz,q0,q1,q2⟩:=h
 by_cases hx:xs=[]
 ·cases rx
  cases ry
  obtain⟨its,r1,p1,_⟩:=I.tuple ha
  obtain⟨its2,r2,p2,_⟩:=I.tuple hb
  have e1:its=[]:=r1.nil_iff.mpr hx
  obtain⟨⟨cls,dd,data,sl⟩,ho,hc,n,hd⟩:=id p1
  obtain⟨⟨cls2,dd2,data2,sl2⟩,ho2,hc2,n2,hd2⟩:=id p2
  simp only at hc hd hc2 hd2
  subst hc hd hc2 hd2
  exact concat_meets ⟨_,ho,rfl⟩ ⟨_,ho2,rfl⟩ noFill_tuple_add seq_tuple_add F.slot_tuple_add F.entry_tuple_add (F.args_tuple_add_2 _ _) (tuple_addW0 a b its.toArray its2.toArray n n2 dd dd2 sl sl2 (by simp[e1])) ⟨ho,ho2,⟨.ref b,H,I,rfl,q0 hx⟩⟩
 ·exact xj pins s σ H _ _ v u Q I rx ry ⟨a,b,xs,ys,rfl,rfl,ha,hb,hx,hz,q1 hx,q2 hx⟩
end
end L2
namespace L2
open PySem
theorem lA [DecidableEq α]:∀ {l m:List α},l.Nodup->(∀x∈l,x∈m)->m.length<=l.length->l.Perm m
 | [],m,_,_,h=>by
  have:m=[]:=List.length_eq_zero_iff.mp (by have:=h;rw[List.length_nil] at this;omega)
  rw[this]
 | x::l,m,nd,sub,h=>by
  obtain⟨n1,n2⟩:=AL.mp nd
  have hx:=sub x (by simp)
  have pe:=(List.perm_cons_erase hx)
  have le:=pe.length_eq
  rw[Aw] at le h
  refine(List.Perm.cons x (lA n2 (fun y hy=>?_) (by omega))).trans pe.symm
  exact(List.mem_erase_of_ne (fun z:y=x=>n1 (z ▸ hy))).mpr (sub y (AF _ hy))
def bP (r:List Str) (ps:List (Nat × Str)):List Str:=ps.foldl (fun r p=>r.set p.1 p.2) r
theorem dD:∀(ps:List (Nat × Str)) (r:List Str),(bP r ps).length=r.length
 | [],r=>rfl
 | p::ps,r=>by
  show (bP (r.set p.1 p.2) ps).length=_
  rw[dD ps,List.length_set]
theorem eI:∀(ps:List (Nat × Str)) (r:List Str) (k:Nat),k∉ps.map (·.1)->(bP r ps)[k]? = r[k]?
 | [],r,k,_=>rfl
 | p::ps,r,k,h=>by
  show (bP (r.set p.1 p.2) ps)[k]? = _
  rw[AD,AA] at h
  rw[eI ps _ k (fun z=>h (.inr z)),BV (fun z=>h (.inl z.symm))]
theorem fh:∀(ps:List (Nat × Str)) (r:List Str) (k:Nat) (x:Str), (ps.map (·.1)).Nodup -> (k, x) ∈ ps -> k<r.length -> (bP r ps)[k]? = some x
 | p::ps,r,k,x,nd,h,hk=>by
  show (bP (r.set p.1 p.2) ps)[k]? = _
  rw[AD] at nd
  obtain⟨n1,n2⟩:=AL.mp nd
  rcases AA.mp h with e | h
  ·subst e
   rw[eI ps _ k n1,BU hk]
  ·exact fh ps _ k x n2 h (by rw[List.length_set];exact hk)
def plc (os A:List Str):List Nat:=(List.range os.length).filter fun k=>decide (os.getD k ""∈A)
def bH (os A:List Str):List Str:=bP os ((plc os A).zip A)
theorem fq {os A:List Str}{k:Nat}(h:k∈plc os A):k<os.length:=AM.mp (Ap.mp h).1
theorem nE {os A:List Str}{k:Nat}(h:k∈plc os A):os.getD k ""∈A:=Ao (Ap.mp h).2
theorem iz (os A:List Str):(plc os A).Nodup:=List.Nodup.sublist BG List.nodup_range
theorem nY (os:List Str):os=(List.range os.length).map fun k=>os.getD k "":=by
 apply List.ext_getElem
 ·rw[z0,BO]
 ·intro i h1 h2
  rw[List.getElem_map,List.getElem_range,AG,Ar h1];rfl
theorem xG (os A:List Str):(plc os A).map (fun k=>os.getD k "")=os.filter fun x=>decide (x∈A):=by
 have e:os.filter (fun x=>decide (x∈A))=((List.range os.length).map fun k=>os.getD k "").filter fun x=>decide (x∈A):=by rw[<- nY]
 rw[e,List.filter_map]
 rfl
theorem eP {os A:List Str}(ond:os.Nodup) (and_:A.Nodup) (sub:∀x∈A,x∈os):(plc os A).length=A.length:=by
 have h:=congrArg List.length (xG os A)
 rw[z0] at h
 rw[h]
 have nd:(os.filter fun x=>decide (x∈A)).Nodup:=List.Nodup.sublist BG ond
 have l1:(os.filter fun x=>decide (x∈A)).length<=A.length:=nd.length_le_of_subset fun x hx=>Ao (Ap.mp hx).2
 have l2:A.length<=(os.filter fun x=>decide (x∈A)).length:=and_.length_le_of_subset fun x hx=>Ap.mpr ⟨sub x hx,Ai hx⟩
 omega
theorem hV (os A:List Str):(bH os A).length=os.length:=dD _ _
theorem js {os A:List Str}(h:(plc os A).length<=A.length):((plc os A).zip A).map (·.1)=plc os A:=List.map_fst_zip h
theorem gz {os A:List Str}(ond:os.Nodup) (and_:A.Nodup) (sub:∀x∈A,x∈os) {k:Nat}(hk:k<os.length) :
    (∃(i:Nat) (x:Str),(plc os A)[i]? = some k/\A[i]? = some x/\(bH os A)[k]? = some x)∨(k∉plc os A/\(bH os A)[k]? = os[k]?/\os.getD k ""∉A):=by
 have pl:=eP ond and_ sub
 have zk:=js (os:=os) (A:=A) (by omega)
 by_cases q:k∈plc os A
 ·obtain⟨i,hi⟩:=AE q
  have hil:=(Ac.mp hi).1
  obtain⟨x,hx⟩:∃x,A[i]? = some x:=⟨_,Ar (by omega)⟩
  refine .inl ⟨i,x,hi,hx,fh _ _ k x (by rw[zk];exact iz os A) ?_ hk⟩
  exact Ad (i:=i) (by rw[AT];exact⟨hi,hx⟩)
 ·refine .inr ⟨q,eI _ _ k (by rw[zk];exact q),fun z=>q (Ap.mpr ⟨AM.mpr hk,Ai z⟩)⟩
theorem iI {os A:List Str}(ond:os.Nodup) (and_:A.Nodup) (sub:∀x ∈ A, x ∈ os):(bH os A).Perm os := by
 have g:∀k,k<os.length->os[k]? = some (os.getD k ""):=fun k hk=>by rw[AG,Ar hk];rfl
 refine lA ?_ (fun x hx=>?_) (by rw[hV];exact Aa _)
 ·rw[nY (bH os A), hV]
  refine oF _ _ fun i j hij hj e=>?_
  have e:(bH os A)[i]? = (bH os A)[j]?:=by
   have f:∀k,k<os.length->(bH os A)[k]? = some ((bH os A).getD k ""):=fun k hk=>by rw[AG,Ar (by rw[hV];exact hk)];rfl
   rw[f i (by omega),f j hj,e]
  rcases gz ond and_ sub (show i<os.length by omega) with⟨a,x,h1,h2,h3⟩ | ⟨h1,h2,h3⟩
  ·rcases gz ond and_ sub hj with⟨b,y,g1,g2,g3⟩ | ⟨g1,g2,g3⟩
   ·have exy:x=y:=Af (h3.symm.trans (e.trans g3))
    subst exy
    have hab:a=b:=(Bn (Ac.mp h2).1 and_).mp (h2.trans g2.symm)
    subst hab
    have:=Af (h1.symm.trans g1)
    omega
   ·rw[h3,g2,g j hj] at e
    have:=Af e
    exact g3 (this ▸ Ad h2)
  ·rcases gz ond and_ sub hj with⟨b,y,g1,g2,g3⟩ | ⟨g1,g2,g3⟩
   ·rw[h2,g3,g i (by omega)] at e
    have:=Af e
    exact h3 (this ▸ Ad g2)
   ·rw[h2,g2] at e
    have:=(Bn (show i<os.length by omega) ond).mp e
    omega
 ·obtain⟨k,hk⟩:=AE hx
  have hkl:=(Ac.mp hk).1
  rw[hV] at hkl
  rcases gz ond and_ sub hkl with⟨a,y,h1,h2,h3⟩ | ⟨h1,h2,h3⟩
  ·have:y=x:=Af (h3.symm.trans hk)
   exact this ▸ sub y (Ad h2)
  ·rw[h2] at hk
   exact Ad hk
end L2
namespace L2
open PySem PySem.Spec PyProof.Rows
section
variable {prog:Program}{w:World}{A:Around}{E:Value->Shared->Prop}{s:Shared}
theorem xQ {elts:List Expr}{x1}{pos:Pos}{z TI TO T:Addr}{f0:Value}{f1:Bool}{Q:Unit->Shared->Prop}(hf:F0 f0) (hz:Zp s.heap z TI TO f0 f1)
    (hQ:∀h' f0',F0 f0'->Zp h' z TI TO f0' f1->Heap.SameBut z s.heap h'->Q () { s with heap:=h' }):wpAny (model prog w) A (letOwnedTupleGo (.Tuple elts x1 pos) (.ref z) (.ref T)) Q E s:=by
 unfold letOwnedTupleGo
 refine zZ (wpAny_load hz ?_)
 show wpAny _ A (if (["enumerate","zip","dict_itemiterator","dict_reverseitemiterator","odict_iterator","itertools.zip_longest","itertools.pairwise"].contains "zip"&&_)=true then _ else _) Q E s
 split
 ·refine zZ (wpAny_rule ?_)
  show wpAny _ A (setField (.ref z) 0 .none) Q E s
  exact Bl hz (by simp) fun h' hz' sb=>hQ h' _ (.inl rfl) hz' sb
 ·exact Ab (hQ s.heap f0 hf hz (Heap.SameBut.refl _ _))
end
theorem ic {t1 t2:Bool}{P:Program}{w:World}{K:W.Frag}{elts:List Expr}{x1}{tp:Pos}(a b z TI TO i1 i2:Addr) (D:ZipApart z TI TO i1 i2 a b) :
    Turn P w K (.Tuple elts x1 tp) (Itg t1 t2 K a b) [z,TI,TO,i1,i2] z (fun i h=>(∃f0 f1,F0 f0/\Zp h z TI TO f0 f1)/\IsPair h TI (.ref i1) (.ref i2)/\(∃c d,IsPair h TO c d)/\ItI t1 h i1 a i/\ItI t2 h i2 b i):=by
 have T:=lG (t1:=t1) (t2:=t2) (P:=P) (w:=w) (K:=K) (nm:="x") (tp:=tp) a b z TI TO i1 i2 D
 refine⟨T.mem,T.obj,T.keep,?_,T.done,T.self⟩
 intro X hP hw hK hc i pins s σ H E I hf st hg
 refine thn (T.item X hP hw hK hc i pins s σ H E I hf st hg) fun r s1 ⟨u,hr,h⟩=>⟨u,hr,?_⟩
 have key:wpAny (model P w) X.A (letOwnedTupleGo (.Name "x" tp) (.ref z) u >>= fun _=>letOwnedTupleGo (.Tuple elts x1 tp) (.ref z) u) (fun _ s2=>∃x H',Inv X pins σ H' s2/\RelV x u/\(Itg t1 t2 K a b).yld i H x H'/\((∃f0 f1,F0 f0/\Zp s2.heap z TI TO f0 f1)/\IsPair s2.heap TI (.ref i1) (.ref i2)/\(∃c d,IsPair s2.heap TO c d)/\ItI t1 s2.heap i1 a (i+1)/\ItI t2 s2.heap i2 b (i+1))/\∀c∈[z,TI,TO,i1,i2],H' c=none) E s1:=by
  refine zZ (thn h fun _ s2 ⟨x,H',I',rx,yl,tn,hn⟩=>?_)
  obtain⟨p,x0,y0,hp,rfl,hx0,hy0,rfl⟩:=id yl
  cases rx
  obtain⟨⟨f0,f1,hf0,hz⟩,hTI,⟨ta,tb,hTO⟩,h1,h2⟩:=tn
  refine xQ hf0 hz fun h' f0' hf' hz' sb=>?_
  have kk:∀c o,c≠z->s2.heap.get? c=some o->h'.get? c=some o:=fun c o n e=>sb.extBut c o n e
  have nz:∀c o,upd H p (.tup [x0,y0]) c=some o->c≠z:=fun c o q e=>by rw[e,hn z (by simp)] at q;cases q
  refine⟨.ref p,_,?_,rfl,yl,⟨⟨f0',f1,hf',hz'⟩,kk _ _ D.TIz hTI,⟨ta,tb,kk _ _ D.TOz hTO⟩,h1.at fun o e=>kk _ o D.i1z e,h2.at fun o e=>kk _ o D.i2z e⟩,hn⟩
  have k1:∀c o,c∉[z]->s2.heap.get? c=some o->h'.get? c=some o:=fun c o n e=>kk c o (fun q=>n (by simp[q])) e
  refine I'.step (h':=h') (g':=s2.gens) (d':=s2.drawn) (t':=s2.toks) (ch:=[z]) (fun c hc=>?_) (fun c o _ _ n q _=>k1 c o n q) (fun c o _ _ n q _=>⟨o.slots,k1 c o n q⟩) (fun c o _ q n=>n) (fun c o n q=>⟨o,k1 c o n q⟩) (fun c ys q=>q) (fun c o v q=>q) (fun c ps q=>⟨#[],by rw[q];simp⟩) (fun m hm=>?_) (fun c o q=>?_) I'.bare
  ·have hc:c=z:=by simpa using hc
   subst hc
   obtain⟨_,g1,_,g3,g4,g5⟩:=hf c (by simp)
   exact⟨g3,g1,g4,g5⟩
  ·obtain⟨o,es,ep,ho,r⟩:=hm
   refine⟨o,es,ep,k1 _ o (fun n=>?_) ho,r⟩
   exact(hf _ (by rw[Av.mp n];simp)).2.1 rfl
  ·refine(I'.hok c o q).stay (fun d o' hd q'=>?_) (fun d q=>q) fun d ys q=>q
   rcases hd with e | e
   ·rw[e] at q' ⊢;exact kk c o' (nz c o q) q'
   ·exact kk d o' (nz d _ e) q'
 exact key
theorem tO {P:Program}{w:World}{K:W.Frag}{elts:List Expr}{x1}{tp:Pos}(a b z TI TO i1 i2:Addr) (D:ZipApart z TI TO i1 i2 a b) :
    Turn P w K (.Tuple elts x1 tp) (Itz K a b) [z,TI,TO,i1,i2] z (fun i h=>(∃f0 f1,F0 f0/\Zp h z TI TO f0 f1)/\IsPair h TI (.ref i1) (.ref i2)/\(∃c d,IsPair h TO c d)/\h.IsListIter i1 a i/\h.IsListIter i2 b i) :=
 ic (t1:=false) (t2:=false) a b z TI TO i1 i2 D
theorem xC (K:W.Frag) {X:Cx}{elts:List Expr}{x1}{tp:Pos}{a b:Expr}{ta:TA}{p pos:Pos}(hg:Gl X "zip") (hm:X.mg "zip"=none) (ha:PA X [a,b] ta) (hs:starEach [a,b] X.env=(false,eval a X.env)::starEach [b] X.env:=by rfl) (hpl:(backTo pos (starEach [b] X.env)).any (·.1)=false:=by rfl) (hK:X.K=K:=by rfl) :
    PI X (.Tuple elts x1 tp) (.Call (.Name "zip" p) [a,b] [] pos) (yP K ta):=by
 subst hK
 intro pins s σ H R I h
 refine Call_ (di I hg hm (show bootBuiltins "zip"=some (.type "zip") by decide +kernel) (PyProof.Rows.callWith_type1 (thn (ha pos pins s σ H _ I h) fun us s1 ⟨vs,H1,I1,r1,q1⟩=>?_) hs hpl))
 obtain⟨l1,l2,xs,ys,e,hqa,hqb,q⟩:=q1
 subst e
 obtain⟨u1,u2,rfl,r1,r2⟩:=fH r1
 cases r1
 cases r2
 obtain⟨its,rv,pa,_⟩:=I1.list hqa
 obtain⟨jts,rw',pb,_⟩:=I1.list hqb
 have a1:l1<s1.heap.objs.size:=by obtain⟨_,e,_⟩:=pa.isList;exact Ah e
 have a2:l2<s1.heap.objs.size:=by obtain⟨_,e,_⟩:=pb.isList;exact Ah e
 refine call_zip_2 pa.isList pb.isList fun h' hz hTI hTO hi1 hi2 _ hk=>?_
 have T:=tO (P:=X.prog) (w:=X.w) (K:=X.K) (elts:=elts) (x1:=x1) (tp:=tp) l1 l2 _ _ _ _ _ (zipApart_new a1 a2)
 have t0:(∃f0 f1,F0 f0/\Zp h' (s1.heap.objs.size+4) (s1.heap.objs.size+2) (s1.heap.objs.size+3) f0 f1)/\IsPair h' (s1.heap.objs.size+2) (.ref s1.heap.objs.size) (.ref (s1.heap.objs.size+1))/\(∃c d,IsPair h' (s1.heap.objs.size+3) c d)/\h'.IsListIter s1.heap.objs.size l1 0/\h'.IsListIter (s1.heap.objs.size+1) l2 0:=⟨⟨_,_,.inl rfl,hz⟩,hTI,⟨_,_,hTO⟩,hi1,hi2⟩
 refine T.self X.A 0 { s1 with heap:=h' } _ _ t0 ?_
 refine⟨_,_,_,_,H1,rfl,I1.kept (t':=s1.toks) hk,T,t0,fun b hb=>?_,q⟩
 have hb:b=s1.heap.objs.size+4∨b=s1.heap.objs.size+2∨b=s1.heap.objs.size+3∨b=s1.heap.objs.size∨b=s1.heap.objs.size+1:=by simpa using hb
 have hle:s1.heap.objs.size<=b:=by rcases hb with e | e | e | e | e <;> rw[e] <;> first | exact Aa _ | exact BM _ _
 exact I1.fpOk hle (I1.hok.fresh hle)
theorem pJ {K:W.Frag}{a b:Addr}{xs ys:List V}{g:TG}{tb:TS}{D:Ends}{σ:St}{H:Hp}(Pv:Nat -> St -> Hp -> Prop) (h0:Pv 0 σ H) (hl:∀i σ H, i <= (xs.zip ys).length -> Pv i σ H -> SqL K H a xs /\ SqL K H b ys)
    (hs:∀i x y p σ H,(xs.zip ys)[i]? = some (x,y)->Pv i σ H->H p=none->g (.ref p) σ (upd H p (.tup [x,y])) fun σ2 H2=>tb { D with nx:=Pv (i+1),ct:=Pv (i+1),bk:=D.nx } σ2 H2) (hd:∀σ H,Pv (xs.zip ys).length σ H->D.nx σ H) :
    ∃W:Nat->Nat->St->Hp->Prop,(∃m,W 0 m σ H)/\∀i m σ H,W i m σ H ->
     ((Itz K a b).stop i H/\D.nx σ H)∨((Itz K a b).go i H/\∃N:St->Hp->Prop,(∀σ' H',N σ' H'->∃m',m'<m/\W (i+1) m' σ' H')/\∀x H',(Itz K a b).yld i H x H'->g x σ H' fun σ2 H2=>tb { D with nx:=N,ct:=N,bk:=D.nx } σ2 H2):=by
 refine⟨fun i m σ H=>m=(xs.zip ys).length-i/\i<=(xs.zip ys).length/\Pv i σ H,⟨(xs.zip ys).length,by simp,AC _,h0⟩,?_⟩
 rintro i m σ H ⟨rfl,hi,p⟩
 obtain⟨qa,qb⟩:=hl i σ H hi p
 have hlz:(xs.zip ys).length=min xs.length ys.length:=A3
 by_cases hlt:i<(xs.zip ys).length
 ·have h1:i<xs.length:=by omega
  have h2:i<ys.length:=by omega
  refine .inr ⟨⟨xs,ys,xs[i],ys[i],qa,qb,Ar h1,Ar h2⟩,Pv (i+1),fun σ' H' q=>⟨(xs.zip ys).length-(i+1),by omega,rfl,by omega,q⟩,?_⟩
  rintro x H' ⟨q,u,v,hq,rfl,hu,hv,rfl⟩
  exact hs i u v q σ H (by rw[AT];exact⟨hu xs qa,hv ys qb⟩) p hq
 ·have e:i=(xs.zip ys).length:=by omega
  refine .inl ⟨⟨xs,ys,qa,qb,by omega⟩,hd σ H (e ▸ p)⟩
theorem pB {X:Cx}(hc:X.calm=true) (hu:X.A.units+64<cLine) {pins:List (Addr × Obj)}{s:Shared}{σ:St}{H:Hp}{a b z TI TO i1 i2:Addr}{ks:List Str}{ys:List V}{Q:VK}(I:Inv X pins σ H s) (D:ZipApart z TI TO i1 i2 a b)
    (t0:(∃f0 f1,F0 f0/\Zp s.heap z TI TO f0 f1)/\IsPair s.heap TI (.ref i1) (.ref i2)/\(∃c d,IsPair s.heap TO c d)/\s.heap.IsListIter i1 a 0/\s.heap.IsListIter i2 b 0) (hf:∀c∈[z,TI,TO,i1,i2],ed X pins H c)
    (hqa:SqL X.K H a (List.map V.str ks)) (hqb:SqL X.K H b ys) (hl:ks.length=ys.length) (hn:ks.length<=1000) (q:∀l H2,H l=none->Same H H2->H2 l=some (.dK (mkK (cf ks ys)))->Q (.ref l) H2) :
    wpAny (model X.prog X.w) X.A (call (.type "dict") [.ref z]) (EP X pins σ Q) X.xe s:=by
 have T:=nS (P:=X.prog) (w:=X.w) (K:=X.K) (nm:="x") (tp:=default) a b z TI TO i1 i2 D
 have hlt:∀c∈[z,TI,TO,i1,i2],c<s.heap.objs.size:=fun c hc=>by
  obtain⟨o,e,_⟩:=T.obj 0 s.heap t0 c hc
  exact Ah e
 have zl:(cf ks ys).length=ks.length:=by unfold cf;rw[A3,z0];omega
 refine callType_codes (Q₁:=fun ob s1=>ob=.ref s.heap.objs.size/\s1={ s with heap:=s.heap.push { cls:=.type "dict",data:=.dict #[] } }) F.kt_called_dict (F.kt_typeCall_dict_1 _) F.entry_dict_init (kt_code_dict_new _ ⟨rfl,rfl⟩) ?_
 rintro ob s1 ⟨rfl,rfl⟩
 have hfree:H s.heap.objs.size=none:=I.hok.fresh (Aa _)
 have I1:Inv X pins σ (upd H s.heap.objs.size (.dK [])) { s with heap:=s.heap.push { cls:=.type "dict",data:=.dict #[] } } :=
  I.laid (a:=s.heap.objs.size) (o:=.dK []) (t':=s.toks) (fun _ _ q=>An _ q) (Aa _) (gX s.heap I.big)
 have hnew:(⟨s.heap.push { cls:=.type "dict",data:=.dict #[] },s.gens,s.drawn,s.toks,s.os⟩:Shared).TypeIs (.ref s.heap.objs.size) "dict":=⟨_,At _ rfl,rfl⟩
 refine⟨hnew,F.args_dict_init_2 _ _,?_⟩
 unfold Builtin.«dict.__init__»
 refine zZ ?_
 unfold Builtin.Dict.selfAndRest
 refine zZ (wpAny_notOrdered_dict hnew ?_)
 show wpAny _ _ (pure (s.heap.objs.size,[Value.ref z])) _ _ _
 refine Ab ?_
 show wpAny _ _ (Builtin.Dict.updateFrom "dict.__init__" s.heap.objs.size (.ref z) [] .none) _ _ _
 unfold Builtin.Dict.updateFrom
 have hA:X.A.in1.in1.handled=none:=I.ok.hd hc
 have t1:=T.keep 0 s.heap (s.heap.push { cls:=.type "dict",data:=.dict #[] }) t0 fun c _ o e=>An _ e
 obtain⟨⟨f0,f1,hf0,hz⟩,_⟩:=id t1
 refine zZ (wpAny_typeOf (T:="zip") ⟨_,hz,rfl⟩ ?_)
 rw[if_pos (by decide)]
 refine zZ (qW hz rfl rfl rfl hA fun h' tk kp=>?_)
 have I2:=I1.kept (h':=h') (t':=tk) kp
 have t2:=T.keep 0 _ h' t1 fun c _ o e=>kp c o e
 refine zZ (wpAny_rule (zZ ?_))
 refine T.self X.A.in1.in1 0 { s with heap:=h',toks:=tk } _ _ t2 ?_
 refine Ab ⟨plainId_quiet DU.plain_loop _,?_⟩
 refine mr (nm:="x") (tp:=default) T hc hu s.heap.objs.size ks.length (fun i H'=>Same H H'/\H' s.heap.objs.size=some (.dK (mkK ((cf ks ys).take i)))) (fun i H' hi e=>?_) (fun H' e=>?_) _ 0 0 _ _ rfl (AC _) I2 (fun c hc=>?_) t2 ?_ ?_
 ·obtain⟨sm,hd⟩:=e
  have hx:(List.map V.str ks)[i]? = some (V.str ks[i]):=by simp[hi]
  have hy:ys[i]? = some (ys[i]'(by omega)):=Ar (by omega)
  refine⟨⟨_,_,_,_,hqa.same' sm,hqb.same' sm,hx,hy⟩,fun x H1 yl=>?_⟩
  obtain⟨p,u,v,hp,rfl,hu1,hv1,rfl⟩:=yl
  have e1:V.str ks[i]=u:=Af (hx.symm.trans (hu1 _ (hqa.same' sm)))
  have e2:ys[i]'(by omega)=v:=Af (hy.symm.trans (hv1 _ (hqb.same' sm)))
  subst e1 e2
  have npl:s.heap.objs.size≠p:=ah hd hp
  have hzk:(cf ks ys)[i]? = some (.inr ks[i],ys[i]'(by omega)):=by
   unfold cf
   rw[AT]
   exact⟨by simp[hi],hy⟩
  have hkl:(mkK ((cf ks ys).take i)).length<sizeLine:=by
   have:=uh ((cf ks ys).take i)
   rw[As] at this
   exact aj (by omega)
  refine⟨p,V.str ks[i],_,_,rfl,.of ae,DPut.k (k:=.inr ks[i]) (by rw[af npl];exact hd) hkl,fun c o hc=>?_,?_⟩
  ·have h1:=sm c o hc
   rw[af (ah hc hfree),af (ah h1 hp)]
   exact h1
  ·rw[ae,nK _ i _ hzk]
 ·obtain⟨sm,hd⟩:=e
  exact⟨_,_,hqa.same' sm,hqb.same' sm,.inl (by rw[z0];exact Aa _)⟩
 ·obtain⟨g0,g1,g2,g3,g4,g5⟩:=hf c hc
  exact⟨by rw[af (Ax (hlt c hc))];exact g0,g1,g2,g3,g4,g5⟩
 ·exact⟨Same.new hfree,by rw[ae];rfl⟩
 ·intro H' s' I' e
  obtain⟨sm,hd⟩:=e
  rw[<- zl,Ak (Aa _)] at hd
  exact⟨rfl,.ref _,_,I',rfl,q _ _ hfree sm hd⟩
def yV (K:W.Frag) (ta:TA):TE:=fun σ H Q=>ta σ H fun vs H1=>∃a b ks ys,vs=[.ref a,.ref b]/\SqL K H1 a (List.map V.str ks)/\SqL K H1 b ys/\ks.length=ys.length/\ks.length<=1000/\∀l H2,H1 l=none->Same H1 H2->H2 l=some (.dK (mkK (cf ks ys)))->Q (.ref l) H2
theorem vW (K:W.Frag) (hc:X.calm=true) (hu:X.A.units+64<cLine) (B:Blt X.mg) (hm:X.mg "zip"=none) (ha:PA X [a,b] ta) (hgd:Gl X "dict":=by rfl) (hgz:Gl X "zip":=by rfl)
    (he:starEach [.Call (.Name "zip" p2) [a,b] [] pos2] X.env=(false,eval (.Call (.Name "zip" p2) [a,b] [] pos2) X.env)::starEach [] X.env:=by rfl) (hpl:(backTo pos (starEach [] X.env)).any (·.1)=false:=by rfl)
    (hs:starEach [a,b] X.env=(false,eval a X.env)::starEach [b] X.env:=by rfl) (hp2:(backTo pos2 (starEach [b] X.env)).any (·.1)=false:=by rfl) (hK:X.K=K:=by rfl) :
    PE X (.Call (.Name "dict" p) [.Call (.Name "zip" p2) [a,b] [] pos2] [] pos) (yV K ta):=by
 subst hK
 intro pins s σ H Q I h
 refine wpAny_Call_Name_kw (di I hgd B.dict (show bootBuiltins "dict"=some (.type "dict") by decide +kernel) ?_ (by decide) (by decide))
 refine PyProof.Rows.callWith_type1 ?_ he hpl
 rw[he]
 show wpAny _ _ (spliced ((false,eval (.Call (.Name "zip" p2) [a,b] [] pos2) X.env)::backTo pos (starEach [] X.env))) _ _ s
 refine Calls.spliced_cons ?_
 refine Call_ (di I hgz hm (show bootBuiltins "zip"=some (.type "zip") by decide +kernel) (PyProof.Rows.callWith_type1 (thn (ha pos2 pins s σ H _ I h) fun us s1 ⟨vs,H1,I1,r1,q1⟩=>?_) hs hp2))
 obtain⟨l,m,ks,ys,rfl,hqa,hqb,hl,hn,q⟩:=q1
 obtain⟨u1,u2,rfl,r1,r2⟩:=fH r1
 cases r1
 cases r2
 obtain⟨its,rv,pa,_⟩:=I1.list hqa
 obtain⟨jts,rw',pb,_⟩:=I1.list hqb
 have a1:l<s1.heap.objs.size:=by obtain⟨_,e,_⟩:=pa.isList;exact Ah e
 have a2:m<s1.heap.objs.size:=by obtain⟨_,e,_⟩:=pb.isList;exact Ah e
 refine call_zip_2 pa.isList pb.isList fun h' hz hTI hTO hi1 hi2 _ hk=>?_
 refine Calls.spliced_nil ?_
 have I2:=I1.kept (t':=s1.toks) hk
 refine pB hc hu I2 (zipApart_new a1 a2) ⟨⟨_,_,.inl rfl,hz⟩,hTI,⟨_,_,hTO⟩,hi1,hi2⟩ (fun c hc=>?_) hqa hqb hl hn q
 have hb:c=s1.heap.objs.size+4∨c=s1.heap.objs.size+2∨c=s1.heap.objs.size+3∨c=s1.heap.objs.size∨c=s1.heap.objs.size+1:=by simpa using hc
 have hle:s1.heap.objs.size<=c:=by rcases hb with e | e | e | e | e <;> rw[e] <;> first | exact Aa _ | exact BM _ _
 exact I1.fpOk hle (I1.hok.fresh hle)
end L2
namespace L2
open PySem
theorem ck {os:List Str}(nd:os.Nodup) {j:Nat}{s:Str}(h:os[j]? = some s):os.idxOf s=j:=by
 have hj:=(Ac.mp h).1
 have hm:=Ad h
 have hi:=AJ hm
 have e:os[os.idxOf s]? = some s:=by rw[Ar hi,List.getElem_idxOf]
 exact((Bn hj nd).mp (h.trans e.symm)).symm
theorem hC {os:List Str}{s:Str}(hm:s∈os):os[os.idxOf s]? = some s:=by
 have hi:=AJ hm
 rw[Ar hi,List.getElem_idxOf]
theorem bK {os:List Str}{s:Str}(hm:s∈os):os.getD (os.idxOf s) ""=s:=by rw[AG,hC hm];rfl
theorem gP {os A:List Str}(sub:∀x∈A,x∈os) {x:Str}(hx:x∈A):os.idxOf x∈plc os A :=
 Ap.mpr ⟨AM.mpr (AJ (sub x hx)),Ai (by rw[bK (sub x hx)];exact hx)⟩
theorem jW {α β:Type}{l:List α}{f:α->β}(nd:l.Nodup) (inj:∀x∈l,∀y∈l,f x=f y->x=y):(l.map f).Nodup:=by
 rw[List.Nodup,List.pairwise_map]
 exact List.Pairwise.imp_of_mem (fun {a b} ha hb hab z=>hab (inj a ha b hb z)) nd
theorem vL {os A:List Str}(ond:os.Nodup) (and_:A.Nodup) (sub:∀x∈A,x∈os):(A.map fun x=>os.idxOf x).Perm (plc os A):=by
 refine lA (jW and_ fun x hx y hy e=>?_) (fun k hk=>?_) (by rw[z0,eP ond and_ sub];exact Aa _)
 ·have:=bK (sub x hx)
  rw[e,bK (sub y hy)] at this
  exact this.symm
 ·obtain⟨x,hx,rfl⟩:=Ag.mp hk
  exact gP sub hx
theorem xN {os A:List Str}(ond:os.Nodup) (and_:A.Nodup) (sub:∀x∈A,x∈os) {ns:List Int}(hp:ns.Perm (A.map fun x=>((os.idxOf x:Nat):Int))) (ho:ns.Pairwise (·<=·)):ns=(plc os A).map fun k:Nat=>(k:Int):=by
 have e:(A.map fun x=>((os.idxOf x:Nat):Int))=(A.map fun x=>os.idxOf x).map fun k:Nat=>(k:Int):=by rw[AQ];rfl
 rw[e] at hp
 refine List.Perm.eq_of_pairwise (le:=(·<=·)) (fun a b _ _ h1 h2=>Int.le_antisymm h1 h2) ho ?_ (hp.trans ((vL ond and_ sub).map _))
 rw[List.pairwise_map]
 refine List.Pairwise.imp ?_ ((BN (n:=os.length)).filter _)
 intro a b h
 omega
def fR (os A:List Str) (k:Nat):Nat:=(plc os A).getD (A.idxOf (os.getD k "")) 0
def mvs (os A:List Str):List (Str × Nat × Nat):=(plc os A).map fun k=>(os.getD k "",k,fR os A k)
theorem dW {os A:List Str}(ond:os.Nodup) (and_:A.Nodup) (sub:∀x∈A,x∈os) {k:Nat}(hk:k∈plc os A):(plc os A)[A.idxOf (os.getD k "")]? = some (fR os A k)/\A[A.idxOf (os.getD k "")]? = some (os.getD k ""):=by
 have hx:=nE hk
 have hi:=AJ hx
 refine⟨?_,hC hx⟩
 unfold fR
 rw[AG (l:=plc os A),Ar (by rw[eP ond and_ sub];exact hi)];rfl
theorem zm {os A:List Str}(ond:os.Nodup) (and_:A.Nodup) (sub:∀x∈A,x∈os) (k:Nat) (x:Str):(k,x)∈(mvs os A).map (fun m=>(m.2.2,m.1)) ↔ (k,x)∈(plc os A).zip A:=by
 constructor
 ·intro h
  obtain⟨m,hm,e⟩:=Ag.mp h
  obtain⟨j,hj,rfl⟩:=Ag.mp hm
  obtain⟨a,b⟩:=dW ond and_ sub hj
  have e1:fR os A j=k:=congrArg Prod.fst e
  have e2:os.getD j ""=x:=congrArg Prod.snd e
  rw[e1] at a
  rw[e2] at a b
  exact Ad (i:=A.idxOf x) (by rw[AT];exact⟨a,b⟩)
 ·intro h
  obtain⟨i,hi⟩:=AE h
  obtain⟨h1,h2⟩:=AT.mp hi
  have hx:=Ad h2
  have hp:=gP sub hx
  refine Ag.mpr ⟨(os.getD (os.idxOf x) "",os.idxOf x,fR os A (os.idxOf x)),Ag.mpr ⟨_,hp,rfl⟩,?_⟩
  have e:=bK (sub x hx)
  obtain⟨a,_⟩:=dW ond and_ sub hp
  rw[e,ck and_ h2] at a
  have:=Af (a.symm.trans h1)
  show (fR os A (os.idxOf x),os.getD (os.idxOf x) "")=(k,x)
  rw[this,e]
theorem xT {os A:List Str}(ond:os.Nodup) (and_:A.Nodup) (sub:∀x∈A,x∈os):(((mvs os A).map (fun m=>(m.2.2,m.1))).map (·.1)).Nodup:=by
 have e:((mvs os A).map (fun m=>(m.2.2,m.1))).map (·.1)=(plc os A).map (fR os A):=by unfold mvs;rw[AQ,AQ];rfl
 rw[e]
 refine jW (iz os A) fun x hx y hy e=>?_
 obtain⟨a1,a2⟩:=dW ond and_ sub hx
 obtain⟨b1,b2⟩:=dW ond and_ sub hy
 rw[e] at a1
 have hl:=(Ac.mp a1).1
 have ij:=(Bn hl (iz os A)).mp (a1.trans b1.symm)
 rw[ij] at a2
 have ee:=Af (a2.symm.trans b2)
 have gx:os[x]? = some (os.getD x ""):=by rw[AG,Ar (fq hx)];rfl
 have gy:os[y]? = some (os.getD y ""):=by rw[AG,Ar (fq hy)];rfl
 rw[ee] at gx
 exact(Bn (fq hx) ond).mp (gx.trans gy.symm)
theorem qP (n1:(ps.map (·.1)).Nodup) (n2:(qs.map (·.1)).Nodup) (h:∀k x, (k, x) ∈ ps ↔ (k, x) ∈ qs):bP r ps=bP r qs := by
 apply List.ext_getElem?
 intro k
 by_cases hk:k<r.length
 ·by_cases q:k ∈ ps.map (·.1)
  ·obtain⟨⟨k',x⟩,hm,e⟩:=Ag.mp q
   have e:k'=k:=e
   subst e
   rw[fh ps r k' x n1 hm hk,fh qs r k' x n2 ((h _ _).mp hm) hk]
  ·have q2:k∉qs.map (·.1):=fun z=>by
      obtain⟨⟨k',x⟩,hm,e⟩:=Ag.mp z
      have e:k'=k:=e
      subst e
      exact q (Ag.mpr ⟨_,(h _ _).mpr hm,rfl⟩)
   rw[eI _ _ _ q,eI _ _ _ q2]
 ·rw[BP (by rw[dD];omega),BP (by rw[dD];omega)]
theorem uL {os A:List Str}(ond:os.Nodup) (and_:A.Nodup) (sub:∀x∈A,x∈os):bP os ((mvs os A).map (fun m=>(m.2.2,m.1)))=bH os A:=by
 unfold bH
 refine qP (xT ond and_ sub) ?_ (zm ond and_ sub)
 rw[js (by rw[eP ond and_ sub];exact Aa _)]
 exact iz os A
theorem wj {os A:List Str}(ond:os.Nodup) (and_:A.Nodup) (sub:∀x∈A,x∈os) {k:Nat}(hk:k∈plc os A):(bH os A).idxOf (os.getD k "")=fR os A k:=by
 obtain⟨a,b⟩:=dW ond and_ sub hk
 have lnd:(bH os A).Nodup:=(iI ond and_ sub).nodup_iff.mpr ond
 refine ck lnd ?_
 have hp:=Ad a
 unfold bH
 refine fh _ _ _ _ ?_ ?_ (fq hp)
 ·rw[js (by rw[eP ond and_ sub];exact Aa _)];exact iz os A
 ·exact Ad (i:=A.idxOf (os.getD k "")) (by rw[AT];exact⟨a,b⟩)
end L2
namespace L2
open PySem PySem.Spec PyProof.Rows
section
open PySem.W PySem.Calls Builtin Builtin.ObjectAttr Builtin.Getset_descriptor
variable {K:Frag}{x C:Addr}{h:Heap}{M:Model}
variable {prog:Program}{w:World}{A:Around}{E:Value->Shared->Prop}{s:Shared}
end
section
open PySem.W Builtin Builtin.ObjectAttr
variable {prog:Program}{w:World}{A:Around}{E:Value->Shared->Prop}{s:Shared}{K:Frag}{x C t:Addr}{f:Str}{v:Value}
end
section
open PySem.W PySem.Calls Builtin Builtin.ObjectAttr
variable {K:Frag}{x C:Addr}{h:Heap}{M:Model}{prog:Program}{w:World}{A:Around}{E:Value->Shared->Prop}{s:Shared}{ox od:Obj}{f:Str}{u:Value}
end
end L2
namespace L2
open PySem
theorem sy {R J:St->Hp->Prop}{G:Prop}(main:(∀σ H,J σ H->R σ H)->G) (dh:∀σ H,J σ H->R σ H):G:=main dh
end L2
namespace MG
variable {es:List (Nat × Nat)}{n:Nat}{ks ls:List Nat}
def dueB (es:List (Nat × Nat)) (ks:List Nat) (v:Nat):Bool:=!decide (v∈ks)&&es.all fun e=>!decide (e.2=v)||decide (e.1∈ks)
end MG
namespace L2
open PySem PySem.Spec PyProof.Rows
section
variable {X:Cx}{p pos:Pos}{e:Expr}{t:TA}
theorem lh (K:W.Frag) (hK:X.K=K:=by rfl):SlR X (yy K):=hK ▸ ui
end
end L2
namespace L2
open PySem PySem.Spec PyProof.Rows PySem.W
def up1 (c:Nat):Nat:=if 97<=c/\c<=122 then c-32 else c
end L2
namespace L2
open PySem PySem.Spec PyProof.Rows
namespace SU
theorem entry_loop:entryFor table "set.update.loop"=some Builtin.«set.update.loop»:=entryFor_of_tree (by kernel_rfl)
theorem plain_loop:plainId "set.update.loop"=true:=by decide +kernel
end SU
def yO (K:W.Frag) (ta:TA):TI:=fun σ H R=>ta σ H fun vs H1=>∃a b xs ys,vs=[.ref a,.ref b]/\SqT K H1 a xs/\SqT K H1 b ys/\R (sd K a b) H1
theorem oZ {P:Program}{w:World}{K:W.Frag}{elts:List Expr}{x1}{tp:Pos}(a b z TI TO i1 i2:Addr) (D:ZipApart z TI TO i1 i2 a b) :
    Turn P w K (.Tuple elts x1 tp) (sd K a b) [z,TI,TO,i1,i2] z (fun i h=>(∃f0 f1,F0 f0/\Zp h z TI TO f0 f1)/\IsPair h TI (.ref i1) (.ref i2)/\(∃c d,IsPair h TO c d)/\h.IsTupleIter i1 a i/\h.IsTupleIter i2 b i) :=
 ic (t1:=true) (t2:=true) a b z TI TO i1 i2 D
theorem sw (K:W.Frag) {X:Cx}{elts:List Expr}{x1}{tp:Pos}{a b:Expr}{ta:TA}{p pos:Pos}(hg:Gl X "zip") (hm:X.mg "zip"=none) (ha:PA X [a,b] ta) (hs:starEach [a,b] X.env=(false,eval a X.env)::starEach [b] X.env:=by rfl) (hpl:(backTo pos (starEach [b] X.env)).any (·.1)=false:=by rfl) (hK:X.K=K:=by rfl) :
    PI X (.Tuple elts x1 tp) (.Call (.Name "zip" p) [a,b] [] pos) (yO K ta):=by
 subst hK
 intro pins s σ H R I h
 refine Call_ (di I hg hm (show bootBuiltins "zip"=some (.type "zip") by decide +kernel) (PyProof.Rows.callWith_type1 (thn (ha pos pins s σ H _ I h) fun us s1 ⟨vs,H1,I1,r1,q1⟩=>?_) hs hpl))
 obtain⟨l1,l2,xs,ys,e,hqa,hqb,q⟩:=q1
 subst e
 obtain⟨u1,u2,rfl,r1,r2⟩:=fH r1
 cases r1
 cases r2
 obtain⟨its,rv,pa,_⟩:=I1.tuple hqa
 obtain⟨jts,rw',pb,_⟩:=I1.tuple hqb
 have a1:l1<s1.heap.objs.size:=by obtain⟨_,e,_⟩:=pa;exact Ah e
 have a2:l2<s1.heap.objs.size:=by obtain⟨_,e,_⟩:=pb;exact Ah e
 refine rD (show s1.heap.IsTuple l1 its.toArray from pa) (show s1.heap.IsTuple l2 jts.toArray from pb) fun h' hz hTI hTO hi1 hi2 hk=>?_
 have T:=oZ (P:=X.prog) (w:=X.w) (K:=X.K) (elts:=elts) (x1:=x1) (tp:=tp) l1 l2 _ _ _ _ _ (zipApart_new a1 a2)
 have t0:(∃f0 f1,F0 f0/\Zp h' (s1.heap.objs.size+4) (s1.heap.objs.size+2) (s1.heap.objs.size+3) f0 f1)/\IsPair h' (s1.heap.objs.size+2) (.ref s1.heap.objs.size) (.ref (s1.heap.objs.size+1))/\(∃c d,IsPair h' (s1.heap.objs.size+3) c d)/\h'.IsTupleIter s1.heap.objs.size l1 0/\h'.IsTupleIter (s1.heap.objs.size+1) l2 0:=⟨⟨_,_,.inl rfl,hz⟩,hTI,⟨_,_,hTO⟩,hi1,hi2⟩
 refine T.self X.A 0 { s1 with heap:=h' } _ _ t0 ?_
 refine⟨_,_,_,_,H1,rfl,I1.kept (t':=s1.toks) hk,T,t0,fun b hb=>?_,q⟩
 have hb:b=s1.heap.objs.size+4∨b=s1.heap.objs.size+2∨b=s1.heap.objs.size+3∨b=s1.heap.objs.size∨b=s1.heap.objs.size+1:=by simpa using hb
 have hle:s1.heap.objs.size<=b:=by rcases hb with e | e | e | e | e <;> rw[e] <;> first | exact Aa _ | exact BM _ _
 exact I1.fpOk hle (I1.hok.fresh hle)
theorem se {K:W.Frag}{k:Nat}{fr:List Nat}{g:TG}{tc:TT}{te:TE}{σ:St}{H1:Hp}{Q:VK}{a b:Addr}(xs ys:List V) (Pv:Addr -> Nat -> List V -> St -> Hp -> Prop)
    (h:∀D,H1 D=none->Pv D 0 [] (eV k fr σ) (upd H1 D (.lst []))/\(∀i acc σ' H',i<=(xs.zip ys).length->Pv D i acc σ' H'->H' D=some (.lst acc)->SqT K H' a xs/\SqT K H' b ys) /\
     (∀i acc σ' H' x y p,(xs.zip ys)[i]? = some (x,y)->Pv D i acc σ' H'->H' D=some (.lst acc)->H' p=none->g (.ref p) σ' (upd H' p (.tup [x,y])) fun σ2 H3=>tc σ2 H3 fun b H4 =>
      if b=true then te σ2 H4 fun y H5=>H5 D=some (.lst acc)/\acc.length<sizeLine/\Pv D (i+1) (acc++[y]) σ2 (upd H5 D (.lst (acc++[y]))) else H4 D=some (.lst acc)/\Pv D (i+1) acc σ2 H4) /\
     ∀acc σ' H',Pv D (xs.zip ys).length acc σ' H'->H' D=some (.lst acc)->Q (.ref D) H'):ef k fr g tc te (sd K a b) σ H1 Q:=by
 intro D hD
 obtain⟨h0,hok,hs,hd⟩:=h D hD
 refine⟨fun i m acc σ' H'=>m=(xs.zip ys).length-i/\i<=(xs.zip ys).length/\Pv D i acc σ' H',⟨(xs.zip ys).length,by simp,AC _,h0⟩,?_⟩
 rintro i m acc σ' H' ⟨rfl,hi,p⟩ hacc
 obtain⟨oka,okb⟩:=hok i acc σ' H' hi p hacc
 have hl:(xs.zip ys).length=min xs.length ys.length:=A3
 by_cases hlt:i<(xs.zip ys).length
 ·refine .inr ⟨⟨xs,ys,xs[i]'(by omega),ys[i]'(by omega),oka,okb,by simp,by simp⟩,Pv D (i+1),fun acc' σ2 H2 p'=>⟨(xs.zip ys).length-(i+1),by omega,rfl,hlt,p'⟩,fun v H2 yl=>?_⟩
  obtain⟨q,x,y,hq,rfl,hx,hy,rfl⟩:=yl
  refine hs i acc σ' H' x y q ?_ p hacc hq
  rw[AT]
  exact⟨hx xs oka,hy ys okb⟩
 ·have e:i=(xs.zip ys).length:=by omega
  subst e
  exact .inl ⟨⟨xs,ys,oka,okb,by omega⟩,hd acc σ' H' p hacc⟩
def KD (P:Program) (w:World) (K:W.Frag) (a:Addr) (vs:List (Key × Value)):Prop :=
 (a==sysModules)=false/\∃o es ep,K.lookup a=some o/\o.ExactDict/\o.data=.dict es ep/\KeysOf (bu P w) es/\Pairs (bu P w) es.toList vs/\(vs.map (·.1)).Nodup
theorem KD.dict {P:Program}{w:World}{K:W.Frag}{a:Addr}{vs:List (Key × Value)}{h:Heap}(k:KD P w K a vs) (X:K.In h):h.DictOf (bu P w) a vs :=
 let ⟨_,o,es,ep,e,r⟩:=k;⟨o,es,ep,X a o e,r⟩
section
variable {X:Cx}
theorem qS {vs:List (Key × Value)}{a:Addr}(k:KD X.prog X.w X.K a vs):OpR X (compareOp .NotIn) (fun x y H Q=>∃z,x=kV z/\y=.ref a/\Q (.bl (!(valueAt vs z).isSome)) H):=by
 intro pins s σ H x y v u Q I rx ry ⟨z,ex,ey,q⟩
 subst ex;subst ey
 cases ry
 exact wpAny_notIn_of (fA rx) k.1 (k.dict I.kIn).mapOf ⟨.bl _,H,I.tok _,rfl,q⟩
theorem wQ {vs:List (Key × Value)}{a:Addr}(k:KD X.prog X.w X.K a vs):IxR X (fun x y H Q=>∃z v u,x=.ref a/\y=kV z/\valueAt vs z=some v/\RelV u v/\Q u H):=by
 intro value slice pins s σ H x y v u Q I rx ry ⟨z,v',u',ex,ey,hv,rv,q⟩ hs
 subst ex;subst ey
 cases rx
 have dd:=k.dict I.kIn
 exact tail_any dd.typeIs PySem.F.slot_dict_getitem.lookup (wpAny_getItem_of (fA ry) dd.mapOf hv ⟨_,H,I.tok _,rv,q⟩) hs
end
section
variable {X:Cx}
def rNil (K:W.Frag) (neg:Bool):V->V->Hp->VK->Prop:=fun x y H Q=>∃a b xs,x=.ref a/\y=.ref b/\SqL K H a xs/\H b=some (.lst [])/\Q (.bl (if neg then !xs.isEmpty else xs.isEmpty)) H
theorem vV (K:W.Frag) (hu:X.A.units+64<cLine) (hK:X.K=K := by rfl):OpR X (compareOp .NotEq) (rNil K true) := by
 subst hK
 intro pins s σ H x y v u Q I rx ry h
 obtain⟨a,b,xs,rfl,rfl,ha,hb,q⟩:=h
 cases rx
 cases ry
 obtain⟨its,rv,pl,hz⟩:=I.list ha
 obtain⟨jts,rw',pb,_⟩:=I.list (a:=b) (xs:=[]) (.of hb)
 cases rw'
 have l1:=rv.length
 cases xs with
 | nil =>
  cases rv
  obtain⟨o,e,c,n,d⟩:=pl.isList
  obtain⟨o2,e2,c2,n2,d2⟩:=pb.isList
  have za:Reads s.heap (.ref a) (.list []) _:=.list e c d (by simpa using ReadsAll.nil)
  have zb:Reads s.heap (.ref b) (.list []) _:=.list e2 c2 d2 (by simpa using ReadsAll.nil)
  exact ne_dataH za zb rfl rfl hu ⟨.bl _,H,I,rfl,q⟩
 | cons x r =>
  have hsz:(its.toArray.size != ([]:List Value).toArray.size)=true:=by
   rw[bne_iff_ne,Au,<- l1]
   simp
  exact kB pl.isList pb.isList hsz (by omega) ⟨.bl true,H,I,rfl,q⟩
end
def dI (a:Addr) (i n:Int):List (Key × V):=[(.inr "script",.ref a),(.inr "at",.int i),(.inr "left",.int n)]
def DPV (H:Hp) (p a:Addr):Prop:=∃(i n:Int),H p=some (.dK (dI a i n))/\0<=i/\0<=n
def DPen (K:W.Frag) (H:Hp) (p a:Addr):Prop:=(∃ns:List Int,∀H',But p H H'->SqL K H' a (ns.map V.int))/\DPV H p a
theorem DPen.but {K:W.Frag}{H H':Hp}{p a:Addr}(h:DPen K H p a) (b:But p H H') (v:DPV H' p a):DPen K H' p a:=⟨let ⟨ns,q⟩:=h.1;⟨ns,fun H2 b2=>q H2 (b.trans b2)⟩,v⟩
theorem DPV.upd (h:DPV H p a) (n:p≠D):DPV (L2.upd H D o) p a:=let ⟨i,m,e,q⟩:=h;⟨i,m,by rw[af n];exact e,q⟩
theorem DPV.ne (h:DPV H p a) (e:H D=none):p≠D:=let ⟨_,_,q,_⟩:=h;ah q e
theorem DPV.same (h:DPV H p a) (s:Same H H'):DPV H' p a:=let ⟨i,m,e,q⟩:=h;⟨i,m,s _ _ e,q⟩
theorem DPen.new {K:W.Frag}{H H':Hp}{p a:Addr}{ns:List Int}(h:SqL K H a (ns.map V.int)) (hp:H p=none) (s:Same H H') (v:DPV H' p a):DPen K H' p a := by
 refine⟨⟨ns,fun H2 b=>?_⟩,v⟩
 rcases h with h | h
 ·have n:a≠p:=by
     rcases h with h | ⟨ob,h⟩
     ·exact ah h hp
     ·exact ah h hp
  exact SqL.but (fun c o' n' e=>b c o' n' (s c o' e)) n (.inl h)
 ·exact .inr h
theorem kD (h:H p=some (.dK (dI a i n))):DGet H p (.str "script") (some (.ref a)):=DGet.k (k:=.inr "script") h
theorem yC (h:H p=some (.dK (dI a i n))):DGet H p (.str "at") (some (.int i)):=DGet.k (k:=.inr "at") h
theorem ny (h:H p=some (.dK (dI a i n))):DGet H p (.str "left") (some (.int n)):=DGet.k (k:=.inr "left") h
theorem yS (h:H p=some (.dK (dI a i n))):DPut H p (.str "at") (.int j) (upd H p (.dK (dI a j n))):=DPut.k (k:=.inr "at") h (by show 3<sizeLine;decide)
theorem ug (h:H p=some (.dK (dI a i n))):DPut H p (.str "left") (.int j) (upd H p (.dK (dI a i j))):=DPut.k (k:=.inr "left") h (by show 3<sizeLine;decide)
def iY (K:W.Frag):Sp:=fun vs H Q _=>∃(p a:Addr) (m:Int),vs=[.ref p,.int m]/\DPen K H p a/\0<m/\m<1073741824/\∀r H',0<=r->r<m->DPV H' p a->But p H H'->Q (.int r) H'
end L2
open PySem
namespace PySem.SeqAt
theorem tuple_indexAt (l:Addr) (items:Array Value) (n:Nat) (dd:Option Addr) (sl:Array (Option Value)) (x:Value) (e:Value -> Bool) (j:Nat) (hj:j<items.size)
    (hit:e items[j]=true) (hno:∀m (hm:m<items.size),m<j->e items[m]=false) :
    Meets (Builtin.«tuple.index» ⟨[.ref l,x],[]⟩)
     (fun A R s=>s.heap.get? l=some { cls:=.type "tuple",dict:=dd,data:=.seq items n,slots:=sl }/\(∀y,y∈items->EqAt A.in1 s y x (e y))/\R (.ok (.ret (.int j s.toks))) { s with toks:=s.toks+1 }) :=
 .of_wp fun prog w A R s h => by
  obtain⟨hp,g,d,tk,os⟩:=s;obtain⟨hl,he,h⟩:=h
  unfold Builtin.«tuple.index»
  simp only[Std.Legacy.Range.forIn_eq_forIn_range']
  wp_walk using wpAny_loadPart' hl,wpAny_forIn_list _ (fun dh b s'=>b.1=none/\s'=⟨hp,g,d,tk,os⟩/\∃i,i<=j/\dh=List.range' i (items.size-i)) _
  ·rintro i dh ⟨b1,b2⟩ s' ⟨hb,rfl,k,hk,hr⟩
   have hlt:0<items.size-k:=by omega
   obtain⟨m,hm⟩:∃m,items.size-k=m+1:=⟨_,(Nat.succ_pred_eq_of_pos hlt).symm⟩
   rw[hm,List.range'_succ] at hr
   obtain⟨rfl,rfl⟩:=List.cons.inj hr
   have hi:items[i]? = some (items[i]'(by omega)):=by simp
   rw[hi]
   refine zZ (he _ (Array.getElem_mem (by omega)) prog w _ _ ?_)
   by_cases q:i=j
   ·subst q
    rw[hit]
    wp_walk
    exact⟨_,rfl,h⟩
   ·rw[hno i (by omega) (by omega)]
    wp_walk
    refine⟨rfl,rfl,i+1,by omega,?_⟩
    rw[show items.size-(i+1)=m by omega]
  ·rintro⟨b1,b2⟩ s' ⟨hb,rfl,k,hk,hr⟩
   exfalso
   have:=congrArg List.length hr
   simp at this
   omega
  ·refine⟨rfl,rfl,0,AC _,?_⟩
   rw[Std.Legacy.Range.size]
   simp
end PySem.SeqAt
namespace L2
open PySem PySem.Spec PyProof.Rows
section
variable {X:Cx}
def lB:V->List V->Hp->VK->Prop:=fun x vs H Q=>∃l xs y j z,x=.ref l/\vs=[y]/\H l=some (.tup xs)/\cX y=true/\xs.all cX=true/\xs[j]? = some z/\eqV z y=true/\(∀(m:Nat) z',m<j->xs[m]? = some z'->eqV z' y=false)/\Q (.int ((j:Nat):Int)) H
theorem iC (a b:Value):argsOk "tuple.index" ⟨[a,b],[]⟩:=by
 unfold argsOk;rw[signature?_of (id:="tuple.index") (n:=['x','e','d','n','i']) (o:=['e','l','p','u','t']) (by kernel_rfl) F.owner_tuple];kernel_rfl
theorem ud:MtR X "tuple.index" lB:=by
 intro pins s σ H x vs v us Q I rx rv h
 obtain⟨l,xs,y,j,z,rfl,rfl,hH,fy,fs,hj,hz,hno,q⟩:=h
 cases rx
 obtain⟨u,rfl,ru⟩:=cU rv
 obtain⟨zz,its,r,⟨oc,od,odt,osl⟩,e,hc,n,hd,_⟩:=(show ObjOk X.prog X.w H s.heap l (.tup xs) from I.hok l _ hH)
 simp only at hc hd
 subst hc hd
 have hjl:=(Ac.mp hj).1
 have hlen:=r.length
 have look:∀m (hm:m<its.length),∃z',xs[m]? = some z'/\eqU y its[m]=eqV z' y:=fun m hm=>by
  obtain⟨z',hz',rz⟩:=nM r (Ar hm)
  exact⟨z',hz',j4 rz (Bj.mp fs z' (Ad hz'))⟩
 have hjs:j<its.toArray.size:=by simpa using (by omega:j<its.length)
 refine call_meets F.slot_tuple_index ⟨_,e,rfl⟩ F.entry_tuple_index (iC _ _) (SeqAt.tuple_indexAt l its.toArray n _ _ u (eqU y) j hjs ?_ ?_) ⟨e,fun w hw=>dM ru fy r fs w (by simpa using hw),⟨.int _,H,?_,⟨_,rfl⟩,q⟩⟩
 ·obtain⟨z',h1,h2⟩:=look j (by omega)
  rw[hj] at h1
  cases h1
  simpa using h2.trans hz
 ·intro m hm hlt
  obtain⟨z',h1,h2⟩:=look m (by simpa using hm)
  simpa using h2.trans (hno m z' hlt h1)
 ·exact I.kept fun b o eb=>eb
end
theorem rO (hc:X.calm=true) (hu:X.A.units+64<cLine) {xs:List V}{oi:Nat->HO}(I:Inv X pins σ H s) (hq:H p=some (.tup xs)) (h0:oi 0=.dK [])
    (hgo:∀(i:Nat) (x:V),xs[i]? = some x->∃b k v,x=V.ref b/\SqT X.K H b [k,v]/\∀l,H l=none->DPut (upd H l (oi i)) l k v (upd H l (oi (i+1)))) (q:∀l,H l=none->Q (.ref l) (upd H l (oi xs.length))) :
    wpAny (model X.prog X.w) X.A (call (.type "dict") [.ref p]) (EP X pins σ Q) X.xe s:=by
 refine callType_codes (Q₁:=fun obj s₁=>obj=.ref s.heap.objs.size/\s₁={ s with heap:=s.heap.push { cls:=.type "dict",data:=.dict #[] } }) F.kt_called_dict (F.kt_typeCall_dict_1 _) F.entry_dict_init (kt_code_dict_new _ ⟨rfl,rfl⟩) ?_
 rintro obj s₁ ⟨rfl,rfl⟩
 have hl:H s.heap.objs.size=none:=I.hok.fresh (Aa _)
 have npl:p≠s.heap.objs.size:=ah hq hl
 have I1:Inv X pins σ (upd H s.heap.objs.size (oi 0)) { s with heap:=s.heap.push { cls:=.type "dict",data:=.dict #[] } }:=by
  refine I.laid (a:=s.heap.objs.size) (o:=oi 0) (t':=s.toks) (fun _ _ q=>An _ q) (Aa _) ?_
  rw[h0];exact gX s.heap I.big
 have tD:(⟨s.heap.push { cls:=.type "dict",data:=.dict #[] },s.gens,s.drawn,s.toks,s.os⟩:Shared).TypeIs (.ref s.heap.objs.size) "dict":=⟨_,At _ rfl,rfl⟩
 refine⟨tD,F.args_dict_init_2 _ _,?_⟩
 unfold Builtin.«dict.__init__» Builtin.Dict.selfAndRest
 refine zZ (zZ (wpAny_notOrdered_dict tD ?_))
 show wpAny _ _ (pure (s.heap.objs.size,[Value.ref p])) _ _ _
 refine Ab ?_
 show wpAny _ _ (Builtin.Dict.updateFrom "dict.__init__" s.heap.objs.size (.ref p) [] .none) _ _ _
 unfold Builtin.Dict.updateFrom
 have hA:X.A.in1.in1.handled=none:=I.ok.hd hc
 have hq1:upd H s.heap.objs.size (oi 0) p=some (.tup xs):=by rw[af npl];exact hq
 obtain⟨hz,its,rv,o,ho,hcl,n,hdt,hdn⟩:=(show ObjOk X.prog X.w _ _ p (.tup xs) from I1.hok p _ hq1)
 refine zZ (wpAny_typeOf (T:="tuple") ⟨o,ho,hcl⟩ ?_)
 rw[if_pos (by decide)]
 refine zZ (oS ho hcl hdt hdn hA fun h' tk kp=>?_)
 have I2:=I1.kept (h':=h') (t':=tk) kp
 refine zZ (wpAny_rule (zZ ?_))
 obtain⟨its2,rv2,pl2,hz2⟩:=I2.tuple (SqT.of hq1)
 refine Bg pl2 ?_
 refine Ab ⟨plainId_quiet DU.plain_loop _,?_⟩
 have sqi:∀i,SqT X.K (upd H s.heap.objs.size (oi i)) p xs:=fun i=>.of (by rw[af npl];exact hq)
 refine mr (nm:="x") (tp:=default) (kw p h'.objs.size) hc hu s.heap.objs.size xs.length (fun i H'=>H'=upd H s.heap.objs.size (oi i)) (fun i H' hi e=>?_) (fun H' e=>?_) _ 0 0 _ _ rfl (AC _) (I2.kept (t':=tk) fun b o e=>An _ e) (fun b hb=>?_) ⟨_,At _ rfl,rfl,rfl⟩ rfl fun H' s' I' e=>?_
 ·subst e
  refine⟨⟨xs,xs[i],sqi i,Ar hi⟩,fun x H1 ⟨e1,e2⟩=>?_⟩
  subst e1
  obtain⟨b,k,v,ex,sq,dp⟩:=hgo i x (e2 xs (sqi i))
  exact⟨b,k,v,_,ex,sq.fresh hl,dp _ hl,rfl⟩
 ·subst e
  exact⟨xs,sqi _,Aa _⟩
 ·have e:b=h'.objs.size:=by simpa using hb
  subst e
  exact I2.fpOk (Aa _) (I2.hok.fresh (Aa _))
 ·subst e
  exact⟨rfl,.ref _,_,I',rfl,q _ hl⟩
def m5 (K:W.Frag):List V->Hp->VK->Prop:=fun vs H Q=>∃p xs,∃ps:List (Key × V),vs=[.ref p]/\H p=some (.tup xs)/\xs.length=ps.length/\xs.length<=1000 /\
 (∀(i:Nat) (q:Key × V) (x:V),ps[i]? = some q->xs[i]? = some x->∃b,x=V.ref b/\SqT K H b [kV q.1,q.2])/\∀l,H l=none->Q (.ref l) (upd H l (.dK (mkK ps)))
section
variable {X:Cx}{p pos:Pos}{e:Expr}{t:TA}
theorem fL (K:W.Frag) (hc:X.calm=true) (hu:X.A.units+64<cLine) (B:Blt X.mg) (ha:PA X [e] t) (hg:Gl X "dict":=by rfl) (he:starEach [e] X.env=(false,eval e X.env)::starEach [] X.env:=by rfl) (hpl:(backTo pos (starEach [] X.env)).any (·.1)=false:=by rfl) (hK:X.K=K:=by rfl) :
    PE X (.Call (.Name "dict" p) [e] [] pos) (tCB (m5 K) t):=by
 subst hK
 refine fk (r:=m5 X.K) (fun pins s σ H xs us Q I r h=>?_) hg B.dict (show bootBuiltins "dict"=some (.type "dict") by decide +kernel) ha (by decide) (by decide) he hpl
 obtain⟨p,xs,ps,rfl,hq,hl,hz,hp,q⟩:=h
 obtain⟨u,rfl,ru⟩:=cU r
 cases ru
 have sz:1000<sizeLine:=by decide
 refine rO hc hu (oi:=fun i=>.dK (mkK (ps.take i))) I hq rfl (fun i x hx=>?_) fun l hl'=>?_
 ·have hi:i<ps.length:=by rw[<- hl];exact(Ac.mp hx).1
  obtain⟨b,ex,sq⟩:=hp i ps[i] x (Ar hi) hx
  refine⟨b,kV ps[i].1,ps[i].2,ex,sq,fun l hl'=>?_⟩
  have d:=DPut.k (H:=upd H l (.dK (mkK (ps.take i)))) (a:=l) (kvs:=mkK (ps.take i)) (k:=ps[i].1) (v:=ps[i].2) ae (by have:=uh (ps.take i);rw[As] at this;omega)
  rw[kR,<- nK ps i ps[i] (Ar hi)] at d
  exact d
 ·rw[hl,List.take_length]
  exact q l hl'
end
end L2
namespace L2
open PySem
abbrev Kn:=List (Str × List Str)
def aU (ks:Kn):List Str:=ks.flatMap (·.2)
def bq (ks:Kn) (u:Str):Str:=((ks.find? fun k=>decide (u∈k.2)).map (·.1)).getD ""
theorem fX {xs ys:List Str}(nd:xs.Nodup) (h:∀x∈xs,x∈ys):xs.length<=ys.length:=by
 induction xs generalizing ys with
 | nil=>exact AC _
 | cons x xs ih =>
  rw[AL] at nd
  have hx:=h x (by simp)
  have p:=(List.perm_cons_erase hx).length_eq
  rw[Aw] at p ⊢
  have:=ih (ys:=ys.erase x) nd.2 fun z hz=>(List.mem_erase_of_ne (fun q:z=x=>nd.1 (q ▸ hz))).mpr (h z (AF _ hz))
  omega
structure Tre (us:List Str) (ks:Kn):Prop where
 perm:(aU ks).Perm us
 nd:us.Nodup
 nm:∀u∈us,Nm u
 len:us.length<=60
 top:("":Str)∈ks.map (·.1)
 kn:(ks.map (·.1)).Nodup
 sub:∀k∈ks,k.1=""∨k.1∈us
 up:∀k∈ks,∀u∈k.2,k.1=""∨MG.ix us k.1<MG.ix us u
section
variable {us:List Str}{ks:Kn}
theorem Tre.knd (T:Tre us ks):(aU ks).Nodup:=T.perm.nodup_iff.mpr T.nd
theorem Tre.has (T:Tre us ks) (h:u∈us):∃k∈ks,u∈k.2:=by
 have:=T.perm.mem_iff.mpr h
 exact A8.mp this
theorem Tre.isIn (T:Tre us ks) (hk:k∈ks) (hu:u∈k.2):u∈us:=T.perm.mem_iff.mp (A8.mpr ⟨k,hk,hu⟩)
theorem fi:∀ {ks:Kn}, (aU ks).Nodup -> ∀ {k k':Str × List Str}{u:Str}, k ∈ ks -> k' ∈ ks -> u ∈ k.2 -> u ∈ k'.2 -> k=k'
 | [],_,_,_,_,h,_,_,_=>by cases h
 | q :: ks, nd, k, k', u, h, h', hu, hu' => by
  have nd:(q.2++aU ks).Nodup:=nd
  rw[A4] at nd
  obtain⟨_,n2,n3⟩:=nd
  rcases AA.mp h with e | g
  ·rcases AA.mp h' with e' | g'
   ·rw[e,e']
   ·subst e
    exact absurd rfl (n3 u hu u (A8.mpr ⟨k',g',hu'⟩))
  ·rcases AA.mp h' with e' | g'
   ·subst e'
    exact absurd rfl (n3 u hu' u (A8.mpr ⟨k,g,hu⟩))
   ·exact fi n2 g g' hu hu'
theorem pU:∀ {ks:Kn}, (ks.map (·.1)).Nodup -> ∀ {k k':Str × List Str}, k ∈ ks -> k' ∈ ks -> k.1=k'.1 -> k=k'
 | [],_,_,_,h,_,_=>by cases h
 | q :: ks, nd, k, k', h, h', e0 => by
  rw[AD,AL] at nd
  rcases AA.mp h with e | g
  ·rcases AA.mp h' with e' | g'
   ·rw[e,e']
   ·subst e
    exact absurd (e0 ▸ Ag.mpr ⟨k',g',rfl⟩) nd.1
  ·rcases AA.mp h' with e' | g'
   ·subst e'
    exact absurd (e0 ▸ Ag.mpr ⟨k,g,rfl⟩) nd.1
   ·exact pU nd.2 g g' e0
theorem Tre.par (T:Tre us ks) (hk:k∈ks) (hu:u∈k.2):bq ks u=k.1:=by
 unfold bq
 cases q:ks.find? fun k=>decide (u∈k.2) with
 | none =>
  have:=List.find?_eq_none.mp q k hk
  exact absurd (Ai hu) this
 | some k' =>
  have h1:=List.find?_some q
  have h2:=List.mem_of_find?_eq_some q
  rw[fi T.knd hk h2 hu (Ao h1)];rfl
theorem Tre.par_in (T:Tre us ks) (h:u∈us):(bq ks u=""∨bq ks u∈us)/\bq ks u∈ks.map (·.1):=by
 obtain⟨k,hk,hu⟩:=T.has h
 rw[T.par hk hu]
 exact⟨T.sub k hk,Ag.mpr ⟨k,hk,rfl⟩⟩
theorem Tre.kid (T:Tre us ks) (h:u∈us) (hk:(bq ks u,c)∈ks):u∈c:=by
 obtain⟨k,hk',hu⟩:=T.has h
 rw[T.par hk' hu] at hk
 have:k=(k.1,c):=pU T.kn hk' hk rfl
 rw[this] at hu;exact hu
theorem Tre.few (T:Tre us ks):ks.length<=61:=by
 have:=fX (ys:=""::us) T.kn fun x hx=>by
  obtain⟨k,hk,rfl⟩:=Ag.mp hx
  rcases T.sub k hk with q | q
  ·rw[q];simp
  ·exact AF _ q
 rw[z0,Aw] at this
 have:=T.len
 omega
def rkU (us:List Str) (u:Str):Nat:=if u="" then 0 else MG.ix us u+1
theorem Tre.nn (T:Tre us ks) (h:u∈us):u≠"":=fun z=>by
 have:=(T.nm u h).1
 rw[z] at this
 exact absurd this (by decide)
theorem Tre.rk (T:Tre us ks) (h:u∈us):rkU us (bq ks u)<rkU us u:=by
 obtain⟨k,hk,hu⟩:=T.has h
 rw[T.par hk hu]
 unfold rkU
 rw[if_neg (T.nn h)]
 rcases T.up k hk u hu with q | q
 ·rw[if_pos q];omega
 ·split
  ·omega
  ·omega
theorem Tre.rk60 (T:Tre us ks) (h:u∈us):rkU us u<=60:=by
 unfold rkU
 rw[if_neg (T.nn h)]
 have:=MG.ix_lt h
 have:=T.len
 omega
def jf (par:Str->Str):Nat->Str->List Str
 | 0,_=>[]
 | n+1,u=>if u="" then [] else jf par n (par u)++[u]
theorem Tre.stable (T:Tre us ks):∀(n m:Nat) (u:Str), u="" ∨ u ∈ us -> rkU us u<n -> rkU us u<m -> jf (bq ks) n u=jf (bq ks) m u
 | 0,_,_,_,h,_=>absurd h (Nat.not_lt_zero _)
 | _,0,_,_,_,h=>absurd h (Nat.not_lt_zero _)
 | n+1,m+1,u,hu,h1,h2=>by
  show (if u="" then [] else jf (bq ks) n (bq ks u)++[u])=(if u="" then [] else jf (bq ks) m (bq ks u)++[u])
  by_cases q:u=""
  ·rw[if_pos q,if_pos q]
  ·have hu:u∈us:=hu.resolve_left q
   have:=T.rk hu
   rw[if_neg q,if_neg q,T.stable n m (bq ks u) (T.par_in hu).1 (by omega) (by omega)]
def lin (ks:Kn) (u:Str):List Str:=jf (bq ks) 100 u
theorem xY:lin ks ""=[]:=rfl
theorem Tre.lin (T:Tre us ks) (h:u∈us):lin ks u=L2.lin ks (bq ks u)++[u]:=by
 have h1:=T.rk h
 have h2:=T.rk60 h
 show (if u="" then [] else jf (bq ks) 99 (bq ks u)++[u])=_
 rw[if_neg (T.nn h),T.stable 99 100 (bq ks u) (T.par_in h).1 (by omega) (by omega)];rfl
theorem Tre.lin_ind (T:Tre us ks) {P:Str -> Prop}(h0:P "") (h1:∀u ∈ us, P (bq ks u) -> P u):∀u:Str, u="" ∨ u ∈ us -> P u := by
 have go:∀n u, rkU us u<n -> u="" ∨ u ∈ us -> P u := by
  intro n
  induction n with
  | zero=>intro u h;omega
  | succ n ih =>
   intro u h hu
   by_cases q:u=""
   ·rw[q];exact h0
   ·have hu:=hu.resolve_left q
    have:=T.rk hu
    exact h1 u hu (ih _ (by omega) (T.par_in hu).1)
 intro u hu
 exact go _ u (Nat.lt_succ_self _) hu
theorem Tre.lin_in (T:Tre us ks):∀u:Str,u=""∨u∈us->∀z∈L2.lin ks u,z∈us:=by
 refine T.lin_ind (P:=fun u=>∀z∈L2.lin ks u,z∈us) (fun z hz=>by cases hz) fun u hu ih z hz=>?_
 rw[T.lin hu] at hz
 rcases Aj.mp hz with q | q
 ·exact ih z q
 ·rw[Av.mp q];exact hu
theorem Tre.lin_len (T:Tre us ks):∀u:Str,u=""∨u∈us->(L2.lin ks u).length<=rkU us u:=by
 refine T.lin_ind (P:=fun u=>(L2.lin ks u).length<=rkU us u) (AC _) fun u hu ih=>?_
 rw[T.lin hu,Aq]
 have:=T.rk hu
 show _+1<=_
 omega
def Chn (par:Str->Str):Str->List Str->Prop
 | _,[]=>True
 | k,x::r=>par x=k/\Chn par x r
theorem Chn.snoc:∀ {k:Str}{l:List Str},Chn par k l->par u=(l.getLast?).getD k->Chn par k (l++[u])
 | k,[],_,h=>⟨h,trivial⟩
 | k,[x],c,h=>⟨c.1,h,trivial⟩
 | k,x::y::r,c,h=>⟨c.1,Chn.snoc (l:=y::r) c.2 (by rw[List.getLast?_cons_cons] at h;rw[h];cases q:(y::r).getLast? with | none=>simp at q | some z=>rfl)⟩
theorem Tre.lin_last (T:Tre us ks):∀u:Str,u=""∨u∈us->((L2.lin ks u).getLast?).getD ""=u:=by
 refine T.lin_ind (P:=fun u=>((L2.lin ks u).getLast?).getD ""=u) rfl fun u hu _=>?_
 rw[T.lin hu];simp
theorem Tre.lin_chn (T:Tre us ks):∀u:Str,u=""∨u∈us->Chn (bq ks) "" (L2.lin ks u):=by
 refine T.lin_ind (P:=fun u=>Chn (bq ks) "" (L2.lin ks u)) trivial fun u hu ih=>?_
 rw[T.lin hu]
 exact ih.snoc (T.lin_last _ (T.par_in hu).1).symm
def prt:Str->List Str->List Str->Option (Str × Str × Str)
 | k,x::a,y::b=>if x=y then prt x a b else some (k,x,y)
 | _,_,_=>none
theorem n8:∀ {k:Str}{a b:List Str}{q x y:Str}, Chn par k a -> Chn par k b -> prt k a b=some (q, x, y) -> par x=q /\ par y=q /\ x ∈ a /\ y ∈ b /\ x ≠ y
 | k,[],_,_,_,_,_,_,h=>by simp[prt] at h
 | k,_::_,[],_,_,_,_,_,h=>by simp[prt] at h
 | k,u::a,v::b,q,x,y,ca,cb,h=>by
  have h:(if u=v then prt u a b else some (k,u,v))=some (q,x,y):=h
  by_cases e:u=v
  ·rw[if_pos e] at h
   rw[<- e] at cb
   obtain⟨h1,h2,h3,h4,h5⟩:=n8 ca.2 cb.2 h
   exact⟨h1,h2,AF _ h3,AF _ h4,h5⟩
  ·rw[if_neg e] at h
   injection h with h
   injection h with h1 h
   injection h with h2 h3
   subst h1 h2 h3
   exact⟨ca.1,cb.1,by simp,by simp,e⟩
theorem jr:∀(k:Str) (a b:List Str), prt k b a=(prt k a b).map fun t => (t.1, t.2.2, t.2.1)
 | k,[],b=>by cases b <;> rfl
 | k,x::a,[]=>rfl
 | k,x::a,y::b=>by
  show (if y=x then prt y b a else some (k,y,x))=(if x=y then prt x a b else some (k,x,y)).map _
  by_cases e:x=y
  ·subst e
   rw[if_pos rfl,if_pos rfl]
   exact jr x a b
  ·rw[if_neg (fun z=>e z.symm),if_neg e];rfl
def aH (ks:Kn) (u v:Str):Option (Str × Str × Str):=prt "" (lin ks u) (lin ks v)
theorem Tre.part (T:Tre us ks) (hu:u∈us) (hv:v∈us) (h:aH ks u v=some (q,x,y)):bq ks x=q/\bq ks y=q/\x∈us/\y∈us/\x≠y:=by
 obtain⟨h1,h2,h3,h4,h5⟩:=n8 (T.lin_chn u (.inr hu)) (T.lin_chn v (.inr hv)) h
 exact⟨h1,h2,T.lin_in u (.inr hu) x h3,T.lin_in v (.inr hv) y h4,h5⟩
abbrev tp (a:List Str):List Str:=("":Str)::a
def Gon (a b:List Str) (i:Nat):Prop:=i=0∨(1<=i/\prt "" a b=prt ((tp a).getD (i-1) "") ((tp a).drop i) ((tp b).drop i))
theorem Gon.step (g:Gon a b i) (h1:(tp a)[i]? = some x) (h2:(tp b)[i]? = some x):Gon a b (i+1):=by
 right
 refine⟨by omega,?_⟩
 rcases g with rfl | ⟨hi,g⟩
 ·rfl
 ·have l1:=(Ac.mp h1)
  have l2:=(Ac.mp h2)
  have e:(tp a).getD (i+1-1) ""=x:=by rw[Nat.add_sub_cancel,AG,h1];rfl
  rw[g,Bm l1.1,Bm l2.1,l1.2,l2.2,e]
  show (if x=x then _ else _)=_
  rw[if_pos rfl]
theorem Gon.stop (g:Gon a b i) (h:i=min (a.length+1) (b.length+1)):prt "" a b=none := by
 rcases g with rfl | ⟨hi,g⟩
 ·omega
 ·rw[g]
  by_cases q:a.length<=b.length
  ·rw[A7 (l:=tp a) (by rw[Aw];omega)];rfl
  ·rw[A7 (l:=tp b) (by rw[Aw];omega)]
   cases (tp a).drop i <;> rfl
theorem Gon.part (g:Gon a b i) (h1:(tp a)[i]? = some x) (h2:(tp b)[i]? = some y) (ne:x≠y):1<=i/\prt "" a b=some ((tp a).getD (i-1) "",x,y):=by
 rcases g with rfl | ⟨hi,g⟩
 ·exfalso
  injection h1 with h1
  injection h2 with h2
  exact ne (h1.symm.trans h2)
 ·have l1:=(Ac.mp h1)
  have l2:=(Ac.mp h2)
  refine⟨hi,?_⟩
  rw[g,Bm l1.1,Bm l2.1,l1.2,l2.2]
  show (if x=y then _ else _)=_
  rw[if_neg ne]
end
def bN (k:Str × List Str):PyData:=.tuple [.str k.1,.tuple (k.2.map PyData.str)]
def cv (ks:Kn):PyData:=.tuple (ks.map bN)
def bW (ps:List (Str × Str)):PyData:=.tuple (ps.map aE)
def aJ (ks:Kn) (ts ws wn:List (Str × Str)):PyData:=.tuple [cv ks,bW ts,bW ws,bW wn]
section
variable {H H':Hp}
theorem i3 (h:Rep H v (bN k)):∃ta la,v=.ref ta/\H ta=some (.tup [.str k.1,.ref la])/\H la=some (.tup (k.2.map V.str)):=by
 obtain⟨q,ws,rfl,hq,r0⟩:=Rep.tupI h
 obtain⟨y,ys,rfl,r1,r3⟩:=r0.consI
 obtain⟨z,zs,rfl,r2,r4⟩:=r3.consI
 have e1:=RepAll.nilI r4
 subst e1
 have e0:=Rep.strI r1
 subst e0
 obtain⟨b,xb,rfl,hb,rb⟩:=Rep.tupI r2
 have e2:=RepAll.strs rb
 subst e2
 exact⟨q,b,rfl,hq,hb⟩
theorem eR {refs:List V}{ks:Kn}(rp:RepAll H refs (ks.map bN)) {i:Nat}{x:V}(hx:refs[i]? = some x):∃k ta la,ks[i]? = some k/\x=.ref ta/\H ta=some (.tup [.str k.1,.ref la])/\H la=some (.tup (k.2.map V.str)):=by
 obtain⟨d,hd,rd⟩:=rp.get hx
 rw[Al] at hd
 cases q:ks[i]? with
 | none=>rw[q] at hd;cases hd
 | some e =>
  rw[q] at hd
  have hd:bN e=d:=Af hd
  rw[<- hd] at rd
  obtain⟨ta,la,h1,h2,h3⟩:=i3 rd
  exact⟨e,ta,la,rfl,h1,h2,h3⟩
theorem cY (h:Rep H v (cv ks)):∃a refs,v=.ref a/\H a=some (.tup refs)/\RepAll H refs (ks.map bN):=Rep.tupI h
theorem aP (h:Rep H v (bW ps)):∃a refs,v=.ref a/\H a=some (.tup refs)/\RepAll H refs (ps.map aE):=Rep.tupI h
theorem aX (h:Rep H v (aJ ks ts ws wn)):∃q a b c d,v=.ref q/\H q=some (.tup [.ref a,.ref b,.ref c,.ref d])/\Rep H (.ref a) (cv ks)/\Rep H (.ref b) (bW ts)/\Rep H (.ref c) (bW ws)/\Rep H (.ref d) (bW wn):=by
 obtain⟨q,xs,rfl,hq,r0⟩:=Rep.tupI h
 obtain⟨y,ys,rfl,r1,r3⟩:=r0.consI
 obtain⟨z,zs,rfl,r2,r4⟩:=r3.consI
 obtain⟨z3,zs3,rfl,r5,r6⟩:=r4.consI
 obtain⟨z4,zs4,rfl,r7,r8⟩:=r6.consI
 have e1:=RepAll.nilI r8
 subst e1
 obtain⟨a,_,rfl,_⟩:=Rep.tupI r1
 obtain⟨b,_,rfl,_⟩:=Rep.tupI r2
 obtain⟨c,_,rfl,_⟩:=Rep.tupI r5
 obtain⟨d,_,rfl,_⟩:=Rep.tupI r7
 exact⟨q,a,b,c,d,rfl,hq,r1,r2,r5,r7⟩
theorem ce (hq:H q=some (.tup [.ref a,.ref b,.ref c,.ref d])) (r1:Rep H (.ref a) (cv ks)) (r2:Rep H (.ref b) (bW ts)) (r3:Rep H (.ref c) (bW ws)) (r4:Rep H (.ref d) (bW wn)):Rep H (.ref q) (aJ ks ts ws wn) :=
 .tup hq (.cons r1 (.cons r2 (.cons r3 (.cons r4 .nil))))
theorem cw (hp:H p=some (.lst ys)) (b:But p H H') (h:H a=some (.tup xs)):H' a=some (.tup xs):=b a _ (ba h hp (by intro z;cases z)) h
theorem aV (hp:H p=some (.lst ys)) (b:But p H H') (h:Rep H v (aE e)):Rep H' v (aE e):=by
 obtain⟨a,rfl,ha⟩:=fJ h
 exact aM (cw hp b ha)
theorem aO (k:∀ {v:V}{e:α},Rep H v (f e)->Rep H' v (f e)):∀ {es:List α}{xs:List V},RepAll H xs (es.map f)->RepAll H' xs (es.map f)
 | [],xs,h=>by rw[RepAll.nilI h];exact .nil
 | e::es,xs,h=>by
  obtain⟨y,ys',rfl,a,c⟩:=RepAll.consI h
  exact .cons (k a) (aO k c)
theorem fU (hp:H p=some (.lst ys)) (b:But p H H') (h:Rep H v (bW ps)):Rep H' v (bW ps):=by
 obtain⟨a,xs,rfl,ha,r⟩:=aP h
 exact .tup (cw hp b ha) (aO (aV hp b) r)
theorem df (hp:H p=some (.lst ys)) (b:But p H H') (h:Rep H v (bN k)):Rep H' v (bN k):=by
 obtain⟨ta,la,rfl,h1,h2⟩:=i3 h
 exact .tup (cw hp b h1) (.cons (.str _) (.cons (.tup (cw hp b h2) (RepAll.of_strs _)) .nil))
theorem fP (hp:H p=some (.lst ys)) (b:But p H H') (h:Rep H v (cv ks)):Rep H' v (cv ks):=by
 obtain⟨a,xs,rfl,ha,r⟩:=cY h
 exact .tup (cw hp b ha) (aO (df hp b) r)
theorem mZ (hp:H p=some (.lst ys)) (b:But p H H') (h:Rep H v (aJ ks ts ws wn)):Rep H' v (aJ ks ts ws wn):=by
 obtain⟨q,a,c,d,e,rfl,hq,r1,r2,r3,r4⟩:=aX h
 exact ce (cw hp b hq) (fP hp b r1) (fU hp b r2) (fU hp b r3) (fU hp b r4)
end
def ArK (kvs:List (Key × V)) (us:List Str) (ks:Kn):Prop:=∀u∈us,aw kvs (.inr u)=some (.str (bq ks u))
theorem dN (a b:Kn):aU (a++b)=aU a++aU b:=BQ
theorem iM {ks:Kn}{i:Nat}{k:Str × List Str}(h:ks[i]? = some k):aU (ks.take (i+1))=aU (ks.take i)++k.2:=by
 rw[Am,h,dN]
 show _++([k].flatMap (·.2))=_
 simp
structure ArN (H H':Hp) (d:Addr) (ks:Kn) (i j:Nat) (kvs:List (Key × V)):Prop where
 sm:Same H H'
 at_:H' d=some (.dK kvs)
 len:kvs.length<=(aU (ks.take i)).length+j
 old:∀k∈ks.take i,∀u∈k.2,aw kvs (.inr u)=some (.str k.1)
 cur:∀k,ks[i]? = some k->∀u∈k.2.take j,aw kvs (.inr u)=some (.str k.1)
section
variable {H H':Hp}{d:Addr}{ks:Kn}{i j:Nat}{kvs:List (Key × V)}
theorem ArN.put (h:ArN H H' d ks i j kvs) (hd:H d=none) (nd:(aU ks).Nodup) {k:Str × List Str}(hk:ks[i]? = some k) {u:Str}(hu:k.2[j]? = some u) :
    ArN H (upd H' d (.dK (bi kvs (.inr u) (.str k.1)))) d ks i (j+1) (bi kvs (.inr u) (.str k.1)):=by
 have nd2:(aU (ks.take i)++k.2).Nodup:=by
  rw[<- iM hk]
  have e:aU ks=aU (ks.take (i+1))++aU (ks.drop (i+1)):=by rw[<- dN,Bz]
  rw[e] at nd
  exact(A4.mp nd).1
 obtain⟨_,n2,n3⟩:=A4.mp nd2
 have hum:=Ad hu
 refine⟨fun b o hb=>?_,ae,?_,fun k' hk' u' hu'=>?_,fun k' hk' u' hu'=>?_⟩
 ·rw[af (ah hb hd)];exact h.sm _ _ hb
 ·have:=bw kvs (.inr u) (V.str k.1)
  have:=h.len
  omega
 ·rw[cH,if_neg (fun z=>n3 u' (A8.mpr ⟨k',hk',hu'⟩) u hum (by injection z))]
  exact h.old k' hk' u' hu'
 ·rw[hk] at hk'
  cases hk'
  rw[Am,hu] at hu'
  rw[cH]
  by_cases q:u'=u
  ·subst q;rw[if_pos rfl]
  ·rw[if_neg (fun z=>q (by injection z))]
   rcases Aj.mp hu' with z | z
   ·exact h.cur k hk u' z
   ·exact absurd (by simpa using z) q
theorem ArN.next (h:ArN H H' d ks i j kvs) {k:Str × List Str}(hk:ks[i]? = some k) (hj:j=k.2.length):ArN H H' d ks (i+1) 0 kvs := by
 subst hj
 refine⟨h.sm,h.at_,?_,fun k' hk' u hu=>?_,fun k' _ u hu=>by simp at hu⟩
 ·rw[iM hk,Aq];exact h.len
 ·rw[Am,hk] at hk'
  rcases Aj.mp hk' with z | z
  ·exact h.old k' z u hu
  ·have:k'=k:=by simpa using z
   subst this
   exact h.cur k' hk u (by rw[Ak (Aa _)];exact hu)
theorem ArN.room (h:ArN H H' d ks i j kvs) {k:Str × List Str}(hk:ks[i]? = some k) (hj:j<k.2.length) (hl:(aU ks).length<=60):kvs.length<=60:=by
 have e:aU ks=aU (ks.take (i+1))++aU (ks.drop (i+1)):=by rw[<- dN,Bz]
 rw[e,iM hk,Aq,Aq] at hl
 have:=h.len
 omega
theorem ArN.fin (h:ArN H H' d ks i 0 kvs) (T:Tre us ks) (hi:i=ks.length):ArK kvs us ks:=fun u hu=>by
 obtain⟨k,hk,hu'⟩:=T.has hu
 rw[T.par hk hu']
 subst hi
 exact h.old k (by rw[Ak (Aa _)];exact hk) u hu'
end
def PrtV (H:Hp) (v:V):Option (Str × Str × Str)->Prop
 | none=>v=.non
 | some (k,x,y)=>∃t,v=.ref t/\H t=some (.tup [.str k,.str x,.str y])
theorem PrtV.same (h:PrtV H v o) (s:Same H H'):PrtV H' v o:=by
 cases o with
 | none=>exact h
 | some q=>obtain⟨t,e,ht⟩:=h;exact⟨t,e,s _ _ ht⟩
abbrev KL:=List (Addr × Addr × (Str × List Str))
abbrev cI (kl:KL):Kn:=kl.map fun q=>q.2.2
section
variable {H H':Hp}{L p:Addr}{kl:KL}
theorem fD {α:Type}{l:List α}{j:Nat}{b x:α}(h:x∈l.set j b):x=b∨∃m,m≠j/\l[m]? = some x:=by
 obtain⟨m,hm⟩:=AE h
 by_cases q:m=j
 ·subst q
  rw[List.getElem?_set] at hm
  rw[if_pos rfl] at hm
  split at hm
  ·exact .inl (Af hm).symm
  ·cases hm
 ·rw[BV (Ne.symm q)] at hm
  exact .inr ⟨m,q,hm⟩
theorem fV {α β:Type}{f:α->β}{l:List α}{j:Nat}{x y:α}(h:l[j]? = some x) (e:f y=f x):(l.set j y).map f=l.map f:=by
 rw[List.map_set,e]
 refine List.ext_getElem? fun m=>?_
 rw[List.getElem?_set]
 split
 ·rename_i q
  subst q
  have:=(Ac.mp h).1
  rw[z0,if_pos this,Al,h];rfl
 ·rfl
theorem gT {α:Type}{l:List α}{k:Nat}{x y:α}(h:y∈l.take k++x::l.drop k):y=x∨y∈l:=by
 rcases Aj.mp h with q | q
 ·exact .inr (Bd q)
 ·rcases AA.mp q with q | q
  ·exact .inl q
  ·exact .inr (Be q)
theorem lW (l:List α) (k:Nat) (x:α):(l.take k++x::l.drop k).Perm (x::l):=by
 have:=List.perm_middle (a:=x) (l₁:=l.take k) (l₂:=l.drop k)
 rw[Bz] at this
 exact this
end
structure TrN (us:List Str) (i:Nat) (ks:Kn):Prop where
 perm:(aU ks).Perm (us.take i)
 top:("":Str)∈ks.map (·.1)
 kn:(ks.map (·.1)).Nodup
 sub:∀k∈ks,k.1=""∨k.1∈us.take i
 up:∀k∈ks,∀u∈k.2,k.1=""∨MG.ix us k.1<MG.ix us u
section
variable {us:List Str}{i:Nat}{ks:Kn}
theorem TrN.start:TrN us 0 [("",[])]:=⟨by show ([]:List Str).Perm _;rw[List.take_zero],by simp,by simp,fun k hk=>by rw[Av.mp hk];exact .inl rfl,fun k hk u hu=>by rw[Av.mp hk] at hu;cases hu⟩
theorem mY (pc:ch'.Perm (u::ch)):∀ {ks:Kn}{j:Nat},ks[j]? = some (nm,ch)->(aU (ks.set j (nm,ch'))).Perm (u::aU ks)
 | [],j,h=>by simp at h
 | k::ks,0,h=>by
  have h:k=(nm,ch):=by simpa using h
  subst h
  show (ch'++aU ks).Perm (u::(ch++aU ks))
  exact(pc.append_right _)
 | k::ks,j+1,h=>by
  have h:ks[j]? = some (nm,ch):=by simpa using h
  have ih:=mY pc (ks:=ks) (j:=j) h
  show (k.2++aU (ks.set j (nm,ch'))).Perm (u::(k.2++aU ks))
  exact(ih.append_left _).trans List.perm_middle
theorem TrN.step (h:TrN us i ks) (nd:us.Nodup) {u:Str}(hu:us[i]? = some u) {j:Nat}{nm:Str}{ch ch':List Str}(hj:ks[j]? = some (nm, ch)) (pc:ch'.Perm (u :: ch)):TrN us (i+1) (ks.set j (nm, ch')) := by
 have hi:=(Ac.mp hu).1
 have tk:us.take (i+1)=us.take i++[u]:=by rw[Am,hu];rfl
 have hm:=Ad hj
 have e1:((ks.set j (nm,ch')).map fun k=>k.1)=ks.map fun k=>k.1:=fV hj rfl
 have ixu:MG.ix us u=i:=MG.ix_at nd hu
 have ixo:∀x∈us.take i,MG.ix us x<i:=fun x hx=>by
  obtain⟨m,hm⟩:=AE hx
  have hml:=(Ac.mp hm).1
  rw[As] at hml
  rw[Br (by omega)] at hm
  rw[MG.ix_at nd hm];omega
 refine⟨?_,by rw[e1];exact h.top,by rw[e1];exact h.kn,fun k hk=>?_,fun k hk x hx=>?_⟩
 ·rw[tk]
  refine(mY (j:=j) pc hj).trans (((h.perm.cons u)).trans ?_)
  exact(List.perm_append_singleton u _).symm
 ·have:k.1∈ks.map fun k=>k.1:=by rw[<- e1];exact Ag.mpr ⟨k,hk,rfl⟩
  obtain⟨k',hk',e⟩:=Ag.mp this
  rw[<- e,tk]
  rcases h.sub k' hk' with q | q
  ·exact .inl q
  ·exact .inr (AR _ q)
 ·rcases fD hk with rfl | ⟨m, _, hm'⟩
  ·rcases AA.mp (pc.mem_iff.mp hx) with rfl | hx
   ·rcases h.sub _ hm with q | q
    ·exact .inl q
    ·right
     rw[ixu]
     exact ixo _ q
   ·exact h.up _ hm x hx
  ·exact h.up _ (Ad hm') x hx
theorem TrN.knot (h:TrN us (i+1) ks) (nd:us.Nodup) (nn:∀u ∈ us, u ≠ "") {u:Str}(hu:us[i]? = some u) (hnew:u ∉ ks.map (·.1)) (k:Nat):TrN us (i+1) (ks.take k ++ (u, []) :: ks.drop k) := by
 have hm:=Ad hu
 have pm:=lW ks k (u,([]:List Str))
 have pn:=pm.map fun k:Str × List Str=>k.1
 refine⟨?_,pn.mem_iff.mpr (AF _ h.top),pn.nodup_iff.mpr (by rw[AD,AL];exact⟨hnew,h.kn⟩),fun q hq=>?_,fun q hq x hx=>?_⟩
 ·have e:aU (ks.take k++(u,[])::ks.drop k)=aU ks:=by
     have a:aU ((u,([]:List Str))::ks.drop k)=aU (ks.drop k):=rfl
     rw[dN,a,<- dN,Bz]
  rw[e];exact h.perm
 ·rcases gT hq with rfl | hq
  ·right
   show u∈us.take (i+1)
   rw[Am,hu];simp
  ·exact h.sub q hq
 ·rcases gT hq with rfl | hq
  ·cases hx
  ·exact h.up q hq x hx
theorem TrN.fin (h:TrN us us.length ks) (nd:us.Nodup) (nm:∀u∈us,Nm u) (len:us.length<=60):Tre us ks :=
 ⟨by have:=h.perm;rwa [Ak (Aa _)] at this,nd,nm,len,h.top,h.kn,fun k hk=>by have:=h.sub k hk;rwa [Ak (Aa _)] at this,h.up⟩
end
theorem lT:∀ {ks:Kn}{refs:List V}, RepAll H refs (ks.map bN) -> ∃ls:List V, ls.length=ks.length /\ ∀(i:Nat) (k:Str × List Str), ks[i]? = some k -> ∃ta la, refs[i]? = some (.ref ta) /\ ls[i]? = some (.ref la) /\ H ta=some (.tup [.str k.1, .ref la]) /\ H la=some (.tup (k.2.map V.str))
 | [],refs,_=>⟨[],rfl,fun i k h=>by simp at h⟩
 | k::ks,refs,h=>by
  obtain⟨y,ys,rfl,r1,r2⟩:=RepAll.consI h
  obtain⟨ta,la,rfl,h1,h2⟩:=i3 r1
  obtain⟨ls,hl,ih⟩:=lT r2
  refine⟨.ref la::ls,by rw[Aw,Aw,hl],fun i k' hk=>?_⟩
  cases i with
  | zero =>
   have:k=k':=by simpa using hk
   subst this
   exact⟨ta,la,rfl,rfl,h1,h2⟩
  | succ i=>exact ih i k' (by simpa using hk)
theorem vN (xs:List Str) (ys:List V) (h:ys.length=xs.length):(cf xs ys).length=xs.length:=by
 unfold cf
 rw[A3,z0]
 omega
theorem xJ {xs:List Str}{ys:List V}{i:Nat}{q:Key × V}(h:(cf xs ys)[i]? = some q):∃x,xs[i]? = some x/\q.1=.inr x/\ys[i]? = some q.2:=by
 unfold cf at h
 rw[AT,Al] at h
 cases e:xs[i]? with
 | none=>rw[e] at h;cases h.1
 | some x =>
  rw[e] at h
  exact⟨x,rfl,(Af h.1).symm,h.2⟩
theorem dw {us:List Str}(R:Rep H (.ref a) (cv ks)) (T:Tre us ks)
    (h:∀D dk,H D=none->(∀k∈ks,∃la,aw dk (.inr k.1)=some (.ref la)/\H la=some (.tup (k.2.map V.str)))->Q (.ref D) (upd H D (.dK dk))):m5 K [.ref a] H Q:=by
 obtain⟨a',refs,e0,ha,rp⟩:=cY R
 cases e0
 obtain⟨ls,hl,hat⟩:=lT rp
 have rlen:=rp.len
 rw[z0] at rlen
 have few:=T.few
 have zl:(cf (ks.map (·.1)) ls).length=ks.length:=by rw[vN _ _ (by rw[z0];exact hl),z0]
 refine⟨a,refs,cf (ks.map (·.1)) ls,rfl,ha,by rw[zl];exact rlen,by omega,fun i q x hq hx=>?_,fun D hD=>?_⟩
 ·obtain⟨nm,h1,h2,h3⟩:=xJ hq
  rw[Al] at h1
  cases e:ks[i]? with
  | none=>rw[e] at h1;cases h1
  | some k =>
   rw[e] at h1
   obtain⟨ta,la,g1,g2,g3,g4⟩:=hat i k e
   rw[g1] at hx
   rw[g2] at h3
   have ex:V.ref ta=x:=Af hx
   have e3:V.ref la=q.2:=Af h3
   have e1:k.1=nm:=Af h1
   refine⟨ta,ex.symm,.of ?_⟩
   rw[h2,<- e3,<- e1];exact g3
 ·refine h D _ hD fun k hk=>?_
  obtain⟨i,hi⟩:=AE hk
  obtain⟨ta,la,g1,g2,g3,g4⟩:=hat i k hi
  refine⟨la,?_,g4⟩
  rw[qj _ _ T.kn]
  exact jl T.kn (by rw[Al,hi];rfl) g2
theorem aT:∀ {ps:List (Str × Str)},(∀e∈ps,Nm e.1/\Nm e.2)->PyData.canLayAll0 (ps.map aE)=true
 | [],_=>rfl
 | e::ps,h=>by
  have:=h e (by simp)
  show (PyData.canLay0 (aE e)&&PyData.canLayAll0 (ps.map aE))=true
  rw[aT fun x hx=>h x (AF _ hx)]
  show ((PyData.canLay0 (.str e.1)&&(PyData.canLay0 (.str e.2)&&true))&&true)=true
  rw[cz this.1,cz this.2];rfl
theorem em (h:Nm e.1/\Nm e.2):PyData.canLay0 (aE e)=true:=by
 show (PyData.canLay0 (.str e.1)&&(PyData.canLay0 (.str e.2)&&true))=true
 rw[cz h.1,cz h.2];rfl
theorem cg (xs:List Str):(List.map V.str xs).all cX=true:=by
 rw[List.all_map,Bj]
 intro x _;rfl
theorem dU (x:Str) (xs:List Str):inV (V.str x) (List.map V.str xs)=decide (x∈xs):=by
 rw[AV,decide_eq_true_iff]
 unfold inV
 rw[List.any_map,BK]
 constructor
 ·rintro⟨y,hy,q⟩
  have q:(y==x)=true:=q
  have q:y=x:=by simpa using q
  exact q ▸ hy
 ·intro h
  refine⟨x,h,?_⟩
  show (x==x)=true
  simp
def tBMT (r:V->List V->Hp->VK->Prop) (to:TE) (t:TA):TE:=fun σ H Q=>to σ H fun x H1=>(∃p xs,x=.ref p/\H1 p=some (.tup xs))/\t σ H1 fun xs H2=>r x xs H2 Q
theorem gq (ho:PE X o to) (ha:PA X [e] t)
    (hbase:attributeBase o "index" X.env (eval o X.env)=eval o X.env:=by rfl)
    (hfew:((backTo cpos (starEach [e] X.env)).all (fun x=>!x.1)&&(backToKw cpos (keywordEach [] X.env)).all (fun x=>x.1.isSome)
     && decide ([e].length+([]:List Keyword).length+(if ([]:List Keyword).isEmpty then 0 else 1)<30))=true:=by rfl)
    (hline:(apos.endLine==cpos.line)=true:=by rfl) (hs:starEach [e] X.env=(false,eval e X.env)::starEach [] X.env:=by rfl) (hplain:(backTo cpos (starEach [] X.env)).any (·.1)=false:=by rfl) :
    PE X (.Call (.Attribute o "index" apos) [e] [] cpos) (tBMT lB to t):=by
 intro pins s σ H Q I h
 refine wpAny_Call_method_late hbase hfew hline rfl (thn (ho pins s σ H _ I h) fun v s1 ⟨x,H1,I1,r1,⟨p,xs,ex,hp⟩,q1⟩=>?_)
 subst ex
 cases r1
 obtain⟨_,its,rv,ob,e1,e2,n,e3,e4⟩:=(show ObjOk X.prog X.w H1 s1.heap p (.tup xs) from I1.hok p _ hp)
 refine⟨"tuple","tuple.index",PySem.F.plainAttrs_tuple,PySem.F.slot_tuple_index,PySem.F.type_tuple_index,⟨ob,e1,e2⟩,fun a z=>?_,?_⟩
 ·cases z
  exact⟨ob,e1,e4⟩
 ·have hA:=ha cpos pins s1 σ H1 _ I1 q1
  rw[hs] at hA ⊢
  refine Calls.callWith_builtin (by show (false||(backTo cpos (starEach [] X.env)).any (·.1))=false;rw[hplain] <;> rfl) (Calls.evalArgs_plain (thn hA fun us s2 ⟨vs,H2,I2,r2,q2⟩=>?_))
  exact ud pins s2 σ H2 (.ref p) vs (.ref p) us Q I2 rfl r2 q2
end L2
namespace PySem
open PySem.Spec PyProof.Rows
def Raw (h:Heap) (d:Addr) (es:Array DictEntry) (ep:Nat):Prop:=∃o,h.get? d=some o/\o.ExactDict/\o.data=.dict es ep
section
variable {prog:Program}{w:World}{A:Around}{E:Value->Shared->Prop}{s:Shared}{it d:Addr}{i ep:Nat}{es:Array DictEntry}
theorem Raw.typ (hm:Raw s.heap d es ep):s.TypeIs (.ref d) "dict":=let ⟨o,ho,hc,_⟩:=hm;⟨o,ho,hc.1⟩
theorem uR (hd:(d==sysModules)=false) (hm:Raw s.heap d es ep)
    (hQ:Q (.ref s.heap.objs.size) { s with heap:=s.heap.push { cls:=.type "dict_keyiterator",data:=.fields #[.ref d,.int 0 0,.int es.size 0,.int ep 0] } }):wpAny (model prog w) A (pyIter (.ref d)) Q E s:=by
 have hT:=hm.typ
 obtain⟨o,ho,hc,hdat⟩:=hm
 refine wpAny_pyIter_slot hT F.slot_dict_iter (wpAny_call_entry F.slot_dict_iter hT F.entry_dict_iter ?_ (F.args_dict_iter_1 _))
 unfold Builtin.«dict.__iter__» Builtin.Dict.dictSlotNone
 refine zZ (zZ (wpAny_notOrdered_dict hT ?_))
 show wpAny _ _ (pure (Value.ref d)) _ _ s
 refine Ab ?_
 show wpAny _ _ (Builtin.Dict.showsAll d >>= _) _ _ s
 unfold Builtin.Dict.showsAll
 rw[if_neg (by rw[hd];exact AB)]
 refine zZ (Ab (zZ (wpAny_dictEntries ho hdat (zZ (wpAny_dictEpoch ho hdat ?_)))))
 refine zZ (wpAny_newObj_type (Ab ⟨_,rfl,"dict_keyiterator",_,⟨_,At _ rfl,rfl⟩,F.slot_dict_keyiterator_next.lookup,?_⟩))
 simpa [rawInt] using hQ
theorem wp (hit:s.heap.IsKeyIter it d i es.size ep) (hm:Raw s.heap d es ep) (hi:i<es.size)
    (hQ:∀h',h'.IsKeyIter it d (i+1) es.size ep->Heap.SameBut it s.heap h'->Q (some es[i].key) { s with heap:=h' }):wpAny (model prog w) A (pyNext (.ref it)) Q E s:=by
 obtain⟨o,ho,hc,hd⟩:=id hit
 obtain⟨od,hod,hcd,hdd⟩:=hm
 have hown:Builtin.Dict_items.ownsTuple "dict_keyiterator"=false:=by decide
 unfold pyNext
 refine zZ (wpAny_attempt (wpAny_callSpecial?_slot (name:=Str.ofString "__next__") hit.typeIs F.slot_dict_keyiterator_next (wpAny_call_entry F.slot_dict_keyiterator_next hit.typeIs F.entry_dict_keyiterator_next ?_ (F.args_dict_keyiterator_next_1 _))))
 refine zZ (Ab (zZ (zZ ?_)))
 first | refine zZ (wpAny_typeNameOfWhole_keyiter hit.typeIs (Ab (zZ (wpAny_fieldsOf ho hd ?_)))) | refine zZ (wpAny_typeNameOf_keyiter hit.typeIs (Ab (zZ (wpAny_fieldsOf ho hd ?_))))
 simp only[hown,Bi,if_false]
 show wpAny _ _ (if (Value.ref d==Value.none)=true then _ else _) _ _ s
 rw[if_neg (show ¬ ((Value.ref d==Value.none)=true) from AB)]
 refine zZ (Ab (zZ (wpAny_dictEntries hod hdd ?_)))
 rw[if_neg (by simp)]
 refine zZ (Ab (zZ (wpAny_dictEpoch hod hdd ?_)))
 rw[if_neg (by simp)]
 refine Ab ?_
 simp only[show ¬ ((i:Int)<0) from by omega,if_false,Bs,Array.getElem?_eq_getElem hi]
 refine zZ ?_
 first | refine zZ (wpAny_typeNameOfWhole_keyiter hit.typeIs (Ab (zZ (wpAny_isOneOf_keyiter hit.typeIs ?_)))) | refine zZ (wpAny_typeNameOf_keyiter hit.typeIs (Ab (zZ (wpAny_isOneOf_keyiter hit.typeIs ?_))))
 show wpAny _ _ (setField (.ref it) 1 (rawInt ((i:Int)+1)) >>= _) _ _ s
 refine zZ (wpAny_setField ho hd (by simp) ?_)
 have up:(s.heap.update it (Obj.mapFields (·.setIfInBounds 1 (rawInt ((i:Int)+1))))).IsKeyIter it d (i+1) es.size ep :=
  ⟨_,Heap.get?_update_self _ ho (Obj.isFreed_of_fields (Obj.data_mapFields hd _)),(Obj.cls_mapFields ..).trans hc,by rw[Obj.data_mapFields hd];simp[rawInt]⟩
 refine zZ (AN (zZ (wpAny_isOneOf_keyiter (s:={ s with heap:=s.heap.update it (Obj.mapFields (·.setIfInBounds 1 (rawInt ((i:Int)+1)))) }) up.typeIs ?_)))
 show wpAny _ _ (pure es[i].key) _ _ _
 exact Ab (Ab ⟨_,rfl,Ab (hQ _ up (Heap.SameBut.update ..))⟩)
theorem xp (hh:A.handled=none) (hit:s.heap.IsKeyIter it d i es.size ep) (hm:Raw s.heap d es ep) (hge:es.size<=i)
    (hQ:∀h',Heap.ExtBut it s.heap h'->Q none { s with heap:=h' }):wpAny (model prog w) A (pyNext (.ref it)) Q E s:=by
 obtain⟨o,ho,hc,hd⟩:=id hit
 obtain⟨od,hod,hcd,hdd⟩:=hm
 have hown:Builtin.Dict_items.ownsTuple "dict_keyiterator"=false:=by decide
 unfold pyNext
 refine zZ (wpAny_attempt (wpAny_callSpecial?_slot (name:=Str.ofString "__next__") hit.typeIs F.slot_dict_keyiterator_next (wpAny_call_entry F.slot_dict_keyiterator_next hit.typeIs F.entry_dict_keyiterator_next ?_ (F.args_dict_keyiterator_next_1 _))))
 refine zZ (Ab (zZ (zZ ?_)))
 first | refine zZ (wpAny_typeNameOfWhole_keyiter hit.typeIs (Ab (zZ (wpAny_fieldsOf ho hd ?_)))) | refine zZ (wpAny_typeNameOf_keyiter hit.typeIs (Ab (zZ (wpAny_fieldsOf ho hd ?_))))
 simp only[hown,Bi,if_false]
 show wpAny _ _ (if (Value.ref d==Value.none)=true then _ else _) _ _ s
 rw[if_neg (show ¬ ((Value.ref d==Value.none)=true) from AB)]
 refine zZ (Ab (zZ (wpAny_dictEntries hod hdd ?_)))
 rw[if_neg (by simp)]
 refine zZ (Ab (zZ (wpAny_dictEpoch hod hdd ?_)))
 rw[if_neg (by simp)]
 refine Ab ?_
 simp only[show ¬ ((i:Int)<0) from by omega,if_false,Bs,Array.getElem?_eq_none hge]
 refine zZ ?_
 first | refine zZ (wpAny_typeNameOfWhole_keyiter hit.typeIs (Ab ?_)) | refine zZ (wpAny_typeNameOf_keyiter hit.typeIs (Ab ?_))
 show wpAny _ _ (setField (.ref it) 0 .none >>= _) _ _ s
 refine zZ (wpAny_setField ho hd (by simp) ?_)
 show wpAny _ _ (newExc (.type "StopIteration") [] >>= _) _ _ _
 refine zZ ?_
 simp only[newExc,newTuple]
 refine zZ (wpAny_newObj_type (zZ (m:=firstArgMember _ _) (wpAny_of_eq (a:=Value.none) (by first | rfl | (simp only[firstArgMember];rfl)) (wpAny_newObj_type ?_ (by size_fits)))) (by size_fits))
 simp only[raiseNew]
 refine zZ (wpAny_handled ?_)
 rw[show A.in1.handled=none from hh]
 refine zZ (Ab (wpAny_throw ?_))
 refine zZ (wpAny_isInstance (T:="StopIteration") (b:=true) ⟨_,At _ rfl,rfl⟩ isSubtype_stop ?_)
 exact Ab (hQ _ (((Heap.SameBut.update ..).extBut.push _).push _))
theorem Raw.at (x:Raw h d es ep) (e:∀o,h.get? d=some o->h'.get? d=some o):Raw h' d es ep:=let ⟨o,ho,r⟩:=x;⟨o,e o ho,r⟩
theorem sY (hh:A.handled=none) (I d:Addr) (hne:d≠I) (es:Array DictEntry) (ep:Nat) :
    Walks prog w A I [I,d] [I] es.size (fun i v=>∃h:i<es.size,v=es[i].key) (fun i h=>h.IsKeyIter I d i es.size ep/\Raw h d es ep) where
 sub:=fun b hb=>by simp at hb;simp[hb]
 frame:=fun _ _ _ st hk=>⟨st.1.at fun o e=>hk I (by simp) o e,st.2.at fun o e=>hk d (by simp) o e⟩
 item:=fun i s Q E hi st hQ=>wp st.1 st.2 hi fun h' hit' hs'=>hQ _ h' s.toks ⟨hi,rfl⟩ ⟨hit',st.2.at fun o e=>hs'.extBut d o hne e⟩ fun b o hb e=>hs'.extBut b o (fun h=>hb (by simp[h])) e
 done:=fun s Q E st hQ=>xp hh st.1 st.2 (Aa _) fun h' he'=>hQ h' s.toks fun b o hb e=>he' b o (fun h=>hb (by simp[h])) e
 self:=fun _ _ _ _ st hQ=>wpAny_pyIter_keyiter st.1 hQ
theorem x4 (lo:(d==sysModules)=false):W.KdlSrc prog w "dict" d d es.size (fun i v=>∃h:i<es.size,v=es[i].key) (fun h=>Raw h d es ep) where
 type:=fun _ hm=>hm.typ
 there:=fun _ hm=>let ⟨_,ho,_⟩:=hm;⟨Ah ho,Ah ho⟩
 keep:=fun _ _ hm hk=>hm.at fun o e=>hk d (.inl rfl) o e
 notList:=by decide
 notTuple:=by decide
 hint:=fun _ _ _ _ hm hq=>W.kdl_hint_dict hm.typ hq
 iter:=fun _ _ hh hm=>⟨_,_,(fun _ _ hq=>uR lo hm hq),sY hh _ d (by obtain⟨_,ho,_⟩:=hm;exact Ax (Ah ho)) es ep,⟨⟨_,At _ rfl,rfl,rfl⟩,hm.at fun _ e=>An _ e⟩⟩
theorem pq (hh:A.handled=none) (lo:(d==sysModules)=false) (hm:Raw s.heap d es ep) (hn:es.size <= sizeLine)
    (hQ:∀h' tk acc,(∀b o,s.heap.get? b=some o->h'.get? b=some o)->ItemsOf (fun i v=>∃h:i<es.size,v=es[i].key) acc es.size->Q acc.toList { s with heap:=h',toks:=tk }):wpAny (model prog w) A (collect (.ref d)) Q E s:=by
 have hlt:d<s.heap.objs.size:=by obtain⟨_,ho,_⟩:=hm;exact Ah ho
 have key:∀R:Result->Shared->Prop,(∀h' tk acc c',(∀b o,s.heap.get? b=some o->h'.get? b=some o)->h'.get? s.heap.objs.size=some { cls:=.type "list",dict:=none,data:=.seq acc c',slots:=#[] }->ItemsOf (fun i v=>∃h:i<es.size,v=es[i].key) acc es.size->R (.ok (.ret (.ref s.heap.objs.size))) { s with heap:=h',toks:=tk }) ->
     codeAny (model prog w) A (.builtin "proto.collect" ⟨[.ref d],[]⟩) R s:=by
  intro R hR
  refine codeAny_builtin F.entry_proto_collect ?_
  rw[Around.under_plainId F.plain_proto_collect _]
  show wpAny _ A.in1 (newList [] >>= fun l=>again (.builtin "list.__iadd__" ⟨[l,.ref d],[]⟩)) _ _ s
  refine zZ (wpAny_newObj_type (Ab ⟨plainId_quiet F.plain_list_iadd _,codeAny_builtin F.entry_list_iadd ?_⟩))
  rw[Around.under_plainId F.plain_list_iadd _]
  show wpAny _ A.in1 (Builtin.List.listExtendWith (.ref s.heap.objs.size) (.ref d) (.ref s.heap.objs.size)) _ _ _
  have hS0:(s.heap.push { cls:=.type "list",data:=.seq ([]:List Value).toArray }).get? s.heap.objs.size=some { cls:=.type "list",data:=.seq #[] }:=At _ rfl
  refine W.kdl_extend (R:=R) (s:={ s with heap:=s.heap.push { cls:=.type "list",data:=.seq ([]:List Value).toArray } }) (x4 (es:=es) (ep:=ep) lo) hh (hm.at fun _ e=>An _ e) s.heap.objs.size (Bo hlt) (Bo hlt) _ 0 hS0 (fun h' tk acc' c' hk hS hacc=>?_) hn
  exact hR h' tk acc' c' (fun b o e=>hk b o (Ax (Ah e)) (An _ e)) hS hacc
 unfold collect
 refine zZ (wpAny_runValue (key _ fun h' tk acc c' hk hS hacc=>?_))
 show wpAny _ A (load s.heap.objs.size >>= _) _ _ _
 refine zZ (wpAny_load hS ?_)
 exact Ab (hQ h' tk acc hk hacc)
theorem kU (hh:A.handled=none) (lo:(d==sysModules)=false) (hm:Raw s.heap d es ep) (hn:es.size<=sizeLine)
    (hQ:∀(h':Heap) tk acc,(∀b o,s.heap.get? b=some o->h'.get? b=some o)->ItemsOf (fun i v=>∃h:i<es.size,v=es[i].key) acc es.size->Q (.ref h'.objs.size) { s with heap:=h'.push { cls:=.type "tuple",data:=.seq acc },toks:=tk }) :
    wpAny (model prog w) A (call (.type "tuple") [.ref d]) Q E s:=by
 refine callType_codes (Q₁:=fun obj s₁=>s₁.TypeIs obj "tuple"/\Q obj s₁) F.called_tuple (F.typeCall_tuple_1 _) F.entry_object_init ?_ fun obj s₁ h₁=>?_
 ·refine codeAny_of_tree ?_
  show wpAny _ A.in1.in1 (do checkBuiltinCall "tuple.__new__" ⟨[.type "tuple",.ref d],[]⟩;again (.builtin "tuple.__new__" ⟨[.type "tuple",.ref d],[]⟩)) _ _ s
  refine zZ (wpAny_of_eq (F.newCall_tuple_1 _) (Ab ⟨plainId_quiet F.plain_tuple_new _,codeAny_builtin F.entry_tuple_new ?_⟩))
  rw[Around.under_plainId F.plain_tuple_new _]
  have hsub:=sub_tuple_self
  have hinit:=init_tuple_lookup
  have hmh:=madeHere_tuple
  have hTI:=hm.typ
  wp_walk using wpAny_typeOf hTI,pq (es:=es) (ep:=ep) (by exact hh) lo hm hn
  intro h' tk acc hk hacc
  show wpAny _ _ (Builtin.Tuple.tupleExact acc.toList.toArray >>= fun v=>ret v) _ _ _
  unfold Builtin.Tuple.tupleExact
  refine zZ (wpAny_newObj_type ?_ (by show acc.toList.toArray.size<=sizeLine;simp only[Array.toArray_toList];rw[hacc.1];exact hn))
  refine Ab ?_
  have e:acc.toList.toArray=acc:=by simp
  rw[e]
  exact⟨⟨_,At _ rfl,rfl⟩,hQ h' tk acc hk hacc⟩
 ·exact⟨h₁.1,F.args_object_init_2 obj _,object_init_meets F.called_tuple.init.lookup F.called_tuple.made (by decide) prog w A.in1 _ s₁ ⟨h₁.1,rfl,h₁.2⟩⟩
end
end PySem
namespace L2
open PySem PySem.Spec PyProof.Rows
theorem Paired.at:∀ {l:List α}{m:List β}, Paired F l m -> l.length=m.length /\ ∀(i:Nat) (a:α), l[i]? = some a -> ∃b, m[i]? = some b /\ F a b
 | _,_,.nil=>⟨rfl,fun i a h=>by simp at h⟩
 | _,_,.cons r t=>by
  obtain⟨hl,ih⟩:=Paired.at t
  refine⟨by rw[Aw,Aw,hl],fun i a h=>?_⟩
  cases i with
  | zero =>
   have h:=Af h
   subst h
   exact⟨_,rfl,r⟩
  | succ i=>exact ih i a (by simpa using h)
theorem kg:∀(ys:List (List Key × Addr × Value)),Vals (ys.map fun y=>V.ref y.2.1) (ys.map fun y=>Value.ref y.2.1)
 | []=>.nil
 | y::ys=>.cons rfl (kg ys)
section
variable {X:Cx}{p pos:Pos}{e:Expr}{t:TA}
def sP:List V->Hp->VK->Prop:=fun xs H Q=>∃a kvs,xs=[V.ref a]/\H a=some (.dT kvs)/\∀l rs,H l=none->rs.length=kvs.length->(∀(i:Nat) (k:List Key × V),kvs[i]? = some k->∃q,rs[i]? = some (V.ref q)/\H q=some (.tup (k.1.map kV)))->Q (.ref l) (upd H l (.tup rs))
theorem xq (hc:X.calm=true) (B:Blt X.mg) (ha:PA X [e] t) (hg:Gl X "tuple" := by rfl) (he:starEach [e] X.env=(false, eval e X.env) :: starEach [] X.env := by rfl) (hpl:(backTo pos (starEach [] X.env)).any (·.1)=false := by rfl) :
    PE X (.Call (.Name "tuple" p) [e] [] pos) (tCB sP t):=by
 refine fk (r:=sP) (fun pins s σ H xs us Q I r h=>?_) hg B.tuple (show bootBuiltins "tuple"=some (.type "tuple") by decide +kernel) ha (by decide) (by decide) he hpl
 obtain⟨a,kvs,rfl,hr,q⟩:=h
 obtain⟨u,rfl,ru⟩:=cU r
 cases ru
 obtain⟨hz,hsys,ys,pr,o,es,ep,ho,hx,hdt,h4,h5⟩:=(show ObjOk X.prog X.w H s.heap a (.dT kvs) from I.hok a _ hr)
 obtain⟨pl,pat⟩:=Paired.at pr
 have esl:es.size=ys.length:=by rw[<- BD,h4,z0]
 refine kU (es:=es) (ep:=ep) (I.ok.hd hc) hsys ⟨o,ho,hx,hdt⟩ (by omega) fun h' tk acc hk hacc=>?_
 have I1:=I.kept (h':=h') (t':=tk) hk
 have ea:acc.toList=ys.map fun y=>Value.ref y.2.1:=by
  refine List.ext_getElem (by rw[BD,hacc.1,z0,esl]) fun j h1 h2=>?_
  rw[z0] at h2
  have h1':j<acc.size:=by rw[BD] at h1;exact h1
  obtain⟨hj,ev⟩:=hacc.2 j acc[j] (Array.getElem?_eq_getElem h1')
  have e3:es.toList[j]? = some (entryOfKey (tupleKind (bu X.prog X.w)) ys[j]):=by rw[h4,Al,Ar h2];rfl
  have e4:es[j]=entryOfKey (tupleKind (bu X.prog X.w)) ys[j]:=by
   have:es.toList[j]? = some es[j]:=by rw[Array.getElem?_toList,Array.getElem?_eq_getElem hj]
   rw[this] at e3
   exact Af e3
  rw[Array.getElem_toList,List.getElem_map,ev,e4];rfl
 have hv:Vals (ys.map fun y=>V.ref y.2.1) acc.toList:=by
  rw[ea]
  exact kg ys
 refine⟨.ref _,_,I1.laid (o:=.tup (ys.map fun y=>V.ref y.2.1)) (fun b ob q=>An _ q) (Aa _) ⟨by rw[z0];omega,acc.toList,hv,?_⟩,rfl,q _ _ (I1.hok.fresh (Aa _)) (by rw[z0];omega) fun i k hk=>?_⟩
 ·have e:acc.toList.toArray=acc:=by simp
  rw[e];exact TupN.new _ _
 ·obtain⟨y,hy,h1,h2,_⟩:=pat i k hk
  exact⟨y.2.1,by rw[Al,hy];rfl,h2⟩
end
end L2
namespace L2
open PySem
abbrev Prs:=List (Str × Str)
def bM:Prs->Prs->Prs
 | acc,[]=>acc
 | acc,x::xs=>if x∈acc then bM acc xs else bM (acc++[x]) xs
theorem iO:∀(xs ys acc:Prs),bM acc (xs++ys)=bM (bM acc xs) ys
 | [],ys,acc=>rfl
 | x::xs,ys,acc=>by
  show (if x∈acc then bM acc (xs++ys) else bM (acc++[x]) (xs++ys))=bM (if x∈acc then bM acc xs else bM (acc++[x]) xs) ys
  split
  ·exact iO xs ys acc
  ·exact iO xs ys (acc++[x])
theorem iB:∀(xs acc:Prs),(bM acc xs).length<=acc.length+xs.length
 | [],acc=>Aa _
 | x::xs,acc=>by
  show (if x∈acc then bM acc xs else bM (acc++[x]) xs).length<=_
  split
  ·have:=iB xs acc;rw[Aw];omega
  ·have:=iB xs (acc++[x]);rw[Aq] at this;rw[Aw];simp at this;omega
theorem gp:∀(xs acc:Prs) (e:Str × Str), e ∈ bM acc xs ↔ e ∈ acc ∨ e ∈ xs
 | [],acc,e=>by simp[bM]
 | x :: xs, acc, e => by
  show e∈(if x∈acc then bM acc xs else bM (acc++[x]) xs) ↔ _
  split
  ·rename_i h
   rw[gp xs acc e,AA]
   constructor
   ·rintro (q | q)
    ·exact .inl q
    ·exact .inr (.inr q)
   ·rintro (q | rfl | q)
    ·exact .inl q
    ·exact .inl h
    ·exact .inr q
  ·rw[gp xs _ e,Aj,Av,AA,or_assoc]
def cG (ks:Kn) (knot:Str) (e:Str × Str):Option (Str × Str):=match aH ks e.1 e.2 with
 | some (q,x,y)=>if q=knot then some (x,y) else none
 | none=>none
def bS (last:Bool) (c:List Str) (u:Str):Prs:=(c.filter fun v=>decide (v≠u)).map fun v=>if last then (v,u) else (u,v)
def wU (c:List Str) (wn:Prs) (word:Str):List Str:=c.filter fun u=>decide ((word,u)∈wn)
def aL (ks:Kn) (ts wn:Prs) (knot:Str) (c:List Str):Prs:=bM [] (ts.filterMap (cG ks knot)++((wU c wn "first").flatMap (bS false c)++(wU c wn "last").flatMap (bS true c)))
def FL (k:Str × List Str) (e:Str × Str):Prop:=(e.1="first"/\k.2.head? = some e.2)∨(e.1="last"/\k.2.getLast? = some e.2)
theorem FL.mem (h:FL k e):e.2∈k.2:=by
 rcases h with⟨_,h⟩ | ⟨_,h⟩
 ·exact List.mem_of_head? h
 ·exact List.mem_of_getLast? h
structure WnX (ks:Kn) (wn:Prs):Prop where
 nd:wn.Nodup
 at_:∀e∈wn,∃k∈ks,FL k e
end L2
namespace L2
open PySem PySem.Spec PyProof.Rows
def zQ (K:W.Frag) (ta:TA):TI:=fun σ H R=>ta σ H fun vs H1=>∃a b xs ys,vs=[.ref a,.ref b]/\SqT K H1 a xs/\SqL K H1 b ys/\R (nB K a b) H1
theorem rR {P:Program}{w:World}{K:W.Frag}{elts:List Expr}{x1}{tp:Pos}(a b z TI TO i1 i2:Addr) (D:ZipApart z TI TO i1 i2 a b) :
    Turn P w K (.Tuple elts x1 tp) (nB K a b) [z,TI,TO,i1,i2] z (fun i h=>(∃f0 f1,F0 f0/\Zp h z TI TO f0 f1)/\IsPair h TI (.ref i1) (.ref i2)/\(∃c d,IsPair h TO c d)/\h.IsTupleIter i1 a i/\h.IsListIter i2 b i) :=
 ic (t1:=true) (t2:=false) a b z TI TO i1 i2 D
theorem vv (K:W.Frag) {X:Cx}{elts:List Expr}{x1}{tp:Pos}{a b:Expr}{ta:TA}{p pos:Pos}(hg:Gl X "zip") (hm:X.mg "zip"=none) (ha:PA X [a,b] ta) (hs:starEach [a,b] X.env=(false,eval a X.env)::starEach [b] X.env:=by rfl) (hpl:(backTo pos (starEach [b] X.env)).any (·.1)=false:=by rfl) (hK:X.K=K:=by rfl) :
    PI X (.Tuple elts x1 tp) (.Call (.Name "zip" p) [a,b] [] pos) (zQ K ta):=by
 subst hK
 intro pins s σ H R I h
 refine Call_ (di I hg hm (show bootBuiltins "zip"=some (.type "zip") by decide +kernel) (PyProof.Rows.callWith_type1 (thn (ha pos pins s σ H _ I h) fun us s1 ⟨vs,H1,I1,r1,q1⟩=>?_) hs hpl))
 obtain⟨l1,l2,xs,ys,e,hqa,hqb,q⟩:=q1
 subst e
 obtain⟨u1,u2,rfl,r1,r2⟩:=fH r1
 cases r1
 cases r2
 obtain⟨its,rv,pa,_⟩:=I1.tuple hqa
 obtain⟨jts,rw',pb,_⟩:=I1.list hqb
 have a1:l1<s1.heap.objs.size:=by obtain⟨_,e,_⟩:=pa;exact Ah e
 have a2:l2<s1.heap.objs.size:=by obtain⟨_,e,_⟩:=pb.isList;exact Ah e
 refine tE (show s1.heap.IsTuple l1 its.toArray from pa) pb.isList fun h' hz hTI hTO hi1 hi2 hk=>?_
 have T:=rR (P:=X.prog) (w:=X.w) (K:=X.K) (elts:=elts) (x1:=x1) (tp:=tp) l1 l2 _ _ _ _ _ (zipApart_new a1 a2)
 have t0:(∃f0 f1,F0 f0/\Zp h' (s1.heap.objs.size+4) (s1.heap.objs.size+2) (s1.heap.objs.size+3) f0 f1)/\IsPair h' (s1.heap.objs.size+2) (.ref s1.heap.objs.size) (.ref (s1.heap.objs.size+1))/\(∃c d,IsPair h' (s1.heap.objs.size+3) c d)/\h'.IsTupleIter s1.heap.objs.size l1 0/\h'.IsListIter (s1.heap.objs.size+1) l2 0:=⟨⟨_,_,.inl rfl,hz⟩,hTI,⟨_,_,hTO⟩,hi1,hi2⟩
 refine T.self X.A 0 { s1 with heap:=h' } _ _ t0 ?_
 refine⟨_,_,_,_,H1,rfl,I1.kept (t':=s1.toks) hk,T,t0,fun b hb=>?_,q⟩
 have hb:b=s1.heap.objs.size+4∨b=s1.heap.objs.size+2∨b=s1.heap.objs.size+3∨b=s1.heap.objs.size∨b=s1.heap.objs.size+1:=by simpa using hb
 have hle:s1.heap.objs.size<=b:=by rcases hb with e | e | e | e | e <;> rw[e] <;> first | exact Aa _ | exact BM _ _
 exact I1.fpOk hle (I1.hok.fresh hle)
theorem vh {K:W.Frag}{a b:Addr}{xs ys:List V}{g:TG}{tb:TS}{D:Ends}{σ:St}{H:Hp}(Pv:Nat -> St -> Hp -> Prop) (h0:Pv 0 σ H) (hl:∀i σ H, i <= (xs.zip ys).length -> Pv i σ H -> SqT K H a xs /\ SqL K H b ys)
    (hs:∀i x y p σ H,(xs.zip ys)[i]? = some (x,y)->Pv i σ H->H p=none->g (.ref p) σ (upd H p (.tup [x,y])) fun σ2 H2=>tb { D with nx:=Pv (i+1),ct:=Pv (i+1),bk:=D.nx } σ2 H2) (hd:∀σ H,Pv (xs.zip ys).length σ H->D.nx σ H) :
    ∃W:Nat->Nat->St->Hp->Prop,(∃m,W 0 m σ H)/\∀i m σ H,W i m σ H ->
     ((nB K a b).stop i H/\D.nx σ H)∨((nB K a b).go i H/\∃N:St->Hp->Prop,(∀σ' H',N σ' H'->∃m',m'<m/\W (i+1) m' σ' H')/\∀x H',(nB K a b).yld i H x H'->g x σ H' fun σ2 H2=>tb { D with nx:=N,ct:=N,bk:=D.nx } σ2 H2):=by
 refine⟨fun i m σ H=>m=(xs.zip ys).length-i/\i<=(xs.zip ys).length/\Pv i σ H,⟨(xs.zip ys).length,by simp,AC _,h0⟩,?_⟩
 rintro i m σ H ⟨rfl,hi,p⟩
 obtain⟨qa,qb⟩:=hl i σ H hi p
 have hlz:(xs.zip ys).length=min xs.length ys.length:=A3
 by_cases hlt:i<(xs.zip ys).length
 ·have h1:i<xs.length:=by omega
  have h2:i<ys.length:=by omega
  refine .inr ⟨⟨xs,ys,xs[i],ys[i],qa,qb,Ar h1,Ar h2⟩,Pv (i+1),fun σ' H' q=>⟨(xs.zip ys).length-(i+1),by omega,rfl,by omega,q⟩,?_⟩
  rintro x H' ⟨q,u,v,hq,rfl,hu,hv,rfl⟩
  exact hs i u v q σ H (by rw[AT];exact⟨hu xs qa,hv ys qb⟩) p hq
 ·have e:i=(xs.zip ys).length:=by omega
  refine .inl ⟨⟨xs,ys,qa,qb,by omega⟩,hd σ H (e ▸ p)⟩
end L2
namespace MG
structure Bf (es:List (Nat × Nat)) (s n P t L:Nat) (me par:Nat->Nat) (rw:Nat->List Nat):Prop where
 pos:0<L
 at0:me 0=s
 rw0:rw 0=[s]
 lt:∀i,i<L->me i<n
 inj:∀i j,i<L->j<L->me i=me j->i=j
 low:∀i,0<i->i<L->par i<i
 lep:∀i,0<i->i<L->par i<=P
 arr:∀i,0<i->i<L->(me (par i),me i)∈es
 row:∀i,0<i->i<L->rw i=rw (par i)++[me i]
 mono:∀i j,0<i->i<=j->j<L->par i<=par j
 ord:∀i j,0<i->i<j->j<L->par i=par j->me i<me j
 top:∀i,0<i->i<L->par i=P->me i<t
 old:∀p v,p<L->(me p,v)∈es->(p<P∨(p=P/\v<t))->∃i,i<L/\me i=v/\(i=0∨par i<=p)
variable {es:List (Nat × Nat)}{s n P t L:Nat}{me par:Nat->Nat}{rw:Nat->List Nat}
theorem Bf.start (hs:s<n):Bf es s n 0 0 1 (fun _=>s) (fun _=>0) (fun _=>[s]) where
 pos:=by omega
 at0:=rfl
 rw0:=rfl
 lt:=fun _ _=>hs
 inj:=fun i j hi hj _=>by omega
 low:=fun i h1 h2=>by omega
 lep:=fun i h1 h2=>by omega
 arr:=fun i h1 h2=>by omega
 row:=fun i h1 h2=>by omega
 mono:=fun i j h1 h2 h3=>by omega
 ord:=fun i j h1 h2 h3=>by omega
 top:=fun i h1 h2=>by omega
 old:=fun p v h1 h2 h3=>by omega
theorem Bf.skip (b:Bf es s n P t L me par rw) (h:(me P, t) ∉ es ∨ ∃i, i<L /\ me i=t):Bf es s n P (t+1) L me par rw :=
 { b with
  top:=fun i h1 h2 h3=>Nat.lt_succ_of_lt (b.top i h1 h2 h3)
  old := fun p v h1 h2 h3 => by
   by_cases q:p=P/\v=t
   ·obtain⟨rfl,rfl⟩:=q
    rcases h with h | ⟨i,hi,e⟩
    ·exact absurd h2 h
    ·refine⟨i,hi,e,?_⟩
     rcases BH i with z | z
     ·exact .inl z
     ·exact .inr (b.lep i z hi)
   ·exact b.old p v h1 h2 (by omega) }
theorem Bf.add (b:Bf es s n P t L me par rw) (hP:P<L) (h:(me P, t) ∈ es) (hn:∀i, i<L -> me i ≠ t) (ht:t<n) :
    Bf es s n P (t+1) (L+1) (fun i=>if i=L then t else me i) (fun i=>if i=L then P else par i) (fun i=>if i=L then rw P++[t] else rw i) where
 pos:=by omega
 at0:=by rw[if_neg (by have:=b.pos;omega)];exact b.at0
 rw0:=by rw[if_neg (by have:=b.pos;omega)];exact b.rw0
 lt:=fun i hi=>by
  split
  ·exact ht
  ·exact b.lt i (by omega)
 inj := fun i j hi hj e => by
  by_cases q:i=L
  ·by_cases q2:j=L
   ·omega
   ·rw[if_pos q,if_neg q2] at e
    exact absurd e.symm (hn j (by omega))
  ·by_cases q2:j=L
   ·rw[if_neg q,if_pos q2] at e
    exact absurd e (hn i (by omega))
   ·rw[if_neg q,if_neg q2] at e
    exact b.inj i j (by omega) (by omega) e
 low:=fun i h1 h2=>by
  split
  ·omega
  ·exact b.low i h1 (by omega)
 lep:=fun i h1 h2=>by
  split
  ·exact Aa _
  ·exact b.lep i h1 (by omega)
 arr:=fun i h1 h2=>by
  by_cases q:i=L
  ·subst q
   rw[if_pos rfl,if_pos rfl,if_neg (by omega)]
   exact h
  ·have:=b.low i h1 (by omega)
   rw[if_neg q,if_neg q,if_neg (by omega)]
   exact b.arr i h1 (by omega)
 row:=fun i h1 h2=>by
  by_cases q:i=L
  ·subst q
   rw[if_pos rfl,if_pos rfl,if_pos rfl,if_neg (by omega)]
  ·have:=b.low i h1 (by omega)
   rw[if_neg q,if_neg q,if_neg q,if_neg (by omega)]
   exact b.row i h1 (by omega)
 mono:=fun i j h1 h2 h3=>by
  by_cases q:j=L
  ·rw[if_pos q]
   split
   ·exact Aa _
   ·exact b.lep i h1 (by omega)
  ·rw[if_neg q,if_neg (by omega)]
   exact b.mono i j h1 h2 (by omega)
 ord:=fun i j h1 h2 h3=>by
  by_cases q:j=L
  ·rw[if_pos q,if_pos q,if_neg (by omega),if_neg (by omega)]
   exact b.top i h1 (by omega)
  ·rw[if_neg q,if_neg q,if_neg (by omega),if_neg (by omega)]
   exact b.ord i j h1 h2 (by omega)
 top:=fun i h1 h2=>by
  by_cases q:i=L
  ·rw[if_pos q,if_pos q]
   omega
  ·rw[if_neg q,if_neg q]
   intro e
   exact Nat.lt_succ_of_lt (b.top i h1 (by omega) e)
 old := fun p v h1 h2 h3 => by
  by_cases q:p=L
  ·omega
  ·rw[if_neg q] at h2
   by_cases r:p=P/\v=t
   ·refine⟨L,by omega,by rw[if_pos rfl];exact r.2.symm,.inr ?_⟩
    rw[if_pos rfl];omega
   ·obtain⟨i,hi,e,o⟩:=b.old p v (by omega) h2 (by omega)
    refine⟨i,by omega,?_,?_⟩
    ·rw[if_neg (by omega)];exact e
    ·rw[if_neg (by omega)];exact o
theorem Bf.next (b:Bf es s n P n L me par rw) (val:∀e∈es,e.1<n/\e.2<n):Bf es s n (P+1) 0 L me par rw :=
 { b with
  lep:=fun i h1 h2=>Nat.le_succ_of_le (b.lep i h1 h2)
  top:=fun i h1 h2 h3=>by have:=b.lep i h1 h2;omega
  old:=fun p v h1 h2 h3=>b.old p v h1 h2 (by have:=(val _ h2).2;simp only at this;omega) }
theorem Bf.deep (b:Bf es s n P t L me par rw) (j:Nat):∀i, i <= j -> j<L -> (rw i).length <= (rw j).length := by
 induction j using Nat.strongRecOn with
 | ind j ih =>
  intro i h1 h2
  rcases BH j with z | z
  ·have:i=j:=by omega
   rw[this];exact Aa _
  ·rw[b.row j z h2,Aq]
   have lj:=b.low j z h2
   rcases BH i with y | y
   ·have:=ih (par j) lj 0 (AC _) (by omega)
    rw[y];omega
   ·rw[b.row i y (by omega),Aq]
    have:=ih (par j) lj (par i) (b.mono i j y h1 h2) (by omega)
    simp only[List.length_singleton]
    omega
theorem Bf.far (b:Bf es s n P t L me par rw) (hP:P<L) (m:Nat):∀i, i<L -> Walk (Arr (swp es)) m (me P) (me i) -> (rw P).length <= (rw i).length+m := by
 induction m with
 | zero =>
  intro i hi w
  have w:me P=me i:=w
  rw[b.inj P i hP hi w];omega
 | succ m ih =>
  intro i hi w
  obtain⟨v,w,r⟩:=w
  rcases Nat.lt_or_ge i P with q | q
  ·obtain⟨j, hj, e, o⟩ := b.old i v hi (mem_swp.mp r) (.inl q)
   rw[<- e] at w
   have h:=ih j hj w
   have:(rw j).length <= (rw i).length+1 := by
    rcases BH j with z | z
    ·have:=b.deep i 0 (AC _) hi
     rw[z];omega
    ·rcases o with o | o
     ·omega
     ·have:=b.deep i (par j) o hi
      rw[b.row j z hj,Aq]
      simp only[List.length_singleton]
      omega
   omega
  ·have:=b.deep i P q hi
   omega
inductive Chn (P:Nat) (me par:Nat->Nat):Nat->Nat->List Nat->Prop
 | done:Chn P me par P 0 []
 | step {j m:Nat} {w:List Nat}:0<j->Chn P me par j m w->Chn P me par (par j) (m+1) (me j::w)
theorem Bf.chn_le (b:Bf es s n P t L me par rw) (hP:P<L) (c:Chn P me par j m w):j<=P/\rw P=rw j++w/\w.length=m:=by
 induction c with
 | done=>exact⟨Aa _,(AK _).symm,rfl⟩
 | step h c ih =>
  have:=b.low _ h (by omega)
  refine⟨by omega,?_,by rw[Aw,ih.2.2]⟩
  rw[ih.2.1,b.row _ h (by omega),By];rfl
theorem Bf.none_ahead (b:Bf es s n P t L me par rw) (hP:P<L) (c:Chn P me par j m w):∀i,i<j->¬ Walk (Arr (swp es)) m (me P) (me i):=by
 induction c with
 | done =>
  intro i hi w
  have w:me P=me i:=w
  have:=b.inj P i hP (by omega) w
  omega
 | step h c ih =>
  intro i hi w
  obtain⟨v,w,r⟩:=w
  have hj:=(b.chn_le hP c).1
  have hl:=b.low _ h (by omega)
  obtain⟨i2,hi2,e,o⟩:=b.old i v (by omega) (mem_swp.mp r) (.inl (by omega))
  rw[<- e] at w
  refine ih i2 ?_ w
  refine BA fun q=>?_
  have:=b.mono _ i2 h q hi2
  omega
theorem Bf.walk (b:Bf es s n P t L me par rw) (hP:P<L) (c:Chn P me par j m w):Walk (Arr (swp es)) m (me P) (me j):=by
 induction c with
 | done=>exact rfl
 | step h c ih=>exact⟨_,ih,mem_swp.mpr (b.arr _ h (by have:=(b.chn_le hP c).1;omega))⟩
theorem Bf.to (b:Bf es s n P t L me par rw) (hP:P<L) (c:Chn P me par j m w):To es (me P) m (me j):=by
 refine⟨b.walk hP c,fun m2 hm w2=>?_⟩
 have hj:=b.chn_le hP c
 have:=b.far hP m2 j (by omega) w2
 rw[hj.2.1,Aq,hj.2.2] at this
 omega
theorem Bf.wy (b:Bf es s n P t L me par rw) (hP:P<L) (c:Chn P me par j m w):Wy es (me P) m (me j) (me j :: w) := by
 induction c with
 | done=>exact⟨rfl,rfl⟩
 | @step j m w h c ih =>
  have hj:=(b.chn_le hP c).1
  have hl:=b.low _ h (by omega)
  refine⟨me j,me j::w,rfl,⟨b.arr j h (by omega),b.to hP c,fun v hv tv=>?_⟩,ih⟩
  refine Bw fun q=>?_
  obtain⟨i,hi,e,o⟩:=b.old (par j) v (by omega) hv (.inl (by omega))
  refine b.none_ahead hP c i ?_ (e ▸ tv.1)
  refine BA fun r=>?_
  have:=b.mono j i h r hi
  have e2:par j=par i:=by omega
  rcases Nat.lt_or_ge j i with z | z
  ·have:=b.ord j i h z hi e2
   omega
  ·have:i=j:=by omega
   rw[this] at e
   omega
theorem Bf.chn (b:Bf es s n P t L me par rw) (hP:P<L) (j:Nat):∀ {m:Nat}{w:List Nat},Chn P me par j m w->∃m w,Chn P me par 0 m w:=by
 induction j using Nat.strongRecOn with
 | ind j ih =>
  intro m w c
  rcases BH j with z | z
  ·rw[z] at c;exact⟨m,w,c⟩
  ·exact ih (par j) (b.low j z (by have:=(b.chn_le hP c).1;omega)) (.step z c)
theorem Bf.told (b:Bf es s n P t L me par rw) (hP:P<L):∃k,To es (me P) k s/\Wy es (me P) k s (rw P):=by
 obtain⟨m,w,c⟩:=b.chn hP P .done
 have h1:=b.to hP c
 have h2:=b.wy hP c
 have h3:=(b.chn_le hP c).2.1
 rw[b.at0] at h1 h2
 rw[b.rw0] at h3
 rw[h3]
 exact⟨m,h1,h2⟩
theorem Bf.shut (b:Bf es s n P t L me par rw) (hP:P=L) (hg:∀i, i<L -> me i ≠ goal):∀k, ¬ To es goal k s := by
 intro k h
 have w:=h.1
 have:∀m i,i<L->¬ Walk (Arr (swp es)) m goal (me i):=by
  intro m
  induction m with
  | zero =>
   intro i hi w
   have w:goal=me i:=w
   exact hg i hi w.symm
  | succ m ih =>
   intro i hi w
   obtain⟨v,w,r⟩:=w
   obtain⟨j,hj,e,_⟩:=b.old i v hi (mem_swp.mp r) (.inl (by omega))
   exact ih j hj (e ▸ w)
 rw[<- b.at0] at w
 exact this k 0 b.pos w
theorem Bf.few (b:Bf es s n P t L me par rw):L<=n:=by
 have nd:((List.range L).map me).Nodup:=by
  refine List.pairwise_map.mpr (List.Pairwise.imp_of_mem (fun hx hy l e=>?_) BN)
  have:=b.inj _ _ (AM.mp hx) (AM.mp hy) e
  omega
 have:=nd.length_le_of_subset (l₂:=List.range n) fun x hx=>by
  obtain⟨i,hi,rfl⟩:=Ag.mp hx
  exact AM.mpr (b.lt i (AM.mp hi))
 simpa using this
end MG
open PySem
namespace L2
open PySem
def kdO (ks:Kn) (u:Str):List Str:=((ks.find? fun k=>decide (k.1=u)).map (·.2)).getD []
section
variable {us:List Str}{ks:Kn}
def rd (ks:Kn):Nat->Str->List Str
 | 0,u=>[u]
 | n+1,u=>u::(kdO ks u).flatMap (rd ks n)
end
theorem nQ (os A:List Str):(plc os A).Pairwise (·<·):=(BN (n:=os.length)).filter _
section
variable {os A B:List Str}(ond:os.Nodup) (cnd:(A++B).Nodup) (sub:∀x∈A++B,x∈os)
theorem fZ {i:Nat}{x:Str}(h:(A++B)[i]? = some x) (ond:os.Nodup) (cnd:(A++B).Nodup) (sub:∀x∈A++B,x∈os):(plc os (A++B))[i]? = some ((bH os (A++B)).idxOf x):=by
 have hx:=Ad h
 have hk:=gP sub hx
 have g:=bK (sub x hx)
 have e:=wj ond cnd sub hk
 rw[g] at e
 obtain⟨a,_⟩:=dW ond cnd sub hk
 rw[g,ck cnd h] at a
 rw[e];exact a
theorem g6 (hx:x∈os) (hn:x∉A++B) (ond:os.Nodup) (cnd:(A++B).Nodup) (sub:∀x∈A++B,x∈os):(bH os (A++B)).idxOf x=os.idxOf x:=by
 have hk:=AJ hx
 rcases gz ond cnd sub hk with⟨i,y,h1,h2,h3⟩ | ⟨_,h2,_⟩
 ·exact absurd (bK hx ▸ nE (Ad h1)) hn
 ·refine ck ((iI ond cnd sub).nodup_iff.mpr ond) ?_
  rw[h2];exact hC hx
theorem iZ {i j:Nat}{x y:Str}(hi:(A++B)[i]? = some x) (hj:(A++B)[j]? = some y) (hij:i<j) (ond:os.Nodup) (cnd:(A++B).Nodup) (sub:∀x∈A++B,x∈os):(bH os (A++B)).idxOf x<(bH os (A++B)).idxOf y:=by
 have a:=fZ hi ond cnd sub
 have b:=fZ hj ond cnd sub
 obtain⟨h1,e1⟩:=Ac.mp a
 obtain⟨h2,e2⟩:=Ac.mp b
 have:=BB.mp (nQ os (A++B)) i j h1 h2 hij
 rw[e1,e2] at this
 exact this
theorem ol {x:Str}(hx:x∈A++B) (ond:os.Nodup) (cnd:(A++B).Nodup) (sub:∀x∈A++B,x∈os):∃y∈A++B,(bH os (A++B)).idxOf x=os.idxOf y:=by
 obtain⟨i,hi⟩:=AE hx
 have a:=Ad (fZ hi ond cnd sub)
 refine⟨_,nE a,?_⟩
 have hl:=fq a
 exact(ck ond (by rw[AG,Ar hl];rfl)).symm
theorem qm (hx:x∈os) (hy:y∈os) (h:os.idxOf x=os.idxOf y):x=y:=by rw[<- bK hx,h,bK hy]
theorem uG (oA:A.Pairwise fun x y => os.idxOf x<os.idxOf y) {x:Str}(hx:x ∈ A) (ond:os.Nodup) (cnd:(A ++ B).Nodup) (sub:∀x ∈ A ++ B, x ∈ os):(bH os (A ++ B)).idxOf x <= os.idxOf x := by
 obtain⟨i,hi⟩:=AE hx
 have hil:=(Ac.mp hi).1
 have hi2:(A++B)[i]? = some x:=by rw[A9 hil];exact hi
 have a:=fZ hi2 ond cnd sub
 obtain⟨h1,e1⟩:=Ac.mp a
 refine Bw fun hlt=>?_
 have key:((A.take (i+1)).map os.idxOf).length <= ((plc os (A ++ B)).take i).length := by
  refine List.Nodup.length_le_of_subset (jW ((A4.mp cnd).1.sublist (BJ _ _)) fun u hu v hv e=>qm (sub u (AR _ (Bd hu))) (sub v (AR _ (Bd hv))) e) fun k hk=>?_
  obtain⟨u,hu,rfl⟩:=Ag.mp hk
  have huA:=Bd hu
  have hle:os.idxOf u<=os.idxOf x:=by
   obtain⟨j,hj⟩:=AE hu
   have hjl:=(Ac.mp hj).1
   rw[As] at hjl
   rw[Br (by omega)] at hj
   by_cases z:j=i
   ·subst z;rw[hi] at hj;cases hj;exact Aa _
   ·obtain⟨g1,g2⟩:=Ac.mp hj
    obtain⟨g3,g4⟩:=Ac.mp hi
    have:=BB.mp oA j i g1 g3 (by omega)
    rw[g2,g4] at this
    omega
  have hp:=gP sub (AR B huA)
  obtain⟨m,hm⟩:=AE hp
  obtain⟨m1,m2⟩:=Ac.mp hm
  have hmi:m<i:=by
   refine BA fun z=>?_
   rcases Nat.lt_or_eq_of_le z with z | z
   ·have:=BB.mp (nQ os (A++B)) i m h1 m1 z
    rw[e1,m2] at this
    omega
   ·subst z
    rw[e1] at m2
    omega
  exact Ad (i:=m) (by rw[Br hmi];exact hm)
 rw[z0,As,As] at key
 omega
theorem xE (oB:B.Pairwise fun x y => os.idxOf x<os.idxOf y) {x:Str}(hx:x ∈ B) (ond:os.Nodup) (cnd:(A ++ B).Nodup) (sub:∀x ∈ A ++ B, x ∈ os):os.idxOf x <= (bH os (A ++ B)).idxOf x := by
 obtain⟨i,hi⟩:=AE hx
 have hil:=(Ac.mp hi).1
 have hi2:(A++B)[A.length+i]? = some x:=by rw[Bp (by omega),BW];exact hi
 have a:=fZ hi2 ond cnd sub
 obtain⟨h1,e1⟩:=Ac.mp a
 have pl:=eP ond cnd sub
 rw[Aq] at pl
 refine Bw fun hlt=>?_
 have key:((B.drop i).map os.idxOf).length <= ((plc os (A ++ B)).drop (A.length+i+1)).length := by
  refine List.Nodup.length_le_of_subset (jW ((A4.mp cnd).2.1.sublist (List.drop_sublist _ _)) fun u hu v hv e=>qm (sub u (AS _ (Be hu))) (sub v (AS _ (Be hv))) e) fun k hk=>?_
  obtain⟨u,hu,rfl⟩:=Ag.mp hk
  have huB:=Be hu
  have hle:os.idxOf x<=os.idxOf u:=by
   obtain⟨j,hj⟩:=AE hu
   rw[BR] at hj
   by_cases z:j=0
   ·subst z
    have hj:B[i]? = some u:=hj
    rw[hi] at hj;cases hj;exact Aa _
   ·obtain⟨g1,g2⟩:=Ac.mp hj
    obtain⟨g3,g4⟩:=Ac.mp hi
    have:=BB.mp oB i (i+j) g3 g1 (by omega)
    rw[g2,g4] at this
    omega
  have hp:=gP sub (AS A huB)
  obtain⟨m,hm⟩:=AE hp
  obtain⟨m1,m2⟩:=Ac.mp hm
  have hmi:A.length+i<m:=by
   refine BA fun z=>?_
   rcases Nat.lt_or_eq_of_le z with z | z
   ·have:=BB.mp (nQ os (A++B)) m (A.length+i) m1 h1 z
    rw[e1,m2] at this
    omega
   ·subst z
    rw[e1] at m2
    omega
  refine Ad (i:=m-(A.length+i+1)) ?_
  rw[BR,show A.length+i+1+(m-(A.length+i+1))=m by omega]
  exact hm
 rw[z0,AY,AY] at key
 omega
end
theorem qY {os A B:List Str}(ond:os.Nodup) (cnd:(A ++ B).Nodup) (sub:∀x ∈ A ++ B, x ∈ os) (oA:A.Pairwise fun x y => os.idxOf x<os.idxOf y) (oB:B.Pairwise fun x y => os.idxOf x<os.idxOf y) {lo hi:Nat}
    (hin:∀x∈A++B,lo<=os.idxOf x/\os.idxOf x<=hi) {x y:Str} (hx:x∈os) (hy:y∈os) (hxy:os.idxOf x<os.idxOf y)
    (cA:y∈A->lo<=os.idxOf x->x∈A) (cB:x∈B->os.idxOf y<=hi->y∈B) (cN:¬ (x∈B/\y∈A)):(bH os (A++B)).idxOf x<(bH os (A++B)).idxOf y:=by
 have pos:∀ {l:List Str} {u v:Str},l.Pairwise (fun x y=>os.idxOf x<os.idxOf y)->u∈l->v∈l->os.idxOf u<os.idxOf v->∃i j,i<j/\l[i]? = some u/\l[j]? = some v:=fun {l u v} pw hu hv huv=>by
  obtain⟨i,hi⟩:=AE hu
  obtain⟨j,hj⟩:=AE hv
  obtain⟨i1,i2⟩:=Ac.mp hi
  obtain⟨j1,j2⟩:=Ac.mp hj
  refine⟨i,j,BA fun z=>?_,hi,hj⟩
  rcases Nat.lt_or_eq_of_le z with z | z
  ·have:=BB.mp pw j i j1 i1 z
   rw[i2,j2] at this
   omega
  ·subst z;rw[hi] at hj;cases hj;omega
 have inL:∀ {i:Nat} {u:Str},A[i]? = some u->(A++B)[i]? = some u:=fun {i u} h=>by rw[A9 (Ac.mp h).1];exact h
 have inR:∀ {i:Nat} {u:Str},B[i]? = some u->(A++B)[A.length+i]? = some u:=fun {i u} h=>by rw[Bp (by omega),BW];exact h
 by_cases xA:x∈A
 ·by_cases yA:y ∈ A
  ·obtain⟨i,j,hij,h1,h2⟩:=pos oA xA yA hxy
   exact iZ (inL h1) (inL h2) hij ond cnd sub
  ·by_cases yB:y∈B
   ·obtain⟨i,h1⟩:=AE xA
    obtain⟨j,h2⟩:=AE yB
    have:=(Ac.mp h1).1
    exact iZ (inL h1) (inR h2) (by omega) ond cnd sub
   ·have h1:=uG (B:=B) oA xA ond cnd sub
    rw[g6 hy (fun z=>(Aj.mp z).elim yA yB) ond cnd sub]
    omega
 ·by_cases xB:x ∈ B
  ·by_cases yA:y ∈ A
   ·exact absurd ⟨xB,yA⟩ cN
   ·by_cases yB:y∈B
    ·obtain⟨i,j,hij,h1,h2⟩:=pos oB xB yB hxy
     exact iZ (inR h1) (inR h2) (by omega) ond cnd sub
    ·have hyh:hi<os.idxOf y:=BA fun z=>yB (cB xB z)
     obtain⟨u,hu,eu⟩:=ol (AS A xB) ond cnd sub
     have:=(hin u hu).2
     rw[g6 hy (fun z=>(Aj.mp z).elim yA yB) ond cnd sub]
     omega
  ·rw[g6 hx (fun z => (Aj.mp z).elim xA xB) ond cnd sub]
   by_cases yA:y∈A
   ·have hxl:os.idxOf x<lo:=BA fun z=>xA (cA yA z)
    obtain⟨u,hu,eu⟩:=ol (AR B yA) ond cnd sub
    have:=(hin u hu).1
    omega
   ·by_cases yB:y∈B
    ·have:=xE (A:=A) oB yB ond cnd sub
     omega
    ·rw[g6 hy (fun z=>(Aj.mp z).elim yA yB) ond cnd sub]
     exact hxy
section
variable {H H':Hp}
theorem dg (hp:H p=some (.dK ys)) (b:But p H H') (h:H a=some (.tup xs)):H' a=some (.tup xs):=b a _ (ba h hp (by intro z;cases z)) h
theorem iu (hp:H p=some (.dK ys)) (b:But p H H') (h:Rep H v (aE e)):Rep H' v (aE e):=by
 obtain⟨a,rfl,ha⟩:=fJ h
 exact aM (dg hp b ha)
theorem dJ (k:∀ {v:V}{e:α},Rep H v (f e)->Rep H' v (f e)):∀ {es:List α}{xs:List V},RepAll H xs (es.map f)->RepAll H' xs (es.map f)
 | [],xs,h=>by rw[RepAll.nilI h];exact .nil
 | e::es,xs,h=>by
  obtain⟨y,ys',rfl,a,c⟩:=RepAll.consI h
  exact .cons (k a) (dJ k c)
theorem ft (hp:H p=some (.dK ys)) (b:But p H H') (h:Rep H v (bW ps)):Rep H' v (bW ps):=by
 obtain⟨a,xs,rfl,ha,r⟩:=aP h
 exact .tup (dg hp b ha) (dJ (iu hp b) r)
theorem iR (hp:H p=some (.dK ys)) (b:But p H H') (h:Rep H v (bN k)):Rep H' v (bN k):=by
 obtain⟨ta,la,rfl,h1,h2⟩:=i3 h
 exact .tup (dg hp b h1) (.cons (.str _) (.cons (.tup (dg hp b h2) (RepAll.of_strs _)) .nil))
theorem cZ (hp:H p=some (.dK ys)) (b:But p H H') (h:Rep H v (cv ks)):Rep H' v (cv ks):=by
 obtain⟨a,xs,rfl,ha,r⟩:=cY h
 exact .tup (dg hp b ha) (dJ (iR hp b) r)
theorem ir (hp:H p=some (.dK ys)) (b:But p H H') (h:Rep H v (aJ ks ts ws wn)):Rep H' v (aJ ks ts ws wn):=by
 obtain⟨q,a,c,d,e,rfl,hq,r1,r2,r3,r4⟩:=aX h
 exact ce (dg hp b hq) (cZ hp b r1) (ft hp b r2) (ft hp b r3) (ft hp b r4)
end
theorem DPV.at_dK (h:DPV H p a):∃ys,H p=some (.dK ys):=let ⟨_,_,q,_⟩:=h;⟨_,q⟩
structure KLL (H:Hp) (L:Addr) (kl:KL):Prop where
 l:H L=some (.lst (kl.map fun q=>V.ref q.1))
 t:∀q∈kl,H q.1=some (.lst [.str q.2.2.1,.ref q.2.1])
 c:∀q∈kl,H q.2.1=some (.lst (List.map V.str q.2.2.2))
 nd:(kl.map fun q=>q.2.1).Nodup
 nl:∀q∈kl,q.2.1≠L
theorem wC:HO.lst [.str s,.ref r]≠HO.lst (List.map V.str ch):=fun z=>by
 have z:[V.str s,V.ref r]=List.map V.str ch:=HO.lst.inj z
 have:V.ref r∈List.map V.str ch:=by rw[<- z];simp
 obtain⟨y,_,e⟩:=Ag.mp this
 cases e
theorem rN {s:Str}{α:Type}{f:α->Addr}{l:List α}:HO.lst [.str s,.ref r]≠HO.lst (l.map fun q=>V.ref (f q)):=fun z=>by
 have z:[V.str s,V.ref r]=l.map fun q=>V.ref (f q):=HO.lst.inj z
 have:V.str s∈l.map fun q=>V.ref (f q):=by rw[<- z];simp
 obtain⟨y,_,e⟩:=Ag.mp this
 cases e
section
variable {H H':Hp}{L p:Addr}{kl:KL}
theorem KLL.draw (h:KLL H L kl) (hp:H p=some (.dK ys)) (b:But p H H'):KLL H' L kl :=
 ⟨b _ _ (ba h.l hp (by intro z;cases z)) h.l,fun q hq=>b _ _ (ba (h.t q hq) hp (by intro z;cases z)) (h.t q hq),fun q hq=>b _ _ (ba (h.c q hq) hp (by intro z;cases z)) (h.c q hq),h.nd,h.nl⟩
theorem KLL.same (h:KLL H L kl) (s:Same H H'):KLL H' L kl:=⟨s _ _ h.l,fun q hq=>s _ _ (h.t q hq),fun q hq=>s _ _ (h.c q hq),h.nd,h.nl⟩
theorem KLL.put (h:KLL H L kl) (hj:kl[j]? = some (ta, la, (nm, ch))) :
    KLL (upd H la (.lst (List.map V.str ch'))) L (kl.set j (ta,la,(nm,ch'))):=by
 have hm:=Ad hj
 have nj:=h.nl _ hm
 have hc:=h.c _ hm
 have e1:((kl.set j (ta,la,(nm,ch'))).map fun q=>q.1)=kl.map fun q=>q.1:=fV hj rfl
 have e2:((kl.set j (ta,la,(nm,ch'))).map fun q=>q.2.1)=kl.map fun q=>q.2.1:=fV hj rfl
 refine⟨?_,fun q hq=>?_,fun q hq=>?_,by rw[e2];exact h.nd,fun q hq=>?_⟩
 ·rw[af (Ne.symm nj),h.l]
  have:=congrArg (List.map V.ref) e1
  rw[AQ,AQ] at this
  exact congrArg (fun z=>some (HO.lst z)) this.symm
 ·rcases fD hq with rfl | ⟨m,_,hm'⟩
  ·have:=h.t _ hm
   rw[af (ba this hc wC)];exact this
  ·have:=h.t _ (Ad hm')
   rw[af (ba this hc wC)];exact this
 ·rcases fD hq with rfl | ⟨m, hmj, hm'⟩
  ·exact ae
  ·have hne:q.2.1≠la:=fun z=>by
      have h1:(kl.map fun q=>q.2.1)[m]? = some la:=by rw[Al,hm'];exact congrArg some z
      have h2:(kl.map fun q=>q.2.1)[j]? = some la:=by rw[Al,hj];rfl
      exact hmj ((Bn (Ac.mp h1).1 h.nd).mp (h1.trans h2.symm))
   rw[af hne];exact h.c _ (Ad hm')
 ·rcases fD hq with rfl | ⟨m,_,hm'⟩
  ·exact nj
  ·exact h.nl _ (Ad hm')
theorem KLL.add (h:KLL H L kl) (ht:H ta=some (.lst [.str u, .ref la])) (hl:H la=some (.lst [])) (hla:la ∉ kl.map fun q => q.2.1) (h1:la ≠ L) :
    KLL (upd H L (.lst ((kl.map fun q=>V.ref q.1)++[V.ref ta]))) L (kl++[(ta,la,(u,[]))]):=by
 refine⟨?_,fun q hq=>?_,fun q hq=>?_,?_,fun q hq=>?_⟩
 ·rw[ae,Ae];rfl
 ·rcases Aj.mp hq with hq | hq
  ·have:=h.t q hq
   rw[af (ba this h.l rN)];exact this
  ·rw[Av.mp hq]
   rw[af (ba ht h.l rN)];exact ht
 ·rcases Aj.mp hq with hq | hq
  ·rw[af (h.nl q hq)];exact h.c q hq
  ·rw[Av.mp hq]
   rw[af h1];exact hl
 ·rw[Ae]
  refine(List.perm_append_singleton _ _).nodup_iff.mpr ?_
  exact AL.mpr ⟨hla,h.nd⟩
 ·rcases Aj.mp hq with hq | hq
  ·exact h.nl q hq
  ·rw[Av.mp hq];exact h1
theorem KLL.dic (h:KLL H L kl) (hD:H D=some (.dK lv)):KLL (upd H D (.dK lv2)) L kl :=
 ⟨by rw[af (ba h.l hD (by intro z;cases z))];exact h.l,fun q hq=>by rw[af (ba (h.t q hq) hD (by intro z;cases z))];exact h.t q hq,fun q hq=>by rw[af (ba (h.c q hq) hD (by intro z;cases z))];exact h.c q hq,h.nd,h.nl⟩
theorem TrN.addKnot (h:TrN us (i+1) ks) (nd:us.Nodup) (nn:∀u∈us,u≠"") (hu:us[i]? = some u) (hnew:u∉ks.map (·.1)):TrN us (i+1) (ks++[(u,[])]):=by
 have:=h.knot nd nn hu hnew ks.length
 rwa [Ak (Aa _),A7 (Aa _)] at this
end
end L2
namespace L2
open PySem PySem.Spec PyProof.Rows
section
variable {X:Cx}
def wW (K:W.Frag):V->V->Hp->VK->Prop:=fun x y H Q=>∃a b xs,x=.ref a/\y=.ref b/\SqT K H a xs/\H b=some (.tup [])/\Q (.bl (!xs.isEmpty)) H
theorem lC (K:W.Frag) (hu:X.A.units+64<cLine) (hK:X.K=K := by rfl):OpR X (compareOp .NotEq) (wW K) := by
 subst hK
 intro pins s σ H x y v u Q I rx ry h
 obtain⟨a,b,xs,rfl,rfl,ha,hb,q⟩:=h
 cases rx
 cases ry
 obtain⟨its,rv,pl,hz⟩:=I.tuple ha
 obtain⟨jts,rw',pb,_⟩:=I.tuple (a:=b) (xs:=[]) (.of hb)
 cases rw'
 have l1:=rv.length
 refine SeqAt.RcNeAt.tuples (e:=fun _=>true) (show s.heap.IsTuple a its.toArray from pl) (show s.heap.IsTuple b (List.toArray []) from pb) (by omega) (fun i h1 h2=>absurd h2 (by simp)) X.prog X.w X.xe _ ⟨.bl _,H,I,rfl,?_⟩
 have e:(!((List.range (min its.toArray.size (List.toArray ([]:List Value)).size)).all (fun _=>true)&&its.toArray.size==(List.toArray ([]:List Value)).size))=!xs.isEmpty:=by
  cases xs with
  | nil=>cases rv;rfl
  | cons x r =>
   cases its with
   | nil=>cases rv
   | cons y q=>simp
 rw[e]
 exact q
end
def yD (f:Addr) (sp:Sp) (E:XK) (tf:TE) (t:TA):TE:=fun σ H Q=>tf σ H fun v H1=>v=.ref f/\t σ H1 fun vs H2=>sp (vs++[]) H2 Q E
theorem vI (F:FnOk X.prog X.w X.K X.mg X.base CX k f fd ps sp) (hr:Room k X.A) (hk:W.keepIn X.K (.ref f)=true) (hb:Binds X.K fd ps []) (hx:jS CX X E)
    (hf:PE X func tf) (ha:PA X (e::es) t) (he:starEach (e::es) X.env=(false,eval e X.env)::starEach es X.env:=by rfl) (hpl:(backTo pos (starEach es X.env)).any (·.1)=false:=by rfl)
    (hev:eval (.Call func (e::es) [] pos) X.env=(eval func X.env >>= fun v=>callWith pos v [] (backTo pos (starEach (e::es) X.env)) (backToKw pos (keywordEach [] X.env))):=by rfl) :
    PE X (.Call func (e::es) [] pos) (yD f sp E tf t):=by
 intro pins s σ H Q I h
 rw[hev]
 refine zZ (thn (hf pins s σ H _ I h) fun u s1 ⟨v,H1,I1,r1,q1,q2⟩=>?_)
 subst q1
 obtain rfl:u=Value.ref f:=r1
 refine W.callWith_K (h₀:=X.base) I1.ok.mod.kin hk (thn (ha pos pins s1 σ H1 _ I1 q2) fun us s2 ⟨vs,H2,I2,r,q⟩=>⟨I2.kIn,?_⟩) he hpl
 exact uz F hr hb .nil hx I2 r q
open _root_.HT PySem.SeqAt PySem.MeetsSeq PySem.MeetsSeq2 PySem.MeetsSeq3
namespace HTW
variable {prog:Program}{w:World}{A:Around}{E:Value->Shared->Prop}{s:Shared}
theorem getItem_tuple_whole {items:Array Value}{lo hi:Option Int}(ht:IsTup s.heap t items) (hs:s.heap.IsSliceOf sl vl vu .none) (pl:IsPart vl lo) (pu:IsPart vu hi)
    (h0:sIx items.size 0 lo=0) (h1:sIx items.size items.size hi=items.size)
    (h:Q (.ref t) s):wpAny (model prog w) A (getItem (.ref t) (.ref sl)) Q E s:=by
 obtain⟨os,hos,hcs,hds⟩:=id hs
 have hTs:s.TypeIs (.ref sl) "slice":=⟨os,hos,hcs⟩
 unfold getItem
 try with_reducible refine AN ?_
 first | refine zZ (Ab ?_) | skip
 refine zZ (wpAny_sequenceKey ht.typeIs (by decide) ?_)
 refine zZ (wpAny_callSpecial?_slot (name:=Str.ofString "__getitem__") ht.typeIs PyProof.Rows.slot_tuple_getitem
  (wpAny_call_entry PyProof.Rows.slot_tuple_getitem ht.typeIs entry_tuple_getitem ?_ (args_tuple_getitem _ _)))
 show wpAny _ _ (Builtin.Tuple.tupleItemsOf (.ref t) >>= _) _ _ s
 refine zZ (tupleItemsOf_ ht ?_)
 refine zZ (wpAny_typeOf hTs ?_)
 rw[if_pos (by decide)]
 refine zZ (fN hs pl pu ?_)
 have hyes:(((sIx items.size 0 lo:Nat):Int)==0&&(1:Int)==1&&(sIx items.size items.size hi-sIx items.size 0 lo)==items.size)=true:=by
  rw[h0,h1];simp
 show wpAny _ _ (if (((sIx items.size 0 lo:Nat):Int)==0&&(1:Int)==1&&(sIx items.size items.size hi-sIx items.size 0 lo)==items.size)=true then _ else _) _ _ s
 rw[if_pos hyes]
 unfold Builtin.Tuple.tupleIsExact
 refine zZ (zZ (wpAny_typeOf ht.typeIs (Ab ?_)))
 rw[if_pos (by decide)]
 refine zZ (wpAny_rule (Ab ⟨_,rfl,Ab h⟩))
end HTW
section
variable {X:Cx}
theorem sS {xs:List V}{lo hi:Option Int}(h0:HT.sIx xs.length 0 lo=0) (h1:HT.sIx xs.length xs.length hi=xs.length):cL xs lo hi=xs:=by
 unfold cL
 rw[h0,h1,List.drop_zero,Nat.sub_zero,Ak (Aa _)]
def zV:V->Option Int->Option Int->Hp->VK->Prop:=fun x lo hi H Q=>∃a xs,x=.ref a/\H a=some (.tup xs)/\∀p H',Same H H'->H' p=some (.tup (cL xs lo hi))->Q (.ref p) H'
theorem lg:SlR X zV:=by
 intro pins s σ H x v vl vu lo hi sl Q I rx hs pl pu h
 obtain⟨a,xs,rfl,hx,q⟩:=h
 by_cases hw:HT.sIx xs.length 0 lo=0/\HT.sIx xs.length xs.length hi=xs.length
 ·cases rx
  obtain⟨its,r,ht,hz⟩:=I.tuple (.of hx)
  have hlen:its.toArray.size=xs.length:=by rw[Au];exact r.length.symm
  refine⟨"tuple",_,PyProof.Rows.slot_tuple_getitem.lookup,ht.typeIs,?_⟩
  refine HTW.getItem_tuple_whole ht hs pl pu (by rw[hlen];exact hw.1) (by rw[hlen];exact hw.2) ?_
  exact⟨.ref a,H,I,rfl,q a H (Same.refl H) (by rw[sS hw.1 hw.2];exact hx)⟩
 ·exact ui pins s σ H _ v vl vu lo hi sl Q I rx hs pl pu ⟨a,xs,rfl,.of hx,hw,fun p hp=>q p _ (Same.new hp) ae⟩
def zt:R2:=fun x y H Q=>∃a b xs ys,x=.ref a/\y=.ref b/\H a=some (.tup xs)/\H b=some (.tup ys)/\xs.length+ys.length<=sizeLine/\∀p H',Same H H'->H' p=some (.tup (xs++ys))->Q (.ref p) H'
theorem dm:OpR X (binaryOp .Add) zt:=by
 intro pins s σ H x y v u Q I rx ry h
 obtain⟨a,b,xs,ys,rfl,rfl,ha,hb,hz,q⟩:=h
 refine uO X.K rfl pins s σ H _ _ v u Q I rx ry ⟨a,b,xs,ys,rfl,rfl,.of ha,.of hb,hz,fun e=>q b H (Same.refl H) (by rw[e];exact hb),fun _ e=>q a H (Same.refl H) (by rw[e,AK];exact ha),fun _ _ p hp=>q p _ (Same.new hp) ae⟩
end
end L2
namespace L2
open PySem PySem.Spec PyProof.Rows
section
variable {X:Cx}{e e':Expr}{te te':TE}
theorem p1 (ha:PE X e te) (hs:starEach [e] X.env=(false,eval e X.env)::starEach [] X.env:=by rfl):PA X [e] (mP te rS):=ak ha bT hs
theorem p2 (ha:PE X e te) (hb:PE X e' te') (hs:starEach [e,e'] X.env=(false,eval e X.env)::starEach [e'] X.env:=by rfl) (hs':starEach [e'] X.env=(false,eval e' X.env)::starEach [] X.env:=by rfl):PA X [e,e'] (mP te (mP te' rS)):=ak ha (ak hb bT hs') hs
theorem px (K:W.Frag) (hr:Room k X.A) (ha:PE X e te) (hb:PE X e' te') (hs:qD e':=by exact fun _ _=>rfl) (hK:X.K=K:=by rfl):PE X (.Subscript e e' pos) (tOp (fun x y H Q=>IxX K H x y Q) te te'):=qO (ix_X K hr.units hK) ha hb hs
theorem pc (c:Cal X.prog X.w X.K X.mg X.base k x ps sp) (hr:Room j X.A) (ha:PA X (e::es) t) (hj:k<=j:=by decide) (hg:Gl X x:=by exact rfl)
    (hs:starEach (e::es) X.env=(false,eval e X.env)::starEach es X.env:=by rfl) (hpl:(backTo pos (starEach es X.env)).any (·.1)=false:=by rfl) (hdb:(x==("__debug__":Str))=false:=by decide) :
    PE X (.Call (.Name x p) (e::es) [] pos) (rX sp [] E0 t):=m8 c (hr.mono hj) hg ha hs hpl hdb
theorem pst (i:Nat) (hN:X.N.Nodup) (he:PE X e te) (hi:X.N[i]? = some x:=by rfl) (hx:Loc X.env.scope x:=by exact Or.inl rfl) (hs:swapsWith e (some (.Name x pos')) pos.line X.env=pure false:=by rfl)
    (hf:X.fn x=true∨X.env.scope.names.lookup x=some .local:=by first | exact .inl rfl | exact .inr rfl | assumption):PS X (.Assign [.Name x pos'] e pos) (rC te (aQ i)):=bV hN hi hx he hs hf
end
theorem fsc (h1:sc.kind=.function:=by rfl) (h2:sc.isCoroutine=false:=by rfl) (h3:sc.isGenerator=false:=by rfl) (h4:N.Nodup:=by decide +kernel) (h5:N.take P.length=P:=by rfl)
    (h6:∀x∈P,sc.names.lookup x=some .local∨sc.names.lookup x=some .cell:=by decide +kernel) (h7:∀y∈sc.names,y.2≠.free:=by decide +kernel):FnScope N P sc:=⟨h1,h2,h3,h4,h5,h6,h7⟩
section
variable {P:Program}{w:World}{K:W.Frag}{mg:Str->Option Value}{base:Heap}{x qual:Str}{st:Stmt}{f:Addr}{fd:FuncData}{ps:List Str}{k:Nat}{sp:Sp}
theorem Fun.ok1 (F:Fun K x qual st f fd) (N:List Str)
    (hbody:∀ {cdv:Value} {A:Around} {outer:List Env} {s:Shared} {vs:List V},N.Nodup->∀(H:Hp) (Q:VK) (E:XK),Room k (A.deeper (envOfC qual (aD st) s.heap.objs.size f cdv))->sp vs H Q E ->
     ∃t,PSs (jq CX0 P w K mg base N qual (aD st) f cdv A outer s H E).nox (cM st) t/\t { nx:=fun _ H'=>Q .non H',rt:=Q } (start N vs) H)
    (S:FnScope N ps (aD st):=by exact fsc) (len:∀vs H Q E,sp vs H Q E->vs.length=ps.length:=by intro vs H Q E h;repeat (first | (obtain⟨rfl,_⟩:=h;rfl) | obtain⟨_,h⟩:=h)):FnOk P w K mg base CX0 (k+1) f fd ps sp :=
 F.ok S len fun _ _ _ _ H _ Q E hr h=>hbody S.nd H Q E hr h
end
theorem szl (n:Nat) (h:n<=sizeLine:=by decide):n<=sizeLine:=h
@[elab_as_elim] theorem nw {M:Hp->Prop}(h:H a=none) (k:∀H',Same H H'->H' a=some o->M H'):M (upd H a o):=k _ (Same.new h) ae
example {H:Hp} {a:Addr} {xs:List V} {Q:V->Hp->Prop} (h:H a=none) (q:∀H',Same H H'->H' a=some (.lst xs)->Q .non H'):Q .non (upd H a (.lst xs)):=by
 refine nw h fun H2 s2 e2=>?_
 exact q H2 s2 e2
end L2
namespace K49
open PySem L2
def top (i:Nat):Stmt:=PySem.Challenge.pw_orderkeep_k49_ties_that_wait.main.body.getD i (.Pass ⟨0,0,0,0⟩)
abbrev kZ:Stmt:=top 14
abbrev jX:Stmt:=top 16
abbrev i4:Stmt:=top 17
abbrev kP:Stmt:=top 18
abbrev jm:Stmt:=top 22
abbrev li:Stmt:=top 23
abbrev yG:Stmt:=top 24
abbrev kQ:Stmt:=top 25
abbrev mJ:Stmt:=top 26
abbrev j7:Stmt:=top 27
abbrev uw:Stmt:=top 28
abbrev pL:Stmt:=top 30
abbrev lQ:Stmt:=top 33
abbrev ow:Stmt:=top 35
abbrev t6:Stmt:=top 36
abbrev jP:Stmt:=top 38
abbrev mE:Stmt:=top 39
abbrev wS:Stmt:=top 41
abbrev fu:Stmt:=top 42
abbrev gM:Stmt:=top 43
abbrev kX:Stmt:=top 44
abbrev kh:Stmt:=top 46
abbrev gs:Stmt:=top 49
abbrev qe:Stmt:=top 50
abbrev jd:Stmt:=top 54
abbrev nU:Stmt:=top 56
abbrev iN:Stmt:=top 57
abbrev jx:Stmt:=top 62
abbrev iA:Stmt:=top 70
abbrev qh:Stmt:=top 71
abbrev oz:Stmt:=top 72
abbrev pP:Stmt:=top 73
abbrev ii:Stmt:=top 75
abbrev hW:Stmt:=top 77
abbrev uq:Stmt:=top 78
abbrev qK:Stmt:=top 80
abbrev kC:Stmt:=top 82
abbrev kA:Stmt:=top 90
abbrev iS:Stmt:=top 92
abbrev uA:Stmt:=top 98
abbrev mh:Stmt:=top 100
abbrev lY:Stmt:=top 102
abbrev nA:Stmt:=top 106
abbrev lI:Stmt:=top 107
abbrev qF:Stmt:=top 114
abbrev pH:Stmt:=top 115
abbrev ip:Stmt:=top 116
abbrev ou:Stmt:=top 117
abbrev iq:Stmt:=top 118
abbrev zv:Stmt:=top 120
abbrev wA:Stmt:=top 121
abbrev nH:Stmt:=top 122
abbrev iQ:Stmt:=top 123
abbrev jb:Stmt:=top 124
abbrev np:Stmt:=top 125
abbrev mH:Stmt:=top 126
abbrev oo:Stmt:=top 127
abbrev mm:Stmt:=top 128
abbrev oO:Stmt:=top 129
abbrev jc:Stmt:=top 130
abbrev jk:Stmt:=top 131
abbrev iU:Stmt:=top 132
abbrev wH:Stmt:=top 133
abbrev gV:Stmt:=top 134
abbrev oT:Stmt:=top 135
section
variable {P:Program}{w:World}{K:W.Frag}{mg:Str->Option Value}{base:Heap}
def sj (K:W.Frag):Sp:=fun vs H Q _=>∃(a:_) (ns:List Int),vs=[.ref a]/\SqL K H a (ns.map V.int)/\∀p H',DPen K H' p a->Q (.ref p) H'
theorem yM (F:Fun K "_law_pen" "_law_pen" zv f fd) (B:Blt mg):FnOk P w K mg base CX0 1 f fd ["_law_script"] (sj K):=by
 refine F.ok1 ["_law_script"] fun nd H Q E hr h=>?_
 obtain⟨a,ns,rfl,hS,k⟩:=h
 refine⟨_,(ac (am (qd (gW aA (pv 0) (gW aA ab (gW aA ab pR))) rfl rfl (by simp) (by decide)))),?_⟩
 refine fun p hp=>⟨_,rfl,?_⟩
 refine⟨ae,dI a 0 0,rfl,(by show 3<=15;decide),?_⟩
 have s1:Same H (upd (upd H p (.dK [])) p (.dK (eg [] (dI a 0 0)))):=by rw[kR];exact Same.new hp
 exact k p _ (DPen.new hS hp s1 ⟨0,0,ae,by decide,by decide⟩)
theorem zy (h:SqL K H a xs) (e:H l=none):SqL K (upd H l o) a xs:=by
 have s:=Same.new (o:=o) e
 rcases h with (h | ⟨ob,h⟩) | h
 ·exact .inl (.inl (s _ _ h))
 ·exact .inl (.inr ⟨ob,s _ _ h⟩)
 ·exact .inr h
theorem wY (F:Fun K "_law_draw" "_law_draw" wA f fd) (B:Blt mg):FnOk P w K mg base CX0 1 f fd ["_law_pen_here", "_law_many"] (iY K) := by
 refine F.ok1 ["_law_pen_here","_law_many","_law_found","_law_at","_law_cell","_law_number"] fun nd H Q E hr h=>?_
 obtain⟨p,a,m,rfl,⟨⟨ns,hS⟩,i,n,hp,hi,hn⟩,hm,hm2,k⟩:=h
 refine⟨_,(aa (aI (ag gi (px K hr (pv 0) aA) ab (au _)) (aa (pst 2 nd (aG eM (px K hr (pv 0) aA) (pv 1)))
  (aa (bU (aG kK (px K hr (pv 0) aA) (pv 1)) (cO (pv 0) aA (du hr.units)))
  (ac (am (pv 2))))) av)
  (aa (pst 3 nd (px K hr (pv 0) aA))
  (aa (bU (aG aK (pv 3) ab) (cO (pv 0) aA (du hr.units)))
  (aa (pst 4 nd ab)
  (aa (aI (ag (vV K hr.units) (px K hr (pv 0) aA) (aS bT) (au _)) (ac (pst 4 nd (px K hr (px K hr (pv 0) aA) (aG eM (pv 3) (bh K B (p1 (px K hr (pv 0) aA))))))) av)
  (aa (aI (PW.pt (cx (ag fg (pv 3) (bh K B (p1 (px K hr (pv 0) aA))) (au _)) (bY (ag wJ (qR B (p1 (pv 4))) (aG ya ab ab) (au _))))) (aa (bU (aG kK (qR B (p1 (pv 4))) (pv 1)) (cO (pv 0) aA (du hr.units)))
  (ac (am (aG eM (qR B (p1 (pv 4))) (pv 1))))) av)
  (aa (pst 5 nd (aG eM (aG gO (aG aK (aG aK (aG eM (pv 4) ab) (aG gO ab (pv 3))) ab) ab) ab))
  (aa (pst 5 nd (aG eM (aG aK (aG aK (aG gO (pv 5) (pv 5)) (aG gO ab (pv 5))) (pv 3)) ab))
  (ac (am (aG eM (aG kK (pv 5) ab) (pv 1)))))))))))),?_⟩
 refine⟨_,rfl,.dic (ny hp) ⟨_,_,rfl,rfl,_,rfl,?_⟩⟩
 refine ap (fun h=>?_) (fun h=>?_)
 ·refine⟨_,rfl,.dic (ny hp) ⟨_,rfl,_,_,rfl,rfl,hm,?_⟩⟩
  refine⟨_,rfl,.dic (ny hp) ⟨_,rfl,_,_,rfl,rfl,⟨hm,hm2⟩,?_⟩⟩
  refine⟨_,rfl,.dic (ug hp) ?_⟩
  refine⟨_,rfl,?_⟩
  exact k _ _ (Bc _ (by omega)) (Bx _ hm) ⟨i,n / m,ae,hi,Int.ediv_nonneg hn (by omega)⟩ But.upd
 ·refine⟨_, rfl, .dic (yC hp) ?_⟩
  refine⟨_,rfl,.int ?_⟩
  refine⟨_,rfl,.dic (yS hp) ?_⟩
  have hp1:(upd H p (.dK (dI a (i+1) n))) p=some (.dK (dI a (i+1) n)):=ae
  have hS1:SqL K (upd H p (.dK (dI a (i+1) n))) a (ns.map V.int):=hS _ But.upd
  have bu1:But p H (upd H p (.dK (dI a (i+1) n))):=But.upd
  generalize upd H p (.dK (dI a (i+1) n))=H1 at hp1 hS1 bu1 ⊢
  refine⟨_,rfl,.dic (kD hp1) ⟨(szl 0),fun lz hlz=>⟨_,_,_,rfl,rfl,zy hS1 hlz,ae,_,rfl,?_⟩⟩⟩
  have nlz:p≠lz:=ah hp1 hlz
  have hp2:(upd H1 lz (.lst [])) p=some (.dK (dI a (i+1) n)):=by rw[af nlz];exact hp1
  have bu2:But p H (upd H1 lz (.lst [])):=bu1.trans (But.of_same (Same.new hlz))
  have hS2:SqL K (upd H1 lz (.lst [])) a (ns.map V.int):=hS _ bu2
  generalize upd H1 lz (.lst [])=H2 at hp2 hS2 bu2 ⊢
  have fin:∀c:Int,0<=c->Q (.int (c % m)) H2:=fun c hc=>k _ _ (Bc _ (by omega)) (Bx _ hm) ⟨i+1,n,hp2,by omega,hn⟩ bu2
  refine ap (fun h=>?a) (fun h=>?b)
  case' a =>
   have hl:(0:Int)<((ns.map V.int).length:Nat):=by
    cases ns with
    | nil=>exact absurd h (by simp)
    | cons x r=>show (0:Int)<((r.map V.int).length+1:Nat);omega
   obtain⟨c,hc⟩:=zA (ns:=ns) (j:=i % ((ns.map V.int).length:Nat)) (Bc _ (by omega)) (Bx _ hl)
   refine⟨_,rfl,.dic (kD hp2) ⟨_,rfl,_,rfl,.dic (kD hp2) ⟨_,_,rfl,Or.inl ⟨_,hS2,rfl⟩,_,_,rfl,rfl,hl,.lst hS2 hc ?_⟩⟩⟩
  all_goals
   refine⟨_,rfl,_,rfl,.dic (kD hp2) ⟨_,_,rfl,Or.inl ⟨_,hS2,rfl⟩,.int ⟨_,rfl,?_⟩⟩⟩
   refine ap (fun h1=>?_) (fun h1=>?_)
   ·refine⟨_,rfl,_,rfl,_,_,rfl,rfl,⟨by decide,by decide,by decide⟩,_,_,rfl,rfl,_,rfl,?_⟩
    refine ap (fun h2=>?_) (fun h2=>?_)
    ·refine⟨_,rfl,_,rfl,_,rfl,_,_,rfl,rfl,⟨hm,hm2⟩,?_⟩
     refine⟨_,rfl,.dic (ug hp2) ?_⟩
     refine⟨_,rfl,_,rfl,_,rfl,_,_,rfl,rfl,hm,?_⟩
     refine k _ _ (Bc _ (by omega)) (Bx _ hm) ⟨i+1,_,ae,by omega,Int.ediv_nonneg (by split <;> omega) (by omega)⟩ (bu2.trans But.upd)
    ·refine⟨_,rfl,_,_,rfl,rfl,(by show (0:Int)<_;decide),_,rfl,_,_,rfl,rfl,.inl ⟨by decide,by decide⟩,.int (.int ⟨_,_,rfl,rfl,.inr ⟨by decide,by decide⟩,_,_,rfl,rfl,(by show (0:Int)<_;decide),?_⟩)⟩
     refine⟨_,rfl,_,rfl,_,_,rfl,rfl,.inl (lE _),_,rfl,_,_,rfl,rfl,.inl ⟨by decide,by decide⟩,.int ⟨_,rfl,.int ⟨_,_,rfl,rfl,(by show (0:Int)<_;decide),?_⟩⟩⟩
     refine⟨_,rfl,_,_,rfl,rfl,⟨by decide,by decide⟩,_,rfl,_,_,rfl,rfl,hm,?_⟩
     exact fin _ (Int.ediv_nonneg (Bc _ (by decide)) (by decide))
   ·refine⟨_,rfl,_,_,rfl,rfl,(by show (0:Int)<_;decide),_,rfl,_,_,rfl,rfl,.inl ⟨by decide,by decide⟩,.int (.int ⟨_,_,rfl,rfl,.inr ⟨by decide,by decide⟩,_,_,rfl,rfl,(by show (0:Int)<_;decide),?_⟩)⟩
    refine⟨_,rfl,_,rfl,_,_,rfl,rfl,.inl (lE _),_,rfl,_,_,rfl,rfl,.inl ⟨by decide,by decide⟩,.int ⟨_,rfl,.int ⟨_,_,rfl,rfl,(by show (0:Int)<_;decide),?_⟩⟩⟩
    refine⟨_,rfl,_,_,rfl,rfl,⟨by decide,by decide⟩,_,rfl,_,_,rfl,rfl,hm,?_⟩
    exact fin _ (Int.ediv_nonneg (Bc _ (by decide)) (by decide))
theorem cF {refs:List V}{ps:List (Str × Str)}(rp:RepAll H refs (ps.map aE)) {j:Nat}(hx:refs[j]? = some x):∃e ta,ps[j]? = some e/\x=.ref ta/\H ta=some (.tup [.str e.1,.str e.2]):=by
 obtain⟨d,hd,rd⟩:=rp.get hx
 rw[Al] at hd
 cases q:ps[j]? with
 | none=>rw[q] at hd;cases hd
 | some e =>
  rw[q] at hd
  have hd:aE e=d:=Af hd
  rw[<- hd] at rd
  obtain⟨ta,h1,h2⟩:=fJ rd
  exact⟨e,ta,rfl,h1,h2⟩
theorem bp {ss:List Str}{i:Nat}(h:(List.map V.str ss)[i]? = some x):∃s,ss[i]? = some s/\V.str s=x:=by
 rw[Al] at h
 cases q:ss[i]? with
 | none=>rw[q] at h;cases h
 | some e=>rw[q] at h;exact⟨e,rfl,Af h⟩
theorem at0 {α:Type}{y:α}{r:List α}:atI (y::r) 0=some y:=bJ (j:=0) rfl
theorem at1 {α:Type}{x y:α}{r:List α}:atI (x::y::r) 1=some y:=bJ (j:=1) rfl
theorem wE {A B:St->Hp->Prop}(hx:x=.ref q) (hq:SqT K H q [u,v]) (h:A ((σ.set 0 (some u)).set 1 (some v)) H) :
    wa K 2 (j3 (aQ 0) (j3 (aQ 1) u8)) x σ H fun σ2 H3=>qX σ2 H3 fun b H4=>if b=true then A σ2 H4 else B σ2 H4:=by
 subst hx
 refine⟨q,_,rfl,hq,rfl,_,_,rfl,_,_,rfl,rfl,?_⟩
 show (if true=true then A ((σ.set 0 (some u)).set 1 (some v)) H else B ((σ.set 0 (some u)).set 1 (some v)) H)
 rw[if_pos rfl]
 exact h
def yt:Sp:=fun vs H Q _=>∃z:Str,vs=[.str z]/\Nm z/\∀H',Same H H'->Q (.bl true) H'
theorem nF (s:Same H H') (h:H D=none):Same H (upd H' D o):=fun b u e=>by
 rw[af (ah e h)];exact s b u e
theorem kW:∀n,(List.replicate n true).all id=true
 | 0=>rfl
 | n+1=>kW n
theorem oJ:List.map V.bl (List.replicate n true)++[V.bl true]=List.map V.bl (List.replicate (n+1) true):=by
 rw[List.replicate_succ',Ae];rfl
theorem sZ (F:Fun K "is_name" "is_name" kZ f fd) (B:Blt mg) (T:mg "MOST_SIGNS"=some (.int 8 tk)):FnOk P w K mg base CX0 1 f fd ["thing"] yt := by
 refine F.ok1 ["thing"] fun nd H Q E hr h=>?_
 obtain⟨z,rfl,hz,k⟩:=h
 obtain⟨z1,z8,zl⟩:=hz
 have hzz:z.length<=sizeLine:=Az z8 (by decide)
 obtain⟨t,ty,t1,_⟩:=oH (K:=K) (H:=H) (.str hzz)
 refine⟨_,(aa (aI (fQ (fe (mU K "str" B (p2 (pv 0) (qU B))))) (ac aN) av)
  (aa (aI (PW.pt (gf (ag fg (bh K B (p1 (pv 0))) ab (au _)) (gH (ag gi (bh K B (p1 (pv 0))) (fM (v:=.int 8) rfl T ⟨_,rfl⟩) (au _))))) (ac aN) av)
  (ac (am (wT rfl B (p1 (bj (aD kZ) ["thing"] ["sign"] [] ["sign"] rfl (x5 (pv 0)) (fun _ _ _ _ _=>(ai (i:=0) (show (["sign"]:List Str).Nodup by decide) rfl (Or.inl rfl))) (fun _ _ _ _ _=>cP) (fun _ _ _ _ _=>(vb t8 t8 aA (pv 0) aA))))))))),?_⟩
 refine⟨_,rfl,_,t,_,rfl,ty,t1,_,rfl,ap (fun h=>by cases (show false=true from h)) fun _=>?_⟩
 refine⟨_,rfl,_,_,rfl,⟨hzz,rfl⟩,.int ⟨_,rfl,ap (fun h=>absurd (Ao h) (by omega)) fun _=>?_⟩⟩
 refine⟨_,rfl,_,_,rfl,⟨hzz,rfl⟩,_,_,rfl,rfl,_,rfl,ap (fun h=>absurd (Ao h) (by omega)) fun _=>?_⟩
 refine⟨_,rfl,z,rfl,?_⟩
 refine vZ (fun D i acc σ' H'=>∃o,σ'=[o]/\acc=List.map V.bl (List.replicate i true)/\Same H H'/\H D=none) fun D hD=>⟨⟨none,rfl,rfl,Same.new hD,hD⟩,?_,?_⟩
 ·rintro i acc σ' H' c hc ⟨o,rfl,rfl,sm,hD0⟩ hacc
  have il:=(Ac.mp hc).1
  have hl:z.cps.toList.length=z.length:=by simp[Str.length]
  obtain⟨c1,c2⟩:=zl c (Ad hc)
  have e1:(!decide ((⟨#[c]⟩:Str).cps.toList<("a":Str).cps.toList))=true:=by
   show (!decide ([c]<[97]))=_
   rw[ux,Ay (by omega)];rfl
  have e2:(!decide (("z":Str).cps.toList<(⟨#[c]⟩:Str).cps.toList))=true:=by
   show (!decide ([122]<[c]))=_
   rw[ux,Ay (by omega)];rfl
  refine iL ⟨_,rfl,.str ⟨_,rfl,?_⟩⟩
  rw[e1]
  refine oR (.str ?_)
  rw[e2]
  exact⟨hacc,by rw[z0,List.length_replicate];exact aj (by omega),_,rfl,oJ,nF sm hD0,hD0⟩
 ·rintro acc σ' H' ⟨o,rfl,rfl,sm,hD0⟩ hacc
  refine⟨D,_,rfl,hacc,?_⟩
  rw[kW]
  exact k H' sm
structure Dd (H:Hp) (t:Addr) (wd u v:Str):Prop where
 at_:H t=some (.tup [.str wd,.str u,.str v])
 hw:wd="tie"∨wd="wait"
 nu:Nm u
 nv:Nm v
theorem Dd.same (h:Dd H t wd u v) (s:Same H H'):Dd H' t wd u v:=⟨s _ _ h.at_,h.hw,h.nu,h.nv⟩
def spD (b:Bool):Sp:=fun vs H Q _=>∃t wd u v,vs=[.ref t]/\Dd H t wd u v/\∀H',Same H H'->Q (.bl b) H'
theorem zK (F:Fun K "has_word" "has_word" oz f fd) (B:Blt mg):FnOk P w K mg base CX0 1 f fd ["thing"] (spD true):=by
 refine F.ok1 ["thing"] fun nd H Q E hr h=>?_
 obtain⟨x,wd,u,v,rfl,D,k⟩:=h
 obtain⟨t,ty,_,_,_,_,t5⟩:=oH (K:=K) (Thg.tup D.at_)
 have wl:wd.length<=sizeLine:=by rcases D.hw with e | e <;> rw[e] <;> decide
 obtain⟨t',ty',t1,_⟩:=oH (K:=K) (H:=H) (.str wl)
 refine⟨_,(ac (am (uF (mU K "tuple" B (p2 (pv 0) (w8 B))) (uF (iW gi (bh K B (p1 (pv 0))) ab (au _)) (yZ (mU K "str" B (p2 (px K hr (pv 0) ab) (qU B)))))))),?_⟩
 have eT:isT H (.ref x)=true:=by show (match H x with | some (.tup _)=>true | _=>false)=true;rw[D.at_]
 rw[eT] at t5
 refine⟨_,rfl,_,t,_,rfl,ty,t5,_,rfl,oR ⟨_,rfl,_,_,rfl,Or.inr ⟨_,.of D.at_,rfl⟩,_,_,rfl,rfl,_,rfl,ap (fun _=>?_) fun h=>absurd rfl h⟩⟩
 exact⟨_,rfl,.tup (.of D.at_) at0 ⟨_,t',_,rfl,ty',t1,k H (Same.refl H)⟩⟩
theorem zI (F:Fun K "is_many" "is_many" qh f fd) (B:Blt mg) (chas_word:Cal P w K mg base 1 "has_word" ["thing"] (spD true)):FnOk P w K mg base CX0 2 f fd ["thing"] (spD false):=by
 refine F.ok1 ["thing"] fun nd H Q E hr h=>?_
 obtain⟨x,wd,u,v,rfl,D,k⟩:=h
 refine⟨_,(aa (aI (PW.pt (gf (fQ (fe (pc chas_word hr (p1 (pv 0))))) (gf (ag (cE hr.units) (px K hr (pv 0) ab) aA (au _)) (gH (ag (cE hr.units) (bh K B (p1 (pv 0))) ab (au _)))))) (ac (am mO)) av)
  (ac aN)),?_⟩
 have hn:wd≠"many":=by rcases D.hw with e | e <;> rw[e] <;> decide
 refine⟨_,rfl,x,wd,u,v,rfl,D,fun H1 s1=>⟨_,rfl,dH ?_⟩⟩
 refine⟨_,rfl,.tup (.of (D.same s1).at_) at0 (.sc rfl ⟨_,rfl,?_⟩)⟩
 refine ap (fun _=>oR (k H1 s1)) fun h=>absurd ?_ h
 show (!decide (V.str wd=V.str "many"))=true
 rw[Ay fun e=>hn (V.str.inj e)];rfl
def uD:Sp:=fun vs H Q _=>∃z:Str,vs=[.str "name",.str z]/\Nm z/\∀H',Same H H'->Q (.bl true) H'
theorem xo (F:Fun K "is_part" "is_part" pP f fd) (B:Blt mg) (cis_name:Cal P w K mg base 1 "is_name" ["thing"] yt):FnOk P w K mg base CX0 4 f fd ["sort","part"] uD:=by
 refine F.ok1 ["sort","part"] fun nd H Q E hr h=>?_
 obtain⟨z,rfl,hz,k⟩:=h
 refine⟨_,(aa (aI (ag (br hr.units) (pv 0) aA (au _)) (ac aN) av)
  (aa (aI (ag (br hr.units) (pv 0) aA (au _)) (ac aN) av)
  (aa (aI (PW.pt (cx (ag (br hr.units) (pv 0) aA (au _)) (cx (fe (mU K "str" B (p2 (pv 1) (qU B)))) (bY (ag (br hr.units) (pv 1) aA (au _)))))) (ac aN) av)
  (ac (am (pc cis_name hr (p1 (pv 1)))))))),?_⟩
 refine⟨_,rfl,.sc rfl ⟨_,rfl,ap (fun h=>absurd h (by decide)) fun _=>?_⟩⟩
 refine⟨_,rfl,.sc rfl ⟨_,rfl,ap (fun h=>absurd h (by decide)) fun _=>?_⟩⟩
 refine⟨_,rfl,.sc rfl ⟨_,rfl,ap (fun h=>absurd h (by decide)) fun _=>?_⟩⟩
 exact dH ⟨_,rfl,z,rfl,hz,k⟩
theorem nZ:cL (x::xs) (some 1) none=xs:=by
 exact iG (x::xs) 1
theorem om:¬ (HT.sIx (x::xs).length 0 (some 1)=0/\HT.sIx (x::xs).length (x::xs).length none=(x::xs).length):=fun h=>by
 have h:=h.1
 have e:HT.sIx (x::xs).length 0 (some ((1:Nat):Int))=min 1 (x::xs).length:=HT.sIx_nat _ _ _
 have h:HT.sIx (x::xs).length 0 (some ((1:Nat):Int))=0:=h
 rw[e,Aw] at h
 omega
theorem xy (F:Fun K "is_single" "is_single" iA f fd) (B:Blt mg) (Zz:mg "zip"=none) (TP:mg "PARTS"=some (.ref D0)) (KP:KD P w K D0 vs) (VP:∀wd:Str, wd="tie" ∨ wd="wait" -> ∃b, valueAt vs (.inr wd)=some (.ref b) /\ ∀H, SqT K H b [.str "name", .str "name"])
    (chas_word:Cal P w K mg base 1 "has_word" ["thing"] (spD true)) (cis_part:Cal P w K mg base 4 "is_part" ["sort","part"] uD):FnOk P w K mg base CX0 5 f fd ["thing"] (spD true):=by
 refine F.ok1 ["thing","sorts"] fun nd H Q E hr h=>?_
 obtain⟨a,wd,u,v,rfl,D,k⟩:=h
 obtain⟨b,hv,hS⟩:=VP wd D.hw
 refine⟨_,(aa (aI (PW.pt (gf (fQ (fe (pc chas_word hr (p1 (pv 0))))) (gH (ag (qS KP) (px K hr (pv 0) ab) (fM (v:=.ref D0) rfl TP rfl) (by with_unfolding_all rfl))))) (ac aN) av)
  (aa (pst 1 nd (qO (wQ KP) (fM (v:=.ref D0) rfl TP rfl) (px K hr (pv 0) ab) (fun _ _=>rfl)))
  (aa (aI (ag (cE hr.units) (bh K B (p1 (pv 0))) (aG aK (bh K B (p1 (pv 1))) ab) (au _)) (ac aN) av)
  (ac (am (wT rfl B (p1 (bj (aD iA) ["thing","sorts"] ["sort","part"] [] ["sort","part"] rfl (sw K rfl Zz (p2 (pv 1) (bO (lh K) (pv 0) (bQ ab) cJ))) (fun _ _ _ _ _=>(bI (n:=2) K rfl (aF (ai (i:=0) (show (["sort","part"]:List Str).Nodup by decide) rfl (Or.inl rfl)) (aF (ai (i:=1) (show (["sort","part"]:List Str).Nodup by decide) rfl (Or.inl rfl)) bz)))) (fun _ _ _ _ _=>cP) (fun _ _ _ _ _=>(pc cis_part hr (p2 (pv 0) (pv 1)))))))))))),?_⟩
 refine⟨_,rfl,a,wd,u,v,rfl,D,fun H1 s1=>⟨_,rfl,dH ?_⟩⟩
 have e:=(D.same s1).at_
 refine⟨_,rfl,.tup (.of e) at0 ⟨.inr wd,rfl,rfl,_,rfl,?_⟩⟩
 rw[hv]
 refine dH ⟨_,rfl,.tup (.of e) at0 ⟨.inr wd,.ref b,.ref b,rfl,rfl,hv,rfl,?_⟩⟩
 refine⟨_,rfl,_,_,rfl,Or.inr ⟨_,.of e,rfl⟩,_,rfl,_,_,rfl,Or.inr ⟨_,hS H1,rfl⟩,.int (.sc rfl ⟨_,rfl,ap (fun h=>absurd h (by show ¬ (!decide (V.int 3=V.int 3))=true;decide)) fun _=>?_⟩)⟩
 refine⟨_,rfl,_,rfl,_,rfl,a,_,rfl,.of e,om,fun pp hpp=>?_⟩
 rw[nZ]
 refine nw hpp fun H0 s0 e1=>?_
 have s0:=s1.trans s0
 refine⟨b,pp,_,_,rfl,hS H0,.of e1,?_⟩
 refine se [.str "name",.str "name"] [.str u,.str v] (fun D i acc σ' H'=>∃o1 o2,σ'=[o1,o2]/\acc=List.map V.bl (List.replicate i true)/\Same H0 H'/\H0 D=none) fun D' hD=>⟨?_,?_,?_,?_⟩
 ·exact⟨none,none,rfl,rfl,Same.new hD,hD⟩
 ·rintro i acc σ' H' _ ⟨o1,o2,rfl,_,sm,_⟩ _
  exact⟨hS H',.of (sm _ _ e1)⟩
 ·rintro i acc σ' H' x y p hx ⟨o1,o2,rfl,rfl,sm,hD0⟩ hacc hp0
  have il:i<2:=(Ac.mp hx).1
  obtain⟨z,ez,hz⟩:∃z,(x,y)=(V.str "name",V.str z)/\Nm z:=by
   have m:=Ad hx
   simp only[List.zip_cons_cons,List.zip_nil_right,AA,List.not_mem_nil,or_false] at m
   rcases m with m | m
   ·exact⟨u,m,D.nu⟩
   ·exact⟨v,m,D.nv⟩
  cases ez
  have s3:=Same.new (o:=.tup [V.str "name",V.str z]) hp0
  refine wE rfl (.of ae) ⟨_,rfl,_,rfl,z,rfl,hz,fun H2 s2=>?_⟩
  exact⟨s2 _ _ (s3 _ _ hacc),by rw[z0,List.length_replicate];exact aj (by omega),_,_,rfl,oJ,nF ((sm.trans s3).trans s2) hD0,hD0⟩
 ·rintro acc σ' H2 ⟨o1,o2,rfl,rfl,s2,hD0⟩ hacc
  refine⟨D',_,rfl,hacc,?_⟩
  rw[kW]
  exact k H2 (s0.trans s2)
def yU:Sp:=fun vs H Q _=>∃t wd u v,vs=[.ref t,.int 2]/\Dd H t wd u v/\∀H',Same H H'->Q (.bl true) H'
theorem zX (F:Fun K "is_deed_within" "is_deed_within" ip f fd) (B:Blt mg) (cis_many:Cal P w K mg base 2 "is_many" ["thing"] (spD false)) (cis_single:Cal P w K mg base 5 "is_single" ["thing"] (spD true)):FnOk P w K mg base CX0 8 f fd ["thing","many"] yU:=by
 refine F.ok1 ["thing","many"] fun nd H Q E hr h=>?_
 obtain⟨a,wd,u,v,rfl,D,k⟩:=h
 have h5:5<=7:=by decide
 have h2:2<=7:=by decide
 refine⟨_,(aa (aI (fQ (fe (m8 cis_many (hr.mono h2) rfl (p1 (pv 0))))) (ac (am (m8 cis_single (hr.mono h5) rfl (p1 (pv 0))))) av)
  (ac aN)),?_⟩
 exact⟨_,rfl,a,wd,u,v,rfl,D,fun H1 s1=>⟨_,rfl,oR ⟨_,rfl,a,wd,u,v,rfl,D.same s1,fun H2 s2=>k H2 (s1.trans s2)⟩⟩⟩
theorem wZ (F:Fun K "is_deed" "is_deed" qF f fd) (B:Blt mg) (TM:mg "MOST_MANY"=some (.int 2 tk)) (cis_deed_within:Cal P w K mg base 8 "is_deed_within" ["thing","many"] yU):FnOk P w K mg base CX0 9 f fd ["thing"] (spD true):=by
 refine F.ok1 ["thing"] fun nd H Q E hr h=>?_
 obtain⟨a,wd,u,v,rfl,D,k⟩:=h
 refine⟨_,(ac (am (pc cis_deed_within hr (p2 (pv 0) (fM (v:=.int 2) rfl TM ⟨_,rfl⟩))))),?_⟩
 exact⟨_,rfl,a,wd,u,v,rfl,D,k⟩
abbrev letters:Str:="abcdefghijklmnopqrstuvwxyz"
theorem ao (h:k [] H):rS σ H k:=h
theorem dZ (h:k (σ.set i (some v)) H):aQ i v σ H k:=h
theorem gQ (Inv:St->Hp->Prop) (fin:∀σ' H',Inv σ' H'->r D σ' H') (main:∀N:St->Hp->Prop,(∀σ' H',Inv σ' H'->N σ' H')->s { D with nx:=N } σ H):yn s r D σ H:=main _ fin
theorem tT {xs:List V}{m:Nat}{r:Int}(hl:xs.length=m) (h0:0<=r) (h1:r<m):∃x,atI xs r=some x/\x∈xs:=by
 obtain⟨j,rfl⟩:=AX h0
 have hj:j<xs.length:=by omega
 exact⟨xs[j],bJ (Ar hj),BL hj⟩
def nmF (z:Str) (sp:Nat) (st r:Int) (i:Nat):Str:=Txt.slice z none (some (sp:Int))++⟨#[97+((st+7 * (0+(i:Int))) % 26).toNat]⟩++Txt.slice z (some (sp:Int)) none++(if i % 2=0 then ("":Str) else ⟨#[97+r.toNat]⟩)
theorem mid4 {x y w w':Str}{c d:Nat}(h:(x++⟨#[c]⟩++y++w:Str)=x++⟨#[d]⟩++y++w'):c=d:=by
 have h:(x.cps++#[c]++y.cps++w.cps).toList=(x.cps++#[d]++y.cps++w'.cps).toList:=congrArg (fun s:Str=>s.cps.toList) h
 simp only[Array.toList_append,By,List.append_cancel_left_eq] at h
 have h:c::(y.cps.toList++w.cps.toList)=d::(y.cps.toList++w'.cps.toList):=by simpa using h
 exact(List.cons.inj h).1
theorem yo {z:Str}{sp:Nat}{st r:Int}{m:Nat}(hm:m<=26):((List.range m).map (nmF z sp st r)).Nodup:=oF _ m fun i j hij hj e=>by
 have:=mid4 e
 omega
theorem ja {z:Str}{j:Nat}(h:j<=z.length):(Txt.slice z (some (j:Int)) none).length<=z.length-j:=by
 have e:Txt.slice z (some (j:Int)) none=StrLaws.sliceText z (some (j:Int)) none:=rfl
 rw[e,StrLaws.sliceText_from ⟨by omega,by simp[Str.length] at h ⊢;omega⟩]
 show (List.take _ _).toArray.size<=_
 rw[Au]
 simp[Str.length]
theorem yT {z:Str}{sp:Nat}{st r:Int}{i:Nat}(hj:Lo z) (hz:z.length <= 6) (hs:sp <= z.length) (h0:0 <= r) (h1:r<26):Nm (nmF z sp st r i) := by
 have q0:=Bc (st+7 * (0+(i:Int))) (show (26:Int)≠0 by decide)
 have q1:=Bx (st+7 * (0+(i:Int))) (show (0:Int)<26 by decide)
 have l1:=oa hs
 have l2:=ja hs
 have le:∀c:Nat,(⟨#[c]⟩:Str).length=1:=fun _=>rfl
 unfold nmF
 refine Lo.nm (((Lo.app (Lo.app (hj.slice _ _) (Lo.one (by omega))) (hj.slice _ _))).app ?_) ?_ ?_
 ·split
  ·exact Lo.nil
  ·exact Lo.one (by omega)
 ·rw[dC,dC,dC,le];omega
 ·rw[dC,dC,dC,le,l1]
  have:(if i % 2=0 then ("":Str) else ⟨#[97+r.toNat]⟩).length<=1:=by
   split
   ·decide +kernel
   ·exact Aa _
  omega
def p9 (K:W.Frag):Sp:=fun vs H Q _=>∃(p a:_) (m:Nat),vs=[.ref p,.int (m:Int)]/\DPen K H p a/\m<=13 /\
 ∀l ss H',ss.length=m->ss.Nodup->(∀s∈ss,Nm s)->H' l=some (.lst (List.map V.str ss))->H l=none->l≠p->DPV H' p a->But p H H'->Q (.ref l) H'
theorem vk (F:Fun K "_law_names" "_law_names" nH f fd) (B:Blt mg) (c_law_draw:Cal P w K mg base 1 "_law_draw" ["_law_pen_here", "_law_many"] (iY K)):FnOk P w K mg base CX0 2 f fd ["_law_pen_here", "_law_many"] (p9 K) := by
 refine F.ok1 ["_law_pen_here","_law_many","_law_letters","_law_base","_law_spot","_law_start","_law_more","_law_found","_law_k","_law_letter"] fun nd H Q E hr h=>?_
 obtain⟨p,a,m,rfl,hP,hm,k⟩:=h
 have v0:=hP.2
 have lL:letters.length<=sizeLine:=by decide +kernel
 refine⟨_,(aa (bV (i:=2) nd rfl (Or.inr rfl) aA)
  (aa (pst 3 nd (yQ K aA (p1 (bj (aD nH) ["_law_pen_here","_law_many","_law_letters","_law_base","_law_spot","_law_start","_law_more","_law_found","_law_k","_law_letter"] ["_law_k"] [2,0] ["_law_k","_law_letters","_law_pen_here"] rfl (dq rfl B.range (p1 (pc c_law_draw hr (p2 (pv 0) ab)))) (fun _ _ _ _ _=>(ai (i:=0) (show (["_law_k","_law_letters","_law_pen_here"]:List Str).Nodup by decide) rfl (Or.inl rfl))) (fun _ _ _ _ _=>cP) (fun _ _ _ _ _=>(px K hr (pv 1) (pc c_law_draw hr (p2 (pv 2) ab))))))))
  (aa (aI (ag (br hr.units) (pc c_law_draw hr (p2 (pv 0) ab)) ab (au _)) (ac (pst 3 nd (px K hr (aS (ak aA (ak aA (ak aA (p2 aA aA iy iy) iy) iy) iy)) (pc c_law_draw hr (p2 (pv 0) ab))))) av)
  (aa (pst 4 nd (pc c_law_draw hr (p2 (pv 0) (aG aK (bh K B (p1 (pv 3))) ab))))
  (aa (pst 5 nd (pc c_law_draw hr (p2 (pv 0) ab)))
  (aa (pst 6 nd (aS (p2 aA (px K hr (pv 2) (pc c_law_draw hr (p2 (pv 0) ab))))))
  (aa (pst 7 nd (aS bT))
  (aa (aZ PassesOwn.never rfl (dq rfl B.range (p1 (pv 1))) (ai (i:=8) nd rfl (Or.inl rfl)) (aa (pst 9 nd (px K hr (pv 2) (aG eM (aG aK (pv 5) (aG gO ab (pv 8))) ab)))
  (ac (bm (cq K (pv 7) (p1 (aG aK (aG aK (aG aK (bO (iP K) (pv 3) cJ (bQ (pv 4))) (pv 9)) (bO (iP K) (pv 3) (bQ (pv 4)) cJ)) (px K hr (pv 6) (aG eM (pv 8) ab)))))))))
  (ac (am (pv 7))))))))))),?_⟩
 refine⟨rfl,_,rfl,p,a,7,rfl,hP,by decide,by decide,fun r1 H1 r10 r11 v1 b1=>?_⟩
 obtain⟨n1,rfl⟩:=AX r10
 refine⟨_,rfl,by omega,by omega,?_⟩
 refine hG (fun D i acc σ' H'=>∃o ys,σ'=[o,some (.str letters),some (.ref p)]/\acc=List.map V.str ys/\ys.length=i/\(∀y∈ys,y.length=1/\Lo y)/\DPV H' p a/\But p H1 H'/\H1 D=none/\p≠D) fun D hD=>⟨?_,?_,?_⟩
 ·have hDp:=v1.ne hD
  exact⟨none,[],rfl,rfl,rfl,(fun y hy=>by cases hy),v1.upd hDp,(But.refl p H1).at hD,hD,hDp⟩
 ·rintro i acc σ' H' hi ⟨o, ys, rfl, rfl, hl, hys, v, b, hD0, hDp⟩ hacc
  refine iL ?_
  refine⟨_,rfl,_,rfl,p,a,26,rfl,hP.but (b1.trans b) v,by decide,by decide,fun r5 H5 h50 h51 v5 b5=>?_⟩
  refine .str lL (nO h50 h51) ⟨b5 _ _ (Ne.symm hDp) hacc,?_,_,ys++[abc r5],rfl,by simp[abc],by simp[hl],?_,v5.upd hDp,(b.trans b5).at hD0,hD0,hDp⟩
  ·rw[z0,hl];exact aj (by simp at hi;omega)
  ·intro y hy
   rcases Aj.mp hy with hy | hy
   ·exact hys y hy
   ·have:y=abc r5:=by simpa using hy
    subst this
    exact⟨rfl,zp h50 h51⟩
 ·rintro acc σ' H5 ⟨o, ys, rfl, rfl, hl, hys, v5, b5, hD0, hDp⟩ hacc
  have hj:Lo (Txt.join "" ys):=Lo.join Lo.nil fun y hy=>(hys y hy).2
  have yl:ys.length<=6:=by simp at hl;omega
  have hz8:(Txt.join "" ys).length<=6:=by rw[uM fun y hy=>(hys y hy).1];exact yl
  have e0:("":Str).length=0:=by decide +kernel
  have hsum:=zo (n:=1) fun y hy=>Nat.le_of_eq (hys y hy).1
  have s1000:1000<=sizeLine:=by decide
  refine⟨_,D,ys,rfl,rfl,hacc,by rw[e0];omega,?_⟩
  have b5:=b1.trans b5
  generalize Txt.join "" ys=z at hj hz8 ⊢
  clear hacc hys hl hsum yl hD0 hDp b1 v1
  refine dZ ?_
  dsimp only
  refine gQ (fun σ' H'=>∃z,σ'=[some (.ref p),some (.int (m:Int)),some (.str letters),some (.str z),none,none,none,none,none,none]/\Lo z/\z.length<=6/\DPV H' p a/\But p H H') ?_ ?_
  ·clear hj hz8 z v5 b5
   rintro σ' H6 ⟨z,rfl,hj,hz,v6,b6⟩
   have zl:z.length<=sizeLine:=by omega
   refine⟨_,rfl,_,rfl,_,_,rfl,⟨zl,rfl⟩,.int ⟨p,a,_,rfl,hP.but b6 v6,by omega,by omega,fun r7 H7 h70 h71 v7 b7=>?_⟩⟩
   have b7:=b6.trans b7
   refine⟨_,rfl,p,a,26,rfl,hP.but b7 v7,by decide,by decide,fun r8 H8 h80 h81 v8 b8=>?_⟩
   have b8:=b7.trans b8
   refine⟨_,rfl,_,rfl,p,a,26,rfl,hP.but b8 v8,by decide,by decide,fun r9 H9 h90 h91 v9 b9=>?_⟩
   have b9:=b8.trans b9
   refine .str lL (nO h90 h91) (ao ⟨(szl 2),fun lm hlm=>?_⟩)
   have nlm:p≠lm:=v9.ne hlm
   refine nw hlm fun H10 s10 e10=>?_
   have v10:=v9.same s10
   have b10:=b9.trans (But.of_same (p:=p) s10)
   refine⟨(szl 0),fun fl hfl=>?_⟩
   have hpf:=v10.ne hfl
   have hf0:=b10.free (Ne.symm hpf) hfl
   have nfl:lm≠fl:=ah e10 hfl
   obtain⟨sp,rfl⟩:=AX h70
   have spz:sp<=z.length:=by omega
   refine⟨_,rfl,_,rfl,by omega,by omega,?_⟩
   refine gh (fun i σ H'=>∃o8 o9,σ=[some (.ref p),some (.int (m:Int)),some (.str letters),some (.str z),some (.int (sp:Int)),some (.int r8),some (.ref lm),some (.ref fl),o8,o9]/\H' fl=some (.lst (List.map V.str ((List.range i).map (nmF z sp r8 r9))))/\H' lm=some (.lst [V.str "",V.str ⟨#[97+r9.toNat]⟩])/\DPV H' p a/\But p H H')
    ⟨none,none,rfl,ae,by rw[af nfl];exact e10,v10.upd hpf,b10.at hf0⟩ ?_ ?_
   ·rintro i σ H11 hi ⟨o8,o9,rfl,hf,hlm',v11,b11⟩
    have hi:i<m:=by simpa using hi
    refine⟨_,rfl,_,rfl,_,rfl,_,_,rfl,rfl,.inl ⟨by decide,by decide⟩,.int ⟨_,_,rfl,rfl,(by show (0:Int)<_;decide),?_⟩⟩
    have q0:=Bc (r8+7 * (0+(i:Nat):Int)) (show (26:Int)≠0 by decide)
    have q1:=Bx (r8+7 * (0+(i:Nat):Int)) (show (0:Int)<26 by decide)
    refine .str lL (nO q0 q1) ?_
    refine⟨_,rfl,.inl ⟨rfl,_,.of hf⟩,?_⟩
    have l1:=oa spz
    have l2:=ja spz
    have le:∀c:Nat,(⟨#[c]⟩:Str).length=1:=fun _=>rfl
    have hx:atI [V.str "",V.str ⟨#[97+r9.toNat]⟩] ((0+(i:Int)) % 2)=some (.str (if i % 2=0 then ("":Str) else ⟨#[97+r9.toNat]⟩)):=by
     by_cases q:i % 2=0
     ·rw[if_pos q,show (0+(i:Int)) % 2=((0:Nat):Int) by omega];exact bJ rfl
     ·rw[if_neg q,show (0+(i:Int)) % 2=((1:Nat):Int) by omega];exact bJ rfl
    have l3:(if i % 2=0 then ("":Str) else ⟨#[97+r9.toNat]⟩).length<=1:=by
     split
     ·decide +kernel
     ·exact Aa _
    refine⟨_,rfl,_,rfl,_,rfl,.str zl ⟨_,rfl,.str (by rw[le,l1];omega) ⟨_,rfl,_,rfl,_,rfl,.str zl (.str (by rw[dC,le,l1];omega) ⟨_,rfl,_,rfl,_,_,rfl,rfl,(by show (0:Int)<_;decide),.lst (.of hlm') hx (.str (by rw[dC,dC,le,l1];omega) (ao ⟨fl,_,_,rfl,rfl,hf,?_,?_⟩))⟩)⟩⟩⟩
    ·rw[z0,z0,BO];exact aj (by omega)
    ·refine⟨_,_,rfl,?_,by rw[af nfl];exact hlm',v11.upd hpf,b11.at hf0⟩
     rw[ae,rL,Ae];rfl
   ·rintro σ H11 ⟨o8,o9,rfl,hf,_,v11,b11⟩
    exact⟨_,rfl,k fl _ H11 (by rw[z0,BO];omega) (yo (by omega)) (fun s hs=>by
     obtain⟨j,_,rfl⟩:=Ag.mp hs
     exact yT hj hz spz h90 h91) hf hf0 (Ne.symm hpf) v11 b11⟩
  ·intro N hN
   refine⟨_,rfl,p,a,5,rfl,hP.but b5 v5,by decide,by decide,fun r6 H6 _ _ v6 b6=>.sc rfl ⟨_,rfl,ap (fun _=>?_) (fun _=>?_)⟩⟩
   ·refine⟨(szl 5),fun lz hlz=>?_⟩
    have nlz:lz≠p:=Ne.symm (v6.ne hlz)
    have s7:=Same.new (o:=.lst (List.map V.str ["tie","top","first","wait","group"])) hlz
    have e7:upd H6 lz (.lst (List.map V.str ["tie","top","first","wait","group"])) lz=some (.lst (List.map V.str ["tie","top","first","wait","group"])):=ae
    have b7:=(b5.trans b6).trans (But.of_same (p:=p) s7)
    refine⟨_,rfl,p,a,5,rfl,hP.but b7 (v6.same s7),by decide,by decide,fun r H8 r0 r1 v8 b8=>?_⟩
    obtain⟨x,hx,mx⟩:=tT (xs:=List.map V.str ["tie","top","first","wait","group"]) (m:=5) rfl r0 r1
    obtain⟨y,hy,rfl⟩:=Ag.mp mx
    refine .lst (.of (b8 _ _ nlz e7)) hx (hN _ _ ⟨y,rfl,?_,?_,v8,b7.trans b8⟩)
    ·have:∀y∈(["tie","top","first","wait","group"]:List Str),∀c∈y.cps.toList,97<=c/\c<=122:=by decide +kernel
     exact this y hy
    ·have:∀y∈(["tie","top","first","wait","group"]:List Str),y.length<=6:=by decide +kernel
     exact this y hy
   ·exact hN _ _ ⟨z,rfl,hj,hz8,v6,b5.trans b6⟩
theorem zH {A B:St->Hp->Prop}(hx:x=.ref q) (hq:SqL K H q [u,v]) (h:A ((σ.set 0 (some u)).set 1 (some v)) H) :
    zd K 2 (j3 (aQ 0) (j3 (aQ 1) u8)) x σ H fun σ2 H3=>qX σ2 H3 fun b H4=>if b=true then A σ2 H4 else B σ2 H4:=by
 subst hx
 refine⟨q,_,rfl,hq,rfl,_,_,rfl,_,_,rfl,rfl,?_⟩
 show (if true=true then A ((σ.set 0 (some u)).set 1 (some v)) H else B ((σ.set 0 (some u)).set 1 (some v)) H)
 rw[if_pos rfl]
 exact h
theorem og {H:Hp}{D:Addr}{xs ys:List V}{ks:Kn}{acc:List V}(hD:H D=some (.lst xs)) (rp:RepAll H acc (ks.map bN)):RepAll (upd H D (.lst ys)) acc (ks.map bN) :=
 aO (fun h=>df hD But.upd h) rp
def pS (K:W.Frag):Sp:=fun vs H Q _=>∃(p a n:_) (us:List Str),vs=[.ref p,.ref n]/\DPen K H p a/\H n=some (.lst (List.map V.str us))/\us.Nodup/\(∀u∈us,Nm u)/\us.length<=60 /\
 ∀q ks H',Rep H' (.ref q) (cv ks)->Tre us ks->ks.head?.map (·.1)=some ("":Str)->DPV H' p a->But p H H'->Q (.ref q) H'
theorem vM (F:Fun K "_law_knots" "_law_knots" iQ f fd) (B:Blt mg) (c_law_draw:Cal P w K mg base 1 "_law_draw" ["_law_pen_here", "_law_many"] (iY K)):FnOk P w K mg base CX0 2 f fd ["_law_pen_here", "_law_names_here"] (pS K) := by
 refine F.ok1 ["_law_pen_here","_law_names_here","_law_knots_here","_law_deep","_law_name","_law_where"] fun nd H Q E hr h=>?_
 obtain⟨p,a,n,us,rfl,hP,hn,und,unm,ulen,k⟩:=h
 have v0:=hP.2
 obtain⟨ys0,hp0⟩:=v0.at_dK
 have hnp:n≠p:=ba hn hp0 (by intro z;cases z)
 refine⟨_,(aa (pst 2 nd (aS (p1 (aS (p2 aA (aS bT))))))
  (aa (pst 3 nd (qd (gW aA ab pR) rfl rfl (by simp) (by decide)))
  (aa (aZ PassesOwn.never rfl (be K (pv 1)) (ai (i:=4) nd rfl (Or.inl rfl)) (aa (pst 5 nd (px K hr (pv 2) (pc c_law_draw hr (p2 (pv 0) (bh K B (p1 (pv 2)))))))
  (aa (bm (ig K (px K hr (pv 5) ab) (p2 (pc c_law_draw hr (p2 (pv 0) (aG aK (bh K B (p1 (px K hr (pv 5) ab))) ab))) (pv 4))))
  (ac (aI (PW.pt (cx (ag (br hr.units) (pc c_law_draw hr (p2 (pv 0) ab)) ab (au _)) (bY (ag fg (px K hr (pv 3) (px K hr (pv 5) ab)) ab (au _))))) (aa (bm (cq K (pv 2) (p1 (aS (p2 (pv 4) (aS bT))))))
  (ac (bU (aG aK (px K hr (pv 3) (px K hr (pv 5) ab)) ab) (cO (pv 3) (pv 4) (du hr.units))))) av)))))
  (ac (am (cm K B (p1 (bj (aD iQ) ["_law_pen_here","_law_names_here","_law_knots_here","_law_deep","_law_name","_law_where"] ["_law_name","_law_inside"] [] ["_law_name","_law_inside"] rfl (be K (pv 2)) (fun _ _ _ _ _=>(xF (n:=2) K rfl (aF (ai (i:=0) (show (["_law_name","_law_inside"]:List Str).Nodup by decide) rfl (Or.inl rfl)) (aF (ai (i:=1) (show (["_law_name","_law_inside"]:List Str).Nodup by decide) rfl (Or.inl rfl)) bz)))) (fun _ _ _ _ _=>cP) (fun _ _ _ _ _=>(aB (p2 (pv 0) (cm K B (p1 (pv 1)))))))))))))),?_⟩
 have nn:∀u∈us,u≠"":=fun u hu z=>by have:=(unm u hu).1;rw[z] at this;exact absurd this (by decide)
 refine⟨(szl 0),fun l0 h0=>?_⟩
 have b0:But p H (upd H l0 (.lst [])):=(But.refl p H).at h0
 have e0:upd H l0 (.lst []) l0=some (.lst []):=ae
 have v1:DPV (upd H l0 (.lst [])) p a:=v0.upd (v0.ne h0)
 generalize upd H l0 (.lst [])=H1 at b0 e0 v1 ⊢
 refine ao ⟨(szl 2),fun t0 ht0=>?_⟩
 refine nw ht0 fun H2 s2 et=>?_
 have e0:=s2 _ _ e0
 have v2:=v1.same s2
 have b2:=b0.trans (But.of_same (p:=p) s2)
 refine ao ⟨(szl 1),fun L hL=>?_⟩
 refine nw hL fun H3 s3 eL=>?_
 have nL0:l0≠L:=ah e0 hL
 have nLp:L≠p:=Ne.symm (v2.ne hL)
 have e0:=s3 _ _ e0
 have et:=s3 _ _ et
 have v3:=v2.same s3
 have b3:=b2.trans (But.of_same (p:=p) s3)
 have kls:KLL H3 L [(t0,l0,("",[]))]:=⟨eL,fun q hq=>by rw[Av.mp hq];exact et,fun q hq=>by rw[Av.mp hq];exact e0,by simp,fun q hq=>by rw[Av.mp hq];exact nL0⟩
 intro D hD
 refine⟨ae,[(.inr "",.int 0)],rfl,(by decide),?_⟩
 rw[kR]
 have s4:=Same.new (o:=.dK (eg [] [((.inr "":Key),V.int 0)])) hD
 have eD:upd H3 D (.dK (eg [] [((.inr "":Key),V.int 0)])) D=some (.dK [((.inr "":Key),V.int 0)]):=ae
 have kls:=kls.same s4
 have v4:=v3.same s4
 have b4:=b3.trans (But.of_same (p:=p) s4)
 have nDp:D≠p:=Ne.symm (v3.ne hD)
 have hf:H D=none:=b3.free nDp hD
 generalize upd H3 D (.dK (eg [] [((.inr "":Key),V.int 0)]))=H4 at eD kls v4 b4 ⊢
 have frL:H L=none:=b2.free nLp hL
 refine⟨_,rfl,n,rfl,⟨_,.of (b4 n _ hnp hn)⟩,?_⟩
 refine cS (xs:=List.map V.str us) (fun i σ H'=>∃(o5 o6:Option V) (kl:KL) (lv:List (Key × V)),σ=[some (.ref p),some (.ref n),some (.ref L),some (.ref D),o5,o6]/\KLL H' L kl/\TrN us i (cI kl)/\H' D=some (.dK lv)/\lv.length<=i+1/\kl.length<=i+1/\(∀k∈cI kl,∃m:Int,aw lv (.inr k.1)=some (.int m))/\(∀q∈kl,H q.2.1=none)/\(cI kl).head?.map (·.1)=some ("":Str)/\DPV H' p a/\But p H H') ?_ ?_ ?_ ?_
 ·refine⟨none,none,_,_,rfl,kls,TrN.start,eD,Aa _,Aa _,fun k hk=>?_,fun q hq=>?_,rfl,v4,b4⟩
  ·rw[Av.mp hk]
   exact⟨0,rfl⟩
  ·rw[Av.mp hq];exact h0
 ·rintro i σ H' hi ⟨o5,o6,kl,lv,rfl,_,_,_,_,_,_,_,_,_,b⟩
  exact .of (b n _ hnp hn)
 ·rintro i x σ H5 hx ⟨o5, o6, kl, lv, rfl, kls, tr, hD5, hlv, hkl, lev, frs, hd5, v5, b5⟩
  obtain⟨u,hu,rfl⟩:=bp hx
  have hil:=(Ac.mp hu).1
  have hum:=Ad hu
  obtain⟨ys5,hp5⟩:=v5.at_dK
  have mlk:(kl.map fun q=>V.ref q.1).length=kl.length:=z0 ..
  have kpos:0<kl.length:=by
   have:=List.length_pos_of_mem tr.top
   rw[z0,z0] at this
   exact this
  refine⟨_,rfl,_,rfl,_,rfl,_,_,rfl,Or.inl ⟨_,.of kls.l,rfl⟩,p,a,_,rfl,hP.but b5 v5,by rw[mlk];omega,by rw[mlk];omega,fun r H6 h60 h61 v6 b56=>?_⟩
  have kls:=kls.draw hp5 b56
  have hD6:H6 D=some (.dK lv):=b56 D _ nDp hD5
  have b6:=b5.trans b56
  obtain⟨j,rfl⟩:=AX h60
  rw[mlk] at h61
  obtain⟨⟨ta,la,nm,ch⟩,hj⟩:∃q,kl[j]? = some q:=⟨_,Ar (by omega)⟩
  have hjm:=Ad hj
  have hjk:(cI kl)[j]? = some (nm,ch):=by rw[Al,hj];rfl
  have hta:=kls.t _ hjm
  have hla:=kls.c _ hjm
  have nla:=kls.nl _ hjm
  refine .lst (.of kls.l) (bJ (by rw[Al,hj];rfl)) ?_
  have chl:ch.length<=i:=by
   have h1:=tr.perm.length_eq
   rw[As] at h1
   have h3:ch.length<=(aU (cI kl)).length:=by
    have:=(BX (L:=(cI kl).map (·.2)) (Ag.mpr ⟨(nm,ch),Ad hjk,rfl⟩)).length_le
    rw[<- List.flatMap_def] at this
    exact this
   omega
  have mlc:(List.map V.str ch).length=ch.length:=z0 ..
  obtain⟨ys6,hp6⟩:=v6.at_dK
  have a1:atI [V.str nm,V.ref la] 1=some (.ref la):=bJ (j:=1) rfl
  have a0:atI [V.str nm,V.ref la] 0=some (.str nm):=bJ (j:=0) rfl
  refine⟨_,rfl,.lst (.of hta) a1 ⟨.inl ⟨rfl,_,.of hla⟩,_,rfl,_,rfl,.lst (.of hta) a1 ⟨_,_,rfl,Or.inl ⟨_,.of hla,rfl⟩,.int ⟨p,a,_,rfl,hP.but b6 v6,by rw[mlc];omega,by rw[mlc];omega,fun r2 H7 h70 h71 v7 b67=>?_⟩⟩⟩⟩
  have kls:=kls.draw hp6 b67
  have hD7:H7 D=some (.dK lv):=b67 D _ nDp hD6
  have b7:=b6.trans b67
  have hla:=kls.c _ hjm
  obtain⟨m,rfl⟩:=AX h70
  rw[mlc] at h71
  refine⟨_,rfl,la,_,_,m,_,rfl,rfl,rfl,hla,by rw[mlc];omega,by rw[mlc];exact aj (by omega),?_⟩
  have e8:(List.map V.str ch).take m++V.str u::(List.map V.str ch).drop m=List.map V.str (ch.take m++u::ch.drop m):=by simp[BI,List.map_drop]
  rw[e8]
  have pc:=lW ch m u
  have tr2:=tr.step und hu hjk pc
  have kls:=kls.put (ch':=ch.take m++u::ch.drop m) hj
  have eks:cI (kl.set j (ta,la,(nm,ch.take m++u::ch.drop m)))=(cI kl).set j (nm,ch.take m++u::ch.drop m):=List.map_set ..
  have hta8:=kls.t _ (Ad (show (kl.set j (ta,la,(nm,ch.take m++u::ch.drop m)))[j]? = some (ta,la,(nm,ch.take m++u::ch.drop m)) by rw[BU (by omega)]))
  rw[<- eks] at tr2
  have hD8:upd H7 la (.lst (List.map V.str (ch.take m++u::ch.drop m))) D=some (.dK lv):=by rw[af (ba hD7 hla (by intro z;cases z))];exact hD7
  have npl:p≠la:=by obtain⟨ys7,hp7⟩:=v7.at_dK;exact ba hp7 hla (by intro z;cases z)
  have v8:=v7.upd (o:=.lst (List.map V.str (ch.take m++u::ch.drop m))) npl
  have b8:=b7.at (o:=.lst (List.map V.str (ch.take m++u::ch.drop m))) (frs _ hjm)
  generalize upd H7 la (.lst (List.map V.str (ch.take m++u::ch.drop m)))=H8 at kls hD8 v8 b8 hta8 ⊢
  have e1:((kl.set j (ta,la,(nm,ch.take m++u::ch.drop m))).map fun q=>q.2.1)=kl.map fun q=>q.2.1:=fV hj rfl
  have en:((cI (kl.set j (ta,la,(nm,ch.take m++u::ch.drop m)))).map fun k=>k.1)=(cI kl).map fun k=>k.1:=by rw[eks];exact fV hjk rfl
  have hd8:(cI (kl.set j (ta,la,(nm,ch.take m++u::ch.drop m)))).head?.map (·.1)=some ("":Str):=by
   rw[<- List.head?_map,en,List.head?_map];exact hd5
  have frs2:∀q∈kl.set j (ta,la,(nm,ch.take m++u::ch.drop m)),H q.2.1=none:=fun q hq=>by
   have:q.2.1∈kl.map fun q=>q.2.1:=by rw[<- e1];exact Ag.mpr ⟨q,hq,rfl⟩
   obtain⟨q',hq',e⟩:=Ag.mp this
   rw[<- e];exact frs q' hq'
  have lev2:∀k∈cI (kl.set j (ta,la,(nm,ch.take m++u::ch.drop m))),∃m:Int,aw lv (.inr k.1)=some (.int m):=fun k hk=>by
   have:k.1∈(cI kl).map fun k=>k.1:=by rw[<- en];exact Ag.mpr ⟨k,hk,rfl⟩
   obtain⟨k',hk',e⟩:=Ag.mp this
   rw[<- e];exact lev k' hk'
  have hnew:u∉(cI (kl.set j (ta,la,(nm,ch.take m++u::ch.drop m)))).map (·.1):=fun z=>by
   rw[en] at z
   obtain⟨k',hk',e⟩:=Ag.mp z
   rcases tr.sub k' hk' with q | q
   ·exact nn u hum (e.symm.trans q)
   ·rw[e] at q
    obtain⟨m',hm'⟩:=AE q
    have hml:=(Ac.mp hm').1
    rw[As] at hml
    rw[Br (by omega)] at hm'
    have:=(Bn (by omega) und).mp (hm'.trans hu.symm)
    omega
  have klen2:(kl.set j (ta,la,(nm,ch.take m++u::ch.drop m))).length<=i+1:=by rw[List.length_set];exact hkl
  obtain⟨lm,hlm⟩:=lev (nm,ch) (Ad hjk)
  have a1':atI [V.str nm,V.ref la] 0=some (.str nm):=a0
  clear e8 eks en e1 lev frs hjk hj hjm tr hta hla nla
  generalize kl.set j (ta,la,(nm,ch.take m++u::ch.drop m))=kl2 at kls tr2 frs2 lev2 hnew klen2 hd8
  obtain⟨ys8,hp8⟩:=v8.at_dK
  refine⟨_,rfl,p,a,4,rfl,hP.but b8 v8,by decide,by decide,fun r3 H9 h90 h91 v9 b89=>.sc rfl ⟨_,rfl,?_⟩⟩
  have kls:=kls.draw hp8 b89
  have hD9:H9 D=some (.dK lv):=b89 D _ nDp hD8
  have hta9:H9 ta=some (.lst [.str nm,.ref la]):=b89 _ _ (ba hta8 hp8 (by intro z;cases z)) hta8
  have b9:=b8.trans b89
  have fin:∃(o5 o6:Option V) (kl:KL) (lv:List (Key × V)),[some (V.ref p),some (.ref n),some (.ref L),some (.ref D),some (.str u),some (.ref ta)]=[some (V.ref p),some (.ref n),some (.ref L),some (.ref D),o5,o6]/\KLL H9 L kl/\TrN us (i+1) (cI kl)/\H9 D=some (.dK lv)/\lv.length<=i+1+1/\kl.length<=i+1+1/\(∀k∈cI kl,∃m:Int,aw lv (.inr k.1)=some (.int m))/\(∀q∈kl,H q.2.1=none)/\(cI kl).head?.map (·.1)=some ("":Str)/\DPV H9 p a/\But p H H9 :=
   ⟨_,_,kl2,lv,rfl,kls,tr2,hD9,by omega,by omega,lev2,frs2,hd8,v9,b9⟩
  refine ap (fun _=>?_) (fun _=>dH fin)
  refine⟨_,rfl,_,rfl,.lst (.of hta9) a0 (.dic (.inl ⟨lv,.inr nm,.inl hD9,rfl,hlm.symm⟩) (.int ⟨_,rfl,ap (fun _=>?_) (fun _=>fin)⟩))⟩
  clear fin
  have ml2:(kl2.map fun q=>V.ref q.1).length=kl2.length:=z0 ..
  refine⟨_,rfl,.inl ⟨rfl,_,.of kls.l⟩,?_⟩
  refine⟨_,rfl,(szl 0),fun ln hln=>ao ⟨(szl 2),fun tn htn=>?_⟩⟩
  have s1:=Same.new (o:=.lst []) hln
  have el:upd H9 ln (.lst []) ln=some (.lst []):=ae
  have nlp:ln≠p:=Ne.symm (v9.ne hln)
  have nlL:ln≠L:=Ne.symm (ah kls.l hln)
  have nlk:ln∉kl2.map fun q=>q.2.1:=fun z=>by
   obtain⟨q,hq,e⟩:=Ag.mp z
   have:=kls.c q hq
   rw[e,hln] at this;cases this
  have frl:H ln=none:=b9.free nlp hln
  have kls:=kls.same s1
  have hDC:=s1 _ _ hD9
  have htC:=s1 _ _ hta9
  have vC:=v9.same s1
  have bC:=b9.trans (But.of_same (p:=p) s1)
  generalize upd H9 ln (.lst [])=HC at el kls hDC vC bC htn htC ⊢
  refine nw htn fun HD s2 etn=>?_
  have el:=s2 _ _ el
  have kls:=kls.same s2
  have hDD:=s2 _ _ hDC
  have htD:=s2 _ _ htC
  have vD:=vC.same s2
  have bD:=bC.trans (But.of_same (p:=p) s2)
  refine ao ⟨L,_,_,rfl,rfl,kls.l,by rw[ml2];exact aj (by omega),?_⟩
  have hDE:upd HD L (.lst ((kl2.map fun q=>V.ref q.1)++[V.ref tn])) D=some (.dK lv):=by rw[af (ba hDD kls.l (by intro z;cases z))];exact hDD
  have htE:upd HD L (.lst ((kl2.map fun q=>V.ref q.1)++[V.ref tn])) ta=some (.lst [.str nm,.ref la]):=by rw[af (ba htD kls.l rN)];exact htD
  have vE:=vD.upd (o:=.lst ((kl2.map fun q=>V.ref q.1)++[V.ref tn])) (Ne.symm nLp)
  have bE:=bD.at (o:=.lst ((kl2.map fun q=>V.ref q.1)++[V.ref tn])) frL
  have klsE:=kls.add etn el nlk nlL
  generalize upd HD L (.lst ((kl2.map fun q=>V.ref q.1)++[V.ref tn]))=HE at hDE vE bE klsE htE ⊢
  refine⟨_,rfl,_,rfl,.lst (.of htE) a0 (.dic (.inl ⟨lv,.inr nm,.inl hDE,rfl,hlm.symm⟩) (.int ⟨_,rfl,_,rfl,.dic (DPut.k (k:=.inr u) hDE (aj (by omega))) ?_⟩))⟩
  have levA:∀k:Str,(k=u∨∃m:Int,aw lv (.inr k)=some (.int m))->∃m:Int,aw (bi lv (.inr u) (.int (lm+1))) (.inr k)=some (.int m):=fun k hk=>by
   rw[cH]
   by_cases q:k=u
   ·rw[if_pos (by rw[q])];exact⟨_,rfl⟩
   ·rw[if_neg (fun z=>q (by injection z))]
    exact hk.resolve_left q
  have lvA:=bw lv (.inr u) (V.int (lm+1))
  have eks2:cI (kl2++[(tn,ln,(u,[]))])=cI kl2++[(u,[])]:=Ae
  refine⟨_,_,kl2++[(tn,ln,(u,[]))],_,rfl,klsE.dic hDE,?_,ae,by omega,by rw[Aq];show kl2.length+1<=_;omega,fun k hk=>?_,fun q hq=>?_,?_,vE.upd (Ne.symm nDp),bE.at hf⟩
  ·rw[eks2];exact tr2.addKnot und nn hu hnew
  ·rw[eks2] at hk
   refine levA k.1 ?_
   rcases Aj.mp hk with hk | hk
   ·exact .inr (lev2 k hk)
   ·rw[Av.mp hk];exact .inl rfl
  ·rcases Aj.mp hq with hq | hq
   ·exact frs2 q hq
   ·rw[Av.mp hq];exact frl
  ·rw[eks2]
   cases q:cI kl2 with
   | nil=>rw[q] at hd8;cases hd8
   | cons x r=>rw[q] at hd8;exact hd8
 ·rintro σ H5 ⟨o5, o6, kl, lv, rfl, kls, tr, hD5, hlv, hkl, lev, frs, hd5, v5, b5⟩
  rw[z0] at tr hkl
  have T:=tr.fin und unm ulen
  refine⟨_,rfl,L,rfl,⟨_,.of kls.l⟩,?_⟩
  refine bR (kl.map fun q=>V.ref q.1) (fun DD i acc σ' H'=>∃o1 o2,σ'=[o1,o2]/\RepAll H' acc (((cI kl).take i).map bN)/\Same H5 H'/\H5 DD=none) fun DD hDD=>⟨?_,?_,?_,?_⟩
  ·exact⟨none,none,rfl,.nil,Same.new hDD,hDD⟩
  ·rintro i acc σ' H' _ ⟨o1,o2,rfl,_,sm,_⟩ _
   exact .of (sm _ _ kls.l)
  ·rintro i acc σ' H' x hx ⟨o1,o2,rfl,rp,sm,hDD0⟩ hacc
   obtain⟨⟨ta,la,nm,ch⟩,hq,rfl⟩:∃q:Addr × Addr × (Str × List Str),kl[i]? = some q/\V.ref q.1=x:=by
    rw[Al] at hx
    cases q:kl[i]? with
    | none=>rw[q] at hx;cases hx
    | some e=>rw[q] at hx;exact⟨e,rfl,Af hx⟩
   have hil:=(Ac.mp hq).1
   have hqm:=Ad hq
   have ht:=sm _ _ (kls.t _ hqm)
   have hc:=sm _ _ (kls.c _ hqm)
   have al:=rp.len
   rw[z0,As,z0] at al
   refine zH rfl (.of ht) ?_
   refine⟨_,rfl,_,rfl,la,_,rfl,.of hc,fun lt hlt=>ao ⟨(szl 2),fun tt htt=>?_⟩⟩
   revert htt;refine nw hlt fun H6 s1 e1=>?_;intro htt
   refine nw htt fun H7 s2 e2=>?_
   have e1:=s2 _ _ e1
   have s12:=s1.trans s2
   have hacc7:=s12 _ _ hacc
   have nDD:∀ {b:Addr} {o:HO},H7 b=some o->(∀xs,o≠.lst xs)->b≠DD:=fun h n=>ba h hacc7 (n _)
   refine⟨hacc7,aj (by omega),_,_,rfl,?_,aW (sm.trans s12) hDD0,hDD0⟩
   have hk:(cI kl)[i]? = some (nm,ch):=by rw[Al,hq];rfl
   rw[Am,hk,Ae]
   refine RepAll.append ?_ (.cons (.tup (by rw[af (nDD e2 (fun _ z=>by cases z))];exact e2) (.cons (.str _) (.cons (.tup (by rw[af (nDD e1 (fun _ z=>by cases z))];exact e1) (RepAll.of_strs _)) .nil))) .nil)
   exact og hacc7 (rp.same s12)
  ·rintro acc σ' H6 ⟨o1,o2,rfl,rp,s6,hDD0⟩ hacc
   rw[z0,Ak (by rw[z0];exact Aa _)] at rp
   refine ao ⟨DD,acc,rfl,.of hacc,fun q hq=>?_⟩
   have s7:=Same.new (o:=.tup acc) hq
   exact k q (cI kl) _ (.tup ae (rp.same s7)) T hd5 (v5.same (s6.trans s7)) (b5.trans (But.of_same (s6.trans s7)))
def uB (g:Kn->Str->List Str):Sp:=fun vs H Q _=>∃kt us ks u,vs=[.ref kt,.str u]/\Rep H (.ref kt) (cv ks)/\Tre us ks/\u∈us/\∀l H',Same H H'->H l=none->H' l=some (.lst (List.map V.str (g ks u)))->Q (.ref l) H'
theorem vi (T:Tre us ks) (hx:x∈us):∃r,(ks.filter fun k=>decide (x∈k.2)).map (fun k=>V.str k.1)=V.str (bq ks x)::r:=by
 obtain⟨k,hk,hu⟩:=T.has hx
 have hm:k∈ks.filter fun k=>decide (x∈k.2):=Ap.mpr ⟨hk,Ai hu⟩
 cases q:ks.filter fun k=>decide (x∈k.2) with
 | nil=>rw[q] at hm;cases hm
 | cons k' r =>
  have h':k'∈ks.filter fun k=>decide (x∈k.2):=by rw[q];simp
  obtain⟨h1,h2⟩:=Ap.mp h'
  refine⟨r.map fun k=>V.str k.1,?_⟩
  rw[T.par h1 (Ao h2)];rfl
theorem xD (F:Fun K "_law_line" "_law_line" jb f fd) (B:Blt mg):FnOk P w K mg base CX0 1 f fd ["_law_knots_here", "_law_unit"] (uB fun ks u => tp (lin ks u)) := by
 refine F.ok1 ["_law_knots_here","_law_unit","_law_line_here"] fun nd H Q E hr h=>?_
 obtain⟨kt,us,ks,u,rfl,rk,T,hu,k⟩:=h
 obtain⟨_,refs,e,hkt,krp⟩:=cY rk
 cases e
 have kl:=krp.len
 rw[z0] at kl
 have few:=T.few
 refine⟨_,(aa (bV (i:=2) nd rfl (Or.inr rfl) (aS (p1 (pv 1))))
  (aa (dP PassesOwn.never (ag (cE hr.units) (px K hr (pv 2) ab) aA (au _)) (ac (bm (ig K (pv 2) (p2 ab (px K hr (bj (aD jb) ["_law_knots_here","_law_unit","_law_line_here"] ["_law_name","_law_inside"] [2] ["_law_name","_law_inside","_law_line_here"] rfl (bc K (pv 0)) (fun _ _ _ _ _=>(bI (n:=2) K rfl (aF (ai (i:=0) (show (["_law_name","_law_inside","_law_line_here"]:List Str).Nodup by decide) rfl (Or.inl rfl)) (aF (ai (i:=1) (show (["_law_name","_law_inside","_law_line_here"]:List Str).Nodup by decide) rfl (Or.inl rfl)) bz)))) (fun _ _ _ _ _=>(bv (ag (bL K hr.units) (px K hr (pv 2) ab) (pv 1) (by with_unfolding_all rfl)))) (fun _ _ _ _ _=>(pv 0))) ab))))))
  (ac (am (pv 2))))),?_⟩
 refine⟨_,rfl,(szl 1),fun ll hll=>?_⟩
 have s0:=Same.new (o:=.lst [V.str u]) hll
 refine⟨fun m σ H'=>∃(x:Str) (r:List Str),m=rkU us x/\σ=[some (.ref kt),some (.str u),some (.ref ll)]/\H' ll=some (.lst (List.map V.str (x::r)))/\(x=""∨x∈us)/\tp (lin ks u)=tp (lin ks x)++r/\Same H H',
  ⟨_,u,[],rfl,rfl,ae,.inr hu,(AK _).symm,s0⟩,?_⟩
 rintro m σ H1 ⟨x,r,rfl,rfl,hl1,hx,hlin,s1⟩
 have pl:=T.lin_len u (.inr hu)
 have p60:=T.rk60 hu
 have hlen:=congrArg List.length hlin
 rw[Aq,Aw,Aw] at hlen
 refine⟨_,rfl,.lst (.of hl1) at0 (.sc rfl ⟨_,rfl,?_⟩)⟩
 refine ap (fun h=>?_) (fun h=>?_)
 ·have hne:x ≠ "" := fun z => by rw[z] at h; exact absurd h (by decide)
  have hx:=hx.resolve_left hne
  have hrk:=T.rk hx
  refine⟨fun σ' H'=>∃(y:Str) (r:List Str),rkU us y<rkU us x/\σ'=[some (.ref kt),some (.str u),some (.ref ll)]/\H' ll=some (.lst (List.map V.str (y::r)))/\(y=""∨y∈us)/\tp (lin ks u)=tp (lin ks y)++r/\Same H H',
   fun σ' H' ⟨y,r,h1,h2⟩=>⟨_,h1,y,r,rfl,h2⟩,?_⟩
  have hkt1:=s1 _ _ hkt
  refine⟨_,rfl,.inl ⟨rfl,_,.of hl1⟩,_,rfl,kt,rfl,⟨_,.of hkt1⟩,?_⟩
  refine bX refs (fun D i acc σ' H'=>∃o1 o2,σ'=[o1,o2,some (.ref ll)]/\acc=((ks.take i).filter fun k=>decide (x∈k.2)).map (fun k=>V.str k.1)/\Same H1 H'/\H1 D=none) fun D hD=>⟨?_,?_,?_,?_⟩
  ·exact⟨none,none,rfl,rfl,Same.new hD,hD⟩
  ·rintro i acc σ' H' _ ⟨o1,o2,rfl,_,sm,_⟩ _
   exact .of (sm _ _ hkt1)
  ·rintro i acc σ' H' v hv ⟨o1,o2,rfl,rfl,sm,hD0⟩ hacc
   obtain⟨kn,ta,la,hki,rfl,hta,hla⟩:=eR (krp.same (s1.trans sm)) hv
   have hil:=(Ac.mp hki).1
   have fl:(((ks.take i).filter fun k=>decide (x∈k.2)).map (fun k=>V.str k.1)).length<=61:=by
    rw[z0]
    refine Az (AH ..) ?_
    rw[As];omega
   refine⟨ta,_,rfl,.of hta,rfl,_,_,rfl,_,_,rfl,rfl,?_⟩
   refine⟨_,rfl,.lst (.of (sm _ _ hl1)) at0 ⟨_,rfl,.seq (.inr (.of hla)) rfl (cg _) ⟨_,rfl,?_⟩⟩⟩
   show if inV (V.str x) (List.map V.str kn.2)=true then _ else _
   rw[dU]
   have tk:(ks.take (i+1)).filter (fun k=>decide (x∈k.2))=(ks.take i).filter (fun k=>decide (x∈k.2))++if decide (x∈kn.2)=true then [kn] else []:=by
    rw[Am,hki,AI]
    by_cases q:x∈kn.2 <;> simp[q]
   refine ap (fun h=>?_) (fun h=>?_)
   ·rw[if_pos h] at tk
    exact⟨_,rfl,hacc,aj (by omega),_,_,rfl,by rw[tk,Ae];rfl,aW sm hD0,hD0⟩
   ·rw[if_neg h,AK] at tk
    exact⟨hacc,_,_,rfl,by rw[tk],sm,hD0⟩
  ·rintro acc σ' H2 ⟨o1,o2,rfl,rfl,s2,hD0⟩ hacc
   rw[kl,Ak (Aa _)] at hacc
   obtain⟨rr,er⟩:=vi T hx
   rw[er] at hacc
   refine .lst (.of hacc) at0 (ao ⟨ll,_,_,0,_,rfl,rfl,rfl,s2 _ _ hl1,AC _,by rw[z0,Aw];exact aj (by omega),?_⟩)
   refine⟨bq ks x,x::r,hrk,rfl,ae,(T.par_in hx).1,?_,aW (s1.trans s2) hll⟩
   rw[hlin,T.lin hx]
   show ("":Str)::(_++_)++_=("":Str)::_++_
   simp
 ·have hz:x="":=Classical.byContradiction fun z=>h (by rw[if_pos rfl,Ay (fun q=>z (V.str.inj q))];rfl)
  subst hz
  refine⟨_,rfl,k ll _ s1 hll ?_⟩
  show H1 ll=some (.lst (List.map V.str (tp (lin ks u))))
  rw[hlin];exact hl1
theorem iF {ss:List Str}{i:Nat}(h:i<ss.length):atI (List.map V.str ss) (i:Int)=some (.str (ss.getD i "")):=bJ (by simp[h,AG])
def dY:Sp:=fun vs H Q _=>∃kt us ks u v,vs=[.ref kt,.str u,.str v]/\Rep H (.ref kt) (cv ks)/\Tre us ks/\u∈us/\v∈us/\∀x H',Same H H'->PrtV H' x (aH ks u v)->Q x H'
theorem vx (F:Fun K "_law_part" "_law_part" np f fd) (B:Blt mg) (c_law_line:Cal P w K mg base 1 "_law_line" ["_law_knots_here", "_law_unit"] (uB fun ks u => tp (lin ks u))):FnOk P w K mg base CX0 2 f fd ["_law_knots_here", "_law_one", "_law_other"] dY := by
 refine F.ok1 ["_law_knots_here","_law_one","_law_other","_law_ones","_law_others","_law_k"] fun nd H Q E hr h=>?_
 obtain⟨d,us,ks,u,v,rfl,hd,T,hu,hv,k⟩:=h
 refine⟨_,(aa (pst 3 nd (pc c_law_line hr (p2 (pv 0) (pv 1))))
  (aa (pst 4 nd (pc c_law_line hr (p2 (pv 0) (pv 2))))
  (aa (pst 5 nd ab)
  (aa (dP PassesOwn.never (PW.pt (cx (ag fg (pv 5) (wF rfl B (p2 (bh K B (p1 (pv 3))) (bh K B (p1 (pv 4))))) (au _)) (bY (ag (br hr.units) (px K hr (pv 3) (pv 5)) (px K hr (pv 4) (pv 5)) (au _))))) (ac (pst 5 nd (aG aK (pv 5) ab))))
  (aa (aI (ag (br hr.units) (pv 5) (wF rfl B (p2 (bh K B (p1 (pv 3))) (bh K B (p1 (pv 4))))) (au _)) (ac (am ci)) av)
  (ac (am (aB (ak (px K hr (pv 3) (aG oN (pv 5) ab)) (p2 (px K hr (pv 3) (pv 5)) (px K hr (pv 4) (pv 5)))))))))))),?_⟩
 refine⟨_,rfl,_,rfl,d,us,ks,u,rfl,hd,T,hu,fun la H1 s1 hla0 hla=>?_⟩
 refine⟨_,rfl,_,rfl,d,us,ks,v,rfl,hd.same s1,T,hv,fun lb H2 s2 hlb0 hlb=>?_⟩
 have hla2:=s2 _ _ hla
 have s12:=s1.trans s2
 have n1:(List.map V.str (tp (lin ks u))).length=(lin ks u).length+1:=by rw[z0,Aw]
 have n2:(List.map V.str (tp (lin ks v))).length=(lin ks v).length+1:=by rw[z0,Aw]
 refine⟨fun m σ H'=>∃i:Nat,m=(lin ks u).length+2-i/\σ=[some (.ref d),some (.str u),some (.str v),some (.ref la),some (.ref lb),some (.int (i:Int))]/\i<=min ((lin ks u).length+1) ((lin ks v).length+1)/\Gon (lin ks u) (lin ks v) i/\H'=H2,
  ⟨_,0,rfl,rfl,AC _,.inl rfl,rfl⟩,?_⟩
 rintro m σ H3 ⟨i,rfl,rfl,hi,gon,rfl⟩
 have emn:∀a b:Nat,(if ((b:Nat):Int)<((a:Nat):Int) then ((b:Nat):Int) else ((a:Nat):Int))=((min a b:Nat):Int):=fun a b=>by split <;> omega
 refine⟨_,rfl,_,rfl,_,_,rfl,Or.inl ⟨_,.of hla2,rfl⟩,_,rfl,_,_,rfl,Or.inl ⟨_,.of hlb,rfl⟩,_,_,rfl,.int ⟨_,rfl,?_⟩⟩
 rw[n1,n2,emn]
 have mn:∀j,j<min ((lin ks u).length+1) ((lin ks v).length+1)->∃x y,(tp (lin ks u))[j]? = some x/\(tp (lin ks v))[j]? = some y:=fun j hj =>
  ⟨_,_,Ar (by rw[Aw];omega),Ar (by rw[Aw];omega)⟩
 refine ap (fun h=>?_) (fun h=>?_)
 ·have h:(i:Int)<((min ((lin ks u).length+1) ((lin ks v).length+1):Nat):Int) := Ao h
  have hi:i<min ((lin ks u).length+1) ((lin ks v).length+1):=by omega
  obtain⟨x,y,hx,hy⟩:=mn i hi
  have ax:atI (List.map V.str (tp (lin ks u))) (i:Int)=some (.str x):=bJ (by rw[Al,hx];rfl)
  have ay:atI (List.map V.str (tp (lin ks v))) (i:Int)=some (.str y):=bJ (by rw[Al,hy];rfl)
  refine⟨_,rfl,_,rfl,.lst (.of hla2) ax ⟨_,rfl,_,rfl,.lst (.of hlb) ay (.sc rfl ⟨_,rfl,?_⟩)⟩⟩
  refine ap (fun hc=>?_) (fun hc=>?_)
  ·have he:x=y:=Classical.byContradiction fun z=>by rw[if_neg (by decide),Ay (fun q=>z (V.str.inj q))] at hc;cases hc
   subst he
   refine⟨fun σ' H'=>σ'=[some (.ref d),some (.str u),some (.str v),some (.ref la),some (.ref lb),some (.int ((i+1:Nat):Int))]/\H'=H3,fun σ' H' ⟨h1,h2⟩=>⟨(lin ks u).length+2-(i+1),by omega,i+1,rfl,h1,by omega,gon.step hx hy,h2⟩,?_⟩
   exact⟨_,rfl,.int ⟨rfl,rfl⟩⟩
  ·have hne:x ≠ y := fun z => hc (by rw[z, if_neg (by decide), Ai rfl])
   obtain⟨h1,hp⟩:=gon.part hx hy hne
   refine⟨_,rfl,_,rfl,_,_,rfl,Or.inl ⟨_,.of hla2,rfl⟩,_,rfl,_,_,rfl,Or.inl ⟨_,.of hlb,rfl⟩,_,_,rfl,.sc rfl ⟨_,rfl,?_⟩⟩
   rw[n1,n2,emn]
   refine ap (fun h=>?_) (fun _=>?_)
   ·exfalso
    have h:V.int (i:Int)=V.int ((min ((lin ks u).length+1) ((lin ks v).length+1):Nat):Int):=Ao h
    have:=V.int.inj h
    omega
   ·have aq:atI (List.map V.str (tp (lin ks u))) ((i:Int)-1)=some (.str ((tp (lin ks u)).getD (i-1) "")):=by
       rw[show (i:Int)-1=((i-1:Nat):Int) by omega]
       exact iF (by rw[Aw];omega)
    refine⟨_,rfl,_,rfl,_,_,rfl,rfl,.lst (.of hla2) aq ⟨_,rfl,_,rfl,.lst (.of hla2) ax ⟨_,rfl,_,rfl,.lst (.of hlb) ay ⟨(szl 3),fun t ht=>?_⟩⟩⟩⟩
    refine k (.ref t) _ (s12.trans (Same.new ht)) ?_
    show PrtV _ _ (prt "" (lin ks u) (lin ks v))
    rw[hp]
    exact⟨t,rfl,ae⟩
 ·have h:¬ (i:Int)<((min ((lin ks u).length+1) ((lin ks v).length+1):Nat):Int):=fun z=>h (Ai z)
  have hz:=gon.stop (by omega)
  refine dH ?_
  refine⟨_,rfl,_,rfl,_,_,rfl,Or.inl ⟨_,.of hla2,rfl⟩,_,rfl,_,_,rfl,Or.inl ⟨_,.of hlb,rfl⟩,_,_,rfl,.sc rfl ⟨_,rfl,?_⟩⟩
  rw[n1,n2,emn]
  refine ap (fun _=>?_) (fun h2=>?_)
  ·refine k .non H3 s12 ?_
   show PrtV _ _ (prt "" (lin ks u) (lin ks v))
   rw[hz];rfl
  ·exfalso
   refine h2 ?_
   rw[if_neg (by decide),decide_eq_true_iff]
   congr 1
   omega
def jy:Sp:=fun vs H Q _=>∃(wq refs:_) (ss:List Str) (ts:List (Str × Str)) (one:_),vs=[.ref wq,.str one]/\H wq=some (.lst refs)/\RepAll H refs (ts.map aE)/\(∀e∈ts,e.1∈ss/\e.2∈ss)/\one∈ss/\ss.length<=60 /\
 ∀l (seen:List Str) H',Same H H'->H l=none->H' l=some (.lst (List.map V.str seen))->(∀t,t∈seen ↔ MG.Rch (Tie ts) one t)->seen.length<=60->Q (.ref l) H'
theorem tJ (F:Fun K "_law_reached" "_law_reached" oo f fd) (B:Blt mg):FnOk P w K mg base CX0 1 f fd ["_law_edges_here", "_law_one"] jy := by
 refine F.ok1 ["_law_edges_here","_law_one","_law_found","_law_at","_law_first","_law_other"] fun nd H Q E hr h=>?_
 obtain⟨wq,refs,ss,ts,one,rfl,hb,rp,hev,hone,hn,k⟩:=h
 refine⟨_,(aa (pst 2 nd (aS (p1 (pv 1))))
  (aa (pst 3 nd ab)
  (aa (dP PassesOwn.never (ag fg (pv 3) (bh K B (p1 (pv 2))) (au _)) (aa (aZ PassesOwn.never rfl (be K (pv 0)) (bI (n:=2) K rfl (aF (ai (i:=4) nd rfl (Or.inl rfl)) (aF (ai (i:=5) nd rfl (Or.inl rfl)) bz))) (ac (aI (PW.pt (cx (ag (br hr.units) (pv 4) (px K hr (pv 2) (pv 3)) (au _)) (bY (ag (cK K hr.units) (pv 5) (pv 2) (by with_unfolding_all rfl))))) (ac (bm (cq K (pv 2) (p1 (pv 5))))) av)))
  (ac (pst 3 nd (aG aK (pv 3) ab)))))
  (ac (am (pv 2)))))),?_⟩
 have rlen:=rp.len
 rw[z0] at rlen
 refine⟨_,rfl,(szl 1),fun l0 hl0=>?_⟩
 have inn:∀y,MG.Rch (Tie ts) one y->y∈ss:=fun y r=>MG.Rch.closed (S:=fun y=>y∈ss) hone (fun a b _ r=>(hev _ r).2) r
 refine⟨fun m σ H'=>∃(at_:Nat) (seen:List Str) (o4 o5:Option V),m+at_=ss.length/\σ=[some (.ref wq),some (.str one),some (.ref l0),some (.int ((at_:Nat):Int)),o4,o5]/\Same H H'/\H' l0=some (.lst (List.map V.str seen))/\seen.Nodup/\(∀x∈seen,MG.Rch (Tie ts) one x)/\one∈seen/\at_<=seen.length/\∀i x,i<at_->seen[i]? = some x->∀y,(x,y)∈ts->y∈seen,
  ⟨ss.length,0,[one],none,none,by omega,rfl,Same.new hl0,ae,by simp,(fun x hx=>(show x=one by simpa using hx) ▸ MG.Rch.refl),by simp,by omega,fun i x hi=>by omega⟩,?_⟩
 rintro m σ H1 ⟨at_,seen,o4,o5,hm,rfl,sm,hs,hnd,hrc,hmem,hat,hclo⟩
 have hsn:seen.length<=ss.length:=hnd.length_le_of_subset fun x hx=>inn x (hrc x hx)
 have hln:(List.map V.str seen).length=seen.length:=z0 ..
 refine⟨_,rfl,_,rfl,_,_,rfl,Or.inl ⟨_,.of hs,rfl⟩,.int ⟨_,rfl,?_⟩⟩
 refine ap (fun hc=>?_) (fun hc=>?_)
 ·have hc:(at_:Int)<((List.map V.str seen).length:Nat) := Ao hc
  have hlt:at_<seen.length:=by omega
  obtain⟨z,hz⟩:∃z,seen[at_]? = some z:=⟨_,Ar hlt⟩
  have rz:=hrc z (Ad hz)
  refine⟨fun σ' H'=>∃(seen:List Str) (o4 o5:Option V),σ'=[some (.ref wq),some (.str one),some (.ref l0),some (.int ((at_+1:Nat):Int)),o4,o5]/\Same H H'/\H' l0=some (.lst (List.map V.str seen))/\seen.Nodup/\(∀x∈seen,MG.Rch (Tie ts) one x)/\one∈seen/\at_+1<=seen.length/\∀i x,i<at_+1->seen[i]? = some x->∀y,(x,y)∈ts->y∈seen,
   fun σ' H' ⟨seen,o4,o5,p⟩=>⟨m-1,by omega,at_+1,seen,o4,o5,by omega,p⟩,?_⟩
  refine⟨_,rfl,wq,rfl,⟨_,.of (sm _ _ hb)⟩,?_⟩
  refine cS (xs:=refs) (fun j σ H'=>∃(seen:List Str) (o4 o5:Option V),σ=[some (.ref wq),some (.str one),some (.ref l0),some (.int ((at_:Nat):Int)),o4,o5]/\Same H H'/\H' l0=some (.lst (List.map V.str seen))/\seen.Nodup/\(∀x∈seen,MG.Rch (Tie ts) one x)/\one∈seen/\at_<seen.length/\seen[at_]? = some z/\(∀i x,i<at_->seen[i]? = some x->∀y,(x,y)∈ts->y∈seen)/\∀f∈ts.take j,f.1=z->f.2∈seen) ?_ ?_ ?_ ?_
  ·exact⟨seen,o4,o5,rfl,sm,hs,hnd,hrc,hmem,hlt,hz,hclo,fun e he=>by simp at he⟩
  ·rintro j σ H' hj ⟨seen,o4,o5,rfl,sm,_⟩
   exact .of (sm _ _ hb)
  ·rintro j x σ H' hx ⟨seen, o4, o5, rfl, sm, hs, hnd, hrc, hmem, hlt, hz, hclo, hdn⟩
   obtain⟨d,hd,rd⟩:=(rp.same sm).get hx
   rw[Al] at hd
   obtain⟨e,he,rfl⟩:∃e,ts[j]? = some e/\aE e=d:=by
    cases q:ts[j]? with
    | none=>rw[q] at hd;cases hd
    | some e=>rw[q] at hd;exact⟨e,rfl,Af hd⟩
   obtain⟨ta,rfl,hta⟩:=fJ rd
   have hem:=Ad he
   have hsn:seen.length<=ss.length:=hnd.length_le_of_subset fun x hx=>inn x (hrc x hx)
   have skip:(e.1=z->e.2∈seen)->∀f∈ts.take (j+1),f.1=z->f.2∈seen:=fun h f hf q=>by
    rw[Am,he,Aj] at hf
    rcases hf with hf | hf
    ·exact hdn f hf q
    ·have:f=e:=by simpa using hf
     subst this;exact h q
   have zat:atI (List.map V.str seen) (at_:Int)=some (.str z):=bJ (by rw[Al,hz];rfl)
   refine⟨ta,_,rfl,.of hta,rfl,_,_,rfl,_,_,rfl,rfl,?_⟩
   refine⟨_,rfl,_,rfl,_,rfl,.lst (.of hs) zat (.sc rfl ⟨_,rfl,?_⟩)⟩
   refine ap (fun h1=>?_) (fun h1=>?_)
   ·have h1:e.1=z := V.str.inj (Ao h1)
    refine⟨_,rfl,_,rfl,.seq (.inl (.of hs)) rfl (cg _) ⟨_,rfl,?_⟩⟩
    rw[dU]
    refine ap (fun h2=>?_) (fun h2=>?_)
    ·have h2:e.2 ∉ seen := by simpa using h2
     refine⟨_,rfl,.inl ⟨rfl,_,.of hs⟩,?_⟩
     refine⟨_,rfl,l0,_,_,rfl,rfl,hs,by rw[z0];exact aj (by omega),?_⟩
     refine⟨seen++[e.2],_,_,rfl,?_,?_,?_,?_,?_,?_,?_,?_,?_⟩
     ·intro c o hc
      rw[af (ah hc hl0)]
      exact sm _ _ hc
     ·rw[ae];simp
     ·rw[A4]
      refine⟨hnd,by simp,fun a ha b hb=>?_⟩
      have:b=e.2:=by simpa using hb
      subst this
      rintro rfl
      exact h2 ha
     ·intro x hx
      rcases Aj.mp hx with hx | hx
      ·exact hrc x hx
      ·have:x=e.2:=by simpa using hx
       subst this
       exact MG.Rch.step rz (by rw[<- h1];exact hem)
     ·exact AR _ hmem
     ·simp;omega
     ·rw[A9 hlt];exact hz
     ·intro i x hi hx y hy
      rw[A9 (by omega)] at hx
      exact AR _ (hclo i x hi hx y hy)
     ·intro f hf q
      rw[Am,he,Aj] at hf
      rcases hf with hf | hf
      ·exact AR _ (hdn f hf q)
      ·have:f=e:=by simpa using hf
       subst this;simp
    ·have h2:e.2∈seen:=by simpa using h2
     exact⟨seen,_,_,rfl,sm,hs,hnd,hrc,hmem,hlt,hz,hclo,skip fun _=>h2⟩
   ·have h1:e.1≠z:=fun q=>h1 (Ai (by rw[q]))
    exact dH ⟨seen,_,_,rfl,sm,hs,hnd,hrc,hmem,hlt,hz,hclo,skip fun q=>absurd q h1⟩
  ·rintro σ H' ⟨seen,o4,o5,rfl,sm,hs,hnd,hrc,hmem,hlt,hz,hclo,hdn⟩
   rw[rlen,Ak (Aa _)] at hdn
   refine⟨_,rfl,.int ⟨seen,o4,o5,rfl,sm,hs,hnd,hrc,hmem,hlt,fun i x hi hx y hy=>?_⟩⟩
   by_cases q:i<at_
   ·exact hclo i x q hx y hy
   ·have:i=at_:=by omega
    subst this
    rw[hz] at hx
    cases hx
    exact hdn _ hy rfl
 ·have hc:¬ (at_:Int)<((List.map V.str seen).length:Nat):=fun q=>hc (Ai q)
  refine⟨_,rfl,k l0 seen H1 sm hl0 hs (fun t=>⟨hrc t,fun r=>?_⟩) (by omega)⟩
  refine MG.Rch.closed (S:=fun y=>y∈seen) hmem (fun a b ha r=>?_) r
  obtain⟨j,hj,ej⟩:=List.mem_iff_getElem.mp ha
  exact hclo j a (by omega) (by rw[Ar hj,ej]) b r
abbrev Prs:=List (Str × Str)
def dG (us:List Str) (ps:List (Str × Str)):Prop:=∀e∈ps,e.1∈us/\e.2∈us
def TsI (us:List Str) (ks:Kn) (ts:List (Str × Str)):Prop:=∀e∈ts,e.1∈us/\e.2∈us/\(aH ks e.1 e.2).isSome=true
structure FnM (H H':Hp) (lf:Addr) (us:List Str) (fr:List V) (ps:List (Str × Str)) (n:Nat) (M:Str × Str->Prop):Prop where
 m:∀x,x∈ps ↔ M x
 f:H' lf=some (.lst fr)
 r:RepAll H' fr (ps.map aE)
 i:dG us ps
 l:ps.length<=n
 s:Same H H'
theorem FnM.more {us:List Str}{fr:List V}{ps:List (Str × Str)}{n m:Nat}{M:Str × Str->Prop}(h:FnM H H' lf us fr ps n M) (s:Same H' H2) (hm:n<=m):FnM H H2 lf us fr ps m M:=⟨h.m,s _ _ h.f,h.r.same s,h.i,Az h.l hm,h.s.trans s⟩
theorem FnM.app (h:FnM H H' lf us fr ps n M) (ht:H' t=some (.tup [.str x,.str y])) (hx:x∈us) (hy:y∈us) (hl:H lf=none):FnM H (upd H' lf (.lst (fr++[.ref t]))) lf us (fr++[.ref t]) (ps++[(x,y)]) (n+1) (fun z=>M z∨z=(x,y)):=by
 refine⟨fun z=>by rw[Aj,Av,h.m z],ae,?_,fun e he=>?_,by rw[Aq];have:=h.l;show _+1<=_;omega,aW h.s hl⟩
 ·rw[Ae]
  exact RepAll.append (aO (aV h.f But.upd) h.r) (.cons (aV h.f But.upd (aM ht)) .nil)
 ·rcases Aj.mp he with q | q
  ·exact h.i e q
  ·rw[Av.mp q];exact⟨hx,hy⟩
theorem FnM.len (h:FnM H H' lf us fr ps n M):fr.length<=n:=by
 have:=h.r.len
 rw[z0] at this
 have:=h.l
 omega
theorem FnM.to {us:List Str}{fr:List V}{ps:List (Str × Str)}{n m:Nat}{M M':Str × Str->Prop}(h:FnM H H' lf us fr ps n M) (hm:n<=m) (q:∀x,M x ↔ M' x):FnM H H' lf us fr ps m M':=⟨fun x=>(h.m x).trans (q x),h.f,h.r,h.i,Az h.l hm,h.s⟩
theorem FnM.has (h:FnM H H' lf us fr ps n M) (hy:y∈ps) (x:Str × Str):M x ↔ M x∨x=y:=⟨.inl,fun z=>z.elim id fun e=>by rw[e];exact(h.m y).mp hy⟩
theorem eQ (e f:Str × Str):PyData.eqv (aE e) (aE f)=decide (e=f):=by
 obtain⟨a,b⟩:=e
 obtain⟨c,d⟩:=f
 show ((a==c)&&((b==d)&&true))=_
 rw[Bool.and_true,AV]
 simp only[Ba,beq_iff_eq,decide_eq_true_eq,Prod.mk.injEq]
theorem dR (ps:Prs) (x:Str × Str):((ps.map aE).any fun e=>PyData.eqv e (aE x))=decide (x∈ps):=by
 rw[List.any_map,AV,BK,decide_eq_true_iff]
 constructor
 ·rintro⟨e,he,q⟩
  have q:PyData.eqv (aE e) (aE x)=true:=q
  rw[eQ,decide_eq_true_iff] at q
  exact q ▸ he
 ·intro h
  exact⟨x,h,by show PyData.eqv (aE x) (aE x)=true;rw[eQ];simp⟩
theorem p8 {ps:Prs}{x:Str × Str}(h:¬ (if true=true then !((ps.map aE).any fun e=>PyData.eqv e (aE x)) else (ps.map aE).any fun e=>PyData.eqv e (aE x))=true):x∈ps:=by
 rw[if_pos rfl,dR] at h
 simpa using h
theorem cV (h1:Nm e.1) (h2:Nm e.2):(aE e).canLay0=true:=by
 have h:(PyData.canLay0 (aE e)&&true)=true:=aT (ps:=[e]) fun x hx=>by rw[Av.mp hx];exact⟨h1,h2⟩
 rwa [Bool.and_true] at h
def eX (e:Str × Str) (c:List Str):Prs:=(c.filter fun v=>decide (v≠e.2)).map fun v=>if e.1="first" then (e.2,v) else (v,e.2)
def EdT (ks:Kn) (knot:Str) (ts:Prs) (x:Str × Str):Prop:=∃e∈ts,cG ks knot e=some x
def EdW (wn:Prs) (c:List Str) (x:Str × Str):Prop:=∃e∈wn,e.2∈c/\x∈eX e c
def EdM (ks:Kn) (ts wn:Prs) (knot:Str) (c:List Str) (x:Str × Str):Prop:=EdT ks knot ts x∨EdW wn c x
theorem cT {α:Type}{l:List α}{i:Nat}{e:α}(he:l[i]? = some e) (x:α):x∈l.take (i+1) ↔ x∈l.take i∨x=e:=by
 rw[Am,he,Aj]
 show _∨x∈[e] ↔ _
 rw[Av]
theorem oI {ks:Kn}{knot:Str}{ts:Prs}{i:Nat}{e:Str × Str}(he:ts[i]? = some e) (x:Str × Str):EdT ks knot (ts.take (i+1)) x ↔ EdT ks knot (ts.take i) x∨cG ks knot e=some x:=by
 unfold EdT
 constructor
 ·rintro⟨f,hf,q⟩
  rcases (cT he f).mp hf with z | rfl
  ·exact .inl ⟨f,z,q⟩
  ·exact .inr q
 ·rintro (⟨f,hf,q⟩ | q)
  ·exact⟨f,(cT he f).mpr (.inl hf),q⟩
  ·exact⟨e,(cT he e).mpr (.inr rfl),q⟩
theorem fS {wn:Prs}{c:List Str}{i:Nat}{e:Str × Str}(he:wn[i]? = some e) (x:Str × Str):EdW (wn.take (i+1)) c x ↔ EdW (wn.take i) c x∨(e.2∈c/\x∈eX e c):=by
 unfold EdW
 constructor
 ·rintro⟨f,hf,q⟩
  rcases (cT he f).mp hf with z | rfl
  ·exact .inl ⟨f,z,q⟩
  ·exact .inr q
 ·rintro (⟨f,hf,q⟩ | q)
  ·exact⟨f,(cT he f).mpr (.inl hf),q⟩
  ·exact⟨e,(cT he e).mpr (.inr rfl),q⟩
theorem rowE_mem:x∈eX e c ↔ ∃v∈c,v≠e.2/\x=if e.1="first" then (e.2,v) else (v,e.2):=by
 unfold eX
 rw[Ag]
 constructor
 ·rintro⟨v,hv,rfl⟩
  obtain⟨h1,h2⟩:=Ap.mp hv
  exact⟨v,h1,Ao h2,rfl⟩
 ·rintro⟨v,h1,h2,rfl⟩
  exact⟨v,Ap.mpr ⟨h1,Ai h2⟩,rfl⟩
theorem so {e:Str × Str}{c:List Str}{j:Nat}{z:Str}(hz:c[j]? = some z) (x:Str × Str):x∈eX e (c.take (j+1)) ↔ x∈eX e (c.take j)∨(z≠e.2/\x=if e.1="first" then (e.2,z) else (z,e.2)):=by
 rw[rowE_mem,rowE_mem]
 constructor
 ·rintro⟨v,hv,q⟩
  rcases (cT hz v).mp hv with h | rfl
  ·exact .inl ⟨v,h,q⟩
  ·exact .inr q
 ·rintro (⟨v,hv,q⟩ | q)
  ·exact⟨v,(cT hz v).mpr (.inl hv),q⟩
  ·exact⟨z,(cT hz z).mpr (.inr rfl),q⟩
def mR:Sp:=fun vs H Q _=>∃(q us ks:_) (ts ws wn:List (Str × Str)) (knot c:_),vs=[.ref q,.str knot]/\Rep H (.ref q) (aJ ks ts ws wn)/\Tre us ks/\TsI us ks ts/\(∀e∈wn,e.2∈us)/\(knot,c)∈ks/\ts.length<=200/\wn.length<=200 /\
 ∀(l:Addr) (refs:List V) (es:Prs) (H':Hp),Same H H'->H l=none->H' l=some (.lst refs)->RepAll H' refs (es.map aE)->es.length<=100000->dG us es->(∀x,x∈es ↔ EdM ks ts wn knot c x)->Q (.ref l) H'
theorem zj {f:Addr}{fd:FuncData}(F:Fun K "_law_edges" "_law_edges" mH f fd) (B:Blt mg) (c_law_part:Cal P w K mg base 2 "_law_part" ["_law_knots_here", "_law_one", "_law_other"] dY):FnOk P w K mg base CX0 3 f fd ["_law_house_here", "_law_knot"] mR := by
 refine F.ok1 ["_law_house_here","_law_knot","_law_knots_here","_law_ties","_law_waiting","_law_wants","_law_kids","_law_found","_law_one","_law_other","_law_part_here","_law_word","_law_unit","_law_pair_here"] fun nd H Q E hr h=>?_
 obtain⟨q,us,ks,ts,ws,wn,knot,c0,rfl,R,T,tok,wok,hkk,tl,wl,k⟩:=h
 refine⟨_,(aa (bU (pv 0) (bI (n:=4) K rfl (aF (ai (i:=2) nd rfl (Or.inl rfl)) (aF (ai (i:=3) nd rfl (Or.inl rfl)) (aF (ai (i:=4) nd rfl (Or.inl rfl)) (aF (ai (i:=5) nd rfl (Or.inl rfl)) bz))))))
  (aa (pst 6 nd (px K hr (fL K rfl hr.units B (p1 (pv 2))) (pv 1)))
  (aa (pst 7 nd (aS bT))
  (aa (aZ PassesOwn.never rfl (bc K (pv 3)) (bI (n:=2) K rfl (aF (ai (i:=8) nd rfl (Or.inl rfl)) (aF (ai (i:=9) nd rfl (Or.inl rfl)) bz))) (aa (pst 10 nd (pc c_law_part hr (ak (pv 2) (p2 (pv 8) (pv 9)))))
  (ac (aI (PW.pt (cx (ag (br hr.units) (px K hr (pv 10) ab) (pv 1) (au _)) (bY (ag (cK K hr.units) (bO (lh K) (pv 10) (bQ ab) cJ) (pv 7) (by with_unfolding_all rfl))))) (ac (bm (cq K (pv 7) (p1 (bO (lh K) (pv 10) (bQ ab) cJ))))) av))))
  (aa (aZ PassesOwn.never rfl (bc K (pv 5)) (bI (n:=2) K rfl (aF (ai (i:=11) nd rfl (Or.inl rfl)) (aF (ai (i:=12) nd rfl (Or.inl rfl)) bz))) (ac (aI (ag (bL K hr.units) (pv 12) (pv 6) (by with_unfolding_all rfl)) (ac (aZ PassesOwn.never rfl (bc K (pv 6)) (ai (i:=8) nd rfl (Or.inl rfl)) (aa (pst 13 nd (px K hr (aS (p2 (aB (p2 (pv 8) (pv 12))) (aB (p2 (pv 12) (pv 8))))) (wG B (p1 (iW (br hr.units) (pv 11) aA (au _))))))
  (ac (aI (PW.pt (cx (ag (cE hr.units) (pv 8) (pv 12) (au _)) (bY (ag (cK K hr.units) (pv 13) (pv 7) (by with_unfolding_all rfl))))) (ac (bm (cq K (pv 7) (p1 (pv 13))))) av))))) av)))
  (ac (am (pv 7)))))))),?_⟩
 have nmu:∀ {ps:List (Str × Str)},dG us ps->∀e∈ps,Nm e.1/\Nm e.2:=fun h e he=>⟨T.nm _ (h e he).1,T.nm _ (h e he).2⟩
 have sz:200000<sizeLine:=by decide
 have ulen:=T.len
 obtain⟨q',a,b,c,d4,e0,hq,R1,R2,_,R4⟩:=aX R
 cases e0
 refine⟨_,rfl,q,_,rfl,.of hq,rfl,_,_,rfl,_,_,rfl,_,_,rfl,_,_,rfl,rfl,?_⟩
 refine⟨_,rfl,ao (dw R1 T fun D dk hD hdk=>?_)⟩
 obtain⟨la,hva,hla⟩:=hdk _ hkk
 have s1:=Same.new (o:=.dK dk) hD
 refine⟨_,rfl,.dic (.inl ⟨dk,.inr knot,.inl ae,rfl,hva.symm⟩) ?_⟩
 generalize upd H D (.dK dk)=H1 at s1 ⊢
 refine⟨(szl 0),fun lf hlf=>?_⟩
 have s3:=Same.new (o:=.lst []) hlf
 have s13:=s1.trans s3
 have frf:H lf=none:=bd s1 hlf
 have fn0:FnM H (upd H1 lf (.lst [])) lf us [] [] 0 (EdT ks knot (ts.take 0)):=⟨(fun x=>⟨(fun h=>by cases h),(fun ⟨_,h,_⟩=>by cases h)⟩),ae,.nil,(fun e he=>by cases he),Aa _,s13⟩
 generalize upd H1 lf (.lst [])=H3 at s13 fn0 ⊢
 obtain⟨b',rb,e0,hb,rpb⟩:=aP R2
 cases e0
 obtain⟨d4',rw4,e0,hd4,rpw⟩:=aP R4
 cases e0
 have rblen:=rpb.len
 have rwlen:=rpw.len
 rw[z0] at rblen rwlen
 refine⟨_,rfl,b,rfl,⟨_,.of (s13 _ _ hb)⟩,?_⟩
 refine cC (xs:=rb) (fun i σ H'=>∃(o8 o9 o10:Option V) (fr:List V) (ps:List (Str × Str)),σ=[some (.ref q),some (.str knot),some (.ref a),some (.ref b),some (.ref c),some (.ref d4),some (.ref la),some (.ref lf),o8,o9,o10,none,none,none]/\FnM H H' lf us fr ps i (EdT ks knot (ts.take i))) ?_ ?_ ?_ ?_
 ·exact⟨none,none,none,[],[],rfl,fn0⟩
 ·rintro i σ H' hi ⟨o8,o9,o10,fr,ps,rfl,fn⟩
  exact .of (fn.s _ _ hb)
 ·rintro i x σ H' hx ⟨o8, o9, o10, fr, ps, rfl, fn⟩
  obtain⟨e,ta,he,rfl,hta⟩:=cF (rpb.same fn.s) hx
  have hil:=(Ac.mp he).1
  obtain⟨m1,m2,po⟩:=tok e (Ad he)
  refine⟨ta,_,rfl,.of hta,rfl,_,_,rfl,_,_,rfl,rfl,?_⟩
  refine⟨_,rfl,_,rfl,_,rfl,a,us,ks,e.1,e.2,rfl,R1.same fn.s,T,m1,m2,fun x H4 s4 hx4=>?_⟩
  cases qp:aH ks e.1 e.2 with
  | none=>rw[qp] at po;cases po
  | some pp =>
   obtain⟨kq,u1,v1⟩:=pp
   rw[qp] at hx4
   obtain⟨t,rfl,ht⟩:=hx4
   obtain⟨_,_,n1,n2,_⟩:=T.part m1 m2 qp
   have fn4:=fn.more s4 (Aa i)
   have fl:=fn4.len
   refine⟨_,rfl,.tup (.of ht) at0 ⟨_,rfl,.sc rfl ⟨_,rfl,ap (fun hkq=>?_) (fun hkq=>?_)⟩⟩⟩
   ·have hkq:kq=knot:=by simpa using hkq
    have hbs:cG ks knot e=some (u1,v1):=by unfold cG;rw[qp];show (if kq=knot then _ else _)=_;rw[if_pos hkq]
    have hnx:∀x,EdT ks knot (ts.take (i+1)) x ↔ EdT ks knot (ts.take i) x∨x=(u1,v1):=fun x=>by rw[oI he,hbs,Option.some.injEq,eq_comm (a:=(u1,v1))]
    refine⟨_,rfl,_,rfl,t,_,rfl,.of ht,om,fun t2 h2=>?_⟩
    rw[nZ]
    refine nw h2 fun H5 s5 e5=>?_
    have fn5:=fn4.more s5 (Aa i)
    have ht5:=s5 _ _ ht
    refine⟨_,rfl,.tr fn5.f fn5.r (aM (s:=u1) (t:=v1) e5) (aT (nmu fn5.i)) ?_ ?_ ⟨_,rfl,?_⟩⟩
    ·exact cV (T.nm _ n1) (T.nm _ n2)
    ·show 1<=16;decide
    ·refine ap (fun _=>?_) (fun hin=>⟨_,_,_,fr,ps,rfl,fn5.to (Bb i) fun x=>(fn5.has (p8 hin) x).trans (hnx x).symm⟩)
     refine⟨_,rfl,.inl ⟨rfl,_,.of fn5.f⟩,_,rfl,_,rfl,t,_,rfl,.of ht5,om,fun t3 h3=>?_⟩
     rw[nZ]
     refine nw h3 fun H6 s6 e6=>?_
     have fn6:=fn5.more s6 (Aa i)
     refine ao ⟨lf,_,_,rfl,rfl,fn6.f,by omega,?_⟩
     exact⟨_,_,_,_,_,rfl,(fn6.app e6 n1 n2 frf).to (Aa _) fun x=>(hnx x).symm⟩
   ·have hkq:kq≠knot:=fun z=>hkq (by simpa using z)
    have hbs:cG ks knot e=none:=by unfold cG;rw[qp];show (if kq=knot then _ else _)=_;rw[if_neg hkq]
    exact⟨_,_,_,fr,ps,rfl,fn4.to (Bb i) fun x=>by rw[oI he,hbs];simp⟩
 ·rintro σ H4 ⟨o8, o9, o10, fr, ps, rfl, fn⟩
  rw[rblen,Ak (Aa _)] at fn
  refine⟨_,rfl,d4,rfl,⟨_,.of (fn.s _ _ hd4)⟩,?_⟩
  have crl:c0.length<=60:=by
   have h3:c0.length<=(aU ks).length:=by
    have:=(BX (L:=ks.map (·.2)) (Ag.mpr ⟨(knot,c0),hkk,rfl⟩)).length_le
    rw[<- List.flatMap_def] at this
    exact this
   have:=T.perm.length_eq
   omega
  have cin:∀z∈c0,z∈us:=fun z hz=>T.isIn hkk hz
  refine cC (xs:=rw4) (fun i σ H'=>∃(o8 o9 o10 o11 o12 o13:Option V) (fr:List V) (ps:List (Str × Str)),σ=[some (.ref q),some (.str knot),some (.ref a),some (.ref b),some (.ref c),some (.ref d4),some (.ref la),some (.ref lf),o8,o9,o10,o11,o12,o13]/\FnM H H' lf us fr ps (200+i * 60) (fun x=>EdT ks knot ts x∨EdW (wn.take i) c0 x)) ?_ ?_ ?_ ?_
  ·exact⟨o8,o9,o10,none,none,none,fr,ps,rfl,fn.to (by omega) fun x=>⟨.inl,fun z=>z.elim id fun ⟨_,h,_⟩=>by cases h⟩⟩
  ·rintro i σ H' hi ⟨o8,o9,o10,o11,o12,o13,fr,ps,rfl,fn⟩
   exact .of (fn.s _ _ hd4)
  ·rintro i x σ H' hx ⟨o8, o9, o10, o11, o12, o13, fr, ps, rfl, fn⟩
   obtain⟨e,ta,he,rfl,hta⟩:=cF (rpw.same fn.s) hx
   have hil:=(Ac.mp he).1
   have m2:=wok e (Ad he)
   have hlc:=fn.s _ _ hla
   refine⟨ta,_,rfl,.of hta,rfl,_,_,rfl,_,_,rfl,rfl,?_⟩
   refine⟨_,rfl,_,rfl,.seq (.inr (.of hlc)) rfl (cg _) ⟨_,rfl,ap (fun hec=>?_) (fun hec=>?_)⟩⟩
   all_goals rw[if_neg (show ¬ false=true by decide),dU] at hec
   ·refine⟨_, rfl, la, rfl, ⟨_, .of hlc⟩, ?_⟩
    refine cC (xs:=List.map V.str c0) (fun j σ H'=>∃(o8 o9 o10 o13:Option V) (fr:List V) (ps:List (Str × Str)),σ=[some (.ref q),some (.str knot),some (.ref a),some (.ref b),some (.ref c),some (.ref d4),some (.ref la),some (.ref lf),o8,o9,o10,some (.str e.1),some (.str e.2),o13]/\FnM H H' lf us fr ps (200+i * 60+j) (fun x=>(EdT ks knot ts x∨EdW (wn.take i) c0 x)∨x∈eX e (c0.take j))) ?_ ?_ ?_ ?_
    ·exact⟨o8,o9,o10,o13,fr,ps,rfl,fn.to (Aa _) fun x=>⟨.inl,fun z=>z.elim id fun h=>by cases h⟩⟩
    ·rintro j σ H' hj ⟨o8,o9,o10,o13,fr,ps,rfl,fn⟩
     exact .of (fn.s _ _ hla)
    ·rintro j x σ H5 hx ⟨o8, o9, o10, o13, fr, ps, rfl, fn⟩
     obtain⟨z,hz,rfl⟩:=bp hx
     have hjl:=(Ac.mp hz).1
     have mz:=cin z (Ad hz)
     have hjj:j<60:=by omega
     refine⟨_,rfl,_,rfl,(szl 2),fun t1 h1=>?_⟩
     refine nw h1 fun H6 s1 e1=>?_
     refine⟨_,rfl,_,rfl,(szl 2),fun t2 h2=>ao ⟨(szl 2),fun l2 hl2=>?_⟩⟩
     revert hl2;refine nw h2 fun H7 sn e2=>?_;intro hl2
     have s2:=s1.trans sn
     have e1:=sn _ _ e1
     refine nw hl2 fun H8 sn e3=>?_
     have s3:=s2.trans sn
     have e2:=sn _ _ e2
     have e1:=sn _ _ e1
     have fn8:=fn.more s3 (Aa _)
     have fl:=fn8.len
     refine⟨_,rfl,.sc rfl ⟨_,rfl,.bl ?_⟩⟩
     have pick:∀bb:Bool,∃(t:Addr) (x y:Str),atI [V.ref t1,V.ref t2] (if bb=true then 1 else 0)=some (.ref t)/\H8 t=some (.tup [.str x,.str y])/\x∈us/\y∈us/\(x,y)=(if bb=true then (e.2,z) else (z,e.2)):=fun bb=>by
      cases bb with
      | true=>exact⟨t2,e.2,z,at1,e2,m2,mz,rfl⟩
      | false=>exact⟨t1,z,e.2,at0,e1,mz,m2,rfl⟩
     obtain⟨t,x,y,hx,ht,mx,my,exy⟩:=pick (if false=true then !decide (V.str e.1=V.str "first") else decide (V.str e.1=V.str "first"))
     have exy:(x,y)=if e.1="first" then (e.2,z) else (z,e.2):=by
      rw[exy]
      by_cases q:e.1="first"
      ·rw[if_pos q,if_pos (by rw[if_neg (by decide),q];simp)]
      ·rw[if_neg q,if_neg (by rw[if_neg (by decide)];simpa using q)]
     have hzn:∀x',x'∈eX e (c0.take (j+1)) ↔ x'∈eX e (c0.take j)∨(z≠e.2/\x'=(x,y)):=fun x'=>by rw[so hz,exy]
     refine .lst (.of e3) hx ?_
     refine⟨_,rfl,_,rfl,.sc rfl ⟨_,rfl,ap (fun hne=>?_) (fun hne=>?_)⟩⟩
     ·have hne:z≠e.2:=fun q=>by rw[q,if_pos rfl,Ai rfl] at hne;cases hne
      have hz2:∀x',((EdT ks knot ts x'∨EdW (wn.take i) c0 x')∨x'∈eX e (c0.take j))∨x'=(x,y) ↔ (EdT ks knot ts x'∨EdW (wn.take i) c0 x')∨x'∈eX e (c0.take (j+1)):=fun x'=>by
       rw[hzn x',or_assoc]
       simp only[ne_eq,hne,not_false_eq_true,true_and]
      refine⟨_,rfl,_,rfl,.tr fn8.f fn8.r (aM (s:=x) (t:=y) ht) (aT (nmu fn8.i)) (cV (T.nm _ mx) (T.nm _ my)) (by show 1<=16;decide) ⟨_,rfl,ap (fun _=>?_) (fun hin=>?_)⟩⟩
      ·refine⟨_,rfl,.inl ⟨rfl,_,.of fn8.f⟩,_,rfl,ao ⟨lf,_,_,rfl,rfl,fn8.f,by omega,?_⟩⟩
       exact⟨_,_,_,_,_,_,rfl,(fn8.app ht mx my frf).to (Aa _) hz2⟩
      ·exact⟨_,_,_,_,fr,ps,rfl,fn8.to (Bb _) fun x'=>(fn8.has (p8 hin) x').trans (hz2 x')⟩
     ·have hne:z=e.2:=Classical.byContradiction fun q=>hne (by rw[if_pos rfl,Ay (fun w=>q (V.str.inj w))];rfl)
      exact dH ⟨_,_,_,_,fr,ps,rfl,fn8.to (Bb _) fun x'=>by rw[hzn x'];simp[hne]⟩
    ·rintro σ H5 ⟨o8,o9,o10,o13,fr,ps,rfl,fn⟩
     rw[z0,Ak (Aa _)] at fn
     exact⟨_,_,_,_,_,_,fr,ps,rfl,fn.to (by omega) fun x=>⟨fun q=>q.elim (fun q=>q.imp id fun w=>(fS he x).mpr (.inl w)) fun w=>.inr ((fS he x).mpr (.inr ⟨Ao hec,w⟩)),fun q=>q.elim (fun w=>.inl (.inl w)) fun w=>((fS he x).mp w).elim (fun z=>.inl (.inr z)) fun z=>.inr z.2⟩⟩
   ·exact⟨_,_,_,_,_,_,fr,ps,rfl,fn.to (by omega) fun x=>⟨fun q=>q.imp id fun w=>(fS he x).mpr (.inl w),fun q=>q.imp id fun w=>((fS he x).mp w).elim id fun z=>absurd (Ai z.1) hec⟩⟩
  ·rintro σ H5 ⟨o8,o9,o10,o11,o12,o13,fr,ps,rfl,fn⟩
   refine⟨_,rfl,k lf fr ps H5 fn.s frf fn.f fn.r ?_ fn.i fun x=>?_⟩
   rotate_left
   ·rw[rwlen,Ak (Aa _)] at fn
    exact fn.m x
   have:=fn.l
   omega
def Lp (H:Hp) (l:Addr) (ps:Prs):Prop:=∃refs,H l=some (.lst refs)/\RepAll H refs (ps.map aE)
section
variable {H H':Hp}{l p:Addr}{ps:Prs}
theorem Lp.but (h:Lp H l ps) (hp:H p=some (.dK ys)) (b:But p H H'):Lp H' l ps :=
 let ⟨r,h1,h2⟩:=h;⟨r,b _ _ (ba h1 hp (by intro z;cases z)) h1,dJ (iu hp b) h2⟩
theorem Lp.same (h:Lp H l ps) (s:Same H H'):Lp H' l ps:=let ⟨r,h1,h2⟩:=h;⟨r,s _ _ h1,h2.same s⟩
theorem Lp.other (h:Lp H l ps) (h2:H l2=some (.lst xs)) (n:l≠l2):Lp (upd H l2 (.lst ys)) l ps :=
 let ⟨r,h1,hr⟩:=h;⟨r,by rw[af n];exact h1,aO (aV h2 But.upd) hr⟩
theorem Lp.app (h1:H l=some (.lst refs)) (h2:RepAll H refs (ps.map aE)) (ht:H t=some (.tup [.str e.1,.str e.2])):Lp (upd H l (.lst (refs++[.ref t]))) l (ps++[e]):=by
 refine⟨_,ae,?_⟩
 rw[Ae]
 exact RepAll.append (aO (aV h1 But.upd) h2) (.cons (aV h1 But.upd (aM (s:=e.1) (t:=e.2) ht)) .nil)
theorem RepAll.takeP:∀ {xs:List V}{ds:List PyData}(k:Nat),RepAll H xs ds->RepAll H (xs.take k) (ds.take k)
 | _,_,0,_=>.nil
 | _,_,_+1,.nil=>.nil
 | _,_,k+1,.cons a b=>.cons a (RepAll.takeP k b)
theorem RepAll.dropP:∀ {xs:List V}{ds:List PyData}(k:Nat),RepAll H xs ds->RepAll H (xs.drop k) (ds.drop k)
 | _,_,0,r=>r
 | _,_,_+1,.nil=>.nil
 | _,_,k+1,.cons _ b=>RepAll.dropP k b
theorem Lp.ins (h1:H l=some (.lst refs)) (h2:RepAll H refs (ps.map aE)) (k:Nat) (ht:H t=some (.tup [.str e.1,.str e.2])):Lp (upd H l (.lst (refs.take k++.ref t::refs.drop k))) l (ps.take k++e::ps.drop k):=by
 refine⟨_,ae,?_⟩
 rw[Ae,AD,BI,List.map_drop]
 have r2:RepAll (upd H l (.lst (refs.take k++.ref t::refs.drop k))) refs (ps.map aE):=aO (aV h1 But.upd) h2
 exact RepAll.append (RepAll.takeP k r2) (.cons (aV h1 But.upd (aM (s:=e.1) (t:=e.2) ht)) (RepAll.dropP k r2))
end
theorem iX (hl:H l=some (.tup (c.map V.str))) (cn:c.Nodup) (hx:x∈c) (q:Q (.int ((MG.ix c x:Nat):Int)) H):lB (.ref l) [.str x] H Q:=by
 refine⟨l,_,.str x,MG.ix c x,.str x,rfl,rfl,hl,rfl,cg c,by rw[Al,MG.at_ix hx];rfl,by show (x==x)=true;simp,fun m z' hm hz=>?_,q⟩
 obtain⟨z,hz',rfl⟩:=bp hz
 have hne:z≠x:=fun e=>by rw[e] at hz';have:=MG.ix_at cn hz';omega
 show (z==x)=false
 simpa using hne
theorem at2 {α:Type}{x y z:α}{r:List α}:atI (x::y::z::r) 2=some z:=bJ (j:=2) rfl
def WnL (ks:Kn) (wn:Prs):Prop:=∀e∈wn,(e.1="first"/\∃k∈ks,k.2.head? = some e.2)∨(e.1="last"/\∃k∈ks,k.2.getLast? = some e.2)
theorem yc (h:WnL ks wn) (n:wn.Nodup):WnX ks wn:=⟨n,fun e he=>by
 rcases h e he with⟨h1,k,hk,h2⟩ | ⟨h1,k,hk,h2⟩
 ·exact⟨k,hk,.inl ⟨h1,h2⟩⟩
 ·exact⟨k,hk,.inr ⟨h1,h2⟩⟩⟩
theorem nL (T:Tre us ks) (h:ks[i]? = some kn) (hz:z∈kn.2):¬ ∃k∈ks.take i,z∈k.2:=fun ⟨k,hk,hzk⟩=>by
 have e:=fi T.knd (Bd hk) (Ad h) hzk hz
 subst e
 obtain⟨j,hj⟩:=AE hk
 have hl:=(Ac.mp hj).1
 rw[As] at hl
 rw[List.getElem?_take,if_pos (by omega)] at hj
 have h1:(ks.map (·.1))[j]? = some k.1:=by rw[Al,hj];rfl
 have h2:(ks.map (·.1))[i]? = some k.1:=by rw[Al,h];rfl
 have:=(MG.ix_at T.kn h1).symm.trans (MG.ix_at T.kn h2)
 omega
theorem sO {wn:Prs}{m:Nat}{e:Str × Str}(n:wn.Nodup) (h:e∉wn):(wn.take m++e::wn.drop m).Nodup:=by
 have p:(wn.take m++e::wn.drop m).Perm (e::wn):=by
  have:=List.perm_middle (a:=e) (l₁:=wn.take m) (l₂:=wn.drop m)
  rwa [Bz] at this
 exact p.nodup_iff.mpr (AL.mpr ⟨h,n⟩)
theorem dO {ks:Kn}{ts wn:Prs}{knot:Str}{c:List Str}(wok:∀e ∈ wn, e.1="first" ∨ e.1="last") (x:Str × Str):EdM ks ts wn knot c x ↔ x ∈ aL ks ts wn knot c := by
 unfold aL EdM
 rw[gp,Aj,Aj,BE,A8,A8]
 have rp:∀(e:Str × Str) (b:Bool), (b=true ↔ e.1 ≠ "first") -> (x ∈ bS b c e.2 ↔ x ∈ eX e c) := fun e b hb => by
  unfold bS eX
  by_cases q:e.1="first"
  ·have:b=false:=by
      cases b with
      | false=>rfl
      | true=>exact absurd q (hb.mp rfl)
   subst this
   simp[q]
  ·have:b=true:=hb.mpr q
   subst this
   simp[q]
 constructor
 ·rintro (⟨e, he, q⟩ | ⟨e, he, hc, q⟩)
  ·exact .inr (.inl ⟨e,he,q⟩)
  ·refine .inr (.inr ?_)
   rcases (wok e he) with w | w
   ·left
    exact⟨e.2,Ap.mpr ⟨hc,Ai (by rw[<- w];exact he)⟩,(rp e false ⟨(fun h=>by cases h),fun h=>absurd w h⟩).mpr q⟩
   ·right
    exact⟨e.2,Ap.mpr ⟨hc,Ai (by rw[<- w];exact he)⟩,(rp e true ⟨fun _ h=>absurd (w.symm.trans h) (by decide),fun _=>rfl⟩).mpr q⟩
 ·rintro (h | ⟨e,he,q⟩ | ⟨u,hu,q⟩ | ⟨u,hu,q⟩)
  ·cases h
  ·exact .inl ⟨e,he,q⟩
  ·obtain⟨h1,h2⟩:=Ap.mp hu
   exact .inr ⟨(("first":Str),u),Ao h2,h1,(rp (("first":Str),u) false ⟨(fun h=>by cases h),fun h=>absurd rfl h⟩).mp q⟩
  ·obtain⟨h1,h2⟩:=Ap.mp hu
   exact .inr ⟨(("last":Str),u),Ao h2,h1,(rp (("last":Str),u) true ⟨fun _ h=>absurd h (by show ¬ ("last":Str)="first";decide),fun _=>rfl⟩).mp q⟩
def TsF (ks:Kn) (ts:Prs):Prop:=∀e∈ts,∀k∈ks,∀x y,aH ks e.1 e.2=some (k.1,x,y)->MG.ix k.2 x<MG.ix k.2 y
def WsR (ks:Kn) (ts wn ws:Prs):Prop:=∀e∈ws,∃k∈ks,∃x y,aH ks e.1 e.2=some (k.1,x,y)/\MG.Rch (Tie (aL ks ts wn k.1 k.2)) y x
theorem qG (T:Tre us ks) (hkk:kk∈ks) (hk:k∈ks) (e:k.1=kk.1):k=kk:=by
 obtain⟨i,hi⟩:=AE hk
 obtain⟨j,hj⟩:=AE hkk
 have hi2:(ks.map (·.1))[i]? = some k.1:=by rw[Al,hi];rfl
 have hj2:(ks.map (·.1))[j]? = some k.1:=by rw[Al,hj,e];rfl
 have hij:i=j:=by rw[<- MG.ix_at T.kn hi2,<- MG.ix_at T.kn hj2]
 subst hij
 rw[hi] at hj
 exact Af hj
theorem iV (h:∀x∈es,x∈fs) (r:MG.Rch (Tie es) a b):MG.Rch (Tie fs) a b:=MG.Rch.map (fun x=>x) (fun a b q=>h _ q) r
def p4 (K:W.Frag):Sp:=fun vs H Q _=>∃p a,vs=[.ref p,.int 13]/\DPen K H p a /\
 ∀q us ks ts ws wn H',Rep H' (.ref q) (aJ ks ts ws wn)->Tre us ks->ks.head?.map (·.1)=some ("":Str)->0<us.length/\us.length<=13->TsI us ks ts->dG us ws->WnL ks wn->wn.Nodup->TsF ks ts->WsR ks ts wn ws->ts.length<=26->ws.length<=7->wn.length<=122->DPV H' p a->But p H H'->Q (.ref q) H'
theorem wg {f:Addr}{fd:FuncData}(F:Fun K "_law_house" "_law_house" mm f fd) (B:Blt mg) (c_law_draw:Cal P w K mg base 1 "_law_draw" ["_law_pen_here","_law_many"] (iY K)) (c_law_names:Cal P w K mg base 2 "_law_names" ["_law_pen_here","_law_many"] (p9 K)) (c_law_knots:Cal P w K mg base 2 "_law_knots" ["_law_pen_here","_law_names_here"] (pS K)) (c_law_part:Cal P w K mg base 2 "_law_part" ["_law_knots_here","_law_one","_law_other"] dY) (c_law_edges:Cal P w K mg base 3 "_law_edges" ["_law_house_here","_law_knot"] mR) (c_law_reached:Cal P w K mg base 1 "_law_reached" ["_law_edges_here","_law_one"] jy):FnOk P w K mg base CX0 4 f fd ["_law_pen_here","_law_most"] (p4 K):=by
 refine F.ok1 ["_law_pen_here","_law_most","_law_names_here","_law_knots_here","_law_ties","_law_k","_law_one","_law_other","_law_part_here","_law_kids","_law_wants","_law_name","_law_pick","_law_house_here","_law_waiting"] fun nd H Q E hr h=>?_
 obtain⟨p,a,rfl,hP,k⟩:=h
 refine⟨_,(aa (pst 2 nd (pc c_law_names hr (p2 (pv 0) (aG aK ab (pc c_law_draw hr (p2 (pv 0) (aG oN (pv 1) ab)))))))
  (aa (pst 3 nd (pc c_law_knots hr (p2 (pv 0) (pv 2))))
  (aa (pst 4 nd (aS bT))
  (aa (aZ PassesOwn.never rfl (dq rfl B.range (p1 (pc c_law_draw hr (p2 (pv 0) (aG gO ab (bh K B (p1 (pv 2)))))))) (ai (i:=5) nd rfl (Or.inl rfl)) (aa (pst 6 nd (px K hr (pv 2) (pc c_law_draw hr (p2 (pv 0) (bh K B (p1 (pv 2)))))))
  (aa (pst 7 nd (px K hr (pv 2) (pc c_law_draw hr (p2 (pv 0) (bh K B (p1 (pv 2)))))))
  (aa (pst 8 nd (pc c_law_part hr (ak (pv 3) (p2 (pv 6) (pv 7)))))
  (ac (aI (ag gm (pv 8) ci (au _)) (aa (pst 9 nd (px K hr (fL K rfl hr.units B (p1 (pv 3))) (px K hr (pv 8) ab)))
  (aa (aI (ag gi (gq (pv 9) (p1 (px K hr (pv 8) ab))) (gq (pv 9) (p1 (px K hr (pv 8) ab))) (au _)) (ac (zf (i:=6) (j:=7) rfl nd rfl rfl (by decide) rfl rfl (p2 (pv 7) (pv 6)) rfl)) av)
  (ac (aI (ag (cK K hr.units) (aB (p2 (pv 6) (pv 7))) (pv 4) (by with_unfolding_all rfl)) (ac (bm (cq K (pv 4) (p1 (aB (p2 (pv 6) (pv 7))))))) av)))) av))))))
  (aa (pst 10 nd (aS bT))
  (aa (aZ PassesOwn.never rfl (bc K (pv 3)) (bI (n:=2) K rfl (aF (ai (i:=11) nd rfl (Or.inl rfl)) (aF (ai (i:=9) nd rfl (Or.inl rfl)) bz))) (aa (pst 12 nd (pc c_law_draw hr (p2 (pv 0) ab)))
  (aa (aI (PW.pt (cx (ag (lC K hr.units) (pv 9) (aB bT) (au _)) (bY (ag (bL K hr.units) (pv 12) (aB (p2 ab ab)) (by with_unfolding_all rfl))))) (ac (bm (ig K (pv 10) (p2 (pc c_law_draw hr (p2 (pv 0) (aG aK (bh K B (p1 (pv 10))) ab))) (aB (p2 aA (px K hr (pv 9) ab))))))) av)
  (ac (aI (PW.pt (cx (ag gi (bh K B (p1 (pv 9))) ab (au _)) (bY (ag (bL K hr.units) (pv 12) (aB (p2 ab ab)) (by with_unfolding_all rfl))))) (ac (bm (ig K (pv 10) (p2 (pc c_law_draw hr (p2 (pv 0) (aG aK (bh K B (p1 (pv 10))) ab))) (aB (p2 aA (px K hr (pv 9) (gn fj ab)))))))) av)))))
  (aa (pst 13 nd (aB (ak (pv 3) (ak (cm K B (p1 (pv 4))) (p2 (aB bT) (cm K B (p1 (pv 10))))))))
  (aa (pst 14 nd (aS bT))
  (aa (aZ PassesOwn.never rfl (dq rfl B.range (p1 (pc c_law_draw hr (p2 (pv 0) ab)))) (ai (i:=5) nd rfl (Or.inl rfl)) (aa (pst 6 nd (px K hr (pv 2) (pc c_law_draw hr (p2 (pv 0) (bh K B (p1 (pv 2)))))))
  (aa (pst 7 nd (px K hr (pv 2) (pc c_law_draw hr (p2 (pv 0) (bh K B (p1 (pv 2)))))))
  (aa (pst 8 nd (pc c_law_part hr (ak (pv 3) (p2 (pv 6) (pv 7)))))
  (ac (aI (PW.pt (cx (ag gm (pv 8) ci (au _)) (bY (ag (cK K hr.units) (aB (p2 (pv 6) (pv 7))) (aG aK (pv 4) (pv 14)) (by with_unfolding_all rfl))))) (ac (aI (ag (bL K hr.units) (px K hr (pv 8) ab) (pc c_law_reached hr (p2 (pc c_law_edges hr (p2 (pv 13) (px K hr (pv 8) ab))) (px K hr (pv 8) ab))) (by with_unfolding_all rfl)) (ac (bm (cq K (pv 14) (p1 (aB (p2 (pv 6) (pv 7))))))) av)) av))))))
  (ac (am (aB (ak (pv 3) (ak (cm K B (p1 (pv 4))) (p2 (cm K B (p1 (pv 14))) (cm K B (p1 (pv 10)))))))))))))))))),?_⟩
 refine⟨_,rfl,_,rfl,_,rfl,_,_,rfl,rfl,p,a,_,rfl,hP,by decide,by decide,fun r1 H1 r10 r11 v1 b1=>.int (ao ?_)⟩
 obtain⟨n1,rfl⟩:=AX r10
 have r11:(n1:Int)<12:=r11
 refine⟨p,a,n1+2,(by show [V.ref p,V.int (2+(n1:Int))]=_;rw[show (2+(n1:Int))=((n1+2:Nat):Int) by omega]),hP.but b1 v1,by omega,fun ln us H2 ul und unm hln hln0 nln v2 b2=>?_⟩
 have b2:=b1.trans b2
 refine⟨_,rfl,_,rfl,p,a,ln,us,rfl,hP.but b2 v2,hln,und,unm,by omega,fun kt ks H3 rk T hd v3 b3=>?_⟩
 obtain⟨ys2,hp2⟩:=v2.at_dK
 have hln3:=b3 _ _ nln hln
 have b3:=b2.trans b3
 have unl:(List.map V.str us).length=us.length:=z0 ..
 refine⟨(szl 0),fun lt hlt=>?_⟩
 have s4:=Same.new (o:=.lst []) hlt
 have lp4:Lp (upd H3 lt (.lst [])) lt []:=⟨[],ae,.nil⟩
 have nlt:lt≠p:=Ne.symm (v3.ne hlt)
 have nltn:ln≠lt:=ah hln3 hlt
 have flt:H lt=none:=b3.free nlt hlt
 have v4:=v3.same s4
 have b4:=b3.trans (But.of_same (p:=p) s4)
 have rk4:=rk.same s4
 have hln4:=s4 _ _ hln3
 generalize upd H3 lt (.lst [])=H4 at s4 lp4 v4 b4 rk4 hln4 ⊢
 refine⟨_,rfl,_,rfl,_,_,rfl,Or.inl ⟨_,.of hln4,rfl⟩,_,_,rfl,rfl,?_⟩
 refine⟨.inl ⟨by decide,by decide⟩,p,a,_,rfl,hP.but b4 v4,by rw[unl];omega,by rw[unl];omega,fun r5 H5 r50 r51 v5 b5=>?_⟩
 rw[unl] at r51
 obtain⟨ys4,hp4⟩:=v4.at_dK
 have lp5:=lp4.but hp4 b5
 have hln5:=b5 _ _ nln hln4
 have rk5:=cZ hp4 b5 rk4
 have b5:=b4.trans b5
 have pickn:∀r:Int,0<=r->r<(((List.map V.str us).length:Nat):Int)->∃u∈us,atI (List.map V.str us) r=some (.str u):=fun r h0 h1=>by
  obtain⟨x,hx,mx⟩:=tT (xs:=List.map V.str us) (m:=(List.map V.str us).length) rfl h0 h1
  obtain⟨u,hu,rfl⟩:=Ag.mp mx
  exact⟨u,hu,hx⟩
 have nmu:∀ {ps:List (Str × Str)},dG us ps->∀e∈ps,Nm e.1/\Nm e.2:=fun h e he=>⟨unm _ (h e he).1,unm _ (h e he).2⟩
 have s1000:1000<=sizeLine:=by decide
 clear hlt s4 hp2 hp4 rk v1 b1 v2 b2 v3 v4 b4 hln4 hln3 rk4 lp4
 refine⟨_,rfl,by omega,by omega,?_⟩
 refine gh (fun i σ H'=>∃(o5 o6 o7 o8 o9:Option V) (ts:Prs),σ=[some (.ref p),some (.int 13),some (.ref ln),some (.ref kt),some (.ref lt),o5,o6,o7,o8,o9,none,none,none,none,none]/\Lp H' lt ts/\TsI us ks ts/\TsF ks ts/\ts.length<=i/\H' ln=some (.lst (List.map V.str us))/\Rep H' (.ref kt) (cv ks)/\DPV H' p a/\But p H H') ⟨none,none,none,none,none,[],rfl,lp5,(fun e he=>by cases he),(fun e he=>by cases he),Aa 0,hln5,rk5,v5,b5⟩ ?_ ?_
 ·rintro i σ H6 hi ⟨o5, o6, o7, o8, o9, ts, rfl, lp6, ti, tf, tl, hln6, rk6, v6, b6⟩
  have hi:i<26:=by
   have:i<(r5-0).toNat:=by simpa using hi
   omega
  obtain⟨ys6,hp6⟩:=v6.at_dK
  refine⟨_,rfl,_,rfl,_,rfl,_,_,rfl,Or.inl ⟨_,.of hln6,rfl⟩,p,a,_,rfl,hP.but b6 v6,by rw[unl];omega,by rw[unl];omega,fun r7 H7 r70 r71 v7 b7=>?_⟩
  obtain⟨u,hu,ax⟩:=pickn r7 r70 r71
  have lp7:=lp6.but hp6 b7
  have hln7:=b7 _ _ nln hln6
  have rk7:=cZ hp6 b7 rk6
  have b7:=b6.trans b7
  refine .lst (.of hln7) ax ?_
  obtain⟨ys7,hp7⟩:=v7.at_dK
  refine⟨_,rfl,_,rfl,_,rfl,_,_,rfl,Or.inl ⟨_,.of hln7,rfl⟩,p,a,_,rfl,hP.but b7 v7,by rw[unl];omega,by rw[unl];omega,fun r8 H8 r80 r81 v8 b8=>?_⟩
  obtain⟨v,hv,ay⟩:=pickn r8 r80 r81
  have lp8:=lp7.but hp7 b8
  have hln8:=b8 _ _ nln hln7
  have rk8:=cZ hp7 b8 rk7
  have b8:=b7.trans b8
  refine .lst (.of hln8) ay ?_
  refine⟨_,rfl,_,rfl,_,rfl,kt,us,ks,u,v,rfl,rk8,T,hu,hv,fun x H9 s9 hx9=>?_⟩
  have lp9:=lp8.same s9
  have hln9:=s9 _ _ hln8
  have rk9:=rk8.same s9
  have v9:=v8.same s9
  have b9:=b8.trans (But.of_same (p:=p) s9)
  cases qp:aH ks u v with
  | none =>
   rw[qp] at hx9
   have hx9:x=.non:=hx9
   subst hx9
   refine⟨_,rfl,.non ⟨_,rfl,ap (fun h=>absurd h (by decide)) (fun _=>?_)⟩⟩
   exact⟨_,_,_,_,_,ts,rfl,lp9,ti,tf,by omega,hln9,rk9,v9,b9⟩
  | some pp =>
   obtain⟨kq,u1,v1⟩:=pp
   rw[qp] at hx9
   obtain⟨t,rfl,ht⟩:=hx9
   obtain⟨pu,pv,mu,mv,ne⟩:=T.part hu hv qp
   refine⟨_,rfl,.non ⟨_,rfl,ap (fun _=>?_) (fun h=>absurd (by simp) h)⟩⟩
   obtain⟨kn,hkn,ekn⟩:=Ag.mp (T.par_in mu).2
   rw[pu] at ekn
   obtain⟨kq',c⟩:=kn
   have ekn:kq'=kq:=ekn
   subst ekn
   have uc:u1∈c:=T.kid mu (by rw[pu];exact hkn)
   have vc:v1∈c:=T.kid mv (by rw[pv];exact hkn)
   have cnd:c.Nodup:=by
    have:=T.knd
    unfold aU at this
    rw[List.flatMap_def] at this
    exact(BX (Ag.mpr ⟨(kq',c),hkn,rfl⟩)).nodup this
   refine⟨_,rfl,ao (dw rk9 T fun D dk hD hdk=>?_)⟩
   obtain⟨la,hva,hla⟩:=hdk _ hkn
   have sA:=Same.new (o:=.dK dk) hD
   refine⟨_,rfl,.tup (.of (sA _ _ ht)) at0 (.dic (.inl ⟨dk,.inr kq',.inl ae,rfl,hva.symm⟩) ?_)⟩
   have lpA:=lp9.same sA
   have hlnA:=sA _ _ hln9
   have rkA:=rk9.same sA
   have vA:=v9.same sA
   have bA:=b9.trans (But.of_same (p:=p) sA)
   have htA:=sA _ _ ht
   have hlaA:=sA _ _ hla
   generalize upd H9 D (.dK dk)=HA at sA lpA hlnA rkA vA bA htA hlaA ⊢
   refine dZ ?_
   dsimp only
   refine gQ (fun σ' H'=>H'=HA/\∃(x y:Str) (o5:Option V),σ'=[some (.ref p),some (.int 13),some (.ref ln),some (.ref kt),some (.ref lt),o5,some (.str x),some (.str y),some (.ref t),some (.ref la),none,none,none,none,none]/\x∈us/\y∈us/\(aH ks x y).isSome=true/\(∀k∈ks,∀a b,aH ks x y=some (k.1,a,b)->MG.ix k.2 a<MG.ix k.2 b)) ?_ ?_
   ·rintro σ' H' ⟨rfl,x,y,o5,rfl,hx,hy,hpo,hfw⟩
    refine⟨_,rfl,_,rfl,(szl 2),fun t1 h1=>?_⟩
    obtain⟨refs,hr1,hr2⟩:=lpA
    have s1:=Same.new (o:=.tup [V.str x,V.str y]) h1
    have e1:upd H' t1 (.tup [V.str x,V.str y]) t1=some (.tup [V.str x,V.str y]):=ae
    have psi:dG us ts:=fun e he=>⟨(ti e he).1,(ti e he).2.1⟩
    have rl:=hr2.len
    rw[z0] at rl
    refine⟨_,rfl,.tr (s1 _ _ hr1) (hr2.same s1) (aM (s:=x) (t:=y) e1) (aT (nmu psi)) (cV (unm _ hx) (unm _ hy)) (by show 1<=16;decide) ⟨_,rfl,?_⟩⟩
    have vB:=vA.same s1
    have bB:=bA.trans (But.of_same (p:=p) s1)
    have hlnB:=s1 _ _ hlnA
    have rkB:=rkA.same s1
    have hr1B:=s1 _ _ hr1
    have hr2B:=hr2.same s1
    generalize upd H' t1 (.tup [V.str x,V.str y])=HB at s1 e1 vB bB hlnB rkB hr1B hr2B ⊢
    refine ap (fun _=>?_) (fun _=>⟨_,_,_,_,_,ts,rfl,⟨refs,hr1B,hr2B⟩,ti,tf,by omega,hlnB,rkB,vB,bB⟩)
    refine⟨_,rfl,.inl ⟨rfl,_,.of hr1B⟩,_,rfl,_,rfl,(szl 2),fun t2 h2=>?_⟩
    refine nw h2 fun HC s2 e2=>?_
    have vC:=vB.same s2
    have bC:=bB.trans (But.of_same (p:=p) s2)
    have hlnC:=s2 _ _ hlnB
    have rkC:=rkB.same s2
    have hr1C:=s2 _ _ hr1B
    have hr2C:=hr2B.same s2
    refine ao ⟨lt,_,_,rfl,rfl,hr1C,by omega,?_⟩
    refine⟨_,_,_,_,_,ts++[(x,y)],rfl,Lp.app (e:=(x,y)) hr1C hr2C e2,fun e he=>?_,fun e he=>?_,by rw[Aq];show ts.length+1<=_;omega,by rw[af nltn];exact hlnC,fP hr1C But.upd rkC,vC.upd (Ne.symm nlt),bC.at flt⟩
    ·rcases Aj.mp he with he | he
     ·exact ti e he
     ·rw[Av.mp he];exact⟨hx,hy,hpo⟩
    ·rcases Aj.mp he with he | he
     ·exact tf e he
     ·rw[Av.mp he];exact hfw
   ·intro N hN
    refine⟨_,rfl,⟨_,_,rfl,hlaA⟩,_,rfl,.tup (.of htA) at1 (ao (iX hlaA cnd uc ⟨_,rfl,⟨_,_,rfl,hlaA⟩,_,rfl,.tup (.of htA) at2 (ao (iX hlaA cnd vc ⟨_,_,rfl,rfl,_,rfl,ap (fun hgt=>?_) (fun hgt=>?_)⟩))⟩))⟩
    ·refine⟨_,rfl,_,rfl,ao ⟨_,_,rfl,hN _ _ ⟨rfl,v,u,_,rfl,hv,hu,?_,?_⟩⟩⟩
     ·have e:aH ks v u=_:=jr "" (lin ks u) (lin ks v)
      rw[e]
      show ((aH ks u v).map _).isSome=true
      rw[qp];rfl
     ·have e:aH ks v u=_:=jr "" (lin ks u) (lin ks v)
      have e2:prt "" (lin ks u) (lin ks v)=some (kq',u1,v1):=qp
      intro k hk a b hab
      rw[e,e2] at hab
      have hab:some (kq',v1,u1)=some (k.1,a,b):=hab
      injection hab with hab
      injection hab with h1 h2
      injection h2 with h2 h3
      subst h2 h3
      have:=qG T hkn hk h1.symm
      subst this
      have hgt:((MG.ix c v1:Nat):Int)<((MG.ix c u1:Nat):Int):=Ao hgt
      show MG.ix c v1<MG.ix c u1
      omega
    ·refine hN _ _ ⟨rfl,u,v,_,rfl,hu,hv,by rw[qp];rfl,fun k hk a b hab=>?_⟩
     rw[qp] at hab
     injection hab with hab
     injection hab with h1 h2
     injection h2 with h2 h3
     subst h2 h3
     have:=qG T hkn hk h1.symm
     subst this
     have hgt:¬ ((MG.ix c v1:Nat):Int)<((MG.ix c u1:Nat):Int):=fun z=>hgt (Ai z)
     have hne:MG.ix c u1≠MG.ix c v1:=fun z=>ne (by
      have e1:=MG.at_ix uc
      have e2:=MG.at_ix vc
      rw[z,e2] at e1
      exact(Af e1).symm)
     show MG.ix c u1<MG.ix c v1
     omega
 ·rintro σ H6 ⟨o5, o6, o7, o8, o9, ts, rfl, lp6, ti, tf, tl, hln6, rk6, v6, b6⟩
  have tl:ts.length<=26:=by omega
  clear lp5 hln5 rk5 v5 b5
  refine⟨(szl 0),fun lw hlw=>?_⟩
  have nlw:lw≠p:=Ne.symm (v6.ne hlw)
  have nlwn:ln≠lw:=ah hln6 hlw
  have nlwt:lt≠lw:=by obtain⟨r,h1,_⟩:=lp6;exact ah h1 hlw
  have flw:H lw=none:=b6.free nlw hlw
  obtain⟨_,krefs,e0,hkt,krp⟩:=cY rk6
  cases e0
  have krl:=krp.len
  rw[z0] at krl
  have few:=T.few
  obtain⟨J,eJ⟩:∃J:Prs->Hp->Prop,J=fun wn H'=>Lp H' lw wn/\(WnL ks wn/\wn.Nodup)/\Lp H' lt ts/\H' ln=some (.lst (List.map V.str us))/\H' kt=some (.tup krefs)/\RepAll H' krefs (ks.map bN)/\DPV H' p a/\But p H H':=⟨_,rfl⟩
  have Js:∀wn H' H'',J wn H'->Same H' H''->J wn H'':=fun wn H' H'' h s=>by
   rw[eJ] at h ⊢
   obtain⟨h1,h2,h3,h4,h5,h6,h7,h8⟩:=h
   exact⟨h1.same s,h2,h3.same s,s _ _ h4,s _ _ h5,h6.same s,h7.same s,h8.trans (But.of_same s)⟩
  have Jd:∀wn H' H'',J wn H'->But p H' H''->DPV H'' p a->J wn H'':=fun wn H' H'' h b v=>by
   rw[eJ] at h ⊢
   obtain⟨h1,h2,h3,h4,h5,h6,h7,h8⟩:=h
   obtain⟨ys,hp⟩:=h7.at_dK
   exact⟨h1.but hp b,h2,h3.but hp b,b _ _ nln h4,dg hp b h5,dJ (iR hp b) h6,v,h8.trans b⟩
  have Ji:∀wn H' (refs:List V) (t:Addr) (e:Str × Str) (m:Nat),J wn H'->H' lw=some (.lst refs)->RepAll H' refs (wn.map aE)->H' t=some (.tup [.str e.1,.str e.2])->((e.1="first"/\∃k∈ks,k.2.head? = some e.2)∨(e.1="last"/\∃k∈ks,k.2.getLast? = some e.2))->e∉wn->J (wn.take m++e::wn.drop m) (upd H' lw (.lst (refs.take m++.ref t::refs.drop m))):=fun wn H' refs t e m h hr1 hr2 ht he hnw=>by
   rw[eJ] at h ⊢
   obtain⟨h1,h2,h3,h4,h5,h6,h7,h8⟩:=h
   refine⟨Lp.ins hr1 hr2 m ht,⟨fun x hx=>?_,sO h2.2 hnw⟩,h3.other hr1 nlwt,by rw[af nlwn];exact h4,by rw[af (ba h5 hr1 (by intro z;cases z))];exact h5,aO (df hr1 But.upd) h6,h7.upd (Ne.symm nlw),h8.at flw⟩
   rcases gT hx with rfl | hx
   ·exact he
   ·exact h2.1 x hx
  have J0:J [] (upd H6 lw (.lst [])):=by
   rw[eJ]
   have s:=Same.new (o:=.lst []) hlw
   exact⟨⟨[],ae,.nil⟩,⟨(fun e he=>by cases he),Bv⟩,lp6.same s,s _ _ hln6,s _ _ hkt,krp.same s,v6.same s,b6.trans (But.of_same s)⟩
  have Jv:∀wn H',J wn H'->DPV H' p a/\But p H H'/\H' kt=some (.tup krefs)/\RepAll H' krefs (ks.map bN)/\Lp H' lw wn:=fun wn H' h=>by rw[eJ] at h;exact⟨h.2.2.2.2.2.2.1,h.2.2.2.2.2.2.2,h.2.2.2.2.1,h.2.2.2.2.2.1,h.1⟩
  generalize upd H6 lw (.lst [])=H7 at J0 ⊢
  refine⟨_,rfl,kt,rfl,⟨_,.of (Jv _ _ J0).2.2.1⟩,?_⟩
  refine cC (xs:=krefs) (fun i σ H'=>∃(o5 o6 o7 o8 o9 o11 o12:Option V) (wn:Prs),σ=[some (.ref p),some (.int 13),some (.ref ln),some (.ref kt),some (.ref lt),o5,o6,o7,o8,o9,some (.ref lw),o11,o12,none,none]/\J wn H'/\(∀e∈wn,∃k∈ks.take i,e.2∈k.2)/\wn.length<=2 * i) ⟨o5,o6,o7,o8,o9,none,none,[],rfl,J0,(fun e he=>by cases he),AC _⟩ ?_ ?_ ?_
  ·rintro i σ H' hi ⟨_,_,_,_,_,_,_,wn,rfl,j,_⟩
   exact .of (Jv _ _ j).2.2.1
  ·rintro i x σ H8 hx ⟨o5, o6, o7, o8, o9, o11, o12, wn, rfl, j8, wt, wl⟩
   obtain⟨v8,b8,hkt8,krp8,_⟩:=Jv _ _ j8
   obtain⟨kn,ta,la,hki,rfl,hta,hla⟩:=eR krp8 hx
   have hkm:=Ad hki
   have hil:=(Ac.mp hki).1
   have up1:∀k,k∈ks.take i->k∈ks.take (i+1):=fun k hk=>by rw[Am];exact AR _ hk
   have kn1:kn∈ks.take (i+1):=by rw[Am,hki];exact AS _ (by show kn∈[kn];simp)
   refine⟨ta,_,rfl,.of hta,rfl,_,_,rfl,_,_,rfl,rfl,?_⟩
   refine⟨_,rfl,p,a,6,rfl,hP.but b8 v8,by decide,by decide,fun pk H9 _ _ v9 b9=>?_⟩
   obtain⟨ys8,hp8⟩:=v8.at_dK
   have j9:=Jd _ _ _ j8 b9 v9
   have hla9:=dg hp8 b9 hla
   refine dZ ?_
   dsimp only
   refine gQ (fun σ' H'=>∃(wn:Prs) (o5 o6 o7 o8:Option V),σ'=[some (.ref p),some (.int 13),some (.ref ln),some (.ref kt),some (.ref lt),o5,o6,o7,o8,some (.ref la),some (.ref lw),some (.str kn.1),some (.int pk),none,none]/\J wn H'/\(∀e∈wn,(∃k∈ks.take i,e.2∈k.2)∨(e.1="first"/\e.2∈kn.2))/\wn.length<=2 * i+1/\H' la=some (.tup (kn.2.map V.str))) ?_ ?_
   ·rintro σ' HA ⟨wn,o5,o6,o7,o8,rfl,jA,wtA,wlA,hlaA⟩
    have wt1:∀e∈wn,∃k∈ks.take (i+1),e.2∈k.2:=fun e he=>by
     rcases wtA e he with⟨k,hk,q⟩ | ⟨_,q⟩
     ·exact⟨k,up1 k hk,q⟩
     ·exact⟨kn,kn1,q⟩
    refine⟨_,rfl,_,_,rfl,Or.inr ⟨_,.of hlaA,rfl⟩,_,_,rfl,rfl,_,rfl,ap (fun h=>?_) (fun _=>dH ⟨_,_,_,_,_,_,_,wn,rfl,jA,wt1,by omega⟩)⟩
    have h:(1:Int)<(((kn.2.map V.str).length:Nat):Int):=Ao h
    rw[z0] at h
    refine⟨_,rfl,(szl 2),fun tq htq=>.seq (.inr (.of ae)) rfl rfl ⟨_,rfl,?_⟩⟩
    refine nw htq fun HB sB _=>?_
    have jB:=Js _ _ _ jA sB
    have hlaB:=sB _ _ hlaA
    refine ap (fun _=>?_) (fun _=>⟨_,_,_,_,_,_,_,wn,rfl,jB,wt1,by omega⟩)
    obtain⟨vB,bB,_,_,refs,hr1,hr2⟩:=Jv _ _ jB
    have rl:=hr2.len
    rw[z0] at rl
    obtain⟨ysB,hpB⟩:=vB.at_dK
    refine⟨_,rfl,.inl ⟨rfl,_,.of hr1⟩,_,rfl,_,rfl,_,_,rfl,Or.inl ⟨_,.of hr1,rfl⟩,.int ⟨p,a,_,rfl,hP.but bB vB,by omega,by omega,fun r3 HC r30 r31 vC bC=>?_⟩⟩
    have jC:=Jd _ _ _ jB bC vC
    have hlaC:=dg hpB bC hlaB
    obtain⟨_,_,_,_,refs2,hr3,hr4⟩:=Jv _ _ jC
    have rl2:=hr4.len
    rw[z0] at rl2
    obtain⟨m,rfl⟩:=AX r30
    obtain⟨z,hz⟩:∃z,kn.2.getLast? = some z:=by
     cases q:kn.2.getLast? with
     | none=>rw[List.getLast?_eq_none_iff] at q;rw[q] at h;exact absurd h (by decide)
     | some z=>exact⟨z,rfl⟩
    have az:atI (kn.2.map V.str) (-1)=some (.str z):=by
     obtain⟨ys,e⟩:=List.getLast?_eq_some_iff.mp hz
     rw[e,Ae]
     exact jz _ _
    refine⟨_,rfl,_,rfl,.tup (.of hlaC) az (ao ⟨(szl 2),fun t2 h2=>?_⟩)⟩
    refine nw h2 fun HD s2 e2=>?_
    have jD:=Js _ _ _ jC s2
    have hr3:=s2 _ _ hr3
    have hr4:=hr4.same s2
    refine ao ⟨lw,_,_,m,_,rfl,rfl,rfl,hr3,by omega,by omega,?_⟩
    have hzk:z∈kn.2:=List.mem_of_getLast? hz
    refine⟨_,_,_,_,_,_,_,_,rfl,Ji _ _ refs2 t2 ("last",z) m jD hr3 hr4 e2 (.inr ⟨rfl,kn,hkm,hz⟩) (fun w=>?_),fun e he=>?_,?_⟩
    ·rcases wtA _ w with q | ⟨q,_⟩
     ·exact nL T hki hzk q
     ·exact absurd (show ("last":Str)="first" from q) (by decide)
    ·rcases gT he with rfl | he
     ·exact⟨kn,kn1,hzk⟩
     ·exact wt1 e he
    rw[Aq,Aw,As,AY];omega
   ·intro N hN
    have fin:∀H',J wn H'->H' la=some (.tup (kn.2.map V.str))->N [some (.ref p),some (.int 13),some (.ref ln),some (.ref kt),some (.ref lt),o5,o6,o7,o8,some (.ref la),some (.ref lw),some (.str kn.1),some (.int pk),none,none] H':=fun H' j h=>hN _ _ ⟨wn,_,_,_,_,rfl,j,fun e he=>.inl (wt e he),by omega,h⟩
    refine⟨_,rfl,(szl 0),fun t0 h0=>?_⟩
    have sA:=Same.new (o:=.tup []) h0
    have jA:=Js _ _ _ j9 sA
    have hlaA:=sA _ _ hla9
    refine⟨la,t0,_,rfl,rfl,.of hlaA,ae,_,rfl,?_⟩
    generalize upd H9 t0 (.tup [])=HA at sA jA hlaA ⊢
    cases ek:kn.2 with
    | nil=>exact dH (fin _ jA hlaA)
    | cons z r =>
     refine oR ⟨_,rfl,(szl 2),fun tq htq=>.seq (.inr (.of ae)) rfl rfl ⟨_,rfl,?_⟩⟩
     refine nw htq fun HB sB _=>?_
     have jB:=Js _ _ _ jA sB
     have hlaB:=sB _ _ hlaA
     refine ap (fun _=>?_) (fun _=>fin _ jB hlaB)
     obtain⟨vB,bB,_,_,refs,hr1,hr2⟩:=Jv _ _ jB
     have rl:=hr2.len
     rw[z0] at rl
     obtain⟨ysB,hpB⟩:=vB.at_dK
     refine⟨_,rfl,.inl ⟨rfl,_,.of hr1⟩,_,rfl,_,rfl,_,_,rfl,Or.inl ⟨_,.of hr1,rfl⟩,.int ⟨p,a,_,rfl,hP.but bB vB,by omega,by omega,fun r3 HC r30 r31 vC bC=>?_⟩⟩
     have jC:=Jd _ _ _ jB bC vC
     have hlaC:=dg hpB bC hlaB
     obtain⟨_,_,_,_,refs2,hr3,hr4⟩:=Jv _ _ jC
     have rl2:=hr4.len
     rw[z0] at rl2
     obtain⟨m,rfl⟩:=AX r30
     have az:atI (kn.2.map V.str) 0=some (.str z):=by rw[ek];exact at0
     refine⟨_,rfl,.tup (.of hlaC) az (ao ⟨(szl 2),fun t2 h2=>?_⟩)⟩
     refine nw h2 fun HD s2 e2=>?_
     have jD:=Js _ _ _ jC s2
     have hlaD:=s2 _ _ hlaC
     have hr3:=s2 _ _ hr3
     have hr4:=hr4.same s2
     refine ao ⟨lw,_,_,m,_,rfl,rfl,rfl,hr3,by omega,by omega,?_⟩
     have hzk:z∈kn.2:=by rw[ek];exact A5 ..
     refine hN _ _ ⟨_,_,_,_,_,rfl,Ji _ _ refs2 t2 ("first",z) m jD hr3 hr4 e2 (.inl ⟨rfl,kn,hkm,by rw[ek];rfl⟩) (fun w=>nL T hki hzk (wt _ w)),fun e he=>(gT he).elim (fun q=>.inr (by rw[q];exact⟨rfl,hzk⟩)) fun q=>.inl (wt e q),?_,by rw[af (ba hlaD hr3 (by intro z;cases z))];exact hlaD⟩
     rw[Aq,Aw,As,AY];omega
  ·rintro σ H8 ⟨o5, o6, o7, o8, o9, o11, o12, wn, rfl, j8, _, wl⟩
   have wl:wn.length<=122:=by omega
   rw[eJ] at j8
   obtain⟨⟨wrefs,hw1,hw2⟩,⟨wok,wnd⟩,⟨trefs,ht1,ht2⟩,hln8,hkt8,krp8,v8,b8⟩:=j8
   clear Js Jd Ji J0 Jv eJ J
   refine⟨_,rfl,_,rfl,lt,_,rfl,.of ht1,fun tt htt=>⟨(szl 0),fun te hte=>⟨_,rfl,lw,wrefs,rfl,.of (Same.new hte _ _ (Same.new htt _ _ hw1)),fun tw htw=>ao ⟨(szl 4),fun hq hhq=>?_⟩⟩⟩⟩
   ·revert hte htw hhq; refine nw htt fun H9 s1 e1 => ?_; intro hte htw hhq
    revert htw hhq;refine nw hte fun HA s2 e2=>?_;intro htw hhq
    have e1:=s2 _ _ e1
    have s12:=s1.trans s2
    revert hhq;refine nw htw fun HB s3 e3=>?_;intro hhq
    have e1:=s3 _ _ e1
    have e2:=s3 _ _ e2
    have s13:=s12.trans s3
    have s4:=Same.new (o:=.tup [V.ref kt,V.ref tt,V.ref te,V.ref tw]) hhq
    have e4:upd HB hq (.tup [V.ref kt,V.ref tt,V.ref te,V.ref tw]) hq=some (.tup [V.ref kt,V.ref tt,V.ref te,V.ref tw]):=ae
    have sC:=s13.trans s4
    have rh:Rep (upd HB hq (.tup [V.ref kt,V.ref tt,V.ref te,V.ref tw])) (.ref hq) (aJ ks ts [] wn):=ce e4 (.tup (sC _ _ hkt8) (krp8.same sC)) (.tup (s4 _ _ e1) (ht2.same sC)) (.tup (s4 _ _ e2) .nil) (.tup (s4 _ _ e3) (hw2.same sC))
    have rkC:Rep (upd HB hq (.tup [V.ref kt,V.ref tt,V.ref te,V.ref tw])) (.ref kt) (cv ks):=.tup (sC _ _ hkt8) (krp8.same sC)
    have vC:=v8.same sC
    have bC:=b8.trans (But.of_same (p:=p) sC)
    have hlnC:=sC _ _ hln8
    have lpt:Lp (upd HB hq (.tup [V.ref kt,V.ref tt,V.ref te,V.ref tw])) lt ts:=⟨trefs,sC _ _ ht1,ht2.same sC⟩
    have lpw:Lp (upd HB hq (.tup [V.ref kt,V.ref tt,V.ref te,V.ref tw])) lw wn:=⟨wrefs,sC _ _ hw1,hw2.same sC⟩
    generalize upd HB hq (.tup [V.ref kt,V.ref tt,V.ref te,V.ref tw])=HC at rh rkC vC bC hlnC lpt lpw ⊢
    clear s1 s12 s13 s4 sC e1 e2 e3 e4 hhq htw hte htt hw1 hw2 ht1 ht2 hln8 hkt8 krp8 v8 b8 lp6 hln6 rk6 v6 b6 hkt krp hlw
    refine⟨(szl 0),fun lx hlx=>?_⟩
    have nlx:lx≠p:=Ne.symm (vC.ne hlx)
    have nlxn:ln≠lx:=ah hlnC hlx
    have nlxt:lt≠lx:=by obtain⟨r,h1,_⟩:=lpt;exact ah h1 hlx
    have nlxw:lw≠lx:=by obtain⟨r,h1,_⟩:=lpw;exact ah h1 hlx
    have flx:H lx=none:=bC.free nlx hlx
    have psi:dG us ts:=fun e he=>⟨(ti e he).1,(ti e he).2.1⟩
    obtain⟨J,eJ⟩:∃J:Prs->Hp->Prop,J=fun ws H'=>Lp H' lx ws/\(dG us ws/\WsR ks ts wn ws)/\Lp H' lt ts/\Lp H' lw wn/\H' ln=some (.lst (List.map V.str us))/\Rep H' (.ref hq) (aJ ks ts [] wn)/\Rep H' (.ref kt) (cv ks)/\DPV H' p a/\But p H H':=⟨_,rfl⟩
    have Js:∀ws H' H'',J ws H'->Same H' H''->J ws H'':=fun ws H' H'' h s=>by
     rw[eJ] at h ⊢
     obtain⟨h1,h2,h3,h4,h5,h6,h7,h8,h9⟩:=h
     exact⟨h1.same s,h2,h3.same s,h4.same s,s _ _ h5,h6.same s,h7.same s,h8.same s,h9.trans (But.of_same s)⟩
    have Jd:∀ws H' H'',J ws H'->But p H' H''->DPV H'' p a->J ws H'':=fun ws H' H'' h b v=>by
     rw[eJ] at h ⊢
     obtain⟨h1,h2,h3,h4,h5,h6,h7,h8,h9⟩:=h
     obtain⟨ys,hp⟩:=h8.at_dK
     exact⟨h1.but hp b,h2,h3.but hp b,h4.but hp b,b _ _ nln h5,ir hp b h6,cZ hp b h7,v,h9.trans b⟩
    have J0:J [] (upd HC lx (.lst [])):=by
     rw[eJ]
     have s:=Same.new (o:=.lst []) hlx
     exact⟨⟨[],ae,.nil⟩,⟨(fun e he=>by cases he),(fun e he=>by cases he)⟩,lpt.same s,lpw.same s,s _ _ hlnC,rh.same s,rkC.same s,vC.same s,bC.trans (But.of_same s)⟩
    have Jv:∀ws H',J ws H'->DPV H' p a/\But p H H'/\H' ln=some (.lst (List.map V.str us))/\Rep H' (.ref hq) (aJ ks ts [] wn)/\Rep H' (.ref kt) (cv ks)/\Lp H' lx ws/\Lp H' lt ts/\(dG us ws/\WsR ks ts wn ws)/\Lp H' lw wn:=fun ws H' h=>by rw[eJ] at h;exact⟨h.2.2.2.2.2.2.2.1,h.2.2.2.2.2.2.2.2,h.2.2.2.2.1,h.2.2.2.2.2.1,h.2.2.2.2.2.2.1,h.1,h.2.2.1,h.2.1,h.2.2.2.1⟩
    have Ja:∀ws H' (refs:List V) (t:Addr) (e:Str × Str),J ws H'->H' lx=some (.lst refs)->RepAll H' refs (ws.map aE)->H' t=some (.tup [.str e.1,.str e.2])->e.1∈us->e.2∈us->(∃k∈ks,∃x y,aH ks e.1 e.2=some (k.1,x,y)/\MG.Rch (Tie (aL ks ts wn k.1 k.2)) y x)->J (ws++[e]) (upd H' lx (.lst (refs++[.ref t]))):=fun ws H' refs t e h hr1 hr2 ht he1 he2 he3=>by
     rw[eJ] at h ⊢
     obtain⟨h1,h2,h3,h4,h5,h6,h7,h8,h9⟩:=h
     refine⟨Lp.app hr1 hr2 ht,⟨fun x hx=>?_,fun x hx=>?_⟩,h3.other hr1 nlxt,h4.other hr1 nlxw,by rw[af nlxn];exact h5,mZ hr1 But.upd h6,fP hr1 But.upd h7,h8.upd (Ne.symm nlx),h9.at flx⟩
     ·rcases Aj.mp hx with hx | hx
      ·exact h2.1 x hx
      ·rw[Av.mp hx];exact⟨he1,he2⟩
     ·rcases Aj.mp hx with hx | hx
      ·exact h2.2 x hx
      ·rw[Av.mp hx];exact he3
    generalize upd HC lx (.lst [])=HD at J0 ⊢
    obtain⟨vD,bD,_⟩:=Jv _ _ J0
    refine⟨_,rfl,p,a,7,rfl,hP.but bD vD,by decide,by decide,fun rw_ HE w0 w1 vE bE=>?_⟩
    have jE:=Jd _ _ _ J0 bE vE
    refine⟨_,rfl,by omega,by omega,?_⟩
    refine gh (fun i σ H'=>∃(o5 o6 o7 o8 o9 o11 o12:Option V) (ws:Prs),σ=[some (.ref p),some (.int 13),some (.ref ln),some (.ref kt),some (.ref lt),o5,o6,o7,o8,o9,some (.ref lw),o11,o12,some (.ref hq),some (.ref lx)]/\J ws H'/\ws.length<=i) ⟨o5,o6,o7,o8,o9,o11,o12,[],rfl,jE,AC _⟩ ?_ ?_
    ·rintro i σ H9 hi ⟨o5,o6,o7,o8,o9,o11,o12,ws,rfl,j9,wl9⟩
     have hi:i<7:=by
      have:i<(rw_-0).toNat:=by simpa using hi
      omega
     obtain⟨v9,b9,hln9,_⟩:=Jv _ _ j9
     refine⟨_,rfl,_,rfl,_,rfl,_,_,rfl,Or.inl ⟨_,.of hln9,rfl⟩,p,a,_,rfl,hP.but b9 v9,by rw[unl];omega,by rw[unl];omega,fun r7 HF r70 r71 v10 b10=>?_⟩
     obtain⟨u,hu,ax⟩:=pickn r7 r70 r71
     have jF:=Jd _ _ _ j9 b10 v10
     obtain⟨vF,bF,hlnF,_⟩:=Jv _ _ jF
     refine .lst (.of hlnF) ax ?_
     refine⟨_,rfl,_,rfl,_,rfl,_,_,rfl,Or.inl ⟨_,.of hlnF,rfl⟩,p,a,_,rfl,hP.but bF vF,by rw[unl];omega,by rw[unl];omega,fun r8 HG r80 r81 v11 b11=>?_⟩
     obtain⟨v,hv,ay⟩:=pickn r8 r80 r81
     have jG:=Jd _ _ _ jF b11 v11
     obtain⟨vG,bG,hlnG,_,rkG,_⟩:=Jv _ _ jG
     refine .lst (.of hlnG) ay ?_
     refine⟨_,rfl,_,rfl,_,rfl,kt,us,ks,u,v,rfl,rkG,T,hu,hv,fun x HI sI hxI=>?_⟩
     have jI:=Js _ _ _ jG sI
     cases qp:aH ks u v with
     | none =>
      rw[qp] at hxI
      have hxI:x=.non:=hxI
      subst hxI
      refine⟨_,rfl,.non ⟨_,rfl,ap (fun h=>absurd h (by decide)) (fun _=>dH ?_)⟩⟩
      exact⟨_,_,_,_,_,_,_,ws,rfl,jI,by omega⟩
     | some pp =>
      obtain⟨kq,u1,v1⟩:=pp
      rw[qp] at hxI
      obtain⟨t,rfl,ht⟩:=hxI
      obtain⟨pu,pv,mu,mv,ne⟩:=T.part hu hv qp
      refine⟨_,rfl,.non ⟨_,rfl,ap (fun _=>?_) (fun h=>absurd (by simp) h)⟩⟩
      obtain⟨_,_,_,_,_,⟨xr,hx1,hx2⟩,⟨tr,ht1,ht2⟩,⟨wsi,_⟩,_⟩:=Jv _ _ jI
      have xl:=hx2.len
      have trl:=ht2.len
      rw[z0] at xl trl
      refine⟨_,rfl,_,rfl,(szl 2),fun t1 h1=>?_⟩
      refine nw h1 fun HK s1 e1=>?_
      have jK:=Js _ _ _ jI s1
      have htK:=s1 _ _ ht
      have hx1:=s1 _ _ hx1
      have ht1:=s1 _ _ ht1
      have hx2:=hx2.same s1
      have ht2:=ht2.same s1
      refine⟨_,rfl,_,rfl,.lst ht1 hx1 (by omega) fun lq hlq=>?_⟩
      have s2:=Same.new (o:=.lst (tr++xr)) hlq
      have e2:upd HK lq (.lst (tr++xr)) lq=some (.lst (tr++xr)):=ae
      have jL:=Js _ _ _ jK s2
      have htL:=s2 _ _ htK
      have e1:=s2 _ _ e1
      have rq:RepAll (upd HK lq (.lst (tr++xr))) (tr++xr) ((ts++ws).map aE):=by rw[Ae];exact RepAll.append (ht2.same s2) (hx2.same s2)
      generalize upd HK lq (.lst (tr++xr))=HL at s2 e2 jL htL e1 rq ⊢
      have psw:dG us (ts++ws):=fun e he=>(Aj.mp he).elim (psi e) (wsi e)
      refine .tr e2 rq (aM (s:=u) (t:=v) e1) (aT (nmu psw)) (cV (unm _ hu) (unm _ hv)) (by show 1<=16;decide) ⟨_,rfl,?_⟩
      refine ap (fun _=>?_) (fun _=>⟨_,_,_,_,_,_,_,ws,rfl,jL,by omega⟩)
      obtain⟨kn,hkn,ekn⟩:=Ag.mp (T.par_in mu).2
      rw[pu] at ekn
      obtain⟨kq',c⟩:=kn
      have ekn:kq'=kq:=ekn
      subst ekn
      obtain⟨_,_,_,rhL,_⟩:=Jv _ _ jL
      refine⟨_,rfl,.tup (.of htL) at1 ⟨_,rfl,_,rfl,.tup (.of htL) at0 (ao ⟨hq,us,ks,ts,[],wn,kq',c,rfl,rhL,T,ti,fun e he=>?_,hkn,by omega,by omega,fun le er es HM sM hle0 hle rpe el esi esm=>?_⟩)⟩⟩
      ·rcases wok e he with⟨_,k',hk',hh⟩ | ⟨_,k',hk',hh⟩
       ·exact T.isIn hk' (List.mem_of_mem_head? hh)
       ·exact T.isIn hk' (List.mem_of_getLast? hh)
      ·have jM:=Js _ _ _ jL sM
       have htM:=sM _ _ htL
       refine⟨_,rfl,.tup (.of htM) at2 (ao ⟨le,er,us,es,v1,rfl,hle,rpe,esi,mv,T.len,fun lr seen HN sN hlr0 hlr hiff seen60=>?_⟩)⟩
       have jN:=Js _ _ _ jM sN
       refine .seq (.inl (.of hlr)) rfl (cg _) ⟨_,rfl,ap (fun hsn=>?_) (fun _=>⟨_,_,_,_,_,_,_,ws,rfl,jN,by omega⟩)⟩
       rw[if_neg (show ¬ false=true by decide),dU] at hsn
       have hrch:MG.Rch (Tie (aL ks ts wn kq' c)) v1 u1:=iV (fun x hx=>(dO (fun e he=>(wok e he).elim (fun z=>.inl z.1) fun z=>.inr z.1) x).mp ((esm x).mp hx)) ((hiff u1).mp (Ao hsn))
       obtain⟨_,_,_,_,_,⟨xr,hx1,hx2⟩,_⟩:=Jv _ _ jN
       have xl:=hx2.len
       rw[z0] at xl
       refine⟨_,rfl,.inl ⟨rfl,_,.of hx1⟩,_,rfl,_,rfl,(szl 2),fun t2 h2=>?_⟩
       refine nw h2 fun HO_ s3 e3=>?_
       have jO:=Js _ _ _ jN s3
       have hx1:=s3 _ _ hx1
       have hx2:=hx2.same s3
       refine ao ⟨lx,_,_,rfl,rfl,hx1,by omega,?_⟩
       refine⟨_,_,_,_,_,_,_,ws++[(u,v)],rfl,Ja _ _ xr t2 (u,v) jO hx1 hx2 e3 hu hv ⟨(kq',c),hkn,u1,v1,qp,hrch⟩,?_⟩
       rw[Aq];show ws.length+1<=i+1;omega
    ·rintro σ H9 ⟨o5,o6,o7,o8,o9,o11,o12,ws,rfl,j9,wl9⟩
     have wl9:ws.length<=7:=by omega
     obtain⟨v9,b9,_,_,rk9,⟨xr,hx1,hx2⟩,⟨tr,ht1,ht2⟩,⟨wsi,wsr⟩,⟨wr,hw1,hw2⟩⟩:=Jv _ _ j9
     refine⟨_,rfl,_,rfl,lt,tr,rfl,.of ht1,fun tt htt=>⟨_,rfl,lx,xr,rfl,.of (Same.new htt _ _ hx1),fun te hte=>⟨_,rfl,lw,wr,rfl,.of (Same.new hte _ _ (Same.new htt _ _ hw1)),fun tw htw=>ao ⟨(szl 4),fun q hq'=>?_⟩⟩⟩⟩
     revert hte htw hq';refine nw htt fun HF s1 e1=>?_;intro hte htw hq'
     revert htw hq';refine nw hte fun HG s2 e2=>?_;intro htw hq'
     have e1:=s2 _ _ e1
     have s12:=s1.trans s2
     revert hq';refine nw htw fun HI s3 e3=>?_;intro hq'
     have e1:=s3 _ _ e1
     have e2:=s3 _ _ e2
     have s13:=s12.trans s3
     have s4:=Same.new (o:=.tup [V.ref kt,V.ref tt,V.ref te,V.ref tw]) hq'
     have sC:=s13.trans s4
     exact k q us ks ts ws wn _ (ce ae (rk9.same sC) (.tup (s4 _ _ e1) (ht2.same sC)) (.tup (s4 _ _ e2) (hx2.same sC)) (.tup (s4 _ _ e3) (hw2.same sC))) T hd ⟨by omega,by omega⟩ ti wsi wok wnd tf wsr tl wl9 wl (v9.same sC) (b9.trans (But.of_same sC))
def KI (kvs:List (Key × V)) (us:List Str):Prop:=∀z,aw kvs z≠none->∃u∈us,z=.inr u
theorem KI.nil {us:List Str}:KI [] us:=fun z h=>absurd rfl h
theorem KI.put {kvs:List (Key × V)}{us:List Str}{u:Str}{v:V}(h:KI kvs us) (hu:u∈us):KI (bi kvs (.inr u) v) us:=fun z hz=>by
 by_cases q:z=.inr u
 ·exact⟨u,hu,q⟩
 ·rw[cH,if_neg q] at hz
  exact h z hz
def iT:Sp:=fun vs H Q _=>∃(q:_) (us:List Str) (ks ts ws wn:_),vs=[.ref q]/\Rep H (.ref q) (aJ ks ts ws wn)/\Tre us ks/\∀d kvs H',Same H H'->H d=none->H' d=some (.dK kvs)->ArK kvs us ks->KI kvs us->kvs.length<=us.length->Q (.ref d) H'
theorem vg {f:Addr}{fd:FuncData}(F:Fun K "homes" "homes" t6 f fd) (B:Blt mg):FnOk P w K mg base CX0 1 f fd ["house"] iT := by
 refine F.ok1 ["house","table","knot","child"] fun nd H Q E hr h=>?_
 obtain⟨q,us,ks,ts,ws,wn,rfl,R,T,k⟩:=h
 refine⟨_,(aa (pst 1 nd fY)
  (aa (aZ PassesOwn.never rfl (bc K (px K hr (pv 0) ab)) (ai (i:=2) nd rfl (Or.inl rfl)) (ac (aZ PassesOwn.never rfl (bc K (px K hr (pv 2) ab)) (ai (i:=3) nd rfl (Or.inl rfl)) (ac (bU (px K hr (pv 2) ab) (cO (pv 1) (pv 3) (du hr.units)))))))
  (ac (am (pv 1))))),?_⟩
 obtain⟨q',a,b,c,d4,e0,hq,R1,_⟩:=aX R
 cases e0
 obtain⟨a',refs,e0,ha,rp⟩:=cY R1
 cases e0
 have rlen:=rp.len
 rw[z0] at rlen
 have k60:(aU ks).length<=60:=by rw[T.perm.length_eq];exact T.len
 intro d hd
 have s0:=Same.new (o:=.dK []) hd
 refine⟨_,rfl,.tup (.of (s0 _ _ hq)) rfl ⟨a,rfl,⟨_,.of (s0 _ _ ha)⟩,?_⟩⟩
 refine cC (xs:=refs) (fun i σ H'=>∃o2 o3 kvs,σ=[some (.ref q),some (.ref d),o2,o3]/\ArN H H' d ks i 0 kvs/\KI kvs us) ?_ ?_ ?_ ?_
 ·exact⟨none,none,[],rfl,⟨s0,ae,AC _,(fun k hk=>by simp at hk),fun k _ u hu=>by simp at hu⟩,KI.nil⟩
 ·rintro i σ H' hi ⟨o2,o3,kvs,rfl,ar,ki⟩
  exact .of (ar.sm _ _ ha)
 ·rintro i x σ H' hx ⟨o2,o3,kvs,rfl,ar,ki⟩
  obtain⟨kn,ta,la,hk,rfl,hta,hla⟩:=eR rp hx
  refine⟨_,rfl,.tup (.of (ar.sm _ _ hta)) rfl ⟨la,rfl,⟨_,.of (ar.sm _ _ hla)⟩,?_⟩⟩
  refine cC (xs:=kn.2.map V.str) (fun j σ H'=>∃o3 kvs,σ=[some (.ref q),some (.ref d),some (.ref ta),o3]/\ArN H H' d ks i j kvs/\KI kvs us) ?_ ?_ ?_ ?_
  ·exact⟨o3,kvs,rfl,ar,ki⟩
  ·rintro j σ H' hj ⟨o3,kvs,rfl,ar,ki⟩
   exact .of (ar.sm _ _ hla)
  ·rintro j y σ H' hy ⟨o3,kvs,rfl,ar,ki⟩
   obtain⟨u,hu,rfl⟩:=bp hy
   have hr:=ar.room hk (Ac.mp hu).1 k60
   exact⟨_,rfl,.tup (.of (ar.sm _ _ hta)) rfl ⟨_,rfl,_,rfl,.dic (DPut.k (k:=.inr u) ar.at_ (aj (by omega))) ⟨_,_,rfl,ar.put hd T.knd hk hu,ki.put (T.perm.mem_iff.mp (A8.mpr ⟨kn,Ad hk,Ad hu⟩))⟩⟩⟩
  ·rintro σ H' ⟨o3,kvs,rfl,ar,ki⟩
   rw[z0] at ar
   exact⟨_,_,kvs,rfl,ar.next hk rfl,ki⟩
 ·rintro σ H' ⟨o2,o3,kvs,rfl,ar,ki⟩
  exact⟨_,rfl,k d kvs H' ar.sm hd ar.at_ (ar.fin T rlen) ki (by have hl:=ar.len;rw[rlen,Ak (Aa _),T.perm.length_eq] at hl;exact hl)⟩
def fz:Sp:=fun vs H Q _=>∃(q us ks ts ws wn:_) (k:Str × List Str),vs=[.ref q,.str k.1]/\Rep H (.ref q) (aJ ks ts ws wn)/\Tre us ks/\k∈ks/\∀l H',Same H H'->H l=none->H' l=some (.lst (List.map V.str k.2))->Q (.ref l) H'
theorem ph {f:Addr}{fd:FuncData}(F:Fun K "children" "children" lQ f fd) (B:Blt mg):FnOk P w K mg base CX0 1 f fd ["house","knot"] fz:=by
 refine F.ok1 ["house","knot"] fun nd H Q E hr h=>?_
 obtain⟨q,us,ks,ts,ws,wn,kk,rfl,R,T,hkk,k⟩:=h
 refine⟨_,(ac (am (iK K rfl B (p1 (px K hr (fL K rfl hr.units B (p1 (px K hr (pv 0) ab))) (pv 1)))))),?_⟩
 obtain⟨q',a,b,c,d4,e0,hq,R1,_⟩:=aX R
 cases e0
 refine⟨_,rfl,.tup (.of hq) rfl (ao (dw R1 T fun D dk hD hdk=>?_))⟩
 obtain⟨la,hva,hla⟩:=hdk kk hkk
 have s1:=Same.new (o:=.dK dk) hD
 refine⟨_,rfl,.dic (.inl ⟨dk,.inr kk.1,.inl ae,rfl,hva.symm⟩) ?_⟩
 generalize upd H D (.dK dk)=H1 at s1 ⊢
 refine ao ⟨_,rfl,.seq (.inr (.of (s1 _ _ hla))) fun l hl=>?_⟩
 exact k l _ (s1.trans (Same.new hl)) (bd s1 hl) ae
theorem jw:Nm "first":=by refine⟨by decide +kernel,by decide +kernel,?_⟩;decide +kernel
theorem xZ:Nm "last":=by refine⟨by decide +kernel,by decide +kernel,?_⟩;decide +kernel
theorem gG {z:Str}(h:z="first"∨z="last"):Nm z:=by
 rcases h with rfl | rfl
 ·exact jw
 ·exact xZ
def m9 (us:List Str) (wn:List (Str × Str)):Prop:=∀e∈wn,(e.1="first"∨e.1="last")/\e.2∈us
def oQ:Sp:=fun vs H Q _=>∃(q l:_) (us c:List Str) (ks ts ws wn word:_),vs=[.ref q,.ref l,.str word]/\Rep H (.ref q) (aJ ks ts ws wn)/\Tre us ks/\m9 us wn/\(word="first"∨word="last")/\H l=some (.lst (List.map V.str c))/\(∀u∈c,Nm u)/\c.length<=60/\∀D H',Same H H'->H D=none->H' D=some (.lst (List.map V.str (wU c wn word)))->Q (.ref D) H'
theorem td {f:Addr}{fd:FuncData}(F:Fun K "wanted" "wanted" kX f fd) (B:Blt mg):FnOk P w K mg base CX0 1 f fd ["house", "row", "word"] oQ := by
 refine F.ok1 ["house","row","word"] fun nd H Q E hr h=>?_
 obtain⟨q,l,us,c,ks,ts,ws,wn,word,rfl,R,T,wok,hw,hl,cnm,cl,k⟩:=h
 refine⟨_,(ac (am (bj (aD kX) ["house","row","word"] ["child"] [2,0] ["child","word","house"] rfl (be K (pv 1)) (fun _ _ _ _ _=>(ai (i:=0) (show (["child","word","house"]:List Str).Nodup by decide) rfl (Or.inl rfl))) (fun _ _ _ _ _=>(bv (ag (fK hr.units) (aB (p2 (pv 1) (pv 0))) (px K hr (pv 2) ab) (by with_unfolding_all rfl)))) (fun _ _ _ _ _=>(pv 0))))),?_⟩
 obtain⟨q',a,b,c3,d4,e0,hq,_,_,_,R4⟩:=aX R
 cases e0
 obtain⟨d4',rw4,e0,hd4,rpw⟩:=aP R4
 cases e0
 have cay:PyData.canLayAll0 (wn.map aE)=true:=aT fun e he=>⟨gG (wok e he).1,T.nm _ (wok e he).2⟩
 refine⟨_,rfl,l,rfl,⟨_,.of hl⟩,?_⟩
 refine bR (List.map V.str c) (fun D j acc σ' H'=>∃(o0:Option V),σ'=[o0,some (.str word),some (.ref q)]/\acc=List.map V.str (wU (c.take j) wn word)/\Same H H'/\H D=none) fun D hD=>⟨?_,?_,?_,?_⟩
 ·exact⟨none,rfl,rfl,Same.new hD,hD⟩
 ·rintro j acc σ' H' _ ⟨o0,rfl,_,sm,_⟩ _
  exact .of (sm _ _ hl)
 ·rintro j acc σ' H' v hv ⟨o0,rfl,rfl,sm,hD0⟩ hacc
  obtain⟨u,hu,rfl⟩:=bp hv
  have hjl:=(Ac.mp hu).1
  have ewU:wU (c.take (j+1)) wn word=wU (c.take j) wn word++(if (decide ((word,u)∈wn))=true then [u] else []):=by
   unfold wU
   rw[Am,hu,AI]
   congr 1
   show List.filter _ [u]=_
   rw[List.filter_cons,List.filter_nil]
  have alen:(wU (c.take j) wn word).length<=j:=by
   have:=AH (fun u=>decide ((word,u)∈wn)) (c.take j)
   rw[As] at this
   unfold wU
   omega
  dsimp only[aQ]
  refine⟨_,rfl,_,rfl,(szl 2),fun t ht=>?_⟩
  refine nw ht fun H2 st et=>?_
  have hacc2:=st _ _ hacc
  have sm2:=sm.trans st
  refine⟨_,rfl,.tup (.of (sm2 _ _ hq)) rfl ⟨d4,rw4,_,aE (word,u),rfl,sm2 _ _ hd4,rpw.same sm2,aM et,cay,em (e:=(word,u)) ⟨gG hw,cnm u (Ad hu)⟩,(by show 1<=16;decide),_,rfl,?_⟩⟩
  rw[if_neg (show ¬ false=true by decide),dR]
  refine ap (fun hc=>?_) (fun hc=>?_)
  ·rw[if_pos hc] at ewU
   exact⟨_,rfl,hacc2,by rw[z0];exact aj (by omega),_,rfl,by rw[ewU,Ae];rfl,aW sm2 hD0,hD0⟩
  ·rw[if_neg hc,AK] at ewU
   exact⟨hacc2,_,rfl,by rw[ewU],sm2,hD0⟩
 ·rintro acc σ' H' ⟨o0,rfl,rfl,sm,hD0⟩ hacc
  rw[z0,Ak (Aa _)] at hacc
  exact k D H' sm hD0 hacc
theorem jH (h1:H ta=some (.tup [.str k.1,.ref la])) (h2:H la=some (.tup (k.2.map V.str))):Rep H (.ref ta) (bN k):=.tup h1 (.cons (.str _) (.cons (.tup h2 (RepAll.of_strs _)) .nil))
def bg (knot:Str) (row:List Str) (k:Str × List Str):Str × List Str:=if k.1=knot then (knot,row) else k
def lU:Sp:=fun vs H Q _=>∃(q l:_) (ks:Kn) (ts ws wn knot row:_),vs=[.ref q,.str knot,.ref l]/\Rep H (.ref q) (aJ ks ts ws wn)/\H l=some (.lst (List.map V.str row))/\ks.length<=100/\∀q' H',Same H H'->Rep H' (.ref q') (aJ (ks.map (bg knot row)) ts ws wn)->Q (.ref q') H'
theorem pC (F:Fun K "with_row" "with_row" jd f fd) (B:Blt mg):FnOk P w K mg base CX0 1 f fd ["house", "knot", "row"] lU := by
 refine F.ok1 ["house","knot","row","knots"] fun nd H Q E hr h=>?_
 obtain⟨q,l,ks,ts,ws,wn,knot,row,rfl,R,hl,kl,k⟩:=h
 refine⟨_,(aa (dX (i:=3) nd rfl rfl (by rfl) (aD jd) ["house","knot","row","knots"] ["held"] [1,2] ["held","knot","row"] rfl (bc K (px K hr (pv 0) ab)) (fun _ _ _ _ _=>(ai (i:=0) (show (["held","knot","row"]:List Str).Nodup by decide) rfl (Or.inl rfl))) (fun _ _ _ _ _=>cP) (fun _ _ _ _ _=>(nX (ag (br hr.units) (px K hr (pv 0) ab) (pv 1) (au _)) (aB (p2 (pv 1) (cm K B (p1 (pv 2))))) (pv 0))))
  (ac (am (aB (ak (cm K B (p1 (pv 3))) (ak (px K hr (pv 0) ab) (p2 (px K hr (pv 0) ab) (px K hr (pv 0) ab)))))))),?_⟩
 obtain⟨q',a,b,c3,d4,e0,hq,R1,R2,R3,R4⟩:=aX R
 cases e0
 obtain⟨a',refs,e0,ha,rp⟩:=cY R1
 cases e0
 have rlen:=rp.len
 rw[z0] at rlen
 refine⟨_,rfl,.tup (.of hq) rfl ⟨a,rfl,⟨_,.of ha⟩,?_⟩⟩
 refine bX refs (fun D j acc σ' H'=>∃(o0:Option V),σ'=[o0,some (.str knot),some (.ref l)]/\RepAll H' acc (((ks.take j).map (bg knot row)).map bN)/\Same H H'/\H D=none) fun D hD=>⟨?_,?_,?_,?_⟩
 ·exact⟨none,rfl,.nil,Same.new hD,hD⟩
 ·rintro j acc σ' H' _ ⟨o0,rfl,_,sm,_⟩ _
  exact .of (sm _ _ ha)
 ·rintro j acc σ' H' v hv ⟨o0,rfl,ra,sm,hD0⟩ hacc
  obtain⟨kn,ta,la,hk,rfl,hta,hla⟩:=eR rp hv
  have hil:=(Ac.mp hk).1
  have alen:=ra.len
  rw[z0,z0,As] at alen
  have etk:(ks.take (j+1)).map (bg knot row)=(ks.take j).map (bg knot row)++[bg knot row kn]:=by
   rw[Am,hk,Ae];rfl
  refine iL ?_
  refine⟨_,rfl,.tup (.of (sm _ _ hta)) rfl ⟨_,rfl,.sc rfl ⟨_,rfl,?_⟩⟩⟩
  refine ap (fun h=>?_) (fun h=>?_)
  ·have hn:kn.1=knot:=by simpa using h
   refine⟨_,rfl,_,rfl,l,_,rfl,.of (sm _ _ hl),fun t1 h1=>ao ⟨(szl 2),fun t2 h2=>?_⟩⟩
   revert h2;refine nw h1 fun H1 s1 e1=>?_;intro h2
   refine nw h2 fun H2 s2 e2=>?_
   have e1:=s2 _ _ e1
   have s12:=s1.trans s2
   have hacc2:=s12 _ _ hacc
   refine⟨hacc2,aj (by omega),_,rfl,?_,aW (sm.trans s12) hD0,hD0⟩
   rw[etk,Ae]
   refine RepAll.append (aO (df hacc2 But.upd) (ra.same s12)) (.cons ?_ .nil)
   rw[show bg knot row kn=(knot,row) by unfold bg;rw[if_pos hn]]
   exact jH (k:=(knot,row)) (cw hacc2 But.upd e2) (cw hacc2 But.upd e1)
  ·have hn:kn.1≠knot:=fun z=>h (by simpa using z)
   refine⟨_,rfl,hacc,aj (by omega),_,rfl,?_,aW sm hD0,hD0⟩
   rw[etk,Ae]
   refine RepAll.append (aO (df hacc But.upd) ra) (.cons ?_ .nil)
   rw[show bg knot row kn=kn by unfold bg;rw[if_neg hn]]
   exact jH (cw hacc But.upd (sm _ _ hta)) (cw hacc But.upd (sm _ _ hla))
 ·rintro acc σ' H' ⟨o0,rfl,ra,sm,hD0⟩ hacc
  rw[rlen,Ak (Aa _)] at ra
  refine⟨_,rfl,D,acc,rfl,.of hacc,fun t1 h1=>?_⟩
  refine nw h1 fun H1 s1 e1=>?_
  have sA:=sm.trans s1
  have ra:=ra.same s1
  refine⟨_,rfl,.tup (.of (sA _ _ hq)) rfl ⟨_,rfl,.tup (.of (sA _ _ hq)) rfl ⟨_,rfl,.tup (.of (sA _ _ hq)) rfl (ao ⟨(szl 4),fun t2 h2=>?_⟩)⟩⟩⟩
  have s2:=Same.new (o:=.tup [V.ref t1,V.ref b,V.ref c3,V.ref d4]) h2
  have sB:=sA.trans s2
  exact k t2 _ sB (ce ae (.tup (s2 _ _ e1) (ra.same s2)) (R2.same sB) (R3.same sB) (R4.same sB))
theorem qg (T:Tre us ks) (hk:k∈ks):k.2.length<=60:=by
 have h1:=fX (xs:=k.2) (ys:=us) ?_ fun x hx=>T.isIn hk hx
 ·have:=T.len;omega
 ·have:=T.knd
  obtain⟨a,b,e⟩:=List.append_of_mem hk
  rw[e,dN] at this
  have:=(A4.mp this).2.1
  rw[show k::b=[k]++b from rfl,dN] at this
  have:=(A4.mp this).1
  rw[show aU [k]=k.2 by show [k].flatMap (·.2)=_;simp] at this
  exact this
def uJ (f:Kn->Str->List Str):Sp:=fun vs H Q _=>∃d kvs us ks u,vs=[.ref d,.str u]/\H d=some (.dK kvs)/\ArK kvs us ks/\Tre us ks/\u∈us/\∀l H',Same H H'->H l=none->H' l=some (.lst (List.map V.str (f ks u)))->Q (.ref l) H'
theorem vo (F:Fun K "line_down" "line_down" mE f fd) (B:Blt mg):FnOk P w K mg base CX0 1 f fd ["table", "one"] (uJ lin) := by
 refine F.ok1 ["table","one","line"] fun nd H Q E hr h=>?_
 obtain⟨d,kvs,us,ks,u,rfl,hd,ar,T,hu,k⟩:=h
 refine⟨_,(aa (pst 2 nd (aS (p1 (pv 1))))
  (aa (dP PassesOwn.never (ag (cE hr.units) (px K hr (pv 0) (px K hr (pv 2) (gn fj ab))) aA (au _)) (ac (bm (cq K (pv 2) (p1 (px K hr (pv 0) (px K hr (pv 2) (gn fj ab))))))))
  (aa (bm (sf K (pv 2)))
  (ac (am (pv 2)))))),?_⟩
 refine⟨_,rfl,(szl 1),fun ll hll=>?_⟩
 have s0:=Same.new (o:=.lst [V.str u]) hll
 refine⟨fun m σ H'=>∃(x:Str) (r:List Str),m=rkU us x/\σ=[some (.ref d),some (.str u),some (.ref ll)]/\H' ll=some (.lst (List.map V.str (r.reverse++[x])))/\x∈us/\lin ks u=lin ks (bq ks x)++(x::r)/\Same H H',
  ⟨_,u,[],rfl,rfl,ae,hu,T.lin hu,s0⟩,?_⟩
 rintro m σ H1 ⟨x,r,rfl,rfl,hl1,hx,hlin,s1⟩
 have at1:atI (List.map V.str (r.reverse++[x])) (-1)=some (.str x):=by rw[Ae];exact jz _ _
 have pl:=T.lin_len u (.inr hu)
 have p60:=T.rk60 hu
 have hlen:=congrArg List.length hlin
 rw[Aq,Aw] at hlen
 refine⟨_,rfl,_,rfl,_,rfl,.lst (.of hl1) at1 (.dic (.inl ⟨kvs,.inr x,.inl (s1 _ _ hd),rfl,(ar x hx).symm⟩) (.sc rfl ⟨_,rfl,?_⟩))⟩
 refine ap (fun h=>?_) (fun h=>?_)
 ·have hne:bq ks x≠"":=fun z=>by rw[z] at h;exact absurd h (by decide)
  have hpx:=(T.par_in hx).1.resolve_left hne
  have hrk:=T.rk hx
  refine⟨fun σ' H'=>∃(y:Str) (r:List Str),rkU us y<rkU us x/\σ'=[some (.ref d),some (.str u),some (.ref ll)]/\H' ll=some (.lst (List.map V.str (r.reverse++[y])))/\y∈us/\lin ks u=lin ks (bq ks y)++(y::r)/\Same H H',
   fun σ' H' ⟨y,r,h1,h2⟩=>⟨_,h1,y,r,rfl,h2⟩,?_⟩
  refine⟨_,rfl,.inl ⟨rfl,_,.of hl1⟩,_,rfl,_,rfl,_,rfl,.lst (.of hl1) at1 (.dic (.inl ⟨kvs,.inr x,.inl (s1 _ _ hd),rfl,(ar x hx).symm⟩) ⟨ll,_,_,rfl,rfl,hl1,by rw[z0,Aq,List.length_reverse];exact aj (by show _+1<=_;omega),?_⟩)⟩
  refine⟨bq ks x,x::r,hrk,rfl,?_,hpx,?_,aW s1 hll⟩
  ·rw[ae,List.reverse_cons];simp
  ·rw[hlin,T.lin hpx,By];rfl
 ·have hz:bq ks x="":=Classical.byContradiction fun z=>h (by rw[if_pos rfl,Ay (fun q=>z (V.str.inj q))];rfl)
  rw[hz,xY,List.nil_append] at hlin
  refine⟨_,rfl,.inl ⟨rfl,_,.of hl1⟩,ll,_,rfl,rfl,hl1,?_⟩
  refine⟨_,rfl,k ll _ (aW s1 hll) hll ?_⟩
  rw[ae,hlin,<- List.map_reverse,List.reverse_append,List.reverse_reverse];rfl
def jg:Sp:=fun vs H Q _=>∃d kvs us ks u v,vs=[.ref d,.str u,.str v]/\H d=some (.dK kvs)/\ArK kvs us ks/\Tre us ks/\u∈us/\v∈us/\∀x H',Same H H'->PrtV H' x (aH ks u v)->Q x H'
theorem rM (F:Fun K "parting_by" "parting_by" jP f fd) (B:Blt mg) (Zz:mg "zip"=none) (cline_down:Cal P w K mg base 1 "line_down" ["table", "one"] (uJ lin)):FnOk P w K mg base CX0 2 f fd ["table", "one", "other"] jg := by
 refine F.ok1 ["table","one","other","knot","pair"] fun nd H Q E hr h=>?_
 obtain⟨d,kvs,us,ks,u,v,rfl,hd,ar,T,hu,hv,k⟩:=h
 refine⟨_,(aa (pst 3 nd aA)
  (aa (aZ PassesOwn.never rfl (um K rfl Zz (p2 (pc cline_down hr (p2 (pv 0) (pv 1))) (pc cline_down hr (p2 (pv 0) (pv 2))))) (ai (i:=4) nd rfl (Or.inl rfl)) (aa (aI (ag (cE hr.units) (px K hr (pv 4) ab) (px K hr (pv 4) ab) (au _)) (ac (am (aB (ak (pv 3) (p2 (px K hr (pv 4) ab) (px K hr (pv 4) ab)))))) av)
  (ac (pst 3 nd (px K hr (pv 4) ab)))))
  (ac (am ci)))),?_⟩
 refine⟨_,rfl,_,rfl,d,kvs,us,ks,u,rfl,hd,ar,T,hu,fun la H1 s1 hla0 hla=>?_⟩
 refine⟨_,rfl,_,rfl,d,kvs,us,ks,v,rfl,s1 _ _ hd,ar,T,hv,fun lb H2 s2 hlb0 hlb=>?_⟩
 have hla2:=s2 _ _ hla
 refine⟨la,lb,_,_,rfl,.of hla2,.of hlb,?_⟩
 refine pJ (xs:=List.map V.str (lin ks u)) (ys:=List.map V.str (lin ks v)) (fun i σ H'=>∃o4,σ=[some (.ref d),some (.str u),some (.str v),some (.str ((tp (lin ks u)).getD i "")),o4]/\Same H2 H'/\aH ks u v=prt ((tp (lin ks u)).getD i "") ((lin ks u).drop i) ((lin ks v).drop i)) ?_ ?_ ?_ ?_
 ·exact⟨none,rfl,Same.refl H2,rfl⟩
 ·rintro i σ H' hi ⟨o4,rfl,sm,_⟩
  exact⟨.of (sm _ _ hla2),.of (sm _ _ hlb)⟩
 ·rintro i x y p σ H' hxy ⟨o4,rfl,sm,hp⟩ hpn
  rw[AT] at hxy
  obtain⟨x,hx,rfl⟩:=bp hxy.1
  obtain⟨y,hy,rfl⟩:=bp hxy.2
  have sp:=Same.new (o:=.tup [V.str x,V.str y]) hpn
  have ep:upd H' p (.tup [V.str x,V.str y]) p=some (.tup [V.str x,V.str y]):=ae
  have l1:=Ac.mp hx
  have l2:=Ac.mp hy
  rw[Bm l1.1,Bm l2.1,l1.2,l2.2] at hp
  have hp:aH ks u v=if x=y then prt x ((lin ks u).drop (i+1)) ((lin ks v).drop (i+1)) else some ((tp (lin ks u)).getD i "",x,y):=hp
  refine⟨_,rfl,.tup (.of ep) rfl ⟨_,rfl,.tup (.of ep) rfl (.sc rfl ⟨_,rfl,?_⟩)⟩⟩
  refine ap (fun h=>?_) (fun h=>?_)
  ·have hne:x≠y:=fun z=>by rw[z,if_pos rfl,Ai rfl] at h;cases h
   rw[if_neg hne] at hp
   refine⟨_,rfl,_,rfl,.tup (.of ep) rfl ⟨_,rfl,.tup (.of ep) rfl ⟨(szl 3),fun t ht=>?_⟩⟩⟩
   refine k (.ref t) _ (((s1.trans s2).trans sm).trans (sp.trans (Same.new ht))) ?_
   rw[hp]
   exact⟨t,rfl,ae⟩
  ·have he:x=y:=Classical.byContradiction fun z=>h (by rw[if_pos rfl,Ay (fun q=>z (V.str.inj q))];rfl)
   rw[if_pos he] at hp
   have e:(tp (lin ks u)).getD (i+1) ""=x:=by rw[AG];show ((lin ks u)[i]?).getD ""=x;rw[hx];rfl
   refine⟨_,rfl,.tup (.of ep) rfl ⟨some (.ref p),?_,sm.trans sp,?_⟩⟩
   ·rw[e];rfl
   ·rw[e];exact hp
 ·rintro σ H' ⟨o4, rfl, sm, hp⟩
  have hn:aH ks u v=none:=by
   rw[hp,A3,z0,z0]
   by_cases q:(lin ks u).length<=(lin ks v).length
   ·rw[A7 (l:=lin ks u) (by omega)];rfl
   ·rw[A7 (l:=lin ks v) (by omega)]
    cases (lin ks u).drop (min (lin ks u).length (lin ks v).length) <;> rfl
  refine k .non H' ((s1.trans s2).trans sm) ?_
  rw[hn];rfl
def gL:Sp:=fun vs H Q _=>∃q us ks ts ws wn u v,vs=[.ref q,.str u,.str v]/\Rep H (.ref q) (aJ ks ts ws wn)/\Tre us ks/\u∈us/\v∈us/\∀x H',Same H H'->PrtV H' x (aH ks u v)->Q x H'
theorem vS (F:Fun K "parting" "parting" ow f fd) (B:Blt mg) (chomes:Cal P w K mg base 1 "homes" ["house"] iT) (cparting_by:Cal P w K mg base 2 "parting_by" ["table","one","other"] jg):FnOk P w K mg base CX0 3 f fd ["house","one","other"] gL:=by
 refine F.ok1 ["house","one","other"] fun nd H Q E hr h=>?_
 obtain⟨q,us,ks,ts,ws,wn,u,v,rfl,R,T,hu,hv,k⟩:=h
 refine⟨_,(ac (am (pc cparting_by hr (ak (pc chomes hr (p1 (pv 0))) (p2 (pv 1) (pv 2)))))),?_⟩
 refine⟨_,rfl,q,us,ks,ts,ws,wn,rfl,R,T,fun d kvs H1 s1 hd0 hd ar _ _=>?_⟩
 exact⟨_,rfl,_,rfl,d,kvs,us,ks,u,v,rfl,hd,ar,T,hu,hv,fun x H2 s2 hx=>k x H2 (s1.trans s2) hx⟩
def jj:Option (Str × Str × Str)->PyData
 | none=>.none
 | some (k,x,y)=>.tuple [.str k,.str x,.str y]
theorem i0 (h:PrtV H v o):Rep H v (jj o):=by
 cases o with
 | none =>
  have h:v=.non:=h
  rw[h];exact .non
 | some t =>
  obtain⟨q,rfl,hq⟩:=h
  exact .tup hq (.cons (.str _) (.cons (.str _) (.cons (.str _) .nil)))
theorem bo (T:Tre us ks) (hk:k∈ks):k.2.Nodup:=by
 have:=T.knd
 unfold aU at this
 rw[List.flatMap_def] at this
 exact(BX (Ag.mpr ⟨k,hk,rfl⟩)).nodup this
theorem WnX.ok (T:Tre us ks) (W:WnX ks wn):m9 us wn:=fun e he=>by
 obtain⟨k,hk,f⟩:=W.at_ e he
 exact⟨by rcases f with⟨q,_⟩ | ⟨q,_⟩;exact .inl q;exact .inr q,T.isIn hk f.mem⟩
def fv (us:List Str) (ks:Kn) (ts:List (Str × Str)):Prop:=∀e∈ts,e.1∈us/\e.2∈us/\aH ks e.1 e.2≠none
theorem TsI.ok (h:TsI us ks ts):fv us ks ts:=fun e he=>⟨(h e he).1,(h e he).2.1,fun z=>by have:=(h e he).2.2;rw[z] at this;cases this⟩
theorem vX (h:kvs.map (·.1)=ds.map pK) (e:Str × Str) (v:V):(bi kvs (pK e) v).map (·.1)=(if e ∈ ds then ds else ds ++ [e]).map pK := by
 have hm:(kvs.any fun p=>decide (p.1=pK e))=decide (e∈ds):=by
  rw[AV,BK,decide_eq_true_iff]
  constructor
  ·rintro⟨p,hp,q⟩
   have:p.1∈kvs.map (·.1):=Ag.mpr ⟨p,hp,rfl⟩
   rw[h] at this
   obtain⟨f,hf,g⟩:=Ag.mp this
   have q:=Ao q
   rw[<- yk (g.trans q)];exact hf
  ·intro he
   have:pK e∈kvs.map (·.1):=by rw[h];exact Ag.mpr ⟨e,he,rfl⟩
   obtain⟨p,hp,g⟩:=Ag.mp this
   exact⟨p,hp,Ai g⟩
 unfold bi
 by_cases he:e∈ds
 ·rw[if_pos (by rw[hm];exact Ai he),if_pos he,<- h,AQ]
  refine List.map_congr_left fun p _=>?_
  show (if p.1=pK e then (p.1,v) else p).1=p.1
  split <;> rfl
 ·rw[if_neg (by rw[hm];simpa using he),if_neg he,Ae,Ae,h];rfl
def lF:Sp:=fun vs H Q _=>∃(a refs:_) (ps:Prs),vs=[.ref a]/\H a=some (.lst refs)/\RepAll H refs (ps.map aE)/\ps.length<=100000/\∀d kvs H',Same H H'->H d=none->H' d=some (.dT kvs)->kvs.map (·.1)=(bM [] ps).map pK->Q (.ref d) H'
theorem rH (F:Fun K "places_of" "places_of" kP f fd) (B:Blt mg):FnOk P w K mg base CX0 1 f fd ["things"] lF := by
 refine F.ok1 ["things","places","place","thing"] fun nd H Q E hr h=>?_
 obtain⟨a,refs,ps,rfl,ha,rp,hps,k⟩:=h
 have sz:200000<sizeLine:=by decide
 refine⟨_,(aa (pst 1 nd vY)
  (aa (aZ PassesOwn.never rfl (nP K rfl B.enumerate (p1 (pv 0))) (bI (n:=2) K rfl (aF (ai (i:=2) nd rfl (Or.inl rfl)) (aF (ai (i:=3) nd rfl (Or.inl rfl)) bz))) (ac (bU (pv 2) (cO (pv 1) (pv 3) (du hr.units)))))
  (ac (am (pv 1))))),?_⟩
 have rlen:=rp.len
 rw[z0] at rlen
 intro d hd
 have s0:=Same.new (o:=.dT []) hd
 refine⟨_,rfl,_,rfl,.lst (.of (s0 _ _ ha)) ?_⟩
 refine oM (xs:=refs) (fun i σ H'=>∃o1 o2 kvs,σ=[some (.ref a),some (.ref d),o1,o2]/\Same H H'/\H' d=some (.dT kvs)/\kvs.length<=i/\kvs.map (·.1)=(bM [] (ps.take i)).map pK) ?_ ?_ ?_ ?_
 ·exact⟨none,none,[],rfl,s0,ae,Aa _,rfl⟩
 ·rintro i σ H' hi ⟨o1,o2,kvs,rfl,sm,_⟩
  exact .of (sm _ _ ha)
 ·rintro i x σ H' p hx ⟨o1,o2,kvs,rfl,sm,hk,hkl,hks⟩ hp
  obtain⟨e,ta,he,rfl,hta⟩:=cF (rp.same sm) hx
  have hil:=(Ac.mp he).1
  have hdp:d≠p:=ah hk hp
  have hlen:=bw kvs (pK e) (V.int (i:Nat))
  refine⟨p,_,rfl,.of ae,rfl,_,_,rfl,_,_,rfl,rfl,?_⟩
  refine⟨_,rfl,_,rfl,_,rfl,.dic (DPut.t (k:=pK e) (by rw[af hdp];exact hk) (Same.new hp _ _ hta) (by omega)) ⟨_,_,_,rfl,?_,ae,by omega,?_⟩⟩
  ·intro b o hb
   rw[af (ah hb hd)]
   exact Same.new hp _ _ (sm _ _ hb)
  ·rw[vX hks,Am,he,iO];rfl
 ·rintro σ H' ⟨o1,o2,kvs,rfl,sm,hk,hkl,hks⟩
  rw[rlen,Ak (Aa _)] at hks
  exact⟨_,rfl,k d kvs H' sm hd hk hks⟩
def kT (ks:Kn) (e:Str × Str):PyData:=jj (aH ks e.1 e.2)
theorem p5 (h:Rep H v (jj o)):PrtV H v o:=by
 cases o with
 | none =>
  have h:Rep H v .none:=h
  cases h
  rfl
 | some t =>
  obtain⟨k,x,y⟩:=t
  obtain⟨q,ws,rfl,hq,r0⟩:=Rep.tupI h
  have r0:RepAll H ws (List.map PyData.str [k,x,y]):=r0
  have e:=RepAll.strs r0
  subst e
  exact⟨q,rfl,hq⟩
theorem j6 (hp:H p=some (.lst ys)) (b:But p H H') (h:Rep H v (jj o)):Rep H' v (jj o):=by
 have g:=p5 h
 refine i0 ?_
 cases o with
 | none=>exact g
 | some t=>obtain⟨q,e,hq⟩:=g;exact⟨q,e,cw hp b hq⟩
def kO:Sp:=fun vs H Q _=>∃(q us ks:_) (ts ws wn:Prs),vs=[.ref q]/\Rep H (.ref q) (aJ ks ts ws wn)/\Tre us ks/\fv us ks ts/\ts.length<=200/\∀l refs H',Same H H'->H l=none->H' l=some (.lst refs)->RepAll H' refs (ts.map (kT ks))->Q (.ref l) H'
theorem vf (F:Fun K "kept_partings" "kept_partings" fu f fd) (B:Blt mg) (chomes:Cal P w K mg base 1 "homes" ["house"] iT) (cparting_by:Cal P w K mg base 2 "parting_by" ["table","one","other"] jg):FnOk P w K mg base CX0 3 f fd ["house"] kO:=by
 refine F.ok1 ["house","table"] fun nd H Q E hr h=>?_
 obtain⟨q,us,ks,ts,ws,wn,rfl,R,T,tok,tl,k⟩:=h
 refine⟨_,(aa (bV (i:=1) nd rfl (Or.inr rfl) (pc chomes hr (p1 (pv 0))))
  (ac (am (bj (aD fu) ["house","table"] ["tie"] [1] ["tie","table"] rfl (bc K (px K hr (pv 0) ab)) (fun _ _ _ _ _=>(ai (i:=0) (show (["tie","table"]:List Str).Nodup by decide) rfl (Or.inl rfl))) (fun _ _ _ _ _=>cP) (fun _ _ _ _ _=>(pc cparting_by hr (ak (pv 1) (p2 (px K hr (pv 0) ab) (px K hr (pv 0) ab))))))))),?_⟩
 refine⟨_,rfl,q,us,ks,ts,ws,wn,rfl,R,T,fun d kvs H1 s1 hd0 hd ar _ _=>?_⟩
 obtain⟨q',a,b,c,d4,e0,hq,_,R2,_⟩:=aX (R.same s1)
 cases e0
 obtain⟨b',rb,e0,hb,rpb⟩:=aP R2
 cases e0
 have rblen:=rpb.len
 rw[z0] at rblen
 refine⟨_,rfl,.tup (.of hq) rfl ⟨b,rfl,⟨_,.of hb⟩,?_⟩⟩
 refine bX rb (fun D j acc σ' H'=>∃(o0:Option V),σ'=[o0,some (.ref d)]/\RepAll H' acc ((ts.take j).map (kT ks))/\Same H1 H'/\H1 D=none) fun D hD=>⟨?_,?_,?_,?_⟩
 ·exact⟨none,rfl,.nil,Same.new hD,hD⟩
 ·rintro j acc σ' H' _ ⟨o0,rfl,_,sm,_⟩ _
  exact .of (sm _ _ hb)
 ·rintro j acc σ' H' v hv ⟨o0,rfl,rp,sm,hD0⟩ hacc
  obtain⟨e,ta,he,rfl,hta⟩:=cF rpb hv
  have hil:=(Ac.mp he).1
  obtain⟨hu,hv',_⟩:=tok e (Ad he)
  have alen:=rp.len
  rw[z0,As] at alen
  refine iL ?_
  refine⟨_,rfl,_,rfl,.tup (.of (sm _ _ hta)) rfl ⟨_,rfl,.tup (.of (sm _ _ hta)) rfl (ao ⟨d,kvs,us,ks,e.1,e.2,rfl,sm _ _ hd,ar,T,hu,hv',fun x H3 s3 px=>?_⟩)⟩⟩
  have hacc3:=s3 _ _ hacc
  refine⟨hacc3,aj (by omega),_,rfl,?_,aW (sm.trans s3) hD0,hD0⟩
  rw[Am,he,Ae]
  exact RepAll.append (aO (j6 hacc3 But.upd) (rp.same s3)) (.cons (j6 hacc3 But.upd (i0 px)) .nil)
 ·rintro acc σ' H' ⟨o0,rfl,rp,sm,hD0⟩ hacc
  rw[rblen,Ak (Aa _)] at rp
  exact k D acc H' (s1.trans sm) (bd s1 hD0) hacc rp
structure Fnd (H H':Hp) (lf:Addr) (us:List Str) (fr:List V) (ps:List (Str × Str)) (n:Nat):Prop where
 f:H' lf=some (.lst fr)
 r:RepAll H' fr (ps.map aE)
 i:dG us ps
 l:ps.length<=n
 s:Same H H'
theorem Fnd.more (h:Fnd H H' lf us fr ps n) (s:Same H' H2) (hm:n<=m):Fnd H H2 lf us fr ps m:=⟨s _ _ h.f,h.r.same s,h.i,Az h.l hm,h.s.trans s⟩
theorem Fnd.len (h:Fnd H H' lf us fr ps n):fr.length<=n:=by
 have:=h.r.len
 rw[z0] at this
 have:=h.l
 omega
def mT (ks:Kn) (ts wn:Prs) (k:Str × List Str):PyData:=.tuple [.tuple (k.2.map PyData.str),bW (aL ks ts wn k.1 k.2)]
theorem qt {H:Hp}{ks:Kn}{refs:List V}{ts:Prs}(rp:RepAll H refs (ts.map (kT ks))) {j:Nat}{x:V}(hx:refs[j]? = some x):∃e,ts[j]? = some e/\PrtV H x (aH ks e.1 e.2):=by
 obtain⟨d,hd,rd⟩:=rp.get hx
 rw[Al] at hd
 cases q:ts[j]? with
 | none=>rw[q] at hd;cases hd
 | some e =>
  rw[q] at hd
  have hd:kT ks e=d:=Af hd
  rw[<- hd] at rd
  exact⟨e,rfl,p5 rd⟩
theorem Fnd.ext (h:Fnd H H' lf us fr ps n) (r:RepAll H' acc (qs.map aE)) (i:dG us qs) (hq:qs.length<=m) (hl:H lf=none):Fnd H (upd H' lf (.lst (fr++acc))) lf us (fr++acc) (ps++qs) (n+m):=by
 refine⟨ae,?_,fun e he=>?_,by rw[Aq];have:=h.l;omega,aW h.s hl⟩
 ·rw[Ae]
  exact RepAll.append (aO (aV h.f But.upd) h.r) (aO (aV h.f But.upd) r)
 ·rcases Aj.mp he with q | q
  ·exact h.i e q
  ·exact i e q
theorem md (last:Bool) {c:List Str}{j:Nat}{u ch:Str}(h:c[j]? = some ch):bS last (c.take (j+1)) u=bS last (c.take j) u++(if ch=u then [] else [if last then (ch,u) else (u,ch)]):=by
 unfold bS
 rw[Am,h,AI,Ae]
 congr 1
 show List.map _ (List.filter _ [ch])=_
 rw[List.filter_cons,List.filter_nil]
 by_cases hz:ch=u
 ·rw[if_neg (by simpa using hz),if_pos hz];rfl
 ·rw[if_pos (by simpa using hz),if_neg hz];rfl
theorem im (last:Bool) (c:List Str) (u:Str):(bS last c u).length<=c.length:=by
 unfold bS
 rw[z0]
 exact AH _ _
theorem i6 (last:Bool) (hc:∀z∈c,z∈us) (hu:u∈us):dG us (bS last c u):=fun e he=>by
 unfold bS at he
 obtain⟨z,hz,rfl⟩:=Ag.mp he
 have hz:=hc z (Ap.mp hz).1
 cases last
 ·exact⟨hu,hz⟩
 ·exact⟨hz,hu⟩
theorem ko (c:List Str) (wn:Prs) (word:Str):(wU c wn word).length<=c.length:=by
 unfold wU
 exact AH _ _
theorem mV (h:u∈wU c wn word):u∈c:=by
 unfold wU at h
 exact(Ap.mp h).1
theorem sL {H:Hp}{kvs:List (List Key × V)}{es:Prs}{rs:List V}(hk:kvs.map (·.1)=es.map pK) (hl:rs.length=kvs.length) (h:∀(i:Nat) (k:List Key × V), kvs[i]? = some k -> ∃q, rs[i]? = some (V.ref q) /\ H q=some (.tup (k.1.map kV))):RepAll H rs (es.map aE) := by
 induction es generalizing kvs rs with
 | nil =>
  have:kvs=[]:=by simpa using hk
  subst this
  have:rs=[]:=by simpa using hl
  subst this
  exact .nil
 | cons e es ih =>
  cases kvs with
  | nil=>simp at hk
  | cons k kvs =>
   cases rs with
   | nil=>simp at hl
   | cons r rs =>
    rw[AD,AD] at hk
    injection hk with h1 h2
    obtain⟨q,g1,g2⟩:=h 0 k rfl
    have g1:r=.ref q:=Af g1
    subst g1
    rw[h1] at g2
    exact .cons (aM g2) (ih h2 (by simpa using hl) fun i k' hk'=>h (i+1) k' hk')
theorem xK (T:Tre us ks) (tok:fv us ks ts) (knot:Str):dG us (ts.filterMap (cG ks knot)) := fun e he => by
 obtain⟨z,hz,q⟩:=BE.mp he
 obtain⟨hu,hv',_⟩:=tok z hz
 unfold cG at q
 cases hpo:aH ks z.1 z.2 with
 | none=>rw[hpo] at q;cases q
 | some t3 =>
  obtain⟨kq,x1,y1⟩:=t3
  rw[hpo] at q
  obtain⟨_,_,hx1,hy1,_⟩:=T.part hu hv' hpo
  have q:(if kq=knot then some (x1,y1) else none)=some e:=q
  by_cases hz:kq=knot
  ·rw[if_pos hz] at q
   rw[<- Af q]
   exact⟨hx1,hy1⟩
  ·rw[if_neg hz] at q
   cases q
def oC:Sp:=fun vs H Q _=>∃(q lp us ks:_) (ts ws wn:Prs) (k:Str × List Str) (refs:_),vs=[.ref q,.str k.1,.ref lp]/\Rep H (.ref q) (aJ ks ts ws wn)/\Tre us ks/\fv us ks ts/\WnX ks wn/\k∈ks/\ts.length<=200/\H lp=some (.lst refs)/\RepAll H refs (ts.map (kT ks))/\∀x H',Same H H'->Rep H' x (mT ks ts wn k)->Q x H'
theorem ue {f:Addr}{fd:FuncData}(F:Fun K "view_by" "view_by" gM f fd) (B:Blt mg) (cchildren:Cal P w K mg base 1 "children" ["house", "knot"] fz) (cwanted:Cal P w K mg base 1 "wanted" ["house", "row", "word"] oQ) (cplaces_of:Cal P w K mg base 1 "places_of" ["things"] lF):FnOk P w K mg base CX0 2 f fd ["house", "knot", "partings"] oC := by
 refine F.ok1 ["house","knot","partings","row","pairs","unit"] fun nd H Q E hr h=>?_
 obtain⟨q,lp,us,ks,ts,ws,wn,kk,refs,rfl,R,T,tok,WX,hkk,tl,hlp,rpp,k⟩:=h
 have wok:=WnX.ok T WX
 have ulen:=T.len
 have sz:200000<sizeLine:=by decide
 have kin:∀u∈kk.2,u∈us:=fun u hu=>T.isIn hkk hu
 have klen:kk.2.length<=60:=by
  have:=fX (bo T hkk) kin
  omega
 refine⟨_,(aa (pst 3 nd (pc cchildren hr (p2 (pv 0) (pv 1))))
  (aa (dX (i:=4) nd rfl rfl (by rfl) (aD gM) ["house","knot","partings","row","pairs","unit"] ["part"] [1] ["part","knot"] rfl (be K (pv 2)) (fun _ _ _ _ _=>(ai (i:=0) (show (["part","knot"]:List Str).Nodup by decide) rfl (Or.inl rfl))) (fun _ _ _ _ _=>(bv (ag (br hr.units) (px K hr (pv 0) ab) (pv 1) (au _)))) (fun _ _ _ _ _=>(aB (p2 (px K hr (pv 0) ab) (px K hr (pv 0) ab)))))
  (aa (aZ PassesOwn.never rfl (be K (pc cwanted hr (ak (pv 0) (p2 (pv 3) aA)))) (ai (i:=5) nd rfl (Or.inr rfl)) (ac (bm (nN K (pv 4) (p1 (bj (aD gM) ["house","knot","partings","row","pairs","unit"] ["child"] [5] ["child","unit"] rfl (be K (pv 3)) (fun _ _ _ _ _=>(ai (i:=0) (show (["child","unit"]:List Str).Nodup by decide) rfl (Or.inl rfl))) (fun _ _ _ _ _=>(bv (ag (cE hr.units) (pv 0) (pv 1) (au _)))) (fun _ _ _ _ _=>(aB (p2 (pv 1) (pv 0))))))))))
  (aa (aZ PassesOwn.never rfl (be K (pc cwanted hr (ak (pv 0) (p2 (pv 3) aA)))) (ai (i:=5) nd rfl (Or.inr rfl)) (ac (bm (nN K (pv 4) (p1 (bj (aD gM) ["house","knot","partings","row","pairs","unit"] ["child"] [5] ["child","unit"] rfl (be K (pv 3)) (fun _ _ _ _ _=>(ai (i:=0) (show (["child","unit"]:List Str).Nodup by decide) rfl (Or.inl rfl))) (fun _ _ _ _ _=>(bv (ag (cE hr.units) (pv 0) (pv 1) (au _)))) (fun _ _ _ _ _=>(aB (p2 (pv 0) (pv 1))))))))))
  (ac (am (aB (p2 (cm K B (p1 (pv 3))) (xq rfl B (p1 (pc cplaces_of hr (p1 (pv 4))))))))))))),?_⟩
 refine⟨_,rfl,_,rfl,q,us,ks,ts,ws,wn,kk,rfl,R,T,hkk,fun la H1 s1 hla0 hla=>?_⟩
 have rlen:=rpp.len
 rw[z0] at rlen
 refine⟨_,rfl,lp,rfl,⟨_,.of (s1 _ _ hlp)⟩,?_⟩
 refine bR refs (fun D j acc σ' H'=>∃(o0:Option V),σ'=[o0,some (.str kk.1)]/\RepAll H' acc (((ts.take j).filterMap (cG ks kk.1)).map aE)/\acc.length<=j/\Same H1 H'/\H1 D=none) fun lf hlf=>⟨?_,?_,?_,?_⟩
 ·exact⟨none,rfl,.nil,Aa _,Same.new hlf,hlf⟩
 ·rintro j acc σ' H' _ ⟨o0,rfl,_,_,sm,_⟩ _
  exact .of (sm _ _ (s1 _ _ hlp))
 ·rintro j acc σ' H' v hv ⟨o0, rfl, rp, al, sm, hlf0⟩ hacc
  obtain⟨e,he,pv⟩:=qt (rpp.same (s1.trans sm)) hv
  have hil:=(Ac.mp he).1
  obtain⟨hu,hv',hpn⟩:=tok e (Ad he)
  cases hpo:aH ks e.1 e.2 with
  | none=>exact absurd hpo hpn
  | some t3 =>
   obtain⟨kq,x1,y1⟩:=t3
   rw[hpo] at pv
   obtain⟨t,rfl,ht⟩:=pv
   have eb:cG ks kk.1 e=if kq=kk.1 then some (x1,y1) else none:=by unfold cG;rw[hpo]
   have etk:(ts.take (j+1)).filterMap (cG ks kk.1)=(ts.take j).filterMap (cG ks kk.1)++(if kq=kk.1 then some (x1,y1) else none:Option (Str × Str)).toList:=by
    rw[Am,he,List.filterMap_append,<- eb]
    cases h:cG ks kk.1 e <;> simp[h]
   clear eb
   dsimp only[aQ]
   refine⟨_,rfl,.tup (.of ht) rfl ⟨_,rfl,.sc rfl ⟨_,rfl,?_⟩⟩⟩
   refine ap (fun hq=>?_) (fun hq=>?_)
   ·have hq:kq=kk.1:=Classical.byContradiction fun z=>by rw[if_neg (by decide),Ay (fun w=>z (V.str.inj w))] at hq;cases hq
    rw[if_pos hq] at etk
    refine⟨_,rfl,.tup (.of ht) rfl ⟨_,rfl,.tup (.of ht) rfl ⟨(szl 2),fun t2 ht2=>?_⟩⟩⟩
    refine nw ht2 fun H2 st et=>?_
    have hacc2:=st _ _ hacc
    have sm2:=sm.trans st
    have rp2:=rp.same st
    refine⟨hacc2,aj (by omega),_,rfl,?_,by rw[Aq];show _+1<=_;omega,aW sm2 hlf0,hlf0⟩
    rw[etk,Ae]
    exact RepAll.append (aO (aV hacc2 But.upd) rp2) (.cons (aV hacc2 But.upd (aM et)) .nil)
   ·have hq:kq≠kk.1:=fun z=>hq (by rw[if_neg (by decide),z,Ai rfl])
    rw[if_neg hq] at etk
    refine⟨hacc,_,rfl,?_,by omega,sm,hlf0⟩
    rw[etk,show (none:Option (Str × Str)).toList=[] from rfl,AK]
    exact rp
 ·rintro acc σ' H2 ⟨o0, rfl, rp, al, sm, hlf0⟩ hacc
  rw[rlen,Ak (Aa _)] at rp
  have s2:=s1.trans sm
  have frf:H lf=none:=bd s1 hlf0
  have hla2:=sm _ _ hla
  have nla:la≠lf:=ah hla hlf0
  have fn0:Fnd H H2 lf us acc (ts.filterMap (cG ks kk.1)) 200:=by
   refine⟨hacc,rp,fun e he=>?_,?_,s2⟩
   ·exact xK T tok _ e he
   ·exact Az (List.length_filterMap_le _ _) tl
  generalize ebs:ts.filterMap (cG ks kk.1)=bs at fn0
  refine⟨_,rfl,_,rfl,q,la,us,kk.2,ks,ts,ws,wn,"first",rfl,R.same s2,T,wok,(.inl rfl),hla2,(fun u hu=>T.nm _ (kin u hu)),klen,fun D1 H3 s3 hD0 hD=>?_⟩
  have fn1:=fn0.more s3 (Aa _)
  have nD:D1≠lf:=Ne.symm (ah fn0.f hD0)
  have hla3:=s3 _ _ hla2
  refine⟨D1,rfl,⟨_,.of hD⟩,?_⟩
  refine cS (xs:=List.map V.str (wU kk.2 wn "first")) (fun i σ H'=>∃(o5:Option V) (fr:List V),σ=[some (.ref q),some (.str kk.1),some (.ref lp),some (.ref la),some (.ref lf),o5]/\Fnd H H' lf us fr (bs++((wU kk.2 wn "first").take i).flatMap (bS false kk.2)) (200+i * 60)/\H' la=some (.lst (List.map V.str kk.2))/\H' D1=some (.lst (List.map V.str (wU kk.2 wn "first")))) ?_ ?_ ?_ ?_
  ·exact⟨_,_,rfl,by rw[List.take_zero,List.flatMap_nil,AK];exact fn1,hla3,hD⟩
  ·rintro i σ H' hi ⟨o5,fr,rfl,_,_,hD⟩
   exact .of hD
  ·rintro i x σ H4 hx ⟨o5, fr, rfl, fn4, hla4, hD4⟩
   obtain⟨u,hu,rfl⟩:=bp hx
   have hil:=(Ac.mp hu).1
   have hi60:=Az (ko kk.2 wn "first") klen
   have uin:=kin u (mV (Ad hu))
   have flen:=fn4.len
   refine⟨_,rfl,.inl ⟨rfl,_,.of fn4.f⟩,_,rfl,la,rfl,⟨_,.of hla4⟩,?_⟩
   refine bR (List.map V.str kk.2) (fun D j acc σ' H'=>∃(o0:Option V),σ'=[o0,some (.str u)]/\RepAll H' acc ((bS false (kk.2.take j) u).map aE)/\acc.length<=j/\Same H4 H'/\H4 D=none) fun D hDn=>⟨?_,?_,?_,?_⟩
   ·exact⟨none,rfl,.nil,Aa _,Same.new hDn,hDn⟩
   ·rintro j acc σ' H' _ ⟨o0,rfl,_,_,sm,_⟩ _
    exact .of (sm _ _ hla4)
   ·rintro j acc σ' H' v hv ⟨o0,rfl,rp,al,sm,hD0'⟩ hacc
    obtain⟨ch,hch,rfl⟩:=bp hv
    have hjl:=(Ac.mp hch).1
    have est:=md false (u:=u) hch
    dsimp only[aQ]
    refine⟨_,rfl,_,rfl,.sc rfl ⟨_,rfl,?_⟩⟩
    refine ap (fun hz=>?_) (fun hz=>?_)
    ·have hz:ch≠u:=fun z=>by rw[if_pos rfl,z,Ai rfl] at hz;cases hz
     rw[if_neg hz] at est
     refine⟨_,rfl,_,rfl,(szl 2),fun t2 ht2=>?_⟩
     refine nw ht2 fun H5 st et=>?_
     have hacc2:=st _ _ hacc
     have sm2:=sm.trans st
     have rp2:=rp.same st
     refine⟨hacc2,aj (by omega),_,rfl,?_,by rw[Aq];show _+1<=_;omega,aW sm2 hD0',hD0'⟩
     rw[est,Ae]
     exact RepAll.append (aO (aV hacc2 But.upd) rp2) (.cons (aV hacc2 But.upd (aM et)) .nil)
    ·have hz:ch=u:=Classical.byContradiction fun z=>hz (by rw[if_pos rfl,Ay (fun w=>z (V.str.inj w))];rfl)
     rw[if_pos hz,AK] at est
     exact⟨hacc,_,rfl,by rw[est];exact rp,by omega,sm,hD0'⟩
   ·rintro acc σ' H5 ⟨o0,rfl,rp,al,sm,hD0'⟩ hacc
    rw[z0] at al
    rw[z0,Ak (Aa _)] at rp
    have fn5:=fn4.more sm (Aa _)
    have fx:=fn5.ext (m:=60) rp (i6 false kin uin) (Az (im false kk.2 u) klen) frf
    refine ao ⟨lf,D,_,_,rfl,rfl,fn5.f,hacc,by omega,?_⟩
    refine⟨_,fr++acc,rfl,?_,by rw[af nla];exact sm _ _ hla4,by rw[af nD];exact sm _ _ hD4⟩
    have e:bs++((wU kk.2 wn "first").take (i+1)).flatMap (bS false kk.2)=bs++((wU kk.2 wn "first").take i).flatMap (bS false kk.2)++bS false kk.2 u:=by
     rw[Am,hu,BQ,By]
     simp
    rw[e]
    exact fx.more (Same.refl _) (by omega)
  ·rintro σ H6 ⟨o5, fr1, rfl, fn6, hla6, _⟩
   have hi60:=Az (ko kk.2 wn "first") klen
   rw[z0,Ak (Aa _)] at fn6
   have fn6:=fn6.more (m:=3800) (Same.refl _) (by omega)
   generalize efs:bs++(wU kk.2 wn "first").flatMap (bS false kk.2)=fs at fn6
   refine⟨_,rfl,_,rfl,q,la,us,kk.2,ks,ts,ws,wn,"last",rfl,R.same fn6.s,T,wok,(.inr rfl),hla6,(fun u hu=>T.nm _ (kin u hu)),klen,fun D2 H3 s3 hD0 hD=>?_⟩
   have fn1:=fn6.more s3 (Aa _)
   have nD:D2≠lf:=Ne.symm (ah fn6.f hD0)
   have hla3:=s3 _ _ hla6
   refine⟨D2,rfl,⟨_,.of hD⟩,?_⟩
   refine cS (xs:=List.map V.str (wU kk.2 wn "last")) (fun i σ H'=>∃(o5:Option V) (fr:List V),σ=[some (.ref q),some (.str kk.1),some (.ref lp),some (.ref la),some (.ref lf),o5]/\Fnd H H' lf us fr (fs++((wU kk.2 wn "last").take i).flatMap (bS true kk.2)) (3800+i * 60)/\H' la=some (.lst (List.map V.str kk.2))/\H' D2=some (.lst (List.map V.str (wU kk.2 wn "last")))) ?_ ?_ ?_ ?_
   ·exact⟨_,_,rfl,by rw[List.take_zero,List.flatMap_nil,AK];exact fn1,hla3,hD⟩
   ·rintro i σ H' hi ⟨o5,fr,rfl,_,_,hD⟩
    exact .of hD
   ·rintro i x σ H4 hx ⟨o5, fr, rfl, fn4, hla4, hD4⟩
    obtain⟨u,hu,rfl⟩:=bp hx
    have hil:=(Ac.mp hu).1
    have hi60:=Az (ko kk.2 wn "last") klen
    have uin:=kin u (mV (Ad hu))
    have flen:=fn4.len
    refine⟨_,rfl,.inl ⟨rfl,_,.of fn4.f⟩,_,rfl,la,rfl,⟨_,.of hla4⟩,?_⟩
    refine bR (List.map V.str kk.2) (fun D j acc σ' H'=>∃(o0:Option V),σ'=[o0,some (.str u)]/\RepAll H' acc ((bS true (kk.2.take j) u).map aE)/\acc.length<=j/\Same H4 H'/\H4 D=none) fun D hDn=>⟨?_,?_,?_,?_⟩
    ·exact⟨none,rfl,.nil,Aa _,Same.new hDn,hDn⟩
    ·rintro j acc σ' H' _ ⟨o0,rfl,_,_,sm,_⟩ _
     exact .of (sm _ _ hla4)
    ·rintro j acc σ' H' v hv ⟨o0,rfl,rp,al,sm,hD0'⟩ hacc
     obtain⟨ch,hch,rfl⟩:=bp hv
     have hjl:=(Ac.mp hch).1
     have est:=md true (u:=u) hch
     dsimp only[aQ]
     refine⟨_,rfl,_,rfl,.sc rfl ⟨_,rfl,?_⟩⟩
     refine ap (fun hz=>?_) (fun hz=>?_)
     ·have hz:ch≠u:=fun z=>by rw[if_pos rfl,z,Ai rfl] at hz;cases hz
      rw[if_neg hz] at est
      refine⟨_,rfl,_,rfl,(szl 2),fun t2 ht2=>?_⟩
      refine nw ht2 fun H5 st et=>?_
      have hacc2:=st _ _ hacc
      have sm2:=sm.trans st
      have rp2:=rp.same st
      refine⟨hacc2,aj (by omega),_,rfl,?_,by rw[Aq];show _+1<=_;omega,aW sm2 hD0',hD0'⟩
      rw[est,Ae]
      exact RepAll.append (aO (aV hacc2 But.upd) rp2) (.cons (aV hacc2 But.upd (aM et)) .nil)
     ·have hz:ch=u:=Classical.byContradiction fun z=>hz (by rw[if_pos rfl,Ay (fun w=>z (V.str.inj w))];rfl)
      rw[if_pos hz,AK] at est
      exact⟨hacc,_,rfl,by rw[est];exact rp,by omega,sm,hD0'⟩
    ·rintro acc σ' H5 ⟨o0,rfl,rp,al,sm,hD0'⟩ hacc
     rw[z0] at al
     rw[z0,Ak (Aa _)] at rp
     have fn5:=fn4.more sm (Aa _)
     have fx:=fn5.ext (m:=60) rp (i6 true kin uin) (Az (im true kk.2 u) klen) frf
     refine ao ⟨lf,D,_,_,rfl,rfl,fn5.f,hacc,by omega,?_⟩
     refine⟨_,fr++acc,rfl,?_,by rw[af nla];exact sm _ _ hla4,by rw[af nD];exact sm _ _ hD4⟩
     have e:fs++((wU kk.2 wn "last").take (i+1)).flatMap (bS true kk.2)=fs++((wU kk.2 wn "last").take i).flatMap (bS true kk.2)++bS true kk.2 u:=by
      rw[Am,hu,BQ,By]
      simp
     rw[e]
     exact fx.more (Same.refl _) (by omega)
   ·rintro σ H7 ⟨o5,fr2,rfl,fn7,hla7,_⟩
    have hi60:=Az (ko kk.2 wn "last") klen
    rw[z0,Ak (Aa _)] at fn7
    have fn7:=fn7.more (m:=7400) (Same.refl _) (by omega)
    have evw:aL ks ts wn kk.1 kk.2=bM [] (fs++(wU kk.2 wn "last").flatMap (bS true kk.2)):=by
     unfold aL
     rw[ebs,<- By,efs]
    generalize fs++(wU kk.2 wn "last").flatMap (bS true kk.2)=ps at fn7 evw
    refine⟨_,rfl,la,_,rfl,.of hla7,fun l1 hl1=>?_⟩
    refine nw hl1 fun H8 s8 e8=>?_
    have fn8:=fn7.more s8 (Aa _)
    have pl:=fn8.l
    refine⟨_,rfl,ao ⟨lf,_,ps,rfl,fn8.f,fn8.r,by omega,fun d kvs H9 s9 hd0 hd hks=>?_⟩⟩
    refine⟨d,kvs,rfl,hd,fun l2 rs hl2 rl hrs=>?_⟩
    refine nw hl2 fun H10 s10 e10=>?_
    have rpv:=(sL hks rl hrs).same s10
    have s8a:=s9.trans s10
    refine ao ⟨(szl 2),fun t ht=>?_⟩
    have s11:=Same.new (o:=.tup [V.ref l1,V.ref l2]) ht
    refine k (.ref t) _ ((fn8.s.trans s8a).trans s11) ?_
    unfold mT
    rw[evw]
    exact .tup ae (.cons (.tup (s11 _ _ (s8a _ _ e8)) (RepAll.of_strs _)) (.cons (.tup (s11 _ _ e10) (rpv.same s11)) .nil))
theorem jo {α β:Type}{f:α->List β}{m:Nat}:∀ {l:List α},(∀x∈l,(f x).length<=m)->(l.flatMap f).length<=l.length * m
 | [],_=>AC _
 | x::l,h=>by
  rw[List.flatMap_cons,Aq,Aw]
  have h1:=h x (by simp)
  have h2:=jo (l:=l) fun y hy=>h y (AF _ hy)
  rw[Nat.add_mul]
  omega
def nJ:Sp:=fun vs H Q _=>∃(q us ks:_) (ts ws wn:Prs) (k:Str × List Str),vs=[.ref q,.str k.1]/\Rep H (.ref q) (aJ ks ts ws wn)/\Tre us ks/\fv us ks ts/\WnX ks wn/\k∈ks/\ts.length<=200/\∀x H',Same H H'->Rep H' x (mT ks ts wn k)->Q x H'
theorem xi (F:Fun K "view" "view" wS f fd) (B:Blt mg) (cview_by:Cal P w K mg base 2 "view_by" ["house","knot","partings"] oC) (ckept_partings:Cal P w K mg base 3 "kept_partings" ["house"] kO):FnOk P w K mg base CX0 4 f fd ["house","knot"] nJ:=by
 refine F.ok1 ["house","knot"] fun nd H Q E hr h=>?_
 obtain⟨q,us,ks,ts,ws,wn,kk,rfl,R,T,tok,WX,hkk,tl,k⟩:=h
 refine⟨_,(ac (am (pc cview_by hr (ak (pv 0) (p2 (pv 1) (pc ckept_partings hr (p1 (pv 0)))))))),?_⟩
 refine⟨_,rfl,_,rfl,_,rfl,q,us,ks,ts,ws,wn,rfl,R,T,tok,tl,fun l refs H1 s1 hl0 hl rp=>?_⟩
 refine ao ⟨q,l,us,ks,ts,ws,wn,kk,refs,rfl,R.same s1,T,tok,WX,hkk,tl,hl,rp,fun x H2 s2 rx=>?_⟩
 exact k x H2 (s1.trans s2) rx
abbrev T3:=Str × Str × Str
def t3D (t:T3):PyData:=.tuple [.str t.1,.str t.2.1,.str t.2.2]
theorem pX (o:Option T3) (t:T3):PyData.eqv (jj o) (t3D t)=decide (o=some t):=by
 cases o with
 | none=>rfl
 | some q =>
  obtain⟨a,b,c⟩:=q
  obtain⟨d,e,f⟩:=t
  show ((a==d)&&((b==e)&&((c==f)&&true)))=_
  rw[Bool.and_true,AV]
  simp only[Ba,beq_iff_eq,decide_eq_true_eq,Option.some.injEq,Prod.mk.injEq]
def Kt (t:T3):Prop:=(t.1=""∨Nm t.1)/\Nm t.2.1/\Nm t.2.2
theorem uH {z:Str}(h:z=""∨Nm z):PyData.canLay0 (.str z)=true:=by
 rcases h with rfl | h
 ·decide +kernel
 ·exact cz h
theorem m3 {t:T3}(h:Kt t):shp (t3D t):=by
 show ((PyData.canLay0 (.str t.1)&&(PyData.canLay0 (.str t.2.1)&&(PyData.canLay0 (.str t.2.2)&&true)))&&decide (PyData.depthAll (List.map PyData.str [t.1,t.2.1,t.2.2])+1<=64))=true
 rw[uH h.1,cz h.2.1,cz h.2.2,fB];rfl
theorem p7 {o:Option T3}(h:∀t,o=some t->Kt t):shp (jj o):=by
 cases o with
 | none=>show SeqAt.shaped .none=true;decide +kernel
 | some q=>exact m3 (h q rfl)
theorem qH {us:List Str}{ks:Kn}(T:Tre us ks) {u v:Str}(hu:u∈us) (hv:v∈us) {t:T3}(h:aH ks u v=some t):Kt t:=by
 obtain⟨q,x,y⟩:=t
 obtain⟨h1,_,hx,hy,_⟩:=T.part hu hv h
 refine⟨?_,T.nm _ hx,T.nm _ hy⟩
 show q=""∨Nm q
 rw[<- h1]
 rcases (T.par_in hx).1 with w | w
 ·exact .inl w
 ·exact .inr (T.nm _ w)
def fc (ks:Kn) (ts wn:Prs) (t:T3):T3:=match ts.find? fun e=>decide (aH ks e.1 e.2=some t) with
 | some e=>((("tie":Str),e.1,e.2):T3)
 | none=>(if ((("first":Str),t.2.1):Str × Str)∈wn then ("first":Str) else "last",t.2.1,t.2.2)
theorem mX {ks:Kn}{ts wn:Prs}{t:T3}{i:Nat}{e:Str × Str}(hn:(ts.take i).find? (fun e=>decide (aH ks e.1 e.2=some t))=none) (he:ts[i]? = some e) (h:aH ks e.1 e.2=some t):fc ks ts wn t=((("tie":Str),e.1,e.2):T3):=by
 have hl:=(Ac.mp he)
 have:ts.find? (fun e=>decide (aH ks e.1 e.2=some t))=some e:=by
  conv=>lhs;rw[<- Bz i ts]
  rw[List.find?_append,hn,Option.none_or,Bm hl.1,hl.2,A0,Ai h]
 unfold fc
 rw[this]
theorem lJ {ks:Kn}{ts:Prs}{t:T3}{i:Nat}{e:Str × Str}(hn:(ts.take i).find? (fun e=>decide (aH ks e.1 e.2=some t))=none) (he:ts[i]? = some e) (h:aH ks e.1 e.2≠some t):(ts.take (i+1)).find? (fun e=>decide (aH ks e.1 e.2=some t))=none:=by
 rw[Am,he,List.find?_append,hn,Option.none_or]
 show List.find? _ [e]=none
 rw[A0,Ay h];rfl
theorem mI {ks:Kn}{ts wn:Prs}{t:T3}(hn:ts.find? (fun e=>decide (aH ks e.1 e.2=some t))=none):fc ks ts wn t=(if ((("first":Str),t.2.1):Str × Str)∈wn then ("first":Str) else "last",t.2.1,t.2.2):=by
 unfold fc
 rw[hn]
theorem wz {H:Hp}{v:V}{t:T3}(h:Rep H v (t3D t)):∃q,v=.ref q/\H q=some (.tup [.str t.1,.str t.2.1,.str t.2.2]):=by
 obtain⟨q,xs,rfl,hq,r0⟩:=Rep.tupI h
 have r0:RepAll H xs (List.map PyData.str [t.1,t.2.1,t.2.2]):=r0
 have e2:=RepAll.strs r0
 subst e2
 exact⟨q,rfl,hq⟩
theorem dL {H:Hp}{q:Addr}{t:T3}(h:H q=some (.tup [.str t.1,.str t.2.1,.str t.2.2])):Rep H (.ref q) (t3D t):=.tup h (.cons (.str _) (.cons (.str _) (.cons (.str _) .nil)))
theorem gc {H H':Hp}{p:Addr}{ys:List V}(hp:H p=some (.lst ys)) (b:But p H H') {v:V}{t:T3}(h:Rep H v (t3D t)):Rep H' v (t3D t):=by
 obtain⟨q,rfl,hq⟩:=wz h
 exact dL (cw hp b hq)
def mW:Sp:=fun vs H Q _=>∃(q lp pt us ks:_) (ts ws wn:Prs) (refs t:_),vs=[.ref q,.ref lp,.ref pt]/\Rep H (.ref q) (aJ ks ts ws wn)/\Tre us ks/\m9 us wn/\fv us ks ts/\H lp=some (.lst refs)/\RepAll H refs (ts.map (kT ks))/\Rep H (.ref pt) (t3D t)/\Kt t/\∀x H',Same H H'->H x=none->Rep H' (.ref x) (t3D (fc ks ts wn t))->Q (.ref x) H'
theorem uC {f:Addr}{fd:FuncData}(F:Fun K "step_of" "step_of" qe f fd) (B:Blt mg) (Zz:mg "zip"=none):FnOk P w K mg base CX0 1 f fd ["house", "partings", "part"] mW := by
 refine F.ok1 ["house","partings","part","tie","found","word"] fun nd H Q E hr h=>?_
 obtain⟨q,lp,pt,us,ks,ts,ws,wn,refs,t,rfl,R,T,wok,tok,hlp,rpp,Rt,hkt,k⟩:=h
 refine⟨_,(aa (aZ PassesOwn.never rfl (vv K rfl Zz (p2 (px K hr (pv 0) ab) (pv 1))) (bI (n:=2) K rfl (aF (ai (i:=3) nd rfl (Or.inl rfl)) (aF (ai (i:=4) nd rfl (Or.inl rfl)) bz))) (ac (aI (ag (br hr.units) (pv 4) (pv 2) (au _)) (ac (am (aB (ak aA (p2 (px K hr (pv 3) ab) (px K hr (pv 3) ab)))))) av)))
  (aa (pst 5 nd (nX (ag (fK hr.units) (aB (p2 aA (px K hr (pv 2) ab))) (px K hr (pv 0) ab) (by with_unfolding_all rfl)) aA aA))
  (ac (am (aB (ak (pv 5) (p2 (px K hr (pv 2) ab) (px K hr (pv 2) ab)))))))),?_⟩
 obtain⟨q',a,b,c3,d4,e0,hq,_,R2,_,R4⟩:=aX R
 cases e0
 obtain⟨b',rb,e0,hb,rpb⟩:=aP R2
 cases e0
 obtain⟨d4',rw4,e0,hd4,rpw⟩:=aP R4
 cases e0
 obtain⟨pt',e0,hpt⟩:=wz Rt
 cases e0
 have rblen:=rpb.len
 have rplen:=rpp.len
 rw[z0] at rblen rplen
 have cay:PyData.canLayAll0 (wn.map aE)=true:=aT fun e he=>⟨gG (wok e he).1,T.nm _ (wok e he).2⟩
 refine⟨_,rfl,.tup (.of hq) rfl ⟨_,rfl,b,lp,_,_,rfl,.of hb,.of hlp,?_⟩⟩
 refine vh (xs:=rb) (ys:=refs) (fun i σ H'=>∃(o3 o4:Option V),σ=[some (.ref q),some (.ref lp),some (.ref pt),o3,o4,none]/\Same H H'/\(ts.take i).find? (fun e=>decide (aH ks e.1 e.2=some t))=none) ?_ ?_ ?_ ?_
 ·exact⟨none,none,rfl,Same.refl H,rfl⟩
 ·rintro i σ H' hi ⟨o3,o4,rfl,sm,_⟩
  exact⟨.of (sm _ _ hb),.of (sm _ _ hlp)⟩
 ·rintro i x y p σ H' hxy ⟨o3,o4,rfl,sm,hn⟩ hp
  rw[AT] at hxy
  obtain⟨e,ta,he,rfl,hta⟩:=cF rpb hxy.1
  obtain⟨e',he',pv⟩:=qt rpp hxy.2
  have ee:e=e':=Af (he.symm.trans he')
  subst ee
  refine nw hp fun H2 sp ep=>?_
  have s2:=sm.trans sp
  refine⟨p,_,rfl,.of ep,rfl,_,_,rfl,_,_,rfl,rfl,?_⟩
  refine⟨_,rfl,_,rfl,.tr (i0 (pv.same s2)) (Rt.same s2) (p7 fun t h=>qH T (tok e (Ad he)).1 (tok e (Ad he)).2.1 h) (m3 hkt) ⟨_,rfl,?_⟩⟩
  rw[if_neg (show ¬ false=true by decide),pX]
  refine ap (fun h=>?_) (fun h=>?_)
  ·have h:=Ao h
   refine⟨_,rfl,.tup (.of (s2 _ _ hta)) rfl ⟨_,rfl,.tup (.of (s2 _ _ hta)) rfl ⟨(szl 3),fun x hx=>?_⟩⟩⟩
   refine k x _ (s2.trans (Same.new hx)) (bd s2 hx) ?_
   rw[mX hn he h]
   exact dL ae
  ·have h:aH ks e.1 e.2≠some t:=fun z=>h (Ai z)
   exact⟨_,_,rfl,s2,lJ hn he h⟩
 ·rintro σ H1 ⟨o3, o4, rfl, sm, hn⟩
  rw[A3,rblen,rplen,Nat.min_self,Ak (Aa _)] at hn
  have hst:=mI (wn:=wn) hn
  apply sy (J:=fun σ HZ=>σ=[some (.ref q),some (.ref lp),some (.ref pt),o3,o4,some (.str (if ((("first":Str),t.2.1):Str × Str)∈wn then "first" else "last"))]/\Same H HZ)
  ·intro dh
   refine⟨_,rfl,.tup (.of (sm _ _ hpt)) rfl ⟨(szl 2),fun x hx=>?_⟩⟩
   refine nw hx fun H2 s2 et=>?_
   have s2:=sm.trans s2
   refine⟨_,rfl,.tup (.of (s2 _ _ hq)) rfl ⟨d4,rw4,_,aE ((("first":Str),t.2.1):Str × Str),rfl,s2 _ _ hd4,rpw.same s2,aM et,cay,em (e:=((("first":Str),t.2.1):Str × Str)) ⟨jw,hkt.2.1⟩,(by show 1<=16;decide),_,rfl,?_⟩⟩
   rw[if_neg (show ¬ false=true by decide),dR]
   refine ap (fun h=>?_) (fun h=>?_)
   ·have h:=Ao h
    dsimp only[tC,aQ]
    exact dh _ _ ⟨by rw[if_pos h];rfl,s2⟩
   ·have h:¬ ((("first":Str),t.2.1):Str × Str)∈wn:=fun z=>h (Ai z)
    dsimp only[tC,aQ]
    exact dh _ _ ⟨by rw[if_neg h];rfl,s2⟩
  ·rintro σ H2 ⟨rfl,s2⟩
   refine⟨_,rfl,_,rfl,.tup (.of (s2 _ _ hpt)) rfl ⟨_,rfl,.tup (.of (s2 _ _ hpt)) rfl ⟨(szl 3),fun x hx=>?_⟩⟩⟩
   refine k x _ (s2.trans (Same.new hx)) (bd s2 hx) ?_
   rw[hst]
   exact dL ae
def spSteps:Sp:=fun vs H Q _=>∃(q l us ks:_) (ts ws wn:Prs) (knot:_) (row:List Str),vs=[.ref q,.str knot,.ref l]/\Rep H (.ref q) (aJ ks ts ws wn)/\Tre us ks/\m9 us wn/\fv us ks ts/\ts.length<=200/\(knot=""∨Nm knot)/\H l=some (.lst (List.map V.str row))/\(∀u∈row,Nm u)/\row.length<=100 /\
 ∀x refs H',Same H H'->H x=none->H' x=some (.lst refs)->RepAll H' refs ((row.zip (row.drop 1)).map fun e=>t3D (fc ks ts wn (knot,e.1,e.2)))->Q (.ref x) H'
theorem wc {f:Addr}{fd:FuncData}(F:Fun K "steps_along" "steps_along" gs f fd) (B:Blt mg) (Zz:mg "zip"=none) (ckept_partings:Cal P w K mg base 3 "kept_partings" ["house"] kO) (cstep_of:Cal P w K mg base 1 "step_of" ["house","partings","part"] mW):FnOk P w K mg base CX0 4 f fd ["house","knot","row"] spSteps:=by
 refine F.ok1 ["house","knot","row","partings"] fun nd H Q E hr h=>?_
 obtain⟨q,l,us,ks,ts,ws,wn,knot,row,rfl,R,T,wok,tok,tl,hkn,hl,rnm,rl,k⟩:=h
 refine⟨_,(aa (bV (i:=3) nd rfl (Or.inr rfl) (pc ckept_partings hr (p1 (pv 0))))
  (ac (am (bj (aD gs) ["house","knot","row","partings"] ["pair"] [0,3,1] ["pair","house","partings","knot"] rfl (um K rfl Zz (p2 (pv 2) (bO (iP K) (pv 2) (bQ ab) cJ))) (fun _ _ _ _ _=>(ai (i:=0) (show (["pair","house","partings","knot"]:List Str).Nodup by decide) rfl (Or.inl rfl))) (fun _ _ _ _ _=>cP) (fun _ _ _ _ _=>(pc cstep_of hr (ak (pv 1) (p2 (pv 2) (aB (ak (pv 3) (p2 (px K hr (pv 0) ab) (px K hr (pv 0) ab)))))))))))),?_⟩
 refine⟨_,rfl,q,us,ks,ts,ws,wn,rfl,R,T,tok,tl,fun lp refs H1 s1 hlp0 hlp rpp=>?_⟩
 refine⟨_,rfl,_,rfl,_,rfl,.lst (.of (s1 _ _ hl)) fun l2 hl2=>?_⟩
 rw[show (1:Int)=((1:Nat):Int) from rfl,iG,<- List.map_drop]
 refine nw hl2 fun H2 s2 e2=>?_
 have s12:=s1.trans s2
 have hlp2:=s2 _ _ hlp
 have rpp2:=rpp.same s2
 have R2:=R.same s12
 have hla:=s12 _ _ hl
 refine ao ⟨l,l2,_,_,rfl,.of hla,.of e2,?_⟩
 have zl:((List.map V.str row).zip (List.map V.str (row.drop 1))).length=(row.zip (row.drop 1)).length:=by simp
 have zlen:(row.zip (row.drop 1)).length<=100:=by rw[A3];omega
 refine vq (List.map V.str row) (List.map V.str (row.drop 1)) (fun D i acc σ' H'=>∃o,σ'=[o,some (.ref q),some (.ref lp),some (.str knot)]/\RepAll H' acc (((row.zip (row.drop 1)).take i).map fun e=>t3D (fc ks ts wn (knot,e.1,e.2)))/\Same H2 H'/\H2 D=none) fun D hD=>⟨?_,?_,?_,?_⟩
 ·exact⟨none,rfl,.nil,Same.new hD,hD⟩
 ·rintro i acc σ' H' _ ⟨o,rfl,_,sm,_⟩ _
  exact⟨.of (sm _ _ hla),.of (sm _ _ e2)⟩
 ·rintro i acc σ' H' x y p hxy ⟨o,rfl,rp,sm,hD0⟩ hacc hp
  rw[AT] at hxy
  obtain⟨u,hu,rfl⟩:=bp hxy.1
  obtain⟨v,hv,rfl⟩:=bp hxy.2
  have hz:(row.zip (row.drop 1))[i]? = some (u,v):=by rw[AT];exact⟨hu,hv⟩
  have hil:=(Ac.mp hz).1
  have alen:=rp.len
  rw[z0,As] at alen
  have hv':v∈row:=Be (Ad hv)
  have kt:Kt (knot,u,v):=⟨hkn,rnm u (Ad hu),rnm v hv'⟩
  refine nw hp fun H3 sp ep=>?_
  have s3:=sm.trans sp
  have hacc3:=sp _ _ hacc
  have rp3:=rp.same sp
  refine iL ?_
  refine⟨_,rfl,_,rfl,_,rfl,_,rfl,.tup (.of ep) rfl ⟨_,rfl,.tup (.of ep) rfl ⟨(szl 3),fun pt hpt=>?_⟩⟩⟩
  have s4:=Same.new (o:=.tup [V.str knot,V.str u,V.str v]) hpt
  have rt:Rep (upd H3 pt (.tup [V.str knot,V.str u,V.str v])) (.ref pt) (t3D (knot,u,v)):=dL ae
  have s34:=s3.trans s4
  have hacc4:=s4 _ _ hacc3
  have rp4:=rp3.same s4
  generalize upd H3 pt (.tup [V.str knot,V.str u,V.str v])=H4 at rt s34 hacc4 rp4 ⊢
  refine ao ⟨q,lp,pt,us,ks,ts,ws,wn,refs,(knot,u,v),rfl,R2.same s34,T,wok,tok,s34 _ _ hlp2,rpp2.same s34,rt,kt,fun x H5 s5 hx rx=>?_⟩
  have hacc5:=s5 _ _ hacc4
  refine⟨hacc5,aj (by omega),_,rfl,?_,aW (s34.trans s5) hD0,hD0⟩
  rw[Am,hz,Ae]
  exact RepAll.append (aO (gc hacc5 But.upd) (rp4.same s5)) (.cons (gc hacc5 But.upd rx) .nil)
 ·rintro acc σ' H' ⟨o,rfl,rp,sm,hD0⟩ hacc
  rw[zl,Ak (Aa _)] at rp
  exact k D acc H' (s12.trans sm) (bd s12 hD0) hacc rp
theorem fW {ss:List Str}{i:Nat}(h:i<ss.length):ss.getD i ""∈ss:=by
 rw[AG,Ar h]
 exact BL h
def nmP (ss:List Str) (e:Nat × Nat):Str × Str:=(ss.getD e.1 "",ss.getD e.2 "")
theorem dQ {ss:List Str}(nd:ss.Nodup) (nm:∀s∈ss,Nm s) {a b:Nat}(ha:a<ss.length) (h:ss.getD a ""=ss.getD b ""):a=b:=by
 by_cases hb:b<ss.length
 ·rw[AG,AG,Ar ha,Ar hb] at h
  exact(List.getElem_inj nd).mp h
 ·have e:ss.getD b ""="":=by rw[AG,BP (by omega)];rfl
  have h2:=(nm _ (fW ha)).1
  rw[h,e] at h2
  exact absurd h2 (by decide)
def jQ (es:List (Nat × Nat)):List (Nat × Nat):=es.map fun e=>(e.2,e.1)
theorem xX (ss:List Str) (es:List (Nat × Nat)):aY (es.map (nmP ss))=(jQ es).map (nmP ss):=by
 unfold aY jQ
 rw[AQ,AQ];rfl
theorem vn {ss:List Str}{es:List (Nat × Nat)}(val:∀e∈es,e.1<ss.length/\e.2<ss.length):∀e∈jQ es,e.1<ss.length/\e.2<ss.length:=fun e he=>by
 obtain⟨f,hf,rfl⟩:=Ag.mp he
 exact⟨(val f hf).2,(val f hf).1⟩
theorem mK:t ∈ (ts.filter fun e => decide (e.1=s)).map (fun e => e.2) ↔ (s, t) ∈ (if false then aY ts else ts) := by
 rw[Ag]
 constructor
 ·rintro⟨⟨x,y⟩,h,rfl⟩
  have h:=Ap.mp h
  have h2:=Ao h.2
  subst h2
  first
   | exact h.1
   | exact mem_flip.mpr h.1
 ·intro h
  first
   | exact⟨(s,t),Ap.mpr ⟨h,Ai rfl⟩,rfl⟩
   | exact⟨(t,s),Ap.mpr ⟨mem_flip.mp h,Ai rfl⟩,rfl⟩
theorem uN (F:Fun K "nexts" "nexts" jX f fd) (B:Blt mg) (cplaces_of:Cal P w K mg base 1 "places_of" ["things"] fO):FnOk P w K mg base CX0 2 f fd ["web", "one"] (gA false) := by
 refine F.ok1 ["web","one","found"] fun nd H Q E hr h=>?_
 obtain⟨q,ss,ts,s,rfl,W,k⟩:=h
 refine⟨_,(aa (bV (i:=2) nd rfl (Or.inr rfl) (pc cplaces_of hr (p1 (bj (aD jX) ["web","one","found"] ["tie"] [1] ["tie","one"] rfl (bc K (px K hr (pv 0) ab)) (fun _ _ _ _ _=>(ai (i:=0) (show (["tie","one"]:List Str).Nodup by decide) rfl (Or.inl rfl))) (fun _ _ _ _ _=>(bv (ag (br hr.units) (px K hr (pv 0) ab) (pv 1) (au _)))) (fun _ _ _ _ _=>(px K hr (pv 0) ab))))))
  (ac (am (bj (aD jX) ["web","one","found"] ["thing"] [2] ["thing","found"] rfl (bc K (px K hr (pv 0) ab)) (fun _ _ _ _ _=>(ai (i:=0) (show (["thing","found"]:List Str).Nodup by decide) rfl (Or.inl rfl))) (fun _ _ _ _ _=>(bv (ag (bL K hr.units) (pv 0) (pv 1) (by with_unfolding_all rfl)))) (fun _ _ _ _ _=>(pv 0)))))),?_⟩
 obtain⟨q,a,b,xs,rfl,hq,ha,hb,rp⟩:=gN W.rep
 have rlen:=rp.len
 rw[z0] at rlen
 refine⟨_,rfl,.tup (.of hq) rfl ⟨_,rfl,⟨_,.of hb⟩,?_⟩⟩
 refine bX xs (fun D i acc σ' H'=>∃o,σ'=[o,some (.str s)]/\acc=((ts.take i).filter fun e=>decide (e.1=s)).map (fun e=>V.str e.2)/\Same H H'/\H D=none) fun D hD=>⟨?_,?_,?_,?_⟩
 ·exact⟨none,rfl,rfl,Same.new hD,hD⟩
 ·rintro i acc σ' H' _ ⟨o,rfl,_,sm,_⟩ _
  exact .of (sm _ _ hb)
 ·rintro i acc σ' H' x hx ⟨o, rfl, hacc0, sm, hD0⟩ hacc
  obtain⟨d,hd,rd⟩:=(rp.same sm).get hx
  rw[Al] at hd
  obtain⟨e,he,rfl⟩:∃e,ts[i]? = some e/\aE e=d:=by
   cases q:ts[i]? with
   | none=>rw[q] at hd;cases hd
   | some e=>rw[q] at hd;exact⟨e,rfl,Af hd⟩
  obtain⟨ta,rfl,hta⟩:=fJ rd
  have hil:=(Ac.mp he).1
  refine⟨_,rfl,.tup (.of hta) rfl ⟨_,rfl,.sc rfl ⟨_,rfl,?_⟩⟩⟩
  refine ap (fun h1=>?_) (fun h1=>?_)
  ·have h1:e.1=s:=V.str.inj (Ao h1)
   refine⟨_,rfl,.tup (.of hta) rfl ⟨hacc,?_,_,rfl,?_,?_,hD0⟩⟩
   ·rw[hacc0,z0]
    have h2:=AH (fun e:Str × Str=>decide (e.1=s)) (ts.take i)
    rw[As] at h2
    have:=W.few
    exact aj (by omega)
   ·rw[Am,he,hacc0,AI,Ae]
    simp[h1]
   ·intro c o hc
    rw[af (ah hc hD0)]
    exact sm _ _ hc
  ·have h1:¬ e.1=s:=fun z=>h1 (Ai (congrArg V.str z))
   refine⟨hacc,_,rfl,?_,sm,hD0⟩
   rw[Am,he,hacc0,AI,Ae]
   simp[h1]
 ·rintro acc σ' H1 ⟨o, rfl, hacc0, s1, hD0⟩ hacc
  rw[rlen,Ak (Aa _)] at hacc0
  have ea:acc=List.map V.str ((ts.filter fun e=>decide (e.1=s)).map (fun e=>e.2)):=by rw[hacc0,AQ];rfl
  refine⟨D,_,rfl,by rw[<- ea];exact hacc,?_,?_⟩
  ·rw[z0]
   have h2:=AH (fun e:Str × Str=>decide (e.1=s)) ts
   have:=W.few
   omega
  ·intro d kvs H2 s2 hd2 hk hin hat
   have s12:=s1.trans s2
   refine⟨_,rfl,.tup (.of (s12 _ _ hq)) rfl ⟨_,rfl,⟨_,.of (s12 _ _ ha)⟩,?_⟩⟩
   refine bX (List.map V.str ss) (fun D i acc σ' H'=>∃o,σ'=[o,some (.ref d)]/\acc=List.map V.str ((ss.take i).filter fun t=>(aw kvs (.inr t)).isSome)/\Same H2 H'/\H2 D=none) fun D' hD'=>⟨?_,?_,?_,?_⟩
   ·exact⟨none,rfl,rfl,Same.new hD',hD'⟩
   ·rintro i acc σ' H' _ ⟨o,rfl,_,sm,_⟩ _
    exact .of (sm _ _ (s12 _ _ ha))
   ·rintro i acc σ' H' x hx ⟨o, rfl, hacc0, sm, hD0⟩ hacc
    rw[Al] at hx
    obtain⟨t,ht,rfl⟩:∃t,ss[i]? = some t/\V.str t=x:=by
     cases q:ss[i]? with
     | none=>rw[q] at hx;cases hx
     | some e=>rw[q] at hx;exact⟨e,rfl,Af hx⟩
    have hil:=(Ac.mp ht).1
    refine⟨_,rfl,_,rfl,.dic (DGet.k (k:=.inr t) (sm _ _ hk)) ⟨_,rfl,?_⟩⟩
    refine ap (fun h1=>?_) (fun h1=>?_)
    ·refine⟨_,rfl,hacc,?_,_,rfl,?_,?_,hD0⟩
     ·rw[hacc0,z0]
      have h2:=AH (fun t:Str=>(aw kvs (.inr t)).isSome) (ss.take i)
      rw[As] at h2
      have:=W.len
      exact aj (by omega)
     ·have h1:(aw kvs (.inr t)).isSome=true:=h1
      rw[Am,ht,hacc0,AI,Ae]
      simp[h1]
     ·intro c o hc
      rw[af (ah hc hD0)]
      exact sm _ _ hc
    ·have h1:¬ (aw kvs (.inr t)).isSome=true:=h1
     refine⟨hacc,_,rfl,?_,sm,hD0⟩
     rw[Am,ht,hacc0,AI,Ae]
     simp[h1]
   ·rintro acc σ' H' ⟨o, rfl, hacc0, sm, hD0⟩ hacc
    rw[z0,Ak (Aa _)] at hacc0
    refine k _ _ (s12.trans sm) ?_ ?_
    ·cases e:H D' with
     | none=>rfl
     | some o=>rw[s12 _ _ e] at hD0;cases hD0
    ·rw[hacc,hacc0]
     have:(ss.filter fun t=>(aw kvs (.inr t)).isSome)=dS ss (if false then aY ts else ts) s:=by
      unfold dS
      refine BS fun t _=>?_
      rw[AV,hin t,mK,decide_eq_true_iff]
     rw[this]
theorem oK:t ∈ (ts.filter fun e => decide (e.2=s)).map (fun e => e.1) ↔ (s, t) ∈ (if true then aY ts else ts) := by
 rw[Ag]
 constructor
 ·rintro⟨⟨x,y⟩,h,rfl⟩
  have h:=Ap.mp h
  have h2:=Ao h.2
  subst h2
  first
   | exact h.1
   | exact mem_flip.mpr h.1
 ·intro h
  first
   | exact⟨(s,t),Ap.mpr ⟨h,Ai rfl⟩,rfl⟩
   | exact⟨(t,s),Ap.mpr ⟨mem_flip.mp h,Ai rfl⟩,rfl⟩
theorem uf (F:Fun K "priors" "priors" i4 f fd) (B:Blt mg) (cplaces_of:Cal P w K mg base 1 "places_of" ["things"] fO):FnOk P w K mg base CX0 2 f fd ["web", "one"] (gA true) := by
 refine F.ok1 ["web","one","found"] fun nd H Q E hr h=>?_
 obtain⟨q,ss,ts,s,rfl,W,k⟩:=h
 refine⟨_,(aa (bV (i:=2) nd rfl (Or.inr rfl) (pc cplaces_of hr (p1 (bj (aD i4) ["web","one","found"] ["tie"] [1] ["tie","one"] rfl (bc K (px K hr (pv 0) ab)) (fun _ _ _ _ _=>(ai (i:=0) (show (["tie","one"]:List Str).Nodup by decide) rfl (Or.inl rfl))) (fun _ _ _ _ _=>(bv (ag (br hr.units) (px K hr (pv 0) ab) (pv 1) (au _)))) (fun _ _ _ _ _=>(px K hr (pv 0) ab))))))
  (ac (am (bj (aD i4) ["web","one","found"] ["thing"] [2] ["thing","found"] rfl (bc K (px K hr (pv 0) ab)) (fun _ _ _ _ _=>(ai (i:=0) (show (["thing","found"]:List Str).Nodup by decide) rfl (Or.inl rfl))) (fun _ _ _ _ _=>(bv (ag (bL K hr.units) (pv 0) (pv 1) (by with_unfolding_all rfl)))) (fun _ _ _ _ _=>(pv 0)))))),?_⟩
 obtain⟨q,a,b,xs,rfl,hq,ha,hb,rp⟩:=gN W.rep
 have rlen:=rp.len
 rw[z0] at rlen
 refine⟨_,rfl,.tup (.of hq) rfl ⟨_,rfl,⟨_,.of hb⟩,?_⟩⟩
 refine bX xs (fun D i acc σ' H'=>∃o,σ'=[o,some (.str s)]/\acc=((ts.take i).filter fun e=>decide (e.2=s)).map (fun e=>V.str e.1)/\Same H H'/\H D=none) fun D hD=>⟨?_,?_,?_,?_⟩
 ·exact⟨none,rfl,rfl,Same.new hD,hD⟩
 ·rintro i acc σ' H' _ ⟨o,rfl,_,sm,_⟩ _
  exact .of (sm _ _ hb)
 ·rintro i acc σ' H' x hx ⟨o, rfl, hacc0, sm, hD0⟩ hacc
  obtain⟨d,hd,rd⟩:=(rp.same sm).get hx
  rw[Al] at hd
  obtain⟨e,he,rfl⟩:∃e,ts[i]? = some e/\aE e=d:=by
   cases q:ts[i]? with
   | none=>rw[q] at hd;cases hd
   | some e=>rw[q] at hd;exact⟨e,rfl,Af hd⟩
  obtain⟨ta,rfl,hta⟩:=fJ rd
  have hil:=(Ac.mp he).1
  refine⟨_,rfl,.tup (.of hta) rfl ⟨_,rfl,.sc rfl ⟨_,rfl,?_⟩⟩⟩
  refine ap (fun h1=>?_) (fun h1=>?_)
  ·have h1:e.2=s:=V.str.inj (Ao h1)
   refine⟨_,rfl,.tup (.of hta) rfl ⟨hacc,?_,_,rfl,?_,?_,hD0⟩⟩
   ·rw[hacc0,z0]
    have h2:=AH (fun e:Str × Str=>decide (e.2=s)) (ts.take i)
    rw[As] at h2
    have:=W.few
    exact aj (by omega)
   ·rw[Am,he,hacc0,AI,Ae]
    simp[h1]
   ·intro c o hc
    rw[af (ah hc hD0)]
    exact sm _ _ hc
  ·have h1:¬ e.2=s:=fun z=>h1 (Ai (congrArg V.str z))
   refine⟨hacc,_,rfl,?_,sm,hD0⟩
   rw[Am,he,hacc0,AI,Ae]
   simp[h1]
 ·rintro acc σ' H1 ⟨o, rfl, hacc0, s1, hD0⟩ hacc
  rw[rlen,Ak (Aa _)] at hacc0
  have ea:acc=List.map V.str ((ts.filter fun e=>decide (e.2=s)).map (fun e=>e.1)):=by rw[hacc0,AQ];rfl
  refine⟨D,_,rfl,by rw[<- ea];exact hacc,?_,?_⟩
  ·rw[z0]
   have h2:=AH (fun e:Str × Str=>decide (e.2=s)) ts
   have:=W.few
   omega
  ·intro d kvs H2 s2 hd2 hk hin hat
   have s12:=s1.trans s2
   refine⟨_,rfl,.tup (.of (s12 _ _ hq)) rfl ⟨_,rfl,⟨_,.of (s12 _ _ ha)⟩,?_⟩⟩
   refine bX (List.map V.str ss) (fun D i acc σ' H'=>∃o,σ'=[o,some (.ref d)]/\acc=List.map V.str ((ss.take i).filter fun t=>(aw kvs (.inr t)).isSome)/\Same H2 H'/\H2 D=none) fun D' hD'=>⟨?_,?_,?_,?_⟩
   ·exact⟨none,rfl,rfl,Same.new hD',hD'⟩
   ·rintro i acc σ' H' _ ⟨o,rfl,_,sm,_⟩ _
    exact .of (sm _ _ (s12 _ _ ha))
   ·rintro i acc σ' H' x hx ⟨o, rfl, hacc0, sm, hD0⟩ hacc
    rw[Al] at hx
    obtain⟨t,ht,rfl⟩:∃t,ss[i]? = some t/\V.str t=x:=by
     cases q:ss[i]? with
     | none=>rw[q] at hx;cases hx
     | some e=>rw[q] at hx;exact⟨e,rfl,Af hx⟩
    have hil:=(Ac.mp ht).1
    refine⟨_,rfl,_,rfl,.dic (DGet.k (k:=.inr t) (sm _ _ hk)) ⟨_,rfl,?_⟩⟩
    refine ap (fun h1=>?_) (fun h1=>?_)
    ·refine⟨_,rfl,hacc,?_,_,rfl,?_,?_,hD0⟩
     ·rw[hacc0,z0]
      have h2:=AH (fun t:Str=>(aw kvs (.inr t)).isSome) (ss.take i)
      rw[As] at h2
      have:=W.len
      exact aj (by omega)
     ·have h1:(aw kvs (.inr t)).isSome=true:=h1
      rw[Am,ht,hacc0,AI,Ae]
      simp[h1]
     ·intro c o hc
      rw[af (ah hc hD0)]
      exact sm _ _ hc
    ·have h1:¬ (aw kvs (.inr t)).isSome=true:=h1
     refine⟨hacc,_,rfl,?_,sm,hD0⟩
     rw[Am,ht,hacc0,AI,Ae]
     simp[h1]
   ·rintro acc σ' H' ⟨o, rfl, hacc0, sm, hD0⟩ hacc
    rw[z0,Ak (Aa _)] at hacc0
    refine k _ _ (s12.trans sm) ?_ ?_
    ·cases e:H D' with
     | none=>rfl
     | some o=>rw[s12 _ _ e] at hD0;cases hD0
    ·rw[hacc,hacc0]
     have:(ss.filter fun t=>(aw kvs (.inr t)).isSome)=dS ss (if true then aY ts else ts) s:=by
      unfold dS
      refine BS fun t _=>?_
      rw[AV,hin t,oK,decide_eq_true_iff]
     rw[this]
theorem jp (F:Fun K "priors_of_all" "priors_of_all" j7 f fd) (B:Blt mg) (cpriors:Cal P w K mg base 2 "priors" ["web", "one"] (gA true)):FnOk P w K mg base CX0 3 f fd ["web"] (ei true) := by
 refine F.ok1 ["web","table","thing"] fun nd H Q E hr h=>?_
 obtain⟨q,ss,ts,rfl,W,k⟩:=h
 refine⟨_,(aa (pst 1 nd fY)
  (aa (aZ PassesOwn.never rfl (bc K (px K hr (pv 0) ab)) (ai (i:=2) nd rfl (Or.inl rfl)) (ac (bU (pc cpriors hr (p2 (pv 0) (pv 2))) (cO (pv 1) (pv 2) (du hr.units)))))
  (ac (am (pv 1))))),?_⟩
 intro d hd
 have W1:=W.same (Same.new (o:=.dK []) hd)
 obtain⟨q,a,b,xs,rfl,hq,ha,hb,rp⟩:=gN W.rep
 have s0:=Same.new (o:=.dK []) hd
 refine⟨_,rfl,.tup (.of (s0 _ _ hq)) rfl ⟨_,rfl,⟨_,.of (s0 _ _ ha)⟩,?_⟩⟩
 refine cC (xs:=List.map V.str ss) (fun i σ H'=>∃o1 kvs,σ=[some (.ref q),some (.ref d),o1]/\Same H H'/\H' d=some (.dK kvs)/\kvs.length<=i/\∀s∈ss.take i,∃l,aw kvs (.inr s)=some (.ref l)/\H' l=some (.lst (List.map V.str (dS ss (if true then aY ts else ts) s)))) ?_ ?_ ?_ ?_
 ·exact⟨none,[],rfl,s0,ae,Aa _,fun s hs=>by simp at hs⟩
 ·rintro i σ H' hi ⟨o1,kvs,rfl,sm,_⟩
  exact .of (sm _ _ ha)
 ·rintro i x σ H' hx ⟨o1, kvs, rfl, sm, hk, hkl, hall⟩
  rw[Al] at hx
  obtain⟨t,ht,rfl⟩:∃t,ss[i]? = some t/\V.str t=x:=by
   cases q:ss[i]? with
   | none=>rw[q] at hx;cases hx
   | some e=>rw[q] at hx;exact⟨e,rfl,Af hx⟩
  have hil:=(Ac.mp ht).1
  refine⟨_,rfl,_,rfl,.ref q,ss,ts,t,rfl,W.same sm,fun l H2 s2 hl hl2=>?_⟩
  have hk2:=s2 _ _ hk
  have:=W.len
  refine⟨_,rfl,_,rfl,.dic (DPut.k (k:=.inr t) hk2 (aj (by omega))) ⟨_,_,rfl,?_,ae,?_,?_⟩⟩
  ·intro c o hc
   rw[af (ah hc hd)]
   exact s2 _ _ (sm _ _ hc)
  ·have:=bw kvs (.inr t) (V.ref l)
   omega
  ·intro s hs
   rw[Am,ht,Aj] at hs
   by_cases q:s=t
   ·subst q
    refine⟨l,by rw[cH,if_pos rfl],?_⟩
    rw[af (ba hl2 hk2 (by intro z;cases z))]
    exact hl2
   ·rcases hs with hs | hs
    ·obtain⟨l',e1,e2⟩:=hall s hs
     refine⟨l',by rw[cH,if_neg (fun z=>q (Sum.inr.inj z))];exact e1,?_⟩
     rw[af (ba (s2 _ _ e2) hk2 (by intro z;cases z))]
     exact s2 _ _ e2
    ·exact absurd (by simpa using hs) q
 ·rintro σ H' ⟨o1,kvs,rfl,sm,hk,_,hall⟩
  rw[z0,Ak (Aa _)] at hall
  exact⟨_,rfl,k d H' sm hd ⟨kvs,hk,hall⟩⟩
structure Stp (H H':Hp) (ss:List Str) (e:Addr) (look:Str->Option Nat) (kvs:List (Key × V)):Prop where
 sm:Same H H'
 at_:H' e=some (.dK kvs)
 lk:∀t,aw kvs (.inr t)=(look t).map fun k:Nat=>V.int (k:Int)
 nd:(kvs.map (·.1)).Nodup
 ks:∀k∈kvs.map (·.1),∃t∈ss,k=Sum.inr t
theorem Stp.len (h:Stp H H' ss e look kvs):kvs.length<=ss.length:=by
 have:=h.nd.length_le_of_subset (l₂:=ss.map (Sum.inr:Str->Key)) fun k hk=>by
  obtain⟨t,ht,rfl⟩:=h.ks k hk
  exact Ag.mpr ⟨t,ht,rfl⟩
 simpa using this
theorem Stp.oth (h:Stp H H' ss e look kvs) (hb:H b=none) (n:e≠b):Stp H (upd H' b o) ss e look kvs :=
 ⟨fun c o' hc=>by rw[af (ah hc hb)];exact h.sm _ _ hc,by rw[af n];exact h.at_,h.lk,h.nd,h.ks⟩
theorem Stp.put (h:Stp H H' ss e look kvs) (he:H e=none) (ht:t ∈ ss) (hn:look t=none) (k:Nat) :
    Stp H (upd H' e (.dK (bi kvs (.inr t) (.int (k:Int))))) ss e (fun a=>if a=t then some k else look a) (bi kvs (.inr t) (.int (k:Int))):=by
 have hv:aw kvs (.inr t)=none:=by rw[h.lk,hn];rfl
 refine⟨fun c o' hc=>by rw[af (ah hc he)];exact h.sm _ _ hc,ae,fun u=>?_,xU _ h.nd hv,fun q hq=>?_⟩
 ·rw[cH]
  by_cases q:u=t
  ·subst q;rw[if_pos rfl];simp
  ·rw[if_neg (fun z=>q (Sum.inr.inj z)),h.lk u];simp[q]
 ·rw[oU _ hv,Ae] at hq
  rcases Aj.mp hq with hq | hq
  ·exact h.ks q hq
  ·have:q=Sum.inr t:=by simpa using hq
   exact⟨t,ht,this⟩
def hI:Sp:=fun vs H Q _=>∃d st s ss f,vs=[.ref d,.ref st]/\H st=some (.lst [V.str s])/\Tab H d ss f/\s∈ss/\ss.length<=60/\(∀t∈ss,∀u∈f t,u∈ss) /\
 ∀e kvs H',Same H H'->H e=none->H' e=some (.dK kvs)->(∀t v,aw kvs (.inr t)=some v ↔ ∃k:Nat,v=.int k/\MG.Dst (Ner ss f) s k t)->Q (.ref e) H'
theorem uj (F:Fun K "steps_from" "steps_from" uw f fd) (B:Blt mg):FnOk P w K mg base CX0 1 f fd ["table", "starts"] hI := by
 refine F.ok1 ["table","starts","steps","start","edge","further","thing","near"] fun nd H Q E hr h=>?_
 obtain⟨d,st,s,ss,fn,rfl,hst,T,hs,hlen,hcl,k⟩:=h
 refine⟨_,(aa (pst 2 nd fY)
  (aa (aZ PassesOwn.never rfl (be K (pv 1)) (ai (i:=3) nd rfl (Or.inl rfl)) (ac (bU ab (cO (pv 2) (pv 3) (du hr.units)))))
  (aa (pst 4 nd (iK K rfl B (p1 (pv 1))))
  (aa (dP PassesOwn.never (ag gi (bh K B (p1 (pv 4))) ab (au _)) (aa (pst 5 nd (aS bT))
  (aa (aZ PassesOwn.never rfl (be K (pv 4)) (ai (i:=6) nd rfl (Or.inl rfl)) (ac (aZ PassesOwn.never rfl (be K (px K hr (pv 0) (pv 6))) (ai (i:=7) nd rfl (Or.inl rfl)) (ac (aI (ag (cK K hr.units) (pv 7) (pv 2) (by with_unfolding_all rfl)) (aa (bU (aG aK (px K hr (pv 2) (pv 6)) ab) (cO (pv 2) (pv 7) (du hr.units)))
  (ac (bm (cq K (pv 5) (p1 (pv 7)))))) av)))))
  (ac (pst 4 nd (pv 5))))))
  (ac (am (pv 2))))))),?_⟩
 have hin:∀y,MG.Rch (Ner ss fn) s y->y∈ss:=fun y r=>MG.Rch.closed (S:=fun y=>y∈ss) hs (fun a b ha r=>hcl a ha b r.2) r
 intro e he
 have hste:st≠e:=ah hst he
 refine⟨_,rfl,st,rfl,⟨_,.of (by rw[af hste];exact hst)⟩,?_⟩
 refine cS (xs:=[V.str s]) (fun i σ H'=>∃o3 o4 o5 o6 o7,σ=[some (.ref d),some (.ref st),some (.ref e),o3,o4,o5,o6,o7]/\H' st=some (.lst [V.str s])/\(i=0->H'=upd H e (.dK []))/\(i≠0->∃kvs,Stp H H' ss e (fun a=>if a=s then some 0 else none) kvs)) ?_ ?_ ?_ ?_
 ·exact⟨none,none,none,none,none,rfl,by rw[af hste];exact hst,fun _=>rfl,fun z=>absurd rfl z⟩
 ·rintro i σ H' hi ⟨o3,o4,o5,o6,o7,rfl,h1,_⟩
  exact .of h1
 ·rintro i x σ H' hx ⟨o3,o4,o5,o6,o7,rfl,h1,h2,_⟩
  have hi:i<1:=(Ac.mp hx).1
  have hi:i=0:=by omega
  subst hi
  have hx:V.str s=x:=Af hx
  subst hx
  have h2:=h2 rfl
  subst h2
  have h0:Stp H (upd (upd H e (.dK [])) e (.dK (bi [] (.inr s) (.int ((0:Nat):Int))))) ss e (fun a=>if a=s then some 0 else none) (bi [] (.inr s) (.int ((0:Nat):Int))) :=
   Stp.put (kvs:=[]) (look:=fun _=>none) ⟨Same.new he,ae,fun t=>rfl,Bv,fun k hk=>by cases hk⟩ he hs rfl 0
  refine⟨_,rfl,_,rfl,.dic (DPut.k (k:=.inr s) ae (by show 0<sizeLine;decide)) ⟨_,_,_,_,_,rfl,by rw[af hste];exact h1,fun z=>absurd z (by omega),fun _=>⟨_,h0⟩⟩⟩
 rintro σ H1 ⟨o3,o4,o5,o6,o7,rfl,hst1,_,hS⟩
 obtain⟨kv0,h0⟩:=hS (by show 1≠0;omega)
 refine⟨_,rfl,_,rfl,.seq (.inl (.of hst1)) fun l0 hl0=>?_⟩
 have hl00:H l0=none:=by
  cases q:H l0 with
  | none=>rfl
  | some o=>rw[h0.sm _ _ q] at hl0;cases hl0
 have h1:=h0.oth (o:=.lst [V.str s]) hl00 (ah h0.at_ hl0)
 refine⟨fun m σ H'=>∃L le edge kvs look o3 o4 o5 o6,m+L=ss.length/\σ=[some (.ref d),some (.ref st),some (.ref e),o3,some (.ref le),o4,o5,o6]/\Stp H H' ss e look kvs/\H le=none/\H' le=some (.lst (List.map V.str edge))/\edge.length<=60/\MG.Lev (Ner ss fn) s L look edge,
  ⟨ss.length,0,l0,[s],_,_,o3,o5,o6,o7,by omega,rfl,h1,hl00,ae,by show 1<=60;decide,MG.Lev.start fun y=>rfl⟩,?_⟩
 rintro m σ H2 ⟨L,le,edge,kvs,look,o3,o4,o5,o6,hm,rfl,S,hle0,hle,hel,lev⟩
 refine⟨_,rfl,_,_,rfl,Or.inl ⟨_,.of hle,rfl⟩,_,_,rfl,rfl,_,rfl,?_⟩
 refine ap (fun hc=>?_) (fun hc=>?_)
 ·have hc:(0:Int)<((List.map V.str edge).length:Nat) := Ao hc
  rw[z0] at hc
  have hL:L<ss.length:=by
   cases edge with
   | nil=>simp at hc
   | cons y r=>exact MG.Dst.lt hin ((lev.edg y).mp (by simp))
  refine⟨fun σ' H'=>∃le edge kvs look o3 o4 o5 o6,σ'=[some (.ref d),some (.ref st),some (.ref e),o3,some (.ref le),o4,o5,o6]/\Stp H H' ss e look kvs/\H le=none/\H' le=some (.lst (List.map V.str edge))/\edge.length<=60/\MG.Lev (Ner ss fn) s (L+1) look edge,
   fun σ' H' ⟨le,edge,kvs,look,o3,o4,o5,o6,p⟩=>⟨m-1,by omega,L+1,le,edge,kvs,look,o3,o4,o5,o6,by omega,p⟩,?_⟩
  refine⟨(szl 0),fun lf hlf=>?_⟩
  have hlf0:H lf=none:=by
   cases q:H lf with
   | none=>rfl
   | some o=>rw[S.sm _ _ q] at hlf;cases hlf
  have nlf:le≠lf:=ah hle hlf
  have S1:=S.oth (o:=.lst []) hlf0 (ah S.at_ hlf)
  refine⟨_,rfl,le,rfl,⟨_,.of (by rw[af nlf];exact hle)⟩,?_⟩
  refine cS (xs:=List.map V.str edge) (fun i σ H'=>∃kvs look fur o5 o6,σ=[some (.ref d),some (.ref st),some (.ref e),o3,some (.ref le),some (.ref lf),o5,o6]/\Stp H H' ss e look kvs/\H' le=some (.lst (List.map V.str edge))/\H' lf=some (.lst (List.map V.str fur))/\fur.Nodup/\(∀t∈fur,t∈ss)/\MG.Mid (Ner ss fn) s L look fur (fun z y=>z∈edge.take i/\Ner ss fn z y)) ?_ ?_ ?_ ?_
  ·exact⟨kvs,look,[],o5,o6,rfl,S1,by rw[af nlf];exact hle,ae,Bv,(fun t ht=>by cases ht),lev.mid.wk fun a b h=>by simp at h⟩
  ·rintro i σ H' hi ⟨kvs,look,fur,o5,o6,rfl,S,hle,_⟩
   exact .of hle
  ·rintro i x σ H' hx ⟨kvs, look, fur, o5, o6, rfl, S, hle, hlf, hfn, hfs, mid⟩
   rw[Al] at hx
   obtain⟨z,hz,rfl⟩:∃z,edge[i]? = some z/\V.str z=x:=by
    cases q:edge[i]? with
    | none=>rw[q] at hx;cases hx
    | some e=>rw[q] at hx;exact⟨e,rfl,Af hx⟩
   have dz:=(lev.edg z).mp (Ad hz)
   have hzs:=hin z dz.rch
   obtain⟨tkv,hd,ht⟩:=T
   obtain⟨l,el,hl⟩:=ht z hzs
   have hl':=S.sm _ _ hl
   refine⟨_,rfl,_,rfl,.dic (.inl ⟨tkv,.inr z,.inl (S.sm _ _ hd),rfl,el.symm⟩) ⟨l,rfl,⟨_,.of hl'⟩,?_⟩⟩
   refine cS (xs:=List.map V.str (fn z)) (fun j σ H'=>∃kvs look fur o6,σ=[some (.ref d),some (.ref st),some (.ref e),o3,some (.ref le),some (.ref lf),some (.str z),o6]/\Stp H H' ss e look kvs/\H' le=some (.lst (List.map V.str edge))/\H' lf=some (.lst (List.map V.str fur))/\fur.Nodup/\(∀t∈fur,t∈ss)/\MG.Mid (Ner ss fn) s L look fur (fun a y=>(a∈edge.take i/\Ner ss fn a y)∨(a=z/\y∈(fn z).take j))) ?_ ?_ ?_ ?_
   ·exact⟨kvs,look,fur,o6,rfl,S,hle,hlf,hfn,hfs,mid.wk fun a b h=>by simpa using h⟩
   ·rintro j σ H' hj ⟨kvs,look,fur,o6,rfl,S,_⟩
    exact .of (S.sm _ _ hl)
   ·rintro j x σ H' hx ⟨kvs, look, fur, o6, rfl, S, hle, hlf, hfn, hfs, mid⟩
    rw[Al] at hx
    obtain⟨y,hy,rfl⟩:∃y,(fn z)[j]? = some y/\V.str y=x:=by
     cases q:(fn z)[j]? with
     | none=>rw[q] at hx;cases hx
     | some e=>rw[q] at hx;exact⟨e,rfl,Af hx⟩
    have hyf:=Ad hy
    have hys:=hcl z hzs y hyf
    have hdone:∀a b,((a∈edge.take i/\Ner ss fn a b)∨(a=z/\b∈(fn z).take (j+1)))->((a∈edge.take i/\Ner ss fn a b)∨(a=z/\b∈(fn z).take j))∨(a=z/\b=y):=by
     intro a b h
     rcases h with h | ⟨h1,h2⟩
     ·exact .inl (.inl h)
     ·rw[Am,hy,Aj] at h2
      rcases h2 with h2 | h2
      ·exact .inl (.inr ⟨h1,h2⟩)
      ·exact .inr ⟨h1,by simpa using h2⟩
    refine⟨_,rfl,_,rfl,.dic (DGet.k (k:=.inr y) S.at_) ⟨_,rfl,?_⟩⟩
    rw[S.lk y]
    refine ap (fun hc=>?_) (fun hc=>?_)
    ·have hc:¬ (look y).isSome=true := by simpa using hc
     have hn:look y=none:=by simpa using hc
     have hzl:aw kvs (.inr z)=some (V.int (L:Int)):=by rw[S.lk,mid.cmp z L (Aa _) dz];rfl
     refine⟨_,rfl,_,rfl,.dic (.inl ⟨kvs,.inr z,.inl S.at_,rfl,hzl.symm⟩) (.int ?_)⟩
     have hkl:=S.len
     refine⟨_,rfl,_,rfl,.dic (DPut.k (k:=.inr y) S.at_ (aj (by omega))) ?_⟩
     have S':=S.put he hys hn (L+1)
     have nle:le≠e:=ba hle S.at_ (by intro z;cases z)
     have nlf':lf≠e:=ba hlf S.at_ (by intro z;cases z)
     refine⟨_,rfl,.inl ⟨rfl,_,.of (by rw[af nlf'];exact hlf)⟩,?_⟩
     have hfl:fur.length<=ss.length:=hfn.length_le_of_subset hfs
     refine⟨_,rfl,lf,_,_,rfl,rfl,by rw[af nlf'];exact hlf,by rw[z0];exact aj (by omega),?_⟩
     refine⟨_,_,fur++[y],_,rfl,S'.oth hlf0 (Ne.symm nlf'),?_,?_,?_,?_,(mid.add (z:=z) (y:=y) dz ⟨hzs,hyf⟩ hn fun a=>rfl).wk hdone⟩
     ·rw[af nlf,af nle];exact hle
     ·rw[ae,Ae];rfl
     ·rw[A4]
      refine⟨hfn,by simp,fun a ha b hb=>?_⟩
      have:b=y:=by simpa using hb
      subst this
      rintro rfl
      rw[(mid.fur a ha).2] at hn
      cases hn
     ·intro t ht
      rcases Aj.mp ht with ht | ht
      ·exact hfs t ht
      ·have:t=y:=by simpa using ht
       rw[this];exact hys
    ·have hc:(look y).isSome=true:=by
        cases q:look y with
        | none=>rw[q] at hc;exact absurd rfl hc
        | some v=>rfl
     exact⟨kvs,look,fur,_,rfl,S,hle,hlf,hfn,hfs,(mid.skip (z:=z) hc).wk hdone⟩
   ·rintro σ H' ⟨kvs,look,fur,o6,rfl,S,hle,hlf,hfn,hfs,mid⟩
    rw[z0,Ak (Aa _)] at mid
    refine⟨kvs,look,fur,_,_,rfl,S,hle,hlf,hfn,hfs,mid.wk fun a b h=>?_⟩
    obtain⟨h1,h2⟩:=h
    rw[Am,hz,Aj] at h1
    rcases h1 with h1 | h1
    ·exact .inl ⟨h1,h2⟩
    ·have:a=z:=by simpa using h1
     subst this
     exact .inr ⟨rfl,h2.2⟩
  ·rintro σ H' ⟨kvs,look,fur,o5,o6,rfl,S,hle,hlf,hfn,hfs,mid⟩
   rw[z0,Ak (Aa _)] at mid
   have hfl:fur.length<=ss.length:=hfn.length_le_of_subset hfs
   exact⟨_,rfl,lf,fur,kvs,look,_,_,_,_,rfl,S,hlf0,hlf,by omega,mid.next lev.edg fun z y hz r=>⟨hz,r⟩⟩
 ·have he0:edge=[] := by
     cases edge with
     | nil=>rfl
     | cons y r=>exact absurd (Ai (by simp)) hc
  subst he0
  have fin:=lev.done
  refine⟨_,rfl,k e kvs H2 S.sm he S.at_ fun t v=>?_⟩
  rw[S.lk t]
  constructor
  ·intro q
   cases q2:look t with
   | none=>rw[q2] at q;cases q
   | some n =>
    rw[q2] at q
    exact⟨n,(Af q).symm,(fin t n).mp q2⟩
  ·rintro⟨n,rfl,dn⟩
   rw[(fin t n).mpr dn];rfl
def nmA (ss:List Str) (i:Nat):Str:=ss.getD i ""
theorem zF (ss:List Str):ss=(List.range ss.length).map (nmA ss):=by
 apply List.ext_getElem?
 intro i
 rw[Al]
 by_cases hi:i<ss.length
 ·rw[Ar hi,List.getElem?_range hi]
  simp[nmA,hi]
 ·rw[BP (by omega),BP (by simpa using hi)]
  rfl
theorem xR {ss:List Str}{es:List (Nat × Nat)}(nd:ss.Nodup) (nm:∀s∈ss,Nm s) (val:∀e∈es,e.1<ss.length/\e.2<ss.length) {a b:Nat}:(nmA ss a,nmA ss b)∈es.map (nmP ss) ↔ (a,b)∈es:=by
 rw[Ag]
 constructor
 ·rintro⟨e,he,q⟩
  have q1:=dQ nd nm (val e he).1 (Prod.mk.inj q).1
  have q2:=dQ nd nm (val e he).2 (Prod.mk.inj q).2
  rw[<- q1,<- q2];exact he
 ·intro h;exact⟨(a,b),h,rfl⟩
def nxn (n:Nat) (es:List (Nat × Nat)) (a:Nat):List Nat:=(List.range n).filter fun b=>decide ((a,b)∈es)
theorem xI {ss:List Str}{es:List (Nat × Nat)}(nd:ss.Nodup) (nm:∀s∈ss,Nm s) (val:∀e∈es,e.1<ss.length/\e.2<ss.length) (a:Nat):dS ss (es.map (nmP ss)) (nmA ss a)=(nxn ss.length es a).map (nmA ss):=by
 unfold dS nxn
 have e2:∀g:Str->Bool,ss.filter g=((List.range ss.length).map (nmA ss)).filter g:=fun g=>by rw[<- zF ss]
 rw[e2,List.filter_map]
 congr 1
 refine BS fun i hi=>?_
 show decide ((nmA ss a,nmA ss i)∈es.map (nmP ss))=decide ((a,i)∈es)
 rw[AV,decide_eq_true_iff,decide_eq_true_iff,xR nd nm val]
theorem rf (h:(List.range n).filter q=b::r):b<n/\q b=true/\∀c,c<n->q c=true->b<=c:=by
 have hb:b∈(List.range n).filter q:=by rw[h];simp
 obtain⟨h1,h2⟩:=Ap.mp hb
 refine⟨AM.mp h1,h2,fun c hc hq=>?_⟩
 have hm:c∈(List.range n).filter q:=Ap.mpr ⟨AM.mpr hc,hq⟩
 have hp:=(BN (n:=n)).filter q
 rw[h] at hm hp
 rcases AA.mp hm with rfl | hm
 ·exact Aa _
 ·exact AW ((List.pairwise_cons.mp hp).1 c hm)
theorem q5 (nd:ss.Nodup) (nm:∀s ∈ ss, Nm s) (val:∀e ∈ es, e.1<ss.length /\ e.2<ss.length) (hi:i<ss.length) :
    MG.Walk (Tie (es.map (nmP ss))) k (nmA ss one) (nmA ss i) ↔ MG.Walk (MG.Arr es) k one i:=by
 constructor
 ·intro r
  obtain⟨y,ey,ry⟩:=MG.Walk.back (R:=MG.Arr es) (x:=one) (nmA ss) (fun a c h=>by
   obtain⟨e,he,q⟩:=Ag.mp h
   have q1:ss.getD e.1 ""=ss.getD a "":=(Prod.mk.inj q).1
   have q2:ss.getD e.2 ""=c:=(Prod.mk.inj q).2
   have:=dQ nd nm (val e he).1 q1
   exact⟨e.2,q2.symm,by unfold MG.Arr;rw[<- this];exact he⟩) r
  have:=dQ nd nm hi ey
  rw[this];exact ry
 ·intro r
  exact MG.Walk.map (nmA ss) (fun a b h=>Ag.mpr ⟨(a,b),h,rfl⟩) r
theorem mD (nd:ss.Nodup) (nm:∀s∈ss,Nm s) (val:∀e∈es,e.1<ss.length/\e.2<ss.length) (hi:i<ss.length) :
    MG.Dst (Tie (aY (es.map (nmP ss)))) (nmA ss goal) k (nmA ss i) ↔ MG.To es goal k i:=by
 rw[xX]
 have w:∀k,MG.Walk (Tie ((jQ es).map (nmP ss))) k (nmA ss goal) (nmA ss i) ↔ MG.Walk (MG.Arr (jQ es)) k goal i:=fun k=>q5 nd nm (vn val) hi
 constructor
 ·rintro⟨h1,h2⟩
  exact⟨(w k).mp h1,fun m hm q=>h2 m hm ((w m).mpr q)⟩
 ·rintro⟨h1,h2⟩
  exact⟨(w k).mpr h1,fun m hm q=>h2 m hm ((w m).mp q)⟩
theorem uS (W:Web H q ss ts):Ner ss (dS ss (if true then aY ts else ts))=Tie (aY ts):=by
 funext a b
 refine propext ⟨fun h=>?_,fun h=>?_⟩
 ·have h3:=Ao (Ap.mp h.2).2
  exact h3
 ·have g:=W.inn _ (mem_flip.mp h)
  exact⟨g.2,Ap.mpr ⟨g.1,Ai h⟩⟩
def wO (kvs:List (Key × V)) (ss:List Str) (es:List (Nat × Nat)) (goal:Nat):Prop:=∀i v,i<ss.length->(aw kvs (.inr (nmA ss i))=some v ↔ ∃k:Nat,v=.int (k:Int)/\MG.To es goal k i)
def nV (ss:List Str) (es:List (Nat × Nat)):Prop:=∀e∈es,e.1<ss.length/\e.2<ss.length
def nG:Sp:=fun vs H Q _=>∃(q:_) (ss:List Str) (es:List (Nat × Nat)) (dl kvs:_) (goal j a:Nat),vs=[q,.str (nmA ss a),.ref dl]/\Web H q ss (es.map (nmP ss))/\nV ss es/\H dl=some (.dK kvs)/\wO kvs ss es goal/\a<ss.length/\MG.To es goal (j+1) a /\
 ∀b H',MG.Lst es goal j a b->Same H H'->Q (.str (nmA ss b)) H'
theorem tK (F:Fun K "first_nearer" "first_nearer" kQ f fd) (B:Blt mg) (cnexts:Cal P w K mg base 2 "nexts" ["web", "one"] (gA false)):FnOk P w K mg base CX0 3 f fd ["web", "thing", "left"] nG := by
 refine F.ok1 ["web","thing","left","nearer"] fun nd H Q E hr h=>?_
 obtain⟨q,ss,es,dl,kvs,goal,j,a,rfl,W,val,hdl,left,ha,toa,k⟩:=h
 refine⟨_,(aa (dX (i:=3) nd rfl rfl (by rfl) (aD kQ) ["web","thing","left","nearer"] ["near"] [2,1] ["near","left","thing"] rfl (be K (pc cnexts hr (p2 (pv 0) (pv 1)))) (fun _ _ _ _ _=>(ai (i:=0) (show (["near","left","thing"]:List Str).Nodup by decide) rfl (Or.inl rfl))) (fun _ _ _ _ _=>(bv (PW.pt (cx (ag (bL K hr.units) (pv 0) (pv 1) (by with_unfolding_all rfl)) (bY (ag fg (px K hr (pv 1) (pv 0)) (px K hr (pv 1) (pv 2)) (au _))))))) (fun _ _ _ _ _=>(pv 0)))
  (ac (am (px K hr (pv 3) ab)))),?_⟩
 refine⟨_,rfl,_,rfl,q,ss,_,_,rfl,W,fun l1 H1 s1 hl1 hc1=>⟨l1,rfl,⟨_,.of hc1⟩,?_⟩⟩
 have hc1:H1 l1=some (.lst (List.map V.str ((nxn ss.length es a).map (nmA ss)))):=by rw[<- xI W.nd W.nm val a];exact hc1
 have hfl:(nxn ss.length es a).length<=ss.length:=by
  have:=AH (fun b=>decide ((a,b)∈es)) (List.range ss.length)
  rw[BO] at this
  exact this
 have hlen:=W.len
 refine bR (List.map V.str ((nxn ss.length es a).map (nmA ss))) (fun D i acc σ' H'=>∃o,σ'=[o,some (.ref dl),some (.str (nmA ss a))]/\acc=List.map V.str ((((nxn ss.length es a).take i).filter fun b=>decide (aw kvs (.inr (nmA ss b))=some (.int (j:Int)))).map (nmA ss))/\Same H1 H'/\H1 D=none) fun D hD=>⟨?_,?_,?_,?_⟩
 ·exact⟨none,rfl,rfl,Same.new hD,hD⟩
 ·rintro i acc σ' H' _ ⟨o,rfl,_,sm,_⟩ _
  exact .of (sm _ _ hc1)
 ·rintro i acc σ' H' x hx ⟨o, rfl, rfl, sm, hD0⟩ hacc
  rw[AQ,Al] at hx
  obtain⟨b,hb,rfl⟩:∃b,(nxn ss.length es a)[i]? = some b/\V.str (nmA ss b)=x:=by
   cases q:(nxn ss.length es a)[i]? with
   | none=>rw[q] at hx;cases hx
   | some e=>rw[q] at hx;exact⟨e,rfl,Af hx⟩
  have hil:=(Ac.mp hb).1
  obtain⟨hb1,hb2⟩:=Ap.mp (Ad hb)
  have hbn:=AM.mp hb1
  have hbe:=Ao hb2
  have hd':=sm _ _ (s1 _ _ hdl)
  have hno:¬ aw kvs (.inr (nmA ss b))=some (.int (j:Int))->(((nxn ss.length es a).take (i+1)).filter fun b=>decide (aw kvs (.inr (nmA ss b))=some (.int (j:Int))))=(((nxn ss.length es a).take i).filter fun b=>decide (aw kvs (.inr (nmA ss b))=some (.int (j:Int)))):=fun q=>by
   rw[Am,hb,AI]
   simp[q]
  refine⟨_,rfl,_,rfl,.dic (DGet.k (k:=.inr (nmA ss b)) hd') ⟨_,rfl,?_⟩⟩
  refine ap (fun h1=>?_) (fun h1=>?_)
  ·obtain⟨v, hv⟩ := Bh.mp h1
   obtain⟨k1,rfl,tob⟩:=(left b v hbn).mp hv
   have hav:aw kvs (.inr (nmA ss a))=some (.int ((j+1:Nat):Int)):=(left a _ ha).mpr ⟨j+1,rfl,toa⟩
   have hge:=MG.To.step hbe tob toa
   refine⟨_,rfl,_,rfl,.dic (.inl ⟨kvs,.inr (nmA ss b),.inl hd',rfl,hv.symm⟩) ⟨_,rfl,_,rfl,.dic (.inl ⟨kvs,.inr (nmA ss a),.inl hd',rfl,hav.symm⟩) (.int ⟨_,rfl,?_⟩)⟩⟩
   refine ap (fun h2=>?_) (fun h2=>?_)
   ·have h2:(k1:Int)<((j+1:Nat):Int):=Ao h2
    have:k1=j:=by omega
    subst this
    refine⟨_,rfl,hacc,?_,_,rfl,?_,aW sm hD0,hD0⟩
    ·rw[z0,z0]
     have h2:=AH (fun b=>decide (aw kvs (.inr (nmA ss b))=some (.int (k1:Int)))) ((nxn ss.length es a).take i)
     rw[As] at h2
     exact aj (by omega)
    ·rw[Am,hb,AI,Ae,Ae]
     simp[hv]
   ·have h2:¬ (k1:Int)<((j+1:Nat):Int):=fun q=>h2 (Ai q)
    refine⟨hacc,_,rfl,?_,sm,hD0⟩
    rw[hno fun q=>?_]
    rw[hv] at q
    have:=V.int.inj (Af q)
    omega
  ·have h1:¬ (aw kvs (.inr (nmA ss b))).isSome=true:=h1
   refine dH ⟨hacc,_,rfl,?_,sm,hD0⟩
   rw[hno fun q=>?_]
   rw[q] at h1
   exact h1 rfl
 ·rintro acc σ' H2 ⟨o, rfl, rfl, s2, hD0⟩ hacc
  rw[z0,z0,Ak (Aa _)] at hacc
  have hf:((nxn ss.length es a).filter fun b=>decide (aw kvs (.inr (nmA ss b))=some (.int (j:Int))))=(List.range ss.length).filter fun b=>decide (aw kvs (.inr (nmA ss b))=some (.int (j:Int)))&&decide ((a,b)∈es):=by
   unfold nxn
   rw[List.filter_filter]
  rw[hf] at hacc
  have hq:∀b,b<ss.length->((decide (aw kvs (.inr (nmA ss b))=some (.int (j:Int)))&&decide ((a,b)∈es))=true ↔ (a,b)∈es/\MG.To es goal j b):=fun b hb=>by
   rw[Ba,decide_eq_true_iff,decide_eq_true_iff,left b _ hb]
   constructor
   ·rintro⟨⟨k,h1,h2⟩,h3⟩
    have:(j:Int)=k:=V.int.inj h1
    have:j=k:=by omega
    subst this
    exact⟨h3,h2⟩
   ·rintro⟨h1,h2⟩
    exact⟨⟨j,rfl,h2⟩,h1⟩
  cases hl:(List.range ss.length).filter fun b=>decide (aw kvs (.inr (nmA ss b))=some (.int (j:Int)))&&decide ((a,b)∈es) with
  | nil =>
   obtain⟨c,hc1',hc2⟩:=MG.To.pred toa
   have hcn:=(val _ hc1').2
   have:c∈(List.range ss.length).filter fun b=>decide (aw kvs (.inr (nmA ss b))=some (.int (j:Int)))&&decide ((a,b)∈es):=Ap.mpr ⟨AM.mpr hcn,(hq c hcn).mpr ⟨hc1',hc2⟩⟩
   rw[hl] at this
   cases this
  | cons b r =>
   obtain⟨g1,g2,g3⟩:=rf hl
   rw[hl] at hacc
   have g2:=(hq b g1).mp g2
   refine⟨_,rfl,.lst (.of hacc) (bJ (j:=0) rfl) (k b H2 ⟨g2.1,g2.2,fun c h1 h2=>g3 c (val _ h1).2 ((hq c (val _ h1).2).mpr ⟨h1,h2⟩)⟩ (s1.trans s2))⟩
def wD:Sp:=fun vs H Q _=>∃(q:_) (ss:List Str) (es:List (Nat × Nat)) (goal one:Nat),vs=[q,.str (nmA ss one),.str (nmA ss goal)]/\Web H q ss (es.map (nmP ss))/\nV ss es/\one<ss.length/\goal<ss.length /\
 ((∀k,¬ MG.To es goal k one)->∀H',Same H H'->Q .non H')/\∀l k ws H',MG.To es goal k one->MG.Wy es goal k one ws->Same H H'->H l=none->H' l=some (.lst (List.map V.str (ws.map (nmA ss))))->Q (.ref l) H'
theorem g9 (ss:List Str) (us:List Nat) (a:Nat):atI (List.map V.str ((us++[a]).map (nmA ss))) (-1)=some (.str (nmA ss a)):=by
 rw[Ae,Ae]
 exact jz _ _
theorem zw (F:Fun K "way" "way" yG f fd) (B:Blt mg) (csteps_from:Cal P w K mg base 1 "steps_from" ["table", "starts"] hI) (cpriors_of_all:Cal P w K mg base 3 "priors_of_all" ["web"] (ei true)) (cfirst_nearer:Cal P w K mg base 3 "first_nearer" ["web", "thing", "left"] nG):FnOk P w K mg base CX0 4 f fd ["web", "one", "other"] wD := by
 refine F.ok1 ["web","one","other","left","told"] fun nd H Q E hr h=>?_
 obtain⟨q,ss,es,goal,one,rfl,W,val,hone,hg,k0,k⟩:=h
 refine⟨_,(aa (pst 3 nd (pc csteps_from hr (p2 (pc cpriors_of_all hr (p1 (pv 0))) (aS (p1 (pv 2))))))
  (aa (aI (ag (cK K hr.units) (pv 1) (pv 3) (by with_unfolding_all rfl)) (ac (am ci)) av)
  (aa (pst 4 nd (aS (p1 (pv 1))))
  (aa (dP PassesOwn.never (ag (cE hr.units) (px K hr (pv 4) (gn fj ab)) (pv 2) (au _)) (ac (bm (cq K (pv 4) (p1 (pc cfirst_nearer hr (ak (pv 0) (p2 (px K hr (pv 4) (gn fj ab)) (pv 3)))))))))
  (ac (am (pv 4))))))),?_⟩
 refine⟨_,rfl,q,ss,_,rfl,W,fun dt H0 s0 hdt T=>⟨_,rfl,(szl 1),fun ls hls=>⟨dt,ls,nmA ss goal,ss,_,rfl,ae,T.same (Same.new hls),fW hg,W.len,fun t _ u hu=>(Ap.mp hu).1,fun dl kvs H2 s2 hdl hk hst=>?_⟩⟩⟩
 have s1:=s0.trans (Same.new (o:=.lst [V.str (nmA ss goal)]) hls)
 rw[uS W] at hst
 have left:wO kvs ss es goal:=fun i v hi=>by
  rw[hst]
  constructor
  ·rintro⟨k,e,d⟩
   exact⟨k,e,(mD W.nd W.nm val hi).mp d⟩
  ·rintro⟨k,e,d⟩
   exact⟨k,e,(mD W.nd W.nm val hi).mpr d⟩
 have s12:=s1.trans s2
 refine⟨_,rfl,_,rfl,.dic (DGet.k (k:=.inr (nmA ss one)) hk) ⟨_,rfl,?_⟩⟩
 refine ap (fun h1=>?_) (fun h1=>?_)
 ·have h1:(!(aw kvs (.inr (nmA ss one))).isSome)=true:=h1
  refine k0 (fun k tk=>?_) H2 s12
  rw[(left one _ hone).mpr ⟨k,rfl,tk⟩] at h1
  cases h1
 ·have h1:¬ (!(aw kvs (.inr (nmA ss one))).isSome)=true := h1
  obtain⟨k1,to1⟩:∃k1,MG.To es goal k1 one:=by
   cases q:aw kvs (.inr (nmA ss one)) with
   | none=>rw[q] at h1;exact(h1 rfl).elim
   | some v =>
    obtain⟨k1,_,t⟩:=(left one v hone).mp q
    exact⟨k1,t⟩
  refine⟨_,rfl,(szl 1),fun l hl=>?_⟩
  have hl0:=bd s12 hl
  refine⟨fun m σ H'=>∃us a,σ=[some q,some (.str (nmA ss one)),some (.str (nmA ss goal)),some (.ref dl),some (.ref l)]/\Same H2 H'/\H' l=some (.lst (List.map V.str ((us++[a]).map (nmA ss))))/\MG.Pre es goal k1 one m a (us++[a]),⟨k1,[],one,rfl,Same.new hl,ae,MG.Pre.start to1⟩,?_⟩
  rintro m σ H3 ⟨us,a,rfl,s3,e3,pre⟩
  have toa:=pre.1
  have ha:=MG.To.inn val hg toa
  refine⟨_,rfl,_,rfl,.lst (.of e3) (g9 ss us a) ⟨_,rfl,.sc rfl ⟨_,rfl,?_⟩⟩⟩
  refine ap (fun h2=>?_) (fun h2=>?_)
  ·have h2:(!decide (V.str (nmA ss a)=V.str (nmA ss goal)))=true:=h2
   have hne:a≠goal:=fun q=>by subst q;simp at h2
   obtain⟨j,rfl⟩:∃j,m=j+1:=by
    cases m with
    | zero=>exact absurd (MG.To.zero toa) hne
    | succ j=>exact⟨j,rfl⟩
   refine⟨fun σ' H'=>∃us a,σ'=[some q,some (.str (nmA ss one)),some (.str (nmA ss goal)),some (.ref dl),some (.ref l)]/\Same H2 H'/\H' l=some (.lst (List.map V.str ((us++[a]).map (nmA ss))))/\MG.Pre es goal k1 one j a (us++[a]),fun σ' H' p=>⟨j,by omega,p⟩,?_⟩
   refine⟨_,rfl,.inl ⟨rfl,_,.of e3⟩,?_⟩
   refine⟨_,rfl,_,rfl,_,rfl,.lst (.of e3) (g9 ss us a) ⟨_,rfl,q,ss,es,dl,kvs,goal,j,a,rfl,(W.same s12).same s3,val,s3 _ _ hk,left,ha,toa,fun b H4 lst s4=>?_⟩⟩
   have pre':=pre.add lst
   have hlen:=pre'.2.2.2
   have hk1:=MG.To.lt val hg to1
   have h60:=W.len
   have e4:=s4 _ _ e3
   refine⟨l,_,_,rfl,rfl,e4,?_,?_⟩
   ·rw[z0,z0]
    rw[Aq] at hlen
    exact aj (by omega)
   ·refine⟨us++[a],b,rfl,aW (s3.trans s4) hl,?_,pre'⟩
    rw[ae,Ae (l₁:=us++[a]),Ae (l₁:=(us++[a]).map (nmA ss))];rfl
  ·have h2:¬ (!decide (V.str (nmA ss a)=V.str (nmA ss goal)))=true:=h2
   have he:nmA ss a=nmA ss goal:=by
    refine Classical.byContradiction fun q=>h2 ?_
    have:¬ V.str (nmA ss a)=V.str (nmA ss goal):=fun z=>q (V.str.inj z)
    simp[this]
   have he:=dQ W.nd W.nm ha he
   subst he
   have hm:m=0:=MG.Dst.uniq toa MG.To.here
   subst hm
   exact⟨_,rfl,k l k1 _ H3 to1 pre.done (s12.trans s3) hl0 e3⟩
theorem hX (val:nV ss es) (hg:goal<ss.length) (t:MG.To es goal k one) (wy:MG.Wy es goal k one ws):ws.length<=ss.length/\∀x∈ws,x<ss.length:=by
 have h1:=wy.len
 have h2:=MG.To.lt val hg t
 exact⟨by omega,MG.Wy.inn val hg wy⟩
theorem vU (xs:List V):cL xs none (some (-1))=xs.dropLast:=by
 unfold cL
 have h1:HT.sIx xs.length 0 none=0:=rfl
 have h2:HT.sIx xs.length xs.length (some (-1))=xs.length-1:=by
  show (if (-1:Int)<0 then ((-1:Int)+(xs.length:Int)).toNat else min (-1:Int).toNat xs.length)=xs.length-1
  rw[if_pos (by decide)]
  omega
 rw[h1,h2,List.drop_zero,Nat.sub_zero,List.dropLast_eq_take]
theorem nk (ss:List Str) (ws:List Nat):(List.map V.str (ws.map (nmA ss))).dropLast=List.map V.str (ws.dropLast.map (nmA ss)):=by
 rw[List.dropLast_eq_take,List.dropLast_eq_take,z0,z0,BI,BI]
def oE:Sp:=fun vs H Q _=>∃(q:_) (ss:List Str) (es:List (Nat × Nat)) (one other:Nat),vs=[q,.str (nmA ss one),.str (nmA ss other)]/\Web H q ss (es.map (nmP ss))/\nV ss es/\one<ss.length/\other<ss.length /\
 ((∀k,¬ MG.To es one k other)->∀H',Same H H'->Q .non H')/\∀l k ws H',MG.To es one k other->MG.Wy es one k other ws->Same H H'->H l=none->H' l=some (.lst (List.map V.str ((one::ws.dropLast).map (nmA ss))))->Q (.ref l) H'
theorem rn (F:Fun K "ring_by" "ring_by" pL f fd) (B:Blt mg) (cway:Cal P w K mg base 4 "way" ["web", "one", "other"] wD):FnOk P w K mg base CX0 5 f fd ["web", "one", "other"] oE := by
 refine F.ok1 ["web","one","other","back"] fun nd H Q E hr h=>?_
 obtain⟨q,ss,es,one,other,rfl,W,val,hone,hoth,k0,k⟩:=h
 refine⟨_,(aa (pst 3 nd (pc cway hr (ak (pv 0) (p2 (pv 2) (pv 1)))))
  (aa (aI (ag gS (pv 3) ci (au _)) (ac (am ci)) av)
  (ac (am (aG aK (aS (p1 (pv 1))) (bO (iP K) (pv 3) cJ (bQ (gn fj ab)))))))),?_⟩
 refine⟨_,rfl,_,rfl,_,rfl,q,ss,es,one,other,rfl,W,val,hoth,hone,fun hno H1 s1=>?_,fun l1 k1 ws H1 to1 wy s1 hl1 hc1=>?_⟩
 ·refine⟨_,rfl,.non ⟨_,rfl,?_⟩⟩
  refine ap (fun _=>?_) (fun h=>(h (Ai (rfl:V.non=V.non))).elim)
  exact k0 hno H1 s1
 ·obtain⟨hwl, hwn⟩ := hX val hone to1 wy
  have h60:=W.len
  refine⟨_,rfl,.non ⟨_,rfl,?_⟩⟩
  refine ap (fun h=>?_) (fun _=>?_)
  ·have h:V.ref l1=V.non:=Ao h
   cases h
  ·refine⟨_,rfl,(szl 1),fun l2 hl2=>?_⟩
   have s2:=Same.new (o:=.lst [V.str (nmA ss one)]) hl2
   refine⟨_,rfl,_,rfl,_,rfl,.lst (.of (s2 _ _ hc1)) fun l3 hl3=>?_⟩
   rw[vU,nk]
   have s3:=Same.new (o:=.lst (List.map V.str (ws.dropLast.map (nmA ss)))) hl3
   refine .lst (s3 _ _ ae) ae ?_ fun l hl=>?_
   ·rw[z0,z0,List.length_dropLast]
    show 1+(ws.length-1)<=sizeLine
    exact AW (aj (by omega))
   ·exact k l k1 ws _ to1 wy (s1.trans (s2.trans (s3.trans (Same.new hl)))) (bd (s1.trans (s2.trans s3)) hl) ae
theorem jV (F:Fun K "nexts_of_all" "nexts_of_all" mJ f fd) (B:Blt mg) (cnexts:Cal P w K mg base 2 "nexts" ["web", "one"] (gA false)):FnOk P w K mg base CX0 3 f fd ["web"] (ei false) := by
 refine F.ok1 ["web","table","thing"] fun nd H Q E hr h=>?_
 obtain⟨q,ss,ts,rfl,W,k⟩:=h
 refine⟨_,(aa (pst 1 nd fY)
  (aa (aZ PassesOwn.never rfl (bc K (px K hr (pv 0) ab)) (ai (i:=2) nd rfl (Or.inl rfl)) (ac (bU (pc cnexts hr (p2 (pv 0) (pv 2))) (cO (pv 1) (pv 2) (du hr.units)))))
  (ac (am (pv 1))))),?_⟩
 intro d hd
 have W1:=W.same (Same.new (o:=.dK []) hd)
 obtain⟨q,a,b,xs,rfl,hq,ha,hb,rp⟩:=gN W.rep
 have s0:=Same.new (o:=.dK []) hd
 refine⟨_,rfl,.tup (.of (s0 _ _ hq)) rfl ⟨_,rfl,⟨_,.of (s0 _ _ ha)⟩,?_⟩⟩
 refine cC (xs:=List.map V.str ss) (fun i σ H'=>∃o1 kvs,σ=[some (.ref q),some (.ref d),o1]/\Same H H'/\H' d=some (.dK kvs)/\kvs.length<=i/\∀s∈ss.take i,∃l,aw kvs (.inr s)=some (.ref l)/\H' l=some (.lst (List.map V.str (dS ss (if false then aY ts else ts) s)))) ?_ ?_ ?_ ?_
 ·exact⟨none,[],rfl,s0,ae,Aa _,fun s hs=>by simp at hs⟩
 ·rintro i σ H' hi ⟨o1,kvs,rfl,sm,_⟩
  exact .of (sm _ _ ha)
 ·rintro i x σ H' hx ⟨o1, kvs, rfl, sm, hk, hkl, hall⟩
  rw[Al] at hx
  obtain⟨t,ht,rfl⟩:∃t,ss[i]? = some t/\V.str t=x:=by
   cases q:ss[i]? with
   | none=>rw[q] at hx;cases hx
   | some e=>rw[q] at hx;exact⟨e,rfl,Af hx⟩
  have hil:=(Ac.mp ht).1
  refine⟨_,rfl,_,rfl,.ref q,ss,ts,t,rfl,W.same sm,fun l H2 s2 hl hl2=>?_⟩
  have hk2:=s2 _ _ hk
  have:=W.len
  refine⟨_,rfl,_,rfl,.dic (DPut.k (k:=.inr t) hk2 (aj (by omega))) ⟨_,_,rfl,?_,ae,?_,?_⟩⟩
  ·intro c o hc
   rw[af (ah hc hd)]
   exact s2 _ _ (sm _ _ hc)
  ·have:=bw kvs (.inr t) (V.ref l)
   omega
  ·intro s hs
   rw[Am,ht,Aj] at hs
   by_cases q:s=t
   ·subst q
    refine⟨l,by rw[cH,if_pos rfl],?_⟩
    rw[af (ba hl2 hk2 (by intro z;cases z))]
    exact hl2
   ·rcases hs with hs | hs
    ·obtain⟨l',e1,e2⟩:=hall s hs
     refine⟨l',by rw[cH,if_neg (fun z=>q (Sum.inr.inj z))];exact e1,?_⟩
     rw[af (ba (s2 _ _ e2) hk2 (by intro z;cases z))]
     exact s2 _ _ e2
    ·exact absurd (by simpa using hs) q
 ·rintro σ H' ⟨o1,kvs,rfl,sm,hk,_,hall⟩
  rw[z0,Ak (Aa _)] at hall
  exact⟨_,rfl,k d H' sm hd ⟨kvs,hk,hall⟩⟩
theorem nW (W:Web H q ss ts) (a b:Str):Ner ss (dS ss (if false then aY ts else ts)) a b ↔ Tie (if false then aY ts else ts) a b := by
 have key:Tie (if false then aY ts else ts) a b->a∈ss/\b∈ss:=fun h=>by
  first
   | exact(W.inn _ h)
   | (have:=W.inn _ (mem_flip.mp h);exact⟨this.2,this.1⟩)
 constructor
 ·rintro⟨h1,h2⟩
  have h3:=Ao (Ap.mp h2).2
  exact h3
 ·intro h
  exact⟨(key h).1,Ap.mpr ⟨(key h).2,Ai h⟩⟩
theorem rT (F:Fun K "behinds" "behinds" jm f fd) (B:Blt mg) (csteps_from:Cal P w K mg base 1 "steps_from" ["table", "starts"] hI) (cnexts_of_all:Cal P w K mg base 3 "nexts_of_all" ["web"] (ei false)):FnOk P w K mg base CX0 4 f fd ["web", "one"] (ga false) := by
 refine F.ok1 ["web","one","reached"] fun nd H Q E hr h=>?_
 obtain⟨q,ss,ts,s,rfl,W,hs,k⟩:=h
 refine⟨_,(aa (bV (i:=2) nd rfl (Or.inr rfl) (pc csteps_from hr (p2 (pc cnexts_of_all hr (p1 (pv 0))) (aS (p1 (pv 1))))))
  (ac (am (bj (aD jm) ["web","one","reached"] ["thing"] [2] ["thing","reached"] rfl (bc K (px K hr (pv 0) ab)) (fun _ _ _ _ _=>(ai (i:=0) (show (["thing","reached"]:List Str).Nodup by decide) rfl (Or.inl rfl))) (fun _ _ _ _ _=>(bv (ag (bL K hr.units) (pv 0) (pv 1) (by with_unfolding_all rfl)))) (fun _ _ _ _ _=>(pv 0)))))),?_⟩
 obtain⟨q,a,b,xs,rfl,hq,ha,hb,rp⟩:=gN W.rep
 refine⟨_,rfl,.ref q,ss,ts,rfl,W,fun dt H0 s0 hdt T=>⟨_,rfl,(szl 1),fun ls hls=>⟨dt,ls,s,ss,_,rfl,ae,T.same (Same.new hls),hs,W.len,fun t _ u hu=>(Ap.mp hu).1,fun d kvs H2 s2 hd2 hk hst=>?_⟩⟩⟩
 have s1:=s0.trans (Same.new (o:=.lst [V.str s]) hls)
 have s12:=s1.trans s2
 refine⟨_,rfl,.tup (.of (s12 _ _ hq)) rfl ⟨_,rfl,⟨_,.of (s12 _ _ ha)⟩,?_⟩⟩
 refine bX (List.map V.str ss) (fun D i acc σ' H'=>∃o,σ'=[o,some (.ref d)]/\acc=List.map V.str ((ss.take i).filter fun t=>(aw kvs (.inr t)).isSome)/\Same H2 H'/\H2 D=none) fun D' hD'=>⟨?_,?_,?_,?_⟩
 ·exact⟨none,rfl,rfl,Same.new hD',hD'⟩
 ·rintro i acc σ' H' _ ⟨o,rfl,_,sm,_⟩ _
  exact .of (sm _ _ (s12 _ _ ha))
 ·rintro i acc σ' H' x hx ⟨o, rfl, hacc0, sm, hD0⟩ hacc
  rw[Al] at hx
  obtain⟨t,ht,rfl⟩:∃t,ss[i]? = some t/\V.str t=x:=by
   cases q:ss[i]? with
   | none=>rw[q] at hx;cases hx
   | some e=>rw[q] at hx;exact⟨e,rfl,Af hx⟩
  have hil:=(Ac.mp ht).1
  refine⟨_,rfl,_,rfl,.dic (DGet.k (k:=.inr t) (sm _ _ hk)) ⟨_,rfl,?_⟩⟩
  refine ap (fun h1=>?_) (fun h1=>?_)
  ·refine⟨_,rfl,hacc,?_,_,rfl,?_,?_,hD0⟩
   ·rw[hacc0,z0]
    have h2:=AH (fun t:Str=>(aw kvs (.inr t)).isSome) (ss.take i)
    rw[As] at h2
    have:=W.len
    exact aj (by omega)
   ·have h1:(aw kvs (.inr t)).isSome=true:=h1
    rw[Am,ht,hacc0,AI,Ae]
    simp[h1]
   ·intro c o hc
    rw[af (ah hc hD0)]
    exact sm _ _ hc
  ·have h1:¬ (aw kvs (.inr t)).isSome=true:=h1
   refine⟨hacc,_,rfl,?_,sm,hD0⟩
   rw[Am,ht,hacc0,AI,Ae]
   simp[h1]
 ·rintro acc σ' H' ⟨o, rfl, hacc0, sm, hD0⟩ hacc
  rw[z0,Ak (Aa _)] at hacc0
  refine k _ _ (fun t=>(aw kvs (.inr t)).isSome) (s12.trans sm) ?_ (fun t=>?_) (by rw[hacc,hacc0])
  ·cases e:H D' with
   | none=>rfl
   | some o=>rw[s12 _ _ e] at hD0;cases hD0
  ·have e:Ner ss (dS ss (if false then aY ts else ts))=Tie (if false then aY ts else ts):=funext fun a=>funext fun b=>propext (nW W a b)
   rw[<- e]
   constructor
   ·intro h
    obtain⟨v,hv⟩:=Bh.mp h
    obtain⟨n,_,dn⟩:=(hst t v).mp hv
    exact dn.rch
   ·intro h
    obtain⟨n,dn⟩:=h.dst
    rw[(hst t (V.int n)).mpr ⟨n,rfl,dn⟩];rfl
theorem pD (W:Web H q ss ts) (a b:Str):Ner ss (dS ss (if true then aY ts else ts)) a b ↔ Tie (if true then aY ts else ts) a b := by
 have key:Tie (if true then aY ts else ts) a b->a∈ss/\b∈ss:=fun h=>by
  first
   | exact(W.inn _ h)
   | (have:=W.inn _ (mem_flip.mp h);exact⟨this.2,this.1⟩)
 constructor
 ·rintro⟨h1,h2⟩
  have h3:=Ao (Ap.mp h2).2
  exact h3
 ·intro h
  exact⟨(key h).1,Ap.mpr ⟨(key h).2,Ai h⟩⟩
theorem tx (F:Fun K "aheads" "aheads" li f fd) (B:Blt mg) (csteps_from:Cal P w K mg base 1 "steps_from" ["table", "starts"] hI) (cpriors_of_all:Cal P w K mg base 3 "priors_of_all" ["web"] (ei true)):FnOk P w K mg base CX0 4 f fd ["web", "one"] (ga true) := by
 refine F.ok1 ["web","one","reaching"] fun nd H Q E hr h=>?_
 obtain⟨q,ss,ts,s,rfl,W,hs,k⟩:=h
 refine⟨_,(aa (bV (i:=2) nd rfl (Or.inr rfl) (pc csteps_from hr (p2 (pc cpriors_of_all hr (p1 (pv 0))) (aS (p1 (pv 1))))))
  (ac (am (bj (aD li) ["web","one","reaching"] ["thing"] [2] ["thing","reaching"] rfl (bc K (px K hr (pv 0) ab)) (fun _ _ _ _ _=>(ai (i:=0) (show (["thing","reaching"]:List Str).Nodup by decide) rfl (Or.inl rfl))) (fun _ _ _ _ _=>(bv (ag (bL K hr.units) (pv 0) (pv 1) (by with_unfolding_all rfl)))) (fun _ _ _ _ _=>(pv 0)))))),?_⟩
 obtain⟨q,a,b,xs,rfl,hq,ha,hb,rp⟩:=gN W.rep
 refine⟨_,rfl,.ref q,ss,ts,rfl,W,fun dt H0 s0 hdt T=>⟨_,rfl,(szl 1),fun ls hls=>⟨dt,ls,s,ss,_,rfl,ae,T.same (Same.new hls),hs,W.len,fun t _ u hu=>(Ap.mp hu).1,fun d kvs H2 s2 hd2 hk hst=>?_⟩⟩⟩
 have s1:=s0.trans (Same.new (o:=.lst [V.str s]) hls)
 have s12:=s1.trans s2
 refine⟨_,rfl,.tup (.of (s12 _ _ hq)) rfl ⟨_,rfl,⟨_,.of (s12 _ _ ha)⟩,?_⟩⟩
 refine bX (List.map V.str ss) (fun D i acc σ' H'=>∃o,σ'=[o,some (.ref d)]/\acc=List.map V.str ((ss.take i).filter fun t=>(aw kvs (.inr t)).isSome)/\Same H2 H'/\H2 D=none) fun D' hD'=>⟨?_,?_,?_,?_⟩
 ·exact⟨none,rfl,rfl,Same.new hD',hD'⟩
 ·rintro i acc σ' H' _ ⟨o,rfl,_,sm,_⟩ _
  exact .of (sm _ _ (s12 _ _ ha))
 ·rintro i acc σ' H' x hx ⟨o, rfl, hacc0, sm, hD0⟩ hacc
  rw[Al] at hx
  obtain⟨t,ht,rfl⟩:∃t,ss[i]? = some t/\V.str t=x:=by
   cases q:ss[i]? with
   | none=>rw[q] at hx;cases hx
   | some e=>rw[q] at hx;exact⟨e,rfl,Af hx⟩
  have hil:=(Ac.mp ht).1
  refine⟨_,rfl,_,rfl,.dic (DGet.k (k:=.inr t) (sm _ _ hk)) ⟨_,rfl,?_⟩⟩
  refine ap (fun h1=>?_) (fun h1=>?_)
  ·refine⟨_,rfl,hacc,?_,_,rfl,?_,?_,hD0⟩
   ·rw[hacc0,z0]
    have h2:=AH (fun t:Str=>(aw kvs (.inr t)).isSome) (ss.take i)
    rw[As] at h2
    have:=W.len
    exact aj (by omega)
   ·have h1:(aw kvs (.inr t)).isSome=true:=h1
    rw[Am,ht,hacc0,AI,Ae]
    simp[h1]
   ·intro c o hc
    rw[af (ah hc hD0)]
    exact sm _ _ hc
  ·have h1:¬ (aw kvs (.inr t)).isSome=true:=h1
   refine⟨hacc,_,rfl,?_,sm,hD0⟩
   rw[Am,ht,hacc0,AI,Ae]
   simp[h1]
 ·rintro acc σ' H' ⟨o, rfl, hacc0, sm, hD0⟩ hacc
  rw[z0,Ak (Aa _)] at hacc0
  refine k _ _ (fun t=>(aw kvs (.inr t)).isSome) (s12.trans sm) ?_ (fun t=>?_) (by rw[hacc,hacc0])
  ·cases e:H D' with
   | none=>rfl
   | some o=>rw[s12 _ _ e] at hD0;cases hD0
  ·have e:Ner ss (dS ss (if true then aY ts else ts))=Tie (if true then aY ts else ts):=funext fun a=>funext fun b=>propext (pD W a b)
   rw[<- e]
   constructor
   ·intro h
    obtain⟨v,hv⟩:=Bh.mp h
    obtain⟨n,_,dn⟩:=(hst t v).mp hv
    exact dn.rch
   ·intro h
    obtain⟨n,dn⟩:=h.dst
    rw[(hst t (V.int n)).mpr ⟨n,rfl,dn⟩];rfl
theorem tm (T:Tre us ks) (W:WnX ks wn) (hk:k ∈ ks) (hw:word="first" ∨ word="last"):(wU k.2 wn word).length <= 1 := by
 have alike:∀ {x y:Str},FL k (word,x)->FL k (word,y)->x=y:=fun {x y} hx hy=>by
  have n:("first":Str)≠"last":=by decide
  rcases hx with⟨e1,h1⟩ | ⟨e1,h1⟩
  ·rcases hy with⟨_,h2⟩ | ⟨e2,_⟩
   ·exact Af (h1.symm.trans h2)
   ·exact absurd (e1.symm.trans e2) n
  ·rcases hy with⟨e2,_⟩ | ⟨_,h2⟩
   ·exact absurd (e2.symm.trans e1) n
   ·exact Af (h1.symm.trans h2)
 have own:∀u∈wU k.2 wn word,FL k (word,u):=fun u hu=>by
  unfold wU at hu
  rw[Ap,decide_eq_true_iff] at hu
  obtain⟨k',hk',f⟩:=W.at_ _ hu.2
  have:=fi T.knd hk hk' hu.1 f.mem
  rw[this];exact f
 have nd:(wU k.2 wn word).Nodup:=(bo T hk).filter _
 generalize wU k.2 wn word=l at own nd
 match l with
 | []=>exact AC _
 | [x]=>exact Aa _
 | x::y::l =>
  have:=alike (own x (by simp)) (own y (by simp))
  rw[this,AL] at nd
  exact absurd (by simp) nd.1
theorem tM (T:Tre us ks) (W:WnX ks wn) (hk:k∈ks) (tl:ts.length<=200):(aL ks ts wn k.1 k.2).length<=401:=by
 have kl:=fX (bo T hk) fun u hu=>T.isIn hk hu
 have hl:=T.len
 unfold aL
 have h0:=iB (ts.filterMap (cG ks k.1)++((wU k.2 wn "first").flatMap (bS false k.2)++(wU k.2 wn "last").flatMap (bS true k.2))) []
 rw[Aq,Aq] at h0
 have h1:=List.length_filterMap_le (cG ks k.1) ts
 have h2:=jo (f:=bS false k.2) (l:=wU k.2 wn "first") (m:=60) fun u _=>Az (im _ k.2 u) (by omega)
 have h3:=jo (f:=bS true k.2) (l:=wU k.2 wn "last") (m:=60) fun u _=>Az (im _ k.2 u) (by omega)
 have h4:=tm T W hk (word:="first") (.inl rfl)
 have h5:=tm T W hk (word:="last") (.inr rfl)
 have h6:([]:Prs).length=0:=rfl
 omega
theorem cu (T:Tre us ks) (hk:k∈ks) (hu:u∈us) (hv:v∈us) (h:aH ks u v=some (k.1,x,y)):x∈k.2/\y∈k.2:=by
 obtain⟨h1,h2,hx,hy,_⟩:=T.part hu hv h
 have hk:(k.1,k.2)∈ks:=hk
 exact⟨T.kid hx (by rw[h1];exact hk),T.kid hy (by rw[h2];exact hk)⟩
theorem cy (T:Tre us ks) (tok:fv us ks ts) (hk:k ∈ ks):∀e ∈ aL ks ts wn k.1 k.2, e.1 ∈ k.2 /\ e.2 ∈ k.2 := fun e he => by
 unfold aL at he
 rw[gp,Aj,Aj] at he
 rcases he with he | he | he | he
 ·cases he
 ·obtain⟨z, hz, q⟩ := BE.mp he
  obtain⟨hu,hv',_⟩:=tok z hz
  unfold cG at q
  cases hpo:aH ks z.1 z.2 with
  | none=>rw[hpo] at q;cases q
  | some t3 =>
   obtain⟨kq,x1,y1⟩:=t3
   rw[hpo] at q
   have q:(if kq=k.1 then some (x1,y1) else none)=some e:=q
   by_cases hz:kq=k.1
   ·rw[if_pos hz] at q
    have q:=Af q
    subst q
    rw[hz] at hpo
    exact cu T hk hu hv' hpo
   ·rw[if_neg hz] at q;cases q
 ·obtain⟨u,hu,he⟩:=A8.mp he
  exact i6 (us:=k.2) false (fun z hz=>hz) (mV hu) e he
 ·obtain⟨u,hu,he⟩:=A8.mp he
  exact i6 (us:=k.2) true (fun z hz=>hz) (mV hu) e he
def cW (c:List Str) (ps:Prs):List (Nat × Nat):=ps.map fun e=>(c.idxOf e.1,c.idxOf e.2)
theorem iJ (h:∀e∈ps,e.1∈c/\e.2∈c):(cW c ps).map (nmP c)=ps:=by
 unfold cW
 rw[AQ]
 conv=>rhs;rw[<- List.map_id ps]
 refine List.map_congr_left fun e he=>?_
 show (c.getD (c.idxOf e.1) "",c.getD (c.idxOf e.2) "")=e
 rw[bK (h e he).1,bK (h e he).2]
theorem ji (h:∀e∈ps,e.1∈c/\e.2∈c):nV c (cW c ps):=fun e he=>by
 obtain⟨f,hf,rfl⟩:=Ag.mp he
 exact⟨AJ (h f hf).1,AJ (h f hf).2⟩
theorem vT (nd:c.Nodup) (h:∀e∈ps,e.1∈c/\e.2∈c) (ha:a<c.length) (hb:b<c.length):(a,b)∈cW c ps ↔ (nmA c a,nmA c b)∈ps:=by
 have ia:c.idxOf (nmA c a)=a:=ck nd (by unfold nmA;rw[AG,Ar ha];rfl)
 have ib:c.idxOf (nmA c b)=b:=ck nd (by unfold nmA;rw[AG,Ar hb];rfl)
 constructor
 ·intro q
  obtain⟨e,he,z⟩:=Ag.mp q
  obtain⟨z1,z2⟩:=Prod.mk.inj z
  have e1:nmA c a=e.1:=by rw[<- z1];exact bK (h e he).1
  have e2:nmA c b=e.2:=by rw[<- z2];exact bK (h e he).2
  rw[e1,e2];exact he
 ·intro q
  exact Ag.mpr ⟨_,q,by rw[ia,ib]⟩
theorem uu (T:Tre us ks) (tok:fv us ks ts) (W:WnX ks wn) (hk:k∈ks) (tl:ts.length<=200) (r:Rep H v (mT ks ts wn k)):Web H v k.2 ((cW k.2 (aL ks ts wn k.1 k.2)).map (nmP k.2)):=by
 have he:=cy (wn:=wn) T tok hk
 have kl:=fX (bo T hk) fun u hu=>T.isIn hk hu
 have hl:=T.len
 rw[iJ he]
 exact⟨r,bo T hk,fun s hs=>T.nm _ (T.isIn hk hs),by omega,tM T W hk tl,he⟩
def TieO (es:List (Nat × Nat)) (goal a:Nat):Option (List Nat)->Prop
 | none=>∀k,¬ MG.To es goal k a
 | some ws=>∃k,MG.To es goal k a/\MG.Wy es goal k a ws
theorem TieO.uniq (h:TieO es goal a o) (g:TieO es goal a p):o=p := by
 cases o with
 | none =>
  cases p with
  | none=>rfl
  | some ws =>
   obtain⟨k,t,_⟩:=g
   exact absurd t (h k)
 | some ws =>
  obtain⟨k,t,w⟩:=h
  cases p with
  | none=>exact absurd t (g k)
  | some vs =>
   obtain⟨k',t',w'⟩:=g
   have:=t.uniq t'
   subst this
   rw[w.uniq w']
def ky (ks:Kn) (ts wn:Prs) (knot:Str) (row:List Str):List PyData:=(row.zip (row.drop 1)).map fun e=>t3D (fc ks ts wn (knot,e.1,e.2))
def TrV (H:Hp) (z:V) (ks:Kn) (ts wn:Prs) (kk:Str × List Str) (u v:Str):Option (List Nat)->Prop
 | none=>z=.non
 | some ws=>∃l refs,z=.ref l/\H l=some (.lst refs)/\RepAll H refs (t3D ((("tie":Str),u,v):T3)::ky ks ts wn kk.1 (ws.map (nmA kk.2)))
theorem pZ (T:Tre us ks) (hk:k∈ks):k.1=""∨Nm k.1:=by
 rcases T.sub k hk with w | w
 ·exact .inl w
 ·exact .inr (T.nm _ w)
def lZ:Sp:=fun vs H Q _=>∃(q us ks:_) (ts ws wn:Prs) (kk:Str × List Str) (u v x y:_),vs=[.ref q,.str u,.str v]/\Rep H (.ref q) (aJ ks ts ws wn)/\Tre us ks/\fv us ks ts/\WnX ks wn/\ts.length<=200/\kk∈ks/\u∈us/\v∈us/\aH ks u v=some (kk.1,x,y) /\
 ∀o z H',Same H H'->(∀l,z=.ref l->H l=none)->TieO (cW kk.2 (aL ks ts wn kk.1 kk.2)) (kk.2.idxOf x) (kk.2.idxOf y) o->TrV H' z ks ts wn kk u v o->Q z H'
theorem pi (F:Fun K "ring_of_tie" "ring_of_tie" kh f fd) (B:Blt mg) (cparting:Cal P w K mg base 3 "parting" ["house", "one", "other"] gL) (cview:Cal P w K mg base 4 "view" ["house", "knot"] nJ) (cring_by:Cal P w K mg base 5 "ring_by" ["web", "one", "other"] oE) (csteps_along:Cal P w K mg base 4 "steps_along" ["house", "knot", "row"] spSteps):FnOk P w K mg base CX0 6 f fd ["house", "one", "other"] lZ := by
 refine F.ok1 ["house","one","other","part","ring"] fun nd H Q E hr h=>?_
 obtain⟨q,us,ks,ts,ws,wn,kk,u,v,x,y,rfl,R,T,tok,WX,tl,hkk,hu,hv,hp,k⟩:=h
 have wok:=WnX.ok T WX
 obtain⟨hxk,hyk⟩:=cu T hkk hu hv hp
 refine⟨_,(aa (pst 3 nd (pc cparting hr (ak (pv 0) (p2 (pv 1) (pv 2)))))
  (aa (pst 4 nd (pc cring_by hr (ak (pc cview hr (p2 (pv 0) (px K hr (pv 3) ab))) (p2 (px K hr (pv 3) ab) (px K hr (pv 3) ab)))))
  (aa (aI (ag gS (pv 4) ci (au _)) (ac (am ci)) av)
  (ac (am (aG aK (aS (p1 (aB (ak aA (p2 (pv 1) (pv 2)))))) (pc csteps_along hr (ak (pv 0) (p2 (px K hr (pv 3) ab) (aG aK (bO (iP K) (pv 4) (bQ ab) cJ) (bO (iP K) (pv 4) cJ (bQ ab)))))))))))),?_⟩
 refine⟨_,rfl,_,rfl,_,rfl,q,us,ks,ts,ws,wn,u,v,rfl,R,T,hu,hv,fun p0 H1 s1 rp0=>?_⟩
 rw[hp] at rp0
 obtain⟨t,rfl,ht⟩:=rp0
 dsimp only[aQ]
 have klen:kk.2.length<=60:=by
  have:=fX (bo T hkk) fun u hu=>T.isIn hkk hu
  have:=T.len
  omega
 have ex:nmA kk.2 (kk.2.idxOf x)=x:=bK hxk
 have ey:nmA kk.2 (kk.2.idxOf y)=y:=bK hyk
 have hix:=AJ hxk
 have hiy:=AJ hyk
 refine⟨_,rfl,_,rfl,.tup (.of ht) rfl (ao ⟨q,us,ks,ts,ws,wn,kk,rfl,R.same s1,T,tok,WX,hkk,tl,fun vy H2 s2 ry=>?_⟩)⟩
 have s12:=s1.trans s2
 have W:=uu T tok WX hkk tl ry
 have val:=ji (cy (wn:=wn) T tok hkk)
 have ht2:=s2 _ _ ht
 generalize cW kk.2 (aL ks ts wn kk.1 kk.2)=es at W val k
 refine⟨_,rfl,.tup (.of ht2) rfl ⟨_,rfl,.tup (.of ht2) rfl (ao ?_)⟩⟩
 refine⟨vy,kk.2,es,kk.2.idxOf x,kk.2.idxOf y,by rw[ex,ey];rfl,W,val,hix,hiy,fun hno H3 s3=>?_,fun l3 k3 wy3 H3 to3 wy s3 hl3 hc3=>?_⟩
 ·refine⟨_,rfl,.non ⟨_,rfl,?_⟩⟩
  refine ap (fun _=>?_) (fun h=>(h (Ai (rfl:V.non=V.non))).elim)
  exact k none .non H3 (s12.trans s3) (fun l e=>by cases e) hno rfl
 ·obtain⟨hwl, hwn⟩ := hX val hix to3 wy
  have hws:=wy.split
  have k:=k (some wy3) |> fun k z H' s n r=>k z H' s n ⟨k3,to3,wy⟩ r
  have s13:=s12.trans s3
  refine⟨_,rfl,.non ⟨_,rfl,?_⟩⟩
  refine ap (fun h=>?_) (fun _=>?_)
  ·have h:V.ref l3=V.non:=Ao h
   cases h
  ·refine⟨_, rfl, _, rfl, (szl 3), fun t1 ht1 => ?_⟩
   have s4:=Same.new (o:=.tup [V.str "tie",V.str u,V.str v]) ht1
   have r4:Rep (upd H3 t1 (.tup [V.str "tie",V.str u,V.str v])) (.ref t1) (t3D (((("tie":Str),u,v):T3))):=dL ae
   have s14:=s13.trans s4
   have hc4:=s4 _ _ hc3
   have ht4:=(s3.trans s4) _ _ ht2
   generalize upd H3 t1 (.tup [V.str "tie",V.str u,V.str v])=H4 at r4 s14 hc4 ht4 ⊢
   refine ao ⟨(szl 1),fun l1 hl1=>?_⟩
   refine nw hl1 fun H5 s5 e5=>?_
   have r5:=r4.same s5
   have s15:=s14.trans s5
   have hc5:=s5 _ _ hc4
   have ht5:=s5 _ _ ht4
   refine⟨_,rfl,_,rfl,.tup (.of ht5) rfl ?_⟩
   rw[AD,ex,AD] at hc5
   refine⟨_,rfl,_,rfl,.lst (.of hc5) fun l6 hl6=>?_⟩
   rw[show (1:Int)=((1:Nat):Int) from rfl,iG,List.drop_one,List.tail_cons]
   have s6:=Same.new (o:=.lst (List.map V.str (wy3.dropLast.map (nmA kk.2)))) hl6
   refine⟨_,rfl,_,rfl,.lst (.of (s6 _ _ hc5)) fun l7 hl7=>?_⟩
   rw[w4 _ _ (by show 1<=_+1;omega)]
   have s7:=Same.new (o:=.lst [V.str x]) hl7
   rw[show List.take 1 (V.str x::List.map V.str (wy3.dropLast.map (nmA kk.2)))=[V.str x] from rfl]
   refine .lst (s7 _ _ ae) ae ?_ fun l8 hl8=>?_
   ·rw[z0,z0,List.length_dropLast]
    show wy3.length-1+1<=sizeLine
    exact AW (aj (by omega))
   have hrow:List.map V.str (wy3.dropLast.map (nmA kk.2))++[V.str x]=List.map V.str (wy3.map (nmA kk.2)):=by
    conv=>rhs;rw[hws]
    rw[Ae,Ae,List.map_singleton,List.map_singleton,ex]
   rw[hrow]
   have s8:=Same.new (o:=.lst (List.map V.str (wy3.map (nmA kk.2)))) hl8
   have s58:=(s6.trans s7).trans s8
   have s18:=s15.trans s58
   refine ao ⟨q,l8,us,ks,ts,ws,wn,kk.1,wy3.map (nmA kk.2),rfl,R.same s18,T,wok,tok,tl,pZ T hkk,ae,fun z hz=>?_,by rw[z0];omega,fun l9 refs H9 s9 hl9 e9 r9=>?_⟩
   ·obtain⟨i,hi,rfl⟩:=Ag.mp hz
    exact T.nm _ (T.isIn hkk (fW (hwn i hi)))
   ·have rl:=r9.len
    rw[z0,A3,z0] at rl
    have s59:=s58.trans s9
    refine .lst (s59 _ _ e5) e9 ?_ fun p hp=>?_
    ·rw[rl]
     show 1+min wy3.length _<=sizeLine
     exact AW (aj (by omega))
    ·have s10:=Same.new (o:=.lst ([V.ref t1]++refs)) hp
     refine k (.ref p) _ ((s18.trans s9).trans s10) (fun l e=>?_) ⟨p,_,rfl,ae,.cons ((r5.same s59).same s10) (r9.same s10)⟩
     cases e
     exact bd (s18.trans s9) hp
def Fwd (os:List Str) (ts:List (Str × Str)):Prop:=∀e∈ts,∃i j:Nat,i<j/\os[i]? = some e.1/\os[j]? = some e.2
structure WebO (H:Hp) (wq:V) (ss:List Str) (ts:List (Str × Str)) (lo:Addr) (os:List Str):Prop where
 web:Web H wq ss ts
 tnd:ts.Nodup
 ord:H lo=some (.lst (List.map V.str os))
 pm:os.Perm ss
theorem WebO.same {ss:List Str}{ts:List (Str × Str)}{os:List Str}(h:WebO H wq ss ts lo os) (s:Same H H'):WebO H' wq ss ts lo os:=⟨h.web.same s,h.tnd,s _ _ h.ord,h.pm⟩
open Classical in
def rB (ts:List (Str × Str)) (a b:Str):Bool:=decide (MG.Rch (Tie ts) a b)
open Classical in
theorem rB_iff:rB ts a b=true ↔ MG.Rch (Tie ts) a b:=by unfold rB;exact decide_eq_true_iff
def dueB (os:List Str) (ts:List (Str × Str)) (one other:Str):List Str:=if os.idxOf one<os.idxOf other then [] else ((os.take (os.idxOf one+1)).drop (os.idxOf other)).filter fun t=>rB (aY ts) one t
def bx (os:List Str) (ts:List (Str × Str)) (one other:Str):List Str:=if os.idxOf one<os.idxOf other then [] else ((os.take (os.idxOf one+1)).drop (os.idxOf other)).filter fun t=>rB ts other t
def eG (os:List Str) (ts:List (Str × Str)) (one other:Str):Prop:=¬ os.idxOf one<os.idxOf other/\MG.Rch (Tie ts) other one
theorem tW {os:List Str}(nd:os.Nodup) {j:Nat}{s:Str}(h:os[j]? = some s):j=os.idxOf s:=by
 have hj:=(Ac.mp h).1
 have hm:=Ad h
 have hi:=AJ hm
 have e:os[os.idxOf s]? = some s:=by rw[Ar hi,List.getElem_idxOf]
 exact(Bn hj nd).mp (h.trans e.symm)
theorem xu {os:List Str}{s:Str}(hm:s∈os):os[os.idxOf s]? = some s:=by
 have hi:=AJ hm
 rw[Ar hi,List.getElem_idxOf]
theorem oq (xs:List V) (i j:Nat) (h:j<=xs.length):cL xs (some (i:Int)) (some (j:Int))=(xs.take j).drop i:=by
 unfold cL
 rw[HT.sIx_nat,HT.sIx_nat,Nat.min_eq_left h,List.drop_take]
 by_cases hi:i<=xs.length
 ·rw[Nat.min_eq_left hi]
 ·rw[Nat.min_eq_right (by omega),A7 (Aa _),A7 (by omega)];simp
theorem cQ (l:List α) (g:α->Bool) (i:Nat) (x:α) (h:l[i]? = some x):(l.take (i+1)).filter g=(l.take i).filter g++(if g x=true then [x] else []):=by
 rw[Am,h,AI]
 by_cases q:g x=true
 ·simp[q]
 ·simp[q]
theorem ng {os:List Str}(nd:os.Nodup) {s:Str}(hm:s∈os):∃z,(List.map V.str os)[os.idxOf s]? = some z/\eqV z (.str s)=true/\∀(m:Nat) z',m<os.idxOf s->(List.map V.str os)[m]? = some z'->eqV z' (.str s)=false:=by
 refine⟨.str s,by rw[Al,xu hm];rfl,?_,fun m z' hlt hz=>?_⟩
 ·show (s==s)=true;simp
 ·obtain⟨u,hu,rfl⟩:=bp hz
  show (u==s)=false
  rw[beq_eq_false_iff_ne]
  rintro rfl
  have:=tW nd hu
  omega
theorem qN {kvs:List (Key × V)}{os:List Str}(nd:os.Nodup) (h1:∀s,(aw kvs (.inr s)).isSome=true ↔ s∈os) (h2:∀s v,aw kvs (.inr s)=some v->∃j:Nat,v=.int j/\os[j]? = some s) {s:Str}(hm:s∈os):aw kvs (.inr s)=some (.int ((os.idxOf s:Nat):Int)):=by
 cases e:aw kvs (.inr s) with
 | none=>have:=(h1 s).mpr hm;rw[e] at this;cases this
 | some v =>
  obtain⟨j,rfl,hj⟩:=h2 s v e
  rw[tW nd hj]
def lS:Sp:=fun vs H Q _=>∃wq lo ss ts os one other,vs=[.ref wq,.ref lo,.str one,.str other]/\WebO H (.ref wq) ss ts lo os/\one∈ss/\other∈ss/\¬ eG os ts one other /\
 ∀q a b H',Same H H'->H' q=some (.tup [.ref a,.ref b])->H' a=some (.lst (List.map V.str (dueB os ts one other)))->H' b=some (.lst (List.map V.str (bx os ts one other)))->H a=none->H b=none->a≠b->Q (.ref q) H'
theorem rg (F:Fun K "stretch" "stretch" ii f fd) (B:Blt mg) (cplaces_of:Cal P w K mg base 1 "places_of" ["things"] fO) (cbehinds:Cal P w K mg base 4 "behinds" ["web", "one"] (ga false)) (caheads:Cal P w K mg base 4 "aheads" ["web", "one"] (ga true)):FnOk P w K mg base CX0 5 f fd ["web", "order", "one", "other"] lS := by
 refine F.ok1 ["web","order","one","other","places","reached","reaching","between","back","forward"] fun nd H Q E hr h=>?_
 obtain⟨wq,lo,ss,ts,os,one,other,rfl,W,h1,h2,nr,k⟩:=h
 have osl:=W.pm.length_eq
 have h60:=W.web.len
 have ond:os.Nodup:=W.pm.nodup_iff.mpr W.web.nd
 have m1:one∈os:=W.pm.mem_iff.mpr h1
 have m2:other∈os:=W.pm.mem_iff.mpr h2
 have i1:=AJ m1
 have i2:=AJ m2
 refine⟨_,(aa (pst 4 nd (pc cplaces_of hr (p1 (pv 1))))
  (aa (aI (ag fg (px K hr (pv 4) (pv 2)) (px K hr (pv 4) (pv 3)) (au _)) (ac (am (aB (p2 (aS bT) (aS bT))))) av)
  (aa (bV (i:=5) nd rfl (Or.inr rfl) (pc cplaces_of hr (p1 (pc cbehinds hr (p2 (pv 0) (pv 3))))))
  (aa (aI (ag (bL K hr.units) (pv 2) (pv 5) (by with_unfolding_all rfl)) (ac aN) av)
  (aa (bV (i:=6) nd rfl (Or.inr rfl) (pc cplaces_of hr (p1 (pc caheads hr (p2 (pv 0) (pv 2))))))
  (aa (pst 7 nd (bO (iP K) (pv 1) (bQ (px K hr (pv 4) (pv 3))) (bQ (aG aK (px K hr (pv 4) (pv 2)) ab))))
  (aa (dX (i:=8) nd rfl rfl (by rfl) (aD ii) ["web","order","one","other","places","reached","reaching","between","back","forward"] ["thing"] [6] ["thing","reaching"] rfl (be K (pv 7)) (fun _ _ _ _ _=>(ai (i:=0) (show (["thing","reaching"]:List Str).Nodup by decide) rfl (Or.inl rfl))) (fun _ _ _ _ _=>(bv (ag (bL K hr.units) (pv 0) (pv 1) (by with_unfolding_all rfl)))) (fun _ _ _ _ _=>(pv 0)))
  (aa (dX (i:=9) nd rfl rfl (by rfl) (aD ii) ["web","order","one","other","places","reached","reaching","between","back","forward"] ["thing"] [5] ["thing","reached"] rfl (be K (pv 7)) (fun _ _ _ _ _=>(ai (i:=0) (show (["thing","reached"]:List Str).Nodup by decide) rfl (Or.inl rfl))) (fun _ _ _ _ _=>(bv (ag (bL K hr.units) (pv 0) (pv 1) (by with_unfolding_all rfl)))) (fun _ _ _ _ _=>(pv 0)))
  (ac (am (aB (p2 (pv 8) (pv 9))))))))))))),?_⟩
 refine⟨_,rfl,lo,os,rfl,W.ord,by omega,fun d kvs H1 s1 hd0 hd hin hix=>?_⟩
 have g1:=qN ond hin hix m1
 have g2:=qN ond hin hix m2
 refine⟨_,rfl,_,rfl,.dic (.inl ⟨_,.inr one,.inl hd,rfl,g1.symm⟩) ⟨_,rfl,_,rfl,.dic (.inl ⟨_,.inr other,.inl hd,rfl,g2.symm⟩) (.int ⟨_,rfl,?_⟩)⟩⟩
 refine ap (fun hlt=>?_) (fun hge=>?_)
 ·have hlt:((os.idxOf one:Nat):Int)<((os.idxOf other:Nat):Int):=Ao hlt
  have hlt:os.idxOf one<os.idxOf other:=by omega
  refine⟨(szl 0),fun la hla=>⟨(szl 0),fun lb hlb=>⟨(szl 2),fun q hq=>?_⟩⟩⟩
  have s2:=Same.new (o:=.lst []) hla
  have s3:=Same.new (o:=.lst []) hlb
  have s4:=Same.new (o:=.tup [V.ref la,V.ref lb]) hq
  have ea:upd H1 la (.lst []) la=some (.lst []):=ae
  refine k q la lb _ (s1.trans (s2.trans (s3.trans s4))) ae ?_ ?_ (bd s1 hla) (bd (s1.trans s2) hlb) (ah ea hlb)
  ·unfold dueB;rw[if_pos hlt];exact(s3.trans s4) _ _ ea
  ·unfold bx;rw[if_pos hlt];exact s4 _ _ ae
 ·have hge:¬ os.idxOf one<os.idxOf other := fun z => hge (Ai (by show ((os.idxOf one:Nat):Int)<((os.idxOf other:Nat):Int); omega))
  have nrch:¬ MG.Rch (Tie ts) other one:=fun z=>nr ⟨hge,z⟩
  refine⟨_,rfl,_,rfl,.ref wq,ss,ts,other,rfl,W.web.same s1,h2,fun l2 H2 gr s2 hl20 hgr hl2=>?_⟩
  have fl:=AH gr ss
  refine⟨l2,ss.filter gr,rfl,hl2,by omega,fun dr kr H3 s3 hdr0 hdr rin rix=>?_⟩
  refine⟨_,rfl,_,rfl,.dic (DGet.k (k:=.inr one) hdr) ⟨_,rfl,?_⟩⟩
  have no1:(aw kr (.inr one)).isSome=false:=by
   rw[Bool.eq_false_iff]
   intro z
   exact nrch ((hgr one).mp (Ap.mp ((rin one).mp z)).2)
  rw[no1]
  refine dH ?_
  have s13:=(s1.trans s2).trans s3
  refine⟨_,rfl,_,rfl,.ref wq,ss,ts,one,rfl,W.web.same s13,h1,fun l4 H4 gb s4 hl40 hgb hl4=>?_⟩
  have fl2:=AH gb ss
  refine⟨l4,ss.filter gb,rfl,hl4,by omega,fun db kb H5 s5 hdb0 hdb bin bix=>?_⟩
  have s15:=(s13.trans s4).trans s5
  have hd5:=((s2.trans s3).trans (s4.trans s5)) _ _ hd
  have W5:=W.same s15
  refine⟨_,rfl,_,rfl,_,rfl,.dic (.inl ⟨_,.inr other,.inl hd5,rfl,g2.symm⟩) ⟨_,rfl,_,rfl,_,rfl,.dic (.inl ⟨_,.inr one,.inl hd5,rfl,g1.symm⟩) (.int ⟨_,rfl,.lst (.of W5.ord) fun ls hls=>?_⟩)⟩⟩
  obtain⟨bt,hbt⟩:∃bt,bt=(os.take (os.idxOf one+1)).drop (os.idxOf other):=⟨_,rfl⟩
  have ecut:cL (List.map V.str os) (some ((os.idxOf other:Nat):Int)) (some (((os.idxOf one:Nat):Int)+1))=List.map V.str bt:=by
   rw[show ((os.idxOf one:Nat):Int)+1=((os.idxOf one+1:Nat):Int) by omega,oq _ _ _ (by rw[z0];omega),hbt,List.map_drop,BI]
  rw[ecut]
  refine nw hls fun H6 s6 hls6=>?_
  have btl:bt.length<=60:=by rw[hbt,AY,As];omega
  have bts:∀z∈bt,z∈ss:=fun z hz=>W.pm.mem_iff.mp (Bd (Be (by rw[<- hbt];exact hz)))
  have hdb6:=s6 _ _ hdb
  have hdr6:=((s4.trans s5).trans s6) _ _ hdr
  refine⟨_,rfl,ls,rfl,⟨_,.of hls6⟩,?_⟩
  refine bR (List.map V.str bt) (fun D i acc σ' H'=>∃o,σ'=[o,some (.ref db)]/\acc=List.map V.str ((bt.take i).filter fun z=>(aw kb (.inr z)).isSome)/\Same H6 H'/\H6 D=none) fun A1 hA1=>⟨?_,?_,?_,?_⟩
  ·exact⟨none,rfl,rfl,Same.new hA1,hA1⟩
  ·rintro i acc σ' H' _ ⟨o,rfl,_,sm,_⟩ _
   exact .of (sm _ _ hls6)
  ·rintro i acc σ' H' x hx ⟨o,rfl,rfl,sm,hD0⟩ hacc
   obtain⟨z,hz,rfl⟩:=bp hx
   have hil:=(Ac.mp hz).1
   have fl:=AH (fun z=>(aw kb (.inr z)).isSome) (bt.take i)
   rw[As] at fl
   refine⟨_,rfl,_,rfl,.dic (DGet.k (k:=.inr z) (sm _ _ hdb6)) ⟨_,rfl,?_⟩⟩
   refine ap (fun h=>?_) (fun h=>?_)
   ·have h:(aw kb (.inr z)).isSome=true:=h
    exact⟨_,rfl,hacc,by rw[z0];exact aj (by omega),_,rfl,by rw[cQ _ _ _ _ hz,if_pos h,Ae];rfl,aW sm hD0,hD0⟩
   ·have h:¬ (aw kb (.inr z)).isSome=true:=h
    exact⟨hacc,_,rfl,by rw[cQ _ _ _ _ hz,if_neg h,AK],sm,hD0⟩
  rintro acc σ' H7 ⟨o,rfl,rfl,sH7,hA10⟩ haccA1
  rw[z0,Ak (Aa _)] at haccA1
  have hls7:=sH7 _ _ hls6
  have hdr7:=sH7 _ _ hdr6
  refine⟨_,rfl,ls,rfl,⟨_,.of hls7⟩,?_⟩
  refine bR (List.map V.str bt) (fun D i acc σ' H'=>∃o,σ'=[o,some (.ref dr)]/\acc=List.map V.str ((bt.take i).filter fun z=>(aw kr (.inr z)).isSome)/\Same H7 H'/\H7 D=none) fun A2 hA2=>⟨?_,?_,?_,?_⟩
  ·exact⟨none,rfl,rfl,Same.new hA2,hA2⟩
  ·rintro i acc σ' H' _ ⟨o,rfl,_,sm,_⟩ _
   exact .of (sm _ _ hls7)
  ·rintro i acc σ' H' x hx ⟨o,rfl,rfl,sm,hD0⟩ hacc
   obtain⟨z,hz,rfl⟩:=bp hx
   have hil:=(Ac.mp hz).1
   have fl:=AH (fun z=>(aw kr (.inr z)).isSome) (bt.take i)
   rw[As] at fl
   refine⟨_,rfl,_,rfl,.dic (DGet.k (k:=.inr z) (sm _ _ hdr7)) ⟨_,rfl,?_⟩⟩
   refine ap (fun h=>?_) (fun h=>?_)
   ·have h:(aw kr (.inr z)).isSome=true:=h
    exact⟨_,rfl,hacc,by rw[z0];exact aj (by omega),_,rfl,by rw[cQ _ _ _ _ hz,if_pos h,Ae];rfl,aW sm hD0,hD0⟩
   ·have h:¬ (aw kr (.inr z)).isSome=true:=h
    exact⟨hacc,_,rfl,by rw[cQ _ _ _ _ hz,if_neg h,AK],sm,hD0⟩
  rintro acc σ' H8 ⟨o,rfl,rfl,sH8,hA20⟩ haccA2
  rw[z0,Ak (Aa _)] at haccA2
  refine⟨_,rfl,_,rfl,(szl 2),fun q hqn=>?_⟩
  have s9:=Same.new (o:=.tup [V.ref A1,V.ref A2]) hqn
  have s16:=s15.trans s6
  refine k q A1 A2 _ ((s16.trans sH7).trans (sH8.trans s9)) ae ?_ ?_ (bd s16 hA10) (bd (s16.trans sH7) hA20) (ah haccA1 hA20)
  ·have e:dueB os ts one other=bt.filter fun z=>(aw kb (.inr z)).isSome:=by
      unfold dueB
      rw[if_neg hge,<- hbt]
      refine BS fun z hz=>?_
      rw[AV,rB_iff,bin,Ap,hgb]
      exact⟨fun h=>⟨bts z hz,h⟩,fun h=>h.2⟩
   rw[e]
   exact(sH8.trans s9) _ _ haccA1
  ·have e:bx os ts one other=bt.filter fun z=>(aw kr (.inr z)).isSome:=by
      unfold bx
      rw[if_neg hge,<- hbt]
      refine BS fun z hz=>?_
      rw[AV,rB_iff,rin,Ap,hgr]
      exact⟨fun h=>⟨bts z hz,h⟩,fun h=>h.2⟩
   rw[e]
   exact s9 _ _ haccA2
theorem gj (h:MG.Rch (Tie ts) a b) (g:MG.Rch (Tie ts) b c):MG.Rch (Tie ts) a c:=MG.Rch.closed (S:=fun z=>MG.Rch (Tie ts) a z) h (fun y z hy r=>hy.step r) g
theorem jn (h:MG.Rch (Tie (aY ts)) a b):MG.Rch (Tie ts) b a:=MG.Rch.closed (S:=fun z=>MG.Rch (Tie ts) z a) MG.Rch.refl (fun y z hy r=>gj (MG.Rch.refl.step (mem_flip.mp r)) hy) h
theorem vQ {os:List Str}{ts:List (Str × Str)}{one other:Str}:∀x∈dueB os ts one other,x∈os:=fun x hx=>by
 unfold dueB at hx
 split at hx
 ·cases hx
 ·exact Bd (Be (Ap.mp hx).1)
theorem vm {os:List Str}{ts:List (Str × Str)}{one other:Str}:∀x∈bx os ts one other,x∈os:=fun x hx=>by
 unfold bx at hx
 split at hx
 ·cases hx
 ·exact Bd (Be (Ap.mp hx).1)
theorem iE {os:List Str}{ts:List (Str × Str)}{one other:Str}(ond:os.Nodup) (nr:¬ eG os ts one other):(dueB os ts one other++bx os ts one other).Nodup:=by
 unfold dueB bx
 split
 ·exact Bv
 ·rename_i hge
  have bnd:((os.take (os.idxOf one+1)).drop (os.idxOf other)).Nodup:=(ond.sublist (BJ _ _)).sublist (List.drop_sublist _ _)
  rw[A4]
  refine⟨bnd.sublist BG,bnd.sublist BG,fun x hx y hy=>?_⟩
  rintro rfl
  have h1:=rB_iff.mp (Ap.mp hx).2
  have h2:=rB_iff.mp (Ap.mp hy).2
  exact nr ⟨hge,gj h2 (jn h1)⟩
theorem gK {os:List Str}{ts:List (Str × Str)}{one other:Str}:∀x∈dueB os ts one other++bx os ts one other,x∈os:=fun x hx=>by
 rcases Aj.mp hx with h | h
 ·exact vQ x h
 ·exact vm x h
def cR (xs:List Nat):List V:=xs.map fun x:Nat=>V.int (x:Int)
theorem i8 (r:List Str) (ps:List (Nat × Str)) (p:Nat × Str):bP r (ps++[p])=(bP r ps).set p.1 p.2:=by
 unfold bP;rw[List.foldl_append];rfl
theorem vH (g:Nat->Bool) (i:Nat):(List.range (i+1)).filter g=(List.range i).filter g++(if g i=true then [i] else []):=by
 rw[List.range_succ,AI]
 by_cases q:g i=true
 ·simp[q]
 ·simp[q]
theorem sg (h:j<n):ixN n (j:Int)=some j:=by
 unfold ixN
 rw[if_pos (by omega),if_pos (by omega),Bs]
def mvD (m:Str × Nat × Nat):PyData:=.tuple [.str m.1,.int (m.2.1:Nat),.int (m.2.2:Nat)]
theorem tz (h:H a=some (.tup [.str s,.int (k:Int),.int (n:Int)])):Rep H (.ref a) (mvD (s,k,n)):=.tup h (.cons (.str _) (.cons (.int _) (.cons (.int _) .nil)))
theorem wM (h:Rep H v (mvD m)):∃a,v=.ref a/\H a=some (.tup [.str m.1,.int (m.2.1:Nat),.int (m.2.2:Nat)]):=by
 cases h with
 | tup e r =>
  obtain⟨y1,r1,rfl,a1,r⟩:=RepAll.consI r
  obtain⟨y2,r2,rfl,a2,r⟩:=RepAll.consI r
  obtain⟨y3,r3,rfl,a3,r⟩:=RepAll.consI r
  rw[RepAll.nilI r] at e
  cases a1
  cases a2
  cases a3
  exact⟨_,rfl,e⟩
theorem wK (hp:H p=some (.lst ys)) (b:But p H H'):∀ {es:List (Str × Nat × Nat)}{xs:List V},RepAll H xs (es.map mvD)->RepAll H' xs (es.map mvD)
 | [],xs,h=>by rw[RepAll.nilI h];exact .nil
 | e::es,xs,h=>by
  obtain⟨y,ys',rfl,a,c⟩:=RepAll.consI h
  obtain⟨q,rfl,hq⟩:=wM a
  exact .cons (tz (b q _ (ba hq hp (by intro z;cases z)) hq)) (wK hp b c)
def lP:Sp:=fun vs H Q _=>∃wq lo ss ts os one other,vs=[.ref wq,.ref lo,.str one,.str other]/\WebO H (.ref wq) ss ts lo os/\one∈ss/\other∈ss/\¬ eG os ts one other /\
 ∀l refs H',Same H H'->H l=none->H' l=some (.lst refs)->RepAll H' refs ((mvs os (dueB os ts one other++bx os ts one other)).map mvD)->Q (.ref l) H'
theorem oV (F:Fun K "moves_of" "moves_of" hW f fd) (B:Blt mg) (Z:mg "sorted"=none) (Zz:mg "zip"=none) (cstretch:Cal P w K mg base 5 "stretch" ["web","order","one","other"] lS) (cplaces_of:Cal P w K mg base 1 "places_of" ["things"] fO):FnOk P w K mg base CX0 6 f fd ["web","order","one","other"] lP:=by
 refine F.ok1 ["web","order","one","other","sorts","row","places","olds","news"] fun nd H Q E hr h=>?_
 obtain⟨wq,lo,ss,ts,os,one,other,rfl,W,h1,h2,nr,k⟩:=h
 have osl:=W.pm.length_eq
 have h60:=W.web.len
 have ond:os.Nodup:=W.pm.nodup_iff.mpr W.web.nd
 have and_:=iE ond nr
 have sub:=gK (os:=os) (ts:=ts) (one:=one) (other:=other)
 have al:(dueB os ts one other++bx os ts one other).length<=os.length:=and_.length_le_of_subset sub
 have al2:=al
 rw[Aq] at al2
 refine⟨_,(aa (pst 4 nd (pc cstretch hr (ak (pv 0) (ak (pv 1) (p2 (pv 2) (pv 3))))))
  (aa (pst 5 nd (aG aK (px K hr (pv 4) ab) (px K hr (pv 4) ab)))
  (aa (bV (i:=6) nd rfl (Or.inr rfl) (pc cplaces_of hr (p1 (pv 1))))
  (aa (pst 7 nd (wb K Z (p1 (bj (aD hW) ["web","order","one","other","sorts","row","places","olds","news"] ["thing"] [6] ["thing","places"] rfl (be K (pv 5)) (fun _ _ _ _ _=>(ai (i:=0) (show (["thing","places"]:List Str).Nodup by decide) rfl (Or.inl rfl))) (fun _ _ _ _ _=>cP) (fun _ _ _ _ _=>(px K hr (pv 1) (pv 0)))))))
  (aa (bV (i:=8) nd rfl (Or.inr rfl) (vW K rfl hr.units B Zz (p2 (pv 5) (pv 7))))
  (ac (am (bj (aD hW) ["web","order","one","other","sorts","row","places","olds","news"] ["old"] [1,8] ["old","order","news"] rfl (be K (pv 7)) (fun _ _ _ _ _=>(ai (i:=0) (show (["old","order","news"]:List Str).Nodup by decide) rfl (Or.inl rfl))) (fun _ _ _ _ _=>cP) (fun _ _ _ _ _=>(aB (ak (px K hr (pv 1) (pv 0)) (p2 (pv 0) (px K hr (pv 2) (px K hr (pv 1) (pv 0))))))))))))))),?_⟩
 refine⟨_,rfl,_,rfl,_,rfl,_,rfl,wq,lo,ss,ts,os,one,other,rfl,W,h1,h2,nr,fun q a b H1 s1 hq ha hb fa fb nab=>?_⟩
 refine⟨_,rfl,.tup (.of hq) rfl ⟨_,rfl,.tup (.of hq) rfl (.lst ha hb (by rw[z0,z0];exact AW (aj (by omega))) fun lr hlr=>?_)⟩⟩
 rw[<- Ae]
 refine nw hlr fun H2 s2 hlr2=>?_
 generalize dueB os ts one other++bx os ts one other=C at and_ sub al hlr2 k ⊢
 have s12:=s1.trans s2
 refine⟨_,rfl,lo,os,rfl,s12 _ _ W.ord,by omega,fun d kvs H3 s3 hd0 hd hin hix=>?_⟩
 have hlr3:=s3 _ _ hlr2
 refine⟨_,rfl,lr,rfl,⟨_,.of hlr3⟩,?_⟩
 refine bR (List.map V.str C) (fun D i acc σ' H'=>∃o,σ'=[o,some (.ref d)]/\acc=List.map V.int ((C.take i).map fun x=>((os.idxOf x:Nat):Int))/\Same H3 H'/\H3 D=none) fun D hD=>⟨?_,?_,?_,?_⟩
 ·exact⟨none,rfl,rfl,Same.new hD,hD⟩
 ·rintro i acc σ' H' _ ⟨o,rfl,_,sm,_⟩ _
  exact .of (sm _ _ hlr3)
 ·rintro i acc σ' H' x hx ⟨o,rfl,rfl,sm,hD0⟩ hacc
  obtain⟨z,hz,rfl⟩:=bp hx
  have hil:=(Ac.mp hz).1
  refine iL ?_
  refine⟨_,rfl,_,rfl,.dic (.inl ⟨_,.inr z,.inl (sm _ _ hd),rfl,(qN ond hin hix (sub z (Ad hz))).symm⟩) ?_⟩
  exact⟨hacc,by rw[z0,z0,As];exact aj (by omega),_,rfl,by rw[Am,hz,Ae,Ae];rfl,aW sm hD0,hD0⟩
 rintro acc σ' H4 ⟨o,rfl,rfl,s4,hD0⟩ hacc
 rw[z0,Ak (Aa _)] at hacc
 refine⟨D,_,rfl,.of hacc,by rw[z0];omega,fun lo' ns' hlo' hp ho=>?_⟩
 rw[xN ond and_ sub hp ho]
 have en:List.map V.int ((plc os C).map fun k:Nat=>(k:Int))=cR (plc os C):=by unfold cR;rw[AQ];rfl
 rw[en]
 refine nw hlo' fun H5 s5 hlo5=>?_
 have pl:=eP ond and_ sub
 have nl:(cR (plc os C)).length=C.length:=by unfold cR;rw[z0,pl]
 have hlr5:=(s4.trans s5) _ _ hlr3
 refine⟨_,rfl,_,rfl,lr,lo',C,cR (plc os C),rfl,.of hlr5,.of hlo5,nl.symm,by omega,fun dn H6 hdn0 s6 hdn=>?_⟩
 rw[qj C _ and_] at hdn
 have hlo6:=s6 _ _ hlo5
 have s16:=(s12.trans s3).trans ((s4.trans s5).trans s6)
 have ho6:=s16 _ _ W.ord
 refine⟨_,rfl,lo',rfl,⟨_,.of hlo6⟩,?_⟩
 have plN:∀ {i:Nat} {x:V},(cR (plc os C))[i]? = some x->∃k,(plc os C)[i]? = some k/\V.int ((k:Nat):Int)=x:=fun {i x} h=>by
  unfold cR at h
  rw[Al] at h
  cases z:(plc os C)[i]? with
  | none=>rw[z] at h;cases h
  | some e=>rw[z] at h;exact⟨e,rfl,Af h⟩
 refine bR (cR (plc os C)) (fun D i acc σ' H'=>∃o,σ'=[o,some (.ref lo),some (.ref dn)]/\RepAll H' acc (((mvs os C).take i).map mvD)/\Same H6 H'/\H6 D=none) fun D' hD'=>⟨?_,?_,?_,?_⟩
 ·exact⟨none,rfl,.nil,Same.new hD',hD'⟩
 ·rintro i acc σ' H' _ ⟨o,rfl,_,sm,_⟩ _
  exact .of (sm _ _ hlo6)
 ·rintro i acc σ' H' x hx ⟨o,rfl,rpa,sm,hD0'⟩ hacc'
  obtain⟨kk,hk,rfl⟩:=plN hx
  have hil:=(Ac.mp hk).1
  have hkm:=Ad hk
  have hkl:=fq hkm
  obtain⟨n1,n2⟩:=dW ond and_ sub hkm
  have hko:atI (List.map V.str os) (kk:Int)=some (.str (os.getD kk "")):=iF hkl
  have hnv:aw (cf C (cR (plc os C))) (.inr (os.getD kk ""))=some (.int ((fR os C kk:Nat):Int)):=jl and_ n2 (by unfold cR;rw[Al,n1];rfl)
  have hm:(mvs os C)[i]? = some (os.getD kk "",kk,fR os C kk):=by unfold mvs;rw[Al,hk];rfl
  have alen:=rpa.len
  rw[z0,As] at alen
  refine iL ?_
  refine⟨_,rfl,_,rfl,.lst (.of (sm _ _ ho6)) hko ⟨_,rfl,_,rfl,_,rfl,_,rfl,.lst (.of (sm _ _ ho6)) hko (.dic (.inl ⟨_,.inr (os.getD kk ""),.inl (sm _ _ hdn),rfl,hnv.symm⟩) ⟨(szl 3),fun tq htq=>?_⟩)⟩⟩
  have sq:=Same.new (o:=.tup [V.str (os.getD kk ""),V.int (kk:Int),V.int ((fR os C kk:Nat):Int)]) htq
  have hDq:D'≠tq:=ah hacc' htq
  refine⟨sq _ _ hacc',aj (by omega),_,rfl,?_,?_,hD0'⟩
  ·rw[Am,hm,Ae]
   refine RepAll.append (wK (p:=D') (sq _ _ hacc') But.upd (rpa.same sq)) (.cons (tz ?_) .nil)
   rw[af (Ne.symm hDq)];exact ae
  ·intro c o' hc
   rw[af (ah hc hD0')]
   exact sq _ _ (sm _ _ hc)
 rintro acc σ' H7 ⟨o,rfl,rpa,s7,hD0'⟩ hacc'
 have ml:(cR (plc os C)).length=(mvs os C).length:=by unfold cR mvs;rw[z0,z0]
 rw[ml,Ak (Aa _)] at rpa
 exact k D' acc H7 (s16.trans s7) (bd s16 hD0') hacc' rpa
def qo:Sp:=fun vs H Q _=>∃(lo l refs:_) (os:List Str) (ms:List (Str × Nat × Nat)),vs=[.ref lo,.ref l]/\H lo=some (.lst (List.map V.str os))/\H l=some (.lst refs)/\RepAll H refs (ms.map mvD)/\(∀m∈ms,m.2.2<os.length) /\
 ∀ln H',Same H H'->H ln=none->H' ln=some (.lst (List.map V.str (bP os (ms.map fun m=>(m.2.2,m.1)))))->Q (.ref ln) H'
theorem zg {refs:List V}{ms:List (Str × Nat × Nat)}(rp:RepAll H refs (ms.map mvD)) {j:Nat}(hx:refs[j]? = some x):∃m ta,ms[j]? = some m/\x=.ref ta/\H ta=some (.tup [.str m.1,.int (m.2.1:Nat),.int (m.2.2:Nat)]):=by
 obtain⟨d,hd,rd⟩:=rp.get hx
 rw[Al] at hd
 cases q:ms[j]? with
 | none=>rw[q] at hd;cases hd
 | some e =>
  rw[q] at hd
  have hd:mvD e=d:=Af hd
  rw[<- hd] at rd
  obtain⟨ta,h1,h2⟩:=wM rd
  exact⟨e,ta,rfl,h1,h2⟩
theorem vw (F:Fun K "moved" "moved" uq f fd) (B:Blt mg):FnOk P w K mg base CX0 1 f fd ["order","moves"] qo:=by
 refine F.ok1 ["order","moves","row","move"] fun nd H Q E hr h=>?_
 obtain⟨lo,l,refs,os,ms,rfl,ho,hl,rp,hlt,k⟩:=h
 have rl:=rp.len
 rw[z0] at rl
 refine⟨_,(aa (pst 2 nd (iK K rfl B (p1 (pv 0))))
  (aa (aZ PassesOwn.never rfl (be K (pv 1)) (ai (i:=3) nd rfl (Or.inl rfl)) (ac (bU (px K hr (pv 3) ab) (cO (pv 2) (px K hr (pv 3) ab) (du hr.units)))))
  (ac (am (pv 2))))),?_⟩
 refine⟨_,rfl,_,rfl,.seq (.inl (.of ho)) fun lf hlf=>?_⟩
 have nlf:l≠lf:=ah hl hlf
 refine⟨_,rfl,l,rfl,⟨_,.of (by rw[af nlf];exact hl)⟩,?_⟩
 refine cS (xs:=refs) (fun i σ H'=>∃o3,σ=[some (.ref lo),some (.ref l),some (.ref lf),o3]/\H' lf=some (.lst (List.map V.str (bP os ((ms.take i).map fun m=>(m.2.2,m.1)))))/\Same H H') ?_ ?_ ?_ ?_
 ·exact⟨none,rfl,ae,Same.new hlf⟩
 ·rintro i σ H' hi ⟨o3,rfl,_,sm⟩
  exact .of (sm _ _ hl)
 ·rintro i x σ H1 hx ⟨o3,rfl,hf1,s1⟩
  obtain⟨m,ta,hm,rfl,hta⟩:=zg (rp.same s1) hx
  refine⟨_,rfl,.tup (.of hta) rfl ⟨_,rfl,_,rfl,.tup (.of hta) rfl (.lst (j:=m.2.2) hf1 (by rw[z0,dD];exact sg (hlt m (Ad hm))) ?_)⟩⟩
  refine⟨_,rfl,?_,aW s1 hlf⟩
  rw[ae,Am,hm,Ae]
  show _=some (HO.lst (List.map V.str (bP os ((ms.take i).map (fun m=>(m.2.2,m.1))++[(m.2.2,m.1)]))))
  rw[i8,List.map_set]
 ·rintro σ H1 ⟨o3,rfl,hf1,s1⟩
  rw[rl,Ak (Aa _)] at hf1
  exact⟨_,rfl,k lf H1 s1 hlf hf1⟩
theorem ql {os:List Str}{l h:Nat}{x:Str}:x∈(os.take (h+1)).drop l ↔ ∃i,l<=i/\i<=h/\os[i]? = some x:=by
 constructor
 ·intro hx
  obtain⟨i,hi⟩:=AE hx
  rw[BR] at hi
  have hl:=(Ac.mp hi).1
  rw[As] at hl
  rw[Br (by omega)] at hi
  exact⟨l+i,by omega,by omega,hi⟩
 ·rintro⟨i,h1,h2,e⟩
  refine Ad (i:=i-l) ?_
  rw[BR,show l+(i-l)=i by omega,Br (by omega)]
  exact e
theorem sv {os:List Str}(ond:os.Nodup):os.Pairwise fun x y=>os.idxOf x<os.idxOf y:=by
 rw[BB]
 intro i j hi hj hij
 rw[ck ond (Ar hi),ck ond (Ar hj)]
 exact hij
def eZ (os:List Str) (ts:List (Str × Str)) (one other:Str):List Str:=bH os (dueB os ts one other++bx os ts one other)
theorem rA {os:List Str}{ts:List (Str × Str)}{one other:Str}(ond:os.Nodup) (nr:¬ eG os ts one other):(eZ os ts one other).Perm os:=iI ond (iE ond nr) (gK (os:=os) (ts:=ts) (one:=one) (other:=other))
theorem u3 {os:List Str}{ts:List (Str × Str)}{one other:Str}(ond:os.Nodup) (fw:Fwd os ts) (m1:one ∈ os) (m2:other ∈ os) (nr:¬ eG os ts one other):∀e ∈ ts ++ [(one, other)], (eZ os ts one other).idxOf e.1<(eZ os ts one other).idxOf e.2 := by
 have cnd:=iE ond nr
 have sub:=gK (os:=os) (ts:=ts) (one:=one) (other:=other)
 unfold eZ
 by_cases hlt:os.idxOf one<os.idxOf other
 ·have eA:dueB os ts one other=[]:=if_pos hlt
  have eB:bx os ts one other=[]:=if_pos hlt
  rw[eA,eB]
  have eL:bH os ([]++[])=os:=by
   unfold bH
   simp[bP]
  rw[eL]
  intro e he
  rcases Aj.mp he with he | he
  ·obtain⟨i,j,hij,h1,h2⟩:=fw e he
   rw[ck ond h1,ck ond h2]
   exact hij
  ·rw[Av.mp he]
   exact hlt
 ·have nrch:¬ MG.Rch (Tie ts) other one := fun z => nr ⟨hlt, z⟩
  have dA:dueB os ts one other=((os.take (os.idxOf one+1)).drop (os.idxOf other)).filter fun t=>rB (aY ts) one t:=if_neg hlt
  have dB:bx os ts one other=((os.take (os.idxOf one+1)).drop (os.idxOf other)).filter fun t=>rB ts other t:=if_neg hlt
  have memA:∀x,x∈dueB os ts one other ↔ (∃i,os.idxOf other<=i/\i<=os.idxOf one/\os[i]? = some x)/\MG.Rch (Tie (aY ts)) one x:=fun x=>by rw[dA,Ap,ql,rB_iff]
  have memB:∀x,x∈bx os ts one other ↔ (∃i,os.idxOf other<=i/\i<=os.idxOf one/\os[i]? = some x)/\MG.Rch (Tie ts) other x:=fun x=>by rw[dB,Ap,ql,rB_iff]
  have oA:(dueB os ts one other).Pairwise fun x y=>os.idxOf x<os.idxOf y:=by
   rw[dA]
   exact(sv ond).sublist (BG.trans ((List.drop_sublist _ _).trans (BJ _ _)))
  have oB:(bx os ts one other).Pairwise fun x y=>os.idxOf x<os.idxOf y:=by
   rw[dB]
   exact(sv ond).sublist (BG.trans ((List.drop_sublist _ _).trans (BJ _ _)))
  have hin:∀x∈dueB os ts one other++bx os ts one other,os.idxOf other<=os.idxOf x/\os.idxOf x<=os.idxOf one:=fun x hx=>by
   rcases Aj.mp hx with hx | hx
   ·obtain⟨⟨i,h1,h2,e⟩,_⟩:=(memA x).mp hx
    rw[ck ond e];exact⟨h1,h2⟩
   ·obtain⟨⟨i,h1,h2,e⟩,_⟩:=(memB x).mp hx
    rw[ck ond e];exact⟨h1,h2⟩
  intro e he
  rcases Aj.mp he with he | he
  ·have het:=he
   obtain⟨i,j,hij,h1,h2⟩:=fw e het
   have x1:=Ad h1
   have x2:=Ad h2
   have hxy:os.idxOf e.1<os.idxOf e.2:=by rw[ck ond h1,ck ond h2];exact hij
   have tie:Tie ts e.1 e.2:=het
   refine qY ond cnd sub oA oB hin x1 x2 hxy (fun hy hx=>?_) (fun hx hy=>?_) (fun ⟨hx,hy⟩=>?_)
   ·obtain⟨⟨i',_,g2,ge⟩,r⟩:=(memA e.2).mp hy
    rw[<- ck ond ge] at g2
    exact(memA e.1).mpr ⟨⟨_,hx,by omega,hC x1⟩,r.step (mem_flip.mpr tie)⟩
   ·obtain⟨⟨i',g1,_,ge⟩,r⟩:=(memB e.1).mp hx
    rw[<- ck ond ge] at g1
    exact(memB e.2).mpr ⟨⟨_,by omega,hy,hC x2⟩,r.step tie⟩
   ·have r1:=((memB e.1).mp hx).2
    have r2:=jn ((memA e.2).mp hy).2
    exact nrch (gj (r1.step tie) r2)
  ·rw[Av.mp he]
   have hA:one∈dueB os ts one other:=(memA one).mpr ⟨⟨_,by omega,Aa _,hC m1⟩,MG.Rch.refl⟩
   have hB:other∈bx os ts one other:=(memB other).mpr ⟨⟨_,Aa _,by omega,hC m2⟩,MG.Rch.refl⟩
   obtain⟨i,hi⟩:=AE hA
   obtain⟨j,hj⟩:=AE hB
   have il:=(Ac.mp hi).1
   exact iZ (i:=i) (j:=(dueB os ts one other).length+j) (by rw[A9 il];exact hi) (by rw[Bp (by omega),BW];exact hj) (by omega) ond cnd sub
theorem gt:∀(xs acc:Prs), acc.Nodup -> (bM acc xs).Nodup
 | [],acc,h=>h
 | x::xs,acc,h=>by
  show (if x∈acc then bM acc xs else bM (acc++[x]) xs).Nodup
  split
  ·exact gt xs acc h
  ·rename_i q
   exact gt xs _ (A4.mpr ⟨h,by simp,fun a ha b hb=>by rw[Av.mp hb];rintro rfl;exact q ha⟩)
theorem sQ {c:List Str}(nd:c.Nodup) {x:Str}(h:x∈c):c.idxOf x=MG.ix c x:=ck nd (MG.at_ix h)
structure GT (H:Hp) (q:Addr) (us:List Str) (ks:Kn) (ts ws wn:Prs):Prop where
 rep:Rep H (.ref q) (aJ ks ts ws wn)
 tre:Tre us ks
 ti:TsI us ks ts
 wx:WnX ks wn
 pw:dG us ws
 tf:TsF ks ts
 wr:WsR ks ts wn ws
 tl:ts.length+ws.length<=100
 wl:wn.length<=200
section
variable {H H':Hp}{q:Addr}{us:List Str}{ks:Kn}{ts ws wn:Prs}
theorem GT.same (h:GT H q us ks ts ws wn) (s:Same H H'):GT H' q us ks ts ws wn:=⟨h.rep.same s,h.tre,h.ti,h.wx,h.pw,h.tf,h.wr,h.tl,h.wl⟩
theorem GT.but (h:GT H q us ks ts ws wn) (hp:H p=some (.dK ys)) (b:But p H H'):GT H' q us ks ts ws wn:=⟨ir hp b h.rep,h.tre,h.ti,h.wx,h.pw,h.tf,h.wr,h.tl,h.wl⟩
theorem GT.words (h:GT H q us ks ts ws wn):∀e∈wn,e.1="first"∨e.1="last":=fun e he=>(WnX.ok h.tre h.wx e he).1
theorem GT.fwd (h:GT H q us ks ts ws wn) (hk:kk ∈ ks):Fwd kk.2 (aL ks ts wn kk.1 kk.2) := fun e he => by
 have T:=h.tre
 have knd:=bo T hk
 have fin:∀ {a b:Str},a∈kk.2->b∈kk.2->MG.ix kk.2 a<MG.ix kk.2 b->∃i j:Nat,i<j/\kk.2[i]? = some a/\kk.2[j]? = some b:=fun ha hb l=>⟨_,_,l,MG.at_ix ha,MG.at_ix hb⟩
 rcases (dO h.words e).mpr he with⟨f,hf,q⟩ | ⟨f,hf,hfc,q⟩
 ·obtain⟨hu, hv, _⟩ := h.ti f hf
  unfold cG at q
  cases hpo:aH ks f.1 f.2 with
  | none=>rw[hpo] at q;cases q
  | some t3 =>
   obtain⟨kq,x1,y1⟩:=t3
   rw[hpo] at q
   have q:(if kq=kk.1 then some (x1,y1) else none)=some e:=q
   by_cases hz:kq=kk.1
   ·rw[if_pos hz] at q
    have q:=Af q
    subst q
    rw[hz] at hpo
    obtain⟨m1,m2⟩:=cu T hk hu hv hpo
    exact fin m1 m2 (h.tf f hf kk hk x1 y1 hpo)
   ·rw[if_neg hz] at q;cases q
 ·obtain⟨v,hv,hne,rfl⟩:=rowE_mem.mp q
  obtain⟨k',hk',fl⟩:=h.wx.at_ f hf
  have ek:=fi T.knd hk' hk fl.mem hfc
  subst ek
  have hlt:=MG.ix_lt hv
  have hne2:MG.ix k'.2 v≠MG.ix k'.2 f.2:=fun z=>hne (by
   have e1:=MG.at_ix hv
   have e2:=MG.at_ix hfc
   rw[z,e2] at e1
   exact(Af e1).symm)
  rcases fl with⟨w,hh⟩ | ⟨w,hh⟩
  ·rw[if_pos w]
   have e0:MG.ix k'.2 f.2=0:=MG.ix_at knd (by rw[<- List.head?_eq_getElem?];exact hh)
   have l:MG.ix k'.2 f.2<MG.ix k'.2 v:=by omega
   exact fin hfc hv l
  ·rw[if_neg (fun z=>absurd (z.symm.trans w) (by decide))]
   have e0:MG.ix k'.2 f.2=k'.2.length-1:=MG.ix_at knd (by rw[<- List.getLast?_eq_getElem?];exact hh)
   have l:MG.ix k'.2 v<MG.ix k'.2 f.2:=by omega
   exact fin hv hfc l
theorem GT.tok (h:GT H q us ks ts ws wn):fv us ks ts:=h.ti.ok
end
structure TD (H:Hp) (q t:Addr) (us:List Str) (ks:Kn) (ts ws wn:Prs) (kk:Str × List Str) (wd u v x y:Str):Prop where
 at_:H t=some (.tup [.str wd,.str u,.str v])
 g:GT H q us ks ts ws wn
 hw:wd="tie"∨wd="wait"
 kin:kk∈ks
 uin:u∈us
 vin:v∈us
 hp:aH ks u v=some (kk.1,x,y)
 n1:(u,v)∉ts
 n2:(u,v)∉ws
section
variable {H H':Hp}{q t:Addr}{us:List Str}{ks:Kn}{ts ws wn:Prs}{kk:Str × List Str}{wd u v x y:Str}
theorem TD.same (h:TD H q t us ks ts ws wn kk wd u v x y) (s:Same H H'):TD H' q t us ks ts ws wn kk wd u v x y:=⟨s _ _ h.at_,h.g.same s,h.hw,h.kin,h.uin,h.vin,h.hp,h.n1,h.n2⟩
theorem TD.dd (h:TD H q t us ks ts ws wn kk wd u v x y):Dd H t wd u v:=⟨h.at_,h.hw,h.g.tre.nm _ h.uin,h.g.tre.nm _ h.vin⟩
theorem TD.ne_xy (h:TD H q t us ks ts ws wn kk wd u v x y):x∈kk.2/\y∈kk.2:=cu h.g.tre h.kin h.uin h.vin h.hp
end
def qL:Sp:=fun vs H Q _=>∃q l us ks ts ws wn ns,vs=[.ref q,.ref l]/\Rep H (.ref q) (aJ ks ts ws wn)/\Tre us ks/\H l=some (.tup (List.map V.str ns))/\(∀u∈ns,u∈us)/\∀H',Same H H'->Q .non H'
theorem uZ (F:Fun K "need_units" "need_units" kA f fd) (B:Blt mg) (chomes:Cal P w K mg base 1 "homes" ["house"] iT):FnOk P w K mg base CX0 2 f fd ["house","names"] qL:=by
 refine F.ok1 ["house","names","table","name"] fun nd H Q E hr h=>?_
 obtain⟨q,l,us,ks,ts,ws,wn,ns,rfl,R,T,hl,hns,k⟩:=h
 refine⟨_,(aa (pst 2 nd (pc chomes hr (p1 (pv 0))))
  (ac (aZ PassesOwn.never rfl (bc K (pv 1)) (ai (i:=3) nd rfl (Or.inl rfl)) (ac (aI (ag (cK K hr.units) (pv 3) (pv 2) (by with_unfolding_all rfl)) (ac aN) av))))),?_⟩
 refine⟨_,rfl,q,us,ks,ts,ws,wn,rfl,R,T,fun d kvs H1 s1 hd0 hd ar ki kl=>?_⟩
 refine⟨_,rfl,l,rfl,⟨_,.of (s1 _ _ hl)⟩,?_⟩
 refine cC (xs:=List.map V.str ns) (fun i σ H'=>∃o3,σ=[some (.ref q),some (.ref l),some (.ref d),o3]/\H'=H1) ⟨none,rfl,rfl⟩ ?_ ?_ ?_
 ·rintro i σ H' hi ⟨o3,rfl,rfl⟩
  exact .of (s1 _ _ hl)
 ·rintro i x σ H' hx ⟨o3,rfl,rfl⟩
  obtain⟨u,hu,rfl⟩:=bp hx
  refine⟨_,rfl,_,rfl,.dic (.inl ⟨kvs,.inr u,.inl hd,rfl,(ar u (hns u (Ad hu))).symm⟩) ⟨_,rfl,ap (fun h=>by cases (show false=true from h)) (fun _=>⟨_,rfl,rfl⟩)⟩⟩
 ·rintro σ H' ⟨o3,rfl,rfl⟩
  exact k H' s1
def pI:Sp:=fun vs H Q _=>∃q l us ks ts ws wn u v p,vs=[.ref q,.ref l]/\Rep H (.ref q) (aJ ks ts ws wn)/\Tre us ks/\H l=some (.tup [.str u,.str v])/\u∈us/\v∈us/\aH ks u v=some p/\∀H',Same H H'->Q .non H'
theorem uQ (F:Fun K "need_parting" "need_parting" iS f fd) (B:Blt mg) (cparting:Cal P w K mg base 3 "parting" ["house","one","other"] gL):FnOk P w K mg base CX0 4 f fd ["house","units"] pI:=by
 refine F.ok1 ["house","units"] fun nd H Q E hr h=>?_
 obtain⟨q,l,us,ks,ts,ws,wn,u,v,p,rfl,R,T,hl,hu,hv,hp,k⟩:=h
 refine⟨_,(ac (aI (ag gS (pc cparting hr (ak (pv 0) (p2 (px K hr (pv 1) ab) (px K hr (pv 1) ab)))) ci (au _)) (ac aN) av)),?_⟩
 refine⟨_,rfl,_,rfl,.tup (.of hl) rfl ⟨_,rfl,.tup (.of hl) rfl (ao ⟨q,us,ks,ts,ws,wn,u,v,rfl,R,T,hu,hv,fun z H1 s1 rp=>?_⟩)⟩⟩
 rw[hp] at rp
 obtain⟨a,rfl,ha⟩:=rp
 refine .non ⟨_,rfl,ap (fun h=>?_) (fun _=>k H1 s1)⟩
 have h:V.ref a=V.non:=Ao h
 cases h
def kF:Sp:=fun vs H Q _=>∃q t us ks ts ws wn kk wd u v x y,vs=[.ref q,.ref t]/\TD H q t us ks ts ws wn kk wd u v x y/\∀H',Same H H'->Q .non H'
theorem qr {ps:Prs}{u v:Str}(h:(u,v)∉ps):((ps.map aE).any fun e=>PyData.eqv e (aE (u,v)))=false:=by
 rw[dR]
 exact Ay h
theorem qC {f:Addr}{fd:FuncData}{tk:Tok}(F:Fun K "refuse_tie" "refuse_tie" kC f fd) (B:Blt mg) (TT:mg "MOST_TIES"=some (.int 200 tk)) (cneed_units:Cal P w K mg base 2 "need_units" ["house","names"] qL) (cneed_parting:Cal P w K mg base 4 "need_parting" ["house","units"] pI):FnOk P w K mg base CX0 5 f fd ["house","deed"] kF:=by
 refine F.ok1 ["house","deed","tie"] fun nd H Q E hr h=>?_
 obtain⟨q,t,us,ks,ts,ws,wn,kk,wd,u,v,x,y,rfl,D,k⟩:=h
 have T:=D.g.tre
 refine⟨_,(aa (pst 2 nd (bO lg (pv 1) (bQ ab) cJ))
  (aa (bm (pc cneed_units hr (p2 (pv 0) (pv 2))))
  (aa (bm (pc cneed_parting hr (p2 (pv 0) (pv 2))))
  (aa (aI (PW.pt (gf (ag (fK hr.units) (pv 2) (px K hr (pv 0) ab) (by with_unfolding_all rfl)) (gH (ag (fK hr.units) (pv 2) (px K hr (pv 0) ab) (by with_unfolding_all rfl))))) (ac aN) av)
  (ac (aI (ag wJ (aG aK (bh K B (p1 (px K hr (pv 0) ab))) (bh K B (p1 (px K hr (pv 0) ab)))) (fM (v:=.int 200) rfl TT ⟨_,rfl⟩) (au _)) (ac aN) av)))))),?_⟩
 refine⟨_,rfl,_,rfl,t,_,rfl,D.at_,fun t1 H1 s1 e1=>?_⟩
 have e1:H1 t1=some (.tup [V.str u,V.str v]):=e1
 have D1:=D.same s1
 refine dZ ?_
 dsimp only
 refine⟨_,rfl,_,rfl,ao ⟨q,t1,us,ks,ts,ws,wn,[u,v],rfl,D1.g.rep,T,e1,fun z hz=>?_,fun H2 s2=>?_⟩⟩
 ·simp only[AA,List.not_mem_nil,or_false] at hz
  rcases hz with rfl | rfl
  ·exact D.uin
  ·exact D.vin
 have D2:=D1.same s2
 refine⟨_,rfl,_,rfl,ao ⟨q,t1,us,ks,ts,ws,wn,u,v,_,rfl,D2.g.rep,T,s2 _ _ e1,D.uin,D.vin,D.hp,fun H3 s3=>?_⟩⟩
 have D3:=D2.same s3
 have e3:=(s2.trans s3) _ _ e1
 obtain⟨q',a,b,c3,d4,e0,hq,R1,R2,R3,R4⟩:=aX D3.g.rep
 cases e0
 obtain⟨b',rb,e0,hb,rpb⟩:=aP R2
 cases e0
 obtain⟨c',rc,e0,hc,rpc⟩:=aP R3
 cases e0
 have bl:=rpb.len
 have cl:=rpc.len
 rw[z0] at bl cl
 have tl:=D.g.tl
 have unm:∀z∈us,Nm z:=fun z hz=>T.nm z hz
 have pu:dG us ts:=fun e he=>⟨(D.g.ti e he).1,(D.g.ti e he).2.1⟩
 refine⟨_,rfl,_,rfl,.tup (.of hq) rfl ⟨b,_,_,_,rfl,hb,rpb,aM (s:=u) (t:=v) e3,aT (fun e he=>⟨unm _ (pu e he).1,unm _ (pu e he).2⟩),cV (unm _ D.uin) (unm _ D.vin),(by show 1<=16;decide),_,rfl,?_⟩⟩
 rw[if_neg (show ¬ false=true by decide),qr D.n1]
 refine ap (fun h=>by cases (show false=true from h)) (fun _=>?_)
 have pw:∀e∈ws,Nm e.1/\Nm e.2:=fun e he=>⟨unm _ (D.g.pw e he).1,unm _ (D.g.pw e he).2⟩
 refine⟨_,rfl,_,rfl,.tup (.of hq) rfl ⟨c3,_,_,_,rfl,hc,rpc,aM (s:=u) (t:=v) e3,aT pw,cV (unm _ D.uin) (unm _ D.vin),(by show 1<=16;decide),_,rfl,?_⟩⟩
 rw[if_neg (show ¬ false=true by decide),qr D.n2]
 refine ap (fun h=>by cases (show false=true from h)) (fun _=>?_)
 refine⟨_,rfl,.tup (.of hq) rfl (ao ⟨_,_,rfl,Or.inr ⟨_,.of hb,rfl⟩,?_⟩)⟩
 refine⟨_,rfl,.tup (.of hq) rfl (ao ⟨_,_,rfl,Or.inr ⟨_,.of hc,rfl⟩,.int ?_⟩)⟩
 refine⟨_,_,rfl,rfl,_,rfl,ap (fun h=>?_) (fun _=>k H3 ((s1.trans s2).trans s3))⟩
 have h:(200:Int)<=(rb.length:Int)+(rc.length:Int):=Ao h
 omega
theorem rE (F:Fun K "refuse" "refuse" qK f fd) (B:Blt mg) (TR:mg "REFUSALS"=some (.ref dA)) (KR:KD P w K dA dv) (hv:∀wd:Str,wd="tie"∨wd="wait"->valueAt dv (.inr wd)=some (.ref fT)) (hk:W.keepIn K (.ref fT)=true) (FT:FnOk P w K mg base CX0 5 fT fdT ["house","deed"] kF) (hb:Binds K fdT ["house","deed"] []):FnOk P w K mg base CX0 6 f fd ["house","deed"] kF:=by
 refine F.ok1 ["house","deed"] fun nd H Q E hr h=>?_
 obtain⟨q,t,us,ks,ts,ws,wn,kk,wd,u,v,x,y,rfl,D,k⟩:=h
 refine⟨_,(ac (bm (vI FT (hr.mono (by decide)) hk hb wP (qO (wQ KR) (fM (v:=.ref dA) rfl TR rfl) (px K hr (pv 1) ab) (fun _ _=>rfl)) (p2 (pv 0) (pv 1))))),?_⟩
 refine⟨_,rfl,.tup (.of D.at_) rfl ⟨.inr wd,_,.ref fT,rfl,rfl,hv wd D.hw,rfl,rfl,?_⟩⟩
 refine⟨_,rfl,_,rfl,ao ⟨q,t,us,ks,ts,ws,wn,kk,wd,u,v,x,y,rfl,D,k⟩⟩
def vd (es:List (Nat × Nat)) (a b:Nat):Prop:=(a,b)∈es
theorem tP (nd:ss.Nodup) (nm:∀s ∈ ss, Nm s) (val:∀e ∈ es, e.1<ss.length /\ e.2<ss.length) (h1:one<ss.length) (hi:i<ss.length) :
    MG.Rch (Tie (es.map (nmP ss))) (ss.getD one "") (ss.getD i "") ↔ MG.Rch (vd es) one i:=by
 constructor
 ·intro r
  obtain⟨y,ey,ry⟩:=MG.Rch.back (R:=vd es) (x:=one) (fun a:Nat=>ss.getD a "") (fun a c h=>by
   obtain⟨e,he,q⟩:=Ag.mp h
   have q1:ss.getD e.1 ""=ss.getD a "":=(Prod.mk.inj q).1
   have q2:ss.getD e.2 ""=c:=(Prod.mk.inj q).2
   have:=dQ nd nm (val e he).1 q1
   exact⟨e.2,q2.symm,by unfold vd;rw[<- this];exact he⟩) r
  have:=dQ nd nm hi ey
  rw[this];exact ry
 ·intro r
  exact MG.Rch.map (fun a:Nat=>ss.getD a "") (fun a b h=>Ag.mpr ⟨(a,b),h,rfl⟩) r
theorem wm (nd:ss.Nodup) (nm:∀s∈ss,Nm s) (inn:∀e∈ts,e.1∈ss/\e.2∈ss) (h1:one∈ss) (h2:other∈ss) :
    (∃k,MG.To (cW ss ts) (ss.idxOf one) k (ss.idxOf other)) ↔ MG.Rch (Tie ts) other one:=by
 have i1:=AJ h1
 have i2:=AJ h2
 have a:=tP nd nm (ji inn) i2 i1
 rw[iJ inn,bK h1,bK h2] at a
 rw[a]
 exact MG.rch_to.symm
theorem fo (nd:ss.Nodup) (nm:∀s∈ss,Nm s) (inn:∀e∈ts,e.1∈ss/\e.2∈ss) (h1:x∈ss) (h2:y∈ss) (h:TieO (cW ss ts) (ss.idxOf x) (ss.idxOf y) o):o=none ↔ ¬ MG.Rch (Tie ts) y x:=by
 rw[<- wm nd nm inn h1 h2]
 cases o with
 | none=>exact⟨fun _ ⟨k,t⟩=>h k t,fun _=>rfl⟩
 | some w=>exact⟨fun z=>by (cases z),fun z=>by obtain⟨k,t,_⟩:=h;exact absurd ⟨k,t⟩ z⟩
def TRow (H:Hp) (r:Addr) (ks:Kn) (ts wn:Prs) (kk:Str × List Str) (u v x y:Str):Option (List Nat)->Prop
 | none=>∃l refs,H r=some (.tup [.str "lay",.str u,.str v,.ref l])/\H l=some (.lst refs)/\RepAll H refs ((mvs kk.2 (dueB kk.2 (aL ks ts wn kk.1 kk.2) x y++bx kk.2 (aL ks ts wn kk.1 kk.2) x y)).map mvD)
 | some wy=>∃l refs,H r=some (.tup [.str "ring",.str u,.str v,.ref l])/\H l=some (.lst refs)/\RepAll H refs (t3D ((("tie":Str),u,v):T3)::ky ks ts wn kk.1 (wy.map (nmA kk.2)))
theorem TRow.same (h:TRow H r ks ts wn kk u v x y o) (s:Same H H'):TRow H' r ks ts wn kk u v x y o:=by
 cases o with
 | none=>obtain⟨l,refs,h1,h2,h3⟩:=h;exact⟨l,refs,s _ _ h1,s _ _ h2,h3.same s⟩
 | some w=>obtain⟨l,refs,h1,h2,h3⟩:=h;exact⟨l,refs,s _ _ h1,s _ _ h2,h3.same s⟩
def sU:Sp:=fun vs H Q _=>∃(q us ks ts ws wn:_) (kk:Str × List Str) (u v x y:_),vs=[.ref q,.str u,.str v]/\GT H q us ks ts ws wn/\kk∈ks/\u∈us/\v∈us/\aH ks u v=some (kk.1,x,y) /\
 ∀o r H',Same H H'->TieO (cW kk.2 (aL ks ts wn kk.1 kk.2)) (kk.2.idxOf x) (kk.2.idxOf y) o->TRow H' r ks ts wn kk u v x y o->Q (.ref r) H'
theorem xk (F:Fun K "row_of_tie" "row_of_tie" lI f fd) (B:Blt mg) (cring_of_tie:Cal P w K mg base 6 "ring_of_tie" ["house","one","other"] lZ) (cparting:Cal P w K mg base 3 "parting" ["house","one","other"] gL) (cmoves_of:Cal P w K mg base 6 "moves_of" ["web","order","one","other"] lP) (cview:Cal P w K mg base 4 "view" ["house","knot"] nJ) (cchildren:Cal P w K mg base 1 "children" ["house","knot"] fz):FnOk P w K mg base CX0 7 f fd ["house","one","other"] sU:=by
 refine F.ok1 ["house","one","other","ring","part"] fun nd H Q E hr h=>?_
 obtain⟨q,us,ks,ts,ws,wn,kk,u,v,x,y,rfl,G,hkk,hu,hv,hp,k⟩:=h
 have T:=G.tre
 have tl:=G.tl
 have tl2:ts.length<=200:=by omega
 obtain⟨hxk,hyk⟩:=cu T hkk hu hv hp
 have inn:=cy (wn:=wn) T G.tok hkk
 have knd:=bo T hkk
 have knm:∀s∈kk.2,Nm s:=fun s hs=>T.nm _ (T.isIn hkk hs)
 refine⟨_,(aa (pst 3 nd (pc cring_of_tie hr (ak (pv 0) (p2 (pv 1) (pv 2)))))
  (aa (aI (ag gm (pv 3) ci (au _)) (ac (am (aB (ak aA (ak (pv 1) (p2 (pv 2) (pv 3))))))) av)
  (aa (pst 4 nd (pc cparting hr (ak (pv 0) (p2 (pv 1) (pv 2)))))
  (ac (am (aB (ak aA (ak (pv 1) (p2 (pv 2) (pc cmoves_of hr (ak (pc cview hr (p2 (pv 0) (px K hr (pv 4) ab))) (ak (pc cchildren hr (p2 (pv 0) (px K hr (pv 4) ab))) (p2 (px K hr (pv 4) ab) (px K hr (pv 4) ab)))))))))))))),?_⟩
 refine⟨_,rfl,_,rfl,_,rfl,ao ⟨q,us,ks,ts,ws,wn,kk,u,v,x,y,rfl,G.rep,T,G.tok,G.wx,tl2,hkk,hu,hv,hp,fun o z H1 s1 _ ti tv=>?_⟩⟩
 have k:=k o
 cases o with
 | some wy =>
  obtain⟨l,refs,rfl,hl,rp⟩:=tv
  refine⟨_,rfl,.non ⟨_,rfl,ap (fun _=>?_) (fun h=>absurd (by simp) h)⟩⟩
  refine⟨_,rfl,_,rfl,_,rfl,ao ⟨(szl 4),fun r hr1=>?_⟩⟩
  have s2:=Same.new (o:=.tup [V.str "ring",V.str u,V.str v,V.ref l]) hr1
  exact k r _ (s1.trans s2) ti ⟨l,refs,ae,s2 _ _ hl,rp.same s2⟩
 | none =>
  have tv:z=.non:=tv
  subst tv
  refine⟨_,rfl,.non ⟨_,rfl,ap (fun h=>absurd h (by decide)) (fun _=>?_)⟩⟩
  have G1:=G.same s1
  refine⟨_,rfl,_,rfl,_,rfl,ao ⟨q,us,ks,ts,ws,wn,u,v,rfl,G1.rep,T,hu,hv,fun p0 H2 s2 rp0=>?_⟩⟩
  rw[hp] at rp0
  obtain⟨t,rfl,ht⟩:=rp0
  have G2:=G1.same s2
  refine dZ ?_
  dsimp only
  refine⟨_,rfl,_,rfl,_,rfl,_,rfl,.tup (.of ht) rfl (ao ⟨q,us,ks,ts,ws,wn,kk,rfl,G2.rep,T,G.tok,G.wx,hkk,tl2,fun vy H3 s3 ry=>?_⟩)⟩
  have G3:=G2.same s3
  have ht3:=s3 _ _ ht
  refine⟨_,rfl,_,rfl,.tup (.of ht3) rfl (ao ⟨q,us,ks,ts,ws,wn,kk,rfl,G3.rep,T,hkk,fun lo H4 s4 hl0 hl=>?_⟩)⟩
  have ht4:=s4 _ _ ht3
  have Wb:=uu T G.tok G.wx hkk tl2 (ry.same s4)
  rw[iJ inn] at Wb
  obtain⟨wq,e0⟩:∃wq,vy=.ref wq:=by obtain⟨wq,_,e,_⟩:=Rep.tupI ry;exact⟨wq,e⟩
  subst e0
  have WO:WebO H4 (.ref wq) kk.2 (aL ks ts wn kk.1 kk.2) lo kk.2:=⟨Wb,gt _ _ Bv,hl,List.Perm.refl _⟩
  have nr:¬ eG kk.2 (aL ks ts wn kk.1 kk.2) x y:=fun z=>(fo knd knm inn hxk hyk ti).mp rfl z.2
  refine⟨_,rfl,.tup (.of ht4) rfl ⟨_,rfl,.tup (.of ht4) rfl (ao ⟨wq,lo,kk.2,_,kk.2,x,y,rfl,WO,hxk,hyk,nr,fun l refs H5 s5 _ hl5 rp5=>ao ⟨(szl 4),fun r hr1=>?_⟩⟩)⟩⟩
  have s6:=Same.new (o:=.tup [V.str "lay",V.str u,V.str v,V.ref l]) hr1
  exact k r _ (((((s1.trans s2).trans s3).trans s4).trans s5).trans s6) ti ⟨l,refs,ae,s6 _ _ hl5,rp5.same s6⟩
def oD:Sp:=fun vs H Q _=>∃(q t us ks ts ws wn:_) (kk:Str × List Str) (wd u v x y:_),vs=[.ref q,.ref t]/\TD H q t us ks ts ws wn kk wd u v x y /\
 ∀o l r H',Same H H'->TieO (cW kk.2 (aL ks ts wn kk.1 kk.2)) (kk.2.idxOf x) (kk.2.idxOf y) o->H' l=some (.lst [.ref r])->TRow H' r ks ts wn kk u v x y o->Q (.ref l) H'
theorem sk (F:Fun K "paper_of" "paper_of" nA f fd) (B:Blt mg) (cis_single:Cal P w K mg base 5 "is_single" ["thing"] (spD true)) (crefuse:Cal P w K mg base 6 "refuse" ["house","deed"] kF) (crow_of_tie:Cal P w K mg base 7 "row_of_tie" ["house","one","other"] sU):FnOk P w K mg base CX0 8 f fd ["house","deed"] oD:=by
 refine F.ok1 ["house","deed"] fun nd H Q E hr h=>?_
 obtain⟨q,t,us,ks,ts,ws,wn,kk,wd,u,v,x,y,rfl,D,k⟩:=h
 refine⟨_,(aa (aI (fQ (fe (pc cis_single hr (p1 (pv 1))))) (ac aN) av)
  (aa (bm (pc crefuse hr (p2 (pv 0) (pv 1))))
  (aa (aI (ag (bL K hr.units) (px K hr (pv 1) ab) (aB (p2 aA aA)) (by with_unfolding_all rfl)) (ac (am (aS (p1 (pc crow_of_tie hr (ak (pv 0) (p2 (px K hr (pv 1) ab) (px K hr (pv 1) ab)))))))) av)
  (aa aN
  (aa aN
  (aa aN
  (ac aN))))))),?_⟩
 refine⟨_,rfl,t,wd,u,v,rfl,D.dd,fun H1 s1=>?_⟩
 refine⟨_,rfl,ap (fun h=>by cases (show false=true from h)) (fun _=>?_)⟩
 have D1:=D.same s1
 refine⟨_,rfl,_,rfl,ao ⟨q,t,us,ks,ts,ws,wn,kk,wd,u,v,x,y,rfl,D1,fun H2 s2=>?_⟩⟩
 have D2:=D1.same s2
 have s12:=s1.trans s2
 refine⟨_,rfl,.tup (.of D2.at_) rfl ⟨(szl 2),fun t1 h1=>?_⟩⟩
 refine nw h1 fun H3 s3 e3=>?_
 have D3:=D2.same s3
 have s13:=s12.trans s3
 have hin:inV (V.str wd) [V.str "tie",V.str "wait"]=true:=by rcases D.hw with e | e <;> rw[e] <;> rfl
 refine .seq (.inr (.of e3)) rfl rfl ⟨_,rfl,ap (fun _=>?_) (fun h=>absurd (by rw[if_neg (by decide)];exact hin) h)⟩
 refine⟨_,rfl,_,rfl,.tup (.of D3.at_) rfl ⟨_,rfl,.tup (.of D3.at_) rfl (ao ⟨q,us,ks,ts,ws,wn,kk,u,v,x,y,rfl,D3.g,D.kin,D.uin,D.vin,D.hp,fun o r H4 s4 ti rv=>ao ⟨(szl 1),fun l hl=>?_⟩⟩)⟩⟩
 have s5:=Same.new (o:=.lst [V.ref r]) hl
 exact k o l r _ ((s13.trans s4).trans s5) ti ae (rv.same s5)
theorem hZ (h1:Nm e.1) (h2:Nm e.2):shp (aE e):=by
 show ((PyData.canLay0 (.str e.1)&&(PyData.canLay0 (.str e.2)&&true))&&decide (PyData.depthAll (List.map PyData.str [e.1,e.2])+1<=64))=true
 rw[cz h1,cz h2,fB];rfl
def mG:Sp:=fun vs H Q _=>∃(a t:_) (ps:Prs) (u v:_),vs=[.ref a,.ref t]/\Rep H (.ref a) (bW ps)/\(∀e∈ps,Nm e.1/\Nm e.2)/\H t=some (.tup [.str u,.str v])/\Nm u/\Nm v/\ps.length<=400/\∀r H',Same H H'->Rep H' (.ref r) (bW (ps.filter fun e=>decide (e≠(u,v))))->Q (.ref r) H'
theorem qZ (F:Fun K "without" "without" jx f fd) (B:Blt mg):FnOk P w K mg base CX0 1 f fd ["some", "one"] mG := by
 refine F.ok1 ["some","one"] fun nd H Q E hr h=>?_
 obtain⟨a,t,ps,u,v,rfl,R,pn,ht,nu,nv,pl,k⟩:=h
 refine⟨_,(ac (am (cm K B (p1 (bj (aD jx) ["some","one"] ["other"] [1] ["other","one"] rfl (bc K (pv 0)) (fun _ _ _ _ _=>(ai (i:=0) (show (["other","one"]:List Str).Nodup by decide) rfl (Or.inl rfl))) (fun _ _ _ _ _=>(bv (ag (cE hr.units) (pv 0) (pv 1) (au _)))) (fun _ _ _ _ _=>(pv 0))))))),?_⟩
 obtain⟨a',ra,e0,ha,rpa⟩:=aP R
 cases e0
 have ral:=rpa.len
 rw[z0] at ral
 refine⟨_,rfl,a,rfl,⟨_,.of ha⟩,?_⟩
 refine bX ra (fun D j acc σ' H'=>∃(o0:Option V),σ'=[o0,some (.ref t)]/\RepAll H' acc (((ps.take j).filter fun e=>decide (e≠(u,v))).map aE)/\acc.length<=j/\Same H H'/\H D=none) fun Da hDa=>⟨?_,?_,?_,?_⟩
 ·exact⟨none,rfl,.nil,Aa _,Same.new hDa,hDa⟩
 ·rintro j acc σ' H' _ ⟨o0,rfl,_,_,sm,_⟩ _
  exact .of (sm _ _ ha)
 ·rintro j acc σ' H' z hz ⟨o0,rfl,rpc,al,sm,hD0⟩ hacc
  obtain⟨e,ta,he,rfl,hta⟩:=cF rpa hz
  have hil:=(Ac.mp he).1
  have re:=aM (s:=e.1) (t:=e.2) (sm _ _ hta)
  have rt:=aM (s:=u) (t:=v) (sm _ _ ht)
  have en:=pn e (Ad he)
  have es:((ps.take (j+1)).filter fun e=>decide (e≠(u,v)))=((ps.take j).filter fun e=>decide (e≠(u,v)))++(if decide (e≠(u,v))=true then [e] else []):=by
   rw[Am,he,AI]
   congr 1
   show List.filter _ [e]=_
   rw[List.filter_cons,List.filter_nil]
  dsimp only[aQ]
  refine⟨_,rfl,_,rfl,.tr re rt (hZ en.1 en.2) (hZ nu nv) ⟨_,rfl,ap (fun h=>?_) (fun h=>?_)⟩⟩
  ·rw[if_pos rfl,eQ] at h
   have hne:e≠(u,v):=fun z=>by rw[z,Ai (show (((u,v):Str × Str).1,((u,v):Str × Str).2)=(u,v) from rfl)] at h;cases h
   rw[if_pos (Ai hne)] at es
   refine⟨_,rfl,hacc,(by exact aj (by omega)),_,rfl,?_,by rw[Aq];show _+1<=_;omega,aW sm hD0,hD0⟩
   rw[es,Ae]
   exact RepAll.append (aO (aV hacc But.upd) rpc) (.cons (aM (s:=e.1) (t:=e.2) (cw hacc But.upd (sm _ _ hta))) .nil)
  ·rw[if_pos rfl,eQ] at h
   have heq:e=(u,v):=Classical.byContradiction fun z=>h (by rw[Ay (show (e.1,e.2)≠(u,v) from z)];rfl)
   rw[if_neg (by simpa using heq),AK] at es
   exact⟨hacc,_,rfl,by rw[es];exact rpc,by omega,sm,hD0⟩
 ·rintro acc σ' H1 ⟨o0,rfl,rpc,al,s1,hD0⟩ hacc
  rw[ral,Ak (Aa _)] at rpc
  refine ao ⟨Da,acc,rfl,.of hacc,fun t1 h1=>?_⟩
  have s2:=Same.new (o:=.tup acc) h1
  exact k t1 _ (s1.trans s2) (.tup ae (rpc.same s2))
def mC:Sp:=fun vs H Q _=>∃(q t ks:_) (ts ws wn:Prs) (u v:_),vs=[.ref q,.ref t]/\Rep H (.ref q) (aJ ks ts ws wn)/\(∀e∈ws,Nm e.1/\Nm e.2)/\Nm u/\Nm v/\H t=some (.tup [.str u,.str v])/\ts.length<=400/\ws.length<=400/\∀q' H',Same H H'->Rep H' (.ref q') (aJ ks (ts++[(u,v)]) (ws.filter fun e=>decide (e≠(u,v))) wn)->Q (.ref q') H'
theorem qT (F:Fun K "with_tie" "with_tie" nU f fd) (B:Blt mg) (cwithout:Cal P w K mg base 1 "without" ["some","one"] mG):FnOk P w K mg base CX0 2 f fd ["house","tie"] mC:=by
 refine F.ok1 ["house","tie"] fun nd H Q E hr h=>?_
 obtain⟨q,t,ks,ts,ws,wn,u,v,rfl,R,wnm,nu,nv,ht,tl,wl,k⟩:=h
 have sz:200000<sizeLine:=by decide
 refine⟨_,(ac (am (aB (ak (px K hr (pv 0) ab) (ak (aG dm (px K hr (pv 0) ab) (aB (p1 (pv 1)))) (p2 (pc cwithout hr (p2 (px K hr (pv 0) ab) (pv 1))) (px K hr (pv 0) ab))))))),?_⟩
 obtain⟨q',a,b,c3,d4,e0,hq,R1,R2,R3,R4⟩:=aX R
 cases e0
 obtain⟨b',rb,e0,hb,rpb⟩:=aP R2
 cases e0
 have rbl:=rpb.len
 rw[z0] at rbl
 refine⟨_,rfl,.tup (.of hq) rfl ⟨_,rfl,.tup (.of hq) rfl ⟨_,rfl,ao ⟨(szl 1),fun t1 h1=>?_⟩⟩⟩⟩
 refine nw h1 fun H1 s1 e1=>?_
 refine⟨b,t1,_,_,rfl,rfl,s1 _ _ hb,e1,(by show rb.length+1<=_;omega),fun t2 H2 s2 e2=>?_⟩
 have s12:=s1.trans s2
 refine⟨_,rfl,.tup (.of (s12 _ _ hq)) rfl ⟨_,rfl,ao ⟨c3,t,ws,u,v,rfl,R3.same s12,wnm,s12 _ _ ht,nu,nv,wl,fun r H3 s3 R3'=>?_⟩⟩⟩
 have s13:=s12.trans s3
 refine⟨_,rfl,.tup (.of (s13 _ _ hq)) rfl (ao ⟨(szl 4),fun t3 h3=>?_⟩)⟩
 have s4:=Same.new (o:=.tup [V.ref a,V.ref t2,V.ref r,V.ref d4]) h3
 have sA:=s13.trans s4
 refine k t3 _ sA (ce ae (R1.same sA) (.tup (s4 _ _ (s3 _ _ e2)) ?_) (R3'.same s4) (R4.same sA))
 rw[Ae]
 exact RepAll.append (rpb.same sA) (.cons (aM (s:=u) (t:=v) (sA _ _ ht)) .nil)
def ku:Sp:=fun vs H Q _=>∃(q t ks:_) (ts ws wn:Prs) (u v:_),vs=[.ref q,.ref t]/\Rep H (.ref q) (aJ ks ts ws wn)/\H t=some (.tup [.str u,.str v])/\ws.length<=400/\∀q' H',Same H H'->Rep H' (.ref q') (aJ ks ts (ws++[(u,v)]) wn)->Q (.ref q') H'
theorem oW (F:Fun K "with_waiting" "with_waiting" iN f fd) (B:Blt mg):FnOk P w K mg base CX0 1 f fd ["house","tie"] ku:=by
 refine F.ok1 ["house","tie"] fun nd H Q E hr h=>?_
 obtain⟨q,t,ks,ts,ws,wn,u,v,rfl,R,ht,wl,k⟩:=h
 have sz:200000<sizeLine:=by decide
 refine⟨_,(ac (am (aB (ak (px K hr (pv 0) ab) (ak (px K hr (pv 0) ab) (p2 (aG dm (px K hr (pv 0) ab) (aB (p1 (pv 1)))) (px K hr (pv 0) ab))))))),?_⟩
 obtain⟨q',a,b,c3,d4,e0,hq,R1,R2,R3,R4⟩:=aX R
 cases e0
 obtain⟨c',rc,e0,hc,rpc⟩:=aP R3
 cases e0
 have rcl:=rpc.len
 rw[z0] at rcl
 refine⟨_,rfl,.tup (.of hq) rfl ⟨_,rfl,.tup (.of hq) rfl ⟨_,rfl,.tup (.of hq) rfl ⟨_,rfl,ao ⟨(szl 1),fun t1 h1=>?_⟩⟩⟩⟩⟩
 refine nw h1 fun H1 s1 e1=>?_
 refine⟨c3,t1,_,_,rfl,rfl,s1 _ _ hc,e1,(by show rc.length+1<=_;omega),fun t2 H2 s2 e2=>?_⟩
 have s12:=s1.trans s2
 refine⟨_,rfl,.tup (.of (s12 _ _ hq)) rfl (ao ⟨(szl 4),fun t3 h3=>?_⟩)⟩
 have s4:=Same.new (o:=.tup [V.ref a,V.ref b,V.ref t2,V.ref d4]) h3
 have sA:=s12.trans s4
 refine k t3 _ sA (ce ae (R1.same sA) (R2.same sA) (.tup (s4 _ _ e2) ?_) (R4.same sA))
 rw[Ae]
 exact RepAll.append (rpc.same sA) (.cons (aM (s:=u) (t:=v) (sA _ _ ht)) .nil)
def jh (ks:Kn) (ts wn:Prs) (kk:Str × List Str) (x y:Str):Kn:=ks.map (bg kk.1 (eZ kk.2 (aL ks ts wn kk.1 kk.2) x y))
def m7:Sp:=fun vs H Q _=>∃(q r us ks:_) (ts ws wn:Prs) (kk:Str × List Str) (u v x y:_),vs=[.ref q,.ref r]/\GT H q us ks ts ws wn/\kk∈ks/\u∈us/\v∈us/\aH ks u v=some (kk.1,x,y)/\¬ MG.Rch (Tie (aL ks ts wn kk.1 kk.2)) y x/\TRow H r ks ts wn kk u v x y none /\
 ∀q' H',Same H H'->Rep H' (.ref q') (aJ (jh ks ts wn kk x y) (ts++[(u,v)]) (ws.filter fun e=>decide (e≠(u,v))) wn)->Q (.ref q') H'
theorem tI (F:Fun K "led_by_row" "led_by_row" mh f fd) (B:Blt mg) (cparting:Cal P w K mg base 3 "parting" ["house","one","other"] gL) (cwith_row:Cal P w K mg base 1 "with_row" ["house","knot","row"] lU) (cmoved:Cal P w K mg base 1 "moved" ["order","moves"] qo) (cchildren:Cal P w K mg base 1 "children" ["house","knot"] fz) (cwith_tie:Cal P w K mg base 2 "with_tie" ["house","tie"] mC):FnOk P w K mg base CX0 4 f fd ["house","row"] m7:=by
 refine F.ok1 ["house","row","knot","laid"] fun nd H Q E hr h=>?_
 obtain⟨q,r,us,ks,ts,ws,wn,kk,u,v,x,y,rfl,G,hkk,hu,hv,hp,nrr,rv,k⟩:=h
 have T:=G.tre
 have few:=T.few
 have tl:=G.tl
 have knd:=bo T hkk
 have nr:¬ eG kk.2 (aL ks ts wn kk.1 kk.2) x y:=fun z=>nrr z.2
 have and_:=iE knd nr
 have sub:=gK (os:=kk.2) (ts:=aL ks ts wn kk.1 kk.2) (one:=x) (other:=y)
 obtain⟨lm,refs,hr1,hlm,rpm⟩:=rv
 refine⟨_,(aa (aI (ag (br hr.units) (px K hr (pv 1) ab) aA (au _)) (ac (am (pv 0))) av)
  (aa (pst 2 nd (px K hr (pc cparting hr (ak (pv 0) (p2 (px K hr (pv 1) ab) (px K hr (pv 1) ab)))) ab))
  (aa (pst 3 nd (pc cwith_row hr (ak (pv 0) (p2 (pv 2) (pc cmoved hr (p2 (pc cchildren hr (p2 (pv 0) (pv 2))) (px K hr (pv 1) ab)))))))
  (ac (am (pc cwith_tie hr (p2 (pv 3) (aB (p2 (px K hr (pv 1) ab) (px K hr (pv 1) ab)))))))))),?_⟩
 refine⟨_,rfl,.tup (.of hr1) rfl (.sc rfl ⟨_,rfl,ap (fun h=>absurd h (by decide)) (fun _=>?_)⟩)⟩
 refine⟨_,rfl,_,rfl,.tup (.of hr1) rfl ⟨_,rfl,.tup (.of hr1) rfl (ao ⟨q,us,ks,ts,ws,wn,u,v,rfl,G.rep,T,hu,hv,fun p0 H1 s1 rp0=>?_⟩)⟩⟩
 rw[hp] at rp0
 obtain⟨t,rfl,ht⟩:=rp0
 have G1:=G.same s1
 refine .tup (.of ht) rfl ?_
 refine dZ ?_
 dsimp only
 refine⟨_,rfl,_,rfl,_,rfl,_,rfl,ao ⟨q,us,ks,ts,ws,wn,kk,rfl,G1.rep,T,hkk,fun lo H2 s2 hl0 hlo=>?_⟩⟩
 have s12:=s1.trans s2
 refine⟨_,rfl,.tup (.of (s12 _ _ hr1)) rfl (ao ⟨lo,lm,refs,kk.2,_,rfl,hlo,s12 _ _ hlm,rpm.same s12,fun m hm=>?_,fun ln H3 s3 _ hln=>?_⟩)⟩
 ·obtain⟨kq,hk,rfl⟩:=Ag.mp hm
  exact fq (Ad (dW knd and_ sub hk).1)
 rw[uL knd and_ sub] at hln
 have s13:=s12.trans s3
 have G3:=G.same s13
 refine ao ⟨q,ln,ks,ts,ws,wn,kk.1,eZ kk.2 (aL ks ts wn kk.1 kk.2) x y,rfl,G3.rep,hln,by omega,fun q4 H4 s4 R4=>?_⟩
 have s14:=s13.trans s4
 have hr4:=s14 _ _ hr1
 refine dZ ?_
 dsimp only
 refine⟨_,rfl,_,rfl,.tup (.of hr4) rfl ⟨_,rfl,.tup (.of hr4) rfl (ao ⟨(szl 2),fun t1 h1=>?_⟩)⟩⟩
 refine nw h1 fun H5 s5 e5=>?_
 have R5:=R4.same s5
 have s15:=s14.trans s5
 exact ao ⟨q4,t1,_,ts,ws,wn,u,v,rfl,R5,fun e he=>⟨T.nm _ (G.pw e he).1,T.nm _ (G.pw e he).2⟩,T.nm _ hu,T.nm _ hv,e5,by omega,by omega,fun q' H6 s6 R6=>k q' H6 (s15.trans s6) R6⟩
def cD (ks:Kn) (ts ws wn:Prs) (kk:Str × List Str) (u v x y:Str):Option (List Nat)->Kn × Prs × Prs
 | none=>(jh ks ts wn kk x y,ts++[(u,v)],ws)
 | some _=>(ks,ts,ws++[(u,v)])
theorem mF {ws:Prs}{e:Str × Str}(h:e∉ws):(ws.filter fun f=>decide (f≠e))=ws:=by
 rw[List.filter_eq_self]
 exact fun f hf=>Ai fun z=>h (z ▸ hf)
def tN:Sp:=fun vs H Q _=>∃(q t r us ks ts ws wn:_) (kk:Str × List Str) (u v x y o:_),vs=[.ref q,.ref t,.ref r]/\TD H q t us ks ts ws wn kk "wait" u v x y/\TieO (cW kk.2 (aL ks ts wn kk.1 kk.2)) (kk.2.idxOf x) (kk.2.idxOf y) o/\TRow H r ks ts wn kk u v x y o /\
 ∀q' H',Same H H'->Rep H' (.ref q') (aJ (cD ks ts ws wn kk u v x y o).1 (cD ks ts ws wn kk u v x y o).2.1 (cD ks ts ws wn kk u v x y o).2.2 wn)->Q (.ref q') H'
theorem w6 {f:Addr}{fd:FuncData}(F:Fun K "led_by_tie" "led_by_tie" lY f fd) (B:Blt mg) (cwith_waiting:Cal P w K mg base 1 "with_waiting" ["house", "tie"] ku) (cled_by_row:Cal P w K mg base 4 "led_by_row" ["house", "row"] m7):FnOk P w K mg base CX0 5 f fd ["house", "deed", "row"] tN := by
 refine F.ok1 ["house","deed","row"] fun nd H Q E hr h=>?_
 obtain⟨q,t,r,us,ks,ts,ws,wn,kk,u,v,x,y,o,rfl,D,ti,rv,k⟩:=h
 have T:=D.g.tre
 have tl:=D.g.tl
 obtain⟨hxk,hyk⟩:=D.ne_xy
 refine⟨_,(aa (aI (PW.pt (cx (ag (br hr.units) (px K hr (pv 1) ab) aA (au _)) (bY (ag (br hr.units) (px K hr (pv 2) ab) aA (au _))))) (ac (am (pc cwith_waiting hr (p2 (pv 0) (bO lg (pv 1) (bQ ab) cJ))))) av)
  (ac (am (pc cled_by_row hr (p2 (pv 0) (pv 2)))))),?_⟩
 refine⟨_,rfl,.tup (.of D.at_) rfl (.sc rfl ⟨_,rfl,ap (fun _=>?_) (fun h=>absurd rfl h)⟩)⟩
 cases o with
 | some wy =>
  obtain⟨l,refs,hr1,_⟩:=rv
  refine⟨_,rfl,.tup (.of hr1) rfl (.sc rfl ⟨_,rfl,ap (fun _=>?_) (fun h=>absurd rfl h)⟩)⟩
  refine⟨_,rfl,_,rfl,_,rfl,t,_,rfl,D.at_,fun t1 H1 s1 e1=>?_⟩
  have e1:H1 t1=some (.tup [V.str u,V.str v]):=e1
  exact ao ⟨q,t1,ks,ts,ws,wn,u,v,rfl,D.g.rep.same s1,e1,by omega,fun q' H2 s2 R2=>k q' H2 (s1.trans s2) R2⟩
 | none =>
  have rv0:=rv
  obtain⟨l,refs,hr1,_⟩:=rv
  refine⟨_,rfl,.tup (.of hr1) rfl (.sc rfl ⟨_,rfl,ap (fun h=>absurd h (by decide)) (fun _=>?_)⟩)⟩
  refine⟨_,rfl,_,rfl,ao ⟨q,r,us,ks,ts,ws,wn,kk,u,v,x,y,rfl,D.g,D.kin,D.uin,D.vin,D.hp,?_,rv0,fun q' H2 s2 R2=>k q' H2 s2 ?_⟩⟩
  ·exact(fo (bo T D.kin) (fun s hs=>T.nm _ (T.isIn D.kin hs)) (cy (wn:=wn) T D.g.tok D.kin) hxk hyk ti).mp rfl
  ·rw[mF D.n2] at R2
   exact R2
def qu:Sp:=fun vs H Q _=>∃(q t l r us ks ts ws wn:_) (kk:Str × List Str) (u v x y o:_),vs=[.ref q,.ref t,.ref l]/\TD H q t us ks ts ws wn kk "wait" u v x y/\TieO (cW kk.2 (aL ks ts wn kk.1 kk.2)) (kk.2.idxOf x) (kk.2.idxOf y) o/\H l=some (.lst [.ref r])/\TRow H r ks ts wn kk u v x y o /\
 ∀q' H',Same H H'->Rep H' (.ref q') (aJ (cD ks ts ws wn kk u v x y o).1 (cD ks ts ws wn kk u v x y o).2.1 (cD ks ts ws wn kk u v x y o).2.2 wn)->Q (.ref q') H'
theorem vj (F:Fun K "led_to" "led_to" uA f fd) (B:Blt mg) (cled_by_tie:Cal P w K mg base 5 "led_by_tie" ["house","deed","row"] tN):FnOk P w K mg base CX0 6 f fd ["house","deed","paper"] qu:=by
 refine F.ok1 ["house","deed","paper"] fun nd H Q E hr h=>?_
 obtain⟨q,t,l,r,us,ks,ts,ws,wn,kk,u,v,x,y,o,rfl,D,ti,hl,rv,k⟩:=h
 refine⟨_,(aa (aI (ag (br hr.units) (px K hr (pv 1) ab) aA (au _)) (ac aN) av)
  (aa (aI (ag (bL K hr.units) (px K hr (pv 1) ab) (aB (p2 aA aA)) (by with_unfolding_all rfl)) (ac (am (pc cled_by_tie hr (ak (pv 0) (p2 (pv 1) (px K hr (pv 2) ab)))))) av)
  (aa aN
  (aa aN
  (ac aN))))),?_⟩
 refine⟨_,rfl,.tup (.of D.at_) rfl (.sc rfl ⟨_,rfl,ap (fun h=>absurd h (by decide)) (fun _=>?_)⟩)⟩
 refine⟨_,rfl,.tup (.of D.at_) rfl ⟨(szl 2),fun t1 h1=>?_⟩⟩
 refine nw h1 fun H3 s3 e3=>?_
 have D3:=D.same s3
 have rv3:=rv.same s3
 have hl3:=s3 _ _ hl
 refine .seq (.inr (.of e3)) rfl rfl ⟨_,rfl,ap (fun _=>?_) (fun h=>absurd rfl h)⟩
 exact⟨_,rfl,_,rfl,_,rfl,.lst (.of hl3) at0 (ao ⟨q,t,r,us,ks,ts,ws,wn,kk,u,v,x,y,o,rfl,D3,ti,rv3,fun q' H4 s4 R4=>k q' H4 (s3.trans s4) R4⟩)⟩
def jR:Sp:=fun vs H Q _=>∃(q t us ks ts ws wn:_) (kk:Str × List Str) (u v x y:_),vs=[.ref q,.ref t]/\TD H q t us ks ts ws wn kk "wait" u v x y /\
 ∀o q' H',TieO (cW kk.2 (aL ks ts wn kk.1 kk.2)) (kk.2.idxOf x) (kk.2.idxOf y) o->Same H H'->Rep H' (.ref q') (aJ (cD ks ts ws wn kk u v x y o).1 (cD ks ts ws wn kk u v x y o).2.1 (cD ks ts ws wn kk u v x y o).2.2 wn)->Q (.ref q') H'
theorem wv (F:Fun K "behind_single" "behind_single" iq f fd) (B:Blt mg) (cpaper_of:Cal P w K mg base 8 "paper_of" ["house","deed"] oD) (cled_to:Cal P w K mg base 6 "led_to" ["house","deed","paper"] qu):FnOk P w K mg base CX0 9 f fd ["house","deed"] jR:=by
 refine F.ok1 ["house","deed","paper"] fun nd H Q E hr h=>?_
 obtain⟨q,t,us,ks,ts,ws,wn,kk,u,v,x,y,rfl,D,k⟩:=h
 refine⟨_,(aa (pst 2 nd (pc cpaper_of hr (p2 (pv 0) (pv 1))))
  (aa (aI (PW.pt (cx (ag (bL K hr.units) (px K hr (pv 1) ab) (aB (ak aA (p2 aA aA))) (by with_unfolding_all rfl)) (bY (ag (bL K hr.units) (px K hr (px K hr (pv 2) ab) ab) (aB (p2 aA aA)) (by with_unfolding_all rfl))))) (ac aN) av)
  (ac (am (pc cled_to hr (ak (pv 0) (p2 (pv 1) (pv 2)))))))),?_⟩
 refine⟨_,rfl,_,rfl,ao ⟨q,t,us,ks,ts,ws,wn,kk,"wait",u,v,x,y,rfl,D,fun o l r H1 s1 ti hl rv=>?_⟩⟩
 have D1:=D.same s1
 refine⟨_,rfl,.tup (.of D1.at_) rfl ⟨(szl 3),fun t1 h1=>?_⟩⟩
 refine nw h1 fun H3 s3 e3=>?_
 have D3:=D1.same s3
 have hl3:=s3 _ _ hl
 have rv3:=rv.same s3
 have s13:=s1.trans s3
 refine .seq (.inr (.of e3)) rfl rfl ⟨_,rfl,ap (fun h=>absurd h (by decide)) (fun _=>?_)⟩
 exact⟨_,rfl,_,rfl,_,rfl,ao ⟨q,t,l,r,us,ks,ts,ws,wn,kk,u,v,x,y,o,rfl,D3,ti,hl3,rv3,fun q' H5 s5 R5=>k o q' H5 ti (s13.trans s5) R5⟩⟩
def kz:Sp:=fun vs H Q _=>∃q t us ks ts ws wn kk wd u v x y,vs=[.ref t]/\TD H q t us ks ts ws wn kk wd u v x y/\∀l H',Same H H'->H' l=some (.lst [.ref t])->Q (.ref l) H'
theorem pz (F:Fun K "singles" "singles" ou f fd) (B:Blt mg):FnOk P w K mg base CX0 1 f fd ["deed"] kz:=by
 refine F.ok1 ["deed","told","part"] fun nd H Q E hr h=>?_
 obtain⟨q,t,us,ks,ts,ws,wn,kk,wd,u,v,x,y,rfl,D,k⟩:=h
 have hwd:wd≠"many":=by rcases D.hw with e | e <;> rw[e] <;> decide
 refine⟨_,(aa (aI (ag (cE hr.units) (px K hr (pv 0) ab) aA (au _)) (ac (am (aS (p1 (pv 0))))) av)
  (aa aN
  (aa aN
  (ac aN)))),?_⟩
 refine⟨_,rfl,.tup (.of D.at_) rfl (.sc rfl ⟨_,rfl,ap (fun _=>?_) (fun h=>?_)⟩)⟩
 ·exact⟨_,rfl,(szl 1),fun l hl=>k l _ (Same.new hl) ae⟩
 ·exact absurd (by rw[if_pos rfl,Ay (fun z=>hwd (V.str.inj z))];rfl) h
theorem xM (F:Fun K "behind" "behind" pH f fd) (B:Blt mg) (cis_deed:Cal P w K mg base 9 "is_deed" ["thing"] (spD true)) (csingles:Cal P w K mg base 1 "singles" ["deed"] kz) (cbehind_single:Cal P w K mg base 9 "behind_single" ["house", "deed"] jR):FnOk P w K mg base CX0 10 f fd ["house", "deed"] jR := by
 refine F.ok1 ["house","deed","left","single"] fun nd H Q E hr h=>?_
 obtain⟨q,t,us,ks,ts,ws,wn,kk,u,v,x,y,rfl,D,k⟩:=h
 refine⟨_,(aa (aI (fQ (fe (pc cis_deed hr (p1 (pv 1))))) (ac aN) av)
  (aa (pst 2 nd (pv 0))
  (aa (aZ PassesOwn.never rfl (be K (pc csingles hr (p1 (pv 1)))) (ai (i:=3) nd rfl (Or.inl rfl)) (ac (pst 2 nd (pc cbehind_single hr (p2 (pv 2) (pv 3))))))
  (ac (am (pv 2)))))),?_⟩
 refine⟨_,rfl,t,_,u,v,rfl,D.dd,fun H1 s1=>?_⟩
 refine⟨_,rfl,ap (fun h=>by cases (show false=true from h)) (fun _=>?_)⟩
 have D1:=D.same s1
 refine⟨_,rfl,⟨_,rfl,ao ⟨q,t,us,ks,ts,ws,wn,kk,"wait",u,v,x,y,rfl,D1,fun l H2 s2 hl=>?_⟩⟩⟩
 have D2:=D1.same s2
 have s12:=s1.trans s2
 refine⟨l,rfl,⟨_,.of hl⟩,?_⟩
 refine cS (xs:=[V.ref t]) (fun i σ H'=>(i=0/\H'=H2/\∃o3,σ=[some (.ref q),some (.ref t),some (.ref q),o3])∨(i=1/\∃q' o3 o,σ=[some (.ref q),some (.ref t),some (.ref q'),o3]/\TieO (cW kk.2 (aL ks ts wn kk.1 kk.2)) (kk.2.idxOf x) (kk.2.idxOf y) o/\Same H2 H'/\Rep H' (.ref q') (aJ (cD ks ts ws wn kk u v x y o).1 (cD ks ts ws wn kk u v x y o).2.1 (cD ks ts ws wn kk u v x y o).2.2 wn))) ?_ ?_ ?_ ?_
 ·exact .inl ⟨rfl,rfl,none,rfl⟩
 ·rintro i σ H' hi (⟨_,rfl,_⟩ | ⟨_,q',o3,o,rfl,_,s3,_⟩)
  ·exact .of hl
  ·exact .of (s3 _ _ hl)
 ·rintro i x' σ H' hx (⟨rfl,rfl,o3,rfl⟩ | ⟨rfl,_⟩)
  ·have ex:V.ref t=x':=Af hx
   subst ex
   exact⟨_,rfl,_,rfl,ao ⟨q,t,us,ks,ts,ws,wn,kk,u,v,x,y,rfl,D2,fun o q' H3 ti s3 r3=>.inr ⟨rfl,q',_,o,rfl,ti,s3,r3⟩⟩⟩
  ·cases hx
 ·rintro σ H' (⟨h,_⟩ | ⟨_,q',o3,o,rfl,ti,s3,r3⟩)
  ·exact absurd h (by show ¬ (1:Nat)=0;decide)
  ·exact⟨_,rfl,k o q' H' ti (s12.trans s3) r3⟩
theorem ff (k:Str × List Str):(bg knot row k).1=k.1:=by
 unfold bg
 split
 ·rename_i h;exact h.symm
 ·rfl
theorem ie (T:Tre us ks) (hkk:kk∈ks) (hk:k∈ks) (e:k.1=kk.1):k=kk:=by
 obtain⟨i,hi⟩:=AE hk
 obtain⟨j,hj⟩:=AE hkk
 have hi2:(ks.map (·.1))[i]? = some k.1:=by rw[Al,hi];rfl
 have hj2:(ks.map (·.1))[j]? = some k.1:=by rw[Al,hj,e];rfl
 have hij:i=j:=by rw[<- MG.ix_at T.kn hi2,<- MG.ix_at T.kn hj2]
 subst hij
 rw[hi] at hj
 exact Af hj
theorem ik (T:Tre us ks) (hkk:kk∈ks) (hk:k∈ks) (p:row.Perm kk.2) (u:Str):u∈(bg kk.1 row k).2 ↔ u∈k.2:=by
 unfold bg
 split
 ·rename_i h
  rw[ie T hkk hk h]
  exact p.mem_iff
 ·exact Iff.rfl
theorem gB:∀ {l:List α},(∀x∈l,p (f x)=p x)->(l.map f).find? p=(l.find? p).map f
 | [],_=>rfl
 | x::l,h=>by
  rw[AD,A0,A0,h x (A5 ..)]
  cases p x with
  | true=>rfl
  | false=>exact gB fun y hy=>h y (AF _ hy)
theorem uY (T:Tre us ks) (hkk:kk∈ks) (p:row.Perm kk.2) (u:Str):bq (ks.map (bg kk.1 row)) u=bq ks u:=by
 unfold bq
 rw[gB (f:=bg kk.1 row) fun k hk=>decide_eq_decide.mpr (ik T hkk hk p u),Option.map_map]
 congr 2
 funext k
 exact ff k
theorem tH (T:Tre us ks) (hkk:kk∈ks) (p:row.Perm kk.2) (u v:Str):aH (ks.map (bg kk.1 row)) u v=aH ks u v:=by
 have e:bq (ks.map (bg kk.1 row))=bq ks:=funext fun u=>uY T hkk p u
 unfold aH lin
 rw[e]
theorem nI (p:row.Perm kk.2):∀ {ks:Kn}, (∀k ∈ ks, k.1=kk.1 -> k=kk) -> (aU (ks.map (bg kk.1 row))).Perm (aU ks)
 | [],_=>.refl _
 | k::ks,h=>by
  show ((bg kk.1 row k).2++aU (ks.map (bg kk.1 row))).Perm (k.2++aU ks)
  refine List.Perm.append ?_ (nI p fun x hx=>h x (AF _ hx))
  unfold bg
  split
  ·rename_i e
   rw[h k (A5 ..) e]
   exact p
  ·exact .refl _
theorem xh (T:Tre us ks) (hkk:kk∈ks) (p:row.Perm kk.2):Tre us (ks.map (bg kk.1 row)):=by
 have e1:(ks.map (bg kk.1 row)).map (·.1)=ks.map (·.1):=by
  rw[AQ]
  exact List.map_congr_left fun k _=>ff k
 refine⟨(nI p fun k hk e=>ie T hkk hk e).trans T.perm,T.nd,T.nm,T.len,by rw[e1];exact T.top,by rw[e1];exact T.kn,fun k hk=>?_,fun k hk u hu=>?_⟩
 ·obtain⟨k0,h0,rfl⟩:=Ag.mp hk
  rw[ff]
  exact T.sub k0 h0
 ·obtain⟨k0,h0,rfl⟩:=Ag.mp hk
  rw[ff]
  exact T.up k0 h0 u ((ik T hkk h0 p u).mp hu)
def qB:Sp:=fun vs H Q _=>∃(q us ks ts ws wn:_) (t:T3),vs=[.ref q,.str t.1,.str t.2.1,.str t.2.2]/\Rep H (.ref q) (aJ ks ts ws wn)/\Tre us ks/\m9 us wn/\fv us ks ts/\Kt t/\∀x H',Same H H'->Rep H' (.ref x) (t3D (fc ks ts wn t))->Q (.ref x) H'
theorem wu (F:Fun K "_law_step" "_law_step" oO f fd) (B:Blt mg) (c_law_part:Cal P w K mg base 2 "_law_part" ["_law_knots_here", "_law_one", "_law_other"] dY):FnOk P w K mg base CX0 3 f fd ["_law_house_here", "_law_knot", "_law_one", "_law_other"] qB := by
 refine F.ok1 ["_law_house_here","_law_knot","_law_one","_law_other","_law_tie"] fun nd H Q E hr h=>?_
 obtain⟨q,us,ks,ts,ws,wn,t,rfl,R,T,wok,tok,hkt,k⟩:=h
 refine⟨_,(aa (aZ PassesOwn.never rfl (bc K (px K hr (pv 0) ab)) (ai (i:=4) nd rfl (Or.inl rfl)) (ac (aI (ag (br hr.units) (pc c_law_part hr (ak (px K hr (pv 0) ab) (p2 (px K hr (pv 4) ab) (px K hr (pv 4) ab)))) (aB (ak (pv 1) (p2 (pv 2) (pv 3)))) (au _)) (ac (am (aG dm (aB (p1 aA)) (pv 4)))) av)))
  (aa (aI (ag (fK hr.units) (aB (p2 aA (pv 2))) (px K hr (pv 0) ab) (by with_unfolding_all rfl)) (ac (am (aB (ak aA (p2 (pv 2) (pv 3)))))) av)
  (ac (am (aB (ak aA (p2 (pv 2) (pv 3)))))))),?_⟩
 obtain⟨q',a,b,c3,d4,e0,hq,R1,R2,_,R4⟩:=aX R
 cases e0
 obtain⟨b',rb,e0,hb,rpb⟩:=aP R2
 cases e0
 obtain⟨d4',rw4,e0,hd4,rpw⟩:=aP R4
 cases e0
 have rblen:=rpb.len
 rw[z0] at rblen
 have cay:PyData.canLayAll0 (wn.map aE)=true:=aT fun e he=>⟨gG (wok e he).1,T.nm _ (wok e he).2⟩
 have s1:=Same.refl H
 refine⟨_,rfl,.tup (.of hq) rfl ⟨b,rfl,⟨_,.of hb⟩,?_⟩⟩
 refine cC (xs:=rb) (fun i σ H'=>∃(o5:Option V),σ=[some (.ref q),some (.str t.1),some (.str t.2.1),some (.str t.2.2),o5]/\Same H H'/\(ts.take i).find? (fun e=>decide (aH ks e.1 e.2=some t))=none) ?_ ?_ ?_ ?_
 ·exact⟨none,rfl,Same.refl H,rfl⟩
 ·rintro i σ H' hi ⟨o5,rfl,sm,_⟩
  exact .of (sm _ _ (s1 _ _ hb))
 ·rintro i x σ H' hx ⟨o5,rfl,sm,hn⟩
  obtain⟨e,ta,he,rfl,hta⟩:=cF rpb hx
  obtain⟨hu,hv,_⟩:=tok e (Ad he)
  have hta:=s1 _ _ hta
  dsimp only[aQ]
  refine⟨_,rfl,.tup (.of (sm _ _ hq)) rfl ⟨_,rfl,.tup (.of (sm _ _ hta)) rfl ⟨_,rfl,.tup (.of (sm _ _ hta)) rfl (ao ⟨a,us,ks,e.1,e.2,rfl,R1.same sm,T,hu,hv,fun y H2 s2 py=>?_⟩)⟩⟩⟩
  have s12:=sm.trans s2
  refine⟨_,rfl,_,rfl,_,rfl,(szl 3),fun pt hpt=>?_⟩
  have s3:=Same.new (o:=.tup [V.str t.1,V.str t.2.1,V.str t.2.2]) hpt
  have rt:Rep (upd H2 pt (.tup [V.str t.1,V.str t.2.1,V.str t.2.2])) (.ref pt) (t3D t):=dL ae
  have py3:=i0 (py.same s3)
  have s13:=s12.trans s3
  generalize upd H2 pt (.tup [V.str t.1,V.str t.2.1,V.str t.2.2])=H3 at rt py3 s13 ⊢
  refine .tr py3 rt (p7 fun t h=>qH T hu hv h) (m3 hkt) ⟨_,rfl,?_⟩
  rw[if_neg (show ¬ false=true by decide),pX]
  refine ap (fun h=>?_) (fun h=>?_)
  ·have h:=Ao h
   refine⟨(szl 1),fun l1 hl1=>?_⟩
   have s4:=Same.new (o:=.tup [V.str "tie"]) hl1
   refine⟨_,rfl,l1,ta,_,_,rfl,rfl,ae,s4 _ _ (s13 _ _ hta),(by show 1+2<=sizeLine;decide),fun x H5 s5 e5=>?_⟩
   refine k x _ ((s1.trans s13).trans (s4.trans s5)) ?_
   rw[mX hn he h]
   exact dL e5
  ·have h:aH ks e.1 e.2≠some t:=fun z=>h (Ai z)
   exact⟨_,rfl,s13,lJ hn he h⟩
 ·rintro σ H2 ⟨o5,rfl,sm,hn⟩
  rw[rblen,Ak (Aa _)] at hn
  have hst:=mI (wn:=wn) hn
  have s12:=s1.trans sm
  refine⟨_,rfl,(szl 2),fun x hx=>?_⟩
  refine nw hx fun H3 s2 et=>?_
  have s2:=s12.trans s2
  refine⟨_,rfl,.tup (.of (s2 _ _ hq)) rfl ⟨d4,rw4,_,aE ("first",t.2.1),rfl,s2 _ _ hd4,rpw.same s2,aM et,cay,em (e:=("first",t.2.1)) ⟨jw,hkt.2.1⟩,(by show 1<=16;decide),_,rfl,?_⟩⟩
  rw[if_neg (show ¬ false=true by decide),dR]
  refine ap (fun h=>?_) (fun h=>?_)
  ·have h:=Ao h
   rw[if_pos h] at hst
   refine⟨_,rfl,_,rfl,(szl 3),fun x hx=>?_⟩
   refine k x _ (s2.trans (Same.new hx)) ?_
   rw[hst]
   exact dL ae
  ·have h:¬ ((("first":Str),t.2.1):Str × Str)∈wn:=fun z=>h (Ai z)
   rw[if_neg h] at hst
   refine⟨_,rfl,_,rfl,(szl 3),fun x hx=>?_⟩
   refine k x _ (s2.trans (Same.new hx)) ?_
   rw[hst]
   exact dL ae
def pT:Sp:=fun vs H Q _=>∃(q l:_) (ks:Kn) (ts ws wn knot row:_),vs=[.ref q,.str knot,.ref l]/\Rep H (.ref q) (aJ ks ts ws wn)/\H l=some (.lst (List.map V.str row))/\ks.length<=100/\∀q' H',Same H H'->Rep H' (.ref q') (aJ (ks.map (bg knot row)) ts ws wn)->Q (.ref q') H'
theorem vP (F:Fun K "_law_with" "_law_with" jk f fd) (B:Blt mg):FnOk P w K mg base CX0 1 f fd ["_law_house_here", "_law_knot", "_law_order"] pT := by
 refine F.ok1 ["_law_house_here","_law_knot","_law_order","_law_knots_here"] fun nd H Q E hr h=>?_
 obtain⟨q,l,ks,ts,ws,wn,knot,row,rfl,R,hl,kl,k⟩:=h
 refine⟨_,(aa (dX (i:=3) nd rfl rfl (by rfl) (aD jk) ["_law_house_here","_law_knot","_law_order","_law_knots_here"] ["_law_name","_law_kids"] [2,1] ["_law_name","_law_kids","_law_order","_law_knot"] rfl (bc K (px K hr (pv 0) ab)) (fun _ _ _ _ _=>(bI (n:=2) K rfl (aF (ai (i:=0) (show (["_law_name","_law_kids","_law_order","_law_knot"]:List Str).Nodup by decide) rfl (Or.inl rfl)) (aF (ai (i:=1) (show (["_law_name","_law_kids","_law_order","_law_knot"]:List Str).Nodup by decide) rfl (Or.inl rfl)) bz)))) (fun _ _ _ _ _=>cP) (fun _ _ _ _ _=>(aB (p2 (pv 0) (px K hr (aS (p2 (pv 1) (cm K B (p1 (pv 2))))) (wG B (p1 (iW (br hr.units) (pv 0) (pv 3) (au _)))))))))
  (ac (am (aG dm (aB (p1 (cm K B (p1 (pv 3))))) (bO lg (pv 0) (bQ ab) cJ))))),?_⟩
 obtain⟨q',a,b,c3,d4,e0,hq,R1,R2,R3,R4⟩:=aX R
 cases e0
 obtain⟨a',refs,e0,ha,rp⟩:=cY R1
 cases e0
 have rlen:=rp.len
 rw[z0] at rlen
 refine⟨_,rfl,.tup (.of hq) rfl ⟨a,rfl,⟨_,.of ha⟩,?_⟩⟩
 refine bX refs (fun D j acc σ' H'=>∃(o0 o1:Option V),σ'=[o0,o1,some (.ref l),some (.str knot)]/\RepAll H' acc (((ks.take j).map (bg knot row)).map bN)/\Same H H'/\H D=none) fun D hD=>⟨?_,?_,?_,?_⟩
 ·exact⟨none,none,rfl,.nil,Same.new hD,hD⟩
 ·rintro j acc σ' H' _ ⟨o0,o1,rfl,_,sm,_⟩ _
  exact .of (sm _ _ ha)
 ·rintro j acc σ' H' v hv ⟨o0, o1, rfl, ra, sm, hD0⟩ hacc
  obtain⟨kn,ta,la,hk,rfl,hta,hla⟩:=eR rp hv
  have hil:=(Ac.mp hk).1
  have alen:=ra.len
  rw[z0,z0,As] at alen
  have etk:(ks.take (j+1)).map (bg knot row)=(ks.take j).map (bg knot row)++[bg knot row kn]:=by
   rw[Am,hk,Ae];rfl
  refine wE rfl (.of (sm _ _ hta)) ?_
  refine⟨_,rfl,_,rfl,_,rfl,l,_,rfl,.of (sm _ _ hl),fun t1 h1=>ao ⟨(szl 2),fun l2 h2=>?_⟩⟩
  revert h2;refine nw h1 fun H1 s1 e1=>?_;intro h2
  refine nw h2 fun H2 s2 e2=>?_
  have e1:=s2 _ _ e1
  have s12:=s1.trans s2
  refine⟨_,rfl,_,rfl,.sc rfl ⟨_,rfl,.bl ?_⟩⟩
  have hacc2:=s12 _ _ hacc
  have ra2:=ra.same s12
  have hla2:=s12 _ _ (sm _ _ hla)
  have sm2:=sm.trans s12
  have pick:∃x,atI [V.ref la,V.ref t1] (if (if false=true then !decide (V.str kn.1=V.str knot) else decide (V.str kn.1=V.str knot))=true then 1 else 0)=some (.ref x)/\H2 x=some (.tup ((bg knot row kn).2.map V.str)):=by
   by_cases hn:kn.1=knot
   ·rw[if_pos (by rw[if_neg (by decide),hn];simp),show bg knot row kn=(knot,row) by unfold bg;rw[if_pos hn]]
    exact⟨t1,rfl,e1⟩
   ·rw[if_neg (by rw[if_neg (by decide)];simpa using hn),show bg knot row kn=kn by unfold bg;rw[if_neg hn]]
    exact⟨la,rfl,hla2⟩
  obtain⟨x,hx,hx2⟩:=pick
  refine .lst (.of e2) hx (ao ⟨(szl 2),fun t3 h3=>?_⟩)
  refine nw h3 fun H3 s3 e3=>?_
  have sm3:=sm2.trans s3
  have hacc3:=s3 _ _ hacc2
  have ra3:=ra2.same s3
  have hx3:=s3 _ _ hx2
  refine⟨hacc3,aj (by omega),_,_,rfl,?_,aW sm3 hD0,hD0⟩
  rw[etk,Ae]
  refine RepAll.append (aO (df hacc3 But.upd) ra3) (.cons ?_ .nil)
  exact jH (by rw[ff];exact cw hacc3 But.upd e3) (cw hacc3 But.upd hx3)
 ·rintro acc σ' H' ⟨o0,o1,rfl,ra,sm,hD0⟩ hacc
  rw[rlen,Ak (Aa _)] at ra
  refine dZ ?_
  dsimp only
  refine⟨_,rfl,D,acc,rfl,.of hacc,fun t1 h1=>ao ⟨(szl 1),fun t2 h2=>?_⟩⟩
  revert h2;refine nw h1 fun H1 s1 e1=>?_;intro h2
  have sA:=sm.trans s1
  have ra:=ra.same s1
  refine nw h2 fun H2 s2 e2=>?_
  have sB:=sA.trans s2
  have e1:=s2 _ _ e1
  have ra:=ra.same s2
  refine⟨_,rfl,_,rfl,q,_,rfl,sB _ _ hq,fun t3 H3 s3 e3=>?_⟩
  have e3:H3 t3=some (.tup [V.ref b,V.ref c3,V.ref d4]):=e3
  refine⟨t2,t3,_,_,rfl,rfl,s3 _ _ e2,e3,(by show 1+3<=sizeLine;decide),fun t4 H4 s4 e4=>?_⟩
  have s34:=s3.trans s4
  have sC:=sB.trans s34
  exact k t4 H4 sC (ce e4 (.tup (s34 _ _ e1) (ra.same s34)) (R2.same sC) (R3.same sC) (R4.same sC))
theorem pG {es:List (Nat × Nat)}{s n P t L:Nat}{me par:Nat->Nat}{rw:Nat->List Nat}(b:MG.Bf es s n P t L me par rw) {i:Nat}(hi:i<L):∃us,rw i=us++[me i]:=by
 rcases BH i with z | z
 ·rw[z,b.rw0,b.at0];exact⟨[],rfl⟩
 ·exact⟨_,b.row i z hi⟩
structure Rws (H0 H:Hp) (lr lm:Addr) (c:List Str) (L:Nat) (me:Nat->Nat) (rw:Nat->List Nat) (refs:List V):Prop where
 hr:H lr=some (.lst refs)
 rl:refs.length=L
 at_:∀i,i<L->∃a,refs[i]? = some (.ref a)/\H a=some (.lst (List.map V.str ((rw i).map (nmA c))))/\a≠lm/\a≠lr
 hm:H lm=some (.lst (List.map V.str ((List.range L).map fun i=>nmA c (me i))))
 s:Same H0 H
 fr:H0 lr=none
 fm:H0 lm=none
 ne:lr≠lm
theorem Rws.same (h:Rws H0 H lr lm c L me rw refs) (s:Same H H'):Rws H0 H' lr lm c L me rw refs :=
 ⟨s _ _ h.hr,h.rl,fun i hi=>let ⟨a,h1,h2,h3⟩:=h.at_ i hi;⟨a,h1,s _ _ h2,h3⟩,s _ _ h.hm,h.s.trans s,h.fr,h.fm,h.ne⟩
theorem Rws.add (h:Rws H0 H lr lm c L me rw refs)
    (s:Same (upd H lm (.lst (List.map V.str ((List.range L).map fun i=>nmA c (me i))++[V.str (nmA c t)]))) H1) (ha:H a=none) (h1:H1 a=some (.lst (List.map V.str (row.map (nmA c))))) :
    Rws H0 (upd H1 lr (.lst (refs++[V.ref a]))) lr lm c (L+1) (fun i=>if i=L then t else me i) (fun i=>if i=L then row else rw i) (refs++[V.ref a]):=by
 have nam:a≠lm:=fun z=>by rw[z,h.hm] at ha;cases ha
 have nar:a≠lr:=fun z=>by rw[z,h.hr] at ha;cases ha
 refine⟨ae,by rw[Aq,h.rl];rfl,fun i hi=>?_,?_,?_,h.fr,h.fm,h.ne⟩
 ·by_cases q:i=L
  ·refine⟨a,?_,?_,nam,nar⟩
   ·rw[q,Bp (by rw[h.rl];exact Aa _),h.rl,Nat.sub_self];rfl
   ·rw[af nar,if_pos q];exact h1
  ·obtain⟨b,h2,h3,h4,h5⟩:=h.at_ i (by omega)
   refine⟨b,?_,?_,h4,h5⟩
   ·rw[A9 (by rw[h.rl];omega)];exact h2
   ·rw[af h5,if_neg q]
    exact s _ _ (by rw[af h4];exact h3)
 ·rw[af (Ne.symm h.ne),s _ _ ae,List.range_succ,Ae,Ae]
  congr 3
  ·refine congrArg _ (List.map_congr_left fun i hi=>?_)
   have:=AM.mp hi
   rw[if_neg (by omega)]
  ·show [V.str (nmA c t)]=[V.str (nmA c (if L=L then t else me L))]
   rw[if_pos rfl]
 ·intro b o hb
  have nbm:b≠lm:=fun z=>by rw[z,h.fm] at hb;cases hb
  have nbr:b≠lr:=fun z=>by rw[z,h.fr] at hb;cases hb
  rw[af nbr]
  exact s _ _ (by rw[af nbm];exact h.s _ _ hb)
theorem xw (h:(if false=true then !decide (V.str z=V.str y) else decide (V.str z=V.str y))=true):z=y:=Classical.byContradiction fun q=>by rw[if_neg (by decide),Ay (fun w=>q (V.str.inj w))] at h;cases h
theorem xL (h:¬ (if false=true then !decide (V.str z=V.str y) else decide (V.str z=V.str y))=true):z≠y:=fun q=>h (by rw[if_neg (by decide),q,Ai rfl])
theorem kY {c:List Str}(nd:c.Nodup) {i:Nat}(hi:i<c.length):c.idxOf (nmA c i)=i:=ck nd (by unfold nmA;rw[AG,Ar hi];rfl)
def kJ:Sp:=fun vs H Q _=>∃(q us ks ts ws wn:_) (kk:Str × List Str) (u v x y:_),vs=[.ref q,.str u,.str v]/\GT H q us ks ts ws wn/\kk∈ks/\u∈us/\v∈us/\aH ks u v=some (kk.1,x,y) /\
 ∀o z H',Same H H'->TieO (cW kk.2 (aL ks ts wn kk.1 kk.2)) (kk.2.idxOf x) (kk.2.idxOf y) o->TrV H' z ks ts wn kk u v o->Q z H'
theorem vR (F:Fun K "_law_ring" "_law_ring" jc f fd) (B:Blt mg) (c_law_part:Cal P w K mg base 2 "_law_part" ["_law_knots_here", "_law_one", "_law_other"] dY) (c_law_edges:Cal P w K mg base 3 "_law_edges" ["_law_house_here", "_law_knot"] mR) (c_law_step:Cal P w K mg base 3 "_law_step" ["_law_house_here", "_law_knot", "_law_one", "_law_other"] qB):FnOk P w K mg base CX0 4 f fd ["_law_house_here", "_law_one", "_law_other"] kJ := by
 refine F.ok1 ["_law_house_here","_law_one","_law_other","_law_knot","_law_child","_law_goal","_law_edges_here","_law_rows","_law_met","_law_at","_law_row","_law_steps","_law_kid"] fun nd H Q E hr h=>?_
 obtain⟨q,us,ks,ts,ws,wn,kk,u,v,x,y,rfl,G,hkk,hu,hv,hp,k⟩:=h
 have R:=G.rep
 have T:=G.tre
 have tok:=G.tok
 have WX:=G.wx
 have gtl:=G.tl
 have wok:=WnX.ok T WX
 obtain⟨hxk,hyk⟩:=cu T hkk hu hv hp
 have knd:=bo T hkk
 have kin:∀u∈kk.2,u∈us:=fun u hu=>T.isIn hkk hu
 have klen:kk.2.length<=60:=by
  have:=fX knd kin
  have:=T.len
  omega
 have ex:nmA kk.2 (kk.2.idxOf x)=x:=bK hxk
 have ey:nmA kk.2 (kk.2.idxOf y)=y:=bK hyk
 have hix:=AJ hxk
 have hiy:=AJ hyk
 refine⟨_,(aa (bU (pc c_law_part hr (ak (px K hr (pv 0) ab) (p2 (pv 1) (pv 2)))) (bI (n:=3) K rfl (aF (ai (i:=3) nd rfl (Or.inr rfl)) (aF (ai (i:=4) nd rfl (Or.inl rfl)) (aF (ai (i:=5) nd rfl (Or.inl rfl)) bz)))))
  (aa (pst 6 nd (pc c_law_edges hr (p2 (pv 0) (pv 3))))
  (aa (pst 7 nd (aS (p1 (aS (p1 (pv 5))))))
  (aa (pst 8 nd (aS (p1 (pv 5))))
  (aa (pst 9 nd ab)
  (aa (dP PassesOwn.never (ag fg (pv 9) (bh K B (p1 (pv 7))) (au _)) (aa (bV (i:=10) nd rfl (Or.inr rfl) (px K hr (pv 7) (pv 9)))
  (aa (aI (ag (br hr.units) (px K hr (pv 10) (gn fj ab)) (pv 4) (au _)) (aa (dX (i:=11) nd rfl rfl (by rfl) (aD jc) ["_law_house_here","_law_one","_law_other","_law_knot","_law_child","_law_goal","_law_edges_here","_law_rows","_law_met","_law_at","_law_row","_law_steps","_law_kid"] ["_law_k"] [0,3,10] ["_law_k","_law_house_here","_law_knot","_law_row"] rfl (dq rfl B.range (p1 (aG oN (bh K B (p1 (pv 10))) ab))) (fun _ _ _ _ _=>(ai (i:=0) (show (["_law_k","_law_house_here","_law_knot","_law_row"]:List Str).Nodup by decide) rfl (Or.inl rfl))) (fun _ _ _ _ _=>cP) (fun _ _ _ _ _=>(pc c_law_step hr (ak (pv 1) (ak (pv 2) (p2 (px K hr (pv 3) (pv 0)) (px K hr (pv 3) (aG aK (pv 0) ab))))))))
  (ac (am (aG aK (aS (p1 (aB (ak aA (p2 (pv 1) (pv 2)))))) (pv 11))))) av)
  (aa (aZ PassesOwn.never rfl (bc K (px K hr (fL K rfl hr.units B (p1 (px K hr (pv 0) ab))) (pv 3))) (ai (i:=12) nd rfl (Or.inl rfl)) (ac (aI (PW.pt (cx (ag (bL K hr.units) (aB (p2 (px K hr (pv 10) (gn fj ab)) (pv 12))) (pv 6) (by with_unfolding_all rfl)) (bY (ag (cK K hr.units) (pv 12) (pv 8) (by with_unfolding_all rfl))))) (aa (bm (cq K (pv 8) (p1 (pv 12))))
  (ac (bm (cq K (pv 7) (p1 (aG aK (pv 10) (aS (p1 (pv 12))))))))) av)))
  (ac (pst 9 nd (aG aK (pv 9) ab)))))))
  (ac (am ci)))))))),?_⟩
 obtain⟨q',a,b,c3,d4,e0,hq,R1,_⟩:=aX R
 cases e0
 refine⟨_,rfl,.tup (.of hq) rfl ⟨_,rfl,_,rfl,ao ⟨a,us,ks,u,v,rfl,R1,T,hu,hv,fun p0 H2 s2 rp0=>?_⟩⟩⟩
 rw[hp] at rp0
 obtain⟨t,rfl,ht⟩:=rp0
 refine⟨t,_,rfl,.of ht,rfl,_,_,rfl,_,_,rfl,_,_,rfl,rfl,?_⟩
 dsimp only[aQ]
 have s12:=s2
 refine⟨_,rfl,_,rfl,ao ⟨q,us,ks,ts,ws,wn,kk.1,kk.2,rfl,R.same s12,T,G.ti,fun e he=>(wok e he).2,hkk,by omega,G.wl,fun le erefs fs H3 s3 hle0 hle rpe _ ein efs=>?_⟩⟩
 have efs:∀x,x∈fs ↔ x∈aL ks ts wn kk.1 kk.2:=fun x=>(efs x).trans (dO G.words x)
 have s13:=s12.trans s3
 have ends:=cy (wn:=wn) T tok hkk
 have cay:PyData.canLayAll0 (fs.map aE)=true:=aT fun e he=>⟨T.nm _ (ein e he).1,T.nm _ (ein e he).2⟩
 have val:=ji ends
 have mn:=fun {a b:Nat}=>vT (a:=a) (b:=b) knd ends
 generalize cW kk.2 (aL ks ts wn kk.1 kk.2)=es at val mn k
 refine⟨_,rfl,(szl 1),fun l0 hl0=>?_⟩
 refine nw hl0 fun H4 s4 e4=>?_
 refine ao ⟨(szl 1),fun lr hlr=>?_⟩
 refine nw hlr fun H5 s5 e5=>?_
 have n0r:l0≠lr:=ah e4 hlr
 refine⟨_,rfl,(szl 1),fun lm hlm=>?_⟩
 refine nw hlm fun H6 s6 e6=>?_
 have n0m:l0≠lm:=ah (s5 _ _ e4) hlm
 have nrm:lr≠lm:=ah e5 hlm
 have rws0:Rws H3 H6 lr lm kk.2 1 (fun _=>kk.2.idxOf y) (fun _=>[kk.2.idxOf y]) [V.ref l0]:=by
  refine⟨s6 _ _ e5,rfl,fun i hi=>⟨l0,?_,?_,n0m,n0r⟩,?_,(s4.trans s5).trans s6,bd s4 hlr,bd (s4.trans s5) hlm,nrm⟩
  ·have:i=0:=by omega
   rw[this];rfl
  ·rw[List.map_singleton,ey]
   exact s6 _ _ (s5 _ _ e4)
  ·show H6 lm=some (.lst [V.str (nmA kk.2 (kk.2.idxOf y))])
   rw[ey];exact e6
 refine⟨fun m σ H'=>∃(p L:Nat) (me par:Nat->Nat) (ro:Nat->List Nat) (refs:List V) (o10 o11 o12:Option V),m=kk.2.length+1-p/\σ=[some (.ref q),some (.str u),some (.str v),some (.str kk.1),some (.str x),some (.str y),some (.ref le),some (.ref lr),some (.ref lm),some (.int (p:Int)),o10,o11,o12]/\p<=L/\MG.Bf es (kk.2.idxOf y) kk.2.length p 0 L me par ro/\(∀i,i<p->me i≠kk.2.idxOf x)/\Rws H3 H' lr lm kk.2 L me ro refs,
  ⟨_,0,1,_,_,_,_,none,none,none,rfl,rfl,by omega,MG.Bf.start hiy,fun i hi=>by omega,rws0⟩,?_⟩
 rintro m σ H7 ⟨p,L,me,par,ro,refs,o10,o11,o12,rfl,rfl,hpL,bf,hno,rws⟩
 have Ln:=bf.few
 refine⟨_,rfl,_,rfl,_,_,rfl,Or.inl ⟨_,.of rws.hr,rfl⟩,.int ⟨_,rfl,?_⟩⟩
 rw[rws.rl]
 refine ap (fun h=>?_) (fun h=>?_)
 ·have h:(p:Int)<((L:Nat):Int) := Ao h
  have hp1:p<L:=by omega
  refine⟨fun σ' H'=>∃(L:Nat) (me par:Nat->Nat) (ro:Nat->List Nat) (refs:List V) (o10 o11 o12:Option V),σ'=[some (.ref q),some (.str u),some (.str v),some (.str kk.1),some (.str x),some (.str y),some (.ref le),some (.ref lr),some (.ref lm),some (.int ((p+1:Nat):Int)),o10,o11,o12]/\p+1<=L/\MG.Bf es (kk.2.idxOf y) kk.2.length (p+1) 0 L me par ro/\(∀i,i<p+1->me i≠kk.2.idxOf x)/\Rws H3 H' lr lm kk.2 L me ro refs,
   fun σ' H' ⟨L,me,par,ro,refs,o10,o11,o12,h1,h2⟩=>⟨kk.2.length+1-(p+1),by omega,p+1,L,me,par,ro,refs,o10,o11,o12,rfl,h1,h2⟩,?_⟩
  obtain⟨ra,hra,hrw,nrm',nrr⟩:=rws.at_ p hp1
  obtain⟨us',hus⟩:=pG bf hp1
  have hmep:=bf.lt p hp1
  refine⟨_,rfl,_,rfl,.lst (.of rws.hr) (bJ hra) ?_⟩
  dsimp only[aQ]
  have hlast:atI (List.map V.str ((ro p).map (nmA kk.2))) (-1)=some (.str (nmA kk.2 (me p))):=by rw[hus];exact g9 _ _ _
  refine⟨_,rfl,_,rfl,.lst (.of hrw) hlast ⟨_,rfl,.sc rfl ⟨_,rfl,?_⟩⟩⟩
  refine ap (fun hc=>?_) (fun hc=>?_)
  ·have hx := xw hc
   have hm:me p=kk.2.idxOf x:=by rw[<- hx];exact(kY knd hmep).symm
   obtain⟨k1,to1,wy1⟩:=bf.told hp1
   rw[hm] at to1 wy1
   obtain⟨hwl,hwn⟩:=hX val hix to1 wy1
   have k:=k (some (ro p)) |> fun k z H' s r=>k z H' s ⟨k1,to1,wy1⟩ r
   have hrn:∀z∈(ro p).map (nmA kk.2),Nm z:=fun z hz=>by
    obtain⟨i,hi,rfl⟩:=Ag.mp hz
    exact T.nm _ (kin _ (fW (hwn i hi)))
   have k:=fun (z:V) (H':Hp) (s0:Same H H') (r:∃(l:Addr) (refs:List V),z=V.ref l/\H' l=some (.lst refs)/\RepAll H' refs (t3D ((("tie":Str),u,v):T3)::ky ks ts wn kk.1 ((ro p).map (nmA kk.2))))=>k z H' s0 r
   have rowl:((ro p).map (nmA kk.2)).length<=60:=by rw[z0];omega
   unfold ky at k
   generalize (ro p).map (nmA kk.2)=row at hrw hrn k rowl
   have mlr:(List.map V.str row).length=row.length:=z0 ..
   refine⟨_,rfl,_,_,rfl,Or.inl ⟨_,.of hrw,rfl⟩,_,_,rfl,rfl,?_⟩
   refine ao ⟨_,rfl,by rw[mlr];omega,by rw[mlr];omega,?_⟩
   have zlen:(row.zip (row.drop 1)).length=row.length-1:=by rw[A3,AY];omega
   have s37:=rws.s
   have hn:(((row.length:Nat):Int)-1).toNat=row.length-1:=by omega
   refine hG (fun D i acc σ' H'=>∃o,σ'=[o,some (.ref q),some (.str kk.1),some (.ref ra)]/\RepAll H' acc (((row.zip (row.drop 1)).take i).map fun e=>t3D (fc ks ts wn (kk.1,e.1,e.2)))/\Same H7 H'/\H7 D=none) fun D hD=>⟨?_,?_,?_⟩
   ·exact⟨none,rfl,.nil,Same.new hD,hD⟩
   ·rintro i acc σ' H8 hi ⟨o,rfl,rp8,s8,hD0⟩ hacc
    rw[mlr,hn] at hi
    refine iL ?_
    have hu1:row[i]? = some (row.getD i ""):=by rw[AG,Ar (by omega)];rfl
    have hu2:(row.drop 1)[i]? = some (row.getD (i+1) ""):=by rw[BR,Nat.add_comm,AG,Ar (by omega)];rfl
    have hz:(row.zip (row.drop 1))[i]? = some (row.getD i "",row.getD (i+1) ""):=by rw[AT];exact⟨hu1,hu2⟩
    have kt:Kt (kk.1,row.getD i "",row.getD (i+1) ""):=⟨pZ T hkk,hrn _ (fW (by omega)),hrn _ (fW (by omega))⟩
    have a1:atI (List.map V.str row) (0+(i:Nat):Int)=some (.str (row.getD i "")):=by rw[Int.zero_add];exact iF (by omega)
    have a2:atI (List.map V.str row) ((0+(i:Nat):Int)+1)=some (.str (row.getD (i+1) "")):=by
     rw[show ((0+(i:Nat):Int)+1)=((i+1:Nat):Int) by omega]
     exact iF (by omega)
    refine⟨_,rfl,_,rfl,_,rfl,_,rfl,.lst (.of (s8 _ _ hrw)) a1 ⟨_,rfl,_,rfl,.int (.lst (.of (s8 _ _ hrw)) a2 (ao ?_))⟩⟩
    refine⟨q,us,ks,ts,ws,wn,(kk.1,row.getD i "",row.getD (i+1) ""),rfl,R.same ((s13.trans s37).trans s8),T,wok,tok,kt,fun x9 H9 s9 r9=>?_⟩
    have hacc9:=s9 _ _ hacc
    have al:=rp8.len
    rw[z0,As] at al
    refine⟨hacc9,aj (by omega),_,rfl,?_,aW (s8.trans s9) hD0,hD0⟩
    rw[Am,hz,Ae]
    exact RepAll.append (aO (gc hacc9 But.upd) (rp8.same s9)) (.cons (gc hacc9 But.upd r9) .nil)
   ·rintro acc σ' H8 ⟨o,rfl,rp8,s8,hD0⟩ hacc
    rw[mlr,hn,<- zlen,Ak (Aa _)] at rp8
    have al:=rp8.len
    rw[z0,zlen] at al
    have s38:=s37.trans s8
    dsimp only[aQ]
    refine⟨_,rfl,_,rfl,(szl 3),fun t1 ht1=>?_⟩
    have s9:=Same.new (o:=.tup [V.str "tie",V.str u,V.str v]) ht1
    have r9:Rep (upd H8 t1 (.tup [V.str "tie",V.str u,V.str v])) (.ref t1) (t3D (((("tie":Str),u,v):T3))):=dL ae
    have hacc9:=s9 _ _ hacc
    have rp9:=rp8.same s9
    have s39:=s38.trans s9
    generalize upd H8 t1 (.tup [V.str "tie",V.str u,V.str v])=H9 at r9 hacc9 rp9 s39 ⊢
    refine ao ⟨(szl 1),fun l1 hl1=>?_⟩
    have s10:=Same.new (o:=.lst [V.ref t1]) hl1
    refine⟨_,rfl,.lst ae (s10 _ _ hacc9) ?_ fun pp hpp=>?_⟩
    ·rw[al]
     show 1+(row.length-1)<=sizeLine
     exact AW (aj (by omega))
    ·have s11:=Same.new (o:=.lst ([V.ref t1]++acc)) hpp
     exact k (.ref pp) _ (((s13.trans s39).trans s10).trans s11) ⟨pp,_,rfl,ae,.cons ((r9.same s10).same s11) ((rp9.same s10).same s11)⟩
  ·have hx := xL hc
   have hm:me p≠kk.2.idxOf x:=fun z=>hx (by rw[z];exact ex)
   have s17:=s13.trans rws.s
   refine⟨_,rfl,.tup (.of (s17 _ _ hq)) rfl (ao (dw (R1.same s17) T fun D dk hD hdk=>?_))⟩
   obtain⟨la,hva,hla⟩:=hdk kk hkk
   have s8:=Same.new (o:=.dK dk) hD
   refine⟨_,rfl,.dic (.inl ⟨dk,.inr kk.1,.inl ae,rfl,hva.symm⟩) ?_⟩
   have hla8:=s8 _ _ hla
   have rws8:=rws.same s8
   generalize upd H7 D (.dK dk)=H8 at hla8 rws8 ⊢
   refine⟨la,rfl,⟨_,.of hla8⟩,?_⟩
   refine cC (xs:=List.map V.str kk.2) (fun j σ H'=>∃(L:Nat) (me par:Nat->Nat) (ro:Nat->List Nat) (refs:List V) (o11 o12:Option V),σ=[some (.ref q),some (.str u),some (.str v),some (.str kk.1),some (.str x),some (.str y),some (.ref le),some (.ref lr),some (.ref lm),some (.int (p:Int)),some (.ref ra),o11,o12]/\p<L/\MG.Bf es (kk.2.idxOf y) kk.2.length p j L me par ro/\(∀i,i<p+1->me i≠kk.2.idxOf x)/\refs[p]? = some (.ref ra)/\Rws H3 H' lr lm kk.2 L me ro refs/\H' la=some (.tup (List.map V.str kk.2))) ?_ ?_ ?_ ?_
   ·exact⟨L,me,par,ro,refs,o11,o12,rfl,hp1,bf,fun i hi=>by
       by_cases z:i=p
       ·rw[z];exact hm
       ·exact hno i (by omega),hra,rws8,hla8⟩
   ·rintro j σ H' hj ⟨_,_,_,_,_,_,_,rfl,_,_,_,_,_,hla'⟩
    exact .of hla'
   ·rintro j z σ H9 hz ⟨L, me, par, ro, refs, o11, o12, rfl, hp1, bf, hno, hra, rws, hla9⟩
    obtain⟨ch,hch,rfl⟩:=bp hz
    have hj:=(Ac.mp hch).1
    have ech:nmA kk.2 j=ch:=by unfold nmA;rw[AG,hch];rfl
    have hcin:=kin ch (Ad hch)
    have hmep:=bf.lt p hp1
    have hmin:=kin _ (fW hmep)
    have Ln:=bf.few
    obtain⟨ra',hra',hrw,nrm',nrr⟩:=rws.at_ p hp1
    rw[hra] at hra'
    cases hra'
    obtain⟨us',hus⟩:=pG bf hp1
    have hlast:atI (List.map V.str ((ro p).map (nmA kk.2))) (-1)=some (.str (nmA kk.2 (me p))):=by rw[hus];exact g9 _ _ _
    dsimp only[aQ]
    refine⟨_,rfl,_,rfl,.lst (.of hrw) hlast ⟨_,rfl,(szl 2),fun tt htt=>?_⟩⟩
    refine nw htt fun H10 st et=>?_
    have rws:=rws.same st
    have hla10:=st _ _ hla9
    have hrw:=st _ _ hrw
    refine⟨_,rfl,.tr (d:=aE (nmA kk.2 (me p),ch)) (rws.s _ _ hle) (rpe.same rws.s) (aM et) cay (em (e:=(nmA kk.2 (me p),ch)) ⟨T.nm _ hmin,T.nm _ hcin⟩) (by show 1<=16;decide) ⟨_,rfl,?_⟩⟩
    rw[if_neg (show ¬ false=true by decide),dR]
    have mj:=mn hmep hj
    rw[ech,<- efs] at mj
    refine ap (fun hc=>?_) (fun hc=>?_)
    ·have hc1 := mj.mpr (Ao hc)
     refine⟨_,rfl,_,rfl,.seq (.inl (.of rws.hm)) rfl (cg _) ⟨_,rfl,?_⟩⟩
     rw[dU]
     refine ap (fun hn=>?_) (fun hn=>?_)
     ·have hn:ch ∉ (List.range L).map fun i => nmA kk.2 (me i) := by simpa using hn
      have hnj:∀i,i<L->me i≠j:=fun i hi e=>hn (Ag.mpr ⟨i,AM.mpr hi,by rw[e];exact ech⟩)
      have ml:(List.map V.str ((List.range L).map fun i=>nmA kk.2 (me i))).length=L:=by simp
      refine⟨_,rfl,.inl ⟨rfl,_,.of rws.hm⟩,_,rfl,lm,_,_,rfl,rfl,rws.hm,by rw[ml];exact aj (by omega),?_⟩
      have hr11:upd H10 lm (.lst (List.map V.str ((List.range L).map fun i=>nmA kk.2 (me i))++[V.str ch])) lr=some (.lst refs):=by rw[af rws.ne];exact rws.hr
      have hrw11:upd H10 lm (.lst (List.map V.str ((List.range L).map fun i=>nmA kk.2 (me i))++[V.str ch])) ra=some (.lst (List.map V.str ((ro p).map (nmA kk.2)))):=by rw[af nrm'];exact hrw
      refine⟨_,rfl,.inl ⟨rfl,_,.of hr11⟩,_,rfl,_,rfl,(szl 1),fun l1 hl1=>?_⟩
      subst ech
      have s12:=Same.new (o:=.lst [V.str (nmA kk.2 j)]) hl1
      have l2l:(List.map V.str ((ro p).map (nmA kk.2))).length<=1000:=by
       obtain⟨k1,to1,wy1⟩:=bf.told hp1
       have:=(hX val hmep to1 wy1).1
       rw[z0,z0];omega
      refine .lst (s12 _ _ hrw11) ae ?_ fun l2 hl2=>?_
      ·show _+1<=sizeLine
       exact aj l2l
      ·have s13:=Same.new (o:=.lst (List.map V.str ((ro p).map (nmA kk.2))++[V.str (nmA kk.2 j)])) hl2
       have hm2:=bd s12 hl2
       have n2m:l2≠lm:=fun z=>by rw[z,ae] at hm2;cases hm2
       rw[af n2m] at hm2
       refine ao ⟨lr,_,_,rfl,rfl,s13 _ _ (s12 _ _ hr11),by rw[rws.rl];exact aj (by omega),?_⟩
       have nlm:la≠lm:=ba hla10 rws.hm (by intro z;cases z)
       have nlr:la≠lr:=ba hla10 rws.hr (by intro z;cases z)
       refine⟨L+1,_,_,_,refs++[V.ref l2],_,_,rfl,by omega,bf.add hp1 hc1 hnj hj,fun i hi=>?_,?_,rws.add (t:=j) (row:=ro p++[j]) (s12.trans s13) hm2 ?_,?_⟩
       ·rw[if_neg (by omega)];exact hno i hi
       ·rw[A9 (by rw[rws.rl];omega)];exact hra
       ·rw[ae,Ae,Ae];rfl
       ·rw[af nlr]
        exact s13 _ _ (s12 _ _ (by rw[af nlm];exact hla10))
     ·have hn:∃i,i<L/\me i=j:=by
         have hn:ch∈(List.range L).map fun i=>nmA kk.2 (me i):=Classical.byContradiction fun z=>hn (by simpa using z)
         obtain⟨i,hi,e⟩:=Ag.mp hn
         have hi:=AM.mp hi
         refine⟨i,hi,?_⟩
         have e:nmA kk.2 (me i)=nmA kk.2 j:=e.trans ech.symm
         rw[<- kY knd (bf.lt i hi),e,kY knd hj]
      exact⟨L,me,par,ro,refs,_,_,rfl,hp1,bf.skip (.inr hn),hno,hra,rws,hla10⟩
    ·have hc:(me p,j)∉es:=fun z=>hc (Ai (mj.mp z))
     refine dH ?_
     exact⟨L,me,par,ro,refs,_,_,rfl,hp1,bf.skip (.inl hc),hno,hra,rws,hla10⟩
   ·rintro σ H9 ⟨L,me,par,ro,refs,o11,o12,rfl,hp1,bf,hno,hra,rws,hla9⟩
    rw[z0] at bf
    refine⟨_,rfl,.int ?_⟩
    exact⟨L,me,par,ro,refs,_,_,_,rfl,hp1,bf.next val,hno,rws⟩
 ·have h:¬ (p:Int)<((L:Nat):Int):=fun z=>h (Ai z)
  have e:p=L:=by omega
  refine k none .non H7 (s13.trans rws.s) (bf.shut e fun i hi=>hno i (by omega)) rfl
theorem u0 (h:MG.Rch (Tie ts) a b):MG.Rch (Tie (aY ts)) b a:=MG.Rch.closed (S:=fun z=>MG.Rch (Tie (aY ts)) z a) MG.Rch.refl (fun y z hy r=>gj (MG.Rch.refl.step (show Tie (aY ts) z y from mem_flip.mpr r)) hy) h
theorem oP {os:List Str}{i j:Nat}(h:i<j):(os.take (i+1)).drop j=[]:=A7 (by rw[As];omega)
def qq:Sp:=fun vs H Q _=>∃(q us ks:_) (ts ws wn:Prs) (kk:Str × List Str) (u v x y:_),vs=[.ref q,.str u,.str v]/\GT H q us ks ts ws wn/\kk∈ks/\u∈us/\v∈us/\aH ks u v=some (kk.1,x,y)/\¬ MG.Rch (Tie (aL ks ts wn kk.1 kk.2)) y x /\
 ∀q' H',Same H H'->Rep H' (.ref q') (aJ (jh ks ts wn kk x y) (ts++[(u,v)]) (ws.filter fun e=>decide (e≠(u,v))) wn)->Q (.ref q') H'
theorem vz (F:Fun K "_law_laid" "_law_laid" iU f fd) (B:Blt mg) (Zz:mg "zip"=none) (c_law_part:Cal P w K mg base 2 "_law_part" ["_law_knots_here","_law_one","_law_other"] dY) (c_law_edges:Cal P w K mg base 3 "_law_edges" ["_law_house_here","_law_knot"] mR) (c_law_reached:Cal P w K mg base 1 "_law_reached" ["_law_edges_here","_law_one"] jy) (c_law_with:Cal P w K mg base 1 "_law_with" ["_law_house_here","_law_knot","_law_order"] pT):FnOk P w K mg base CX0 4 f fd ["_law_house_here","_law_one","_law_other"] qq:=by
 refine F.ok1 ["_law_house_here","_law_one","_law_other","_law_knot","_law_child","_law_goal","_law_kids","_law_region","_law_edges_here","_law_ups","_law_downs","_law_places","_law_place","_law_kid","_law_waiting"] fun nd H Q E hr h=>?_
 obtain⟨q,us,ks,ts,ws,wn,kk,u,v,x,y,rfl,G,hkk,hu,hv,hp,nrr,k⟩:=h
 have R:=G.rep
 have T:=G.tre
 have tl:=G.tl
 have few:=T.few
 have wok:=WnX.ok T G.wx
 obtain⟨m1,m2⟩:=cu T hkk hu hv hp
 have knd:=bo T hkk
 have klen:=qg T hkk
 have inn:=cy (wn:=wn) T G.tok hkk
 have i1:=AJ m1
 have i2:=AJ m2
 have nr:¬ eG kk.2 (aL ks ts wn kk.1 kk.2) x y:=fun z=>nrr z.2
 have and_:=iE knd nr
 have sub:=gK (os:=kk.2) (ts:=aL ks ts wn kk.1 kk.2) (one:=x) (other:=y)
 obtain⟨z1,a1,a2,a3⟩:=ng knd m1
 obtain⟨z2,c1,c2,c3⟩:=ng knd m2
 refine⟨_,(aa (bU (pc c_law_part hr (ak (px K hr (pv 0) ab) (p2 (pv 1) (pv 2)))) (bI (n:=3) K rfl (aF (ai (i:=3) nd rfl (Or.inl rfl)) (aF (ai (i:=4) nd rfl (Or.inr rfl)) (aF (ai (i:=5) nd rfl (Or.inr rfl)) bz)))))
  (aa (bV (i:=6) nd rfl (Or.inr rfl) (iK K rfl B (p1 (px K hr (fL K rfl hr.units B (p1 (px K hr (pv 0) ab))) (pv 3)))))
  (aa (pst 7 nd (bO (iP K) (pv 6) (bQ (pN K (pv 6) (p1 (pv 5)))) (bQ (aG aK (pN K (pv 6) (p1 (pv 4))) ab))))
  (aa (bV (i:=8) nd rfl (Or.inr rfl) (pc c_law_edges hr (p2 (pv 0) (pv 3))))
  (aa (bV (i:=9) nd rfl (Or.inr rfl) (bj (aD iU) ["_law_house_here","_law_one","_law_other","_law_knot","_law_child","_law_goal","_law_kids","_law_region","_law_edges_here","_law_ups","_law_downs","_law_places","_law_place","_law_kid","_law_waiting"] ["_law_kid"] [8,5] ["_law_kid","_law_edges_here","_law_goal"] rfl (be K (pv 7)) (fun _ _ _ _ _=>(ai (i:=0) (show (["_law_kid","_law_edges_here","_law_goal"]:List Str).Nodup by decide) rfl (Or.inl rfl))) (fun _ _ _ _ _=>(bv (ag (bL K hr.units) (pv 0) (pc c_law_reached hr (p2 (pv 1) (pv 2))) (by with_unfolding_all rfl)))) (fun _ _ _ _ _=>(pv 0))))
  (aa (bV (i:=10) nd rfl (Or.inr rfl) (bj (aD iU) ["_law_house_here","_law_one","_law_other","_law_knot","_law_child","_law_goal","_law_kids","_law_region","_law_edges_here","_law_ups","_law_downs","_law_places","_law_place","_law_kid","_law_waiting"] ["_law_kid"] [4,8] ["_law_kid","_law_child","_law_edges_here"] rfl (be K (pv 7)) (fun _ _ _ _ _=>(ai (i:=0) (show (["_law_kid","_law_child","_law_edges_here"]:List Str).Nodup by decide) rfl (Or.inl rfl))) (fun _ _ _ _ _=>(bv (ag (bL K hr.units) (pv 1) (pc c_law_reached hr (p2 (pv 2) (pv 0))) (by with_unfolding_all rfl)))) (fun _ _ _ _ _=>(pv 0))))
  (aa (dX (i:=11) nd rfl rfl (by rfl) (aD iU) ["_law_house_here","_law_one","_law_other","_law_knot","_law_child","_law_goal","_law_kids","_law_region","_law_edges_here","_law_ups","_law_downs","_law_places","_law_place","_law_kid","_law_waiting"] ["_law_k"] [6,9,10] ["_law_k","_law_kids","_law_ups","_law_downs"] rfl (dq rfl B.range (p1 (bh K B (p1 (pv 6))))) (fun _ _ _ _ _=>(ai (i:=0) (show (["_law_k","_law_kids","_law_ups","_law_downs"]:List Str).Nodup by decide) rfl (Or.inl rfl))) (fun _ _ _ _ _=>(bv (ag (bL K hr.units) (px K hr (pv 1) (pv 0)) (aG aK (pv 2) (pv 3)) (by with_unfolding_all rfl)))) (fun _ _ _ _ _=>(pv 0)))
  (aa (aZ PassesOwn.never rfl (xC K rfl Zz (p2 (pv 11) (aG aK (pv 10) (pv 9)))) (bI (n:=2) K rfl (aF (ai (i:=12) nd rfl (Or.inl rfl)) (aF (ai (i:=13) nd rfl (Or.inl rfl)) bz))) (ac (bU (pv 13) (cO (pv 6) (pv 12) (du hr.units)))))
  (aa (pst 0 nd (pc c_law_with hr (ak (pv 0) (p2 (pv 3) (pv 6)))))
  (aa (pst 14 nd (cm K B (p1 (bj (aD iU) ["_law_house_here","_law_one","_law_other","_law_knot","_law_child","_law_goal","_law_kids","_law_region","_law_edges_here","_law_ups","_law_downs","_law_places","_law_place","_law_kid","_law_waiting"] ["_law_tie"] [1,2] ["_law_tie","_law_one","_law_other"] rfl (bc K (px K hr (pv 0) ab)) (fun _ _ _ _ _=>(ai (i:=0) (show (["_law_tie","_law_one","_law_other"]:List Str).Nodup by decide) rfl (Or.inl rfl))) (fun _ _ _ _ _=>(bv (ag (cE hr.units) (pv 0) (aB (p2 (pv 1) (pv 2))) (au _)))) (fun _ _ _ _ _=>(pv 0))))))
  (ac (am (aB (ak (px K hr (pv 0) ab) (ak (aG dm (px K hr (pv 0) ab) (aB (p1 (aB (p2 (pv 1) (pv 2)))))) (p2 (pv 14) (px K hr (pv 0) ab))))))))))))))))),?_⟩
 obtain⟨q',a,b,c3',d4,e0,hq,R1,R2,R3,R4⟩:=aX R
 cases e0
 refine⟨_,rfl,.tup (.of hq) rfl ⟨_,rfl,_,rfl,ao ⟨a,us,ks,u,v,rfl,R1,T,hu,hv,fun p0 H1 s1 rp0=>?_⟩⟩⟩
 rw[hp] at rp0
 obtain⟨t,rfl,ht⟩:=rp0
 refine⟨t,_,rfl,.of ht,rfl,_,_,rfl,_,_,rfl,_,_,rfl,rfl,?_⟩
 dsimp only[aQ]
 refine⟨_,rfl,.tup (.of (s1 _ _ hq)) rfl (ao (dw (R1.same s1) T fun D dk hD hdk=>?_))⟩
 obtain⟨la,hva,hla⟩:=hdk kk hkk
 have s2:=Same.new (o:=.dK dk) hD
 refine⟨_,rfl,.dic (.inl ⟨dk,.inr kk.1,.inl ae,rfl,hva.symm⟩) ?_⟩
 have hla2:=s2 _ _ hla
 have s12:=s1.trans s2
 generalize upd H1 D (.dK dk)=H2 at hla2 s2 s12 ⊢
 refine ao ⟨_,rfl,.seq (.inr (.of hla2)) fun lk hlk=>?_⟩
 refine nw hlk fun H3 s3 e3=>?_
 have hlk0:H lk=none:=bd s12 hlk
 have s13:=s12.trans s3
 dsimp only[aQ]
 refine⟨_,rfl,_,rfl,.inl ⟨rfl,_,.of e3⟩,_,rfl,lk,_,_,_,z2,rfl,rfl,e3,rfl,cg _,c1,c2,c3,_,rfl,_,rfl,.inl ⟨rfl,_,.of e3⟩,_,rfl,lk,_,_,_,z1,rfl,rfl,e3,rfl,cg _,a1,a2,a3,.int ⟨_,rfl,.lst (.of e3) fun ls hls=>?_⟩⟩
 obtain⟨bt,hbt⟩:∃bt,bt=(kk.2.take (kk.2.idxOf x+1)).drop (kk.2.idxOf y):=⟨_,rfl⟩
 have ecut:cL (List.map V.str kk.2) (some ((kk.2.idxOf y:Nat):Int)) (some (((kk.2.idxOf x:Nat):Int)+1))=List.map V.str bt:=by
  rw[show ((kk.2.idxOf x:Nat):Int)+1=((kk.2.idxOf x+1:Nat):Int) by omega,oq _ _ _ (by rw[z0];omega),hbt,List.map_drop,BI]
 rw[ecut]
 refine nw hls fun H4 s4 e4=>?_
 have nlk:lk≠ls:=ah e3 hls
 have e34:=s4 _ _ e3
 have s14:=s13.trans s4
 have btl:bt.length<=60:=by rw[hbt,AY,As];omega
 have btin:∀z∈bt,z∈kk.2:=fun z hz=>by rw[hbt] at hz;exact Bd (Be hz)
 refine⟨_,rfl,_,rfl,ao ⟨q,us,ks,ts,ws,wn,kk.1,kk.2,rfl,R.same s14,T,G.ti,fun e he=>(wok e he).2,hkk,by omega,G.wl,fun le erefs fs H5 s5 _ hle rpe _ ein efs=>?_⟩⟩
 have efs:∀x,x∈fs ↔ x∈aL ks ts wn kk.1 kk.2:=fun x=>(efs x).trans (dO G.words x)
 have fin:∀e∈fs,e.1∈kk.2/\e.2∈kk.2:=fun e he=>inn e ((efs e).mp he)
 have rch:∀ {a b:Str},MG.Rch (Tie fs) a b ↔ MG.Rch (Tie (aL ks ts wn kk.1 kk.2)) a b:=fun {a b}=>⟨iV fun x hx=>(efs x).mp hx,iV fun x hx=>(efs x).mpr hx⟩
 have s15:=s14.trans s5
 have e45:=s5 _ _ e4
 dsimp only[aQ]
 unfold jh at k
 generalize aL ks ts wn kk.1 kk.2=es at rch nr and_ sub k
 refine⟨_,rfl,ls,rfl,⟨_,.of e45⟩,?_⟩
 refine bR (List.map V.str bt) (fun D i acc σ' H'=>∃o,σ'=[o,some (.ref le),some (.str y)]/\acc=List.map V.str ((bt.take i).filter fun z=>rB es y z)/\Same H5 H'/\H5 D=none) fun Du hDu=>⟨?_,?_,?_,?_⟩
 ·exact⟨none,rfl,rfl,Same.new hDu,hDu⟩
 ·rintro i acc σ' H' _ ⟨o,rfl,_,sm,_⟩ _
  exact .of (sm _ _ e45)
 ·rintro i acc σ' H' x' hx ⟨o,rfl,rfl,sm,hD0⟩ hacc
  obtain⟨z,hz,rfl⟩:=bp hx
  have hil:=(Ac.mp hz).1
  have fl:=AH (fun z=>rB es y z) (bt.take i)
  rw[As] at fl
  refine⟨_,rfl,_,rfl,_,rfl,ao ⟨le,erefs,kk.2,fs,y,rfl,sm _ _ hle,rpe.same sm,fin,m2,klen,fun lr seen H6 s6 _ hlr hseen _=>?_⟩⟩
  have hacc6:=s6 _ _ hacc
  refine .seq (.inl (.of hlr)) rfl (cg _) ⟨_,rfl,?_⟩
  rw[dU]
  refine ap (fun h=>?_) (fun h=>?_)
  ·have h:decide (z∈seen)=true:=h
   have h:rB es y z=true:=rB_iff.mpr (rch.mp ((hseen z).mp (Ao h)))
   exact⟨_,rfl,hacc6,by rw[z0];exact aj (by omega),_,rfl,by rw[cQ _ _ _ _ hz,if_pos h,Ae];rfl,aW (sm.trans s6) hD0,hD0⟩
  ·have h:¬ decide (z∈seen)=true:=h
   have h:¬ rB es y z=true:=fun w=>h (Ai ((hseen z).mpr (rch.mpr (rB_iff.mp w))))
   exact⟨hacc6,_,rfl,by rw[cQ _ _ _ _ hz,if_neg h,AK],sm.trans s6,hD0⟩
 rintro acc σ' H6 ⟨o,rfl,rfl,s6,hDu0⟩ hU
 rw[z0,Ak (Aa _)] at hU
 have eF:(bt.filter fun z=>rB es y z)=bx kk.2 es x y:=by
  unfold bx
  by_cases hlt:kk.2.idxOf x<kk.2.idxOf y
  ·rw[if_pos hlt,hbt,oP hlt];rfl
  ·rw[if_neg hlt,<- hbt]
 rw[eF] at hU
 have e46:=s6 _ _ e45
 have hle6:=s6 _ _ hle
 have rpe6:=rpe.same s6
 dsimp only[aQ]
 refine⟨_,rfl,ls,rfl,⟨_,.of e46⟩,?_⟩
 refine bR (List.map V.str bt) (fun D i acc σ' H'=>∃o,σ'=[o,some (.str x),some (.ref le)]/\acc=List.map V.str ((bt.take i).filter fun z=>rB (aY es) x z)/\Same H6 H'/\H6 D=none) fun Dd hDd=>⟨?_,?_,?_,?_⟩
 ·exact⟨none,rfl,rfl,Same.new hDd,hDd⟩
 ·rintro i acc σ' H' _ ⟨o,rfl,_,sm,_⟩ _
  exact .of (sm _ _ e46)
 ·rintro i acc σ' H' x' hx ⟨o,rfl,rfl,sm,hD0⟩ hacc
  obtain⟨z,hz,rfl⟩:=bp hx
  have hil:=(Ac.mp hz).1
  have fl:=AH (fun z=>rB (aY es) x z) (bt.take i)
  rw[As] at fl
  refine⟨_,rfl,_,rfl,_,rfl,ao ⟨le,erefs,kk.2,fs,z,rfl,sm _ _ hle6,rpe6.same sm,fin,btin z (Ad hz),klen,fun lr seen H7 s7 _ hlr hseen _=>?_⟩⟩
  have hacc7:=s7 _ _ hacc
  refine .seq (.inl (.of hlr)) rfl (cg _) ⟨_,rfl,?_⟩
  rw[dU]
  refine ap (fun h=>?_) (fun h=>?_)
  ·have h:decide (x∈seen)=true:=h
   have h:rB (aY es) x z=true:=rB_iff.mpr (u0 (rch.mp ((hseen x).mp (Ao h))))
   exact⟨_,rfl,hacc7,by rw[z0];exact aj (by omega),_,rfl,by rw[cQ _ _ _ _ hz,if_pos h,Ae];rfl,aW (sm.trans s7) hD0,hD0⟩
  ·have h:¬ decide (x∈seen)=true:=h
   have h:¬ rB (aY es) x z=true:=fun w=>h (Ai ((hseen x).mpr (rch.mpr (jn (rB_iff.mp w)))))
   exact⟨hacc7,_,rfl,by rw[cQ _ _ _ _ hz,if_neg h,AK],sm.trans s7,hD0⟩
 rintro acc σ' H7 ⟨o,rfl,rfl,s7,hDd0⟩ hDn
 rw[z0,Ak (Aa _)] at hDn
 have eB:(bt.filter fun z=>rB (aY es) x z)=dueB kk.2 es x y:=by
  unfold dueB
  by_cases hlt:kk.2.idxOf x<kk.2.idxOf y
  ·rw[if_pos hlt,hbt,oP hlt];rfl
  ·rw[if_neg hlt,<- hbt]
 rw[eB] at hDn
 have hU7:=s7 _ _ hU
 have hlk7:=((s4.trans s5).trans (s6.trans s7)) _ _ e3
 have s17:=(s15.trans s6).trans s7
 dsimp only[aQ]
 have al:(dueB kk.2 es x y++bx kk.2 es x y).length<=kk.2.length:=and_.length_le_of_subset sub
 have al2:=al
 rw[Aq] at al2
 have memC:∀z,z∈bx kk.2 es x y++dueB kk.2 es x y ↔ z∈dueB kk.2 es x y++bx kk.2 es x y:=fun z=>by rw[Aj,Aj];exact or_comm
 refine⟨_,rfl,_,_,rfl,Or.inl ⟨_,.of hlk7,rfl⟩,?_⟩
 rw[z0]
 refine⟨_,rfl,by omega,by omega,?_⟩
 refine hG (fun D i acc σ' H'=>∃o,σ'=[o,some (.ref lk),some (.ref Du),some (.ref Dd)]/\acc=cR ((List.range i).filter fun k=>decide (kk.2.getD k ""∈dueB kk.2 es x y++bx kk.2 es x y))/\Same H7 H'/\H7 D=none) fun Dp hDp=>⟨?_,?_,?_⟩
 ·exact⟨none,rfl,rfl,Same.new hDp,hDp⟩
 ·rintro i acc σ' H' hi ⟨o,rfl,rfl,sm,hD0⟩ hacc
  have hi:i<kk.2.length:=by simpa using hi
  have fl:=AH (fun k=>decide (kk.2.getD k ""∈dueB kk.2 es x y++bx kk.2 es x y)) (List.range i)
  rw[BO] at fl
  have step:=vH (fun k=>decide (kk.2.getD k ""∈dueB kk.2 es x y++bx kk.2 es x y)) i
  refine⟨_,rfl,_,rfl,.lst (.of (sm _ _ hlk7)) (show atI _ (0+(i:Nat):Int)=some (.str (kk.2.getD i "")) from by rw[Int.zero_add];exact iF hi) ⟨_,rfl,_,rfl,.lst (sm _ _ hU7) (sm _ _ hDn) (by rw[z0,z0];exact AW (aj (by omega))) fun lz hlz=>?_⟩⟩
  rw[<- Ae]
  have sz:=Same.new (o:=.lst (List.map V.str (bx kk.2 es x y++dueB kk.2 es x y))) hlz
  have haccz:=sz _ _ hacc
  refine .seq (.inl (.of ae)) rfl (cg _) ⟨_,rfl,?_⟩
  rw[dU]
  refine ap (fun h=>?_) (fun h=>?_)
  ·have h:decide (kk.2.getD i ""∈bx kk.2 es x y++dueB kk.2 es x y)=true:=h
   have h:decide (kk.2.getD i ""∈dueB kk.2 es x y++bx kk.2 es x y)=true:=Ai ((memC _).mp (Ao h))
   refine⟨_,rfl,haccz,by unfold cR;rw[z0];exact aj (by omega),_,rfl,?_,aW (sm.trans sz) hD0,hD0⟩
   rw[step,if_pos h];unfold cR;rw[Ae]
   show _++[V.int (0+(i:Nat):Int)]=_
   rw[Int.zero_add];rfl
  ·have h:¬ decide (kk.2.getD i ""∈bx kk.2 es x y++dueB kk.2 es x y)=true:=h
   have h:¬ decide (kk.2.getD i ""∈dueB kk.2 es x y++bx kk.2 es x y)=true:=fun w=>h (Ai ((memC _).mpr (Ao w)))
   exact⟨haccz,_,rfl,by rw[step,if_neg h,AK],sm.trans sz,hD0⟩
 rintro acc σ' H8 ⟨o,rfl,rfl,s8,hDp0⟩ hacc
 obtain⟨C,eC⟩:∃C,C=dueB kk.2 es x y++bx kk.2 es x y:=⟨_,rfl⟩
 have hpl:H8 Dp=some (.lst (cR (plc kk.2 C))):=by rw[eC];unfold plc;simpa using hacc
 have hU8:=s8 _ _ hU7
 have hDn8:=s8 _ _ hDn
 have hlk8:=s8 _ _ hlk7
 have s18:=s17.trans s8
 dsimp only[aQ]
 refine⟨_,rfl,_,rfl,_,rfl,.lst hDn8 hU8 (by rw[z0,z0];exact AW (aj (by omega))) fun lc hlc=>?_⟩
 rw[<- Ae,<- eC]
 refine nw hlc fun H9 s9 hlc9=>?_
 have hlk9:=s9 _ _ hlk8
 have hpl9:=s9 _ _ hpl
 have nlc:lc≠lk:=fun z=>by rw[z,hlk8] at hlc;cases hlc
 have npl:Dp≠lk:=fun z=>by rw[z,hlk7] at hDp;cases hDp
 have s19:=s18.trans s9
 rw[<- eC] at and_ sub al
 have zl:((cR (plc kk.2 C)).zip (List.map V.str C))=((plc kk.2 C).zip C).map fun p=>(V.int ((p.1:Nat):Int),V.str p.2):=by
  unfold cR
  rw[List.zip_map];rfl
 refine ao ⟨Dp,lc,_,_,rfl,.of hpl9,.of hlc9,?_⟩
 refine pJ (xs:=cR (plc kk.2 C)) (ys:=List.map V.str C) (fun i σ H'=>∃o12 o13,σ=[some (.ref q),some (.str u),some (.str v),some (.str kk.1),some (.str x),some (.str y),some (.ref lk),some (.ref ls),some (.ref le),some (.ref Du),some (.ref Dd),some (.ref Dp),o12,o13,none]/\H' lk=some (.lst (List.map V.str (bP kk.2 (((plc kk.2 C).zip C).take i))))/\But lk H9 H') ?_ ?_ ?_ ?_
 ·exact⟨none,none,rfl,hlk9,But.refl lk H9⟩
 ·rintro i σ H' hi ⟨o5,o6,rfl,_,b'⟩
  exact⟨.of (b' _ _ npl hpl9),.of (b' _ _ nlc hlc9)⟩
 ·rintro i x' y' pp σ H10 hxy ⟨o5,o6,rfl,hf4,b4⟩ hpp
  rw[zl,Al] at hxy
  obtain⟨e,he,hee⟩:∃e,((plc kk.2 C).zip C)[i]? = some e/\(V.int ((e.1:Nat):Int),V.str e.2)=(x',y'):=by
   cases z:((plc kk.2 C).zip C)[i]? with
   | none=>rw[z] at hxy;cases hxy
   | some e=>rw[z] at hxy;exact⟨e,rfl,Af hxy⟩
  have e1:x'=V.int ((e.1:Nat):Int):=(congrArg Prod.fst hee).symm
  have e2:y'=V.str e.2:=(congrArg Prod.snd hee).symm
  subst e1 e2
  have ek:e.1<kk.2.length:=by
   have:=AT.mp he
   exact fq (Ad this.1)
  have nfp:lk≠pp:=ah hf4 hpp
  refine⟨pp,_,rfl,.of ae,rfl,_,_,rfl,_,_,rfl,rfl,?_⟩
  refine⟨_,rfl,_,rfl,_,rfl,.lst (j:=e.1) (by rw[af nfp];exact hf4) (by rw[z0,dD];exact sg ek) ?_⟩
  refine⟨_,_,rfl,?_,?_⟩
  ·rw[ae,Am,he]
   show _=some (HO.lst (List.map V.str (bP kk.2 (((plc kk.2 C).zip C).take i++[e]))))
   rw[i8,List.map_set]
  ·intro c o hc hh
   have hh4:=b4 c o hc hh
   rw[af hc,af (ah hh4 hpp)]
   exact hh4
 ·rintro σ H10 ⟨o5, o6, rfl, hf, b4⟩
  rw[zl,z0,Ak (Aa _)] at hf
  have hf:H10 lk=some (.lst (List.map V.str (eZ kk.2 es x y))):=by rw[hf,eC];rfl
  have sA:Same H H10:=fun c o hc=>b4 c o (ah hc hlk0) (s19 _ _ hc)
  refine⟨_,rfl,_,rfl,_,rfl,ao ⟨q,lk,ks,ts,ws,wn,kk.1,eZ kk.2 es x y,rfl,R.same sA,hf,by omega,fun q2 H11 s11 R11=>?_⟩⟩
  have sB:=sA.trans s11
  dsimp only[aQ]
  obtain⟨q2',a2,b2,c2',d2,e0,hq2,S1,S2,S3,S4⟩:=aX R11
  cases e0
  obtain⟨b2',rb2,e0,hb2,rpb2⟩:=aP S2
  cases e0
  obtain⟨c2'',rc2,e0,hc2,rpc2⟩:=aP S3
  cases e0
  have rbl:=rpb2.len
  have rcl:=rpc2.len
  rw[z0] at rbl rcl
  have wnm:∀e∈ws,Nm e.1/\Nm e.2:=fun e he=>⟨T.nm _ (G.pw e he).1,T.nm _ (G.pw e he).2⟩
  refine⟨_,rfl,.tup (.of hq2) rfl ⟨c2',rfl,⟨_,.of hc2⟩,?_⟩⟩
  refine bX rc2 (fun D j acc σ' H'=>∃(o0:Option V),σ'=[o0,some (.str u),some (.str v)]/\RepAll H' acc (((ws.take j).filter fun e=>decide (e≠(u,v))).map aE)/\acc.length<=j/\Same H11 H'/\H11 D=none) fun Da hDa=>⟨?_,?_,?_,?_⟩
  ·exact⟨none,rfl,.nil,Aa _,Same.new hDa,hDa⟩
  ·rintro j acc σ' H' _ ⟨o0,rfl,_,_,sm,_⟩ _
   exact .of (sm _ _ hc2)
  ·rintro j acc σ' H' z hz ⟨o0,rfl,rpc,al,sm,hD0⟩ hacc
   obtain⟨e,ta,he,rfl,hta⟩:=cF rpc2 hz
   have hil:=(Ac.mp he).1
   have en:=wnm e (Ad he)
   have es:((ws.take (j+1)).filter fun e=>decide (e≠(u,v)))=((ws.take j).filter fun e=>decide (e≠(u,v)))++(if decide (e≠(u,v))=true then [e] else []):=by
    rw[Am,he,AI]
    congr 1
    show List.filter _ [e]=_
    rw[List.filter_cons,List.filter_nil]
   dsimp only[aQ]
   refine⟨_,rfl,_,rfl,_,rfl,(szl 2),fun tt htt=>?_⟩
   have st:=Same.new (o:=.tup [V.str u,V.str v]) htt
   have rt:Rep (upd H' tt (.tup [V.str u,V.str v])) (.ref tt) (aE (u,v)):=aM (s:=u) (t:=v) ae
   have hacc:=st _ _ hacc
   have rpc:=rpc.same st
   have sm:=sm.trans st
   generalize upd H' tt (.tup [V.str u,V.str v])=H12 at rt hacc rpc sm ⊢
   have re:=aM (s:=e.1) (t:=e.2) (sm _ _ hta)
   refine .tr re rt (hZ en.1 en.2) (hZ (T.nm _ hu) (T.nm _ hv)) ⟨_,rfl,ap (fun h=>?_) (fun h=>?_)⟩
   ·rw[if_pos rfl,eQ] at h
    have hne:e≠(u,v):=fun z=>by rw[z,Ai (show (((u,v):Str × Str).1,((u,v):Str × Str).2)=(u,v) from rfl)] at h;cases h
    rw[if_pos (Ai hne)] at es
    refine⟨_,rfl,hacc,(by exact aj (by omega)),_,rfl,?_,by rw[Aq];show _+1<=_;omega,aW sm hD0,hD0⟩
    rw[es,Ae]
    exact RepAll.append (aO (aV hacc But.upd) rpc) (.cons (aM (s:=e.1) (t:=e.2) (cw hacc But.upd (sm _ _ hta))) .nil)
   ·rw[if_pos rfl,eQ] at h
    have heq:e=(u,v):=Classical.byContradiction fun z=>h (by rw[Ay (show (e.1,e.2)≠(u,v) from z)];rfl)
    rw[if_neg (by simpa using heq),AK] at es
    exact⟨hacc,_,rfl,by rw[es];exact rpc,by omega,sm,hD0⟩
  rintro acc σ' H12 ⟨o0,rfl,rpc,al,s12',hD0⟩ hacc
  rw[rcl,Ak (Aa _)] at rpc
  refine ao ⟨Da,acc,rfl,.of hacc,fun tw htw=>?_⟩
  have s13':=Same.new (o:=.tup acc) htw
  have rw_:Rep (upd H12 tw (.tup acc)) (.ref tw) (bW (ws.filter fun e=>decide (e≠(u,v)))):=.tup ae (rpc.same s13')
  have sC:=s12'.trans s13'
  generalize upd H12 tw (.tup acc)=H13 at rw_ sC ⊢
  dsimp only[aQ]
  refine⟨_,rfl,.tup (.of (sC _ _ hq2)) rfl ⟨_,rfl,.tup (.of (sC _ _ hq2)) rfl ⟨_,rfl,_,rfl,(szl 2),fun tt htt=>?_⟩⟩⟩
  refine nw htt fun H14 s14' e14=>?_
  have sD:=sC.trans s14'
  have rw4:=rw_.same s14'
  refine ao ⟨(szl 1),fun t1 h1=>?_⟩
  refine nw h1 fun H15 s15' e15=>?_
  have sE:=sD.trans s15'
  have rw5:=rw4.same s15'
  have e14':=s15' _ _ e14
  have sz:200000<sizeLine:=by decide
  refine⟨b2,t1,_,_,rfl,rfl,sE _ _ hb2,e15,(by show rb2.length+1<=_;omega),fun t2 H16 s16 e16=>?_⟩
  have sF:=sE.trans s16
  refine⟨_,rfl,_,rfl,.tup (.of (sF _ _ hq2)) rfl (ao ⟨(szl 4),fun t3 h3=>?_⟩)⟩
  have s17':=Same.new (o:=.tup [V.ref a2,V.ref t2,V.ref tw,V.ref d2]) h3
  have sG:=sF.trans s17'
  refine k t3 _ (sB.trans sG) (ce ae (S1.same sG) (.tup (s17' _ _ e16) ?_) ((rw5.same s16).same s17') (S4.same sG))
  rw[Ae]
  exact RepAll.append (rpb2.same sG) (.cons (aM (s:=u) (t:=v) (s17' _ _ (s16 _ _ e14'))) .nil)
theorem xm {c:List Str}{z:Str}(hz:z ∈ c) (h:∀v ∈ c, v ≠ z -> c.idxOf z<c.idxOf v):c.head? = some z := by
 cases c with
 | nil=>cases hz
 | cons w r =>
  by_cases q:w=z
  ·rw[q];rfl
  ·have:=h w (by simp) q
   rw[List.idxOf_cons_self] at this
   exact absurd this (Nat.not_lt_zero _)
theorem xH {c:List Str}(nd:c.Nodup) {z:Str}(hz:z∈c) (h:∀v∈c,v≠z->c.idxOf v<c.idxOf z):c.getLast? = some z:=by
 have hl:=List.length_pos_of_mem hz
 rw[List.getLast?_eq_getElem?]
 obtain⟨w,hw⟩:∃w,c[c.length-1]? = some w:=⟨_,Ar (by omega)⟩
 by_cases q:w=z
 ·rw[hw,q]
 ·have h2:=h w (Ad hw) q
  rw[ck nd hw] at h2
  have:=AJ hz
  omega
section
variable {H H':Hp}{q q':Addr}{us:List Str}{ks:Kn}{ts ws wn:Prs}{kk:Str × List Str}{u v x y:Str}
theorem GT.laid (G:GT H q us ks ts ws wn) (hkk:kk ∈ ks) (hu:u ∈ us) (hv:v ∈ us) (hp:aH ks u v=some (kk.1, x, y)) (nrr:¬ MG.Rch (Tie (aL ks ts wn kk.1 kk.2)) y x) (few:ts.length+ws.length<100)
    (R:Rep H' (.ref q') (aJ (jh ks ts wn kk x y) (ts++[(u,v)]) ws wn)):GT H' q' us (jh ks ts wn kk x y) (ts++[(u,v)]) ws wn:=by
 have T:=G.tre
 obtain⟨m1,m2⟩:=cu T hkk hu hv hp
 have knd:=bo T hkk
 have nr:¬ eG kk.2 (aL ks ts wn kk.1 kk.2) x y:=fun z=>nrr z.2
 have pm:(eZ kk.2 (aL ks ts wn kk.1 kk.2) x y).Perm kk.2:=rA knd nr
 have lt:=u3 knd (G.fwd hkk) m1 m2 nr
 have ev:=fun z=>dO (ks:=ks) (ts:=ts) (knot:=kk.1) (c:=kk.2) G.words z
 unfold jh at R ⊢
 generalize eZ kk.2 (aL ks ts wn kk.1 kk.2) x y=row at pm lt R ⊢
 have rnd:row.Nodup:=pm.nodup_iff.mpr knd
 have po:∀a b,aH (ks.map (bg kk.1 row)) a b=aH ks a b:=tH T hkk pm
 refine⟨R,xh T hkk pm,fun e he=>?_,⟨G.wx.nd,fun e he=>?_⟩,G.pw,fun e he k' hk' a b hpo=>?_,fun e he=>?_,by rw[Aq];show _+1+_<=_;omega,G.wl⟩
 ·rcases Aj.mp he with he | he
  ·exact⟨(G.ti e he).1,(G.ti e he).2.1,by rw[po];exact(G.ti e he).2.2⟩
  ·rw[Av.mp he]
   exact⟨hu,hv,by rw[po,hp];rfl⟩
 ·obtain⟨k, hk, f⟩ := G.wx.at_ e he
  refine⟨bg kk.1 row k,Ag.mpr ⟨k,hk,rfl⟩,?_⟩
  unfold bg
  split
  ·rename_i h
   have ek:=ie T hkk hk h
   subst ek
   have inr:e.2∈row:=pm.mem_iff.mpr f.mem
   have edge:∀w∈row,w≠e.2->(if e.1="first" then (e.2,w) else (w,e.2))∈aL ks ts wn k.1 k.2:=fun w hw hne=>(ev _).mp (.inr ⟨e,he,f.mem,rowE_mem.mpr ⟨w,pm.mem_iff.mp hw,hne,rfl⟩⟩)
   rcases f with⟨f1,f2⟩ | ⟨f1,f2⟩
   ·refine Or.inl ⟨f1,xm inr fun w hw hne=>?_⟩
    have h1:=edge w hw hne
    rw[if_pos f1] at h1
    exact lt _ (AR _ h1)
   ·refine Or.inr ⟨f1,xH rnd inr fun w hw hne=>?_⟩
    have h1:=edge w hw hne
    rw[if_neg (fun z=>absurd (z.symm.trans f1) (by decide))] at h1
    exact lt _ (AR _ h1)
  ·exact f
 ·obtain⟨k, hk, rfl⟩ := Ag.mp hk'
  rw[po,ff] at hpo
  by_cases h:k.1=kk.1
  ·have ek := ie T hkk hk h
   subst ek
   have e2:(bg k.1 row k).2=row:=by unfold bg;rw[if_pos rfl]
   rw[e2]
   have hm:(a,b)∈aL ks ts wn k.1 k.2++[(x,y)]:=by
    rcases Aj.mp he with he | he
    ·refine AR _ ((ev _).mp (.inl ⟨e,he,?_⟩))
     unfold cG
     rw[hpo]
     show (if k.1=k.1 then some (a,b) else none)=_
     rw[if_pos rfl]
    ·rw[Av.mp he,hp] at hpo
     cases hpo
     simp
   have hin:a∈row/\b∈row:=by
    rcases Aj.mp hm with hm | hm
    ·have:=cy (wn:=wn) T G.tok hkk _ hm
     exact⟨pm.mem_iff.mpr this.1,pm.mem_iff.mpr this.2⟩
    ·cases Av.mp hm
     exact⟨pm.mem_iff.mpr m1,pm.mem_iff.mpr m2⟩
   rw[<- sQ rnd hin.1,<- sQ rnd hin.2]
   exact lt _ hm
  ·have e2:bg kk.1 row k=k:=by unfold bg;rw[if_neg h]
   rw[e2]
   rcases Aj.mp he with he | he
   ·exact G.tf e he k hk a b hpo
   ·rw[Av.mp he,hp] at hpo
    exact absurd (congrArg Prod.fst (Af hpo)).symm h
 ·obtain⟨k,hk,a,b,hpo,r⟩:=G.wr e he
  refine⟨bg kk.1 row k,Ag.mpr ⟨k,hk,rfl⟩,a,b,by rw[po,ff];exact hpo,iV (fun z hz=>?_) r⟩
  rw[ff]
  refine(dO G.words z).mp ?_
  rcases (dO G.words z).mpr hz with⟨f,hf,qf⟩ | ⟨f,hf,hfc,qf⟩
  ·refine .inl ⟨f,AR _ hf,?_⟩
   unfold cG at qf ⊢
   rw[po]
   exact qf
  ·obtain⟨w,hw,hne,rfl⟩:=rowE_mem.mp qf
   exact .inr ⟨f,hf,(ik T hkk hk pm f.2).mpr hfc,rowE_mem.mpr ⟨w,(ik T hkk hk pm w).mpr hw,hne,rfl⟩⟩
theorem GT.tie (G:GT H q us ks ts ws wn) (hkk:kk ∈ ks) (hu:u ∈ us) (hv:v ∈ us) (hp:aH ks u v=some (kk.1, x, y)) (ti:TieO (cW kk.2 (aL ks ts wn kk.1 kk.2)) (kk.2.idxOf x) (kk.2.idxOf y) o) (few:ts.length+ws.length<100)
    (R:Rep H' (.ref q') (aJ (cD ks ts ws wn kk u v x y o).1 (cD ks ts ws wn kk u v x y o).2.1 (cD ks ts ws wn kk u v x y o).2.2 wn)):GT H' q' us (cD ks ts ws wn kk u v x y o).1 (cD ks ts ws wn kk u v x y o).2.1 (cD ks ts ws wn kk u v x y o).2.2 wn:=by
 have T:=G.tre
 obtain⟨m1,m2⟩:=cu T hkk hu hv hp
 have on:=fo (bo T hkk) (fun s hs=>T.nm _ (T.isIn hkk hs)) (cy (wn:=wn) T G.tok hkk) m1 m2 ti
 cases o with
 | none=>exact G.laid hkk hu hv hp (on.mp rfl) few R
 | some w =>
  have rr:MG.Rch (Tie (aL ks ts wn kk.1 kk.2)) y x:=Classical.byContradiction fun z=>by have:=on.mpr z;cases this
  refine⟨R,T,G.ti,G.wx,fun e he=>?_,G.tf,fun e he=>?_,by show ts.length+(ws++[(u,v)]).length<=_;rw[Aq];show ts.length+(ws.length+1)<=_;omega,G.wl⟩
  ·rcases Aj.mp he with he | he
   ·exact G.pw e he
   ·rw[Av.mp he];exact⟨hu,hv⟩
  ·rcases Aj.mp he with he | he
   ·exact G.wr e he
   ·rw[Av.mp he]
    exact⟨kk,hkk,x,y,hp,rr⟩
end
theorem qc (T:Tre us ks) (hu:u∈us) (hv:v∈us) (h:aH ks u v=some (kn,x,y)):∃kk∈ks,kk.1=kn:=by
 obtain⟨h1,_,hx,_⟩:=T.part hu hv h
 obtain⟨k,hk,hxk⟩:=T.has hx
 exact⟨k,hk,(T.par hk hxk).symm.trans h1⟩
def ut:Sp:=fun vs H Q _=>∃q us ks ts ws wn,vs=[.ref q]/\GT H q us ks ts ws wn/\∀H',Same H H'->Q (.bl true) H'
theorem xP (F:Fun K "_law_is_kept" "_law_is_kept" gV f fd) (B:Blt mg) (c_law_part:Cal P w K mg base 2 "_law_part" ["_law_knots_here", "_law_one", "_law_other"] dY) (c_law_ring:Cal P w K mg base 4 "_law_ring" ["_law_house_here", "_law_one", "_law_other"] kJ):FnOk P w K mg base CX0 5 f fd ["_law_house_here"] ut := by
 refine F.ok1 ["_law_house_here","_law_one","_law_other","_law_knot","_law_child","_law_goal","_law_kids"] fun nd H Q E hr h=>?_
 obtain⟨q,us,ks,ts,ws,wn,rfl,G,k⟩:=h
 have R:=G.rep
 have T:=G.tre
 have tl:=G.tl
 refine⟨_,(aa (aZ PassesOwn.never rfl (bc K (px K hr (pv 0) ab)) (bI (n:=2) K rfl (aF (ai (i:=1) nd rfl (Or.inl rfl)) (aF (ai (i:=2) nd rfl (Or.inl rfl)) bz))) (aa (bU (pc c_law_part hr (ak (px K hr (pv 0) ab) (p2 (pv 1) (pv 2)))) (bI (n:=3) K rfl (aF (ai (i:=3) nd rfl (Or.inl rfl)) (aF (ai (i:=4) nd rfl (Or.inl rfl)) (aF (ai (i:=5) nd rfl (Or.inl rfl)) bz)))))
  (aa (pst 6 nd (px K hr (fL K rfl hr.units B (p1 (px K hr (pv 0) ab))) (pv 3)))
  (ac (aI (ag gi (gq (pv 6) (p1 (pv 4))) (gq (pv 6) (p1 (pv 5))) (au _)) (ac (am mO)) av)))))
  (ac (am (iW (br hr.units) (bj (aD gV) ["_law_house_here","_law_one","_law_other","_law_knot","_law_child","_law_goal","_law_kids"] ["_law_tie"] [0] ["_law_tie","_law_house_here"] rfl (bc K (px K hr (pv 0) ab)) (fun _ _ _ _ _=>(ai (i:=0) (show (["_law_tie","_law_house_here"]:List Str).Nodup by decide) rfl (Or.inl rfl))) (fun _ _ _ _ _=>(bv (ag gS (pc c_law_ring hr (ak (pv 1) (p2 (px K hr (pv 0) ab) (px K hr (pv 0) ab)))) ci (au _)))) (fun _ _ _ _ _=>(pv 0))) (aS bT) (au _))))),?_⟩
 obtain⟨q',a,b,c3,d4,e0,hq,R1,R2,R3,R4⟩:=aX R
 cases e0
 obtain⟨b',rb,e0,hb,rpb⟩:=aP R2
 cases e0
 obtain⟨c',rc,e0,hc,rpc⟩:=aP R3
 cases e0
 have rcl:=rpc.len
 rw[z0] at rcl
 refine⟨_,rfl,.tup (.of hq) rfl ⟨b,rfl,⟨_,.of hb⟩,?_⟩⟩
 refine cC (xs:=rb) (fun i σ H'=>∃(o1 o2 o3 o4 o5 o6:Option V),σ=[some (.ref q),o1,o2,o3,o4,o5,o6]/\Same H H') ?_ ?_ ?_ ?_
 ·exact⟨none,none,none,none,none,none,rfl,Same.refl H⟩
 ·rintro i σ H' hi ⟨o1,o2,o3,o4,o5,o6,rfl,sm⟩
  exact .of (sm _ _ hb)
 ·rintro i z σ H1 hz ⟨o1,o2,o3,o4,o5,o6,rfl,s1⟩
  obtain⟨e,ta,he,rfl,hta⟩:=cF rpb hz
  have hem:=Ad he
  obtain⟨hu,hv,hs⟩:=G.ti e hem
  refine⟨ta,_,rfl,.of (s1 _ _ hta),rfl,_,_,rfl,_,_,rfl,rfl,?_⟩
  dsimp only[aQ]
  refine⟨_,rfl,.tup (.of (s1 _ _ hq)) rfl ⟨_,rfl,_,rfl,ao ⟨a,us,ks,e.1,e.2,rfl,R1.same s1,T,hu,hv,fun p0 H2 s2 rp0=>?_⟩⟩⟩
  obtain⟨⟨kn,x,y⟩,hp⟩:=Bh.mp hs
  rw[hp] at rp0
  obtain⟨t,rfl,ht⟩:=rp0
  refine⟨t,_,rfl,.of ht,rfl,_,_,rfl,_,_,rfl,_,_,rfl,rfl,?_⟩
  dsimp only[aQ]
  obtain⟨kk,hkk,ek⟩:=qc T hu hv hp
  subst ek
  obtain⟨m1,m2⟩:=cu T hkk hu hv hp
  have s12:=s1.trans s2
  refine⟨_,rfl,.tup (.of (s12 _ _ hq)) rfl (ao (dw (R1.same s12) T fun D dk hD hdk=>?_))⟩
  obtain⟨la,hva,hla⟩:=hdk kk hkk
  have s3:=Same.new (o:=.dK dk) hD
  refine⟨_,rfl,.dic (.inl ⟨dk,.inr kk.1,.inl ae,rfl,hva.symm⟩) ?_⟩
  have hla3:=s3 _ _ hla
  have s13:=s12.trans s3
  generalize upd H2 D (.dK dk)=H3 at hla3 s13 ⊢
  dsimp only[aQ]
  have cnd:=bo T hkk
  have lt:=G.tf e hem kk hkk x y hp
  refine⟨_,rfl,⟨_,_,rfl,hla3⟩,_,rfl,ao (iX hla3 cnd m1 ⟨_,rfl,⟨_,_,rfl,hla3⟩,_,rfl,ao (iX hla3 cnd m2 ⟨_,_,rfl,rfl,_,rfl,ap (fun h=>?_) (fun _=>?_)⟩)⟩)⟩
  ·have h:((MG.ix kk.2 y:Nat):Int)<((MG.ix kk.2 x:Nat):Int):=Ao h
   omega
  ·exact⟨_,_,_,_,_,_,rfl,s13⟩
 ·rintro σ H1 ⟨o1, o2, o3, o4, o5, o6, rfl, s1⟩
  refine⟨_,rfl,.tup (.of (s1 _ _ hq)) rfl ⟨c3,rfl,⟨_,.of (s1 _ _ hc)⟩,?_⟩⟩
  refine bX rc (fun D j acc σ' H'=>∃(o0:Option V),σ'=[o0,some (.ref q)]/\acc=[]/\Same H1 H'/\H1 D=none) fun Da hDa=>⟨?_,?_,?_,?_⟩
  ·exact⟨none,rfl,rfl,Same.new hDa,hDa⟩
  ·rintro j acc σ' H' _ ⟨o0,rfl,_,sm,_⟩ _
   exact .of (sm _ _ (s1 _ _ hc))
  ·rintro j acc σ' H' z hz ⟨o0,rfl,rfl,sm,hD0⟩ hacc
   obtain⟨e,ta,he,rfl,hta⟩:=cF rpc hz
   have hem:=Ad he
   obtain⟨hu,hv⟩:=G.pw e hem
   obtain⟨kk,hkk,x,y,hp,r⟩:=G.wr e hem
   have sA:=s1.trans sm
   obtain⟨m1,m2⟩:=cu T hkk hu hv hp
   dsimp only[aQ]
   refine⟨_,rfl,_,rfl,.tup (.of (sA _ _ hta)) rfl ⟨_,rfl,.tup (.of (sA _ _ hta)) rfl (ao ⟨q,us,ks,ts,ws,wn,kk,e.1,e.2,x,y,rfl,G.same sA,hkk,hu,hv,hp,fun o zz H2 s2 ti tv=>?_⟩)⟩⟩
   have on:=fo (bo T hkk) (fun s hs=>T.nm _ (T.isIn hkk hs)) (cy (wn:=wn) T G.tok hkk) m1 m2 ti
   cases o with
   | none=>exact absurd r (on.mp rfl)
   | some wy =>
    obtain⟨l,refs,rfl,_⟩:=tv
    refine .non ⟨_,rfl,ap (fun h=>?_) (fun _=>⟨s2 _ _ hacc,_,rfl,rfl,sm.trans s2,hD0⟩)⟩
    have h:V.ref l=V.non:=Ao h
    cases h
  ·rintro acc σ' H2 ⟨o0,rfl,rfl,s2,hD0⟩ hacc
   refine⟨(szl 0),fun l2 hl2=>?_⟩
   have s3:=Same.new (o:=.lst []) hl2
   refine .tr (lN (ss:=[]) (s3 _ _ hacc)) (lN (ss:=[]) ae) (lH fun s hs=>by cases hs) (lH fun s hs=>by cases hs) ?_
   exact k _ ((s1.trans s2).trans s3)
def qI (K:W.Frag):Sp:=fun vs H Q _=>∃(p a q ln:_) (us ns:List Str) (ks ts ws wn:_),vs=[.ref p,.ref q,.ref ln]/\DPen K H p a/\GT H q us ks ts ws wn/\H ln=some (.lst (List.map V.str ns))/\(∀z∈ns,z∈us)/\0<ns.length/\ns.length<=60 /\
 (∀H',DPV H' p a->But p H H'->Q .non H') /\
 ∀t u v p3 H',DPV H' p a->But p H H'->H' t=some (.tup [.str u,.str v])->u∈us->v∈us->aH ks u v=some p3->(u,v)∉ts->(u,v)∉ws->Q (.ref t) H'
theorem u4 (F:Fun K "_law_pair" "_law_pair" wH f fd) (B:Blt mg) (c_law_draw:Cal P w K mg base 1 "_law_draw" ["_law_pen_here", "_law_many"] (iY K)) (c_law_part:Cal P w K mg base 2 "_law_part" ["_law_knots_here", "_law_one", "_law_other"] dY):FnOk P w K mg base CX0 3 f fd ["_law_pen_here", "_law_house_here", "_law_names_here"] (qI K) := by
 refine F.ok1 ["_law_pen_here","_law_house_here","_law_names_here","_law_one","_law_other"] fun nd H Q E hr h=>?_
 obtain⟨p,a,q,ln,us,ns,ks,ts,ws,wn,rfl,hP,G,hln,nin,n0,nl,kn,kt⟩:=h
 have T:=G.tre
 have tl:=G.tl
 have unl:(List.map V.str ns).length=ns.length:=z0 ..
 have pickn:∀r:Int,0<=r->r<((List.map V.str ns).length:Int)->∃z∈us,atI (List.map V.str ns) r=some (.str z):=fun r r0 r1=>by
  rw[unl] at r1
  obtain⟨n,rfl⟩:=AX r0
  have hn:n<ns.length:=by omega
  exact⟨ns[n],nin _ (BL hn),bJ (by rw[Al,Ar hn];rfl)⟩
 refine⟨_,(aa (pst 3 nd (px K hr (pv 2) (pc c_law_draw hr (p2 (pv 0) (bh K B (p1 (pv 2)))))))
  (aa (pst 4 nd (px K hr (pv 2) (pc c_law_draw hr (p2 (pv 0) (bh K B (p1 (pv 2)))))))
  (aa (aI (PW.pt (cx (ag (lC K hr.units) (px K hr (pv 1) ab) (aB bT) (au _)) (bY (ag gi (pc c_law_draw hr (p2 (pv 0) ab)) ab (au _))))) (ac (bU (px K hr (px K hr (pv 1) ab) (pc c_law_draw hr (p2 (pv 0) (bh K B (p1 (px K hr (pv 1) ab)))))) (bI (n:=2) K rfl (aF (ai (i:=4) nd rfl (Or.inl rfl)) (aF (ai (i:=3) nd rfl (Or.inl rfl)) bz))))) av)
  (aa (aI (PW.pt (gf (ag gS (pc c_law_part hr (ak (px K hr (pv 1) ab) (p2 (pv 3) (pv 4)))) ci (au _)) (gH (ag (fK hr.units) (aB (p2 (pv 3) (pv 4))) (aG dm (px K hr (pv 1) ab) (px K hr (pv 1) ab)) (by with_unfolding_all rfl))))) (ac (am ci)) av)
  (ac (am (aB (p2 (pv 3) (pv 4))))))))),?_⟩
 refine⟨_,rfl,_,rfl,_,rfl,_,_,rfl,Or.inl ⟨_,.of hln,rfl⟩,p,a,_,rfl,hP,by rw[unl];omega,by rw[unl];omega,fun r1 H1 r10 r11 v1 b1=>?_⟩
 obtain⟨u,hu,ax⟩:=pickn r1 r10 r11
 obtain⟨ys,hp0⟩:=hP.2.at_dK
 have nln:ln≠p:=ba hln hp0 (by intro z;cases z)
 have hln1:=b1 _ _ nln hln
 have G1:=G.but hp0 b1
 refine .lst (.of hln1) ax ?_
 dsimp only[aQ]
 refine⟨_,rfl,_,rfl,_,rfl,_,_,rfl,Or.inl ⟨_,.of hln1,rfl⟩,p,a,_,rfl,hP.but b1 v1,by rw[unl];omega,by rw[unl];omega,fun r2 H2 r20 r21 v2 b2=>?_⟩
 obtain⟨v,hv,ay⟩:=pickn r2 r20 r21
 have b12:=b1.trans b2
 have hln2:=b12 _ _ nln hln
 have G2:=G.but hp0 b12
 refine .lst (.of hln2) ay ?_
 dsimp only[aQ]
 refine gQ (fun σ' H'=>∃x y,σ'=[some (.ref p),some (.ref q),some (.ref ln),some (.str x),some (.str y)]/\x∈us/\y∈us/\DPV H' p a/\But p H H') ?_ ?_
 ·rintro σ' H3 ⟨x, y, rfl, hx, hy, v3, b3⟩
  have G3:=G.but hp0 b3
  obtain⟨q',ka,kb,kc,kd,e0,hq,R1,R2,R3,R4⟩:=aX G3.rep
  cases e0
  obtain⟨b',rb,e0,hb,rpb⟩:=aP R2
  cases e0
  obtain⟨c',rc,e0,hc,rpc⟩:=aP R3
  cases e0
  have bl:=rpb.len
  have cl:=rpc.len
  rw[z0] at bl cl
  refine⟨_,rfl,.tup (.of hq) rfl ⟨_,rfl,_,rfl,ao ⟨ka,us,ks,x,y,rfl,R1,T,hx,hy,fun z H4 s4 rp=>?_⟩⟩⟩
  have v4:=v3.same s4
  have b4:=b3.trans (But.of_same (p:=p) s4)
  cases hpo:aH ks x y with
  | none =>
   rw[hpo] at rp
   have rp:z=.non:=rp
   subst rp
   refine .non ⟨_,rfl,ap (fun _=>?_) (fun h=>(h (Ai (rfl:V.non=V.non))).elim)⟩
   exact kn H4 v4 b4
  | some p3 =>
   rw[hpo] at rp
   obtain⟨pt,rfl,hpt⟩:=rp
   refine .non ⟨_,rfl,ap (fun h=>?_) (fun _=>?_)⟩
   ·have h:V.ref pt=V.non:=Ao h
    cases h
   refine⟨_,rfl,_,rfl,(szl 2),fun tt htt=>?_⟩
   refine nw htt fun H5 s5 e5=>?_
   have s45:=s4.trans s5
   have sz:200000<sizeLine:=by decide
   refine⟨_,rfl,.tup (.of (s45 _ _ hq)) rfl ⟨_,rfl,.tup (.of (s45 _ _ hq)) rfl ⟨kb,kc,_,_,rfl,rfl,s45 _ _ hb,s45 _ _ hc,(by omega),fun t2 H6 s6 e6=>?_⟩⟩⟩
   have s46:=s45.trans s6
   have pin:∀e∈ts++ws,Nm e.1/\Nm e.2:=fun e he=>by
    rcases Aj.mp he with he | he
    ·exact⟨T.nm _ (G.ti e he).1,T.nm _ (G.ti e he).2.1⟩
    ·exact⟨T.nm _ (G.pw e he).1,T.nm _ (G.pw e he).2⟩
   have ra:=RepAll.append (rpb.same s46) (rpc.same s46)
   rw[<- Ae] at ra
   refine⟨t2,_,_,_,rfl,e6,ra,aM (s:=x) (t:=y) (s6 _ _ e5),aT pin,cV (T.nm _ hx) (T.nm _ hy),(by show 1<=16;decide),_,rfl,?_⟩
   rw[if_neg (show ¬ false=true by decide),dR]
   have v6:=v3.same s46
   have b6:=b3.trans (But.of_same (p:=p) s46)
   refine ap (fun _=>kn H6 v6 b6) (fun h=>?_)
   have hn:(x,y)∉ts++ws:=fun z=>h (Ai z)
   refine⟨_,rfl,_,rfl,(szl 2),fun t3 h3=>?_⟩
   have s7:=Same.new (o:=.tup [V.str x,V.str y]) h3
   exact kt t3 x y p3 _ (v6.same s7) (b6.trans (But.of_same (p:=p) s7)) ae hx hy hpo (fun z=>hn (AR _ z)) (fun z=>hn (AS _ z))
 ·intro N hN
  obtain⟨q',ka,kb,kc,kd,e0,hq,R1,R2,R3,R4⟩:=aX G2.rep
  cases e0
  obtain⟨b',rb,e0,hb,rpb⟩:=aP R2
  cases e0
  have bl:=rpb.len
  rw[z0] at bl
  refine⟨_,rfl,.tup (.of hq) rfl ⟨(szl 0),fun te hte=>?_⟩⟩
  refine nw hte fun H3 s3 e3=>?_
  have v3:=v2.same s3
  have b3:=b12.trans (But.of_same (p:=p) s3)
  refine⟨kb,te,rb,rfl,rfl,.of (s3 _ _ hb),e3,_,rfl,ap (fun h=>?_) (fun _=>hN _ _ ⟨u,v,rfl,hu,hv,v3,b3⟩)⟩
  have rpos:0<rb.length:=by cases rb with | nil=>exact absurd h (by decide) | cons z zs=>exact Nat.succ_pos _
  refine⟨_,rfl,p,a,3,rfl,hP.but b3 v3,by decide,by decide,fun r4 H4 r40 r41 v4 b4=>?_⟩
  have b34:=b3.trans b4
  refine⟨_,_,rfl,rfl,_,rfl,ap (fun _=>?_) (fun _=>hN _ _ ⟨u,v,rfl,hu,hv,v4,b34⟩)⟩
  have G4:=G.but hp0 b34
  obtain⟨q',ka,kb,kc,kd,e0,hq,R1,R2,R3,R4⟩:=aX G4.rep
  cases e0
  obtain⟨b',rb4,e0,hb4,rpb4⟩:=aP R2
  cases e0
  have bl4:=rpb4.len
  rw[z0] at bl4
  refine⟨_,rfl,.tup (.of hq) rfl ⟨_,rfl,_,rfl,.tup (.of hq) rfl (ao ⟨_,_,rfl,Or.inr ⟨_,.of hb4,rfl⟩,?_⟩)⟩⟩
  refine ao ⟨p,a,_,rfl,hP.but b34 v4,by omega,by omega,fun r5 H5 r50 r51 v5 b5=>?_⟩
  have b35:=b34.trans b5
  obtain⟨n5,rfl⟩:=AX r50
  have hn5:n5<rb4.length:=by omega
  have hkb:kb≠p:=by
   obtain⟨ys4,hp4⟩:=v4.at_dK
   exact ba hb4 hp4 (by intro z;cases z)
  obtain⟨z,hz⟩:∃z,rb4[n5]? = some z:=⟨_,Ar hn5⟩
  obtain⟨e,ta,he,rfl,hta⟩:=cF rpb4 hz
  have hem:=Ad he
  have hta5:H5 ta=some (.tup [V.str e.1,V.str e.2]):=by
   obtain⟨ys4,hp4⟩:=v4.at_dK
   exact b5 _ _ (ba hta hp4 (by intro z;cases z)) hta
  refine .tup (.of (b5 _ _ hkb hb4)) (bJ hz) ?_
  refine⟨ta,_,rfl,.of hta5,rfl,_,_,rfl,_,_,rfl,rfl,?_⟩
  exact hN _ _ ⟨e.2,e.1,rfl,(G.ti e hem).2.1,(G.ti e hem).1,v5,b35⟩
def mQ (K:W.Frag):Sp:=fun vs H Q _=>∃(a:_) (ns:List Int),vs=[.ref a]/\SqL K H a (ns.map V.int)/\∀H',Q (.bl true) H'
theorem gl:∀ts:List (Str × Str),PyData.depthAll (ts.map aE)<=1
 | []=>by decide
 | e::es=>by
  show max (PyData.depth (aE e)) (PyData.depthAll (es.map aE))<=1
  have h1:PyData.depth (aE e)=1:=rfl
  have h2:=gl es
  omega
theorem ni:∀ss:List Str,PyData.depthAll (ss.map PyData.str)=0
 | []=>rfl
 | s::ss=>by
  show max (PyData.depth (.str s)) (PyData.depthAll (ss.map PyData.str))=0
  rw[ni ss];rfl
theorem lM:∀ks:Kn,PyData.depthAll (ks.map bN)<=2
 | []=>by decide
 | k::ks=>by
  show max (max 0 (max (PyData.depthAll (k.2.map PyData.str)+1) 0)+1) (PyData.depthAll (ks.map bN))<=2
  have:=lM ks
  rw[ni]
  omega
theorem ma:∀ks:Kn,(∀k∈ks,(k.1=""∨Nm k.1)/\∀u∈k.2,Nm u)->PyData.canLayAll0 (ks.map bN)=true
 | [],_=>rfl
 | k::ks,h=>by
  obtain⟨h1,h2⟩:=h k (A5 ..)
  show ((PyData.canLay0 (.str k.1)&&(PyData.canLayAll0 (k.2.map PyData.str)&&true))&&PyData.canLayAll0 (ks.map bN))=true
  rw[ma ks fun x hx=>h x (AF _ hx),gv _ h2,uH h1];rfl
theorem uk (T:Tre us ks) (h1:∀e∈ts,Nm e.1/\Nm e.2) (h2:∀e∈ws,Nm e.1/\Nm e.2) (h3:∀e∈wn,Nm e.1/\Nm e.2):shp (aJ ks ts ws wn):=by
 show ((PyData.canLayAll0 (ks.map bN)&&(PyData.canLayAll0 (ts.map aE)&&(PyData.canLayAll0 (ws.map aE)&&(PyData.canLayAll0 (wn.map aE)&&true))))&&decide (max (PyData.depthAll (ks.map bN)+1) (max (PyData.depthAll (ts.map aE)+1) (max (PyData.depthAll (ws.map aE)+1) (max (PyData.depthAll (wn.map aE)+1) 0)))+1<=64))=true
 have d0:=lM ks
 have d1:=gl ts
 have d2:=gl ws
 have d3:=gl wn
 rw[ma ks fun k hk=>⟨(T.sub k hk).imp id (T.nm _),fun u hu=>T.nm u (T.isIn hk hu)⟩,aT h1,aT h2,aT h3,Ai (by omega)]
 rfl
theorem GT.shp (h:GT H q us ks ts ws wn):shp (aJ ks ts ws wn) :=
 uk h.tre (fun e he=>⟨h.tre.nm _ (h.ti e he).1,h.tre.nm _ (h.ti e he).2.1⟩) (fun e he=>⟨h.tre.nm _ (h.pw e he).1,h.tre.nm _ (h.pw e he).2⟩) (fun e he=>⟨gG (WnX.ok h.tre h.wx e he).1,h.tre.nm _ (WnX.ok h.tre h.wx e he).2⟩)
theorem yf (F:Fun K "law" "law" oT f fd) (B:Blt mg) (c_law_pen:Cal P w K mg base 1 "_law_pen" ["_law_script"] (sj K)) (c_law_draw:Cal P w K mg base 1 "_law_draw" ["_law_pen_here", "_law_many"] (iY K)) (c_law_house:Cal P w K mg base 4 "_law_house" ["_law_pen_here", "_law_most"] (p4 K)) (c_law_pair:Cal P w K mg base 3 "_law_pair" ["_law_pen_here", "_law_house_here", "_law_names_here"] (qI K)) (c_law_ring:Cal P w K mg base 4 "_law_ring" ["_law_house_here", "_law_one", "_law_other"] kJ) (c_law_laid:Cal P w K mg base 4 "_law_laid" ["_law_house_here", "_law_one", "_law_other"] qq) (cbehind:Cal P w K mg base 10 "behind" ["house", "deed"] jR) (c_law_is_kept:Cal P w K mg base 5 "_law_is_kept" ["_law_house_here"] ut):FnOk P w K mg base CX0 11 f fd ["_law_script"] (mQ K) := by
 refine F.ok1 ["_law_script","_law_pen_here","_law_house_here","_law_names_here","_law_knot","_law_kids","_law_turn","_law_pair_here","_law_due","_law_handed","_law_found"] fun nd H Q E hr h=>?_
 obtain⟨sc,ns,rfl,hS,k⟩:=h
 have sz:200000<sizeLine:=by decide
 refine⟨_,(aa (pst 1 nd (pc c_law_pen hr (p1 (pv 0))))
  (aa (pst 2 nd (pc c_law_house hr (p2 (pv 1) ab)))
  (aa (pst 3 nd (aS bT))
  (aa (aZ PassesOwn.never rfl (bc K (px K hr (pv 2) ab)) (bI (n:=2) K rfl (aF (ai (i:=4) nd rfl (Or.inl rfl)) (aF (ai (i:=5) nd rfl (Or.inl rfl)) bz))) (ac (pst 3 nd (aG aK (pv 3) (iK K rfl B (p1 (pv 5)))))))
  (aa (aZ PassesOwn.never rfl (dq rfl B.range (p1 (aG aK ab (pc c_law_draw hr (p2 (pv 1) ab))))) (ai (i:=6) nd rfl (Or.inl rfl)) (aa (pst 7 nd (pc c_law_pair hr (ak (pv 1) (p2 (pv 2) (pv 3)))))
  (ac (aI (ag gm (pv 7) ci (au _)) (aa (pst 8 nd (aB (ak (px K hr (pv 2) ab) (ak (px K hr (pv 2) ab) (p2 (aG dm (px K hr (pv 2) ab) (aB (p1 (pv 7)))) (px K hr (pv 2) ab))))))
  (aa (aI (ag gS (pc c_law_ring hr (ak (pv 2) (p2 (px K hr (pv 7) ab) (px K hr (pv 7) ab)))) ci (au _)) (ac (pst 8 nd (pc c_law_laid hr (ak (pv 2) (p2 (px K hr (pv 7) ab) (px K hr (pv 7) ab)))))) av)
  (aa (pst 9 nd (aB (ak (px K hr (pv 2) ab) (ak (px K hr (pv 2) ab) (p2 (px K hr (pv 2) ab) (px K hr (pv 2) ab))))))
  (aa (pst 10 nd (pc cbehind hr (p2 (pv 9) (aG dm (aB (p1 aA)) (pv 7)))))
  (aa (aI (PW.pt (gf (ag (cE hr.units) (pv 10) (pv 8) (au _)) (gf (ag (cE hr.units) (pv 9) (pv 2) (au _)) (gH (fQ (fe (pc c_law_is_kept hr (p1 (pv 10))))))))) (ac (am mO)) av)
  (ac (pst 2 nd (pv 10)))))))) av))))
  (ac (am mO))))))),?_⟩
 refine⟨_,rfl,sc,ns,rfl,hS,fun p H1 hP=>?_⟩
 refine⟨_,rfl,p,sc,rfl,hP,fun q us ks ts ws wn H2 R T _ ul ti pw wl wnd tf wr tl wsl wnl v2 b2=>?_⟩
 have J2:GT H2 q us ks ts ws wn:=⟨R,T,ti,yc wl wnd,pw,tf,wr,by omega,by omega⟩
 have kl:=T.perm.length_eq
 refine⟨(szl 0),fun l0 hl0=>?_⟩
 have s3:=Same.new (o:=.lst []) hl0
 have e3:upd H2 l0 (.lst []) l0=some (.lst (List.map V.str (aU (ks.take 0)))):=ae
 have J3:=J2.same s3
 have v3:=v2.same s3
 have b3:=b2.trans (But.of_same (p:=p) s3)
 generalize upd H2 l0 (.lst [])=H3 at s3 e3 J3 v3 b3 ⊢
 dsimp only[aQ]
 obtain⟨_,a,b,c,d,e0,hq,R1,_⟩:=aX J3.rep
 cases e0
 obtain⟨_,refs,e0,ha,rp⟩:=cY R1
 cases e0
 have rlen:=rp.len
 rw[z0] at rlen
 refine⟨_,rfl,.tup (.of hq) rfl ⟨a,rfl,⟨_,.of ha⟩,?_⟩⟩
 refine cC (xs:=refs) (fun i σ H'=>∃(ln:Addr) (o4 o5:Option V),σ=[some (.ref sc),some (.ref p),some (.ref q),some (.ref ln),o4,o5,none,none,none,none,none]/\H' ln=some (.lst (List.map V.str (aU (ks.take i))))/\Same H3 H') ?_ ?_ ?_ ?_
 ·exact⟨l0,none,none,rfl,e3,Same.refl H3⟩
 ·rintro i σ H' hi ⟨ln,o4,o5,rfl,_,sm⟩
  exact .of (sm _ _ ha)
 ·rintro i z σ H4 hz ⟨ln,o4,o5,rfl,hln,sm⟩
  obtain⟨kk,ta,la,hk,rfl,hta,hla⟩:=eR rp hz
  have hkm:=Ad hk
  have klen:=qg T hkm
  have eks:aU (ks.take (i+1))=aU (ks.take i)++kk.2:=by
   unfold aU
   rw[Am,hk,BQ]
   show _++List.flatMap _ [kk]=_
   rw[List.flatMap_singleton]
  have tkl:(aU (ks.take i)).length<=13:=by
   have h1:aU ks=aU (ks.take i)++aU (ks.drop i):=by unfold aU;rw[<- BQ,Bz]
   have h2:=congrArg List.length h1
   rw[Aq] at h2
   omega
  refine⟨ta,_,rfl,.of (sm _ _ hta),rfl,_,_,rfl,_,_,rfl,rfl,?_⟩
  dsimp only[aQ]
  refine⟨_,rfl,_,rfl,_,rfl,.seq (.inr (.of (sm _ _ hla))) fun lb hlb=>?_⟩
  have s5:=Same.new (o:=.lst (List.map V.str kk.2)) hlb
  refine .lst (s5 _ _ hln) ae (by rw[z0,z0];exact AW (aj (by omega))) fun lc hlc=>?_
  have s6:=Same.new (o:=.lst (List.map V.str (aU (ks.take i))++List.map V.str kk.2)) hlc
  refine⟨lc,_,_,rfl,?_,(sm.trans s5).trans s6⟩
  rw[ae,eks,Ae]
 rintro σ H4 ⟨ln,o4,o5,rfl,hln,s4⟩
 rw[rlen,Ak (Aa _)] at hln
 have J4:=J3.same s4
 have v4:=v3.same s4
 have b4:=b3.trans (But.of_same (p:=p) s4)
 have nin:∀z∈aU ks,z∈us:=fun z hz=>T.perm.mem_iff.mp hz
 generalize aU ks=nm at hln nin kl
 obtain⟨ys4,hp4⟩:=v4.at_dK
 have nln:ln≠p:=ba hln hp4 (by intro z;cases z)
 refine⟨_,rfl,p,sc,10,rfl,hP.but b4 v4,by decide,by decide,fun r5 H5 r50 r51 v5 b5=>.int ?_⟩
 obtain⟨j5,rfl⟩:=AX r50
 have J5:=J4.but hp4 b5
 have hln5:=b5 _ _ nln hln
 have b5:=b4.trans b5
 refine⟨_,rfl,by omega,by omega,?_⟩
 rw[show (1+((j5:Nat):Int)).toNat=1+j5 by omega]
 refine gh (fun i σ H'=>∃q ks ts ws o4 o5 o6 o7 o8 o9 o10,σ=[some (.ref sc),some (.ref p),some (.ref q),some (.ref ln),o4,o5,o6,o7,o8,o9,o10]/\GT H' q us ks ts ws wn/\ts.length+ws.length<=33+i/\H' ln=some (.lst (List.map V.str nm))/\DPV H' p sc/\But p H1 H') ⟨q,ks,ts,ws,_,_,_,_,_,_,_,rfl,J5,by omega,hln5,v5,b5⟩ ?_ ?_
 ·clear J2 J3 J4 J5 R T wl wnd pw ti tf wr
  rintro i σ H6 hi ⟨q,ks,ts,ws,o4,o5,o6,o7,o8,o9,o10,rfl,J6,few,hln6,v6,b6⟩
  have hi:i<10:=by omega
  have T:=J6.tre
  dsimp only[aQ]
  refine⟨_,rfl,_,rfl,_,rfl,ao ⟨p,sc,q,ln,us,nm,ks,ts,ws,wn,rfl,hP.but b6 v6,J6,hln6,nin,by omega,by omega,fun H7 v7 b7=>?_,fun t u v p3 H7 v7 b7 ht hu hv hpo n1 n2=>?_⟩⟩
  ·obtain⟨ys6,hp6⟩:=v6.at_dK
   have J7:=J6.but hp6 b7
   have hln7:=b7 _ _ nln hln6
   refine⟨_,rfl,.non ⟨_,rfl,ap (fun h=>absurd h (by decide)) (fun _=>?_)⟩⟩
   exact⟨q,ks,ts,ws,_,_,_,_,_,_,_,rfl,J7,by omega,hln7,v7,b6.trans b7⟩
  ·obtain⟨ys6,hp6⟩:=v6.at_dK
   have J7:=J6.but hp6 b7
   have hln7:=b7 _ _ nln hln6
   have b7:=b6.trans b7
   obtain⟨kn,x,y⟩:=p3
   obtain⟨kk,hkk,ek⟩:=qc T hu hv hpo
   subst ek
   obtain⟨m1,m2⟩:=cu T hkk hu hv hpo
   refine⟨_,rfl,.non ⟨_,rfl,ap (fun _=>?_) (fun h=>absurd (by simp) h)⟩⟩
   obtain⟨_,a,b,c,d,e0,hq,R1,R2,R3,R4⟩:=aX J7.rep
   cases e0
   obtain⟨_,rc,e0,hc,rpc⟩:=aP R3
   cases e0
   have rcl:=rpc.len
   rw[z0] at rcl
   refine⟨_,rfl,.tup (.of hq) rfl ⟨_,rfl,.tup (.of hq) rfl ⟨_,rfl,.tup (.of hq) rfl ⟨_,rfl,ao ⟨(szl 1),fun t1 h1=>?_⟩⟩⟩⟩⟩
   refine nw h1 fun H8 s8 e8=>?_
   refine⟨c,t1,_,_,rfl,rfl,s8 _ _ hc,e8,(by show rc.length+1<=_;omega),fun t2 H9 s9 e9=>?_⟩
   have s79:=s8.trans s9
   refine⟨_,rfl,.tup (.of (s79 _ _ hq)) rfl (ao ⟨(szl 4),fun qw hqw=>?_⟩)⟩
   have sA:=Same.new (o:=.tup [V.ref a,V.ref b,V.ref t2,V.ref d]) hqw
   have s7A:=s79.trans sA
   have Rw:Rep (upd H9 qw (.tup [V.ref a,V.ref b,V.ref t2,V.ref d])) (.ref qw) (aJ ks ts (ws++[(u,v)]) wn):=by
    refine ce ae (R1.same s7A) (R2.same s7A) (.tup (sA _ _ e9) ?_) (R4.same s7A)
    rw[Ae]
    exact RepAll.append (rpc.same s7A) (.cons (aM (s:=u) (t:=v) (s7A _ _ ht)) .nil)
   generalize upd H9 qw (.tup [V.ref a,V.ref b,V.ref t2,V.ref d])=HA at sA s7A Rw ⊢
   dsimp only[aQ]
   have JA:=J7.same s7A
   have htA:=s7A _ _ ht
   have vA:=v7.same s7A
   have bA:=b7.trans (But.of_same (p:=p) s7A)
   have hlnA:=s7A _ _ hln7
   refine gQ (fun σ' H'=>∃(due:Addr) (o:Option (List Nat)),σ'=[some (.ref sc),some (.ref p),some (.ref q),some (.ref ln),o4,o5,some (.int (0+(i:Int))),some (.ref t),some (.ref due),o9,o10]/\TieO (cW kk.2 (aL ks ts wn kk.1 kk.2)) (kk.2.idxOf x) (kk.2.idxOf y) o/\Rep H' (.ref due) (aJ (cD ks ts ws wn kk u v x y o).1 (cD ks ts ws wn kk u v x y o).2.1 (cD ks ts ws wn kk u v x y o).2.2 wn)/\Same HA H') ?_ ?_
   ·rintro σ' HC ⟨due,o,rfl,tiO,Rd,sC⟩
    have JC:=JA.same sC
    have htC:=sC _ _ htA
    obtain⟨_,a2,b2',c2,d2,e0,hqC,Q1,Q2,Q3,Q4⟩:=aX JC.rep
    cases e0
    refine⟨_,rfl,.tup (.of hqC) rfl ⟨_,rfl,.tup (.of hqC) rfl ⟨_,rfl,.tup (.of hqC) rfl ⟨_,rfl,.tup (.of hqC) rfl (ao ⟨(szl 4),fun tD hD=>?_⟩)⟩⟩⟩⟩
    have sD:=Same.new (o:=.tup [V.ref a2,V.ref b2',V.ref c2,V.ref d2]) hD
    have eD:upd HC tD (.tup [V.ref a2,V.ref b2',V.ref c2,V.ref d2]) tD=some (.tup [V.ref a2,V.ref b2',V.ref c2,V.ref d2]):=ae
    have JD:GT (upd HC tD (.tup [V.ref a2,V.ref b2',V.ref c2,V.ref d2])) tD us ks ts ws wn:=⟨ce eD (Q1.same sD) (Q2.same sD) (Q3.same sD) (Q4.same sD),T,JC.ti,JC.wx,JC.pw,JC.tf,JC.wr,JC.tl,JC.wl⟩
    have sAD:=sC.trans sD
    have RdD:=Rd.same sD
    generalize upd HC tD (.tup [V.ref a2,V.ref b2',V.ref c2,V.ref d2])=HD at eD JD sAD RdD ⊢
    dsimp only[aQ]
    refine⟨_,rfl,(szl 1),fun tw htw=>?_⟩
    refine nw htw fun HE sE eE=>?_
    have sAE:=sAD.trans sE
    have JE:=JD.same sE
    have RdE:=RdD.same sE
    refine⟨_,rfl,tw,t,_,_,rfl,rfl,eE,sAE _ _ htA,(by show 1+2<=_;omega),fun tF HF sF eF=>?_⟩
    have eF:HF tF=some (.tup [V.str "wait",V.str u,V.str v]):=eF
    have JF:=JE.same sF
    refine ao ⟨tD,tF,us,ks,ts,ws,wn,kk,u,v,x,y,rfl,⟨eF,JF,.inr rfl,hkk,hu,hv,hpo,n1,n2⟩,fun o2 q2 HG ti2 sG R2=>?_⟩
    have eo:=TieO.uniq ti2 tiO
    subst eo
    have sAG:=(sAE.trans sF).trans sG
    have RdG:=(RdE.same sF).same sG
    have JG:=JF.same sG
    have JN:=JG.tie hkk hu hv hpo ti2 (by omega) R2
    have JH:=JA.same sAG
    have shN:=JN.shp
    have shG:=JG.shp
    dsimp only[aQ]
    refine⟨_,rfl,_,rfl,.tr R2 RdG shN shN ⟨_,rfl,?_⟩⟩
    rw[pQ shN]
    refine dH ?_
    refine⟨_,rfl,_,rfl,.tr JG.rep JH.rep shG shG ⟨_,rfl,?_⟩⟩
    rw[pQ shG]
    refine dH ?_
    refine⟨_,rfl,ao ⟨q2,us,_,_,_,wn,rfl,JN,fun HI sI=>?_⟩⟩
    refine⟨_,rfl,ap (fun h=>by cases (show false=true from h)) (fun _=>?_)⟩
    have sAI:=sAG.trans sI
    have fewN:(cD ks ts ws wn kk u v x y o2).2.1.length+(cD ks ts ws wn kk u v x y o2).2.2.length<=33+(i+1):=by
     cases o2 with
     | none=>show (ts++[(u,v)]).length+ws.length<=_;rw[Aq];show ts.length+1+_<=_;omega
     | some w=>show ts.length+(ws++[(u,v)]).length<=_;rw[Aq];show _+(ws.length+1)<=_;omega
    exact⟨_,rfl,q2,_,_,_,_,_,_,_,_,_,_,rfl,JN.same sI,fewN,sAI _ _ hlnA,vA.same sAI,bA.trans (But.of_same (p:=p) sAI)⟩
   ·intro N hN
    refine⟨_,rfl,_,rfl,.tup (.of htA) rfl ⟨_,rfl,.tup (.of htA) rfl (ao ⟨q,us,ks,ts,ws,wn,kk,u,v,x,y,rfl,JA,hkk,hu,hv,hpo,fun o z HB sB tiO tv=>?_⟩)⟩⟩
    have on:=fo (bo T hkk) (fun s hs=>T.nm _ (T.isIn hkk hs)) (cy (wn:=wn) T JA.tok hkk) m1 m2 tiO
    cases o with
    | some wy =>
     obtain⟨l,refs,rfl,_⟩:=tv
     refine .non ⟨_,rfl,ap (fun h=>?_) (fun _=>hN _ _ ⟨qw,some wy,rfl,tiO,Rw.same sB,sB⟩)⟩
     have h:V.ref l=V.non:=Ao h
     cases h
    | none =>
     have tv:z=.non:=tv
     subst tv
     refine .non ⟨_,rfl,ap (fun _=>?_) (fun h=>(h (Ai (rfl:V.non=V.non))).elim)⟩
     have htB:=sB _ _ htA
     refine⟨_,rfl,_,rfl,.tup (.of htB) rfl ⟨_,rfl,.tup (.of htB) rfl (ao ⟨q,us,ks,ts,ws,wn,kk,u,v,x,y,rfl,JA.same sB,hkk,hu,hv,hpo,on.mp rfl,fun q' HC sC RC=>?_⟩)⟩⟩
     rw[mF n2] at RC
     exact hN _ _ ⟨q',none,rfl,tiO,RC,sB.trans sC⟩
 ·rintro σ H6 _
  exact k H6
theorem ua (F:Fun K "places_of" "places_of" kP f fd) (B:Blt mg):FnOk P w K mg base CX0 1 f fd ["things"] fO := by
 refine F.ok1 ["things","places","place","thing"] fun nd H Q E hr h=>?_
 obtain⟨a,xs,rfl,ha,hl,k⟩:=h
 refine⟨_,(aa (pst 1 nd fY)
  (aa (aZ PassesOwn.never rfl (nP K rfl B.enumerate (p1 (pv 0))) (bI (n:=2) K rfl (aF (ai (i:=2) nd rfl (Or.inl rfl)) (aF (ai (i:=3) nd rfl (Or.inl rfl)) bz))) (ac (bU (pv 2) (cO (pv 1) (pv 3) (du hr.units)))))
  (ac (am (pv 1))))),?_⟩
 intro d hd
 have had:a≠d:=ah ha hd
 refine⟨_,rfl,_,rfl,.lst (.of (by rw[af had];exact ha)) ?_⟩
 refine oM (xs:=List.map V.str xs) (fun i σ H'=>∃o1 o2 kvs,σ=[some (.ref a),some (.ref d),o1,o2]/\Same H H'/\H' d=some (.dK kvs)/\kvs.length<=i/\(∀s,(aw kvs (.inr s)).isSome=true ↔ s∈xs.take i)/\(∀s v,aw kvs (.inr s)=some v->∃j:Nat,v=.int j/\xs[j]? = some s)) ?_ ?_ ?_ ?_
 ·refine⟨none,none,[],rfl,Same.new hd,ae,Aa _,fun s=>?_,fun s v e=>by cases e⟩
  simp[vO]
 ·rintro i σ H' hi ⟨o1,o2,kvs,rfl,sm,_⟩
  exact .of (sm _ _ ha)
 ·rintro i x σ H' p hx ⟨o1, o2, kvs, rfl, sm, hk, hkl, hin, hat⟩ hp
  rw[Al] at hx
  obtain⟨t,ht,rfl⟩:∃t,xs[i]? = some t/\V.str t=x:=by
   cases q:xs[i]? with
   | none=>rw[q] at hx;cases hx
   | some e=>rw[q] at hx;exact⟨e,rfl,Af hx⟩
  have hil:=(Ac.mp ht).1
  have hdp:d≠p:=ah hk hp
  refine⟨p,_,rfl,.of ae,rfl,_,_,rfl,_,_,rfl,rfl,?_⟩
  refine⟨_,rfl,_,rfl,_,rfl,.dic (DPut.k (k:=.inr t) (by rw[af hdp];exact hk) (aj (by omega))) ⟨_,_,_,rfl,?_,ae,?_,?_,?_⟩⟩
  ·intro b o hb
   rw[af (ah hb hd)]
   exact Same.new hp _ _ (sm _ _ hb)
  ·have:=bw kvs (.inr t) (V.int i)
   omega
  ·intro s
   rw[cH,Am,ht,Aj]
   by_cases q:s=t
   ·subst q
    simp
   ·rw[if_neg (fun z=>q (Sum.inr.inj z)),hin s]
    simp[q]
  ·intro s v e
   rw[cH] at e
   by_cases q:s=t
   ·subst q
    rw[if_pos rfl] at e
    exact⟨i,(Af e).symm,ht⟩
   ·rw[if_neg (fun z=>q (Sum.inr.inj z))] at e
    exact hat s v e
 ·rintro σ H' ⟨o1,o2,kvs,rfl,sm,hk,_,hin,hat⟩
  rw[z0,Ak (Aa _)] at hin
  exact⟨_,rfl,k d kvs H' sm hd hk hin hat⟩
theorem uI (l:K.lookup a=some ⟨.type "tuple",od,.seq us.toArray n,sl⟩) (hz:us.length<=1000) (r:Vals xs us):∀H,SqT K H a xs:=fun H =>
 .inr ⟨_,us.toArray,n,l,rfl,rfl,by rw[Au];exact Az hz (by decide),by rw[List.toList_toArray];exact r⟩
structure Ent where
 x:Str
 t:Tok
 a:Addr
def Ent.e (P:Params) (e:Ent):DictEntry:=⟨PyData.keyHash P e.x,.str e.x e.t,.ref e.a⟩
def Ent.kv (e:Ent):Key × Value:=(.inr e.x,.ref e.a)
theorem uy (l:List Ent) (h:K.lookup D0=some ⟨.type "dict",none,.dict (l.map (Ent.e w.params)).toArray ep,#[]⟩) (hs:(D0==sysModules)=false) (nd:(l.map (·.x)).Nodup):KD P w K D0 (l.map Ent.kv):=by
 refine⟨hs,_,_,ep,h,⟨rfl,rfl,rfl⟩,rfl,fun e he=>?_,?_,?_⟩
 ·have he:e∈l.map (Ent.e w.params):=by simpa using he
  obtain⟨q,_,rfl⟩:=Ag.mp he
  exact⟨.inr q.x,gu _ _ _ _,rfl⟩
 ·rw[List.toList_toArray]
  clear h nd
  induction l with
  | nil=>exact .nil
  | cons q r ih=>exact .cons (gu _ _ _ _) rfl ih
 ·rw[AQ]
  have e:l.map ((·.1) ∘ Ent.kv)=(l.map (·.x)).map (Sum.inr:Str->Key):=by rw[AQ];rfl
  rw[e]
  exact List.Pairwise.map _ (fun a b n q=>n (Sum.inr.inj q)) nd
theorem su:(["thing","tie","wait","untie","drop","group","open","want","unwant"]:List Str).Nodup:=by decide +kernel
theorem gg {x:Str}{t:Tok}{a:Addr}{l:List Ent}:valueAt (((⟨x,t,a⟩:Ent)::l).map Ent.kv) (.inr x)=some (.ref a):=by simp[valueAt,Ent.kv]
theorem eY {x w:Str}{t:Tok}{a:Addr}{l:List Ent}{v:Value}(h:x≠w) (r:valueAt (l.map Ent.kv) (.inr w)=some v):valueAt (((⟨x,t,a⟩:Ent)::l).map Ent.kv) (.inr w)=some v:=by
 have e:decide ((Ent.kv ⟨x,t,a⟩).1=(Sum.inr w:Key))=false:=Ay fun z=>h (Sum.inr.inj z)
 unfold valueAt at r ⊢
 rw[AD,A0]
 simp only[e]
 exact r
theorem ar1 {us:List Value}(h:us.length=1):∃a,us=[a]:=List.length_eq_one_iff.mp h
theorem ar2 {us:List Value}(h:us.length=2):∃a1 a2,us=[a1,a2]:=by
 obtain⟨a1,t,rfl⟩:=BY h
 obtain⟨a2,rfl⟩:=ar1 (Nat.succ.inj h)
 exact⟨a1,a2,rfl⟩
theorem ar3 {us:List Value}(h:us.length=3):∃a1 a2 a3,us=[a1,a2,a3]:=by
 obtain⟨a1,t,rfl⟩:=BY h
 obtain⟨a2,a3,rfl⟩:=ar2 (Nat.succ.inj h)
 exact⟨a1,a2,a3,rfl⟩
theorem ar4 {us:List Value}(h:us.length=4):∃a1 a2 a3 a4,us=[a1,a2,a3,a4]:=by
 obtain⟨a1,t,rfl⟩:=BY h
 obtain⟨a2,a3,a4,rfl⟩:=ar3 (Nat.succ.inj h)
 exact⟨a1,a2,a3,a4,rfl⟩
structure FH (K:W.Frag) (mg:Str->Option Value) (n:Str) (st:Stmt) (f:Addr) (fd:FuncData):Prop where
 F:Fun K n n st f fd
 g:mg n=some (.ref f)
theorem fh_mk {K:W.Frag}{h:Heap}{mg:Str->Option Value}{n:Str}{st:Stmt}{f:Addr}{od an:Option Addr}{sl:Array (Option Value)}{oc kV dc pm cd ct:Value}(X:K.In h) (G:h.Ns mainGlobals mg) (a:W.nsIn K mainGlobals n=some (some (.ref f)))
    (l:K.lookup f=some ⟨oc,od,.func (W.fnOf n n (dF st) (cM st) (aD st) .none kV dc pm an cd ct),sl⟩) (c:W.codeIn K cd n=true) (k:W.keepIn K (.ref f)=true) :
    FH K mg n st f (W.fnOf n n (dF st) (cM st) (aD st) .none kV dc pm an cd ct):=⟨yg l c k,W.mg_of X G a⟩
section
variable {K:W.Frag}{mg:Str->Option Value}{n:Str}{st:Stmt}{f:Addr}{fd:FuncData}{r:Nat}{sp:Sp}
theorem FH.bn {ps:List Str}(h:FH K mg n st f fd) (b:∀(kV doc pm:Value) (an:Option Addr) (cdv ct:Value) (us:List Value),us.length=ps.length->bindArgs (W.fnOf n n (dF st) (cM st) (aD st) .none kV doc pm an cdv ct) ⟨us,[]⟩=pure (ps.zip us):=by intro _ _ _ _ _ _ us hl;first | (obtain⟨_,rfl⟩:=ar1 hl;rfl) | (obtain⟨_,_,rfl⟩:=ar2 hl;rfl) | (obtain⟨_,_,_,rfl⟩:=ar3 hl;rfl) | (obtain⟨_,_,_,_,rfl⟩:=ar4 hl;rfl)):Binds K fd ps []:=h.F.binds b
theorem FH.cl (h:FH K mg n st f fd) (l:W.OpenLaw) (w:World) (base:Heap) {ps:List Str}(o:FnOk l.prog w K mg base CX0 r f fd ps sp) (b:∀(kV doc pm:Value) (an:Option Addr) (cdv ct:Value) (us:List Value),us.length=ps.length->bindArgs (W.fnOf n n (dF st) (cM st) (aD st) .none kV doc pm an cdv ct) ⟨us,[]⟩=pure (ps.zip us):=by intro _ _ _ _ _ _ us hl;first | (obtain⟨_,rfl⟩:=ar1 hl;rfl) | (obtain⟨_,_,rfl⟩:=ar2 hl;rfl) | (obtain⟨_,_,_,rfl⟩:=ar3 hl;rfl) | (obtain⟨_,_,_,_,rfl⟩:=ar4 hl;rfl)):Cal l.prog w K mg base r n ps sp:=⟨_,_,o,h.g,h.F.kp,h.F.binds b⟩
end
theorem all_mk {l:W.OpenLaw}{w:World}{K:W.Frag}{h:Heap}{mg:Str->Option Value}{fa f1 f2 f3 f4 f5 f6 f7 f8 f9 f10 f11 f12 f13 f14 f15 f16 f17 f18 f19 f20 f21 f22 f23 f24 f25 f26 f27 f28 f29 f30 f31 f32 f33 f34 f35 f36 f37 f38 f39 f40 f41 f42 f43 f44 f45 f46 f47 f48 f49 f50 f51 f52 f53 f54 f55 f56 f57 f58 f59 f60 f61 f62 f63 f64 f65:Addr}{d1 d2 d3 d4 d5 d6 d7 d8 d9 d10 d11 d12 d13 d14 d15 d16 d17 d18 d19 d20 d21 d22 d23 d24 d25 d26 d27 d28 d29 d30 d31 d32 d33 d34 d35 d36 d37 d38 d39 d40 d41 d42 d43 d44 d45 d46 d47 d48 d49 d50 d51 d52 d53 d54 d55 d56 d57 d58 d59 d60 d61 d62 d63 d64 d65:FuncData}(X:K.In h) (G:h.Ns mainGlobals mg) (hfa:mg "law"=some (.ref fa))
    (h1:FH K mg "is_name" kZ f1 d1)
    (h2:FH K mg "nexts" jX f2 d2)
    (h3:FH K mg "priors" i4 f3 d3)
    (h4:FH K mg "places_of" kP f4 d4)
    (h5:FH K mg "behinds" jm f5 d5)
    (h6:FH K mg "aheads" li f6 d6)
    (h7:FH K mg "way" yG f7 d7)
    (h8:FH K mg "first_nearer" kQ f8 d8)
    (h9:FH K mg "nexts_of_all" mJ f9 d9)
    (h10:FH K mg "priors_of_all" j7 f10 d10)
    (h11:FH K mg "steps_from" uw f11 d11)
    (h12:FH K mg "ring_by" pL f12 d12)
    (h13:FH K mg "children" lQ f13 d13)
    (h14:FH K mg "parting" ow f14 d14)
    (h15:FH K mg "homes" t6 f15 d15)
    (h16:FH K mg "parting_by" jP f16 d16)
    (h17:FH K mg "line_down" mE f17 d17)
    (h18:FH K mg "view" wS f18 d18)
    (h19:FH K mg "kept_partings" fu f19 d19)
    (h20:FH K mg "view_by" gM f20 d20)
    (h21:FH K mg "wanted" kX f21 d21)
    (h22:FH K mg "ring_of_tie" kh f22 d22)
    (h23:FH K mg "steps_along" gs f23 d23)
    (h24:FH K mg "step_of" qe f24 d24)
    (h25:FH K mg "with_row" jd f25 d25)
    (h26:FH K mg "with_tie" nU f26 d26)
    (h27:FH K mg "with_waiting" iN f27 d27)
    (h28:FH K mg "without" jx f28 d28)
    (h29:FH K mg "is_single" iA f29 d29)
    (h30:FH K mg "is_many" qh f30 d30)
    (h31:FH K mg "has_word" oz f31 d31)
    (h32:FH K mg "is_part" pP f32 d32)
    (h33:FH K mg "stretch" ii f33 d33)
    (h34:FH K mg "moves_of" hW f34 d34)
    (h35:FH K mg "moved" uq f35 d35)
    (h36:FH K mg "refuse" qK f36 d36)
    (h37:FH K mg "refuse_tie" kC f37 d37)
    (h38:FH K mg "need_units" kA f38 d38)
    (h39:FH K mg "need_parting" iS f39 d39)
    (h40:FH K mg "led_to" uA f40 d40)
    (h41:FH K mg "led_by_row" mh f41 d41)
    (h42:FH K mg "led_by_tie" lY f42 d42)
    (h43:FH K mg "paper_of" nA f43 d43)
    (h44:FH K mg "row_of_tie" lI f44 d44)
    (h45:FH K mg "is_deed" qF f45 d45)
    (h46:FH K mg "behind" pH f46 d46)
    (h47:FH K mg "is_deed_within" ip f47 d47)
    (h48:FH K mg "singles" ou f48 d48)
    (h49:FH K mg "behind_single" iq f49 d49)
    (h50:FH K mg "_law_pen" zv f50 d50)
    (h51:FH K mg "_law_draw" wA f51 d51)
    (h52:FH K mg "_law_names" nH f52 d52)
    (h53:FH K mg "_law_knots" iQ f53 d53)
    (h54:FH K mg "_law_line" jb f54 d54)
    (h55:FH K mg "_law_part" np f55 d55)
    (h56:FH K mg "_law_edges" mH f56 d56)
    (h57:FH K mg "_law_reached" oo f57 d57)
    (h58:FH K mg "_law_house" mm f58 d58)
    (h59:FH K mg "_law_step" oO f59 d59)
    (h60:FH K mg "_law_ring" jc f60 d60)
    (h61:FH K mg "_law_with" jk f61 d61)
    (h62:FH K mg "_law_laid" iU f62 d62)
    (h63:FH K mg "_law_pair" wH f63 d63)
    (h64:FH K mg "_law_is_kept" gV f64 d64)
    (h65:FH K mg "law" oT f65 d65)
    (B:Blt mg) (Zzip:mg "zip"=none) (Zsorted:mg "sorted"=none)
    {tk1:Tok} (y1:W.nsIn K mainGlobals "MOST_SIGNS"=some (some (.int 8 tk1)))
    {tk2:Tok} (y2:W.nsIn K mainGlobals "MOST_MANY"=some (some (.int 2 tk2)))
    {tk3:Tok} (y3:W.nsIn K mainGlobals "MOST_TIES"=some (some (.int 200 tk3)))
    {D0:Addr} {epD:Nat} {tD1 tD2 tD3 tD4 tD5 tD6 tD7 tD8 tD9:Tok} {sD1 sD2 sD3 sD4 sD5 sD6 sD7 sD8 sD9:Addr} (gD:W.nsIn K mainGlobals "PARTS"=some (some (.ref D0))) (lD:K.lookup D0=some ⟨.type "dict",none,.dict ([⟨PyData.keyHash w.params "thing",.str "thing" tD1,.ref sD1⟩,⟨PyData.keyHash w.params "tie",.str "tie" tD2,.ref sD2⟩,⟨PyData.keyHash w.params "wait",.str "wait" tD3,.ref sD3⟩,⟨PyData.keyHash w.params "untie",.str "untie" tD4,.ref sD4⟩,⟨PyData.keyHash w.params "drop",.str "drop" tD5,.ref sD5⟩,⟨PyData.keyHash w.params "group",.str "group" tD6,.ref sD6⟩,⟨PyData.keyHash w.params "open",.str "open" tD7,.ref sD7⟩,⟨PyData.keyHash w.params "want",.str "want" tD8,.ref sD8⟩,⟨PyData.keyHash w.params "unwant",.str "unwant" tD9,.ref sD9⟩]:List DictEntry).toArray epD,#[]⟩) (nD:(D0==sysModules)=false)
    {oP2:Option Addr} {uP2_0 uP2_1:Tok} {nP2:Nat} {lP2:Array (Option Value)} (qP2:K.lookup sD2=some ⟨.type "tuple",oP2,.seq ([.str "name" uP2_0,.str "name" uP2_1]:List Value).toArray nP2,lP2⟩)
    {oP3:Option Addr} {uP3_0 uP3_1:Tok} {nP3:Nat} {lP3:Array (Option Value)} (qP3:K.lookup sD3=some ⟨.type "tuple",oP3,.seq ([.str "name" uP3_0,.str "name" uP3_1]:List Value).toArray nP3,lP3⟩)
    {DR:Addr} {epR:Nat} {tR1 tR2 tR3 tR4 tR5 tR6 tR7 tR8 tR9:Tok} {rR1 rR4 rR5 rR6 rR7 rR8 rR9:Addr} (gR:W.nsIn K mainGlobals "REFUSALS"=some (some (.ref DR))) (lR:K.lookup DR=some ⟨.type "dict",none,.dict ([⟨PyData.keyHash w.params "thing",.str "thing" tR1,.ref rR1⟩,⟨PyData.keyHash w.params "tie",.str "tie" tR2,.ref f37⟩,⟨PyData.keyHash w.params "wait",.str "wait" tR3,.ref f37⟩,⟨PyData.keyHash w.params "untie",.str "untie" tR4,.ref rR4⟩,⟨PyData.keyHash w.params "drop",.str "drop" tR5,.ref rR5⟩,⟨PyData.keyHash w.params "group",.str "group" tR6,.ref rR6⟩,⟨PyData.keyHash w.params "open",.str "open" tR7,.ref rR7⟩,⟨PyData.keyHash w.params "want",.str "want" tR8,.ref rR8⟩,⟨PyData.keyHash w.params "unwant",.str "unwant" tR9,.ref rR9⟩]:List DictEntry).toArray epR,#[]⟩) (nR:(DR==sysModules)=false)
    : ∃fd:FuncData,(∀(s:Shared) (v:Value),BindsTo s fd ⟨[v],[]⟩ [("_law_script",v)])/\∀base:Heap,K.In base->base.Ns mainGlobals mg->FnOk l.prog w K mg base CX0 11 fa fd ["_law_script"] (mQ K):=by
 have e:=hfa.symm.trans h65.g
 cases e
 have TMOST_SIGNS:=W.mg_of X G y1
 have TMOST_MANY:=W.mg_of X G y2
 have TMOST_TIES:=W.mg_of X G y3
 have F65:=h65.F
 obtain⟨_,_,kV,dc,pm,an,cd,ct,_,rfl,_,_⟩:=F65.ex
 refine⟨W.fnOf "law" "law" (dF oT) (cM oT) (aD oT) .none kV dc pm an cd ct,fun s v=>.of_eq rfl,fun base XB GB=>?_⟩
 have TP:=W.mg_of X G gD
 have KP:KD l.prog w K D0 _:=uy [⟨"thing",tD1,sD1⟩,⟨"tie",tD2,sD2⟩,⟨"wait",tD3,sD3⟩,⟨"untie",tD4,sD4⟩,⟨"drop",tD5,sD5⟩,⟨"group",tD6,sD6⟩,⟨"open",tD7,sD7⟩,⟨"want",tD8,sD8⟩,⟨"unwant",tD9,sD9⟩] lD nD su
 have VP:=fun (wd:Str) (hw:wd="tie"∨wd="wait")=>(show ∃b,valueAt (List.map Ent.kv [⟨"thing",tD1,sD1⟩,⟨"tie",tD2,sD2⟩,⟨"wait",tD3,sD3⟩,⟨"untie",tD4,sD4⟩,⟨"drop",tD5,sD5⟩,⟨"group",tD6,sD6⟩,⟨"open",tD7,sD7⟩,⟨"want",tD8,sD8⟩,⟨"unwant",tD9,sD9⟩]) (.inr wd)=some (.ref b)/\∀H,SqT K H b [.str "name",.str "name"] by
  rcases hw with e | e <;> rw[e]
  ·exact⟨_,(eY (show ("thing":Str)≠"tie" by decide) gg),uI qP2 (Nat.le_of_ble_eq_true rfl) (.cons ⟨_,rfl⟩ (.cons ⟨_,rfl⟩ .nil))⟩
  ·exact⟨_,(eY (show ("thing":Str)≠"wait" by decide) (eY (show ("tie":Str)≠"wait" by decide) gg)),uI qP3 (Nat.le_of_ble_eq_true rfl) (.cons ⟨_,rfl⟩ (.cons ⟨_,rfl⟩ .nil))⟩)
 have TR:=W.mg_of X G gR
 have KR:KD l.prog w K DR _:=uy [⟨"thing",tR1,rR1⟩,⟨"tie",tR2,f37⟩,⟨"wait",tR3,f37⟩,⟨"untie",tR4,rR4⟩,⟨"drop",tR5,rR5⟩,⟨"group",tR6,rR6⟩,⟨"open",tR7,rR7⟩,⟨"want",tR8,rR8⟩,⟨"unwant",tR9,rR9⟩] lR nR su
 have c__law_pen:=h50.cl l w base (yM h50.F B)
 have c__law_draw:=h51.cl l w base (wY h51.F B)
 have c_is_name:=h1.cl l w base (sZ h1.F B TMOST_SIGNS)
 have c_has_word:=h31.cl l w base (zK h31.F B)
 have c_is_many:=h30.cl l w base (zI h30.F B c_has_word)
 have c_is_part:=h32.cl l w base (xo h32.F B c_is_name)
 have c_is_single:=h29.cl l w base (xy h29.F B Zzip TP KP VP c_has_word c_is_part)
 have c_is_deed_within:=h47.cl l w base (zX h47.F B c_is_many c_is_single)
 have c_is_deed:=h45.cl l w base (wZ h45.F B TMOST_MANY c_is_deed_within)
 have c_homes:=h15.cl l w base (vg h15.F B)
 have c_children:=h13.cl l w base (ph h13.F B)
 have c_wanted:=h21.cl l w base (td h21.F B)
 have c_with_row:=h25.cl l w base (pC h25.F B)
 have c__law_names:=h52.cl l w base (vk h52.F B c__law_draw)
 have c__law_knots:=h53.cl l w base (vM h53.F B c__law_draw)
 have c__law_line:=h54.cl l w base (xD h54.F B)
 have c__law_part:=h55.cl l w base (vx h55.F B c__law_line)
 have c__law_reached:=h57.cl l w base (tJ h57.F B)
 have c__law_edges:=h56.cl l w base (zj h56.F B c__law_part)
 have c__law_house:=h58.cl l w base (wg h58.F B c__law_draw c__law_names c__law_knots c__law_part c__law_edges c__law_reached)
 have c_places_ofD:=h4.cl l w base (rH h4.F B)
 have c_places_ofN:=h4.cl l w base (ua h4.F B)
 have c_line_down:=h17.cl l w base (vo h17.F B)
 have c_parting_by:=h16.cl l w base (rM h16.F B Zzip c_line_down)
 have c_parting:=h14.cl l w base (vS h14.F B c_homes c_parting_by)
 have c_kept_partings:=h19.cl l w base (vf h19.F B c_homes c_parting_by)
 have c_view_by:=h20.cl l w base (ue h20.F B c_children c_wanted c_places_ofD)
 have c_view:=h18.cl l w base (xi h18.F B c_view_by c_kept_partings)
 have c_nexts:=h2.cl l w base (uN h2.F B c_places_ofN)
 have c_priors:=h3.cl l w base (uf h3.F B c_places_ofN)
 have c_priors_of_all:=h10.cl l w base (jp h10.F B c_priors)
 have c_nexts_of_all:=h9.cl l w base (jV h9.F B c_nexts)
 have c_steps_from:=h11.cl l w base (uj h11.F B)
 have c_first_nearer:=h8.cl l w base (tK h8.F B c_nexts)
 have c_way:=h7.cl l w base (zw h7.F B c_steps_from c_priors_of_all c_first_nearer)
 have c_ring_by:=h12.cl l w base (rn h12.F B c_way)
 have c_behinds:=h5.cl l w base (rT h5.F B c_steps_from c_nexts_of_all)
 have c_aheads:=h6.cl l w base (tx h6.F B c_steps_from c_priors_of_all)
 have c_step_of:=h24.cl l w base (uC h24.F B Zzip)
 have c_steps_along:=h23.cl l w base (wc h23.F B Zzip c_kept_partings c_step_of)
 have c_ring_of_tie:=h22.cl l w base (pi h22.F B c_parting c_view c_ring_by c_steps_along)
 have c_stretch:=h33.cl l w base (rg h33.F B c_places_ofN c_behinds c_aheads)
 have c_moves_of:=h34.cl l w base (oV h34.F B Zsorted Zzip c_stretch c_places_ofN)
 have c_moved:=h35.cl l w base (vw h35.F B)
 have c_need_units:=h38.cl l w base (uZ h38.F B c_homes)
 have c_need_parting:=h39.cl l w base (uQ h39.F B c_parting)
 have c_refuse_tie:=h37.cl l w base (qC h37.F B TMOST_TIES c_need_units c_need_parting)
 have c_refuse:=h36.cl l w base (rE h36.F B TR KR (fun wd hw=>by rcases hw with e | e <;> rw[e];exact(eY (show ("thing":Str)≠"tie" by decide) gg);exact(eY (show ("thing":Str)≠"wait" by decide) (eY (show ("tie":Str)≠"wait" by decide) gg))) h37.F.kp (qC h37.F B TMOST_TIES c_need_units c_need_parting) h37.bn)
 have c_row_of_tie:=h44.cl l w base (xk h44.F B c_ring_of_tie c_parting c_moves_of c_view c_children)
 have c_paper_of:=h43.cl l w base (sk h43.F B c_is_single c_refuse c_row_of_tie)
 have c_without:=h28.cl l w base (qZ h28.F B)
 have c_with_tie:=h26.cl l w base (qT h26.F B c_without)
 have c_with_waiting:=h27.cl l w base (oW h27.F B)
 have c_led_by_row:=h41.cl l w base (tI h41.F B c_parting c_with_row c_moved c_children c_with_tie)
 have c_led_by_tie:=h42.cl l w base (w6 h42.F B c_with_waiting c_led_by_row)
 have c_led_to:=h40.cl l w base (vj h40.F B c_led_by_tie)
 have c_singles:=h48.cl l w base (pz h48.F B)
 have c_behind_single:=h49.cl l w base (wv h49.F B c_paper_of c_led_to)
 have c_behind:=h46.cl l w base (xM h46.F B c_is_deed c_singles c_behind_single)
 have c__law_step:=h59.cl l w base (wu h59.F B c__law_part)
 have c__law_ring:=h60.cl l w base (vR h60.F B c__law_part c__law_edges c__law_step)
 have c__law_with:=h61.cl l w base (vP h61.F B)
 have c__law_laid:=h62.cl l w base (vz h62.F B Zzip c__law_part c__law_edges c__law_reached c__law_with)
 have c__law_pair:=h63.cl l w base (u4 h63.F B c__law_draw c__law_part)
 have c__law_is_kept:=h64.cl l w base (xP h64.F B c__law_part c__law_ring)
 exact yf F65 B c__law_pen c__law_draw c__law_house c__law_pair c__law_ring c__law_laid c_behind c__law_is_kept
theorem walk {l:W.OpenLaw}{q:Program}{loose:List Str}{XP:(Str -> Option Value) -> Heap -> Prop}{YP:World -> Heap -> Prop}{d:DefRec}{K:Params -> W.Frag}(hn:l.most=some 63) (hdf:d.params.defaults=[])
    (hY:∀(w:World) (h:Heap),YP w h->(K w.params).In h)
    (F:∀(w:World) (mg:Str->Option Value) (fa:Addr) (h:Heap),(K w.params).In h->h.Ns mainGlobals mg->mg d.name=some (.ref fa) ->
     ∃fd:FuncData,(∀(s:Shared) (u:Value),BindsTo s fd ⟨[u],[]⟩ [("_law_script",u)])/\∀base:Heap,(K w.params).In base->base.Ns mainGlobals mg->FnOk l.prog w (K w.params) mg base CX0 11 fa fd ["_law_script"] (mQ (K w.params))) :
    W.WalkO q loose XP YP l.row.toRowW d [] (fun f vs=>PySem.call f vs) :=
 L2.walk_of (n:=63) (k:=11) (x:="_law_script") (CX:=fun _=>CX0) (sp:=fun w=>mQ (K w.params)) hn (by decide) hdf ⟨rfl,by decide,by decide,rfl⟩ hY F (fun _ _ a ns hl _ hS=>⟨a,ns,rfl,hS,fun _=>rfl⟩) fun _ _ _ _ _ z=>z
end
end K49
open PySem PySem.W PyProof.Rows
set_option maxRecDepth 100000 in
set_option maxHeartbeats 0 in
theorem PySem.Challenge.cw_orderkeep_k49_ties_that_wait_holds : PySem.Challenge.rw_orderkeep_k49_ties_that_wait.Holds := by
 w_on;o_law;k_head;(case hw=>w_witness2)
 k_fill
 refine K49.walk (l:=PySem.Challenge.rw_orderkeep_k49_ties_that_wait) rfl rfl (fun w h Y=>W.km_in_of Y) ?F
 case F =>
  intro w mg fa h KX G hmg
  refine' K49.all_mk KX G hmg (K49.fh_mk KX G ?a1 ?l1 ?c1 ?k1) (K49.fh_mk KX G ?a2 ?l2 ?c2 ?k2) (K49.fh_mk KX G ?a3 ?l3 ?c3 ?k3) (K49.fh_mk KX G ?a4 ?l4 ?c4 ?k4) (K49.fh_mk KX G ?a5 ?l5 ?c5 ?k5) (K49.fh_mk KX G ?a6 ?l6 ?c6 ?k6) (K49.fh_mk KX G ?a7 ?l7 ?c7 ?k7) (K49.fh_mk KX G ?a8 ?l8 ?c8 ?k8) (K49.fh_mk KX G ?a9 ?l9 ?c9 ?k9) (K49.fh_mk KX G ?a10 ?l10 ?c10 ?k10) (K49.fh_mk KX G ?a11 ?l11 ?c11 ?k11) (K49.fh_mk KX G ?a12 ?l12 ?c12 ?k12) (K49.fh_mk KX G ?a13 ?l13 ?c13 ?k13) (K49.fh_mk KX G ?a14 ?l14 ?c14 ?k14) (K49.fh_mk KX G ?a15 ?l15 ?c15 ?k15) (K49.fh_mk KX G ?a16 ?l16 ?c16 ?k16) (K49.fh_mk KX G ?a17 ?l17 ?c17 ?k17) (K49.fh_mk KX G ?a18 ?l18 ?c18 ?k18) (K49.fh_mk KX G ?a19 ?l19 ?c19 ?k19) (K49.fh_mk KX G ?a20 ?l20 ?c20 ?k20) (K49.fh_mk KX G ?a21 ?l21 ?c21 ?k21) (K49.fh_mk KX G ?a22 ?l22 ?c22 ?k22) (K49.fh_mk KX G ?a23 ?l23 ?c23 ?k23) (K49.fh_mk KX G ?a24 ?l24 ?c24 ?k24) (K49.fh_mk KX G ?a25 ?l25 ?c25 ?k25) (K49.fh_mk KX G ?a26 ?l26 ?c26 ?k26) (K49.fh_mk KX G ?a27 ?l27 ?c27 ?k27) (K49.fh_mk KX G ?a28 ?l28 ?c28 ?k28) (K49.fh_mk KX G ?a29 ?l29 ?c29 ?k29) (K49.fh_mk KX G ?a30 ?l30 ?c30 ?k30) (K49.fh_mk KX G ?a31 ?l31 ?c31 ?k31) (K49.fh_mk KX G ?a32 ?l32 ?c32 ?k32) (K49.fh_mk KX G ?a33 ?l33 ?c33 ?k33) (K49.fh_mk KX G ?a34 ?l34 ?c34 ?k34) (K49.fh_mk KX G ?a35 ?l35 ?c35 ?k35) (K49.fh_mk KX G ?a36 ?l36 ?c36 ?k36) (K49.fh_mk KX G ?a37 ?l37 ?c37 ?k37) (K49.fh_mk KX G ?a38 ?l38 ?c38 ?k38) (K49.fh_mk KX G ?a39 ?l39 ?c39 ?k39) (K49.fh_mk KX G ?a40 ?l40 ?c40 ?k40) (K49.fh_mk KX G ?a41 ?l41 ?c41 ?k41) (K49.fh_mk KX G ?a42 ?l42 ?c42 ?k42) (K49.fh_mk KX G ?a43 ?l43 ?c43 ?k43) (K49.fh_mk KX G ?a44 ?l44 ?c44 ?k44) (K49.fh_mk KX G ?a45 ?l45 ?c45 ?k45) (K49.fh_mk KX G ?a46 ?l46 ?c46 ?k46) (K49.fh_mk KX G ?a47 ?l47 ?c47 ?k47) (K49.fh_mk KX G ?a48 ?l48 ?c48 ?k48) (K49.fh_mk KX G ?a49 ?l49 ?c49 ?k49) (K49.fh_mk KX G ?a50 ?l50 ?c50 ?k50) (K49.fh_mk KX G ?a51 ?l51 ?c51 ?k51) (K49.fh_mk KX G ?a52 ?l52 ?c52 ?k52) (K49.fh_mk KX G ?a53 ?l53 ?c53 ?k53) (K49.fh_mk KX G ?a54 ?l54 ?c54 ?k54) (K49.fh_mk KX G ?a55 ?l55 ?c55 ?k55) (K49.fh_mk KX G ?a56 ?l56 ?c56 ?k56) (K49.fh_mk KX G ?a57 ?l57 ?c57 ?k57) (K49.fh_mk KX G ?a58 ?l58 ?c58 ?k58) (K49.fh_mk KX G ?a59 ?l59 ?c59 ?k59) (K49.fh_mk KX G ?a60 ?l60 ?c60 ?k60) (K49.fh_mk KX G ?a61 ?l61 ?c61 ?k61) (K49.fh_mk KX G ?a62 ?l62 ?c62 ?k62) (K49.fh_mk KX G ?a63 ?l63 ?c63 ?k63) (K49.fh_mk KX G ?a64 ?l64 ?c64 ?k64) (K49.fh_mk KX G ?a65 ?l65 ?c65 ?k65) ⟨W.mg_none_of KX G ?z1,W.mg_none_of KX G ?z2,W.mg_none_of KX G ?z3,W.mg_none_of KX G ?z4,W.mg_none_of KX G ?z5,W.mg_none_of KX G ?z6,W.mg_none_of KX G ?z7,W.mg_none_of KX G ?z8,W.mg_none_of KX G ?z9,W.mg_none_of KX G ?z10,W.mg_none_of KX G ?z11,W.mg_none_of KX G ?z12,W.mg_none_of KX G ?z13,W.mg_none_of KX G ?z14,W.mg_none_of KX G ?z15⟩ (W.mg_none_of KX G ?z16) (W.mg_none_of KX G ?z17) ?y1 ?y2 ?y3 ?gD ?lD ?nD ?qP2 ?qP3 ?gR ?lR ?nR
  (case a1 | l1 | c1 | k1 | a2 | l2 | c2 | k2 | a3 | l3 | c3 | k3 | a4 | l4 | c4 | k4 | a5 | l5 | c5 | k5 | a6 | l6 | c6 | k6 | a7 | l7 | c7 | k7 | a8 | l8 | c8 | k8 | a9 | l9 | c9 | k9 | a10 | l10 | c10 | k10=>k_is)
  (case a11 | l11 | c11 | k11 | a12 | l12 | c12 | k12 | a13 | l13 | c13 | k13 | a14 | l14 | c14 | k14 | a15 | l15 | c15 | k15 | a16 | l16 | c16 | k16 | a17 | l17 | c17 | k17 | a18 | l18 | c18 | k18 | a19 | l19=>k_is)
  (case c19 | k19 | a20 | l20 | c20 | k20 | a21 | l21 | c21 | k21 | a22 | l22 | c22 | k22 | a23 | l23 | c23 | k23 | a24 | l24 | c24 | k24 | a25 | l25 | c25 | k25 | a26 | l26 | c26 | k26 | a27 | l27 | c27 | k27=>k_is)
  (case a28 | l28 | c28 | k28 | a29 | l29 | c29 | k29 | a30 | l30 | c30 | k30 | a31 | l31 | c31 | k31 | a32 | l32 | c32 | k32 | a33 | l33 | c33 | k33 | a34 | l34 | c34 | k34 | a35 | l35 | c35 | k35 | a36 | l36=>k_is)
  (case c36 | k36 | a37 | l37 | c37 | k37 | a38 | l38 | c38 | k38 | a39 | l39 | c39 | k39 | a40 | l40 | c40 | k40 | a41 | l41 | c41 | k41 | a42 | l42 | c42 | k42 | a43 | l43 | c43 | k43 | a44 | l44 | c44 | k44=>k_is)
  (case a45 | l45 | c45 | k45 | a46 | l46 | c46 | k46 | a47 | l47 | c47 | k47 | a48 | l48 | c48 | k48 | a49 | l49 | c49 | k49 | a50 | l50 | c50 | k50 | a51 | l51 | c51 | k51 | a52 | l52 | c52 | k52 | a53 | l53=>k_is)
  (case c53 | k53 | a54 | l54 | c54 | k54 | a55 | l55 | c55 | k55 | a56 | l56 | c56 | k56 | a57 | l57 | c57 | k57 | a58 | l58 | c58 | k58 | a59 | l59 | c59 | k59 | a60 | l60 | c60 | k60 | a61 | l61 | c61 | k61=>k_is)
  (case a62 | l62 | c62 | k62 | a63 | l63 | c63 | k63 | a64 | l64 | c64 | k64 | a65 | l65 | c65 | k65 | z1 | z2 | z3 | z4 | z5 | z6 | z7 | z8 | z9 | z10 | z11 | z12 | z13 | z14 | z15 | z16 | z17 | y1 | y2 | y3=>k_is)
  (case gD | lD=>k_is)
  (case nD=>exact rfl)
  (case qP2 | qP3 | gR | lR=>k_is)
  (case nR=>exact rfl)
end
