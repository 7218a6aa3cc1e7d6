import PyProof.Rows.All
import Wide.All
import OpenK.AllK
import Wide.FinOn
import Lean
import PyProof.EqAt
import PyProof.EqKinds
import PyProof.TupleCall
import PyProof.Rows.SumAny
import PyProof.StationsW
import PyProof.ExcClass3
import OpenK.KOwn
import KE.KTryDeep
import KE.KIsAll
import PyProof.ExcAttrAll.ValueError
import PyProof.ExcBaseAll.ValueError
import PyProof.InstStoreFacts
import PyProof.RulesTry
import PyProof.Rows.SortStr
import PyProof.TupleOfSeq
import KE.KxWritten
import PyProof.Conv_bool
import KE.KStrOpen
import PyProof.Rows.FStr
import PyProof.SetRoads
import PyProof.DictKinds
import PyProof.Rows.Range3
import PyProof.AttrMissHeap
import KE.KDictOf
import PyProof.StrOps2
import PyProof.DictWalks
import KE.KDictList
import PyProof.Rows.ZipGen
import PySem.Challenge.RW_orderkeep_k56_what_is_a_deed
namespace PySem.W.Fast
def tw15655623266364562236:=0
def tw6029827524993261220:=0
def tw4646650998094663199:=0
def tw146588178662432950:=0
def tw16575617989895680755:=0
def tw8297518488691121748:=0
def tw1945453457256546808:=0
def tw5192247984273996848:=0
def tw17990543808930436704:=0
def tw7527315244426296901:=0
def tw14900279085516735161:=0
def tw6129130465981877547:=0
def tw5353557260119348454:=0
def tw16739222656647853897:=0
def tw14668803387285902567:=0
def tw7447479575748956441:=0
def tw11212271139994862875:=0
def tw18005909916458232053:=0
def tw16594282779955525947:=0
def tw7802081865524223920:=0
def tw7774808501793222253:=0
def tw13236180353269370678:=0
def tw9175258394440617691:=0
def tw62307480676838409:=0
def tw9555281856071289341:=0
def tw15752817870616494067:=0
def tw174167596797343904:=0
def tw4288458088114233081:=0
def tw1969382242155653984:=0
def tw3463163666317794728:=0
def tw2450552246340980537:=0
def tw7493939267860458350:=0
def tw13857534748619230787:=0
def tw11839440368075086726:=0
def tw955704330602205719:=0
def tw1468718289704480511:=0
def tw13868500244385132731:=0
def tw1120142894835596640:=0
def tw12168518715166976624:=0
def tw12356854437623320181:=0
def tw1361074105022266578:=0
def tw15016277233901235999:=0
def tw15199562381777174120:=0
def tw3298181298776672826:=0
def tw4629522390373993992:=0
def tw7115716025452943306:=0
def tw259695962935460163:=0
def tw16634892443397682915:=0
def tw4396231549978889183:=0
def tw1606597490179247627:=0
def tw12642403079191669489:=0
def tw16797867186894780195:=0
def tw4947500352027324053:=0
def tw2864730709297448555:=0
def tw11101740377345582188:=0
def tw6039893588393438920:=0
def tw12518157363999079641:=0
def tw4538557898920801783:=0
def tw7649577529225493287:=0
def tw16828146196652983795:=0
def tw694642169023998197:=0
def tw16764962785603305671:=0
def tw8351007729354685745:=0
def tw17500617310760448182:=0
def tw15493125295434005073:=0
def tw366477367905242059:=0
def tw13812468383408832611:=0
def tw4358144270065469138:=0
def tw2037787463866256589:=0
def tw9380737216747015624:=0
def tw11359495564016503650:=0
def tw18199176508340301236:=0
def tw16311478007382439284:=0
def tw15499199170568414372:=0
def tw4778422752306888961:=0
def tw13657726446297798670:=0
def tw12576222158937745463:=0
def tw3515846347495640765:=0
def tw6304376071545137290:=0
def tw648279855893050057:=0
def tw14468688415433198353:=0
def tw2752672887558636137:=0
def tw932140658295348268:=0
def tw907712260163571787:=0
def tw5670237985203207917:=0
def tw2333844039502917184:=0
def tw2460973560924633914:=0
def tw16856670611527496783:=0
def tw3135852585278669238:=0
def tw967670668598463537:=0
def tw1004213230878250001:=0
def tw5350234222807866616:=0
def tw15977987435950235730:=0
def tw7292852433147122494:=0
def tw15931122831227712160:=0
def tw9301250974830284043:=0
def tw16724361786909702901:=0
def tw13874339357384579500:=0
def tw17876913533437651043:=0
def tw15823487573263376996:=0
def tw5459739439380097336:=0
def tw13615560184591460735:=0
def tw13641474459694886812:=0
def tw16581554768213371110:=0
def tw9806954360658410831:=0
def tw10566023591200794325:=0
def tw2628009940088121430:=0
def tw60672449040553855:=0
def tw4070967742403741138:=0
def tw9574419655149198405:=0
def tw7944058173778082709:=0
def tw6007569652565094098:=0
def tw2627092149271953510:=0
def tw13095473069462523461:=0
def tw2515334454579368854:=0
def tw14523679635863442276:=0
def tw12541967575148253036:=0
def tw16236292870445783884:=0
def tw7877626682692711198:=0
def tw11830070546271136481:=0
def tw3842080180704583708:=0
def tw9863476041242529752:=0
def tw16847205796136394986:=0
def tw13389368198921790456:=0
def tw2665961368784149762:=0
def tw960793481524766011:=0
def tw1244677631962081364:=0
def tw15483236022363540905:=0
def tw11108798340901009004:=0
def tw10830624070006311486:=0
def tw16543751756092726312:=0
def tw811235418781733130:=0
def tw15004558171961559226:=0
def tw6284137155939732242:=0
def tw14575097259615556611:=0
def tw14636871509502379398:=0
def tw13000854566092779714:=0
def tw2556713440526004084:=0
def tw10091538440725785047:=0
def tw10232002223154581745:=0
def tw13878585137098872824:=0
def tw16968978110529042890:=0
def tw626678827254798180:=0
def tw6860386117856432332:=0
def tw2431722672917111571:=0
def tw18107268411894176421:=0
def tw1829495005425053141:=0
def tw8208251860184162595:=0
def tw18313051620648110052:=0
def tw14994747575165811670:=0
def tw4712623480582726707:=0
def tw13428954600590142068:=0
def tw11052065923151321111:=0
def tw2953143873040936414:=0
def tw8691221921139248910:=0
def tw2019348188247033177:=0
def tw4005345195686140806:=0
def tw16177265020086566694:=0
def tw13446534538280246450:=0
def tw11043296502389101607:=0
def tw18268758223760440924:=0
def tw12392496797211227261:=0
def tw15599387188152451355:=0
def tw6106116573017676756:=0
def tw5410188477124339646:=0
def tw6367138401795953994:=0
def tw18218693152872355943:=0
def tw17775849395757460271:=0
def tw12990342157049050771:=0
def tw16648505860150786335:=0
def tw12471486242664631379:=0
def tw5905556935527464994:=0
def tw4594886984224031165:=0
def tw1582016245760451954:=0
def tw17339859787720998567:=0
def tw12703665090917423257:=0
def tw7781563154972161607:=0
def tw13259609237600498249:=0
def tw8122132469347480126:=0
def tw15150346439121797508:=0
def tw6257475576661454328:=0
def tw8882832568696417114:=0
def tw2905610011060347783:=0
def tw6638615828041446595:=0
def tw17898186890294532253:=0
def tw4391892370095612758:=0
def tw13601787636934256465:=0
def tw11937342738517723747:=0
def tw2258922480815158637:=0
def tw5882689742398344214:=0
def tw7447066738406454195:=0
def tw17490103168948473797:=0
def tw14438568936876600285:=0
def tw10492128248158135563:=0
def tw9091736493905126968:=0
def tw17712248146413906388:=0
def tw6247085106122433926:=0
def tw15538652472046686850:=0
def tw9576115013648475564:=0
def tw15121151917434129273:=0
def tw16668936226355024993:=0
def tw3996812659670841209:=0
def tw18143791478727384267:=0
def tw1747190646614975601:=0
def tw9744959746462162632:=0
def tw1221155822173566625:=0
def tw661386703283341510:=0
def tw14554104836269001857:=0
def tw11571185992228437197:=0
def tw1501782108597465790:=0
def tw16476223689756937491:=0
def tw10974183063457118242:=0
def tw17167439016503946632:=0
def tw3404322187676528564:=0
def tw13478095225815811182:=0
def tw8460881323647728852:=0
def tw3054200139534861848:=0
def tw10321212907831411312:=0
def tw11223748874475539665:=0
def tw16442267745108362100:=0
def tw6120220409337571383:=0
def tw12819515819641344224:=0
def tw10886818768479727632:=0
def tw18134002321999665484:=0
def tw14308439039968149234:=0
def tw6849672350004411113:=0
def tw17886075310273353808:=0
def tw2863896887288499795:=0
def tw6720353903280118162:=0
def tw534831656197025890:=0
def tw16426983374621514163:=0
def tw11506272706844389708:=0
def tw11013411600779341847:=0
def tw10197911026737495491:=0
def tw11957496226687788466:=0
def tw4454314823615915824:=0
def tw288320723299647322:=0
def tw10607690644296803823:=0
def tw11394621528603900085:=0
def tw8834957853887320665:=0
def tw11869933079270458413:=0
def tw4443270527683389612:=0
def tw15410427510362683119:=0
def tw15433610284281565453:=0
def tw3824012509904871641:=0
def tw10378989986770352843:=0
def tw16056039223696135670:=0
def tw4453697032477135266:=0
def tw12549150487486822340:=0
def tw8712135185757290439:=0
def tw7787215512776385890:=0
def tw8171775050584297925:=0
def tw228744142639926189:=0
def tw8451230378439735749:=0
def tw9391271362043017374:=0
def tw10928273365461559757:=0
def tw4170607124923114290:=0
def tw7453945190198052442:=0
def tw17927173518483608109:=0
def tw9709233565062085803:=0
def tw7124942938661219029:=0
def tw2612150767505258127:=0
def tw7938700921020850384:=0
def tw3217773332042632744:=0
def tw3839974722815448825:=0
def tw2693835208485050717:=0
def tw8116916846788702437:=0
def tw15859863443603467663:=0
def tw10017879206284914576:=0
def tw8446499061316631681:=0
def tw15600790308084711268:=0
def tw13102541142817548210:=0
def tw7661947357313838934:=0
def tw458984462035003642:=0
def tw1858205941123867626:=0
def tw7478449464055057486:=0
def tw13284906704680734005:=0
def tw1742606575484346747:=0
def tw11924545352610960858:=0
def tw15654913305362317305:=0
def tw4992620579386827648:=0
def tw4255949864380008347:=0
def tw17101042970739729260:=0
def tw9566817415457170504:=0
def tw2310573249639541434:=0
def tw10692418936150540858:=0
def tw9055958075484414436:=0
def tw9117883521613146090:=0
def tw511849815093348153:=0
def tw10831856369952353174:=0
def tw1929943885406508591:=0
def tw7883218268548844514:=0
def tw17215305280017217895:=0
def tw4550189593083973999:=0
def tw17004529189478905851:=0
def tw5282224448289180960:=0
def tw6367413176474392174:=0
def tw10659730295989161503:=0
def tw15343760911364285811:=0
def tw3198871032099634891:=0
def tw2678075915473829544:=0
def tw17021129724393903366:=0
def tw10666582738514859143:=0
def tw10469248390296944698:=0
def tw4316804241260680211:=0
def tw5079345598148596824:=0
def tw7870912610430251954:=0
def tw12875886287859975920:=0
def tw14576359845514294141:=0
def tw3359263604047949306:=0
def tw9800881304792249449:=0
def tw9739352386213045741:=0
def tw5590671035292473228:=0
def tw1678029407365999661:=0
def tw2816887172725381272:=0
def tw1321008374507731514:=0
def tw10219002329917199764:=0
def tw4196694751621303579:=0
def tw9903930004016137401:=0
def tw7225629100624962437:=0
def tw13201991608699119532:=0
def tw14251955247011962982:=0
def tw13974609384178594848:=0
def tw6715654073691592931:=0
def tw6201150479855109268:=0
def tw5795906212120187503:=0
def tw3769976658501516685:=0
def tw13773779440359582216:=0
def tw5376077099395593706:=0
def tw7027160003316534673:=0
def tw2792210804496346290:=0
def tw6346595105988542619:=0
def tw15354729109406036582:=0
def tw3283766326966522242:=0
def tw5903434874163094054:=0
def tw5023260567938663174:=0
def tw8196473131949016699:=0
def tw15886363954231068702:=0
def tw16873107499172267642:=0
def tw12440768228610815786:=0
def tw9391341118523805548:=0
def tw11676213603311369685:=0
def tw11124305764681519964:=0
def tw6042691118217258518:=0
def tw335412553268644498:=0
def tw1690479703028652168:=0
def tw11822443046508772695:=0
def tw14162991565124852200:=0
def tw5651121835951977926:=0
def tw17608105118151001786:=0
def tw325279339545791700:=0
def tw1275066733828347547:=0
def tw4504183591736862441:=0
def tw3269802881771807741:=0
def tw6080267421173486257:=0
def tw89038243908741185:=0
def tw15761431827595739134:=0
def tw7237698228377110707:=0
def tw2276938479902041610:=0
def tw14254352284193630480:=0
def tw733884979695814868:=0
def tw10075729226985298770:=0
def tw5653225467607709803:=0
def tw8445709272671932547:=0
def tw17696342393712504245:=0
def tw18393135269070650831:=0
def tw9612101948660136092:=0
def tw12708971357364881517:=0
def tw14195858981882862909:=0
def tw14162947133880293572:=0
def tw9435311045111816254:=0
def tw15414425233730864531:=0
def tw18087419669239915443:=0
def tw61319700916236906:=0
def tw7432570673260181531:=0
def tw4430265635343874790:=0
def tw10037636123785142679:=0
def tw2679037318033392257:=0
def tw2948164554163473688:=0
def tw2068287137635903596:=0
def tw4300166147592315537:=0
def tw4345201342681413417:=0
def tw6292450966338404492:=0
def tw15776399858682105269:=0
def tw6743133981812945901:=0
def tw11649809743584401200:=0
def tw4375746626593399460:=0
def tw14977083010935104449:=0
def tw15226029399463224218:=0
def tw8500163468051745963:=0
def tw8984751983888154810:=0
def tw15522920311270226233:=0
def tw16535687879189987765:=0
def tw8018860244514529864:=0
def tw6477095746288906065:=0
def tw15997308936359456864:=0
def tw15882940660731279742:=0
def tw7814787120190824468:=0
def tw12080128301401458690:=0
def tw2525501256375148300:=0
def tw9322294945373861688:=0
def tw12829567167983534257:=0
def tw5913959014311340884:=0
def tw12579501475574284511:=0
def tw3841825077335538889:=0
def tw687164296621410466:=0
def tw9806339382667806125:=0
def tw2669235276333918339:=0
def tw4091468890096891924:=0
def tw1901772329493176683:=0
def tw6888181187597517575:=0
def tw16831461599051331877:=0
def tw16541799330949046609:=0
def tw16410083537026077081:=0
def tw3548109194117661556:=0
def tw3262133098845291764:=0
def tw8634228845162187806:=0
def tw11949778845468317675:=0
def tw5468373484571380912:=0
def tw9933385922279591002:=0
def tw6972544978025883131:=0
def tw12744216441812517180:=0
def tw4390330405838510871:=0
def tw5051452479601158530:=0
def tw9657257945456517870:=0
def tw7377103944894120362:=0
def tw10415846364212365089:=0
def tw1634780700996654154:=0
def tw18058971826336599491:=0
def tw15822929154665672581:=0
def tw12784184437650622053:=0
def tw10249730184655433043:=0
def tw11253985542575263350:=0
def tw2723318295482767315:=0
def tw18115827247029927200:=0
def tw10666477283284138923:=0
def tw8197064489711133798:=0
def tw5105733173221131777:=0
def tw6147481014811707864:=0
def tw12117866941514620615:=0
def tw15215937805592812824:=0
def tw17573221142532957487:=0
def tw8824454481206228946:=0
def tw6673432174337187117:=0
def tw4714665878131869580:=0
def tw17094369715926757697:=0
def tw4301634512028501646:=0
def tw2208599689113173511:=0
def tw5423262650374218083:=0
def tw12376973572189417894:=0
def tw2092398833707425650:=0
def tw2969294590357209088:=0
def tw11616709310695642925:=0
def tw9504370032820244087:=0
def tw3053111159734980793:=0
def tw458096109235204601:=0
def tw14423063456551993260:=0
def tw13210454912548661847:=0
def tw12634302793217927189:=0
def tw15415057927093947750:=0
def tw1738950683788726982:=0
def tw12174870087924114182:=0
def tw4382596945412685346:=0
def tw11451461252042719956:=0
def tw15871053533457658352:=0
def tw11312524144747340383:=0
def tw975509570326161377:=0
def tw15926958056226420191:=0
def tw6752790410564904161:=0
def tw12649475083590265085:=0
def tw17650135056930592361:=0
def tw3610152359911901622:=0
def tw17914215360541255241:=0
def tw905284190662334493:=0
def tw5041633658532361806:=0
def tw7141582608875105692:=0
def tw6305476793971327926:=0
def tw790753459171380765:=0
def tw201901661973103814:=0
def tw1651671993850618801:=0
def tw5541509234533391652:=0
def tw196659690808752708:=0
def tw7581979139869944694:=0
def tw5423362768080311835:=0
def tw5514552319145829511:=0
def tw16872659613289482077:=0
def tw11509655180128602308:=0
def tw1160161339700446971:=0
def tw2101266542593255679:=0
def tw17408025346521131664:=0
def tw4232345326365611263:=0
def tw1184445102587486014:=0
def tw6562204167763993750:=0
def tw13970949639026528517:=0
def tw13015318051212386459:=0
def tw9100040202022079276:=0
def tw12565342192390365749:=0
def tw16537436619872162646:=0
def tw6791791390663338028:=0
def tw7698472933761890245:=0
def tw12499519125698174367:=0
def tw5457623227892027941:=0
def tw8276709677643922123:=0
def tw8931354172257282158:=0
def tw14674113802021890961:=0
def tw12032942737783323453:=0
def tw17132989124349400494:=0
def tw16070903942252186385:=0
def tw10339000648886329274:=0
def tw7849613369222049105:=0
def tw7274759435871549277:=0
def tw1538435035582584390:=0
def tw761254973303772764:=0
def tw8276035357746702767:=0
def tw12022551690094633204:=0
def tw12761538832039472093:=0
def tw5854791017093407054:=0
def tw4491147666774176208:=0
def tw17331630044968419152:=0
def tw9759901172881519388:=0
def tw1186778584329960006:=0
def tw6025010822787345435:=0
def tw13873796017367114256:=0
def tw7315380364392950031:=0
def tw10771557031298714102:=0
def tw18249160486899029128:=0
def tw13366774757426757255:=0
def tw3386075658741093271:=0
def tw1285450764279036930:=0
def tw6823930850120038628:=0
def tw9835265727717849266:=0
def tw9574196192738717738:=0
def tw6535790974921822092:=0
def tw8509331864484243501:=0
def tw914653212310882380:=0
def tw4346365351137259247:=0
def tw4823464334098613971:=0
def tw4492179250430606220:=0
def tw1091736423161791426:=0
def tw3173887853481389799:=0
def tw894523640104068409:=0
def tw7040009222861798766:=0
def tw7045696743718766971:=0
def tw14532586235679236600:=0
def tw9722559961679364061:=0
def tw3824917351125405432:=0
def tw1255788899071361086:=0
def tw10470647761716726939:=0
def tw16794705235165878562:=0
def tw12276437056969477158:=0
def tw3554643654203378083:=0
def tw11287281341687721347:=0
def tw12381690681015713600:=0
def tw2183728846821288145:=0
def tw464190680754378916:=0
def tw148101682710972370:=0
def tw5518946707478376198:=0
def tw16084474112515932846:=0
def tw2253892082749220543:=0
def tw3097896933864974013:=0
def tw17978570951754007172:=0
def tw12791510398903027653:=0
def tw570384660595930681:=0
def tw7274994897353443206:=0
def tw5340534603774911265:=0
def tw13085117340995965843:=0
def tw4028548245639219394:=0
def tw4574224260744900645:=0
def tw14276280713069886680:=0
def tw15177613271259568706:=0
def tw17749628409407361435:=0
def tw17487742038823024269:=0
def tw11095444561232782772:=0
def tw10258352941308900455:=0
def tw5984683568116223042:=0
def tw12461123992936019485:=0
def tw8198648580038511083:=0
def tw14768439266950411849:=0
def tw1832523217405064989:=0
def tw9114938871631823537:=0
def tw13307262410815767548:=0
def tw17079274185731034691:=0
def tw14367768309765034580:=0
def tw13387602705890134534:=0
def tw16467468957921624860:=0
def tw11446683545559776005:=0
def tw15884871913842261483:=0
def tw5520199633672835105:=0
def tw13110239827528068881:=0
def tw1417096872129397687:=0
def tw8651651401546631160:=0
def tw3038105459340730035:=0
def tw14648115469819173634:=0
def tw16119413897528487380:=0
def tw3222604123886856776:=0
def tw9249237371813904194:=0
def tw13133177803558719219:=0
def tw16267523821582153477:=0
def tw4388222587401562424:=0
def tw1590221194166192635:=0
def tw4188968149796576166:=0
def tw14790389265450760900:=0
def tw16187865528596787301:=0
def tw3758102546288410723:=0
def tw17651506110480918243:=0
def tw9619363301837492437:=0
def tw13838716058965730619:=0
def tw3841927375047389867:=0
def tw13359233462153565623:=0
def tw1559631460764062582:=0
def tw1099298716902135908:=0
def tw8342208054821478743:=0
def tw2902908981196593065:=0
def tw7777858130936284967:=0
def tw4294362980247690450:=0
def tw9351826839995701261:=0
def tw2900596263127017828:=0
def tw9890128149636995011:=0
def tw5775572985100874966:=0
def tw9043726380207128584:=0
def tw7487815230256031901:=0
def tw1678547545792976240:=0
def tw509780492406783716:=0
def tw12441174951968097375:=0
def tw989383331072783419:=0
def tw15899766490980251062:=0
def tw6125784964309870390:=0
def tw16273967065867035140:=0
def tw2686306838876712323:=0
def tw14004775390574131803:=0
def tw10769904128426313226:=0
def tw2108678029193835459:=0
def tw10900049348444692433:=0
def tw1714788697203178791:=0
def tw16888890916832823798:=0
def tw4836377771841017138:=0
def tw487699920279803631:=0
def tw9938937447440494727:=0
def tw12326657118066160789:=0
def tw1254864323554983473:=0
def tw16067831075263991361:=0
def tw15306284087962674536:=0
def tw1305809206738650487:=0
def tw2261246460080437407:=0
def tw371520279301948761:=0
def tw9997819800534746314:=0
def tw9598900047290130963:=0
def tw16461662395640263996:=0
def tw15879443884001639440:=0
def tw8881727303922876626:=0
def tw5466748735024363350:=0
def tw10672122538152778255:=0
def tw11227241292277685029:=0
def tw3374196861669178558:=0
def tw6178956437986636796:=0
def tw7637673632743201802:=0
def tw6909022119992099480:=0
def tw15435483142500255316:=0
def tw5652885687792738752:=0
def tw14037083379872725275:=0
def tw4491705271740411048:=0
def tw11942508020664295398:=0
def tw7564861055268603101:=0
def tw10559074166018658610:=0
def tw9502154814882129808:=0
def tw5097401059719802987:=0
def tw5305006414217684603:=0
def tw7041173097379616229:=0
def tw4605711310128982736:=0
def tw4190219571406680009:=0
def tw1386652060066878625:=0
def tw11468793127463114670:=0
def tw11978313774849724590:=0
def tw7365901417745296799:=0
def tw14383996312947028891:=0
def tw9581707970295997128:=0
def tw11060958077333494943:=0
def tw6660849921840426903:=0
def tw13588165315467653613:=0
def tw9846004125722865359:=0
def tw15097308535501963068:=0
def tw13471450897993828122:=0
def tw10157414960427039270:=0
def tw1549489164182377868:=0
def tw3704890570788951782:=0
def tw13949006740831338493:=0
def tw13962094974619575567:=0
def tw9843620651343061224:=0
def tw16680158832013225495:=0
def tw2890423857527169801:=0
def tw5774226985696532540:=0
def tw8719688075804135526:=0
def tw5176244100921225990:=0
def tw14324719975909717595:=0
def tw13791316589380861799:=0
def tw16227205645411146255:=0
def tw5262649244721808645:=0
def tw3054031306851325284:=0
def tw16834023568973602851:=0
def tw396337361862688192:=0
def tw5078598481508409128:=0
def tw14515248632578588848:=0
def tw18264669681231218872:=0
def tw9954066320761118920:=0
def tw18260768186395030457:=0
def tw8766216089072507522:=0
def tw4072757343216811143:=0
def tw7007315153224785934:=0
def tw4263211645390757566:=0
def tw5818972834263941703:=0
def tw11745872703650449881:=0
def tw12809434536045931544:=0
def tw15370028854648357187:=0
def tw5454956258654856300:=0
def tw8228131610520319251:=0
def tw16072334103603819956:=0
def tw6615571347962441782:=0
def tw11371795936512933786:=0
def tw12328283087696633479:=0
def tw4710864423963326154:=0
def tw10177919412374771523:=0
def tw3496976274754783724:=0
end PySem.W.Fast
set_option Elab.async false
set_option linter.all false
set_option maxRecDepth 100000
namespace L2
open PySem PySem.Spec PyProof.Rows
noncomputable abbrev Key := Sum Int Str
noncomputable def keyIs : Key → Value → Bool
  | .inl k, v => Value.isInt k v
  | .inr x, v => Value.isStrOf x v
noncomputable def keyH (w : World) : Key → Int
  | .inl k => hashInt k
  | .inr x => hashStr w x
theorem keyIs_shape : ∀ {k : Key} {v : Value}, keyIs k v = true → (∃ i t, k = Sum.inl i ∧ v = Value.int i t) ∨ (∃ x t, k = Sum.inr x ∧ v = Value.str x t)
  | .inl i, v, h => by
    obtain ⟨t, e⟩ := Value.isInt_shape (k := i) (v := v) h
    exact .inl ⟨i, t, rfl, e⟩
  | .inr x, v, h => by
    obtain ⟨t, e⟩ := Value.isStrOf_shape (x := x) (v := v) h
    exact .inr ⟨x, t, rfl, e⟩
theorem keyIs_int (i : Int) (t : Tok) : keyIs (.inl i) (.int i t) = true := by simp [keyIs, Value.isInt]
theorem keyIs_str (x : Str) (t : Tok) : keyIs (.inr x) (.str x t) = true := by simp [keyIs, Value.isStrOf]
theorem key_ll (a b : Int) : decide ((Sum.inl a : Key) = Sum.inl b) = (a == b) := by
  by_cases e : a = b
  · subst e; simp
  · have h : ¬ (Sum.inl a : Key) = Sum.inl b := fun q => e (Sum.inl.inj q)
    rw [decide_eq_false h]
    exact (beq_eq_false_iff_ne.mpr e).symm
theorem key_rr (a b : Str) : decide ((Sum.inr a : Key) = Sum.inr b) = decide (a = b) := by
  by_cases e : a = b
  · subst e; simp
  · have h : ¬ (Sum.inr a : Key) = Sum.inr b := fun q => e (Sum.inr.inj q)
    rw [decide_eq_false h, decide_eq_false e]
theorem key_lr (a : Int) (b : Str) : decide ((Sum.inl a : Key) = Sum.inr b) = false := decide_eq_false (fun q => nomatch q)
theorem key_rl (a : Str) (b : Int) : decide ((Sum.inr a : Key) = Sum.inl b) = false := decide_eq_false (fun q => nomatch q)
noncomputable def mixKind (prog : Program) (w : World) : PySem.KeyKind prog w Key where
  is := keyIs
  hash := keyH w
  inj := fun v a b ha hb => by
    rcases keyIs_shape ha with ⟨i, t, rfl, rfl⟩ | ⟨x, t, rfl, rfl⟩
    · rcases keyIs_shape hb with ⟨j, u, rfl, e⟩ | ⟨y, u, rfl, e⟩
      · injection e with e1 _; rw [e1]
      · exact nomatch e
    · rcases keyIs_shape hb with ⟨j, u, rfl, e⟩ | ⟨y, u, rfl, e⟩
      · exact nomatch e
      · injection e with e1 _; rw [e1]
  byValue := fun k v h => by
    rcases keyIs_shape h with ⟨i, t, rfl, rfl⟩ | ⟨x, t, rfl, rfl⟩ <;> rfl
  pyHash := fun hv h => by
    rcases keyIs_shape hv with ⟨i, t, rfl, rfl⟩ | ⟨x, t, rfl, rfl⟩
    · exact wpAny_pyHash_int h
    · exact wpAny_pyHash_str h
  eqBool := fun hu hv h => by
    rcases keyIs_shape hu with ⟨i, t, rfl, rfl⟩ | ⟨x, t, rfl, rfl⟩
    · rcases keyIs_shape hv with ⟨j, u, rfl, rfl⟩ | ⟨y, u, rfl, rfl⟩
      · rw [key_ll] at h; exact wpAny_eqBool_int h
      · rw [key_lr] at h; exact SeqAt.EqAt.int_str i t y u _ _ _ _ h
    · rcases keyIs_shape hv with ⟨j, u, rfl, rfl⟩ | ⟨y, u, rfl, rfl⟩
      · rw [key_rl] at h; exact SeqAt.EqAt.str_int x t j u _ _ _ _ h
      · rw [key_rr] at h; exact wpAny_eqBool_str h
  «strs» := fun k x t v h => by
    rcases keyIs_shape h with ⟨i, u, rfl, e⟩ | ⟨y, u, rfl, e⟩
    · exact nomatch e
    · injection e with e1 _
      subst e1
      cases v <;> rfl
theorem mixKind_int (prog : Program) (w : World) (i : Int) (t : Tok) : (mixKind prog w).is (.inl i) (.int i t) = true := keyIs_int i t
theorem mixKind_str (prog : Program) (w : World) (x : Str) (t : Tok) : (mixKind prog w).is (.inr x) (.str x t) = true := keyIs_str x t
end L2
namespace L2
open PySem PySem.Spec PyProof.Rows
inductive V where
  | non | bl (b : Bool) | int (i : Int) | str (x : Str) | byt (b : Array UInt8) | flt (b : UInt64) | ref (a : Addr) | ty (n : String)
  deriving DecidableEq
noncomputable def RelV : V → Value → Prop
  | .non, u => u = Value.none
  | .bl b, u => u = Value.bool b
  | .int i, u => ∃ t, u = Value.int i t
  | .str x, u => ∃ t, u = Value.str x t
  | .byt b, u => ∃ t, u = Value.bytes b t
  | .flt b, u => ∃ t, u = Value.float b t
  | .ref a, u => u = Value.ref a
  | .ty n, u => u = Value.type n
noncomputable abbrev Vals : List V → List Value → Prop := Paired RelV
theorem Vals.length {xs : List V} {us : List Value} (r : Vals xs us) : xs.length = us.length := Paired.length r
theorem Vals.get : ∀ {xs : List V} {us : List Value} {i : Nat} {x : V}, Vals xs us → xs[i]? = some x → ∃ u, us[i]? = some u ∧ RelV x u
  | _, _, _, _, .nil, e => by simp at e
  | _, _, 0, _, .cons r _, e => by simp at e; subst e; exact ⟨_, rfl, r⟩
  | _, _, i + 1, x, .cons _ t, e => by
    obtain ⟨u, h1, h2⟩ := Vals.get (i := i) (x := x) t (by simpa using e)
    exact ⟨u, by simpa using h1, h2⟩
theorem Vals.set {x : V} {u : Value} (r : RelV x u) : ∀ {xs : List V} {us : List Value} (i : Nat), Vals xs us → Vals (xs.set i x) (us.set i u)
  | _, _, _, .nil => .nil
  | _, _, 0, .cons _ t => .cons r t
  | _, _, i + 1, .cons q t => .cons q (Vals.set r i t)
theorem Vals.append : ∀ {xs ys : List V} {us ws : List Value}, Vals xs us → Vals ys ws → Vals (xs ++ ys) (us ++ ws)
  | _, _, _, _, .nil, s => s
  | _, _, _, _, .cons r t, s => .cons r (Vals.append t s)
theorem Vals.take : ∀ {xs : List V} {us : List Value} (n : Nat), Vals xs us → Vals (xs.take n) (us.take n)
  | _, _, 0, _ => .nil
  | _, _, _ + 1, .nil => .nil
  | _, _, n + 1, .cons r t => .cons r (Vals.take n t)
theorem Vals.drop : ∀ {xs : List V} {us : List Value} (n : Nat), Vals xs us → Vals (xs.drop n) (us.drop n)
  | _, _, 0, r => r
  | _, _, _ + 1, .nil => .nil
  | _, _, n + 1, .cons _ t => Vals.drop n t
noncomputable def RelO : Option V → Option Value → Prop
  | some v, some u => RelV v u
  | none, none => True
  | _, _ => False
noncomputable def KV {κ : Type} : List (κ × V) → List (κ × Value) → Prop := Paired fun (p : κ × V) (q : κ × Value) => p.1 = q.1 ∧ RelV p.2 q.2
noncomputable def kV : Key → V
  | .inl i => .int i
  | .inr x => .str x
inductive HO where
  /-- a list -/
  | lst (xs : List V)
  /-- a tuple (never changes) -/
  | tup (xs : List V)
  /-- a dict whose keys are ints and texts; one whose keys are tuples of ints and texts (the empty one is both) -/
  | dK (kvs : List (Key × V)) | dT (kvs : List (List Key × V))
  /-- a set of ints: its members, its size -/
  | set (S : Int → Bool) (n : Nat)
  /-- an instance of the class at C, its dict at dx, its attributes -/
  | ins (C dx : Addr) (fs : List (Str × V))
  /-- the dict of the instance at x -/
  | own (x : Addr)
  /-- the dict of an exception -/
  | xd (fs : List (Str × V))
  /-- a bound method, f of x -/
  | met (f x : Addr)
  /-- a range object lo, lo + 1, .. below hi -/
  | rng (lo hi : Int)
  /-- a thing that is known to the object (the script; a dict while a loop walks it): read, never written while it is so -/
  | frz (o : Obj) (u : HO)
  /-- a code object's table -/
  | tbl (ps : Array Value)
  /-- any other thing, by what is true of its one object (a def of one's own: SetO a S n := HO.ext fun h => ..) -/
  | ext (φ : Heap → Prop)
noncomputable abbrev Hp := Addr → Option HO
noncomputable def upd (H : Hp) (a : Addr) (o : HO) : Hp := fun b => if b = a then some o else H b
theorem upd_same {H : Hp} {a : Addr} {o : HO} : upd H a o a = some o := by unfold upd; rw [if_pos rfl]
theorem upd_ne {H : Hp} {a b : Addr} {o : HO} (h : b ≠ a) : upd H a o b = H b := by unfold upd; rw [if_neg h]
theorem upd_upd {H : Hp} {a : Addr} {o u : HO} : upd (upd H a o) a u = upd H a u := by
  funext b; unfold upd; split <;> rfl
theorem ne_of {H : Hp} {a b : Addr} {o u : HO} (h : H a = some o) (h' : H b = some u) (d : o ≠ u) : a ≠ b := by
  intro e; subst e; rw [h] at h'; exact d (Option.some.inj h')
theorem ne_of_none {H : Hp} {a b : Addr} {o : HO} (h : H a = some o) (h' : H b = none) : a ≠ b := by
  intro e; subst e; rw [h] at h'; cases h'
noncomputable def TupN (h : Heap) (a : Addr) (items : Array Value) : Prop := ∃ o, h.get? a = some o ∧ o.cls = .type "tuple" ∧ ∃ n, o.data = .seq items n ∧ o.dict = none
theorem TupN.tup {h : Heap} {a : Addr} {items : Array Value} (x : TupN h a items) : IsTup h a items := let ⟨o, e, c, n, d, _⟩ := x; ⟨o, e, c, n, d⟩
theorem TupN.new (h : Heap) (items : Array Value) : TupN (h.push { cls := .type "tuple", data := .seq items }) h.objs.size items := ⟨_, Heap.get?_push_size _ rfl, rfl, _, rfl, rfl⟩
section
variable (P : Program) (w : World)
noncomputable def ObjOk (H : Hp) (h : Heap) (a : Addr) : HO → Prop
  | .lst xs => xs.length ≤ sizeLine ∧ ∃ (its : List Value) (n : Nat), Vals xs its ∧ h.get? a = some { cls := .type "list", data := .seq its.toArray n }
  | .tup xs => xs.length ≤ sizeLine ∧ ∃ its : List Value, Vals xs its ∧ TupN h a its.toArray
  | .dK kvs => kvs.length ≤ sizeLine ∧ (a == sysModules) = false ∧ ∃ vs, KV kvs vs ∧ h.DictOf (mixKind P w) a vs
  | .dT kvs => kvs.length ≤ sizeLine ∧ (a == sysModules) = false ∧ ∃ xs : List (List Key × Addr × Value),
      Paired (fun (p : List Key × V) (q : List Key × Addr × Value) => p.1 = q.1 ∧ H q.2.1 = some (.tup (p.1.map kV)) ∧ RelV p.2 q.2.2) kvs xs ∧
      ∃ o es ep, h.get? a = some o ∧ o.ExactDict ∧ o.data = .dict es ep ∧ es.toList = xs.map (entryOfKey (tupleKind (mixKind P w))) ∧ (xs.map (·.1)).Nodup
  | .set S n => h.SetOf (intKind P w) a S n
  | .ins C dx fs => H dx = some (.own a) ∧ fs.length ≤ 1000 ∧ dx ≠ a ∧ h.get? a = some (PySem.W.instObj C dx) ∧
      ∃ mA, h.Ns1 dx mA ∧ (∀ f, RelO (fs.lookup f) (mA f)) ∧ PySem.Within mA (fs.map (·.1))
  | .own _ => ∃ o, h.get? a = some o
  | .xd fs => ∃ mA, h.Ns1 a mA ∧ ∀ f, RelO (fs.lookup f) (mA f)
  | .rng lo hi => ∃ t u v, h.get? a = some { cls := .type "range", data := .fields #[.int lo t, .int hi u, .int 1 v] }
  | .frz o u => h.get? a = some o ∧ ObjOk H h a u
  | .tbl ps => h.get? a = some { cls := .none, data := .fields ps }
  | .met f x => h.get? a = some (PySem.W.methodObj (.ref f) (.ref x))
  | .ext φ => φ h ∧ (∃ o, h.get? a = some o) ∧ ∀ h1 h2 : Heap, φ h1 → (∀ o, h1.get? a = some o → h2.get? a = some o) → φ h2
noncomputable def HOk (H : Hp) (h : Heap) : Prop := ∀ a o, H a = some o → ObjOk P w H h a o
end
section
variable {P : Program} {w : World} {H H' : Hp} {h h' : Heap} {a : Addr} {o : HO}
theorem ObjOk.lt (x : ObjOk P w H h a o) : a < h.objs.size := by
  cases o with
  | lst xs => obtain ⟨_, _, _, _, e⟩ := x; exact Heap.lt_size e
  | tup xs => obtain ⟨_, _, _, p⟩ := x; exact p.tup.lt
  | dK kvs => obtain ⟨_, _, _, _, o, _, _, e, _⟩ := x; exact Heap.lt_size e
  | dT kvs => obtain ⟨_, _, _, _, o, _, _, e, _⟩ := x; exact Heap.lt_size e
  | set S n => obtain ⟨o, _, _, _, e, _⟩ := x; exact Heap.lt_size e
  | ins C dx fs => obtain ⟨_, _, _, e, _⟩ := x; exact Heap.lt_size e
  | own y => obtain ⟨_, e⟩ := x; exact Heap.lt_size e
  | xd fs => obtain ⟨_, ⟨_, _, _, e, _⟩, _⟩ := x; exact Heap.lt_size e
  | rng lo hi => obtain ⟨_, _, _, e⟩ := x; exact Heap.lt_size e
  | frz ob u => obtain ⟨e, _⟩ := x; exact Heap.lt_size e
  | tbl ps => exact Heap.lt_size (show h.get? a = some _ from x)
  | met f y => exact Heap.lt_size (show h.get? a = some _ from x)
  | ext φ => obtain ⟨_, ⟨_, e⟩, _⟩ := x; exact Heap.lt_size e
theorem Paired.mapP {α β : Type} {F G : α → β → Prop} : ∀ {l₁ : List α} {l₂ : List β}, Paired F l₁ l₂ → (∀ a b, F a b → G a b) → Paired G l₁ l₂
  | _, _, .nil, _ => .nil
  | _, _, .cons r t, f => .cons (f _ _ r) (Paired.mapP t f)
theorem ObjOk.stay (x : ObjOk P w H h a o) (k : ∀ b u, (b = a ∨ H b = some (.own a)) → h.get? b = some u → h'.get? b = some u)
    (ho : ∀ b, H b = some (.own a) → H' b = some (.own a)) (ht : ∀ b xs, H b = some (.tup xs) → H' b = some (.tup xs)) : ObjOk P w H' h' a o := by
  induction o with
  | lst xs => obtain ⟨z, its, n, r, e⟩ := x; exact ⟨z, its, n, r, k _ _ (.inl rfl) e⟩
  | tup xs => obtain ⟨z, its, r, ob, e, c⟩ := x; exact ⟨z, its, r, ob, k _ _ (.inl rfl) e, c⟩
  | dK kvs => obtain ⟨z, y, vs, r, ob, es, ep, e, c⟩ := x; exact ⟨z, y, vs, r, ob, es, ep, k _ _ (.inl rfl) e, c⟩
  | dT kvs =>
    obtain ⟨z, y, xs, r, ob, es, ep, e, c⟩ := x
    exact ⟨z, y, xs, Paired.mapP r fun p q z => ⟨z.1, ht _ _ z.2.1, z.2.2⟩, ob, es, ep, k _ _ (.inl rfl) e, c⟩
  | set S n => obtain ⟨ob, es, ep, t, e, c⟩ := x; exact ⟨ob, es, ep, t, k _ _ (.inl rfl) e, c⟩
  | ins C dx fs =>
    obtain ⟨d, z, ne, e, mA, ⟨od, es, ep, e2, c⟩, r⟩ := x
    exact ⟨ho _ d, z, ne, k _ _ (.inl rfl) e, mA, ⟨od, es, ep, k _ _ (.inr d) e2, c⟩, r⟩
  | own y => obtain ⟨ob, e⟩ := x; exact ⟨ob, k _ _ (.inl rfl) e⟩
  | xd fs => obtain ⟨mA, ⟨od, es, ep, e, c⟩, r⟩ := x; exact ⟨mA, ⟨od, es, ep, k _ _ (.inl rfl) e, c⟩, r⟩
  | rng lo hi => obtain ⟨t, u, v, e⟩ := x; exact ⟨t, u, v, k _ _ (.inl rfl) e⟩
  | frz ob u ih => obtain ⟨e, q⟩ := x; exact ⟨k _ _ (.inl rfl) e, ih q⟩
  | tbl ps =>
    have e : h.get? a = some { cls := .none, data := .fields ps } := x
    show h'.get? a = some { cls := .none, data := .fields ps }
    exact k a _ (.inl rfl) e
  | met f y =>
    have e : h.get? a = some (PySem.W.methodObj (.ref f) (.ref y)) := x
    show h'.get? a = some (PySem.W.methodObj (.ref f) (.ref y))
    exact k a _ (.inl rfl) e
  | ext φ => obtain ⟨p, ⟨o, e⟩, st⟩ := x; exact ⟨st _ _ p fun o q => k _ _ (.inl rfl) q, ⟨o, k _ _ (.inl rfl) e⟩, st⟩
theorem HOk.lt (x : HOk P w H h) (e : H a = some o) : a < h.objs.size := (x a o e).lt
theorem HOk.fresh (x : HOk P w H h) (e : h.objs.size ≤ a) : H a = none := by
  cases q : H a with
  | none => rfl
  | some u => exact absurd (Nat.lt_of_lt_of_le (x.lt q) e) (Nat.lt_irrefl _)
theorem HOk.kept (x : HOk P w H h) (k : ∀ b u, h.get? b = some u → h'.get? b = some u) : HOk P w H h' := fun a o e =>
  (x a o e).stay (fun b u _ q => k b u q) (fun _ q => q) fun _ _ q => q
theorem HOk.laid (x : HOk P w H h) (k : ∀ b u, h.get? b = some u → h'.get? b = some u) (hp : h.objs.size ≤ a) (new : ObjOk P w (upd H a o) h' a o) : HOk P w (upd H a o) h' := fun b u e => by
  have hn := x.fresh hp
  by_cases hb : b = a
  · subst hb; rw [upd_same] at e; cases e; exact new
  · rw [upd_ne hb] at e
    exact (x b u e).stay (fun c v _ q => k c v q) (fun c q => by rw [upd_ne (ne_of_none q hn)]; exact q) fun c xs q => by rw [upd_ne (ne_of_none q hn)]; exact q
end
noncomputable def Rd (H : Hp) (a : Addr) (u : HO) : Prop := H a = some u ∨ ∃ o, H a = some (.frz o u)
theorem Rd.ok {P : Program} {w : World} {H : Hp} {h : Heap} {a : Addr} {u : HO} (r : Rd H a u) (x : HOk P w H h) : ObjOk P w H h a u := by
  rcases r with r | ⟨o, r⟩
  · exact x a u r
  · obtain ⟨_, q⟩ := x a _ r
    exact q
noncomputable def Mut : Option HO → Prop
  | some (.lst _) => True
  | some (.dK _) => True
  | some (.dT _) => True
  | some (.set _ _) => True
  | some (.ins _ _ _) => True
  | some (.ext _) => True
  | _ => False
section
variable {P : Program} {w : World} {H : Hp} {h h' : Heap} {x e : Addr} {o' : HO}
theorem HOk.write (ok : HOk P w H h) (mu : Mut (H x)) (he : e = x ∨ H e = some (.own x)) (k : ∀ b u, b ≠ e → h.get? b = some u → h'.get? b = some u) (heo : ∃ u, h'.get? e = some u)
    (new : ObjOk P w (upd H x o') h' x o') : HOk P w (upd H x o') h' := fun b u q => by
  have nown : ∀ c y, H c = some (.own y) → c ≠ x := fun c y r z => by subst z; rw [r] at mu; exact mu
  have ntup : ∀ c xs, H c = some (.tup xs) → c ≠ x := fun c xs r z => by subst z; rw [r] at mu; exact mu
  by_cases hb : b = x
  · subst hb; rw [upd_same] at q; cases q; exact new
  · rw [upd_ne hb] at q
    by_cases hbe : b = e
    · have q' : H b = some (.own x) := by
        rcases he with z | z
        · exact absurd (hbe.trans z) hb
        · rw [hbe]; exact z
      rw [q] at q'; cases q'
      obtain ⟨v, hv⟩ := heo
      exact ⟨v, by rw [hbe]; exact hv⟩
    · refine (ok b u q).stay (fun c v hc r => k c v ?_ r) (fun c r => by rw [upd_ne (nown c b r)]; exact r) fun c xs r => by rw [upd_ne (ntup c xs r)]; exact r
      rcases hc with rfl | hc
      · exact hbe
      · rintro rfl
        rcases he with z | z
        · exact nown c b hc z
        · rw [hc] at z; cases z; exact hb rfl
end
structure Un (fs ex : List Addr) (H H' : Hp) (h h' : Heap) : Prop where
  keep : ∀ b o, h.get? b = some o → H b = none → b ∉ fs → b ∉ ex → h'.get? b = some o
  slot : ∀ b o, h.get? b = some o → H b = none → b ∈ fs → b ∉ ex → ∃ sl, h'.get? b = some { o with slots := sl }
  free : ∀ b o, h.get? b = some o → H b = none → b ∉ ex → H' b = none
  there : ∀ b o, h.get? b = some o → b ∉ ex → ∃ o', h'.get? b = some o'
  tups : ∀ b xs, H b = some (.tup xs) → H' b = some (.tup xs)
  frzs : ∀ b o u, H b = some (.frz o u) → H' b = some (.frz o u)
  tbls : ∀ b ps, H b = some (.tbl ps) → ∃ more, H' b = some (.tbl (ps ++ more))
section
variable {fs fs' ex ex' : List Addr} {H H1 H2 : Hp} {h h1 h2 h' : Heap} {a x e : Addr} {o : HO}
theorem Un.any (u : Un fs ex H H1 h h1) {b : Addr} {ob : Obj} (q : h.get? b = some ob) (n : H b = none) (hx : b ∉ ex) : ∃ sl, h1.get? b = some { ob with slots := sl } := by
  by_cases hb : b ∈ fs
  · exact u.slot b ob q n hb hx
  · exact ⟨ob.slots, u.keep b ob q n hb hx⟩
theorem Un.kept (k : ∀ b u, h.get? b = some u → h'.get? b = some u) : Un fs ex H H h h' :=
  ⟨fun b ob q _ _ _ => k b ob q, fun b ob q _ _ _ => ⟨ob.slots, k b ob q⟩, fun _ _ _ n _ => n, fun b ob q _ => ⟨ob, k b ob q⟩, fun _ _ q => q, fun _ _ _ q => q, fun _ ps q => ⟨#[], by rw [q]; simp⟩⟩
theorem Un.refl : Un fs ex H H h h := Un.kept fun _ _ q => q
theorem Un.laid (k : ∀ b u, h.get? b = some u → h'.get? b = some u) (hp : h.objs.size ≤ a) (hn : H a = none) : Un fs ex H (upd H a o) h h' where
  keep := fun b u q _ _ _ => k b u q
  slot := fun b u q _ _ _ => ⟨u.slots, k b u q⟩
  free := fun b u q n _ => by rw [upd_ne (Nat.ne_of_lt (Nat.lt_of_lt_of_le (Heap.lt_size q) hp))]; exact n
  there := fun b u q _ => ⟨u, k b u q⟩
  tups := fun b xs q => by rw [upd_ne (ne_of_none q hn)]; exact q
  frzs := fun b u xs q => by rw [upd_ne (ne_of_none q hn)]; exact q
  tbls := fun b ps q => ⟨#[], by rw [upd_ne (ne_of_none q hn), q]; simp⟩
theorem Un.write (mu : Mut (H x)) (he : e = x ∨ H e = some (.own x)) (k : ∀ b u, b ≠ e → h.get? b = some u → h'.get? b = some u) (heo : ∃ u, h'.get? e = some u) : Un fs ex H (upd H x o) h h' := by
  have hx : ∀ b, H b = none → b ≠ x := fun b n z => by subst z; rw [n] at mu; exact mu
  have hb : ∀ b, H b = none → b ≠ e := fun b n z => by
    subst z
    rcases he with r | r
    · exact hx b n r
    · rw [n] at r; cases r
  have hm : ∀ b u, H b = some u → ¬ Mut (some u) → b ≠ x := fun b u q nm z => by subst z; rw [q] at mu; exact nm mu
  refine ⟨fun b u q n _ _ => k b u (hb b n) q, fun b u q n _ _ => ⟨u.slots, k b u (hb b n) q⟩, fun b u q n _ => by rw [upd_ne (hx b n)]; exact n, fun b u q _ => ?_,
    fun b xs q => by rw [upd_ne (hm b _ q fun z => z)]; exact q, fun b u xs q => by rw [upd_ne (hm b _ q fun z => z)]; exact q, fun b ps q => ⟨#[], by rw [upd_ne (hm b _ q fun z => z), q]; simp⟩⟩
  by_cases hbe : b = e
  · subst hbe; exact heo
  · exact ⟨u, k b u hbe q⟩
end
noncomputable def trk (h : Heap) (H : Hp) : List Addr := (List.range h.objs.size).filter fun a => (H a).isSome
noncomputable def hidT (h : Heap) (H : Hp) : Heap := PySem.W.hideAll h (trk h H)
theorem hidT_size (h : Heap) (H : Hp) : (hidT h H).objs.size = h.objs.size := PySem.W.hideAll_size _ _
theorem hidT_get {h : Heap} {H : Hp} {b : Addr} {o : Obj} (e : h.get? b = some o) (n : H b = none) : (hidT h H).get? b = some o :=
  PySem.W.hideAll_get _ e fun hm => by
    have q : (H b).isSome = true := (List.mem_filter.mp hm).2
    rw [n] at q; simp at q
theorem of_hidT {h : Heap} {H : Hp} {b : Addr} {o : Obj} (e : (hidT h H).get? b = some o) : h.get? b = some o ∧ H b = none := by
  have e' : h.get? b = some o := PySem.W.of_hideAll (trk h H) e
  refine ⟨e', ?_⟩
  cases q : H b with
  | none => rfl
  | some x =>
    have hm : b ∈ trk h H := List.mem_filter.mpr ⟨List.mem_range.mpr (Heap.lt_size e'), by simp [q]⟩
    have z : (hidT h H).get? b = none := PySem.W.hideAll_none (trk h H) hm
    rw [z] at e; cases e
noncomputable def allNews (g h : Heap) (L : Addr) : List (Addr × Obj) := (List.range h.objs.size).filterMap fun a => if a = L ∨ (g.get? a).isSome = true then none else (h.get? a).map fun o => (a, o)
noncomputable def rest (g h : Heap) (L d : Addr) : List (Addr × Obj) := (allNews g h L).filter fun p => decide (p.1 ≠ d)
end L2
namespace L2
open PySem PySem.Spec PyProof.Rows
structure Mod (K : PySem.W.Frag) (mg : Str → Option Value) (base : Heap) : Prop where
  kin : K.In base
  glob : base.Ns mainGlobals mg
  blt : ∃ mb, base.Ns builtinsNs mb ∧ ∀ x : Str, x ≠ "__name__" → mb x = bootBuiltins x
  nolimit : base.NoLimit
structure Cx where
  prog : Program
  w : World
  K : PySem.W.Frag
  mg : Str → Option Value
  base : Heap
  A : Around
  N : List Str
  s₀ : Shared
  H₀ : Hp
  env : Env
  outer : List Env
  stack : List Env
  ex : List Addr
  fn : Str → Bool
  calm : Bool
  pn : List (Addr × Obj)
  xe : Value → Shared → Prop
noncomputable def frs (l : List Env) : List Addr := l.filterMap (·.frame)
noncomputable abbrev Cx.fs (X : Cx) : List Addr := frs X.outer
noncomputable def Vis (sc : Scope) (x : Str) : Prop := sc.names.lookup x = some .local ∨ sc.names.lookup x = some .cell ∨ sc.names.lookup x = some .free
noncomputable def Loc (sc : Scope) (x : Str) : Prop := sc.names.lookup x = some .local ∨ sc.names.lookup x = some .cell
noncomputable def Look (env : Env) (h : Heap) (m : Str → Option Value) (x : Str) (u : Value) : Prop :=
  (env.kindOf x = some .local ∧ m x = some u) ∨ ((env.kindOf x = some .cell ∨ env.kindOf x = some .free) ∧ ∃ c, env.cells.lookup x = some c ∧ h.IsCell c (some u))
structure Cx.Ok (X : Cx) : Prop where
  mod : Mod X.K X.mg X.base
  kind : X.env.scope.kind = .function
  glob : X.env.globals = mainGlobals
  blt : X.env.builtins = builtinsNs
  above : X.s₀.heap.objs.size ≤ X.env.locals
  inj : ∀ x y c, X.env.cells.lookup x = some c → X.env.cells.lookup y = some c → x = y
  has : ∀ x, (X.env.kindOf x = some .cell ∨ X.env.kindOf x = some .free) → ∃ c, X.env.cells.lookup x = some c
  cab : ∀ x c, X.fn x = true → X.env.cells.lookup x = some c → X.s₀.heap.objs.size ≤ c
  hd : X.calm = true → X.A.handled = none
  frames : X.A.frames = some X.stack
  stk : X.stack = X.outer ∨ (X.stack = X.env :: X.outer ∧ X.env.frame = some X.env.locals)
  exf : ∀ b ∈ X.ex, b ≠ X.env.locals ∧ ∀ x c, X.env.cells.lookup x = some c → c ≠ b
  bs : ∀ b o, X.base.get? b = some o → X.s₀.heap.get? b = some o ∧ X.H₀ b = none
  bsz : X.base.objs.size ≤ X.s₀.heap.objs.size
  noex : ∀ b o, X.base.get? b = some o → b ∉ X.ex
  exfs : ∀ b ∈ X.ex, b ∉ X.fs
  funs : X.s₀.heap.FunFrames X.base X.outer
  frf : ∀ b ∈ X.fs, X.H₀ b = none
structure Inv (X : Cx) (pins : List (Addr × Obj)) (σ : List (Option V)) (H : Hp) (s : Shared) : Prop where
  ok : X.Ok
  os : s.os = X.s₀.os
  bare : AllBare s.gens
  base : Un X.fs X.ex X.H₀ H X.s₀.heap s.heap
  loc : ∃ m, s.heap.Ns X.env.locals m ∧ ∀ (i : Nat) (x : Str) (v : V), X.N[i]? = some x → σ[i]? = some (some v) → Vis X.env.scope x → ∃ u, RelV v u ∧ Look X.env s.heap m x u
  cell : ∀ x c, X.env.cells.lookup x = some c → ∃ v, s.heap.IsCell c v
  free : H X.env.locals = none
  freeC : ∀ x c, X.env.cells.lookup x = some c → H c = none
  pin : ∀ p ∈ X.pn ++ pins, s.heap.get? p.1 = some p.2 ∧ H p.1 = none ∧ p.1 ≠ X.env.locals ∧ p.1 ∉ X.fs ∧ ∀ v, p.2.data ≠ .cell v
  hok : HOk X.prog X.w H s.heap
  len : σ.length = X.N.length
section
variable {X : Cx} {pins : List (Addr × Obj)} {σ : List (Option V)} {H H' : Hp} {s : Shared} {h' : Heap}
theorem Cx.Ok.nofr (ok : X.Ok) {b : Addr} {o : Obj} (e : X.base.get? b = some o) : b ∉ X.fs := fun hb => by
  have := (ok.funs.mem hb).1
  rw [e] at this; cases this
theorem Inv.bs (I : Inv X pins σ H s) : ∀ b o, X.base.get? b = some o → s.heap.get? b = some o ∧ H b = none := fun b o e =>
  ⟨I.base.keep b o (I.ok.bs b o e).1 (I.ok.bs b o e).2 (I.ok.nofr e) (I.ok.noex b o e), I.base.free b o (I.ok.bs b o e).1 (I.ok.bs b o e).2 (I.ok.noex b o e)⟩
theorem Inv.bk (I : Inv X pins σ H s) : ∀ b o, X.base.get? b = some o → s.heap.get? b = some o := fun b o e => (I.bs b o e).1
theorem Inv.mod (I : Inv X pins σ H s) : Mod X.K X.mg X.base := I.ok.mod
theorem Inv.kIn (I : Inv X pins σ H s) : X.K.In s.heap := I.ok.mod.kin.keeps I.bk
theorem Inv.lt (I : Inv X pins σ H s) : X.env.locals < s.heap.objs.size := let ⟨_, hn, _⟩ := I.loc; hn.lt
theorem Inv.sz (I : Inv X pins σ H s) : X.s₀.heap.objs.size ≤ s.heap.objs.size := Nat.le_trans I.ok.above (Nat.le_of_lt I.lt)
theorem Inv.nofs (I : Inv X pins σ H s) {a : Addr} (h : s.heap.objs.size ≤ a) : a ∉ X.fs := fun hb => by
  obtain ⟨_, o, ho, _⟩ := I.ok.funs.mem hb
  exact absurd (Nat.lt_of_lt_of_le (Heap.lt_size ho) (Nat.le_trans I.sz h)) (Nat.lt_irrefl _)
theorem Inv.cne (I : Inv X pins σ H s) : ∀ x c, X.env.cells.lookup x = some c → c ≠ X.env.locals := fun x c e z => by
  obtain ⟨v, o, ho, hd⟩ := I.cell x c e
  obtain ⟨m, ⟨o', es, ep, ho', hd', _⟩, _⟩ := I.loc
  rw [z, ho'] at ho; cases ho; rw [hd'] at hd; cases hd
theorem Inv.funs (I : Inv X pins σ H s) : s.heap.FunFrames X.base X.outer := by
  have all : ∀ (l : List Env), (∀ b ∈ frs l, b ∈ X.fs) → X.s₀.heap.FunFrames X.base l → s.heap.FunFrames X.base l := by
    intro l
    induction l with
    | nil => intro _ _; trivial
    | cons env r ih =>
      intro hs hl
      obtain ⟨hk, ⟨L, o, hf, hn, ho, hd⟩, hr⟩ := hl
      have hL : L ∈ X.fs := hs L (by unfold frs; rw [List.filterMap_cons, hf]; exact List.mem_cons_self)
      obtain ⟨sl, e⟩ := I.base.slot L o ho (I.ok.frf L hL) hL fun z => I.ok.exfs L z hL
      exact ⟨hk, ⟨L, _, hf, hn, e, hd⟩, ih (fun b hb => hs b (by unfold frs; rw [List.filterMap_cons, hf]; exact List.mem_cons_of_mem _ hb)) hr⟩
  exact all X.outer (fun _ hb => hb) I.ok.funs
theorem Inv.stack (I : Inv X pins σ H s) : s.heap.FunFrames X.base X.stack := by
  rcases I.ok.stk with e | ⟨e, hf⟩
  · rw [e]; exact I.funs
  · rw [e]
    obtain ⟨m, hn, _⟩ := I.loc
    refine .cons (by rw [I.ok.kind]; decide) hf hn ?_ I.funs
    exact Heap.get?_none_of_le (Nat.le_trans I.ok.bsz I.ok.above)
theorem Inv.stkSub (I : Inv X pins σ H s) : ∀ b ∈ frs X.stack, b ∈ X.env.locals :: X.fs := fun b hb => by
  rcases I.ok.stk with e | ⟨e, hf⟩
  · rw [e] at hb; exact List.mem_cons_of_mem _ hb
  · rw [e] at hb
    unfold frs at hb
    rw [List.filterMap_cons, hf] at hb
    exact hb
theorem Inv.stkFree (I : Inv X pins σ H s) : ∀ b ∈ frs X.stack, H b = none := fun b hb => by
  rcases List.mem_cons.mp (I.stkSub b hb) with e | hb
  · rw [e]; exact I.free
  · obtain ⟨_, o, ho, _⟩ := I.ok.funs.mem hb
    exact I.base.free b o ho (I.ok.frf b hb) fun z => I.ok.exfs b z hb
theorem Inv.step {g' : Array GenState} {t' : Nat} {d' : Drawn} {ch : List Addr} (I : Inv X pins σ H s)
    (hch : ∀ b ∈ ch, (b ∈ X.ex ∨ X.s₀.heap.objs.size ≤ b) ∧ b ≠ X.env.locals ∧ (∀ x c, X.env.cells.lookup x = some c → c ≠ b) ∧ ∀ p ∈ X.pn ++ pins, p.1 ≠ b)
    (keep : ∀ b o, b ≠ X.env.locals → b ∉ X.fs → b ∉ ch → s.heap.get? b = some o → H b = none → h'.get? b = some o)
    (slot : ∀ b o, b ≠ X.env.locals → b ∈ X.fs → b ∉ ch → s.heap.get? b = some o → H b = none → ∃ sl, h'.get? b = some { o with slots := sl }) (free : ∀ b o, b ∉ ch → s.heap.get? b = some o → H b = none → H' b = none)
    (there : ∀ b o, b ∉ ch → s.heap.get? b = some o → ∃ o', h'.get? b = some o')
    (tups : ∀ b xs, H b = some (.tup xs) → H' b = some (.tup xs)) (frzs : ∀ b o u, H b = some (.frz o u) → H' b = some (.frz o u)) (tbls : ∀ b ps, H b = some (.tbl ps) → ∃ more, H' b = some (.tbl (ps ++ more)))
    (ns : ∀ m, s.heap.Ns X.env.locals m → h'.Ns X.env.locals m) (hok : HOk X.prog X.w H' h') (hg : AllBare g') :
    Inv X pins σ H' { s with heap := h', gens := g', drawn := d', toks := t' } := by
  have neL : ∀ b o, X.s₀.heap.get? b = some o → b ≠ X.env.locals := fun b o e => Nat.ne_of_lt (Nat.lt_of_lt_of_le (Heap.lt_size e) I.ok.above)
  have neC : ∀ b o, X.s₀.heap.get? b = some o → b ∉ X.ex → b ∉ ch := fun b o e hx hb => by
    rcases (hch b hb).1 with z | z
    · exact hx z
    · exact absurd (Nat.lt_of_lt_of_le (Heap.lt_size e) z) (Nat.lt_irrefl _)
  have cellK : ∀ x c, X.env.cells.lookup x = some c → ∀ v, s.heap.IsCell c v → h'.IsCell c v := fun x c e v ⟨o, ho, hd⟩ => by
    have nch : c ∉ ch := fun z => (hch c z).2.2.1 x c e rfl
    by_cases hc : c ∈ X.fs
    · obtain ⟨sl, q⟩ := slot c o (I.cne x c e) hc nch ho (I.freeC x c e)
      exact ⟨_, q, hd⟩
    · exact ⟨o, keep c o (I.cne x c e) hc nch ho (I.freeC x c e), hd⟩
  refine ⟨I.ok, I.os, hg, ⟨fun b o e n hb hx => ?_, fun b o e n hb hx => ?_, fun b o e n hx => ?_, fun b o e hx => ?_, fun b xs e => tups b xs (I.base.tups b xs e), fun b o xs e => frzs b o xs (I.base.frzs b o xs e), fun b ps e => ?_⟩, ?_, fun x c e => ?_, ?_, fun x c e => ?_, fun p hp => ?_, hok, I.len⟩
  · exact keep b o (neL b o e) hb (neC b o e hx) (I.base.keep b o e n hb hx) (I.base.free b o e n hx)
  · obtain ⟨sl, e1⟩ := I.base.slot b o e n hb hx
    obtain ⟨sl', e2⟩ := slot b _ (neL b o e) hb (neC b o e hx) e1 (I.base.free b o e n hx)
    exact ⟨sl', e2⟩
  · obtain ⟨o', e1⟩ := I.base.there b o e hx
    exact free b o' (neC b o e hx) e1 (I.base.free b o e n hx)
  · obtain ⟨o', e1⟩ := I.base.there b o e hx
    exact there b o' (neC b o e hx) e1
  · obtain ⟨m1, e1⟩ := I.base.tbls b ps e
    obtain ⟨m2, e2⟩ := tbls b _ e1
    exact ⟨m1 ++ m2, by rw [e2, Array.append_assoc]⟩
  · obtain ⟨m, hn, hl⟩ := I.loc
    refine ⟨m, ns m hn, fun i x v e1 e2 e3 => ?_⟩
    obtain ⟨u, r, l⟩ := hl i x v e1 e2 e3
    refine ⟨u, r, ?_⟩
    rcases l with l | ⟨k, c, e, z⟩
    · exact .inl l
    · exact .inr ⟨k, c, e, cellK x c e _ z⟩
  · obtain ⟨v, z⟩ := I.cell x c e
    exact ⟨v, cellK x c e v z⟩
  · obtain ⟨m, ⟨o, _, _, ho, _⟩, _⟩ := I.loc
    exact free _ o (fun z => (hch _ z).2.1 rfl) ho I.free
  · obtain ⟨v, o, ho, hd⟩ := I.cell x c e
    exact free c o (fun z => (hch c z).2.2.1 x c e rfl) ho (I.freeC x c e)
  · obtain ⟨e, n, ne, nf, d⟩ := I.pin p hp
    have nch : p.1 ∉ ch := fun z => (hch p.1 z).2.2.2 p hp rfl
    exact ⟨keep p.1 p.2 ne nf nch e n, free p.1 p.2 nch e n, ne, nf, d⟩
theorem Inv.un {t' : Nat} (I : Inv X pins σ H s) (u : Un X.fs [] H H' s.heap h') (hok : HOk X.prog X.w H' h') : Inv X pins σ H' { s with heap := h', toks := t' } := by
  obtain ⟨m, ⟨o, es, ep, ho, r⟩, _⟩ := id I.loc
  obtain ⟨sl, hL⟩ := u.any ho I.free (by simp)
  exact I.step (g' := s.gens) (d' := s.drawn) (ch := []) (fun _ z => nomatch z) (fun b o _ hb _ e n => u.keep b o e n hb (by simp)) (fun b o _ hb _ e n => u.slot b o e n hb (by simp)) (fun b o _ e n => u.free b o e n (by simp)) (fun b o _ e => u.there b o e (by simp)) u.tups u.frzs u.tbls (fun m' hm => by
    obtain ⟨o', es', ep', ho', r'⟩ := hm
    rw [ho] at ho'; cases ho'
    exact ⟨_, es', ep', hL, r'⟩) hok I.bare
theorem Inv.call {g' : Array GenState} {t' : Nat} {d' : Drawn} {ch : List Addr} (I : Inv X pins σ H s) (u : Un (frs X.stack) ch H H' s.heap h') (hok : HOk X.prog X.w H' h') (hg : AllBare g')
    (hch : ∀ b ∈ ch, (b ∈ X.ex ∨ X.s₀.heap.objs.size ≤ b) ∧ b ≠ X.env.locals ∧ (∀ x c, X.env.cells.lookup x = some c → c ≠ b) ∧ ∀ p ∈ X.pn ++ pins, p.1 ≠ b) :
    Inv X pins σ H' { s with heap := h', gens := g', drawn := d', toks := t' } := by
  obtain ⟨m, ⟨o, es, ep, ho, r⟩, _⟩ := id I.loc
  obtain ⟨sl, hL⟩ := u.any ho I.free fun z => (hch _ z).2.1 rfl
  exact I.step (ch := ch) hch (fun b o hL hb hc e n => u.keep b o e n (fun z => (List.mem_cons.mp (I.stkSub b z)).elim hL hb) hc) (fun b o _ _ hc e n => u.any e n hc) (fun b o hc e n => u.free b o e n hc) (fun b o hc e => u.there b o e hc) u.tups u.frzs u.tbls (fun m' hm => by
    obtain ⟨o', es', ep', ho', r'⟩ := hm
    rw [ho] at ho'; cases ho'
    exact ⟨_, es', ep', hL, r'⟩) hok hg
theorem Inv.turned {t' : Nat} {it : Addr} (I : Inv X pins σ H s) (k : ∀ b o, b ≠ it → s.heap.get? b = some o → h'.get? b = some o) (hn : H it = none) (hL : it ≠ X.env.locals)
    (h1 : it ∈ X.ex ∨ X.s₀.heap.objs.size ≤ it) (h2 : ∀ x c, X.env.cells.lookup x = some c → c ≠ it) (h3 : ∀ p ∈ X.pn ++ pins, p.1 ≠ it) : Inv X pins σ H { s with heap := h', toks := t' } := by
  have nit : ∀ b u, H b = some u → b ≠ it := fun b u e z => by rw [z, hn] at e; cases e
  refine I.step (g' := s.gens) (d' := s.drawn) (ch := [it]) (fun b hb => ?_) (fun b o _ _ hc e _ => k b o (fun z => hc (by simp [z])) e) (fun b o _ _ hc e _ => ⟨o.slots, k b o (fun z => hc (by simp [z])) e⟩) (fun _ _ _ _ n => n)
    (fun b o hc e => ⟨o, k b o (fun z => hc (by simp [z])) e⟩) (fun _ _ e => e) (fun _ _ _ e => e) (fun b ps e => ⟨#[], by rw [e]; simp⟩) (fun m hm => ?_) (fun b u e => ?_) I.bare
  · have e : b = it := by simpa using hb
    subst e
    exact ⟨h1, hL, h2, h3⟩
  · obtain ⟨o, es, ep, ho, r⟩ := hm
    exact ⟨o, es, ep, k _ o (Ne.symm hL) ho, r⟩
  · refine (I.hok b u e).stay (fun c v hc q => k c v ?_ q) (fun _ q => q) fun _ _ q => q
    rcases hc with z | z
    · rw [z]; exact nit b u e
    · exact nit c _ z
theorem Inv.tok (I : Inv X pins σ H s) (t : Nat) : Inv X pins σ H { s with toks := t } := I.un (h' := s.heap) (t' := t) Un.refl I.hok
theorem Inv.kept {t' : Nat} (I : Inv X pins σ H s) (k : ∀ b u, s.heap.get? b = some u → h'.get? b = some u) : Inv X pins σ H { s with heap := h', toks := t' } := I.un (Un.kept k) (I.hok.kept k)
theorem Inv.laid {a : Addr} {o : HO} {t' : Nat} (I : Inv X pins σ H s) (k : ∀ b u, s.heap.get? b = some u → h'.get? b = some u) (hp : s.heap.objs.size ≤ a) (new : ObjOk X.prog X.w (upd H a o) h' a o) :
    Inv X pins σ (upd H a o) { s with heap := h', toks := t' } := I.un (Un.laid k hp (I.hok.fresh hp)) (I.hok.laid k hp new)
theorem Inv.write {x e : Addr} {o : HO} {t' : Nat} (I : Inv X pins σ H s) (mu : Mut (H x)) (he : e = x ∨ H e = some (.own x)) (k : ∀ b u, b ≠ e → s.heap.get? b = some u → h'.get? b = some u) (heo : ∃ u, h'.get? e = some u)
    (new : ObjOk X.prog X.w (upd H x o) h' x o) : Inv X pins σ (upd H x o) { s with heap := h', toks := t' } := I.un (Un.write mu he k heo) (I.hok.write mu he k heo new)
theorem Inv.pins_of {pins' : List (Addr × Obj)} (I : Inv X pins σ H s) (h : ∀ p ∈ pins', s.heap.get? p.1 = some p.2 ∧ H p.1 = none ∧ p.1 ≠ X.env.locals ∧ p.1 ∉ X.fs ∧ ∀ v, p.2.data ≠ .cell v) : Inv X pins' σ H s :=
  ⟨I.ok, I.os, I.bare, I.base, I.loc, I.cell, I.free, I.freeC, fun p hp => (List.mem_append.mp hp).elim (fun z => I.pin p (List.mem_append_left _ z)) (h p), I.hok, I.len⟩
theorem nodup_ix {N : List Str} (hN : N.Nodup) {i j : Nat} {x : Str} (a : N[i]? = some x) (b : N[j]? = some x) : i = j := by
  obtain ⟨h1, e1⟩ := List.getElem?_eq_some_iff.mp a
  obtain ⟨h2, e2⟩ := List.getElem?_eq_some_iff.mp b
  exact (List.getElem_inj hN).mp (e1.trans e2.symm)
theorem store_ok2 {M : Model} {A : Around} {E : Value → Shared → Prop} {i : Nat} {x : Str} {v : V} {u : Value} {Q : Unit → Shared → Prop} (I : Inv X pins σ H s) (hN : X.N.Nodup) (hi : X.N[i]? = some x) (hx : Loc X.env.scope x) (r : RelV v u)
    (h : ∀ s', Inv X pins (σ.set i (some v)) H s' → (∃ a, Heap.SameBut a s.heap s'.heap ∧ (a = X.env.locals ∨ X.env.cells.lookup x = some a)) → Q () s') (hf : X.fn x = true ∨ X.env.scope.names.lookup x = some .local := by first | exact .inl rfl | exact .inr rfl | assumption) : wpAny M A (storeName X.env x u) Q E s := by
  obtain ⟨m, hn, hl⟩ := id I.loc
  have hcls : (X.env.scope.kind == .class || (X.env.scope.kind == .module && X.env.locals != X.env.globals)) = false := by rw [I.ok.kind]; rfl
  have hiσ : i < σ.length := by rw [I.len]; exact (List.getElem?_eq_some_iff.mp hi).1
  have cne := I.cne
  have tracked : ∀ {a : Addr} {h' : Heap}, (∃ o, s.heap.get? a = some o ∧ H a = none) → Heap.SameBut a s.heap h' → HOk X.prog X.w H h' := fun {a h'} ha hs b ob e => by
    obtain ⟨_, _, hfree⟩ := ha
    refine (I.hok b ob e).stay (fun c w' hc q => (hs.2 c ?_).trans q) (fun _ q => q) fun _ _ q => q
    rintro rfl
    rcases hc with rfl | hc
    · rw [hfree] at e; cases e
    · rw [hfree] at hc; cases hc
  rcases hx with hk | hk
  · refine wpAny_storeName_local hk hn (fun h' hn' hs => ?_) hcls
    obtain ⟨oL, _, _, hoL, _⟩ := id hn
    refine h _ ⟨I.ok, I.os, I.bare, ⟨fun b o e n hb hx => ?_, fun b o e n hb hx => ?_, I.base.free, fun b o e hx => ?_, I.base.tups, I.base.frzs, I.base.tbls⟩, ⟨_, hn', fun j y v' e1 e2 e3 => ?_⟩, fun y c e => ?_, I.free, I.freeC, fun p hp => ?_, tracked ⟨oL, hoL, I.free⟩ hs, by simpa using I.len⟩ ⟨_, hs, .inl rfl⟩
    · exact (hs.2 b (Nat.ne_of_lt (Nat.lt_of_lt_of_le (Heap.lt_size e) I.ok.above))).trans (I.base.keep b o e n hb hx)
    · obtain ⟨sl, e1⟩ := I.base.slot b o e n hb hx
      exact ⟨sl, (hs.2 b (Nat.ne_of_lt (Nat.lt_of_lt_of_le (Heap.lt_size e) I.ok.above))).trans e1⟩
    · obtain ⟨o', e1⟩ := I.base.there b o e hx
      exact ⟨o', (hs.2 b (Nat.ne_of_lt (Nat.lt_of_lt_of_le (Heap.lt_size e) I.ok.above))).trans e1⟩
    · by_cases hj : j = i
      · subst hj
        rw [hi] at e1; cases e1
        rw [List.getElem?_set_self hiσ] at e2
        cases e2
        exact ⟨u, r, .inl ⟨hk, by simp⟩⟩
      · rw [List.getElem?_set_ne (Ne.symm hj)] at e2
        obtain ⟨u', r', q⟩ := hl j y v' e1 e2 e3
        refine ⟨u', r', ?_⟩
        rcases q with ⟨k, e⟩ | ⟨k, c, e, z⟩
        · refine .inl ⟨k, ?_⟩
          have : y ≠ x := fun e => hj (nodup_ix hN e1 (e ▸ hi))
          simp [this, e]
        · exact .inr ⟨k, c, e, z.sameBut hs (cne y c e)⟩
    · obtain ⟨w', z⟩ := I.cell y c e
      exact ⟨w', z.sameBut hs (cne y c e)⟩
    · obtain ⟨e, n, ne, nf, d⟩ := I.pin p hp
      exact ⟨(hs.2 p.1 ne).trans e, n, ne, nf, d⟩
  · have hfn : X.fn x = true := by
      rcases hf with z | z
      · exact z
      · rw [z] at hk; cases hk
    obtain ⟨c, hc⟩ := I.ok.has x (.inl hk)
    obtain ⟨w', z⟩ := I.cell x c hc
    refine wpAny_storeName_cell I.ok.kind hk hc z (fun h' hc' hs => ?_)
    obtain ⟨oc, hoc, hocd⟩ := id z
    refine h { s with heap := h' } ⟨I.ok, I.os, I.bare, ⟨fun b o e n hb hx => ?_, fun b o e n hb hx => ?_, I.base.free, fun b o e hx => ?_, I.base.tups, I.base.frzs, I.base.tbls⟩, ⟨m, hn.sameBut hs (Ne.symm (cne x c hc)), fun j y v' e1 e2 e3 => ?_⟩, fun y c' e => ?_, I.free, I.freeC, fun p hp => ?_, tracked ⟨oc, hoc, I.freeC x c hc⟩ hs, by simpa using I.len⟩ ⟨c, hs, .inr hc⟩
    · exact (hs.2 b (Nat.ne_of_lt (Nat.lt_of_lt_of_le (Heap.lt_size e) (I.ok.cab x c hfn hc)))).trans (I.base.keep b o e n hb hx)
    · obtain ⟨sl, e1⟩ := I.base.slot b o e n hb hx
      exact ⟨sl, (hs.2 b (Nat.ne_of_lt (Nat.lt_of_lt_of_le (Heap.lt_size e) (I.ok.cab x c hfn hc)))).trans e1⟩
    · obtain ⟨o', e1⟩ := I.base.there b o e hx
      exact ⟨o', (hs.2 b (Nat.ne_of_lt (Nat.lt_of_lt_of_le (Heap.lt_size e) (I.ok.cab x c hfn hc)))).trans e1⟩
    · by_cases hj : j = i
      · subst hj
        rw [hi] at e1; cases e1
        rw [List.getElem?_set_self hiσ] at e2
        cases e2
        exact ⟨u, r, .inr ⟨.inl hk, c, hc, hc'⟩⟩
      · rw [List.getElem?_set_ne (Ne.symm hj)] at e2
        obtain ⟨u', r', q⟩ := hl j y v' e1 e2 e3
        refine ⟨u', r', ?_⟩
        rcases q with q | ⟨k, c', e, z'⟩
        · exact .inl q
        · refine .inr ⟨k, c', e, z'.sameBut hs ?_⟩
          rintro rfl
          exact hj (nodup_ix hN e1 (I.ok.inj _ _ _ e hc ▸ hi))
    · by_cases hcc : c' = c
      · subst hcc; exact ⟨_, hc'⟩
      · obtain ⟨w2, z2⟩ := I.cell y c' e
        exact ⟨w2, z2.sameBut hs hcc⟩
    · obtain ⟨e, n, ne, nf, d⟩ := I.pin p hp
      refine ⟨(hs.2 p.1 ?_).trans e, n, ne, nf, d⟩
      intro q
      rw [q, hoc] at e
      have q' : oc = p.2 := Option.some.inj e
      exact d w' (by rw [← q']; exact hocd)
theorem store_ok {M : Model} {A : Around} {E : Value → Shared → Prop} {i : Nat} {x : Str} {v : V} {u : Value} {Q : Unit → Shared → Prop} (I : Inv X pins σ H s) (hN : X.N.Nodup) (hi : X.N[i]? = some x) (hx : Loc X.env.scope x) (r : RelV v u)
    (h : ∀ s', Inv X pins (σ.set i (some v)) H s' → Q () s') (hf : X.fn x = true ∨ X.env.scope.names.lookup x = some .local := by first | exact .inl rfl | exact .inr rfl | assumption) : wpAny M A (storeName X.env x u) Q E s :=
  store_ok2 I hN hi hx r (fun s' I' _ => h s' I') hf
theorem Inv.call' {s' : Shared} {ch : List Addr} (I : Inv X pins σ H s) (ho : s'.os = s.os) (u : Un (frs X.stack) ch H H' s.heap s'.heap) (hok : HOk X.prog X.w H' s'.heap) (hg : AllBare s'.gens)
    (hch : ∀ b ∈ ch, (b ∈ X.ex ∨ X.s₀.heap.objs.size ≤ b) ∧ b ≠ X.env.locals ∧ (∀ x c, X.env.cells.lookup x = some c → c ≠ b) ∧ ∀ p ∈ X.pn ++ pins, p.1 ≠ b) : Inv X pins σ H' s' := by
  obtain ⟨h', g', d', t', o'⟩ := s'
  have e : o' = s.os := ho
  subst e
  exact I.call (g' := g') (t' := t') (d' := d') u hok hg hch
end
noncomputable abbrev XK := Value → Option Addr → Hp → Prop
noncomputable abbrev St := List (Option V)
noncomputable abbrev VK := V → Hp → Prop
noncomputable abbrev TE := St → Hp → VK → Prop
noncomputable abbrev TT := St → Hp → (Bool → Hp → Prop) → Prop
noncomputable abbrev TA := St → Hp → (List V → Hp → Prop) → Prop
structure Ends where
  nx : St → Hp → Prop
  rt : VK
  bk : St → Hp → Prop := fun _ _ => False
  ct : St → Hp → Prop := fun _ _ => False
noncomputable abbrev TS := Ends → St → Hp → Prop
noncomputable def EP (X : Cx) (pins : List (Addr × Obj)) (σ : St) (Q : VK) (u : Value) (s' : Shared) : Prop := ∃ v H', Inv X pins σ H' s' ∧ RelV v u ∧ Q v H'
noncomputable def TP (X : Cx) (pins : List (Addr × Obj)) (σ : St) (Q : Bool → Hp → Prop) (b : Bool) (s' : Shared) : Prop := ∃ H', Inv X pins σ H' s' ∧ Q b H'
noncomputable def AP (X : Cx) (pins : List (Addr × Obj)) (σ : St) (Q : List V → Hp → Prop) (us : List Value) (s' : Shared) : Prop := ∃ vs H', Inv X pins σ H' s' ∧ Vals vs us ∧ Q vs H'
noncomputable def SP (X : Cx) (pins : List (Addr × Obj)) (D : Ends) (f : Flow) (s' : Shared) : Prop :=
  match f with
  | .next => ∃ σ' H', Inv X pins σ' H' s' ∧ D.nx σ' H'
  | .brk => ∃ σ' H', Inv X pins σ' H' s' ∧ D.bk σ' H'
  | .cont => ∃ σ' H', Inv X pins σ' H' s' ∧ D.ct σ' H'
  | .ret u => ∃ v σ' H', Inv X pins σ' H' s' ∧ RelV v u ∧ D.rt v H'
noncomputable def PE (X : Cx) (e : Expr) (t : TE) : Prop :=
  ∀ (pins : List (Addr × Obj)) (s : Shared) (σ : St) (H : Hp) (Q : VK), Inv X pins σ H s → t σ H Q → wpAny (model X.prog X.w) X.A (eval e X.env) (EP X pins σ Q) X.xe s
noncomputable def PT (X : Cx) (e : Expr) (t : TT) : Prop :=
  ∀ (pins : List (Addr × Obj)) (s : Shared) (σ : St) (H : Hp) (Q : Bool → Hp → Prop), Inv X pins σ H s → t σ H Q → wpAny (model X.prog X.w) X.A (isTrue e X.env (eval e X.env)) (TP X pins σ Q) X.xe s
noncomputable def PW (X : Cx) (e : Expr) (t : TT) : Prop :=
  ∀ (whole : Sem Value) (pins : List (Addr × Obj)) (s : Shared) (σ : St) (H : Hp) (Q : Bool → Hp → Prop), Inv X pins σ H s → t σ H Q → wpAny (model X.prog X.w) X.A (isTrue e X.env whole) (TP X pins σ Q) X.xe s
theorem PW.pt {X : Cx} {e : Expr} {t : TT} (h : PW X e t) : PT X e t := h _
noncomputable def PA (X : Cx) (es : List Expr) (t : TA) : Prop :=
  ∀ (pos : Pos) (pins : List (Addr × Obj)) (s : Shared) (σ : St) (H : Hp) (Q : List V → Hp → Prop), Inv X pins σ H s → t σ H Q → wpAny (model X.prog X.w) X.A (spliced (backTo pos (starEach es X.env))) (AP X pins σ Q) X.xe s
noncomputable def PS (X : Cx) (st : Stmt) (t : TS) : Prop :=
  ∀ (pins : List (Addr × Obj)) (s : Shared) (σ : St) (H : Hp) (D : Ends), Inv X pins σ H s → t D σ H → wpAny (model X.prog X.w) X.A (exec st X.env) (SP X pins D) X.xe s
noncomputable def PSs (X : Cx) (st : List Stmt) (t : TS) : Prop :=
  ∀ (pins : List (Addr × Obj)) (s : Shared) (σ : St) (H : Hp) (D : Ends), Inv X pins σ H s → t D σ H → wpAny (model X.prog X.w) X.A (execs st X.env) (SP X pins D) X.xe s
theorem thn {α : Type} {t : Sem α} {Q Q' : α → Shared → Prop} {M : Model} {A : Around} {E : Value → Shared → Prop} {s : Shared} (h : wpAny M A t Q E s) (hQ : ∀ a s, Q a s → Q' a s) : wpAny M A t Q' E s := wpAny_mono h hQ fun _ _ x => x
end L2
namespace L2
open PySem PySem.Spec PyProof.Rows
section
variable {X : Cx}
noncomputable def tVar (i : Nat) : TE := fun σ H Q => ∃ v, σ[i]? = some (some v) ∧ Q v H
noncomputable def tC (v : V) : TE := fun _ H Q => Q v H
theorem pe_var {i : Nat} {x : Str} {pos : Pos} (hN : X.N[i]? = some x) (hv : Vis X.env.scope x) (hd : (x == ("__debug__" : Str)) = false := by decide) (hcd : (x == ("__classdict__" : Str)) = false := by decide) : PE X (.Name x pos) (tVar i) := by
  intro pins s σ H Q I h
  obtain ⟨v, e, h⟩ := h
  obtain ⟨m, hn, hl⟩ := I.loc
  obtain ⟨u, r, l⟩ := hl i x v hN e hv
  have fin : EP X pins σ Q u s := ⟨v, H, I, r, h⟩
  rcases l with ⟨hk, hm⟩ | ⟨hk, c, hc, hcell⟩
  · exact wpAny_Name (wpAny_loadName_local I.ok.kind hk hn hm fin) hd
  · rcases hk with hk | hk
    · exact wpAny_Name (wpAny_loadName_cell I.ok.kind hk hc hcell fin) hd
    · exact wpAny_Name (wpAny_loadName_free I.ok.kind hk hc hcell fin hcd) hd
theorem pe_int {i j pos} : PE X (.Constant (.int i) j pos) (tC (.int i)) := fun _ _ _ H _ I h => wpAny_Constant_int ⟨.int i, H, I.tok _, ⟨_, rfl⟩, h⟩
theorem pe_bl {b j pos} : PE X (.Constant (.bool b) j pos) (tC (.bl b)) := fun _ _ _ H _ I h => Constant_bool ⟨.bl b, H, I, rfl, h⟩
theorem pe_non {j pos} : PE X (.Constant .none j pos) (tC .non) := fun _ _ _ H _ I h => Constant_none ⟨.non, H, I, rfl, h⟩
theorem pe_str {x j pos} : PE X (.Constant (.str x) j pos) (tC (.str x)) := fun _ _ _ H _ I h => Calls.Constant_str ⟨.str x, H, I.tok _, ⟨_, rfl⟩, h⟩
noncomputable def Gl (X : Cx) (x : Str) : Prop := X.env.kindOf x = some .globalImplicit
theorem ld_glob {E : Value → Shared → Prop} {pins : List (Addr × Obj)} {s : Shared} {σ : St} {H : Hp} {x : Str} {u : Value} {pos : Pos} {Q : Value → Shared → Prop} (I : Inv X pins σ H s) (hg : Gl X x) (hm : X.mg x = some u) (h : Q u s)
    (hd : (x == ("__debug__" : Str)) = false := by decide) : wpAny (model X.prog X.w) X.A (eval (.Name x pos) X.env) Q E s :=
  Calls.Name_function_global I.ok.kind hg (Calls.loadGlobal_global (by rw [I.ok.glob]; exact I.mod.glob.keeps I.bk) hm h) hd
theorem ld_blt {E : Value → Shared → Prop} {pins : List (Addr × Obj)} {s : Shared} {σ : St} {H : Hp} {x : Str} {u : Value} {pos : Pos} {Q : Value → Shared → Prop} (I : Inv X pins σ H s) (hg : Gl X x) (hm : X.mg x = none) (hv : bootBuiltins x = some u) (h : Q u s)
    (hn : x ≠ "__name__" := by decide) (hd : (x == ("__debug__" : Str)) = false := by decide) : wpAny (model X.prog X.w) X.A (eval (.Name x pos) X.env) Q E s := by
  obtain ⟨mb, h1, h2⟩ := I.mod.blt
  exact Calls.Name_function_global I.ok.kind hg (Calls.loadGlobal_builtin (by rw [I.ok.glob]; exact I.mod.glob.keeps I.bk) hm (by rw [I.ok.blt]; exact h1.keeps I.bk) ((h2 x hn).trans hv) h) hd
theorem pe_glob {x : Str} {v : V} {u : Value} {pos : Pos} (hg : Gl X x) (hm : X.mg x = some u) (r : RelV v u) (hd : (x == ("__debug__" : Str)) = false := by decide) : PE X (.Name x pos) (tC v) :=
  fun _ _ _ H _ I h => ld_glob I hg hm ⟨v, H, I, r, h⟩ hd
theorem pe_bltn {x : Str} {v : V} {u : Value} {pos : Pos} (hg : Gl X x) (hm : X.mg x = none) (hv : bootBuiltins x = some u) (r : RelV v u) (hn : x ≠ "__name__" := by decide) (hd : (x == ("__debug__" : Str)) = false := by decide) : PE X (.Name x pos) (tC v) :=
  fun _ _ _ H _ I h => ld_blt I hg hm hv ⟨v, H, I, r, h⟩ hn hd
variable {a b : Expr} {ta tb : TE} {pos : Pos}
noncomputable def tB (t : TE) : TT := fun σ H Q => t σ H fun x H1 => ∃ c, x = .bl c ∧ Q c H1
theorem pt_val {e : Expr} {t : TE} (h : PE X e t) (he : ∀ whole, isTrue e X.env whole = (do let v ← whole; standAt e.pos; holding [v] (truthy v)) := by intro _; rfl) : PT X e (tB t) := by
  intro pins s σ H Q I hw
  refine isTrue_plain (thn (h pins s σ H _ I hw) fun v s1 ⟨x, H1, I1, r1, q1⟩ => ?_) (he _)
  obtain ⟨d, rfl, q⟩ := q1
  cases r1
  exact wpAny_truthy_bool ⟨H1, I1, q⟩
variable {tA tB' : TT} {rest : List Expr}
noncomputable def tAnd (t u : TT) : TT := fun σ H Q => t σ H fun c H1 => if c = true then u σ H1 Q else Q false H1
noncomputable def tOr (t u : TT) : TT := fun σ H Q => t σ H fun c H1 => if c = true then Q true H1 else u σ H1 Q
noncomputable def tNot (t : TT) : TT := fun σ H Q => t σ H fun c H1 => Q (!c) H1
theorem pw_and1 (ha : PT X a tA) : PW X (.BoolOp .And [a] pos) tA := by
  intro wh pins s σ H Q I h
  refine isTrue_and (thn (ha pins s σ H Q I h) fun c s1 e => ?_)
  cases c with
  | true => exact isTrue_and_nil e
  | false => exact e
theorem pw_or1 (ha : PT X a tA) : PW X (.BoolOp .Or [a] pos) tA := by
  intro wh pins s σ H Q I h
  refine isTrue_or (thn (ha pins s σ H Q I h) fun c s1 e => ?_)
  cases c with
  | false => exact isTrue_or_nil e
  | true => exact e
theorem pw_and (ha : PT X a tA) (hb : PW X (.BoolOp .And (b :: rest) pos) tB') : PW X (.BoolOp .And (a :: b :: rest) pos) (tAnd tA tB') := by
  intro wh pins s σ H Q I h
  refine isTrue_and (thn (ha pins s σ H _ I h) fun c s1 ⟨H1, I1, q1⟩ => ?_)
  cases c with
  | true => exact hb wh pins s1 σ H1 Q I1 q1
  | false => exact ⟨H1, I1, q1⟩
theorem pw_or (ha : PT X a tA) (hb : PW X (.BoolOp .Or (b :: rest) pos) tB') : PW X (.BoolOp .Or (a :: b :: rest) pos) (tOr tA tB') := by
  intro wh pins s σ H Q I h
  refine isTrue_or (thn (ha pins s σ H _ I h) fun c s1 ⟨H1, I1, q1⟩ => ?_)
  cases c with
  | true => exact ⟨H1, I1, q1⟩
  | false => exact hb wh pins s1 σ H1 Q I1 q1
theorem pt_not (ha : PT X a tA) : PT X (.UnaryOp .Not a pos) (tNot tA) := by
  intro pins s σ H Q I h
  exact isTrue_not (ha pins s σ H (fun c H1 => Q (!c) H1) I h)
noncomputable def tAndV (ta tb : TE) : TE := fun σ H Q => ta σ H fun x H1 => ∃ c, x = .bl c ∧ if c = true then tb σ H1 Q else Q (.bl false) H1
noncomputable def tOrV (ta tb : TE) : TE := fun σ H Q => ta σ H fun x H1 => ∃ c, x = .bl c ∧ if c = true then Q (.bl true) H1 else tb σ H1 Q
theorem pe_one {op} {t : TE} (h : PE X a t) : PE X (.BoolOp op [a] pos) t := fun pins s σ H Q I hw => BoolOp_one (h pins s σ H Q I hw)
theorem pe_and (ha : PE X a ta) (hb : PE X (.BoolOp .And (b :: rest) pos) tb) : PE X (.BoolOp .And (a :: b :: rest) pos) (tAndV ta tb) := by
  intro pins s σ H Q I h
  refine BoolOp_and (thn (ha pins s σ H _ I h) fun v s1 ⟨x, H1, I1, r1, q1⟩ => ?_)
  obtain ⟨c, rfl, q1⟩ := q1
  cases r1
  refine wpAny_truthy_bool ?_
  cases c with
  | true => exact hb pins s1 σ H1 Q I1 q1
  | false => exact ⟨.bl false, H1, I1, rfl, q1⟩
theorem pe_or (ha : PE X a ta) (hb : PE X (.BoolOp .Or (b :: rest) pos) tb) : PE X (.BoolOp .Or (a :: b :: rest) pos) (tOrV ta tb) := by
  intro pins s σ H Q I h
  refine BoolOp_or (thn (ha pins s σ H _ I h) fun v s1 ⟨x, H1, I1, r1, q1⟩ => ?_)
  obtain ⟨c, rfl, q1⟩ := q1
  cases r1
  refine wpAny_truthy_bool ?_
  cases c with
  | false => exact hb pins s1 σ H1 Q I1 q1
  | true => exact ⟨.bl true, H1, I1, rfl, q1⟩
end
end L2
namespace L2
open PySem PySem.Spec PyProof.Rows
noncomputable def SqL (K : PySem.W.Frag) (H : Hp) (a : Addr) (xs : List V) : Prop :=
  Rd H a (.lst xs) ∨
    ∃ (o : Obj) (its : Array Value) (n : Nat), K.lookup a = some o ∧ o.cls = .type "list" ∧ o.dict = none ∧ o.data = .seq its n ∧ its.size ≤ sizeLine ∧ Vals xs its.toList
noncomputable def SqT (K : PySem.W.Frag) (H : Hp) (a : Addr) (xs : List V) : Prop :=
  Rd H a (.tup xs) ∨
    ∃ (o : Obj) (its : Array Value) (n : Nat), K.lookup a = some o ∧ o.cls = .type "tuple" ∧ o.data = .seq its n ∧ its.size ≤ sizeLine ∧ Vals xs its.toList
noncomputable def absV : Value → Option V
  | .none => some .non
  | .bool b => some (.bl b)
  | .int i _ => some (.int i)
  | .str x _ => some (.str x)
  | .bytes b _ => some (.byt b)
  | .float b _ => some (.flt b)
  | .ref a => some (.ref a)
  | .type n => some (.ty n)
  | _ => none
theorem RelV.abs {x : V} {u : Value} (r : RelV x u) : absV u = some x := by
  cases x with
  | non => cases r; rfl
  | bl _ => cases r; rfl
  | int _ => obtain ⟨t, rfl⟩ := r; rfl
  | str _ => obtain ⟨t, rfl⟩ := r; rfl
  | byt _ => obtain ⟨t, rfl⟩ := r; rfl
  | flt _ => obtain ⟨t, rfl⟩ := r; rfl
  | ref _ => cases r; rfl
  | ty _ => cases r; rfl
theorem RelV.inj {x y : V} {u : Value} (r : RelV x u) (q : RelV y u) : x = y := Option.some.inj (r.abs.symm.trans q.abs)
theorem Vals.inj : ∀ {xs ys : List V} {us : List Value}, Vals xs us → Vals ys us → xs = ys
  | _, _, _, .nil, .nil => rfl
  | _, _, _, .cons r t, .cons r' t' => by rw [r.inj r', Vals.inj t t']
section
variable {X : Cx} {pins : List (Addr × Obj)} {σ : St} {H : Hp} {s : Shared} {a : Addr} {xs ys : List V}
theorem SqL.of {K : PySem.W.Frag} (h : H a = some (.lst xs)) : SqL K H a xs := .inl (.inl h)
theorem SqT.of {K : PySem.W.Frag} (h : H a = some (.tup xs)) : SqT K H a xs := .inl (.inl h)
theorem Inv.list (I : Inv X pins σ H s) (h : SqL X.K H a xs) : ∃ its : List Value, Vals xs its ∧ PlainL s.heap a its.toArray ∧ xs.length ≤ sizeLine := by
  rcases h with h | ⟨o, its, n, hk, hc, hd, hs, hz, r⟩
  · obtain ⟨z, its, n, r, e⟩ := h.ok I.hok
    exact ⟨its, r, ⟨_, n, e, rfl, rfl, rfl⟩, z⟩
  · refine ⟨its.toList, r, ⟨o, n, I.kIn a o hk, hc, hd, by simpa using hs⟩, ?_⟩
    have e := r.length
    simp only [Array.length_toList] at e
    omega
theorem Inv.tuple (I : Inv X pins σ H s) (h : SqT X.K H a xs) : ∃ its : List Value, Vals xs its ∧ IsTup s.heap a its.toArray ∧ xs.length ≤ sizeLine := by
  rcases h with h | ⟨o, its, n, hk, hc, hs, hz, r⟩
  · obtain ⟨z, its, r, p⟩ := h.ok I.hok
    exact ⟨its, r, p.tup, z⟩
  · refine ⟨its.toList, r, ⟨o, I.kIn a o hk, hc, n, by simpa using hs⟩, ?_⟩
    have e := r.length
    simp only [Array.length_toList] at e
    omega
theorem Inv.list_inj (I : Inv X pins σ H s) (h : SqL X.K H a xs) (h' : SqL X.K H a ys) : xs = ys := by
  obtain ⟨its, r, ⟨o, n, e, _, _, d⟩, _⟩ := I.list h
  obtain ⟨its', r', ⟨o', n', e', _, _, d'⟩, _⟩ := I.list h'
  rw [e] at e'; cases e'
  rw [d] at d'
  injection d' with d1 _
  have : its = its' := by simpa using congrArg Array.toList d1
  subst this
  exact r.inj r'
theorem Inv.tuple_inj (I : Inv X pins σ H s) (h : SqT X.K H a xs) (h' : SqT X.K H a ys) : xs = ys := by
  obtain ⟨its, r, ⟨o, e, _, n, d⟩, _⟩ := I.tuple h
  obtain ⟨its', r', ⟨o', e', _, n', d'⟩, _⟩ := I.tuple h'
  rw [e] at e'; cases e'
  rw [d] at d'
  injection d' with d1 _
  have : its = its' := by simpa using congrArg Array.toList d1
  subst this
  exact r.inj r'
end
noncomputable abbrev Cx.wish (X : Cx) (E : Value → Shared → Prop) : Cx := { X with xe := E }
noncomputable abbrev Cx.nox (X : Cx) : Cx := X.wish fun _ _ => False
theorem Cx.Ok.wish {X : Cx} (ok : X.Ok) (E : Value → Shared → Prop) : (X.wish E).Ok :=
  ⟨ok.mod, ok.kind, ok.glob, ok.blt, ok.above, ok.inj, ok.has, ok.cab, ok.hd, ok.frames, ok.stk, ok.exf, ok.bs, ok.bsz, ok.noex, ok.exfs, ok.funs, ok.frf⟩
theorem Cx.Ok.unwish {X : Cx} {E : Value → Shared → Prop} (ok : (X.wish E).Ok) : X.Ok :=
  ⟨ok.mod, ok.kind, ok.glob, ok.blt, ok.above, ok.inj, ok.has, ok.cab, ok.hd, ok.frames, ok.stk, ok.exf, ok.bs, ok.bsz, ok.noex, ok.exfs, ok.funs, ok.frf⟩
section
variable {X : Cx} {pins : List (Addr × Obj)} {σ : St} {H : Hp} {s : Shared} {E : Value → Shared → Prop}
theorem Inv.wish (I : Inv X pins σ H s) (E : Value → Shared → Prop) : Inv (X.wish E) pins σ H s := ⟨I.ok.wish E, I.os, I.bare, I.base, I.loc, I.cell, I.free, I.freeC, I.pin, I.hok, I.len⟩
theorem Inv.unwish (I : Inv (X.wish E) pins σ H s) : Inv X pins σ H s := ⟨I.ok.unwish, I.os, I.bare, I.base, I.loc, I.cell, I.free, I.freeC, I.pin, I.hok, I.len⟩
theorem SP.unwish {D : Ends} {f : Flow} {s' : Shared} (h : SP (X.wish E) pins D f s') : SP X pins D f s' := by
  cases f with
  | next => obtain ⟨σ', H', I, q⟩ := h; exact ⟨σ', H', I.unwish, q⟩
  | brk => obtain ⟨σ', H', I, q⟩ := h; exact ⟨σ', H', I.unwish, q⟩
  | cont => obtain ⟨σ', H', I, q⟩ := h; exact ⟨σ', H', I.unwish, q⟩
  | ret u => obtain ⟨v, σ', H', I, r, q⟩ := h; exact ⟨v, σ', H', I.unwish, r, q⟩
theorem PSs.nox {st : List Stmt} {t : TS} (h : PSs X.nox st t) : PSs X st t := fun pins s σ H D I hw =>
  wpAny_mono (h pins s σ H D (I.wish _) hw) (fun _ _ q => q.unwish) fun _ _ z => False.elim z
end
section
variable {X : Cx} {st : Stmt} {rest : List Stmt} {t u : TS} {e : Expr} {te : TE} {pos : Pos}
noncomputable def tNext : TS := fun D σ H => D.nx σ H
noncomputable def tSeq (t u : TS) : TS := fun D σ H => t { D with nx := u D } σ H
theorem pss_nil : PSs X [] tNext := fun _ _ σ H _ I h => wpAny_execs_nil ⟨σ, H, I, h⟩
theorem pss_cons (h1 : PS X st t) (h2 : PSs X rest u) : PSs X (st :: rest) (tSeq t u) := by
  intro pins s σ H D I h
  refine wpAny_execs_cons (thn (h1 pins s σ H { D with nx := u D } I h) fun f s1 q => ?_)
  cases f with
  | next =>
    obtain ⟨σ', H', I', q⟩ := q
    exact h2 pins s1 σ' H' D I' q
  | ret v => exact q
  | brk => exact q
  | cont => exact q
theorem pss_one (h1 : PS X st t) : PSs X [st] t := by
  intro pins s σ H D I h
  refine wpAny_execs_cons (thn (h1 pins s σ H D I h) fun f s1 q => ?_)
  cases f with
  | next => exact wpAny_execs_nil q
  | ret v => exact q
  | brk => exact q
  | cont => exact q
theorem Inv.quiet {pins : List (Addr × Obj)} {σ : St} {H : Hp} {s : Shared} (I : Inv X pins σ H s) : interactive X.env = false := by simp [interactive, I.ok.kind]
noncomputable def tRet (te : TE) : TS := fun D σ H => te σ H D.rt
theorem ps_ret (he : PE X e te) : PS X (.Return (some e) pos) (tRet te) := by
  intro pins s σ H D I h
  exact wpAny_Return_some (thn (he pins s σ H _ I h) fun v s1 ⟨x, H1, I1, r1, q1⟩ => ⟨x, σ, H1, I1, r1, q1⟩)
noncomputable def tIfS (c : TT) (t u : TS) : TS := fun D σ H => c σ H fun b H1 => if b = true then t D σ H1 else u D σ H1
theorem ps_if {c : Expr} {a b : List Stmt} {tc : TT} (hc : PT X c tc) (ha : PSs X a t) (hb : PSs X b u) : PS X (.If c a b pos) (tIfS tc t u) := by
  intro pins s σ H D I h
  refine wpAny_If (thn (hc pins s σ H _ I h) fun d s1 ⟨H1, I1, q1⟩ => ?_)
  cases d with
  | true => exact ha pins s1 σ H1 D I1 q1
  | false => exact hb pins s1 σ H1 D I1 q1
noncomputable def tNever : TS := fun _ _ _ => False
theorem pss_never {sts : List Stmt} : PSs X sts tNever := fun _ _ _ _ _ _ h => h.elim
end
noncomputable abbrev TG := V → St → Hp → (St → Hp → Prop) → Prop
noncomputable abbrev TGs := List V → St → Hp → (St → Hp → Prop) → Prop
noncomputable def PG (X : Cx) (target : Expr) (t : TG) : Prop :=
  ∀ (pins : List (Addr × Obj)) (s : Shared) (σ : St) (H : Hp) (v : V) (u : Value) (Q : St → Hp → Prop), Inv X pins σ H s → RelV v u → t v σ H Q →
    wpAny (model X.prog X.w) X.A (assign target X.env u) (fun _ s' => ∃ σ' H', Inv X pins σ' H' s' ∧ Q σ' H') X.xe s
noncomputable def PGs (X : Cx) (ts : List Expr) (t : TGs) : Prop :=
  ∀ (pins : List (Addr × Obj)) (s : Shared) (σ : St) (H : Hp) (vs : List V) (us : List Value) (Q : St → Hp → Prop), Inv X pins σ H s → Vals vs us → t vs σ H Q →
    wpAny (model X.prog X.w) X.A (assignInOrder ((assignEach ts X.env).map (·.2)) us) (fun _ s' => ∃ σ' H', Inv X pins σ' H' s' ∧ Q σ' H') X.xe s
noncomputable abbrev TSet := V → V → V → Hp → (Hp → Prop) → Prop
noncomputable def PSet (X : Cx) (t : TSet) : Prop :=
  ∀ (pins : List (Addr × Obj)) (s : Shared) (σ : St) (H : Hp) (o i v : V) (ov iv u : Value) (Q : Hp → Prop), Inv X pins σ H s → RelV o ov → RelV i iv → RelV v u → t o i v H Q →
    wpAny (model X.prog X.w) X.A (setItem ov iv u) (fun _ s' => ∃ H', Inv X pins σ H' s' ∧ Q H') X.xe s
section
variable {X : Cx} {pos : Pos}
noncomputable def gName (i : Nat) : TG := fun v σ H Q => Q (σ.set i (some v)) H
theorem pg_name {i : Nat} {x : Str} (hN : X.N.Nodup) (hi : X.N[i]? = some x) (hx : Loc X.env.scope x) (hf : X.fn x = true ∨ X.env.scope.names.lookup x = some .local := by first | exact .inl rfl | exact .inr rfl | assumption) : PG X (.Name x pos) (gName i) := by
  intro pins s σ H v u Q I r h
  exact wpAny_assign_Name (store_ok I hN hi hx r (fun s' I' => ⟨_, H, I', h⟩) hf)
noncomputable def gNil : TGs := fun vs σ H Q => vs = [] ∧ Q σ H
noncomputable def gCons (t : TG) (u : TGs) : TGs := fun vs σ H Q => ∃ v r, vs = v :: r ∧ t v σ H fun σ' H' => u r σ' H' Q
theorem pgs_nil : PGs X [] gNil := by
  intro pins s σ H vs us Q I r h
  obtain ⟨e, h⟩ := h
  subst e
  cases r
  exact assignInOrder_nil ⟨σ, H, I, h⟩
theorem pgs_cons {e : Expr} {es : List Expr} {t : TG} {u : TGs} (h1 : PG X e t) (h2 : PGs X es u)
    (hs : (assignEach (e :: es) X.env).map (·.2) = assign e X.env :: (assignEach es X.env).map (·.2) := by rfl) : PGs X (e :: es) (gCons t u) := by
  intro pins s σ H vs us Q I r h
  obtain ⟨v, vr, e1, h⟩ := h
  subst e1
  cases r with
  | cons r rr =>
    rw [hs]
    refine assignInOrder_cons (thn (h1 pins s σ H _ _ _ I r h) fun _ s1 ⟨σ1, H1, I1, q1⟩ => ?_)
    exact h2 pins s1 σ1 H1 _ _ Q I1 rr q1
noncomputable def gTup (K : PySem.W.Frag) (n : Nat) (t : TGs) : TG := fun v σ H Q => ∃ a xs, v = .ref a ∧ SqT K H a xs ∧ xs.length = n ∧ t xs σ H Q
theorem pg_tup {es : List Expr} {k : Nat} {t : TGs} {n : Nat} (hc : X.calm = true) (h : PGs X es t)
    (hn : (assignEach es X.env).length = n := by rfl) (hst : (assignEach es X.env).findIdx? (·.1) = none := by rfl) : PG X (.Tuple es k pos) (gTup X.K n t) := by
  intro pins s σ H v u Q I r hw
  obtain ⟨a, xs, e1, hq, hl, hw⟩ := hw
  subst e1
  cases r
  obtain ⟨its, rv, ht, hz⟩ := I.tuple hq
  refine assign_Tuple_tuple (I.ok.hd hc) ht (by simp [hn, ← hl, rv.length]) hst fun h' hx => ?_
  have I1 : Inv X pins σ H { s with heap := h' } := I.kept (t' := s.toks) fun b o e => hx b o (Nat.ne_of_lt (Heap.lt_size e)) e
  exact h pins _ σ H xs _ Q I1 (by simpa using rv) hw
noncomputable def gSub (to ti : TE) (t : TSet) : TG := fun v σ H Q => to σ H fun o H1 => ti σ H1 fun i H2 => t o i v H2 fun H3 => Q σ H3
theorem pg_sub {o i : Expr} {to ti : TE} {t : TSet} (ho : PE X o to) (hi : PE X i ti) (hs : PSet X t)
    (ha : ∀ v, assign (.Subscript o i pos) X.env v = (do
      let ov ← holding [v] (eval o X.env)
      let iv ← holding [v, ov] (eval i X.env)
      standAt pos
      holding [v, ov, iv] (setItem ov iv v)
      release [v, ov, iv] []) := by intro _; rfl) : PG X (.Subscript o i pos) (gSub to ti t) := by
  intro pins s σ H v u Q I r h
  rw [ha]
  refine wpAny_bind (wpAny_holding (thn (ho pins s σ H _ I h) fun ov s1 ⟨x, H1, I1, r1, q1⟩ => ?_))
  refine wpAny_bind (wpAny_holding (thn (hi pins s1 σ H1 _ I1 q1) fun iv s2 ⟨y, H2, I2, r2, q2⟩ => ?_))
  refine wpAny_bind (wpAny_standAt (wpAny_bind (wpAny_holding (thn (hs pins s2 σ H2 x y v ov iv u _ I2 r1 r2 r q2) fun _ s3 ⟨H3, I3, q3⟩ => ?_))))
  exact wpAny_release ⟨σ, H3, I3, q3⟩
noncomputable def tAsg (te : TE) (g : TG) : TS := fun D σ H => te σ H fun x H1 => g x σ H1 D.nx
theorem ps_asg {tg e : Expr} {te : TE} {g : TG} (he : PE X e te) (hg : PG X tg g) (hs : swapsWithSole [tg] e pos.line X.env = pure false := by rfl) (hw : swappedStores [tg] e X.env = pure none := by rfl)
    (h1 : (assignEach [tg] X.env).map (·.2) = [assign tg X.env] := by rfl) : PS X (.Assign [tg] e pos) (tAsg te g) := by
  intro pins s σ H D I h
  refine wpAny_Assign_stores (thn (he pins s σ H _ I h) fun v s1 ⟨x, H1, I1, r1, q1⟩ => ?_) hs hw
  rw [h1]
  exact thn (hg pins s1 σ H1 x v _ I1 r1 q1) fun _ s2 q => q
theorem ps_set {i : Nat} {x : Str} {e : Expr} {te : TE} {pos' : Pos} (hN : X.N.Nodup) (hi : X.N[i]? = some x) (hx : Loc X.env.scope x) (he : PE X e te) (hs : swapsWith e (some (.Name x pos')) pos.line X.env = pure false := by rfl) (hf : X.fn x = true ∨ X.env.scope.names.lookup x = some .local := by first | exact .inl rfl | exact .inr rfl | assumption) :
    PS X (.Assign [.Name x pos'] e pos) (tAsg te (gName i)) := by
  intro pins s σ H D I h
  refine wpAny_Assign_Name (thn (he pins s σ H _ I h) fun v s1 ⟨y, H1, I1, r1, q1⟩ => ?_) hs
  exact store_ok I1 hN hi hx r1 (fun s2 I2 => ⟨_, H1, I2, q1⟩) hf
end
structure It where
  go : Nat → Hp → Prop
  yld : Nat → Hp → V → Hp → Prop
  stop : Nat → Hp → Prop
noncomputable def FpOk (X : Cx) (pins : List (Addr × Obj)) (H : Hp) (b : Addr) : Prop :=
  H b = none ∧ b ≠ X.env.locals ∧ b ∉ X.fs ∧ (b ∈ X.ex ∨ X.s₀.heap.objs.size ≤ b) ∧ (∀ x c, X.env.cells.lookup x = some c → c ≠ b) ∧ ∀ p ∈ X.pn ++ pins, p.1 ≠ b
theorem Inv.fpOk {X : Cx} {pins : List (Addr × Obj)} {σ : St} {H H' : Hp} {s : Shared} {b : Addr} (I : Inv X pins σ H s) (hb : s.heap.objs.size ≤ b) (hn : H' b = none) : FpOk X pins H' b := by
  refine ⟨hn, Nat.ne_of_gt (Nat.lt_of_lt_of_le I.lt hb), I.nofs hb, .inr (Nat.le_trans I.sz hb), fun x c e z => ?_, fun p hp z => ?_⟩
  · obtain ⟨v, q⟩ := I.cell x c e
    exact absurd (Nat.lt_of_lt_of_le q.lt (by rw [z]; exact hb)) (Nat.lt_irrefl _)
  · exact absurd (Nat.lt_of_lt_of_le (Heap.lt_size (I.pin p hp).1) (by rw [z]; exact hb)) (Nat.lt_irrefl _)
structure Turn (P : Program) (w : World) (K : PySem.W.Frag) (tg : Expr) (J : It) (fp : List Addr) (it : Addr) (tn : Nat → Heap → Prop) : Prop where
  mem : it ∈ fp
  obj : ∀ i h, tn i h → ∀ b ∈ fp, ∃ o, h.get? b = some o ∧ ∀ v, o.data ≠ .cell v
  keep : ∀ i h h', tn i h → (∀ b ∈ fp, ∀ o, h.get? b = some o → h'.get? b = some o) → tn i h'
  item : ∀ (X : Cx), X.prog = P → X.w = w → X.K = K → X.calm = true → ∀ (i : Nat) (pins : List (Addr × Obj)) (s : Shared) (σ : St) (H : Hp) (E : Value → Shared → Prop), Inv X pins σ H s → (∀ b ∈ fp, FpOk X pins H b) → tn i s.heap → J.go i H →
    wpAny (model P w) X.A (pyNext (.ref it)) (fun r s1 => ∃ u, r = some u ∧
      wpAny (model P w) X.A (letOwnedTupleGo tg (.ref it) u) (fun _ s2 => ∃ x H', Inv X pins σ H' s2 ∧ RelV x u ∧ J.yld i H x H' ∧ tn (i + 1) s2.heap ∧ ∀ b ∈ fp, H' b = none) E s1) E s
  done : ∀ (X : Cx), X.prog = P → X.w = w → X.K = K → X.calm = true → ∀ (i : Nat) (pins : List (Addr × Obj)) (s : Shared) (σ : St) (H : Hp) (E : Value → Shared → Prop), Inv X pins σ H s → (∀ b ∈ fp, FpOk X pins H b) → tn i s.heap → J.stop i H →
    wpAny (model P w) X.A (pyNext (.ref it)) (fun r s1 => r = none ∧ Inv X pins σ H s1) E s
  self : ∀ (A : Around) (i : Nat) (s : Shared) (Q : Value → Shared → Prop) (E : Value → Shared → Prop), tn i s.heap → Q (.ref it) s → wpAny (model P w) A (pyIter (.ref it)) Q E s
noncomputable abbrev TI := St → Hp → (It → Hp → Prop) → Prop
noncomputable def PIE (X : Cx) (pins : List (Addr × Obj)) (σ : St) (tg : Expr) (R : It → Hp → Prop) (itv : Value) (s2 : Shared) : Prop :=
  ∃ (it : Addr) (fp : List Addr) (tn : Nat → Heap → Prop) (J : It) (H' : Hp), itv = .ref it ∧ Inv X pins σ H' s2 ∧ Turn X.prog X.w X.K tg J fp it tn ∧ tn 0 s2.heap ∧ (∀ b ∈ fp, FpOk X pins H' b) ∧ R J H'
noncomputable def PI (X : Cx) (tg iter : Expr) (wi : TI) : Prop :=
  ∀ (pins : List (Addr × Obj)) (s : Shared) (σ : St) (H : Hp) (R : It → Hp → Prop), Inv X pins σ H s → wi σ H R →
    wpAny (model X.prog X.w) X.A (eval iter X.env) (fun v s1 => wpAny (model X.prog X.w) X.A (pyIter v) (PIE X pins σ tg R) X.xe s1) X.xe s
theorem go_of {M : Model} {A : Around} {E : Value → Shared → Prop} {s : Shared} {tg : Expr} {it : Addr} {u : Value} {o : Obj} {n : String} {vs : Array Value} {Q : Unit → Shared → Prop} (ho : s.heap.get? it = some o) (hc : o.cls = .type n) (hd : o.data = .fields vs)
    (hn : ["enumerate", "zip", "dict_itemiterator", "dict_reverseitemiterator", "odict_iterator", "itertools.zip_longest", "itertools.pairwise"].contains n = false) (hQ : Q () s) : wpAny M A (letOwnedTupleGo tg (.ref it) u) Q E s := by
  unfold letOwnedTupleGo
  cases tg <;> first
    | exact wpAny_pure hQ
    | (cases u <;> first
        | exact wpAny_pure hQ
        | (refine wpAny_bind (wpAny_load ho ?_)
           rw [hc, hd]
           show wpAny M A (if (["enumerate", "zip", "dict_itemiterator", "dict_reverseitemiterator", "odict_iterator", "itertools.zip_longest", "itertools.pairwise"].contains n && vs[0]? == some (rawInt _)) = true then _ else _) Q E s
           rw [if_neg (by intro h; rw [hn, Bool.false_and] at h; cases h)]
           exact wpAny_pure hQ))
noncomputable def Itl (K : PySem.W.Frag) (a : Addr) : It :=
  ⟨fun i H => ∃ xs x, SqL K H a xs ∧ xs[i]? = some x, fun i H x H' => H' = H ∧ ∀ xs, SqL K H a xs → xs[i]? = some x, fun i H => ∃ xs, SqL K H a xs ∧ xs.length ≤ i⟩
noncomputable def Itt (K : PySem.W.Frag) (a : Addr) : It :=
  ⟨fun i H => ∃ xs x, SqT K H a xs ∧ xs[i]? = some x, fun i H x H' => H' = H ∧ ∀ xs, SqT K H a xs → xs[i]? = some x, fun i H => ∃ xs, SqT K H a xs ∧ xs.length ≤ i⟩
noncomputable def Itr (lo : Int) (n : Nat) : It := ⟨fun i _ => i < n, fun i H x H' => H' = H ∧ x = .int (lo + i), fun i _ => n ≤ i⟩
theorem turn_list {P : Program} {w : World} {K : PySem.W.Frag} {tg : Expr} (a it : Addr) : Turn P w K tg (Itl K a) [it] it (fun i h => h.IsListIter it a i) where
  mem := by simp
  obj := fun i h st b hb => by
    have e : b = it := by simpa using hb
    subst e
    obtain ⟨o, e, c, d⟩ := st
    exact ⟨o, e, fun v z => by rw [d] at z; cases z⟩
  keep := fun i h h' st k => st.at fun o e => k it (by simp) o e
  item := by
    intro X hP hw hK hc i pins s σ H E I hf st hg
    subst hP hw hK
    obtain ⟨xs, x, hq, hx⟩ := hg
    obtain ⟨its, rv, p, hz⟩ := I.list hq
    obtain ⟨u, hu, ru⟩ := rv.get hx
    obtain ⟨f0, f1, f2, f3, f4, f5⟩ := hf it (by simp)
    refine wpAny_pyNext_list_item st p.isList (x := u) (by simpa using hu) fun h' st' sb => ?_
    have I1 : Inv X pins σ H { s with heap := h' } := I.turned (t' := s.toks) (fun b o hb e => (sb.2 b hb).trans e) f0 f1 f3 f4 f5
    obtain ⟨o, e, c, d⟩ := id st'
    exact ⟨u, rfl, go_of (s := { s with heap := h' }) e c d (by decide) ⟨x, H, I1, ru, ⟨rfl, fun ys hy => by rw [I.list_inj hy hq]; exact hx⟩, st', fun b hb => (hf b hb).1⟩⟩
  done := by
    intro X hP hw hK hc i pins s σ H E I hf st hg
    subst hP hw hK
    obtain ⟨xs, hq, hx⟩ := hg
    obtain ⟨its, rv, p, hz⟩ := I.list hq
    obtain ⟨f0, f1, f2, f3, f4, f5⟩ := hf it (by simp)
    have hl := rv.length
    exact wpAny_pyNext_list_end (I.ok.hd hc) st p.isList (by simp; omega) fun h' eb => ⟨rfl, I.turned (t' := s.toks) (fun b o hb e => eb b o hb e) f0 f1 f3 f4 f5⟩
  self := fun _ _ _ _ _ st h => wpAny_pyIter_listiter st h
theorem turn_tuple {P : Program} {w : World} {K : PySem.W.Frag} {tg : Expr} (a it : Addr) : Turn P w K tg (Itt K a) [it] it (fun i h => h.IsTupleIter it a i) where
  mem := by simp
  obj := fun i h st b hb => by
    have e : b = it := by simpa using hb
    subst e
    obtain ⟨o, e, c, d⟩ := st
    exact ⟨o, e, fun v z => by rw [d] at z; cases z⟩
  keep := fun i h h' st k => st.at fun o e => k it (by simp) o e
  item := by
    intro X hP hw hK hc i pins s σ H E I hf st hg
    subst hP hw hK
    obtain ⟨xs, x, hq, hx⟩ := hg
    obtain ⟨its, rv, p, hz⟩ := I.tuple hq
    obtain ⟨u, hu, ru⟩ := rv.get hx
    obtain ⟨f0, f1, f2, f3, f4, f5⟩ := hf it (by simp)
    refine wpAny_pyNext_tuple_item st (show s.heap.IsTuple a its.toArray from p) (x := u) (by simpa using hu) fun h' st' sb => ?_
    have I1 : Inv X pins σ H { s with heap := h' } := I.turned (t' := s.toks) (fun b o hb e => (sb.2 b hb).trans e) f0 f1 f3 f4 f5
    obtain ⟨o, e, c, d⟩ := id st'
    exact ⟨u, rfl, go_of (s := { s with heap := h' }) e c d (by decide) ⟨x, H, I1, ru, ⟨rfl, fun ys hy => by rw [I.tuple_inj hy hq]; exact hx⟩, st', fun b hb => (hf b hb).1⟩⟩
  done := by
    intro X hP hw hK hc i pins s σ H E I hf st hg
    subst hP hw hK
    obtain ⟨xs, hq, hx⟩ := hg
    obtain ⟨its, rv, p, hz⟩ := I.tuple hq
    obtain ⟨f0, f1, f2, f3, f4, f5⟩ := hf it (by simp)
    have hl := rv.length
    exact wpAny_pyNext_tuple_end (I.ok.hd hc) st (show s.heap.IsTuple a its.toArray from p) (by simp; omega) fun h' eb => ⟨rfl, I.turned (t' := s.toks) (fun b o hb e => eb b o hb e) f0 f1 f3 f4 f5⟩
  self := fun _ _ _ _ _ st h => wpAny_pyIter_tupleiter st h
theorem turn_range {P : Program} {w : World} {K : PySem.W.Frag} {tg : Expr} (it : Addr) (lo : Int) (n : Nat) : Turn P w K tg (Itr lo n) [it] it (fun i h => IsRangeIter h it (lo + (i : Nat) * 1) ((n : Int) - (i : Nat)) 1) where
  mem := by simp
  obj := fun i h st b hb => by
    have e : b = it := by simpa using hb
    subst e
    exact ⟨_, st, fun v z => by
      have z' : Data.fields _ = Data.cell v := z
      cases z'⟩
  keep := fun i h h' st k => k it (by simp) _ st
  item := by
    intro X hP hw hK hc i pins s σ H E I hf st hg
    subst hP hw hK
    obtain ⟨f0, f1, f2, f3, f4, f5⟩ := hf it (by simp)
    have W := Walks.range (prog := X.prog) (w := X.w) (I.ok.hd hc) it lo 1 n
    refine W.item i s _ _ hg st fun v h' tk hv st' kk => ?_
    obtain ⟨t, rfl⟩ := hv
    have I1 : Inv X pins σ H { s with heap := h', toks := tk } := I.turned (fun b o hb e => kk b o (by simpa using hb) e) f0 f1 f3 f4 f5
    refine ⟨_, rfl, go_of (s := { s with heap := h', toks := tk }) (n := "range_iterator") st' rfl rfl (by decide) ⟨.int (lo + i), H, I1, ⟨t, ?_⟩, ⟨rfl, rfl⟩, st', fun b hb => (hf b hb).1⟩⟩
    rw [Int.mul_one]
  done := by
    intro X hP hw hK hc i pins s σ H E I hf st hg
    subst hP hw hK
    obtain ⟨f0, f1, f2, f3, f4, f5⟩ := hf it (by simp)
    exact wpAny_pyNext_range_end (I.ok.hd hc) st (by have : n ≤ i := hg; omega) fun h' eb => ⟨rfl, I.turned (t' := s.toks) (fun b o hb e => eb b o hb e) f0 f1 f3 f4 f5⟩
  self := fun _ _ _ _ _ st h => wpAny_pyIter_rangeiter st h
end L2
namespace L2
open PySem PySem.Spec PyProof.Rows
section
variable {X : Cx} {tg : Expr}
theorem range_it {pins : List (Addr × Obj)} {σ : St} {H : Hp} {s : Shared} {R : It → Hp → Prop} {E : Value → Shared → Prop} {lo hi : Int} {t u v : Tok} {tk : Nat} (I : Inv X pins σ H s) (h1 : -(2 ^ 62) ≤ lo) (h2 : lo < 2 ^ 62) (h3 : -(2 ^ 62) ≤ hi) (h4 : hi < 2 ^ 62)
    (q : R (Itr lo (hi - lo).toNat) H) : wpAny (model X.prog X.w) X.A (pyIter (.ref s.heap.objs.size)) (PIE X pins σ tg R) E { s with heap := s.heap.push { cls := .type "range", data := .fields #[.int lo t, .int hi u, .int 1 v] }, toks := tk } := by
  refine wpAny_pyIter_range (IsRange.new ..) (small_one h1 h2 h3 h4) ?_
  have I1 : Inv X pins σ H { s with heap := s.heap.push { cls := .type "range", data := .fields #[.int lo t, .int hi u, .int 1 v] }, toks := tk } := I.kept fun b o e => Heap.get?_push_of_some _ e
  refine ⟨(s.heap.push { cls := .type "range", data := .fields #[.int lo t, .int hi u, .int 1 v] }).objs.size, [(s.heap.push { cls := .type "range", data := .fields #[.int lo t, .int hi u, .int 1 v] }).objs.size], _, _, H, rfl,
    I1.kept (t' := tk) fun b o e => Heap.get?_push_of_some _ e, turn_range _ lo (hi - lo).toNat, ?_, fun b hb => ?_, q⟩
  · have e1 : lo + ((0 : Nat) : Int) * 1 = lo := by simp
    have e2 : (((hi - lo).toNat : Nat) : Int) - ((0 : Nat) : Int) = Builtin.Range.rangeSize lo hi 1 := by rw [rangeSize_one]; split <;> omega
    show IsRangeIter _ _ (lo + ((0 : Nat) : Int) * 1) ((((hi - lo).toNat : Nat) : Int) - ((0 : Nat) : Int)) 1
    rw [e1, e2]
    exact Heap.get?_push_size _ rfl
  · have e : b = (s.heap.push { cls := .type "range", data := .fields #[.int lo t, .int hi u, .int 1 v] }).objs.size := by simpa using hb
    subst e
    exact I1.fpOk (Nat.le_refl _) (I1.hok.fresh (Nat.le_refl _))
noncomputable def iRng1 (ta : TA) : TI := fun σ H R => ta σ H fun vs H1 => ∃ j : Int, vs = [.int j] ∧ -(2 ^ 62) ≤ j ∧ j < 2 ^ 62 ∧ R (Itr 0 j.toNat) H1
theorem pi_range1 {a : Expr} {ta : TA} {p pos : Pos} (hg : Gl X "range") (hm : X.mg "range" = none) (ha : PA X [a] ta) (hs : starEach [a] X.env = [(false, eval a X.env)] := by rfl) : PI X tg (.Call (.Name "range" p) [a] [] pos) (iRng1 ta) := by
  intro pins s σ H R I h
  refine Call_ (ld_blt I hg hm boot_range (PyProof.Rows.callWith_type1 (thn (ha pos pins s σ H _ I h) fun us s1 ⟨vs, H1, I1, r1, q1⟩ => ?_) hs rfl))
  obtain ⟨j, e, q1, q2, q⟩ := q1
  subst e
  cases r1 with
  | cons r rr =>
    cases rr
    obtain ⟨t, rfl⟩ := r
    exact call_range_1 (range_it I1 (by omega) (by omega) q1 q2 (by simpa using q))
noncomputable def tFor (wi : TI) (g : TG) (tb : TS) : TS := fun D σ H => wi σ H fun J H1 => ∃ W : Nat → Nat → St → Hp → Prop, (∃ m, W 0 m σ H1) ∧ ∀ i m σ H, W i m σ H →
  (J.stop i H ∧ D.nx σ H) ∨ (J.go i H ∧ ∃ N : St → Hp → Prop, (∀ σ' H', N σ' H' → ∃ m', m' < m ∧ W (i + 1) m' σ' H') ∧ ∀ x H', J.yld i H x H' → g x σ H' fun σ2 H2 => tb { D with nx := N, ct := N, bk := D.nx } σ2 H2)
noncomputable def pinsAt (fp : List Addr) (h : Heap) : List (Addr × Obj) := fp.filterMap fun b => (h.get? b).map fun o => (b, o)
theorem mem_pinsAt {fp : List Addr} {h : Heap} {b : Addr} {o : Obj} (hb : b ∈ fp) (e : h.get? b = some o) : (b, o) ∈ pinsAt fp h := List.mem_filterMap.mpr ⟨b, hb, by rw [e]; rfl⟩
theorem of_pinsAt {fp : List Addr} {h : Heap} {p : Addr × Obj} (hp : p ∈ pinsAt fp h) : p.1 ∈ fp ∧ h.get? p.1 = some p.2 := by
  obtain ⟨b, hb, e⟩ := List.mem_filterMap.mp hp
  cases q : h.get? b with
  | none => rw [q] at e; cases e
  | some o =>
    rw [q] at e
    have e' : (b, o) = p := Option.some.inj e
    subst e'
    exact ⟨hb, q⟩
theorem Inv.pinned {pins : List (Addr × Obj)} {σ : St} {H : Hp} {s : Shared} {fp : List Addr} (I : Inv X pins σ H s) (hf : ∀ b ∈ fp, FpOk X pins H b) (ho : ∀ b ∈ fp, ∃ o, s.heap.get? b = some o ∧ ∀ v, o.data ≠ .cell v) : Inv X (pins ++ pinsAt fp s.heap) σ H s :=
  I.pins_of fun p hp => (List.mem_append.mp hp).elim (fun z => I.pin p (List.mem_append_right _ z)) fun z => by
    obtain ⟨hb, e⟩ := of_pinsAt z
    obtain ⟨f0, f1, f2, _⟩ := hf p.1 hb
    obtain ⟨o, e', d⟩ := ho p.1 hb
    rw [e] at e'; cases e'
    exact ⟨e, f0, f1, f2, d⟩
theorem Inv.unpinned {pins pl : List (Addr × Obj)} {σ : St} {H : Hp} {s : Shared} (I : Inv X (pins ++ pl) σ H s) : Inv X pins σ H s := I.pins_of fun p hp => I.pin p (List.mem_append_right _ (List.mem_append_left _ hp))
theorem ps_for {iter : Expr} {body : List Stmt} {wi : TI} {g : TG} {tb : TS} {pos : Pos} (hp : PassesOwn (model X.prog X.w) X.A X.env X.xe) (hc : X.calm = true) (hi : PI X tg iter wi) (hg : PG X tg g) (hb : PSs X body tb)
    (hs : ∀ x, foldedSetIterable iter X.env x = pure x := by intro _; rfl) : PS X (.For tg iter body [] pos) (tFor wi g tb) := by
  intro pins s σ H D I h
  refine wpAny_For (thn (hi pins s σ H _ I h) fun v s1 h1 => thn h1 fun itv s2 h2 => ?_) hs
  obtain ⟨it, fp, tn, J, H2, e, I2, T, st2, f2, W, ⟨m0, w0⟩, turn⟩ := h2
  subst e
  have stat : ∀ {H' : Hp}, (∀ b ∈ fp, H' b = none) → ∀ b ∈ fp, FpOk X pins H' b := fun hn b hb => ⟨hn b hb, (f2 b hb).2⟩
  refine codeAny_forLoop_any (fun n s' => ∃ i σ' H', Inv X pins σ' H' s' ∧ tn i s'.heap ∧ (∀ b ∈ fp, H' b = none) ∧ W i n σ' H') ?_ m0 ⟨0, σ, H2, I2, st2, fun b hb => (f2 b hb).1, w0⟩
  rintro n s3 ⟨i, σ3, H3, I3, st3, fr3, w3⟩
  rcases turn i n σ3 H3 w3 with ⟨stop, qn⟩ | ⟨go, N, hN, step⟩
  · refine wpAny_passesOwn hp (thn (T.done X rfl rfl rfl hc i pins s3 σ3 H3 X.xe I3 (stat fr3) st3 stop) fun r s4 ⟨hr, I4⟩ => ?_)
    subst hr
    exact wpAny_execs_nil ⟨σ3, H3, I4, qn⟩
  · refine wpAny_passesOwn hp (thn (T.item X rfl rfl rfl hc i pins s3 σ3 H3 X.xe I3 (stat fr3) st3 go) fun r s4 ⟨u, hr, h4⟩ => ?_)
    subst hr
    refine wpAny_passesOwn hp (thn h4 fun _ s5 ⟨x, H5, I5, r5, y5, st5, fr5⟩ => ?_)
    have I5' := I5.pinned (stat fr5) (T.obj _ _ st5)
    refine wpAny_passesOwn hp (thn (hg _ s5 σ3 H5 x u _ I5' r5 (step x H5 y5)) fun _ s6 ⟨σ6, H6, I6, q6⟩ => ?_)
    refine wpAny_passesOwn hp (thn (hb _ s6 σ6 H6 _ I6 q6) fun f s7 q7 => ?_)
    have again : ∀ {σ7 : St} {H7 : Hp}, Inv X (pins ++ pinsAt fp s5.heap) σ7 H7 s7 → N σ7 H7 → ∃ m, m < n ∧ ∃ i σ' H', Inv X pins σ' H' s7 ∧ tn i s7.heap ∧ (∀ b ∈ fp, H' b = none) ∧ W i m σ' H' := fun {σ7 H7} I7 n7 => by
      obtain ⟨m', hm, w7⟩ := hN σ7 H7 n7
      refine ⟨m', hm, i + 1, σ7, H7, I7.unpinned, T.keep _ _ _ st5 fun b hb o e => (I7.pin (b, o) (List.mem_append_right _ (List.mem_append_right _ (mem_pinsAt hb e)))).1, fun b hb => ?_, w7⟩
      obtain ⟨o, e, d⟩ := T.obj _ _ st5 b hb
      exact (I7.pin (b, o) (List.mem_append_right _ (List.mem_append_right _ (mem_pinsAt hb e)))).2.1
    cases f with
    | next => obtain ⟨σ7, H7, I7, n7⟩ := q7; exact again I7 n7
    | cont => obtain ⟨σ7, H7, I7, n7⟩ := q7; exact again I7 n7
    | brk => obtain ⟨σ7, H7, I7, q7⟩ := q7; exact ⟨σ7, H7, I7.unpinned, q7⟩
    | ret v => obtain ⟨x7, σ7, H7, I7, r7, q7⟩ := q7; exact ⟨x7, σ7, H7, I7.unpinned, r7, q7⟩
end
theorem for_range {lo : Int} {n : Nat} {g : TG} {tb : TS} {D : Ends} {σ : St} {H : Hp} (Pv : Nat → St → Hp → Prop) (h0 : Pv 0 σ H)
    (hs : ∀ i σ H, i < n → Pv i σ H → g (.int (lo + i)) σ H fun σ2 H2 => tb { D with nx := Pv (i + 1), ct := Pv (i + 1), bk := D.nx } σ2 H2) (hd : ∀ σ H, Pv n σ H → D.nx σ H) :
    ∃ W : Nat → Nat → St → Hp → Prop, (∃ m, W 0 m σ H) ∧ ∀ i m σ H, W i m σ H →
      ((Itr lo n).stop i H ∧ D.nx σ H) ∨ ((Itr lo n).go i H ∧ ∃ N : St → Hp → Prop, (∀ σ' H', N σ' H' → ∃ m', m' < m ∧ W (i + 1) m' σ' H') ∧ ∀ x H', (Itr lo n).yld i H x H' → g x σ H' fun σ2 H2 => tb { D with nx := N, ct := N, bk := D.nx } σ2 H2) := by
  refine ⟨fun i m σ H => m = n - i ∧ i ≤ n ∧ Pv i σ H, ⟨n, by simp, Nat.zero_le _, h0⟩, ?_⟩
  rintro i m σ H ⟨rfl, hi, p⟩
  by_cases hlt : i < n
  · refine .inr ⟨hlt, Pv (i + 1), fun σ' H' p' => ⟨n - (i + 1), by omega, rfl, hlt, p'⟩, fun x H' y => ?_⟩
    obtain ⟨e, y⟩ := y
    subst e y
    exact hs i σ _ hlt p
  · have e : i = n := by omega
    subst e
    exact .inl ⟨Nat.le_refl _, hd σ H p⟩
end L2
namespace L2
open PySem PySem.Spec PyProof.Rows
noncomputable abbrev R2 := V → V → Hp → VK → Prop
noncomputable def OpR (X : Cx) (f : Value → Value → Sem Value) (r : R2) : Prop :=
  ∀ (pins : List (Addr × Obj)) (s : Shared) (σ : St) (H : Hp) (x y : V) (v u : Value) (Q : VK), Inv X pins σ H s → RelV x v → RelV y u → r x y H Q →
    wpAny (model X.prog X.w) X.A (f v u) (EP X pins σ Q) X.xe s
noncomputable def UnR (X : Cx) (f : Value → Sem Value) (r : V → Hp → VK → Prop) : Prop :=
  ∀ (pins : List (Addr × Obj)) (s : Shared) (σ : St) (H : Hp) (x : V) (v : Value) (Q : VK), Inv X pins σ H s → RelV x v → r x H Q →
    wpAny (model X.prog X.w) X.A (f v) (EP X pins σ Q) X.xe s
noncomputable def CallR (X : Cx) (f : Value) (r : List V → Hp → VK → Prop) : Prop :=
  ∀ (pins : List (Addr × Obj)) (s : Shared) (σ : St) (H : Hp) (xs : List V) (us : List Value) (Q : VK), Inv X pins σ H s → Vals xs us → r xs H Q →
    wpAny (model X.prog X.w) X.A (call f us) (EP X pins σ Q) X.xe s
noncomputable def tOp (r : R2) (ta tb : TE) : TE := fun σ H Q => ta σ H fun x H1 => tb σ H1 fun y H2 => r x y H2 Q
noncomputable def tUn (r : V → Hp → VK → Prop) (ta : TE) : TE := fun σ H Q => ta σ H fun x H1 => r x H1 Q
noncomputable def rI (C : Int → Int → Prop) (g : Int → Int → V) : R2 := fun x y H Q => ∃ i j, x = .int i ∧ y = .int j ∧ C i j ∧ Q (g i j) H
noncomputable def rI0 (g : Int → Int → V) : R2 := fun x y H Q => ∃ i j, x = .int i ∧ y = .int j ∧ Q (g i j) H
noncomputable def rU (g : Int → V) : V → Hp → VK → Prop := fun x H Q => ∃ i, x = .int i ∧ Q (g i) H
section
variable {X : Cx} {a b c : Expr} {ta tb tc : TE} {pos : Pos}
theorem binT (ha : PE X a ta) (hb : PE X b tb) {pins : List (Addr × Obj)} {s : Shared} {σ : St} {H : Hp} {R : V → V → Hp → Prop} (I : Inv X pins σ H s)
    (h : ta σ H fun x H1 => tb σ H1 fun y H2 => R x y H2) {Q : Value → Shared → Prop} {f : Value → Value → Sem Value}
    (hf : ∀ v u s2 x y H2, Inv X pins σ H2 s2 → RelV x v → RelV y u → R x y H2 → wpAny (model X.prog X.w) X.A (f v u) Q X.xe s2) :
    wpAny (model X.prog X.w) X.A (eval a X.env) (fun v s₁ => wpAny (model X.prog X.w) X.A (eval b X.env) (fun u s₂ => wpAny (model X.prog X.w) X.A (f v u) Q X.xe s₂) X.xe s₁) X.xe s := by
  refine thn (ha pins s σ H _ I h) fun v s1 ⟨x, H1, I1, r1, q1⟩ => ?_
  refine thn (hb pins s1 σ H1 _ I1 q1) fun u s2 ⟨y, H2, I2, r2, q2⟩ => ?_
  exact hf v u s2 x y H2 I2 r1 r2 q2
theorem pe_op {op : Operator} {r : R2} (ho : OpR X (binaryOp op) r) (ha : PE X a ta) (hb : PE X b tb) : PE X (.BinOp a op b pos) (tOp r ta tb) := by
  intro pins s σ H Q I h
  exact wpAny_BinOp (binT ha hb I h fun v u s2 x y H2 I2 rx ry q => ho pins s2 σ H2 x y v u Q I2 rx ry q)
theorem pe_un {op : UnaryOp} {r : V → Hp → VK → Prop} (ho : UnR X (unaryOp op) r) (ha : PE X a ta) : PE X (.UnaryOp op a pos) (tUn r ta) := by
  intro pins s σ H Q I h
  exact UnaryOp_ (thn (ha pins s σ H _ I h) fun v s1 ⟨x, H1, I1, r1, q1⟩ => ho pins s1 σ H1 x v Q I1 r1 q1)
theorem opI {f : Value → Value → Sem Value} {C : Int → Int → Prop} {g : Int → Int → Int}
    (rule : ∀ (i j : Int) (t u : Tok) (s : Shared) (Q : Value → Shared → Prop) (E : Value → Shared → Prop), C i j → Q (.int (g i j) s.toks) { s with toks := s.toks + 1 } → wpAny (model X.prog X.w) X.A (f (.int i t) (.int j u)) Q E s) :
    OpR X f (rI C fun i j => .int (g i j)) := by
  intro pins s σ H x y v u Q I rx ry h
  obtain ⟨i, j, rfl, rfl, hc, q⟩ := h
  obtain ⟨t, rfl⟩ := rx
  obtain ⟨t', rfl⟩ := ry
  exact rule i j t t' s _ _ hc ⟨.int (g i j), H, I.tok _, ⟨_, rfl⟩, q⟩
theorem opI0 {f : Value → Value → Sem Value} {g : Int → Int → Int}
    (rule : ∀ (i j : Int) (t u : Tok) (s : Shared) (Q : Value → Shared → Prop) (E : Value → Shared → Prop), Q (.int (g i j) s.toks) { s with toks := s.toks + 1 } → wpAny (model X.prog X.w) X.A (f (.int i t) (.int j u)) Q E s) :
    OpR X f (rI0 fun i j => .int (g i j)) := by
  intro pins s σ H x y v u Q I rx ry h
  obtain ⟨i, j, rfl, rfl, q⟩ := h
  obtain ⟨t, rfl⟩ := rx
  obtain ⟨t', rfl⟩ := ry
  exact rule i j t t' s _ _ ⟨.int (g i j), H, I.tok _, ⟨_, rfl⟩, q⟩
theorem opB0 {f : Value → Value → Sem Value} {g : Int → Int → Bool}
    (rule : ∀ (i j : Int) (t u : Tok) (s : Shared) (Q : Value → Shared → Prop) (E : Value → Shared → Prop), Q (.bool (g i j)) s → wpAny (model X.prog X.w) X.A (f (.int i t) (.int j u)) Q E s) :
    OpR X f (rI0 fun i j => .bl (g i j)) := by
  intro pins s σ H x y v u Q I rx ry h
  obtain ⟨i, j, rfl, rfl, q⟩ := h
  obtain ⟨t, rfl⟩ := rx
  obtain ⟨t', rfl⟩ := ry
  exact rule i j t t' s _ _ ⟨.bl (g i j), H, I, rfl, q⟩
noncomputable def CDiv (i j : Int) : Prop := 0 < j ∧ j < 1073741824
noncomputable def CPow (i j : Int) : Prop := 0 ≤ j ∧ j ≤ 1000000 ∧ i.natAbs < 2 ^ 64
noncomputable def CMul (i j : Int) : Prop := (-(2 ^ 64) < i ∧ i < 2 ^ 64) ∨ (-(2 ^ 64) < j ∧ j < 2 ^ 64)
theorem CMul.ok {i j : Int} (h : CMul i j) : IntMulOk i j := by
  rcases h with ⟨h1, h2⟩ | ⟨h1, h2⟩
  · exact .of_left (intBits_le_64 h1 h2)
  · exact .of_right (intBits_le_64 h1 h2)
theorem op_add : OpR X (binaryOp .Add) (rI0 fun i j => .int (i + j)) := opI0 fun _ _ _ _ _ _ _ q => add_int q
theorem op_sub : OpR X (binaryOp .Sub) (rI0 fun i j => .int (i - j)) := opI0 fun _ _ _ _ _ _ _ q => sub_int q
theorem op_mul : OpR X (binaryOp .Mult) (rI CMul fun i j => .int (i * j)) := opI fun _ _ _ _ _ _ _ hc q => mul_int q hc.ok
theorem op_fdiv : OpR X (binaryOp .FloorDiv) (rI CDiv fun i j => .int (i / j)) := opI fun i j _ _ _ _ _ hc q => by
  have h1 : (0 : Int) < j := hc.1
  have h2 : j < 1073741824 := hc.2
  exact floordiv_int (by omega) (by rw [Int.fdiv_eq_ediv_of_nonneg i (by omega)]; exact q) (.inl (PyProof.noPylong_small (by omega)))
theorem op_mod : OpR X (binaryOp .Mod) (rI (fun _ j => 0 < j) fun i j => .int (i % j)) := opI fun i j _ _ _ _ _ hc q => by
  have h1 : (0 : Int) < j := hc
  exact mod_int' (by omega) (by rw [Int.fmod_eq_emod_of_nonneg i (by omega)]; exact q)
theorem op_pow : OpR X (binaryOp .Pow) (rI CPow fun i j => .int (i ^ j.toNat)) := opI fun _ _ _ _ _ _ _ hc q => pow_int_small hc.1 hc.2.1 hc.2.2 q
theorem unI {f : Value → Sem Value} {g : Int → Int}
    (rule : ∀ (i : Int) (t : Tok) (s : Shared) (Q : Value → Shared → Prop) (E : Value → Shared → Prop), Q (.int (g i) s.toks) { s with toks := s.toks + 1 } → wpAny (model X.prog X.w) X.A (f (.int i t)) Q E s) :
    UnR X f (rU fun i => .int (g i)) := by
  intro pins s σ H x v Q I rx h
  obtain ⟨i, rfl, q⟩ := h
  obtain ⟨t, rfl⟩ := rx
  exact rule i t s _ _ ⟨.int (g i), H, I.tok _, ⟨_, rfl⟩, q⟩
theorem un_neg : UnR X (unaryOp .USub) (rU fun i => .int (-i)) := unI fun _ _ _ _ _ q => neg_int q
end
noncomputable def scal : V → V → Bool
  | .non, .non => true | .non, .int _ => true | .int _, .non => true | .non, .bl _ => true | .bl _, .non => true | .non, .str _ => true | .str _, .non => true
  | .int _, .int _ => true | .bl _, .bl _ => true | .str _, .str _ => true | .byt _, .byt _ => true
  | .int _, .str _ => true | .str _, .int _ => true | .bl _, .str _ => true | .str _, .bl _ => true
  | _, _ => false
noncomputable def rEq : R2 := fun x y H Q => scal x y = true ∧ Q (.bl (decide (x = y))) H
noncomputable def rNe : R2 := fun x y H Q => scal x y = true ∧ Q (.bl (!decide (x = y))) H
theorem dec_int {i j : Int} : decide (V.int i = V.int j) = (i == j) := by
  rw [Bool.eq_iff_iff]
  simp
theorem dec_bl {i j : Bool} : decide (V.bl i = V.bl j) = (i == j) := by
  rw [Bool.eq_iff_iff]
  simp
theorem dec_str {i j : Str} : decide (V.str i = V.str j) = (i == j) := by
  rw [Bool.eq_iff_iff]
  simp
theorem dec_byt {i j : Array UInt8} : decide (V.byt i = V.byt j) = (i.toList == j.toList) := by
  rw [Bool.eq_iff_iff]
  cases i
  cases j
  simp
section
variable {X : Cx} {a b c : Expr} {ta tb tc : TE} {pos : Pos}
theorem fin_bl {pins : List (Addr × Obj)} {σ : St} {H : Hp} {s : Shared} {Q : VK} {k k' : Bool} (I : Inv X pins σ H s) (q : Q (.bl k) H) (e : k = k') : EP X pins σ Q (.bool k') s := by
  subst e
  exact ⟨.bl k, H, I, rfl, q⟩
theorem op_eq : OpR X (compareOp .Eq) rEq := by
  intro pins s σ H x y v u Q I rx ry h
  obtain ⟨hs, q⟩ := h
  cases x with
  | non =>
    cases rx
    cases y with
    | non => cases ry; exact PySem.EqNone.eq_none_none (fin_bl I q (by simp))
    | bl j => cases ry; exact PySem.EqNone.eq_none_bool (fin_bl I q (by simp))
    | int j => obtain ⟨t', rfl⟩ := ry; exact PySem.EqNone.eq_none_int (fin_bl I q (by simp))
    | str j => obtain ⟨t', rfl⟩ := ry; exact PySem.EqNone.eq_none_str (fin_bl I q (by simp))
    | _ => exact absurd (show false = true from hs) Bool.false_ne_true
  | bl i =>
    cases rx
    cases y with
    | non => cases ry; exact PySem.EqNone.eq_bool_none (fin_bl I q (by simp))
    | bl j => cases ry; exact eq_bool (fin_bl I q dec_bl)
    | str j => obtain ⟨t', rfl⟩ := ry; exact PySem.EqMixed.eq_bool_str (fin_bl I q (by simp))
    | _ => exact absurd (show false = true from hs) Bool.false_ne_true
  | int i =>
    obtain ⟨t, rfl⟩ := rx
    cases y with
    | non => cases ry; exact PySem.EqNone.eq_int_none (fin_bl I q (by simp))
    | int j => obtain ⟨t', rfl⟩ := ry; exact eq_int (fin_bl I q dec_int)
    | str j => obtain ⟨t', rfl⟩ := ry; exact PySem.EqMixed.eq_int_str (fin_bl I q (by simp))
    | _ => exact absurd (show false = true from hs) Bool.false_ne_true
  | str i =>
    obtain ⟨t, rfl⟩ := rx
    cases y with
    | non => cases ry; exact PySem.EqNone.eq_str_none (fin_bl I q (by simp))
    | bl j => cases ry; exact PySem.EqMixed.eq_str_bool (fin_bl I q (by simp))
    | int j => obtain ⟨t', rfl⟩ := ry; exact PySem.EqMixed.eq_str_int (fin_bl I q (by simp))
    | str j => obtain ⟨t', rfl⟩ := ry; exact eq_str (fin_bl I q dec_str)
    | _ => exact absurd (show false = true from hs) Bool.false_ne_true
  | byt i =>
    obtain ⟨t, rfl⟩ := rx
    cases y with
    | byt j => obtain ⟨t', rfl⟩ := ry; exact PySem.W.eq_bytes (fin_bl I q dec_byt)
    | _ => exact absurd (show false = true from hs) Bool.false_ne_true
  | _ => cases y <;> exact absurd (show false = true from hs) Bool.false_ne_true
theorem op_ne : OpR X (compareOp .NotEq) rNe := by
  intro pins s σ H x y v u Q I rx ry h
  obtain ⟨hs, q⟩ := h
  cases x with
  | non =>
    cases rx
    cases y with
    | non => cases ry; exact PySem.EqNone.ne_none_none (fin_bl I q (by simp))
    | bl j => cases ry; exact PySem.EqNone.ne_none_bool (fin_bl I q (by simp))
    | int j => obtain ⟨t', rfl⟩ := ry; exact PySem.EqNone.ne_none_int (fin_bl I q (by simp))
    | str j => obtain ⟨t', rfl⟩ := ry; exact PySem.EqNone.ne_none_str (fin_bl I q (by simp))
    | _ => exact absurd (show false = true from hs) Bool.false_ne_true
  | bl i =>
    cases rx
    cases y with
    | non => cases ry; exact PySem.EqNone.ne_bool_none (fin_bl I q (by simp))
    | bl j => cases ry; exact ne_bool (fin_bl I q (congrArg not dec_bl))
    | str j => obtain ⟨t', rfl⟩ := ry; exact PySem.EqMixed.ne_bool_str (fin_bl I q (by simp))
    | _ => exact absurd (show false = true from hs) Bool.false_ne_true
  | int i =>
    obtain ⟨t, rfl⟩ := rx
    cases y with
    | non => cases ry; exact PySem.EqNone.ne_int_none (fin_bl I q (by simp))
    | int j => obtain ⟨t', rfl⟩ := ry; exact ne_int (fin_bl I q (congrArg not dec_int))
    | str j => obtain ⟨t', rfl⟩ := ry; exact PySem.EqMixed.ne_int_str (fin_bl I q (by simp))
    | _ => exact absurd (show false = true from hs) Bool.false_ne_true
  | str i =>
    obtain ⟨t, rfl⟩ := rx
    cases y with
    | non => cases ry; exact PySem.EqNone.ne_str_none (fin_bl I q (by simp))
    | bl j => cases ry; exact PySem.EqMixed.ne_str_bool (fin_bl I q (by simp))
    | int j => obtain ⟨t', rfl⟩ := ry; exact PySem.EqMixed.ne_str_int (fin_bl I q (by simp))
    | str j => obtain ⟨t', rfl⟩ := ry; exact ne_str (fin_bl I q (congrArg not dec_str))
    | _ => exact absurd (show false = true from hs) Bool.false_ne_true
  | byt i =>
    obtain ⟨t, rfl⟩ := rx
    cases y with
    | byt j => obtain ⟨t', rfl⟩ := ry; exact PySem.W.ne_bytes (fin_bl I q (congrArg not dec_byt))
    | _ => exact absurd (show false = true from hs) Bool.false_ne_true
  | _ => cases y <;> exact absurd (show false = true from hs) Bool.false_ne_true
theorem op_lt : OpR X (compareOp .Lt) (rI0 fun i j => .bl (decide (i < j))) := opB0 fun _ _ _ _ _ _ _ q => lt_int q
theorem op_le : OpR X (compareOp .LtE) (rI0 fun i j => .bl (decide (i ≤ j))) := opB0 fun _ _ _ _ _ _ _ q => le_int q
theorem op_gt : OpR X (compareOp .Gt) (rI0 fun i j => .bl (decide (j < i))) := opB0 fun _ _ _ _ _ _ _ q => gt_int q
theorem op_ge : OpR X (compareOp .GtE) (rI0 fun i j => .bl (decide (j ≤ i))) := opB0 fun _ _ _ _ _ _ _ q => ge_int q
theorem op_lt_str : OpR X (compareOp .Lt) (fun x y H Q => ∃ i j, x = .str i ∧ y = .str j ∧ Q (.bl (decide (i.cps.toList < j.cps.toList))) H) := by
  intro pins s σ H x y v u Q I rx ry h
  obtain ⟨i, j, rfl, rfl, q⟩ := h
  obtain ⟨t, rfl⟩ := rx
  obtain ⟨t', rfl⟩ := ry
  exact lt_str (fin_bl I q rfl)
theorem op_notin_str : OpR X (compareOp .NotIn) (fun x y H Q => ∃ i j, x = .str i ∧ y = .str j ∧ Q (.bl (!(!(Builtin.Str.occurrences j i 0 j.length 1).isEmpty))) H) := by
  intro pins s σ H x y v u Q I rx ry h
  obtain ⟨i, j, rfl, rfl, q⟩ := h
  obtain ⟨t, rfl⟩ := rx
  obtain ⟨t', rfl⟩ := ry
  exact notIn_str (fin_bl I q rfl)
theorem nomark (b : Expr) {op : CmpOp} (h : op ≠ .In := by decide) (h2 : op ≠ .NotIn := by decide) : behindInMarks op b = false := by
  have e1 : (op == CmpOp.In) = false := by cases op <;> first | rfl | exact absurd rfl h
  have e2 : (op == CmpOp.NotIn) = false := by cases op <;> first | rfl | exact absurd rfl h2
  cases b <;> simp [behindInMarks, e1, e2]
theorem pe_cmpR {op : CmpOp} {r : R2} (ho : OpR X (compareOp op) r) (ha : PE X a ta) (hb : PE X b tb) (hm : behindInMarks op b = false) : PE X (.Compare a [op] [b] pos) (tOp r ta tb) := by
  intro pins s σ H Q I h
  exact wpAny_Compare1 (binT ha hb I h fun v u s2 x y H2 I2 rx ry q => ho pins s2 σ H2 x y v u Q I2 rx ry q) hm
noncomputable def tTest (t : TE) : TT := fun σ H Q => t σ H fun x H' => ∃ k, x = .bl k ∧ Q k H'
theorem pt_cmpR {op : CmpOp} {r : R2} (ho : OpR X (compareOp op) r) (ha : PE X a ta) (hb : PE X b tb) (hm : behindInMarks op b = false) : PT X (.Compare a [op] [b] pos) (tTest (tOp r ta tb)) := by
  intro pins s σ H Q I h
  refine wpAny_isTrue_Compare1 (thn (ha pins s σ H _ I h) fun v s1 ⟨x, H1, I1, r1, q1⟩ => thn (hb pins s1 σ H1 _ I1 q1) fun u s2 ⟨y, H2, I2, r2, q2⟩ =>
    thn (ho pins s2 σ H2 x y v u _ I2 r1 r2 q2) fun c s3 ⟨z, H3, I3, r3, k, e, q3⟩ => ?_) hm
  subst e
  cases r3
  exact wpAny_truthy_bool ⟨H3, I3, q3⟩
noncomputable def tChain (r r' : R2) (ta tb tc : TE) : TE := fun σ H Q => ta σ H fun x H1 => tb σ H1 fun y H2 => r x y H2 fun z H3 => ∃ k, z = .bl k ∧
  (if k = true then tc σ H3 fun w' H4 => r' y w' H4 Q else Q (.bl false) H3)
theorem pe_chain {op op' : CmpOp} {r r' : R2} (ho : OpR X (compareOp op) r) (ho' : OpR X (compareOp op') r') (ha : PE X a ta) (hb : PE X b tb) (hc : PE X c tc)
    (hm : lastMarks [op, op'] [b, c] = false := by with_unfolding_all rfl) : PE X (.Compare a [op, op'] [b, c] pos) (tChain r r' ta tb tc) := by
  intro pins s σ H Q I h
  refine Compare_chain (thn (ha pins s σ H _ I h) fun v s1 ⟨x, H1, I1, r1, q1⟩ => chain_link (thn (hb pins s1 σ H1 _ I1 q1) fun u s2 ⟨y, H2, I2, r2, q2⟩ =>
    thn (ho pins s2 σ H2 x y v u _ I2 r1 r2 q2) fun d s3 ⟨z, H3, I3, r3, k, e, q3⟩ => ?_)) hm
  subst e
  cases r3
  refine wpAny_truthy_bool ?_
  cases k with
  | false => exact ite_ff ⟨.bl false, H3, I3, rfl, q3⟩
  | true => exact ite_tt (chain_last (thn (hc pins s3 σ H3 _ I3 q3) fun w' s4 ⟨z', H4, I4, r4, q4⟩ => ho' pins s4 σ H4 y z' u w' Q I4 r2 r4 q4))
theorem pt_chain {op op' : CmpOp} {r r' : R2} (ho : OpR X (compareOp op) r) (ho' : OpR X (compareOp op') r') (ha : PE X a ta) (hb : PE X b tb) (hc : PE X c tc)
    (hm : lastMarks [op, op'] [b, c] = false := by with_unfolding_all rfl) : PT X (.Compare a [op, op'] [b, c] pos) (tTest (tChain r r' ta tb tc)) := by
  intro pins s σ H Q I h
  refine isTrue_chain (thn (ha pins s σ H _ I h) fun v s1 ⟨x, H1, I1, r1, q1⟩ => test_link (thn (hb pins s1 σ H1 _ I1 q1) fun u s2 ⟨y, H2, I2, r2, q2⟩ =>
    thn (ho pins s2 σ H2 x y v u _ I2 r1 r2 q2) fun d s3 ⟨z, H3, I3, r3, k, e, q3⟩ => ?_)) hm
  subst e
  cases r3
  refine wpAny_truthy_bool ?_
  cases k with
  | false =>
    obtain ⟨k', e', q'⟩ := q3
    cases e'
    exact ite_ff ⟨H3, I3, q'⟩
  | true =>
    refine ite_tt (test_last (thn (hc pins s3 σ H3 _ I3 q3) fun w' s4 ⟨z', H4, I4, r4, q4⟩ => thn (ho' pins s4 σ H4 y z' u w' _ I4 r2 r4 q4) fun d' s5 ⟨z2, H5, I5, r5, k2, e2, q5⟩ => ?_))
    subst e2
    cases r5
    exact wpAny_truthy_bool ⟨H5, I5, q5⟩
theorem line63 : (sizeLine : Nat) < 2 ^ 63 := by rw [sizeLine_eq]; decide
theorem op_add_str : OpR X (binaryOp .Add) (fun x y H Q => ∃ i j, x = .str i ∧ y = .str j ∧ i.length + j.length ≤ sizeLine ∧ Q (.str (i ++ j)) H) := by
  intro pins s σ H x y v u Q I rx ry h
  obtain ⟨i, j, rfl, rfl, hz, q⟩ := h
  obtain ⟨t, rfl⟩ := rx
  obtain ⟨t', rfl⟩ := ry
  exact add_str (fun t' tk => ⟨.str (i ++ j), H, I.tok _, ⟨_, rfl⟩, q⟩) hz
theorem vals1 {x : V} {us : List Value} (r : Vals [x] us) : ∃ u, us = [u] ∧ RelV x u := by
  cases r with
  | cons r1 r2 => cases r2; exact ⟨_, rfl, r1⟩
theorem vals2 {x y : V} {us : List Value} (r : Vals [x, y] us) : ∃ u w', us = [u, w'] ∧ RelV x u ∧ RelV y w' := by
  cases r with
  | cons r1 r2 =>
    cases r2 with
    | cons r3 r4 => cases r4; exact ⟨_, _, rfl, r1, r3⟩
theorem call_abs : CallR X (.builtin "abs") (fun xs H Q => ∃ i, xs = [.int i] ∧ Q (.int (if i < 0 then -i else i)) H) := by
  intro pins s σ H xs us Q I r h
  obtain ⟨i, rfl, q⟩ := h
  obtain ⟨u, rfl, t, rfl⟩ := vals1 r
  exact call_abs_int fun u tk => ⟨.int (if i < 0 then -i else i), H, I.tok _, ⟨_, rfl⟩, q⟩
theorem call_int1 : CallR X (.type "int") (fun xs H Q => (∃ i, xs = [.int i] ∧ Q (.int i) H) ∨ ∃ k, xs = [.bl k] ∧ Q (.int (if k then 1 else 0)) H) := by
  intro pins s σ H xs us Q I r h
  rcases h with ⟨i, rfl, q⟩ | ⟨k, rfl, q⟩
  · obtain ⟨u, rfl, t, rfl⟩ := vals1 r
    exact call_int_int ⟨.int i, H, I, ⟨_, rfl⟩, q⟩
  · obtain ⟨u, rfl, r1⟩ := vals1 r
    cases r1
    exact call_int_bool ⟨.int (if k then 1 else 0), H, I.tok _, ⟨_, rfl⟩, q⟩
noncomputable def LenV (K : PySem.W.Frag) (x : V) (H : Hp) (n : Nat) : Prop :=
  match x with
  | .str y => y.length ≤ sizeLine ∧ n = y.length
  | .byt y => y.size ≤ sizeLine ∧ n = y.size
  | .ref p => (∃ xs, SqL K H p xs ∧ n = xs.length) ∨ ∃ xs, SqT K H p xs ∧ n = xs.length
  | _ => False
theorem call_len : CallR X (.builtin "len") (fun xs H Q => ∃ x n, xs = [x] ∧ LenV X.K x H n ∧ Q (.int n) H) := by
  intro pins s σ H xs us Q I r h
  obtain ⟨x, n, rfl, e, q⟩ := h
  obtain ⟨u, rfl, rx⟩ := vals1 r
  have hl := line63
  have hs : sizeLine = 16777216 := sizeLine_eq
  cases x with
  | str y =>
    obtain ⟨t, rfl⟩ := rx
    obtain ⟨hy, e'⟩ : y.length ≤ sizeLine ∧ n = y.length := e
    subst e'
    exact len_str (by omega) ⟨.int _, H, I.tok _, ⟨_, rfl⟩, q⟩
  | byt y =>
    obtain ⟨t, rfl⟩ := rx
    obtain ⟨hy, e'⟩ : y.size ≤ sizeLine ∧ n = y.size := e
    subst e'
    exact PySem.W.len_bytes (by omega) ⟨.int _, H, I.tok _, ⟨_, rfl⟩, q⟩
  | ref p =>
    cases rx
    have e' : (∃ xs, SqL X.K H p xs ∧ n = xs.length) ∨ ∃ xs, SqT X.K H p xs ∧ n = xs.length := e
    rcases e' with ⟨xs, hx, e'⟩ | ⟨xs, hx, e'⟩
    · subst e'
      obtain ⟨its, r', pl, hz⟩ := I.list hx
      have hlen := r'.length
      exact Calls.call_len_list pl.isList (by simp only [List.size_toArray]; omega) ⟨.int xs.length, H, I.tok _, ⟨_, by simp only [List.size_toArray]; rw [hlen]⟩, q⟩
    · subst e'
      obtain ⟨its, r', pl, hz⟩ := I.tuple hx
      have hlen := r'.length
      exact len_tuple pl (by simp only [List.size_toArray]; omega) ⟨.int xs.length, H, I.tok _, ⟨_, by simp only [List.size_toArray]; rw [hlen]⟩, q⟩
  | _ => exact (show False from e).elim
end
end L2
namespace L2
open PySem PySem.Spec PyProof.Rows
structure ObjM (h : Heap) (x dx C : Addr) (mA : Str → Option Value) : Prop where
  obj : h.get? x = some (PySem.W.instObj C dx)
  ns : h.Ns1 dx mA
  ne : dx ≠ x
theorem lookIn_ns {h : Heap} {dx : Addr} {mA : Str → Option Value} (n : h.Ns1 dx mA) : ∃ od, h.get? dx = some od ∧ ∀ name, PySem.W.lookIn name od = some (mA name) := by
  obtain ⟨o, es, ep, ho, hd, hk, _, hm⟩ := n
  refine ⟨o, ho, fun name => ?_⟩
  have e := hm name
  unfold nsFind findBy at e
  rw [← Array.find?_toList] at e
  unfold PySem.W.lookIn
  rw [hd]
  dsimp only
  split
  · rename_i y q
    rw [q] at e
    exact congrArg some e
  · rename_i q
    rw [q] at e
    have a : es.toList.any (·.refKey) = false := by
      rw [List.any_eq_false]
      intro y hy
      obtain ⟨z, t, hkey⟩ := hk y (Array.mem_toList_iff.mp hy)
      simp [DictEntry.refKey, hkey]
    have a' : ¬ es.toList.any (·.refKey) = true := by rw [a]; exact Bool.false_ne_true
    rw [if_neg a']
    exact congrArg some e
theorem ObjM.look {h : Heap} {x dx C : Addr} {mA : Str → Option Value} (I : ObjM h x dx C mA) : ∃ od, PySem.W.InstAt h x (PySem.W.instObj C dx) C (some od) ∧ ∀ name, PySem.W.lookIn name od = some (mA name) :=
  let ⟨od, ho, hl⟩ := lookIn_ns I.ns
  ⟨od, ⟨I.obj, rfl, rfl, ho⟩, hl⟩
theorem RelO.some_of {v : V} {o : Option Value} (r : RelO (some v) o) : ∃ u, o = some u ∧ RelV v u := by
  cases o with
  | none => exact (show False from r).elim
  | some u => exact ⟨u, rfl, r⟩
section
variable {P : Program} {w : World} {H H' : Hp} {h h' : Heap} {a C dx : Addr} {fs fs' : List (Str × V)}
theorem ins_get (hok : HOk P w H h) (e : H a = some (.ins C dx fs)) : ∃ mA, ObjM h a dx C mA ∧ (∀ f, RelO (fs.lookup f) (mA f)) ∧ PySem.Within mA (fs.map (·.1)) ∧ fs.length ≤ 1000 ∧ H dx = some (.own a) := by
  obtain ⟨d, z, ne, ob, mA, n, r, q⟩ := (show ObjOk P w H h a (.ins C dx fs) from hok a _ e)
  exact ⟨mA, ⟨ob, n, ne⟩, r, q, z, d⟩
end
structure Cls (K : PySem.W.Frag) (C : Addr) : Prop where
  pg : PySem.W.plainGet K C Str.empty = true
  hd : PySem.W.hasDictIn K C = true
  po : PySem.W.plainOver K C = true
  sa : PySem.W.findIn K (.ref C) "__setattr__" = some (some (.builtin "object.__setattr__"))
theorem Cls.get {K : PySem.W.Frag} {C : Addr} (c : Cls K C) (f : Str) : PySem.W.plainGet K C f = true := c.pg
section
variable {X : Cx} {pins : List (Addr × Obj)} {σ : St} {H : Hp} {s : Shared} {A : Around} {E : Value → Shared → Prop} {Q : Value → Shared → Prop} {c : Value} {b : Bool}
inductive TyOf (K : PySem.W.Frag) (H : Hp) : V → Value → Prop where
  | non : TyOf K H .non (.type "NoneType")
  | bl (x : Bool) : TyOf K H (.bl x) (.type "bool")
  | int (i : Int) : TyOf K H (.int i) (.type "int")
  | str (x : Str) : TyOf K H (.str x) (.type "str")
  | flt (x : UInt64) : TyOf K H (.flt x) (.type "float")
  | lst {a : Addr} {xs : List V} (e : H a = some (.lst xs)) : TyOf K H (.ref a) (.type "list")
  | frz {a : Addr} {o : Obj} {xs : List V} (e : H a = some (.frz o (.lst xs))) : TyOf K H (.ref a) (.type "list")
  | tup {a : Addr} {xs : List V} (e : H a = some (.tup xs)) : TyOf K H (.ref a) (.type "tuple")
  | dK {a : Addr} {kvs : List (Key × V)} (e : H a = some (.dK kvs)) : TyOf K H (.ref a) (.type "dict")
  | dT {a : Addr} {kvs : List (List Key × V)} (e : H a = some (.dT kvs)) : TyOf K H (.ref a) (.type "dict")
  | ins {a C dx : Addr} {fs : List (Str × V)} (e : H a = some (.ins C dx fs)) (cl : Cls K C) (ha : PySem.W.findIn K (.ref C) "__class__" = some (some (.builtin "object.__class__")))
      (hn : PySem.W.specialIn K (.builtin "object.__class__") "__get__" = some (some (.builtin "getset_descriptor.__get__"))) (htk : PySem.W.takesIn K (.builtin "object.__class__") = some true)
      (hm : PySem.W.mroIn K C (.type "object") = some true) : TyOf K H (.ref a) (.ref C)
theorem isinst_ok {x : V} {u t : Value} (I : Inv X pins σ H s) (rx : RelV x u) (ty : TyOf X.K H x t) (e : PySem.W.kitOne X.K t c = some b) (h : ∀ tk, Q (.bool b) { s with toks := tk }) :
    wpAny (model X.prog X.w) A (call (.builtin "isinstance") [u, c]) Q E s := by
  cases ty with
  | non => cases (show u = Value.none from rx); exact PySem.W.kia_one PySem.W.kitx_none I.kIn True.intro e (fun z => nomatch z) h
  | bl y => cases (show u = Value.bool y from rx); exact PySem.W.kia_one PySem.W.kitx_bool I.kIn True.intro e (fun z => nomatch z) h
  | int i => obtain ⟨t, q⟩ := (show ∃ t, u = Value.int i t from rx); cases q; exact PySem.W.kia_one PySem.W.kitx_int I.kIn True.intro e (fun z => nomatch z) h
  | str y => obtain ⟨t, q⟩ := (show ∃ t, u = Value.str y t from rx); cases q; exact PySem.W.kia_one PySem.W.kitx_str I.kIn True.intro e (fun z => nomatch z) h
  | flt y => obtain ⟨t, q⟩ := (show ∃ t, u = Value.float y t from rx); cases q; exact PySem.W.kia_one PySem.W.kitx_float I.kIn True.intro e (fun z => nomatch z) h
  | @lst a xs ea =>
    cases (show u = Value.ref a from rx)
    obtain ⟨_, _, n, _, h1⟩ := (show ObjOk X.prog X.w H s.heap a (.lst xs) from I.hok a _ ea)
    exact PySem.W.kia_one PySem.W.kitx_list I.kIn ⟨_, h1, rfl⟩ e (fun z => nomatch z) h
  | @frz a ob xs ea =>
    cases (show u = Value.ref a from rx)
    obtain ⟨_, _, _, n, _, h1⟩ := (show ObjOk X.prog X.w H s.heap a (.frz ob (.lst xs)) from I.hok a _ ea)
    exact PySem.W.kia_one PySem.W.kitx_list I.kIn ⟨_, h1, rfl⟩ e (fun z => nomatch z) h
  | @tup a xs ea =>
    cases (show u = Value.ref a from rx)
    obtain ⟨_, _, _, p⟩ := (show ObjOk X.prog X.w H s.heap a (.tup xs) from I.hok a _ ea)
    obtain ⟨o, h1, h2, _⟩ := p
    exact PySem.W.kia_one PySem.W.kitx_tuple I.kIn ⟨o, h1, h2⟩ e (fun z => nomatch z) h
  | @dK a kvs ea =>
    cases (show u = Value.ref a from rx)
    obtain ⟨_, _, vs, _, p⟩ := (show ObjOk X.prog X.w H s.heap a (.dK kvs) from I.hok a _ ea)
    obtain ⟨o, es, ep, h1, h2, _⟩ := p
    exact PySem.W.kia_one PySem.W.kitx_dict I.kIn ⟨o, h1, h2.1⟩ e (fun z => nomatch z) h
  | @dT a kvs ea =>
    cases (show u = Value.ref a from rx)
    obtain ⟨_, _, xs, _, o, es, ep, h1, h2, _⟩ := (show ObjOk X.prog X.w H s.heap a (.dT kvs) from I.hok a _ ea)
    exact PySem.W.kia_one PySem.W.kitx_dict I.kIn ⟨o, h1, h2.1⟩ e (fun z => nomatch z) h
  | @ins a C dx fs ea cl ha hn htk hm =>
    cases (show u = Value.ref a from rx)
    obtain ⟨mA, O, _⟩ := ins_get I.hok ea
    obtain ⟨od, J, _⟩ := O.look
    exact PySem.W.kia_one (PySem.W.kitx_own (cl.get _) cl.hd ha hn htk hm) I.kIn J e (fun z => nomatch z) h
end
end L2
namespace L2
open PySem PySem.Spec PyProof.Rows
structure Room (k : Nat) (A : Around) : Prop where
  hd : A.handled = none
  dp : A.depth + 3 * k + 5 < recursionLimit
  un : A.units + 16 * k + 200 < cLine
  gd : A.guards = some []
theorem Room.mono {j k : Nat} {A : Around} (r : Room k A) (h : j ≤ k) : Room j A := ⟨r.hd, by have := r.dp; omega, by have := r.un; omega, r.gd⟩
theorem Room.deeper {k : Nat} {A : Around} (r : Room (k + 1) A) (env : Env) : Room k (A.deeper env) :=
  ⟨r.hd, by have := r.dp; show A.depth + 1 + 3 * k + 5 < _; omega, by have := r.un; show A.units + 3 + 16 * k + 200 < _; omega, r.gd⟩
theorem Room.depth {k : Nat} {A : Around} (r : Room k A) : A.depth < recursionLimit := by have := r.dp; omega
theorem Room.units {k : Nat} {A : Around} (r : Room k A) : A.units + 64 < cLine := by have := r.un; omega
noncomputable def tNil : TA := fun _ H Q => Q [] H
noncomputable def tCons (ta : TE) (tr : TA) : TA := fun σ H Q => ta σ H fun x H1 => tr σ H1 fun xs H2 => Q (x :: xs) H2
section
variable {X : Cx} {e : Expr} {es : List Expr} {te : TE} {t : TA} {pos : Pos}
theorem pa_nil : PA X [] tNil := fun _ _ _ _ H Q I h => Calls.spliced_nil ⟨[], H, I, .nil, h⟩
theorem pa_cons (ha : PE X e te) (hr : PA X es t) (hs : starEach (e :: es) X.env = (false, eval e X.env) :: starEach es X.env := by rfl) : PA X (e :: es) (tCons te t) := by
  intro pos pins s σ H Q I h
  rw [hs]
  show wpAny _ _ (spliced ((false, eval e X.env) :: backTo pos (starEach es X.env))) _ _ s
  refine Calls.spliced_cons (thn (ha pins s σ H _ I h) fun u s1 ⟨x, H1, I1, r1, q1⟩ => ?_)
  exact thn (hr pos pins s1 σ H1 _ I1 q1) fun us s2 ⟨xs, H2, I2, r2, q2⟩ => ⟨x :: xs, H2, I2, .cons r1 r2, q2⟩
noncomputable def tTup (t : TA) : TE := fun σ H Q => t σ H fun xs H1 => xs.length ≤ sizeLine ∧ ∀ p, H1 p = none → Q (.ref p) (upd H1 p (.tup xs))
noncomputable def tLst (t : TA) : TE := fun σ H Q => t σ H fun xs H1 => xs.length ≤ sizeLine ∧ ∀ p, H1 p = none → Q (.ref p) (upd H1 p (.lst xs))
theorem pe_tup {x1} (h : PA X es t) : PE X (.Tuple es x1 pos) (tTup t) := by
  intro pins s σ H Q I hq
  refine wpAny_Tuple_spliced (thn (h pos pins s σ H _ I hq) fun us s1 ⟨xs, H1, I1, r, z, q⟩ => ⟨by rw [← r.length]; exact z, ?_⟩)
  have hf : H1 s1.heap.objs.size = none := I1.hok.fresh (Nat.le_refl _)
  refine ⟨.ref s1.heap.objs.size, upd H1 s1.heap.objs.size (.tup xs), I1.laid (t' := s1.toks) (fun b u e => Heap.get?_push_of_some _ e) (Nat.le_refl _) ?_, rfl, q _ hf⟩
  exact ⟨z, us, r, ⟨_, Heap.get?_push_size _ rfl, rfl, _, rfl, rfl⟩⟩
theorem pe_lst (h : PA X es t) : PE X (.List es pos) (tLst t) := by
  intro pins s σ H Q I hq
  refine wpAny_List_spliced (thn (h pos pins s σ H _ I hq) fun us s1 ⟨xs, H1, I1, r, z, q⟩ => ⟨by rw [← r.length]; exact z, ?_⟩)
  have hf : H1 s1.heap.objs.size = none := I1.hok.fresh (Nat.le_refl _)
  refine ⟨.ref s1.heap.objs.size, upd H1 s1.heap.objs.size (.lst xs), I1.laid (t' := s1.toks) (fun b u e => Heap.get?_push_of_some _ e) (Nat.le_refl _) ?_, rfl, q _ hf⟩
  exact ⟨z, us, 0, r, Heap.get?_push_size _ rfl⟩
end
noncomputable abbrev Sp := List V → Hp → VK → XK → Prop
noncomputable abbrev CXT := List Env → Hp → Shared → XK → Value → Shared → Prop
structure Env0 (P : Program) (w : World) (K : PySem.W.Frag) (mg : Str → Option Value) (base : Heap) (A : Around) (outer : List Env) (s : Shared) (H : Hp) : Prop where
  frames : A.frames = some outer
  mod : Mod K mg base
  bs : ∀ b o, base.get? b = some o → s.heap.get? b = some o ∧ H b = none
  bsz : base.objs.size ≤ s.heap.objs.size
  funs : s.heap.FunFrames base outer
  frf : ∀ b ∈ frs outer, H b = none
  hok : HOk P w H s.heap
  bare : AllBare s.gens
noncomputable def CE (outer : List Env) (P : Program) (w : World) (H : Hp) (s : Shared) (Q : VK) (u : Value) (s' : Shared) : Prop :=
  ∃ v H', s'.os = s.os ∧ AllBare s'.gens ∧ Un (frs outer) [] H H' s.heap s'.heap ∧ HOk P w H' s'.heap ∧ RelV v u ∧ Q v H'
noncomputable def CR (CX : CXT) (outer : List Env) (P : Program) (w : World) (H : Hp) (s : Shared) (Q : VK) (E : XK) (r : Result) (s' : Shared) : Prop :=
  match r with
  | .ok (.ret u) => CE outer P w H s Q u s'
  | .ok _ => False
  | .error e => CX outer H s E e s'
structure FnOk (P : Program) (w : World) (K : PySem.W.Frag) (mg : Str → Option Value) (base : Heap) (CX : CXT) (k : Nat) (f : Addr) (fd : FuncData) (ps : List Str) (sp : Sp) : Prop where
  len : ∀ vs H Q E, sp vs H Q E → vs.length = ps.length
  run : ∀ (A : Around) (outer : List Env) (s : Shared) (H : Hp) (args : Args) (us : List Value) (vs : List V) (Q : VK) (E : XK), Room k A → Env0 P w K mg base A outer s H → BindsTo s fd args (ps.zip us) → Vals vs us → sp vs H Q E →
    codeAny (model P w) A (.call (.ref f) args) (CR CX outer P w H s Q E) s
section
variable {X : Cx} {pins : List (Addr × Obj)} {σ : St} {H : Hp} {s s' : Shared}
theorem Inv.env0 (I : Inv X pins σ H s) : Env0 X.prog X.w X.K X.mg X.base X.A X.stack s H :=
  ⟨I.ok.frames, I.ok.mod, I.bs, Nat.le_trans I.ok.bsz I.sz, I.stack, I.stkFree, I.hok, I.bare⟩
theorem Inv.after {Q : VK} {u : Value} (I : Inv X pins σ H s) (h : CE X.stack X.prog X.w H s Q u s') : EP X pins σ Q u s' := by
  obtain ⟨v, H', os, bare, un, hok, r, q⟩ := h
  obtain ⟨hh, g, d, t, os'⟩ := s'
  obtain rfl : os' = s.os := os
  exact ⟨v, H', I.call (h' := hh) (g' := g) (d' := d) (t' := t) (ch := []) un hok bare (fun b z => absurd z (by simp)), r, q⟩
end
noncomputable def tCall (sp : Sp) (dvs : List V) (E : XK) (t : TA) : TE := fun σ H Q => t σ H fun vs H1 => sp (vs ++ dvs) H1 Q E
noncomputable def Binds (K : PySem.W.Frag) (fd : FuncData) (ps : List Str) (ds : List Value) : Prop :=
  ∀ (s : Shared) (us : List Value), K.In s.heap → (us ++ ds).length = ps.length → BindsTo s fd ⟨us, []⟩ (ps.zip (us ++ ds))
theorem Binds.all {K : PySem.W.Frag} {fd : FuncData} {ps : List Str} (h : ∀ us : List Value, us.length = ps.length → bindArgs fd ⟨us, []⟩ = pure (ps.zip us)) : Binds K fd ps [] := fun s us _ hl => by
  rw [List.append_nil] at hl ⊢
  exact .of_eq (h us hl)
noncomputable def Passes (CX : CXT) (X : Cx) (E : XK) : Prop := ∀ (pins : List (Addr × Obj)) (σ : St) (H : Hp) (s : Shared) (e : Value) (s' : Shared), Inv X pins σ H s → CX X.stack H s E e s' → X.xe e s'
section
variable {X : Cx} {CX : CXT} {k : Nat} {f C : Addr} {fd : FuncData} {ps : List Str} {sp : Sp} {dvs : List V} {ds : List Value} {E : XK} {x m : Str} {p pos apos : Pos} {e o : Expr} {es : List Expr} {ta : TE} {t : TA}
theorem run_fn {pins : List (Addr × Obj)} {σ : St} {H : Hp} {s : Shared} {Q : VK} {us : List Value} {vs : List V} (F : FnOk X.prog X.w X.K X.mg X.base CX k f fd ps sp) (hr : Room k X.A) (hb : Binds X.K fd ps ds) (hd : Vals dvs ds) (hx : Passes CX X E)
    (I : Inv X pins σ H s) (r : Vals vs us) (h : sp (vs ++ dvs) H Q E) : wpAny (model X.prog X.w) X.A (call (.ref f) us) (EP X pins σ Q) X.xe s := by
  have r2 : Vals (vs ++ dvs) (us ++ ds) := r.append hd
  have hl : (us ++ ds).length = ps.length := by rw [← r2.length]; exact F.len _ _ _ _ h
  refine wpAny_call (codeAny_mono (F.run X.A X.stack s H ⟨us, []⟩ (us ++ ds) (vs ++ dvs) Q E hr I.env0 (hb s us I.kIn hl) r2 h) fun r s' hq => ?_)
  cases r with
  | error e => exact hx pins σ H s e s' I hq
  | ok fl =>
    cases fl with
    | ret u => exact I.after hq
    | next => exact False.elim hq
    | brk => exact False.elim hq
    | cont => exact False.elim hq
theorem pe_call (F : FnOk X.prog X.w X.K X.mg X.base CX k f fd ps sp) (hr : Room k X.A) (hg : Gl X x) (hm : X.mg x = some (.ref f)) (hk : PySem.W.keepIn X.K (.ref f) = true) (hb : Binds X.K fd ps ds) (hd : Vals dvs ds) (hx : Passes CX X E)
    (ha : PA X (e :: es) t) (hdb : (x == ("__debug__" : Str)) = false := by decide) (he : starEach (e :: es) X.env = (false, eval e X.env) :: starEach es X.env := by rfl) (hpl : (backTo pos (starEach es X.env)).any (·.1) = false := by rfl) :
    PE X (.Call (.Name x p) (e :: es) [] pos) (tCall sp dvs E t) := by
  intro pins s σ H Q I h
  refine wpAny_Call_Name_kw (ld_glob I hg hm ?_ hdb)
  refine PySem.W.callWith_K (h₀ := X.base) I.ok.mod.kin hk (thn (ha pos pins s σ H _ I h) fun us s1 ⟨vs, H1, I1, r, q⟩ => ⟨I1.kIn, ?_⟩) he hpl
  exact run_fn F hr hb hd hx I1 r q
end
noncomputable def PK (X : Cx) (kws : List Keyword) (t : TA) : Prop :=
  ∀ (pos : Pos) (pins : List (Addr × Obj)) (s : Shared) (σ : St) (H : Hp) (Q : List V → Hp → Prop), Inv X pins σ H s → t σ H Q → wpAny (model X.prog X.w) X.A (evalAll ((backToKw pos (keywordEach kws X.env)).map (·.2))) (AP X pins σ Q) X.xe s
structure FnScope (N P : List Str) (sc : Scope) : Prop where
  kind : sc.kind = .function
  co : sc.isCoroutine = false
  gen : sc.isGenerator = false
  nd : N.Nodup
  pre : N.take P.length = P
  par : ∀ x ∈ P, sc.names.lookup x = some .local ∨ sc.names.lookup x = some .cell
  nofree : ∀ y ∈ sc.names, y.2 ≠ .free
theorem bindL_out {kindOf : Str → Option NameKind} {x : Str} : ∀ {binds : List (Str × Value)} {m : Str → Option Value}, (∀ v, (x, v) ∉ binds) → bindL kindOf binds m x = m x
  | [], _, _ => rfl
  | (n, v) :: r, m, h => by
    unfold bindL
    rw [bindL_out fun w hw => h w (List.mem_cons_of_mem _ hw)]
    split
    · have : x ≠ n := by rintro rfl; exact h v List.mem_cons_self
      simp [this]
    · rfl
theorem bindC_out {kindOf : Str → Option NameKind} {x : Str} : ∀ {binds : List (Str × Value)} {m : Str → Option Value}, (∀ v, (x, v) ∉ binds) → bindC kindOf binds m x = m x
  | [], _, _ => rfl
  | (n, v) :: r, m, h => by
    unfold bindC
    rw [bindC_out fun w hw => h w (List.mem_cons_of_mem _ hw)]
    split
    · rfl
    · have : x ≠ n := by rintro rfl; exact h v List.mem_cons_self
      simp [this]
theorem bindL_get {kindOf : Str → Option NameKind} {x : Str} {v : Value} : ∀ {P : List Str} {vs : List Value} {i : Nat} {m : Str → Option Value}, P.Nodup → P[i]? = some x → vs[i]? = some v → kindOf x = some .local →
    bindL kindOf (P.zip vs) m x = some v
  | [], _, _, _, _, h, _, _ => by simp at h
  | _ :: _, [], _, _, _, _, h, _ => by simp at h
  | p :: P, w :: vs, 0, m, nd, h1, h2, hk => by
    simp at h1 h2; subst h1; subst h2
    show bindL kindOf ((p, w) :: P.zip vs) m p = _
    unfold bindL
    rw [bindL_out fun v hv => (List.nodup_cons.mp nd).1 (List.of_mem_zip hv).1, if_pos hk]
    simp
  | p :: P, w :: vs, i + 1, m, nd, h1, h2, hk => by
    show bindL kindOf ((p, w) :: P.zip vs) m x = _
    unfold bindL
    exact bindL_get (i := i) (List.nodup_cons.mp nd).2 (by simpa using h1) (by simpa using h2) hk
theorem bindC_get {kindOf : Str → Option NameKind} {x : Str} {v : Value} : ∀ {P : List Str} {vs : List Value} {i : Nat} {m : Str → Option Value}, P.Nodup → P[i]? = some x → vs[i]? = some v → kindOf x ≠ some .local →
    bindC kindOf (P.zip vs) m x = some v
  | [], _, _, _, _, h, _, _ => by simp at h
  | _ :: _, [], _, _, _, _, h, _ => by simp at h
  | p :: P, w :: vs, 0, m, nd, h1, h2, hk => by
    simp at h1 h2; subst h1; subst h2
    show bindC kindOf ((p, w) :: P.zip vs) m p = _
    unfold bindC
    rw [bindC_out fun v hv => (List.nodup_cons.mp nd).1 (List.of_mem_zip hv).1, if_neg hk]
    simp
  | p :: P, w :: vs, i + 1, m, nd, h1, h2, hk => by
    show bindC kindOf ((p, w) :: P.zip vs) m x = _
    unfold bindC
    exact bindC_get (i := i) (List.nodup_cons.mp nd).2 (by simpa using h1) (by simpa using h2) hk
noncomputable def start (N : List Str) (vs : List V) : St := vs.map some ++ List.replicate (N.length - vs.length) none
noncomputable def cxOf (CX : CXT) (P : Program) (w : World) (K : PySem.W.Frag) (mg : Str → Option Value) (base : Heap) (N : List Str) (qual : Str) (scope : Scope) (f : Addr) (cd : Value) (A : Around) (outer : List Env) (s : Shared) (H : Hp) (E : XK) : Cx where
  prog := P
  w := w
  K := K
  mg := mg
  base := base
  A := A.deeper (envOfC qual scope s.heap.objs.size f cd)
  N := N
  s₀ := s
  H₀ := H
  env := envOfC qual scope s.heap.objs.size f cd
  outer := outer
  stack := envOfC qual scope s.heap.objs.size f cd :: outer
  ex := []
  calm := true
  fn := fun _ => true
  pn := []
  xe := fun e s' => wpAny (model P w) (A.deeper (envOfC qual scope s.heap.objs.size f cd)) (leaving (envOfC qual scope s.heap.objs.size f cd) e) (fun _ s'' => CX outer H s E e s'') (fun e' s'' => CX outer H s E e' s'') s'
theorem cell_has {sc : Scope} {n : Nat} {x : Str} (h : sc.names.lookup x = some .cell) : ∃ c, (cellsFrom n sc.names []).lookup x = some c := by
  have q := PySem.W.cellsFrom_some sc.names n [] (.inl h)
  exact Option.isSome_iff_exists.mp q
theorem inv_start {CX : CXT} {P : Program} {w : World} {K : PySem.W.Frag} {mg : Str → Option Value} {base : Heap} {N ps : List Str} {qual : Str} {scope : Scope} {f : Addr} {cd : Value} {A : Around} {outer : List Env} {s s1 : Shared} {H : Hp} {E : XK} {us : List Value} {vs : List V}
    (S : FnScope N ps scope) (hd : A.handled = none) (e0 : Env0 P w K mg base A outer s H) (hl : vs.length = ps.length) (r : Vals vs us)
    (x : InCallC s s.heap.objs.size (bindL (envOfC qual scope s.heap.objs.size f cd).kindOf (ps.zip us) fun _ => none) (cellsFrom (s.heap.objs.size + 1) scope.names []) (bindC (envOfC qual scope s.heap.objs.size f cd).kindOf (ps.zip us) fun _ => none) s1) :
    Inv (cxOf CX P w K mg base N qual scope f cd A outer s H E) [] (start N vs) H s1 := by
  have hpl : ps.length ≤ N.length := by have := congrArg List.length S.pre; rw [List.length_take] at this; omega
  obtain ⟨h1, tk, rfl, hk⟩ := x.done
  have noA : ∀ b : Addr, b ∉ (cxOf CX P w K mg base N qual scope f cd A outer s H E).ex := fun b z => absurd (show b ∈ ([] : List Addr) from z) (by simp)
  refine ⟨⟨e0.mod, S.kind, rfl, rfl, Nat.le_refl _, fun y z c h1 h2 => ?_, fun y hy => ?_, fun y c _ h => ?_, fun _ => hd, Around.frames_deeper e0.frames, .inr ⟨rfl, rfl⟩, fun b z => absurd z (noA b), e0.bs, e0.bsz, fun b _ _ => noA b, fun b z => absurd z (noA b), e0.funs, e0.frf⟩,
    rfl, e0.bare, Un.kept hk, ⟨_, x.toInCall.ns, fun i y v h1 h2 h3 => ?_⟩, fun y c h => ⟨_, x.cell y c h⟩, e0.hok.fresh (Nat.le_refl _), fun y c h => ?_, fun p hp => absurd (show p ∈ ([] : List (Addr × Obj)) from hp) (by simp), e0.hok.kept hk, ?_⟩
  · exact name_of_addr x.apart (PySem.mem_of_lookup h1) (PySem.mem_of_lookup h2)
  · have hy : scope.names.lookup y = some .cell ∨ scope.names.lookup y = some .free := hy
    rcases hy with hy | hy
    · exact cell_has hy
    · exact absurd rfl (S.nofree _ (PySem.mem_of_lookup hy))
  · exact Nat.le_of_lt (x.above y c (PySem.mem_of_lookup h))
  · have hi : i < vs.length := by
      unfold start at h2
      by_cases hi : i < vs.length
      · exact hi
      · rw [List.getElem?_append_right (by simpa using hi)] at h2
        rw [List.getElem?_replicate] at h2
        split at h2 <;> cases h2
    have ha : vs[i]? = some v := by
      unfold start at h2
      rw [List.getElem?_append_left (by simpa using hi), List.getElem?_map] at h2
      cases e : vs[i]? with
      | none => rw [e] at h2; cases h2
      | some a => rw [e] at h2; cases h2; rfl
    obtain ⟨u, hu, rv⟩ := r.get ha
    have hp : ps[i]? = some y := by
      rw [← S.pre, List.getElem?_take_of_lt (by omega)]; exact h1
    have ndP : ps.Nodup := by rw [← S.pre]; exact S.nd.sublist (List.take_sublist _ _)
    refine ⟨u, rv, ?_⟩
    rcases S.par y (List.mem_of_getElem? hp) with k | k
    · exact .inl ⟨k, bindL_get ndP hp hu k⟩
    · obtain ⟨c, e⟩ := cell_has (n := s.heap.objs.size + 1) k
      refine .inr ⟨.inl k, c, e, ?_⟩
      have q := x.cell y c e
      rw [bindC_get ndP hp hu (by show scope.names.lookup y ≠ _; rw [k]; decide)] at q
      exact q
  · exact e0.hok.fresh (Nat.le_of_lt (x.above y c (PySem.mem_of_lookup h)))
  · unfold start
    show _ = N.length
    rw [List.length_append, List.length_map, List.length_replicate]
    omega
theorem fn_of {CX : CXT} {P : Program} {w : World} {K : PySem.W.Frag} {mg : Str → Option Value} {base : Heap} {k : Nat} {f : Addr} {name qual : Str} {params : Arguments} {body : List Stmt} {scope : Scope} {dV kV doc pm cdv ct oc : Value} {an od : Option Addr}
    {osl : Array (Option Value)} {N ps : List Str} {sp : Sp} (lk : K.lookup f = some ⟨oc, od, .func (PySem.W.fnOf name qual params body scope dV kV doc pm an cdv ct), osl⟩) (hcd : PySem.W.codeIn K cdv qual = true) (S : FnScope N ps scope)
    (len : ∀ vs H Q E, sp vs H Q E → vs.length = ps.length)
    (hbody : ∀ (A : Around) (outer : List Env) (s : Shared) (H : Hp) (vs : List V) (Q : VK) (E : XK), Room k (A.deeper (envOfC qual scope s.heap.objs.size f cdv)) → sp vs H Q E →
      ∃ t, PSs (cxOf CX P w K mg base N qual scope f cdv A outer s H E) body t ∧ t { nx := fun _ H' => Q .non H', rt := Q } (start N vs) H) :
    FnOk P w K mg base CX (k + 1) f (PySem.W.fnOf name qual params body scope dV kV doc pm an cdv ct) ps sp := by
  refine ⟨len, fun A outer s H args us vs Q E hr e0 hb r hsp => ?_⟩
  have hl := len _ _ _ _ hsp
  have KX : K.In s.heap := e0.mod.kin.keeps fun b o e => (e0.bs b o e).1
  have lim : s.heap.NoLimit := e0.mod.nolimit.keeps fun b o e => (e0.bs b o e).1
  have hkind : ∀ y ∈ ps.zip us, scope.names.lookup y.1 = some .local ∨ (scope.names.lookup y.1 = some .cell ∧ ((cellsFrom (s.heap.objs.size + 1) scope.names []).lookup y.1).isSome = true) := fun ⟨n, v⟩ hy => by
    rcases S.par n (List.of_mem_zip hy).1 with q | q
    · exact .inl q
    · exact .inr ⟨q, PySem.W.cellsFrom_some _ _ _ (.inl q)⟩
  refine codeAny_call_function hr.depth (KX _ _ lk) rfl S.co S.gen rfl (PySem.W.codeRec_of KX hcd) (hb _ _ _ _ ?_)
  refine wpAny_newFunctionEnv_cells S.kind hkind fun env he s1 x => ?_
  subst he
  refine ⟨lim.keeps x.toInCall.keep, codeAny_func ?_⟩
  obtain ⟨t, ht, hq⟩ := hbody A outer s H vs Q E (hr.deeper _) hsp
  have I : Inv (cxOf CX P w K mg base N qual scope f cdv A outer s H E) [] (start N vs) H s1 := inv_start S hr.hd e0 hl r x
  refine wpAny_mono (ht [] s1 (start N vs) H _ I hq) (fun fl s' hs => ?_) fun e s' hs => hs
  have fin : ∀ {σ' : St} {H' : Hp} {v : V} {u : Value}, Inv (cxOf CX P w K mg base N qual scope f cdv A outer s H E) [] σ' H' s' → RelV v u → Q v H' → CE outer P w H s Q u s' :=
    fun {σ' H' v u} J rv q => ⟨v, H', J.os, J.bare, J.base, J.hok, rv, q⟩
  cases fl with
  | ret u =>
    obtain ⟨v, σ', H', J, rv, q⟩ := hs
    exact fin J rv q
  | next =>
    obtain ⟨σ', H', J, q⟩ := hs
    exact fin (v := V.non) (u := Value.none) J rfl q
  | brk =>
    obtain ⟨_, _, _, q⟩ := hs
    exact False.elim q
  | cont =>
    obtain ⟨_, _, _, q⟩ := hs
    exact False.elim q
end L2
namespace L2
open PySem PySem.Spec PyProof.Rows
section
variable {X : Cx} {x : Str} {p pos : Pos} {e : Expr} {es : List Expr} {t : TA} {id T : String} {r : List V → Hp → VK → Prop}
noncomputable def tCB (r : List V → Hp → VK → Prop) (t : TA) : TE := fun σ H Q => t σ H fun vs H1 => r vs H1 Q
theorem pe_callB (hc : CallR X (.builtin id) r) (hg : Gl X x) (hm : X.mg x = none) (hv : bootBuiltins x = some (.builtin id)) (ha : PA X (e :: es) t) (hn : x ≠ "__name__" := by decide) (hdb : (x == ("__debug__" : Str)) = false := by decide)
    (he : starEach (e :: es) X.env = (false, eval e X.env) :: starEach es X.env := by rfl) (hpl : (backTo pos (starEach es X.env)).any (·.1) = false := by rfl) : PE X (.Call (.Name x p) (e :: es) [] pos) (tCB r t) := by
  intro pins s σ H Q I h
  refine wpAny_Call_Name_kw (ld_blt I hg hm hv ?_ hn hdb)
  exact PyProof.Rows.callWith_builtin1 (thn (ha pos pins s σ H _ I h) fun us s1 ⟨vs, H1, I1, r1, q1⟩ => hc pins s1 σ H1 vs us Q I1 r1 q1) he hpl
theorem pe_callTy (hc : CallR X (.type T) r) (hg : Gl X x) (hm : X.mg x = none) (hv : bootBuiltins x = some (.type T)) (ha : PA X (e :: es) t) (hn : x ≠ "__name__" := by decide) (hdb : (x == ("__debug__" : Str)) = false := by decide)
    (he : starEach (e :: es) X.env = (false, eval e X.env) :: starEach es X.env := by rfl) (hpl : (backTo pos (starEach es X.env)).any (·.1) = false := by rfl) : PE X (.Call (.Name x p) (e :: es) [] pos) (tCB r t) := by
  intro pins s σ H Q I h
  refine wpAny_Call_Name_kw (ld_blt I hg hm hv ?_ hn hdb)
  exact PyProof.Rows.callWith_type1 (thn (ha pos pins s σ H _ I h) fun us s1 ⟨vs, H1, I1, r1, q1⟩ => hc pins s1 σ H1 vs us Q I1 r1 q1) he hpl
end
end L2
namespace HT
open PySem PyProof.Rows
section
open PySem.SeqAt
open PySem.AutoSeq1 (wpAny_loadPart')
open PySem.MeetsSeq PySem.MeetsSeq2 PySem.MeetsSeq3
end
section
variable {prog : Program} {w : World} {A : Around} {E : Value → Shared → Prop} {s : Shared}
theorem cat_tup {t b : Addr} {vs ws : List Value} {Q : Value → Shared → Prop} (ht : IsTup s.heap t vs.toArray) (hb : IsTup s.heap b ws.toArray) (hv : vs ≠ [])
    (h1 : ws = [] → Q (.ref t) s) (h2 : ws ≠ [] → Q (.ref s.heap.objs.size) { s with heap := s.heap.push { cls := .type "tuple", data := .seq (vs ++ ws).toArray } })
    (hsz : vs.length + ws.length ≤ sizeLine) : wpAny (model prog w) A (binaryOp .Add (.ref t) (.ref b)) Q E s := by
  obtain ⟨⟨cls, dd, data, sl⟩, ho, hc, n, hd⟩ := id ht
  obtain ⟨⟨cls2, dd2, data2, sl2⟩, ho2, hc2, n2, hd2⟩ := id hb
  simp only at hc hd hc2 hd2
  subst hc hd hc2 hd2
  have e : vs.toArray ++ ws.toArray = (vs ++ ws).toArray := by simp
  by_cases hw : ws = []
  · exact concat_meets ⟨_, ho, rfl⟩ ⟨_, ho2, rfl⟩ noFill_tuple_add seq_tuple_add PySem.F.slot_tuple_add PySem.F.entry_tuple_add (PySem.F.args_tuple_add_2 _ _)
      (tuple_addW1 t b vs.toArray ws.toArray n n2 dd dd2 sl sl2 (by simpa using hv) (by simp [hw])) ⟨ho, ho2, h1 hw⟩
  · refine concat_meets ⟨_, ho, rfl⟩ ⟨_, ho2, rfl⟩ noFill_tuple_add seq_tuple_add PySem.F.slot_tuple_add PySem.F.entry_tuple_add (PySem.F.args_tuple_add_2 _ _)
      (tuple_addW2 t b vs.toArray ws.toArray n n2 dd dd2 sl sl2 (by simpa using hv) (by simpa using hw) (by rw [List.size_toArray, List.size_toArray]; exact hsz)) ⟨ho, ho2, ?_⟩
    rw [e]
    exact h2 hw
noncomputable def sIx (n d : Nat) : Option Int → Nat
  | none => d
  | some v => if v < 0 then (v + (n : Int)).toNat else min v.toNat n
theorem sIx_none (n d : Nat) : sIx n d none = d := rfl
theorem sIx_nat (n d k : Nat) : sIx n d (some (k : Int)) = min k n := by
  show (if (k : Int) < 0 then ((k : Int) + (n : Int)).toNat else min (k : Int).toNat n) = min k n
  rw [if_neg (by omega), Int.toNat_natCast]
theorem sIx_le (n d : Nat) (hd : d ≤ n) (o : Option Int) : sIx n d o ≤ n := by
  cases o with
  | none => exact hd
  | some v =>
    show (if v < 0 then (v + (n : Int)).toNat else min v.toNat n) ≤ n
    by_cases hv : v < 0
    · rw [if_pos hv]; omega
    · rw [if_neg hv]; exact Nat.min_le_right _ _
theorem clip_eq (v : Int) (n d : Nat) : (if v < 0 then max (v + (n : Int)) 0 else min v (n : Int)) = ((sIx n d (some v) : Nat) : Int) := by
  show (if v < 0 then max (v + (n : Int)) 0 else min v (n : Int)) = (((if v < 0 then (v + (n : Int)).toNat else min v.toNat n) : Nat) : Int)
  by_cases hv : v < 0
  · simp only [if_pos hv]; omega
  · simp only [if_neg hv]; omega
theorem adjust_gen (lo hi : Option Int) (n : Nat) : Builtin.Slice.sliceAdjust lo hi 1 (n : Int) = (((sIx n 0 lo : Nat) : Int), ((sIx n n hi : Nat) : Int)) := by
  have h1 : ¬ ((1 : Int) < 0) := by omega
  unfold Builtin.Slice.sliceAdjust
  simp only [h1, if_false]
  refine Prod.ext ?_ ?_
  · cases lo with
    | none => rfl
    | some v => exact clip_eq v n 0
  · cases hi with
    | none => rfl
    | some v => exact clip_eq v n n
theorem places_gen (i j : Nat) : Builtin.Slice.slicePlaces (i : Int) (j : Int) 1 = j - i := by
  unfold Builtin.Slice.slicePlaces
  have h1 : (1 : Int) > 0 := by omega
  simp only [h1, if_true, Int.ediv_one]
  split <;> omega
theorem slicePart_ {v : Value} {o : Option Int} {Q : Option Int → Shared → Prop} (p : IsPart v o) (h : Q o s) : wpAny (model prog w) A (Builtin.Slice.slicePartIndex v) Q E s := by
  cases p with
  | none => exact slicePart_none h
  | int i t => exact slicePart_int h
theorem sliceApplied_gen {sl : Addr} {vl vu : Value} {lo hi : Option Int} {n : Nat} {Q : Int × Int × Nat → Shared → Prop} (hs : s.heap.IsSliceOf sl vl vu .none) (pl : IsPart vl lo) (pu : IsPart vu hi)
    (h : Q (((sIx n 0 lo : Nat) : Int), 1, sIx n n hi - sIx n 0 lo) s) : wpAny (model prog w) A (Builtin.Slice.sliceApplied (.ref sl) (pure (n : Int))) Q E s := by
  obtain ⟨os, hos, hcs, hds⟩ := id hs
  unfold Builtin.Slice.sliceApplied Builtin.Slice.sliceFields
  refine wpAny_bind (wpAny_bind (wpAny_field hos hds (x := vl) rfl (wpAny_bind (wpAny_field hos hds (x := vu) rfl (wpAny_bind (wpAny_field hos hds (x := .none) rfl (wpAny_pure ?_)))))))
  refine wpAny_bind (slicePart_none ?_)
  show wpAny _ _ (if ((1 : Int) == 0) = true then _ else _) _ _ s
  rw [if_neg (by decide)]
  refine wpAny_bind (slicePart_ pl (wpAny_bind (slicePart_ pu (wpAny_bind (wpAny_pure ?_)))))
  show wpAny _ _ (match Builtin.Slice.sliceAdjust lo hi 1 (n : Int) with | (lo, hi) => pure (lo, (1 : Int), Builtin.Slice.slicePlaces lo hi 1)) _ _ s
  rw [adjust_gen lo hi n]
  show wpAny _ _ (pure (((sIx n 0 lo : Nat) : Int), (1 : Int), Builtin.Slice.slicePlaces ((sIx n 0 lo : Nat) : Int) ((sIx n n hi : Nat) : Int) 1)) _ _ s
  rw [places_gen]
  exact wpAny_pure h
theorem pick_gen (xs : Array Value) (i k : Nat) : ((List.range k).filterMap fun (m : Nat) => xs[((i : Int) + (m : Int) * 1).toNat]?).toArray = ((xs.toList.drop i).take k).toArray := by
  have e : (fun (m : Nat) => xs[((i : Int) + (m : Int) * 1).toNat]?) = fun m => xs[i + m]? := by
    funext m
    have : ((i : Int) + (m : Int) * 1).toNat = i + m := by omega
    rw [this]
  rw [e]
  have := pick_run xs i k
  rw [List.filterMap_map] at this
  have e2 : ((fun x => xs[x]?) ∘ fun x => i + x) = fun m => xs[i + m]? := rfl
  rw [e2] at this
  rw [this]
theorem getItem_tuple_cut {t sl : Addr} {items : Array Value} {vl vu : Value} {lo hi : Option Int} {Q : Value → Shared → Prop} (ht : IsTup s.heap t items) (hs : s.heap.IsSliceOf sl vl vu .none) (pl : IsPart vl lo) (pu : IsPart vu hi)
    (hw : ¬ (sIx items.size 0 lo = 0 ∧ sIx items.size items.size hi = items.size))
    (h : Q (.ref s.heap.objs.size) { s with heap := s.heap.push { cls := .type "tuple", data := .seq ((items.toList.drop (sIx items.size 0 lo)).take (sIx items.size items.size hi - sIx items.size 0 lo)).toArray } })
    (hsz : items.size ≤ sizeLine) : wpAny (model prog w) A (getItem (.ref t) (.ref sl)) Q E s := by
  have htake : sizeOk (.seq ((items.toList.drop (sIx items.size 0 lo)).take (sIx items.size items.size hi - sIx items.size 0 lo)).toArray) := by
    show ((items.toList.drop (sIx items.size 0 lo)).take (sIx items.size items.size hi - sIx items.size 0 lo)).toArray.size ≤ sizeLine
    rw [List.size_toArray, List.length_take, List.length_drop, Array.length_toList]
    omega
  have hj : sIx items.size items.size hi ≤ items.size := sIx_le _ _ (Nat.le_refl _) hi
  obtain ⟨os, hos, hcs, hds⟩ := id hs
  have hTs : s.TypeIs (.ref sl) "slice" := ⟨os, hos, hcs⟩
  unfold getItem
  try with_reducible refine wpAny_holding ?_
  first | refine wpAny_bind (wpAny_pure ?_) | skip
  refine wpAny_bind (wpAny_sequenceKey ht.typeIs (by decide) ?_)
  refine wpAny_bind (wpAny_callSpecial?_slot (name := Str.ofString "__getitem__") ht.typeIs PyProof.Rows.slot_tuple_getitem
    (wpAny_call_entry PyProof.Rows.slot_tuple_getitem ht.typeIs entry_tuple_getitem ?_ (args_tuple_getitem _ _)))
  show wpAny _ _ (Builtin.Tuple.tupleItemsOf (.ref t) >>= _) _ _ s
  refine wpAny_bind (tupleItemsOf_ ht ?_)
  refine wpAny_bind (wpAny_typeOf hTs ?_)
  rw [if_pos (by decide)]
  refine wpAny_bind (sliceApplied_gen hs pl pu ?_)
  have hno : ¬ ((((sIx items.size 0 lo : Nat) : Int) == 0 && (1 : Int) == 1 && (sIx items.size items.size hi - sIx items.size 0 lo) == items.size) = true) := by
    intro q
    rw [Bool.and_eq_true, Bool.and_eq_true] at q
    have q1 : ((sIx items.size 0 lo : Nat) : Int) = 0 := eq_of_beq q.1.1
    have q2 : sIx items.size items.size hi - sIx items.size 0 lo = items.size := eq_of_beq q.2
    exact hw ⟨by omega, by omega⟩
  show wpAny _ _ (if (((sIx items.size 0 lo : Nat) : Int) == 0 && (1 : Int) == 1 && (sIx items.size items.size hi - sIx items.size 0 lo) == items.size) = true then _ else _) _ _ s
  rw [if_neg hno, pick_gen]
  first
    | exact wpAny_bind (m := Builtin.Tuple.tupleExact _) (wpAny_newObj_type (wpAny_pure ⟨_, rfl, wpAny_pure h⟩) htake)
    | exact wpAny_bind (m := Builtin.Tuple.tupleExact _) (wpAny_newObj_type (wpAny_bind (wpAny_pure (wpAny_pure ⟨_, rfl, wpAny_pure h⟩))) htake)
    | exact wpAny_bind (wpAny_bind (m := Builtin.Tuple.tupleExact _) (wpAny_newObj_type (wpAny_pure (wpAny_pure ⟨_, rfl, wpAny_pure h⟩)) htake))
    | exact wpAny_bind (wpAny_bind (m := Builtin.Tuple.tupleExact _) (wpAny_newObj_type (wpAny_pure ⟨_, rfl, wpAny_pure h⟩) htake))
end
end HT
namespace L2
open PySem PySem.Spec PyProof.Rows
noncomputable abbrev TO := St → Hp → (Option Int → Hp → Prop) → Prop
noncomputable def PO (X : Cx) (e : Option Expr) (t : TO) : Prop :=
  ∀ (pins : List (Addr × Obj)) (s : Shared) (σ : St) (H : Hp) (Q : Option Int → Hp → Prop), Inv X pins σ H s → t σ H Q →
    wpAny (model X.prog X.w) X.A (evalPart e X.env) (fun u s' => ∃ o H', Inv X pins σ H' s' ∧ IsPart u o ∧ Q o H') X.xe s
noncomputable def tNoPart : TO := fun _ H Q => Q none H
noncomputable def tPart (t : TE) : TO := fun σ H Q => t σ H fun x H1 => ∃ i, x = .int i ∧ Q (some i) H1
section
variable {X : Cx} {e : Expr} {te : TE} {lo hi : Option Expr} {tl th : TO} {pos p2 : Pos}
theorem po_none : PO X none tNoPart := by
  intro pins s σ H Q I h
  rw [evalPart_none]
  exact wpAny_pure ⟨none, H, I, .none, h⟩
theorem po_some (h : PE X e te) : PO X (some e) (tPart te) := by
  intro pins s σ H Q I hw
  rw [evalPart_some]
  refine thn (h pins s σ H _ I hw) fun u s1 ⟨x, H1, I1, r1, q1⟩ => ?_
  obtain ⟨i, rfl, q⟩ := q1
  obtain ⟨t, rfl⟩ := r1
  exact ⟨some i, H1, I1, .int i t, q⟩
noncomputable def SlR (X : Cx) (r : V → Option Int → Option Int → Hp → VK → Prop) : Prop :=
  ∀ (pins : List (Addr × Obj)) (s : Shared) (σ : St) (H : Hp) (x : V) (v vl vu : Value) (lo hi : Option Int) (sl : Addr) (Q : VK), Inv X pins σ H s → RelV x v → s.heap.IsSliceOf sl vl vu .none → IsPart vl lo → IsPart vu hi → r x lo hi H Q →
    ∃ T id, typeLookup (.type T) "__getitem__" = pure (some (.builtin id)) ∧ s.TypeIs v T ∧ wpAny (model X.prog X.w) X.A (getItem v (.ref sl)) (EP X pins σ Q) X.xe s
noncomputable def tSl (r : V → Option Int → Option Int → Hp → VK → Prop) (te : TE) (tl th : TO) : TE := fun σ H Q => te σ H fun x H1 => tl σ H1 fun l H2 => th σ H2 fun u H3 => r x l u H3 Q
theorem pe_slice {r : V → Option Int → Option Int → Hp → VK → Prop} (hr : SlR X r) (he : PE X e te) (hl : PO X lo tl) (hu : PO X hi th) : PE X (.Subscript e (.Slice lo hi none p2) pos) (tSl r te tl th) := by
  intro pins s σ H Q I h
  refine Subscript_ (thn (he pins s σ H _ I h) fun v s1 ⟨x, H1, I1, r1, q1⟩ => ?_)
  refine wpAny_Slice (thn (hl pins s1 σ H1 _ I1 q1) fun vl s2 ⟨l, H2, I2, pl, q2⟩ => thn (hu pins s2 σ H2 _ I2 q2) fun vu s3 ⟨u, H3, I3, pu, q3⟩ => ?_)
  rw [evalPart_none]
  refine wpAny_pure ?_
  have I4 : Inv X pins σ H3 { s3 with heap := s3.heap.push { cls := .type "slice", data := .fields #[vl, vu, .none] } } := I3.kept (t' := s3.toks) fun b ob q => Heap.get?_push_of_some _ q
  obtain ⟨T, id, hT, ht, hg⟩ := hr pins { s3 with heap := s3.heap.push { cls := .type "slice", data := .fields #[vl, vu, .none] } } σ H3 x v vl vu l u s3.heap.objs.size Q I4 r1 (Heap.IsSliceOf.new ..) pl pu q3
  show wpAny (model X.prog X.w) X.A (subscriptTail e (.Slice lo hi none p2) v (.ref s3.heap.objs.size)) (EP X pins σ Q) X.xe { s3 with heap := s3.heap.push { cls := .type "slice", data := .fields #[vl, vu, .none] } }
  exact tail_any (ops := [.ref s3.heap.objs.size, v]) ht hT hg (by with_unfolding_all rfl)
noncomputable def cutV (xs : List V) (lo hi : Option Int) : List V := (xs.drop (HT.sIx xs.length 0 lo)).take (HT.sIx xs.length xs.length hi - HT.sIx xs.length 0 lo)
theorem cutV_length (xs : List V) (lo hi : Option Int) : (cutV xs lo hi).length ≤ xs.length := by
  unfold cutV
  rw [List.length_take, List.length_drop]
  omega
noncomputable def rSlT (K : PySem.W.Frag) : V → Option Int → Option Int → Hp → VK → Prop := fun x lo hi H Q => ∃ a xs, x = .ref a ∧ SqT K H a xs ∧
  ¬ (HT.sIx xs.length 0 lo = 0 ∧ HT.sIx xs.length xs.length hi = xs.length) ∧ ∀ p, H p = none → Q (.ref p) (upd H p (.tup (cutV xs lo hi)))
theorem sl_tup : SlR X (rSlT X.K) := by
  intro pins s σ H x v vl vu lo hi sl Q I rx hs pl pu h
  obtain ⟨a, xs, rfl, hx, hw, q⟩ := h
  cases rx
  obtain ⟨its, r, ht, hz⟩ := I.tuple hx
  have hlen : its.toArray.size = xs.length := by rw [List.size_toArray]; exact r.length.symm
  refine ⟨"tuple", _, PyProof.Rows.slot_tuple_getitem.lookup, ht.typeIs, ?_⟩
  refine HT.getItem_tuple_cut ht hs pl pu (by rw [hlen]; exact hw) ?_ (by rw [hlen]; exact hz)
  rw [hlen]
  refine ⟨.ref s.heap.objs.size, _, I.laid (t' := s.toks) (o := .tup (cutV xs lo hi)) (fun b ob q => Heap.get?_push_of_some _ q) (Nat.le_refl _) ?_, rfl, q _ (I.hok.fresh (Nat.le_refl _))⟩
  exact ⟨Nat.le_trans (cutV_length xs lo hi) hz, _, (r.drop (HT.sIx xs.length 0 lo)).take (HT.sIx xs.length xs.length hi - HT.sIx xs.length 0 lo), TupN.new _ _⟩
noncomputable def rCatT (K : PySem.W.Frag) : R2 := fun x y H Q => ∃ a b xs ys, x = .ref a ∧ y = .ref b ∧ SqT K H a xs ∧ SqT K H b ys ∧ xs ≠ [] ∧ xs.length + ys.length ≤ sizeLine ∧
  (ys = [] → Q (.ref a) H) ∧ (ys ≠ [] → ∀ p, H p = none → Q (.ref p) (upd H p (.tup (xs ++ ys))))
theorem Vals.nil_iff {xs : List V} {us : List Value} (r : Vals xs us) : us = [] ↔ xs = [] := by
  cases r with
  | nil => simp
  | cons _ _ => simp
theorem op_catT : OpR X (binaryOp .Add) (rCatT X.K) := by
  intro pins s σ H x y v u Q I rx ry h
  obtain ⟨a, b, xs, ys, rfl, rfl, ha, hb, hx, hz, q1, q2⟩ := h
  cases rx
  cases ry
  obtain ⟨its, r1, p1, _⟩ := I.tuple ha
  obtain ⟨its2, r2, p2, _⟩ := I.tuple hb
  refine HT.cat_tup p1 p2 (fun z => hx (r1.nil_iff.mp z)) (fun z => ⟨.ref a, H, I, rfl, q1 (r2.nil_iff.mp z)⟩) (fun z => ?_) (by rw [← r1.length, ← r2.length]; exact hz)
  refine ⟨.ref s.heap.objs.size, _, I.laid (t' := s.toks) (o := .tup (xs ++ ys)) (fun b ob q => Heap.get?_push_of_some _ q) (Nat.le_refl _) ?_, rfl, q2 (fun w => z (r2.nil_iff.mpr w)) _ (I.hok.fresh (Nat.le_refl _))⟩
  exact ⟨by rw [List.length_append]; exact hz, _, r1.append r2, TupN.new _ _⟩
end
end L2
namespace L2
open PySem PySem.Spec PyProof.Rows
noncomputable def ixN (n : Nat) (i : Int) : Option Nat := if 0 ≤ i then (if i < n then some i.toNat else none) else if -(n : Int) ≤ i then some (i + n).toNat else none
noncomputable def atI {α : Type} (xs : List α) (i : Int) : Option α := (ixN xs.length i).bind fun j => xs[j]?
theorem ixN_seq {n : Nat} {i : Int} {j : Nat} (h : ixN n i = some j) : seqIndex? i n = some j ∧ j < n ∧ -(n : Int) ≤ i ∧ i < n := by
  unfold ixN at h
  by_cases h0 : 0 ≤ i
  · rw [if_pos h0] at h
    by_cases h1 : i < n
    · rw [if_pos h1] at h
      have e : i.toNat = j := Option.some.inj h
      exact ⟨by rw [seqIndex_of h0 h1, e], by omega, by omega, h1⟩
    · rw [if_neg h1] at h; cases h
  · rw [if_neg h0] at h
    by_cases h1 : -(n : Int) ≤ i
    · rw [if_pos h1] at h
      have e : (i + n).toNat = j := Option.some.inj h
      exact ⟨by rw [seqIndex_neg (by omega) h1, e], by omega, h1, by omega⟩
    · rw [if_neg h1] at h; cases h
theorem atI_get {α : Type} {xs : List α} {i : Int} {v : α} (h : atI xs i = some v) : ∃ j, seqIndex? i xs.length = some j ∧ xs[j]? = some v ∧ j < xs.length ∧ -(xs.length : Int) ≤ i ∧ i < xs.length := by
  unfold atI at h
  cases e : ixN xs.length i with
  | none => rw [e] at h; cases h
  | some j =>
    rw [e] at h
    obtain ⟨h1, h2, h3, h4⟩ := ixN_seq e
    exact ⟨j, h1, h, h2, h3, h4⟩
theorem atI_nat {α : Type} {xs : List α} {j : Nat} {v : α} (h : xs[j]? = some v) : atI xs (j : Int) = some v := by
  have hj : j < xs.length := (List.getElem?_eq_some_iff.mp h).1
  have e : ixN xs.length (j : Int) = some j := by
    unfold ixN
    rw [if_pos (by omega), if_pos (by omega)]; simp
  unfold atI; rw [e]; exact h
noncomputable def PlainIx (b : Expr) : Prop := ∀ o i, subscripted b false o i = operate [o, i] (getItem o i)
noncomputable def IxR (X : Cx) (r : R2) : Prop :=
  ∀ (value slice : Expr) (pins : List (Addr × Obj)) (s : Shared) (σ : St) (H : Hp) (x y : V) (v u : Value) (Q : VK), Inv X pins σ H s → RelV x v → RelV y u → r x y H Q →
    subscripted slice false v u = operate [v, u] (getItem v u) → wpAny (model X.prog X.w) X.A (subscriptTail value slice v u) (EP X pins σ Q) X.xe s
section
variable {X : Cx} {a b : Expr} {ta tb : TE} {pos : Pos}
theorem pe_ix {r : R2} (hr : IxR X r) (ha : PE X a ta) (hb : PE X b tb) (hs : PlainIx b) : PE X (.Subscript a b pos) (tOp r ta tb) := by
  intro pins s σ H Q I h
  exact Subscript_ (binT ha hb I h fun v u s2 x y H2 I2 rx ry q => hr a b pins s2 σ H2 x y v u Q I2 rx ry q (hs _ _))
noncomputable def rIxL (K : PySem.W.Frag) : R2 := fun x y H Q => ∃ p xs i v, x = .ref p ∧ y = .int i ∧ SqL K H p xs ∧ atI xs i = some v ∧ Q v H
noncomputable def rIxT (K : PySem.W.Frag) : R2 := fun x y H Q => ∃ p xs i v, x = .ref p ∧ y = .int i ∧ SqT K H p xs ∧ atI xs i = some v ∧ Q v H
noncomputable def rIxS : R2 := fun x y H Q => ∃ z i c, x = .str z ∧ y = .int i ∧ z.length ≤ sizeLine ∧ atI z.cps.toList i = some c ∧ Q (.str ⟨#[c]⟩) H
theorem ix_list : IxR X (rIxL X.K) := by
  intro value slice pins s σ H x y v u Q I rx ry h hs
  obtain ⟨p, xs, i, z, rfl, rfl, hq, he, q⟩ := h
  cases rx
  obtain ⟨t, rfl⟩ := ry
  obtain ⟨its, r, pl, hz⟩ := I.list hq
  obtain ⟨j, h1, h2, h3, h4, h5⟩ := atI_get he
  obtain ⟨w, ew, rw'⟩ := r.get h2
  have hl := r.length
  have hn := line63
  have fin : EP X pins σ Q w s := ⟨z, H, I, rw', q⟩
  by_cases h0 : 0 ≤ i
  · have hj : i.toNat = j := by
      rw [seqIndex_of h0 h5] at h1
      exact Option.some.inj h1
    exact item_listR pl.isList h0 (by omega) (by rw [hj]; simpa using ew) fin hs
  · have hj : (i + (its.toArray.size : Int)).toNat = j := by
      rw [seqIndex_neg (by omega) h4] at h1
      rw [List.size_toArray, ← hl]
      exact Option.some.inj h1
    exact subscriptTail_builtinR (x := w) pl.isList.typeIs slot_list_getitem.lookup
      (wpAny_getItem_list_neg (Q := fun r s' => r = w ∧ EP X pins σ Q r s') pl.isList (by omega) (by rw [List.size_toArray] <;> omega) (by omega) (by rw [hj]; simpa using ew) ⟨rfl, fin⟩) hs
theorem ix_tup : IxR X (rIxT X.K) := by
  intro value slice pins s σ H x y v u Q I rx ry h hs
  obtain ⟨p, xs, i, z, rfl, rfl, hq, he, q⟩ := h
  cases rx
  obtain ⟨t, rfl⟩ := ry
  obtain ⟨its, r, pl, hz⟩ := I.tuple hq
  obtain ⟨j, h1, h2, h3, h4, h5⟩ := atI_get he
  obtain ⟨w, ew, rw'⟩ := r.get h2
  have hl := r.length
  have hn := line63
  have fin : EP X pins σ Q w s := ⟨z, H, I, rw', q⟩
  exact subscriptTail_builtinR (x := w) pl.typeIs slot_tuple_getitem.lookup
    (getItem_tuple (j := j) (Q := fun r s' => r = w ∧ EP X pins σ Q r s') pl (by omega) (by omega) (by rw [List.size_toArray, ← hl]; exact h1) (by simpa using ew) ⟨rfl, fin⟩) hs
theorem ix_str : IxR X rIxS := by
  intro value slice pins s σ H x y v u Q I rx ry h hs
  obtain ⟨z, i, c, rfl, rfl, hz, he, q⟩ := h
  obtain ⟨t, rfl⟩ := rx
  obtain ⟨t', rfl⟩ := ry
  obtain ⟨j, h1, h2, h3, h4, h5⟩ := atI_get he
  have hl : z.cps.toList.length = z.length := by simp [Str.length]
  rw [hl] at h1 h4 h5
  have hn := line63
  exact tail_any (typeIs_str s z t) slot_str_getitem.lookup (getItem_str (c := c) (by
    have e1 : decide (i < -(2 ^ 63 : Int)) = false := decide_eq_false (by omega)
    have e2 : decide (i ≥ 2 ^ 63) = false := decide_eq_false (by omega)
    rw [e1, e2, Bool.or_false]) (by rw [h1]; simpa using h2) ⟨.str ⟨#[c]⟩, H, I.tok _, ⟨_, rfl⟩, q⟩) hs
theorem mapSeq_set (its : List Value) (n j : Nat) (u : Value) : Obj.mapSeq (·.setIfInBounds j u) { cls := .type "list", data := .seq its.toArray n } = { cls := .type "list", data := .seq (its.set j u).toArray n } := by
  simp [Obj.mapSeq]
theorem Inv.lst {pins : List (Addr × Obj)} {σ : St} {H : Hp} {s : Shared} {p : Addr} {xs : List V} (I : Inv X pins σ H s) (h : H p = some (.lst xs)) :
    ∃ (its : List Value) (n : Nat), Vals xs its ∧ s.heap.get? p = some { cls := .type "list", data := .seq its.toArray n } ∧ xs.length ≤ sizeLine := by
  obtain ⟨z, its, n, r, e⟩ := I.hok p _ h
  exact ⟨its, n, r, e, z⟩
theorem Inv.lstUpd {pins : List (Addr × Obj)} {σ : St} {H : Hp} {s : Shared} {p : Addr} {xs ys : List V} {its its' : List Value} {n n' : Nat} {f : Obj → Obj} (I : Inv X pins σ H s) (h : H p = some (.lst xs))
    (ho : s.heap.get? p = some { cls := .type "list", data := .seq its.toArray n }) (hf : f { cls := .type "list", data := .seq its.toArray n } = { cls := .type "list", data := .seq its'.toArray n' }) (r : Vals ys its') (hz : ys.length ≤ sizeLine) (t : Nat) :
    Inv X pins σ (upd H p (.lst ys)) { s with heap := s.heap.update p f, toks := t } := by
  have e : (s.heap.update p f).get? p = some { cls := .type "list", data := .seq its'.toArray n' } := by
    rw [Heap.get?_update_self f ho (by rw [hf] <;> rfl), hf]
  refine I.write (x := p) (e := p) (by rw [h]; trivial) (.inl rfl) (fun b u hb q => (Heap.get?_update_other _ _ (Ne.symm hb)).trans q) ⟨_, e⟩ ?_
  exact ⟨hz, its', n', r, e⟩
noncomputable def rSetL : V → V → V → Hp → (Hp → Prop) → Prop := fun o i v H Q => ∃ p xs k j, o = .ref p ∧ i = .int k ∧ H p = some (.lst xs) ∧ ixN xs.length k = some j ∧ Q (upd H p (.lst (xs.set j v)))
theorem set_list : PSet X rSetL := by
  intro pins s σ H o i v ov iv u Q I ro ri rv h
  obtain ⟨p, xs, k, j, rfl, rfl, hp, hj, q⟩ := h
  cases ro
  obtain ⟨t, rfl⟩ := ri
  obtain ⟨its, n, r, ho, hz⟩ := I.lst hp
  obtain ⟨h1, h2, h3, h4⟩ := ixN_seq hj
  have hl := r.length
  have hn := line63
  have I' : Inv X pins σ (upd H p (.lst (xs.set j v))) { s with heap := s.heap.update p (Obj.mapSeq (·.setIfInBounds j u)) } :=
    I.lstUpd hp ho (mapSeq_set its n j u) (r.set rv j) (by rw [List.length_set]; exact hz) s.toks
  by_cases h0 : 0 ≤ k
  · have hk : k.toNat = j := by
      rw [seqIndex_of h0 h4] at h1
      exact Option.some.inj h1
    exact PySem.W.ki_setAt ho h0 (by omega) (by rw [List.size_toArray, ← hl]; exact h4) (by rw [hk]; exact ⟨_, I', q⟩)
  · have hk : (k + (its.toArray.size : Int)).toNat = j := by
      rw [seqIndex_neg (by omega) h3] at h1
      rw [List.size_toArray, ← hl]
      exact Option.some.inj h1
    exact PySem.W.ki_setBack ho (by omega) (by rw [List.size_toArray, ← hl]; exact h3) (by omega) (by rw [hk]; exact ⟨_, I', q⟩)
noncomputable def flatV : V → Bool
  | .non => true
  | .bl _ => true
  | .int _ => true
  | .str _ => true
  | _ => false
noncomputable def eqV : V → V → Bool
  | .non, .non => true
  | .bl a, .bl b => a == b
  | .bl a, .int b => (if a then 1 else 0) == b
  | .int a, .bl b => a == (if b then 1 else 0)
  | .int a, .int b => a == b
  | .str a, .str b => a == b
  | _, _ => false
theorem eqAt_V {A : Around} {s : Shared} {y x : V} {u v : Value} (ry : RelV y u) (rx : RelV x v) (fy : flatV y = true) (fx : flatV x = true) : SeqAt.EqAt A s u v (eqV y x) := by
  cases y with
  | non =>
    cases ry
    cases x with
    | non => cases rx; exact SeqAt.EqAt.same _
    | bl b => cases rx; exact SeqAt.EqAt.none_bool b
    | int b => obtain ⟨t, rfl⟩ := rx; exact SeqAt.EqAt.none_int b t
    | str b => obtain ⟨t, rfl⟩ := rx; exact SeqAt.EqAt.none_str b t
    | _ => exact absurd (show false = true from fx) Bool.false_ne_true
  | bl a =>
    cases ry
    cases x with
    | non => cases rx; exact SeqAt.EqAt.bool_none a
    | bl b => cases rx; exact SeqAt.EqAt.bool_bool a b
    | int b => obtain ⟨t, rfl⟩ := rx; exact SeqAt.EqAt.bool_int a b t
    | str b => obtain ⟨t, rfl⟩ := rx; exact SeqAt.EqAt.bool_str a b t
    | _ => exact absurd (show false = true from fx) Bool.false_ne_true
  | int a =>
    obtain ⟨t', rfl⟩ := ry
    cases x with
    | non => cases rx; exact SeqAt.EqAt.int_none a t'
    | bl b => cases rx; exact SeqAt.EqAt.int_bool a t' b
    | int b => obtain ⟨t, rfl⟩ := rx; exact SeqAt.EqAt.int_int a t' b t
    | str b => obtain ⟨t, rfl⟩ := rx; exact SeqAt.EqAt.int_str a t' b t
    | _ => exact absurd (show false = true from fx) Bool.false_ne_true
  | str a =>
    obtain ⟨t', rfl⟩ := ry
    cases x with
    | non => cases rx; exact SeqAt.EqAt.str_none a t'
    | bl b => cases rx; exact SeqAt.EqAt.str_bool a t' b
    | int b => obtain ⟨t, rfl⟩ := rx; exact SeqAt.EqAt.str_int a t' b t
    | str b => obtain ⟨t, rfl⟩ := rx; exact SeqAt.EqAt.str_str a t' b t
    | _ => exact absurd (show false = true from fx) Bool.false_ne_true
  | _ => exact absurd (show false = true from fy) Bool.false_ne_true
noncomputable def eqU (x : V) (u : Value) : Bool := match u with
  | .none => eqV .non x
  | .bool b => eqV (.bl b) x
  | .int i _ => eqV (.int i) x
  | .str z _ => eqV (.str z) x
  | _ => false
theorem eqU_of {x y : V} {u : Value} (r : RelV y u) (f : flatV y = true) : eqU x u = eqV y x := by
  cases y with
  | non => cases r; rfl
  | bl b => cases r; rfl
  | int i => obtain ⟨t, rfl⟩ := r; rfl
  | str z => obtain ⟨t, rfl⟩ := r; rfl
  | _ => exact absurd (show false = true from f) Bool.false_ne_true
theorem any_eqU {x : V} : ∀ {xs : List V} {us : List Value}, Vals xs us → xs.all flatV = true → us.any (eqU x) = xs.any fun y => eqV y x
  | _, _, .nil, _ => rfl
  | y :: xs, u :: us, .cons r t, f => by
    rw [List.all_cons, Bool.and_eq_true] at f
    rw [List.any_cons, List.any_cons, eqU_of r f.1, any_eqU t f.2]
theorem mem_eqAt {A : Around} {s : Shared} {x : V} {v : Value} (rx : RelV x v) (fx : flatV x = true) : ∀ {xs : List V} {us : List Value}, Vals xs us → xs.all flatV = true → ∀ u ∈ us, SeqAt.EqAt A s u v (eqU x u)
  | _, _, .nil, _ => fun u hu => by cases hu
  | y :: xs, u :: us, .cons r t, f => fun u' hu => by
    rw [List.all_cons, Bool.and_eq_true] at f
    rcases List.mem_cons.mp hu with rfl | hu
    · rw [eqU_of r f.1]; exact eqAt_V r rx f.1 fx
    · exact mem_eqAt rx fx t f.2 u' hu
noncomputable def inV (x : V) (xs : List V) : Bool := xs.any fun y => eqV y x
noncomputable def rIn (K : PySem.W.Frag) (neg : Bool) : R2 := fun x y H Q => ∃ p xs, y = .ref p ∧ (SqL K H p xs ∨ SqT K H p xs) ∧ flatV x = true ∧ xs.all flatV = true ∧ Q (.bl (if neg then !inV x xs else inV x xs)) H
theorem op_in_seq : OpR X (compareOp .In) (rIn X.K false) := by
  intro pins s σ H x y v u Q I rx ry h
  obtain ⟨p, xs, rfl, hq, fx, fs, q⟩ := h
  cases ry
  rcases hq with hq | hq
  · obtain ⟨its, r, pl, hz⟩ := I.list hq
    refine SeqAt.in_listAt (eqU x) pl.isList (fun w hw => mem_eqAt rx fx r fs w (by simpa using hw)) ⟨.bl _, H, I, rfl, ?_⟩
    rw [show its.toArray.any (eqU x) = its.any (eqU x) by simp, any_eqU r fs]
    exact q
  · obtain ⟨its, r, pl, hz⟩ := I.tuple hq
    refine SeqAt.in_tupleAt (eqU x) pl (fun w hw => mem_eqAt rx fx r fs w (by simpa using hw)) ⟨.bl _, H, I, rfl, ?_⟩
    rw [show its.toArray.any (eqU x) = its.any (eqU x) by simp, any_eqU r fs]
    exact q
theorem call_list_of : CallR X (.type "list") (fun xs H Q => ∃ p ys, xs = [.ref p] ∧ (SqL X.K H p ys ∨ SqT X.K H p ys) ∧ ∀ l, H l = none → Q (.ref l) (upd H l (.lst ys))) := by
  intro pins s σ H xs us Q I r h
  obtain ⟨p, ys, rfl, hq, q⟩ := h
  obtain ⟨u, rfl, rx⟩ := vals1 r
  cases rx
  have fin : ∀ (its : List Value), Vals ys its → ys.length ≤ sizeLine → ∀ (h' : Heap) (c' : Nat), (∀ b o', s.heap.get? b = some o' → h'.get? b = some o') →
      h'.get? s.heap.objs.size = some { cls := .type "list", dict := none, data := .seq its.toArray c', slots := #[] } → EP X pins σ Q (.ref s.heap.objs.size) { s with heap := h' } := fun its r' hz h' c' kp e =>
    ⟨.ref s.heap.objs.size, _, I.laid (t' := s.toks) kp (Nat.le_refl _) (show ObjOk X.prog X.w _ h' _ (.lst ys) from ⟨hz, its, c', r', e⟩), rfl, q _ (I.hok.fresh (Nat.le_refl _))⟩
  rcases hq with hq | hq
  · obtain ⟨its, r', pl, hz⟩ := I.list hq
    have hlen := r'.length
    obtain ⟨o, ho, hc, n, hd⟩ := pl.isList
    exact call_list_seq p (.inl rfl) ho hc hd (fun h' c' kp e => fin its r' hz h' c' kp e) (by simp only [List.size_toArray] <;> omega)
  · obtain ⟨its, r', pl, hz⟩ := I.tuple hq
    have hlen := r'.length
    obtain ⟨o, ho, hc, n, hd⟩ := pl
    exact call_list_seq p (.inr rfl) ho hc hd (fun h' c' kp e => fin its r' hz h' c' kp e) (by simp only [List.size_toArray] <;> omega)
theorem call_tuple_of : CallR X (.type "tuple") (fun xs H Q => ∃ p ys, xs = [.ref p] ∧ ((SqL X.K H p ys ∧ ∀ l, H l = none → Q (.ref l) (upd H l (.tup ys))) ∨ (SqT X.K H p ys ∧ Q (.ref p) H))) := by
  intro pins s σ H xs us Q I r h
  obtain ⟨p, ys, rfl, h⟩ := h
  obtain ⟨u, rfl, rx⟩ := vals1 r
  cases rx
  rcases h with ⟨hq, q⟩ | ⟨hq, q⟩
  · obtain ⟨its, r', pl, hz⟩ := I.list hq
    have hlen := r'.length
    refine call_tuple_list pl.isList (fun h' kp => ?_) (by simp only [List.size_toArray] <;> omega)
    have I1 : Inv X pins σ H { s with heap := h' } := I.kept (t' := s.toks) kp
    have I2 : Inv X pins σ (upd H h'.objs.size (.tup ys)) { s with heap := h'.push { cls := .type "tuple", data := .seq its.toArray } } :=
      I1.laid (t' := s.toks) (fun b o e => Heap.get?_push_of_some _ e) (Nat.le_refl _) (show ObjOk X.prog X.w _ _ _ (.tup ys) from ⟨hz, its, r', TupN.new _ _⟩)
    exact ⟨.ref h'.objs.size, _, I2, rfl, q _ (I1.hok.fresh (Nat.le_refl _))⟩
  · obtain ⟨its, r', pl, hz⟩ := I.tuple hq
    exact call_tuple_same pl ⟨.ref p, H, I, rfl, q⟩
variable {o e : Expr} {es : List Expr} {to : TE} {t : TA} {name : Str} {apos cpos : Pos} {T id : String} {r : V → List V → Hp → VK → Prop}
end
end L2
namespace L2
open PySem PySem.Spec PyProof.Rows
noncomputable def MtM (X : Cx) (id : String) (r : V → List V → Hp → VK → Prop) : Prop :=
  ∀ (pins : List (Addr × Obj)) (s : Shared) (σ : St) (H : Hp) (x : V) (xs : List V) (v : Value) (us : List Value) (Q : VK), Inv X pins σ H s → RelV x v → Vals xs us → r x xs H Q →
    wpAny (model X.prog X.w) X.A (call (.builtin id) (v :: us)) (EP X pins σ Q) X.xe s
theorem Vals.one : ∀ {x : V} {us : List Value}, Vals [x] us → ∃ u, us = [u] ∧ RelV x u
  | _, _, .cons r .nil => ⟨_, rfl, r⟩
section
variable {X : Cx} {pins : List (Addr × Obj)} {σ : St} {H : Hp} {s : Shared} {l b : Addr} {xs ys zs : List V}
theorem Inv.lset {its its' : List Value} {n : Nat} {f : Array Value → Array Value} {t' : Nat} (I : Inv X pins σ H s) (hH : H l = some (.lst xs))
    (e : s.heap.get? l = some { cls := .type "list", data := .seq its.toArray n }) (hf : f its.toArray = its'.toArray) (hv : Vals ys its') (hz : ys.length ≤ sizeLine) :
    Inv X pins σ (upd H l (.lst ys)) { s with heap := s.heap.update l (Obj.mapSeq f), toks := t' } := by
  have q := PySem.IsL.update e f
  rw [hf] at q
  refine I.write (x := l) (e := l) (by rw [hH]; exact trivial) (.inl rfl) (fun b' u hb hu => (Heap.get?_update_other s.heap (Obj.mapSeq f) (Ne.symm hb)).trans hu) ⟨_, q⟩ ?_
  exact ⟨hz, its', _, hv, q⟩
theorem Inv.lnew {its : List Value} {t' : Nat} (I : Inv X pins σ H s) (hv : Vals ys its) (hz : ys.length ≤ sizeLine) :
    Inv X pins σ (upd H s.heap.objs.size (.lst ys)) { s with heap := s.heap.push { cls := .type "list", data := .seq its.toArray }, toks := t' } :=
  I.laid (fun _ _ q => Heap.get?_push_of_some _ q) (Nat.le_refl _) ⟨hz, its, 0, hv, Heap.get?_push_size _ rfl⟩
theorem Inv.fresh (I : Inv X pins σ H s) : H s.heap.objs.size = none := I.hok.fresh (Nat.le_refl _)
theorem Inv.lstM (I : Inv X pins σ H s) (hH : H l = some (.lst xs)) : xs.length ≤ sizeLine ∧ ∃ (its : List Value) (n : Nat), Vals xs its ∧ xs.length = its.length ∧ s.heap.get? l = some { cls := .type "list", data := .seq its.toArray n } := by
  obtain ⟨z, its, n, r, e⟩ := I.hok l _ hH
  exact ⟨z, its, n, r, r.length, e⟩
end
section
variable {X : Cx}
noncomputable def rAppend : V → List V → Hp → VK → Prop := fun x vs H Q => ∃ l xs y, x = .ref l ∧ vs = [y] ∧ H l = some (.lst xs) ∧ xs.length < sizeLine ∧ Q .non (upd H l (.lst (xs ++ [y])))
theorem mt_append : MtM X "list.append" rAppend := by
  intro pins s σ H x vs v us Q I rx rv h
  obtain ⟨l, xs, y, rfl, rfl, hH, hz, q⟩ := h
  cases rx
  obtain ⟨u, rfl, ru⟩ := rv.one
  obtain ⟨z, its, n, r, hl, e⟩ := I.lstM hH
  refine call_meets F.slot_list_append ⟨_, e, rfl⟩ F.entry_list_append (F.args_list_append_2 _ _) (PySem.list_append l its.toArray n u (by rw [List.size_toArray]; omega)) ⟨e, ?_⟩
  refine ⟨.non, _, I.lset (its' := its ++ [u]) hH e (by simp) (r.append (.cons ru .nil)) ?_, rfl, q⟩
  rw [List.length_append, List.length_singleton]
  omega
noncomputable def rCat : R2 := fun x y H Q => ∃ l b xs zs, x = .ref l ∧ y = .ref b ∧ H l = some (.lst xs) ∧ H b = some (.lst zs) ∧ xs.length + zs.length ≤ sizeLine ∧ ∀ p, H p = none → Q (.ref p) (upd H p (.lst (xs ++ zs)))
theorem op_cat : OpR X (binaryOp .Add) rCat := by
  intro pins s σ H x y v u Q I rx ry h
  obtain ⟨l, b, xs, zs, rfl, rfl, hH, hB, hz, q⟩ := h
  cases rx
  cases ry
  obtain ⟨z, its, n, r, hl, e⟩ := I.lstM hH
  obtain ⟨z2, its2, n2, r2, hl2, e2⟩ := I.lstM hB
  refine PySem.P.add_list e e2 ?_ (by rw [List.size_toArray, List.size_toArray]; omega)
  have ea : its.toArray ++ its2.toArray = (its ++ its2).toArray := by simp
  rw [ea]
  exact ⟨.ref _, _, I.lnew (t' := s.toks) (r.append r2) (by rw [List.length_append]; omega), rfl, q _ I.fresh⟩
end
end L2
namespace L2
open PySem PySem.Spec PyProof.Rows
section
variable {κ : Type} [DecidableEq κ]
noncomputable def valV (kvs : List (κ × V)) (k : κ) : Option V := (kvs.find? fun kv => decide (kv.1 = k)).map (·.2)
noncomputable def putK (kvs : List (κ × V)) (k : κ) (v : V) : List (κ × V) :=
  if (kvs.any fun kv => decide (kv.1 = k)) = true then kvs.map (fun kv => if kv.1 = k then (kv.1, v) else kv) else kvs ++ [(k, v)]
theorem valV_nil {k : κ} : valV ([] : List (κ × V)) k = none := rfl
theorem valV_pos {p : κ × V} {r : List (κ × V)} {k : κ} (e : p.1 = k) : valV (p :: r) k = some p.2 := by simp [valV, List.find?_cons, e]
theorem valV_neg {p : κ × V} {r : List (κ × V)} {k : κ} (e : ¬ p.1 = k) : valV (p :: r) k = valV r k := by simp [valV, List.find?_cons, e]
theorem valV_any (k : κ) : ∀ kvs : List (κ × V), (kvs.any fun kv => decide (kv.1 = k)) = (valV kvs k).isSome
  | [] => rfl
  | p :: r => by
    rw [List.any_cons]
    by_cases e : p.1 = k
    · simp only [valV_pos e, decide_eq_true e, Bool.true_or, Option.isSome_some]
    · rw [valV_neg e, decide_eq_false e, Bool.false_or]; exact valV_any k r
theorem valV_map (k j : κ) (y : V) : ∀ kvs : List (κ × V), valV (kvs.map fun kv => if kv.1 = k then (kv.1, y) else kv) j = (valV kvs j).map fun x => if j = k then y else x
  | [] => rfl
  | p :: r => by
    have ih := valV_map k j y r
    rw [List.map_cons]
    by_cases h : p.1 = k
    · rw [if_pos h]
      by_cases e : p.1 = j
      · rw [valV_pos (p := (p.1, y)) e, valV_pos e, Option.map_some, if_pos (e.symm.trans h)]
      · rw [valV_neg (p := (p.1, y)) e, valV_neg e, ih]
    · rw [if_neg h]
      by_cases e : p.1 = j
      · rw [valV_pos (p := p) e, valV_pos e, Option.map_some, if_neg (fun z => h (e.trans z))]
      · rw [valV_neg (p := p) e, valV_neg e, ih]
theorem valV_snoc (k j : κ) (y : V) : ∀ kvs : List (κ × V), valV kvs k = none → valV (kvs ++ [(k, y)]) j = if j = k then some y else valV kvs j
  | [], _ => by
    by_cases e : k = j
    · rw [if_pos e.symm]; exact valV_pos (p := (k, y)) e
    · rw [if_neg (fun z => e z.symm)]; exact valV_neg (p := (k, y)) e
  | p :: r, hn => by
    rw [List.cons_append]
    have hk : ¬ p.1 = k := fun z => by rw [valV_pos z] at hn; cases hn
    rw [valV_neg hk] at hn
    have ih := valV_snoc k j y r hn
    by_cases e : p.1 = j
    · rw [valV_pos e, valV_pos e, if_neg (fun z => hk (e.trans z))]
    · rw [valV_neg e, valV_neg e, ih]
theorem valV_put (kvs : List (κ × V)) (k j : κ) (y : V) : valV (putK kvs k y) j = if j = k then some y else valV kvs j := by
  unfold putK
  by_cases a : (kvs.any fun kv => decide (kv.1 = k)) = true
  · rw [if_pos a, valV_map]
    rw [valV_any] at a
    by_cases e : j = k
    · obtain ⟨x, hx⟩ := Option.isSome_iff_exists.mp a
      rw [if_pos e, e, hx, Option.map_some, if_pos rfl]
    · rw [if_neg e]
      cases valV kvs j with
      | none => rfl
      | some x => rw [Option.map_some, if_neg e]
  · rw [if_neg a]
    refine valV_snoc k j y kvs ?_
    rw [valV_any] at a
    cases q : valV kvs k with
    | none => rfl
    | some x => rw [q] at a; exact (a rfl).elim
theorem length_putK (kvs : List (κ × V)) (k : κ) (v : V) : (putK kvs k v).length ≤ kvs.length + 1 := by
  unfold putK
  split
  · rw [List.length_map]; omega
  · rw [List.length_append, List.length_cons, List.length_nil]; omega
theorem putK_new {kvs : List (κ × V)} {k : κ} (v : V) (h : valV kvs k = none) : putK kvs k v = kvs ++ [(k, v)] := by
  unfold putK
  rw [valV_any, h]
  exact if_neg (by decide)
theorem RelO.isSome_eq {o : Option V} {u : Option Value} (r : RelO o u) : o.isSome = u.isSome := by
  cases o with
  | none => cases u with
    | none => rfl
    | some _ => exact (show False from r).elim
  | some _ => cases u with
    | none => exact (show False from r).elim
    | some _ => rfl
theorem KV.val {kvs : List (κ × V)} {vs : List (κ × Value)} (r : KV kvs vs) (k : κ) : RelO (valV kvs k) (valueAt vs k) := by
  unfold KV at r
  induction r with
  | nil => exact True.intro
  | @cons p q ps qs h t ih =>
    obtain ⟨h1, h2⟩ := h
    by_cases e : p.1 = k
    · have e' : q.1 = k := h1.symm.trans e
      have b : valueAt (q :: qs) k = some q.2 := by simp [valueAt, List.find?_cons, e']
      rw [valV_pos e, b]; exact h2
    · have e' : ¬ q.1 = k := fun z => e (h1.trans z)
      have b : valueAt (q :: qs) k = valueAt qs k := by simp [valueAt, List.find?_cons, e']
      rw [valV_neg e, b]; exact ih
theorem KV.any {kvs : List (κ × V)} {vs : List (κ × Value)} (r : KV kvs vs) (k : κ) : (kvs.any fun kv => decide (kv.1 = k)) = vs.any fun kv => decide (kv.1 = k) := by
  unfold KV at r
  induction r with
  | nil => rfl
  | cons h t ih => rw [List.any_cons, List.any_cons, ih, h.1]
theorem KV.repl {kvs : List (κ × V)} {vs : List (κ × Value)} (r : KV kvs vs) (k : κ) {y : V} {u : Value} (ry : RelV y u) :
    KV (kvs.map fun kv => if kv.1 = k then (kv.1, y) else kv) (vs.map fun kv => if kv.1 = k then (kv.1, u) else kv) := by
  unfold KV at r ⊢
  induction r with
  | nil => exact .nil
  | @cons p q ps qs h t ih =>
    rw [List.map_cons, List.map_cons]
    refine .cons ?_ ih
    obtain ⟨h1, h2⟩ := h
    by_cases e : p.1 = k
    · rw [if_pos e, if_pos (h1.symm.trans e)]; exact ⟨h1, ry⟩
    · rw [if_neg e, if_neg (fun z => e (h1.trans z))]; exact ⟨h1, h2⟩
theorem KV.put {kvs : List (κ × V)} {vs : List (κ × Value)} (r : KV kvs vs) (k : κ) {y : V} {u : Value} (ry : RelV y u) : KV (putK kvs k y) (stored vs k u) := by
  unfold putK stored
  rw [r.any k]
  by_cases e : (vs.any fun kv => decide (kv.1 = k)) = true
  · rw [if_pos e, if_pos e]; exact r.repl k ry
  · rw [if_neg e, if_neg e]; exact Paired.snoc r ⟨rfl, ry⟩
theorem KV.length {kvs : List (κ × V)} {vs : List (κ × Value)} (r : KV kvs vs) : kvs.length = vs.length := Paired.length r
end
theorem kV_is {P : Program} {w : World} {k : Key} {u : Value} (r : RelV (kV k) u) : (mixKind P w).is k u = true := by
  cases k with
  | inl i => obtain ⟨t, e⟩ := (show ∃ t, u = Value.int i t from r); subst e; exact mixKind_int P w i t
  | inr x => obtain ⟨t, e⟩ := (show ∃ t, u = Value.str x t from r); subst e; exact mixKind_str P w x t
theorem items_are {P : Program} {w : World} : ∀ {ks : List Key} {us : List Value}, Vals (ks.map kV) us → ItemsAre (mixKind P w) ks us
  | [], _, r => by rw [List.map_nil] at r; cases r; exact .nil
  | k :: ks, _, r => by
    rw [List.map_cons] at r
    cases r with
    | cons h t => exact .cons (kV_is h) (items_are t)
noncomputable abbrev KT (H : Hp) : List (List Key × V) → List (List Key × Addr × Value) → Prop := Paired fun p q => p.1 = q.1 ∧ H q.2.1 = some (.tup (p.1.map kV)) ∧ RelV p.2 q.2.2
theorem KT.val {H : Hp} {kvs : List (List Key × V)} {xs : List (List Key × Addr × Value)} (r : KT H kvs xs) (k : List Key) : RelO (valV kvs k) ((atKey xs k).map (·.2)) := by
  induction r with
  | nil => exact True.intro
  | @cons p q ps qs h t ih =>
    obtain ⟨h1, _, h2⟩ := h
    by_cases e : p.1 = k
    · have e' : q.1 = k := h1.symm.trans e
      have b : atKey (q :: qs) k = some q.2 := by simp [atKey, List.find?_cons, e']
      rw [valV_pos e, b]; exact h2
    · have e' : ¬ q.1 = k := fun z => e (h1.trans z)
      have b : atKey (q :: qs) k = atKey qs k := by simp [atKey, List.find?_cons, e']
      rw [valV_neg e, b]; exact ih
theorem KT.repl {H : Hp} {kvs : List (List Key × V)} {xs : List (List Key × Addr × Value)} (r : KT H kvs xs) (k : List Key) {y : V} {u : Value} (ry : RelV y u) :
    KT H (kvs.map fun kv => if kv.1 = k then (kv.1, y) else kv) (xs.map (putAt k u)) := by
  induction r with
  | nil => exact .nil
  | @cons p q ps qs h t ih =>
    rw [List.map_cons, List.map_cons]
    refine .cons ?_ ih
    obtain ⟨h1, h2, h3⟩ := h
    unfold putAt
    by_cases e : p.1 = k
    · rw [if_pos e, if_pos (h1.symm.trans e)]; exact ⟨h1, h2, ry⟩
    · rw [if_neg e, if_neg (fun z => e (h1.trans z))]; exact ⟨h1, h2, h3⟩
theorem KT.put {H : Hp} {kvs : List (List Key × V)} {xs : List (List Key × Addr × Value)} (r : KT H kvs xs) (k : List Key) {b : Addr} {y : V} {u : Value} (hb : H b = some (.tup (k.map kV))) (ry : RelV y u) :
    KT H (putK kvs k y) (storedH xs k b u) := by
  have e : (kvs.any fun kv => decide (kv.1 = k)) = (atKey xs k).isSome := by
    rw [valV_any, (r.val k).isSome_eq, Option.isSome_map]
  unfold putK storedH
  rw [e]
  by_cases q : (atKey xs k).isSome = true
  · rw [if_pos q, if_pos q]; exact r.repl k ry
  · rw [if_neg q, if_neg q]; exact Paired.snoc r ⟨rfl, hb, ry⟩
theorem KT.keeps {H H' : Hp} {kvs : List (List Key × V)} {xs : List (List Key × Addr × Value)} (r : KT H kvs xs) (ht : ∀ b ys, H b = some (.tup ys) → H' b = some (.tup ys)) : KT H' kvs xs :=
  Paired.mapP r fun _ _ z => ⟨z.1, ht _ _ z.2.1, z.2.2⟩
section
variable {P : Program} {w : World} {H : Hp} {h : Heap} {a : Addr}
theorem rd_of {u : HO} (ok : HOk P w H h) (e : Rd H a u) : ObjOk P w H h a u := e.ok ok
theorem dk_rd {kvs : List (Key × V)} (ok : HOk P w H h) (e : Rd H a (.dK kvs)) : kvs.length ≤ sizeLine ∧ (a == sysModules) = false ∧ ∃ vs, KV kvs vs ∧ h.DictOf (mixKind P w) a vs :=
  show ObjOk P w H h a (.dK kvs) from rd_of ok e
theorem dk_of {kvs : List (Key × V)} (ok : HOk P w H h) (e : H a = some (.dK kvs)) : kvs.length ≤ sizeLine ∧ (a == sysModules) = false ∧ ∃ vs, KV kvs vs ∧ h.DictOf (mixKind P w) a vs := dk_rd ok (.inl e)
theorem key_of {ks : List Key} (ok : HOk P w H h) (e : H a = some (.tup (ks.map kV))) : (tupleKind (mixKind P w)).is h ks a := by
  obtain ⟨_, its, r, o, h1, h2, n, h3, _⟩ := (show ObjOk P w H h a (.tup (ks.map kV)) from ok a _ e)
  exact ⟨o, its.toArray, n, h1, h2, h3, by simpa using items_are r⟩
theorem dt_rd {kvs : List (List Key × V)} (ok : HOk P w H h) (e : Rd H a (.dT kvs)) : kvs.length ≤ sizeLine ∧ (a == sysModules) = false ∧
    ∃ xs, KT H kvs xs ∧ h.DictOfH (tupleKind (mixKind P w)) a xs := by
  obtain ⟨z, y, xs, r, o, es, ep, h1, h2, h3, h4, h5⟩ := (show ObjOk P w H h a (.dT kvs) from rd_of ok e)
  refine ⟨z, y, xs, r, o, es, ep, h1, h2, h3, h4, fun x hx => ?_, h5⟩
  have all : ∀ {l : List (List Key × V)} {m : List (List Key × Addr × Value)}, KT H l m → ∀ x ∈ m, (tupleKind (mixKind P w)).is h x.1 x.2.1 := by
    intro l m q
    induction q with
    | nil => intro x hx; exact nomatch hx
    | @cons p q ps qs hq t ih =>
      intro x hx
      rcases List.mem_cons.mp hx with e | hx
      · subst e
        exact key_of ok (by rw [← hq.1]; exact hq.2.1)
      · exact ih x hx
  exact all r x hx
theorem dt_of {kvs : List (List Key × V)} (ok : HOk P w H h) (e : H a = some (.dT kvs)) : kvs.length ≤ sizeLine ∧ (a == sysModules) = false ∧
    ∃ xs, KT H kvs xs ∧ h.DictOfH (tupleKind (mixKind P w)) a xs := dt_rd ok (.inl e)
end
noncomputable def DGet (H : Hp) (a : Addr) (y : V) (r : Option V) : Prop :=
  (∃ kvs k, Rd H a (.dK kvs) ∧ y = kV k ∧ r = valV kvs k) ∨ ∃ kvs k b, Rd H a (.dT kvs) ∧ y = .ref b ∧ H b = some (.tup (k.map kV)) ∧ r = valV kvs k
noncomputable def DPut (H : Hp) (a : Addr) (y v : V) (H' : Hp) : Prop :=
  (∃ kvs k, H a = some (.dK kvs) ∧ y = kV k ∧ kvs.length < sizeLine ∧ H' = upd H a (.dK (putK kvs k v))) ∨
  ∃ kvs k b, H a = some (.dT kvs) ∧ y = .ref b ∧ H b = some (.tup (k.map kV)) ∧ kvs.length < sizeLine ∧ H' = upd H a (.dT (putK kvs k v))
theorem DGet.k {H : Hp} {a : Addr} {kvs : List (Key × V)} {k : Key} (e : H a = some (.dK kvs)) : DGet H a (kV k) (valV kvs k) := .inl ⟨kvs, k, .inl e, rfl, rfl⟩
theorem DPut.k {H : Hp} {a : Addr} {kvs : List (Key × V)} {k : Key} {v : V} (e : H a = some (.dK kvs)) (hl : kvs.length < sizeLine) : DPut H a (kV k) v (upd H a (.dK (putK kvs k v))) := .inl ⟨kvs, k, e, rfl, hl, rfl⟩
theorem DPut.t {H : Hp} {a b : Addr} {kvs : List (List Key × V)} {k : List Key} {v : V} (e : H a = some (.dT kvs)) (eb : H b = some (.tup (k.map kV))) (hl : kvs.length < sizeLine) :
    DPut H a (.ref b) v (upd H a (.dT (putK kvs k v))) := .inr ⟨kvs, k, b, e, rfl, eb, hl, rfl⟩
section
variable {X : Cx} {pins : List (Addr × Obj)} {σ : St} {H : Hp} {s : Shared} {a : Addr} {y v : V} {u r : Value} {o : Option V} {A : Around} {E : Value → Shared → Prop}
theorem Inv.big (I : Inv X pins σ H s) : sysModules < s.heap.objs.size := by
  have h : mainGlobals < s.heap.objs.size := (I.mod.glob.keeps I.bk).lt
  exact Nat.lt_trans (by decide) h
theorem d_getItem {Q : Value → Shared → Prop} (hu : A.units + 1 < cLine) (I : Inv X pins σ H s) (g : DGet H a y (some v)) (ry : RelV y u) (h : ∀ w' s', Inv X pins σ H s' → RelV v w' → Q w' s') :
    wpAny (model X.prog X.w) A (getItem (.ref a) u) Q E s := by
  rcases g with ⟨kvs, k, e, ey, l⟩ | ⟨kvs, k, b, e, ey, eb, l⟩
  · subst ey
    obtain ⟨z, hd, vs, rel, dd⟩ := dk_rd I.hok e
    obtain ⟨w', hw, rw'⟩ := RelO.some_of (v := v) (o := valueAt vs k) (by rw [l]; exact rel.val k)
    exact wpAny_getItem_of (kV_is ry) dd.mapOf hw (h w' _ (I.tok _) rw')
  · subst ey
    cases (show u = Value.ref b from ry)
    obtain ⟨z, hd, xs, rel, dd⟩ := dt_rd I.hok e
    obtain ⟨w', hw, rw'⟩ := RelO.some_of (v := v) (o := (atKey xs k).map (·.2)) (by rw [l]; exact rel.val k)
    obtain ⟨p, hp, hp2⟩ := Option.map_eq_some_iff.mp hw
    refine wpAny_getItem_heap (tupleKind_room_in1 hu) (key_of I.hok eb) dd hp ?_
    rw [hp2]
    exact h w' _ (I.tok _) rw'
theorem d_in {Q : Value → Shared → Prop} (hu : A.units + 1 < cLine) (I : Inv X pins σ H s) (g : DGet H a y o) (ry : RelV y u) (h : ∀ s', Inv X pins σ H s' → Q (.bool o.isSome) s') :
    wpAny (model X.prog X.w) A (compareOp .In u (.ref a)) Q E s := by
  rcases g with ⟨kvs, k, e, ey, l⟩ | ⟨kvs, k, b, e, ey, eb, l⟩
  · subst ey
    obtain ⟨z, hd, vs, rel, dd⟩ := dk_rd I.hok e
    refine wpAny_in_of (kV_is ry) hd dd.mapOf ?_
    rw [← (rel.val k).isSome_eq, ← l]
    exact h _ (I.tok _)
  · subst ey
    cases (show u = Value.ref b from ry)
    obtain ⟨z, hd, xs, rel, dd⟩ := dt_rd I.hok e
    refine wpAny_in_heap (tupleKind_room_in1 hu) (key_of I.hok eb) hd dd ?_
    have q := (rel.val k).isSome_eq
    rw [Option.isSome_map] at q
    rw [← q, ← l]
    exact h _ (I.tok _)
theorem d_write {h' : Heap} {t' : Nat} {ob : HO} (I : Inv X pins σ H s) (mu : Mut (H a)) (hs : Heap.SameBut a s.heap h') (he : ∃ q, h'.get? a = some q) (new : ObjOk X.prog X.w (upd H a ob) h' a ob) :
    Inv X pins σ (upd H a ob) { s with heap := h', toks := t' } :=
  I.write (x := a) (e := a) mu (.inl rfl) (fun b q hb z => (hs.2 b hb).trans z) he new
theorem dk_new {P : Program} {w : World} {H' : Hp} {h' : Heap} {kvs : List (Key × V)} {vs : List (Key × Value)} (z : kvs.length ≤ sizeLine) (hd : (a == sysModules) = false) (rel : KV kvs vs) (dd : h'.DictOf (mixKind P w) a vs) :
    ObjOk P w H' h' a (.dK kvs) := ⟨z, hd, vs, rel, dd⟩
theorem d_setItem {H' : Hp} {Q : Unit → Shared → Prop} (hu : A.units + 1 < cLine) (I : Inv X pins σ H s) (g : DPut H a y v H') (ry : RelV y u) (rv : RelV v r) (h : ∀ s', Inv X pins σ H' s' → Q () s') :
    wpAny (model X.prog X.w) A (setItem (.ref a) u r) Q E s := by
  rcases g with ⟨kvs, k, e, ey, l, eH⟩ | ⟨kvs, k, b, e, ey, eb, l, eH⟩
  · subst ey eH
    obtain ⟨z, hd, vs, rel, dd⟩ := dk_of I.hok e
    have hz : vs.length ≤ sizeLine := by rw [← rel.length]; exact z
    have hl : (putK kvs k v).length ≤ sizeLine := by have := length_putK kvs k v; omega
    refine wpAny_setItem_pairs (hsz := hz) (kV_is ry) dd fun h' dd' hs => h _ ?_
    have he : ∃ q, h'.get? a = some q := let ⟨q, _, _, hq, _⟩ := dd'; ⟨q, hq⟩
    exact d_write I (by rw [e]; exact True.intro) hs he (dk_new hl hd (rel.put k rv) dd')
  · subst ey eH
    cases (show u = Value.ref b from ry)
    obtain ⟨z, hd, xs, rel, dd⟩ := dt_of I.hok e
    have hz : xs.length ≤ sizeLine := by rw [← Paired.length rel]; exact z
    have hl : (putK kvs k v).length ≤ sizeLine := by have := length_putK kvs k v; omega
    refine wpAny_setItem_heap (hsz := hz) (tupleKind_room_in1 hu) (key_of I.hok eb) dd fun h' dd' hs => h _ ?_
    obtain ⟨q, es, ep, hq, h2, h3, h4, _, h5⟩ := dd'
    refine d_write I (by rw [e]; exact True.intro) hs ⟨q, hq⟩ ⟨hl, hd, _, (rel.put k eb rv).keeps fun c ys ec => ?_, q, es, ep, hq, h2, h3, h4, h5⟩
    rw [upd_ne (ne_of ec e (fun z => nomatch z))]
    exact ec
end
section
variable {X : Cx} {pins : List (Addr × Obj)} {σ : St} {H : Hp} {s : Shared} {a : Addr} {kvs : List (Key × V)} {k : Key} {u : Value} {A : Around} {E : Value → Shared → Prop}
theorem d_len {Q : Value → Shared → Prop} (I : Inv X pins σ H s) (e : Rd H a (.dK kvs)) (h : ∀ t s', Inv X pins σ H s' → Q (.int kvs.length t) s') : wpAny (model X.prog X.w) A (call (.builtin "len") [.ref a]) Q E s := by
  obtain ⟨z, hd, vs, rel, dd⟩ := dk_rd I.hok e
  refine call_len_dict hd dd (by rw [← rel.length]; rw [sizeLine_eq] at z; omega) ?_
  rw [← rel.length]
  exact h _ _ (I.tok _)
end
theorem dict_typeIs {X : Cx} {pins : List (Addr × Obj)} {σ : St} {H : Hp} {s : Shared} {a : Addr} {y : V} {o : Option V} (I : Inv X pins σ H s) (g : DGet H a y o) : s.TypeIs (.ref a) "dict" := by
  rcases g with ⟨kvs, k, e, _, _⟩ | ⟨kvs, k, b, e, _, _, _⟩
  · obtain ⟨_, _, vs, _, dd⟩ := dk_rd I.hok e
    exact dd.typeIs
  · obtain ⟨_, _, xs, _, dd⟩ := dt_rd I.hok e
    exact dd.typeIs
theorem dk_empty {P : Program} {w : World} {H : Hp} (h : Heap) (hb : sysModules < h.objs.size) : ObjOk P w H (h.push { cls := .type "dict", data := .dict #[] }) h.objs.size (.dK []) :=
  ⟨Nat.zero_le _, beq_eq_false_iff_ne.mpr (Ne.symm (Nat.ne_of_lt hb)), [], .nil, Heap.DictOf.new h⟩
theorem dt_empty {P : Program} {w : World} {H : Hp} (h : Heap) (hb : sysModules < h.objs.size) : ObjOk P w H (h.push { cls := .type "dict", data := .dict #[] }) h.objs.size (.dT []) :=
  ⟨Nat.zero_le _, beq_eq_false_iff_ne.mpr (Ne.symm (Nat.ne_of_lt hb)), [], .nil, _, #[], 0, Heap.get?_push_size _ rfl, ⟨rfl, rfl, rfl⟩, rfl, rfl, List.nodup_nil⟩
noncomputable def tDNewK : TE := fun _ H Q => ∀ p, H p = none → Q (.ref p) (upd H p (.dK []))
noncomputable def tDNewT : TE := fun _ H Q => ∀ p, H p = none → Q (.ref p) (upd H p (.dT []))
section
variable {X : Cx} {pos : Pos}
theorem pe_dnewK : PE X (.Dict [] [] pos) tDNewK := fun pins s σ H Q I h =>
  wpAny_Dict_empty ⟨.ref s.heap.objs.size, _, I.laid (a := s.heap.objs.size) (o := .dK []) (t' := s.toks) (fun _ _ q => Heap.get?_push_of_some _ q) (Nat.le_refl _) (dk_empty s.heap I.big), rfl, h _ (I.hok.fresh (Nat.le_refl _))⟩
theorem pe_dnewT : PE X (.Dict [] [] pos) tDNewT := fun pins s σ H Q I h =>
  wpAny_Dict_empty ⟨.ref s.heap.objs.size, _, I.laid (a := s.heap.objs.size) (o := .dT []) (t' := s.toks) (fun _ _ q => Heap.get?_push_of_some _ q) (Nat.le_refl _) (dt_empty s.heap I.big), rfl, h _ (I.hok.fresh (Nat.le_refl _))⟩
end
noncomputable def tPairs : List (TE × TE) → St → Hp → (List (V × V) → Hp → Prop) → Prop
  | [], _, H, Q => Q [] H
  | (tk, tv) :: r, σ, H, Q => tk σ H fun x H1 => tv σ H1 fun y H2 => tPairs r σ H2 fun ps H3 => Q ((x, y) :: ps) H3
noncomputable abbrev VV : List (V × V) → List (Value × Value) → Prop := Paired fun p q => RelV p.1 q.1 ∧ RelV p.2 q.2
noncomputable def PPs (X : Cx) (pos : Pos) (keys : List (Option Expr)) (values : List Expr) (trs : List (TE × TE)) : Prop :=
  ∀ (pins : List (Addr × Obj)) (s : Shared) (σ : St) (H : Hp) (Q : List (V × V) → Hp → Prop), Inv X pins σ H s → tPairs trs σ H Q →
    wpAny (model X.prog X.w) X.A (evalPairs (pairTrees keys values X.env pos)) (fun vs s' => ∃ ps H', Inv X pins σ H' s' ∧ VV ps vs ∧ Q ps H') X.xe s
theorem pps_nil {X : Cx} {pos : Pos} : PPs X pos [] [] [] := fun pins s σ H Q I h => pairTrees_nil_walk ⟨[], H, I, .nil, h⟩
theorem pps_cons {X : Cx} {pos : Pos} {k v : Expr} {ks : List (Option Expr)} {vs : List Expr} {tk tv : TE} {trs : List (TE × TE)} (hk : PE X k tk) (hv : PE X v tv) (hr : PPs X pos ks vs trs) :
    PPs X pos (some k :: ks) (v :: vs) ((tk, tv) :: trs) := fun pins s σ H Q I h =>
  pairTrees_cons_walk (thn (hk pins s σ H _ I h) fun u s1 ⟨x, H1, I1, rx, q1⟩ => thn (hv pins s1 σ H1 _ I1 q1) fun w2 s2 ⟨y, H2, I2, ry, q2⟩ =>
    thn (hr pins s2 σ H2 _ I2 q2) fun ws s3 ⟨ps, H3, I3, rel, q3⟩ => ⟨(x, y) :: ps, H3, I3, .cons ⟨rx, ry⟩ rel, q3⟩)
noncomputable def mergeK (kvs more : List (Key × V)) : List (Key × V) := more.foldl (fun acc kv => putK acc kv.1 kv.2) kvs
theorem KV.merge : ∀ {more : List (Key × V)} {rs : List (Key × Value)} {kvs : List (Key × V)} {vs : List (Key × Value)}, KV more rs → KV kvs vs → KV (mergeK kvs more) (merged vs rs) := by
  intro more rs kvs vs r
  unfold KV at r
  induction r generalizing kvs vs with
  | nil => intro q; exact q
  | @cons p q ps qs h t ih =>
    intro r0
    have e : KV (putK kvs p.1 p.2) (stored vs q.1 q.2) := by
      have := r0.put p.1 h.2
      rw [← h.1]; exact this
    exact ih e
theorem length_mergeK : ∀ (more kvs : List (Key × V)), (mergeK kvs more).length ≤ kvs.length + more.length
  | [], kvs => by show kvs.length ≤ kvs.length + 0; omega
  | p :: r, kvs => by
    have h1 := length_mergeK r (putK kvs p.1 p.2)
    have h2 := length_putK kvs p.1 p.2
    show (mergeK (putK kvs p.1 p.2) r).length ≤ _
    rw [List.length_cons]; omega
theorem carries_of {P : Program} {w : World} : ∀ {kvs : List (Key × V)} {ws : List (Value × Value)}, VV (kvs.map fun kv => (kV kv.1, kv.2)) ws → ∃ rs, Carries (mixKind P w) ws rs ∧ KV kvs rs
  | [], _, r => by rw [List.map_nil] at r; cases r; exact ⟨[], True.intro, .nil⟩
  | p :: kvs, _, r => by
    rw [List.map_cons] at r
    cases r with
    | @cons a b as bs h t =>
      obtain ⟨rs, c, q⟩ := carries_of (P := P) (w := w) t
      obtain ⟨b1, b2⟩ := b
      exact ⟨(p.1, b2) :: rs, ⟨kV_is h.1, rfl, c⟩, .cons ⟨rfl, h.2⟩ q⟩
noncomputable def tDisp (trs : List (TE × TE)) : TE := fun σ H Q => ∀ p, H p = none → tPairs trs σ (upd H p (.dK [])) fun ps H2 => H2 p = some (.dK []) ∧ ∃ kvs : List (Key × V), ps = kvs.map (fun kv => (kV kv.1, kv.2)) ∧ kvs.length ≤ 15 ∧ Q (.ref p) (upd H2 p (.dK (mergeK [] kvs)))
theorem pe_disp {X : Cx} {pos : Pos} {keys : List (Option Expr)} {values : List Expr} {trs : List (TE × TE)} (h : PPs X pos keys values trs) (hall : keys.all (·.isSome) = true) (hl : keys.length = values.length) (h0 : keys ≠ [])
    (h15 : keys.length ≤ 15) : PE X (.Dict keys values pos) (tDisp trs) := by
  intro pins s σ H Q I q
  have hn := I.hok.fresh (Nat.le_refl s.heap.objs.size)
  have I1 := I.laid (a := s.heap.objs.size) (o := .dK []) (h' := s.heap.push { cls := .type "dict", data := .dict #[] }) (t' := s.toks) (fun _ _ q => Heap.get?_push_of_some _ q) (Nat.le_refl _) (dk_empty s.heap I.big)
  refine wpAny_Dict_walk (knd := mixKind X.prog X.w) hall hl h0 h15 (thn (h pins _ σ _ _ I1 (q _ hn)) fun ws s2 ⟨ps, H2, I2, rel, e, kvs, ep, lk, q2⟩ => ?_)
  subst ep
  obtain ⟨rs, c, rk⟩ := carries_of (P := X.prog) (w := X.w) rel
  obtain ⟨z, hd, vs0, r0, dd⟩ := dk_of I2.hok e
  cases r0
  refine ⟨rs, c, dd, fun h' dd' hs => ⟨.ref s.heap.objs.size, _, ?_, rfl, q2⟩⟩
  have hz : (mergeK [] kvs).length ≤ sizeLine := by
    have h1 := length_mergeK kvs []
    rw [List.length_nil] at h1
    rw [sizeLine_eq]; omega
  have he : ∃ q, h'.get? s.heap.objs.size = some q := let ⟨q, _, _, hq, _⟩ := dd'; ⟨q, hq⟩
  exact d_write I2 (by rw [e]; exact True.intro) hs he (dk_new hz hd (rk.merge .nil) dd')
end L2
namespace Att
open PySem PySem.W PySem.Calls PyProof.Rows
theorem ints_of_wellAll {P : Params} {h : Heap} : ∀ (ns : List Int) (vs : List Value), WellAll P h vs (ns.map WData.int) → IntsAre vs ns := by
  intro ns
  induction ns with
  | nil =>
    intro vs w
    rw [List.map_nil] at w
    cases w
    exact .nil
  | cons n ns ih =>
    intro vs w
    rw [List.map_cons] at w
    cases w with
    | cons a b =>
      cases a
      exact .cons _ _ (ih _ b)
theorem script_of {l : OpenLaw} {n : Nat} (hn : l.most = some n) {P : Params} {h : Heap} {args : List WData} {vals : List Value}
    (hpre : l.row.toRowW.claim.pre args = true) (hwl : WellAll P h vals args) :
    ∃ a vs ns, vals = [Value.ref a] ∧ args = [WData.list (ns.map WData.int)] ∧ h.get? a = some { cls := .type "list", data := .seq vs.toArray } ∧ IntsAre vs ns ∧ ns.length ≤ n := by
  have hsh : WShape.hasAll [] args [.list .int] = true := (pre_splitW hpre).1
  have hc : l.pre.holds [] { args := args } = true := (pre_splitW hpre).2
  obtain ⟨d, r, rfl, h1, h2⟩ := hasAllW_cons hsh
  obtain rfl := hasAllW_nil h2
  obtain ⟨xs, rfl, h3⟩ := hasW_list h1
  obtain ⟨ns, rfl⟩ := items_int h3
  have hlen : ns.length ≤ n := by
    unfold OpenLaw.pre at hc
    have h4 : (WTm.not (.lt (.lit (.int (n : Int))) (.len (.arg 0)))).holds [] { args := [.list (ns.map .int)] } = true := by
      have h4 := (holds_andW hc).1
      rw [hn] at h4
      exact h4
    have h5 := condW_of h4 (w_not (w_lt w_lit (w_len_list (w_arg rfl))))
    rw [List.length_map] at h5
    refine Nat.le_of_not_lt fun q => ?_
    have q' : (n : Int) < ((ns.length : Nat) : Int) := by omega
    first
      | (rw [decide_eq_true q'] at h5; exact absurd h5 (by decide))
      | (simp at h5; omega)
  cases hwl with
  | cons w1 w2 =>
    cases w2
    cases w1 with
    | list ho hall => exact ⟨_, _, ns, rfl, rfl, ho, ints_of_wellAll ns _ hall, hlen⟩
theorem post_true (l : OpenLaw) (args : List WData) : l.row.toRowW.claim.post args (.bool true) args = true :=
  postW_of (r := l.row.toRowW) (X := (true == true))
    (show WShape.has [] (.bool true) .bool = true by first | rfl | decide | simp [WShape.has, WShape.arms, WShape.armsAll])
    (show (WTm.eq .res (.lit (.bool true))).value [] { args := args, res := some (.bool true), after := args } = some (.bool (true == true)) from w_eq_bool (w_res rfl) w_lit) rfl
theorem attach_call {l : OpenLaw} {n : Nat} {q : Program} {loose : List Str} {XP : (Str → Option Value) → Heap → Prop} {YP : World → Heap → Prop} {d : DefRec}
    (hn : l.most = some n) (hdf : d.params.defaults = [])
    (call : ∀ (w : World) (s₀ s₁ : Shared) (mg mb : Str → Option Value) (fa : Addr) (o : Obj) (pm cd doc : Value) (a : Addr) (vs : List Value) (ns : List Int),
      Ground q loose [] XP w s₀ mg mb s₁.heap → YP w s₁.heap →
      s₁.heap.get? fa = some o → o.data = .func (docDef d.name d.params d.body d.scope pm cd doc) → s₁.heap.CodeRec cd d.name → mg d.name = some (.ref fa) →
      s₁.heap.get? a = some { cls := .type "list", data := .seq vs.toArray } → IntsAre vs ns → ns.length ≤ n → s₁.gens = #[] →
      codeAny (model l.prog w) callerA (.call (.ref fa) ⟨[.ref a], []⟩) (fun r s' => r = .ok (.ret (.bool true)) ∧ OldK s₁.heap s'.heap ∧ s'.os = s₁.os ∧ AllBare s'.gens) s₁) :
    WalkO q loose XP YP l.row.toRowW d [] (fun f vs => PySem.call f vs) := by
  intro w s₀ s₁ mg mb G Y fa o pm cd doc dV kV ho hd hcd hD hmg hg args vals as hpre hlay hrd hwl hlo
  obtain rfl : dV = .none := Dflts.none hD hdf
  obtain rfl : kV = .none := Dflts.noKw hD
  obtain ⟨a, vs, ns, rfl, rfl, hobj, hints, hlen⟩ := script_of hn hpre hwl
  refine enter_call (codeAny_mono (call w s₀ s₁ mg mb fa o pm cd doc a vs ns G Y ho (fd_plain hd) hcd hmg hobj hints hlen hg) fun r s' hq => ?_)
  obtain ⟨rfl, h2, h3, h4⟩ := hq
  exact ⟨.inl ⟨.bool true, .bool true, [], rfl, fun _ => rfl, .bool true, post_true l _, fun _ => ⟨List.Pairwise.nil, fun _ hm => (nomatch hm)⟩⟩, h2, h3, h4⟩
end Att
namespace L2
open PySem PySem.Spec PyProof.Rows
theorem vals_ints : ∀ {vs : List Value} {ns : List Int}, IntsAre vs ns → Vals (ns.map V.int) vs
  | _, _, .nil => .nil
  | _, _, .cons n t h => .cons ⟨t, rfl⟩ (vals_ints h)
noncomputable def Only (H : Hp) : Prop := ∀ b, H b = none ∨ ∃ o xs, H b = some (.frz o (.lst xs))
theorem law_call {P : Program} {w : World} {K : PySem.W.Frag} {mg mb : Str → Option Value} {CX : CXT} {k : Nat} {fa a : Addr} {fd : FuncData} {x : Str} {sp : Sp} {s₁ : Shared} {vs : List Value} {ns : List Int}
    (KX : K.In s₁.heap) (hns : s₁.heap.Ns mainGlobals mg) (hb : s₁.heap.Ns builtinsNs mb) (hbb : ∀ x : Str, x ≠ "__name__" → mb x = bootBuiltins x) (hlim : s₁.heap.NoLimit) (hg : s₁.gens = #[])
    (ha : s₁.heap.get? a = some { cls := .type "list", data := .seq vs.toArray }) (hi : IntsAre vs ns) (hl : ns.length ≤ sizeLine) (hr : Room k callerA)
    (F : ∀ base : Heap, K.In base → base.Ns mainGlobals mg → FnOk P w K mg base CX k fa fd [x] sp) (hbind : ∀ (s : Shared) (u : Value), BindsTo s fd ⟨[u], []⟩ [(x, u)])
    (hsp : ∀ H : Hp, Only H → SqL K H a (ns.map V.int) → sp [.ref a] H (fun v _ => v = .bl true) fun _ _ _ => False)
    (hCX : ∀ H e s', CX [] H s₁ (fun _ _ _ => False) e s' → False) :
    codeAny (model P w) callerA (.call (.ref fa) ⟨[.ref a], []⟩) (fun r s' => r = .ok (.ret (.bool true)) ∧ OldK s₁.heap s'.heap ∧ s'.os = s₁.os ∧ AllBare s'.gens) s₁ := by
  have rv := vals_ints hi
  have lenV := hi.length
  have core : ∀ H : Hp, Only H → SqL K H a (ns.map V.int) → HOk P w H s₁.heap → (∀ b, H b ≠ none → b = a) → (H a ≠ none → K.lookup a = none) →
      codeAny (model P w) callerA (.call (.ref fa) ⟨[.ref a], []⟩) (fun r s' => r = .ok (.ret (.bool true)) ∧ OldK s₁.heap s'.heap ∧ s'.os = s₁.os ∧ AllBare s'.gens) s₁ := by
    intro H hO hS hok hA hK
    have base_of : ∀ {b : Addr} {o : Obj}, s₁.heap.get? b = some o → H b = none → (hidT s₁.heap H).get? b = some o := fun e n => hidT_get e n
    have noA : ∀ {b : Addr} {o : Obj} {es : Array DictEntry} {ep : Nat}, s₁.heap.get? b = some o → o.data = .dict es ep → H b = none := fun {b o es ep} e d => by
      cases q : H b with
      | none => rfl
      | some u =>
        have e' : b = a := hA b (by rw [q]; simp)
        subst e'
        rw [ha] at e; cases e
        have d' : Data.seq vs.toArray _ = Data.dict es ep := d
        cases d'
    have nsK : ∀ {b : Addr} {m : Str → Option Value}, s₁.heap.Ns b m → (hidT s₁.heap H).Ns b m := fun {b m} ⟨o, es, ep, e, d, r⟩ => ⟨o, es, ep, base_of e (noA e d), d, r⟩
    have hKb : K.In (hidT s₁.heap H) := fun b o e => base_of (KX b o e) (by
      cases q : H b with
      | none => rfl
      | some u =>
        have e' : b = a := hA b (by rw [q]; simp)
        subst e'
        rw [hK (by rw [q]; simp)] at e; cases e)
    have hM : Mod K mg (hidT s₁.heap H) := ⟨hKb, nsK hns, ⟨mb, nsK hb, hbb⟩, let ⟨mc, h1, h2⟩ := hlim; ⟨mc, nsK h1, h2⟩⟩
    have e0 : Env0 P w K mg (hidT s₁.heap H) callerA [] s₁ H := ⟨rfl, hM, fun b o e => of_hidT e, Nat.le_of_eq (hidT_size _ _), trivial, fun b hb => absurd (show b ∈ ([] : List Addr) from hb) (by simp), hok, .of_eq hg⟩
    refine codeAny_mono ((F _ hKb (nsK hns)).run callerA [] s₁ H ⟨[.ref a], []⟩ [.ref a] [.ref a] _ _ hr e0 (hbind s₁ (.ref a)) (.cons rfl .nil) (hsp H hO hS)) fun r s' h => ?_
    cases r with
    | error e => exact (hCX H e s' h).elim
    | ok fl =>
      cases fl with
      | next => exact False.elim h
      | brk => exact False.elim h
      | cont => exact False.elim h
      | ret u =>
        obtain ⟨v, H', os, bare, un, hok', r', q⟩ := h
        have q' : v = .bl true := q
        subst q'
        obtain rfl : u = Value.bool true := r'
        refine ⟨rfl, OldK.of_keep fun b o e => ?_, os, bare⟩
        cases q : H b with
        | none => exact un.keep b o e q (by intro z; exact absurd (show b ∈ ([] : List Addr) from z) (by simp)) (by simp)
        | some u =>
          rcases hO b with z | ⟨ob, xs, z⟩
          · rw [q] at z; cases z
          · have z2 := un.frzs b ob _ z
            obtain ⟨e1, _⟩ := hok b _ z
            obtain ⟨e2, _⟩ := hok' b _ z2
            rw [e] at e1; cases e1
            exact e2
  cases hk : K.lookup a with
  | some o =>
    have e := KX a o hk
    rw [ha] at e
    cases e
    refine core (fun _ => none) (fun _ => .inl rfl) (.inr ⟨_, vs.toArray, _, hk, rfl, rfl, rfl, by rw [List.size_toArray, lenV]; exact hl, by simpa using rv⟩) (fun b u z => by have z' : (none : Option HO) = some u := z; cases z') (fun b z => absurd rfl z) fun z => absurd rfl z
  | none =>
    refine core (fun b => if b = a then some (.frz { cls := .type "list", data := .seq vs.toArray } (.lst (ns.map V.int))) else none) (fun b => ?_) (.inl (.inr ⟨{ cls := .type "list", data := .seq vs.toArray }, if_pos rfl⟩)) (fun b u z => ?_) (fun b z => ?_) fun _ => hk
    · by_cases hb : b = a
      · exact .inr ⟨_, _, if_pos hb⟩
      · exact .inl (if_neg hb)
    · by_cases hb : b = a
      · have z' := (if_pos hb).symm.trans z
        cases z'
        subst hb
        exact ⟨ha, by rw [List.length_map]; exact hl, vs, _, rv, ha⟩
      · have z' := (if_neg hb).symm.trans z
        cases z'
    · by_cases hb : b = a
      · exact hb
      · exact absurd (if_neg hb) z
end L2
namespace L2
open PySem PySem.Spec PyProof.Rows
theorem walk_of {l : PySem.W.OpenLaw} {n k : Nat} {q : Program} {loose : List Str} {XP : (Str → Option Value) → Heap → Prop} {YP : World → Heap → Prop} {d : DefRec} {K : Params → PySem.W.Frag} {CX : World → CXT} {sp : World → Sp} {x : Str}
    (hn : l.most = some n) (hn2 : n ≤ sizeLine) (hdf : d.params.defaults = []) (hr : Room k callerA)
    (hY : ∀ (w : World) (h : Heap), YP w h → (K w.params).In h)
    (F : ∀ (w : World) (mg : Str → Option Value) (fa : Addr) (h : Heap), (K w.params).In h → h.Ns mainGlobals mg → mg d.name = some (.ref fa) →
      ∃ fd : FuncData, (∀ (s : Shared) (u : Value), BindsTo s fd ⟨[u], []⟩ [(x, u)]) ∧
        ∀ base : Heap, (K w.params).In base → base.Ns mainGlobals mg → FnOk l.prog w (K w.params) mg base (CX w) k fa fd [x] (sp w))
    (hsp : ∀ (w : World) (H : Hp) (a : Addr) (ns : List Int), ns.length ≤ n → Only H → SqL (K w.params) H a (ns.map V.int) → sp w [.ref a] H (fun v _ => v = .bl true) fun _ _ _ => False)
    (hCX : ∀ (w : World) (H : Hp) (s : Shared) (e : Value) (s' : Shared), CX w [] H s (fun _ _ _ => False) e s' → False) :
    PySem.W.WalkO q loose XP YP l.row.toRowW d [] (fun f vs => PySem.call f vs) := by
  refine Att.attach_call hn hdf fun w s₀ s₁ mg mb fa o pm cd doc a vs ns G Y ho hd hcd hmg hobj hints hlen hg => ?_
  have KX := hY w _ Y
  obtain ⟨fd, hb, hF⟩ := F w mg fa _ KX G.T.g hmg
  exact law_call KX G.T.g G.T.b G.T.builtins G.T.nolimit hg hobj hints (Nat.le_trans hlen hn2) hr hF hb (fun H hO hS => hsp w H a ns hlen hO hS) fun H e s' => hCX w H s₁ e s'
end L2
namespace L2
open PySem PySem.Spec PyProof.Rows
noncomputable def defArgs (s : Stmt) : Arguments := match s with
  | .FunctionDef _ a _ _ _ _ _ _ _ _ => a
  | _ => { posonlyargs := [], args := [], vararg := none, kwonlyargs := [], kw_defaults := [], kwarg := none, defaults := [] }
noncomputable def defBody (s : Stmt) : List Stmt := match s with
  | .FunctionDef _ _ b _ _ _ _ _ _ _ => b
  | _ => []
noncomputable def defScope (s : Stmt) : Scope := match s with
  | .FunctionDef _ _ _ _ _ _ sc _ _ _ => sc
  | _ => { kind := .function, names := [], isGenerator := false, isCoroutine := false }
noncomputable abbrev CX0 : CXT := fun _ _ _ _ _ _ => False
noncomputable abbrev E0 : XK := fun _ _ _ => False
theorem pass0 {X : Cx} : Passes CX0 X E0 := fun _ _ _ _ _ _ _ h => h.elim
structure Fun (K : PySem.W.Frag) (x qual : Str) (st : Stmt) (f : Addr) (fd : FuncData) : Prop where
  ex : ∃ (oc : Value) (od : Option Addr) (kV doc pm : Value) (an : Option Addr) (cdv ct : Value) (osl : Array (Option Value)),
    fd = PySem.W.fnOf x qual (defArgs st) (defBody st) (defScope st) .none kV doc pm an cdv ct ∧ K.lookup f = some ⟨oc, od, .func fd, osl⟩ ∧ PySem.W.codeIn K cdv qual = true
  kp : PySem.W.keepIn K (.ref f) = true
section
variable {P : Program} {w : World} {K : PySem.W.Frag} {mg : Str → Option Value} {base : Heap}
theorem Fun.ok {x qual : Str} {st : Stmt} {f : Addr} {fd : FuncData} {N ps : List Str} {k : Nat} {sp : Sp} (F : Fun K x qual st f fd) (S : FnScope N ps (defScope st)) (len : ∀ vs H Q E, sp vs H Q E → vs.length = ps.length)
    (hbody : ∀ (cdv : Value) (A : Around) (outer : List Env) (s : Shared) (H : Hp) (vs : List V) (Q : VK) (E : XK), Room k (A.deeper (envOfC qual (defScope st) s.heap.objs.size f cdv)) → sp vs H Q E →
      ∃ t, PSs (cxOf CX0 P w K mg base N qual (defScope st) f cdv A outer s H E).nox (defBody st) t ∧ t { nx := fun _ H' => Q .non H', rt := Q } (start N vs) H) : FnOk P w K mg base CX0 (k + 1) f fd ps sp := by
  obtain ⟨oc, od, kV, doc, pm, an, cdv, ct, osl, rfl, lk, hcd⟩ := F.ex
  refine fn_of lk hcd S len fun A outer s H vs Q E hr hsp => ?_
  obtain ⟨t, h, q⟩ := hbody cdv A outer s H vs Q E hr hsp
  exact ⟨t, h.nox, q⟩
theorem Fun.binds {x qual : Str} {st : Stmt} {f : Addr} {fd : FuncData} {ps : List Str} (F : Fun K x qual st f fd)
    (h : ∀ (kV doc pm : Value) (an : Option Addr) (cdv ct : Value) (us : List Value), us.length = ps.length → bindArgs (PySem.W.fnOf x qual (defArgs st) (defBody st) (defScope st) .none kV doc pm an cdv ct) ⟨us, []⟩ = pure (ps.zip us)) : Binds K fd ps [] := by
  obtain ⟨oc, od, kV, doc, pm, an, cdv, ct, osl, rfl, lk, hcd⟩ := F.ex
  exact .all (h kV doc pm an cdv ct)
theorem fun_mk {x qual : Str} {st : Stmt} {f : Addr} {oc : Value} {od an : Option Addr} {osl : Array (Option Value)} {kV doc pm cdv ct : Value} (l : K.lookup f = some ⟨oc, od, .func (PySem.W.fnOf x qual (defArgs st) (defBody st) (defScope st) .none kV doc pm an cdv ct), osl⟩)
    (c : PySem.W.codeIn K cdv qual = true) (k : PySem.W.keepIn K (.ref f) = true) : Fun K x qual st f (PySem.W.fnOf x qual (defArgs st) (defBody st) (defScope st) .none kV doc pm an cdv ct) := ⟨⟨oc, od, kV, doc, pm, an, cdv, ct, osl, rfl, l, c⟩, k⟩
end
theorem small1000 {n : Nat} (h : n ≤ 1000) : n < sizeLine := Nat.lt_of_le_of_lt h (by decide)
section
variable {X : Cx}
theorem pv (i : Nat) {x : Str} {pos : Pos} (hN : X.N[i]? = some x := by rfl) (hv : Vis X.env.scope x := by first | exact Or.inl rfl | exact Or.inr (Or.inl rfl) | exact Or.inr (Or.inr rfl)) (hd : (x == ("__debug__" : Str)) = false := by decide)
    (hcd : (x == ("__classdict__" : Str)) = false := by decide) : PE X (.Name x pos) (tVar i) := pe_var hN hv hd hcd
theorem call_lenD : CallR X (.builtin "len") (fun xs H Q => ∃ a kvs, xs = [V.ref a] ∧ H a = some (.dK kvs) ∧ Q (.int kvs.length) H) := by
  intro pins s σ H xs us Q I r h
  obtain ⟨a, kvs, rfl, ha, q⟩ := h
  obtain ⟨u, rfl, ru⟩ := vals1 r
  cases ru
  exact d_len I (.inl ha) fun t s' I' => ⟨.int kvs.length, H, I', ⟨t, rfl⟩, q⟩
end
theorem iteF {A B : Prop} (h : B) : if false = true then A else B := by
  rw [if_neg Bool.false_ne_true]
  exact h
theorem iteT {A B : Prop} (h : A) : if true = true then A else B := by
  rw [if_pos rfl]
  exact h
theorem ite2 {c A B : Prop} [Decidable c] (h1 : c → A) (h2 : ¬ c → B) : if c then A else B := by
  by_cases h : c
  · rw [if_pos h]
    exact h1 h
  · rw [if_neg h]
    exact h2 h
noncomputable def Same (H H' : Hp) : Prop := ∀ b o, H b = some o → H' b = some o
theorem Same.refl (H : Hp) : Same H H := fun _ _ h => h
theorem Same.trans {H H1 H2 : Hp} (a : Same H H1) (b : Same H1 H2) : Same H H2 := fun c o h => b c o (a c o h)
section
variable {κ : Type} [DecidableEq κ]
theorem valV_not {kvs : List (κ × V)} {k : κ} (h : valV kvs k = none) : ¬ k ∈ kvs.map (·.1) := by
  intro m
  obtain ⟨p, hp, e⟩ := List.mem_map.mp m
  have q : (kvs.any fun kv => decide (kv.1 = k)) = true := List.any_eq_true.mpr ⟨p, hp, decide_eq_true e⟩
  rw [valV_any, h] at q
  exact absurd q (by simp)
theorem valV_in {kvs : List (κ × V)} {k : κ} {v : V} (h : valV kvs k = some v) : k ∈ kvs.map (·.1) := by
  have q : (kvs.any fun kv => decide (kv.1 = k)) = true := by
    rw [valV_any, h]
    all_goals rfl
  obtain ⟨p, hp, e⟩ := List.any_eq_true.mp q
  exact List.mem_map.mpr ⟨p, hp, of_decide_eq_true e⟩
theorem nd_snoc : ∀ {l : List κ} {k : κ}, l.Nodup → ¬ k ∈ l → (l ++ [k]).Nodup
  | [], k, _, _ => by simp
  | a :: r, k, h, hk => by
    obtain ⟨h1, h2⟩ := List.nodup_cons.mp h
    show (a :: (r ++ [k])).Nodup
    refine List.nodup_cons.mpr ⟨fun m => ?_, nd_snoc h2 fun m => hk (List.mem_cons.mpr (Or.inr m))⟩
    rcases List.mem_append.mp m with q | q
    · exact h1 q
    · exact hk (List.mem_cons.mpr (Or.inl (List.mem_singleton.mp q).symm))
theorem nd_putK {kvs : List (κ × V)} {k : κ} (v : V) (hn : (kvs.map (·.1)).Nodup) (h : valV kvs k = none) : ((putK kvs k v).map (·.1)).Nodup := by
  rw [putK_new v h, List.map_append]
  exact nd_snoc hn (valV_not h)
end
end L2
set_option maxHeartbeats 4000000
namespace L2
open PySem PySem.Spec PyProof.Rows
theorem clos_go {env : Env} {f : Str × NameKind → List (Str × Addr) → Sem (ForInStep (List (Str × Addr)))}
    (f1 : ∀ n k r, k ≠ NameKind.free → f (n, k) r = pure (.yield r))
    (f2 : ∀ n c r, env.cells.lookup n = some c → f (n, NameKind.free) r = pure (.yield ((n, c) :: r))) :
    ∀ (names : List (Str × NameKind)) (acc : List (Str × Addr)),
    (∀ y ∈ names, y.2 = NameKind.free → ∃ c, env.cells.lookup y.1 = some c) →
    (∀ x c, acc.lookup x = some c → env.cells.lookup x = some c) →
    ∃ cl, forIn names acc f = (pure cl : Sem (List (Str × Addr))) ∧ (∀ x c, cl.lookup x = some c → env.cells.lookup x = some c) ∧
      (∀ x, (acc.lookup x).isSome = true → (cl.lookup x).isSome = true) ∧ ∀ y ∈ names, y.2 = NameKind.free → (cl.lookup y.1).isSome = true
  | [], acc, _, h => ⟨acc, by rw [List.forIn_nil], h, fun _ q => q, fun y hy => nomatch hy⟩
  | (n, k) :: r, acc, hn, h => by
    by_cases hk : k = NameKind.free
    · subst hk
      obtain ⟨c, hc⟩ := hn (n, .free) List.mem_cons_self rfl
      have hc' : env.cells.lookup n = some c := hc
      obtain ⟨cl, e, a, b, d⟩ := clos_go f1 f2 r ((n, c) :: acc) (fun y hy => hn y (List.mem_cons_of_mem _ hy)) (fun x c' q => by
        rw [List.lookup_cons] at q
        cases e : x == n with
        | true =>
          rw [e] at q
          cases q
          rw [show x = n from LawfulBEq.eq_of_beq e]
          exact hc'
        | false =>
          rw [e] at q
          exact h x c' q)
      refine ⟨cl, ?_, a, fun x q => b x ?_, fun y hy hf => ?_⟩
      · rw [List.forIn_cons, f2 n c acc hc', pure_bind]
        exact e
      · rw [List.lookup_cons]
        cases x == n with
        | true => rfl
        | false => exact q
      · rcases List.mem_cons.mp hy with rfl | hy
        · refine b _ ?_
          rw [List.lookup_cons]
          simp
        · exact d y hy hf
    · obtain ⟨cl, e, a, b, d⟩ := clos_go f1 f2 r acc (fun y hy => hn y (List.mem_cons_of_mem _ hy)) h
      refine ⟨cl, ?_, a, b, fun y hy hf => ?_⟩
      · rw [List.forIn_cons, f1 n k acc hk, pure_bind]
        exact e
      · rcases List.mem_cons.mp hy with rfl | hy
        · exact absurd hf hk
        · exact d y hy hf
theorem clos_ok {scope : Scope} {env : Env} (hf : ∀ y ∈ scope.names, y.2 = NameKind.free → ∃ c, env.cells.lookup y.1 = some c) :
    ∃ cl, closureFor scope env = pure cl ∧ (∀ x c, cl.lookup x = some c → env.cells.lookup x = some c) ∧
      ∀ y ∈ scope.names, y.2 = NameKind.free → ∃ c, cl.lookup y.1 = some c := by
  have go := clos_go (env := env) (f := fun (x : Str × NameKind) (r : List (Str × Addr)) => match x with
      | (name, kind) => if (kind == NameKind.free) = true then do let c ← cellOf env name; pure (ForInStep.yield ((name, c) :: r)) else pure (ForInStep.yield r))
    (fun n k r hk => by
      have z : (k == NameKind.free) = false := by simpa using hk
      simp only [z, Bool.false_eq_true, if_false])
    (fun n c r hc => by
      simp only [beq_self_eq_true, if_true, cellOf, hc, pure_bind])
    scope.names [] hf (fun x c q => by cases q)
  obtain ⟨cl, e, a, _, d⟩ := go
  refine ⟨cl, ?_, a, fun y hy z => Option.isSome_iff_exists.mp (d y hy z)⟩
  simp only [closureFor]
  first
    | exact e
    | (simp only [bind_pure]; exact e)
    | (refine Eq.trans ?_ e; simp only [bind_pure])
noncomputable def cxC (X : Cx) (scope : Scope) (N : List Str) (cl : List (Str × Addr)) (C : Addr) (s₀ : Shared) (H₀ : Hp) (ex : List Addr) : Cx where
  prog := X.prog
  w := X.w
  K := X.K
  mg := X.mg
  base := X.base
  A := X.A
  N := N
  s₀ := s₀
  H₀ := H₀
  env := compEnvC scope cl C X.env
  outer := X.stack
  stack := X.stack
  ex := ex
  fn := fun _ => false
  calm := X.calm
  pn := []
  xe := fun _ _ => False
noncomputable def inSt (k : Nat) (fr : List Nat) (σ : St) : St := List.replicate k none ++ fr.map fun i => (σ[i]?).join
noncomputable def frOk (osc scope : Scope) (NX : List Str) (fr : List Nat) : Bool := fr.all fun i => match NX[i]? with
  | some x => (decide (osc.names.lookup x = some .cell) || decide (osc.names.lookup x = some .free)) && decide (scope.names.lookup x = some .free)
  | none => false
structure CompSc (osc scope : Scope) (NX own : List Str) (fr : List Nat) (N : List Str) : Prop where
  kind : scope.kind = .function
  nocell : ∀ y ∈ scope.names, y.2 ≠ NameKind.cell
  loc : ∀ y ∈ scope.names, y.2 = NameKind.local → scope.names.lookup y.1 = some .local
  free : ∀ y ∈ scope.names, y.2 = NameKind.free → osc.names.lookup y.1 = some .cell ∨ osc.names.lookup y.1 = some .free
  names : N.map some = own.map some ++ fr.map fun i => NX[i]?
  outer : frOk osc scope NX fr = true
noncomputable def compOk (osc scope : Scope) (NX own : List Str) (fr : List Nat) (N : List Str) : Bool :=
  decide (scope.kind = .function) && (scope.names.all (fun y => decide (y.2 ≠ NameKind.cell)) && (scope.names.all (fun y => decide (y.2 = NameKind.local → scope.names.lookup y.1 = some .local)) &&
    (scope.names.all (fun y => decide (y.2 = NameKind.free → (osc.names.lookup y.1 = some .cell ∨ osc.names.lookup y.1 = some .free))) && (decide (N.map some = own.map some ++ fr.map fun i => NX[i]?) && frOk osc scope NX fr))))
theorem CompSc.of {osc scope : Scope} {NX own : List Str} {fr : List Nat} {N : List Str} (h : compOk osc scope NX own fr N = true) : CompSc osc scope NX own fr N := by
  unfold compOk at h
  simp only [Bool.and_eq_true, decide_eq_true_eq, List.all_eq_true] at h
  obtain ⟨h1, h2, h3, h4, h5, h6⟩ := h
  exact ⟨h1, h2, h3, h4, h5, h6⟩
theorem CompSc.len {osc scope : Scope} {NX own : List Str} {fr : List Nat} {N : List Str} (S : CompSc osc scope NX own fr N) : N.length = own.length + fr.length := by
  have h := congrArg List.length S.names
  simpa using h
theorem lookup_relabel_free {env : Env} : ∀ {names : List (Str × NameKind)} {x : Str}, names.lookup x = some .free →
    (names.map fun (n, k) => if (k == NameKind.free && env.scope.kind == .function && env.kindOf n == some .cell) then (n, NameKind.cell) else (n, k)).lookup x = some .cell ∨
    (names.map fun (n, k) => if (k == NameKind.free && env.scope.kind == .function && env.kindOf n == some .cell) then (n, NameKind.cell) else (n, k)).lookup x = some .free
  | [], _, h => by simp at h
  | (n, k) :: r, x, h => by
    have ih := @lookup_relabel_free env r x
    cases hx : x == n with
    | true =>
      simp only [List.lookup_cons, hx] at h
      cases h
      simp only [List.map_cons]
      split
      · left; simp [List.lookup_cons, hx]
      · right; simp [List.lookup_cons, hx]
    | false =>
      simp only [List.lookup_cons, hx] at h
      simp only [List.map_cons]
      split
      · simp only [List.lookup_cons, hx]; exact ih h
      · simp only [List.lookup_cons, hx]; exact ih h
theorem of_relabel {env : Env} : ∀ {names : List (Str × NameKind)} {x : Str} {k' : NameKind},
    (names.map fun (n, k) => if (k == NameKind.free && env.scope.kind == .function && env.kindOf n == some .cell) then (n, NameKind.cell) else (n, k)).lookup x = some k' →
    k' = .cell ∨ k' = .free → (∀ y ∈ names, y.2 ≠ NameKind.cell) → ∃ y ∈ names, y.1 = x ∧ y.2 = .free
  | [], _, _, h, _, _ => by simp at h
  | (n, k) :: r, x, k', h, hk, nc => by
    have ih := @of_relabel env r x k'
    simp only [List.map_cons] at h
    cases hx : x == n with
    | true =>
      have ex : x = n := LawfulBEq.eq_of_beq hx
      refine ⟨(n, k), List.mem_cons_self, ex.symm, ?_⟩
      have nck : k ≠ .cell := nc (n, k) List.mem_cons_self
      by_cases z : k = .free
      · exact z
      · have zb : (k == NameKind.free) = false := by simpa using z
        simp only [zb, Bool.false_and, Bool.false_eq_true, if_false, List.lookup_cons, hx] at h
        cases h
        rcases hk with q | q
        · exact absurd q nck
        · exact absurd q z
    | false =>
      have h' : (r.map fun (n, k) => if (k == NameKind.free && env.scope.kind == .function && env.kindOf n == some .cell) then (n, NameKind.cell) else (n, k)).lookup x = some k' := by
        split at h
        · simpa only [List.lookup_cons, hx] using h
        · simpa only [List.lookup_cons, hx] using h
      obtain ⟨y, hy, a, b⟩ := ih h' hk fun z hz => nc z (List.mem_cons_of_mem _ hz)
      exact ⟨y, List.mem_cons_of_mem _ hy, a, b⟩
section
variable {X : Cx} {pins : List (Addr × Obj)} {σ : St} {H : Hp} {s : Shared}
noncomputable def PTs (X : Cx) (ifs : List Expr) (t : TT) : Prop :=
  ∀ (pins : List (Addr × Obj)) (s : Shared) (σ : St) (H : Hp) (Q : Bool → Hp → Prop), Inv X pins σ H s → t σ H Q →
    wpAny (model X.prog X.w) X.A (forIn ifs true fun c r => if r = true then do let ok ← isTrue c X.env (eval c X.env); pure (ForInStep.yield ok) else pure (ForInStep.yield r)) (TP X pins σ Q) X.xe s
noncomputable def tYes : TT := fun _ H Q => Q true H
theorem pts_nil : PTs X [] tYes := fun _ _ _ H _ I h => wpAny_tests_nil ⟨H, I, h⟩
theorem pts_one {c : Expr} {t : TT} (h : PT X c t) : PTs X [c] t := fun pins s σ H Q I q => wpAny_tests_one (h pins s σ H Q I q)
theorem nx {α : Type} {t : Sem α} {Q Q' : α → Shared → Prop} {M : Model} {A : Around} {E : Value → Shared → Prop} {s : Shared} (h : wpAny M A t Q (fun _ _ => False) s) (hQ : ∀ a s, Q a s → Q' a s) : wpAny M A t Q' E s :=
  wpAny_mono h hQ fun _ _ f => f.elim
theorem inv_block {scope : Scope} {own : List Str} {fr : List Nat} {N : List Str} {cl : List (Str × Addr)} {s3 s4 : Shared} {H3 : Hp} {fp : List Addr} {m : Str → Option Value}
    (hc : X.calm = true) (S : CompSc X.env.scope scope X.N own fr N)
    (c1 : ∀ x c, cl.lookup x = some c → X.env.cells.lookup x = some c) (c2 : ∀ y ∈ scope.names, y.2 = NameKind.free → ∃ c, cl.lookup y.1 = some c)
    (I3 : Inv X pins σ H3 s3) (f3 : ∀ b ∈ fp, FpOk X pins H3 b ∧ b < s3.heap.objs.size)
    (hk : ∀ b o, s3.heap.get? b = some o → s4.heap.get? b = some o) (hn : s4.heap.Ns s3.heap.objs.size m) (ho : s4.os = s3.os) (hg : s4.gens = s3.gens) :
    Inv (cxC X scope N cl s3.heap.objs.size s3 H3 fp) [] (inSt own.length fr σ) H3 s4 := by
  have kindF : (compEnvC scope cl s3.heap.objs.size X.env).scope.kind = .function := by
    show (relabel scope X.env).kind = .function
    exact S.kind
  refine ⟨⟨I3.ok.mod, kindF, I3.ok.glob, I3.ok.blt, Nat.le_refl _, ?_, ?_, ?_, I3.ok.hd, I3.ok.frames, .inl rfl, ?_, ?_, ?_, ?_, ?_, I3.stack, I3.stkFree⟩, ho, ?_, Un.kept hk, ⟨m, hn, ?_⟩, ?_, ?_, ?_, ?_, I3.hok.kept hk, ?_⟩
  · exact fun x y c h1 h2 => I3.ok.inj x y c (c1 x c h1) (c1 y c h2)
  · intro x hx
    have hx' : (relabel scope X.env).names.lookup x = some .cell ∨ (relabel scope X.env).names.lookup x = some .free := hx
    obtain ⟨k', hk', hkk⟩ : ∃ k', (relabel scope X.env).names.lookup x = some k' ∧ (k' = NameKind.cell ∨ k' = NameKind.free) := by
      rcases hx' with q | q
      · exact ⟨_, q, .inl rfl⟩
      · exact ⟨_, q, .inr rfl⟩
    obtain ⟨y, hy, e, hf⟩ := of_relabel (env := X.env) hk' hkk S.nocell
    subst e
    exact c2 y hy hf
  · exact fun x c h => by cases h
  · intro b hb
    obtain ⟨f, hl⟩ := f3 b hb
    refine ⟨Nat.ne_of_lt hl, fun x c h => f.2.2.2.2.1 x c (c1 x c h)⟩
  · exact fun b o e => I3.bs b o e
  · exact Nat.le_trans I3.ok.bsz I3.sz
  · intro b o e hb
    obtain ⟨f, hl⟩ := f3 b hb
    rcases f.2.2.2.1 with z | z
    · exact I3.ok.noex b o e z
    · exact absurd (Nat.lt_of_lt_of_le (Heap.lt_size e) (Nat.le_trans I3.ok.bsz z)) (Nat.lt_irrefl _)
  · intro b hb
    obtain ⟨f, hl⟩ := f3 b hb
    show b ∉ frs X.stack
    intro z
    rcases List.mem_cons.mp (I3.stkSub b z) with q | q
    · exact f.2.1 q
    · exact f.2.2.1 q
  · rw [hg]; exact I3.bare
  · intro i x v h1 h2 h3
    have h1 : N[i]? = some x := h1
    obtain ⟨m0, hn0, hl0⟩ := I3.loc
    have hi : own.length ≤ i := by
      refine Nat.le_of_not_lt fun q => ?_
      unfold inSt at h2
      rw [List.getElem?_append_left (by simpa using q), List.getElem?_replicate] at h2
      split at h2 <;> cases h2
    obtain ⟨j, rfl⟩ := Nat.exists_eq_add_of_le hi
    have h2' : (fr.map fun i => (σ[i]?).join)[j]? = some (some v) := by
      unfold inSt at h2
      rw [List.getElem?_append_right (by simp)] at h2
      simpa using h2
    rw [List.getElem?_map] at h2'
    cases ej : fr[j]? with
    | none => rw [ej] at h2'; cases h2'
    | some k =>
      rw [ej] at h2'
      have e2 : (σ[k]?).join = some v := Option.some.inj h2'
      have eσ : σ[k]? = some (some v) := by
        cases q : σ[k]? with
        | none => rw [q] at e2; cases e2
        | some o => rw [q] at e2; exact congrArg some e2
      have eN : X.N[k]? = some x := by
        have q := congrArg (fun l => l[own.length + j]?) S.names
        simp only [List.getElem?_map, h1, List.getElem?_append_right (show (own.map some).length ≤ own.length + j by simp), List.length_map, Nat.add_sub_cancel_left, ej, Option.map_some] at q
        exact (Option.some.inj q).symm
      have ok := List.all_eq_true.mp S.outer k (List.mem_of_getElem? ej)
      rw [eN] at ok
      simp only [Bool.and_eq_true, Bool.or_eq_true, decide_eq_true_eq] at ok
      obtain ⟨ok1, ok2⟩ := ok
      have vis : Vis X.env.scope x := .inr ok1
      obtain ⟨u, r, l⟩ := hl0 k x v eN eσ vis
      refine ⟨u, r, ?_⟩
      rcases l with ⟨l, _⟩ | ⟨_, c, e, z⟩
      · have l : X.env.scope.names.lookup x = some .local := l
        rcases ok1 with q | q
        · rw [l] at q; cases q
        · rw [l] at q; cases q
      · obtain ⟨c', e'⟩ := c2 (x, .free) (PySem.mem_of_lookup ok2) rfl
        have e' : cl.lookup x = some c' := e'
        have ec : c' = c := Option.some.inj ((c1 x c' e').symm.trans e)
        subst ec
        refine .inr ⟨lookup_relabel_free (env := X.env) ok2, c', e', ?_⟩
        obtain ⟨o, h1, h2⟩ := z
        exact ⟨o, hk _ _ h1, h2⟩
  · intro x c e
    obtain ⟨v, o, h1, h2⟩ := I3.cell x c (c1 x c e)
    exact ⟨v, o, hk _ _ h1, h2⟩
  · exact I3.hok.fresh (Nat.le_refl _)
  · exact fun x c e => I3.freeC x c (c1 x c e)
  · intro p hp
    exact absurd hp (by simp [cxC])
  · show (inSt own.length fr σ).length = N.length
    rw [S.len]
    simp [inSt]
end
section
variable {prog : Program} {w : World} {A : Around} {R : Result → Shared → Prop} {s : Shared}
theorem comp_loop {elt tg iter : Expr} {ifs : List Expr} {scope : Scope} {pos : Pos} {it acc : Value} {env : Env} (J : Nat → Shared → Prop)
    (turn : ∀ k s, J k s → ∀ E : Value → Shared → Prop, wpAny (model prog w) A (pyNext it) (fun r s1 => match r with
      | none => R (.ok .next) s1
      | some v => wpAny (model prog w) A (letOwnedTupleGo tg it v) (fun _ s2 => wpAny (model prog w) A (assign tg env v) (fun _ s3 =>
          wpAny (model prog w) A (forIn ifs true fun c r => if r = true then do let ok ← isTrue c env (eval c env); pure (ForInStep.yield ok) else pure (ForInStep.yield r)) (fun ok s4 =>
            if ok = true then wpAny (model prog w) A (eval elt env) (fun x s5 => wpAny (model prog w) A (call (.builtin "list.append") [acc, x]) (fun _ s6 => ∃ m, m < k ∧ J m s6) E s5) E s4
            else ∃ m, m < k ∧ J m s4) E s3) E s2) E s1) E s)
    (k : Nat) (h : J k s) : codeAny (model prog w) A (.compLoop (.ListComp elt [⟨tg, iter, ifs, 0⟩] scope pos) 0 it acc env) R s := by
  refine codeAny_loop rfl J (fun k s hJ => ?_) k h
  show wpAny _ A ((compTurn (.ListComp elt [⟨tg, iter, ifs, 0⟩] scope pos) 0 it acc env).onRaise (fun e => do noteFrame e env; theTreesLotGoes e)) _ _ s
  refine wpAny_noted ?_
  rw [compTurn_list]
  refine wpAny_bind (wpAny_standAt (wpAny_bind (thn (turn k s hJ _) fun r s1 h1 => ?_)))
  cases r with
  | none => exact wpAny_pure h1
  | some v =>
    refine wpAny_bind (thn h1 fun _ s2 h2 => wpAny_bind (thn h2 fun _ s3 h3 => wpAny_bind (thn h3 fun ok s4 h4 => ?_)))
    cases ok with
    | false => exact wpAny_pure ⟨rfl, h4⟩
    | true => exact wpAny_bind (wpAny_bind (thn h4 fun x s5 h5 => wpAny_bind (thn h5 fun _ s6 h6 => wpAny_pure (wpAny_pure ⟨rfl, h6⟩))))
end
noncomputable def tCompW (k : Nat) (fr : List Nat) (g : TG) (tc : TT) (te : TE) (J : It) (σ : St) (H1 : Hp) (Q : VK) : Prop :=
  ∀ D, H1 D = none → ∃ W : Nat → Nat → List V → St → Hp → Prop, (∃ m, W 0 m [] (inSt k fr σ) (upd H1 D (.lst []))) ∧ ∀ i m acc σ' H', W i m acc σ' H' → H' D = some (.lst acc) →
    (J.stop i H' ∧ Q (.ref D) H') ∨ (J.go i H' ∧ ∃ N : List V → St → Hp → Prop, (∀ acc' σ2 H2, N acc' σ2 H2 → ∃ m', m' < m ∧ W (i + 1) m' acc' σ2 H2) ∧ ∀ x H2, J.yld i H' x H2 → g x σ' H2 fun σ2 H3 => tc σ2 H3 fun b H4 =>
      if b = true then te σ2 H4 fun y H5 => H5 D = some (.lst acc) ∧ acc.length < sizeLine ∧ N (acc ++ [y]) σ2 (upd H5 D (.lst (acc ++ [y])))
      else H4 D = some (.lst acc) ∧ N acc σ2 H4)
noncomputable def tComp (k : Nat) (fr : List Nat) (wi : TI) (g : TG) (tc : TT) (te : TE) : TE := fun σ H Q => wi σ H fun J H1 => tCompW k fr g tc te J σ H1 Q
section
variable {X : Cx} {pins : List (Addr × Obj)} {σ : St} {H : Hp} {s : Shared} {tg elt iter : Expr} {ifs : List Expr} {scope : Scope} {pos : Pos}
theorem comp_block {own : List Str} {fr : List Nat} {N : List Str} {cl : List (Str × Addr)} {H2 : Hp} {s2 : Shared} {fp : List Addr} {it : Addr} {J : It} {tn : Nat → Heap → Prop} {g : TG} {tc : TT} {te : TE} {Q : VK} {E : Value → Shared → Prop} {POST : Value → Addr → Result → Shared → Prop}
    (hc : X.calm = true) (S : CompSc X.env.scope scope X.N own fr N)
    (c1 : ∀ x c, cl.lookup x = some c → X.env.cells.lookup x = some c) (c2 : ∀ y ∈ scope.names, y.2 = NameKind.free → ∃ c, cl.lookup y.1 = some c)
    (hg : ∀ C s₀ H₀ ex, PG (cxC X scope N cl C s₀ H₀ ex) tg g) (ht : ∀ C s₀ H₀ ex, PTs (cxC X scope N cl C s₀ H₀ ex) ifs tc) (he : ∀ C s₀ H₀ ex, PE (cxC X scope N cl C s₀ H₀ ex) elt te)
    (I2 : Inv X pins σ H2 s2) (T : Turn X.prog X.w X.K tg J fp it tn) (t2 : tn 0 s2.heap) (f2 : ∀ b ∈ fp, FpOk X pins H2 b) (q : tCompW own.length fr g tc te J σ H2 Q)
    (fin : ∀ D C s' H' m, Inv X pins σ H' s' → FpOk X pins H' C → s'.heap.Ns C m → Q (.ref D) H' → POST (.ref D) C (.ok .next) s') :
    wpAny (model X.prog X.w) X.A (newList []) (fun acc s3 => wpAny (model X.prog X.w) X.A (newFunctionEnv scope X.env.globals cl [] X.env.qual none .none (some X.env)) (fun cenv s4 =>
      codeAny (model X.prog X.w) X.A (.compStart (.ListComp elt [⟨tg, iter, ifs, 0⟩] scope pos) 0 (.ref it) acc { cenv with scope := relabel scope X.env }) (POST acc cenv.locals) s4) E s3) E s2 := by
  refine wpAny_newObj_type (wpAny_newFunctionEnv S.nocell (by intro y hy; simp at hy) (fun h4 ns4 sb4 => ?_) S.kind)
  dsimp only at ns4 sb4 ⊢
  have hD : H2 s2.heap.objs.size = none := I2.hok.fresh (Nat.le_refl _)
  obtain ⟨W, ⟨m0, w0⟩, turn⟩ := q s2.heap.objs.size hD
  have I3 : Inv X pins σ (upd H2 s2.heap.objs.size (.lst [])) { s2 with heap := s2.heap.push { cls := .type "list", dict := none, data := .seq ([] : List Value).toArray }, toks := s2.toks } :=
    I2.laid (fun b u q => Heap.get?_push_of_some _ q) (Nat.le_refl _) ⟨Nat.zero_le _, [], _, .nil, Heap.get?_push_size _ rfl⟩
  generalize hh3 : s2.heap.push { cls := .type "list", dict := none, data := .seq ([] : List Value).toArray } = h3 at *
  have z3 : h3.objs.size = s2.heap.objs.size + 1 := by rw [← hh3, Heap.size_push]
  have k23 : ∀ b o, s2.heap.get? b = some o → h3.get? b = some o := fun b o e => by rw [← hh3]; exact Heap.get?_push_of_some _ e
  have k34 : ∀ b o, h3.get? b = some o → h4.get? b = some o := fun b o e => sb4.extBut b o (Nat.ne_of_lt (Heap.lt_size e)) (Heap.get?_push_of_some _ e)
  have fpl : ∀ b ∈ fp, b < s2.heap.objs.size := fun b hb => by
    obtain ⟨o, e, _⟩ := T.obj _ _ t2 b hb
    exact Heap.lt_size e
  have f3 : ∀ b ∈ fp, FpOk X pins (upd H2 s2.heap.objs.size (.lst [])) b ∧ b < h3.objs.size := fun b hb => by
    refine ⟨⟨?_, (f2 b hb).2⟩, by rw [z3]; exact Nat.lt_succ_of_lt (fpl b hb)⟩
    rw [upd_ne (Nat.ne_of_lt (fpl b hb))]
    exact (f2 b hb).1
  generalize hs3 : ({ s2 with heap := h3, toks := s2.toks } : Shared) = s3 at I3
  have es3 : s3.heap = h3 := by rw [← hs3]
  have hs3' : ({ s2 with heap := h3 } : Shared) = s3 := hs3
  have I4 := inv_block (s3 := s3) (s4 := { s3 with heap := h4, toks := s3.toks + ([] : List (Str × Value)).length }) hc S c1 c2 I3 (by rw [es3]; exact f3) (by rw [es3]; exact k34) (m := fun x => ([] : List (Str × Value)).reverse.lookup x) (by rw [es3]; exact ns4) rfl rfl
  rw [es3] at I4
  have stat : ∀ {H' : Hp} {s' : Shared} {σ' : St} {pl : List (Addr × Obj)}, Inv (cxC X scope N cl h3.objs.size s3 (upd H2 s2.heap.objs.size (.lst [])) fp) pl σ' H' s' → (∀ p ∈ pl, p.1 ∉ fp) → (∀ b ∈ fp, H' b = none) → ∀ b ∈ fp, FpOk (cxC X scope N cl h3.objs.size s3 (upd H2 s2.heap.objs.size (.lst [])) fp) pl H' b := fun {H' s' σ' pl} I' hpl hn b hb => by
    refine ⟨hn b hb, Nat.ne_of_lt (f3 b hb).2, I'.ok.exfs b hb, .inl hb, fun x c e => (f2 b hb).2.2.2.2.1 x c (c1 x c e), fun p hp => ?_⟩
    intro z
    exact hpl p (by simpa [cxC] using hp) (z ▸ hb)
  have loop : ∀ s4 : Shared, s4 = { s3 with heap := h4, toks := s3.toks + ([] : List (Str × Value)).length } →
      codeAny (model X.prog X.w) X.A (.compLoop (.ListComp elt [⟨tg, iter, ifs, 0⟩] scope pos) 0 (.ref it) (.ref s2.heap.objs.size) (compEnvC scope cl h3.objs.size X.env)) (POST (.ref s2.heap.objs.size) h3.objs.size) s4 := by
    rintro s4 rfl
    refine comp_loop (fun n s' => ∃ i acc σ' H', Inv (cxC X scope N cl h3.objs.size s3 (upd H2 s2.heap.objs.size (.lst [])) fp) [] σ' H' s' ∧ tn i s'.heap ∧ (∀ b ∈ fp, H' b = none) ∧ H' s2.heap.objs.size = some (.lst acc) ∧ W i n acc σ' H') ?_ m0
      ⟨0, [], _, _, I4, T.keep _ _ _ t2 fun b hb o e => k34 b o (k23 b o e), fun b hb => (f3 b hb).1.1, upd_same, w0⟩
    rintro n s5 ⟨i, acc, σ5, H5, I5, t5, fr5, d5, w5⟩ E'
    rcases turn i n acc σ5 H5 w5 d5 with ⟨stop, qn⟩ | ⟨go, NN, hNN, step⟩
    · refine thn (T.done (cxC X scope N cl h3.objs.size s3 (upd H2 s2.heap.objs.size (.lst [])) fp) rfl rfl rfl hc i [] s5 σ5 H5 E' I5 (stat I5 (by simp) fr5) t5 stop) fun r s6 ⟨hr, I6⟩ => ?_
      subst hr
      obtain ⟨m6, n6, _⟩ := id I6.loc
      have J6 : Inv X pins σ H5 s6 := I3.call' (ch := fp) I6.os I6.base I6.hok I6.bare fun b hb => ⟨(f2 b hb).2.2.2.1, (f2 b hb).2.1, (f2 b hb).2.2.2.2.1, (f2 b hb).2.2.2.2.2⟩
      exact fin _ _ s6 H5 m6 J6 (I2.fpOk (by rw [z3]; exact Nat.le_succ _) I6.free) n6 qn
    · refine thn (T.item (cxC X scope N cl h3.objs.size s3 (upd H2 s2.heap.objs.size (.lst [])) fp) rfl rfl rfl hc i [] s5 σ5 H5 E' I5 (stat I5 (by simp) fr5) t5 go) fun r s6 ⟨u, hr, h6⟩ => ?_
      subst hr
      refine thn h6 fun _ s7 ⟨x, H7, I7, r7, y7, t7, fr7⟩ => ?_
      have I7' := I7.pinned (stat I7 (by simp) fr7) (T.obj _ _ t7)
      have backTn : ∀ {s' : Shared} {H' : Hp} {σ' : St}, Inv (cxC X scope N cl h3.objs.size s3 (upd H2 s2.heap.objs.size (.lst [])) fp) ([] ++ pinsAt fp s7.heap) σ' H' s' → tn (i + 1) s'.heap ∧ ∀ b ∈ fp, H' b = none := fun {s' H' σ'} I' => by
        refine ⟨T.keep _ _ _ t7 fun b hb o e => (I'.pin (b, o) (List.mem_append_right _ (List.mem_append_right _ (mem_pinsAt hb e)))).1, fun b hb => ?_⟩
        obtain ⟨o, e, _⟩ := T.obj _ _ t7 b hb
        exact (I'.pin (b, o) (List.mem_append_right _ (List.mem_append_right _ (mem_pinsAt hb e)))).2.1
      refine nx (hg _ _ _ _ _ s7 σ5 H7 x u _ I7' r7 (step x H7 y7)) fun _ s8 ⟨σ8, H8, I8, q8⟩ => ?_
      refine nx (ht _ _ _ _ _ s8 σ8 H8 _ I8 q8) fun ok s9 ⟨H9, I9, q9⟩ => ?_
      cases ok with
      | false =>
        obtain ⟨d9, n9⟩ := q9
        obtain ⟨m', hm, w9⟩ := hNN _ _ _ n9
        obtain ⟨a1, a2⟩ := backTn I9
        exact ⟨m', hm, i + 1, acc, σ8, H9, I9.unpinned, a1, a2, d9, w9⟩
      | true =>
        rw [if_pos rfl]
        refine nx (he _ _ _ _ _ s9 σ8 H9 _ I9 q9) fun y s10 ⟨v, H10, I10, r10, d10, l10, n10⟩ => ?_
        obtain ⟨m', hm, w10⟩ := hNN _ _ _ n10
        refine nx (mt_append _ s10 σ8 H10 (.ref s2.heap.objs.size) [v] (.ref s2.heap.objs.size) [y] (fun _ H' => H' = upd H10 s2.heap.objs.size (.lst (acc ++ [v]))) I10 rfl (.cons r10 .nil) ⟨_, acc, v, rfl, rfl, d10, l10, rfl⟩) fun _ s11 ⟨_, H11, I11, _, e11⟩ => ?_
        subst e11
        obtain ⟨a1, a2⟩ := backTn I11
        exact ⟨m', hm, i + 1, _, σ8, _, I11.unpinned, a1, a2, upd_same, w10⟩
  exact codeAny_compStart_list (loop _ (by rw [← hs3])) (T.self _ 0 _ _ _ (T.keep _ _ _ t2 fun b hb o e => k34 b o (k23 b o e)) (loop _ (by rw [← hs3])))
theorem pe_comp (osc : Scope) (NX own : List Str) (fr : List Nat) (N : List Str) {wi : TI} {g : TG} {tc : TT} {te : TE} (hc : X.calm = true)
    (hi : PI X tg iter wi) (hg : ∀ cl C s₀ H₀ ex, PG (cxC X scope N cl C s₀ H₀ ex) tg g) (ht : ∀ cl C s₀ H₀ ex, PTs (cxC X scope N cl C s₀ H₀ ex) ifs tc) (he : ∀ cl C s₀ H₀ ex, PE (cxC X scope N cl C s₀ H₀ ex) elt te)
    (hs : ∀ x, foldedSetIterable iter X.env x = pure x := by intro _; rfl) (hosc : X.env.scope = osc := by rfl) (hNX : X.N = NX := by rfl) (hS : compOk osc scope NX own fr N = true := by decide +kernel) :
    PE X (.ListComp elt [⟨tg, iter, ifs, 0⟩] scope pos) (tComp own.length fr wi g tc te) := by
  intro pins s σ H Q I h
  have S : CompSc X.env.scope scope X.N own fr N := by rw [hosc, hNX]; exact CompSc.of hS
  obtain ⟨cl, ecl, c1, c2⟩ := clos_ok (scope := scope) (env := X.env) fun y hy hf => I.ok.has y.1 (S.free y hy hf)
  rw [eval_ListComp]
  refine wpAny_comprehension_free (use := none) rfl hs ecl S.kind S.loc (thn (hi pins s σ H _ I h) fun v s1 h1 => thn h1 fun itv s2 h2 => ?_)
  obtain ⟨it, fp, tn, J, H2, e, I2, T, t2, f2, q⟩ := h2
  subst e
  refine comp_block (POST := fun acc C => compPost (model X.prog X.w) X.A X.xe none (EP X pins σ Q) acc C) hc S c1 c2 (hg cl) (ht cl) (he cl) I2 T t2 f2 q fun D C s' H' m I' fC ns q' => ?_
  refine ⟨m, ns, fun h' sb => ⟨.ref D, H', ?_, rfl, q'⟩⟩
  obtain ⟨g0, g1, _, g3, g4, g5⟩ := fC
  exact I'.turned (t' := s'.toks) (fun b o hb e => (sb.2 b hb).trans e) g0 g1 g3 g4 g5
theorem ps_setC {wi : TI} {g : TG} {tc : TT} {te : TE} {i : Nat} {x : Str} {px spos : Pos} (hN : X.N.Nodup) (hi' : X.N[i]? = some x) (hx : X.env.scope.names.lookup x = some .local)
    (hsw : swapsWith (.ListComp elt [⟨tg, iter, ifs, 0⟩] scope pos) (some (.Name x px)) spos.line X.env = pure true)
    (osc : Scope) (NX own : List Str) (fr : List Nat) (N : List Str) (hc : X.calm = true)
    (hi : PI X tg iter wi) (hg : ∀ cl C s₀ H₀ ex, PG (cxC X scope N cl C s₀ H₀ ex) tg g) (ht : ∀ cl C s₀ H₀ ex, PTs (cxC X scope N cl C s₀ H₀ ex) ifs tc) (he : ∀ cl C s₀ H₀ ex, PE (cxC X scope N cl C s₀ H₀ ex) elt te)
    (hs : ∀ x, foldedSetIterable iter X.env x = pure x := by intro _; rfl) (hosc : X.env.scope = osc := by rfl) (hNX : X.N = NX := by rfl) (hS : compOk osc scope NX own fr N = true := by decide +kernel) :
    PS X (.Assign [.Name x px] (.ListComp elt [⟨tg, iter, ifs, 0⟩] scope pos) spos) (tAsg (tComp own.length fr wi g tc te) (gName i)) := by
  intro pins s σ H D I h
  have S : CompSc X.env.scope scope X.N own fr N := by rw [hosc, hNX]; exact CompSc.of hS
  obtain ⟨cl, ecl, c1, c2⟩ := clos_ok (scope := scope) (env := X.env) fun y hy hf => I.ok.has y.1 (S.free y hy hf)
  rw [exec_Assign_Name_used _ _ _ _ hsw]
  refine wpAny_bind (wpAny_standAt (wpAny_bind ?_))
  show wpAny _ X.A (do let _ ← comprehension (.ListComp elt [⟨tg, iter, ifs, 0⟩] scope pos) scope X.env _ (newList []) false (eval iter X.env) (some (assign (.Name x px) X.env))) _ _ s
  refine wpAny_bind (thn (wpAny_comprehension_free (use := some (assign (.Name x px) X.env)) (Q := fun _ s' => SP X pins D .next s') rfl hs ecl S.kind S.loc (thn (hi pins s σ H _ I h) fun v s1 h1 => thn h1 fun itv s2 h2 => ?_)) fun _ s' hq => wpAny_pure (wpAny_pure hq))
  obtain ⟨it, fp, tn, J, H2, e, I2, T, t2, f2, q⟩ := h2
  subst e
  refine comp_block (POST := fun acc C => compPost (model X.prog X.w) X.A X.xe (some (assign (.Name x px) X.env)) (fun _ s' => SP X pins D .next s') acc C) hc S c1 c2 (hg cl) (ht cl) (he cl) I2 T t2 f2 q fun D' C s' H' m I' fC ns q' => ?_
  show wpAny _ X.A (assign (.Name x px) X.env (.ref D')) _ _ s'
  refine wpAny_assign_Name (store_ok2 I' hN hi' (.inl hx) (show RelV (.ref D') (.ref D') from rfl) (fun s3 I3 sb => ?_) (.inr hx))
  obtain ⟨a, sb, ha⟩ := sb
  obtain ⟨g0, g1, g2, g3, g4, g5⟩ := fC
  have aC : C ≠ a := by
    rcases ha with z | z
    · rw [z]; exact g1
    · exact fun w => g4 x a z w.symm
  refine ⟨m, ns.sameBut sb aC, fun h' sb' => ⟨_, H', ?_, q'⟩⟩
  exact I3.turned (t' := s3.toks) (fun b o hb e => (sb'.2 b hb).trans e) g0 g1 g3 g4 g5
end
end L2
namespace L2
open PySem PySem.Spec PyProof.Rows
noncomputable def sgV (x : Str) (i : Nat) : Option V := (x.cps[i]?).map fun c => V.str ⟨#[c]⟩
noncomputable def Its (x : Str) : It := ⟨fun i _ => i < x.cps.size, fun i H v H' => H' = H ∧ sgV x i = some v, fun i _ => x.cps.size ≤ i⟩
theorem turn_signs {P : Program} {w : World} {K : PySem.W.Frag} {tg : Expr} (T : String) (it : Addr) (x : Str) (t : Tok)
    (hn : ["enumerate", "zip", "dict_itemiterator", "dict_reverseitemiterator", "odict_iterator", "itertools.zip_longest", "itertools.pairwise"].contains T = false)
    (W : ∀ A : Around, A.handled = none → Walks P w A it [it] [it] x.cps.size (SignAt x) (fun i h => h.IsStrIter it T x t i))
    (hs : ∀ (A : Around) (i : Nat) (s : Shared) (Q : Value → Shared → Prop) (E : Value → Shared → Prop), s.heap.IsStrIter it T x t i → Q (.ref it) s → wpAny (model P w) A (pyIter (.ref it)) Q E s) :
    Turn P w K tg (Its x) [it] it (fun i h => h.IsStrIter it T x t i ∧ i ≤ x.cps.size) where
  mem := by simp
  obj := fun i h st b hb => by
    have e : b = it := by simpa using hb
    subst e
    obtain ⟨o, e, c, d⟩ := st.1
    exact ⟨o, e, fun v z => by rw [d] at z; cases z⟩
  keep := fun i h h' st k => ⟨by
    obtain ⟨o, e, c⟩ := st.1
    exact ⟨o, k it (by simp) o e, c⟩, st.2⟩
  item := by
    intro X hP hw hK hc i pins s σ H E I hf st hg
    subst hP hw hK
    obtain ⟨f0, f1, f2, f3, f4, f5⟩ := hf it (by simp)
    refine (W X.A (I.ok.hd hc)).item i s _ _ hg st.1 fun v h' tk hv st' kk => ?_
    obtain ⟨c, u, hcp, rfl⟩ := hv
    have I1 : Inv X pins σ H { s with heap := h', toks := tk } := I.turned (fun b o hb e => kk b o (by simpa using hb) e) f0 f1 f3 f4 f5
    obtain ⟨o, e, cc, d⟩ := id st'
    refine ⟨_, rfl, go_of (s := { s with heap := h', toks := tk }) e cc d hn ⟨.str ⟨#[c]⟩, H, I1, ⟨u, rfl⟩, ⟨rfl, ?_⟩, ⟨st', ?_⟩, fun b hb => (hf b hb).1⟩⟩
    · unfold sgV; rw [hcp]; rfl
    · exact hg
  done := by
    intro X hP hw hK hc i pins s σ H E I hf st hg
    subst hP hw hK
    obtain ⟨f0, f1, f2, f3, f4, f5⟩ := hf it (by simp)
    have e : i = x.cps.size := Nat.le_antisymm st.2 hg
    subst e
    exact (W X.A (I.ok.hd hc)).done s _ _ st.1 fun h' tk kk => ⟨rfl, I.turned (fun b o hb e => kk b o (by simpa using hb) e) f0 f1 f3 f4 f5⟩
  self := fun A i s Q E st h => hs A i s Q E st.1 h
noncomputable def iStr (tl : TE) : TI := fun σ H R => tl σ H fun x H1 => ∃ z, x = .str z ∧ R (Its z) H1
theorem pi_str {X : Cx} {tg l : Expr} {tl : TE} (hl : PE X l tl) : PI X tg l (iStr tl) := by
  intro pins s σ H R I h
  refine thn (hl pins s σ H _ I h) fun v s1 ⟨x, H1, I1, r1, q1⟩ => ?_
  obtain ⟨z, e, q⟩ := q1
  subst e
  obtain ⟨t, rfl⟩ := r1
  have fin : ∀ (T : String), ["enumerate", "zip", "dict_itemiterator", "dict_reverseitemiterator", "odict_iterator", "itertools.zip_longest", "itertools.pairwise"].contains T = false →
      (∀ A : Around, A.handled = none → Walks X.prog X.w A s1.heap.objs.size [s1.heap.objs.size] [s1.heap.objs.size] z.cps.size (SignAt z) (fun i h => h.IsStrIter s1.heap.objs.size T z t i)) →
      (∀ (A : Around) (i : Nat) (s : Shared) (Q : Value → Shared → Prop) (E : Value → Shared → Prop), s.heap.IsStrIter s1.heap.objs.size T z t i → Q (.ref s1.heap.objs.size) s → wpAny (model X.prog X.w) A (pyIter (.ref s1.heap.objs.size)) Q E s) →
      PIE X pins σ tg R (.ref s1.heap.objs.size) { s1 with heap := s1.heap.push { cls := .type T, data := .fields #[.str z t, .int 0 0] } } := fun T hn W hs => by
    refine ⟨_, [s1.heap.objs.size], _, _, H1, rfl, I1.kept (t' := s1.toks) fun b o e => Heap.get?_push_of_some _ e, turn_signs T _ z t hn W hs, ⟨⟨_, Heap.get?_push_size _ rfl, rfl, rfl⟩, Nat.zero_le _⟩, fun b hb => ?_, q⟩
    have e : b = s1.heap.objs.size := by simpa using hb
    subst e
    exact I1.fpOk (Nat.le_refl _) (I1.hok.fresh (Nat.le_refl _))
  cases ha : z.cps.all (· < 128)
  · exact wpAny_pyIter_wide ha (fin "str_iterator" (by decide) (fun A hA => Walks.strWide hA _ z t) fun A i s Q E st h => wpAny_pyIter_striter_wide st h)
  · exact wpAny_pyIter_ascii ha (fin "str_ascii_iterator" (by decide) (fun A hA => Walks.strAscii hA _ z t) fun A i s Q E st h => wpAny_pyIter_striter_ascii st h)
noncomputable def Ite (K : PySem.W.Frag) (a : Addr) : It :=
  ⟨fun i H => ∃ xs x, SqL K H a xs ∧ xs[i]? = some x, fun i H v H' => ∃ p x, H p = none ∧ v = .ref p ∧ (∀ xs, SqL K H a xs → xs[i]? = some x) ∧ H' = upd H p (.tup [.int i, x]), fun i H => ∃ xs, SqL K H a xs ∧ xs.length ≤ i⟩
theorem turn_enum {P : Program} {w : World} {K : PySem.W.Frag} {elts : List Expr} {k : Nat} {tp : Pos} (a e it : Addr) (hne : e ≠ it) :
    Turn P w K (.Tuple elts k tp) (Ite K a) [e, it] e (fun i h => (∃ old, IsEnum h e it i old) ∧ h.IsListIter it a i) where
  mem := by simp
  obj := fun i h st b hb => by
    obtain ⟨⟨old, he⟩, hit⟩ := st
    have hb : b = e ∨ b = it := by simpa using hb
    rcases hb with z | z
    · subst z
      exact ⟨_, he, fun v z => by cases z⟩
    · subst z
      obtain ⟨o, e1, c, d⟩ := hit
      exact ⟨o, e1, fun v z => by rw [d] at z; cases z⟩
  keep := fun i h h' st kk => by
    obtain ⟨⟨old, he⟩, hit⟩ := st
    exact ⟨⟨old, kk e (by simp) _ he⟩, hit.at fun o q => kk it (by simp) o q⟩
  item := by
    intro X hP hw hK hc i pins s σ H E I hf st hg
    subst hP hw hK
    obtain ⟨⟨old, he⟩, hit⟩ := st
    obtain ⟨xs, x, hq, hx⟩ := hg
    obtain ⟨its, rv, p, hz⟩ := I.list hq
    obtain ⟨u, hu, ru⟩ := rv.get hx
    obtain ⟨f0, f1, f2, f3, f4, f5⟩ := hf e (by simp)
    obtain ⟨g0, g1, g2, g3, g4, g5⟩ := hf it (by simp)
    refine wpAny_pyNext_enum_item he hit p.isList (x := u) (by simpa using hu) hne fun h1 ho hit1 ht1 hz1 k1 => ?_
    have hel : e < s.heap.objs.size := Heap.lt_size he
    have hil : it < s.heap.objs.size := by obtain ⟨o, q, _⟩ := hit; exact Heap.lt_size q
    refine ⟨_, rfl, wpAny_letOwnedTupleGo_enum ho fun h2 he2 sb2 => ?_⟩
    have sb2 : Heap.SameBut e h1 h2 := sb2
    have T2 : h2.get? s.heap.objs.size = some { cls := .type "tuple", data := .seq #[.int i s.toks, u] } := (sb2.2 _ (Nat.ne_of_gt hel)).trans ht1
    have hp : H s.heap.objs.size = none := I.hok.fresh (Nat.le_refl _)
    have nit : ∀ b v, H b = some v → b ≠ e ∧ b ≠ it := fun b v q => ⟨fun z => (by rw [z, f0] at q; cases q), fun z => (by rw [z, g0] at q; cases q)⟩
    have kk : ∀ b o, b ≠ e → b ≠ it → s.heap.get? b = some o → h2.get? b = some o := fun b o n1 n2 q => (sb2.2 b n1).trans (k1 b o n1 n2 q)
    have up : ∀ b v, H b = some v → upd H s.heap.objs.size (.tup [.int i, x]) b = some v := fun b v q => by rw [upd_ne (ne_of_none q hp)]; exact q
    have I1 : Inv X pins σ (upd H s.heap.objs.size (.tup [.int i, x])) { s with heap := h2, gens := s.gens, drawn := s.drawn, toks := s.toks + 1 } := by
      refine I.step (g' := s.gens) (d' := s.drawn) (ch := [e, it]) (fun b hb => ?_) (fun b o _ _ hb q _ => kk b o (fun z => hb (by simp [z])) (fun z => hb (by simp [z])) q) (fun b o _ _ hb q _ => ⟨o.slots, kk b o (fun z => hb (by simp [z])) (fun z => hb (by simp [z])) q⟩) (fun b o _ q n => ?_)
        (fun b o hb q => ⟨o, kk b o (fun z => hb (by simp [z])) (fun z => hb (by simp [z])) q⟩) (fun b ys q => up b _ q) (fun b o v q => up b _ q) (fun b ps q => ⟨#[], by rw [up b _ q]; simp⟩) (fun m hm => ?_) (fun b v q => ?_) I.bare
      · have hb : b = e ∨ b = it := by simpa using hb
        rcases hb with z | z
        · subst z; exact ⟨f3, f1, f4, f5⟩
        · subst z; exact ⟨g3, g1, g4, g5⟩
      · rw [upd_ne (Nat.ne_of_lt (Heap.lt_size q))]; exact n
      · obtain ⟨o, es, ep, ho, r⟩ := hm
        exact ⟨o, es, ep, kk _ o (Ne.symm f1) (Ne.symm g1) ho, r⟩
      · by_cases hb : b = s.heap.objs.size
        · subst hb
          rw [upd_same] at q
          have q' : HO.tup [V.int i, x] = v := Option.some.inj q
          subst q'
          exact ⟨by show 2 ≤ sizeLine; decide, [.int i s.toks, u], .cons ⟨_, rfl⟩ (.cons ru .nil), ⟨_, T2, rfl, _, rfl, rfl⟩⟩
        · rw [upd_ne hb] at q
          refine (I.hok b v q).stay (fun c v' hc q' => ?_) (fun c q => up c _ q) fun c ys q => up c _ q
          rcases hc with z | z
          · rw [z] at q' ⊢; exact kk b v' (nit b v q).1 (nit b v q).2 q'
          · exact kk c v' (nit c _ z).1 (nit c _ z).2 q'
    refine ⟨.ref s.heap.objs.size, upd H s.heap.objs.size (.tup [.int i, x]), I1, rfl, ⟨_, x, hp, rfl, fun ys hy => by rw [I.list_inj hy hq]; exact hx, rfl⟩, ⟨⟨u, ?_⟩, ?_⟩, fun b hb => ?_⟩
    · exact (by simpa using he2)
    · exact hit1.at fun o q => (sb2.2 it (Ne.symm hne)).trans q
    · have hb : b = e ∨ b = it := by simpa using hb
      rcases hb with z | z
      · rw [z, upd_ne (Nat.ne_of_lt hel)]; exact f0
      · rw [z, upd_ne (Nat.ne_of_lt hil)]; exact g0
  done := by
    intro X hP hw hK hc i pins s σ H E I hf st hg
    subst hP hw hK
    obtain ⟨⟨old, he⟩, hit⟩ := st
    obtain ⟨xs, hq, hx⟩ := hg
    obtain ⟨its, rv, p, hz⟩ := I.list hq
    obtain ⟨g0, g1, g2, g3, g4, g5⟩ := hf it (by simp)
    have hl := rv.length
    exact wpAny_pyNext_enum_end (I.ok.hd hc) he hit p.isList (by simp; omega) fun h' eb => ⟨rfl, I.turned (t' := s.toks) (fun b o hb q => eb b o hb q) g0 g1 g3 g4 g5⟩
  self := fun _ _ _ _ _ st h => by
    obtain ⟨⟨old, he⟩, _⟩ := st
    exact wpAny_pyIter_enum he h
end L2
namespace L2
open PySem PySem.Spec PyProof.Rows
mutual
inductive Rep (H : Hp) : V → PyData → Prop
  | non : Rep H .non .none
  | bl (b : Bool) : Rep H (.bl b) (.bool b)
  | int (i : Int) : Rep H (.int i) (.int i)
  | str (x : Str) : Rep H (.str x) (.str x)
  | lst {a : Addr} {xs : List V} {ds : List PyData} : H a = some (.lst xs) → RepAll H xs ds → Rep H (.ref a) (.list ds)
  | tup {a : Addr} {xs : List V} {ds : List PyData} : H a = some (.tup xs) → RepAll H xs ds → Rep H (.ref a) (.tuple ds)
inductive RepAll (H : Hp) : List V → List PyData → Prop
  | nil : RepAll H [] []
  | cons {x : V} {xs : List V} {d : PyData} {ds : List PyData} : Rep H x d → RepAll H xs ds → RepAll H (x :: xs) (d :: ds)
end
mutual
theorem Rep.reads {P : Program} {w : World} {H : Hp} {h : Heap} (ok : HOk P w H h) : ∀ {v : V} {d : PyData} {u : Value}, Rep H v d → RelV v u → ∃ as, Reads h u d as
  | _, _, _, .non, r => by cases r; exact ⟨_, .none⟩
  | _, _, _, .bl b, r => by cases r; exact ⟨_, .bool b⟩
  | _, _, _, .int i, r => by obtain ⟨t, rfl⟩ := r; exact ⟨_, .int i t⟩
  | _, _, _, .str x, r => by obtain ⟨t, rfl⟩ := r; exact ⟨_, .str x t⟩
  | _, _, _, .lst (a := a) (xs := xs) e rs, r => by
    cases r
    obtain ⟨_, its, n, rv, eh⟩ := (show ObjOk P w H h a (.lst xs) from ok a _ e)
    obtain ⟨as, z⟩ := RepAll.reads ok rs rv
    exact ⟨_, .list eh rfl rfl (by simpa using z)⟩
  | _, _, _, .tup (a := a) (xs := xs) e rs, r => by
    cases r
    obtain ⟨_, its, rv, o, eh, hc, n, hd, _⟩ := (show ObjOk P w H h a (.tup xs) from ok a _ e)
    obtain ⟨as, z⟩ := RepAll.reads ok rs rv
    exact ⟨_, .tuple eh hc hd (by simpa using z)⟩
theorem RepAll.reads {P : Program} {w : World} {H : Hp} {h : Heap} (ok : HOk P w H h) : ∀ {vs : List V} {ds : List PyData} {us : List Value}, RepAll H vs ds → Vals vs us → ∃ as, ReadsAll h us ds as
  | _, _, _, .nil, r => by cases r; exact ⟨_, .nil⟩
  | _, _, _, .cons q qs, r => by
    cases r with
    | cons r1 r2 =>
      obtain ⟨as, z⟩ := Rep.reads ok q r1
      obtain ⟨bs, zs⟩ := RepAll.reads ok qs r2
      exact ⟨_, .cons z zs⟩
end
mutual
theorem Rep.same {H H' : Hp} (s : Same H H') : ∀ {v : V} {d : PyData}, Rep H v d → Rep H' v d
  | _, _, .non => .non
  | _, _, .bl b => .bl b
  | _, _, .int i => .int i
  | _, _, .str x => .str x
  | _, _, .lst e rs => .lst (s _ _ e) (rs.same s)
  | _, _, .tup e rs => .tup (s _ _ e) (rs.same s)
theorem RepAll.same {H H' : Hp} (s : Same H H') : ∀ {vs : List V} {ds : List PyData}, RepAll H vs ds → RepAll H' vs ds
  | _, _, .nil => .nil
  | _, _, .cons q qs => .cons (q.same s) (qs.same s)
end
section
variable {X : Cx}
noncomputable def shp (d : PyData) : Prop := SeqAt.shaped d = true
noncomputable def rEqD : R2 := fun x y H Q => ∃ da db, Rep H x da ∧ Rep H y db ∧ shp da ∧ shp db ∧ Q (.bl (PyData.eqv da db)) H
noncomputable def rNeD : R2 := fun x y H Q => ∃ da db, Rep H x da ∧ Rep H y db ∧ shp da ∧ shp db ∧ Q (.bl (!PyData.eqv da db)) H
theorem op_eqD (hu : X.A.units + 64 < cLine) : OpR X (compareOp .Eq) rEqD := by
  intro pins s σ H x y v u Q I rx ry h
  obtain ⟨da, db, ra, rb, sa, sb, q⟩ := h
  obtain ⟨as, za⟩ := ra.reads I.hok rx
  obtain ⟨bs, zb⟩ := rb.reads I.hok ry
  exact eq_dataH za zb sa sb hu ⟨.bl _, H, I, rfl, q⟩
theorem op_neD (hu : X.A.units + 64 < cLine) : OpR X (compareOp .NotEq) rNeD := by
  intro pins s σ H x y v u Q I rx ry h
  obtain ⟨da, db, ra, rb, sa, sb, q⟩ := h
  obtain ⟨as, za⟩ := ra.reads I.hok rx
  obtain ⟨bs, zb⟩ := rb.reads I.hok ry
  exact ne_dataH za zb sa sb hu ⟨.bl _, H, I, rfl, q⟩
theorem op_le_str : OpR X (compareOp .LtE) (fun x y H Q => ∃ i j, x = .str i ∧ y = .str j ∧ Q (.bl (!decide (j.cps.toList < i.cps.toList))) H) := by
  intro pins s σ H x y v u Q I rx ry h
  obtain ⟨i, j, rfl, rfl, q⟩ := h
  obtain ⟨t, rfl⟩ := rx
  obtain ⟨t', rfl⟩ := ry
  exact PySem.P.le_str (fin_bl I q (by simp))
theorem all_range (bs : List Bool) : ((List.range bs.length).all fun i => bs.getD i false) = bs.all id := by
  rw [Bool.eq_iff_iff, List.all_eq_true, List.all_eq_true]
  constructor
  · intro h b hb
    obtain ⟨i, hi, rfl⟩ := List.mem_iff_getElem.mp hb
    have := h i (by simpa using hi)
    simpa [List.getD_eq_getElem?_getD, hi] using this
  · intro h i hi
    have hi : i < bs.length := by simpa using hi
    have := h bs[i] (List.getElem_mem hi)
    simpa [List.getD_eq_getElem?_getD, hi] using this
theorem vals_bl {bs : List Bool} {its : List Value} (r : Vals (bs.map V.bl) its) {i : Nat} {v : Value} (e : its[i]? = some v) : v = .bool (bs.getD i false) := by
  have hl := r.length
  rw [List.length_map] at hl
  have hi : i < bs.length := by rw [hl]; exact (List.getElem?_eq_some_iff.mp e).1
  obtain ⟨u, hu, ru⟩ := r.get (i := i) (x := V.bl (bs.getD i false)) (by rw [List.getElem?_map]; simp [List.getD_eq_getElem?_getD, hi])
  rw [e] at hu
  cases hu
  exact ru
theorem call_all_bl (hc : X.calm = true) : CallR X (.builtin "all") (fun xs H Q => ∃ p bs, xs = [.ref p] ∧ H p = some (.lst (List.map V.bl bs)) ∧ Q (.bl (bs.all id)) H) := by
  intro pins s σ H xs us Q I r h
  obtain ⟨p, bs, rfl, e, q⟩ := h
  obtain ⟨u, rfl, ru⟩ := vals1 r
  cases ru
  obtain ⟨hz, its, n, rv, eh⟩ := (show ObjOk X.prog X.w H s.heap p (.lst (List.map V.bl bs)) from I.hok p _ e)
  have hl : s.heap.IsList p its.toArray := ⟨_, eh, rfl, n, rfl⟩
  have hlen : its.length = bs.length := by have := rv.length; rw [List.length_map] at this; exact this.symm
  have hpl : p < s.heap.objs.size := Heap.lt_size eh
  refine call_all_walk (wpAny_pyIter_list hl ?_)
  refine ⟨s.heap.objs.size, [s.heap.objs.size, p], [s.heap.objs.size], its.toArray.size, _, _, fun i => bs.getD i false, rfl,
    Walks.list (A := X.A.in1) (I.ok.hd hc) _ p (Nat.ne_of_lt hpl) its.toArray, ⟨⟨_, Heap.get?_push_size _ rfl, rfl, rfl⟩, ⟨_, Heap.get?_push_of_some _ eh, rfl, n, rfl⟩⟩, ?_, fun h' tk hk => ?_⟩
  · intro i v s' Q' E' hv hQ'
    have hv : its[i]? = some v := by simpa using hv
    rw [vals_bl rv hv]
    exact wpAny_pure hQ'
  · refine ⟨.bl _, H, I.kept fun b o eb => hk b o (by simpa using Nat.ne_of_lt (Heap.lt_size eb)) (Heap.get?_push_of_some _ eb), rfl, ?_⟩
    rw [List.size_toArray, hlen, all_range]
    exact q
noncomputable def rIsi (K : PySem.W.Frag) (c : String) : List V → Hp → VK → Prop := fun xs H Q => ∃ x t b, xs = [x, .ty c] ∧ TyOf K H x t ∧ PySem.W.kitOne K t (.type c) = some b ∧ Q (.bl b) H
theorem call_isi (c : String) : CallR X (.builtin "isinstance") (rIsi X.K c) := by
  intro pins s σ H xs us Q I r h
  obtain ⟨x, t, b, rfl, ty, e, q⟩ := h
  obtain ⟨u, w', rfl, ru, rw'⟩ := vals2 r
  cases rw'
  exact isinst_ok I ru ty e fun tk => ⟨.bl b, H, I.tok tk, rfl, q⟩
noncomputable def rRepr : List V → Hp → VK → Prop := fun xs H Q => ∃ x d, xs = [x] ∧ Rep H x d ∧ d.showable = true ∧ d.hasDict = false ∧ d.depth ≤ 16 ∧ d.shown.length ≤ sizeLine ∧ Q (.str d.shown) H
theorem call_repr_tree (hg : X.A.guards = some []) (hu : X.A.units + 64 < cLine) : CallR X (.builtin "repr") rRepr := by
  intro pins s σ H xs us Q I r h
  obtain ⟨x, d, rfl, rep, hs, hd, hdp, hz, q⟩ := h
  obtain ⟨u, rfl, ru⟩ := vals1 r
  have rd := rep.reads I.hok ru
  have byRef : ∀ a, u = .ref a → wpAny (model X.prog X.w) X.A (call (.builtin "repr") [.ref a]) (EP X pins σ Q) X.xe s := fun a e => by
    subst e
    obtain ⟨as, rd⟩ := rd
    exact repr_of_reads' rd hs (PyData.noDict_hsm hd) hg (by omega) (fun _ _ e => e) (fun h' u' tk hk => ⟨.str _, H, I.kept hk, ⟨u', rfl⟩, q⟩) hz
  cases rep with
  | non => cases ru; exact PySem.P.repr_of_none ⟨.str _, H, I.tok _, ⟨_, rfl⟩, q⟩
  | bl b => cases ru; exact PySem.P.repr_of_bool ⟨.str _, H, I.tok _, ⟨_, rfl⟩, q⟩
  | int i =>
    obtain ⟨t, rfl⟩ := ru
    exact PySem.P.repr_of_int (by simpa [PyData.showable] using hs) ⟨.str _, H, I.tok _, ⟨_, rfl⟩, q⟩
  | str y =>
    obtain ⟨t, rfl⟩ := ru
    exact PySem.P.repr_of_str ⟨.str _, H, I.tok _, ⟨_, rfl⟩, q⟩ hz
  | lst e rs => cases ru; exact byRef _ rfl
  | tup e rs => cases ru; exact byRef _ rfl
noncomputable def isFl : V → Bool
  | .non | .bl _ | .int _ | .str _ => true
  | _ => false
noncomputable def flD : V → PyData
  | .bl b => .bool b
  | .int i => .int i
  | .str x => .str x
  | _ => .none
theorem fl_reads {h : Heap} {v : V} {u : Value} (f : isFl v = true) (r : RelV v u) : Reads h u (flD v) [] := by
  cases v with
  | non => cases r; exact .none
  | bl b => cases r; exact .bool b
  | int i => obtain ⟨t, rfl⟩ := r; exact .int i t
  | str x => obtain ⟨t, rfl⟩ := r; exact .str x t
  | _ => cases f
theorem fl_pairs {P : Program} {w : World} {h : Heap} : ∀ {kvs : List (Key × V)} {vs : List (Key × Value)} {es : List DictEntry}, KV kvs vs → Pairs (mixKind P w) es vs → kvs.all (fun p => isFl p.2) = true →
    ReadsAll h (es.map (·.key)) ((kvs.map fun p => (flD (kV p.1), flD p.2)).map (·.1)) [] ∧ ReadsAll h (es.map (·.val)) ((kvs.map fun p => (flD (kV p.1), flD p.2)).map (·.2)) []
  | [], _, _, r, q, _ => by
    cases r
    cases q
    exact ⟨.nil, .nil⟩
  | p :: kvs, vs, es, r, q, f => by
    cases r with
    | @cons _ b _ vs' r1 r2 =>
      cases q with
      | cons qk qv q2 =>
        rw [List.all_cons, Bool.and_eq_true] at f
        obtain ⟨a1, a2⟩ := fl_pairs r2 q2 f.2
        rename_i en es'
        have k1 : Reads h en.key (flD (kV p.1)) [] := by
          have hk := qk
          rw [← r1.1] at hk
          rcases keyIs_shape hk with ⟨i, t, e1, e2⟩ | ⟨x, t, e1, e2⟩
          · rw [e1, e2]; exact .int i t
          · rw [e1, e2]; exact .str x t
        have v1 : Reads h en.val (flD p.2) [] := by
          rw [qv]
          exact fl_reads f.1 r1.2
        exact ⟨.cons k1 a1, .cons v1 a2⟩
noncomputable def dictD (kvs : List (Key × V)) : PyData := .dict (kvs.map fun p => (flD (kV p.1), flD p.2))
theorem any_readOf {P : Program} {w : World} {H : Hp} {h : Heap} (ok : HOk P w H h) {d : PyData} : ∀ {xs : List V} {ds : List PyData} {us : List Value}, RepAll H xs ds → Vals xs us → PyData.canLayAll0 ds = true → us.any (fun u => PyData.eqv (SeqAt.readOf h u) d) = ds.any fun e => PyData.eqv e d
  | _, _, _, .nil, r, _ => by cases r; rfl
  | _, _, _, .cons q qs, r, hl => by
    cases r with
    | cons r1 r2 =>
      have hl' := Bool.and_eq_true_iff.mp (show (PyData.canLay0 _ && PyData.canLayAll0 _) = true from hl)
      obtain ⟨as, z⟩ := q.reads ok r1
      rw [List.any_cons, List.any_cons, SeqAt.readOf_eq hl'.1 z, any_readOf ok qs r2 hl'.2]
theorem mem_readOf {P : Program} {w : World} {H : Hp} {A : Around} {s : Shared} (ok : HOk P w H s.heap) {d : PyData} {x : V} {v : Value} {bs : List Addr} (zx : Reads s.heap v d bs) (hd : d.canLay0 = true) (hu : A.units + d.depth < cLine) :
    ∀ {xs : List V} {ds : List PyData} {us : List Value}, RepAll H xs ds → Vals xs us → PyData.canLayAll0 ds = true → ∀ u ∈ us, SeqAt.EqAt A s u v (PyData.eqv (SeqAt.readOf s.heap u) d)
  | _, _, _, .nil, r, _ => by cases r; intro u hu; cases hu
  | _, _, _, .cons q qs, r, hl => by
    cases r with
    | cons r1 r2 =>
      have hl' := Bool.and_eq_true_iff.mp (show (PyData.canLay0 _ && PyData.canLayAll0 _) = true from hl)
      intro u hm
      rcases List.mem_cons.mp hm with rfl | hm
      · obtain ⟨as, z⟩ := q.reads ok r1
        rw [SeqAt.readOf_eq hl'.1 z]
        exact SeqAt.eqAt_reads _ _ _ _ _ _ _ _ z zx hl'.1 hd (Nat.lt_of_le_of_lt (Nat.add_le_add_left (Nat.min_le_right _ _) _) hu)
      · exact mem_readOf (x := x) ok zx hd hu qs r2 hl'.2 u hm
noncomputable def rInD (neg : Bool) : R2 := fun x y H Q => ∃ p xs ds d, y = .ref p ∧ H p = some (.lst xs) ∧ RepAll H xs ds ∧ Rep H x d ∧ PyData.canLayAll0 ds = true ∧ d.canLay0 = true ∧ d.depth ≤ 16 ∧
  Q (.bl (if neg then !(ds.any fun e => PyData.eqv e d) else ds.any fun e => PyData.eqv e d)) H
theorem op_inD (hu : X.A.units + 64 < cLine) : OpR X (compareOp .In) (rInD false) := by
  intro pins s σ H x y v u Q I rx ry h
  obtain ⟨p, xs, ds, d, rfl, e, rs, r, cs, c, dp, q⟩ := h
  cases ry
  obtain ⟨_, its, n, rv, eh⟩ := (show ObjOk X.prog X.w H s.heap p (.lst xs) from I.hok p _ e)
  obtain ⟨bs, zx⟩ := r.reads I.hok rx
  refine SeqAt.in_listAt (fun u => PyData.eqv (SeqAt.readOf s.heap u) d) ⟨_, eh, rfl, n, rfl⟩ (fun w hw => mem_readOf (x := x) I.hok zx c (by show X.A.units + 1 + d.depth < cLine; omega) rs rv cs w (by simpa using hw)) ⟨.bl _, H, I, rfl, ?_⟩
  rw [show its.toArray.any (fun u => PyData.eqv (SeqAt.readOf s.heap u) d) = its.any (fun u => PyData.eqv (SeqAt.readOf s.heap u) d) by simp, any_readOf I.hok rs rv cs]
  exact q
end
end L2
namespace L2
open PySem PySem.Spec PyProof.Rows
structure Cal (P : Program) (w : World) (K : PySem.W.Frag) (mg : Str → Option Value) (base : Heap) (k : Nat) (x : Str) (ps : List Str) (sp : Sp) : Prop where
  ex : ∃ (f : Addr) (fd : FuncData), FnOk P w K mg base CX0 k f fd ps sp ∧ mg x = some (.ref f) ∧ PySem.W.keepIn K (.ref f) = true ∧ Binds K fd ps []
section
variable {X : Cx} {x : Str} {ps : List Str} {sp : Sp} {k j : Nat} {p pos : Pos} {e : Expr} {es : List Expr} {t : TA}
theorem pe_cal (c : Cal X.prog X.w X.K X.mg X.base k x ps sp) (hr : Room k X.A) (hg : Gl X x) (ha : PA X (e :: es) t)
    (hs : starEach (e :: es) X.env = (false, eval e X.env) :: starEach es X.env := by rfl) (hpl : (backTo pos (starEach es X.env)).any (·.1) = false := by rfl) (hdb : (x == ("__debug__" : Str)) = false := by decide) :
    PE X (.Call (.Name x p) (e :: es) [] pos) (tCall sp [] E0 t) := by
  obtain ⟨f, fd, G, mf, kp, b⟩ := c.ex
  exact pe_call G hr hg mf kp b .nil pass0 ha (hdb := hdb) (he := hs) (hpl := hpl)
end
section
variable {X : Cx}
inductive AddR (H : Hp) : V → V → VK → Prop
  | int {i j : Int} {Q : VK} : Q (.int (i + j)) H → AddR H (.int i) (.int j) Q
  | str {i j : Str} {Q : VK} : i.length + j.length ≤ sizeLine → Q (.str (i ++ j)) H → AddR H (.str i) (.str j) Q
  | lst {l b : Addr} {xs zs : List V} {Q : VK} : H l = some (.lst xs) → H b = some (.lst zs) → xs.length + zs.length ≤ sizeLine → (∀ p, H p = none → Q (.ref p) (upd H p (.lst (xs ++ zs)))) → AddR H (.ref l) (.ref b) Q
theorem op_addX : OpR X (binaryOp .Add) (fun x y H Q => AddR H x y Q) := by
  intro pins s σ H x y v u Q I rx ry h
  cases h with
  | int q => exact op_add pins s σ H _ _ v u Q I rx ry ⟨_, _, rfl, rfl, q⟩
  | str hz q => exact op_add_str pins s σ H _ _ v u Q I rx ry ⟨_, _, rfl, rfl, hz, q⟩
  | lst h1 h2 hz q => exact op_cat pins s σ H _ _ v u Q I rx ry ⟨_, _, _, _, rfl, rfl, h1, h2, hz, q⟩
inductive EqR (neg : Bool) (H : Hp) : V → V → VK → Prop
  | sc {x y : V} {Q : VK} : scal x y = true → Q (.bl (if neg then !decide (x = y) else decide (x = y))) H → EqR neg H x y Q
  | tr {x y : V} {da db : PyData} {Q : VK} : Rep H x da → Rep H y db → shp da → shp db → Q (.bl (if neg then !PyData.eqv da db else PyData.eqv da db)) H → EqR neg H x y Q
theorem op_eqX (hu : X.A.units + 64 < cLine) : OpR X (compareOp .Eq) (fun x y H Q => EqR false H x y Q) := by
  intro pins s σ H x y v u Q I rx ry h
  cases h with
  | sc h q => exact op_eq pins s σ H _ _ v u Q I rx ry ⟨h, q⟩
  | tr ra rb sa sb q => exact op_eqD hu pins s σ H _ _ v u Q I rx ry ⟨_, _, ra, rb, sa, sb, q⟩
theorem op_neX (hu : X.A.units + 64 < cLine) : OpR X (compareOp .NotEq) (fun x y H Q => EqR true H x y Q) := by
  intro pins s σ H x y v u Q I rx ry h
  cases h with
  | sc h q => exact op_ne pins s σ H _ _ v u Q I rx ry ⟨h, q⟩
  | tr ra rb sa sb q => exact op_neD hu pins s σ H _ _ v u Q I rx ry ⟨_, _, ra, rb, sa, sb, q⟩
end
section
variable {X : Cx}
inductive CmR (f : Int → Int → Bool) (g : Str → Str → Bool) (H : Hp) : V → V → VK → Prop
  | int {i j : Int} {Q : VK} : Q (.bl (f i j)) H → CmR f g H (.int i) (.int j) Q
  | str {i j : Str} {Q : VK} : Q (.bl (g i j)) H → CmR f g H (.str i) (.str j) Q
theorem op_leX : OpR X (compareOp .LtE) (fun x y H Q => CmR (fun i j => decide (i ≤ j)) (fun i j => !decide (j.cps.toList < i.cps.toList)) H x y Q) := by
  intro pins s σ H x y v u Q I rx ry h
  cases h with
  | int q => exact op_le pins s σ H _ _ v u Q I rx ry ⟨_, _, rfl, rfl, q⟩
  | str q => exact op_le_str pins s σ H _ _ v u Q I rx ry ⟨_, _, rfl, rfl, q⟩
theorem op_ltX : OpR X (compareOp .Lt) (fun x y H Q => CmR (fun i j => decide (i < j)) (fun i j => decide (i.cps.toList < j.cps.toList)) H x y Q) := by
  intro pins s σ H x y v u Q I rx ry h
  cases h with
  | int q => exact op_lt pins s σ H _ _ v u Q I rx ry ⟨_, _, rfl, rfl, q⟩
  | str q => exact op_lt_str pins s σ H _ _ v u Q I rx ry ⟨_, _, rfl, rfl, q⟩
end
theorem gYes {i : Nat} {v : V} {σ : St} {H : Hp} {A B : St → Hp → Prop} (h : A (σ.set i (some v)) H) : gName i v σ H fun σ2 H3 => tYes σ2 H3 fun b H4 => if b = true then A σ2 H4 else B σ2 H4 := by
  show (if true = true then A (σ.set i (some v)) H else B (σ.set i (some v)) H)
  rw [if_pos rfl]
  exact h
section
variable {K : PySem.W.Frag} {k : Nat} {fr : List Nat} {g : TG} {tc : TT} {te : TE} {σ : St} {H1 : Hp} {Q : VK}
theorem comp_items {J : It} (xs : List V) (Ok : Hp → Prop) (hgo : ∀ i H, Ok H → i < xs.length → J.go i H) (hyl : ∀ i H x H', Ok H → i < xs.length → J.yld i H x H' → H' = H ∧ xs[i]? = some x) (hst : ∀ H, Ok H → J.stop xs.length H)
    (Pv : Addr → Nat → List V → St → Hp → Prop)
    (h : ∀ D, H1 D = none → Pv D 0 [] (inSt k fr σ) (upd H1 D (.lst [])) ∧ (∀ i acc σ' H', i ≤ xs.length → Pv D i acc σ' H' → H' D = some (.lst acc) → Ok H') ∧
      (∀ i acc σ' H' x, xs[i]? = some x → Pv D i acc σ' H' → H' D = some (.lst acc) → g x σ' H' fun σ2 H3 => tc σ2 H3 fun b H4 =>
        if b = true then te σ2 H4 fun y H5 => H5 D = some (.lst acc) ∧ acc.length < sizeLine ∧ Pv D (i + 1) (acc ++ [y]) σ2 (upd H5 D (.lst (acc ++ [y]))) else H4 D = some (.lst acc) ∧ Pv D (i + 1) acc σ2 H4) ∧
      ∀ acc σ' H', Pv D xs.length acc σ' H' → H' D = some (.lst acc) → Q (.ref D) H') : tCompW k fr g tc te J σ H1 Q := by
  intro D hD
  obtain ⟨h0, hok, hs, hd⟩ := h D hD
  refine ⟨fun i m acc σ' H' => m = xs.length - i ∧ i ≤ xs.length ∧ Pv D i acc σ' H', ⟨xs.length, by simp, Nat.zero_le _, h0⟩, ?_⟩
  rintro i m acc σ' H' ⟨rfl, hi, p⟩ hacc
  have ok := hok i acc σ' H' hi p hacc
  by_cases hlt : i < xs.length
  · refine .inr ⟨hgo i H' ok hlt, Pv D (i + 1), fun acc' σ2 H2 p' => ⟨xs.length - (i + 1), by omega, rfl, hlt, p'⟩, fun x H2 y => ?_⟩
    obtain ⟨e, hx⟩ := hyl i H' x H2 ok hlt y
    subst e
    exact hs i acc σ' H2 x hx p hacc
  · have e : i = xs.length := by omega
    subst e
    exact .inl ⟨hst H' ok, hd acc σ' H' p hacc⟩
noncomputable def rngV (n : Nat) : List V := (List.range n).map fun i => V.int (0 + (i : Nat))
theorem comp_range {n : Nat} (Pv : Addr → Nat → List V → St → Hp → Prop)
    (h : ∀ D, H1 D = none → Pv D 0 [] (inSt k fr σ) (upd H1 D (.lst [])) ∧
      (∀ i acc σ' H', i < n → Pv D i acc σ' H' → H' D = some (.lst acc) → g (.int (0 + (i : Nat))) σ' H' fun σ2 H3 => tc σ2 H3 fun b H4 =>
        if b = true then te σ2 H4 fun y H5 => H5 D = some (.lst acc) ∧ acc.length < sizeLine ∧ Pv D (i + 1) (acc ++ [y]) σ2 (upd H5 D (.lst (acc ++ [y]))) else H4 D = some (.lst acc) ∧ Pv D (i + 1) acc σ2 H4) ∧
      ∀ acc σ' H', Pv D n acc σ' H' → H' D = some (.lst acc) → Q (.ref D) H') : tCompW k fr g tc te (Itr 0 n) σ H1 Q := by
  have hl : (rngV n).length = n := by simp [rngV]
  refine comp_items (rngV n) (fun _ => True) (fun i H _ hi => by rw [hl] at hi; exact hi) (fun i H x H' _ hi y => ⟨y.1, ?_⟩) (fun H _ => by show n ≤ (rngV n).length; rw [hl]; exact Nat.le_refl _) Pv fun D hD => ?_
  · rw [hl] at hi
    rw [y.2]
    simp [rngV, hi]
  · obtain ⟨a, b, c⟩ := h D hD
    refine ⟨a, fun _ _ _ _ _ _ _ => trivial, fun i acc σ' H' x hx p hacc => ?_, by rw [hl]; exact c⟩
    have hi : i < n := by rw [← hl]; exact (List.getElem?_eq_some_iff.mp hx).1
    have e : x = V.int (0 + (i : Nat)) := by
      simp [rngV, hi] at hx
      rw [← hx]; simp
    subst e
    exact b i acc σ' H' hi p hacc
theorem comp_list {a : Addr} (xs : List V) (Pv : Addr → Nat → List V → St → Hp → Prop)
    (h : ∀ D, H1 D = none → Pv D 0 [] (inSt k fr σ) (upd H1 D (.lst [])) ∧ (∀ i acc σ' H', i ≤ xs.length → Pv D i acc σ' H' → H' D = some (.lst acc) → SqL K H' a xs) ∧
      (∀ i acc σ' H' x, xs[i]? = some x → Pv D i acc σ' H' → H' D = some (.lst acc) → g x σ' H' fun σ2 H3 => tc σ2 H3 fun b H4 =>
        if b = true then te σ2 H4 fun y H5 => H5 D = some (.lst acc) ∧ acc.length < sizeLine ∧ Pv D (i + 1) (acc ++ [y]) σ2 (upd H5 D (.lst (acc ++ [y]))) else H4 D = some (.lst acc) ∧ Pv D (i + 1) acc σ2 H4) ∧
      ∀ acc σ' H', Pv D xs.length acc σ' H' → H' D = some (.lst acc) → Q (.ref D) H') : tCompW k fr g tc te (Itl K a) σ H1 Q :=
  comp_items xs (fun H => SqL K H a xs) (fun i H q hi => ⟨xs, xs[i], q, by simp [hi]⟩) (fun i H x H' q hi y => ⟨y.1, y.2 xs q⟩) (fun H q => ⟨xs, q, Nat.le_refl _⟩) Pv h
theorem comp_tup {a : Addr} (xs : List V) (Pv : Addr → Nat → List V → St → Hp → Prop)
    (h : ∀ D, H1 D = none → Pv D 0 [] (inSt k fr σ) (upd H1 D (.lst [])) ∧ (∀ i acc σ' H', i ≤ xs.length → Pv D i acc σ' H' → H' D = some (.lst acc) → SqT K H' a xs) ∧
      (∀ i acc σ' H' x, xs[i]? = some x → Pv D i acc σ' H' → H' D = some (.lst acc) → g x σ' H' fun σ2 H3 => tc σ2 H3 fun b H4 =>
        if b = true then te σ2 H4 fun y H5 => H5 D = some (.lst acc) ∧ acc.length < sizeLine ∧ Pv D (i + 1) (acc ++ [y]) σ2 (upd H5 D (.lst (acc ++ [y]))) else H4 D = some (.lst acc) ∧ Pv D (i + 1) acc σ2 H4) ∧
      ∀ acc σ' H', Pv D xs.length acc σ' H' → H' D = some (.lst acc) → Q (.ref D) H') : tCompW k fr g tc te (Itt K a) σ H1 Q :=
  comp_items xs (fun H => SqT K H a xs) (fun i H q hi => ⟨xs, xs[i], q, by simp [hi]⟩) (fun i H x H' q hi y => ⟨y.1, y.2 xs q⟩) (fun H q => ⟨xs, q, Nat.le_refl _⟩) Pv h
noncomputable def signsV (z : Str) : List V := z.cps.toList.map fun c => V.str ⟨#[c]⟩
theorem comp_str {z : Str} (Pv : Addr → Nat → List V → St → Hp → Prop)
    (h : ∀ D, H1 D = none → Pv D 0 [] (inSt k fr σ) (upd H1 D (.lst [])) ∧
      (∀ i acc σ' H' c, z.cps.toList[i]? = some c → Pv D i acc σ' H' → H' D = some (.lst acc) → g (.str ⟨#[c]⟩) σ' H' fun σ2 H3 => tc σ2 H3 fun b H4 =>
        if b = true then te σ2 H4 fun y H5 => H5 D = some (.lst acc) ∧ acc.length < sizeLine ∧ Pv D (i + 1) (acc ++ [y]) σ2 (upd H5 D (.lst (acc ++ [y]))) else H4 D = some (.lst acc) ∧ Pv D (i + 1) acc σ2 H4) ∧
      ∀ acc σ' H', Pv D z.cps.toList.length acc σ' H' → H' D = some (.lst acc) → Q (.ref D) H') : tCompW k fr g tc te (Its z) σ H1 Q := by
  have hl : (signsV z).length = z.cps.toList.length := by simp [signsV]
  refine comp_items (signsV z) (fun _ => True) (fun i H _ hi => by rw [hl] at hi; show i < z.cps.size; simpa using hi) (fun i H x H' _ hi y => ⟨y.1, ?_⟩) (fun H _ => by show z.cps.size ≤ (signsV z).length; rw [hl]; simp) Pv fun D hD => ?_
  · have y2 := y.2
    unfold sgV at y2
    simp only [signsV, List.getElem?_map, Array.getElem?_toList]
    exact y2
  · obtain ⟨a, b, c⟩ := h D hD
    refine ⟨a, fun _ _ _ _ _ _ _ => trivial, fun i acc σ' H' x hx p hacc => ?_, by rw [hl]; exact c⟩
    simp only [signsV, List.getElem?_map] at hx
    cases e : z.cps.toList[i]? with
    | none => rw [e] at hx; cases hx
    | some cc =>
      rw [e] at hx
      cases hx
      exact b i acc σ' H' cc e p hacc
end
noncomputable def But (p : Addr) (H H' : Hp) : Prop := ∀ b o, b ≠ p → H b = some o → H' b = some o
theorem But.refl (p : Addr) (H : Hp) : But p H H := fun _ _ _ h => h
theorem But.trans {p : Addr} {H H1 H2 : Hp} (a : But p H H1) (b : But p H1 H2) : But p H H2 := fun c o n h => b c o n (a c o n h)
theorem But.upd {p : Addr} {H : Hp} {o : HO} : But p H (upd H p o) := fun b o' n h => by rw [upd_ne n]; exact h
theorem But.of_same {p : Addr} {H H' : Hp} (s : Same H H') : But p H H' := fun b o _ h => s b o h
theorem Same.new {H : Hp} {p : Addr} {o : HO} (h : H p = none) : Same H (upd H p o) := fun b o' e => by rw [upd_ne (ne_of_none e h)]; exact e
theorem Rd.but {p : Addr} {H H' : Hp} (b : But p H H') {a : Addr} {u : HO} (n : a ≠ p) (h : Rd H a u) : Rd H' a u := by
  rcases h with h | ⟨o, h⟩
  · exact .inl (b _ _ n h)
  · exact .inr ⟨o, b _ _ n h⟩
theorem SqL.but {K : PySem.W.Frag} {p : Addr} {H H' : Hp} (b : But p H H') {a : Addr} {xs : List V} (n : a ≠ p) (h : SqL K H a xs) : SqL K H' a xs := by
  rcases h with h | h
  · exact .inl (h.but b n)
  · exact .inr h
structure Blt (mg : Str → Option Value) : Prop where
  len : mg "len" = none
  range : mg "range" = none
  abs : mg "abs" = none
  all : mg "all" = none
  repr : mg "repr" = none
  isinstance : mg "isinstance" = none
  str : mg "str" = none
  int : mg "int" = none
  bool : mg "bool" = none
  enumerate : mg "enumerate" = none
  list : mg "list" = none
  tuple : mg "tuple" = none
  dict : mg "dict" = none
  min : mg "min" = none
  max : mg "max" = none
section
variable {X : Cx} {p pos : Pos} {e f : Expr} {t : TA}
noncomputable def rLen (K : PySem.W.Frag) : List V → Hp → VK → Prop := fun xs H Q => ∃ x n, xs = [x] ∧ LenV K x H n ∧ Q (.int n) H
noncomputable def rAbs : List V → Hp → VK → Prop := fun xs H Q => ∃ i, xs = [.int i] ∧ Q (.int (if i < 0 then -i else i)) H
noncomputable def rAll : List V → Hp → VK → Prop := fun xs H Q => ∃ p bs, xs = [.ref p] ∧ H p = some (.lst (List.map V.bl bs)) ∧ Q (.bl (bs.all id)) H
theorem b_len (K : PySem.W.Frag) (B : Blt X.mg) (ha : PA X [e] t) (hg : Gl X "len" := by rfl) (he : starEach [e] X.env = (false, eval e X.env) :: starEach [] X.env := by rfl) (hpl : (backTo pos (starEach [] X.env)).any (·.1) = false := by rfl) (hK : X.K = K := by rfl) : PE X (.Call (.Name "len" p) [e] [] pos) (tCB (rLen K) t) :=
  hK ▸ pe_callB call_len hg B.len PySem.boot_len ha (by decide) (by decide) he hpl
theorem b_abs (B : Blt X.mg) (ha : PA X [e] t) (hg : Gl X "abs" := by rfl) (he : starEach [e] X.env = (false, eval e X.env) :: starEach [] X.env := by rfl) (hpl : (backTo pos (starEach [] X.env)).any (·.1) = false := by rfl) : PE X (.Call (.Name "abs" p) [e] [] pos) (tCB rAbs t) :=
  pe_callB call_abs hg B.abs boot_abs ha (by decide) (by decide) he hpl
theorem b_all (hc : X.calm = true) (B : Blt X.mg) (ha : PA X [e] t) (hg : Gl X "all" := by rfl) (he : starEach [e] X.env = (false, eval e X.env) :: starEach [] X.env := by rfl) (hpl : (backTo pos (starEach [] X.env)).any (·.1) = false := by rfl) : PE X (.Call (.Name "all" p) [e] [] pos) (tCB rAll t) :=
  pe_callB (call_all_bl hc) hg B.all boot_all ha (by decide) (by decide) he hpl
theorem b_isi (K : PySem.W.Frag) (c : String) (B : Blt X.mg) (ha : PA X [e, f] t) (hg : Gl X "isinstance" := by rfl) (he : starEach [e, f] X.env = (false, eval e X.env) :: starEach [f] X.env := by rfl) (hpl : (backTo pos (starEach [f] X.env)).any (·.1) = false := by rfl) (hK : X.K = K := by rfl) : PE X (.Call (.Name "isinstance" p) [e, f] [] pos) (tCB (rIsi K c) t) :=
  hK ▸ pe_callB (call_isi c) hg B.isinstance boot_isinstance ha (by decide) (by decide) he hpl
theorem g_str (B : Blt X.mg) (hg : Gl X "str" := by rfl) : PE X (.Name "str" p) (tC (.ty "str")) := pe_bltn hg B.str PyProof.Rows.boot_str rfl
theorem g_list (B : Blt X.mg) (hg : Gl X "list" := by rfl) : PE X (.Name "list" p) (tC (.ty "list")) := pe_bltn hg B.list (show bootBuiltins "list" = some (.type "list") by decide +kernel) rfl
end
end L2
namespace L2
open PySem PySem.Spec PyProof.Rows PySem.Builtin PySem.Builtin.Str
theorem len_app (x y : Str) : (x ++ y).length = x.length + y.length := by
  show (x.cps ++ y.cps).size = x.cps.size + y.cps.size
  rw [Array.size_append]
theorem at_ok {α : Type} {xs : List α} {j : Int} (h0 : 0 ≤ j) (h1 : j < xs.length) : ∃ v, atI xs j = some v ∧ v ∈ xs := by
  obtain ⟨k, rfl⟩ := Int.eq_ofNat_of_zero_le h0
  have hk : k < xs.length := by omega
  exact ⟨xs[k], atI_nat (by simp [hk]), List.getElem_mem hk⟩
theorem at_int {ns : List Int} {j : Int} (h0 : 0 ≤ j) (h1 : j < (ns.map V.int).length) : ∃ c, atI (ns.map V.int) j = some (.int c) := by
  obtain ⟨v, e, m⟩ := at_ok h0 h1
  obtain ⟨c, _, rfl⟩ := List.mem_map.mp m
  exact ⟨c, e⟩
theorem fst_small (x : Int) : -(2 ^ 64) < x % 2147483647 ∧ x % 2147483647 < 2 ^ 64 := by
  have h1 := Int.emod_nonneg x (show (2147483647 : Int) ≠ 0 by decide)
  have h2 := Int.emod_lt_of_pos x (show (0 : Int) < 2147483647 by decide)
  omega
theorem But.at {p D : Addr} {H H' : Hp} {o : HO} (b : But p H H') (hD : H D = none) : But p H (L2.upd H' D o) := fun c o' n h => by rw [upd_ne (ne_of_none h hD)]; exact b c o' n h
theorem But.free {p D : Addr} {H H' : Hp} (b : But p H H') (n : D ≠ p) (h : H' D = none) : H D = none := by
  cases e : H D with
  | none => rfl
  | some o => rw [b D o n e] at h; cases h
end L2
namespace L2
open PySem PySem.Spec PyProof.Rows
section
variable {X : Cx}
inductive InR (K : PySem.W.Frag) (neg : Bool) (H : Hp) : V → V → VK → Prop
  | dic {a : Addr} {y : V} {o : Option V} {Q : VK} : DGet H a y o → Q (.bl (if neg then !o.isSome else o.isSome)) H → InR K neg H y (.ref a) Q
  | seq {p : Addr} {x : V} {xs : List V} {Q : VK} : (SqL K H p xs ∨ SqT K H p xs) → flatV x = true → xs.all flatV = true → Q (.bl (if neg then !inV x xs else inV x xs)) H → InR K neg H x (.ref p) Q
  | tr {p : Addr} {x : V} {xs : List V} {ds : List PyData} {d : PyData} {Q : VK} : H p = some (.lst xs) → RepAll H xs ds → Rep H x d → PyData.canLayAll0 ds = true → d.canLay0 = true → d.depth ≤ 16 →
      Q (.bl (if neg then !(ds.any fun e => PyData.eqv e d) else ds.any fun e => PyData.eqv e d)) H → InR K neg H x (.ref p) Q
theorem op_inX (K : PySem.W.Frag) (hu : X.A.units + 64 < cLine) (hK : X.K = K := by rfl) : OpR X (compareOp .In) (fun x y H Q => InR K false H x y Q) := by
  subst hK
  intro pins s σ H x y v u Q I rx ry h
  cases h with
  | dic g q =>
    cases ry
    exact d_in (by omega) I g rx fun s' I' => ⟨.bl _, H, I', rfl, q⟩
  | seq hq fx fs q => exact op_in_seq pins s σ H _ _ v u Q I rx ry ⟨_, _, rfl, hq, fx, fs, q⟩
  | tr e rs r cs c dp q => exact op_inD hu pins s σ H _ _ v u Q I rx ry ⟨_, _, _, _, rfl, e, rs, r, cs, c, dp, q⟩
inductive IxX (K : PySem.W.Frag) (H : Hp) : V → V → VK → Prop
  | lst {p : Addr} {xs : List V} {i : Int} {v : V} {Q : VK} : SqL K H p xs → atI xs i = some v → Q v H → IxX K H (.ref p) (.int i) Q
  | tup {p : Addr} {xs : List V} {i : Int} {v : V} {Q : VK} : SqT K H p xs → atI xs i = some v → Q v H → IxX K H (.ref p) (.int i) Q
  | str {z : Str} {i : Int} {c : Nat} {Q : VK} : z.length ≤ sizeLine → atI z.cps.toList i = some c → Q (.str ⟨#[c]⟩) H → IxX K H (.str z) (.int i) Q
  | dic {a : Addr} {y v : V} {Q : VK} : DGet H a y (some v) → Q v H → IxX K H (.ref a) y Q
theorem ix_X (K : PySem.W.Frag) (hu : X.A.units + 64 < cLine) (hK : X.K = K := by rfl) : IxR X (fun x y H Q => IxX K H x y Q) := by
  subst hK
  intro value slice pins s σ H x y v u Q I rx ry h hs
  cases h with
  | lst hq e q => exact ix_list value slice pins s σ H _ _ v u Q I rx ry ⟨_, _, _, _, rfl, rfl, hq, e, q⟩ hs
  | tup hq e q => exact ix_tup value slice pins s σ H _ _ v u Q I rx ry ⟨_, _, _, _, rfl, rfl, hq, e, q⟩ hs
  | str hz e q => exact ix_str value slice pins s σ H _ _ v u Q I rx ry ⟨_, _, _, rfl, rfl, hz, e, q⟩ hs
  | dic g q =>
    cases rx
    exact tail_any (dict_typeIs I g) PySem.F.slot_dict_getitem.lookup (d_getItem (by omega) I g ry fun w' s3 I3 rw' => ⟨_, H, I3, rw', q⟩) hs
inductive SetX (H : Hp) : V → V → V → (Hp → Prop) → Prop
  | lst {p : Addr} {xs : List V} {k : Int} {j : Nat} {v : V} {Q : Hp → Prop} : H p = some (.lst xs) → ixN xs.length k = some j → Q (upd H p (.lst (xs.set j v))) → SetX H (.ref p) (.int k) v Q
  | dic {a : Addr} {y v : V} {H' : Hp} {Q : Hp → Prop} : DPut H a y v H' → Q H' → SetX H (.ref a) y v Q
theorem set_X (hu : X.A.units + 64 < cLine) : PSet X (fun o i v H Q => SetX H o i v Q) := by
  intro pins s σ H o i v ov iv u Q I ro ri rv h
  cases h with
  | lst e ej q => exact set_list pins s σ H _ _ _ ov iv u Q I ro ri rv ⟨_, _, _, _, rfl, rfl, e, ej, q⟩
  | dic g q =>
    cases ro
    exact d_setItem (by omega) I g ri rv fun s4 I4 => ⟨_, I4, q⟩
theorem pg_tupK (K : PySem.W.Frag) {es : List Expr} {k : Nat} {pos : Pos} {t : TGs} {n : Nat} (hc : X.calm = true) (h : PGs X es t)
    (hn : (assignEach es X.env).length = n := by rfl) (hst : (assignEach es X.env).findIdx? (·.1) = none := by rfl) (hK : X.K = K := by rfl) : PG X (.Tuple es k pos) (gTup K n t) := hK ▸ pg_tup hc h hn hst
variable {p pos p2 pos2 : Pos} {e f : Expr} {t : TA}
end
end L2
namespace L2
open PySem PySem.Spec PyProof.Rows
section
variable {X : Cx} {p pos p2 pos2 : Pos} {e f : Expr} {t : TA}
noncomputable def rTupL (K : PySem.W.Frag) : List V → Hp → VK → Prop := fun xs H Q => ∃ a ys, xs = [.ref a] ∧ SqL K H a ys ∧ ∀ l, H l = none → Q (.ref l) (upd H l (.tup ys))
theorem b_tuple (K : PySem.W.Frag) (B : Blt X.mg) (ha : PA X [e] t) (hg : Gl X "tuple" := by rfl) (he : starEach [e] X.env = (false, eval e X.env) :: starEach [] X.env := by rfl) (hpl : (backTo pos (starEach [] X.env)).any (·.1) = false := by rfl) (hK : X.K = K := by rfl) :
    PE X (.Call (.Name "tuple" p) [e] [] pos) (tCB (rTupL K) t) := by
  subst hK
  refine pe_callTy (r := rTupL X.K) (fun pins s σ H xs us Q I r h => ?_) hg B.tuple (show bootBuiltins "tuple" = some (.type "tuple") by decide +kernel) ha (by decide) (by decide) he hpl
  obtain ⟨a, ys, rfl, hq, q⟩ := h
  exact call_tuple_of pins s σ H _ us Q I r ⟨a, ys, rfl, .inl ⟨hq, q⟩⟩
inductive LstR (K : PySem.W.Frag) (H : Hp) : V → VK → Prop
  | seq {a : Addr} {ys : List V} {Q : VK} : (SqL K H a ys ∨ SqT K H a ys) → (∀ l, H l = none → Q (.ref l) (upd H l (.lst ys))) → LstR K H (.ref a) Q
  | rng {a : Addr} {n : Nat} {Q : VK} : H a = some (.rng 0 (n : Int)) → n ≤ 1000 → (∀ l, H l = none → Q (.ref l) (upd H l (.lst (rngV n)))) → LstR K H (.ref a) Q
noncomputable def rLst (K : PySem.W.Frag) : List V → Hp → VK → Prop := fun xs H Q => ∃ x, xs = [x] ∧ LstR K H x Q
theorem vals_rng {n : Nat} {its : List Value} (hl : its.length = n) (h : ∀ i v, its[i]? = some v → ∃ t, v = Value.int (0 + (i : Nat) * 1) t) : Vals (rngV n) its := by
  subst hl
  have key : ∀ (its : List Value) (k : Nat), (∀ i v, its[i]? = some v → ∃ t, v = Value.int (0 + ((k + i : Nat) : Int)) t) → Vals ((List.range' k its.length).map fun i => V.int (0 + (i : Nat))) its := by
    intro its
    induction its with
    | nil => intro k _; exact .nil
    | cons u r ih =>
      intro k h
      rw [List.length_cons, List.range'_succ, List.map_cons]
      refine .cons ?_ (ih (k + 1) fun i v e => ?_)
      · obtain ⟨t, e⟩ := h 0 u rfl
        exact ⟨t, by rw [e, Nat.add_zero]⟩
      · obtain ⟨t, e'⟩ := h (i + 1) v (by simpa using e)
        exact ⟨t, by rw [e', show ((k + (i + 1) : Nat) : Int) = ((k + 1 + i : Nat) : Int) by omega]⟩
  have := key its 0 fun i v e => by
    obtain ⟨t, e'⟩ := h i v e
    exact ⟨t, by rw [e', Int.mul_one, Nat.zero_add]⟩
  rw [rngV, List.range_eq_range']
  exact this
theorem b_list (K : PySem.W.Frag) (hc : X.calm = true) (B : Blt X.mg) (ha : PA X [e] t) (hg : Gl X "list" := by rfl) (he : starEach [e] X.env = (false, eval e X.env) :: starEach [] X.env := by rfl) (hpl : (backTo pos (starEach [] X.env)).any (·.1) = false := by rfl) (hK : X.K = K := by rfl) :
    PE X (.Call (.Name "list" p) [e] [] pos) (tCB (rLst K) t) := by
  subst hK
  refine pe_callTy (r := rLst X.K) (fun pins s σ H xs us Q I r h => ?_) hg B.list (show bootBuiltins "list" = some (.type "list") by decide +kernel) ha (by decide) (by decide) he hpl
  obtain ⟨x, rfl, h⟩ := h
  cases h with
  | seq hq q => exact call_list_of pins s σ H _ us Q I r ⟨_, _, rfl, hq, q⟩
  | @rng a n _ ea hn q =>
    obtain ⟨u, rfl, ru⟩ := vals1 r
    cases ru
    obtain ⟨t1, t2, t3, eh⟩ := (show ObjOk X.prog X.w H s.heap a (.rng 0 (n : Int)) from I.hok a _ ea)
    refine call_list_range (n := n) (I.ok.hd hc) eh (small_one (by decide) (by decide) (by omega) (by omega)) (by rw [rangeSize_one]; split <;> omega) (by omega) fun h' tk acc' c' hk hl hi => ?_
    have hv : Vals (rngV n) acc'.toList := vals_rng (by simpa using hi.1) fun i v e => hi.2 i v (by simpa using e)
    refine ⟨.ref _, _, I.laid (o := .lst (rngV n)) hk (Nat.le_refl _) ⟨?_, acc'.toList, c', hv, by simpa using hl⟩, rfl, q _ (I.hok.fresh (Nat.le_refl _))⟩
    have : (rngV n).length = n := by simp [rngV]
    rw [this]
    exact Nat.le_of_lt (small1000 hn)
end
end L2
namespace L2
open PySem PySem.Spec PyProof.Rows
noncomputable def Nm (s : Str) : Prop := 1 ≤ s.length ∧ s.length ≤ 8 ∧ ∀ c ∈ s.cps.toList, 97 ≤ c ∧ c ≤ 122
noncomputable def pairD (e : Str × Str) : PyData := .tuple [.str e.1, .str e.2]
section
variable {H H' : Hp}
theorem Rep.tupI {v : V} {ds : List PyData} (h : Rep H v (.tuple ds)) : ∃ a xs, v = .ref a ∧ H a = some (.tup xs) ∧ RepAll H xs ds := by
  cases h with
  | tup e r => exact ⟨_, _, rfl, e, r⟩
theorem Rep.strI {v : V} {s : Str} (h : Rep H v (.str s)) : v = .str s := by cases h; rfl
theorem RepAll.nilI {xs : List V} (h : RepAll H xs []) : xs = [] := by cases h; rfl
theorem RepAll.consI {xs : List V} {d : PyData} {ds : List PyData} (h : RepAll H xs (d :: ds)) : ∃ y ys, xs = y :: ys ∧ Rep H y d ∧ RepAll H ys ds := by
  cases h with
  | cons a b => exact ⟨_, _, rfl, a, b⟩
theorem RepAll.len {xs : List V} {ds : List PyData} (h : RepAll H xs ds) : xs.length = ds.length := by
  induction ds generalizing xs with
  | nil => rw [h.nilI]; rfl
  | cons d ds ih =>
    obtain ⟨y, ys, rfl, a, b⟩ := h.consI
    simp [ih b]
theorem RepAll.get {xs : List V} {ds : List PyData} (h : RepAll H xs ds) {i : Nat} {x : V} (e : xs[i]? = some x) : ∃ d, ds[i]? = some d ∧ Rep H x d := by
  induction ds generalizing xs i with
  | nil => rw [h.nilI] at e; simp at e
  | cons d ds ih =>
    obtain ⟨y, ys, rfl, a, b⟩ := h.consI
    cases i with
    | zero => simp at e; subst e; exact ⟨d, rfl, a⟩
    | succ i => simpa using ih b (by simpa using e)
theorem pair_at {v : V} {e : Str × Str} (h : Rep H v (pairD e)) : ∃ a, v = .ref a ∧ H a = some (.tup [.str e.1, .str e.2]) := by
  obtain ⟨a, xs, rfl, ha, r⟩ := Rep.tupI h
  obtain ⟨y, ys, rfl, r1, r⟩ := r.consI
  obtain ⟨z, zs, rfl, r2, r⟩ := r.consI
  have e1 := RepAll.nilI r
  subst e1
  rw [r1.strI, r2.strI] at ha
  exact ⟨a, rfl, ha⟩
end
end L2
set_option autoImplicit false
namespace MG
variable {α : Type}
variable {R : α → α → Prop} {x : α}
end MG
namespace MG
variable {α : Type} {R : α → α → Prop} {x : α}
end MG
namespace L2
open PySem PySem.Spec PyProof.Rows
theorem textFrom_le {n : Nat} : ∀ (ts : List Str) (k : Nat) (acc : Str), (∀ t ∈ ts, t.length ≤ n) → (textFrom k acc ts).length ≤ acc.length + ts.length * (n + 2)
  | [], k, acc, _ => by show acc.length ≤ acc.length + 0 * _; omega
  | t :: r, k, acc, h => by
    have h1 := textFrom_le r (k + 1) (acc ++ (if k > 0 then ", " else "" : String) ++ t) fun u hu => h u (List.mem_cons_of_mem _ hu)
    have h2 := h t (by simp)
    have e : (acc ++ (if k > 0 then ", " else "" : String) ++ t).length ≤ acc.length + 2 + t.length := by
      rw [len_app, len_app]
      have : (Str.ofString (if k > 0 then ", " else "" : String)).length ≤ 2 := by split <;> decide
      show acc.length + (Str.ofString (if k > 0 then ", " else "" : String)).length + t.length ≤ _
      omega
    show (textFrom (k + 1) (acc ++ (if k > 0 then ", " else "" : String) ++ t) r).length ≤ acc.length + (r.length + 1) * (n + 2)
    rw [Nat.succ_mul]
    omega
theorem for_enum {K : PySem.W.Frag} {a : Addr} {xs : List V} {g : TG} {tb : TS} {D : Ends} {σ : St} {H : Hp} (Pv : Nat → St → Hp → Prop) (h0 : Pv 0 σ H) (hl : ∀ i σ H, i ≤ xs.length → Pv i σ H → SqL K H a xs)
    (hs : ∀ i x σ H p, xs[i]? = some x → Pv i σ H → H p = none → g (.ref p) σ (upd H p (.tup [.int i, x])) fun σ2 H2 => tb { D with nx := Pv (i + 1), ct := Pv (i + 1), bk := D.nx } σ2 H2) (hd : ∀ σ H, Pv xs.length σ H → D.nx σ H) :
    ∃ W : Nat → Nat → St → Hp → Prop, (∃ m, W 0 m σ H) ∧ ∀ i m σ H, W i m σ H →
      ((Ite K a).stop i H ∧ D.nx σ H) ∨ ((Ite K a).go i H ∧ ∃ N : St → Hp → Prop, (∀ σ' H', N σ' H' → ∃ m', m' < m ∧ W (i + 1) m' σ' H') ∧ ∀ x H', (Ite K a).yld i H x H' → g x σ H' fun σ2 H2 => tb { D with nx := N, ct := N, bk := D.nx } σ2 H2) := by
  refine ⟨fun i m σ H => m = xs.length - i ∧ i ≤ xs.length ∧ Pv i σ H, ⟨xs.length, by simp, Nat.zero_le _, h0⟩, ?_⟩
  rintro i m σ H ⟨rfl, hi, p⟩
  have q := hl i σ H hi p
  by_cases hlt : i < xs.length
  · refine .inr ⟨⟨xs, xs[i], q, by simp [hlt]⟩, Pv (i + 1), fun σ' H' p' => ⟨xs.length - (i + 1), by omega, rfl, hlt, p'⟩, fun x H' y => ?_⟩
    obtain ⟨r, z, hr, rfl, hz, rfl⟩ := y
    exact hs i z σ H r (hz xs q) p hr
  · have e : i = xs.length := by omega
    subst e
    exact .inl ⟨⟨xs, q, Nat.le_refl _⟩, hd σ H p⟩
noncomputable def Tie (ts : List (Str × Str)) (a b : Str) : Prop := (a, b) ∈ ts
end L2
namespace MG
variable {α : Type} {R : α → α → Prop} {x : α}
variable {es : List (Nat × Nat)} {goal : Nat}
end MG
namespace MG
variable {es : List (Nat × Nat)}
end MG
namespace L2
open PySem PySem.Spec PyProof.Rows
theorem same_free {H H' : Hp} {b : Addr} (s : Same H H') (h : H' b = none) : H b = none := by
  cases q : H b with
  | none => rfl
  | some o => rw [s _ _ q] at h; cases h
theorem same_at {H H' : Hp} {b : Addr} {o : HO} (s : Same H H') (h : H b = none) : Same H (upd H' b o) := fun c o' hc => by
  rw [upd_ne (ne_of_none hc h)]; exact s _ _ hc
end L2
namespace MG
section
variable {α : Type} [DecidableEq α]
noncomputable def ix : List α → α → Nat
  | [], _ => 0
  | a :: r, x => if a = x then 0 else ix r x + 1
end
variable {es : List (Nat × Nat)}
end MG
namespace L2
open PySem PySem.Spec PyProof.Rows
open PySem.AutoSeq1 (wpAny_loadPart')
section
variable {prog : Program} {w : World} {A : Around} {E : Value → Shared → Prop} {s : Shared}
theorem nextT_item {jt tt : Addr} {i : Nat} {its : Array Value} {y : Value} {Q : Value → Shared → Prop} (hj : s.heap.IsTupleIter jt tt i) (htt : s.heap.IsTuple tt its) (hy : its[i]? = some y)
    (hQ : ∀ h', h'.IsTupleIter jt tt (i + 1) → Heap.SameBut jt s.heap h' → Q y { s with heap := h' }) : wpAny (model prog w) A (Builtin.SmallTypes.nextOf (.ref jt)) Q E s := by
  obtain ⟨oj, hoj, cj, dj⟩ := id hj
  obtain ⟨ot, hot, _, nt, dt⟩ := htt
  unfold Builtin.SmallTypes.nextOf
  refine wpAny_bind (wpAny_callSpecial?_slot (name := Str.ofString "__next__") hj.typeIs F.slot_tuple_iterator_next (wpAny_call_entry F.slot_tuple_iterator_next hj.typeIs F.entry_tuple_iterator_next ?_ (F.args_tuple_iterator_next_1 _)))
  show wpAny _ _ (field (.ref jt) 0 >>= _) _ _ s
  refine wpAny_bind (wpAny_field hoj dj (x := .ref tt) rfl ?_)
  show wpAny _ _ (if (Value.ref tt == Value.none) = true then _ else _) _ _ s
  rw [if_neg (show ¬ ((Value.ref tt == Value.none) = true) from Bool.false_ne_true)]
  show wpAny _ _ (field (.ref jt) 1 >>= _) _ _ s
  refine wpAny_bind (wpAny_field hoj dj (x := .int i 0) rfl (wpAny_bind (wpAny_seqItems hot dt ?_)))
  simp only [Int.toNat_natCast, hy]
  refine wpAny_bind (wpAny_setField hoj dj (by simp) (wpAny_pure ⟨y, rfl, wpAny_pure (hQ _ ?_ (Heap.SameBut.update ..))⟩))
  exact ⟨_, Heap.get?_update_self _ hoj (Obj.isFreed_of_fields (Obj.data_mapFields dj _)), (Obj.cls_mapFields ..).trans cj, by rw [Obj.data_mapFields dj]; simp [rawInt]⟩
theorem nextT_end {jt tt : Addr} {i : Nat} {its : Array Value} {Q : Value → Shared → Prop} (hh : A.handled = none) (hj : s.heap.IsTupleIter jt tt i) (htt : s.heap.IsTuple tt its) (hy : its[i]? = none)
    (hE : ∀ h' e, Heap.ExtBut jt s.heap h' → (∃ o, h'.get? e = some o ∧ o.cls = .type "StopIteration") → E (.ref e) { s with heap := h' }) : wpAny (model prog w) A (Builtin.SmallTypes.nextOf (.ref jt)) Q E s := by
  obtain ⟨oj, hoj, cj, dj⟩ := id hj
  obtain ⟨ot, hot, _, nt, dt⟩ := htt
  unfold Builtin.SmallTypes.nextOf
  refine wpAny_bind (wpAny_callSpecial?_slot (name := Str.ofString "__next__") hj.typeIs F.slot_tuple_iterator_next (wpAny_call_entry F.slot_tuple_iterator_next hj.typeIs F.entry_tuple_iterator_next ?_ (F.args_tuple_iterator_next_1 _)))
  show wpAny _ _ (field (.ref jt) 0 >>= _) _ _ s
  refine wpAny_bind (wpAny_field hoj dj (x := .ref tt) rfl ?_)
  show wpAny _ _ (if (Value.ref tt == Value.none) = true then _ else _) _ _ s
  rw [if_neg (show ¬ ((Value.ref tt == Value.none) = true) from Bool.false_ne_true)]
  show wpAny _ _ (field (.ref jt) 1 >>= _) _ _ s
  refine wpAny_bind (wpAny_field hoj dj (x := .int i 0) rfl (wpAny_bind (wpAny_seqItems hot dt ?_)))
  simp only [Int.toNat_natCast, hy]
  refine wpAny_bind (wpAny_rule (wpAny_bind (wpAny_setField hoj dj (by simp) ?_)))
  show wpAny _ _ (newExc (.type "StopIteration") [] >>= _) _ _ _
  refine wpAny_bind ?_
  simp only [newExc, newTuple]
  refine wpAny_bind (wpAny_newObj_type (wpAny_bind (m := firstArgMember _ _) (wpAny_of_eq (a := Value.none) (by first | rfl | (simp only [firstArgMember]; rfl)) ?_)) (by size_fits))
  refine wpAny_newObj_type ?_ (by size_fits)
  simp only [raiseNew]
  refine wpAny_bind (wpAny_handled ?_)
  first | rw [show A.in1.handled = none from hh] | rw [hh]
  refine wpAny_bind (wpAny_pure (wpAny_throw (hE _ _ (((Heap.SameBut.update ..).extBut.push _).push _) ⟨_, Heap.get?_push_size _ rfl, rfl⟩)))
theorem drawsT {prog : Program} {w : World} {A : Around} (hh : A.handled = none) (jt tt : Addr) (hne : tt ≠ jt) (its : Array Value) :
    Draws prog w A jt [jt, tt] its.size (fun i y => its[i]? = some y) (fun i h => h.IsTupleIter jt tt i ∧ h.IsTuple tt its) where
  live := fun i h st => let ⟨o, e, _⟩ := st.1; ⟨o, e⟩
  frame := fun i h h' st k => ⟨let ⟨o, e, r⟩ := st.1; ⟨o, k jt (by simp) o e, r⟩, let ⟨o, e, r⟩ := st.2; ⟨o, k tt (by simp) o e, r⟩⟩
  item := fun i s Q E hi st hQ => nextT_item st.1 st.2 (y := its[i]) (by simp [hi]) fun h' j' sb => hQ _ h' s.toks (by simp [hi]) ⟨j', st.2.extBut sb.extBut hne⟩ sb
  done := fun s Q E st hE => nextT_end hh st.1 st.2 (by simp) hE
set_option maxHeartbeats 1000000 in
theorem meets_enumT (l : Addr) (its : Array Value) (n : Nat) (dct : Option Addr) (sl : Array (Option Value)) :
    Meets (Builtin.«enumerate.__new__» ⟨[.type "enumerate", .ref l], []⟩) (fun _ R s => s.heap.get? l = some { cls := .type "tuple", dict := dct, data := .seq its n, slots := sl } ∧
      R (.ok (.ret (.ref (s.heap.push { cls := .type "tuple_iterator", data := .fields #[.ref l, .int 0 0] }).objs.size)))
        { s with heap := (s.heap.push { cls := .type "tuple_iterator", data := .fields #[.ref l, .int 0 0] }).push { cls := .type "enumerate", data := .fields #[.none, .bool false, .ref s.heap.objs.size, rawInt 0, .none, .none] } }) :=
  .of_wp fun prog w A R s h => by
    obtain ⟨h0, g0, d0, t0, os0⟩ := s
    obtain ⟨hl, h⟩ := h
    have hsub := sub_enumerate
    have hT : Heap.IsTuple (Shared.heap ⟨h0, g0, d0, t0, os0⟩) l its := ⟨_, hl, rfl, n, rfl⟩
    wp_walk using wpAny_loadPart' hl
    refine wpAny_stack_any fun st => wpAny_pure ?_
    split
    · rename_i c _ _ _ _ _
      cases (c == Value.type "enumerate")
      · wp_walk using wpAny_loadPart' hl, wpAny_pyIter_tuple hT
        exact ⟨_, rfl, h⟩
      · wp_walk using wpAny_loadPart' hl, wpAny_pyIter_tuple hT
        exact ⟨_, rfl, h⟩
    · wp_walk using wpAny_loadPart' hl, wpAny_pyIter_tuple hT
      exact ⟨_, rfl, h⟩
theorem call_enumT {l : Addr} {its : Array Value} {Q : Value → Shared → Prop} (hT : s.heap.IsTuple l its)
    (h : ∀ h', IsEnum h' (s.heap.objs.size + 1) s.heap.objs.size 0 .none → h'.IsTupleIter s.heap.objs.size l 0 → (∀ b o, s.heap.get? b = some o → h'.get? b = some o) → Q (.ref (s.heap.objs.size + 1)) { s with heap := h' }) :
    wpAny (model prog w) A (call (.type "enumerate") [.ref l]) Q E s := by
  obtain ⟨⟨c, dct, dt, sl⟩, hl, hc, n, hd⟩ := hT
  replace hc : c = .type "tuple" := hc
  replace hd : dt = .seq its n := hd
  subst hc hd
  refine callType_new F.called_enumerate (by decide) (F.typeCall_enumerate_1 _) (F.newCall_enumerate_1 _) (fun obj => F.args_object_init_2 obj _) F.entry_enumerate_new (meets_enumT l its n dct sl) ⟨hl, ?_⟩
  have hz : (s.heap.push { cls := .type "tuple_iterator", data := .fields #[.ref l, .int 0 0] }).objs.size = s.heap.objs.size + 1 := Heap.size_push ..
  show _ ∧ _
  rw [hz]
  have he : IsEnum ((s.heap.push { cls := .type "tuple_iterator", data := .fields #[.ref l, .int 0 0] }).push { cls := .type "enumerate", data := .fields #[.none, .bool false, .ref s.heap.objs.size, rawInt 0, .none, .none] }) (s.heap.objs.size + 1) s.heap.objs.size 0 .none := by
    have := Heap.get?_push_size (s.heap.push { cls := .type "tuple_iterator", data := .fields #[.ref l, .int 0 0] }) (o := { cls := .type "enumerate", data := .fields #[.none, .bool false, .ref s.heap.objs.size, rawInt 0, .none, .none] }) rfl
    rw [hz] at this; exact this
  exact ⟨⟨_, he, rfl⟩, h _ he ⟨_, Heap.get?_push_of_some _ (Heap.get?_push_size _ rfl), rfl, rfl⟩ fun b o x => Heap.get?_push_of_some _ (Heap.get?_push_of_some _ x)⟩
end
noncomputable def IteT (K : PySem.W.Frag) (a : Addr) : It :=
  ⟨fun i H => ∃ xs x, SqT K H a xs ∧ xs[i]? = some x, fun i H v H' => ∃ p x, H p = none ∧ v = .ref p ∧ (∀ xs, SqT K H a xs → xs[i]? = some x) ∧ H' = upd H p (.tup [.int i, x]), fun i H => ∃ xs, SqT K H a xs ∧ xs.length ≤ i⟩
theorem turn_enumT {P : Program} {w : World} {K : PySem.W.Frag} {elts : List Expr} {k : Nat} {tp : Pos} (a e it : Addr) (hne : e ≠ it) :
    Turn P w K (.Tuple elts k tp) (IteT K a) [e, it] e (fun i h => (∃ old, IsEnum h e it i old) ∧ h.IsTupleIter it a i) where
  mem := by simp
  obj := fun i h st b hb => by
    obtain ⟨⟨old, he⟩, hit⟩ := st
    have hb : b = e ∨ b = it := by simpa using hb
    rcases hb with z | z
    · subst z
      exact ⟨_, he, fun v z => by cases z⟩
    · subst z
      obtain ⟨o, e1, c, d⟩ := hit
      exact ⟨o, e1, fun v z => by rw [d] at z; cases z⟩
  keep := fun i h h' st kk => by
    obtain ⟨⟨old, he⟩, hit⟩ := st
    exact ⟨⟨old, kk e (by simp) _ he⟩, let ⟨o, q, r⟩ := hit; ⟨o, kk it (by simp) o q, r⟩⟩
  item := by
    intro X hP hw hK hc i pins s σ H E I hf st hg
    subst hP hw hK
    obtain ⟨⟨old, he⟩, hit⟩ := st
    obtain ⟨xs, x, hq, hx⟩ := hg
    obtain ⟨its, rv, p, hz⟩ := I.tuple hq
    obtain ⟨u, hu, ru⟩ := rv.get hx
    obtain ⟨f0, f1, f2, f3, f4, f5⟩ := hf e (by simp)
    obtain ⟨g0, g1, g2, g3, g4, g5⟩ := hf it (by simp)
    have hel : e < s.heap.objs.size := Heap.lt_size he
    have hil : it < s.heap.objs.size := by obtain ⟨o, q, _⟩ := hit; exact Heap.lt_size q
    have hae : a ≠ e := fun z => by
      obtain ⟨o, q, c, _⟩ := p
      rw [z, he] at q; cases q; simp at c
    have hai : a ≠ it := fun z => by
      obtain ⟨o, q, c, _⟩ := p
      obtain ⟨o', q', c', _⟩ := hit
      rw [z, q'] at q; cases q; rw [c] at c'; simp at c'
    have hul := (List.getElem?_eq_some_iff.mp hu).1
    refine wpAny_pyNext_enum_itemD (drawsT (A := X.A.in1) (show X.A.in1.handled = none from I.ok.hd hc) it a hai its.toArray) he ⟨hit, p⟩ (by simpa using hul) hne (by simp [hne, Ne.symm hae]) fun u' h1 tk hu' ho hit1 ht1 hz1 k1 => ?_
    have eu : u' = u := by
      have : its[i]? = some u' := by simpa using hu'
      rw [hu] at this
      exact (Option.some.inj this).symm
    subst eu
    refine ⟨_, rfl, wpAny_letOwnedTupleGo_enum ho fun h2 he2 sb2 => ?_⟩
    have sb2 : Heap.SameBut e h1 h2 := sb2
    have T2 : h2.get? s.heap.objs.size = some { cls := .type "tuple", data := .seq #[.int i tk, u'] } := (sb2.2 _ (Nat.ne_of_gt hel)).trans ht1
    have hp : H s.heap.objs.size = none := I.hok.fresh (Nat.le_refl _)
    have nit : ∀ b v, H b = some v → b ≠ e ∧ b ≠ it := fun b v q => ⟨fun z => (by rw [z, f0] at q; cases q), fun z => (by rw [z, g0] at q; cases q)⟩
    have kk : ∀ b o, b ≠ e → b ≠ it → s.heap.get? b = some o → h2.get? b = some o := fun b o n1 n2 q => (sb2.2 b n1).trans (k1 b o n1 n2 q)
    have up : ∀ b v, H b = some v → upd H s.heap.objs.size (.tup [.int i, x]) b = some v := fun b v q => by rw [upd_ne (ne_of_none q hp)]; exact q
    have I1 : Inv X pins σ (upd H s.heap.objs.size (.tup [.int i, x])) { s with heap := h2, gens := s.gens, drawn := s.drawn, toks := tk + 1 } := by
      refine I.step (g' := s.gens) (d' := s.drawn) (ch := [e, it]) (fun b hb => ?_) (fun b o _ _ hb q _ => kk b o (fun z => hb (by simp [z])) (fun z => hb (by simp [z])) q) (fun b o _ _ hb q _ => ⟨o.slots, kk b o (fun z => hb (by simp [z])) (fun z => hb (by simp [z])) q⟩) (fun b o _ q n => ?_)
        (fun b o hb q => ⟨o, kk b o (fun z => hb (by simp [z])) (fun z => hb (by simp [z])) q⟩) (fun b ys q => up b _ q) (fun b o v q => up b _ q) (fun b ps q => ⟨#[], by rw [up b _ q]; simp⟩) (fun m hm => ?_) (fun b v q => ?_) I.bare
      · have hb : b = e ∨ b = it := by simpa using hb
        rcases hb with z | z
        · subst z; exact ⟨f3, f1, f4, f5⟩
        · subst z; exact ⟨g3, g1, g4, g5⟩
      · rw [upd_ne (Nat.ne_of_lt (Heap.lt_size q))]; exact n
      · obtain ⟨o, es, ep, ho, r⟩ := hm
        exact ⟨o, es, ep, kk _ o (Ne.symm f1) (Ne.symm g1) ho, r⟩
      · by_cases hb : b = s.heap.objs.size
        · subst hb
          rw [upd_same] at q
          have q' : HO.tup [V.int i, x] = v := Option.some.inj q
          subst q'
          exact ⟨by show 2 ≤ sizeLine; decide, [.int i tk, u'], .cons ⟨_, rfl⟩ (.cons ru .nil), ⟨_, T2, rfl, _, rfl, rfl⟩⟩
        · rw [upd_ne hb] at q
          refine (I.hok b v q).stay (fun c v' hc q' => ?_) (fun c q => up c _ q) fun c ys q => up c _ q
          rcases hc with z | z
          · rw [z] at q' ⊢; exact kk b v' (nit b v q).1 (nit b v q).2 q'
          · exact kk c v' (nit c _ z).1 (nit c _ z).2 q'
    refine ⟨.ref s.heap.objs.size, upd H s.heap.objs.size (.tup [.int i, x]), I1, rfl, ⟨_, x, hp, rfl, fun ys hy => by rw [I.tuple_inj hy hq]; exact hx, rfl⟩, ⟨⟨u', ?_⟩, ?_⟩, fun b hb => ?_⟩
    · exact (by simpa using he2)
    · obtain ⟨o, q, r⟩ := hit1.1
      exact ⟨o, (sb2.2 it (Ne.symm hne)).trans q, r⟩
    · have hb : b = e ∨ b = it := by simpa using hb
      rcases hb with z | z
      · rw [z, upd_ne (Nat.ne_of_lt hel)]; exact f0
      · rw [z, upd_ne (Nat.ne_of_lt hil)]; exact g0
  done := by
    intro X hP hw hK hc i pins s σ H E I hf st hg
    subst hP hw hK
    obtain ⟨⟨old, he⟩, hit⟩ := st
    obtain ⟨xs, hq, hx⟩ := hg
    obtain ⟨its, rv, p, hz⟩ := I.tuple hq
    obtain ⟨g0, g1, g2, g3, g4, g5⟩ := hf it (by simp)
    have hl := rv.length
    have hT : s.TypeIs (.ref e) "enumerate" := ⟨_, he, rfl⟩
    unfold pyNext
    refine wpAny_bind (wpAny_attempt (wpAny_callSpecial?_slot (name := Str.ofString "__next__") hT F.slot_enumerate_next (wpAny_call_entry F.slot_enumerate_next hT F.entry_enumerate_next ?_ (F.args_enumerate_next_1 _))))
    show wpAny _ _ (field (.ref e) 2 >>= _) _ _ _
    refine wpAny_bind (wpAny_field he rfl (x := .ref it) rfl (wpAny_bind (nextT_end (I.ok.hd hc) hit p (by simp; omega) fun h' x he' hx' => ?_)))
    obtain ⟨o, ho, hc'⟩ := hx'
    refine wpAny_bind (wpAny_isInstance (T := "StopIteration") (b := true) ⟨o, ho, hc'⟩ isSubtype_stop ?_)
    exact wpAny_pure ⟨rfl, I.turned (t' := s.toks) (fun b o hb q => he' b o hb q) g0 g1 g3 g4 g5⟩
  self := fun _ _ _ _ _ st h => by
    obtain ⟨⟨old, he⟩, _⟩ := st
    exact wpAny_pyIter_enum he h
inductive EnmR (K : PySem.W.Frag) (H : Hp) : V → (It → Hp → Prop) → Prop
  | lst {a : Addr} {xs : List V} {R : It → Hp → Prop} : SqL K H a xs → R (Ite K a) H → EnmR K H (.ref a) R
  | tup {a : Addr} {xs : List V} {R : It → Hp → Prop} : SqT K H a xs → R (IteT K a) H → EnmR K H (.ref a) R
noncomputable def iEnumX (K : PySem.W.Frag) (ta : TA) : TI := fun σ H R => ta σ H fun vs H1 => ∃ x, vs = [x] ∧ EnmR K H1 x R
theorem pi_enumX (K : PySem.W.Frag) {X : Cx} {elts : List Expr} {k : Nat} {tp : Pos} {a : Expr} {ta : TA} {p pos : Pos} (hg : Gl X "enumerate") (hm : X.mg "enumerate" = none) (ha : PA X [a] ta) (hs : starEach [a] X.env = [(false, eval a X.env)] := by rfl) (hK : X.K = K := by rfl) :
    PI X (.Tuple elts k tp) (.Call (.Name "enumerate" p) [a] [] pos) (iEnumX K ta) := by
  subst hK
  intro pins s σ H R I h
  refine Call_ (ld_blt I hg hm boot_enumerate (PyProof.Rows.callWith_type1 (thn (ha pos pins s σ H _ I h) fun us s1 ⟨vs, H1, I1, r1, q1⟩ => ?_) hs rfl))
  obtain ⟨x, e, q⟩ := q1
  subst e
  obtain ⟨u, rfl, ru⟩ := vals1 r1
  have fin : ∀ b, b = s1.heap.objs.size + 1 ∨ b = s1.heap.objs.size → FpOk X pins H1 b := fun b hb => by
    rcases hb with z | z
    · subst z; exact I1.fpOk (Nat.le_succ _) (I1.hok.fresh (Nat.le_succ _))
    · subst z; exact I1.fpOk (Nat.le_refl _) (I1.hok.fresh (Nat.le_refl _))
  cases q with
  | lst hq q =>
    cases ru
    obtain ⟨its, rv, pl, hz⟩ := I1.list hq
    refine call_enumerate_list pl.isList fun h' he hit hz' k' => wpAny_pyIter_enum (s := { s1 with heap := h' }) he ?_
    exact ⟨_, [s1.heap.objs.size + 1, s1.heap.objs.size], _, _, H1, rfl, I1.kept (t' := s1.toks) k', turn_enum _ _ _ (Nat.succ_ne_self _), ⟨⟨_, he⟩, hit⟩, fun b hb => fin b (by simpa using hb), q⟩
  | tup hq q =>
    cases ru
    obtain ⟨its, rv, pl, hz⟩ := I1.tuple hq
    refine call_enumT pl fun h' he hit k' => wpAny_pyIter_enum (s := { s1 with heap := h' }) he ?_
    exact ⟨_, [s1.heap.objs.size + 1, s1.heap.objs.size], _, _, H1, rfl, I1.kept (t' := s1.toks) k', turn_enumT _ _ _ (Nat.succ_ne_self _), ⟨⟨_, he⟩, hit⟩, fun b hb => fin b (by simpa using hb), q⟩
theorem for_enumT {K : PySem.W.Frag} {a : Addr} {xs : List V} {g : TG} {tb : TS} {D : Ends} {σ : St} {H : Hp} (Pv : Nat → St → Hp → Prop) (h0 : Pv 0 σ H) (hl : ∀ i σ H, i ≤ xs.length → Pv i σ H → SqT K H a xs)
    (hs : ∀ i x σ H p, xs[i]? = some x → Pv i σ H → H p = none → g (.ref p) σ (upd H p (.tup [.int i, x])) fun σ2 H2 => tb { D with nx := Pv (i + 1), ct := Pv (i + 1), bk := D.nx } σ2 H2) (hd : ∀ σ H, Pv xs.length σ H → D.nx σ H) :
    ∃ W : Nat → Nat → St → Hp → Prop, (∃ m, W 0 m σ H) ∧ ∀ i m σ H, W i m σ H →
      ((IteT K a).stop i H ∧ D.nx σ H) ∨ ((IteT K a).go i H ∧ ∃ N : St → Hp → Prop, (∀ σ' H', N σ' H' → ∃ m', m' < m ∧ W (i + 1) m' σ' H') ∧ ∀ x H', (IteT K a).yld i H x H' → g x σ H' fun σ2 H2 => tb { D with nx := N, ct := N, bk := D.nx } σ2 H2) := by
  refine ⟨fun i m σ H => m = xs.length - i ∧ i ≤ xs.length ∧ Pv i σ H, ⟨xs.length, by simp, Nat.zero_le _, h0⟩, ?_⟩
  rintro i m σ H ⟨rfl, hi, p⟩
  have q := hl i σ H hi p
  by_cases hlt : i < xs.length
  · refine .inr ⟨⟨xs, xs[i], q, by simp [hlt]⟩, Pv (i + 1), fun σ' H' p' => ⟨xs.length - (i + 1), by omega, rfl, hlt, p'⟩, fun x H' y => ?_⟩
    obtain ⟨r, z, hr, rfl, hz, rfl⟩ := y
    exact hs i z σ H r (hz xs q) p hr
  · have e : i = xs.length := by omega
    subst e
    exact .inl ⟨⟨xs, q, Nat.le_refl _⟩, hd σ H p⟩
end L2
namespace L2
open PySem PySem.Spec PyProof.Rows
noncomputable abbrev Zp (h : Heap) (z TI TO : Addr) (f0 : Value) (f1 : Bool) : Prop := h.get? z = some { cls := .type "zip", dict := none, data := .fields #[f0, .bool f1, .bool false, .ref TI, .ref TO], slots := #[] }
noncomputable def F0 (f0 : Value) : Prop := f0 = .none ∨ ∃ T : Nat, f0 = rawInt (T : Int)
section
variable {prog : Program} {w : World} {A : Around} {E : Value → Shared → Prop} {s : Shared}
theorem alive_any {a : Addr} {Q : Option Obj → Shared → Prop} (h : Q (s.heap.get? a) s) : wpAny (model prog w) A (loadIfAlive a) Q E s := fun _ _ _ => h
theorem zp_free {z TI TO : Addr} {f0 : Value} {f1 : Bool} (hf : F0 f0) (hz : Zp s.heap z TI TO f0 f1) {Q : Bool → Shared → Prop} (h : ∀ b f1' h', Zp h' z TI TO f0 f1' → Heap.SameBut z s.heap h' → Q b { s with heap := h' }) :
    wpAny (model prog w) A (Builtin.SmallTypes.ownedTupleIsFree (.ref z)) Q E s := by
  unfold Builtin.SmallTypes.ownedTupleIsFree
  rcases hf with rfl | ⟨T, rfl⟩
  · exact wpAny_bind (wpAny_field hz rfl (x := .none) rfl (wpAny_pure (h true f1 s.heap hz (Heap.SameBut.refl ..))))
  · refine wpAny_bind (wpAny_field hz rfl (x := rawInt (T : Int)) rfl ?_)
    refine wpAny_bind (alive_any ?_)
    cases s.heap.get? (T : Int).toNat with
    | none => exact wpAny_pure (h true f1 s.heap hz (Heap.SameBut.refl ..))
    | some o =>
      show wpAny _ _ (field (.ref z) 1 >>= _) _ _ _
      refine wpAny_bind (wpAny_field hz rfl (x := .bool f1) rfl ?_)
      cases f1 with
      | true => exact wpAny_pure (h false true s.heap hz (Heap.SameBut.refl ..))
      | false =>
        show wpAny _ _ (setField (.ref z) 1 (.bool true) >>= _) _ _ _
        exact wpAny_bind (wpAny_setField_rec hz (by simp) fun h1 hz1 sb => wpAny_pure (h false true h1 hz1 sb))
end
end L2
namespace L2
open PySem PySem.Spec PyProof.Rows
theorem zip_next_typed {prog : Program} {w : World} {A : Around} {E : Value → Shared → Prop} {s : Shared} {z : Addr} {Q : Option Value → Shared → Prop} (hT : s.TypeIs (.ref z) "zip")
    (h : wpAny (model prog w) A.in1 (Builtin.«zip.__next__» ⟨[.ref z], []⟩) (fun fin s' => ∃ v, fin = .done (.ret v) ∧ Q (some v) s') (fun e s' => (∃ o, s'.heap.get? (match e with | .ref a => a | _ => 0) = some o ∧ o.cls = .type "StopIteration") ∧ (∃ a, e = .ref a) ∧ Q none s') s) :
    wpAny (model prog w) A (pyNext (.ref z)) Q E s := by
  unfold pyNext
  refine wpAny_bind (wpAny_attempt (wpAny_callSpecial?_slot (name := Str.ofString "__next__") hT F.slot_zip_next (wpAny_call_entry F.slot_zip_next hT F.entry_zip_next (wpAny_mono h (fun fin s' ⟨v, e, q⟩ => ⟨v, e, wpAny_pure q⟩) fun e s' q => ?_) (F.args_zip_next_1 _))))
  obtain ⟨⟨o, ho, hc⟩, ⟨a, rfl⟩, q⟩ := q
  exact wpAny_bind (wpAny_isInstance (T := "StopIteration") (b := true) ⟨o, ho, hc⟩ isSubtype_stop (wpAny_pure q))
end L2
namespace L2
open PySem PySem.Spec PyProof.Rows
inductive Thg (H : Hp) : V → Prop
  | non : Thg H .non
  | bl (b : Bool) : Thg H (.bl b)
  | int (i : Int) : Thg H (.int i)
  | str {z : Str} : z.length ≤ sizeLine → Thg H (.str z)
  | lst {a : Addr} {xs : List V} : H a = some (.lst xs) → Thg H (.ref a)
  | tup {a : Addr} {xs : List V} : H a = some (.tup xs) → Thg H (.ref a)
  | dK {a : Addr} {kvs : List (Key × V)} : H a = some (.dK kvs) → Thg H (.ref a)
  | dT {a : Addr} {kvs : List (List Key × V)} : H a = some (.dT kvs) → Thg H (.ref a)
theorem Thg.same {H H' : Hp} {x : V} (h : Thg H x) (s : Same H H') : Thg H' x := by
  cases h with
  | non => exact .non
  | bl b => exact .bl b
  | int i => exact .int i
  | str z => exact .str z
  | lst e => exact .lst (s _ _ e)
  | tup e => exact .tup (s _ _ e)
  | dK e => exact .dK (s _ _ e)
  | dT e => exact .dT (s _ _ e)
noncomputable def isS : V → Bool
  | .str _ => true
  | _ => false
noncomputable def isI : V → Bool
  | .int _ | .bl _ => true
  | _ => false
noncomputable def isB : V → Bool
  | .bl _ => true
  | _ => false
noncomputable def isL (H : Hp) : V → Bool
  | .ref a => match H a with
    | some (.lst _) => true
    | _ => false
  | _ => false
noncomputable def isT (H : Hp) : V → Bool
  | .ref a => match H a with
    | some (.tup _) => true
    | _ => false
  | _ => false
theorem isL_of {H : Hp} {a : Addr} {xs : List V} (e : H a = some (.lst xs)) : isL H (.ref a) = true := by show (match H a with | some (.lst _) => true | _ => false) = true; rw [e]
theorem isT_of {H : Hp} {a : Addr} {xs : List V} (e : H a = some (.tup xs)) : isT H (.ref a) = true := by show (match H a with | some (.tup _) => true | _ => false) = true; rw [e]
theorem isT_inv {H : Hp} {x : V} (h : isT H x = true) : ∃ a xs, x = .ref a ∧ H a = some (.tup xs) := by
  cases x with
  | ref a =>
    have h : (match H a with | some (.tup _) => true | _ => false) = true := h
    split at h
    · rename_i xs e; exact ⟨a, xs, rfl, e⟩
    · cases h
  | _ => cases h
theorem isL_not {H : Hp} {a : Addr} {o : HO} (e : H a = some o) (n : ∀ xs, o ≠ .lst xs) : isL H (.ref a) = false := by
  show (match H a with | some (.lst _) => true | _ => false) = false
  rw [e]; split
  · rename_i xs q; exact absurd (Option.some.inj q) (n xs)
  · rfl
theorem isT_not {H : Hp} {a : Addr} {o : HO} (e : H a = some o) (n : ∀ xs, o ≠ .tup xs) : isT H (.ref a) = false := by
  show (match H a with | some (.tup _) => true | _ => false) = false
  rw [e]; split
  · rename_i xs q; exact absurd (Option.some.inj q) (n xs)
  · rfl
theorem ty_thg {K : PySem.W.Frag} {H : Hp} {x : V} (h : Thg H x) : ∃ t, TyOf K H x t ∧ PySem.W.kitOne K t (.type "str") = some (isS x) ∧ PySem.W.kitOne K t (.type "int") = some (isI x) ∧ PySem.W.kitOne K t (.type "bool") = some (isB x) ∧
    PySem.W.kitOne K t (.type "list") = some (isL H x) ∧ PySem.W.kitOne K t (.type "tuple") = some (isT H x) := by
  cases h with
  | non => exact ⟨_, .non, by rfl, by rfl, by rfl, by rfl, by rfl⟩
  | bl b => exact ⟨_, .bl b, by rfl, by rfl, by rfl, by rfl, by rfl⟩
  | int i => exact ⟨_, .int i, by rfl, by rfl, by rfl, by rfl, by rfl⟩
  | str z => exact ⟨_, .str _, by rfl, by rfl, by rfl, by rfl, by rfl⟩
  | lst e => exact ⟨_, .lst e, by rfl, by rfl, by rfl, by rw [isL_of e]; rfl, by rw [isT_not e (fun _ z => by cases z)]; rfl⟩
  | tup e => exact ⟨_, .tup e, by rfl, by rfl, by rfl, by rw [isL_not e (fun _ z => by cases z)]; rfl, by rw [isT_of e]; rfl⟩
  | dK e => exact ⟨_, .dK e, by rfl, by rfl, by rfl, by rw [isL_not e (fun _ z => by cases z)]; rfl, by rw [isT_not e (fun _ z => by cases z)]; rfl⟩
  | dT e => exact ⟨_, .dT e, by rfl, by rfl, by rfl, by rw [isL_not e (fun _ z => by cases z)]; rfl, by rw [isT_not e (fun _ z => by cases z)]; rfl⟩
noncomputable def isLow (c : Nat) : Bool := decide (97 ≤ c) && decide (c ≤ 122)
noncomputable def isNm : V → Bool
  | .str z => decide (1 ≤ z.length) && (decide (z.length ≤ 8) && z.cps.toList.all isLow)
  | _ => false
theorem isNm_iff {z : Str} : isNm (.str z) = true ↔ Nm z := by
  show (decide (1 ≤ z.length) && (decide (z.length ≤ 8) && z.cps.toList.all isLow)) = true ↔ _
  rw [Bool.and_eq_true, Bool.and_eq_true, decide_eq_true_iff, decide_eq_true_iff, List.all_eq_true]
  unfold Nm
  constructor
  · rintro ⟨h1, h2, h3⟩
    refine ⟨h1, h2, fun c hc => ?_⟩
    have h := h3 c hc
    unfold isLow at h
    rw [Bool.and_eq_true, decide_eq_true_iff, decide_eq_true_iff] at h
    exact h
  · rintro ⟨h1, h2, h3⟩
    refine ⟨h1, h2, fun c hc => ?_⟩
    unfold isLow
    rw [Bool.and_eq_true, decide_eq_true_iff, decide_eq_true_iff]
    exact h3 c hc
theorem lt_one (c d : Nat) : decide ([c] < [d]) = decide (c < d) := by
  by_cases h : c < d
  · rw [decide_eq_true h]; exact decide_eq_true (List.Lex.rel h)
  · rw [decide_eq_false h]
    refine decide_eq_false fun z => ?_
    cases z with
    | rel z => exact h z
    | cons z => cases z
noncomputable def spIsName : Sp := fun vs H Q _ => ∃ x, vs = [x] ∧ Thg H x ∧ ∀ H', Same H H' → Q (.bl (isNm x)) H'
noncomputable def pK (e : Str × Str) : List Key := [.inr e.1, .inr e.2]
theorem pK_inj {e f : Str × Str} (h : pK e = pK f) : e = f := by
  unfold pK at h
  have h1 := List.cons.inj h
  have h2 := List.cons.inj h1.2
  exact Prod.ext (Sum.inr.inj h1.1) (Sum.inr.inj h2.1)
inductive PlR (H : Hp) : V → VK → Prop
  | nm {a : Addr} {xs : List Str} {Q : VK} : (H a = some (.lst (List.map V.str xs)) ∨ H a = some (.tup (List.map V.str xs))) → xs.length ≤ 1000 →
      (∀ d kvs H', Same H H' → H d = none → H' d = some (.dK kvs) → (∀ s, (valV kvs (.inr s)).isSome = true ↔ s ∈ xs) → (∀ s v, valV kvs (.inr s) = some v → ∃ j : Nat, v = .int j ∧ xs[j]? = some s) → (kvs.map (·.1)).Nodup → (∀ k ∈ kvs.map (·.1), ∃ s ∈ xs, k = Sum.inr s) → Q (.ref d) H') → PlR H (.ref a) Q
  | pr {a : Addr} {refs : List V} {ps : List (Str × Str)} {Q : VK} : (H a = some (.lst refs) ∨ H a = some (.tup refs)) → RepAll H refs (ps.map pairD) → ps.length ≤ 1000 →
      (∀ d kvs H', Same H H' → H d = none → H' d = some (.dT kvs) → (∀ e : Str × Str, (valV kvs (pK e)).isSome = true ↔ e ∈ ps) → Q (.ref d) H') → PlR H (.ref a) Q
noncomputable def spPlacesX : Sp := fun vs H Q _ => ∃ x, vs = [x] ∧ PlR H x Q
section
variable {X : Cx} {p pos p2 pos2 : Pos} {e f : Expr} {t : TA}
inductive IntR (H : Hp) : V → VK → Prop
  | int {i : Int} {Q : VK} : Q (.int i) H → IntR H (.int i) Q
  | bl {b : Bool} {Q : VK} : Q (.int (if b then 1 else 0)) H → IntR H (.bl b) Q
theorem b_int (B : Blt X.mg) (ha : PA X [e] t) (hg : Gl X "int" := by rfl) (he : starEach [e] X.env = (false, eval e X.env) :: starEach [] X.env := by rfl) (hpl : (backTo pos (starEach [] X.env)).any (·.1) = false := by rfl) :
    PE X (.Call (.Name "int" p) [e] [] pos) (tCB (fun xs H Q => ∃ x, xs = [x] ∧ IntR H x Q) t) := by
  refine pe_callTy (r := fun xs H Q => ∃ x, xs = [x] ∧ IntR H x Q) (fun pins s σ H xs us Q I r h => ?_) hg B.int PyProof.Rows.boot_int ha (by decide) (by decide) he hpl
  obtain ⟨x, rfl, h⟩ := h
  cases h with
  | int q => exact call_int1 pins s σ H _ us Q I r (.inl ⟨_, rfl, q⟩)
  | bl q => exact call_int1 pins s σ H _ us Q I r (.inr ⟨_, rfl, q⟩)
theorem g_tuple (B : Blt X.mg) (hg : Gl X "tuple" := by rfl) : PE X (.Name "tuple" p) (tC (.ty "tuple")) := pe_bltn hg B.tuple (show bootBuiltins "tuple" = some (.type "tuple") by decide +kernel) rfl
noncomputable def rIsi2 (K : PySem.W.Frag) (c d : String) : List V → Hp → VK → Prop := fun xs H Q => ∃ x a t b, xs = [x, .ref a] ∧ H a = some (.tup [.ty c, .ty d]) ∧ TyOf K H x t ∧ PySem.W.kitAny K t [.type c, .type d] = some b ∧ Q (.bl b) H
theorem isinst_tup {pins : List (Addr × Obj)} {σ : St} {H : Hp} {s : Shared} {A : Around} {E : Value → Shared → Prop} {Q : Value → Shared → Prop} {x : V} {u t : Value} {tp : Addr} {dd : Option Addr} {its : List Value} {n : Nat} {sl : Array (Option Value)} {b : Bool}
    (I : Inv X pins σ H s) (rx : RelV x u) (ty : TyOf X.K H x t) (htp : s.heap.get? tp = some ⟨.type "tuple", dd, .seq its.toArray n, sl⟩) (e : PySem.W.kitAny X.K t its = some b) (h : ∀ tk, Q (.bool b) { s with toks := tk }) :
    wpAny (model X.prog X.w) A (call (.builtin "isinstance") [u, .ref tp]) Q E s := by
  cases ty with
  | non => cases (show u = Value.none from rx); exact PySem.W.kia_tup PySem.W.kitx_none I.kIn True.intro htp e (fun z => nomatch z) h
  | bl y => cases (show u = Value.bool y from rx); exact PySem.W.kia_tup PySem.W.kitx_bool I.kIn True.intro htp e (fun z => nomatch z) h
  | int i => obtain ⟨t, q⟩ := (show ∃ t, u = Value.int i t from rx); cases q; exact PySem.W.kia_tup PySem.W.kitx_int I.kIn True.intro htp e (fun z => nomatch z) h
  | str y => obtain ⟨t, q⟩ := (show ∃ t, u = Value.str y t from rx); cases q; exact PySem.W.kia_tup PySem.W.kitx_str I.kIn True.intro htp e (fun z => nomatch z) h
  | flt y => obtain ⟨t, q⟩ := (show ∃ t, u = Value.float y t from rx); cases q; exact PySem.W.kia_tup PySem.W.kitx_float I.kIn True.intro htp e (fun z => nomatch z) h
  | @lst a xs ea =>
    cases (show u = Value.ref a from rx)
    obtain ⟨_, _, n, _, h1⟩ := (show ObjOk X.prog X.w H s.heap a (.lst xs) from I.hok a _ ea)
    exact PySem.W.kia_tup PySem.W.kitx_list I.kIn ⟨_, h1, rfl⟩ htp e (fun z => nomatch z) h
  | @frz a ob xs ea =>
    cases (show u = Value.ref a from rx)
    obtain ⟨_, _, _, n, _, h1⟩ := (show ObjOk X.prog X.w H s.heap a (.frz ob (.lst xs)) from I.hok a _ ea)
    exact PySem.W.kia_tup PySem.W.kitx_list I.kIn ⟨_, h1, rfl⟩ htp e (fun z => nomatch z) h
  | @tup a xs ea =>
    cases (show u = Value.ref a from rx)
    obtain ⟨_, _, _, p⟩ := (show ObjOk X.prog X.w H s.heap a (.tup xs) from I.hok a _ ea)
    obtain ⟨o, h1, h2, _⟩ := p
    exact PySem.W.kia_tup PySem.W.kitx_tuple I.kIn ⟨o, h1, h2⟩ htp e (fun z => nomatch z) h
  | @dK a kvs ea =>
    cases (show u = Value.ref a from rx)
    obtain ⟨_, _, vs, _, p⟩ := (show ObjOk X.prog X.w H s.heap a (.dK kvs) from I.hok a _ ea)
    obtain ⟨o, es, ep, h1, h2, _⟩ := p
    exact PySem.W.kia_tup PySem.W.kitx_dict I.kIn ⟨o, h1, h2.1⟩ htp e (fun z => nomatch z) h
  | @dT a kvs ea =>
    cases (show u = Value.ref a from rx)
    obtain ⟨_, _, xs, _, o, es, ep, h1, h2, _⟩ := (show ObjOk X.prog X.w H s.heap a (.dT kvs) from I.hok a _ ea)
    exact PySem.W.kia_tup PySem.W.kitx_dict I.kIn ⟨o, h1, h2.1⟩ htp e (fun z => nomatch z) h
  | @ins a C dx fs ea cl ha hn htk hm =>
    cases (show u = Value.ref a from rx)
    obtain ⟨mA, O, _⟩ := ins_get I.hok ea
    obtain ⟨od, J, _⟩ := O.look
    exact PySem.W.kia_tup (PySem.W.kitx_own (cl.get _) cl.hd ha hn htk hm) I.kIn J htp e (fun z => nomatch z) h
theorem call_isi2 (c d : String) : CallR X (.builtin "isinstance") (rIsi2 X.K c d) := by
  intro pins s σ H xs us Q I r h
  obtain ⟨x, a, t, b, rfl, ea, ty, e, q⟩ := h
  obtain ⟨u, w', rfl, ru, rw'⟩ := vals2 r
  cases rw'
  obtain ⟨_, its, rv, ⟨oc, od, odt, osl⟩, h1, h2, n, h3, _⟩ := (show ObjOk X.prog X.w H s.heap a (.tup [.ty c, .ty d]) from I.hok a _ ea)
  have h2 : oc = .type "tuple" := h2
  have h3 : odt = .seq its.toArray n := h3
  subst h2 h3
  obtain ⟨u1, u2, rfl, r1, r2⟩ := vals2 rv
  cases r1
  cases r2
  exact isinst_tup I ru ty h1 e fun tk => ⟨.bl b, H, I.tok tk, rfl, q⟩
theorem b_isi2 (K : PySem.W.Frag) (c d : String) (B : Blt X.mg) (ha : PA X [e, f] t) (hg : Gl X "isinstance" := by rfl) (he : starEach [e, f] X.env = (false, eval e X.env) :: starEach [f] X.env := by rfl) (hpl : (backTo pos (starEach [f] X.env)).any (·.1) = false := by rfl) (hK : X.K = K := by rfl) : PE X (.Call (.Name "isinstance" p) [e, f] [] pos) (tCB (rIsi2 K c d) t) :=
  hK ▸ pe_callB (call_isi2 c d) hg B.isinstance boot_isinstance ha (by decide) (by decide) he hpl
end
theorem kit_lt {K : PySem.W.Frag} {H : Hp} {x : V} {t : Value} (h1 : PySem.W.kitOne K t (.type "list") = some (isL H x)) (h2 : PySem.W.kitOne K t (.type "tuple") = some (isT H x)) : PySem.W.kitAny K t [.type "list", .type "tuple"] = some (isL H x || isT H x) := by
  unfold PySem.W.kitAny
  rw [h1]
  cases isL H x with
  | true => rfl
  | false =>
    show PySem.W.kitAny K t [.type "tuple"] = _
    unfold PySem.W.kitAny
    rw [h2]
    cases isT H x <;> rfl
end L2
namespace MG
variable {es : List (Nat × Nat)} {goal : Nat}
end MG
namespace L2
open PySem PySem.Spec PyProof.Rows
section
variable {X : Cx} {p pos : Pos} {e : Expr} {t : TA}
noncomputable def rLenD : List V → Hp → VK → Prop := fun xs H Q => ∃ a kvs, xs = [V.ref a] ∧ H a = some (.dK kvs) ∧ Q (.int kvs.length) H
theorem b_lenD (B : Blt X.mg) (ha : PA X [e] t) (hg : Gl X "len" := by rfl) (he : starEach [e] X.env = (false, eval e X.env) :: starEach [] X.env := by rfl) (hpl : (backTo pos (starEach [] X.env)).any (·.1) = false := by rfl) : PE X (.Call (.Name "len" p) [e] [] pos) (tCB rLenD t) :=
  pe_callB call_lenD hg B.len PySem.boot_len ha (by decide) (by decide) he hpl
end
theorem twice_of {α : Type} [DecidableEq α] : ∀ {l : List α}, ¬ l.Nodup → ∃ l1 a l2, l = l1 ++ a :: l2 ∧ a ∈ l2
  | [], h => absurd List.nodup_nil h
  | x :: l, h => by
    by_cases q : x ∈ l
    · exact ⟨[], x, l, rfl, q⟩
    · have h : ¬ l.Nodup := fun z => h (List.nodup_cons.mpr ⟨q, z⟩)
      obtain ⟨l1, a, l2, e, m⟩ := twice_of h
      exact ⟨x :: l1, a, l2, by rw [e]; rfl, m⟩
theorem len_keys {α : Type} [DecidableEq α] {ks ws : List α} (nd : ks.Nodup) (h1 : ∀ k ∈ ks, k ∈ ws) (h2 : ∀ w ∈ ws, w ∈ ks) : ks.length = ws.length ↔ ws.Nodup := by
  constructor
  · intro hl
    refine Classical.byContradiction fun hn => ?_
    obtain ⟨l1, a, l2, e, m⟩ := twice_of hn
    have := nd.length_le_of_subset (l₂ := l1 ++ l2) fun k hk => by
      have := h1 k hk
      rw [e] at this
      rcases List.mem_append.mp this with q | q
      · exact List.mem_append_left _ q
      · rcases List.mem_cons.mp q with q | q
        · rw [q]; exact List.mem_append_right _ m
        · exact List.mem_append_right _ q
    rw [hl, e, List.length_append, List.length_append, List.length_cons] at this
    omega
  · intro hw
    exact Nat.le_antisymm (nd.length_le_of_subset h1) (hw.length_le_of_subset h2)
theorem len_kvs {kvs : List (Key × V)} {ws : List Str} (nd : (kvs.map (·.1)).Nodup) (ks : ∀ k ∈ kvs.map (·.1), ∃ s ∈ ws, k = Sum.inr s) (hin : ∀ s, (valV kvs (.inr s)).isSome = true ↔ s ∈ ws) : kvs.length = ws.length ↔ ws.Nodup := by
  have h := len_keys (ks := kvs.map (·.1)) (ws := ws.map (Sum.inr : Str → Key)) nd (fun k hk => by
      obtain ⟨s, hs, rfl⟩ := ks k hk
      exact List.mem_map.mpr ⟨s, hs, rfl⟩) (fun k hk => by
      obtain ⟨s, hs, rfl⟩ := List.mem_map.mp hk
      obtain ⟨v, hv⟩ := Option.isSome_iff_exists.mp ((hin s).mpr hs)
      exact valV_in hv)
  rw [List.length_map, List.length_map] at h
  rw [h]
  constructor
  · intro q
    exact List.Pairwise.of_map (Sum.inr : Str → Key) (fun a b n e => n (by rw [e])) q
  · intro q
    exact List.Pairwise.map _ (fun a b n e => n (Sum.inr.inj e)) q
noncomputable def inSS (ss : List Str) : V → Bool
  | .str s => decide (s ∈ ss)
  | _ => false
end L2
namespace L2
open PySem PySem.Spec PyProof.Rows PySem.Builtin PySem.Builtin.Str
theorem star_c {c : Const} {j : Nat} {p : Pos} {es : List Expr} {env : Env} : starEach (.Constant c j p :: es) env = (false, eval (.Constant c j p) env) :: starEach es env := rfl
theorem star_n {x : Str} {p : Pos} {es : List Expr} {env : Env} : starEach (.Name x p :: es) env = (false, eval (.Name x p) env) :: starEach es env := rfl
theorem star_l {xs : List Expr} {p : Pos} {es : List Expr} {env : Env} : starEach (.List xs p :: es) env = (false, eval (.List xs p) env) :: starEach es env := rfl
theorem star_t {xs : List Expr} {k : Nat} {p : Pos} {es : List Expr} {env : Env} : starEach (.Tuple xs k p :: es) env = (false, eval (.Tuple xs k p) env) :: starEach es env := rfl
theorem star_f {x : Expr} {xs : List Expr} {ks : List Keyword} {p : Pos} {es : List Expr} {env : Env} : starEach (.Call x xs ks p :: es) env = (false, eval (.Call x xs ks p) env) :: starEach es env := rfl
end L2
namespace L2
open PySem PySem.Spec PyProof.Rows
noncomputable def SqA (H : Hp) (a : Addr) (xs : List V) : Prop := H a = some (.lst xs) ∨ H a = some (.tup xs)
theorem SqA.same {H H' : Hp} {a : Addr} {xs : List V} (h : SqA H a xs) (s : Same H H') : SqA H' a xs := by
  rcases h with h | h
  · exact .inl (s _ _ h)
  · exact .inr (s _ _ h)
theorem SqA.len {K : PySem.W.Frag} {H : Hp} {a : Addr} {xs : List V} (h : SqA H a xs) : LenV K (.ref a) H xs.length := by
  rcases h with h | h
  · exact .inl ⟨xs, .of h, rfl⟩
  · exact .inr ⟨xs, .of h, rfl⟩
theorem SqA.thg {H : Hp} {a : Addr} {xs : List V} (h : SqA H a xs) : Thg H (.ref a) := by
  rcases h with h | h
  · exact .lst h
  · exact .tup h
theorem SqA.lt {H : Hp} {a : Addr} {xs : List V} (h : SqA H a xs) : (isL H (.ref a) || isT H (.ref a)) = true := by
  rcases h with h | h
  · rw [isL_of h]; rfl
  · rw [isT_of h, Bool.or_true]
end L2
namespace L2
open PySem PySem.Spec PyProof.Rows
theorem shownAll_map : ∀ ds : List PyData, PyData.shownAll ds = ds.map PyData.shown
  | [] => rfl
  | d :: ds => by
    show PyData.shown d :: PyData.shownAll ds = _
    rw [shownAll_map ds]; rfl
theorem join_le {n : Nat} : ∀ (ts : List Str), (∀ t ∈ ts, t.length ≤ n) → (Str.join ", " ts).length ≤ ts.length * (n + 2)
  | [], _ => Nat.zero_le _
  | [y], h => by
    have := h y (by simp)
    show y.length ≤ 1 * (n + 2)
    omega
  | y :: z :: r, h => by
    have h1 := join_le (z :: r) fun t ht => h t (List.mem_cons_of_mem _ ht)
    have h2 := h y (by simp)
    have h3 : (Str.ofString ", ").length = 2 := rfl
    show (y ++ ", " ++ Str.join ", " (z :: r)).length ≤ ((z :: r).length + 1) * (n + 2)
    rw [len_app, len_app, Nat.succ_mul]
    show y.length + (Str.ofString ", ").length + _ ≤ _
    omega
end L2
namespace L2
open PySem PySem.Spec PyProof.Rows
theorem cutV_from (xs : List V) (k : Nat) : cutV xs (some (k : Int)) none = xs.drop k := by
  unfold cutV
  rw [HT.sIx_nat, HT.sIx_none]
  by_cases h : k ≤ xs.length
  · rw [Nat.min_eq_left h, List.take_of_length_le (by rw [List.length_drop]; omega)]
  · rw [Nat.min_eq_right (by omega), List.drop_of_length_le (Nat.le_refl _), List.drop_of_length_le (by omega)]; simp
end L2
namespace MG
variable {α : Type}
end MG
namespace L2
open PySem PySem.Spec PyProof.Rows
theorem wpAny_flat {α : Type} {M : Model} {A : Around} {E : Value → Shared → Prop} {s : Shared} {m : Sem (Option α)} {P : α → Shared → Prop}
    (h : wpAny M A m (fun r s1 => ∃ u, r = some u ∧ wpAny M A (pure () : Sem Unit) (fun _ s2 => P u s2) E s1) E s) : wpAny M A m (fun r s1 => ∃ u, r = some u ∧ P u s1) E s := by
  intro Γ p hΓ
  exact Sem.wp_mono M Γ m (fun r p' s1 ⟨u, e, q⟩ => ⟨u, e, q Γ p' hΓ⟩) (fun _ _ _ z => z) p s (h Γ p hΓ)
theorem Inv.atA {X : Cx} {pins : List (Addr × Obj)} {σ : St} {H : Hp} {s : Shared} (I : Inv X pins σ H s) (A' : Around) (h1 : A'.handled = X.A.handled) (h2 : A'.frames = X.A.frames) : Inv { X with A := A' } pins σ H s :=
  ⟨⟨I.ok.mod, I.ok.kind, I.ok.glob, I.ok.blt, I.ok.above, I.ok.inj, I.ok.has, I.ok.cab, fun c => h1.trans (I.ok.hd c), h2.trans I.ok.frames, I.ok.stk, I.ok.exf, I.ok.bs, I.ok.bsz, I.ok.noex, I.ok.exfs, I.ok.funs, I.ok.frf⟩,
    I.os, I.bare, I.base, I.loc, I.cell, I.free, I.freeC, I.pin, I.hok, I.len⟩
theorem Inv.ofA {X : Cx} {pins : List (Addr × Obj)} {σ : St} {H : Hp} {s : Shared} {A' : Around} (ok : X.Ok) (I : Inv { X with A := A' } pins σ H s) : Inv X pins σ H s :=
  ⟨ok, I.os, I.bare, I.base, I.loc, I.cell, I.free, I.freeC, I.pin, I.hok, I.len⟩
theorem keys_miss_list : typeLookup (.type "list") "keys" = pure none := am_miss_of_fast (by decide +kernel)
section
variable {prog : Program} {w : World} {A : Around} {E : Value → Shared → Prop} {s : Shared}
theorem nokeys_list {a : Addr} {o : Obj} {xs : Array Value} {k : Nat} {Q : Option Value → Shared → Prop}
    (hx : s.heap.get? a = some o) (hc : o.cls = .type "list") (hdat : o.data = .seq xs k) (hd : o.dict = none) (hA : A.handled = none)
    (h : ∀ h' tk, (∀ b ob, s.heap.get? b = some ob → h'.get? b = some ob) → Q none { s with heap := h', toks := tk }) :
    wpAny (model prog w) A (getAttr? (.ref a) "keys") Q E s := by
  obtain ⟨c, dct, dat, sl⟩ := o
  simp only at hc hdat hd
  subst hc hdat hd
  obtain ⟨hp, g, d, tk, os⟩ := s
  have hT : ∀ tk', (⟨hp, g, d, tk', os⟩ : Shared).TypeIs (.ref a) "list" := fun _ => ⟨_, hx, rfl⟩
  have f1 := sub_AttributeError
  have f3 := F.slot_list_getattribute.lookup
  have f4 := F.slot_list_getattribute.bind (.ref a)
  have f5 := am_list_getattr_none
  unfold getAttr? getAttrBy? getAttrBy
  repeat (any_goals (first | assumption | exact hT _ | ((with_reducible show wpAny _ _ (call (Value.builtin "list.__getattribute__") _ _) _ _ _); refine call_meets F.slot_list_getattribute (hT _) am_entry_list_getattribute (F.args_list_getattribute_2 _ _) (meets_getattribute_miss_list a xs k sl "keys" _ keys_miss_list (by decide +kernel)) ⟨hx, hA, fun h' tk' e hx' => ?_⟩) | wp_step))
  obtain ⟨t', u', he⟩ := hx'.there
  show wpAny _ _ (getattributeRaised _ _ _ _ _ _ _) _ _ _
  unfold getattributeRaised
  repeat (any_goals (first | assumption | wp_step))
  exact h _ _ hx'.keeps
end
end L2
namespace L2
open PySem PySem.Spec PyProof.Rows
namespace DU
theorem entry_loop : entryFor table "dict.update.loop" = some Builtin.«dict.update.loop» := entryFor_of_fast (by kernel_rfl)
theorem plain_loop : plainId "dict.update.loop" = true := by decide +kernel
end DU
section
variable {X : Cx} {pins : List (Addr × Obj)} {σ : St} {H : Hp} {s : Shared} {a : Addr} {y v : V} {u r : Value} {A : Around} {E : Value → Shared → Prop}
theorem d_dictSet {H' : Hp} {Q : Unit → Shared → Prop} (hu : A.units < cLine) (I : Inv X pins σ H s) (g : DPut H a y v H') (ry : RelV y u) (rv : RelV v r) (h : ∀ s', Inv X pins σ H' s' → (∀ b o, b ≠ a → s.heap.get? b = some o → s'.heap.get? b = some o) → Q () s') :
    wpAny (model X.prog X.w) A (dictSet a u r) Q E s := by
  rcases g with ⟨kvs, k, e, ey, l, eH⟩ | ⟨kvs, k, b, e, ey, eb, l, eH⟩
  · subst ey eH
    obtain ⟨z, hd, vs, rel, dd⟩ := dk_of I.hok e
    have hz : vs.length ≤ sizeLine := by rw [← rel.length]; exact z
    have hl : (putK kvs k v).length ≤ sizeLine := by have := length_putK kvs k v; omega
    refine wpAny_dictSet_pairs (hsz := hz) (kV_is ry) dd fun h' dd' hs => h _ ?_ fun b o n q => hs.extBut _ _ n q
    have he : ∃ q, h'.get? a = some q := let ⟨q, _, _, hq, _⟩ := dd'; ⟨q, hq⟩
    exact d_write I (by rw [e]; exact True.intro) hs he (dk_new hl hd (rel.put k rv) dd')
  · subst ey eH
    cases (show u = Value.ref b from ry)
    obtain ⟨z, hd, xs, rel, dd⟩ := dt_of I.hok e
    have hz : xs.length ≤ sizeLine := by rw [← Paired.length rel]; exact z
    have hl : (putK kvs k v).length ≤ sizeLine := by have := length_putK kvs k v; omega
    refine wpAny_dictSet_heap (hsz := hz) hu (key_of I.hok eb) dd fun h' dd' hs => h _ ?_ fun b o n q => hs.extBut _ _ n q
    obtain ⟨q, es, ep, hq, h2, h3, h4, _, h5⟩ := dd'
    refine d_write I (by rw [e]; exact True.intro) hs ⟨q, hq⟩ ⟨hl, hd, _, (rel.put k eb rv).keeps fun c ys ec => ?_, q, es, ep, hq, h2, h3, h4, h5⟩
    rw [upd_ne (ne_of ec e (fun z => nomatch z))]
    exact ec
theorem DPut.at_ {H' : Hp} (g : DPut H a y v H') : (∃ o, H a = some o) ∧ ∀ b, b ≠ a → H' b = H b := by
  rcases g with ⟨kvs, k, e, ey, l, eH⟩ | ⟨kvs, k, b, e, ey, eb, l, eH⟩
  · exact ⟨⟨_, e⟩, fun b n => by rw [eH, upd_ne n]⟩
  · exact ⟨⟨_, e⟩, fun b n => by rw [eH, upd_ne n]⟩
end
theorem dict_loop {X : Cx} {pins : List (Addr × Obj)} {σ : St} {nm : Str} {tp : Pos} {J : It} {fp : List Addr} {it : Addr} {tn : Nat → Heap → Prop} (T : Turn X.prog X.w X.K (.Name nm tp) J fp it tn) (hc : X.calm = true) (hu : X.A.units + 64 < cLine) (d : Addr) (n : Nat) (Dv : Nat → Hp → Prop)
    (go : ∀ i H, i < n → Dv i H → J.go i H ∧ ∀ x H1, J.yld i H x H1 → ∃ b k v H2, x = .ref b ∧ SqT X.K H1 b [k, v] ∧ DPut H1 d k v H2 ∧ Dv (i + 1) H2)
    (stop : ∀ H, Dv n H → J.stop n H) {R : Result → Shared → Prop} : ∀ (k i : Nat) (j : Int) (s : Shared) (H : Hp), n - i = k → i ≤ n → Inv X pins σ H s → (∀ b ∈ fp, FpOk X pins H b) → tn i s.heap → Dv i H →
      (∀ H' s', Inv X pins σ H' s' → Dv n H' → R (.ok (.ret .none)) s') → codeAny (model X.prog X.w) X.A.in1 (.builtin "dict.update.loop" ⟨[.ref d, .ref it, rawInt j, .none], []⟩) R s := by
  intro k
  induction k with
  | zero =>
    intro i j s H hk hi I hf ht hd hR
    have hin : i = n := by omega
    subst hin
    refine codeAny_builtin DU.entry_loop ?_
    rw [Around.under_plainId DU.plain_loop _]
    show wpAny _ X.A.in1.in1 (pyNext (.ref it) >>= _) _ _ s
    refine wpAny_bind (wpAny_mono (T.done { X with A := X.A.in1.in1 } rfl rfl rfl hc i pins s σ H _ (I.atA _ rfl rfl) hf ht (stop H hd)) (fun r s1 ⟨e, I1⟩ => ?_) fun _ _ z => z)
    subst e
    show wpAny _ _ (Builtin.Dict.addKeywords d [] >>= _) _ _ _
    exact wpAny_bind (wpAny_pure (wpAny_pure (hR H s1 (Inv.ofA I.ok I1) hd)))
  | succ k ih =>
    intro i j s H hk hi I hf ht hd hR
    have hlt : i < n := by omega
    obtain ⟨hg, hy⟩ := go i H hlt hd
    refine codeAny_builtin DU.entry_loop ?_
    rw [Around.under_plainId DU.plain_loop _]
    show wpAny _ X.A.in1.in1 (pyNext (.ref it) >>= _) _ _ s
    refine wpAny_bind (wpAny_mono (wpAny_flat (T.item { X with A := X.A.in1.in1 } rfl rfl rfl hc i pins s σ H _ (I.atA _ rfl rfl) hf ht hg)) (fun r s1 ⟨u, e, x, H1, I1, rx, yl, t1, fn⟩ => ?_) fun _ _ z => z)
    subst e
    replace I1 := Inv.ofA I.ok I1
    obtain ⟨b, kk, v, H2, ex, sq, dp, dv⟩ := hy x H1 yl
    subst ex
    cases (show u = Value.ref b from rx)
    obtain ⟨its, rv, pt, hz⟩ := I1.tuple sq
    obtain ⟨u1, u2, e2, r1, r2⟩ := vals2 rv
    subst e2
    obtain ⟨o, ho, hcl, m, hdt⟩ := pt
    show wpAny _ _ (holding [Value.ref b] _ >>= _) _ _ _
    refine wpAny_bind (wpAny_holding ?_)
    show wpAny _ _ (Sem.tryCatch (Builtin.Dict.pairItems (Value.ref b)) _ >>= _) _ _ _
    refine wpAny_bind (wpAny_tryCatch ?_)
    unfold Builtin.Dict.pairItems
    refine wpAny_bind (wpAny_typeOf (T := "tuple") ⟨o, ho, hcl⟩ ?_)
    simp only [show ((Value.type "tuple" == Value.type "list") || (Value.type "tuple" == Value.type "tuple")) = true from rfl, if_true]
    unfold seqItems?
    refine wpAny_bind (wpAny_bind (wpAny_load ho ?_))
    rw [hdt]
    refine wpAny_pure (wpAny_pure ?_)
    show wpAny _ _ (holding [u1, u2] (dictSet d u1 u2)) _ _ _
    have hu' : X.A.in1.in1.units < cLine := by show X.A.units + 1 + 1 < cLine; omega
    refine wpAny_holding (d_dictSet hu' I1 dp r1 r2 fun s2 I2 hk2 => ?_)
    have dn : ∀ b ∈ fp, b ≠ d := fun b hb q => by
      obtain ⟨o, eo⟩ := dp.at_.1
      rw [← q, fn b hb] at eo
      cases eo
    refine wpAny_pure ⟨plainId_quiet DU.plain_loop _, ih (i + 1) (j + 1) s2 H2 (by omega) hlt I2 (fun b hb => ?_) (T.keep _ _ _ t1 fun b hb o q => hk2 b o (dn b hb) q) dv hR⟩
    obtain ⟨_, f1, f2, f3, f4, f5⟩ := hf b hb
    exact ⟨(dp.at_.2 b (dn b hb)).trans (fn b hb), f1, f2, f3, f4, f5⟩
theorem Rd.fresh {H : Hp} {a l : Addr} {u o : HO} (r : Rd H a u) (hl : H l = none) : Rd (upd H l o) a u := by
  have n : a ≠ l := fun e => by subst e; rcases r with r | ⟨_, r⟩ <;> rw [hl] at r <;> cases r
  unfold Rd
  rw [upd_ne n]
  exact r
theorem SqT.fresh {K : PySem.W.Frag} {H : Hp} {a l : Addr} {xs : List V} {o : HO} (r : SqT K H a xs) (hl : H l = none) : SqT K (upd H l o) a xs := by
  rcases r with r | r
  · exact Or.inl (r.fresh hl)
  · exact Or.inr r
theorem SqL.fresh {K : PySem.W.Frag} {H : Hp} {a l : Addr} {xs : List V} {o : HO} (r : SqL K H a xs) (hl : H l = none) : SqL K (upd H l o) a xs := by
  rcases r with r | r
  · exact Or.inl (r.fresh hl)
  · exact Or.inr r
theorem call_dictG {X : Cx} (hc : X.calm = true) (hu : X.A.units + 64 < cLine) {pins : List (Addr × Obj)} {s : Shared} {σ : St} {H : Hp} {p : Addr} {xs : List V} {Q : VK} {oi : Nat → HO} (I : Inv X pins σ H s) (hq : SqL X.K H p xs) (h0 : oi 0 = .dK [] ∨ oi 0 = .dT [])
    (hgo : ∀ (i : Nat) (x : V), xs[i]? = some x → ∃ b k v, x = V.ref b ∧ SqT X.K H b [k, v] ∧ ∀ l, H l = none → DPut (upd H l (oi i)) l k v (upd H l (oi (i + 1)))) (q : ∀ l, H l = none → Q (.ref l) (upd H l (oi xs.length))) :
    wpAny (model X.prog X.w) X.A (call (.type "dict") [.ref p]) (EP X pins σ Q) X.xe s := by
  refine callType_codes (Q₁ := fun obj s₁ => obj = .ref s.heap.objs.size ∧ s₁ = { s with heap := s.heap.push { cls := .type "dict", data := .dict #[] } }) F.kt_called_dict (F.kt_typeCall_dict_1 _) F.entry_dict_init (kt_code_dict_new _ ⟨rfl, rfl⟩) ?_
  rintro obj s₁ ⟨rfl, rfl⟩
  have hl : H s.heap.objs.size = none := I.hok.fresh (Nat.le_refl _)
  have I1 : Inv X pins σ (upd H s.heap.objs.size (oi 0)) { s with heap := s.heap.push { cls := .type "dict", data := .dict #[] } } := by
    refine I.laid (a := s.heap.objs.size) (o := oi 0) (t' := s.toks) (fun _ _ q => Heap.get?_push_of_some _ q) (Nat.le_refl _) ?_
    rcases h0 with e | e
    · rw [e]; exact dk_empty s.heap I.big
    · rw [e]; exact dt_empty s.heap I.big
  have hnew : (⟨s.heap.push { cls := .type "dict", data := .dict #[] }, s.gens, s.drawn, s.toks, s.os⟩ : Shared).TypeIs (.ref s.heap.objs.size) "dict" := ⟨_, Heap.get?_push_size _ rfl, rfl⟩
  refine ⟨hnew, F.args_dict_init_2 _ _, ?_⟩
  unfold Builtin.«dict.__init__»
  refine wpAny_bind ?_
  unfold Builtin.Dict.selfAndRest
  refine wpAny_bind (wpAny_notOrdered_dict hnew ?_)
  show wpAny _ _ (pure (s.heap.objs.size, [Value.ref p])) _ _ _
  refine wpAny_pure ?_
  show wpAny _ _ (Builtin.Dict.updateFrom "dict.__init__" s.heap.objs.size (.ref p) [] .none) _ _ _
  unfold Builtin.Dict.updateFrom
  have hA : X.A.in1.in1.handled = none := I.ok.hd hc
  · obtain ⟨its, rv, pl, hz⟩ := I1.list (hq.fresh hl)
    obtain ⟨o, n, ho, hcl, hdn, hdt⟩ := id pl
    refine wpAny_bind (wpAny_typeOf (T := "list") ⟨o, ho, hcl⟩ ?_)
    rw [if_pos (by decide)]
    refine wpAny_bind (nokeys_list ho hcl hdt hdn hA fun h' tk kp => ?_)
    have I2 := I1.kept (h' := h') (t' := tk) kp
    refine wpAny_bind (wpAny_rule (wpAny_bind ?_))
    obtain ⟨its2, rv2, pl2, hz2⟩ := I2.list (hq.fresh hl)
    refine wpAny_pyIter_list pl2.isList ?_
    refine wpAny_pure ⟨plainId_quiet DU.plain_loop _, ?_⟩
    refine dict_loop (nm := "x") (tp := default) (turn_list p h'.objs.size) hc hu s.heap.objs.size xs.length (fun i H' => H' = upd H s.heap.objs.size (oi i)) (fun i H' hi e => ?_) (fun H' e => ?_) _ 0 0 _ _ rfl (Nat.zero_le _) (I2.kept (t' := tk) fun b o e => Heap.get?_push_of_some _ e) (fun b hb => ?_) ⟨_, Heap.get?_push_size _ rfl, rfl, rfl⟩ rfl fun H' s' I' e => ?_
    · subst e
      have hx : xs[i]? = some xs[i] := List.getElem?_eq_getElem hi
      refine ⟨⟨xs, xs[i], hq.fresh hl, hx⟩, fun x H1 ⟨e1, e2⟩ => ?_⟩
      subst e1
      obtain ⟨b, k, v, ex, sq, dp⟩ := hgo i x (e2 xs (hq.fresh hl))
      exact ⟨b, k, v, _, ex, sq.fresh hl, dp _ hl, rfl⟩
    · subst e
      exact ⟨xs, hq.fresh hl, Nat.le_refl _⟩
    · have e : b = h'.objs.size := by simpa using hb
      subst e
      exact I2.fpOk (Nat.le_refl _) (I2.hok.fresh (Nat.le_refl _))
    · subst e
      exact ⟨rfl, .ref _, _, I', rfl, q _ hl⟩
theorem foldK_le {κ : Type} [DecidableEq κ] : ∀ (ps : List (κ × V)) (m : List (κ × V)), (ps.foldl (fun m q => putK m q.1 q.2) m).length ≤ m.length + ps.length := by
  intro ps
  induction ps with
  | nil => intro m; exact Nat.le_refl _
  | cons q r ih =>
    intro m
    have h1 := ih (putK m q.1 q.2)
    have h2 := length_putK m q.1 q.2
    rw [List.foldl_cons, List.length_cons]
    omega
noncomputable def mkK {κ : Type} [DecidableEq κ] (ps : List (κ × V)) : List (κ × V) := ps.foldl (fun m q => putK m q.1 q.2) []
theorem mkK_le {κ : Type} [DecidableEq κ] (ps : List (κ × V)) : (mkK ps).length ≤ ps.length := by
  have := foldK_le ps []
  rw [List.length_nil, Nat.zero_add] at this
  exact this
theorem mkK_take {κ : Type} [DecidableEq κ] (ps : List (κ × V)) (i : Nat) (q : κ × V) (h : ps[i]? = some q) : mkK (ps.take (i + 1)) = putK (mkK (ps.take i)) q.1 q.2 := by
  unfold mkK
  rw [List.take_add_one, h, List.foldl_append]
  rfl
noncomputable def rDicK (K : PySem.W.Frag) : List V → Hp → VK → Prop := fun vs H Q => ∃ p xs, ∃ ps : List (Key × V), vs = [.ref p] ∧ SqL K H p xs ∧ xs.length = ps.length ∧
  (∀ (i : Nat) (q : Key × V) (x : V), ps[i]? = some q → xs[i]? = some x → ∃ b, x = V.ref b ∧ SqT K H b [kV q.1, q.2]) ∧ ∀ l, H l = none → Q (.ref l) (upd H l (.dK (mkK ps)))
section
variable {X : Cx} {p pos : Pos} {e : Expr} {t : TA}
theorem b_dicK (K : PySem.W.Frag) (hc : X.calm = true) (hu : X.A.units + 64 < cLine) (B : Blt X.mg) (ha : PA X [e] t) (hg : Gl X "dict" := by rfl) (he : starEach [e] X.env = (false, eval e X.env) :: starEach [] X.env := by rfl) (hpl : (backTo pos (starEach [] X.env)).any (·.1) = false := by rfl) (hK : X.K = K := by rfl) :
    PE X (.Call (.Name "dict" p) [e] [] pos) (tCB (rDicK K) t) := by
  subst hK
  refine pe_callTy (r := rDicK X.K) (fun pins s σ H xs us Q I r h => ?_) hg B.dict (show bootBuiltins "dict" = some (.type "dict") by decide +kernel) ha (by decide) (by decide) he hpl
  obtain ⟨p, xs, ps, rfl, hq, hl, hp, q⟩ := h
  obtain ⟨u, rfl, ru⟩ := vals1 r
  cases ru
  obtain ⟨_, _, _, hz⟩ := I.list hq
  refine call_dictG hc hu (oi := fun i => .dK (mkK (ps.take i))) I hq (Or.inl rfl) (fun i x hx => ?_) fun l hl' => ?_
  · have hi : i < ps.length := by rw [← hl]; exact (List.getElem?_eq_some_iff.mp hx).1
    obtain ⟨b, ex, sq⟩ := hp i ps[i] x (List.getElem?_eq_getElem hi) hx
    refine ⟨b, kV ps[i].1, ps[i].2, ex, sq, fun l hl' => ?_⟩
    have d := DPut.k (H := upd H l (.dK (mkK (ps.take i)))) (a := l) (kvs := mkK (ps.take i)) (k := ps[i].1) (v := ps[i].2) upd_same (by have := mkK_le (ps.take i); rw [List.length_take] at this; omega)
    rw [upd_upd, ← mkK_take ps i ps[i] (List.getElem?_eq_getElem hi)] at d
    exact d
  · rw [hl, List.take_length]
    exact q l hl'
end
end L2
namespace L2
open PySem PySem.Spec PyProof.Rows
namespace SP
open PySem.Builtin PySem.Builtin.Str PySem.StrLaws
noncomputable abbrev one (c : Nat) : Str := ⟨#[c]⟩
end SP
end L2
namespace MG
variable {es : List (Nat × Nat)} {goal : Nat}
end MG
namespace L2
open PySem PySem.Spec PyProof.Rows
theorem str_declines_dict (b : Str) (u : Tok) (l : Addr) (c : Value) (es : Array DictEntry) (ep : Nat) (dd : Option Addr) (sl : Array (Option Value)) : Meets (Builtin.«str.__eq__» { pos := [Value.str b u, Value.ref l] }) fun _ R s => s.heap.get? l = some { cls := c, dict := dd, data := .dict es ep, slots := sl } ∧ R (Except.ok (Flow.ret Value.notImplemented)) s := Meets.of_wp fun prog w A R s h => by
  obtain ⟨hl, h⟩ := h
  obtain ⟨hp, g, d, tk, os⟩ := s
  unfold Builtin.«str.__eq__» Builtin.Str.strCompare
  refine wpAny_bind ?_
  unfold Builtin.Str.strSlot
  refine wpAny_bind ?_
  unfold slotArgs
  refine wpAny_ite_false (Eq.refl (decide ((!({ pos := [Value.str b u, Value.ref l] } : Args).kw.isEmpty) = true))) (wpAny_ite_false (Eq.refl (decide (([Value.ref l].length != 1) = true))) (wpAny_pure ?_))
  refine wpAny_bind ?_
  unfold Builtin.Str.textOf
  refine wpAny_bind ?_
  unfold asStr?
  refine wpAny_pure (wpAny_pure (wpAny_pure (wpAny_bind ?_)))
  refine wpAny_bind (wpAny_load hl (wpAny_pure ?_))
  exact wpAny_bind (wpAny_rule (wpAny_pure ⟨Value.notImplemented, rfl, h⟩))
theorem dict_declines_str (l : Addr) (b : Str) (u : Tok) : Meets (Builtin.«dict.__eq__» { pos := [Value.ref l, Value.str b u] }) fun _ R s => R (Except.ok (Flow.ret Value.notImplemented)) s := Meets.of_wp fun prog w A R s h => by
  obtain ⟨hp, g, d, tk, os⟩ := s
  have f1 := F.sub_str_dict
  unfold Builtin.«dict.__eq__»
  refine wpAny_bind ?_
  unfold Builtin.Dict.dictSlotArgs
  refine wpAny_bind ?_
  unfold Builtin.Dict.notOrdered
  refine wpAny_ite_false (by decide) (wpAny_pure ?_)
  refine wpAny_bind ?_
  unfold slotArgs
  refine wpAny_ite_false (Eq.refl (decide ((!({ pos := [Value.ref l, Value.str b u] } : Args).kw.isEmpty) = true))) (wpAny_ite_false (Eq.refl (decide (([Value.str b u].length != 1) = true))) (wpAny_pure ?_))
  refine wpAny_pure ?_
  refine wpAny_bind ?_
  unfold isInstance
  refine wpAny_bind ?_
  refine wpAny_pure (wpAny_of_eq f1 ?_)
  refine wpAny_ite_true (Eq.refl (decide ((!false) = true))) ?_
  exact wpAny_bind (wpAny_rule (wpAny_pure ⟨Value.notImplemented, rfl, h⟩))
theorem rc_str_dict {A : Around} {s : Shared} {l : Addr} (b : Str) (u : Tok) {o : Obj} {es : Array DictEntry} {ep : Nat} (ho : s.heap.get? l = some o) (hc : o.cls = .type "dict") (hd : o.data = .dict es ep) (hu : A.units < cLine) : SeqAt.RcAt A s (Value.str b u) (Value.ref l) false := by
  intro prog w E Q h
  obtain ⟨cls, dd, data, sl⟩ := o
  have hc : cls = .type "dict" := hc
  have hd : data = .dict es ep := hd
  subst hc
  subst hd
  refine SeqAt.rc_eq_decline_or (typeIs_str s b u) ⟨_, ho, rfl⟩ (by decide) F.sub_dict_str F.slot_str_eq F.slot_dict_eq_refl
    (fun Q' hq => call_meets F.slot_str_eq (typeIs_str s b u) F.entry_str_eq (F.args_str_eq_2 _ _) (str_declines_dict b u l _ es ep dd sl) ⟨ho, hq⟩)
    (fun Q' hq => call_meets F.slot_dict_eq_refl ⟨_, ho, rfl⟩ F.entry_dict_eq (F.args_dict_eq_2 _ _) (dict_declines_str l b u) hq)
    (fun Q' hq => wpAny_of_eq rfl hq) (Or.inr hu) h
theorem eq_str_dict {A : Around} {s : Shared} {l : Addr} (b : Str) (u : Tok) {o : Obj} {es : Array DictEntry} {ep : Nat} (ho : s.heap.get? l = some o) (hc : o.cls = .type "dict") (hd : o.data = .dict es ep) (hu : A.units < cLine) : SeqAt.EqAt A s (Value.str b u) (Value.ref l) false := by
  intro prog w E Q h
  unfold eqBool
  exact wpAny_holding (wpAny_ite_split (fun hab => absurd (eq_of_beq hab) fun a => nomatch a) fun _ => wpAny_bind (rc_str_dict b u ho hc hd hu prog w E (fun a s' => wpAny (model prog w) A (truthOfDropped a) Q E s') (wpAny_truthy_bool h)))
noncomputable def eqSV (x : V) : Value → Bool
  | .str z _ => inSS [z] x
  | _ => false
theorem eqSV_at {X : Cx} {pins : List (Addr × Obj)} {σ : St} {H : Hp} {s : Shared} {A : Around} {x : V} {v : Value} (I : Inv X pins σ H s) (tx : Thg H x) (rx : RelV x v) (hu : A.units < cLine) (z : Str) (u : Tok) : SeqAt.EqAt A s (Value.str z u) v (inSS [z] x) := by
  have flat : flatV x = true → SeqAt.EqAt A s (Value.str z u) v (eqV (.str z) x) := fun f => eqAt_V (show RelV (.str z) (Value.str z u) from ⟨u, rfl⟩) rx rfl f
  cases tx with
  | non => exact flat rfl
  | bl b => exact flat rfl
  | int i => exact flat rfl
  | @str w h =>
    have := flat rfl
    have e : eqV (.str z) (.str w) = inSS [z] (.str w) := by
      show (z == w) = decide (w ∈ [z])
      rw [Bool.eq_iff_iff, beq_iff_eq, decide_eq_true_iff, List.mem_singleton]
      exact ⟨Eq.symm, Eq.symm⟩
    rw [e] at this
    exact this
  | @lst a xs e =>
    cases rx
    obtain ⟨_, its, n, rv, eh⟩ := (show ObjOk X.prog X.w H s.heap a (.lst xs) from I.hok a _ e)
    exact SeqAt.EqAt.str_list (items := its.toArray) z u ⟨_, eh, rfl, n, rfl⟩ hu
  | @tup a xs e =>
    cases rx
    obtain ⟨its, rv, pl, _⟩ := I.tuple (a := a) (xs := xs) (.of e)
    exact SeqAt.EqAt.str_tuple z u pl hu
  | @dK a kvs e =>
    cases rx
    obtain ⟨_, _, vs, _, p⟩ := (show ObjOk X.prog X.w H s.heap a (.dK kvs) from I.hok a _ e)
    obtain ⟨o, es, ep, h1, h2, h3, _⟩ := p
    exact eq_str_dict z u h1 h2.1 h3 hu
  | @dT a kvs e =>
    cases rx
    obtain ⟨_, _, xs, _, o, es, ep, h1, h2, h3, _⟩ := (show ObjOk X.prog X.w H s.heap a (.dT kvs) from I.hok a _ e)
    exact eq_str_dict z u h1 h2.1 h3 hu
theorem vals_strs : ∀ {ss : List Str} {us : List Value}, Vals (List.map V.str ss) us → ∀ u ∈ us, ∃ z t, u = Value.str z t
  | [], _, .nil, u, h => by cases h
  | s :: ss, _ :: us, .cons r t, u, h => by
    rcases List.mem_cons.mp h with rfl | h
    · obtain ⟨t, rfl⟩ := r
      exact ⟨s, t, rfl⟩
    · exact vals_strs t u h
theorem any_eqSV {x : V} : ∀ {ss : List Str} {us : List Value}, Vals (List.map V.str ss) us → us.any (eqSV x) = inSS ss x
  | [], _, .nil => by cases x <;> rfl
  | s :: ss, u :: us, .cons r t => by
    have ih := any_eqSV (x := x) t
    obtain ⟨tk, rfl⟩ := r
    rw [List.any_cons, ih]
    cases x with
    | str w =>
      show (decide (w ∈ [s]) || decide (w ∈ ss)) = decide (w ∈ s :: ss)
      rw [Bool.eq_iff_iff, Bool.or_eq_true, decide_eq_true_iff, decide_eq_true_iff, decide_eq_true_iff, List.mem_singleton, List.mem_cons]
    | _ => rfl
section
variable {X : Cx}
noncomputable def rInT (K : PySem.W.Frag) (neg : Bool) : V → V → Hp → VK → Prop := fun x y H Q => ∃ p ss, y = .ref p ∧ (SqL K H p (List.map V.str ss) ∨ SqT K H p (List.map V.str ss)) ∧ Thg H x ∧ Q (.bl (if neg then !inSS ss x else inSS ss x)) H
theorem op_inT (K : PySem.W.Frag) (hu : X.A.units + 64 < cLine) (hK : X.K = K := by rfl) : OpR X (compareOp .In) (rInT K false) := by
  subst hK
  intro pins s σ H x y v u Q I rx ry h
  obtain ⟨p, ss, rfl, hq, tx, q⟩ := h
  cases ry
  have eqs : ∀ {its : List Value}, Vals (List.map V.str ss) its → ∀ w ∈ its.toArray, SeqAt.EqAt X.A.in1 s w v (eqSV x w) := fun r w hw => by
    obtain ⟨z, t, rfl⟩ := vals_strs r w (by simpa using hw)
    exact eqSV_at I tx rx (by show X.A.units + 1 < cLine; omega) z t
  rcases hq with hq | hq
  · obtain ⟨its, r, pl, hz⟩ := I.list hq
    refine SeqAt.in_listAt (eqSV x) pl.isList (eqs r) ⟨.bl _, H, I, rfl, ?_⟩
    rw [show its.toArray.any (eqSV x) = its.any (eqSV x) by simp, any_eqSV r]
    exact q
  · obtain ⟨its, r, pl, hz⟩ := I.tuple hq
    refine SeqAt.in_tupleAt (eqSV x) pl (eqs r) ⟨.bl _, H, I, rfl, ?_⟩
    rw [show its.toArray.any (eqSV x) = its.any (eqSV x) by simp, any_eqSV r]
    exact q
end
end L2
set_option maxHeartbeats 400000
namespace L2
open PySem PySem.Spec PyProof.Rows
theorem ne_list_lengths {prog : Program} {w : World} {A : Around} {E : Value → Shared → Prop} {s : Shared} {l b : Addr} {items items2 : Array Value} {Q : Value → Shared → Prop} (hl : s.heap.IsList l items) (hb : s.heap.IsList b items2) (hsz : (items.size != items2.size) = true) (hu : A.units < cLine) (h : Q (Value.bool true) s) : wpAny (model prog w) A (compareOp CmpOp.NotEq (Value.ref l) (Value.ref b)) Q E s := by
  obtain ⟨⟨cls, dd, data, sl⟩, ho, hc, n, hd⟩ := id hl
  obtain ⟨⟨cls2, dd2, data2, sl2⟩, ho2, hc2, n2, hd2⟩ := id hb
  have hc : cls = .type "list" := hc
  have hd : data = .seq items n := hd
  have hc2 : cls2 = .type "list" := hc2
  have hd2 : data2 = .seq items2 n2 := hd2
  subst hc hd hc2 hd2
  show wpAny (model prog w) A (richCompare CmpOp.NotEq (Value.ref l) (Value.ref b)) Q E s
  refine richCompare_meets_room ⟨_, ho, rfl⟩ ⟨_, ho2, rfl⟩ F.slot_list_ne F.entry_list_ne (F.args_list_ne_2 _ _) (SeqAt.list_ne_lengthsAt l b items items2 n n2 dd dd2 sl sl2 hsz) ⟨ho, ho2, ?_⟩ hu
  exact ⟨(fun x => nomatch x), h⟩
end L2
set_option maxHeartbeats 4000000
namespace L2
open PySem PySem.Spec PyProof.Rows
noncomputable def ButN (N : Addr → Prop) (H H' : Hp) : Prop := ∀ b o, N b → H b = some o → H' b = some o
theorem ButN.of_same {N : Addr → Prop} {H H' : Hp} (s : Same H H') : ButN N H H' := fun b o _ h => s b o h
noncomputable def Hd (N : Addr → Prop) (H : Hp) : Prop := ∀ l, H l = none → N l
noncomputable def Bu (G : Hp → V → Prop) (σ : St) (H0 : Hp) (te : TE) : Prop := ∀ H, Same H0 H → ∀ Q : VK, (∀ x H', Same H H' → G H' x → Q x H') → te σ H Q
noncomputable def BuA (n : Nat) (G : Hp → V → Prop) (σ : St) (H0 : Hp) (ta : TA) : Prop := ∀ H, Same H0 H → ∀ Q : List V → Hp → Prop, (∀ xs H', Same H H' → xs.length = n → (∀ x ∈ xs, G H' x) → Q xs H') → ta σ H Q
noncomputable def Mono (G : Hp → V → Prop) : Prop := ∀ H H' x, Same H H' → G H x → G H' x
section
variable {G G' : Hp → V → Prop} {σ : St} {H0 H : Hp} {te ta tb : TE} {tr : TA} {N : Addr → Prop} {m n : Nat} {Q : VK} {K : PySem.W.Frag}
theorem bu_c {v : V} (h : ∀ H, G H v) : Bu G σ H0 (tC v) := fun H s Q k => k v H (Same.refl H) (h H)
theorem bua_nil : BuA 0 G σ H0 tNil := fun H s Q k => k [] H (Same.refl H) rfl (fun x hx => by cases hx)
theorem bua_cons (mo : Mono G) (h : Bu G σ H0 te) (hr : BuA n G σ H0 tr) : BuA (n + 1) G σ H0 (tCons te tr) := fun H s Q k =>
  h H s _ fun x H1 s1 g => hr H1 (s.trans s1) _ fun xs H2 s2 hl gs => k (x :: xs) H2 (s1.trans s2) (by rw [List.length_cons, hl]) fun y hy => by
    rcases List.mem_cons.mp hy with rfl | hy
    · exact mo _ _ _ s2 g
    · exact gs y hy
end
end L2
namespace L2
open PySem PySem.Spec PyProof.Rows
theorem once {G T : Prop} (m : T → G) (t : T) : G := m t
end L2
namespace MG
noncomputable def mx : List Int → Int
  | [] => 0
  | x :: l => max x (mx l)
noncomputable def dp (es : List (Nat × Nat)) (W : Nat → Int) : Nat → Nat → Int
  | 0, _ => 0
  | k + 1, v => W v + mx ((es.filter fun e => decide (e.2 = v)).map fun e => dp es W k e.1)
end MG
namespace L2
open PySem PySem.Spec PyProof.Rows
section
variable {prog : Program} {w : World} {A : Around} {E : Value → Shared → Prop} {s : Shared}
theorem zptt_item {z TI TO i1 i2 l1 l2 : Addr} {k1 k2 : Nat} {f0 : Value} {f1 : Bool} {xs ys : Array Value} {x y a b : Value} {Q : Value → Shared → Prop} (D : ZipApart z TI TO i1 i2 l1 l2) (hf : F0 f0)
    (hz : Zp s.heap z TI TO f0 f1) (hTI : IsPair s.heap TI (.ref i1) (.ref i2)) (hTO : IsPair s.heap TO a b)
    (h1 : s.heap.IsTupleIter i1 l1 k1) (h2 : s.heap.IsTupleIter i2 l2 k2) (hl1 : s.heap.IsTuple l1 xs) (hl2 : s.heap.IsTuple l2 ys) (hx : xs[k1]? = some x) (hy : ys[k2]? = some y)
    (hQ : ∀ h' f0' f1', F0 f0' → Zp h' z TI TO f0' f1' → (∃ a b, IsPair h' TO a b) → h'.IsTupleIter i1 l1 (k1 + 1) → h'.IsTupleIter i2 l2 (k2 + 1) → IsPair h' s.heap.objs.size x y →
      (∀ c o, c ≠ z → c ≠ TO → c ≠ i1 → c ≠ i2 → s.heap.get? c = some o → h'.get? c = some o) → Q (.ref s.heap.objs.size) { s with heap := h' }) :
    wpAny (model prog w) A (Builtin.«zip.__next__» ⟨[.ref z], []⟩) (fun fin s' => ∃ v, fin = .done (.ret v) ∧ Q v s') E s := by
  show wpAny _ _ (field (.ref z) 2 >>= _) _ _ _
  refine wpAny_bind (wpAny_field hz rfl (x := .bool false) rfl ?_)
  show wpAny _ _ (field (.ref z) 3 >>= _) _ _ _
  refine wpAny_bind (wpAny_field hz rfl (x := .ref TI) rfl (wpAny_bind (wpAny_seqItems hTI rfl ?_)))
  refine wpAny_bind (zp_free hf hz fun own f1' g0 hz0 sb0 => ?_)
  have sz0 : g0.objs.size = s.heap.objs.size := sb0.1
  cases own with
  | true =>
    simp only [if_true]
    refine wpAny_bind (wpAny_rule ?_)
    refine wpAny_bind (wpAny_field (s := { s with heap := g0 }) hz0 rfl (x := .ref TO) rfl ?_)
    refine wpAny_bind (wpAny_setField_rec (s := { s with heap := g0 }) hz0 (by simp) fun g1 hz1 sb1 => ?_)
    replace hz1 : Zp g1 z TI TO .ellipsis f1' := hz1
    refine wpAny_bind ?_
    simp only [List.zipIdx_cons, List.zipIdx_nil, List.forIn_cons, List.forIn_nil]
    refine wpAny_bind (wpAny_bind (wpAny_onRaise ?_))
    show wpAny _ _ (Builtin.SmallTypes.nextOf (.ref i1) >>= _) _ _ _
    have up1 : ∀ c o, c ≠ z → s.heap.get? c = some o → g1.get? c = some o := fun c o n e => sb1.extBut _ _ n (sb0.extBut _ _ n e)
    refine wpAny_bind (nextT_item (h1.at fun o e => up1 _ o D.i1z e) (hl1.at fun o e => up1 _ o D.l1z e) hx fun g2 j1 sb2 => wpAny_pure ?_)
    have hTO2 : IsPair g2 TO a b := sb2.extBut _ _ D.TOi1 (up1 _ _ D.TOz hTO)
    refine wpAny_bind (wpAny_seqItems hTO2 rfl (wpAny_bind (wpAny_updateSeq_pair hTO2 fun g3 hTO3 sb3 => ?_)))
    replace hTO3 : IsPair g3 TO x b := hTO3
    refine wpAny_bind (wpAny_letGo (wpAny_pure (wpAny_bind (wpAny_bind (wpAny_onRaise ?_)))))
    show wpAny _ _ (Builtin.SmallTypes.nextOf (.ref i2) >>= _) _ _ _
    have up3 : ∀ c o, c ≠ z → c ≠ i1 → c ≠ TO → s.heap.get? c = some o → g3.get? c = some o := fun c o n1 n2 n3 e => sb3.extBut _ _ n3 (sb2.extBut _ _ n2 (up1 _ _ n1 e))
    refine wpAny_bind (nextT_item (h2.at fun o e => up3 _ o D.i2z D.i12.symm D.TOi2.symm e) (hl2.at fun o e => up3 _ o D.l2z D.l2i1 D.l2TO e) hy fun g4 j2 sb4 => wpAny_pure ?_)
    have hTO4 : IsPair g4 TO x b := sb4.extBut _ _ D.TOi2 hTO3
    refine wpAny_bind (wpAny_seqItems hTO4 rfl (wpAny_bind (wpAny_updateSeq_pair hTO4 fun g5 hTO5 sb5 => ?_)))
    replace hTO5 : IsPair g5 TO x y := hTO5
    refine wpAny_bind (wpAny_letGo (wpAny_pure (wpAny_pure ?_)))
    refine wpAny_bind (wpAny_seqItems hTO5 rfl (wpAny_bind (wpAny_newTuple ?_)))
    have hsz : g5.objs.size = s.heap.objs.size := by rw [sb5.1, sb4.1, sb3.1, sb2.1, sb1.1, sz0]
    have hz5 : Zp g5 z TI TO .ellipsis f1' := sb5.extBut _ _ D.TOz.symm (sb4.extBut _ _ D.i2z.symm (sb3.extBut _ _ D.TOz.symm (sb2.extBut _ _ D.i1z.symm hz1)))
    have j15 : g5.IsTupleIter i1 l1 (k1 + 1) := j1.at fun o e => sb5.extBut _ _ D.TOi1.symm (sb4.extBut _ _ D.i12 (sb3.extBut _ _ D.TOi1.symm e))
    have j25 : g5.IsTupleIter i2 l2 (k2 + 1) := j2.at fun o e => sb5.extBut _ _ D.TOi2.symm e
    have hk5 : ∀ c o, c ≠ z → c ≠ TO → c ≠ i1 → c ≠ i2 → s.heap.get? c = some o → g5.get? c = some o := fun c o c1 c2 c3 c4 e => sb5.extBut _ _ c2 (sb4.extBut _ _ c4 (up3 _ _ c1 c3 c2 e))
    have hzlt : z < g5.objs.size := Heap.lt_size hz5
    show wpAny _ _ (Builtin.SmallTypes.ownedTupleHandOut (.ref z) (.ref g5.objs.size) >>= _) _ _ _
    refine wpAny_bind ?_
    unfold Builtin.SmallTypes.ownedTupleHandOut
    have hz6 : Zp (g5.push { cls := .type "tuple", data := .seq #[x, y] }) z TI TO .ellipsis f1' := Heap.get?_push_of_some _ hz5
    refine wpAny_bind (wpAny_setField_rec hz6 (by simp) fun g7 hz7 sb7 => ?_)
    replace hz7 : Zp g7 z TI TO (rawInt g5.objs.size) f1' := hz7
    refine wpAny_setField_rec hz7 (by simp) fun g8 hz8 sb8 => ?_
    replace hz8 : Zp g8 z TI TO (rawInt g5.objs.size) false := hz8
    have up : ∀ c o, c ≠ z → g5.get? c = some o → g8.get? c = some o := fun c o c1 e => sb8.extBut _ _ c1 (sb7.extBut _ _ c1 (Heap.get?_push_of_some _ e))
    have hT8 : IsPair g8 g5.objs.size x y := sb8.extBut _ _ (Nat.ne_of_gt hzlt) (sb7.extBut _ _ (Nat.ne_of_gt hzlt) (Heap.get?_push_size _ rfl))
    refine wpAny_pure ⟨_, rfl, ?_⟩
    show Q (.ref g5.objs.size) _
    rw [hsz] at hz8 hT8 ⊢
    exact hQ g8 _ _ (.inr ⟨_, rfl⟩) hz8 ⟨x, y, up _ _ D.TOz hTO5⟩ (j15.at fun o e => up _ o D.i1z e) (j25.at fun o e => up _ o D.i2z e) hT8 fun c o c1 c2 c3 c4 e => up c o c1 (hk5 c o c1 c2 c3 c4 e)
  | false =>
    simp only [Bool.false_eq_true, if_false]
    refine wpAny_bind ?_
    rw [← Array.forIn_toList]
    simp only [List.forIn_cons, List.forIn_nil]
    refine wpAny_bind (wpAny_bind (wpAny_holding ?_))
    show wpAny _ _ (Builtin.SmallTypes.nextOf (.ref i1) >>= _) _ _ _
    have up1 : ∀ c o, c ≠ z → s.heap.get? c = some o → g0.get? c = some o := fun c o n e => sb0.extBut _ _ n e
    refine wpAny_bind (nextT_item (s := { s with heap := g0 }) (h1.at fun o e => up1 _ o D.i1z e) (hl1.at fun o e => up1 _ o D.l1z e) hx fun g2 j1 sb2 => wpAny_pure ?_)
    replace sb2 : Heap.SameBut i1 g0 g2 := sb2
    refine wpAny_pure (wpAny_bind (wpAny_bind (wpAny_holding ?_)))
    show wpAny _ _ (Builtin.SmallTypes.nextOf (.ref i2) >>= _) _ _ _
    have up2 : ∀ c o, c ≠ z → c ≠ i1 → s.heap.get? c = some o → g2.get? c = some o := fun c o n1 n2 e => sb2.extBut _ _ n2 (up1 _ _ n1 e)
    refine wpAny_bind (nextT_item (h2.at fun o e => up2 _ o D.i2z D.i12.symm e) (hl2.at fun o e => up2 _ o D.l2z D.l2i1 e) hy fun g4 j2 sb4 => wpAny_pure ?_)
    replace sb4 : Heap.SameBut i2 g2 g4 := sb4
    refine wpAny_pure (wpAny_pure ?_)
    show wpAny _ _ (newTuple [x, y] >>= _) _ _ _
    refine wpAny_bind (wpAny_newTuple (wpAny_pure ⟨_, rfl, ?_⟩))
    have hsz : g4.objs.size = s.heap.objs.size := by rw [sb4.1, sb2.1, sz0]
    show Q (.ref g4.objs.size) _
    have pu : ∀ c o, g4.get? c = some o → (g4.push { cls := .type "tuple", data := .seq #[x, y] }).get? c = some o := fun c o e => Heap.get?_push_of_some _ e
    have hT8 : IsPair (g4.push { cls := .type "tuple", data := .seq #[x, y] }) g4.objs.size x y := Heap.get?_push_size _ rfl
    rw [hsz] at hT8 ⊢
    exact hQ _ _ _ hf (pu _ _ (sb4.extBut _ _ D.i2z.symm (sb2.extBut _ _ D.i1z.symm hz0))) ⟨a, b, pu _ _ (sb4.extBut _ _ D.TOi2 (up2 _ _ D.TOz D.TOi1 hTO))⟩ (j1.at fun o e => pu _ o (sb4.extBut _ _ D.i12 e)) (j2.at fun o e => pu _ o e) hT8 fun c o c1 c2 c3 c4 e => pu _ _ (sb4.extBut _ _ c4 (up2 _ _ c1 c3 e))
theorem zptt_end {z TI TO i1 i2 l1 l2 : Addr} {k1 k2 : Nat} {f0 : Value} {f1 : Bool} {xs ys : Array Value} {a b : Value} {Q : Fin → Shared → Prop} (hh : A.handled = none) (D : ZipApart z TI TO i1 i2 l1 l2) (hf : F0 f0)
    (hz : Zp s.heap z TI TO f0 f1) (hTI : IsPair s.heap TI (.ref i1) (.ref i2)) (hTO : IsPair s.heap TO a b)
    (h1 : s.heap.IsTupleIter i1 l1 k1) (h2 : s.heap.IsTupleIter i2 l2 k2) (hl1 : s.heap.IsTuple l1 xs) (hl2 : s.heap.IsTuple l2 ys) (hend : xs[k1]? = none ∨ ys[k2]? = none)
    (hE : ∀ h' e, (∀ c o, c ≠ z → c ≠ TO → c ≠ i1 → c ≠ i2 → s.heap.get? c = some o → h'.get? c = some o) → (∃ o, h'.get? e = some o ∧ o.cls = .type "StopIteration") → E (.ref e) { s with heap := h' }) :
    wpAny (model prog w) A (Builtin.«zip.__next__» ⟨[.ref z], []⟩) Q E s := by
  show wpAny _ _ (field (.ref z) 2 >>= _) _ _ _
  refine wpAny_bind (wpAny_field hz rfl (x := .bool false) rfl ?_)
  show wpAny _ _ (field (.ref z) 3 >>= _) _ _ _
  refine wpAny_bind (wpAny_field hz rfl (x := .ref TI) rfl (wpAny_bind (wpAny_seqItems hTI rfl ?_)))
  refine wpAny_bind (zp_free hf hz fun own f1' g0 hz0 sb0 => ?_)
  cases own with
  | true =>
    simp only [if_true]
    refine wpAny_bind (wpAny_rule ?_)
    refine wpAny_bind (wpAny_field (s := { s with heap := g0 }) hz0 rfl (x := .ref TO) rfl ?_)
    refine wpAny_bind (wpAny_setField_rec (s := { s with heap := g0 }) hz0 (by simp) fun g1 hz1 sb1 => ?_)
    replace hz1 : Zp g1 z TI TO .ellipsis f1' := hz1
    refine wpAny_bind ?_
    simp only [List.zipIdx_cons, List.zipIdx_nil, List.forIn_cons, List.forIn_nil]
    refine wpAny_bind (wpAny_bind (wpAny_onRaise ?_))
    show wpAny _ _ (Builtin.SmallTypes.nextOf (.ref i1) >>= _) _ _ _
    have up1 : ∀ c o, c ≠ z → s.heap.get? c = some o → g1.get? c = some o := fun c o n e => sb1.extBut _ _ n (sb0.extBut _ _ n e)
    cases hx : xs[k1]? with
    | none =>
      refine wpAny_bind (nextT_end hh (h1.at fun o e => up1 _ o D.i1z e) (hl1.at fun o e => up1 _ o D.l1z e) hx fun g2 e sb2 he => ?_)
      obtain ⟨oe, hoe, hce⟩ := he
      have hz2 : Zp g2 z TI TO .ellipsis f1' := sb2 _ _ D.i1z.symm hz1
      have hez : e ≠ z := fun q => by subst q; rw [hz2] at hoe; cases hoe; simp at hce
      exact wpAny_setField_rec hz2 (by simp) fun g3 _ sb3 => hE g3 e (fun c o c1 _ c3 _ q => sb3.extBut _ _ c1 (sb2 _ _ c3 (up1 _ _ c1 q))) ⟨oe, sb3.extBut _ _ hez hoe, hce⟩
    | some x =>
      have hy : ys[k2]? = none := by rcases hend with q | q; rw [hx] at q; cases q; exact q
      refine wpAny_bind (nextT_item (h1.at fun o e => up1 _ o D.i1z e) (hl1.at fun o e => up1 _ o D.l1z e) hx fun g2 j1 sb2 => wpAny_pure ?_)
      have hTO2 : IsPair g2 TO a b := sb2.extBut _ _ D.TOi1 (up1 _ _ D.TOz hTO)
      refine wpAny_bind (wpAny_seqItems hTO2 rfl (wpAny_bind (wpAny_updateSeq_pair hTO2 fun g3 hTO3 sb3 => ?_)))
      refine wpAny_bind (wpAny_letGo (wpAny_pure (wpAny_bind (wpAny_bind (wpAny_onRaise ?_)))))
      show wpAny _ _ (Builtin.SmallTypes.nextOf (.ref i2) >>= _) _ _ _
      have up3 : ∀ c o, c ≠ z → c ≠ i1 → c ≠ TO → s.heap.get? c = some o → g3.get? c = some o := fun c o n1 n2 n3 e => sb3.extBut _ _ n3 (sb2.extBut _ _ n2 (up1 _ _ n1 e))
      refine wpAny_bind (nextT_end hh (h2.at fun o e => up3 _ o D.i2z D.i12.symm D.TOi2.symm e) (hl2.at fun o e => up3 _ o D.l2z D.l2i1 D.l2TO e) hy fun g4 e sb4 he => ?_)
      obtain ⟨oe, hoe, hce⟩ := he
      have hz4 : Zp g4 z TI TO .ellipsis f1' := sb4 _ _ D.i2z.symm (sb3.extBut _ _ D.TOz.symm (sb2.extBut _ _ D.i1z.symm hz1))
      have hez : e ≠ z := fun q => by subst q; rw [hz4] at hoe; cases hoe; simp at hce
      exact wpAny_setField_rec hz4 (by simp) fun g5 _ sb5 => hE g5 e (fun c o c1 c2 c3 c4 q => sb5.extBut _ _ c1 (sb4 _ _ c4 (up3 _ _ c1 c3 c2 q))) ⟨oe, sb5.extBut _ _ hez hoe, hce⟩
  | false =>
    simp only [Bool.false_eq_true, if_false]
    refine wpAny_bind ?_
    rw [← Array.forIn_toList]
    simp only [List.forIn_cons, List.forIn_nil]
    refine wpAny_bind (wpAny_bind (wpAny_holding ?_))
    show wpAny _ _ (Builtin.SmallTypes.nextOf (.ref i1) >>= _) _ _ _
    have up1 : ∀ c o, c ≠ z → s.heap.get? c = some o → g0.get? c = some o := fun c o n e => sb0.extBut _ _ n e
    cases hx : xs[k1]? with
    | none =>
      refine wpAny_bind (nextT_end (s := { s with heap := g0 }) hh (h1.at fun o e => up1 _ o D.i1z e) (hl1.at fun o e => up1 _ o D.l1z e) hx fun g2 e sb2 he => ?_)
      exact hE g2 e (fun c o c1 _ c3 _ q => sb2 _ _ c3 (up1 _ _ c1 q)) he
    | some x =>
      have hy : ys[k2]? = none := by rcases hend with q | q; rw [hx] at q; cases q; exact q
      refine wpAny_bind (nextT_item (s := { s with heap := g0 }) (h1.at fun o e => up1 _ o D.i1z e) (hl1.at fun o e => up1 _ o D.l1z e) hx fun g2 j1 sb2 => wpAny_pure ?_)
      replace sb2 : Heap.SameBut i1 g0 g2 := sb2
      refine wpAny_pure (wpAny_bind (wpAny_bind (wpAny_holding ?_)))
      show wpAny _ _ (Builtin.SmallTypes.nextOf (.ref i2) >>= _) _ _ _
      have up2 : ∀ c o, c ≠ z → c ≠ i1 → s.heap.get? c = some o → g2.get? c = some o := fun c o n1 n2 e => sb2.extBut _ _ n2 (up1 _ _ n1 e)
      refine wpAny_bind (nextT_end hh (h2.at fun o e => up2 _ o D.i2z D.i12.symm e) (hl2.at fun o e => up2 _ o D.l2z D.l2i1 e) hy fun g4 e sb4 he => ?_)
      exact hE g4 e (fun c o c1 c2 c3 c4 q => sb4 _ _ c4 (up2 _ _ c1 c3 q)) he
noncomputable abbrev zqq1 (h : Heap) (l : Addr) : Heap := h.push { cls := .type "tuple_iterator", data := .fields #[.ref l, .int 0 0] }
noncomputable abbrev zqq2 (h : Heap) (l m : Addr) : Heap := (zqq1 h l).push { cls := .type "tuple_iterator", data := .fields #[.ref m, .int 0 0] }
noncomputable abbrev zqq3 (h : Heap) (l m : Addr) : Heap := (zqq2 h l m).push { cls := .type "tuple", data := .seq #[.ref h.objs.size, .ref (zqq1 h l).objs.size] }
noncomputable abbrev zqq4 (h : Heap) (l m : Addr) : Heap := (zqq3 h l m).push { cls := .type "tuple", data := .seq #[.none, .none] }
noncomputable abbrev zqq5 (h : Heap) (l m : Addr) : Heap := (zqq4 h l m).push { cls := .type "zip", data := .fields #[.none, .bool false, .bool false, .ref (zqq2 h l m).objs.size, .ref (zqq3 h l m).objs.size] }
theorem meets_zipTT (l m : Addr) (xs ys : Array Value) : Meets (Builtin.«zip.__new__» ⟨[.type "zip", .ref l, .ref m], []⟩) (fun _ R s => s.heap.IsTuple l xs ∧ s.heap.IsTuple m ys ∧ R (.ok (.ret (.ref (zqq4 s.heap l m).objs.size))) { s with heap := zqq5 s.heap l m }) :=
  .of_wp fun prog w A R s h => by
    obtain ⟨h0, g0, d0, t0, os0⟩ := s
    obtain ⟨hl, hm, h⟩ := h
    have hsub := sub_zip
    have e1 : Heap.IsTuple (Shared.heap ⟨h0, g0, d0, t0, os0⟩) l xs := hl
    have e2 : Heap.IsTuple (Shared.heap ⟨zqq1 h0 l, g0, d0, t0, os0⟩) m ys := Heap.IsTuple.push hm _
    wp_walk using wpAny_pyIter_tuple e1, wpAny_pyIter_tuple e2
    exact ⟨_, rfl, h⟩
theorem call_zipTT {l m : Addr} {xs ys : Array Value} {Q : Value → Shared → Prop} (hl : s.heap.IsTuple l xs) (hm : s.heap.IsTuple m ys)
    (h : ∀ h', Zp h' (s.heap.objs.size + 4) (s.heap.objs.size + 2) (s.heap.objs.size + 3) .none false → IsPair h' (s.heap.objs.size + 2) (.ref s.heap.objs.size) (.ref (s.heap.objs.size + 1)) → IsPair h' (s.heap.objs.size + 3) .none .none →
      h'.IsTupleIter s.heap.objs.size l 0 → h'.IsTupleIter (s.heap.objs.size + 1) m 0 → (∀ c o, s.heap.get? c = some o → h'.get? c = some o) → Q (.ref (s.heap.objs.size + 4)) { s with heap := h' }) :
    wpAny (model prog w) A (call (.type "zip") [.ref l, .ref m]) Q E s := by
  have a1 : (zqq1 s.heap l).objs.size = s.heap.objs.size + 1 := Heap.size_push ..
  have a2 : (zqq2 s.heap l m).objs.size = s.heap.objs.size + 2 := (Heap.size_push ..).trans (by rw [a1])
  have a3 : (zqq3 s.heap l m).objs.size = s.heap.objs.size + 3 := (Heap.size_push ..).trans (by rw [a2])
  have a4 : (zqq4 s.heap l m).objs.size = s.heap.objs.size + 4 := (Heap.size_push ..).trans (by rw [a3])
  have k5 : ∀ {c : Addr} {o : Obj}, (zqq4 s.heap l m).get? c = some o → (zqq5 s.heap l m).get? c = some o := fun q => Heap.get?_push_of_some _ q
  have k4 : ∀ {c : Addr} {o : Obj}, (zqq3 s.heap l m).get? c = some o → (zqq5 s.heap l m).get? c = some o := fun q => k5 (Heap.get?_push_of_some _ q)
  have k3 : ∀ {c : Addr} {o : Obj}, (zqq2 s.heap l m).get? c = some o → (zqq5 s.heap l m).get? c = some o := fun q => k4 (Heap.get?_push_of_some _ q)
  have k2 : ∀ {c : Addr} {o : Obj}, (zqq1 s.heap l).get? c = some o → (zqq5 s.heap l m).get? c = some o := fun q => k3 (Heap.get?_push_of_some _ q)
  have b5 : (zqq5 s.heap l m).get? (zqq4 s.heap l m).objs.size = some { cls := .type "zip", data := .fields #[.none, .bool false, .bool false, .ref (zqq2 s.heap l m).objs.size, .ref (zqq3 s.heap l m).objs.size] } := Heap.get?_push_size _ rfl
  have b4 := k5 (Heap.get?_push_size (zqq3 s.heap l m) (o := { cls := .type "tuple", data := .seq #[.none, .none] }) rfl)
  have b3 := k4 (Heap.get?_push_size (zqq2 s.heap l m) (o := { cls := .type "tuple", data := .seq #[.ref s.heap.objs.size, .ref (zqq1 s.heap l).objs.size] }) rfl)
  have b2 := k3 (Heap.get?_push_size (zqq1 s.heap l) (o := { cls := .type "tuple_iterator", data := .fields #[.ref m, .int 0 0] }) rfl)
  have b1 := k2 (Heap.get?_push_size s.heap (o := { cls := .type "tuple_iterator", data := .fields #[.ref l, .int 0 0] }) rfl)
  rw [a2, a3, a4] at b5
  rw [a3] at b4
  rw [a1, a2] at b3
  rw [a1] at b2
  refine callType_new F.called_zip (by decide) (F.typeCall_zip_2 _ _) (F.newCall_zip_2 _ _) (fun ob => F.args_object_init_3 ob _ _) F.entry_zip_new (meets_zipTT l m xs ys) ⟨hl, hm, ?_⟩
  show _ ∧ _
  rw [a4]
  exact ⟨⟨_, b5, rfl⟩, h _ b5 b3 b4 ⟨_, b1, rfl, rfl⟩ ⟨_, b2, rfl, rfl⟩ fun c o q => k2 (Heap.get?_push_of_some _ q)⟩
end
noncomputable def Itztt (K : PySem.W.Frag) (a b : Addr) : It :=
  ⟨fun i H => ∃ xs ys x y, SqT K H a xs ∧ SqT K H b ys ∧ xs[i]? = some x ∧ ys[i]? = some y,
   fun i H v H' => ∃ p x y, H p = none ∧ v = .ref p ∧ (∀ xs, SqT K H a xs → xs[i]? = some x) ∧ (∀ ys, SqT K H b ys → ys[i]? = some y) ∧ H' = upd H p (.tup [x, y]),
   fun i H => ∃ xs ys, SqT K H a xs ∧ SqT K H b ys ∧ (xs.length ≤ i ∨ ys.length ≤ i)⟩
theorem turn_zipTT {P : Program} {w : World} {K : PySem.W.Frag} {nm : Str} {tp : Pos} (a b z TI TO i1 i2 : Addr) (D : ZipApart z TI TO i1 i2 a b) :
    Turn P w K (.Name nm tp) (Itztt K a b) [z, TI, TO, i1, i2] z (fun i h => (∃ f0 f1, F0 f0 ∧ Zp h z TI TO f0 f1) ∧ IsPair h TI (.ref i1) (.ref i2) ∧ (∃ c d, IsPair h TO c d) ∧ h.IsTupleIter i1 a i ∧ h.IsTupleIter i2 b i) where
  mem := by simp
  obj := fun i h st c hc => by
    obtain ⟨⟨f0, f1, _, hz⟩, hTI, ⟨u, v, hTO⟩, ⟨o1, e1, _, d1⟩, ⟨o2, e2, _, d2⟩⟩ := st
    have hc : c = z ∨ c = TI ∨ c = TO ∨ c = i1 ∨ c = i2 := by simpa using hc
    rcases hc with rfl | rfl | rfl | rfl | rfl
    · exact ⟨_, hz, fun v q => by cases q⟩
    · exact ⟨_, hTI, fun v q => by cases q⟩
    · exact ⟨_, hTO, fun v q => by cases q⟩
    · exact ⟨_, e1, fun v q => by rw [d1] at q; cases q⟩
    · exact ⟨_, e2, fun v q => by rw [d2] at q; cases q⟩
  keep := fun i h h' st k => by
    obtain ⟨⟨f0, f1, hf, hz⟩, hTI, ⟨u, v, hTO⟩, h1, h2⟩ := st
    exact ⟨⟨f0, f1, hf, k z (by simp) _ hz⟩, k TI (by simp) _ hTI, ⟨u, v, k TO (by simp) _ hTO⟩, h1.at fun o e => k i1 (by simp) o e, h2.at fun o e => k i2 (by simp) o e⟩
  item := by
    intro X hP hw hK hc i pins s σ H E I hf st hg
    subst hP hw hK
    obtain ⟨⟨f0, f1, hf0, hz⟩, hTI, ⟨ta, tb, hTO⟩, h1, h2⟩ := st
    obtain ⟨xs, ys, x, y, hqa, hqb, hx, hy⟩ := hg
    obtain ⟨its, rv, pa, _⟩ := I.tuple hqa
    obtain ⟨jts, rw', pb, _⟩ := I.tuple hqb
    obtain ⟨u, hu, ru⟩ := rv.get hx
    obtain ⟨v, hv, rv'⟩ := rw'.get hy
    refine zip_next_typed ⟨_, hz, rfl⟩ (zptt_item D hf0 hz hTI hTO h1 h2 (show s.heap.IsTuple a its.toArray from pa) (show s.heap.IsTuple b jts.toArray from pb) (x := u) (y := v) (by simpa using hu) (by simpa using hv) fun h' f0' f1' hf' hz' hTO' j1 j2 hpr k => ⟨_, rfl, ?_⟩)
    refine wpAny_pure (s := { s with heap := h' }) ?_
    have hp : H s.heap.objs.size = none := I.hok.fresh (Nat.le_refl _)
    have fr : ∀ c ∈ [z, TI, TO, i1, i2], H c = none := fun c hc => (hf c hc).1
    have nit : ∀ c o, H c = some o → c ≠ z ∧ c ≠ TO ∧ c ≠ i1 ∧ c ≠ i2 := fun c o q => by
      refine ⟨?_, ?_, ?_, ?_⟩ <;> (intro e; rw [e, fr _ (by simp)] at q; cases q)
    have up : ∀ c o, H c = some o → upd H s.heap.objs.size (.tup [x, y]) c = some o := fun c o q => by rw [upd_ne (ne_of_none q hp)]; exact q
    have kk : ∀ c o, c ∉ [z, TO, i1, i2] → s.heap.get? c = some o → h'.get? c = some o := fun c o n q => k c o (fun e => n (by simp [e])) (fun e => n (by simp [e])) (fun e => n (by simp [e])) (fun e => n (by simp [e])) q
    have mem5 : ∀ c ∈ [z, TO, i1, i2], c ∈ [z, TI, TO, i1, i2] := fun c hc => by simp at hc ⊢; rcases hc with e | e | e | e <;> simp [e]
    have hlt : ∀ c ∈ [z, TI, TO, i1, i2], c < s.heap.objs.size := fun c hc => by
      have hc : c = z ∨ c = TI ∨ c = TO ∨ c = i1 ∨ c = i2 := by simpa using hc
      rcases hc with rfl | rfl | rfl | rfl | rfl
      · exact Heap.lt_size hz
      · exact Heap.lt_size hTI
      · exact Heap.lt_size hTO
      · obtain ⟨o, e, _⟩ := h1; exact Heap.lt_size e
      · obtain ⟨o, e, _⟩ := h2; exact Heap.lt_size e
    have I1 : Inv X pins σ (upd H s.heap.objs.size (.tup [x, y])) { s with heap := h', gens := s.gens, drawn := s.drawn, toks := s.toks } := by
      refine I.step (g' := s.gens) (d' := s.drawn) (ch := [z, TO, i1, i2]) (fun c hc => ?_) (fun c o _ _ n q _ => kk c o n q) (fun c o _ _ n q _ => ⟨o.slots, kk c o n q⟩) (fun c o _ q n => ?_) (fun c o n q => ⟨o, kk c o n q⟩) (fun c ys q => up c _ q) (fun c o v q => up c _ q) (fun c ps q => ⟨#[], by rw [up c _ q]; simp⟩) (fun m hm => ?_) (fun c o q => ?_) I.bare
      · obtain ⟨_, g1, _, g3, g4, g5⟩ := hf c (mem5 c hc)
        exact ⟨g3, g1, g4, g5⟩
      · rw [upd_ne (Nat.ne_of_lt (Heap.lt_size q))]; exact n
      · obtain ⟨o, es, ep, ho, r⟩ := hm
        refine ⟨o, es, ep, kk _ o (fun n => ?_) ho, r⟩
        exact (hf _ (mem5 _ n)).2.1 rfl
      · by_cases hb : c = s.heap.objs.size
        · subst hb
          rw [upd_same] at q
          have q' : HO.tup [x, y] = o := Option.some.inj q
          subst q'
          exact ⟨by show 2 ≤ sizeLine; decide, [u, v], .cons ru (.cons rv' .nil), ⟨_, hpr, rfl, _, rfl, rfl⟩⟩
        · rw [upd_ne hb] at q
          refine (I.hok c o q).stay (fun d o' hd q' => ?_) (fun d q => up d _ q) fun d ys q => up d _ q
          rcases hd with e | e
          · rw [e] at q' ⊢; obtain ⟨n1, n2, n3, n4⟩ := nit c o q; exact k c o' n1 n2 n3 n4 q'
          · obtain ⟨n1, n2, n3, n4⟩ := nit d _ e; exact k d o' n1 n2 n3 n4 q'
    refine ⟨.ref s.heap.objs.size, upd H s.heap.objs.size (.tup [x, y]), I1, rfl, ⟨_, x, y, hp, rfl, fun zs hz => by rw [I.tuple_inj hz hqa]; exact hx, fun zs hz => by rw [I.tuple_inj hz hqb]; exact hy, rfl⟩, ⟨⟨f0', f1', hf', hz'⟩, ?_, hTO', j1, j2⟩, fun c hc => ?_⟩
    · exact k TI _ D.TIz D.TITO D.TIi1 D.TIi2 hTI
    · rw [upd_ne (Nat.ne_of_lt (hlt c hc))]; exact fr c hc
  done := by
    intro X hP hw hK hc i pins s σ H E I hf st hg
    subst hP hw hK
    obtain ⟨⟨f0, f1, hf0, hz⟩, hTI, ⟨ta, tb, hTO⟩, h1, h2⟩ := st
    obtain ⟨xs, ys, hqa, hqb, hxy⟩ := hg
    obtain ⟨its, rv, pa, _⟩ := I.tuple hqa
    obtain ⟨jts, rw', pb, _⟩ := I.tuple hqb
    have l1 := rv.length
    have l2 := rw'.length
    have hend : its.toArray[i]? = none ∨ jts.toArray[i]? = none := by
      rcases hxy with q | q
      · exact .inl (by simp; omega)
      · exact .inr (by simp; omega)
    refine zip_next_typed ⟨_, hz, rfl⟩ (zptt_end (A := X.A.in1) (show X.A.in1.handled = none from I.ok.hd hc) D hf0 hz hTI hTO h1 h2 (show s.heap.IsTuple a its.toArray from pa) (show s.heap.IsTuple b jts.toArray from pb) hend fun h' e k he => ⟨he, ⟨e, rfl⟩, rfl, ?_⟩)
    have fr : ∀ c ∈ [z, TI, TO, i1, i2], H c = none := fun c hc => (hf c hc).1
    have nit : ∀ c o, H c = some o → c ≠ z ∧ c ≠ TO ∧ c ≠ i1 ∧ c ≠ i2 := fun c o q => by
      refine ⟨?_, ?_, ?_, ?_⟩ <;> (intro e; rw [e, fr _ (by simp)] at q; cases q)
    have kk : ∀ c o, c ∉ [z, TO, i1, i2] → s.heap.get? c = some o → h'.get? c = some o := fun c o n q => k c o (fun e => n (by simp [e])) (fun e => n (by simp [e])) (fun e => n (by simp [e])) (fun e => n (by simp [e])) q
    have mem5 : ∀ c ∈ [z, TO, i1, i2], c ∈ [z, TI, TO, i1, i2] := fun c hc => by simp at hc ⊢; rcases hc with e | e | e | e <;> simp [e]
    refine I.step (h' := h') (g' := s.gens) (d' := s.drawn) (t' := s.toks) (ch := [z, TO, i1, i2]) (fun c hc => ?_) (fun c o _ _ n q _ => kk c o n q) (fun c o _ _ n q _ => ⟨o.slots, kk c o n q⟩) (fun c o _ q n => n) (fun c o n q => ⟨o, kk c o n q⟩) (fun c ys q => q) (fun c o v q => q) (fun c ps q => ⟨#[], by rw [q]; simp⟩) (fun m hm => ?_) (fun c o q => ?_) I.bare
    · obtain ⟨_, g1, _, g3, g4, g5⟩ := hf c (mem5 c hc)
      exact ⟨g3, g1, g4, g5⟩
    · obtain ⟨o, es, ep, ho, r⟩ := hm
      refine ⟨o, es, ep, kk _ o (fun n => ?_) ho, r⟩
      exact (hf _ (mem5 _ n)).2.1 rfl
    · refine (I.hok c o q).stay (fun d o' hd q' => ?_) (fun d q => q) fun d ys q => q
      rcases hd with e | e
      · rw [e] at q' ⊢; obtain ⟨n1, n2, n3, n4⟩ := nit c o q; exact k c o' n1 n2 n3 n4 q'
      · obtain ⟨n1, n2, n3, n4⟩ := nit d _ e; exact k d o' n1 n2 n3 n4 q'
  self := fun A i s Q E st h => by
    obtain ⟨⟨f0, f1, hf0, hz⟩, _⟩ := st
    have hT : s.TypeIs (.ref z) "zip" := ⟨_, hz, rfl⟩
    refine wpAny_pyIter_slot hT F.slot_zip_iter (wpAny_call_entry F.slot_zip_iter hT F.entry_zip_iter ?_ (F.args_zip_iter_1 _))
    show wpAny _ _ (ret (.ref z)) _ _ s
    exact wpAny_pure ⟨_, rfl, "zip", _, hT, F.slot_zip_next.lookup, h⟩
end L2
namespace L2
open PySem PySem.Spec PyProof.Rows
section
variable {X : Cx}
noncomputable def rCatTA (K : PySem.W.Frag) : R2 := fun x y H Q => ∃ a b xs ys, x = .ref a ∧ y = .ref b ∧ SqT K H a xs ∧ SqT K H b ys ∧ xs.length + ys.length ≤ sizeLine ∧
  (xs = [] → Q (.ref b) H) ∧ (xs ≠ [] → ys = [] → Q (.ref a) H) ∧ (xs ≠ [] → ys ≠ [] → ∀ p, H p = none → Q (.ref p) (upd H p (.tup (xs ++ ys))))
theorem op_catTA (K : PySem.W.Frag) (hK : X.K = K := by rfl) : OpR X (binaryOp .Add) (rCatTA K) := by
  subst hK
  intro pins s σ H x y v u Q I rx ry h
  obtain ⟨a, b, xs, ys, rfl, rfl, ha, hb, hz, q0, q1, q2⟩ := h
  by_cases hx : xs = []
  · cases rx
    cases ry
    obtain ⟨its, r1, p1, _⟩ := I.tuple ha
    obtain ⟨its2, r2, p2, _⟩ := I.tuple hb
    have e1 : its = [] := r1.nil_iff.mpr hx
    obtain ⟨⟨cls, dd, data, sl⟩, ho, hc, n, hd⟩ := id p1
    obtain ⟨⟨cls2, dd2, data2, sl2⟩, ho2, hc2, n2, hd2⟩ := id p2
    simp only at hc hd hc2 hd2
    subst hc hd hc2 hd2
    exact concat_meets ⟨_, ho, rfl⟩ ⟨_, ho2, rfl⟩ noFill_tuple_add seq_tuple_add F.slot_tuple_add F.entry_tuple_add (F.args_tuple_add_2 _ _) (tuple_addW0 a b its.toArray its2.toArray n n2 dd dd2 sl sl2 (by simp [e1])) ⟨ho, ho2, ⟨.ref b, H, I, rfl, q0 hx⟩⟩
  · exact op_catT pins s σ H _ _ v u Q I rx ry ⟨a, b, xs, ys, rfl, rfl, ha, hb, hx, hz, q1 hx, q2 hx⟩
end
end L2
namespace L2
open PySem PySem.Spec PyProof.Rows
section
variable {prog : Program} {w : World} {A : Around} {E : Value → Shared → Prop} {s : Shared}
theorem go_zipP {elts : List Expr} {x1} {pos : Pos} {z TI TO T : Addr} {f0 : Value} {f1 : Bool} {Q : Unit → Shared → Prop} (hf : F0 f0) (hz : Zp s.heap z TI TO f0 f1)
    (hQ : ∀ h' f0', F0 f0' → Zp h' z TI TO f0' f1 → Heap.SameBut z s.heap h' → Q () { s with heap := h' }) : wpAny (model prog w) A (letOwnedTupleGo (.Tuple elts x1 pos) (.ref z) (.ref T)) Q E s := by
  unfold letOwnedTupleGo
  refine wpAny_bind (wpAny_load hz ?_)
  show wpAny _ A (if (["enumerate", "zip", "dict_itemiterator", "dict_reverseitemiterator", "odict_iterator", "itertools.zip_longest", "itertools.pairwise"].contains "zip" && _) = true then _ else _) Q E s
  split
  · refine wpAny_bind (wpAny_rule ?_)
    show wpAny _ A (setField (.ref z) 0 .none) Q E s
    exact wpAny_setField_rec hz (by simp) fun h' hz' sb => hQ h' _ (.inl rfl) hz' sb
  · exact wpAny_pure (hQ s.heap f0 hf hz (Heap.SameBut.refl _ _))
end
end L2
namespace L2
open PySem PySem.Spec PyProof.Rows
noncomputable def XF (B : Heap) (l : List Env) (a : Addr) (c : Value) (dd : Option Addr) (fl : Value) (h : Heap) : Prop :=
  B.StaysIn h ∧ B.get? a = none ∧ h.FunFrames B l ∧ ∃ o vs T p ts, h.get? a = some o ∧ o.cls = c ∧ o.dict = dd ∧ o.data = .fields vs ∧ vs[1]? = some (.ref T) ∧ B.get? T = none ∧ T ≠ a ∧ h.get? T = some p ∧ p.data = .fields ts ∧ ts[3]? = some fl
theorem XF.there {B : Heap} {l : List Env} {a : Addr} {c fl : Value} {dd : Option Addr} {h : Heap} (x : XF B l a c dd fl h) : ∃ o, h.get? a = some o ∧ o.cls = c ∧ o.dict = dd := by
  obtain ⟨_, _, _, o, _, _, _, _, e, k1, k2, _⟩ := x
  exact ⟨o, e, k1, k2⟩
theorem XF.rec {B : Heap} {l : List Env} {a : Addr} {c fl : Value} {dd : Option Addr} {h : Heap} (x : XF B l a c dd fl h) : ∃ o vs, h.get? a = some o ∧ o.data = .fields vs := by
  obtain ⟨_, _, _, o, vs, _, _, _, e, _, _, k, _⟩ := x
  exact ⟨o, vs, e, k⟩
theorem XF.out {B : Heap} {e0 : Env} {l : List Env} {a : Addr} {c fl : Value} {dd : Option Addr} {h : Heap} (x : XF B (e0 :: l) a c dd fl h) : XF B l a c dd fl h := ⟨x.1, x.2.1, x.2.2.1.2.2, x.2.2.2⟩
theorem dict_map (f : Array Value → Array Value) (o : Obj) : (Obj.mapFields f o).dict = o.dict := by
  unfold Obj.mapFields
  split <;> rfl
section
variable {M : Model} {A : Around} {E : Value → Shared → Prop} {s : Shared} {B : Heap} {e0 : Env} {out : List Env} {a L : Addr} {Q : Unit → Shared → Prop}
theorem entryX {o : Obj} {vs : Array Value} {hd : Value} {b0 : Bool} (fr : A.frames = some (e0 :: out)) (ff : s.heap.FunFrames B (e0 :: out)) (fL : e0.frame = some L) (ea : s.heap.get? a = some o) (st : B.StaysIn s.heap) (na : B.get? a = none) (dv : o.data = .fields vs) (n1 : 1 < vs.size)
    (k : ∀ h', XF B (e0 :: out) a o.cls o.dict (rawInt L) h' → s.heap.UpToSlots h' → Q () { s with heap := h' }) :
    wpAny M A (do let f ← frameOf e0; let pl ← entryPlaceOf L b0; let b ← EntryCells.newEntry hd f .none (rawInt L) .none pl; setField (.ref a) 1 b) Q E s := by
  have nf : a ∉ (e0 :: out).filterMap (·.frame) := fun z => by
    obtain ⟨_, p, ep, q⟩ := ff.mem z
    exact q vs (Option.some.inj (ea.symm.trans ep) ▸ dv)
  refine wpAny_bind (wpAny_frameOf_fun fr ff fL fun g1 so => wpAny_bind (wpAny_entryPlaceOf fun pl ip => ?_))
  unfold EntryCells.newEntry newFields
  refine wpAny_bind (wpAny_newObj_type ?_ (ip.sizeOk5 _ _ _ _ _))
  generalize ep : ([hd, Value.ref L, Value.none, rawInt L, Value.none] ++ (if pl.isEmpty then List.replicate 6 Value.none else pl)).toArray = tv
  have t3 : tv[3]? = some (rawInt L) := by rw [← ep]; first | (simp; done) | (rcases ip with rfl | ⟨_, _, _, _, _, _, _, rfl⟩ <;> simp)
  have e1 : g1.get? a = some o := (so.2.1 a nf).trans ea
  have e2 := Heap.get?_push_of_some (h := g1) { cls := .type "traceback", dict := none, data := .fields tv } e1
  have nT : g1.objs.size ≠ a := Nat.ne_of_gt (Heap.lt_size e1)
  have dm := Obj.data_mapFields dv (·.setIfInBounds 1 (Value.ref g1.objs.size))
  have ot : ∀ b p, b ≠ a → g1.get? b = some p → ((g1.push { cls := .type "traceback", dict := none, data := .fields tv }).update a (Obj.mapFields (·.setIfInBounds 1 (Value.ref g1.objs.size)))).get? b = some p := fun b p nb eb => by
    rw [Heap.get?_update_other _ _ (Ne.symm nb)]
    exact Heap.get?_push_of_some _ eb
  have up : s.heap.UpToSlots ((g1.push { cls := .type "traceback", dict := none, data := .fields tv }).update a (Obj.mapFields (·.setIfInBounds 1 (Value.ref g1.objs.size)))) := fun b p eb q => by
    obtain ⟨sl, es⟩ := so.2.2 b p eb
    exact ⟨sl, ot b _ (fun z => q vs (Option.some.inj (ea.symm.trans (z ▸ eb)) ▸ dv)) es⟩
  refine wpAny_setField e2 dv n1 (k _ ?_ ?_)
  · have sg : B.StaysIn g1 := fun b p eb => (so.2.1 b fun z => by have := (ff.mem z).1; rw [eb] at this; cases this).trans (st b p eb)
    refine ⟨fun b p eb => ot b p (fun z => by rw [z, na] at eb; cases eb) (sg b p eb), na, ff.of_keeps fun b p eb q => ?_, _, _, g1.objs.size, { cls := .type "traceback", dict := none, data := .fields tv }, tv, Heap.get?_update_self _ e2 (Obj.isFreed_of_fields dm), Obj.cls_mapFields _ _, dict_map _ _, dm, by simp [n1], sg.fresh, nT, ?_, rfl, t3⟩
    · obtain ⟨sl, es⟩ := up b p eb q
      exact ⟨_, es, rfl⟩
    · rw [Heap.get?_update_other _ _ (Ne.symm nT)]
      exact Heap.get?_push_size g1 rfl
  · exact up
theorem flightX {c fl x : Value} {dd : Option Addr} {l : List Env} (X : XF B l a c dd fl s.heap) : ∃ T p ts, (∀ h', h' = s.heap.update T (Obj.mapFields (·.setIfInBounds 3 x)) → XF B l a c dd x h' ∧ s.heap.UpToSlots h') ∧
    s.heap.get? T = some p ∧ p.data = .fields ts ∧ ts[3]? = some fl ∧ ∃ o vs, s.heap.get? a = some o ∧ o.data = .fields vs ∧ vs[1]? = some (.ref T) := by
  obtain ⟨st, na, ff, o, vs, T, p, ts, ea, k1, k2, dv, v1, nT, ne, eT, dT, t3⟩ := X
  have l3 : 3 < ts.size := (Array.getElem?_eq_some_iff.mp t3).1
  refine ⟨T, p, ts, fun h' e => ?_, eT, dT, t3, o, vs, ea, dv, v1⟩
  have ot : ∀ b, b ≠ T → h'.get? b = s.heap.get? b := fun b nb => by rw [e]; exact Heap.get?_update_other _ _ (Ne.symm nb)
  have up : s.heap.UpToSlots h' := fun b u eb q => ⟨u.slots, (ot b fun z => q ts (Option.some.inj (eT.symm.trans (z ▸ eb)) ▸ dT)).trans eb⟩
  refine ⟨⟨fun b u eb => (ot b fun z => by rw [z, nT] at eb; cases eb).trans (st b u eb), na, ff.of_keeps fun b u eb q => ?_, o, vs, T, Obj.mapFields (·.setIfInBounds 3 x) p, ts.setIfInBounds 3 x, (ot a (Ne.symm ne)).trans ea, k1, k2, dv, v1, nT, ne, ?_, Obj.data_mapFields dT _, by simp [l3]⟩, up⟩
  · obtain ⟨sl, es⟩ := up b u eb q
    exact ⟨_, es, rfl⟩
  · rw [e]
    exact Heap.get?_update_self _ eT (Obj.isFreed_of_fields (Obj.data_mapFields dT _))
theorem landX {c fl : Value} {dd : Option Addr} {l : List Env} (X : XF B l a c dd fl s.heap) (k : ∀ h', XF B l a c dd .none h' → s.heap.UpToSlots h' → Q () { s with heap := h' }) : wpAny M A (setFlight (.ref a) none) Q E s := by
  obtain ⟨T, p, ts, z, eT, dT, t3, o, vs, ea, dv, v1⟩ := flightX (x := .none) X
  unfold setFlight
  refine wpAny_bind (wpAny_field ea dv v1 ?_)
  rw [if_pos (show (Value.ref T != Value.none) = true by simp)]
  obtain ⟨z1, z2⟩ := z _ rfl
  exact wpAny_setField eT dT (Array.getElem?_eq_some_iff.mp t3).1 (k _ z1 z2)
theorem noteX {c : Value} {dd : Option Addr} (fr : A.frames = some (e0 :: out)) (fL : e0.frame = some L) (X : XF B (e0 :: out) a c dd .none s.heap)
    (k : ∀ h', XF B (e0 :: out) a c dd (rawInt L) h' → s.heap.UpToSlots h' → Q () { s with heap := h' }) : wpAny M A (noteFrame (.ref a) e0) Q E s := by
  obtain ⟨T, p, ts, z, eT, dT, t3, o, vs, ea, dv, v1⟩ := flightX (x := .none) X
  unfold noteFrame
  simp only [fL]
  refine wpAny_bind (wpAny_field ea dv v1 ?_)
  rw [if_pos (show (Value.ref T != Value.none) = true by simp)]
  refine wpAny_bind (wpAny_field eT dT t3 ?_)
  rw [if_neg (show ¬ ((Value.none == rawInt L) = true) by simp [rawInt])]
  obtain ⟨z1, z2⟩ := z _ rfl
  refine wpAny_bind (wpAny_setField eT dT (Array.getElem?_eq_some_iff.mp t3).1 ?_)
  obtain ⟨q1, q2, q3, o', vs', T', p', ts', g1, g2, g3, g4, g5, _⟩ := z1
  subst g2 g3
  exact entryX (s := { s with heap := s.heap.update T (Obj.mapFields (·.setIfInBounds 3 Value.none)) }) fr q3 fL g1 q1 q2 g4 (Array.getElem?_eq_some_iff.mp g5).1 fun h' x y => k h' x (z2.trans y)
theorem leaveX0 {o : Obj} {vs : Array Value} (fr : A.frames = some (e0 :: out)) (ff : s.heap.FunFrames B (e0 :: out)) (fL : e0.frame = some L) (ea : s.heap.get? a = some o) (st : B.StaysIn s.heap) (na : B.get? a = none) (dv : o.data = .fields vs) (v1 : vs[1]? = some .none)
    (k : ∀ h', XF B out a o.cls o.dict .none h' → s.heap.UpToSlots h' → Q () { s with heap := h' }) : wpAny M A (leaving e0 (.ref a)) Q E s := by
  unfold leaving noteFrame
  simp only [fL]
  refine wpAny_bind (wpAny_bind (wpAny_field ea dv v1 ?_))
  rw [if_neg (by decide)]
  refine entryX fr ff fL ea st na dv (Array.getElem?_eq_some_iff.mp v1).1 fun h' x y => ?_
  exact landX (s := { s with heap := h' }) x fun h2 x2 y2 => k h2 x2.out (y.trans y2)
end
end L2
namespace L2
open PySem PySem.Spec PyProof.Rows
theorem ObjOk.obj {P : Program} {w : World} {H : Hp} {h : Heap} {a : Addr} {o : HO} (x : ObjOk P w H h a o) : ∃ ob, h.get? a = some ob := by
  cases o with
  | lst xs => obtain ⟨_, _, _, _, e⟩ := x; exact ⟨_, e⟩
  | tup xs => obtain ⟨_, _, _, ob, e, _⟩ := x; exact ⟨_, e⟩
  | dK kvs => obtain ⟨_, _, _, _, o, _, _, e, _⟩ := x; exact ⟨_, e⟩
  | dT kvs => obtain ⟨_, _, _, _, o, _, _, e, _⟩ := x; exact ⟨_, e⟩
  | set S n => obtain ⟨o, _, _, _, e, _⟩ := x; exact ⟨_, e⟩
  | ins C dx fs => obtain ⟨_, _, _, e, _⟩ := x; exact ⟨_, e⟩
  | own y => obtain ⟨_, e⟩ := x; exact ⟨_, e⟩
  | xd fs => obtain ⟨_, ⟨_, _, _, e, _⟩, _⟩ := x; exact ⟨_, e⟩
  | rng lo hi => obtain ⟨_, _, _, e⟩ := x; exact ⟨_, e⟩
  | frz ob u => obtain ⟨e, _⟩ := x; exact ⟨_, e⟩
  | tbl ps => exact ⟨_, (show h.get? a = some _ from x)⟩
  | met f y => exact ⟨_, (show h.get? a = some _ from x)⟩
  | ext φ => obtain ⟨_, e, _⟩ := x; exact e
noncomputable def CX1 (P : Program) (w : World) : CXT := fun outer H s E e s' =>
  ∃ (a : Addr) (cls : Value) (dd : Option Addr) (B : Heap) (H' : Hp), e = .ref a ∧ s'.os = s.os ∧ AllBare s'.gens ∧ Un (frs outer) [] H H' s.heap s'.heap ∧ HOk P w H' s'.heap ∧ XF B outer a cls dd .none s'.heap ∧ H' a = none ∧
    (∀ b u, H' b = some u → ∃ o, s'.heap.get? b = some o ∧ B.get? b = some o) ∧ (∀ b o, s.heap.get? b = some o → H b = none → b ∉ frs outer → B.get? b = some o) ∧ (∀ b o, s.heap.get? b = some o → b ∉ frs outer → ∃ o', B.get? b = some o') ∧ E cls dd H'
theorem raiseG {P : Program} {w : World} {K : PySem.W.Frag} {mg : Str → Option Value} {base : Heap} {N : List Str} {qual : Str} {scope : Scope} {f : Addr} {cd : Value} {A : Around} {outer : List Env} {s : Shared} {H : Hp} {E : XK} {pins : List (Addr × Obj)} {σ : St} {H1 : Hp} {s1 : Shared} {e : Addr} {oe : Obj} {vs : Array Value}
    (I : Inv (cxOf (CX1 P w) P w K mg base N qual scope f cd A outer s H E) pins σ H1 s1) (he : H1 e = none) (ge : s1.heap.get? e = some oe) (dv : oe.data = .fields vs) (v1 : vs[1]? = some .none) (new : s.heap.get? e = none) (q : E oe.cls oe.dict H1) :
    (cxOf (CX1 P w) P w K mg base N qual scope f cd A outer s H E).xe (.ref e) s1 := by
  show wpAny (model P w) (A.deeper (envOfC qual scope s.heap.objs.size f cd)) (leaving (envOfC qual scope s.heap.objs.size f cd) (.ref e)) (fun _ s'' => CX1 P w outer H s E (.ref e) s'') (fun e' s'' => CX1 P w outer H s E e' s'') s1
  have hin : ∀ env ∈ (envOfC qual scope s.heap.objs.size f cd :: outer), ∀ b, env.frame = some b → b ∈ e :: frs (envOfC qual scope s.heap.objs.size f cd :: outer) := fun env he b hb => List.mem_cons_of_mem _ (List.mem_filterMap.mpr ⟨env, he, hb⟩)
  refine leaveX0 (B := PySem.W.hideAll s1.heap (e :: frs (envOfC qual scope s.heap.objs.size f cd :: outer))) (out := outer) (L := s.heap.objs.size) I.ok.frames (PySem.W.funFrames_hide I.stack hin) rfl ge (fun b o z => PySem.W.of_hideAll _ z) (PySem.W.hideAll_none _ (.head _)) dv v1 fun h2 x1 x4 => ?_
  have trk : ∀ b u, H1 b = some u → ∃ o, s1.heap.get? b = some o ∧ (PySem.W.hideAll s1.heap (e :: frs (envOfC qual scope s.heap.objs.size f cd :: outer))).get? b = some o := fun b u eb => by
    obtain ⟨o, ho⟩ := ObjOk.obj (I.hok b u eb)
    refine ⟨o, ho, PySem.W.hideAll_get _ ho fun z => ?_⟩
    rcases List.mem_cons.mp z with z | z
    · rw [z, he] at eb; cases eb
    · have := I.stkFree b z
      rw [eb] at this; cases this
  have old : ∀ b o, s.heap.get? b = some o → H b = none → b ∉ frs outer → (PySem.W.hideAll s1.heap (e :: frs (envOfC qual scope s.heap.objs.size f cd :: outer))).get? b = some o := fun b o z n hb => by
    have e1 : s1.heap.get? b = some o := I.base.keep b o z n hb (by intro y; cases y)
    refine PySem.W.hideAll_get _ e1 fun y => ?_
    rcases List.mem_cons.mp y with y | y
    · rw [y, new] at z; cases z
    rcases List.mem_cons.mp (I.stkSub b y) with r | r
    · have r : b = s.heap.objs.size := r
      exact absurd (r ▸ Heap.lt_size z) (Nat.lt_irrefl _)
    · exact hb r
  have exi : ∀ b o, s.heap.get? b = some o → b ∉ frs outer → ∃ o', (PySem.W.hideAll s1.heap (e :: frs (envOfC qual scope s.heap.objs.size f cd :: outer))).get? b = some o' := fun b o z hb => by
    obtain ⟨o1, e1⟩ := I.base.there b o z (by intro y; cases y)
    refine ⟨o1, PySem.W.hideAll_get _ e1 fun y => ?_⟩
    rcases List.mem_cons.mp y with y | y
    · rw [y, new] at z; cases z
    rcases List.mem_cons.mp (I.stkSub b y) with r | r
    · have r : b = s.heap.objs.size := r
      exact absurd (r ▸ Heap.lt_size z) (Nat.lt_irrefl _)
    · exact hb r
  refine ⟨e, oe.cls, oe.dict, _, H1, rfl, I.os, I.bare, ?_, fun c o ec => (I.hok c o ec).stay (fun d u hd q' => ?_) (fun _ z => z) fun _ _ z => z, x1, he, fun b u eb => ?_, old, exi, q⟩
  · refine ⟨fun b o z n hb _ => x1.1 b o (old b o z n hb), fun b o z n hb hx' => ?_, fun b o z n hx' => I.base.free b o z n hx', fun b o z hx' => ?_, I.base.tups, I.base.frzs, I.base.tbls⟩
    · obtain ⟨sl, e1⟩ := I.base.slot b o z n hb hx'
      obtain ⟨_, o1, g1, g2⟩ := (I.ok.funs.mem hb)
      have : o1 = o := Option.some.inj (g1.symm.trans z)
      subst this
      obtain ⟨sl2, e2⟩ := x4 b _ e1 (by intro vs y; exact g2 vs y)
      exact ⟨sl2, e2⟩
    · by_cases hb : b ∈ frs outer
      · obtain ⟨_, o1, g1, _⟩ := x1.2.2.1.mem hb
        exact ⟨_, g1⟩
      · obtain ⟨o', e1⟩ := exi b o z hb
        exact ⟨o', x1.1 b o' e1⟩
  · have tr : ∃ z, H1 d = some z := by
      rcases hd with r | r
      · exact ⟨_, r ▸ ec⟩
      · exact ⟨_, r⟩
    obtain ⟨z, hz⟩ := tr
    obtain ⟨o1, e1, e2⟩ := trk d z hz
    have : u = o1 := Option.some.inj (q'.symm.trans e1)
    rw [this]
    exact x1.1 d o1 e2
  · obtain ⟨o1, e1, e2⟩ := trk b u eb
    exact ⟨o1, x1.1 b o1 e2, e2⟩
theorem raise1 {P : Program} {w : World} {K : PySem.W.Frag} {mg : Str → Option Value} {base : Heap} {N : List Str} {qual : Str} {scope : Scope} {f : Addr} {cd : Value} {A : Around} {outer : List Env} {s : Shared} {H : Hp} {E : XK} {pins : List (Addr × Obj)} {σ : St} {H1 : Hp} {s1 : Shared} {h' : Heap} {e : Addr} {cls : Value} {args : List Value}
    (I : Inv (cxOf (CX1 P w) P w K mg base N qual scope f cd A outer s H E) pins σ H1 s1) (hx : Heap.MadeExcOf s1.heap h' e cls args) (q : E cls none H1) :
    (cxOf (CX1 P w) P w K mg base N qual scope f cd A outer s H E).xe (.ref e) { s1 with heap := h' } := by
  obtain ⟨t, ge, _, _⟩ := hx.there
  refine raiseG (s1 := { s1 with heap := h' }) (I.kept (t' := s1.toks) hx.keeps) ?_ ge rfl rfl ?_ q
  · cases z : H1 e with
    | none => rfl
    | some u =>
      obtain ⟨o, ho⟩ := ObjOk.obj (I.hok e u z)
      rw [hx.new] at ho; cases ho
  · cases z : s.heap.get? e with
    | none => rfl
    | some o =>
      obtain ⟨o', e'⟩ := I.base.there e o z (by intro y; cases y)
      rw [hx.new] at e'; cases e'
end L2
namespace L2
open PySem PySem.Spec PyProof.Rows
noncomputable def tRaise (E : XK) (C : Addr) (ta : TA) : TS := fun _ σ H => ta σ H fun vs H1 => vs.length ≤ sizeLine ∧ E (.ref C) none H1
theorem ps_raise1 {P : Program} {w : World} {K : PySem.W.Frag} {mg : Str → Option Value} {base : Heap} {N : List Str} {qual : Str} {scope : Scope} {f : Addr} {cd : Value} {A : Around} {outer : List Env} {s : Shared} {H : Hp} {E : XK}
    {x : Str} {C : Addr} {bm bmN : List Value} {B Bn newId nid initId inN : String} {np cpos pos : Pos} {e₀ : Expr} {rest : List Expr} {ta : TA} (O : OwnCls x C bm newId mg base) (Fn : ExcBaseFacts Bn newId inN bmN) (hBn : bm.contains (.type Bn) = true) (FB : ExcBaseFacts B nid initId bm)
    (hg : Gl (cxOf (CX1 P w) P w K mg base N qual scope f cd A outer s H E) x) (ha : PA (cxOf (CX1 P w) P w K mg base N qual scope f cd A outer s H E) (e₀ :: rest) ta)
    (he : starEach (e₀ :: rest) (cxOf (CX1 P w) P w K mg base N qual scope f cd A outer s H E).env = (false, eval e₀ (cxOf (CX1 P w) P w K mg base N qual scope f cd A outer s H E).env) :: starEach rest (cxOf (CX1 P w) P w K mg base N qual scope f cd A outer s H E).env := by rfl)
    (hpl : (backTo cpos (starEach rest (cxOf (CX1 P w) P w K mg base N qual scope f cd A outer s H E).env)).any (·.1) = false := by rfl) (hdb : (x == ("__debug__" : Str)) = false := by decide) :
    PS (cxOf (CX1 P w) P w K mg base N qual scope f cd A outer s H E) (.Raise (some (.Call (.Name x np) (e₀ :: rest) [] cpos)) none pos) (tRaise E C ta) := by
  intro pins s1 σ H1 D I h
  obtain ⟨tl, Nn, nm, q, bs, hdct, sn, sub, ab, col, dd, k0, k1, k2, k3, k5, mN, hC, hN, hni, T⟩ := O.obj
  refine wpAny_Raise_call_subU (C := C) (nm := nm) (q := q) (N := Nn) (bs := bs) (bm := tl) (hdct := hdct) (sn := sn) (sub := sub) (ab := ab) (col := col) (dd := dd) (k0 := k0) (k1 := k1) (k2 := k2) (k3 := k3) (k5 := k5)
    Fn hBn FB (mN := mN) (T.hasType FB.hasBase) (I.ok.hd rfl) (by rw [he]; show (false || _) = false; rw [Bool.false_or]; exact hpl) hni (ld_glob I hg O.bound ?_ hdb)
  refine ⟨rfl, ?_⟩
  rw [he]
  have key := ha cpos pins s1 σ H1 _ I h
  rw [he] at key
  refine Calls.evalArgs_plain (thn key fun us s2 hh => ?_)
  obtain ⟨vs, H2, I2, r, hl, q2⟩ := hh
  have bk := I2.bk
  refine ⟨rfl, by rw [← r.length]; exact hl, bk _ _ hC, hN.keeps bk, T.keeps bk, fun h' e hm => raise1 I2 hm q2⟩
end L2
namespace L2
open PySem PySem.Spec PyProof.Rows
section
variable {M : Model} {A : Around} {E : Value → Shared → Prop} {nm q nm' q' : Str} {C N D N' : Addr} {bs bm bs' bm' : List Value} {hdct hdct' : Bool} {sn sn' : List Str} {sub sub' : List Value} {ab ab' : Bool} {col col' : Option Bool} {dd dd' : Option Addr} {k0 k1 k2 k3 k5 j0 j1 j2 j3 j5 : Option Value} {newId newId' : String}
theorem matches_own {h : Heap} {g : Array GenState} {d : Drawn} {t : Nat} {os : OsState} {e : Addr} {oe : Obj} {Q : Bool → Shared → Prop}
    (hC : h.get? C = some (excClassObj nm q C N bs bm hdct sn sub ab col dd k0 k1 k2 k3 k5 newId)) (he : h.get? e = some oe) (hcls : oe.cls = .ref C)
    (hD : h.get? D = some (excClassObj nm' q' D N' bs' bm' hdct' sn' sub' ab' col' dd' j0 j1 j2 j3 j5 newId')) (hb : bm'.contains (.type "BaseException") = true)
    (hin : (Value.ref C :: bm).contains (.ref D) = true) (hq : Q true ⟨h, g, d, t, os⟩) : wpAny M A (excMatches (.ref e) (.ref D)) Q E ⟨h, g, d, t, os⟩ := by
  have hcB : (Value.ref D :: bm').contains (.type "BaseException") = true := by rw [List.contains_cons, hb, Bool.or_true]
  have f := tc_notTuple
  unfold excMatches
  repeat first
    | (with_reducible refine wpAny_loadPart_at he ?_
       rw [hcls])
    | with_reducible refine wpAny_loadPart_at hD ?_
    | (with_reducible refine wpAny_isSubtype_exc hD ?_
       rw [hcB])
    | (with_reducible refine wpAny_isSubtype_exc hC ?_
       rw [hin])
    | wp_step
  exact hq
end
theorem inv_fly {X : Cx} {pins : List (Addr × Obj)} {σ : St} {H1 H' : Hp} {s1 s' : Shared} {B h5 : Heap} {a : Addr} {cls fz : Value} {dd : Option Addr} (I : Inv X pins σ H1 s1) (hst : X.stack = X.env :: X.outer) (hfr : X.env.frame = some X.env.locals)
    (os : s'.os = s1.os) (bare : AllBare s'.gens) (un : Un (frs X.stack) [] H1 H' s1.heap s'.heap) (hok : HOk X.prog X.w H' s'.heap) (fl : XF B X.stack a cls dd fz h5) (sm : s'.heap.UpToSlots h5)
    (TB : ∀ b u, H' b = some u → ∃ o, s'.heap.get? b = some o ∧ B.get? b = some o) (KB : ∀ b o, s1.heap.get? b = some o → H1 b = none → b ∉ frs X.stack → B.get? b = some o) (AB : ∀ b o, s1.heap.get? b = some o → b ∉ frs X.stack → ∃ o', B.get? b = some o') :
    Inv X pins σ H' { s' with heap := h5 } := by
  obtain ⟨hh, g, d, tk, os'⟩ := s'
  obtain rfl : os' = s1.os := os
  have efr : frs X.stack = X.env.locals :: X.fs := by rw [hst]; unfold frs; rw [List.filterMap_cons, hfr]; rfl
  have nin : ∀ b, b ≠ X.env.locals → b ∉ X.fs → b ∉ frs X.stack := fun b n1 n2 z => by
    rw [efr] at z
    rcases List.mem_cons.mp z with r | r
    · exact n1 r
    · exact n2 r
  have inn : ∀ b, b ∈ X.fs → b ∈ frs X.stack := fun b hb => by rw [efr]; exact List.mem_cons_of_mem _ hb
  have nof : ∀ {b : Addr} {o : Obj}, b ∈ frs X.stack → s1.heap.get? b = some o → ∀ vs, o.data ≠ .fields vs := fun hb e vs => by
    obtain ⟨_, o1, g1, g2⟩ := I.stack.mem hb
    have := Option.some.inj (g1.symm.trans e)
    exact this ▸ g2 vs
  have slot : ∀ b o, b ∈ frs X.stack → s1.heap.get? b = some o → H1 b = none → ∃ sl, h5.get? b = some { o with slots := sl } := fun b o hb e n => by
    obtain ⟨sl, e1⟩ := un.slot b o e n hb (by intro z; cases z)
    obtain ⟨sl2, e2⟩ := sm b _ e1 (fun vs z => nof hb e vs z)
    exact ⟨sl2, e2⟩
  show Inv X pins σ H' { s1 with heap := h5, gens := g, drawn := d, toks := tk }
  refine Inv.step (s := s1) (h' := h5) (g' := g) (d' := d) (t' := tk) (ch := []) I (fun b hb => by cases hb) (fun b o n1 n2 _ e n => fl.1 b o (KB b o e n (nin b n1 n2))) (fun b o _ hb _ e n => slot b o (inn b hb) e n) (fun b o _ e n => un.free b o e n (by intro z; cases z)) (fun b o _ e => ?_) un.tups un.frzs un.tbls (fun m hn => ?_) (fun c o ec => (hok c o ec).stay (fun d u hd q' => ?_) (fun _ z => z) fun _ _ z => z) bare
  · by_cases hb : b ∈ frs X.stack
    · obtain ⟨_, o1, g1, _⟩ := fl.2.2.1.mem hb
      exact ⟨_, g1⟩
    · obtain ⟨o', e1⟩ := AB b o e hb
      exact ⟨o', fl.1 b o' e1⟩
  · obtain ⟨o, es, ep, ho, hd, r⟩ := hn
    obtain ⟨sl, e1⟩ := slot X.env.locals o (by rw [efr]; simp) ho I.free
    exact ⟨_, es, ep, e1, hd, r⟩
  · have tr : ∃ z, H' d = some z := by
      rcases hd with r | r
      · exact ⟨_, r ▸ ec⟩
      · exact ⟨_, r⟩
    obtain ⟨z, hz⟩ := tr
    obtain ⟨o1, e1, e2⟩ := TB d z hz
    have : u = o1 := Option.some.inj (q'.symm.trans e1)
    rw [this]
    exact fl.1 d o1 e2
end L2
namespace L2
open PySem PySem.Spec PyProof.Rows
noncomputable abbrev Cx.mark (X : Cx) (e : Value) (E : Value → Shared → Prop) : Cx := { X with A := X.A.mark (some e), calm := false, xe := E }
section
variable {X : Cx} {pins : List (Addr × Obj)} {σ : St} {H : Hp} {s : Shared} {e : Value} {E : Value → Shared → Prop}
theorem Cx.Ok.mark (ok : X.Ok) : (X.mark e E).Ok :=
  ⟨ok.mod, ok.kind, ok.glob, ok.blt, ok.above, ok.inj, ok.has, ok.cab, fun z => (by cases z), ok.frames, ok.stk, ok.exf, ok.bs, ok.bsz, ok.noex, ok.exfs, ok.funs, ok.frf⟩
theorem Inv.mark (I : Inv X pins σ H s) : Inv (X.mark e E) pins σ H s := ⟨I.ok.mark, I.os, I.bare, I.base, I.loc, I.cell, I.free, I.freeC, I.pin, I.hok, I.len⟩
theorem Inv.unmark (ok : X.Ok) (I : Inv (X.mark e E) pins σ H s) : Inv X pins σ H s := ⟨ok, I.os, I.bare, I.base, I.loc, I.cell, I.free, I.freeC, I.pin, I.hok, I.len⟩
theorem unname {M : Model} {A : Around} {i : Nat} {n : Str} {pos : Pos} {Q : Unit → Shared → Prop} (I : Inv X pins σ H s) (hN : X.N.Nodup) (hi : X.N[i]? = some n) (hk : X.env.kindOf n = some .local)
    (h : ∀ s', Inv X pins (σ.set i none) H s' → Q () s') : wpAny M A (do bindName X.env n .none; unbindBehindTheSuite X.env n pos) Q E s := by
  obtain ⟨m, hn, hl⟩ := id I.loc
  have hcls : (X.env.scope.kind == .class || (X.env.scope.kind == .module && X.env.locals != X.env.globals)) = false := by rw [I.ok.kind]; rfl
  have hiσ : i < σ.length := by rw [I.len]; exact (List.getElem?_eq_some_iff.mp hi).1
  have cne := I.cne
  refine wpAny_nameGoes_keeps hk hn hcls fun h' v hn' hs => ?_
  obtain ⟨oL, _, _, hoL, _⟩ := id hn
  have tracked : HOk X.prog X.w H h' := fun b ob e => by
    refine (I.hok b ob e).stay (fun c w' hc q => (hs.2 c ?_).trans q) (fun _ q => q) fun _ _ q => q
    rintro rfl
    rcases hc with z | hc
    · have := I.free; rw [z] at this; rw [this] at e; cases e
    · rw [I.free] at hc; cases hc
  refine h _ ⟨I.ok, I.os, I.bare, ⟨fun b o e n hb hx => ?_, fun b o e n hb hx => ?_, I.base.free, fun b o e hx => ?_, I.base.tups, I.base.frzs, I.base.tbls⟩, ⟨_, hn', fun j y v' e1 e2 e3 => ?_⟩, fun y c e => ?_, I.free, I.freeC, fun p hp => ?_, tracked, by simpa using I.len⟩
  · exact (hs.2 b (Nat.ne_of_lt (Nat.lt_of_lt_of_le (Heap.lt_size e) I.ok.above))).trans (I.base.keep b o e n hb hx)
  · obtain ⟨sl, e1⟩ := I.base.slot b o e n hb hx
    exact ⟨sl, (hs.2 b (Nat.ne_of_lt (Nat.lt_of_lt_of_le (Heap.lt_size e) I.ok.above))).trans e1⟩
  · obtain ⟨o', e1⟩ := I.base.there b o e hx
    exact ⟨o', (hs.2 b (Nat.ne_of_lt (Nat.lt_of_lt_of_le (Heap.lt_size e) I.ok.above))).trans e1⟩
  · by_cases hj : j = i
    · subst hj
      rw [List.getElem?_set_self hiσ] at e2
      cases e2
    · rw [List.getElem?_set_ne (Ne.symm hj)] at e2
      obtain ⟨u', r', q⟩ := hl j y v' e1 e2 e3
      refine ⟨u', r', ?_⟩
      rcases q with ⟨k, e⟩ | ⟨k, c, e, z⟩
      · refine .inl ⟨k, ?_⟩
        have : y ≠ n := fun e => hj (nodup_ix hN e1 (e ▸ hi))
        simp [this, e]
      · exact .inr ⟨k, c, e, z.sameBut hs (cne y c e)⟩
  · obtain ⟨w', z⟩ := I.cell y c e
    exact ⟨w', z.sameBut hs (cne y c e)⟩
  · obtain ⟨e, n, ne, nf, d⟩ := I.pin p hp
    exact ⟨(hs.2 p.1 ne).trans e, n, ne, nf, d⟩
theorem Inv.track {σ1 : St} {H1 : Hp} {s1 : Shared} {a : Addr} {o : HO} (I1 : Inv X pins σ1 H1 s1) (I : Inv X pins σ H s) (hn : s1.heap.get? a = none) (ha : H a = none) (new : ObjOk X.prog X.w (upd H a o) s.heap a o) : Inv X pins σ (upd H a o) s := by
  have h0 : ∀ ob, X.s₀.heap.get? a = some ob → a ∈ X.ex := fun ob e => by
    by_cases hx : a ∈ X.ex
    · exact hx
    · obtain ⟨o', e'⟩ := I1.base.there a ob e hx
      rw [hn] at e'; cases e'
  have ne : ∀ {b : Addr} {u : HO}, H b = some u → b ≠ a := fun e z => by rw [z, ha] at e; cases e
  have dif : ∀ {b : Addr} {ob : Obj}, s1.heap.get? b = some ob → b ≠ a := fun e z => by rw [z, hn] at e; cases e
  obtain ⟨m1, hn1, _⟩ := id I1.loc
  obtain ⟨oL, _, _, hoL, _⟩ := hn1
  refine ⟨I.ok, I.os, I.bare, ⟨I.base.keep, I.base.slot, fun b ob e n hx => ?_, I.base.there, fun b xs e => ?_, fun b x y e => ?_, fun b ps e => ?_⟩, I.loc, I.cell, ?_, fun x c e => ?_, fun p hp => ?_, fun b u e => ?_, I.len⟩
  · have : b ≠ a := fun z => hx (z ▸ h0 ob (z ▸ e))
    rw [upd_ne this]; exact I.base.free b ob e n hx
  · have z := I.base.tups b xs e
    rw [upd_ne (ne z)]; exact z
  · have z := I.base.frzs b x y e
    rw [upd_ne (ne z)]; exact z
  · obtain ⟨more, z⟩ := I.base.tbls b ps e
    exact ⟨more, by rw [upd_ne (ne z)]; exact z⟩
  · rw [upd_ne (dif hoL)]; exact I.free
  · obtain ⟨v, oc, z, _⟩ := I1.cell x c e
    rw [upd_ne (dif z)]; exact I.freeC x c e
  · obtain ⟨e1, n1, r⟩ := I.pin p hp
    obtain ⟨e2, _⟩ := I1.pin p hp
    exact ⟨e1, by rw [upd_ne (dif e2)]; exact n1, r⟩
  · by_cases hb : b = a
    · subst hb; rw [upd_same] at e; cases e; exact new
    · rw [upd_ne hb] at e
      exact (I.hok b u e).stay (fun _ _ _ z => z) (fun c q => by rw [upd_ne (ne q)]; exact q) fun c xs q => by rw [upd_ne (ne q)]; exact q
end
noncomputable def XAt (h : Heap) (C : Addr) (bm : List Value) : Prop :=
  ∃ nm q N bs hdct sn sub ab col dd k0 k1 k2 k3 k5 newId, h.get? C = some (excClassObj nm q C N bs bm hdct sn sub ab col dd k0 k1 k2 k3 k5 newId)
noncomputable def xObj (a C : Addr) (dd : Option Addr) : HO := .ext fun h => ∃ o, h.get? a = some o ∧ o.cls = .ref C ∧ o.dict = dd ∧ PySem.W.notCls o = true
noncomputable def tTry1 (base : Heap) (sp : Sp) (dvs : List V) (t : TA) (Dc : Addr) (i : Nat) (tb : TS) : TS := fun D σ H => t σ H fun vs H1 => sp (vs ++ dvs) H1 (fun _ H2 => D.nx σ H2)
  fun cls dd H2 => ∃ C bm, cls = .ref C ∧ XAt base C bm ∧ (Value.ref C :: bm).contains (.ref Dc) = true ∧ ∀ a, H2 a = none →
    tb { nx := fun σ' H' => D.nx (σ'.set i none) H', rt := D.rt, bk := fun σ' H' => D.bk (σ'.set i none) H', ct := fun σ' H' => D.ct (σ'.set i none) H' } (σ.set i (some (.ref a))) (upd H2 a (xObj a C dd))
theorem call_wish {X : Cx} {pins : List (Addr × Obj)} {σ : St} {H : Hp} {s : Shared} {f : Addr} {cpos : Pos} {e : Expr} {es : List Expr} {t : TA} {Q0 : List V → Hp → Prop} {Q : Value → Shared → Prop} {E : Value → Shared → Prop}
    (ha : ∀ xe, PA (X.wish xe) (e :: es) t) (I : Inv X pins σ H s) (hk : PySem.W.keepIn X.K (.ref f) = true) (h : t σ H Q0) (k : ∀ us s1 vs H1, Inv X pins σ H1 s1 → Vals vs us → Q0 vs H1 → wpAny (model X.prog X.w) X.A (call (.ref f) us) Q E s1)
    (he : starEach (e :: es) X.env = (false, eval e X.env) :: starEach es X.env) (hpl : (backTo cpos (starEach es X.env)).any (·.1) = false) :
    wpAny (model X.prog X.w) X.A (callWith cpos (.ref f) [] (backTo cpos (starEach (e :: es) X.env)) (backToKw cpos (keywordEach [] X.env))) Q E s := by
  have key := ha E cpos pins s σ H Q0 (I.wish E) h
  refine PySem.W.callWith_K (h₀ := X.base) I.ok.mod.kin hk (wpAny_mono key (fun us s1 hh => ?_) fun _ _ z => z) he hpl
  obtain ⟨vs, H1, I1', r, q⟩ := hh
  exact ⟨I1'.kIn, k us s1 vs H1 I1'.unwish r q⟩
theorem ps_try1 {X : Cx} {k : Nat} {f Dc : Addr} {fd : FuncData} {ps : List Str} {sp : Sp} {dvs : List V} {ds : List Value} {bmD : List Value} {x Dn n : Str} {i : Nat} {p q cpos epos hpos tpos : Pos} {e : Expr} {es : List Expr} {t : TA} {b₀ : Stmt} {suite : List Stmt} {tb : TS}
    (F : FnOk X.prog X.w X.K X.mg X.base (CX1 X.prog X.w) k f fd ps sp) (hr : Room k X.A) (hg : Gl X x) (hm : X.mg x = some (.ref f)) (hk : PySem.W.keepIn X.K (.ref f) = true) (hb : Binds X.K fd ps ds) (hd : Vals dvs ds) (ha : ∀ xe, PA (X.wish xe) (e :: es) t)
    (hst : X.stack = X.env :: X.outer) (hfr : X.env.frame = some X.env.locals) (hgD : Gl X Dn) (hmD : X.mg Dn = some (.ref Dc)) (hD : XAt X.base Dc bmD) (hDb : bmD.contains (.type "BaseException") = true)
    (hN : X.N.Nodup) (hi : X.N[i]? = some n) (hl : X.env.scope.names.lookup n = some .local) (hs : ∀ a xe, PSs (X.mark (.ref a) xe) (b₀ :: suite) tb)
    (hdb : (x == ("__debug__" : Str)) = false := by decide) (hdD : (Dn == ("__debug__" : Str)) = false := by decide) (he : starEach (e :: es) X.env = (false, eval e X.env) :: starEach es X.env := by rfl) (hpl : (backTo cpos (starEach es X.env)).any (·.1) = false := by rfl)
    (hsw : swapsWith (.Call (.Name x p) (e :: es) [] cpos) none epos.line X.env = pure false := by rfl) :
    PS X (.Try [.Expr (.Call (.Name x p) (e :: es) [] cpos) epos] [.ExceptHandler (some (.Name Dn q)) (some n) (b₀ :: suite) hpos] [] [] tpos) (tTry1 X.base sp dvs t Dc i tb) := by
  intro pins s σ H D I h
  refine wpAny_Try_except (wpAny_execs_cons (wpAny_Expr_any (wpAny_Call_Name_kw (ld_glob I hg hm ?_ hdb)) I.quiet hsw))
  refine call_wish ha I hk h (fun us s1 vs H1 I1 r q => ?_) he hpl
  have r2 : Vals (vs ++ dvs) (us ++ ds) := r.append hd
  have hlen : (us ++ ds).length = ps.length := by rw [← r2.length]; exact F.len _ _ _ _ q
  refine wpAny_call (codeAny_mono (F.run X.A X.stack s1 H1 ⟨us, []⟩ (us ++ ds) (vs ++ dvs) _ _ hr I1.env0 (hb s1 us I1.kIn hlen) r2 q) fun r s' hq => ?_)
  cases r with
  | ok fl =>
    cases fl with
    | ret u =>
      obtain ⟨v, H2, I2, _, q2⟩ := I1.after hq
      exact wpAny_execs_nil (wpAny_execs_nil ⟨σ, H2, I2, q2⟩)
    | next => exact False.elim hq
    | brk => exact False.elim hq
    | cont => exact False.elim hq
  | error ev =>
    obtain ⟨a, cls, dq, B, H', rfl, os, bare, un, hok, fl, hna, TB, KB, AB, C, bm, rfl, hC, hin, hq2⟩ := hq
    have fl' : XF B (X.env :: X.outer) a (.ref C) dq .none s'.heap := hst ▸ fl
    have ne1 : s1.heap.get? a = none := by
      cases z : s1.heap.get? a with
      | none => rfl
      | some ob =>
        by_cases hb : a ∈ frs X.stack
        · obtain ⟨_, o1, g1, g2⟩ := fl.2.2.1.mem hb
          obtain ⟨oe, vs', he', hd'⟩ := fl.rec
          rw [g1] at he'; cases he'
          exact absurd hd' (g2 vs')
        · obtain ⟨o', e'⟩ := AB a ob z hb
          have := fl.2.1
          rw [e'] at this; cases this
    have hfrm : X.A.frames = some (X.env :: X.outer) := hst ▸ I.ok.frames
    refine noteX hfrm hfr fl' fun h4 f4 sm4 => ?_
    refine landX (s := { s' with heap := h4 }) f4 fun h5 f5 sm5 => ?_
    have I5 : Inv X pins σ H' { s' with heap := h5 } := inv_fly I1 hst hfr os bare un hok (hst ▸ f5) (sm4.trans sm5) TB KB AB
    refine wpAny_handleBy_cons (codeAny_handlers_test (ld_glob (X := X.mark (.ref a) (fun _ _ => False)) I5.mark hgD hmD ?_ hdD)) (by intro z; cases z)
    obtain ⟨oe, ge, gc, _⟩ := f5.there
    obtain ⟨nm, qq, NN, bs, hdct, sn, sub, ab, col, dd, k0, k1, k2, k3, k5, newId, gC⟩ := hC
    obtain ⟨nm', qq', NN', bs', hdct', sn', sub', ab', col', dd', j0, j1, j2, j3, j5, newId', gD⟩ := hD
    refine matches_own (I5.bk _ _ gC) ge gc (I5.bk _ _ gD) hDb hin (codeAny_handlers_suite_as (landX (s := { s' with heap := h5 }) f5 fun h6 f6 sm6 => ?_))
    have I6 : Inv X pins σ H' { s' with heap := h6 } := inv_fly I1 hst hfr os bare un hok (hst ▸ f6) ((sm4.trans sm5).trans sm6) TB KB AB
    obtain ⟨o6, g6, c6, d6⟩ := f6.there
    have n6 : PySem.W.notCls o6 = true := by
      obtain ⟨o7, vs7, g7, k7⟩ := f6.rec
      have z7 := Option.some.inj (g7.symm.trans g6)
      rw [← z7]
      unfold PySem.W.notCls
      rw [k7]
    have I7 : Inv X pins σ (upd H' a (xObj a C dq)) { s' with heap := h6 } := Inv.track I1 I6 ne1 hna ⟨⟨o6, g6, c6, d6, n6⟩, ⟨o6, g6⟩, fun h1 h2 ⟨o, e1, e2⟩ z => ⟨o, z o e1, e2⟩⟩
    refine store_ok (v := .ref a) I7 hN hi (.inl hl) rfl (fun s8 I8 => ?_) (.inr hl)
    refine wpAny_mono (hs a _ pins s8 _ _ _ I8.mark (hq2 a hna)) (fun fl s9 h9 => ?_) fun ev s9 h9 => h9
    cases fl with
    | next =>
      obtain ⟨σ', H9, I9, q9⟩ := h9
      exact unname (I9.unmark I.ok) hN hi hl fun s' I' => ⟨_, _, I', q9⟩
    | brk =>
      obtain ⟨σ', H9, I9, q9⟩ := h9
      exact unname (I9.unmark I.ok) hN hi hl fun s' I' => ⟨_, _, I', q9⟩
    | cont =>
      obtain ⟨σ', H9, I9, q9⟩ := h9
      exact unname (I9.unmark I.ok) hN hi hl fun s' I' => ⟨_, _, I', q9⟩
    | ret u =>
      obtain ⟨v, σ', H9, I9, r9, q9⟩ := h9
      exact unname (I9.unmark I.ok) hN hi hl fun s' I' => ⟨v, _, _, I', r9, q9⟩
end L2
namespace L2
open PySem PySem.Spec PyProof.Rows
section
open PySem.W PySem.Calls Builtin Builtin.ObjectAttr Builtin.Getset_descriptor
structure XFacts (K : Frag) (C : Addr) : Prop where
  ga : findIn K (.ref C) "__getattribute__" = some (some (.builtin "BaseException.__getattribute__"))
  gb : findIn K (.ref C) "__getattr__" = some none
  ha : findIn K (.ref C) "__class__" = some (some (.builtin "object.__class__"))
  hn : specialIn K (.builtin "object.__class__") "__get__" = some (some (.builtin "getset_descriptor.__get__"))
  ht : takesIn K (.builtin "object.__class__") = some true
  hm : mroIn K C (.type "object") = some true
  hb : mroIn K C (.type "BaseException") = some true
  cl : (clsIn K C).isSome = true
noncomputable def XIs (x C : Addr) (h : Heap) : Prop := ∃ o, h.get? x = some o ∧ o.cls = .ref C
variable {K : Frag} {x C : Addr} {h : Heap} {M : Model}
theorem XIs.type (p : XIs x C h) : Looks M h (typeOf (.ref x)) (.ref C) := by
  obtain ⟨o, e, c⟩ := p
  exact c ▸ (Looks.ld e).andThen .now
theorem XFacts.found (Z : XFacts K C) (X : K.In h) : Looks M h (find (.ref x) (.ref C) "__class__") (.bind (.builtin "getset_descriptor.__get__") (.builtin "object.__class__")) := by
  have l1 := looks_findIn (M := M) X Z.ha
  have l2 : Looks M h (getOf (some (.builtin "object.__class__"))) (some (.builtin "getset_descriptor.__get__")) := looks_specialIn X Z.hn
  have l3 : Looks M h (dataDescriptor? (some (.builtin "object.__class__")) (some (.builtin "getset_descriptor.__get__"))) (some (.builtin "getset_descriptor.__get__", .builtin "object.__class__")) := (looks_takesIn (M := M) X Z.ht).andThen .now
  exact l1.andThen (l2.andThen (l3.andThen (Looks.tag .now)))
variable {prog : Program} {w : World} {A : Around} {E : Value → Shared → Prop} {s : Shared}
theorem xe_get {R : Result → Shared → Prop} {tp : Value} (Z : XFacts K C) (X : K.In s.heap) (p : XIs x C s.heap) (h : R (.ok (.ret (.ref C))) s) :
    codeAny (model prog w) A (.call (.builtin "getset_descriptor.__get__") ⟨[.builtin "object.__class__", .ref x, tp], []⟩) R s := by
  have q1 := p.type (M := model prog w)
  have q2 := looks_mroIn (M := model prog w) X Z.hm
  obtain ⟨hh, g, dr, t, os⟩ := s
  refine codeAny_call_builtin KF.slot_gs.plain KF.entry_gs (KF.slot_gs.check _ _ _ _ _ _ _ _ KF.type_class (KF.args_gs _ _ _) ?_)
  simp only [Builtin.«getset_descriptor.__get__», descrGet, dga_obj]
  refine wpAny_bind (wpAny_pure ?_)
  simp only [descrGetter, descrCheckInstance, descrNameAndClass, isInstance, KF.owner_class]
  repeat lk
  refine ⟨Code.quiet_builtin _ (by decide +kernel), codeAny_builtin KF.entry_class ?_⟩
  simp only [Builtin.«object.__class__», shownTypeOf]
  repeat lk
  exact h
theorem xe_ga {tk : Tok} {R : Result → Shared → Prop} (Z : XFacts K C) (X : K.In s.heap) (p : XIs x C s.heap) (h : R (.ok (.ret (.ref C))) s) :
    codeAny (model prog w) A (.call (.builtin "BaseException.__getattribute__") ⟨[.ref x, .str "__class__" tk], []⟩) R s := by
  have q1 := p.type (M := model prog w)
  have q2 := looks_mroIn (M := model prog w) X Z.hb
  have q3 := Z.found (M := model prog w) (x := x) X
  have hk : builtinKind "BaseException.__getattribute__" = some .slot := by decide +kernel
  have hsp : splitId "BaseException.__getattribute__" = some ("BaseException", "__getattribute__") := by decide +kernel
  have ha := PySem.F.args_bexc_ga (.ref x) (.str "__class__" tk)
  obtain ⟨hh, g, dr, t, os⟩ := s
  refine codeAny_call_builtin PySem.F.attr_ValueError.ga.plain PySem.F.entry_bexc_ga ?_
  simp only [checkBuiltinCall, hk, hsp]
  refine wpAny_bind ?_
  unfold isInstance
  repeat lk
  show wpAny _ _ (run (.call (.builtin "getset_descriptor.__get__") ⟨[.builtin "object.__class__", .ref x, .ref C], []⟩) none) _ _ _
  refine wpAny_run (xe_get Z X p ?_)
  exact wpAny_pure (wpAny_pure h)
theorem xe_class {Q : Option Value → Shared → Prop} (Z : XFacts K C) (X : K.In s.heap) (p : XIs x C s.heap) (h : Q (some (.ref C)) { s with toks := s.toks + 1 }) : wpAny (model prog w) A (getAttr? (.ref x) "__class__") Q E s := by
  have q1 := p.type (M := model prog w)
  have q2 := looks_findIn (M := model prog w) X Z.ga
  have q4 := looks_findIn (M := model prog w) X Z.gb
  have f3 := PySem.F.attr_ValueError.ga.bind (.ref x)
  obtain ⟨hh, g, dr, t, os⟩ := s
  simp only [getAttr?, getAttrBy?, getAttrBy]
  refine wpAny_bind (wpAny_mkText (wpAny_bind (wpAny_attempt (wpAny_holding (wpAny_bind (q1.at (wpAny_bind (q2.at ?_))))))))
  show wpAny _ _ (getAttrByItsOwn _ _ _ _ _ _) _ _ _
  refine wpAny_bind ?_
  show wpAny _ _ (typeLookup (.ref C) "__getattr__") _ _ _
  refine q4.at (wpAny_bind (wpAny_attempt (wpAny_holding ?_)))
  show wpAny _ _ (boundAndCalled _ _ _) _ _ _
  unfold boundAndCalled
  rw [f3]
  refine wpAny_bind (wpAny_pure ?_)
  show wpAny _ _ (call (.builtin "BaseException.__getattribute__") [.ref x, .str "__class__" t]) _ _ _
  refine wpAny_call (xe_ga Z X p ?_)
  show wpAny _ _ (handedOut (Value.ref C)) _ _ _
  exact handed_on rfl (wpAny_pure h)
theorem kitx_exc (Z : XFacts K C) : KitX K (.ref x) (.ref C) (XIs x C) where
  ty := fun _ _ _ p => p.type
  it := fun M h X _ => by
    obtain ⟨cd, hc⟩ := Option.isSome_iff_exists.mp Z.cl
    unfold clsIn at hc
    split at hc
    · rename_i ho
      intro A' Q' E' s' k q
      unfold isType loadHead
      exact wpAny_bind (wpAny_loadPart (k _ _ (X _ _ ho)) (wpAny_pure q))
    · cases hc
  ne := fun h tp dd its n sl X htp => by
    obtain ⟨cd, hc⟩ := Option.isSome_iff_exists.mp Z.cl
    refine Bool.eq_false_iff.mpr fun q => ?_
    cases Value.ref.inj (beq_iff_eq.mp q)
    unfold clsIn at hc
    split at hc
    · rename_i ho
      cases (X _ _ ho).symm.trans htp
    · cases hc
  ca := fun X p k => xe_class Z X p k
end
section
variable {X : Cx} {pins : List (Addr × Obj)} {σ : St} {H : Hp} {s : Shared} {A : Around} {E : Value → Shared → Prop} {Q : Value → Shared → Prop} {e f : Expr} {t : TA} {p pos : Pos}
theorem xobj_is {a C : Addr} {dd : Option Addr} (I : Inv X pins σ H s) (h : H a = some (xObj a C dd)) : XIs a C s.heap := let ⟨o, e, c, _⟩ := (show ObjOk X.prog X.w H s.heap a (xObj a C dd) from I.hok a _ h).1; ⟨o, e, c⟩
noncomputable def rIsx (K : PySem.W.Frag) : List V → Hp → VK → Prop := fun xs H Q => ∃ a C dd c u b, xs = [.ref a, c] ∧ H a = some (xObj a C dd) ∧ XFacts K C ∧ (∀ v, RelV c v → v = u) ∧ PySem.W.kitOne K (.ref C) u = some b ∧ Q (.bl b) H
theorem call_isx : CallR X (.builtin "isinstance") (rIsx X.K) := by
  intro pins s σ H xs us Q I r h
  obtain ⟨a, C, dd, c, u, b, rfl, ea, Z, ru, e, q⟩ := h
  obtain ⟨v1, v2, rfl, r1, r2⟩ := vals2 r
  cases r1
  cases ru v2 r2
  exact PySem.W.kia_one (kitx_exc Z) I.kIn (xobj_is I ea) e (fun z => nomatch z) fun tk => ⟨.bl b, H, I.tok tk, rfl, q⟩
theorem b_isx (K : PySem.W.Frag) (B : Blt X.mg) (ha : PA X [e, f] t) (hg : Gl X "isinstance" := by rfl) (he : starEach [e, f] X.env = (false, eval e X.env) :: starEach [f] X.env := by rfl) (hpl : (backTo pos (starEach [f] X.env)).any (·.1) = false := by rfl) (hK : X.K = K := by rfl) :
    PE X (.Call (.Name "isinstance" p) [e, f] [] pos) (tCB (rIsx K) t) :=
  hK ▸ pe_callB call_isx hg B.isinstance boot_isinstance ha (by decide) (by decide) he hpl
end
end L2
namespace L2
open PySem PySem.Spec PyProof.Rows
section
variable {P : Program} {w : World} {K : PySem.W.Frag} {mg : Str → Option Value} {base : Heap}
theorem Fun.okX {x qual : Str} {st : Stmt} {f : Addr} {fd : FuncData} {N ps : List Str} {k : Nat} {sp : Sp} (F : Fun K x qual st f fd) (S : FnScope N ps (defScope st)) (len : ∀ vs H Q E, sp vs H Q E → vs.length = ps.length)
    (hbody : ∀ (cdv : Value) (A : Around) (outer : List Env) (s : Shared) (H : Hp) (vs : List V) (Q : VK) (E : XK), Room k (A.deeper (envOfC qual (defScope st) s.heap.objs.size f cdv)) → sp vs H Q E →
      ∃ t, PSs (cxOf (CX1 P w) P w K mg base N qual (defScope st) f cdv A outer s H E) (defBody st) t ∧ t { nx := fun _ H' => Q .non H', rt := Q } (start N vs) H) : FnOk P w K mg base (CX1 P w) (k + 1) f fd ps sp := by
  obtain ⟨oc, od, kV, doc, pm, an, cdv, ct, osl, rfl, lk, hcd⟩ := F.ex
  exact fn_of lk hcd S len fun A outer s H vs Q E hr hsp => hbody cdv A outer s H vs Q E hr hsp
structure CalX (P : Program) (w : World) (K : PySem.W.Frag) (mg : Str → Option Value) (base : Heap) (k : Nat) (x : Str) (ps : List Str) (sp : Sp) : Prop where
  ex : ∃ (f : Addr) (fd : FuncData), FnOk P w K mg base (CX1 P w) k f fd ps sp ∧ mg x = some (.ref f) ∧ PySem.W.keepIn K (.ref f) = true ∧ Binds K fd ps []
variable {x : Str} {C N : Addr} {bmB bm bs : List Value} {newId : String} {nm q : Str} {hdct : Bool} {sn : List Str} {sub : List Value} {ab : Bool} {col : Option Bool} {dd : Option Addr} {k0 k1 k2 k3 k5 : Option Value} {h : Heap}
theorem own_mk (X : K.In h) (bound : mg x = some (.ref C)) (lk : K.lookup C = some (excClassObj nm q C N bs bm hdct sn sub ab col dd k0 k1 k2 k3 k5 newId)) (ok : PySem.W.nsOkIn K N = true) (ni : PySem.W.nsIn K N "__init__" = some none)
    (tl : PySem.W.tailIn K bmB bm = true) : OwnCls x C bmB newId mg h :=
  ⟨bound, bm, N, nm, q, bs, hdct, sn, sub, ab, col, dd, k0, k1, k2, k3, k5, _, X _ _ lk, .of_isNs (PySem.W.isNs_of_in X ok), PySem.W.nsMap_none_of_in X ok ni, PySem.W.tail_of_in X tl⟩
theorem xat_mk (X : K.In h) (lk : K.lookup C = some (excClassObj nm q C N bs bm hdct sn sub ab col dd k0 k1 k2 k3 k5 newId)) : XAt h C bm :=
  ⟨nm, q, N, bs, hdct, sn, sub, ab, col, dd, k0, k1, k2, k3, k5, newId, X _ _ lk⟩
end
end L2
namespace L2
open PySem PySem.Spec PyProof.Rows
theorem ps_tryC {X : Cx} {k : Nat} {Dc : Addr} {ps : List Str} {sp : Sp} {bmD : List Value} {x Dn n : Str} {i : Nat} {p q cpos epos hpos tpos : Pos} {e : Expr} {es : List Expr} {t : TA} {b₀ : Stmt} {suite : List Stmt} {tb : TS}
    (c : CalX X.prog X.w X.K X.mg X.base k x ps sp) (hr : Room k X.A) (hg : Gl X x) (ha : ∀ xe, PA (X.wish xe) (e :: es) t)
    (hst : X.stack = X.env :: X.outer) (hfr : X.env.frame = some X.env.locals) (hgD : Gl X Dn) (hmD : X.mg Dn = some (.ref Dc)) (hD : XAt X.base Dc bmD) (hDb : bmD.contains (.type "BaseException") = true)
    (hN : X.N.Nodup) (hi : X.N[i]? = some n) (hl : X.env.scope.names.lookup n = some .local) (hs : ∀ a xe, PSs (X.mark (.ref a) xe) (b₀ :: suite) tb)
    (hdb : (x == ("__debug__" : Str)) = false := by decide) (hdD : (Dn == ("__debug__" : Str)) = false := by decide) (he : starEach (e :: es) X.env = (false, eval e X.env) :: starEach es X.env := by rfl) (hpl : (backTo cpos (starEach es X.env)).any (·.1) = false := by rfl)
    (hsw : swapsWith (.Call (.Name x p) (e :: es) [] cpos) none epos.line X.env = pure false := by rfl) :
    PS X (.Try [.Expr (.Call (.Name x p) (e :: es) [] cpos) epos] [.ExceptHandler (some (.Name Dn q)) (some n) (b₀ :: suite) hpos] [] [] tpos) (tTry1 X.base sp [] t Dc i tb) := by
  obtain ⟨f, fd, G, mf, kp, b⟩ := c.ex
  exact ps_try1 G hr hg mf kp b .nil ha hst hfr hgD hmD hD hDb hN hi hl hs hdb hdD he hpl hsw
structure Errs (K : PySem.W.Frag) (mg : Str → Option Value) (base : Heap) (ec : Str → Addr) (l c : List Str) : Prop where
  b : ∀ x ∈ l, mg x = some (.ref (ec x))
  f : ∀ x ∈ c, XFacts K (ec x)
  ord : ("OrderError" : Str) ∈ c
  kit : ∀ x ∈ c, x ≠ "OrderError" → ∀ y ∈ l, PySem.W.kitOne K (.ref (ec x)) (.ref (ec y)) = some (y == x || y == ("OrderError" : Str))
  val : ∀ x ∈ c, PySem.W.kitOne K (.ref (ec x)) (.type "ValueError") = some true
  at_ : ∀ x ∈ c, ∃ bm, XAt base (ec x) bm ∧ bm.contains (.type "BaseException") = true ∧ (Value.ref (ec x) :: bm).contains (.ref (ec "OrderError")) = true
  nv : mg "ValueError" = none
  own : ∀ x ∈ c, x ∉ (["NoText", "Ring", "NoUnit"] : List Str) → OwnCls x (ec x) [.type "ValueError", .type "Exception", .type "BaseException", .type "object"] "ValueError.__new__" mg base
theorem ps_raiseV {P : Program} {w : World} {K : PySem.W.Frag} {mg : Str → Option Value} {base : Heap} {ec : Str → Addr} {l c : List Str} {N : List Str} {qual : Str} {scope : Scope} {f : Addr} {cd : Value} {A : Around} {outer : List Env} {s : Shared} {H : Hp} {E : XK}
    {x : Str} {np cpos pos : Pos} {e₀ : Expr} {rest : List Expr} {ta : TA} (Er : Errs K mg base ec l c) (hx : x ∈ c) (hi : x ∉ (["NoText", "Ring", "NoUnit"] : List Str))
    (hg : Gl (cxOf (CX1 P w) P w K mg base N qual scope f cd A outer s H E) x) (ha : PA (cxOf (CX1 P w) P w K mg base N qual scope f cd A outer s H E) (e₀ :: rest) ta)
    (he : starEach (e₀ :: rest) (cxOf (CX1 P w) P w K mg base N qual scope f cd A outer s H E).env = (false, eval e₀ (cxOf (CX1 P w) P w K mg base N qual scope f cd A outer s H E).env) :: starEach rest (cxOf (CX1 P w) P w K mg base N qual scope f cd A outer s H E).env := by rfl)
    (hpl : (backTo cpos (starEach rest (cxOf (CX1 P w) P w K mg base N qual scope f cd A outer s H E).env)).any (·.1) = false := by rfl) (hdb : (x == ("__debug__" : Str)) = false := by decide) :
    PS (cxOf (CX1 P w) P w K mg base N qual scope f cd A outer s H E) (.Raise (some (.Call (.Name x np) (e₀ :: rest) [] cpos)) none pos) (tRaise E (ec x) ta) :=
  ps_raise1 (Er.own x hx hi) PySem.F.excBase_ValueError (by decide) PySem.F.excBase_ValueError hg ha he hpl hdb
end L2
namespace L2
open PySem PySem.Spec PyProof.Rows
section
open PySem.W Builtin Builtin.ObjectAttr
variable {prog : Program} {w : World} {A : Around} {E : Value → Shared → Prop} {s : Shared} {K : Frag} {x C t : Addr} {f : Str} {v : Value}
end
end L2
namespace L2
open PySem PySem.Spec PyProof.Rows
section
open PySem.W PySem.Calls Builtin Builtin.ObjectAttr
variable {K : Frag} {x C : Addr} {h : Heap} {M : Model} {prog : Program} {w : World} {A : Around} {E : Value → Shared → Prop} {s : Shared} {ox od : Obj} {f : Str} {u : Value}
end
end L2
namespace L2
open PySem PySem.Spec PyProof.Rows
noncomputable def ecOf (ps : List (Str × Addr)) (x : Str) : Addr := (ps.lookup x).getD 0
theorem ecOf_at : ∀ {ps : List (Str × Addr)}, (ps.map (·.1)).Nodup → ∀ p ∈ ps, ecOf ps p.1 = p.2
  | [], _, p, h => by cases h
  | q :: ps, nd, p, h => by
    rw [List.map_cons, List.nodup_cons] at nd
    unfold ecOf
    rcases List.mem_cons.mp h with rfl | h
    · rw [List.lookup_cons]; simp
    · have ne : p.1 ≠ q.1 := fun z => nd.1 (z ▸ List.mem_map.mpr ⟨p, h, rfl⟩)
      have : (p.1 == q.1) = false := by simpa using ne
      rw [List.lookup_cons, this]
      exact ecOf_at nd.2 p h
theorem fa_nil {α : Type} {P : α → Prop} : ∀ x ∈ ([] : List α), P x := fun x h => by cases h
theorem fa_cons {α : Type} {P : α → Prop} {a : α} {l : List α} (h : P a) (g : ∀ x ∈ l, P x) : ∀ x ∈ a :: l, P x := fun x hx => by
  rcases List.mem_cons.mp hx with rfl | hx
  · exact h
  · exact g x hx
variable {K : PySem.W.Frag} {mg : Str → Option Value} {base : Heap}
theorem errs_mk {ps cs : List (Str × Addr)} (nd : (ps.map (·.1)).Nodup) (sub : ∀ p ∈ cs, p ∈ ps) (b : ∀ p ∈ ps, mg p.1 = some (.ref p.2)) (f : ∀ p ∈ cs, XFacts K p.2) (ord : ("OrderError" : Str) ∈ cs.map (·.1))
    (kit : ∀ p ∈ cs, p.1 ≠ "OrderError" → ∀ q ∈ ps, PySem.W.kitOne K (.ref p.2) (.ref q.2) = some (q.1 == p.1 || q.1 == ("OrderError" : Str))) (val : ∀ p ∈ cs, PySem.W.kitOne K (.ref p.2) (.type "ValueError") = some true)
    (at_ : ∀ p ∈ cs, ∃ bm, XAt base p.2 bm ∧ bm.contains (.type "BaseException") = true ∧ (Value.ref p.2 :: bm).contains (.ref (ecOf ps "OrderError")) = true) (nv : mg "ValueError" = none)
    (own : ∀ p ∈ cs, p.1 ∉ (["NoText", "Ring", "NoUnit"] : List Str) → OwnCls p.1 p.2 [.type "ValueError", .type "Exception", .type "BaseException", .type "object"] "ValueError.__new__" mg base) : Errs K mg base (ecOf ps) (ps.map (·.1)) (cs.map (·.1)) := by
  have e := ecOf_at nd
  have q : ∀ {x : Str}, x ∈ ps.map (·.1) → ∃ p ∈ ps, p.1 = x := fun h => by obtain ⟨p, hp, rfl⟩ := List.mem_map.mp h; exact ⟨p, hp, rfl⟩
  have r : ∀ {x : Str}, x ∈ cs.map (·.1) → ∃ p ∈ cs, p.1 = x := fun h => by obtain ⟨p, hp, rfl⟩ := List.mem_map.mp h; exact ⟨p, hp, rfl⟩
  refine ⟨fun x hx => ?_, fun x hx => ?_, ord, fun x hx hn y hy => ?_, fun x hx => ?_, fun x hx => ?_, nv, fun x hx hn => ?_⟩
  · obtain ⟨p, hp, rfl⟩ := q hx
    rw [e p hp]; exact b p hp
  · obtain ⟨p, hp, rfl⟩ := r hx
    rw [e p (sub p hp)]; exact f p hp
  · obtain ⟨p, hp, rfl⟩ := r hx
    obtain ⟨p2, hp2, rfl⟩ := q hy
    rw [e p (sub p hp), e p2 hp2]; exact kit p hp hn p2 hp2
  · obtain ⟨p, hp, rfl⟩ := r hx
    rw [e p (sub p hp)]; exact val p hp
  · obtain ⟨p, hp, rfl⟩ := r hx
    rw [e p (sub p hp)]; exact at_ p hp
  · obtain ⟨p, hp, rfl⟩ := r hx
    rw [e p (sub p hp)]; exact own p hp hn
end L2
namespace MG
variable {es : List (Nat × Nat)} {goal : Nat}
end MG
namespace MG
variable {es : List (Nat × Nat)} {n : Nat} {ks ls : List Nat}
end MG
namespace L2
open PySem PySem.Spec PyProof.Rows
mutual
inductive RpD (H : Hp) : V → PyData → Prop
  | tr {x : V} {d : PyData} : Rep H x d → d.hasDict = false → RpD H x d
  | dc {a : Addr} {kvs : List (Key × V)} : H a = some (.dK kvs) → kvs.all (fun p => isFl p.2) = true → RpD H (.ref a) (dictD kvs)
  | lst {a : Addr} {xs : List V} {ds : List PyData} : H a = some (.lst xs) → RpDs H xs ds → RpD H (.ref a) (.list ds)
  | tup {a : Addr} {xs : List V} {ds : List PyData} : H a = some (.tup xs) → RpDs H xs ds → RpD H (.ref a) (.tuple ds)
inductive RpDs (H : Hp) : List V → List PyData → Prop
  | nil : RpDs H [] []
  | cons {x : V} {d : PyData} {xs : List V} {ds : List PyData} : RpD H x d → RpDs H xs ds → RpDs H (x :: xs) (d :: ds)
end
mutual
theorem RpD.same {H H' : Hp} (s : Same H H') : ∀ {x : V} {d : PyData}, RpD H x d → RpD H' x d
  | _, _, .tr a b => .tr (a.same s) b
  | _, _, .dc a b => .dc (s _ _ a) b
  | _, _, .lst a b => .lst (s _ _ a) (RpDs.same s b)
  | _, _, .tup a b => .tup (s _ _ a) (RpDs.same s b)
theorem RpDs.same {H H' : Hp} (s : Same H H') : ∀ {xs : List V} {ds : List PyData}, RpDs H xs ds → RpDs H' xs ds
  | _, _, .nil => .nil
  | _, _, .cons a b => .cons (RpD.same s a) (RpDs.same s b)
end
mutual
theorem RpD.ks {P : Program} {w : World} {H : Hp} {h : Heap} (ok : HOk P w H h) : ∀ {x : V} {d : PyData} {u : Value}, RpD H x d → RelV x u → d.showable = true → d.shown.length ≤ sizeLine → ∃ as bs, Reads h u d as ∧ ReadAtMost h d.depth bs ∧ ReprK P w bs h d.depth u d.shown
  | _, _, _, .tr rep hd, r, hs, hz => by
    obtain ⟨as, rd⟩ := rep.reads ok r
    obtain ⟨bs, h1, h2⟩ := ReprK.of_reads (prog := P) (w := w) rd hs (PyData.noDict_hsm hd) hz
    exact ⟨as, bs, rd, h1, h2⟩
  | _, _, _, .dc (a := a) (kvs := kvs) e f, r, hs, hz => by
    cases r
    obtain ⟨_, hsys, vs, rv, o, es, ep, h1, h2, h3, _, h5, _⟩ := (show ObjOk P w H h a (.dK kvs) from ok a _ e)
    obtain ⟨k1, k2⟩ := fl_pairs (h := h) rv h5 f
    have rd : Reads h (.ref a) (dictD kvs) (a :: [] ++ []) := .dict h1 h2.1 h3 k1 k2
    obtain ⟨bs, g1, g2⟩ := ReprK.of_reads (prog := P) (w := w) rd hs (fun _ hm => by
      have : sysModules = a := by simpa using hm
      rw [this] at hsys
      simp at hsys) hz
    exact ⟨_, bs, rd, g1, g2⟩
  | _, _, _, .lst (a := a) (xs := xs) (ds := ds) e rs, r, hs, hz => by
    cases r
    obtain ⟨_, its, n, rv, eh⟩ := (show ObjOk P w H h a (.lst xs) from ok a _ e)
    have lz : (listText (PyData.shownAll ds)).length ≤ sizeLine := hz
    obtain ⟨as, bs, ra, hb, hk⟩ := RpDs.ks ok rs rv hs fun t ht => Nat.le_trans (listText_mem_le ht) lz
    have rd : Reads h (.ref a) (.list ds) _ := .list eh rfl rfl (by simpa using ra)
    have dl : PyData.depthAll ds < PyData.depth (.list ds) := Nat.lt_succ_self _
    have out := not_mem_of_deeper rd dl hb
    refine ⟨_, a :: bs, rd, ReadAtMost.cons rd (Nat.le_refl _) (hb.mono (Nat.le_of_lt dl)), ?_⟩
    show ReprK P w (a :: bs) h (PyData.depthAll ds + 1) (.ref a) (listText (PyData.shownAll ds))
    cases its with
    | nil =>
      cases ra
      exact ReprK.listEmpty eh rfl rfl
    | cons y l => exact ReprK.list eh rfl rfl out (by simpa using hk.length_eq) fun i z ez => hk.item i z (by simpa using ez)
  | _, _, _, .tup (a := a) (xs := xs) (ds := ds) e rs, r, hs, hz => by
    cases r
    obtain ⟨_, its, rv, pt⟩ := (show ObjOk P w H h a (.tup xs) from ok a _ e)
    obtain ⟨o, eh, hc, n, hd⟩ := pt.tup
    have tz : (tupleText (PyData.shownAll ds)).length ≤ sizeLine := hz
    obtain ⟨as, bs, ra, hb, hk⟩ := RpDs.ks ok rs rv hs fun t ht => Nat.le_trans (tupleText_mem_le ht) tz
    have rd : Reads h (.ref a) (.tuple ds) _ := .tuple eh hc hd (by simpa using ra)
    have dl : PyData.depthAll ds < PyData.depth (.tuple ds) := Nat.lt_succ_self _
    have out := not_mem_of_deeper rd dl hb
    exact ⟨_, a :: bs, rd, ReadAtMost.cons rd (Nat.le_refl _) (hb.mono (Nat.le_of_lt dl)), ReprK.tuple eh hc hd out (by simpa using hk)⟩
theorem RpDs.ks {P : Program} {w : World} {H : Hp} {h : Heap} (ok : HOk P w H h) : ∀ {xs : List V} {ds : List PyData} {us : List Value}, RpDs H xs ds → Vals xs us → PyData.showableAll ds = true → (∀ t ∈ PyData.shownAll ds, t.length ≤ sizeLine) → ∃ as bs, ReadsAll h us ds as ∧ ReadAtMost h (PyData.depthAll ds) bs ∧ ReprAllK P w bs h (PyData.depthAll ds) us (PyData.shownAll ds)
  | _, _, _, .nil, .nil, _, _ => ⟨[], [], .nil, (fun _ q => nomatch q), .nil⟩
  | _, _, _, .cons (d := d) (ds := ds) i is, .cons r rs, hs, hz => by
    have hs : (d.showable && PyData.showableAll ds) = true := hs
    rw [Bool.and_eq_true] at hs
    obtain ⟨a1, b1, r1, g1, k1⟩ := RpD.ks ok i r hs.1 (hz _ (List.mem_cons_self ..))
    obtain ⟨a2, b2, r2, g2, k2⟩ := RpDs.ks ok is rs hs.2 fun t ht => hz t (List.mem_cons_of_mem _ ht)
    have l1 : d.depth ≤ PyData.depthAll (d :: ds) := Nat.le_max_left ..
    have l2 : PyData.depthAll ds ≤ PyData.depthAll (d :: ds) := Nat.le_max_right ..
    exact ⟨a1 ++ a2, b1 ++ b2, .cons r1 r2, (g1.mono l1).append (g2.mono l2), .cons ((k1.more fun b hb => List.mem_append_left _ hb).level_le l1) (k2.more_le (fun b hb => List.mem_append_right _ hb) l2)⟩
end
noncomputable def rReprD : List V → Hp → VK → Prop := fun vs H Q => ∃ (a : Addr) (d : PyData), vs = [.ref a] ∧ ((∃ xs ds, H a = some (.lst xs) ∧ RpDs H xs ds ∧ d = .list ds ∧ ds ≠ []) ∨ ∃ xs ds, H a = some (.tup xs) ∧ RpDs H xs ds ∧ d = .tuple ds) ∧ d.showable = true ∧ d.depth ≤ 16 ∧ d.shown.length ≤ sizeLine ∧ Q (.str d.shown) H
section
variable {X : Cx}
theorem call_reprD (hg : X.A.guards = some []) (hu : X.A.units + 64 < cLine) : CallR X (.builtin "repr") rReprD := by
  intro pins s σ H vs us Q I r h
  obtain ⟨a, d, rfl, hd, hs, hdp, hz, q⟩ := h
  obtain ⟨u, rfl, ru⟩ := vals1 r
  cases ru
  rcases hd with ⟨xs, ds, e, rs, rfl, ne⟩ | ⟨xs, ds, e, rs, rfl⟩
  · obtain ⟨_, its, n, rv, eh⟩ := (show ObjOk X.prog X.w H s.heap a (.lst xs) from I.hok a _ e)
    have lz : (listText (PyData.shownAll ds)).length ≤ sizeLine := hz
    have dp : PyData.depthAll ds + 1 ≤ 16 := hdp
    obtain ⟨as, bs, ra, hb, hk⟩ := RpDs.ks (P := X.prog) (w := X.w) I.hok rs rv hs fun t ht => Nat.le_trans (listText_mem_le ht) lz
    have rd : Reads s.heap (.ref a) (.list ds) _ := .list eh rfl rfl (by simpa using ra)
    have out := not_mem_of_deeper rd (Nat.lt_succ_self (PyData.depthAll ds)) hb
    cases its with
    | nil => cases ra; exact absurd rfl ne
    | cons y l =>
      refine call_repr_slot (by omega) ⟨_, eh, rfl⟩ F.slot_list_repr.toG ?_
      exact call_list_reprK eh rfl rfl out (by simpa using hk.length_eq) (fun i z ez => hk.item i z (by simpa using ez)) (show X.A.in1.guards = some [] from hg) (fun b _ => Clear.nil b) (by show X.A.units + 1 + (PyData.depthAll ds + 1) < cLine; omega) (fun _ _ z => z) (fun h' u' tk hk' => ⟨_, _, rfl, .str _, H, I.kept hk', ⟨u', rfl⟩, q⟩) lz
  · obtain ⟨_, its, rv, pt⟩ := (show ObjOk X.prog X.w H s.heap a (.tup xs) from I.hok a _ e)
    obtain ⟨o, eh, hc, n, hd⟩ := pt.tup
    have tz : (tupleText (PyData.shownAll ds)).length ≤ sizeLine := hz
    have dp : PyData.depthAll ds + 1 ≤ 16 := hdp
    obtain ⟨as, bs, ra, hb, hk⟩ := RpDs.ks (P := X.prog) (w := X.w) I.hok rs rv hs fun t ht => Nat.le_trans (tupleText_mem_le ht) tz
    have rd : Reads s.heap (.ref a) (.tuple ds) _ := .tuple eh hc hd (by simpa using ra)
    have out := not_mem_of_deeper rd (Nat.lt_succ_self (PyData.depthAll ds)) hb
    refine call_repr_slot (by omega) ⟨_, eh, hc⟩ F.slot_tuple_repr ?_
    exact call_tuple_reprK eh hc hd out (by simpa using hk) (show X.A.in1.guards = some [] from hg) (fun b _ => Clear.nil b) (by show X.A.units + 1 + (PyData.depthAll ds + 1) < cLine; omega) (fun _ _ z => z) (fun h' u' tk hk' => ⟨_, _, rfl, .str _, H, I.kept hk', ⟨u', rfl⟩, q⟩) tz
variable {p pos : Pos} {e : Expr} {t : TA}
end
structure Sv (d : PyData) (n k : Nat) : Prop where
  sb : d.showable = true
  dp : d.depth ≤ k
  ln : d.shown.length ≤ n
theorem Sv.mono {d : PyData} {n k n' k' : Nat} (h : Sv d n k) (hn : n ≤ n') (hk : k ≤ k') : Sv d n' k' := ⟨h.sb, Nat.le_trans h.dp hk, Nat.le_trans h.ln hn⟩
theorem Sv.all {n k : Nat} : ∀ {ds : List PyData}, (∀ d ∈ ds, Sv d n k) → PyData.showableAll ds = true ∧ PyData.depthAll ds ≤ k
  | [], _ => ⟨rfl, Nat.zero_le _⟩
  | d :: ds, h => by
    obtain ⟨b, c⟩ := Sv.all fun x hx => h x (List.mem_cons_of_mem _ hx)
    have q := h d (by simp)
    refine ⟨?_, Nat.max_le.mpr ⟨q.dp, c⟩⟩
    show (PyData.showable d && PyData.showableAll ds) = true
    rw [q.sb, b]; rfl
theorem Sv.list {n k m : Nat} {ds : List PyData} (h : ∀ d ∈ ds, Sv d n k) (hm : ds.length ≤ m) : Sv (.list ds) (2 + m * (n + 2)) (k + 1) := by
  obtain ⟨b, c⟩ := Sv.all h
  refine ⟨b, Nat.succ_le_succ c, ?_⟩
  have g := textFrom_le (n := n) (ds.map PyData.shown) 0 "[" fun t ht => by
    obtain ⟨e, he, rfl⟩ := List.mem_map.mp ht
    exact (h e he).ln
  rw [List.length_map] at g
  have mm := Nat.mul_le_mul_right (n + 2) hm
  have o1 : (Str.ofString "[").length = 1 := rfl
  have o2 : (Str.ofString "]").length = 1 := rfl
  have g : (textFrom 0 (Str.ofString "[") (ds.map PyData.shown)).length ≤ (Str.ofString "[").length + ds.length * (n + 2) := g
  show (textFrom 0 "[" (PyData.shownAll ds) ++ "]").length ≤ _
  rw [shownAll_map, len_app]
  show (textFrom 0 (Str.ofString "[") (ds.map PyData.shown)).length + (Str.ofString "]").length ≤ _
  omega
theorem Sv.tuple {n k m : Nat} {ds : List PyData} (h : ∀ d ∈ ds, Sv d n k) (hm : ds.length ≤ m) : Sv (.tuple ds) (3 + m * (n + 2)) (k + 1) := by
  obtain ⟨b, c⟩ := Sv.all h
  refine ⟨b, Nat.succ_le_succ c, ?_⟩
  have g := join_le (n := n) (ds.map PyData.shown) fun t ht => by
    obtain ⟨e, he, rfl⟩ := List.mem_map.mp ht
    exact (h e he).ln
  rw [List.length_map] at g
  have mm := Nat.mul_le_mul_right (n + 2) hm
  have o1 : (Str.ofString "(").length = 1 := rfl
  have o2 : ∀ b : Bool, (Str.ofString (if b then ",)" else ")" : String)).length ≤ 2 := by intro b; cases b <;> decide
  show (tupleText (PyData.shownAll ds)).length ≤ _
  rw [shownAll_map]
  show (("(" : Str) ++ Str.join ", " (ds.map PyData.shown) ++ (if (ds.map PyData.shown).length == 1 then ",)" else ")" : String)).length ≤ _
  rw [len_app, len_app]
  have o3 := o2 ((ds.map PyData.shown).length == 1)
  show (Str.ofString "(").length + _ + (Str.ofString (if (ds.map PyData.shown).length == 1 then ",)" else ")" : String)).length ≤ _
  omega
end L2
namespace L2
open PySem PySem.Spec PyProof.Rows
section
variable {X : Cx} {p pos : Pos} {e : Expr} {t : TA}
theorem sl_tupK (K : PySem.W.Frag) (hK : X.K = K := by rfl) : SlR X (rSlT K) := hK ▸ sl_tup
end
end L2
namespace L2
open PySem PySem.Spec PyProof.Rows PySem.W
noncomputable def up1 (c : Nat) : Nat := if 97 ≤ c ∧ c ≤ 122 then c - 32 else c
end L2
namespace L2
open PySem PySem.Spec PyProof.Rows
namespace SU
theorem typeCall (a : Value) : checkTypeCall "set" ⟨[a], []⟩ = pure () := by kernel_rfl
theorem newCall (a : Value) : checkBuiltinCall "set.__new__" ⟨[.type "set", a], []⟩ = pure () := by kernel_rfl
theorem entry_loop : entryFor table "set.update.loop" = some Builtin.«set.update.loop» := entryFor_of_tree (by kernel_rfl)
theorem plain_loop : plainId "set.update.loop" = true := by decide +kernel
section
variable {prog : Program} {w : World} {A : Around} {E : Value → Shared → Prop} {s : Shared}
theorem code_new (a : Value) {Q₁ : Value → Shared → Prop}
    (h : ∀ led : Bool, Q₁ (.ref s.heap.objs.size) { s with heap := s.heap.push { cls := .type "set", dict := none, data := .set #[] 0 (.fresh 0 0 led) } }) :
    codeAny (model prog w) A (.call (.builtin "set.__new__") ⟨[.type "set", a], []⟩) (wants Q₁ E) s := by
  refine codeAny_call_builtin F.plain_set_new F.entry_set_new (wpAny_of_eq (newCall a) ?_)
  unfold Builtin.«set.__new__» Builtin.Frozenset.newClass
  have hsub := sub_set_self
  obtain ⟨hp, g, d, tk, os⟩ := s
  dsimp only
  wp_walk
  refine wpAny_askSetting (wpAny_pure ?_)
  dsimp only
  simp only [newObj]
  refine wpAny_bind (wpAny_alloc (wpAny_pure ?_))
  exact wpAny_pure (h _)
theorem check_init {M : Model} {self a : Value} {Q : Unit → Shared → Prop} (hT : s.TypeIs self "set") (hQ : Q () s) : wpAny M A (checkBuiltinCall "set.__init__" ⟨[self, a], []⟩) Q E s := by
  simp only [checkBuiltinCall, kind_set_init, split_set_init, sig_set_init]
  refine wpAny_bind (wpAny_isInstance hT sub_set_self ?_)
  simp only [Bool.not_true, Bool.false_eq_true, if_false]
  unfold Bind.checkArgs
  dsimp only
  refine wpAny_bind (PyProof.Rows.printed_name (by decide) ?_)
  refine wpAny_bind (PyProof.Rows.printed_star (self := self) rfl hT fun short => ?_)
  rw [show (if (Manifest.Receiver.self == Manifest.Receiver.none) = true then [self, a].length else [self, a].length - 1) = 1 from rfl, List.map_nil]
  have e : Bind.check ⟨.positional, "set", "*", .self, [⟨"iterable", .posOnly, false⟩]⟩ "set" short 1 [] = pure () := by
    simp [Bind.check, Bind.checkCount, Bind.isPositional]
    exact fun z => absurd z (by decide)
  exact wpAny_of_eq e hQ
set_option maxHeartbeats 4000000 in
theorem call1 {a : Value} {Q : Value → Shared → Prop} (h : ∀ led : Bool, wpAny (model prog w) A.in1.in1 (Builtin.«set.__init__» ⟨[.ref s.heap.objs.size, a], []⟩)
        (fun fin s' => match fin with | .done f => wants (fun r s₂ => r = .none ∧ Q (.ref s.heap.objs.size) s₂) E (.ok f) s' | .again c' => c'.quiet = true ∧ codeAny (model prog w) A.in1 c' (wants (fun r s₂ => r = .none ∧ Q (.ref s.heap.objs.size) s₂) E) s')
        (fun e s' => wants (fun r s₂ => r = .none ∧ Q (.ref s.heap.objs.size) s₂) E (.error e) s') { s with heap := s.heap.push { cls := .type "set", dict := none, data := .set #[] 0 (.fresh 0 0 led) } }) :
    wpAny (model prog w) A (call (.type "set") [a]) Q E s := by
  obtain ⟨c, tl, hmro⟩ := F.called_set.mro
  have hmade := F.called_set.made
  have hsub := F.called_set.sub
  refine wpAny_call (codeAny_of_tree (show wpAny _ _ (callAny (.type "set") _) _ _ _ from wpAny_pure ⟨Code.quiet_builtin _ (by decide +kernel), codeAny_builtin F.entry_type_call ?_⟩))
  rw [Around.under_plain (weight_type_call_type "set" [a] []) rfl]
  have h1 := F.called_set.notType
  have h2 := F.called_set.canCreate
  have hct := typeCall a
  repeat (any_goals (first | assumption | wp_step))
  refine codeAny_mono (code_new (E := E) a (Q₁ := fun obj s₁ => ∃ led : Bool, obj = .ref s.heap.objs.size ∧ s₁ = { s with heap := s.heap.push { cls := .type "set", dict := none, data := .set #[] 0 (.fresh 0 0 led) } }) fun led => ⟨led, rfl, rfl⟩) fun r s₁ hr => ?_
  cases r with
  | error e => exact hr
  | ok fl =>
    cases fl with
    | ret obj =>
      obtain ⟨led, eo, es⟩ := hr
      subst eo es
      have hT : Shared.TypeIs { s with heap := s.heap.push { cls := .type "set", dict := none, data := .set #[] 0 (.fresh 0 0 led) } } (.ref s.heap.objs.size) "set" := ⟨_, Heap.get?_push_size _ rfl, rfl⟩
      have hli := F.called_set.init.lookup
      have hbi := F.called_set.init.bind (.ref s.heap.objs.size)
      repeat (any_goals (first | assumption | wp_step))
      refine codeAny_mono (codeAny_call_builtin (R := wants (fun r s₂ => r = .none ∧ Q (.ref s.heap.objs.size) s₂) E) F.called_set.init.plain F.entry_set_init (check_init hT (h led))) fun r2 s2 hr2 => ?_
      cases r2 with
      | error e => exact hr2
      | ok fl2 =>
        cases fl2 with
        | ret r =>
          obtain ⟨er, hq⟩ := hr2
          subst er
          repeat (any_goals (first | assumption | wp_step))
        | _ => exact hr2.elim
    | _ => exact hr.elim
theorem cut_set {n : Nat} {a : Addr} {Q : String → Shared → Prop} (hT : s.TypeIs (.ref a) "set") (h : Q "set" s) : wpAny (model prog w) A (typeNameOfCut n (.ref a)) Q E s := by
  unfold typeNameOfCut shownTypeOf
  refine wpAny_bind (wpAny_bind (wpAny_typeOf hT ?_))
  simp only [show (Value.type "set" == Value.type "builtin_function_or_method") = false by decide, Bool.false_eq_true, if_false]
  refine wpAny_pure ?_
  rw [show typeNameCut n (.type "set") = typeName (.type "set") from rfl]
  exact wpAny_of_eq (by kernel_rfl : typeName (.type "set") = pure "set") h
theorem any_list {b : Addr} {Q : Bool → Shared → Prop} (hT : s.TypeIs (.ref b) "list") (h : Q false s) : wpAny (model prog w) A (Builtin.Frozenset.isAnySet (.ref b)) Q E s := by
  unfold Builtin.Frozenset.isAnySet
  refine wpAny_bind (wpAny_isInstance hT (by rw [isSubtype_type]; kernel_rfl : isSubtype (.type "list") (.type "set") = pure false) ?_)
  exact wpAny_isInstance hT (by rw [isSubtype_type]; kernel_rfl : isSubtype (.type "list") (.type "frozenset") = pure false) h
end
end SU
end L2
namespace L2
open PySem PySem.Spec PyProof.Rows
noncomputable def setO (P : Program) (w : World) (a : Addr) (S : Str → Bool) (n : Nat) : HO := .ext fun h => h.SetOf (strKind P w) a S n
theorem setO_ok {P : Program} {w : World} {H : Hp} {h : Heap} {a : Addr} {S : Str → Bool} {n : Nat} (x : h.SetOf (strKind P w) a S n) : ObjOk P w H h a (setO P w a S n) := by
  refine ⟨x, let ⟨o, _, _, _, ho, _⟩ := x; ⟨o, ho⟩, fun h1 h2 y k => ?_⟩
  obtain ⟨o, es, ep, t, ho, r⟩ := y
  exact ⟨o, es, ep, t, k _ ho, r⟩
noncomputable def SetI (P : Program) (w : World) (H : Hp) (l : Addr) (ys : List Str) (i : Nat) (H' : Hp) : Prop := ∃ S n, H' = upd H l (setO P w l S n) ∧ (∀ k, S k = true ↔ k ∈ ys.take i) ∧ n ≤ i ∧ (n = i ↔ (ys.take i).Nodup)
theorem set_loop {X : Cx} {pins : List (Addr × Obj)} {σ : St} {nm : Str} {tp : Pos} {J : It} {fp : List Addr} {it : Addr} {tn : Nat → Heap → Prop} (T : Turn X.prog X.w X.K (.Name nm tp) J fp it tn) (hc : X.calm = true) (d : Addr) (H0 : Hp) (ys : List Str) (hy : ys.length ≤ 1000) (hd0 : H0 d = none)
    (go : ∀ i H, i < ys.length → SetI X.prog X.w H0 d ys i H → J.go i H ∧ ∀ x H1, J.yld i H x H1 → H1 = H ∧ ∃ z, x = .str z ∧ ys[i]? = some z)
    (stop : ∀ H, SetI X.prog X.w H0 d ys ys.length H → J.stop ys.length H) {R : Result → Shared → Prop} : ∀ (k i : Nat) (s : Shared) (H : Hp), ys.length - i = k → i ≤ ys.length → Inv X pins σ H s → (∀ b ∈ fp, FpOk X pins H b) → tn i s.heap → SetI X.prog X.w H0 d ys i H →
      (∀ H' s', Inv X pins σ H' s' → SetI X.prog X.w H0 d ys ys.length H' → R (.ok (.ret .none)) s') → codeAny (model X.prog X.w) X.A.in1 (.builtin "set.update.loop" ⟨[.ref d, .ref it], []⟩) R s := by
  intro k
  induction k with
  | zero =>
    intro i s H hk hi I hf ht hd hR
    have hin : i = ys.length := by omega
    subst hin
    refine codeAny_builtin SU.entry_loop ?_
    rw [Around.under_plainId SU.plain_loop _]
    show wpAny _ X.A.in1.in1 (pyNext (.ref it) >>= _) _ _ s
    refine wpAny_bind (wpAny_mono (T.done { X with A := X.A.in1.in1 } rfl rfl rfl hc _ pins s σ H _ (I.atA _ rfl rfl) hf ht (stop H hd)) (fun r s1 ⟨e, I1⟩ => ?_) fun _ _ z => z)
    subst e
    exact wpAny_pure (hR H s1 (Inv.ofA I.ok I1) hd)
  | succ k ih =>
    intro i s H hk hi I hf ht hd hR
    have hlt : i < ys.length := by omega
    obtain ⟨hg, hyl⟩ := go i H hlt hd
    refine codeAny_builtin SU.entry_loop ?_
    rw [Around.under_plainId SU.plain_loop _]
    show wpAny _ X.A.in1.in1 (pyNext (.ref it) >>= _) _ _ s
    refine wpAny_bind (wpAny_mono (wpAny_flat (T.item { X with A := X.A.in1.in1 } rfl rfl rfl hc i pins s σ H _ (I.atA _ rfl rfl) hf ht hg)) (fun r s1 ⟨u, e, x, H1, I1, rx, yl, t1, fn⟩ => ?_) fun _ _ z => z)
    subst e
    replace I1 := Inv.ofA I.ok I1
    obtain ⟨eH, z, ex, hz⟩ := hyl x H1 yl
    subst ex eH
    obtain ⟨tk, rfl⟩ := rx
    obtain ⟨S, n, eH, hS, hn, hnd⟩ := hd
    have hok := I1.hok d _ (by rw [eH]; exact upd_same)
    have hset : s1.heap.SetOf (strKind X.prog X.w) d S n := hok.1
    show wpAny _ _ (holding [Value.str z tk] (setAdd d (.str z tk)) >>= _) _ _ _
    refine wpAny_bind (wpAny_holding ?_)
    unfold setAdd
    refine wpAny_holding (wpAny_bind ((strKind X.prog X.w).pyHash (k := z) (strKind_is _ _ _ _) ?_))
    refine wpAny_setAddHashed_of (s := { s1 with toks := s1.toks + 1 }) (strKind_is _ _ _ _) rfl hset (Nat.lt_of_le_of_lt (by omega : n + 1 ≤ 1001) (by decide)) fun h' hsb hset' => ?_
    have hmem : ∀ k, (S k || decide (k = z)) = true ↔ k ∈ ys.take (i + 1) := fun k => by
      rw [Bool.or_eq_true, decide_eq_true_iff, hS k, List.take_add_one, hz, List.mem_append]
      exact ⟨fun h => h.imp id fun h => by rw [h]; simp, fun h => h.imp id fun h => by simpa using h⟩
    have hnod : (ys.take (i + 1)).Nodup ↔ (ys.take i).Nodup ∧ z ∉ ys.take i := by
      rw [List.take_add_one, hz, List.nodup_append]
      exact ⟨fun h => ⟨h.1, fun q => h.2.2 z q z (by simp) rfl⟩, fun h => ⟨h.1, by simp, fun x hx y hy e => h.2 (by
        have hy : y = z := by simpa using hy
        rw [← hy, ← e]; exact hx)⟩⟩
    have I2 : Inv X pins σ (upd H1 d (setO X.prog X.w d (fun k' => S k' || decide (k' = z)) (if S z then n else n + 1))) { s1 with heap := h', toks := s1.toks + 1 } := d_write (t' := s1.toks + 1) I1 (by rw [eH, upd_same]; exact True.intro) hsb (let ⟨o, _, _, _, ho, _⟩ := hset'; ⟨o, ho⟩) (setO_ok hset')
    have eu : upd H1 d (setO X.prog X.w d (fun k' => S k' || decide (k' = z)) (if S z then n else n + 1)) = upd H0 d (setO X.prog X.w d (fun k' => S k' || decide (k' = z)) (if S z then n else n + 1)) := by rw [eH, upd_upd]
    have dn : ∀ b ∈ fp, b ≠ d := fun b hb q => by
      have := fn b hb
      rw [q, eH, upd_same] at this
      cases this
    refine wpAny_pure ⟨plainId_quiet SU.plain_loop _, ih (i + 1) _ _ (by omega) hlt I2 (fun b hb => ?_) (T.keep _ _ _ t1 fun b hb o q => (hsb.2 b (dn b hb)).trans q) ⟨_, _, eu, hmem, ?_, ?_⟩ hR⟩
    · obtain ⟨_, f1, f2, f3, f4, f5⟩ := hf b hb
      exact ⟨by rw [upd_ne (dn b hb)]; exact fn b hb, f1, f2, f3, f4, f5⟩
    · split <;> omega
    · rw [hnod, ← hnd]
      cases c : S z with
      | true =>
        have := (hS z).mp c
        exact ⟨fun h => by have h : n = i + 1 := h; omega, fun h => absurd this h.2⟩
      | false =>
        have : z ∉ ys.take i := fun q => by rw [(hS z).mpr q] at c; cases c
        exact ⟨fun h => ⟨by have h : n + 1 = i + 1 := h; omega, this⟩, fun h => by show n + 1 = i + 1; omega⟩
end L2
namespace L2
open PySem PySem.Spec PyProof.Rows
theorem call_setL {X : Cx} (hc : X.calm = true) {pins : List (Addr × Obj)} {s : Shared} {σ : St} {H : Hp} {p : Addr} {ys : List Str} {Q : VK} (I : Inv X pins σ H s) (hq : SqL X.K H p (List.map V.str ys)) (hy : ys.length ≤ 1000)
    (q : ∀ l S n, H l = none → n ≤ ys.length → (n = ys.length ↔ ys.Nodup) → Q (.ref l) (upd H l (setO X.prog X.w l S n))) : wpAny (model X.prog X.w) X.A (call (.type "set") [.ref p]) (EP X pins σ Q) X.xe s := by
  refine SU.call1 fun led => ?_
  have hl : H s.heap.objs.size = none := I.hok.fresh (Nat.le_refl _)
  have hnew : (⟨s.heap.push { cls := .type "set", dict := none, data := .set #[] 0 (.fresh 0 0 led) }, s.gens, s.drawn, s.toks, s.os⟩ : Shared).TypeIs (.ref s.heap.objs.size) "set" := ⟨_, Heap.get?_push_size _ rfl, rfl⟩
  have hset : (s.heap.push { cls := .type "set", dict := none, data := .set #[] 0 (.fresh 0 0 led) }).SetOf (strKind X.prog X.w) s.heap.objs.size (fun _ => false) 0 := by
    refine ⟨_, #[], 0, _, Heap.get?_push_size _ rfl, ⟨rfl, rfl, rfl⟩, rfl, (fun x hx => by cases hx), (fun k => ⟨(fun h => by cases h), fun ⟨e, he, _⟩ => by cases he⟩), by decide, ?_, rfl⟩
    cases led <;> rfl
  have I1 : Inv X pins σ (upd H s.heap.objs.size (setO X.prog X.w s.heap.objs.size (fun _ => false) 0)) { s with heap := s.heap.push { cls := .type "set", dict := none, data := .set #[] 0 (.fresh 0 0 led) } } :=
    I.laid (a := s.heap.objs.size) (t' := s.toks) (fun _ _ q => Heap.get?_push_of_some _ q) (Nat.le_refl _) (setO_ok hset)
  unfold Builtin.«set.__init__»
  have hA : X.A.in1.in1.handled = none := I.ok.hd hc
  refine wpAny_bind (wpAny_pure (wpAny_bind (SU.cut_set hnew (wpAny_bind (wpAny_pure (wpAny_bind (wpAny_pure (wpAny_bind ?_))))))))
  unfold setUsed
  refine wpAny_bind (wpAny_setState_of (Heap.get?_push_size _ rfl) rfl (by cases led <;> rfl) (wpAny_pure ?_))
  rw [if_neg (by cases led <;> decide)]
  show wpAny _ _ (Builtin.Frozenset.updateFrom "set.__init__" s.heap.objs.size (.ref p) >>= _) _ _ _
  refine wpAny_bind ?_
  unfold Builtin.Frozenset.updateFrom
  obtain ⟨its, rv, pl, hz⟩ := I1.list (hq.fresh hl)
  obtain ⟨o, n, ho, hcl, hdn, hdt⟩ := id pl
  refine wpAny_bind (SU.any_list ⟨o, ho, hcl⟩ ?_)
  rw [if_neg (by decide)]
  refine wpAny_bind (wpAny_typeOf (T := "list") ⟨o, ho, hcl⟩ ?_)
  rw [if_neg (by decide)]
  refine wpAny_bind (wpAny_pyIter_list pl.isList ?_)
  refine wpAny_bind (wpAny_runValue ?_)
  refine set_loop (X := { X with A := X.A.in1 }) (pins := pins) (σ := σ) (nm := "x") (tp := default) (turn_list p _) hc s.heap.objs.size H ys hy hl (fun i H' hi e => ?_) (fun H' e => ?_) _ 0 _ _ rfl (Nat.zero_le _) ((I1.kept (t' := s.toks) fun b o e => Heap.get?_push_of_some _ e).atA _ rfl rfl) (fun b hb => ?_) ⟨_, Heap.get?_push_size _ rfl, rfl, rfl⟩ ⟨_, 0, rfl, (fun k => ⟨(fun h => by cases h), (fun h => by cases h)⟩), Nat.le_refl _, ⟨fun _ => List.nodup_nil, fun _ => rfl⟩⟩ fun H' s' I' hd => ?_
  · obtain ⟨S, n, rfl, _⟩ := e
    have hq' := hq.fresh (o := setO X.prog X.w s.heap.objs.size S n) hl
    have hx : (List.map V.str ys)[i]? = some (.str ys[i]) := by rw [List.getElem?_map, List.getElem?_eq_getElem hi]; rfl
    refine ⟨⟨_, _, hq', hx⟩, fun x H1 ⟨e1, e2⟩ => ⟨e1, ys[i], ?_, List.getElem?_eq_getElem hi⟩⟩
    have := e2 _ hq'
    rw [hx] at this
    exact (Option.some.inj this).symm
  · obtain ⟨S, n, rfl, _⟩ := e
    exact ⟨_, hq.fresh hl, by rw [List.length_map]; exact Nat.le_refl _⟩
  · have e : b = (s.heap.push { cls := .type "set", dict := none, data := .set #[] 0 (.fresh 0 0 led) }).objs.size := by simpa using hb
    subst e
    exact (I1.atA X.A.in1 rfl rfl).fpOk (Nat.le_refl _) (I1.hok.fresh (Nat.le_refl _))
  · obtain ⟨S, n, rfl, _, hn, hnd⟩ := hd
    rw [List.take_of_length_le (Nat.le_refl _)] at hnd
    exact wpAny_pure (wpAny_pure ⟨rfl, .ref _, _, Inv.ofA I.ok I', rfl, q _ S n hl hn hnd⟩)
noncomputable def rLenS : List V → Hp → VK → Prop := fun vs H Q => ∃ (a : Addr) (P : Program) (w : World) (S : Str → Bool) (n : Nat), vs = [.ref a] ∧ H a = some (setO P w a S n) ∧ Q (.int n) H
section
variable {X : Cx} {p pos : Pos} {e : Expr} {t : TA}
theorem call_lenS : CallR X (.builtin "len") rLenS := by
  intro pins s σ H xs us Q I r h
  obtain ⟨a, P, w, S, n, rfl, ha, q⟩ := h
  obtain ⟨u, rfl, ru⟩ := vals1 r
  cases ru
  have hok := I.hok a _ ha
  have hset : s.heap.SetOf (strKind P w) a S n := hok.1
  obtain ⟨o, es, ep, tt, ho, hex, hd, _, _, hb, hf, hn⟩ := hset
  have hb' : es.size < 4096 := hb
  refine call_len_set ho hex hd hf (by omega) ?_
  subst hn
  exact ⟨.int es.size, H, (I.tok _).tok _, ⟨_, rfl⟩, q⟩
theorem b_lenS (B : Blt X.mg) (ha : PA X [e] t) (hg : Gl X "len" := by rfl) (he : starEach [e] X.env = (false, eval e X.env) :: starEach [] X.env := by rfl) (hpl : (backTo pos (starEach [] X.env)).any (·.1) = false := by rfl) : PE X (.Call (.Name "len" p) [e] [] pos) (tCB rLenS t) :=
  pe_callB call_lenS hg B.len PySem.boot_len ha (by decide) (by decide) he hpl
end
end L2
namespace L2
open PySem PySem.Spec PyProof.Rows
noncomputable def iZipTT (K : PySem.W.Frag) (ta : TA) : TI := fun σ H R => ta σ H fun vs H1 => ∃ a b xs ys, vs = [.ref a, .ref b] ∧ SqT K H1 a xs ∧ SqT K H1 b ys ∧ R (Itztt K a b) H1
theorem turn_zipTTP {P : Program} {w : World} {K : PySem.W.Frag} {elts : List Expr} {x1} {tp : Pos} (a b z TI TO i1 i2 : Addr) (D : ZipApart z TI TO i1 i2 a b) :
    Turn P w K (.Tuple elts x1 tp) (Itztt K a b) [z, TI, TO, i1, i2] z (fun i h => (∃ f0 f1, F0 f0 ∧ Zp h z TI TO f0 f1) ∧ IsPair h TI (.ref i1) (.ref i2) ∧ (∃ c d, IsPair h TO c d) ∧ h.IsTupleIter i1 a i ∧ h.IsTupleIter i2 b i) := by
  have T := turn_zipTT (P := P) (w := w) (K := K) (nm := "x") (tp := tp) a b z TI TO i1 i2 D
  refine ⟨T.mem, T.obj, T.keep, ?_, T.done, T.self⟩
  intro X hP hw hK hc i pins s σ H E I hf st hg
  refine thn (T.item X hP hw hK hc i pins s σ H E I hf st hg) fun r s1 ⟨u, hr, h⟩ => ⟨u, hr, ?_⟩
  have key : wpAny (model P w) X.A (letOwnedTupleGo (.Name "x" tp) (.ref z) u >>= fun _ => letOwnedTupleGo (.Tuple elts x1 tp) (.ref z) u) (fun _ s2 => ∃ x H', Inv X pins σ H' s2 ∧ RelV x u ∧ (Itztt K a b).yld i H x H' ∧ ((∃ f0 f1, F0 f0 ∧ Zp s2.heap z TI TO f0 f1) ∧ IsPair s2.heap TI (.ref i1) (.ref i2) ∧ (∃ c d, IsPair s2.heap TO c d) ∧ s2.heap.IsTupleIter i1 a (i + 1) ∧ s2.heap.IsTupleIter i2 b (i + 1)) ∧ ∀ c ∈ [z, TI, TO, i1, i2], H' c = none) E s1 := by
    refine wpAny_bind (thn h fun _ s2 ⟨x, H', I', rx, yl, tn, hn⟩ => ?_)
    obtain ⟨p, x0, y0, hp, rfl, hx0, hy0, rfl⟩ := id yl
    cases rx
    obtain ⟨⟨f0, f1, hf0, hz⟩, hTI, ⟨ta, tb, hTO⟩, h1, h2⟩ := tn
    refine go_zipP hf0 hz fun h' f0' hf' hz' sb => ?_
    have kk : ∀ c o, c ≠ z → s2.heap.get? c = some o → h'.get? c = some o := fun c o n e => sb.extBut c o n e
    have nz : ∀ c o, upd H p (.tup [x0, y0]) c = some o → c ≠ z := fun c o q e => by rw [e, hn z (by simp)] at q; cases q
    refine ⟨.ref p, _, ?_, rfl, yl, ⟨⟨f0', f1, hf', hz'⟩, kk _ _ D.TIz hTI, ⟨ta, tb, kk _ _ D.TOz hTO⟩, h1.at fun o e => kk _ o D.i1z e, h2.at fun o e => kk _ o D.i2z e⟩, hn⟩
    have k1 : ∀ c o, c ∉ [z] → s2.heap.get? c = some o → h'.get? c = some o := fun c o n e => kk c o (fun q => n (by simp [q])) e
    refine I'.step (h' := h') (g' := s2.gens) (d' := s2.drawn) (t' := s2.toks) (ch := [z]) (fun c hc => ?_) (fun c o _ _ n q _ => k1 c o n q) (fun c o _ _ n q _ => ⟨o.slots, k1 c o n q⟩) (fun c o _ q n => n) (fun c o n q => ⟨o, k1 c o n q⟩) (fun c ys q => q) (fun c o v q => q) (fun c ps q => ⟨#[], by rw [q]; simp⟩) (fun m hm => ?_) (fun c o q => ?_) I'.bare
    · have hc : c = z := by simpa using hc
      subst hc
      obtain ⟨_, g1, _, g3, g4, g5⟩ := hf c (by simp)
      exact ⟨g3, g1, g4, g5⟩
    · obtain ⟨o, es, ep, ho, r⟩ := hm
      refine ⟨o, es, ep, k1 _ o (fun n => ?_) ho, r⟩
      exact (hf _ (by rw [List.mem_singleton.mp n]; simp)).2.1 rfl
    · refine (I'.hok c o q).stay (fun d o' hd q' => ?_) (fun d q => q) fun d ys q => q
      rcases hd with e | e
      · rw [e] at q' ⊢; exact kk c o' (nz c o q) q'
      · exact kk d o' (nz d _ e) q'
  exact key
theorem pi_zipTTP (K : PySem.W.Frag) {X : Cx} {elts : List Expr} {x1} {tp : Pos} {a b : Expr} {ta : TA} {p pos : Pos} (hg : Gl X "zip") (hm : X.mg "zip" = none) (ha : PA X [a, b] ta) (hs : starEach [a, b] X.env = (false, eval a X.env) :: starEach [b] X.env := by rfl) (hpl : (backTo pos (starEach [b] X.env)).any (·.1) = false := by rfl) (hK : X.K = K := by rfl) :
    PI X (.Tuple elts x1 tp) (.Call (.Name "zip" p) [a, b] [] pos) (iZipTT K ta) := by
  subst hK
  intro pins s σ H R I h
  refine Call_ (ld_blt I hg hm (show bootBuiltins "zip" = some (.type "zip") by decide +kernel) (PyProof.Rows.callWith_type1 (thn (ha pos pins s σ H _ I h) fun us s1 ⟨vs, H1, I1, r1, q1⟩ => ?_) hs hpl))
  obtain ⟨l1, l2, xs, ys, e, hqa, hqb, q⟩ := q1
  subst e
  obtain ⟨u1, u2, rfl, r1, r2⟩ := vals2 r1
  cases r1
  cases r2
  obtain ⟨its, rv, pa, _⟩ := I1.tuple hqa
  obtain ⟨jts, rw', pb, _⟩ := I1.tuple hqb
  have a1 : l1 < s1.heap.objs.size := by obtain ⟨_, e, _⟩ := pa; exact Heap.lt_size e
  have a2 : l2 < s1.heap.objs.size := by obtain ⟨_, e, _⟩ := pb; exact Heap.lt_size e
  refine call_zipTT (show s1.heap.IsTuple l1 its.toArray from pa) (show s1.heap.IsTuple l2 jts.toArray from pb) fun h' hz hTI hTO hi1 hi2 hk => ?_
  have T := turn_zipTTP (P := X.prog) (w := X.w) (K := X.K) (elts := elts) (x1 := x1) (tp := tp) l1 l2 _ _ _ _ _ (zipApart_new a1 a2)
  have t0 : (∃ f0 f1, F0 f0 ∧ Zp h' (s1.heap.objs.size + 4) (s1.heap.objs.size + 2) (s1.heap.objs.size + 3) f0 f1) ∧ IsPair h' (s1.heap.objs.size + 2) (.ref s1.heap.objs.size) (.ref (s1.heap.objs.size + 1)) ∧ (∃ c d, IsPair h' (s1.heap.objs.size + 3) c d) ∧ h'.IsTupleIter s1.heap.objs.size l1 0 ∧ h'.IsTupleIter (s1.heap.objs.size + 1) l2 0 := ⟨⟨_, _, .inl rfl, hz⟩, hTI, ⟨_, _, hTO⟩, hi1, hi2⟩
  refine T.self X.A 0 { s1 with heap := h' } _ _ t0 ?_
  refine ⟨_, _, _, _, H1, rfl, I1.kept (t' := s1.toks) hk, T, t0, fun b hb => ?_, q⟩
  have hb : b = s1.heap.objs.size + 4 ∨ b = s1.heap.objs.size + 2 ∨ b = s1.heap.objs.size + 3 ∨ b = s1.heap.objs.size ∨ b = s1.heap.objs.size + 1 := by simpa using hb
  have hle : s1.heap.objs.size ≤ b := by rcases hb with e | e | e | e | e <;> rw [e] <;> first | exact Nat.le_refl _ | exact Nat.le_add_right _ _
  exact I1.fpOk hle (I1.hok.fresh hle)
theorem comp_zipTT {K : PySem.W.Frag} {k : Nat} {fr : List Nat} {g : TG} {tc : TT} {te : TE} {σ : St} {H1 : Hp} {Q : VK} {a b : Addr} (xs ys : List V) (Pv : Addr → Nat → List V → St → Hp → Prop)
    (h : ∀ D, H1 D = none → Pv D 0 [] (inSt k fr σ) (upd H1 D (.lst [])) ∧ (∀ i acc σ' H', i ≤ (xs.zip ys).length → Pv D i acc σ' H' → H' D = some (.lst acc) → SqT K H' a xs ∧ SqT K H' b ys) ∧
      (∀ i acc σ' H' x y p, (xs.zip ys)[i]? = some (x, y) → Pv D i acc σ' H' → H' D = some (.lst acc) → H' p = none → g (.ref p) σ' (upd H' p (.tup [x, y])) fun σ2 H3 => tc σ2 H3 fun b H4 =>
        if b = true then te σ2 H4 fun y H5 => H5 D = some (.lst acc) ∧ acc.length < sizeLine ∧ Pv D (i + 1) (acc ++ [y]) σ2 (upd H5 D (.lst (acc ++ [y]))) else H4 D = some (.lst acc) ∧ Pv D (i + 1) acc σ2 H4) ∧
      ∀ acc σ' H', Pv D (xs.zip ys).length acc σ' H' → H' D = some (.lst acc) → Q (.ref D) H') : tCompW k fr g tc te (Itztt K a b) σ H1 Q := by
  intro D hD
  obtain ⟨h0, hok, hs, hd⟩ := h D hD
  refine ⟨fun i m acc σ' H' => m = (xs.zip ys).length - i ∧ i ≤ (xs.zip ys).length ∧ Pv D i acc σ' H', ⟨(xs.zip ys).length, by simp, Nat.zero_le _, h0⟩, ?_⟩
  rintro i m acc σ' H' ⟨rfl, hi, p⟩ hacc
  obtain ⟨oka, okb⟩ := hok i acc σ' H' hi p hacc
  have hl : (xs.zip ys).length = min xs.length ys.length := List.length_zip
  by_cases hlt : i < (xs.zip ys).length
  · refine .inr ⟨⟨xs, ys, xs[i]'(by omega), ys[i]'(by omega), oka, okb, by simp, by simp⟩, Pv D (i + 1), fun acc' σ2 H2 p' => ⟨(xs.zip ys).length - (i + 1), by omega, rfl, hlt, p'⟩, fun v H2 yl => ?_⟩
    obtain ⟨q, x, y, hq, rfl, hx, hy, rfl⟩ := yl
    refine hs i acc σ' H' x y q ?_ p hacc hq
    rw [List.getElem?_zip_eq_some]
    exact ⟨hx xs oka, hy ys okb⟩
  · have e : i = (xs.zip ys).length := by omega
    subst e
    exact .inl ⟨⟨xs, ys, oka, okb, by omega⟩, hd acc σ' H' p hacc⟩
noncomputable def iSeq (K : PySem.W.Frag) (tl : TE) : TI := fun σ H R => tl σ H fun x H1 => ∃ a, x = .ref a ∧ ((∃ xs, SqL K H1 a xs) ∧ R (Itl K a) H1 ∨ (∃ xs, SqT K H1 a xs) ∧ R (Itt K a) H1)
theorem pi_seqK (K : PySem.W.Frag) {X : Cx} {tg l : Expr} {tl : TE} (hl : PE X l tl) (hK : X.K = K := by rfl) : PI X tg l (iSeq K tl) := by
  subst hK
  intro pins s σ H R I h
  refine thn (hl pins s σ H _ I h) fun v s1 ⟨x, H1, I1, r1, q1⟩ => ?_
  obtain ⟨a, e, q⟩ := q1
  subst e
  cases r1
  have fp : ∀ b ∈ [s1.heap.objs.size], FpOk X pins H1 b := fun b hb => by
    have e : b = s1.heap.objs.size := by simpa using hb
    subst e
    exact I1.fpOk (Nat.le_refl _) (I1.hok.fresh (Nat.le_refl _))
  rcases q with ⟨⟨xs, hq⟩, q⟩ | ⟨⟨xs, hq⟩, q⟩
  · obtain ⟨its, rv, p, hz⟩ := I1.list hq
    exact wpAny_pyIter_list p.isList ⟨s1.heap.objs.size, [s1.heap.objs.size], _, _, H1, rfl, I1.kept (t' := s1.toks) fun b o e => Heap.get?_push_of_some _ e, turn_list a _, ⟨_, Heap.get?_push_size _ rfl, rfl, rfl⟩, fp, q⟩
  · obtain ⟨its, rv, p, hz⟩ := I1.tuple hq
    exact wpAny_pyIter_tuple (show s1.heap.IsTuple a its.toArray from p) ⟨s1.heap.objs.size, [s1.heap.objs.size], _, _, H1, rfl, I1.kept (t' := s1.toks) fun b o e => Heap.get?_push_of_some _ e, turn_tuple a _, ⟨_, Heap.get?_push_size _ rfl, rfl, rfl⟩, fp, q⟩
theorem comp_seq {K : PySem.W.Frag} {k : Nat} {fr : List Nat} {g : TG} {tc : TT} {te : TE} {σ : St} {H1 : Hp} {Q : VK} {a : Addr} (xs : List V) (Pv : Addr → Nat → List V → St → Hp → Prop) (ha : SqA H1 a xs)
    (h : ∀ D, H1 D = none → Pv D 0 [] (inSt k fr σ) (upd H1 D (.lst [])) ∧ (∀ i acc σ' H', i ≤ xs.length → Pv D i acc σ' H' → H' D = some (.lst acc) → H' a = H1 a) ∧
      (∀ i acc σ' H' x, xs[i]? = some x → Pv D i acc σ' H' → H' D = some (.lst acc) → g x σ' H' fun σ2 H3 => tc σ2 H3 fun b H4 =>
        if b = true then te σ2 H4 fun y H5 => H5 D = some (.lst acc) ∧ acc.length < sizeLine ∧ Pv D (i + 1) (acc ++ [y]) σ2 (upd H5 D (.lst (acc ++ [y]))) else H4 D = some (.lst acc) ∧ Pv D (i + 1) acc σ2 H4) ∧
      ∀ acc σ' H', Pv D xs.length acc σ' H' → H' D = some (.lst acc) → Q (.ref D) H') : (∃ xs, SqL K H1 a xs) ∧ tCompW k fr g tc te (Itl K a) σ H1 Q ∨ (∃ xs, SqT K H1 a xs) ∧ tCompW k fr g tc te (Itt K a) σ H1 Q := by
  rcases ha with ha | ha
  · exact .inl ⟨⟨xs, .of ha⟩, comp_list xs Pv fun D hD => let ⟨h0, h1, h2, h3⟩ := h D hD; ⟨h0, fun i acc σ' H' hi p q => .of ((h1 i acc σ' H' hi p q).trans ha), h2, h3⟩⟩
  · exact .inr ⟨⟨xs, .of ha⟩, comp_tup xs Pv fun D hD => let ⟨h0, h1, h2, h3⟩ := h D hD; ⟨h0, fun i acc σ' H' hi p q => .of ((h1 i acc σ' H' hi p q).trans ha), h2, h3⟩⟩
noncomputable def KD (P : Program) (w : World) (K : PySem.W.Frag) (a : Addr) (vs : List (Key × Value)) : Prop :=
  (a == sysModules) = false ∧ ∃ o es ep, K.lookup a = some o ∧ o.ExactDict ∧ o.data = .dict es ep ∧ KeysOf (mixKind P w) es ∧ Pairs (mixKind P w) es.toList vs ∧ (vs.map (·.1)).Nodup
theorem KD.dict {P : Program} {w : World} {K : PySem.W.Frag} {a : Addr} {vs : List (Key × Value)} {h : Heap} (k : KD P w K a vs) (X : K.In h) : h.DictOf (mixKind P w) a vs :=
  let ⟨_, o, es, ep, e, r⟩ := k; ⟨o, es, ep, X a o e, r⟩
section
variable {X : Cx}
theorem op_notInKD {vs : List (Key × Value)} {a : Addr} (k : KD X.prog X.w X.K a vs) : OpR X (compareOp .NotIn) (fun x y H Q => ∃ z, x = kV z ∧ y = .ref a ∧ Q (.bl (!(valueAt vs z).isSome)) H) := by
  intro pins s σ H x y v u Q I rx ry ⟨z, ex, ey, q⟩
  subst ex; subst ey
  cases ry
  exact wpAny_notIn_of (kV_is rx) k.1 (k.dict I.kIn).mapOf ⟨.bl _, H, I.tok _, rfl, q⟩
theorem ix_KD {vs : List (Key × Value)} {a : Addr} (k : KD X.prog X.w X.K a vs) : IxR X (fun x y H Q => ∃ z v u, x = .ref a ∧ y = kV z ∧ valueAt vs z = some v ∧ RelV u v ∧ Q u H) := by
  intro value slice pins s σ H x y v u Q I rx ry ⟨z, v', u', ex, ey, hv, rv, q⟩ hs
  subst ex; subst ey
  cases rx
  have dd := k.dict I.kIn
  exact tail_any dd.typeIs PySem.F.slot_dict_getitem.lookup (wpAny_getItem_of (kV_is ry) dd.mapOf hv ⟨_, H, I.tok _, rv, q⟩) hs
end
end L2
namespace L2
open PySem PySem.Spec PyProof.Rows
section
variable {X : Cx}
noncomputable def rNil (K : PySem.W.Frag) (neg : Bool) : V → V → Hp → VK → Prop := fun x y H Q => ∃ a b xs, x = .ref a ∧ y = .ref b ∧ SqL K H a xs ∧ H b = some (.lst []) ∧ Q (.bl (if neg then !xs.isEmpty else xs.isEmpty)) H
theorem op_neNil (K : PySem.W.Frag) (hu : X.A.units + 64 < cLine) (hK : X.K = K := by rfl) : OpR X (compareOp .NotEq) (rNil K true) := by
  subst hK
  intro pins s σ H x y v u Q I rx ry h
  obtain ⟨a, b, xs, rfl, rfl, ha, hb, q⟩ := h
  cases rx
  cases ry
  obtain ⟨its, rv, pl, hz⟩ := I.list ha
  obtain ⟨jts, rw', pb, _⟩ := I.list (a := b) (xs := []) (.of hb)
  cases rw'
  have l1 := rv.length
  cases xs with
  | nil =>
    cases rv
    obtain ⟨o, e, c, n, d⟩ := pl.isList
    obtain ⟨o2, e2, c2, n2, d2⟩ := pb.isList
    have za : Reads s.heap (.ref a) (.list []) _ := .list e c d (by simpa using ReadsAll.nil)
    have zb : Reads s.heap (.ref b) (.list []) _ := .list e2 c2 d2 (by simpa using ReadsAll.nil)
    exact ne_dataH za zb rfl rfl hu ⟨.bl _, H, I, rfl, q⟩
  | cons x r =>
    have hsz : (its.toArray.size != ([] : List Value).toArray.size) = true := by
      rw [bne_iff_ne, List.size_toArray, ← l1]
      simp
    exact ne_list_lengths pl.isList pb.isList hsz (by omega) ⟨.bl true, H, I, rfl, q⟩
theorem op_eqNil (K : PySem.W.Frag) (hu : X.A.units + 64 < cLine) (hK : X.K = K := by rfl) : OpR X (compareOp .Eq) (rNil K false) := by
  subst hK
  intro pins s σ H x y v u Q I rx ry h
  obtain ⟨a, b, xs, rfl, rfl, ha, hb, q⟩ := h
  cases rx
  cases ry
  obtain ⟨its, rv, pl, hz⟩ := I.list ha
  obtain ⟨jts, rw', pb, _⟩ := I.list (a := b) (xs := []) (.of hb)
  cases rw'
  have l1 := rv.length
  cases xs with
  | nil =>
    cases rv
    obtain ⟨o, e, c, n, d⟩ := pl.isList
    obtain ⟨o2, e2, c2, n2, d2⟩ := pb.isList
    have za : Reads s.heap (.ref a) (.list []) _ := .list e c d (by simpa using ReadsAll.nil)
    have zb : Reads s.heap (.ref b) (.list []) _ := .list e2 c2 d2 (by simpa using ReadsAll.nil)
    exact eq_dataH za zb rfl rfl hu ⟨.bl _, H, I, rfl, q⟩
  | cons x r =>
    have hsz : (its.toArray.size != ([] : List Value).toArray.size) = true := by
      rw [bne_iff_ne, List.size_toArray, ← l1]
      simp
    exact SeqAt.eq_list_lengthsAt pl.isList pb.isList hsz (by omega) ⟨.bl false, H, I, rfl, q⟩
end
noncomputable def penK (a : Addr) (i n : Int) : List (Key × V) := [(.inr "script", .ref a), (.inr "at", .int i), (.inr "left", .int n)]
noncomputable def DPV (H : Hp) (p a : Addr) : Prop := ∃ (i n : Int), H p = some (.dK (penK a i n)) ∧ 0 ≤ i ∧ 0 ≤ n
noncomputable def DPen (K : PySem.W.Frag) (H : Hp) (p a : Addr) : Prop := (∃ ns : List Int, ∀ H', But p H H' → SqL K H' a (ns.map V.int)) ∧ DPV H p a
theorem DPen.but {K : PySem.W.Frag} {H H' : Hp} {p a : Addr} (h : DPen K H p a) (b : But p H H') (v : DPV H' p a) : DPen K H' p a := ⟨let ⟨ns, q⟩ := h.1; ⟨ns, fun H2 b2 => q H2 (b.trans b2)⟩, v⟩
theorem DPV.upd {H : Hp} {p a D : Addr} {o : HO} (h : DPV H p a) (n : p ≠ D) : DPV (L2.upd H D o) p a := let ⟨i, m, e, q⟩ := h; ⟨i, m, by rw [upd_ne n]; exact e, q⟩
theorem DPV.ne {H : Hp} {p a D : Addr} (h : DPV H p a) (e : H D = none) : p ≠ D := let ⟨_, _, q, _⟩ := h; ne_of_none q e
theorem DPV.at {H : Hp} {p a : Addr} (h : DPV H p a) : ∃ o, H p = some o := let ⟨_, _, q, _⟩ := h; ⟨_, q⟩
theorem DPV.same {H H' : Hp} {p a : Addr} (h : DPV H p a) (s : Same H H') : DPV H' p a := let ⟨i, m, e, q⟩ := h; ⟨i, m, s _ _ e, q⟩
theorem DPen.new {K : PySem.W.Frag} {H H' : Hp} {p a : Addr} {ns : List Int} (h : SqL K H a (ns.map V.int)) (hp : H p = none) (s : Same H H') (v : DPV H' p a) : DPen K H' p a := by
  refine ⟨⟨ns, fun H2 b => ?_⟩, v⟩
  rcases h with h | h
  · have n : a ≠ p := by
      rcases h with h | ⟨ob, h⟩
      · exact ne_of_none h hp
      · exact ne_of_none h hp
    exact SqL.but (fun c o' n' e => b c o' n' (s c o' e)) n (.inl h)
  · exact .inr h
theorem penG_s {H : Hp} {p a : Addr} {i n : Int} (h : H p = some (.dK (penK a i n))) : DGet H p (.str "script") (some (.ref a)) := DGet.k (k := .inr "script") h
theorem penG_a {H : Hp} {p a : Addr} {i n : Int} (h : H p = some (.dK (penK a i n))) : DGet H p (.str "at") (some (.int i)) := DGet.k (k := .inr "at") h
theorem penG_l {H : Hp} {p a : Addr} {i n : Int} (h : H p = some (.dK (penK a i n))) : DGet H p (.str "left") (some (.int n)) := DGet.k (k := .inr "left") h
theorem penP_a {H : Hp} {p a : Addr} {i n j : Int} (h : H p = some (.dK (penK a i n))) : DPut H p (.str "at") (.int j) (upd H p (.dK (penK a j n))) := DPut.k (k := .inr "at") h (by show 3 < sizeLine; decide)
theorem penP_l {H : Hp} {p a : Addr} {i n j : Int} (h : H p = some (.dK (penK a i n))) : DPut H p (.str "left") (.int j) (upd H p (.dK (penK a i j))) := DPut.k (k := .inr "left") h (by show 3 < sizeLine; decide)
noncomputable def spDrw (K : PySem.W.Frag) : Sp := fun vs H Q _ => ∃ (p a : Addr) (m : Int), vs = [.ref p, .int m] ∧ DPen K H p a ∧ 0 < m ∧ m < 1073741824 ∧ ∀ r H', 0 ≤ r → r < m → DPV H' p a → But p H H' → Q (.int r) H'
end L2
namespace L2
open PySem PySem.Spec PyProof.Rows
theorem any_tup {prog : Program} {w : World} {A : Around} {E : Value → Shared → Prop} {s : Shared} {b : Addr} {Q : Bool → Shared → Prop} (hT : s.TypeIs (.ref b) "tuple") (h : Q false s) : wpAny (model prog w) A (Builtin.Frozenset.isAnySet (.ref b)) Q E s := by
  unfold Builtin.Frozenset.isAnySet
  refine wpAny_bind (wpAny_isInstance hT (by rw [isSubtype_type]; kernel_rfl : isSubtype (.type "tuple") (.type "set") = pure false) ?_)
  exact wpAny_isInstance hT (by rw [isSubtype_type]; kernel_rfl : isSubtype (.type "tuple") (.type "frozenset") = pure false) h
theorem call_setT {X : Cx} (hc : X.calm = true) {pins : List (Addr × Obj)} {s : Shared} {σ : St} {H : Hp} {p : Addr} {ys : List Str} {Q : VK} (I : Inv X pins σ H s) (hq : SqT X.K H p (List.map V.str ys)) (hy : ys.length ≤ 1000)
    (q : ∀ l S n, H l = none → n ≤ ys.length → (n = ys.length ↔ ys.Nodup) → Q (.ref l) (upd H l (setO X.prog X.w l S n))) : wpAny (model X.prog X.w) X.A (call (.type "set") [.ref p]) (EP X pins σ Q) X.xe s := by
  refine SU.call1 fun led => ?_
  have hl : H s.heap.objs.size = none := I.hok.fresh (Nat.le_refl _)
  have hnew : (⟨s.heap.push { cls := .type "set", dict := none, data := .set #[] 0 (.fresh 0 0 led) }, s.gens, s.drawn, s.toks, s.os⟩ : Shared).TypeIs (.ref s.heap.objs.size) "set" := ⟨_, Heap.get?_push_size _ rfl, rfl⟩
  have hset : (s.heap.push { cls := .type "set", dict := none, data := .set #[] 0 (.fresh 0 0 led) }).SetOf (strKind X.prog X.w) s.heap.objs.size (fun _ => false) 0 := by
    refine ⟨_, #[], 0, _, Heap.get?_push_size _ rfl, ⟨rfl, rfl, rfl⟩, rfl, (fun x hx => by cases hx), (fun k => ⟨(fun h => by cases h), fun ⟨e, he, _⟩ => by cases he⟩), by decide, ?_, rfl⟩
    cases led <;> rfl
  have I1 : Inv X pins σ (upd H s.heap.objs.size (setO X.prog X.w s.heap.objs.size (fun _ => false) 0)) { s with heap := s.heap.push { cls := .type "set", dict := none, data := .set #[] 0 (.fresh 0 0 led) } } :=
    I.laid (a := s.heap.objs.size) (t' := s.toks) (fun _ _ q => Heap.get?_push_of_some _ q) (Nat.le_refl _) (setO_ok hset)
  unfold Builtin.«set.__init__»
  have hA : X.A.in1.in1.handled = none := I.ok.hd hc
  refine wpAny_bind (wpAny_pure (wpAny_bind (SU.cut_set hnew (wpAny_bind (wpAny_pure (wpAny_bind (wpAny_pure (wpAny_bind ?_))))))))
  unfold setUsed
  refine wpAny_bind (wpAny_setState_of (Heap.get?_push_size _ rfl) rfl (by cases led <;> rfl) (wpAny_pure ?_))
  rw [if_neg (by cases led <;> decide)]
  show wpAny _ _ (Builtin.Frozenset.updateFrom "set.__init__" s.heap.objs.size (.ref p) >>= _) _ _ _
  refine wpAny_bind ?_
  unfold Builtin.Frozenset.updateFrom
  obtain ⟨its, rv, pl, hz⟩ := I1.tuple (hq.fresh hl)
  obtain ⟨o, ho, hcl, n, hdt⟩ := id pl
  refine wpAny_bind (any_tup ⟨o, ho, hcl⟩ ?_)
  rw [if_neg (by decide)]
  refine wpAny_bind (wpAny_typeOf (T := "tuple") ⟨o, ho, hcl⟩ ?_)
  rw [if_neg (by decide)]
  refine wpAny_bind (wpAny_pyIter_tuple (show Heap.IsTuple _ p its.toArray from pl) ?_)
  refine wpAny_bind (wpAny_runValue ?_)
  refine set_loop (X := { X with A := X.A.in1 }) (pins := pins) (σ := σ) (nm := "x") (tp := default) (turn_tuple p _) hc s.heap.objs.size H ys hy hl (fun i H' hi e => ?_) (fun H' e => ?_) _ 0 _ _ rfl (Nat.zero_le _) ((I1.kept (t' := s.toks) fun b o e => Heap.get?_push_of_some _ e).atA _ rfl rfl) (fun b hb => ?_) ⟨_, Heap.get?_push_size _ rfl, rfl, rfl⟩ ⟨_, 0, rfl, (fun k => ⟨(fun h => by cases h), (fun h => by cases h)⟩), Nat.le_refl _, ⟨fun _ => List.nodup_nil, fun _ => rfl⟩⟩ fun H' s' I' hd => ?_
  · obtain ⟨S, n, rfl, _⟩ := e
    have hq' := hq.fresh (o := setO X.prog X.w s.heap.objs.size S n) hl
    have hx : (List.map V.str ys)[i]? = some (.str ys[i]) := by rw [List.getElem?_map, List.getElem?_eq_getElem hi]; rfl
    refine ⟨⟨_, _, hq', hx⟩, fun x H1 ⟨e1, e2⟩ => ⟨e1, ys[i], ?_, List.getElem?_eq_getElem hi⟩⟩
    have := e2 _ hq'
    rw [hx] at this
    exact (Option.some.inj this).symm
  · obtain ⟨S, n, rfl, _⟩ := e
    exact ⟨_, hq.fresh hl, by rw [List.length_map]; exact Nat.le_refl _⟩
  · have e : b = (s.heap.push { cls := .type "set", dict := none, data := .set #[] 0 (.fresh 0 0 led) }).objs.size := by simpa using hb
    subst e
    exact (I1.atA X.A.in1 rfl rfl).fpOk (Nat.le_refl _) (I1.hok.fresh (Nat.le_refl _))
  · obtain ⟨S, n, rfl, _, hn, hnd⟩ := hd
    rw [List.take_of_length_le (Nat.le_refl _)] at hnd
    exact wpAny_pure (wpAny_pure ⟨rfl, .ref _, _, Inv.ofA I.ok I', rfl, q _ S n hl hn hnd⟩)
noncomputable def rSetX (K : PySem.W.Frag) : List V → Hp → VK → Prop := fun vs H Q => ∃ p ys, vs = [.ref p] ∧ SqA H p (List.map V.str ys) ∧ ys.length ≤ 1000 ∧ ∀ (l : Addr) (P : Program) (w : World) (S : Str → Bool) (n : Nat), H l = none → n ≤ ys.length → (n = ys.length ↔ ys.Nodup) → Q (.ref l) (upd H l (setO P w l S n))
theorem b_setX {X : Cx} {p pos : Pos} {e : Expr} {t : TA} (K : PySem.W.Frag) (hc : X.calm = true) (Z : X.mg "set" = none) (ha : PA X [e] t) (hg : Gl X "set" := by rfl) (he : starEach [e] X.env = (false, eval e X.env) :: starEach [] X.env := by rfl) (hpl : (backTo pos (starEach [] X.env)).any (·.1) = false := by rfl) (hK : X.K = K := by rfl) :
    PE X (.Call (.Name "set" p) [e] [] pos) (tCB (rSetX K) t) := by
  subst hK
  refine pe_callTy (r := rSetX X.K) (fun pins s σ H xs us Q I r h => ?_) hg Z (show bootBuiltins "set" = some (.type "set") by decide +kernel) ha (by decide) (by decide) he hpl
  obtain ⟨p, ys, rfl, hq, hy, q⟩ := h
  obtain ⟨u, rfl, ru⟩ := vals1 r
  cases ru
  rcases hq with hq | hq
  · exact call_setL hc I (.of hq) hy fun l S n hl hn hnd => q l _ _ S n hl hn hnd
  · exact call_setT hc I (.of hq) hy fun l S n hl hn hnd => q l _ _ S n hl hn hnd
end L2
namespace L2
open PySem PySem.Spec PyProof.Rows
section
variable {X : Cx}
noncomputable def rNilT (K : PySem.W.Frag) : V → V → Hp → VK → Prop := fun x y H Q => ∃ a b xs, x = .ref a ∧ y = .ref b ∧ SqT K H a xs ∧ H b = some (.tup []) ∧ Q (.bl xs.isEmpty) H
theorem op_eqNilT (K : PySem.W.Frag) (hu : X.A.units + 64 < cLine) (hK : X.K = K := by rfl) : OpR X (compareOp .Eq) (rNilT K) := by
  subst hK
  intro pins s σ H x y v u Q I rx ry h
  obtain ⟨a, b, xs, rfl, rfl, ha, hb, q⟩ := h
  cases rx
  cases ry
  obtain ⟨its, rv, pl, hz⟩ := I.tuple ha
  obtain ⟨jts, rw', pb, _⟩ := I.tuple (a := b) (xs := []) (.of hb)
  cases rw'
  have l1 := rv.length
  refine SeqAt.eq_tupleAt (e := fun _ => true) (show s.heap.IsTuple a its.toArray from pl) (show s.heap.IsTuple b (List.toArray []) from pb) (by omega) (fun i h1 h2 => absurd h2 (by simp)) ⟨.bl _, H, I, rfl, ?_⟩
  have e : ((List.range (min its.toArray.size (List.toArray ([] : List Value)).size)).all (fun _ => true) && its.toArray.size == (List.toArray ([] : List Value)).size) = xs.isEmpty := by
    cases xs with
    | nil => cases rv; rfl
    | cons x r =>
      cases its with
      | nil => cases rv
      | cons y q => simp
  rw [e]
  exact q
end
end L2
namespace L2
open PySem PySem.Spec PyProof.Rows
section
variable {X : Cx} {p pos : Pos} {e : Expr} {t : TA}
noncomputable def rReprG : List V → Hp → VK → Prop := fun vs H Q => ∃ (x : V) (d : PyData), vs = [x] ∧ RpD H x d ∧ (∀ a kvs, x = .ref a → H a ≠ some (.dK kvs)) ∧ d.showable = true ∧ d.depth ≤ 16 ∧ d.shown.length ≤ sizeLine ∧ Q (.str d.shown) H
theorem call_reprG (hg : X.A.guards = some []) (hu : X.A.units + 64 < cLine) : CallR X (.builtin "repr") rReprG := by
  intro pins s σ H vs us Q I r h
  obtain ⟨x, d, rfl, rp, nd, hs, hdp, hz, q⟩ := h
  cases rp with
  | tr rep hd => exact call_repr_tree hg hu pins s σ H _ us Q I r ⟨x, d, rfl, rep, hs, hd, hdp, hz, q⟩
  | dc h _ => exact absurd h (nd _ _ rfl)
  | @lst a xs ds h rs => 
    cases rs with
    | nil => exact call_repr_tree hg hu pins s σ H _ us Q I r ⟨_, .list [], rfl, .lst h .nil, hs, rfl, hdp, hz, q⟩
    | cons r1 r2 => exact call_reprD hg hu pins s σ H _ us Q I r ⟨a, _, rfl, .inl ⟨_, _, h, .cons r1 r2, rfl, by simp⟩, hs, hdp, hz, q⟩
  | @tup a xs ds h rs => exact call_reprD hg hu pins s σ H _ us Q I r ⟨a, _, rfl, .inr ⟨_, _, h, rs, rfl⟩, hs, hdp, hz, q⟩
theorem b_reprG (gd : X.A.guards = some []) (hu : X.A.units + 64 < cLine) (B : Blt X.mg) (ha : PA X [e] t) (hg : Gl X "repr" := by rfl) (he : starEach [e] X.env = (false, eval e X.env) :: starEach [] X.env := by rfl) (hpl : (backTo pos (starEach [] X.env)).any (·.1) = false := by rfl) : PE X (.Call (.Name "repr" p) [e] [] pos) (tCB rReprG t) :=
  pe_callB (call_reprG gd hu) hg B.repr boot_repr ha (by decide) (by decide) he hpl
end
end L2
open PySem
namespace PySem.SeqAt
end PySem.SeqAt
namespace HT
open PySem PySem.Spec PyProof.Rows
variable {prog : Program} {w : World} {A : Around} {E : Value → Shared → Prop} {s : Shared}
end HT
namespace MG
variable {α : Type}
end MG
namespace L2
open PySem
section
variable {us : List Str} {ks : List (Str × List Str)}
noncomputable abbrev tp (a : List Str) : List Str := ("" : Str) :: a
end
end L2
namespace L2
open PySem
theorem in_strs (x : Str) (xs : List Str) : inV (V.str x) (List.map V.str xs) = decide (x ∈ xs) := by
  rw [Bool.eq_iff_iff, decide_eq_true_iff]
  unfold inV
  rw [List.any_map, List.any_eq_true]
  constructor
  · rintro ⟨y, hy, q⟩
    have q : (y == x) = true := q
    have q : y = x := by simpa using q
    exact q ▸ hy
  · intro h
    refine ⟨x, h, ?_⟩
    show (x == x) = true
    simp
end L2
namespace K56
open PySem L2
noncomputable def top (i : Nat) : Stmt := PySem.Challenge.pw_orderkeep_k56_what_is_a_deed.main.body.getD i (.Pass ⟨0, 0, 0, 0⟩)
noncomputable abbrev sIsName : Stmt := top 14
noncomputable abbrev sPlaces : Stmt := top 18
noncomputable abbrev sUNm : Stmt := top 19
noncomputable abbrev sUnlike : Stmt := top 20
noncomputable abbrev sIsSingle : Stmt := top 70
noncomputable abbrev sIsMany : Stmt := top 71
noncomputable abbrev sHasWord : Stmt := top 72
noncomputable abbrev sIsPart : Stmt := top 73
noncomputable abbrev sIsDeed : Stmt := top 114
noncomputable abbrev sBehind : Stmt := top 115
noncomputable abbrev sIsDeedWithin : Stmt := top 116
noncomputable abbrev sPen : Stmt := top 120
noncomputable abbrev sDraw : Stmt := top 121
noncomputable abbrev sLawPart : Stmt := top 122
noncomputable abbrev sLawMembers : Stmt := top 123
noncomputable abbrev sLawThing : Stmt := top 124
noncomputable abbrev sLawIsName : Stmt := top 125
noncomputable abbrev sLawAreMembers : Stmt := top 126
noncomputable abbrev sLawIsDeed : Stmt := top 127
noncomputable abbrev sLawRefused : Stmt := top 128
noncomputable abbrev sLaw : Stmt := top 129
section
variable {P : Program} {w : World} {K : PySem.W.Frag} {mg : Str → Option Value} {base : Heap}
noncomputable def spPenD (K : PySem.W.Frag) : Sp := fun vs H Q _ => ∃ (a : Addr) (ns : List Int), vs = [.ref a] ∧ SqL K H a (ns.map V.int) ∧ ∀ p H', DPen K H' p a → Q (.ref p) H'
theorem scPen : FnScope ["_law_script"] ["_law_script"] (defScope sPen) := ⟨rfl, rfl, rfl, by decide +kernel, rfl, by decide +kernel, by decide +kernel⟩
theorem ok_pen {f : Addr} {fd : FuncData} (F : Fun K "_law_pen" "_law_pen" sPen f fd) (B : Blt mg) : FnOk P w K mg base CX0 1 f fd ["_law_script"] (spPenD K) := by
  refine F.ok scPen (fun vs H Q E h => ?_) (fun cdv A outer s H vs Q E hr h => ?_)
  · obtain ⟨a, ns, rfl, _⟩ := h
    rfl
  · obtain ⟨a, ns, rfl, hS, k⟩ := h
    have nd := scPen.nd
    refine ⟨_, (pss_one (ps_ret (pe_disp (pps_cons pe_str (pv 0) (pps_cons pe_str pe_int (pps_cons pe_str pe_int pps_nil))) rfl rfl (by simp) (by decide)))), ?_⟩
    refine fun p hp => ⟨_, rfl, ?_⟩
    refine ⟨upd_same, penK a 0 0, rfl, (by show 3 ≤ 15; decide), ?_⟩
    have s1 : Same H (upd (upd H p (.dK [])) p (.dK (mergeK [] (penK a 0 0)))) := by rw [upd_upd]; exact Same.new hp
    exact k p _ (DPen.new hS hp s1 ⟨0, 0, upd_same, by decide, by decide⟩)
theorem hS_new {H : Hp} {a l : Addr} {o : HO} {xs : List V} (h : SqL K H a xs) (e : H l = none) : SqL K (upd H l o) a xs := by
  have s := Same.new (o := o) e
  rcases h with (h | ⟨ob, h⟩) | h
  · exact .inl (.inl (s _ _ h))
  · exact .inl (.inr ⟨ob, s _ _ h⟩)
  · exact .inr h
theorem scDraw : FnScope ["_law_pen_here", "_law_many", "_law_found", "_law_at", "_law_cell", "_law_number"] ["_law_pen_here", "_law_many"] (defScope sDraw) := ⟨rfl, rfl, rfl, by decide +kernel, rfl, by decide +kernel, by decide +kernel⟩
theorem ok_draw {f : Addr} {fd : FuncData} (F : Fun K "_law_draw" "_law_draw" sDraw f fd) (B : Blt mg) : FnOk P w K mg base CX0 1 f fd ["_law_pen_here", "_law_many"] (spDrw K) := by
  refine F.ok scDraw (fun vs H Q E h => ?_) (fun cdv A outer s H vs Q E hr h => ?_)
  · obtain ⟨p, a, m, rfl, _⟩ := h
    rfl
  · obtain ⟨p, a, m, rfl, ⟨⟨ns, hS⟩, i, n, hp, hi, hn⟩, hm, hm2, k⟩ := h
    have nd := scDraw.nd
    refine ⟨_, (pss_cons (ps_if (pt_cmpR op_gt (pe_ix (ix_X K hr.units) (pv 0) pe_str (fun _ _ => rfl)) pe_int (nomark _)) (pss_cons (ps_set (i := 2) nd rfl (Or.inl rfl) (pe_op op_mod (pe_ix (ix_X K hr.units) (pv 0) pe_str (fun _ _ => rfl)) (pv 1)))
      (pss_cons (ps_asg (pe_op op_fdiv (pe_ix (ix_X K hr.units) (pv 0) pe_str (fun _ _ => rfl)) (pv 1)) (pg_sub (pv 0) pe_str (set_X hr.units)))
      (pss_one (ps_ret (pv 2))))) pss_nil)
      (pss_cons (ps_set (i := 3) nd rfl (Or.inl rfl) (pe_ix (ix_X K hr.units) (pv 0) pe_str (fun _ _ => rfl)))
      (pss_cons (ps_asg (pe_op op_addX (pv 3) pe_int) (pg_sub (pv 0) pe_str (set_X hr.units)))
      (pss_cons (ps_set (i := 4) nd rfl (Or.inl rfl) pe_int)
      (pss_cons (ps_if (pt_cmpR (op_neNil K hr.units) (pe_ix (ix_X K hr.units) (pv 0) pe_str (fun _ _ => rfl)) (pe_lst pa_nil) (nomark _)) (pss_one (ps_set (i := 4) nd rfl (Or.inl rfl) (pe_ix (ix_X K hr.units) (pe_ix (ix_X K hr.units) (pv 0) pe_str (fun _ _ => rfl)) (pe_op op_mod (pv 3) (b_len K B (pa_cons (pe_ix (ix_X K hr.units) (pv 0) pe_str (fun _ _ => rfl)) pa_nil))) (fun _ _ => rfl)))) pss_nil)
      (pss_cons (ps_if (PW.pt (pw_and (pt_cmpR op_ltX (pv 3) (b_len K B (pa_cons (pe_ix (ix_X K hr.units) (pv 0) pe_str (fun _ _ => rfl)) pa_nil)) (nomark _)) (pw_and1 (pt_cmpR op_ge (b_abs B (pa_cons (pv 4) pa_nil)) (pe_op op_pow pe_int pe_int) (nomark _))))) (pss_cons (ps_asg (pe_op op_fdiv (b_abs B (pa_cons (pv 4) pa_nil)) (pv 1)) (pg_sub (pv 0) pe_str (set_X hr.units)))
      (pss_one (ps_ret (pe_op op_mod (b_abs B (pa_cons (pv 4) pa_nil)) (pv 1))))) pss_nil)
      (pss_cons (ps_set (i := 5) nd rfl (Or.inl rfl) (pe_op op_mod (pe_op op_mul (pe_op op_addX (pe_op op_addX (pe_op op_mod (pv 4) pe_int) (pe_op op_mul pe_int (pv 3))) pe_int) pe_int) pe_int))
      (pss_cons (ps_set (i := 5) nd rfl (Or.inl rfl) (pe_op op_mod (pe_op op_addX (pe_op op_addX (pe_op op_mul (pv 5) (pv 5)) (pe_op op_mul pe_int (pv 5))) (pv 3)) pe_int))
      (pss_one (ps_ret (pe_op op_mod (pe_op op_fdiv (pv 5) pe_int) (pv 1)))))))))))), ?_⟩
    refine ⟨_, rfl, .dic (penG_l hp) ⟨_, _, rfl, rfl, _, rfl, ?_⟩⟩
    refine ite2 (fun h => ?_) (fun h => ?_)
    · refine ⟨_, rfl, .dic (penG_l hp) ⟨_, rfl, _, _, rfl, rfl, hm, ?_⟩⟩
      refine ⟨_, rfl, .dic (penG_l hp) ⟨_, rfl, _, _, rfl, rfl, ⟨hm, hm2⟩, ?_⟩⟩
      refine ⟨_, rfl, .dic (penP_l hp) ?_⟩
      refine ⟨_, rfl, ?_⟩
      exact k _ _ (Int.emod_nonneg _ (by omega)) (Int.emod_lt_of_pos _ hm) ⟨i, n / m, upd_same, hi, Int.ediv_nonneg hn (by omega)⟩ But.upd
    · refine ⟨_, rfl, .dic (penG_a hp) ?_⟩
      refine ⟨_, rfl, .int ?_⟩
      refine ⟨_, rfl, .dic (penP_a hp) ?_⟩
      have hp1 : (upd H p (.dK (penK a (i + 1) n))) p = some (.dK (penK a (i + 1) n)) := upd_same
      have hS1 : SqL K (upd H p (.dK (penK a (i + 1) n))) a (ns.map V.int) := hS _ But.upd
      have bu1 : But p H (upd H p (.dK (penK a (i + 1) n))) := But.upd
      generalize upd H p (.dK (penK a (i + 1) n)) = H1 at hp1 hS1 bu1 ⊢
      refine ⟨_, rfl, .dic (penG_s hp1) ⟨(by show 0 ≤ sizeLine; decide), fun lz hlz => ⟨_, _, _, rfl, rfl, hS_new hS1 hlz, upd_same, _, rfl, ?_⟩⟩⟩
      have nlz : p ≠ lz := ne_of_none hp1 hlz
      have hp2 : (upd H1 lz (.lst [])) p = some (.dK (penK a (i + 1) n)) := by rw [upd_ne nlz]; exact hp1
      have bu2 : But p H (upd H1 lz (.lst [])) := bu1.trans (But.of_same (Same.new hlz))
      have hS2 : SqL K (upd H1 lz (.lst [])) a (ns.map V.int) := hS _ bu2
      generalize upd H1 lz (.lst []) = H2 at hp2 hS2 bu2 ⊢
      have fin : ∀ c : Int, 0 ≤ c → Q (.int (c % m)) H2 := fun c hc => k _ _ (Int.emod_nonneg _ (by omega)) (Int.emod_lt_of_pos _ hm) ⟨i + 1, n, hp2, by omega, hn⟩ bu2
      refine ite2 (fun h => ?a) (fun h => ?b)
      case' a =>
        have hl : (0 : Int) < ((ns.map V.int).length : Nat) := by
          cases ns with
          | nil => exact absurd h (by simp)
          | cons x r => show (0 : Int) < ((r.map V.int).length + 1 : Nat); omega
        obtain ⟨c, hc⟩ := at_int (ns := ns) (j := i % ((ns.map V.int).length : Nat)) (Int.emod_nonneg _ (by omega)) (Int.emod_lt_of_pos _ hl)
        refine ⟨_, rfl, .dic (penG_s hp2) ⟨_, rfl, _, rfl, .dic (penG_s hp2) ⟨_, _, rfl, Or.inl ⟨_, hS2, rfl⟩, _, _, rfl, rfl, hl, .lst hS2 hc ?_⟩⟩⟩
      all_goals
        refine ⟨_, rfl, _, rfl, .dic (penG_s hp2) ⟨_, _, rfl, Or.inl ⟨_, hS2, rfl⟩, .int ⟨_, rfl, ?_⟩⟩⟩
        refine ite2 (fun h1 => ?_) (fun h1 => ?_)
        · refine ⟨_, rfl, _, rfl, _, _, rfl, rfl, ⟨by decide, by decide, by decide⟩, _, _, rfl, rfl, _, rfl, ?_⟩
          refine ite2 (fun h2 => ?_) (fun h2 => ?_)
          · refine ⟨_, rfl, _, rfl, _, rfl, _, _, rfl, rfl, ⟨hm, hm2⟩, ?_⟩
            refine ⟨_, rfl, .dic (penP_l hp2) ?_⟩
            refine ⟨_, rfl, _, rfl, _, rfl, _, _, rfl, rfl, hm, ?_⟩
            refine k _ _ (Int.emod_nonneg _ (by omega)) (Int.emod_lt_of_pos _ hm) ⟨i + 1, _, upd_same, by omega, Int.ediv_nonneg (by split <;> omega) (by omega)⟩ (bu2.trans But.upd)
          · refine ⟨_, rfl, _, _, rfl, rfl, (by show (0 : Int) < _; decide), _, rfl, _, _, rfl, rfl, .inl ⟨by decide, by decide⟩, .int (.int ⟨_, _, rfl, rfl, .inr ⟨by decide, by decide⟩, _, _, rfl, rfl, (by show (0 : Int) < _; decide), ?_⟩)⟩
            refine ⟨_, rfl, _, rfl, _, _, rfl, rfl, .inl (fst_small _), _, rfl, _, _, rfl, rfl, .inl ⟨by decide, by decide⟩, .int ⟨_, rfl, .int ⟨_, _, rfl, rfl, (by show (0 : Int) < _; decide), ?_⟩⟩⟩
            refine ⟨_, rfl, _, _, rfl, rfl, ⟨by decide, by decide⟩, _, rfl, _, _, rfl, rfl, hm, ?_⟩
            exact fin _ (Int.ediv_nonneg (Int.emod_nonneg _ (by decide)) (by decide))
        · refine ⟨_, rfl, _, _, rfl, rfl, (by show (0 : Int) < _; decide), _, rfl, _, _, rfl, rfl, .inl ⟨by decide, by decide⟩, .int (.int ⟨_, _, rfl, rfl, .inr ⟨by decide, by decide⟩, _, _, rfl, rfl, (by show (0 : Int) < _; decide), ?_⟩)⟩
          refine ⟨_, rfl, _, rfl, _, _, rfl, rfl, .inl (fst_small _), _, rfl, _, _, rfl, rfl, .inl ⟨by decide, by decide⟩, .int ⟨_, rfl, .int ⟨_, _, rfl, rfl, (by show (0 : Int) < _; decide), ?_⟩⟩⟩
          refine ⟨_, rfl, _, _, rfl, rfl, ⟨by decide, by decide⟩, _, rfl, _, _, rfl, rfl, hm, ?_⟩
          exact fin _ (Int.ediv_nonneg (Int.emod_nonneg _ (by decide)) (by decide))
end
end K56
namespace K56
open PySem L2
section
variable {P : Program} {w : World} {K : PySem.W.Frag} {mg : Str → Option Value} {base : Heap}
theorem scPlaces : FnScope ["things", "places", "place", "thing"] ["things"] (defScope sPlaces) := ⟨rfl, rfl, rfl, by decide +kernel, rfl, by decide +kernel, by decide +kernel⟩
theorem pair_get {H : Hp} {refs : List V} {ps : List (Str × Str)} (rp : RepAll H refs (ps.map pairD)) {j : Nat} {x : V} (hx : refs[j]? = some x) : ∃ e ta, ps[j]? = some e ∧ x = .ref ta ∧ H ta = some (.tup [.str e.1, .str e.2]) := by
  obtain ⟨d, hd, rd⟩ := rp.get hx
  rw [List.getElem?_map] at hd
  cases q : ps[j]? with
  | none => rw [q] at hd; cases hd
  | some e =>
    rw [q] at hd
    have hd : pairD e = d := Option.some.inj hd
    rw [← hd] at rd
    obtain ⟨ta, h1, h2⟩ := pair_at rd
    exact ⟨e, ta, rfl, h1, h2⟩
theorem str_get {ss : List Str} {i : Nat} {x : V} (h : (List.map V.str ss)[i]? = some x) : ∃ s, ss[i]? = some s ∧ V.str s = x := by
  rw [List.getElem?_map] at h
  cases q : ss[i]? with
  | none => rw [q] at h; cases h
  | some e => rw [q] at h; exact ⟨e, rfl, Option.some.inj h⟩
structure PlN (H H' : Hp) (d : Addr) (xs : List Str) (i : Nat) (kvs : List (Key × V)) : Prop where
  sm : Same H H'
  at_ : H' d = some (.dK kvs)
  len : kvs.length ≤ i
  inn : ∀ s, (valV kvs (.inr s)).isSome = true ↔ s ∈ xs.take i
  ix : ∀ s v, valV kvs (.inr s) = some v → ∃ j : Nat, v = .int j ∧ xs[j]? = some s
  nd : (kvs.map (·.1)).Nodup
  ks : ∀ k ∈ kvs.map (·.1), ∃ s ∈ xs, k = Sum.inr s
theorem map_putK {kvs : List (Key × V)} {k : Key} {v : V} (h : (valV kvs k).isSome = true) : (putK kvs k v).map (·.1) = kvs.map (·.1) := by
  unfold putK
  rw [if_pos (by rw [valV_any]; exact h), List.map_map]
  refine List.map_congr_left fun p _ => ?_
  show (if p.1 = k then (p.1, v) else p).1 = p.1
  split <;> rfl
theorem PlN.step {H H' : Hp} {d p : Addr} {xs : List Str} {i : Nat} {kvs : List (Key × V)} {t : Str} {o : HO} (h : PlN H H' d xs i kvs) (hd : H d = none) (hp : H' p = none) (ht : xs[i]? = some t) :
    PlN H (upd (upd H' p o) d (.dK (putK kvs (.inr t) (.int (i : Nat))))) d xs (i + 1) (putK kvs (.inr t) (.int (i : Nat))) := by
  refine ⟨?_, upd_same, ?_, ?_, ?_, ?_, ?_⟩
  · intro b o hb
    rw [upd_ne (ne_of_none hb hd)]
    exact Same.new hp _ _ (h.sm _ _ hb)
  · have := length_putK kvs (.inr t) (V.int (i : Nat))
    have := h.len
    omega
  · intro s
    rw [valV_put, List.take_add_one, ht, List.mem_append]
    by_cases q : s = t
    · subst q
      simp
    · rw [if_neg (fun z => q (Sum.inr.inj z)), h.inn s]
      simp [q]
  · intro s v e
    rw [valV_put] at e
    by_cases q : s = t
    · subst q
      rw [if_pos rfl] at e
      exact ⟨i, (Option.some.inj e).symm, ht⟩
    · rw [if_neg (fun z => q (Sum.inr.inj z))] at e
      exact h.ix s v e
  · cases q : valV kvs (.inr t) with
    | none => exact nd_putK _ h.nd q
    | some v => rw [map_putK (by rw [q]; rfl)]; exact h.nd
  · intro k hk
    cases q : valV kvs (.inr t) with
    | none =>
      rw [putK_new _ q, List.map_append] at hk
      rcases List.mem_append.mp hk with hk | hk
      · exact h.ks k hk
      · have : k = Sum.inr t := by simpa using hk
        exact ⟨t, List.mem_of_getElem? ht, this⟩
    | some v => rw [map_putK (by rw [q]; rfl)] at hk; exact h.ks k hk
theorem ok_placesX {f : Addr} {fd : FuncData} (F : Fun K "places_of" "places_of" sPlaces f fd) (B : Blt mg) : FnOk P w K mg base CX0 1 f fd ["things"] spPlacesX := by
  refine F.ok scPlaces (fun vs H Q E h => ?_) (fun cdv A outer s H vs Q E hr h => ?_)
  · obtain ⟨x, rfl, _⟩ := h
    rfl
  · obtain ⟨x, rfl, h⟩ := h
    have nd := scPlaces.nd
    cases h with
    | @nm a xs _ ha hl k =>
      refine ⟨_, (pss_cons (ps_set (i := 1) nd rfl (Or.inl rfl) pe_dnewK)
      (pss_cons (ps_for PassesOwn.never rfl (pi_enumX K rfl B.enumerate (pa_cons (pv 0) pa_nil)) (pg_tupK (n := 2) K rfl (pgs_cons (pg_name (i := 2) nd rfl (Or.inl rfl)) (pgs_cons (pg_name (i := 3) nd rfl (Or.inl rfl)) pgs_nil))) (pss_one (ps_asg (pv 2) (pg_sub (pv 1) (pv 3) (set_X hr.units)))))
      (pss_one (ps_ret (pv 1))))), ?_⟩
      intro d hd
      have s0 := Same.new (o := .dK []) hd
      have start : PlN H (upd H d (.dK [])) d xs 0 [] := ⟨s0, upd_same, Nat.le_refl _, (fun s => by simp [valV_nil]), (fun s v e => by cases e), List.nodup_nil, (fun k hk => by cases hk)⟩
      rcases ha with ha | ha
      · refine ⟨_, rfl, _, rfl, .lst (.of (s0 _ _ ha)) ?_⟩
        refine for_enum (xs := List.map V.str xs) (fun i σ H' => ∃ o1 o2 kvs, σ = [some (.ref a), some (.ref d), o1, o2] ∧ PlN H H' d xs i kvs) ?_ ?_ ?_ ?_
        · exact ⟨none, none, [], rfl, start⟩
        · rintro i σ H' hi ⟨o1, o2, kvs, rfl, pl⟩
          exact .of (pl.sm _ _ ha)
        · rintro i x σ H' p hx ⟨o1, o2, kvs, rfl, pl⟩ hp
          obtain ⟨t, ht, rfl⟩ := str_get hx
          have hil := (List.getElem?_eq_some_iff.mp ht).1
          have hdp : d ≠ p := ne_of_none pl.at_ hp
          have := pl.len
          refine ⟨p, _, rfl, .of upd_same, rfl, _, _, rfl, _, _, rfl, rfl, ?_⟩
          exact ⟨_, rfl, _, rfl, _, rfl, .dic (DPut.k (k := .inr t) (by rw [upd_ne hdp]; exact pl.at_) (small1000 (by omega))) ⟨_, _, _, rfl, pl.step hd hp ht⟩⟩
        · rintro σ H' ⟨o1, o2, kvs, rfl, pl⟩
          have hin := pl.inn
          rw [List.length_map, List.take_of_length_le (Nat.le_refl _)] at hin
          exact ⟨_, rfl, k d kvs H' pl.sm hd pl.at_ hin pl.ix pl.nd pl.ks⟩
      · refine ⟨_, rfl, _, rfl, .tup (.of (s0 _ _ ha)) ?_⟩
        refine for_enumT (xs := List.map V.str xs) (fun i σ H' => ∃ o1 o2 kvs, σ = [some (.ref a), some (.ref d), o1, o2] ∧ PlN H H' d xs i kvs) ?_ ?_ ?_ ?_
        · exact ⟨none, none, [], rfl, start⟩
        · rintro i σ H' hi ⟨o1, o2, kvs, rfl, pl⟩
          exact .of (pl.sm _ _ ha)
        · rintro i x σ H' p hx ⟨o1, o2, kvs, rfl, pl⟩ hp
          obtain ⟨t, ht, rfl⟩ := str_get hx
          have hil := (List.getElem?_eq_some_iff.mp ht).1
          have hdp : d ≠ p := ne_of_none pl.at_ hp
          have := pl.len
          refine ⟨p, _, rfl, .of upd_same, rfl, _, _, rfl, _, _, rfl, rfl, ?_⟩
          exact ⟨_, rfl, _, rfl, _, rfl, .dic (DPut.k (k := .inr t) (by rw [upd_ne hdp]; exact pl.at_) (small1000 (by omega))) ⟨_, _, _, rfl, pl.step hd hp ht⟩⟩
        · rintro σ H' ⟨o1, o2, kvs, rfl, pl⟩
          have hin := pl.inn
          rw [List.length_map, List.take_of_length_le (Nat.le_refl _)] at hin
          exact ⟨_, rfl, k d kvs H' pl.sm hd pl.at_ hin pl.ix pl.nd pl.ks⟩
    | @pr a refs ps _ ha rp hl k =>
      refine ⟨_, (pss_cons (ps_set (i := 1) nd rfl (Or.inl rfl) pe_dnewT)
      (pss_cons (ps_for PassesOwn.never rfl (pi_enumX K rfl B.enumerate (pa_cons (pv 0) pa_nil)) (pg_tupK (n := 2) K rfl (pgs_cons (pg_name (i := 2) nd rfl (Or.inl rfl)) (pgs_cons (pg_name (i := 3) nd rfl (Or.inl rfl)) pgs_nil))) (pss_one (ps_asg (pv 2) (pg_sub (pv 1) (pv 3) (set_X hr.units)))))
      (pss_one (ps_ret (pv 1))))), ?_⟩
      have rlen := rp.len
      rw [List.length_map] at rlen
      intro d hd
      have s0 := Same.new (o := .dT []) hd
      have turn : ∀ (i : Nat) (e : Str × Str) (ta p : Addr) (H' : Hp) (kvs : List (List Key × V)), Same H H' → H' d = some (.dT kvs) → kvs.length ≤ i → i < ps.length → (∀ f : Str × Str, (valV kvs (pK f)).isSome = true ↔ f ∈ ps.take i) → ps[i]? = some e → H' p = none →
          Same H (upd (upd H' p (.tup [.int (i : Nat), .ref ta])) d (.dT (putK kvs (pK e) (.int (i : Nat))))) ∧ (putK kvs (pK e) (V.int (i : Nat))).length ≤ i + 1 ∧ ∀ f : Str × Str, (valV (putK kvs (pK e) (V.int (i : Nat))) (pK f)).isSome = true ↔ f ∈ ps.take (i + 1) := by
        intro i e ta p H' kvs sm hk hkl hi hin he hp
        refine ⟨?_, ?_, fun f => ?_⟩
        · intro b o hb
          rw [upd_ne (ne_of_none hb hd)]
          exact Same.new hp _ _ (sm _ _ hb)
        · have := length_putK kvs (pK e) (V.int (i : Nat))
          omega
        · rw [valV_put, List.take_add_one, he, List.mem_append]
          by_cases q : f = e
          · subst q; simp
          · rw [if_neg (fun z => q (pK_inj z)), hin f]
            simp [q]
      rcases ha with ha | ha
      · refine ⟨_, rfl, _, rfl, .lst (.of (s0 _ _ ha)) ?_⟩
        refine for_enum (xs := refs) (fun i σ H' => ∃ o1 o2 kvs, σ = [some (.ref a), some (.ref d), o1, o2] ∧ Same H H' ∧ H' d = some (.dT kvs) ∧ kvs.length ≤ i ∧ ∀ f : Str × Str, (valV kvs (pK f)).isSome = true ↔ f ∈ ps.take i) ?_ ?_ ?_ ?_
        · exact ⟨none, none, [], rfl, s0, upd_same, Nat.le_refl _, fun s => by simp [valV_nil]⟩
        · rintro i σ H' hi ⟨o1, o2, kvs, rfl, sm, _⟩
          exact .of (sm _ _ ha)
        · rintro i x σ H' p hx ⟨o1, o2, kvs, rfl, sm, hk, hkl, hin⟩ hp
          obtain ⟨e, ta, he, rfl, hta⟩ := pair_get (rp.same sm) hx
          have hil := (List.getElem?_eq_some_iff.mp he).1
          have hdp : d ≠ p := ne_of_none hk hp
          obtain ⟨g1, g2, g3⟩ := turn i e ta p H' kvs sm hk hkl hil hin he hp
          refine ⟨p, _, rfl, .of upd_same, rfl, _, _, rfl, _, _, rfl, rfl, ?_⟩
          exact ⟨_, rfl, _, rfl, _, rfl, .dic (DPut.t (k := pK e) (by rw [upd_ne hdp]; exact hk) (Same.new hp _ _ hta) (small1000 (by omega))) ⟨_, _, _, rfl, g1, upd_same, g2, g3⟩⟩
        · rintro σ H' ⟨o1, o2, kvs, rfl, sm, hk, hkl, hin⟩
          rw [rlen, List.take_of_length_le (Nat.le_refl _)] at hin
          exact ⟨_, rfl, k d kvs H' sm hd hk hin⟩
      · refine ⟨_, rfl, _, rfl, .tup (.of (s0 _ _ ha)) ?_⟩
        refine for_enumT (xs := refs) (fun i σ H' => ∃ o1 o2 kvs, σ = [some (.ref a), some (.ref d), o1, o2] ∧ Same H H' ∧ H' d = some (.dT kvs) ∧ kvs.length ≤ i ∧ ∀ f : Str × Str, (valV kvs (pK f)).isSome = true ↔ f ∈ ps.take i) ?_ ?_ ?_ ?_
        · exact ⟨none, none, [], rfl, s0, upd_same, Nat.le_refl _, fun s => by simp [valV_nil]⟩
        · rintro i σ H' hi ⟨o1, o2, kvs, rfl, sm, _⟩
          exact .of (sm _ _ ha)
        · rintro i x σ H' p hx ⟨o1, o2, kvs, rfl, sm, hk, hkl, hin⟩ hp
          obtain ⟨e, ta, he, rfl, hta⟩ := pair_get (rp.same sm) hx
          have hil := (List.getElem?_eq_some_iff.mp he).1
          have hdp : d ≠ p := ne_of_none hk hp
          obtain ⟨g1, g2, g3⟩ := turn i e ta p H' kvs sm hk hkl hil hin he hp
          refine ⟨p, _, rfl, .of upd_same, rfl, _, _, rfl, _, _, rfl, rfl, ?_⟩
          exact ⟨_, rfl, _, rfl, _, rfl, .dic (DPut.t (k := pK e) (by rw [upd_ne hdp]; exact hk) (Same.new hp _ _ hta) (small1000 (by omega))) ⟨_, _, _, rfl, g1, upd_same, g2, g3⟩⟩
        · rintro σ H' ⟨o1, o2, kvs, rfl, sm, hk, hkl, hin⟩
          rw [rlen, List.take_of_length_le (Nat.le_refl _)] at hin
          exact ⟨_, rfl, k d kvs H' sm hd hk hin⟩
end
end K56
namespace K56
open PySem L2
section
variable {P : Program} {w : World} {K : PySem.W.Frag} {mg : Str → Option Value} {base : Heap}
theorem scIsName : FnScope ["thing"] ["thing"] (defScope sIsName) := ⟨rfl, rfl, rfl, by decide +kernel, rfl, by decide +kernel, by decide +kernel⟩
theorem ok_isname {f : Addr} {fd : FuncData} {tk : Tok} (F : Fun K "is_name" "is_name" sIsName f fd) (B : Blt mg) (T : mg "MOST_SIGNS" = some (.int 8 tk)) : FnOk P w K mg base CX0 1 f fd ["thing"] spIsName := by
  refine F.ok scIsName (fun vs H Q E h => ?_) (fun cdv A outer s H vs Q E hr h => ?_)
  · obtain ⟨x, rfl, _⟩ := h
    rfl
  · obtain ⟨x, rfl, hx, k⟩ := h
    have nd := scIsName.nd
    obtain ⟨t, ty, t1, _⟩ := ty_thg (K := K) hx
    refine ⟨_, (pss_cons (ps_if (pt_not (pt_val (b_isi K "str" B (pa_cons (pv 0) (pa_cons (g_str B) pa_nil))))) (pss_one (ps_ret pe_bl)) pss_nil)
      (pss_cons (ps_if (PW.pt (pw_or (pt_cmpR op_ltX (b_len K B (pa_cons (pv 0) pa_nil)) pe_int (nomark _)) (pw_or1 (pt_cmpR op_gt (b_len K B (pa_cons (pv 0) pa_nil)) (pe_glob (v := .int 8) rfl T ⟨_, rfl⟩) (nomark _))))) (pss_one (ps_ret pe_bl)) pss_nil)
      (pss_one (ps_ret (b_all rfl B (pa_cons (pe_comp (defScope sIsName) ["thing"] ["sign"] [] ["sign"] rfl (pi_str (pv 0)) (fun _ _ _ _ _ => (pg_name (i := 0) (show (["sign"] : List Str).Nodup by decide) rfl (Or.inl rfl))) (fun _ _ _ _ _ => pts_nil) (fun _ _ _ _ _ => (pe_chain op_leX op_leX pe_str (pv 0) pe_str))) pa_nil)))))), ?_⟩
    refine ⟨_, rfl, x, t, _, rfl, ty, t1, _, rfl, ?_⟩
    refine ite2 (fun hn => ?_) (fun hn => ?_)
    · have e : isNm x = false := by cases x <;> first | rfl | (simp [isS] at hn)
      have q := k H (Same.refl H)
      rw [e] at q
      exact q
    · obtain ⟨z, rfl⟩ : ∃ z, x = .str z := by cases x <;> first | exact ⟨_, rfl⟩ | (simp [isS] at hn)
      have hzz : z.length ≤ sizeLine := by
        cases hx with
        | str h => exact h
      refine ⟨_, rfl, _, _, rfl, ⟨hzz, rfl⟩, .int ⟨_, rfl, ?_⟩⟩
      refine ite2 (fun h1 => ?_) (fun h1 => ?_)
      · refine iteT ?_
        have q := k H (Same.refl H)
        have h1 : (z.length : Int) < 1 := of_decide_eq_true h1
        have e : isNm (.str z) = false := by
          show (decide (1 ≤ z.length) && _) = false
          rw [decide_eq_false (by omega)]; rfl
        rw [e] at q
        exact q
      · have h1 : ¬ (z.length : Int) < 1 := of_decide_eq_false (by simpa using h1)
        refine ⟨_, rfl, _, _, rfl, ⟨hzz, rfl⟩, _, _, rfl, rfl, _, rfl, ?_⟩
        refine ite2 (fun h2 => ?_) (fun h2 => ?_)
        · have q := k H (Same.refl H)
          have h2 : (8 : Int) < z.length := of_decide_eq_true h2
          have e : isNm (.str z) = false := by
            show (decide (1 ≤ z.length) && (decide (z.length ≤ 8) && _)) = false
            rw [decide_eq_false (show ¬ z.length ≤ 8 by omega), Bool.false_and, Bool.and_false]
          rw [e] at q
          exact q
        · have h2 : ¬ (8 : Int) < z.length := of_decide_eq_false (by simpa using h2)
          have e : isNm (.str z) = z.cps.toList.all isLow := by
            show (decide (1 ≤ z.length) && (decide (z.length ≤ 8) && _)) = _
            rw [decide_eq_true (show 1 ≤ z.length by omega), decide_eq_true (show z.length ≤ 8 by omega), Bool.true_and, Bool.true_and]
          refine ⟨_, rfl, z, rfl, ?_⟩
          refine comp_str (fun D i acc σ' H' => ∃ o, σ' = [o] ∧ acc = (z.cps.toList.take i).map (fun c => V.bl (isLow c)) ∧ Same H H' ∧ H D = none) fun D hD => ⟨⟨none, rfl, rfl, Same.new hD, hD⟩, ?_, ?_⟩
          · rintro i acc σ' H' c hc ⟨o, rfl, rfl, sm, hD0⟩ hacc
            refine gYes ?_
            have sg : ∀ b : Bool, b = isLow c → (H' D = some (.lst ((z.cps.toList.take i).map (fun c => V.bl (isLow c)))) ∧ ((z.cps.toList.take i).map (fun c => V.bl (isLow c))).length < sizeLine ∧
                (∃ o, [some (V.str ⟨#[c]⟩)] = [o] ∧ (z.cps.toList.take i).map (fun c => V.bl (isLow c)) ++ [V.bl b] = (z.cps.toList.take (i + 1)).map (fun c => V.bl (isLow c)) ∧ Same H (upd H' D (.lst ((z.cps.toList.take i).map (fun c => V.bl (isLow c)) ++ [V.bl b]))) ∧ H D = none)) := fun b hb => by
              refine ⟨hacc, ?_, _, rfl, ?_, ?_, hD0⟩
              · rw [List.length_map]
                refine small1000 ?_
                have := List.length_take_le' i z.cps.toList
                have h2' : z.length ≤ 8 := by omega
                have hl : z.cps.toList.length = z.length := by simp [Str.length]
                omega
              · rw [List.take_add_one, hc, List.map_append, hb]; rfl
              · intro b' o' e'
                rw [upd_ne (ne_of_none e' hD0)]
                exact sm b' o' e'
            refine ⟨_, rfl, .str ⟨_, rfl, ?_⟩⟩
            have e1 : (!decide ((⟨#[c]⟩ : Str).cps.toList < ("a" : Str).cps.toList)) = decide (97 ≤ c) := by
              show (!decide ([c] < [97])) = _
              rw [lt_one]
              by_cases hh : c < 97
              · rw [decide_eq_true hh, decide_eq_false (by omega)]; rfl
              · rw [decide_eq_false hh, decide_eq_true (by omega)]; rfl
            have e2 : (!decide (("z" : Str).cps.toList < (⟨#[c]⟩ : Str).cps.toList)) = decide (c ≤ 122) := by
              show (!decide ([122] < [c])) = _
              rw [lt_one]
              by_cases hh : 122 < c
              · rw [decide_eq_true hh, decide_eq_false (by omega)]; rfl
              · rw [decide_eq_false hh, decide_eq_true (by omega)]; rfl
            rw [e1]
            refine ite2 (fun h3 => ?_) (fun h3 => ?_)
            · refine .str (sg _ ?_)
              rw [e2]
              unfold isLow
              rw [h3, Bool.true_and]
            · refine sg false ?_
              unfold isLow
              have h3 : decide (97 ≤ c) = false := by simpa using h3
              rw [h3, Bool.false_and]
          · rintro acc σ' H' ⟨o, rfl, rfl, sm, hD0⟩ hacc
            rw [List.take_of_length_le (Nat.le_refl _)] at hacc
            refine ⟨D, z.cps.toList.map isLow, rfl, by rw [List.map_map]; exact hacc, ?_⟩
            have q := k H' sm
            rw [e] at q
            have e4 : (z.cps.toList.map isLow).all id = z.cps.toList.all isLow := by rw [List.all_map]; rfl
            rw [e4]
            exact q
end
end K56
namespace K56
open PySem L2
section
variable {P : Program} {w : World} {K : PySem.W.Frag} {mg : Str → Option Value} {base : Heap}
noncomputable def spUnlike : Sp := fun vs H Q _ => ∃ (a : Addr) (ss : List Str), vs = [.ref a] ∧ SqA H a (List.map V.str ss) ∧ ss.length ≤ 1000 ∧ ∀ H', Same H H' → Q (.bl (decide ss.Nodup)) H'
theorem scUnlike : FnScope ["things"] ["things"] (defScope sUnlike) := ⟨rfl, rfl, rfl, by decide +kernel, rfl, by decide +kernel, by decide +kernel⟩
theorem ok_unlike {f : Addr} {fd : FuncData} (F : Fun K "are_unlike" "are_unlike" sUnlike f fd) (B : Blt mg) (cplaces_of : Cal P w K mg base 1 "places_of" ["things"] spPlacesX) : FnOk P w K mg base CX0 2 f fd ["things"] spUnlike := by
  refine F.ok scUnlike (fun vs H Q E h => ?_) (fun cdv A outer s H vs Q E hr h => ?_)
  · obtain ⟨a, ss, rfl, _⟩ := h
    rfl
  · obtain ⟨a, ss, rfl, ha, hlen, k⟩ := h
    have nd := scUnlike.nd
    refine ⟨_, (pss_one (ps_ret (pe_cmpR (op_eqX hr.units) (b_lenD B (pa_cons (pe_cal cplaces_of (hr.mono (by decide)) rfl (pa_cons (pv 0) pa_nil)) pa_nil)) (b_len K B (pa_cons (pv 0) pa_nil)) (nomark _)))), ?_⟩
    refine ⟨_, rfl, _, rfl, ?_⟩
    refine .nm ha hlen fun d kvs H1 s1 hd0 hd hin hat knd ks => ⟨d, kvs, rfl, hd, _, rfl, _, ss.length, rfl, ?_, .sc rfl ?_⟩
    · have := (SqA.same ha s1).len (K := K)
      rw [List.length_map] at this
      exact this
    · have e := len_kvs knd ks hin
      have e2 : decide (V.int (kvs.length : Nat) = V.int (ss.length : Nat)) = decide ss.Nodup := by
        rw [Bool.eq_iff_iff, decide_eq_true_iff, decide_eq_true_iff, ← e]
        exact ⟨fun z => Int.ofNat.inj (V.int.inj z), fun z => by rw [z]⟩
      show Q (.bl (decide (V.int (kvs.length : Nat) = V.int (ss.length : Nat)))) H1
      rw [e2]
      exact k H1 s1
end
end K56
namespace K56
open PySem L2
section
variable {P : Program} {w : World} {K : PySem.W.Frag} {mg : Str → Option Value} {base : Heap}
open Classical in
noncomputable def dec (P : Prop) : Bool := decide P
open Classical in
theorem dec_t {P : Prop} (h : P) : dec P = true := by unfold dec; exact decide_eq_true h
open Classical in
theorem dec_f {P : Prop} (h : ¬ P) : dec P = false := by unfold dec; exact decide_eq_false h
open Classical in
theorem dec_iff {P : Prop} : dec P = true ↔ P := by unfold dec; exact decide_eq_true_iff
theorem isL_get {H : Hp} {x : V} (h : isL H x = true) : ∃ a us, x = .ref a ∧ H a = some (.lst us) := by
  cases x with
  | ref a =>
    have h : (match H a with | some (.lst _) => true | _ => false) = true := h
    split at h
    · rename_i xs e; exact ⟨a, xs, rfl, e⟩
    · cases h
  | _ => cases h
theorem isT_get {H : Hp} {x : V} (h : isT H x = true) : ∃ a us, x = .ref a ∧ H a = some (.tup us) := by
  cases x with
  | ref a =>
    have h : (match H a with | some (.tup _) => true | _ => false) = true := h
    split at h
    · rename_i xs e; exact ⟨a, xs, rfl, e⟩
    · cases h
  | _ => cases h
theorem isL_keep {H H' : Hp} {x : V} (h : Thg H x) (s : Same H H') : isL H' x = isL H x ∧ isT H' x = isT H x := by
  cases h with
  | non => exact ⟨rfl, rfl⟩
  | bl b => exact ⟨rfl, rfl⟩
  | int i => exact ⟨rfl, rfl⟩
  | str z => exact ⟨rfl, rfl⟩
  | lst e => exact ⟨by rw [isL_of e, isL_of (s _ _ e)], by rw [isT_not e (fun _ z => by cases z), isT_not (s _ _ e) (fun _ z => by cases z)]⟩
  | tup e => exact ⟨by rw [isL_not e (fun _ z => by cases z), isL_not (s _ _ e) (fun _ z => by cases z)], by rw [isT_of e, isT_of (s _ _ e)]⟩
  | dK e => exact ⟨by rw [isL_not e (fun _ z => by cases z), isL_not (s _ _ e) (fun _ z => by cases z)], by rw [isT_not e (fun _ z => by cases z), isT_not (s _ _ e) (fun _ z => by cases z)]⟩
  | dT e => exact ⟨by rw [isL_not e (fun _ z => by cases z), isL_not (s _ _ e) (fun _ z => by cases z)], by rw [isT_not e (fun _ z => by cases z), isT_not (s _ _ e) (fun _ z => by cases z)]⟩
theorem thg_obj {H H' : Hp} {a : Addr} (h : Thg H (.ref a)) (s : Same H H') : H' a = H a := by
  cases h with
  | lst e => rw [e, s _ _ e]
  | tup e => rw [e, s _ _ e]
  | dK e => rw [e, s _ _ e]
  | dT e => rw [e, s _ _ e]
noncomputable def Rw (G : Hp → V → Prop) (H : Hp) (x : V) : Prop := Thg H x ∧ ∀ a ys, x = .ref a → SqA H a ys → ys.length ≤ 1000 ∧ ∀ y ∈ ys, G H y
theorem mono_thg : Mono Thg := fun _ _ _ s h => h.same s
theorem Rw.same {G : Hp → V → Prop} {H H' : Hp} {x : V} (mo : Mono G) (h : Rw G H x) (s : Same H H') : Rw G H' x := ⟨h.1.same s, fun a ys e q => by
  subst e
  unfold SqA at q
  rw [thg_obj h.1 s] at q
  obtain ⟨l, k⟩ := h.2 a ys rfl q
  exact ⟨l, fun y hy => mo _ _ _ s (k y hy)⟩⟩
theorem mono_rw {G : Hp → V → Prop} (mo : Mono G) : Mono (Rw G) := fun _ _ _ s h => h.same mo s
theorem Rw.imp {G G' : Hp → V → Prop} {H : Hp} {x : V} (h : Rw G H x) (i : ∀ y, G H y → G' H y) : Rw G' H x := ⟨h.1, fun a ys e q => ⟨(h.2 a ys e q).1, fun y hy => i y ((h.2 a ys e q).2 y hy)⟩⟩
theorem nms_of : ∀ {ys : List V}, ys.all isNm = true → ∃ ss : List Str, ys = List.map V.str ss ∧ ∀ s ∈ ss, Nm s
  | [], _ => ⟨[], rfl, fun _ h => by cases h⟩
  | y :: ys, h => by
    rw [List.all_cons, Bool.and_eq_true] at h
    obtain ⟨ss, rfl, k⟩ := nms_of h.2
    cases y with
    | str z => exact ⟨z :: ss, rfl, fun s hs => (List.mem_cons.mp hs).elim (fun e => by rw [e]; exact isNm_iff.mp h.1) (k s)⟩
    | _ => cases h.1
theorem strs_inj {xs ys : List Str} (h : List.map V.str xs = List.map V.str ys) : xs = ys := by
  induction xs generalizing ys with
  | nil => cases ys with
    | nil => rfl
    | cons y r => cases h
  | cons x r ih => cases ys with
    | nil => cases h
    | cons y q =>
      obtain ⟨a, b⟩ := List.cons.inj h
      rw [V.str.inj a, ih b]
theorem sq_uniq {H : Hp} {a : Addr} {xs ys : List V} (h : SqA H a xs) (k : SqA H a ys) : xs = ys := by
  rcases h with h | h <;> rcases k with k | k <;> rw [h] at k <;> cases k <;> rfl
noncomputable def Unm (H : Hp) (x : V) (ss : List Str) : Prop := ∃ a, x = .ref a ∧ SqA H a (List.map V.str ss) ∧ ss.Nodup ∧ ∀ s ∈ ss, Nm s
theorem Unm.same {H H' : Hp} {x : V} {ss : List Str} (h : Thg H x) (s : Same H H') : Unm H' x ss ↔ Unm H x ss := by
  constructor
  · rintro ⟨a, rfl, q, r⟩
    unfold SqA at q
    rw [thg_obj h s] at q
    exact ⟨a, rfl, q, r⟩
  · rintro ⟨a, rfl, q, r⟩
    exact ⟨a, rfl, q.same s, r⟩
noncomputable def spUNmG : Sp := fun vs H Q _ => ∃ x, vs = [x] ∧ Rw Thg H x ∧ ∀ H', Same H H' → Q (.bl (dec (∃ ss, Unm H x ss))) H'
theorem sq_at {H H' : Hp} {a : Addr} {xs : List V} (h : SqA H a xs) (s : Same H H') : H' a = H a := by
  rcases h with h | h <;> rw [h, s _ _ h]
theorem scUNm : FnScope ["things"] ["things"] (defScope sUNm) := ⟨rfl, rfl, rfl, by decide +kernel, rfl, by decide +kernel, by decide +kernel⟩
theorem ok_unmG {f : Addr} {fd : FuncData} (F : Fun K "are_unlike_names" "are_unlike_names" sUNm f fd) (B : Blt mg) (cis_name : Cal P w K mg base 1 "is_name" ["thing"] spIsName) (care_unlike : Cal P w K mg base 2 "are_unlike" ["things"] spUnlike) : FnOk P w K mg base CX0 3 f fd ["things"] spUNmG := by
  refine F.ok scUNm (fun vs H Q E h => ?_) (fun cdv A outer s H vs Q E hr h => ?_)
  · obtain ⟨x, rfl, _⟩ := h
    rfl
  · obtain ⟨x, rfl, tx, k⟩ := h
    have nd := scUNm.nd
    by_cases hl : isL H x = true ∨ isT H x = true
    · obtain ⟨a, ys, rfl, ha⟩ : ∃ a ys, x = .ref a ∧ SqA H a ys := hl.elim (fun h => let ⟨a, ys, e, q⟩ := isL_get h; ⟨a, ys, e, .inl q⟩) (fun h => let ⟨a, ys, e, q⟩ := isT_get h; ⟨a, ys, e, .inr q⟩)
      obtain ⟨yl, yth⟩ := tx.2 a ys rfl ha
      have no : ys.all isNm = false → dec (∃ ss, Unm H (.ref a) ss) = false := fun h => dec_f fun ⟨ss, b, e, q, _, nm⟩ => by
        cases e
        rw [sq_uniq ha q, List.all_eq_true.mpr fun v hv => by
          obtain ⟨z, hz, rfl⟩ := List.mem_map.mp hv
          exact isNm_iff.mpr (nm z hz)] at h
        cases h
      have yes : ∀ ss, ys = List.map V.str ss → (∀ s ∈ ss, Nm s) → dec (∃ ss, Unm H (.ref a) ss) = decide ss.Nodup := fun ss e nm => by
        subst e
        rw [Bool.eq_iff_iff, dec_iff, decide_eq_true_iff]
        constructor
        · rintro ⟨ss', b, e, q, h, _⟩
          cases e
          rw [strs_inj (sq_uniq ha q)]; exact h
        · intro h
          exact ⟨ss, a, rfl, ha, h, nm⟩
      refine ⟨_, (pss_cons (ps_if (pt_not (pt_val (b_isi2 K "list" "tuple" B (pa_cons (pv 0) (pa_cons (pe_tup (pa_cons (g_list B) (pa_cons (g_tuple B) pa_nil))) pa_nil))))) (pss_one (ps_ret pe_bl)) pss_nil)
      (pss_one (ps_ret (pe_and (b_all rfl B (pa_cons (pe_comp (defScope sUNm) ["things"] ["thing"] [] ["thing"] rfl (pi_seqK K (pv 0)) (fun _ _ _ _ _ => (pg_name (i := 0) (show (["thing"] : List Str).Nodup by decide) rfl (Or.inl rfl))) (fun _ _ _ _ _ => pts_nil) (fun _ _ _ _ _ => (pe_cal cis_name (hr.mono (by decide)) rfl (pa_cons (pv 0) pa_nil)))) pa_nil)) (pe_one (pe_cal care_unlike (hr.mono (by decide)) rfl (pa_cons (pv 0) pa_nil))))))), ?_⟩
      refine ⟨_, rfl, (by show 2 ≤ sizeLine; decide), fun tp htp => ?_⟩
      have s0 := Same.new (o := .tup [V.ty "list", V.ty "tuple"]) htp
      have A0 : SqA (upd H tp (.tup [V.ty "list", V.ty "tuple"])) a ys := SqA.same ha s0
      obtain ⟨t, ty, _, _, _, t4, t5⟩ := ty_thg (K := K) A0.thg
      have kl := kit_lt t4 t5
      rw [A0.lt] at kl
      refine ⟨_, tp, t, _, rfl, upd_same, ty, kl, _, rfl, ?_⟩
      refine ite2 (fun h => absurd h (by decide)) (fun _ => ?_)
      generalize upd H tp (.tup [V.ty "list", V.ty "tuple"]) = H0 at s0 A0 ⊢
      refine ⟨_, rfl, a, rfl, ?_⟩
      refine comp_seq ys (fun D i acc σ' H' => ∃ o, σ' = [o] ∧ acc = List.map V.bl ((ys.take i).map isNm) ∧ Same H0 H' ∧ H0 D = none) A0 fun D hD => ⟨?_, ?_, ?_, ?_⟩
      · exact ⟨none, rfl, rfl, Same.new hD, hD⟩
      · rintro i acc σ' H' _ ⟨o, rfl, _, sm, _⟩ _
        exact sq_at A0 sm
      · rintro i acc σ' H' x hx ⟨o, rfl, rfl, sm, hD0⟩ hacc
        have hil := (List.getElem?_eq_some_iff.mp hx).1
        refine gYes ?_
        refine ⟨_, rfl, _, rfl, ((yth x (List.mem_of_getElem? hx)).same s0).same sm, fun H2 s2 => ?_⟩
        exact ⟨s2 _ _ hacc, by rw [List.length_map, List.length_map, List.length_take]; exact small1000 (by omega), _, rfl, by rw [List.take_add_one, hx, List.map_append, List.map_append]; rfl, same_at (sm.trans s2) hD0, hD0⟩
      · rintro acc σ' H2 ⟨o, rfl, rfl, s2, hD0⟩ hacc
        rw [List.take_of_length_le (Nat.le_refl _)] at hacc
        refine ⟨D, ys.map isNm, rfl, hacc, _, rfl, ?_⟩
        have e : (ys.map isNm).all id = ys.all isNm := by rw [List.all_map]; rfl
        rw [e]
        refine ite2 (fun h => ?_) (fun h => ?_)
        · obtain ⟨ss, es, nm⟩ := nms_of h
          rw [yes ss es nm] at k
          subst es
          rw [List.length_map] at yl
          exact ⟨_, rfl, a, ss, rfl, A0.same s2, yl, fun H3 s3 => k H3 ((s0.trans s2).trans s3)⟩
        · have h : ys.all isNm = false := by simpa using h
          rw [no h] at k
          exact k _ (s0.trans s2)
    · refine ⟨_, (pss_cons (ps_if (pt_not (pt_val (b_isi2 K "list" "tuple" B (pa_cons (pv 0) (pa_cons (pe_tup (pa_cons (g_list B) (pa_cons (g_tuple B) pa_nil))) pa_nil))))) (pss_one (ps_ret pe_bl)) pss_nil)
      (pss_one (ps_ret (pe_and (b_all rfl B (pa_cons (pe_comp (defScope sUNm) ["things"] ["thing"] [] ["thing"] rfl (pi_seqK K (pv 0)) (fun _ _ _ _ _ => (pg_name (i := 0) (show (["thing"] : List Str).Nodup by decide) rfl (Or.inl rfl))) (fun _ _ _ _ _ => pts_nil) (fun _ _ _ _ _ => (pe_cal cis_name (hr.mono (by decide)) rfl (pa_cons (pv 0) pa_nil)))) pa_nil)) (pe_one (pe_cal care_unlike (hr.mono (by decide)) rfl (pa_cons (pv 0) pa_nil))))))), ?_⟩
      have h1 : isL H x = false := by cases c : isL H x with | true => exact absurd (.inl c) hl | false => rfl
      have h2 : isT H x = false := by cases c : isT H x with | true => exact absurd (.inr c) hl | false => rfl
      refine ⟨_, rfl, (by show 2 ≤ sizeLine; decide), fun tp htp => ?_⟩
      have s0 := Same.new (o := .tup [V.ty "list", V.ty "tuple"]) htp
      obtain ⟨t, ty, _, _, _, t4, t5⟩ := ty_thg (K := K) (tx.1.same s0)
      have kl := kit_lt t4 t5
      rw [(isL_keep tx.1 s0).1, (isL_keep tx.1 s0).2, h1, h2] at kl
      refine ⟨_, tp, t, _, rfl, upd_same, ty, kl, _, rfl, iteT ?_⟩
      have e : dec (∃ ss, Unm H x ss) = false := dec_f fun ⟨ss, a, e, q, _⟩ => by
        subst e
        rcases q with q | q
        · rw [isL_of q] at h1; cases h1
        · rw [isT_of q] at h2; cases h2
      rw [e] at k
      exact k _ s0
end
end K56
namespace K56
open PySem L2
section
variable {P : Program} {w : World} {K : PySem.W.Frag} {mg : Str → Option Value} {base : Heap}
theorem at0 {α : Type} {y : α} {r : List α} : atI (y :: r) 0 = some y := atI_nat (j := 0) rfl
theorem at1 {α : Type} {x y : α} {r : List α} : atI (x :: y :: r) 1 = some y := atI_nat (j := 1) rfl
noncomputable def Hd : Nat → Hp → V → Prop
  | 0, H, x => Thg H x
  | n + 1, H, x => Rw (Hd n) H x
theorem Hd.mono : ∀ n, Mono (Hd n)
  | 0 => mono_thg
  | n + 1 => mono_rw (Hd.mono n)
theorem Hd.thg : ∀ {n : Nat} {H : Hp} {x : V}, Hd n H x → Thg H x
  | 0, _, _, h => h
  | _ + 1, _, _, h => h.1
theorem Hd.less : ∀ {n : Nat} {H : Hp} {x : V}, Hd (n + 1) H x → Hd n H x
  | 0, _, _, h => h.1
  | _ + 1, _, _, h => Rw.imp h fun _ => Hd.less
noncomputable def tupO (H : Hp) : V → Option (List V)
  | .ref a => match H a with | some (.tup xs) => some xs | _ => none
  | _ => none
noncomputable def seqO (H : Hp) : V → Option (List V)
  | .ref a => match H a with | some (.tup xs) => some xs | some (.lst xs) => some xs | _ => none
  | _ => none
noncomputable def hwB (H : Hp) (x : V) : Bool := match tupO H x with | some (.str _ :: _) => true | _ => false
noncomputable def membB (H : Hp) (x : V) : Bool := dec (∃ ss, Unm H x ss ∧ ss ≠ [])
noncomputable def partB (H : Hp) (s : Str) (x : V) : Bool :=
  if s = "members" then membB H x else if s = "word" then decide (x = .str "first") || decide (x = .str "last") else if s = "knot" ∧ x = .str "" then true else isNm x
noncomputable def partsA : List (Str × List Str) := [("thing", ["name", "knot"]), ("tie", ["name", "name"]), ("wait", ["name", "name"]), ("untie", ["name", "name"]), ("drop", ["name"]), ("group", ["name", "members"]), ("open", ["name"]), ("want", ["word", "name"]), ("unwant", ["word", "name"])]
noncomputable def sortsOf (w : Str) : Option (List Str) := partsA.lookup w
noncomputable def sgB (H : Hp) (w : Str) (ps : List V) : Bool := match sortsOf w with
  | some ss => decide (ps.length = ss.length) && (ss.zip ps).all fun e => partB H e.1 e.2
  | none => false
noncomputable def singleB (H : Hp) (x : V) : Bool := match tupO H x with | some (.str w :: ps) => sgB H w ps | _ => false
noncomputable def manyL (H : Hp) (w : Str) : List V → Option (List V)
  | [y] => if w = "many" then seqO H y else none
  | _ => none
noncomputable def manyO (H : Hp) (x : V) : Option (List V) := match tupO H x with | some (.str w :: ps) => manyL H w ps | _ => none
noncomputable def deedB : Nat → Hp → V → Bool
  | 0, H, x => match manyO H x with | some _ => false | none => singleB H x
  | n + 1, H, x => match manyO H x with | some ys => ys.all (deedB n H) | none => singleB H x
theorem tupO_of {H : Hp} {a : Addr} {xs : List V} (h : H a = some (.tup xs)) : tupO H (.ref a) = some xs := by show (match H a with | some (.tup xs) => some xs | _ => none) = some xs; rw [h]
theorem tupO_get {H : Hp} {x : V} {xs : List V} (h : tupO H x = some xs) : ∃ a, x = .ref a ∧ H a = some (.tup xs) := by
  cases x with
  | ref a =>
    have h : (match H a with | some (.tup xs) => some xs | _ => none) = some xs := h
    split at h
    · rename_i ys e; cases h; exact ⟨a, rfl, e⟩
    · cases h
  | _ => cases h
theorem tupO_T {H : Hp} {x : V} : tupO H x = none ↔ isT H x = false := by
  cases x with
  | ref a =>
    show (match H a with | some (.tup xs) => some xs | _ => none) = none ↔ (match H a with | some (.tup _) => true | _ => false) = false
    split <;> simp
  | _ => exact ⟨fun _ => rfl, fun _ => rfl⟩
theorem seqO_get {H : Hp} {x : V} {xs : List V} (h : seqO H x = some xs) : ∃ a, x = .ref a ∧ SqA H a xs := by
  cases x with
  | ref a =>
    have h : (match H a with | some (.tup xs) => some xs | some (.lst xs) => some xs | _ => none) = some xs := h
    split at h
    · rename_i ys e; cases h; exact ⟨a, rfl, .inr e⟩
    · rename_i ys e; cases h; exact ⟨a, rfl, .inl e⟩
    · cases h
  | _ => cases h
theorem seqO_LT {H : Hp} {x : V} : (seqO H x).isSome = (isL H x || isT H x) := by
  cases x with
  | ref a =>
    show ((match H a with | some (.tup xs) => some xs | some (.lst xs) => some xs | _ => none) : Option (List V)).isSome = ((match H a with | some (.lst _) => true | _ => false) || (match H a with | some (.tup _) => true | _ => false))
    cases e : H a with
    | none => rfl
    | some o => cases o <;> rfl
  | _ => rfl
theorem tupO_same {H H' : Hp} {x : V} (h : Thg H x) (s : Same H H') : tupO H' x = tupO H x := by
  cases x with
  | ref a => show (match H' a with | some (.tup xs) => some xs | _ => none) = (match H a with | some (.tup xs) => some xs | _ => none); rw [thg_obj h s]
  | _ => rfl
theorem seqO_same {H H' : Hp} {x : V} (h : Thg H x) (s : Same H H') : seqO H' x = seqO H x := by
  cases x with
  | ref a => show (match H' a with | some (.tup xs) => some xs | some (.lst xs) => some xs | _ => none) = (match H a with | some (.tup xs) => some xs | some (.lst xs) => some xs | _ => none); rw [thg_obj h s]
  | _ => rfl
theorem Hd.tup {n : Nat} {H : Hp} {x : V} {xs : List V} (h : Hd (n + 1) H x) (e : tupO H x = some xs) : xs.length ≤ 1000 ∧ ∀ y ∈ xs, Hd n H y := by
  obtain ⟨a, rfl, q⟩ := tupO_get e
  exact h.2 a xs rfl (.inr q)
theorem Hd.seq {n : Nat} {H : Hp} {x : V} {xs : List V} (h : Hd (n + 1) H x) (e : seqO H x = some xs) : xs.length ≤ 1000 ∧ ∀ y ∈ xs, Hd n H y := by
  obtain ⟨a, rfl, q⟩ := seqO_get e
  exact h.2 a xs rfl q
theorem membB_same {H H' : Hp} {x : V} (h : Thg H x) (s : Same H H') : membB H' x = membB H x := by
  unfold membB
  rw [Bool.eq_iff_iff, dec_iff, dec_iff]
  exact ⟨fun ⟨ss, a, b⟩ => ⟨ss, (Unm.same h s).mp a, b⟩, fun ⟨ss, a, b⟩ => ⟨ss, (Unm.same h s).mpr a, b⟩⟩
theorem partB_same {H H' : Hp} {x : V} (h : Thg H x) (s : Same H H') (w : Str) : partB H' w x = partB H w x := by
  unfold partB
  rw [membB_same h s]
theorem all_same {α : Type} {xs : List α} {f g : α → Bool} (h : ∀ x ∈ xs, f x = g x) : xs.all f = xs.all g := by
  rw [Bool.eq_iff_iff, List.all_eq_true, List.all_eq_true]
  exact ⟨fun k x hx => by rw [← h x hx]; exact k x hx, fun k x hx => by rw [h x hx]; exact k x hx⟩
theorem singleB_same {H H' : Hp} {x : V} (h : Hd 1 H x) (s : Same H H') : singleB H' x = singleB H x := by
  unfold singleB
  rw [tupO_same h.thg s]
  split
  · rename_i w ps e
    unfold sgB
    split
    · congr 1
      refine all_same fun e' he' => ?_
      exact partB_same ((h.tup e).2 _ (List.mem_cons_of_mem _ (List.of_mem_zip he').2)).thg s _
    · rfl
  · rfl
theorem manyL_same {H H' : Hp} {w : Str} {ps : List V} (h : ∀ y ∈ ps, Thg H y) (s : Same H H') : manyL H' w ps = manyL H w ps := by
  unfold manyL
  split
  · rename_i y
    rw [seqO_same (h y (by simp)) s]
  · rfl
theorem manyO_same {H H' : Hp} {x : V} (h : Hd 1 H x) (s : Same H H') : manyO H' x = manyO H x := by
  unfold manyO
  rw [tupO_same h.thg s]
  split
  · rename_i w ps e
    exact manyL_same (fun y hy => ((h.tup e).2 y (List.mem_cons_of_mem _ hy)).thg) s
  · rfl
theorem Hd.many {n : Nat} {H : Hp} {x : V} {ys : List V} (h : Hd (n + 2) H x) (e : manyO H x = some ys) : ys.length ≤ 1000 ∧ ∀ y ∈ ys, Hd n H y := by
  unfold manyO at e
  split at e
  · rename_i w ps e2
    unfold manyL at e
    split at e
    · rename_i y
      split at e
      · exact ((h.tup e2).2 y (by simp)).seq e
      · cases e
    · cases e
  · cases e
theorem Hd.one : ∀ {n : Nat} {H : Hp} {x : V}, Hd (n + 1) H x → Hd 1 H x
  | 0, _, _, h => h
  | _ + 1, _, _, h => Hd.one h.less
theorem Hd.two : ∀ {n : Nat} {H : Hp} {x : V}, Hd (n + 2) H x → Hd 2 H x
  | 0, _, _, h => h
  | _ + 1, _, _, h => Hd.two h.less
theorem deedB_same : ∀ {n : Nat} {H H' : Hp} {x : V}, Hd (2 * n + 2) H x → Same H H' → deedB n H' x = deedB n H x
  | 0, H, H', x, h, s => by unfold deedB; rw [manyO_same h.one s, singleB_same h.one s]
  | n + 1, H, H', x, h, s => by
    unfold deedB
    rw [manyO_same h.one s, singleB_same h.one s]
    split
    · rename_i ys e
      exact all_same fun y hy => deedB_same ((Hd.many (n := 2 * n + 2) h e).2 y hy) s
    · rfl
theorem gYes2 {x : V} {q : Addr} {u v : V} {σ : St} {H : Hp} {A B : St → Hp → Prop} (hx : x = .ref q) (hq : SqT K H q [u, v]) (h : A ((σ.set 0 (some u)).set 1 (some v)) H) :
    gTup K 2 (gCons (gName 0) (gCons (gName 1) gNil)) x σ H fun σ2 H3 => tYes σ2 H3 fun b H4 => if b = true then A σ2 H4 else B σ2 H4 := by
  subst hx
  refine ⟨q, _, rfl, hq, rfl, _, _, rfl, _, _, rfl, rfl, ?_⟩
  show (if true = true then A ((σ.set 0 (some u)).set 1 (some v)) H else B ((σ.set 0 (some u)).set 1 (some v)) H)
  rw [if_pos rfl]
  exact h
end
end K56
namespace K56
open PySem L2
section
variable {P : Program} {w : World} {K : PySem.W.Frag} {mg : Str → Option Value} {base : Heap}
noncomputable def spHW : Sp := fun vs H Q _ => ∃ x, vs = [x] ∧ Hd 1 H x ∧ Q (.bl (hwB H x)) H
theorem scHW : FnScope ["thing"] ["thing"] (defScope sHasWord) := ⟨rfl, rfl, rfl, by decide +kernel, rfl, by decide +kernel, by decide +kernel⟩
theorem ok_hw {f : Addr} {fd : FuncData} (F : Fun K "has_word" "has_word" sHasWord f fd) (B : Blt mg) : FnOk P w K mg base CX0 1 f fd ["thing"] spHW := by
  refine F.ok scHW (fun vs H Q E h => ?_) (fun cdv A outer s H vs Q E hr h => ?_)
  · obtain ⟨x, rfl, _⟩ := h
    rfl
  · obtain ⟨x, rfl, hx, k⟩ := h
    have nd := scHW.nd
    obtain ⟨t, ty, _, _, _, _, t5⟩ := ty_thg (K := K) hx.thg
    refine ⟨_, (pss_one (ps_ret (pe_and (b_isi K "tuple" B (pa_cons (pv 0) (pa_cons (g_tuple B) pa_nil))) (pe_and (pe_cmpR op_gt (b_len K B (pa_cons (pv 0) pa_nil)) pe_int (nomark _)) (pe_one (b_isi K "str" B (pa_cons (pe_ix (ix_X K hr.units) (pv 0) pe_int (fun _ _ => rfl)) (pa_cons (g_str B) pa_nil)))))))), ?_⟩
    refine ⟨_, rfl, _, t, _, rfl, ty, t5, _, rfl, ?_⟩
    unfold hwB at k
    refine ite2 (fun h => ?_) (fun h => ?_)
    · obtain ⟨a, xs, rfl, e⟩ := isT_inv h
      rw [tupO_of e] at k
      refine ⟨_, rfl, _, _, rfl, Or.inr ⟨_, .of e, rfl⟩, _, _, rfl, rfl, _, rfl, ?_⟩
      cases xs with
      | nil => exact ite2 (fun h => absurd h (by decide)) fun _ => k
      | cons y r =>
        refine ite2 (fun _ => ?_) (fun h => absurd (by show decide ((0 : Int) < ((r.length + 1 : Nat) : Int)) = true; rw [decide_eq_true_iff]; omega) h)
        have ty2 := ((hx.tup (tupO_of e)).2 y (by simp)).thg
        obtain ⟨t', ty', t1, _⟩ := ty_thg (K := K) ty2
        refine ⟨_, rfl, .tup (.of e) at0 ⟨_, t', _, rfl, ty', t1, ?_⟩⟩
        cases y with
        | str z => exact k
        | _ => exact k
    · rw [tupO_T.mpr (by simpa using h)] at k
      exact k
noncomputable def spIM : Sp := fun vs H Q _ => ∃ x, vs = [x] ∧ Hd 2 H x ∧ ∀ H', Same H H' → Q (.bl (manyO H x).isSome) H'
theorem scIM : FnScope ["thing"] ["thing"] (defScope sIsMany) := ⟨rfl, rfl, rfl, by decide +kernel, rfl, by decide +kernel, by decide +kernel⟩
theorem hw_get {H : Hp} {x : V} (h : hwB H x = true) : ∃ a w ps, x = .ref a ∧ H a = some (.tup (.str w :: ps)) := by
  unfold hwB at h
  split at h
  · rename_i w ps e
    obtain ⟨a, rfl, q⟩ := tupO_get e
    exact ⟨a, w, ps, rfl, q⟩
  · cases h
theorem hw_no {H : Hp} {x : V} (h : hwB H x = false) : manyO H x = none ∧ singleB H x = false := by
  unfold hwB at h
  unfold manyO singleB
  split at h
  · cases h
  · rename_i n
    exact ⟨rfl, rfl⟩
theorem ok_im {f : Addr} {fd : FuncData} (F : Fun K "is_many" "is_many" sIsMany f fd) (B : Blt mg) (chas_word : Cal P w K mg base 1 "has_word" ["thing"] spHW) : FnOk P w K mg base CX0 2 f fd ["thing"] spIM := by
  refine F.ok scIM (fun vs H Q E h => ?_) (fun cdv A outer s H vs Q E hr h => ?_)
  · obtain ⟨x, rfl, _⟩ := h
    rfl
  · obtain ⟨x, rfl, hx, k⟩ := h
    have nd := scIM.nd
    refine ⟨_, (pss_cons (ps_if (PW.pt (pw_or (pt_not (pt_val (pe_cal chas_word (hr.mono (by decide)) rfl (pa_cons (pv 0) pa_nil)))) (pw_or (pt_cmpR (op_neX hr.units) (pe_ix (ix_X K hr.units) (pv 0) pe_int (fun _ _ => rfl)) pe_str (nomark _)) (pw_or1 (pt_cmpR (op_neX hr.units) (b_len K B (pa_cons (pv 0) pa_nil)) pe_int (nomark _)))))) (pss_one (ps_ret pe_bl)) pss_nil)
      (pss_one (ps_ret (b_isi2 K "list" "tuple" B (pa_cons (pe_ix (ix_X K hr.units) (pv 0) pe_int (fun _ _ => rfl)) (pa_cons (pe_tup (pa_cons (g_list B) (pa_cons (g_tuple B) pa_nil))) pa_nil)))))), ?_⟩
    refine ⟨_, rfl, x, rfl, hx.less, _, rfl, ?_⟩
    cases hw : hwB H x with
    | false =>
      rw [(hw_no hw).1] at k
      exact iteT (iteT (k H (Same.refl H)))
    | true =>
      obtain ⟨a, w, ps, rfl, e⟩ := hw_get hw
      refine iteF ?_
      have em : manyO H (.ref a) = manyL H w ps := by unfold manyO; rw [tupO_of e]
      have hp := (hx.tup (tupO_of e))
      rw [em] at k
      refine ⟨_, rfl, .tup (.of e) at0 (.sc rfl ⟨_, rfl, ?_⟩)⟩
      refine ite2 (fun h => ?_) (fun h => ?_)
      · have : manyL H w ps = none := by
          unfold manyL
          split
          · rw [if_neg fun z => ?_]
            rw [z] at h
            exact absurd h (by decide)
          · rfl
        rw [this] at k
        exact iteT (k H (Same.refl H))
      · have hw2 : w = "many" := by
          have h : ¬ (!decide (V.str w = V.str "many")) = true := h
          simp at h
          exact h
        subst hw2
        refine ⟨_, rfl, _, _, rfl, Or.inr ⟨_, .of e, rfl⟩, .sc rfl ⟨_, rfl, ?_⟩⟩
        refine ite2 (fun h => ?_) (fun h => ?_)
        · have h : (!decide (V.int (((V.str "many" :: ps).length : Nat) : Int) = V.int 2)) = true := h
          have : manyL H "many" ps = none := by
            unfold manyL
            split
            · exact absurd h (by simp)
            · rfl
          rw [this] at k
          exact k H (Same.refl H)
        · have h : ¬ (!decide (V.int (((V.str "many" :: ps).length : Nat) : Int) = V.int 2)) = true := h
          have pl : ps.length = 1 := by
            simp at h
            omega
          obtain ⟨y, rfl⟩ := List.length_eq_one_iff.mp pl
          have ek : manyL H "many" [y] = seqO H y := by show (if ("many" : Str) = "many" then seqO H y else none) = seqO H y; rw [if_pos rfl]
          rw [ek, seqO_LT] at k
          refine ⟨_, rfl, .tup (.of e) at1 ⟨(by show 2 ≤ sizeLine; decide), fun tp htp => ?_⟩⟩
          have s0 := Same.new (o := .tup [V.ty "list", V.ty "tuple"]) htp
          have ty0 := (hp.2 y (by simp)).thg
          obtain ⟨t, ty, _, _, _, t4, t5⟩ := ty_thg (K := K) (ty0.same s0)
          have kl := kit_lt t4 t5
          rw [(isL_keep ty0 s0).1, (isL_keep ty0 s0).2] at kl
          exact ⟨_, tp, t, _, rfl, upd_same, ty, kl, k _ s0⟩
end
end K56
namespace K56
open PySem L2
section
variable {P : Program} {w : World} {K : PySem.W.Frag} {mg : Str → Option Value} {base : Heap}
noncomputable def spPart : Sp := fun vs H Q _ => ∃ s x, vs = [.str s, x] ∧ Hd 1 H x ∧ ∀ H', Same H H' → Q (.bl (partB H s x)) H'
theorem scPart : FnScope ["sort", "part"] ["sort", "part"] (defScope sIsPart) := ⟨rfl, rfl, rfl, by decide +kernel, rfl, by decide +kernel, by decide +kernel⟩
theorem dec_str {a b : Str} : decide (V.str a = V.str b) = decide (a = b) := by
  rw [Bool.eq_iff_iff, decide_eq_true_iff, decide_eq_true_iff]
  exact ⟨V.str.inj, fun h => by rw [h]⟩
theorem isS_get {x : V} (h : isS x = true) : ∃ z, x = .str z := by
  cases x with
  | str z => exact ⟨z, rfl⟩
  | _ => cases h
theorem ok_part {f W : Addr} {fd : FuncData} (F : Fun K "is_part" "is_part" sIsPart f fd) (B : Blt mg) (TW : mg "WORDS" = some (.ref W)) (KW : ∀ H, SqT K H W [.str "first", .str "last"])
    (care_unlike_names : Cal P w K mg base 3 "are_unlike_names" ["things"] spUNmG) (cis_name : Cal P w K mg base 1 "is_name" ["thing"] spIsName) : FnOk P w K mg base CX0 4 f fd ["sort", "part"] spPart := by
  refine F.ok scPart (fun vs H Q E h => ?_) (fun cdv A outer s H vs Q E hr h => ?_)
  · obtain ⟨s, x, rfl, _⟩ := h
    rfl
  · obtain ⟨z, x, rfl, hx, k⟩ := h
    have nd := scPart.nd
    obtain ⟨t, ty, t1, _⟩ := ty_thg (K := K) hx.thg
    refine ⟨_, (pss_cons (ps_if (pt_cmpR (op_eqX hr.units) (pv 0) pe_str (nomark _)) (pss_one (ps_ret (pe_and (pe_cal care_unlike_names (hr.mono (by decide)) rfl (pa_cons (pv 1) pa_nil)) (pe_one (pe_cmpR op_gt (b_len K B (pa_cons (pv 1) pa_nil)) pe_int (nomark _)))))) pss_nil)
      (pss_cons (ps_if (pt_cmpR (op_eqX hr.units) (pv 0) pe_str (nomark _)) (pss_one (ps_ret (pe_and (b_isi K "str" B (pa_cons (pv 1) (pa_cons (g_str B) pa_nil))) (pe_one (pe_cmpR (op_inX K hr.units) (pv 1) (pe_glob (v := .ref W) rfl TW rfl) (by with_unfolding_all rfl)))))) pss_nil)
      (pss_cons (ps_if (PW.pt (pw_and (pt_cmpR (op_eqX hr.units) (pv 0) pe_str (nomark _)) (pw_and (pt_val (b_isi K "str" B (pa_cons (pv 1) (pa_cons (g_str B) pa_nil)))) (pw_and1 (pt_cmpR (op_eqX hr.units) (pv 1) pe_str (nomark _)))))) (pss_one (ps_ret pe_bl)) pss_nil)
      (pss_one (ps_ret (pe_cal cis_name (hr.mono (by decide)) rfl (pa_cons (pv 1) pa_nil))))))), ?_⟩
    refine ⟨_, rfl, .sc rfl ⟨_, rfl, ite2 (fun h => ?_) (fun h => ?_)⟩⟩
    · have ez : z = "members" := by
        have h : decide (V.str z = V.str "members") = true := h
        rw [dec_str] at h
        exact of_decide_eq_true h
      subst ez
      have ek : partB H "members" x = membB H x := by unfold partB; rw [if_pos rfl]
      rw [ek] at k
      unfold membB at k
      refine ⟨_, rfl, x, rfl, hx, fun H1 s1 => ⟨_, rfl, ite2 (fun h => ?_) (fun h => ?_)⟩⟩
      · obtain ⟨ss, a, rfl, hA, snd, snm⟩ := dec_iff.mp h
        refine ⟨_, rfl, _, _, rfl, (SqA.same hA s1).len, _, _, rfl, rfl, ?_⟩
        have e : dec (∃ ss, Unm H (.ref a) ss ∧ ss ≠ []) = decide ((0 : Int) < (((List.map V.str ss).length : Nat) : Int)) := by
          rw [Bool.eq_iff_iff, dec_iff, decide_eq_true_iff, List.length_map]
          constructor
          · rintro ⟨ss', ⟨b, e, q, _⟩, l⟩
            cases e
            rw [strs_inj (sq_uniq hA q)]
            cases ss' with
            | nil => exact absurd rfl l
            | cons x r => show (0 : Int) < ((r.length + 1 : Nat) : Int); omega
          · intro l
            exact ⟨ss, ⟨a, rfl, hA, snd, snm⟩, fun z => by rw [z] at l; exact absurd l (by decide)⟩
        have z := k H1 s1
        rw [e] at z
        exact z
      · rw [dec_f fun ⟨ss, q, _⟩ => h (dec_t ⟨ss, q⟩)] at k
        exact k H1 s1
    · have n1 : z ≠ "members" := fun e => h (by rw [e]; rfl)
      refine ⟨_, rfl, .sc rfl ⟨_, rfl, ite2 (fun h => ?_) (fun h => ?_)⟩⟩
      · have ez : z = "word" := by
          have h : decide (V.str z = V.str "word") = true := h
          rw [dec_str] at h
          exact of_decide_eq_true h
        subst ez
        have ek : partB H "word" x = (decide (x = .str "first") || decide (x = .str "last")) := by unfold partB; rw [if_neg n1, if_pos rfl]
        rw [ek] at k
        refine ⟨_, rfl, _, t, _, rfl, ty, t1, _, rfl, ite2 (fun h => ?_) (fun h => ?_)⟩
        · obtain ⟨y, rfl⟩ := isS_get h
          refine ⟨_, rfl, .seq (.inr (KW H)) rfl rfl ?_⟩
          have z := k H (Same.refl H)
          have e : inV (V.str y) [V.str "first", V.str "last"] = (decide (V.str y = .str "first") || decide (V.str y = .str "last")) := by
            show inV (V.str y) (List.map V.str ["first", "last"]) = _
            rw [in_strs, dec_str, dec_str, Bool.eq_iff_iff, decide_eq_true_iff, Bool.or_eq_true, decide_eq_true_iff, decide_eq_true_iff]
            simp
          rw [e]
          exact z
        · have h : isS x = false := by simpa using h
          have e1 : decide (x = .str "first") = false := decide_eq_false fun e => by rw [e] at h; cases h
          have e2 : decide (x = .str "last") = false := decide_eq_false fun e => by rw [e] at h; cases h
          rw [e1, e2] at k
          exact k H (Same.refl H)
      · have n2 : z ≠ "word" := fun e => h (by rw [e]; rfl)
        have ek : partB H z x = if z = "knot" ∧ x = .str "" then true else isNm x := by unfold partB; rw [if_neg n1, if_neg n2]
        rw [ek] at k
        have fin : ¬ (z = "knot" ∧ x = .str "") → spIsName [x] H Q E0 := fun n => ⟨x, rfl, hx.thg, fun H' s' => by have z := k H' s'; rw [if_neg n] at z; exact z⟩
        refine ⟨_, rfl, .sc rfl ⟨_, rfl, ite2 (fun h => ?_) (fun h => ?_)⟩⟩
        · have ez : z = "knot" := by
            have h : decide (V.str z = V.str "knot") = true := h
            rw [dec_str] at h
            exact of_decide_eq_true h
          refine ⟨_, rfl, _, t, _, rfl, ty, t1, _, rfl, ite2 (fun h => ?_) (fun h => ?_)⟩
          · obtain ⟨y, rfl⟩ := isS_get h
            refine ⟨_, rfl, .sc rfl ⟨_, rfl, ite2 (fun h => ?_) (fun h => ?_)⟩⟩
            · have ey : V.str y = .str "" := of_decide_eq_true h
              have z := k H (Same.refl H)
              rw [if_pos ⟨ez, ey⟩] at z
              exact z
            · exact ⟨_, rfl, fin fun e => h (decide_eq_true e.2)⟩
          · refine iteF ⟨_, rfl, fin fun e => h (by rw [e.2]; rfl)⟩
        · exact iteF ⟨_, rfl, fin fun e => h (by rw [e.1]; rfl)⟩
structure PK (P : Program) (w : World) (K : PySem.W.Frag) (D0 : Addr) (vs : List (Key × Value)) : Prop where
  kd : KD P w K D0 vs
  at_ : ∀ w ss, sortsOf w = some ss → ∃ a, valueAt vs (.inr w) = some (.ref a) ∧ ∀ H, SqT K H a (List.map V.str ss)
  no : ∀ w, sortsOf w = none → valueAt vs (.inr w) = none
theorem sorts_few {w : Str} {ss : List Str} (h : sortsOf w = some ss) : ss.length ≤ 2 := by
  unfold sortsOf at h
  have : ∀ (l : List (Str × List Str)), (∀ e ∈ l, e.2.length ≤ 2) → l.lookup w = some ss → ss.length ≤ 2 := by
    intro l
    induction l with
    | nil => intro _ h; cases h
    | cons e r ih =>
      intro a h
      rw [List.lookup_cons] at h
      split at h
      · cases h; exact a e (by simp)
      · exact ih (fun e he => a e (List.mem_cons_of_mem _ he)) h
  exact this partsA (by decide) h
theorem cut_tl {x : V} {xs : List V} : cutV (x :: xs) (some 1) none = xs := by
  exact cutV_from (x :: xs) 1
theorem cut_no {x : V} {xs : List V} : ¬ (HT.sIx (x :: xs).length 0 (some 1) = 0 ∧ HT.sIx (x :: xs).length (x :: xs).length none = (x :: xs).length) := fun h => by
  have h := h.1
  have e : HT.sIx (x :: xs).length 0 (some ((1 : Nat) : Int)) = min 1 (x :: xs).length := HT.sIx_nat _ _ _
  have h : HT.sIx (x :: xs).length 0 (some ((1 : Nat) : Int)) = 0 := h
  rw [e, List.length_cons] at h
  omega
noncomputable def spSing : Sp := fun vs H Q _ => ∃ x, vs = [x] ∧ Hd 2 H x ∧ ∀ H', Same H H' → Q (.bl (singleB H x)) H'
theorem scSing : FnScope ["thing", "sorts"] ["thing"] (defScope sIsSingle) := ⟨rfl, rfl, rfl, by decide +kernel, rfl, by decide +kernel, by decide +kernel⟩
theorem ok_sing {f D0 : Addr} {fd : FuncData} {vs : List (Key × Value)} (F : Fun K "is_single" "is_single" sIsSingle f fd) (B : Blt mg) (Zz : mg "zip" = none) (TP : mg "PARTS" = some (.ref D0)) (PP : PK P w K D0 vs)
    (chas_word : Cal P w K mg base 1 "has_word" ["thing"] spHW) (cis_part : Cal P w K mg base 4 "is_part" ["sort", "part"] spPart) : FnOk P w K mg base CX0 5 f fd ["thing"] spSing := by
  refine F.ok scSing (fun vs H Q E h => ?_) (fun cdv A outer s H vs Q E hr h => ?_)
  · obtain ⟨x, rfl, _⟩ := h
    rfl
  · obtain ⟨x, rfl, hx, k⟩ := h
    have nd := scSing.nd
    have KP := PP.kd
    refine ⟨_, (pss_cons (ps_if (PW.pt (pw_or (pt_not (pt_val (pe_cal chas_word (hr.mono (by decide)) rfl (pa_cons (pv 0) pa_nil)))) (pw_or1 (pt_cmpR (op_notInKD KP) (pe_ix (ix_X K hr.units) (pv 0) pe_int (fun _ _ => rfl)) (pe_glob (v := .ref D0) rfl TP rfl) (by with_unfolding_all rfl))))) (pss_one (ps_ret pe_bl)) pss_nil)
      (pss_cons (ps_set (i := 1) nd rfl (Or.inl rfl) (pe_ix (ix_KD KP) (pe_glob (v := .ref D0) rfl TP rfl) (pe_ix (ix_X K hr.units) (pv 0) pe_int (fun _ _ => rfl)) (fun _ _ => rfl)))
      (pss_cons (ps_if (pt_cmpR (op_neX hr.units) (b_len K B (pa_cons (pv 0) pa_nil)) (pe_op op_addX (b_len K B (pa_cons (pv 1) pa_nil)) pe_int) (nomark _)) (pss_one (ps_ret pe_bl)) pss_nil)
      (pss_one (ps_ret (b_all rfl B (pa_cons (pe_comp (defScope sIsSingle) ["thing", "sorts"] ["sort", "part"] [] ["sort", "part"] rfl (pi_zipTTP K rfl Zz (pa_cons (pv 1) (pa_cons (pe_slice (sl_tupK K) (pv 0) (po_some pe_int) po_none) pa_nil))) (fun _ _ _ _ _ => (pg_tupK (n := 2) K rfl (pgs_cons (pg_name (i := 0) (show (["sort", "part"] : List Str).Nodup by decide) rfl (Or.inl rfl)) (pgs_cons (pg_name (i := 1) (show (["sort", "part"] : List Str).Nodup by decide) rfl (Or.inl rfl)) pgs_nil)))) (fun _ _ _ _ _ => pts_nil) (fun _ _ _ _ _ => (pe_cal cis_part (hr.mono (by decide)) rfl (pa_cons (pv 0) (pa_cons (pv 1) pa_nil))))) pa_nil))))))), ?_⟩
    refine ⟨_, rfl, x, rfl, hx.less, _, rfl, ?_⟩
    cases hw : hwB H x with
    | false =>
      rw [(hw_no hw).2] at k
      exact iteT (iteT (k H (Same.refl H)))
    | true =>
      obtain ⟨a, w, ps, rfl, e⟩ := hw_get hw
      have es : singleB H (.ref a) = sgB H w ps := by unfold singleB; rw [tupO_of e]
      have hp := (hx.tup (tupO_of e))
      rw [es] at k
      unfold sgB at k
      refine iteF ?_
      refine ⟨_, rfl, .tup (.of e) at0 ⟨.inr w, rfl, rfl, _, rfl, ?_⟩⟩
      cases q : sortsOf w with
      | none =>
        rw [PP.no w q]
        rw [q] at k
        exact iteT (k H (Same.refl H))
      | some ss =>
        obtain ⟨b, hv, hS⟩ := PP.at_ w ss q
        rw [q] at k
        have k : ∀ H', Same H H' → Q (.bl (decide (ps.length = ss.length) && (ss.zip ps).all fun e => partB H e.1 e.2)) H' := k
        have few := sorts_few q
        rw [hv]
        refine iteF ?_
        refine ⟨_, rfl, .tup (.of e) at0 ⟨.inr w, .ref b, .ref b, rfl, rfl, hv, rfl, ?_⟩⟩
        refine ⟨_, rfl, _, _, rfl, Or.inr ⟨_, .of e, rfl⟩, _, rfl, _, _, rfl, Or.inr ⟨_, hS H, rfl⟩, .int (.sc rfl ⟨_, rfl, ?_⟩)⟩
        refine ite2 (fun h => ?_) (fun h => ?_)
        · have h : (!decide (V.int (((V.str w :: ps).length : Nat) : Int) = V.int ((((List.map V.str ss).length : Nat) : Int) + 1))) = true := h
          have n : ¬ ps.length = ss.length := fun z => by
            rw [List.length_map, List.length_cons, z] at h
            exact absurd h (by simp)
          have z := k H (Same.refl H)
          rw [decide_eq_false n] at z
          exact z
        · have h : ¬ (!decide (V.int (((V.str w :: ps).length : Nat) : Int) = V.int ((((List.map V.str ss).length : Nat) : Int) + 1))) = true := h
          have n : ps.length = ss.length := by
            rw [List.length_map, List.length_cons] at h
            simp at h
            omega
          rw [decide_eq_true n, Bool.true_and] at k
          refine ⟨_, rfl, _, rfl, _, rfl, a, _, rfl, .of e, cut_no, fun pp hpp => ?_⟩
          rw [cut_tl]
          have s0 := Same.new (o := .tup ps) hpp
          have e1 : (upd H pp (.tup ps)) pp = some (.tup ps) := upd_same
          generalize upd H pp (.tup ps) = H0 at s0 e1 ⊢
          have zl : ((List.map V.str ss).zip ps).length = ss.length := by rw [List.length_zip, List.length_map]; omega
          refine ⟨b, pp, _, _, rfl, hS H0, .of e1, ?_⟩
          refine comp_zipTT (List.map V.str ss) ps (fun D i acc σ' H' => ∃ o1 o2, σ' = [o1, o2] ∧ acc = List.map V.bl (((ss.zip ps).take i).map fun e => partB H e.1 e.2) ∧ Same H0 H' ∧ H0 D = none) fun D hD => ⟨?_, ?_, ?_, ?_⟩
          · exact ⟨none, none, rfl, rfl, Same.new hD, hD⟩
          · rintro i acc σ' H' _ ⟨o1, o2, rfl, _, sm, _⟩ _
            exact ⟨hS H', .of (sm _ _ e1)⟩
          · rintro i acc σ' H' x y p hx ⟨o1, o2, rfl, rfl, sm, hD0⟩ hacc hp0
            obtain ⟨hx1, hx2⟩ := List.getElem?_zip_eq_some.mp hx
            obtain ⟨z, hz, rfl⟩ := str_get hx1
            have hil := (List.getElem?_eq_some_iff.mp hz).1
            have s1 := Same.new (o := .tup [V.str z, y]) hp0
            have hy : Hd 1 H y := hp.2 y (List.mem_cons_of_mem _ (List.mem_of_getElem? hx2))
            have sA := (s0.trans sm).trans s1
            refine gYes2 rfl (.of upd_same) ?_
            refine ⟨_, rfl, _, rfl, z, y, rfl, Hd.mono 1 _ _ _ sA hy, fun H2 s2 => ?_⟩
            rw [partB_same hy.thg sA]
            refine ⟨s2 _ _ (s1 _ _ hacc), by rw [List.length_map, List.length_map, List.length_take]; exact small1000 (by omega), _, _, rfl, ?_, same_at ((sm.trans s1).trans s2) hD0, hD0⟩
            have hz2 : (ss.zip ps)[i]? = some (z, y) := List.getElem?_zip_eq_some.mpr ⟨hz, hx2⟩
            rw [List.take_add_one, hz2, List.map_append, List.map_append]; rfl
          · rintro acc σ' H2 ⟨o1, o2, rfl, rfl, s2, hD0⟩ hacc
            rw [zl, List.take_of_length_le (by rw [List.length_zip]; omega)] at hacc
            refine ⟨D, (ss.zip ps).map fun e => partB H e.1 e.2, rfl, hacc, ?_⟩
            have z := k H2 (s0.trans s2)
            rw [show (ss.zip ps).all (fun e => partB H e.1 e.2) = ((ss.zip ps).map fun e => partB H e.1 e.2).all id by rw [List.all_map]; rfl] at z
            exact z
end
end K56
namespace K56
open PySem L2
section
variable {P : Program} {w : World} {K : PySem.W.Frag} {mg : Str → Option Value} {base : Heap}
noncomputable def spDW (n : Nat) : Sp := fun vs H Q _ => ∃ x, vs = [x, .int (n : Int)] ∧ Hd (2 * n + 2) H x ∧ ∀ H', Same H H' → Q (.bl (deedB n H x)) H'
noncomputable def spDWp : Nat → Sp
  | 0 => fun _ _ _ _ => False
  | n + 1 => spDW n
theorem scDW : FnScope ["thing", "many"] ["thing", "many"] (defScope sIsDeedWithin) := ⟨rfl, rfl, rfl, by decide +kernel, rfl, by decide +kernel, by decide +kernel⟩
theorem many_get {H : Hp} {x : V} {ys : List V} (h : manyO H x = some ys) : ∃ a b, x = .ref a ∧ H a = some (.tup [.str "many", .ref b]) ∧ SqA H b ys := by
  unfold manyO at h
  split at h
  · rename_i w ps e
    unfold manyL at h
    split at h
    · rename_i y
      split at h
      · rename_i ew
        subst ew
        obtain ⟨b, rfl, q⟩ := seqO_get h
        obtain ⟨a, rfl, q2⟩ := tupO_get e
        exact ⟨a, b, rfl, q2, q⟩
      · cases h
    · cases h
  · cases h
theorem ok_dw1 {f : Addr} {fd : FuncData} {n : Nat} (F : Fun K "is_deed_within" "is_deed_within" sIsDeedWithin f fd) (B : Blt mg) (cis_many : Cal P w K mg base 2 "is_many" ["thing"] spIM) (cis_single : Cal P w K mg base 5 "is_single" ["thing"] spSing)
    (cis_deed_within : Cal P w K mg base (n + 5) "is_deed_within" ["thing", "many"] (spDWp n)) : FnOk P w K mg base CX0 (n + 5 + 1) f fd ["thing", "many"] (spDW n) := by
  refine F.ok scDW (fun vs H Q E h => ?_) (fun cdv A outer s H vs Q E hr h => ?_)
  · obtain ⟨x, rfl, _⟩ := h
    rfl
  · obtain ⟨x, rfl, hx, k⟩ := h
    have nd := scDW.nd
    have h5 : 5 ≤ n + 5 := Nat.le_add_left ..
    have h2 : 2 ≤ n + 5 := Nat.le_trans (by decide) h5
    refine ⟨_, (pss_cons (ps_if (pt_not (pt_val (pe_cal cis_many (hr.mono h2) rfl (pa_cons (pv 0) pa_nil)))) (pss_one (ps_ret (pe_cal cis_single (hr.mono h5) rfl (pa_cons (pv 0) pa_nil)))) pss_nil)
      (pss_one (ps_ret (pe_and (pe_cmpR op_gt (pv 1) pe_int (nomark _)) (pe_one (b_all rfl B (pa_cons (pe_comp (defScope sIsDeedWithin) ["thing", "many"] ["deed"] [1] ["deed", "many"] rfl (pi_seqK K (pe_ix (ix_X K hr.units) (pv 0) pe_int (fun _ _ => rfl))) (fun _ _ _ _ _ => (pg_name (i := 0) (show (["deed", "many"] : List Str).Nodup by decide) rfl (Or.inl rfl))) (fun _ _ _ _ _ => pts_nil) (fun _ _ _ _ _ => (pe_cal cis_deed_within (hr.mono (Nat.le_refl _)) rfl (pa_cons (pv 0) (pa_cons (pe_op op_sub (pv 1) pe_int) pa_nil))))) pa_nil))))))), ?_⟩
    refine ⟨_, rfl, x, rfl, hx.two, fun H1 s1 => ⟨_, rfl, ?_⟩⟩
    cases q : manyO H x with
    | none =>
      have ek : deedB n H x = singleB H x := by cases n <;> (unfold deedB; rw [q])
      rw [ek] at k
      refine iteT ⟨_, rfl, x, rfl, Hd.mono 2 _ _ _ s1 hx.two, fun H2 s2 => ?_⟩
      rw [singleB_same hx.one s1]
      exact k H2 (s1.trans s2)
    | some ys =>
      refine iteF ?_
      cases n with
      | zero =>
        have ek : deedB 0 H x = false := by unfold deedB; rw [q]
        rw [ek] at k
        refine ⟨_, rfl, _, _, rfl, rfl, _, rfl, ite2 (fun h => absurd h (by decide)) fun _ => k H1 s1⟩
      | succ n =>
        have ek : deedB (n + 1) H x = ys.all (deedB n H) := by rw [deedB]; rw [q]
        rw [ek] at k
        obtain ⟨yl, yh⟩ := Hd.many (n := 2 * n + 2) hx q
        obtain ⟨a, b, rfl, ha, hb⟩ := many_get q
        refine ⟨_, rfl, _, _, rfl, rfl, _, rfl, ite2 (fun _ => ?_) (fun h => absurd (decide_eq_true (by omega)) h)⟩
        have ha1 := s1 _ _ ha
        have hb1 := SqA.same hb s1
        refine ⟨_, rfl, .tup (.of ha1) at1 ⟨b, rfl, ?_⟩⟩
        refine comp_seq ys (fun D i acc σ' H' => ∃ o, σ' = [o, some (.int ((n + 1 : Nat) : Int))] ∧ acc = List.map V.bl ((ys.take i).map (deedB n H)) ∧ Same H1 H' ∧ H1 D = none) hb1 fun D hD => ⟨?_, ?_, ?_, ?_⟩
        · exact ⟨none, rfl, rfl, Same.new hD, hD⟩
        · rintro i acc σ' H' _ ⟨o, rfl, _, sm, _⟩ _
          exact sq_at hb1 sm
        · rintro i acc σ' H' x hx ⟨o, rfl, rfl, sm, hD0⟩ hacc
          have hil := (List.getElem?_eq_some_iff.mp hx).1
          have hy := yh x (List.mem_of_getElem? hx)
          refine gYes ?_
          refine ⟨_, rfl, _, rfl, _, _, rfl, rfl, x, (by show [x, V.int (((n + 1 : Nat) : Int) - 1)] = _; rw [show ((n + 1 : Nat) : Int) - 1 = (n : Int) by omega]), Hd.mono _ _ _ _ (s1.trans sm) hy, fun H2 s2 => ?_⟩
          rw [deedB_same hy (s1.trans sm)]
          exact ⟨s2 _ _ hacc, by rw [List.length_map, List.length_map, List.length_take]; exact small1000 (by omega), _, rfl, by rw [List.take_add_one, hx, List.map_append, List.map_append]; rfl, same_at (sm.trans s2) hD0, hD0⟩
        · rintro acc σ' H2 ⟨o, rfl, rfl, s2, hD0⟩ hacc
          rw [List.take_of_length_le (Nat.le_refl _)] at hacc
          refine ⟨D, ys.map (deedB n H), rfl, hacc, ?_⟩
          have z := k H2 (s1.trans s2)
          rw [show ys.all (deedB n H) = (ys.map (deedB n H)).all id by rw [List.all_map]; rfl] at z
          exact z
theorem ok_dw {f : Addr} {fd : FuncData} (F : Fun K "is_deed_within" "is_deed_within" sIsDeedWithin f fd) (B : Blt mg) (cis_many : Cal P w K mg base 2 "is_many" ["thing"] spIM) (cis_single : Cal P w K mg base 5 "is_single" ["thing"] spSing)
    (mk : ∀ h sp, FnOk P w K mg base CX0 h f fd ["thing", "many"] sp → Cal P w K mg base h "is_deed_within" ["thing", "many"] sp) : ∀ n, FnOk P w K mg base CX0 (n + 6) f fd ["thing", "many"] (spDW n)
  | 0 => ok_dw1 F B cis_many cis_single (mk 5 _ ⟨fun vs H Q E h => h.elim, fun A outer s H args us' vs Q E hr he hb hv h => h.elim⟩)
  | n + 1 => ok_dw1 F B cis_many cis_single (mk _ _ (ok_dw F B cis_many cis_single mk n))
noncomputable def spDeed : Sp := fun vs H Q _ => ∃ x, vs = [x] ∧ Hd 6 H x ∧ ∀ H', Same H H' → Q (.bl (deedB 2 H x)) H'
theorem scDeed : FnScope ["thing"] ["thing"] (defScope sIsDeed) := ⟨rfl, rfl, rfl, by decide +kernel, rfl, by decide +kernel, by decide +kernel⟩
theorem ok_deed {f : Addr} {fd : FuncData} {tk : Tok} (F : Fun K "is_deed" "is_deed" sIsDeed f fd) (B : Blt mg) (TM : mg "MOST_MANY" = some (.int 2 tk)) (cis_deed_within : Cal P w K mg base 8 "is_deed_within" ["thing", "many"] (spDW 2)) : FnOk P w K mg base CX0 9 f fd ["thing"] spDeed := by
  refine F.ok scDeed (fun vs H Q E h => ?_) (fun cdv A outer s H vs Q E hr h => ?_)
  · obtain ⟨x, rfl, _⟩ := h
    rfl
  · obtain ⟨x, rfl, hx, k⟩ := h
    have nd := scDeed.nd
    refine ⟨_, (pss_one (ps_ret (pe_cal cis_deed_within (hr.mono (by decide)) rfl (pa_cons (pv 0) (pa_cons (pe_glob (v := .int 2) rfl TM ⟨_, rfl⟩) pa_nil))))), ?_⟩
    exact ⟨_, rfl, x, rfl, hx, k⟩
end
end K56
namespace K56
open PySem L2
section
variable {P : Program} {w : World} {K : PySem.W.Frag} {mg : Str → Option Value} {base : Heap}
theorem nil_ {σ : St} {H : Hp} {k : List V → Hp → Prop} (h : k [] H) : tNil σ H k := h
noncomputable abbrev excL : List Str := ["OrderError", "NoDeed"]
noncomputable abbrev excC : List Str := ["OrderError", "NoDeed"]
noncomputable def spBehX (ec : Str → Addr) : Sp := fun vs H _ E => ∃ h x, vs = [h, x] ∧ Hd 6 H x ∧ deedB 2 H x = false ∧ ∀ H', Same H H' → E (.ref (ec "NoDeed")) none H'
theorem scBeh : FnScope ["house", "deed", "left", "single"] ["house", "deed"] (defScope sBehind) := ⟨rfl, rfl, rfl, by decide +kernel, rfl, by decide +kernel, by decide +kernel⟩
theorem ok_behX {f : Addr} {fd : FuncData} {ec : Str → Addr} (F : Fun K "behind" "behind" sBehind f fd) (B : Blt mg) (Er : Errs K mg base ec excL excC) (cis_deed : Cal P w K mg base 9 "is_deed" ["thing"] spDeed) : FnOk P w K mg base (CX1 P w) 10 f fd ["house", "deed"] (spBehX ec) := by
  refine F.okX scBeh (fun vs H Q E h => ?_) (fun cdv A outer s H vs Q E hr h => ?_)
  · obtain ⟨h, x, rfl, _⟩ := h
    rfl
  · obtain ⟨h, x, rfl, hx, hn, k⟩ := h
    have nd := scBeh.nd
    refine ⟨_, (pss_cons (ps_if (pt_not (pt_val (pe_cal cis_deed (hr.mono (by decide)) rfl (pa_cons (pv 1) pa_nil)))) (pss_one (ps_raiseV Er (by decide) (by decide) rfl (pa_cons pe_str pa_nil))) pss_nil)
      pss_never), ?_⟩
    refine ⟨_, rfl, x, rfl, hx, fun H1 s1 => ⟨_, rfl, ?_⟩⟩
    rw [hn]
    exact iteT ⟨by show 1 ≤ sizeLine; decide, k _ s1⟩
noncomputable def spRef : Sp := fun vs H Q _ => ∃ x, vs = [x] ∧ Hd 6 H x ∧ deedB 2 H x = false ∧ ∀ H', Same H H' → Q (.bl true) H'
theorem scRef : FnScope ["_law_thing_here", "_law_caught", "error"] ["_law_thing_here"] (defScope sLawRefused) := ⟨rfl, rfl, rfl, by decide +kernel, rfl, by decide +kernel, by decide +kernel⟩
theorem ok_ref {f : Addr} {fd : FuncData} {ec : Str → Addr} (F : Fun K "_law_refused" "_law_refused" sLawRefused f fd) (B : Blt mg) (Er : Errs K mg base ec excL excC) (xbehind : CalX P w K mg base 10 "behind" ["house", "deed"] (spBehX ec)) : FnOk P w K mg base CX0 11 f fd ["_law_thing_here"] spRef := by
  refine F.ok scRef (fun vs H Q E h => ?_) (fun cdv A outer s H vs Q E hr h => ?_)
  · obtain ⟨x, rfl, _⟩ := h
    rfl
  · obtain ⟨x, rfl, hx, hn, k⟩ := h
    have nd := scRef.nd
    obtain ⟨bmD, xD, hDb, _⟩ := Er.at_ "OrderError" (by decide)
    obtain ⟨bmN, xN, _, hin⟩ := Er.at_ "NoDeed" (by decide)
    refine ⟨_, (pss_cons (ps_set (i := 1) nd rfl (Or.inl rfl) pe_non)
      (pss_cons (ps_tryC (i := 2) xbehind (hr.mono (by decide)) rfl (fun _ => (pa_cons (pe_tup (pa_cons (pe_tup (pa_cons (pe_tup (pa_cons pe_str (pa_cons (pe_tup (pa_cons pe_str (pa_cons pe_str pa_nil))) pa_nil))) pa_nil)) (pa_cons (pe_tup pa_nil) (pa_cons (pe_tup pa_nil) (pa_cons (pe_tup pa_nil) pa_nil))))) (pa_cons (pv 0) pa_nil))) rfl rfl rfl (Er.b "OrderError" (by decide)) xD hDb nd rfl rfl (fun _ _ => (pss_one (ps_set (i := 1) nd rfl (Or.inl rfl) (pv 2)))))
      (pss_one (ps_ret (b_isx K B (pa_cons (pv 1) (pa_cons (pe_glob (v := .ref (ec "NoDeed")) rfl (Er.b "NoDeed" (by decide)) rfl) pa_nil))))))), ?_⟩
    refine ⟨(by show 2 ≤ sizeLine; decide), fun p1 h1 => nil_ ⟨(by show 2 ≤ sizeLine; decide), fun p2 h2 => nil_ ⟨(by show 1 ≤ sizeLine; decide), fun p3 h3 => ?_⟩⟩⟩
    have s1 := Same.new (o := .tup [V.str "a", V.str "tie"]) h1
    have s2 := s1.trans (Same.new (o := .tup [V.str "", V.ref p1]) h2)
    have s3 := s2.trans (Same.new (o := .tup [V.ref p2]) h3)
    refine ⟨(by show 0 ≤ sizeLine; decide), fun p4 h4 => ⟨(by show 0 ≤ sizeLine; decide), fun p5 h5 => ⟨(by show 0 ≤ sizeLine; decide), fun p6 h6 => nil_ ⟨(by show 4 ≤ sizeLine; decide), fun p7 h7 => ?_⟩⟩⟩⟩
    have s4 := s3.trans (Same.new (o := .tup []) h4)
    have s5 := s4.trans (Same.new (o := .tup []) h5)
    have s6 := s5.trans (Same.new (o := .tup []) h6)
    have s7 := s6.trans (Same.new (o := .tup [V.ref p3, V.ref p4, V.ref p5, V.ref p6]) h7)
    refine ⟨_, rfl, _, x, rfl, Hd.mono 6 _ _ _ s7 hx, by rw [deedB_same (n := 2) hx s7]; exact hn, fun H8 s8 => ⟨ec "NoDeed", bmN, rfl, xN, hin, fun a ha => ?_⟩⟩
    have s9 := s8.trans (Same.new (o := xObj a (ec "NoDeed") none) ha)
    refine ⟨_, rfl, ?_⟩
    exact ⟨_, rfl, a, ec "NoDeed", none, _, .ref (ec "NoDeed"), true, rfl, upd_same, Er.f "NoDeed" (by decide), fun v hv => hv, (Er.kit "NoDeed" (by decide) (by decide) "NoDeed" (by decide)).trans (by decide), k _ (s7.trans s9)⟩
end
end K56
namespace K56
open PySem L2
section
variable {P : Program} {w : World} {K : PySem.W.Frag} {mg : Str → Option Value} {base : Heap}
theorem abc_low (c : Nat) : decide (c ∈ ("abcdefghijklmnopqrstuvwxyz" : Str).cps.toList) = isLow c := by
  have e : ("abcdefghijklmnopqrstuvwxyz" : Str).cps.toList = (List.range 26).map (97 + ·) := by decide +kernel
  rw [e, Bool.eq_iff_iff, decide_eq_true_iff]
  unfold isLow
  rw [Bool.and_eq_true, decide_eq_true_iff, decide_eq_true_iff, List.mem_map]
  constructor
  · rintro ⟨a, ha, rfl⟩
    have := List.mem_range.mp ha
    omega
  · intro h
    exact ⟨c - 97, List.mem_range.mpr (by omega), by omega⟩
theorem filt_nil {α : Type} {xs : List α} {f : α → Bool} {g : α → V} : ((xs.filter fun x => !f x).map g).isEmpty = xs.all f := by
  rw [Bool.eq_iff_iff, List.isEmpty_iff, List.map_eq_nil_iff, List.filter_eq_nil_iff, List.all_eq_true]
  exact ⟨fun h x hx => by have := h x hx; simpa using this, fun h x hx => by rw [h x hx]; simp⟩
theorem scLNm : FnScope ["_law_thing_here"] ["_law_thing_here"] (defScope sLawIsName) := ⟨rfl, rfl, rfl, by decide +kernel, rfl, by decide +kernel, by decide +kernel⟩
theorem ok_lnm {f : Addr} {fd : FuncData} (F : Fun K "_law_is_name" "_law_is_name" sLawIsName f fd) (B : Blt mg) : FnOk P w K mg base CX0 1 f fd ["_law_thing_here"] spIsName := by
  refine F.ok scLNm (fun vs H Q E h => ?_) (fun cdv A outer s H vs Q E hr h => ?_)
  · obtain ⟨x, rfl, _⟩ := h
    rfl
  · obtain ⟨x, rfl, hx, k⟩ := h
    have nd := scLNm.nd
    obtain ⟨t, ty, t1, _⟩ := ty_thg (K := K) hx
    refine ⟨_, (pss_cons (ps_if (PW.pt (pw_or (pt_not (pt_val (b_isi K "str" B (pa_cons (pv 0) (pa_cons (g_str B) pa_nil))))) (pw_or1 (pt_not (pt_chain op_leX op_leX pe_int (b_len K B (pa_cons (pv 0) pa_nil)) pe_int))))) (pss_one (ps_ret pe_bl)) pss_nil)
      (pss_one (ps_ret (pe_cmpR (op_eqNil K hr.units) (pe_comp (defScope sLawIsName) ["_law_thing_here"] ["_law_sign"] [] ["_law_sign"] rfl (pi_str (pv 0)) (fun _ _ _ _ _ => (pg_name (i := 0) (show (["_law_sign"] : List Str).Nodup by decide) rfl (Or.inl rfl))) (fun _ _ _ _ _ => (pts_one (pt_cmpR op_notin_str (pv 0) pe_str (by with_unfolding_all rfl)))) (fun _ _ _ _ _ => (pv 0))) (pe_lst pa_nil) (nomark _))))), ?_⟩
    refine ⟨_, rfl, _, t, _, rfl, ty, t1, _, rfl, ?_⟩
    cases hs : isS x with
    | false =>
      have e : isNm x = false := by
        cases x with
        | str z => cases hs
        | _ => rfl
      rw [e] at k
      exact iteT (iteT (k H (Same.refl H)))
    | true =>
      obtain ⟨z, rfl⟩ := isS_get hs
      have zl : z.length ≤ sizeLine := by cases hx with | str h => exact h
      have ek : isNm (.str z) = (decide (1 ≤ z.length) && (decide (z.length ≤ 8) && z.cps.toList.all isLow)) := rfl
      rw [ek] at k
      refine iteF ?_
      refine ⟨_, rfl, _, _, rfl, ⟨zl, rfl⟩, .int ⟨_, rfl, ?_⟩⟩
      cases c1 : decide (1 ≤ z.length) with
      | false =>
        have c1 : decide ((1 : Int) ≤ ((z.length : Nat) : Int)) = false := decide_eq_false fun h => of_decide_eq_false c1 (by omega)
        rw [c1]
        refine iteF ⟨_, rfl, iteT ?_⟩
        rename_i c0
        rw [c0] at k
        exact k H (Same.refl H)
      | true =>
        have c2 : decide ((1 : Int) ≤ ((z.length : Nat) : Int)) = true := decide_eq_true (by have := of_decide_eq_true c1; omega)
        rw [c2]
        rw [c1, Bool.true_and] at k
        refine iteT (.int ⟨_, rfl, ?_⟩)
        cases c3 : decide (z.length ≤ 8) with
        | false =>
          have c4 : decide (((z.length : Nat) : Int) ≤ 8) = false := decide_eq_false fun h => of_decide_eq_false c3 (by omega)
          rw [c4]
          rw [c3] at k
          exact iteT (k H (Same.refl H))
        | true =>
          have z8 := of_decide_eq_true c3
          have c4 : decide (((z.length : Nat) : Int) ≤ 8) = true := decide_eq_true (by omega)
          rw [c4]
          rw [c3, Bool.true_and] at k
          refine iteF ?_
          refine ⟨_, rfl, z, rfl, ?_⟩
          refine comp_str (fun D i acc σ' H' => ∃ o, σ' = [o] ∧ acc = ((z.cps.toList.take i).filter fun c => !isLow c).map (fun c => V.str ⟨#[c]⟩) ∧ Same H H' ∧ H D = none) fun D hD => ⟨?_, ?_, ?_⟩
          · exact ⟨none, rfl, rfl, Same.new hD, hD⟩
          · rintro i acc σ' H' c hc ⟨o, rfl, rfl, sm, hD0⟩ hacc
            have hil := (List.getElem?_eq_some_iff.mp hc).1
            have fl : (((z.cps.toList.take i).filter fun c => !isLow c).map (fun c => V.str ⟨#[c]⟩)).length ≤ 8 := by
              rw [List.length_map]
              refine Nat.le_trans (List.length_filter_le ..) ?_
              rw [List.length_take]
              have : z.cps.toList.length = z.length := by rw [Array.length_toList]; rfl
              omega
            refine ⟨_, rfl, _, _, rfl, rfl, _, rfl, ?_⟩
            rw [StrLaws.found_one, abc_low]
            have tk : (z.cps.toList.take (i + 1)).filter (fun c => !isLow c) = (z.cps.toList.take i).filter (fun c => !isLow c) ++ if (!isLow c) = true then [c] else [] := by
              rw [List.take_add_one, hc, List.filter_append]
              cases q : isLow c <;> simp [q]
            refine ite2 (fun h => ?_) (fun h => ?_)
            · rw [if_pos h] at tk
              refine ⟨_, rfl, hacc, Nat.lt_of_le_of_lt fl (by decide), _, rfl, ?_, same_at sm hD0, hD0⟩
              rw [tk, List.map_append]; rfl
            · rw [if_neg h, List.append_nil] at tk
              exact ⟨hacc, _, rfl, by rw [tk], sm, hD0⟩
          · rintro acc σ' H2 ⟨o, rfl, rfl, s2, hD0⟩ hacc
            rw [List.take_of_length_le (Nat.le_refl _)] at hacc
            refine ⟨(by show 0 ≤ sizeLine; decide), fun le hle => ⟨D, le, _, rfl, rfl, .of (Same.new hle _ _ hacc), upd_same, ?_⟩⟩
            show Q (.bl (((z.cps.toList.filter fun c => !isLow c).map (fun c => V.str ⟨#[c]⟩)).isEmpty)) _
            rw [filt_nil]
            exact k _ (s2.trans (Same.new hle))
end
end K56
namespace K56
open PySem L2
section
variable {P : Program} {w : World} {K : PySem.W.Frag} {mg : Str → Option Value} {base : Heap}
theorem filt_id {xs : List V} {f : V → Bool} : (xs.filter fun x => !f x).isEmpty = xs.all f := by
  have := filt_nil (xs := xs) (f := f) (g := id)
  rwa [List.map_id] at this
theorem memb_no {H : Hp} {x : V} (h : seqO H x = none) : membB H x = false := dec_f fun ⟨ss, ⟨a, e, q, _⟩, _⟩ => by
  subst e
  have : seqO H (.ref a) = some (List.map V.str ss) := by
    show (match H a with | some (.tup xs) => some xs | some (.lst xs) => some xs | _ => none) = _
    rcases q with q | q <;> rw [q]
  rw [this] at h
  cases h
theorem memb_sq {H : Hp} {a : Addr} {ys : List V} (h : SqA H a ys) : membB H (.ref a) = (!ys.isEmpty && (ys.all isNm && dec (∃ ss : List Str, ys = ss.map V.str ∧ ss.Nodup))) := by
  rw [Bool.eq_iff_iff, Bool.and_eq_true, Bool.and_eq_true]
  unfold membB
  rw [dec_iff, dec_iff]
  constructor
  · rintro ⟨ss, ⟨b, e, q, nd, nm⟩, ne⟩
    cases e
    have e := sq_uniq h q
    subst e
    refine ⟨?_, List.all_eq_true.mpr fun v hv => ?_, ss, rfl, nd⟩
    · cases ss with
      | nil => exact absurd rfl ne
      | cons x r => rfl
    · obtain ⟨z, hz, rfl⟩ := List.mem_map.mp hv
      exact isNm_iff.mpr (nm z hz)
  · rintro ⟨h1, h2, ss, rfl, nd⟩
    refine ⟨ss, ⟨a, rfl, h, nd, fun s hs => ?_⟩, fun e => by rw [e] at h1; cases h1⟩
    exact isNm_iff.mp (List.all_eq_true.mp h2 _ (List.mem_map.mpr ⟨s, hs, rfl⟩))
noncomputable def spLMem : Sp := fun vs H Q _ => ∃ x, vs = [x] ∧ Hd 1 H x ∧ ∀ H', Same H H' → Q (.bl (membB H x)) H'
theorem scLMem : FnScope ["_law_thing_here"] ["_law_thing_here"] (defScope sLawAreMembers) := ⟨rfl, rfl, rfl, by decide +kernel, rfl, by decide +kernel, by decide +kernel⟩
theorem ok_lmem {f : Addr} {fd : FuncData} (F : Fun K "_law_are_members" "_law_are_members" sLawAreMembers f fd) (B : Blt mg) (Zset : mg "set" = none) (c_law_is_name : Cal P w K mg base 1 "_law_is_name" ["_law_thing_here"] spIsName) : FnOk P w K mg base CX0 2 f fd ["_law_thing_here"] spLMem := by
  refine F.ok scLMem (fun vs H Q E h => ?_) (fun cdv A outer s H vs Q E hr h => ?_)
  · obtain ⟨x, rfl, _⟩ := h
    rfl
  · obtain ⟨x, rfl, hx, k⟩ := h
    have nd := scLMem.nd
    refine ⟨_, (pss_cons (ps_if (PW.pt (pw_or (pt_not (pt_val (b_isi2 K "list" "tuple" B (pa_cons (pv 0) (pa_cons (pe_tup (pa_cons (g_list B) (pa_cons (g_tuple B) pa_nil))) pa_nil))))) (pw_or1 (pt_cmpR (op_eqX hr.units) (b_len K B (pa_cons (pv 0) pa_nil)) pe_int (nomark _))))) (pss_one (ps_ret pe_bl)) pss_nil)
      (pss_cons (ps_if (pt_cmpR (op_neNil K hr.units) (pe_comp (defScope sLawAreMembers) ["_law_thing_here"] ["_law_one"] [] ["_law_one"] rfl (pi_seqK K (pv 0)) (fun _ _ _ _ _ => (pg_name (i := 0) (show (["_law_one"] : List Str).Nodup by decide) rfl (Or.inl rfl))) (fun _ _ _ _ _ => (pts_one (pt_not (pt_val (pe_cal c_law_is_name (hr.mono (by decide)) rfl (pa_cons (pv 0) pa_nil)))))) (fun _ _ _ _ _ => (pv 0))) (pe_lst pa_nil) (nomark _)) (pss_one (ps_ret pe_bl)) pss_nil)
      (pss_one (ps_ret (pe_cmpR (op_eqX hr.units) (b_lenS B (pa_cons (b_setX K rfl Zset (pa_cons (pv 0) pa_nil)) pa_nil)) (b_len K B (pa_cons (pv 0) pa_nil)) (nomark _)))))), ?_⟩
    refine ⟨_, rfl, (by show 2 ≤ sizeLine; decide), fun tp htp => ?_⟩
    have s0 := Same.new (o := .tup [V.ty "list", V.ty "tuple"]) htp
    obtain ⟨t, ty, _, _, _, t4, t5⟩ := ty_thg (K := K) (hx.thg.same s0)
    have kl := kit_lt t4 t5
    rw [(isL_keep hx.thg s0).1, (isL_keep hx.thg s0).2, ← seqO_LT] at kl
    refine ⟨_, tp, t, _, rfl, upd_same, ty, kl, _, rfl, ?_⟩
    generalize upd H tp (.tup [V.ty "list", V.ty "tuple"]) = H0 at s0 ⊢
    cases q : seqO H x with
    | none =>
      rw [memb_no q] at k
      exact iteT (iteT (k H0 s0))
    | some ys =>
      obtain ⟨yl, yh⟩ := hx.seq q
      obtain ⟨a, rfl, ha⟩ := seqO_get q
      have ha0 := SqA.same ha s0
      rw [memb_sq ha] at k
      refine iteF ⟨_, rfl, _, _, rfl, ha0.len, .sc rfl ⟨_, rfl, ?_⟩⟩
      cases ys with
      | nil => exact iteT (k H0 s0)
      | cons y0 r =>
        refine ite2 (fun h => absurd h (by show ¬ decide (V.int (((y0 :: r).length : Nat) : Int) = V.int 0) = true; simp; omega)) (fun _ => ?_)
        generalize ey : y0 :: r = ys at *
        have k : ∀ H', Same H H' → Q (.bl (ys.all isNm && dec (∃ ss : List Str, ys = ss.map V.str ∧ ss.Nodup))) H' := fun H' s' => by
          have := k H' s'
          rw [← ey] at this ⊢
          exact this
        refine ⟨_, rfl, a, rfl, ?_⟩
        refine comp_seq ys (fun D i acc σ' H' => ∃ o, σ' = [o] ∧ acc = (ys.take i).filter (fun y => !isNm y) ∧ Same H0 H' ∧ H0 D = none) ha0 fun D hD => ⟨?_, ?_, ?_, ?_⟩
        · exact ⟨none, rfl, rfl, Same.new hD, hD⟩
        · rintro i acc σ' H' _ ⟨o, rfl, _, sm, _⟩ _
          exact sq_at ha0 sm
        · rintro i acc σ' H' x hx ⟨o, rfl, rfl, sm, hD0⟩ hacc
          have hil := (List.getElem?_eq_some_iff.mp hx).1
          have hy := yh x (List.mem_of_getElem? hx)
          have fl : ((ys.take i).filter (fun y => !isNm y)).length ≤ 1000 := by
            refine Nat.le_trans (List.length_filter_le ..) ?_
            rw [List.length_take]
            omega
          refine ⟨_, rfl, _, rfl, (hy.thg.same s0).same sm, fun H2 s2 => ⟨_, rfl, ?_⟩⟩
          have tk : (ys.take (i + 1)).filter (fun y => !isNm y) = (ys.take i).filter (fun y => !isNm y) ++ if (!isNm x) = true then [x] else [] := by
            rw [List.take_add_one, hx, List.filter_append]
            cases q : isNm x <;> simp [q]
          refine ite2 (fun h => ?_) (fun h => ?_)
          · rw [if_pos h] at tk
            exact ⟨_, rfl, s2 _ _ hacc, small1000 (by omega), _, rfl, by rw [tk], same_at (sm.trans s2) hD0, hD0⟩
          · rw [if_neg h, List.append_nil] at tk
            exact ⟨s2 _ _ hacc, _, rfl, by rw [tk], sm.trans s2, hD0⟩
        · rintro acc σ' H2 ⟨o, rfl, rfl, s2, hD0⟩ hacc
          rw [List.take_of_length_le (Nat.le_refl _)] at hacc
          refine ⟨(by show 0 ≤ sizeLine; decide), fun le hle => ⟨D, le, _, rfl, rfl, .of (Same.new hle _ _ hacc), upd_same, _, rfl, ?_⟩⟩
          have s3 := (s0.trans s2).trans (Same.new (o := .lst []) hle)
          generalize upd H2 le (.lst []) = H3 at s3 ⊢
          show if (!(ys.filter fun y => !isNm y).isEmpty) = true then _ else _
          rw [filt_id]
          refine ite2 (fun h => ?_) (fun h => ?_)
          · have h : ys.all isNm = false := by simpa using h
            have z := k H3 s3
            rw [h] at z
            exact z
          · have h : ys.all isNm = true := by simpa using h
            obtain ⟨ss, es, nm⟩ := nms_of h
            have ha3 := SqA.same ha s3
            rw [es] at ha3
            have yl : ss.length ≤ 1000 := by rw [es, List.length_map] at yl; exact yl
            rw [h, Bool.true_and] at k
            refine ⟨_, rfl, a, ss, rfl, ha3, yl, fun l PP ww S n hl hn hnd => ⟨l, PP, ww, S, n, rfl, upd_same, _, rfl, _, _, rfl, (SqA.same ha3 (Same.new hl)).len, .sc rfl ?_⟩⟩
            have z := k _ (s3.trans (Same.new (o := setO PP ww l S n) hl))
            have e : dec (∃ ss : List Str, ys = ss.map V.str ∧ ss.Nodup) = decide (V.int (n : Int) = V.int (((List.map V.str ss).length : Nat) : Int)) := by
              rw [Bool.eq_iff_iff, dec_iff, decide_eq_true_iff, List.length_map]
              constructor
              · rintro ⟨ss', e', nd'⟩
                rw [strs_inj (es.symm.trans e')] at hnd ⊢
                rw [hnd.mpr nd']
              · intro e'
                have e' := V.int.inj e'
                exact ⟨ss, es, hnd.mp (by omega)⟩
            rw [e] at z
            exact z
end
end K56
namespace K56
open PySem L2
section
variable {P : Program} {w : World} {K : PySem.W.Frag} {mg : Str → Option Value} {base : Heap}
noncomputable def one1 (f : V → Bool) : List V → Bool
  | [p] => f p
  | _ => false
noncomputable def two2 (f g : V → Bool) : List V → Bool
  | [p, q] => f p && g q
  | _ => false
theorem one1_no {f : V → Bool} {ps : List V} (h : ps.length ≠ 1) : one1 f ps = false := by
  match ps, h with
  | [], _ => rfl
  | [p], h => exact absurd rfl h
  | _ :: _ :: _, _ => rfl
theorem sg1 {H : Hp} {w s : Str} {ps : List V} (h : sortsOf w = some [s]) : sgB H w ps = one1 (partB H s) ps := by
  unfold sgB
  rw [h]
  match ps with
  | [] => rfl
  | [p] => show (decide (1 = 1) && (partB H s p && true)) = partB H s p; simp
  | _ :: _ :: _ => rfl
theorem sg2 {H : Hp} {w s t : Str} {ps : List V} (h : sortsOf w = some [s, t]) : sgB H w ps = two2 (partB H s) (partB H t) ps := by
  unfold sgB
  rw [h]
  match ps with
  | [] => rfl
  | [p] => rfl
  | [p, q] => show (decide (2 = 2) && (partB H s p && (partB H t q && true))) = (partB H s p && partB H t q); simp
  | _ :: _ :: _ :: r => show (decide (r.length + 1 + 1 + 1 = 2) && _) = false; rw [decide_eq_false (by omega)]; rfl
theorem sorts_two {w : Str} {ss : List Str} (h : sortsOf w = some ss) (h1 : w ≠ "drop") (h2 : w ≠ "open") : ss.length = 2 := by
  have a : ∀ e ∈ partsA, e.1 ≠ "drop" → e.1 ≠ "open" → e.2.length = 2 := by decide +kernel
  exact a (w, ss) (PySem.mem_of_lookup h) h1 h2
theorem part_nm {H : Hp} {x : V} : partB H "name" x = isNm x := by
  unfold partB
  rw [if_neg (by decide), if_neg (by decide), if_neg (fun h => absurd h.1 (by decide))]
theorem part_mb {H : Hp} {x : V} : partB H "members" x = membB H x := by unfold partB; rw [if_pos rfl]
theorem part_wd {H : Hp} {x : V} : partB H "word" x = (decide (x = .str "first") || decide (x = .str "last")) := by unfold partB; rw [if_neg (by decide), if_pos rfl]
theorem part_kn {H : Hp} {x : V} : partB H "knot" x = if x = .str "" then true else isNm x := by
  unfold partB
  rw [if_neg (by decide), if_neg (by decide)]
  by_cases h : x = .str ""
  · rw [if_pos ⟨rfl, h⟩, if_pos h]
  · rw [if_neg (fun z => h z.2), if_neg h]
theorem sg_no {H : Hp} {w : Str} {ps : List V} (h : w ∉ partsA.map (·.1)) : sgB H w ps = false := by
  have : sortsOf w = none := by
    unfold sortsOf
    cases e : partsA.lookup w with
    | none => rfl
    | some ss => exact absurd (List.mem_map.mpr ⟨(w, ss), PySem.mem_of_lookup e, rfl⟩) h
  unfold sgB
  rw [this]
theorem manyL_no {H : Hp} {w : Str} {ps : List V} (h : w ≠ "many") : manyL H w ps = none := by
  unfold manyL
  split
  · rw [if_neg h]
  · rfl
theorem deed_sg {n : Nat} {H : Hp} {a : Addr} {w : Str} {ps : List V} (e : H a = some (.tup (.str w :: ps))) (h : manyL H w ps = none) : deedB n H (.ref a) = sgB H w ps := by
  have m : manyO H (.ref a) = none := by unfold manyO; rw [tupO_of e]; exact h
  have s : singleB H (.ref a) = sgB H w ps := by unfold singleB; rw [tupO_of e]
  cases n <;> (rw [deedB, m]; exact s)
noncomputable def spLD (n : Nat) : Sp := fun vs H Q _ => ∃ x, vs = [x, .int (n : Int)] ∧ Hd (2 * n + 2) H x ∧ ∀ H', Same H H' → Q (.bl (deedB n H x)) H'
noncomputable def spLDp : Nat → Sp
  | 0 => fun _ _ _ _ => False
  | n + 1 => spLD n
theorem scLD : FnScope ["_law_thing_here", "_law_deep", "_law_word", "_law_parts"] ["_law_thing_here", "_law_deep"] (defScope sLawIsDeed) := ⟨rfl, rfl, rfl, by decide +kernel, rfl, by decide +kernel, by decide +kernel⟩
theorem ok_ld1 {f : Addr} {fd : FuncData} {n : Nat} (F : Fun K "_law_is_deed" "_law_is_deed" sLawIsDeed f fd) (B : Blt mg) (c_law_is_name : Cal P w K mg base 1 "_law_is_name" ["_law_thing_here"] spIsName) (c_law_are_members : Cal P w K mg base 2 "_law_are_members" ["_law_thing_here"] spLMem)
    (c_law_is_deed : Cal P w K mg base (n + 2) "_law_is_deed" ["_law_thing_here", "_law_deep"] (spLDp n)) : FnOk P w K mg base CX0 (n + 2 + 1) f fd ["_law_thing_here", "_law_deep"] (spLD n) := by
  refine F.ok scLD (fun vs H Q E h => ?_) (fun cdv A outer s H vs Q E hr h => ?_)
  · obtain ⟨x, rfl, _⟩ := h
    rfl
  · obtain ⟨x, rfl, hx, k⟩ := h
    have nd := scLD.nd
    have h2 : 2 ≤ n + 2 := Nat.le_add_left ..
    have h1 : 1 ≤ n + 2 := Nat.le_trans (by decide) h2
    obtain ⟨t, ty, _, _, _, _, t5⟩ := ty_thg (K := K) hx.thg
    refine ⟨_, (pss_cons (ps_if (PW.pt (pw_or (pt_not (pt_val (b_isi K "tuple" B (pa_cons (pv 0) (pa_cons (g_tuple B) pa_nil))))) (pw_or (pt_cmpR (op_eqNilT K hr.units) (pv 0) (pe_tup pa_nil) (nomark _)) (pw_or1 (pt_not (pt_val (b_isi K "str" B (pa_cons (pe_ix (ix_X K hr.units) (pv 0) pe_int (fun _ _ => rfl)) (pa_cons (g_str B) pa_nil))))))))) (pss_one (ps_ret pe_bl)) pss_nil)
      (pss_cons (ps_set (i := 2) nd rfl (Or.inl rfl) (pe_ix (ix_X K hr.units) (pv 0) pe_int (fun _ _ => rfl)))
      (pss_cons (ps_set (i := 3) nd rfl (Or.inl rfl) (pe_slice (sl_tupK K) (pv 0) (po_some pe_int) po_none))
      (pss_cons (ps_if (pt_cmpR (op_inX K hr.units) (pv 2) (pe_tup (pa_cons pe_str (pa_cons pe_str pa_nil))) (by with_unfolding_all rfl)) (pss_one (ps_ret (pe_and (pe_cmpR (op_eqX hr.units) (b_len K B (pa_cons (pv 3) pa_nil)) pe_int (nomark _)) (pe_one (pe_cal c_law_is_name (hr.mono h1) rfl (pa_cons (pe_ix (ix_X K hr.units) (pv 3) pe_int (fun _ _ => rfl)) pa_nil)))))) pss_nil)
      (pss_cons (ps_if (pt_cmpR (op_eqX hr.units) (pv 2) pe_str (nomark _)) (pss_cons (ps_if (PW.pt (pw_or (pt_cmpR (op_neX hr.units) (b_len K B (pa_cons (pv 3) pa_nil)) pe_int (nomark _)) (pw_or (pt_not (pt_val (b_isi2 K "list" "tuple" B (pa_cons (pe_ix (ix_X K hr.units) (pv 3) pe_int (fun _ _ => rfl)) (pa_cons (pe_tup (pa_cons (g_list B) (pa_cons (g_tuple B) pa_nil))) pa_nil))))) (pw_or1 (pt_cmpR (op_eqX hr.units) (pv 1) pe_int (nomark _)))))) (pss_one (ps_ret pe_bl)) pss_nil)
      (pss_one (ps_ret (pe_cmpR (op_eqNil K hr.units) (pe_comp (defScope sLawIsDeed) ["_law_thing_here", "_law_deep", "_law_word", "_law_parts"] ["_law_one"] [1] ["_law_one", "_law_deep"] rfl (pi_seqK K (pe_ix (ix_X K hr.units) (pv 3) pe_int (fun _ _ => rfl))) (fun _ _ _ _ _ => (pg_name (i := 0) (show (["_law_one", "_law_deep"] : List Str).Nodup by decide) rfl (Or.inl rfl))) (fun _ _ _ _ _ => (pts_one (pt_not (pt_val (pe_cal c_law_is_deed (hr.mono (Nat.le_refl _)) rfl (pa_cons (pv 0) (pa_cons (pe_op op_sub (pv 1) pe_int) pa_nil))))))) (fun _ _ _ _ _ => (pv 0))) (pe_lst pa_nil) (nomark _))))) pss_nil)
      (pss_cons (ps_if (pt_cmpR (op_neX hr.units) (b_len K B (pa_cons (pv 3) pa_nil)) pe_int (nomark _)) (pss_one (ps_ret pe_bl)) pss_nil)
      (pss_cons (ps_if (pt_cmpR (op_inX K hr.units) (pv 2) (pe_tup (pa_cons pe_str (pa_cons pe_str (pa_cons pe_str pa_nil)))) (by with_unfolding_all rfl)) (pss_one (ps_ret (pe_and (pe_cal c_law_is_name (hr.mono h1) rfl (pa_cons (pe_ix (ix_X K hr.units) (pv 3) pe_int (fun _ _ => rfl)) pa_nil)) (pe_one (pe_cal c_law_is_name (hr.mono h1) rfl (pa_cons (pe_ix (ix_X K hr.units) (pv 3) pe_int (fun _ _ => rfl)) pa_nil)))))) pss_nil)
      (pss_cons (ps_if (pt_cmpR (op_eqX hr.units) (pv 2) pe_str (nomark _)) (pss_one (ps_ret (pe_and (pe_cal c_law_is_name (hr.mono h1) rfl (pa_cons (pe_ix (ix_X K hr.units) (pv 3) pe_int (fun _ _ => rfl)) pa_nil)) (pe_one (pe_or (pe_and (b_isi K "str" B (pa_cons (pe_ix (ix_X K hr.units) (pv 3) pe_int (fun _ _ => rfl)) (pa_cons (g_str B) pa_nil))) (pe_one (pe_cmpR (op_eqX hr.units) (pe_ix (ix_X K hr.units) (pv 3) pe_int (fun _ _ => rfl)) pe_str (nomark _)))) (pe_one (pe_cal c_law_is_name (hr.mono h1) rfl (pa_cons (pe_ix (ix_X K hr.units) (pv 3) pe_int (fun _ _ => rfl)) pa_nil)))))))) pss_nil)
      (pss_cons (ps_if (pt_cmpR (op_eqX hr.units) (pv 2) pe_str (nomark _)) (pss_one (ps_ret (pe_and (pe_cal c_law_is_name (hr.mono h1) rfl (pa_cons (pe_ix (ix_X K hr.units) (pv 3) pe_int (fun _ _ => rfl)) pa_nil)) (pe_one (pe_cal c_law_are_members (hr.mono h2) rfl (pa_cons (pe_ix (ix_X K hr.units) (pv 3) pe_int (fun _ _ => rfl)) pa_nil)))))) pss_nil)
      (pss_one (ps_ret (pe_and (pe_cmpR (op_inX K hr.units) (pv 2) (pe_tup (pa_cons pe_str (pa_cons pe_str pa_nil))) (by with_unfolding_all rfl)) (pe_and (pe_cmpR (op_inT K hr.units) (pe_ix (ix_X K hr.units) (pv 3) pe_int (fun _ _ => rfl)) (pe_tup (pa_cons pe_str (pa_cons pe_str pa_nil))) (by with_unfolding_all rfl)) (pe_one (pe_cal c_law_is_name (hr.mono h1) rfl (pa_cons (pe_ix (ix_X K hr.units) (pv 3) pe_int (fun _ _ => rfl)) pa_nil)))))))))))))))), ?_⟩
    refine ⟨_, rfl, _, t, _, rfl, ty, t5, _, rfl, ?_⟩
    have nodeed : hwB H x = false → deedB n H x = false := fun h => by
      obtain ⟨m, s⟩ := hw_no h
      cases n <;> (rw [deedB, m]; exact s)
    cases q : tupO H x with
    | none =>
      rw [tupO_T.mp q]
      rw [nodeed (by unfold hwB; rw [q])] at k
      exact iteT (iteT (k H (Same.refl H)))
    | some xs =>
      obtain ⟨a, rfl, e⟩ := tupO_get q
      have hp := Hd.tup (n := 2 * n + 1) hx q
      rw [isT_of e]
      refine iteF ⟨_, rfl, (by show 0 ≤ sizeLine; decide), fun t0 ht0 => ?_⟩
      have s0 := Same.new (o := .tup []) ht0
      have e0 := s0 _ _ e
      refine ⟨a, t0, xs, rfl, rfl, .of e0, upd_same, _, rfl, ?_⟩
      generalize upd H t0 (.tup []) = H0 at s0 e0 ⊢
      cases xs with
      | nil =>
        rw [nodeed (by unfold hwB; rw [q])] at k
        exact iteT (iteT (k H0 s0))
      | cons y ps =>
        have ty2 := (hp.2 y (by simp)).thg
        obtain ⟨t', ty', t1, _⟩ := ty_thg (K := K) (ty2.same s0)
        refine iteF ⟨_, rfl, .tup (.of e0) at0 ⟨_, t', _, rfl, ty', t1, _, rfl, ?_⟩⟩
        cases hs : isS y with
        | false =>
          rw [nodeed (by
            unfold hwB; rw [q]
            cases y with
            | str z => cases hs
            | _ => rfl)] at k
          exact iteT (k H0 s0)
        | true =>
          obtain ⟨w, rfl⟩ := isS_get hs
          refine iteF ⟨_, rfl, .tup (.of e0) at0 ?_⟩
          refine ⟨_, rfl, _, rfl, a, _, rfl, .of e0, cut_no, fun pp hpp => ?_⟩
          rw [cut_tl]
          have s1 := s0.trans (Same.new (o := .tup ps) hpp)
          have e1 : (upd H0 pp (.tup ps)) pp = some (.tup ps) := upd_same
          generalize upd H0 pp (.tup ps) = H1 at s1 e1 ⊢
          have pth : ∀ p ∈ ps, Hd (2 * n + 1) H p := fun p hp' => hp.2 p (List.mem_cons_of_mem _ hp')
          clear ty' t1 ty2 t5 ty hs nodeed e0 s0
          refine ⟨_, rfl, (by show 2 ≤ sizeLine; decide), fun tq htq => .seq (.inr (.of upd_same)) rfl rfl ⟨_, rfl, ?_⟩⟩
          have s2 := s1.trans (Same.new (o := .tup [V.str "drop", V.str "open"]) htq)
          have e2 := Same.new (o := .tup [V.str "drop", V.str "open"]) htq _ _ e1
          generalize upd H1 tq (.tup [V.str "drop", V.str "open"]) = H2 at s2 e2 ⊢
          clear e1 s1 htq hpp
          show if inV (V.str w) (List.map V.str ["drop", "open"]) = true then _ else _
          rw [in_strs]
          refine ite2 (fun h => ?_) (fun n1 => ?_)
          · have h := of_decide_eq_true h
            have so : sortsOf w = some (["name"] : List Str) := by
              rcases List.mem_cons.mp h with rfl | h
              · rfl
              · rw [List.mem_singleton.mp h]; rfl
            have nm : w ≠ "many" := fun z => by rw [z] at h; exact absurd h (by decide)
            rw [deed_sg e (manyL_no nm), sg1 so] at k
            refine ⟨_, rfl, _, _, rfl, Or.inr ⟨_, .of e2, rfl⟩, .sc rfl ⟨_, rfl, ite2 (fun h => ?_) (fun h => ?_)⟩⟩
            · have h : decide (V.int ((ps.length : Nat) : Int) = V.int 1) = true := h
              have pl : ps.length = 1 := by simp at h; omega
              obtain ⟨p, rfl⟩ := List.length_eq_one_iff.mp pl
              refine ⟨_, rfl, .tup (.of e2) at0 (nil_ ⟨p, rfl, (pth p (by simp)).thg.same s2, fun H3 s3 => ?_⟩)⟩
              have z := k H3 (s2.trans s3)
              have z : Q (.bl (partB H "name" p)) H3 := z
              rw [part_nm] at z
              exact z
            · have h : ¬ decide (V.int ((ps.length : Nat) : Int) = V.int 1) = true := h
              have pl : ps.length ≠ 1 := fun z => h (by rw [z]; rfl)
              have z := k H2 s2
              rw [one1_no pl] at z
              exact z
          · have n1 : w ≠ "drop" ∧ w ≠ "open" := by
              have n1 : ¬ w ∈ (["drop", "open"] : List Str) := fun z => n1 (decide_eq_true z)
              simpa using n1
            refine ⟨_, rfl, .sc rfl ⟨_, rfl, ite2 (fun h => ?_) (fun h => ?_)⟩⟩
            · have ew : w = "many" := by
                have h : decide (V.str w = V.str "many") = true := h
                rw [dec_str] at h
                exact of_decide_eq_true h
              subst ew
              refine ⟨_, rfl, _, _, rfl, Or.inr ⟨_, .of e2, rfl⟩, .sc rfl ⟨_, rfl, ?_⟩⟩
              have nosg : sgB H "many" ps = false := sg_no (by decide)
              refine ite2 (fun h => ?_) (fun h => ?_)
              · have h : (!decide (V.int ((ps.length : Nat) : Int) = V.int 1)) = true := h
                have em : manyL H "many" ps = none := by
                  unfold manyL
                  split
                  · exact absurd h (by simp)
                  · rfl
                rw [deed_sg e em, nosg] at k
                exact iteT (k H2 s2)
              · have h : ¬ (!decide (V.int ((ps.length : Nat) : Int) = V.int 1)) = true := h
                have pl : ps.length = 1 := by simp at h; omega
                obtain ⟨p, rfl⟩ := List.length_eq_one_iff.mp pl
                have ek : manyL H "many" [p] = seqO H p := by show (if ("many" : Str) = "many" then seqO H p else none) = seqO H p; rw [if_pos rfl]
                refine ⟨_, rfl, .tup (.of e2) at0 ⟨(by show 2 ≤ sizeLine; decide), fun tp htp => ?_⟩⟩
                have s0 := Same.new (o := .tup [V.ty "list", V.ty "tuple"]) htp
                have ty0 := (pth p (by simp)).thg
                obtain ⟨t, ty, _, _, _, t4, t5⟩ := ty_thg (K := K) (ty0.same (s2.trans s0))
                have kl := kit_lt t4 t5
                rw [(isL_keep ty0 (s2.trans s0)).1, (isL_keep ty0 (s2.trans s0)).2, ← seqO_LT] at kl
                have e3 := s0 _ _ e2
                have s3 := s2.trans s0
                refine ⟨_, tp, t, _, rfl, upd_same, ty, kl, _, rfl, ?_⟩
                generalize upd H2 tp (.tup [V.ty "list", V.ty "tuple"]) = H3 at s3 e3 ⊢
                cases q2 : seqO H p with
                | none =>
                  rw [deed_sg e (ek.trans q2), nosg] at k
                  exact iteT (iteT (k H3 s3))
                | some ys =>
                  have mo : manyO H (.ref a) = some ys := by unfold manyO; rw [tupO_of e]; exact ek.trans q2
                  refine iteF ⟨_, rfl, .sc rfl ⟨_, rfl, ?_⟩⟩
                  cases n with
                  | zero =>
                    rw [deedB, mo] at k
                    exact iteT (k H3 s3)
                  | succ n =>
                    refine ite2 (fun h => absurd h (by show ¬ decide (V.int ((n + 1 : Nat) : Int) = V.int 0) = true; simp; omega)) (fun _ => ?_)
                    rw [deedB, mo] at k
                    obtain ⟨yl, yh⟩ := Hd.many (n := 2 * n + 2) hx mo
                    obtain ⟨b, rfl, hb⟩ := seqO_get q2
                    have hb3 := SqA.same hb s3
                    refine ⟨_, rfl, .tup (.of e3) at0 ⟨b, rfl, ?_⟩⟩
                    refine comp_seq ys (fun D i acc σ' H' => ∃ o, σ' = [o, some (.int ((n + 1 : Nat) : Int))] ∧ acc = (ys.take i).filter (fun y => !deedB n H y) ∧ Same H3 H' ∧ H3 D = none) hb3 fun D hD => ⟨?_, ?_, ?_, ?_⟩
                    · exact ⟨none, rfl, rfl, Same.new hD, hD⟩
                    · rintro i acc σ' H' _ ⟨o, rfl, _, sm, _⟩ _
                      exact sq_at hb3 sm
                    · rintro i acc σ' H' x hx ⟨o, rfl, rfl, sm, hD0⟩ hacc
                      have hil := (List.getElem?_eq_some_iff.mp hx).1
                      have hy := yh x (List.mem_of_getElem? hx)
                      have fl : ((ys.take i).filter (fun y => !deedB n H y)).length ≤ 1000 := by
                        refine Nat.le_trans (List.length_filter_le ..) ?_
                        rw [List.length_take]
                        omega
                      refine ⟨_, rfl, _, rfl, _, _, rfl, rfl, x, (by show [x, V.int (((n + 1 : Nat) : Int) - 1)] = _; rw [show ((n + 1 : Nat) : Int) - 1 = (n : Int) by omega]), Hd.mono _ _ _ _ (s3.trans sm) hy, fun H4 s4 => ⟨_, rfl, ?_⟩⟩
                      rw [deedB_same hy (s3.trans sm)]
                      have tk : (ys.take (i + 1)).filter (fun y => !deedB n H y) = (ys.take i).filter (fun y => !deedB n H y) ++ if (!deedB n H x) = true then [x] else [] := by
                        rw [List.take_add_one, hx, List.filter_append]
                        cases q : deedB n H x <;> simp [q]
                      refine ite2 (fun h => ?_) (fun h => ?_)
                      · rw [if_pos h] at tk
                        exact ⟨_, rfl, s4 _ _ hacc, small1000 (by omega), _, rfl, by rw [tk], same_at (sm.trans s4) hD0, hD0⟩
                      · rw [if_neg h, List.append_nil] at tk
                        exact ⟨s4 _ _ hacc, _, rfl, by rw [tk], sm.trans s4, hD0⟩
                    · rintro acc σ' H4 ⟨o, rfl, rfl, s4, hD0⟩ hacc
                      rw [List.take_of_length_le (Nat.le_refl _)] at hacc
                      refine ⟨(by show 0 ≤ sizeLine; decide), fun le hle => ⟨D, le, _, rfl, rfl, .of (Same.new hle _ _ hacc), upd_same, ?_⟩⟩
                      show Q (.bl (ys.filter fun y => !deedB n H y).isEmpty) _
                      rw [filt_id]
                      exact k _ ((s3.trans s4).trans (Same.new hle))
            · have n2 : w ≠ "many" := fun z => h (by rw [z]; rfl)
              rw [deed_sg e (manyL_no n2)] at k
              refine ⟨_, rfl, _, _, rfl, Or.inr ⟨_, .of e2, rfl⟩, .sc rfl ⟨_, rfl, ite2 (fun h => ?_) (fun h => ?_)⟩⟩
              · have h : (!decide (V.int ((ps.length : Nat) : Int) = V.int 2)) = true := h
                have pl : ps.length ≠ 2 := fun z => by rw [z] at h; exact absurd h (by decide)
                have e3 : sgB H w ps = false := by
                  cases q : sortsOf w with
                  | none => unfold sgB; rw [q]
                  | some ss =>
                    have : ss.length = 2 := sorts_two q n1.1 n1.2
                    unfold sgB; rw [q]
                    show (decide (ps.length = ss.length) && _) = false
                    rw [decide_eq_false (by omega)]; rfl
                rw [e3] at k
                exact k H2 s2
              · have h : ¬ (!decide (V.int ((ps.length : Nat) : Int) = V.int 2)) = true := h
                have pl : ps.length = 2 := by simp at h; omega
                obtain ⟨p0, p1, rfl⟩ : ∃ p0 p1, ps = [p0, p1] := by
                  match ps, pl with
                  | [p0, p1], _ => exact ⟨p0, p1, rfl⟩
                have y0 := pth p0 (by simp)
                have y1 := pth p1 (by simp)
                clear pl h
                refine ⟨_, rfl, (by show 3 ≤ sizeLine; decide), fun tq htq => .seq (.inr (.of upd_same)) rfl rfl ⟨_, rfl, ?_⟩⟩
                have s3 := s2.trans (Same.new (o := .tup [V.str "tie", V.str "wait", V.str "untie"]) htq)
                have e3 := Same.new (o := .tup [V.str "tie", V.str "wait", V.str "untie"]) htq _ _ e2
                generalize upd H2 tq (.tup [V.str "tie", V.str "wait", V.str "untie"]) = H3 at s3 e3 ⊢
                clear e2 s2 htq
                show if inV (V.str w) (List.map V.str ["tie", "wait", "untie"]) = true then _ else _
                rw [in_strs]
                refine ite2 (fun h => ?_) (fun n3 => ?_)
                · have h := of_decide_eq_true h
                  have so : sortsOf w = some (["name", "name"] : List Str) := by
                    rcases List.mem_cons.mp h with rfl | h
                    · rfl
                    · rcases List.mem_cons.mp h with rfl | h
                      · rfl
                      · rw [List.mem_singleton.mp h]; rfl
                  rw [sg2 so] at k
                  have k : ∀ H', Same H H' → Q (.bl (partB H "name" p0 && partB H "name" p1)) H' := k
                  rw [part_nm, part_nm] at k
                  refine ⟨_, rfl, .tup (.of e3) at0 (nil_ ⟨p0, rfl, y0.thg.same s3, fun H4 s4 => ⟨_, rfl, ite2 (fun h => ?_) (fun h => ?_)⟩⟩)⟩
                  · rw [h, Bool.true_and] at k
                    exact ⟨_, rfl, .tup (.of (s4 _ _ e3)) at1 (nil_ ⟨p1, rfl, y1.thg.same (s3.trans s4), fun H5 s5 => k H5 ((s3.trans s4).trans s5)⟩)⟩
                  · have h : isNm p0 = false := by simpa using h
                    rw [h] at k
                    exact k H4 (s3.trans s4)
                · have n3 : w ≠ "tie" ∧ w ≠ "wait" ∧ w ≠ "untie" := by
                    have n3 : ¬ w ∈ (["tie", "wait", "untie"] : List Str) := fun z => n3 (decide_eq_true z)
                    simpa using n3
                  refine ⟨_, rfl, .sc rfl ⟨_, rfl, ite2 (fun h => ?_) (fun h => ?_)⟩⟩
                  · have ew : w = "thing" := by
                      have h : decide (V.str w = V.str "thing") = true := h
                      rw [dec_str] at h
                      exact of_decide_eq_true h
                    subst ew
                    rw [sg2 (s := "name") (t := "knot") rfl] at k
                    have k : ∀ H', Same H H' → Q (.bl (partB H "name" p0 && partB H "knot" p1)) H' := k
                    rw [part_nm, part_kn] at k
                    refine ⟨_, rfl, .tup (.of e3) at0 (nil_ ⟨p0, rfl, y0.thg.same s3, fun H4 s4 => ⟨_, rfl, ite2 (fun h => ?_) (fun h => ?_)⟩⟩)⟩
                    · rw [h, Bool.true_and] at k
                      have s34 := s3.trans s4
                      have e4 := s4 _ _ e3
                      obtain ⟨t, ty, t1, _⟩ := ty_thg (K := K) (y1.thg.same s34)
                      have fin : p1 ≠ .str "" → spIsName [p1] H4 Q E0 := fun np => ⟨p1, rfl, y1.thg.same s34, fun H5 s5 => by have z := k H5 (s34.trans s5); rw [if_neg np] at z; exact z⟩
                      refine ⟨_, rfl, .tup (.of e4) at1 ⟨_, t, _, rfl, ty, t1, _, rfl, ite2 (fun h => ?_) (fun h => ?_)⟩⟩
                      · obtain ⟨y, rfl⟩ := isS_get h
                        refine ⟨_, rfl, .tup (.of e4) at1 (.sc rfl ⟨_, rfl, ite2 (fun h => ?_) (fun h => ?_)⟩)⟩
                        · have ey : V.str y = .str "" := of_decide_eq_true h
                          have z := k H4 s34
                          rw [if_pos ey] at z
                          exact z
                        · exact ⟨_, rfl, .tup (.of e4) at1 (nil_ (fin fun z => h (decide_eq_true z)))⟩
                      · exact ⟨_, rfl, iteF ⟨_, rfl, .tup (.of e4) at1 (nil_ (fin fun z => h (by rw [z]; rfl)))⟩⟩
                    · have h : isNm p0 = false := by simpa using h
                      rw [h] at k
                      exact k H4 (s3.trans s4)
                  · have n4 : w ≠ "thing" := fun z => h (by rw [z]; rfl)
                    refine ⟨_, rfl, .sc rfl ⟨_, rfl, ite2 (fun h => ?_) (fun h => ?_)⟩⟩
                    · have ew : w = "group" := by
                        have h : decide (V.str w = V.str "group") = true := h
                        rw [dec_str] at h
                        exact of_decide_eq_true h
                      subst ew
                      rw [sg2 (s := "name") (t := "members") rfl] at k
                      have k : ∀ H', Same H H' → Q (.bl (partB H "name" p0 && partB H "members" p1)) H' := k
                      rw [part_nm, part_mb] at k
                      refine ⟨_, rfl, .tup (.of e3) at0 (nil_ ⟨p0, rfl, y0.thg.same s3, fun H4 s4 => ⟨_, rfl, ite2 (fun h => ?_) (fun h => ?_)⟩⟩)⟩
                      · rw [h, Bool.true_and] at k
                        refine ⟨_, rfl, .tup (.of (s4 _ _ e3)) at1 (nil_ ⟨p1, rfl, Hd.mono 1 _ _ _ (s3.trans s4) y1.one, fun H5 s5 => ?_⟩)⟩
                        rw [membB_same y1.thg (s3.trans s4)]
                        exact k H5 ((s3.trans s4).trans s5)
                      · have h : isNm p0 = false := by simpa using h
                        rw [h] at k
                        exact k H4 (s3.trans s4)
                    · have n5 : w ≠ "group" := fun z => h (by rw [z]; rfl)
                      refine ⟨_, rfl, (by show 2 ≤ sizeLine; decide), fun tq htq => .seq (.inr (.of upd_same)) rfl rfl ⟨_, rfl, ?_⟩⟩
                      have s4 := s3.trans (Same.new (o := .tup [V.str "want", V.str "unwant"]) htq)
                      have e4 := Same.new (o := .tup [V.str "want", V.str "unwant"]) htq _ _ e3
                      generalize upd H3 tq (.tup [V.str "want", V.str "unwant"]) = H4 at s4 e4 ⊢
                      clear e3 s3 htq
                      show if inV (V.str w) (List.map V.str ["want", "unwant"]) = true then _ else _
                      rw [in_strs]
                      refine ite2 (fun h => ?_) (fun n6 => ?_)
                      · have h := of_decide_eq_true h
                        have so : sortsOf w = some (["word", "name"] : List Str) := by
                          rcases List.mem_cons.mp h with rfl | h
                          · rfl
                          · rw [List.mem_singleton.mp h]; rfl
                        rw [sg2 so] at k
                        have k : ∀ H', Same H H' → Q (.bl (partB H "word" p0 && partB H "name" p1)) H' := k
                        rw [part_wd, part_nm] at k
                        refine ⟨_, rfl, .tup (.of e4) at0 ⟨(by show 2 ≤ sizeLine; decide), fun tr htr => ?_⟩⟩
                        have s5 := s4.trans (Same.new (o := .tup [V.str "first", V.str "last"]) htr)
                        have e5 := Same.new (o := .tup [V.str "first", V.str "last"]) htr _ _ e4
                        refine ⟨tr, ["first", "last"], rfl, .inr (.of upd_same), y0.thg.same s5, _, rfl, ?_⟩
                        generalize upd H4 tr (.tup [V.str "first", V.str "last"]) = H5 at s5 e5 ⊢
                        have ei : inSS ["first", "last"] p0 = (decide (p0 = .str "first") || decide (p0 = .str "last")) := by
                          cases p0 with
                          | str z =>
                            show decide (z ∈ (["first", "last"] : List Str)) = _
                            rw [dec_str, dec_str, Bool.eq_iff_iff, decide_eq_true_iff, Bool.or_eq_true, decide_eq_true_iff, decide_eq_true_iff]
                            simp
                          | _ => rfl
                        show if inSS ["first", "last"] p0 = true then _ else _
                        rw [ei]
                        refine ite2 (fun h => ?_) (fun h => ?_)
                        · rw [h, Bool.true_and] at k
                          exact ⟨_, rfl, .tup (.of e5) at1 (nil_ ⟨p1, rfl, y1.thg.same s5, fun H6 s6 => k H6 (s5.trans s6)⟩)⟩
                        · have h : (decide (p0 = .str "first") || decide (p0 = .str "last")) = false := by simpa using h
                          rw [h] at k
                          exact k H5 s5
                      · have n6 : w ≠ "want" ∧ w ≠ "unwant" := by
                          have n6 : ¬ w ∈ (["want", "unwant"] : List Str) := fun z => n6 (decide_eq_true z)
                          simpa using n6
                        rw [sg_no (by
                          intro z
                          have z : w ∈ (["thing", "tie", "wait", "untie", "drop", "group", "open", "want", "unwant"] : List Str) := z
                          simp only [List.mem_cons, List.not_mem_nil, or_false] at z
                          rcases z with z | z | z | z | z | z | z | z | z
                          · exact n4 z
                          · exact n3.1 z
                          · exact n3.2.1 z
                          · exact n3.2.2 z
                          · exact n1.1 z
                          · exact n5 z
                          · exact n1.2 z
                          · exact n6.1 z
                          · exact n6.2 z)] at k
                        exact k H4 s4
theorem ok_ld {f : Addr} {fd : FuncData} (F : Fun K "_law_is_deed" "_law_is_deed" sLawIsDeed f fd) (B : Blt mg) (c_law_is_name : Cal P w K mg base 1 "_law_is_name" ["_law_thing_here"] spIsName) (c_law_are_members : Cal P w K mg base 2 "_law_are_members" ["_law_thing_here"] spLMem)
    (mk : ∀ h sp, FnOk P w K mg base CX0 h f fd ["_law_thing_here", "_law_deep"] sp → Cal P w K mg base h "_law_is_deed" ["_law_thing_here", "_law_deep"] sp) : ∀ n, FnOk P w K mg base CX0 (n + 3) f fd ["_law_thing_here", "_law_deep"] (spLD n)
  | 0 => ok_ld1 F B c_law_is_name c_law_are_members (mk 2 _ ⟨fun vs H Q E h => h.elim, fun A outer s H args us' vs Q E hr he hb hv h => h.elim⟩)
  | n + 1 => ok_ld1 F B c_law_is_name c_law_are_members (mk _ _ (ok_ld F B c_law_is_name c_law_are_members mk n))
end
end K56
namespace K56
open PySem L2
section
variable {P : Program} {w : World} {K : PySem.W.Frag} {mg : Str → Option Value} {base : Heap}
open Classical in
noncomputable def Mq (N : Addr → Prop) (H : Hp) : Hp := fun a => if N a then H a else none
theorem Mq.at {N : Addr → Prop} {b : Addr} {H : Hp} {o : HO} (h : H b = some o) (n : N b) : Mq N H b = some o := by unfold Mq; rw [if_pos n]; exact h
theorem Mq.of {N : Addr → Prop} {H : Hp} : Same (Mq N H) H := fun b o h => by
  unfold Mq at h
  split at h
  · exact h
  · cases h
theorem Mq.but {N : Addr → Prop} {H H' : Hp} (b : ButN N H H') : Same (Mq N H) (Mq N H') := fun c o h => by
  unfold Mq at h
  split at h
  · rename_i n; exact Mq.at (b c o n h) n
  · cases h
theorem Mq.imp {N N' : Addr → Prop} {H : Hp} (i : ∀ c, N c → N' c) : Same (Mq N H) (Mq N' H) := fun c o e => by
  unfold Mq at e
  split at e
  · rename_i n; exact Mq.at e (i _ n)
  · cases e
noncomputable def Sh (n k : Nat) (H : Hp) (x : V) : Prop := ∃ d, RpD H x d ∧ Sv d n k
theorem Sh.same {n k : Nat} {H H' : Hp} {x : V} (h : Sh n k H x) (s : Same H H') : Sh n k H' x := let ⟨d, a, b⟩ := h; ⟨d, a.same s, b⟩
theorem Sh.mono {n k n' k' : Nat} {H : Hp} {x : V} (h : Sh n k H x) (hn : n ≤ n' := by decide) (hk : k ≤ k' := by decide) : Sh n' k' H x := let ⟨d, a, b⟩ := h; ⟨d, a, b.mono hn hk⟩
theorem shs {n k : Nat} {H : Hp} : ∀ {xs : List V}, (∀ v ∈ xs, Sh n k H v) → ∃ ds, RpDs H xs ds ∧ ds.length = xs.length ∧ ∀ d ∈ ds, Sv d n k
  | [], _ => ⟨[], .nil, rfl, fun _ h => by cases h⟩
  | x :: xs, h => by
    obtain ⟨ds, r, l, sv⟩ := shs fun y hy => h y (List.mem_cons_of_mem _ hy)
    obtain ⟨d, rd, sd⟩ := h x (by simp)
    refine ⟨d :: ds, .cons rd r, by rw [List.length_cons, l]; rfl, fun e he => ?_⟩
    rcases List.mem_cons.mp he with rfl | he
    · exact sd
    · exact sv e he
theorem Sh.lst {n k m : Nat} {H : Hp} {a : Addr} {xs : List V} (h : H a = some (.lst xs)) (hm : xs.length ≤ m) (hx : ∀ v ∈ xs, Sh n k H v) : Sh (2 + m * (n + 2)) (k + 1) H (.ref a) := by
  obtain ⟨ds, r, l, sv⟩ := shs hx
  exact ⟨_, .lst h r, Sv.list sv (by omega)⟩
theorem Sh.tup {n k m : Nat} {H : Hp} {a : Addr} {xs : List V} (h : H a = some (.tup xs)) (hm : xs.length ≤ m) (hx : ∀ v ∈ xs, Sh n k H v) : Sh (3 + m * (n + 2)) (k + 1) H (.ref a) := by
  obtain ⟨ds, r, l, sv⟩ := shs hx
  exact ⟨_, .tup h r, Sv.tuple sv (by omega)⟩
noncomputable def Gd (L k : Nat) (H : Hp) (x : V) : Prop := (∀ n, Hd n H x) ∧ Sh L k H x
theorem Gd.same {L k : Nat} {H H' : Hp} {x : V} (h : Gd L k H x) (s : Same H H') : Gd L k H' x := ⟨fun n => Hd.mono n _ _ _ s (h.1 n), h.2.same s⟩
theorem Gd.mono {L k L' k' : Nat} {H : Hp} {x : V} (h : Gd L k H x) (hn : L ≤ L' := by decide) (hk : k ≤ k' := by decide) : Gd L' k' H x := ⟨h.1, h.2.mono hn hk⟩
theorem hd_sq {H : Hp} {a : Addr} {xs : List V} (h : SqA H a xs) (hl : xs.length ≤ 1000) (hx : ∀ v ∈ xs, ∀ n, Hd n H v) : ∀ n, Hd n H (.ref a)
  | 0 => h.thg
  | n + 1 => ⟨h.thg, fun b ys e q => by
      cases e
      rw [← sq_uniq h q]
      exact ⟨hl, fun v hv => hx v hv n⟩⟩
theorem Gd.lst {L k m : Nat} {H : Hp} {a : Addr} {xs : List V} (h : H a = some (.lst xs)) (hm : xs.length ≤ m) (hm2 : m ≤ 1000) (hx : ∀ v ∈ xs, Gd L k H v) : Gd (2 + m * (L + 2)) (k + 1) H (.ref a) :=
  ⟨hd_sq (.inl h) (Nat.le_trans hm hm2) fun v hv => (hx v hv).1, Sh.lst h hm fun v hv => (hx v hv).2⟩
theorem Gd.tup {L k m : Nat} {H : Hp} {a : Addr} {xs : List V} (h : H a = some (.tup xs)) (hm : xs.length ≤ m) (hm2 : m ≤ 1000) (hx : ∀ v ∈ xs, Gd L k H v) : Gd (3 + m * (L + 2)) (k + 1) H (.ref a) :=
  ⟨hd_sq (.inr h) (Nat.le_trans hm hm2) fun v hv => (hx v hv).1, Sh.tup h hm fun v hv => (hx v hv).2⟩
theorem hd_flat {H : Hp} {x : V} (h : Thg H x) (n : ∀ a ys, x = .ref a → ¬ SqA H a ys) : ∀ k, Hd k H x
  | 0 => h
  | _ + 1 => ⟨h, fun a ys e q => absurd q (n a ys e)⟩
theorem Gd.str {L : Nat} {H : Hp} {z : Str} (hz : z.length ≤ sizeLine) (hl : (PyData.str z).shown.length ≤ L) : Gd L 0 H (.str z) := ⟨hd_flat (.str hz) (fun a ys e => by cases e), ⟨.str z, .tr (.str z) rfl, ⟨rfl, Nat.le_refl _, hl⟩⟩⟩
theorem Gd.int {L : Nat} {H : Hp} {i : Int} (hl : Sv (.int i) L 0) : Gd L 0 H (.int i) := ⟨hd_flat (.int i) (fun a ys e => by cases e), ⟨.int i, .tr (.int i) rfl, hl⟩⟩
theorem Gd.bl {L : Nat} {H : Hp} {b : Bool} (hl : 5 ≤ L) : Gd L 0 H (.bl b) := ⟨hd_flat (.bl b) (fun a ys e => by cases e), ⟨.bool b, .tr (.bl b) rfl, ⟨rfl, Nat.le_refl _, Nat.le_trans (by cases b <;> decide +kernel) hl⟩⟩⟩
theorem Gd.non {L : Nat} {H : Hp} (hl : 4 ≤ L) : Gd L 0 H .non := ⟨hd_flat .non (fun a ys e => by cases e), ⟨.none, .tr .non rfl, ⟨rfl, Nat.le_refl _, Nat.le_trans (by decide +kernel) hl⟩⟩⟩
noncomputable abbrev Fr (H : Hp) : Addr → Prop := fun c => H c = none
noncomputable def GQ (N : Addr → Prop) (L k : Nat) (H : Hp) (x : V) : Prop := Gd L k (Mq N H) x
section
variable {N N' : Addr → Prop} {L k L' k' m : Nat} {H H' : Hp} {x : V}
theorem GQ.but (h : GQ N L k H x) (b : ButN N H H') : GQ N L k H' x := Gd.same h (Mq.but b)
theorem mono_gq : Mono (GQ N L k) := fun _ _ _ s h => h.but (ButN.of_same s)
theorem GQ.imp (h : GQ N L k H x) (i : ∀ c, N c → N' c) : GQ N' L k H x := Gd.same h (Mq.imp i)
theorem GQ.mono (h : GQ N L k H x) (hn : L ≤ L' := by decide) (hk : k ≤ k' := by decide) : GQ N L' k' H x := Gd.mono h hn hk
theorem GQ.lst {a : Addr} {xs : List V} (h : H a = some (.lst xs)) (n : N a) (hm : xs.length ≤ m) (hm2 : m ≤ 1000) (hx : ∀ v ∈ xs, GQ N L k H v) : GQ N (2 + m * (L + 2)) (k + 1) H (.ref a) := Gd.lst (Mq.at h n) hm hm2 hx
theorem GQ.tup {a : Addr} {xs : List V} (h : H a = some (.tup xs)) (n : N a) (hm : xs.length ≤ m) (hm2 : m ≤ 1000) (hx : ∀ v ∈ xs, GQ N L k H v) : GQ N (3 + m * (L + 2)) (k + 1) H (.ref a) := Gd.tup (Mq.at h n) hm hm2 hx
end
theorem butF {H A B : Hp} {p : Addr} {o : HO} (b : But p A B) (h : H p = some o) : ButN (Fr H) A B := fun c u n e => b c u (fun z => by subst z; have n : H c = none := n; rw [h] at n; cases n) e
theorem fr_sub {H H' : Hp} {p a : Addr} (b : But p H H') (v : DPV H' p a) {c : Addr} (h : H' c = none) : H c = none := b.free (Ne.symm (v.ne h)) h
theorem at_mem {xs : List V} {m : Nat} {r : Int} (hl : xs.length = m) (h0 : 0 ≤ r) (h1 : r < m) : ∃ x, atI xs r = some x ∧ x ∈ xs := by
  obtain ⟨j, rfl⟩ := Int.eq_ofNat_of_zero_le h0
  have hj : j < xs.length := by omega
  exact ⟨xs[j], atI_nat (List.getElem?_eq_getElem hj), List.getElem_mem hj⟩
theorem star_t0 {X : Cx} {ts es : List Expr} {x1} {pos : Pos} : starEach (.Tuple ts x1 pos :: es) X.env = (false, eval (.Tuple ts x1 pos) X.env) :: starEach es X.env := star_t
noncomputable def rE : Stmt → Expr
  | .Return (some (.Subscript e _ _)) _ => e
  | .Assign _ e _ => e
  | _ => .Name "" ⟨0, 0, 0, 0⟩
noncomputable def rW : Stmt → Expr → Stmt
  | .Return (some (.Subscript _ i p)) q, e => .Return (some (.Subscript e i p)) q
  | .Assign ts _ p, e => .Assign ts e p
  | s, _ => s
theorem name_go {i : Nat} {v : V} {σ : St} {H : Hp} {k : St → Hp → Prop} (h : k (σ.set i (some v)) H) : gName i v σ H k := h
theorem seq_lst {ta : TA} {g : TG} {r : TS} {D : Ends} {σ : St} {H : Hp} (h : ta σ H fun xs H1 => xs.length ≤ sizeLine ∧ ∀ l, H1 l = none → g (.ref l) σ (upd H1 l (.lst xs)) (r D)) : tSeq (tAsg (tLst ta) g) r D σ H := h
theorem pe_ta {X : Cx} {j x1} {p pos : Pos} : PE X (.Tuple [.Constant (.str "a") j p] x1 pos) (tTup (tCons (tC (.str "a")) tNil)) := pe_tup (pa_cons pe_str pa_nil)
theorem pe_la {X : Cx} {j} {p pos : Pos} : PE X (.List [.Constant (.str "a") j p] pos) (tLst (tCons (tC (.str "a")) tNil)) := pe_lst (pa_cons pe_str pa_nil)
end
end K56
namespace K56
open PySem L2
section
variable {P : Program} {w : World} {K : PySem.W.Frag} {mg : Str → Option Value} {base : Heap}
@[irreducible] noncomputable def oddE : Expr := rE ((defBody sLawPart).getD 1 (.Pass ⟨0, 0, 0, 0⟩))
theorem odd_eq : defBody sLawPart = (defBody sLawPart).set 1 (rW ((defBody sLawPart).getD 1 (.Pass ⟨0, 0, 0, 0⟩)) oddE) := by unfold oddE; rfl
theorem odd_sw {t : Option Expr} {l : Nat} {env : Env} : swapsWith oddE t l env = pure false := by unfold oddE; rfl
noncomputable abbrev oddT : TA := tCons (tC (.str "abcdefghi")) (tCons (tC (.str "A")) (tCons (tC (.str "a b")) (tCons (tC (.str "a1")) (tCons (tC (.str "a.")) (tCons (tC (.str "")) (tCons (tC (.int 7)) (tCons (tC (.bl true)) (tCons (tC .non) (tCons (tLst (tCons (tC (.str "a")) tNil)) (tCons (tTup (tCons (tC (.str "a")) tNil)) (tCons (tC (.int 0)) (tCons (tC (.str " a")) (tCons (tC (.str "a\n")) tNil)))))))))))))
theorem pe_odd {X : Cx} : PE X oddE (tLst oddT) := by
  have e : ∃ j1 j2 j3 j4 j5 j6 j7 j8 j9 j10 j11 j12 j13 j14 p1 p2 p3 p4 p5 p6 p7 p8 p9 p10 p11 p12 p13 p14 p15 p16 x1 q, oddE = .List [.Constant (.str "abcdefghi") j1 p1, .Constant (.str "A") j2 p2, .Constant (.str "a b") j3 p3, .Constant (.str "a1") j4 p4, .Constant (.str "a.") j5 p5, .Constant (.str "") j6 p6, .Constant (.int 7) j7 p7, .Constant (.bool true) j8 p8, .Constant .none j9 p9, .List [.Constant (.str "a") j10 p10] p11, .Tuple [.Constant (.str "a") j11 p12] x1 p13, .Constant (.int 0) j12 p14, .Constant (.str " a") j13 p15, .Constant (.str "a\n") j14 p16] q := by
    unfold oddE
    exact ⟨_, _, _, _, _, _, _, _, _, _, _, _, _, _, _, _, _, _, _, _, _, _, _, _, _, _, _, _, _, _, _, _, rfl⟩
  obtain ⟨j1, j2, j3, j4, j5, j6, j7, j8, j9, j10, j11, j12, j13, j14, p1, p2, p3, p4, p5, p6, p7, p8, p9, p10, p11, p12, p13, p14, p15, p16, x1, q, e⟩ := e
  rw [e]
  with_reducible exact pe_lst (pa_cons pe_str (pa_cons pe_str (pa_cons pe_str (pa_cons pe_str (pa_cons pe_str (pa_cons pe_str (pa_cons pe_int (pa_cons pe_bl (pa_cons pe_non (pa_cons pe_la (pa_cons pe_ta (pa_cons pe_int (pa_cons pe_str (pa_cons pe_str pa_nil star_c) star_c) star_c) star_t0) star_l) star_c) star_c) star_c) star_c) star_c) star_c) star_c) star_c) star_c)
noncomputable def spLP (K : PySem.W.Frag) : Sp := fun vs H Q _ => ∃ (p a : Addr) (z : Str), vs = [.ref p, .str z] ∧ DPen K H p a ∧ ∀ x H', GQ (Fr H) 40 1 H' x → DPV H' p a → But p H H' → Q x H'
theorem scLP : FnScope ["_law_pen_here", "_law_sort", "_law_names", "_law_odd"] ["_law_pen_here", "_law_sort"] (defScope sLawPart) := ⟨rfl, rfl, rfl, by decide +kernel, rfl, by decide +kernel, by decide +kernel⟩
theorem ok_lp {f : Addr} {fd : FuncData} (F : Fun K "_law_part" "_law_part" sLawPart f fd) (B : Blt mg) (c_law_draw : Cal P w K mg base 1 "_law_draw" ["_law_pen_here", "_law_many"] (spDrw K)) : FnOk P w K mg base CX0 2 f fd ["_law_pen_here", "_law_sort"] (spLP K) := by
  refine F.ok scLP (fun vs H Q E h => ?_) (fun cdv A outer s H vs Q E hr h => ?_)
  · obtain ⟨p, a, z, rfl, _⟩ := h
    rfl
  · obtain ⟨p, a, z, rfl, hP, k⟩ := h
    have nd := scLP.nd
    have hd : L2.Hd (Fr H) H := fun l e => e
    obtain ⟨po, hpo⟩ := hP.2.at
    have cs : ∀ {σ : St} {H0 : Hp} (z : Str), z.length ≤ sizeLine → (PyData.str z).shown.length ≤ 40 → Bu (GQ (Fr H) 40 1) σ H0 (tC (.str z)) := fun z h1 h2 => bu_c fun _ => (Gd.str (L := 40) h1 h2).mono (Nat.le_refl _) (by decide)
    rw [odd_eq]
    refine ⟨_, (pss_cons (ps_set (i := 2) nd rfl (Or.inl rfl) (pe_lst (pa_cons pe_str (pa_cons pe_str (pa_cons pe_str (pa_cons pe_str (pa_cons pe_str (pa_cons pe_str pa_nil star_c) star_c) star_c) star_c) star_c) star_c)))
      (pss_cons (ps_set (i := 3) nd rfl (Or.inl rfl) pe_odd odd_sw)
      (pss_cons (ps_if (pt_cmpR (op_eqX hr.units) (pe_cal c_law_draw (hr.mono (by decide)) rfl (pa_cons (pv 0) (pa_cons pe_int pa_nil))) pe_int (nomark _)) (pss_one (ps_ret (pe_ix (ix_X K hr.units) (pv 3) (pe_cal c_law_draw (hr.mono (by decide)) rfl (pa_cons (pv 0) (pa_cons pe_int pa_nil))) (fun _ _ => rfl)))) pss_nil)
      (pss_cons (ps_if (pt_cmpR (op_eqX hr.units) (pv 1) pe_str (nomark _)) (pss_one (ps_ret (pe_ix (ix_X K hr.units) (pe_lst (pa_cons pe_str (pa_cons pe_str (pa_cons pe_str (pa_cons pe_str pa_nil))))) (pe_cal c_law_draw (hr.mono (by decide)) rfl (pa_cons (pv 0) (pa_cons pe_int pa_nil))) (fun _ _ => rfl)))) pss_nil)
      (pss_cons (ps_if (PW.pt (pw_and (pt_cmpR (op_eqX hr.units) (pv 1) pe_str (nomark _)) (pw_and1 (pt_cmpR (op_eqX hr.units) (pe_cal c_law_draw (hr.mono (by decide)) rfl (pa_cons (pv 0) (pa_cons pe_int pa_nil))) pe_int (nomark _))))) (pss_one (ps_ret pe_str)) pss_nil)
      (pss_one (ps_ret (pe_ix (ix_X K hr.units) (pv 2) (pe_cal c_law_draw (hr.mono (by decide)) rfl (pa_cons (pv 0) (pa_cons pe_int pa_nil))) (fun _ _ => rfl))))))))), ?_⟩
    have bn : ∀ (σ : St), BuA 6 (GQ (Fr H) 40 1) σ H (tCons (tC (.str "a")) (tCons (tC (.str "tie")) (tCons (tC (.str "abcdefgh")) (tCons (tC (.str "top")) (tCons (tC (.str "z")) (tCons (tC (.str "ab")) tNil)))))) := fun σ =>
      bua_cons mono_gq (cs _ (by decide +kernel) (by decide +kernel)) (bua_cons mono_gq (cs _ (by decide +kernel) (by decide +kernel)) (bua_cons mono_gq (cs _ (by decide +kernel) (by decide +kernel)) (bua_cons mono_gq (cs _ (by decide +kernel) (by decide +kernel)) (bua_cons mono_gq (cs _ (by decide +kernel) (by decide +kernel)) (bua_cons mono_gq (cs _ (by decide +kernel) (by decide +kernel)) bua_nil)))))
    have ca : ∀ H0 : Hp, GQ (Fr H) 3 0 H0 (.str "a") := fun H0 => Gd.str (by decide +kernel) (by decide +kernel)
    have bl_ : ∀ (σ : St), Bu (GQ (Fr H) 40 1) σ H (tLst (tCons (tC (.str "a")) tNil)) := fun σ H1 s1 Q k => ⟨(by show 1 ≤ sizeLine; decide), fun l hl => k _ _ (Same.new hl) (GQ.mono (GQ.lst (m := 1) upd_same (hd l (same_free s1 hl)) (Nat.le_refl 1) (by decide) fun v hv => by rw [List.mem_singleton.mp hv]; exact ca _) (by decide) (by decide))⟩
    have bt_ : ∀ (σ : St), Bu (GQ (Fr H) 40 1) σ H (tTup (tCons (tC (.str "a")) tNil)) := fun σ H1 s1 Q k => ⟨(by show 1 ≤ sizeLine; decide), fun l hl => k _ _ (Same.new hl) (GQ.mono (GQ.tup (m := 1) upd_same (hd l (same_free s1 hl)) (Nat.le_refl 1) (by decide) fun v hv => by rw [List.mem_singleton.mp hv]; exact ca _) (by decide) (by decide))⟩
    have ci : ∀ {σ : St} (i : Int), Sv (.int i) 40 0 → Bu (GQ (Fr H) 40 1) σ H (tC (.int i)) := fun i h => bu_c fun _ => (Gd.int (L := 40) h).mono (Nat.le_refl _) (by decide)
    have bo : ∀ (σ : St), BuA 14 (GQ (Fr H) 40 1) σ H oddT := fun σ =>
      bua_cons mono_gq (cs _ (by decide +kernel) (by decide +kernel)) (bua_cons mono_gq (cs _ (by decide +kernel) (by decide +kernel)) (bua_cons mono_gq (cs _ (by decide +kernel) (by decide +kernel)) (bua_cons mono_gq (cs _ (by decide +kernel) (by decide +kernel)) (bua_cons mono_gq (cs _ (by decide +kernel) (by decide +kernel)) (bua_cons mono_gq (cs _ (by decide +kernel) (by decide +kernel)) (bua_cons mono_gq (ci 7 ⟨rfl, by decide, by decide +kernel⟩) (bua_cons mono_gq (bu_c fun _ => (Gd.bl (L := 40) (by decide)).mono (Nat.le_refl _) (by decide)) (bua_cons mono_gq (bu_c fun _ => (Gd.non (L := 40) (by decide)).mono (Nat.le_refl _) (by decide)) (bua_cons mono_gq (bl_ _) (bua_cons mono_gq (bt_ _) (bua_cons mono_gq (ci 0 ⟨rfl, by decide, by decide +kernel⟩) (bua_cons mono_gq (cs _ (by decide +kernel) (by decide +kernel)) (bua_cons mono_gq (cs _ (by decide +kernel) (by decide +kernel)) bua_nil)))))))))))))
    refine seq_lst ?_
    refine bn _ H (Same.refl _) _ fun ns H1 s1 nl gn => ⟨by rw [nl]; decide, fun l1 hl1 => ?_⟩
    have s2 := s1.trans (Same.new (o := .lst ns) hl1)
    have e2 : upd H1 l1 (.lst ns) l1 = some (.lst ns) := upd_same
    have gn := fun x hx => mono_gq _ _ _ (Same.new (o := .lst ns) hl1) (gn x hx)
    have n1 : l1 ≠ p := Ne.symm ((hP.2.same s1).ne hl1)
    generalize upd H1 l1 (.lst ns) = H2 at s2 e2 gn ⊢
    refine name_go ?_
    refine seq_lst ?_
    refine bo _ H2 s2 _ fun os H3 s3 ol go => ⟨by rw [ol]; decide, fun l2 hl2 => ?_⟩
    have s4 := s3.trans (Same.new (o := .lst os) hl2)
    have e4 : upd H3 l2 (.lst os) l2 = some (.lst os) := upd_same
    have go := fun x hx => mono_gq _ _ _ (Same.new (o := .lst os) hl2) (go x hx)
    have n2 : l2 ≠ p := Ne.symm ((hP.2.same (s2.trans s3)).ne hl2)
    generalize upd H3 l2 (.lst os) = H4 at s4 e4 go ⊢
    have e1 := s4 _ _ e2
    have gn := fun x hx => mono_gq _ _ _ s4 (gn x hx)
    have v4 := hP.2.same (s2.trans s4)
    have b4 : But p H H4 := But.of_same (s2.trans s4)
    clear e2 s1 s3 hl1 hl2 s2 s4
    refine name_go ?_
    refine ⟨_, rfl, p, a, 4, rfl, hP.but b4 v4, by decide, by decide, fun r H5 _ _ v5 b5 => .sc rfl ⟨_, rfl, ite2 (fun _ => ?_) (fun _ => ?_)⟩⟩
    · refine ⟨_, rfl, _, rfl, p, a, 14, rfl, hP.but (b4.trans b5) v5, by decide, by decide, fun r H6 r0 r1 v6 b6 => ?_⟩
      obtain ⟨x, hx, mx⟩ := at_mem ol r0 r1
      exact .lst (.of (b6 _ _ n2 (b5 _ _ n2 e4))) hx (k x H6 ((go x mx).but (butF (b5.trans b6) hpo)) v6 ((b4.trans b5).trans b6))
    · have b5' := b4.trans b5
      have e5 := b5 _ _ n1 e1
      have last : ∀ H' : Hp, DPV H' p a → But p H5 H' → spDrw K [.ref p, .int 6] H' (fun y H2 => IxX K H2 (.ref l1) y Q) E0 := fun H' v' b' => ⟨p, a, 6, rfl, hP.but (b5'.trans b') v', by decide, by decide, fun r H6 r0 r1 v6 b6 => by
        obtain ⟨x, hx, mx⟩ := at_mem nl r0 r1
        exact .lst (.of (b6 _ _ n1 (b' _ _ n1 e5))) hx (k x H6 ((gn x mx).but (butF ((b5.trans b').trans b6) hpo)) v6 ((b5'.trans b').trans b6))⟩
      refine ⟨_, rfl, .sc rfl ⟨_, rfl, ite2 (fun _ => ?_) (fun _ => ?_)⟩⟩
      · refine ⟨(by show 4 ≤ sizeLine; decide), fun l3 hl3 => ?_⟩
        have n3 : l3 ≠ p := Ne.symm (v5.ne hl3)
        have s6 := Same.new (o := .lst [V.str "first", V.str "last", V.str "last", V.str "middle"]) hl3
        have e6 : upd H5 l3 (.lst [V.str "first", V.str "last", V.str "last", V.str "middle"]) l3 = some (.lst [V.str "first", V.str "last", V.str "last", V.str "middle"]) := upd_same
        generalize upd H5 l3 (.lst [V.str "first", V.str "last", V.str "last", V.str "middle"]) = H6 at s6 e6 ⊢
        refine ⟨_, rfl, p, a, 4, rfl, hP.but (b5'.trans (But.of_same s6)) (v5.same s6), by decide, by decide, fun r H7 r0 r1 v7 b7 => ?_⟩
        obtain ⟨x, hx, mx⟩ := at_mem (xs := [V.str "first", V.str "last", V.str "last", V.str "middle"]) (m := 4) rfl r0 r1
        refine .lst (.of (b7 _ _ n3 e6)) hx (k x H7 ?_ v7 ((b5'.trans (But.of_same s6)).trans b7))
        have gs : ∀ z ∈ (["first", "last", "last", "middle"] : List Str), GQ (Fr H) 40 1 H7 (.str z) := fun z hz => GQ.mono (L := 40) (k := 0) (Gd.str (by
          have : ∀ z ∈ (["first", "last", "last", "middle"] : List Str), z.length ≤ 100 := by decide +kernel
          exact Nat.le_trans (this z hz) (by decide)) (by
          have : ∀ z ∈ (["first", "last", "last", "middle"] : List Str), (PyData.str z).shown.length ≤ 40 := by decide +kernel
          exact this z hz)) (Nat.le_refl _) (by decide)
        have mx : x ∈ List.map V.str ["first", "last", "last", "middle"] := mx
        obtain ⟨z, hz, rfl⟩ := List.mem_map.mp mx
        exact gs z hz
      · refine ⟨_, rfl, .sc rfl ⟨_, rfl, ite2 (fun _ => ?_) (fun _ => ?_)⟩⟩
        · refine ⟨_, rfl, p, a, 2, rfl, hP.but b5' v5, by decide, by decide, fun r H6 r0 r1 v6 b6 => .sc rfl ⟨_, rfl, ite2 (fun _ => ?_) (fun _ => ?_)⟩⟩
          · exact k _ H6 (GQ.mono (L := 40) (k := 0) (Gd.str (by decide +kernel) (by decide +kernel)) (Nat.le_refl _) (by decide)) v6 (b5'.trans b6)
          · exact ⟨_, rfl, _, rfl, last H6 v6 b6⟩
        · exact iteF ⟨_, rfl, _, rfl, last H5 v5 (But.refl p H5)⟩
end
end K56
namespace K56
open PySem L2
section
variable {P : Program} {w : World} {K : PySem.W.Frag} {mg : Str → Option Value} {base : Heap}
noncomputable def spLM (K : PySem.W.Frag) : Sp := fun vs H Q _ => ∃ (p a : Addr), vs = [.ref p] ∧ DPen K H p a ∧ ∀ x H', GQ (Fr H) 130 2 H' x → DPV H' p a → But p H H' → Q x H'
theorem scLM : FnScope ["_law_pen_here", "_law_some"] ["_law_pen_here"] (defScope sLawMembers) := ⟨rfl, rfl, rfl, by decide +kernel, rfl, by decide +kernel, by decide +kernel⟩
theorem ok_lm {f : Addr} {fd : FuncData} (F : Fun K "_law_members" "_law_members" sLawMembers f fd) (B : Blt mg) (c_law_draw : Cal P w K mg base 1 "_law_draw" ["_law_pen_here", "_law_many"] (spDrw K)) (c_law_part : Cal P w K mg base 2 "_law_part" ["_law_pen_here", "_law_sort"] (spLP K)) : FnOk P w K mg base CX0 3 f fd ["_law_pen_here"] (spLM K) := by
  refine F.ok scLM (fun vs H Q E h => ?_) (fun cdv A outer s H vs Q E hr h => ?_)
  · obtain ⟨p, a, rfl, _⟩ := h
    rfl
  · obtain ⟨p, a, rfl, hP, k⟩ := h
    have nd := scLM.nd
    refine ⟨_, (pss_cons (ps_setC (i := 1) nd rfl rfl (by rfl) (defScope sLawMembers) ["_law_pen_here", "_law_some"] ["_law_k"] [0] ["_law_k", "_law_pen_here"] rfl (pi_range1 rfl B.range (pa_cons (pe_cal c_law_draw (hr.mono (by decide)) rfl (pa_cons (pv 0) (pa_cons pe_int pa_nil))) pa_nil)) (fun _ _ _ _ _ => (pg_name (i := 0) (show (["_law_k", "_law_pen_here"] : List Str).Nodup by decide) rfl (Or.inl rfl))) (fun _ _ _ _ _ => pts_nil) (fun _ _ _ _ _ => (pe_cal c_law_part (hr.mono (by decide)) rfl (pa_cons (pv 1) (pa_cons pe_str pa_nil)))))
      (pss_one (ps_ret (pe_ix (ix_X K hr.units) (pe_lst (pa_cons (pv 1) (pa_cons (b_tuple K B (pa_cons (pv 1) pa_nil)) (pa_cons (pv 1) (pa_cons (b_dicK K rfl hr.units B (pa_cons (pe_lst (pa_cons (pe_tup (pa_cons pe_int (pa_cons pe_str pa_nil))) pa_nil)) pa_nil)) (pa_cons pe_str (pa_cons pe_non pa_nil star_c) star_c) star_f) star_n) star_f) star_n)) (pe_cal c_law_draw (hr.mono (by decide)) rfl (pa_cons (pv 0) (pa_cons pe_int pa_nil))) (fun _ _ => rfl))))), ?_⟩
    refine ⟨_, rfl, p, a, 4, rfl, hP, by decide, by decide, fun r H1 r0 r1 v1 b1 => ?_⟩
    obtain ⟨n0, rfl⟩ := Int.eq_ofNat_of_zero_le r0
    obtain ⟨po, hpo⟩ := hP.2.at
    refine ⟨_, rfl, by omega, by omega, ?_⟩
    refine comp_range (fun D i acc σ' H' => ∃ o, σ' = [o, some (.ref p)] ∧ acc.length = i ∧ (∀ x ∈ acc, GQ (fun c => H c = none ∧ c ≠ D) 40 1 H' x) ∧ DPV H' p a ∧ But p H1 H' ∧ H1 D = none ∧ D ≠ p) fun D hD => ⟨?_, ?_, ?_⟩
    · have nD : D ≠ p := Ne.symm (v1.ne hD)
      exact ⟨none, rfl, rfl, (fun _ h => by cases h), v1.upd (Ne.symm nD), (But.refl p H1).at hD, hD, nD⟩
    · rintro i acc σ' H' hi ⟨o, rfl, al, ga, v, b, hD0, nD⟩ hacc
      have hi : i < n0 := by simpa using hi
      refine gYes ?_
      refine ⟨_, rfl, p, a, _, rfl, hP.but (b1.trans b) v, fun x H2 gx v2 b2 => ?_⟩
      have hacc2 := b2 _ _ nD hacc
      refine ⟨hacc2, small1000 (by omega), _, rfl, by rw [List.length_append, al]; rfl, fun y hy => ?_, v2.upd (Ne.symm nD), (b.trans b2).at hD0, hD0, nD⟩
      have bN : ButN (fun c => H c = none ∧ c ≠ D) H2 (upd H2 D (.lst (acc ++ [x]))) := fun c u n e => by rw [upd_ne n.2]; exact e
      rcases List.mem_append.mp hy with hy | hy
      · refine ((ga y hy).but fun c u n e => ?_).but bN
        exact butF b2 hpo c u n.1 e
      · rw [List.mem_singleton.mp hy]
        refine (gx.imp fun c hc => ⟨?_, fun z => ?_⟩).but bN
        · exact fr_sub (b1.trans b) v hc
        · have hc : H' c = none := hc
          rw [z, hacc] at hc; cases hc
    · rintro acc σ' H2 ⟨o, rfl, al, ga, v2, b2, hD0, nD⟩ hacc
      have al : acc.length ≤ 3 := by omega
      have ga : ∀ x ∈ acc, GQ (Fr H) 40 1 H2 x := fun x hx => (ga x hx).imp fun c n => n.1
      have b02 := b1.trans b2
      have fD : Fr H D := fr_sub b1 v1 hD0
      have a2 := hP.but b02 v2
      refine ⟨_, rfl, _, rfl, D, acc, rfl, .of hacc, fun lt hlt => ?_⟩
      have nlt : lt ≠ p := Ne.symm (v2.ne hlt)
      have s3 := Same.new (o := .tup acc) hlt
      have e3 : upd H2 lt (.tup acc) lt = some (.tup acc) := upd_same
      have fl : Fr H lt := fr_sub b02 v2 hlt
      generalize upd H2 lt (.tup acc) = H3 at s3 e3 ⊢
      refine ⟨_, rfl, (by show 2 ≤ sizeLine; decide), fun t1 h1 => ⟨(by show 1 ≤ sizeLine; decide), fun l1 h2 => ⟨l1, _, [(.inl 0, .str "a")], rfl, .of upd_same, rfl, fun i q x hq hx => ?_, fun d hd => ?_⟩⟩⟩
      · match i, hq, hx with
        | 0, hq, hx =>
          cases hq; cases hx
          exact ⟨t1, rfl, .of (Same.new h2 _ _ upd_same)⟩
      · have s4 := (s3.trans (Same.new (o := .tup [V.int 0, V.str "a"]) h1)).trans (Same.new (o := .lst [V.ref t1]) h2)
        have s5 := s4.trans (Same.new (o := .dK (mkK [(.inl 0, .str "a")])) hd)
        have e5 : upd (upd (upd H3 t1 (.tup [V.int 0, V.str "a"])) l1 (.lst [V.ref t1])) d (.dK (mkK [(.inl 0, .str "a")])) d = some (.dK [(.inl 0, .str "a")]) := upd_same
        have fd : Fr H d := fr_sub (b02.trans (But.of_same s4)) (v2.same s4) hd
        have t5 : Same H3 _ := ((Same.new (o := .tup [V.int 0, V.str "a"]) h1).trans (Same.new (o := .lst [V.ref t1]) h2)).trans (Same.new (o := .dK (mkK [(.inl 0, .str "a")])) hd)
        generalize upd (upd (upd H3 t1 (.tup [V.int 0, V.str "a"])) l1 (.lst [V.ref t1])) d (.dK (mkK [(.inl 0, .str "a")])) = H5 at s5 e5 t5 ⊢
        refine ⟨(by show 6 ≤ sizeLine; decide), fun L hL => ?_⟩
        have s6 := s5.trans (Same.new (o := .lst [V.ref D, V.ref lt, V.ref D, V.ref d, V.str "ab", V.non]) hL)
        have e6 : upd H5 L (.lst [V.ref D, V.ref lt, V.ref D, V.ref d, V.str "ab", V.non]) L = some (.lst [V.ref D, V.ref lt, V.ref D, V.ref d, V.str "ab", V.non]) := upd_same
        have nL : L ≠ p := Ne.symm ((v2.same s5).ne hL)
        have t6 := Same.new (o := .lst [V.ref D, V.ref lt, V.ref D, V.ref d, V.str "ab", V.non]) hL
        generalize upd H5 L (.lst [V.ref D, V.ref lt, V.ref D, V.ref d, V.str "ab", V.non]) = H6 at s6 e6 t6 ⊢
        have b6 := b02.trans (But.of_same (p := p) s6)
        refine ⟨_, rfl, p, a, 6, rfl, hP.but b6 (v2.same s6), by decide, by decide, fun r H7 r0 r1 v7 b7 => ?_⟩
        obtain ⟨x, hx, mx⟩ := at_mem (xs := [V.ref D, V.ref lt, V.ref D, V.ref d, V.str "ab", V.non]) (m := 6) rfl r0 r1
        refine .lst (.of (b7 _ _ nL e6)) hx (k x H7 (GQ.but ?_ (butF b7 hpo)) v7 (b6.trans b7))
        have g6 : ∀ x ∈ acc, GQ (Fr H) 40 1 H6 x := fun x hx => mono_gq _ _ _ s6 (ga x hx)
        have gD : GQ (Fr H) 130 2 H6 (.ref D) := (GQ.lst (m := 3) (s6 _ _ hacc) fD al (by decide) g6).mono
        have gt : GQ (Fr H) 130 2 H6 (.ref lt) := (GQ.tup (m := 3) (t6 _ _ (t5 _ _ e3)) fl al (by decide) g6).mono
        have gd : GQ (Fr H) 130 2 H6 (.ref d) := by
          have h : Mq (Fr H) H6 d = some (.dK [(.inl 0, .str "a")]) := Mq.at (t6 _ _ e5) fd
          refine ⟨hd_flat (.dK h) (fun b ys e q => ?_), ⟨_, .dc h rfl, ⟨rfl, by decide, by decide +kernel⟩⟩⟩
          cases e
          rcases q with q | q <;> rw [h] at q <;> cases q
        simp only [List.mem_cons, List.not_mem_nil, or_false] at mx
        rcases mx with rfl | rfl | rfl | rfl | rfl | rfl
        · exact gD
        · exact gt
        · exact gD
        · exact gd
        · exact (Gd.str (L := 130) (by decide +kernel) (by decide +kernel)).mono (Nat.le_refl _) (by decide)
        · exact (Gd.non (L := 130) (by decide)).mono (Nat.le_refl _) (by decide)
end
end K56
namespace K56
open PySem L2
section
variable {P : Program} {w : World} {K : PySem.W.Frag} {mg : Str → Option Value} {base : Heap}
theorem seq_inv {s r : TS} {D : Ends} {σ : St} {H : Hp} (Inv : St → Hp → Prop) (fin : ∀ σ' H', Inv σ' H' → r D σ' H') (main : ∀ N : St → Hp → Prop, (∀ σ' H', Inv σ' H' → N σ' H') → s { D with nx := N } σ H) : tSeq s r D σ H := main _ fin
noncomputable def Mn : Nat → Nat
  | 0 => 130
  | n + 1 => 3 + 2 * (3 + 4 * (Mn n + 2) + 2)
noncomputable def Lt (n : Nat) : Nat := 3 + 4 * (Mn n + 2)
noncomputable def kk (n : Nat) : Nat := 2 * n + 2
theorem Mn_ge : ∀ n, 130 ≤ Mn n
  | 0 => Nat.le_refl _
  | n + 1 => by have := Mn_ge n; show 130 ≤ 3 + 2 * (3 + 4 * (Mn n + 2) + 2); omega
noncomputable def NoDc (H : Hp) (x : V) : Prop := ∀ a kvs, x = .ref a → H a ≠ some (.dK kvs)
noncomputable def spLT (K : PySem.W.Frag) (n : Nat) : Sp := fun vs H Q _ => ∃ (p a : Addr), vs = [.ref p, .int (n : Int)] ∧ DPen K H p a ∧ ∀ x H', GQ (Fr H) (Lt n) (kk n + 1) H' x → NoDc H' x → DPV H' p a → But p H H' → Q x H'
noncomputable def spLTp (K : PySem.W.Frag) : Nat → Sp
  | 0 => fun _ _ _ _ => False
  | n + 1 => spLT K n
theorem scLT : FnScope ["_law_pen_here", "_law_deep", "_law_word", "_law_name", "_law_found", "_law_some", "_law_pick"] ["_law_pen_here", "_law_deep"] (defScope sLawThing) := ⟨rfl, rfl, rfl, by decide +kernel, rfl, by decide +kernel, by decide +kernel⟩
theorem in2i {i a b : Int} (h : inV (.int i) [.int a, .int b] = true) : i = a ∨ i = b := by
  unfold inV at h
  simp only [List.any_cons, List.any_nil, Bool.or_false, Bool.or_eq_true] at h
  rcases h with h | h
  · have h : (a == i) = true := h
    exact .inl (beq_iff_eq.mp h).symm
  · have h : (b == i) = true := h
    exact .inr (beq_iff_eq.mp h).symm
theorem gq_strs {N : Addr → Prop} {L k : Nat} {H : Hp} {ss : List Str} (h : ∀ z ∈ ss, z.length ≤ 100 ∧ (PyData.str z).shown.length ≤ 100) (hL : 100 ≤ L) {x : V} (hx : x ∈ ss.map V.str) : GQ N L k H x := by
  obtain ⟨z, hz, rfl⟩ := List.mem_map.mp hx
  exact GQ.mono (L := L) (k := 0) (Gd.str (Nat.le_trans (h z hz).1 (by decide)) (Nat.le_trans (h z hz).2 hL)) (Nat.le_refl _) (Nat.zero_le _)
noncomputable def getIf : Nat → Stmt → Expr
  | 0, .If _ [.Assign _ e _] _ _ => e
  | n + 1, .If _ _ [s] _ => getIf n s
  | _, _ => .Name "" ⟨0, 0, 0, 0⟩
noncomputable def chg (g : Expr → Expr) : Nat → Stmt → Stmt
  | 0, .If c [.Assign ts e p] o q => .If c [.Assign ts (g e) p] o q
  | n + 1, .If c b [s] q => .If c b [chg g n s] q
  | _, s => s
noncomputable def setL (l' : Expr) : Expr → Expr
  | .Tuple (.Subscript _ i p :: r) c q => .Tuple (.Subscript l' i p :: r) c q
  | e => e
noncomputable def getL : Expr → Expr
  | .Tuple (.Subscript l _ _ :: _) _ _ => l
  | e => e
@[irreducible] noncomputable def nineE : Expr := getL (getIf 5 ((defBody sLawThing).getD 2 (.Pass ⟨0, 0, 0, 0⟩)))
theorem nine_eq : defBody sLawThing = (defBody sLawThing).set 2 (chg (setL nineE) 5 ((defBody sLawThing).getD 2 (.Pass ⟨0, 0, 0, 0⟩))) := by unfold nineE; rfl
noncomputable abbrev nineT : TA := tCons (tC (.str "ties")) (tCons (tC (.str "")) (tCons (tC (.str "Tie")) (tCons (tC (.str "first")) (tCons (tC .non) (tCons (tC (.int 0)) (tCons (tTup (tCons (tC (.str "tie")) tNil)) tNil))))))
theorem pe_tt {X : Cx} {j x1} {p pos : Pos} : PE X (.Tuple [.Constant (.str "tie") j p] x1 pos) (tTup (tCons (tC (.str "tie")) tNil)) := pe_tup (pa_cons pe_str pa_nil)
theorem pe_nine {X : Cx} : PE X nineE (tLst nineT) := by
  have e : ∃ j1 j2 j3 j4 j5 j6 j7 p1 p2 p3 p4 p5 p6 p7 p8 x1 q, nineE = .List [.Constant (.str "ties") j1 p1, .Constant (.str "") j2 p2, .Constant (.str "Tie") j3 p3, .Constant (.str "first") j4 p4, .Constant .none j5 p5, .Constant (.int 0) j6 p6, .Tuple [.Constant (.str "tie") j7 p7] x1 p8] q := by
    unfold nineE
    exact ⟨_, _, _, _, _, _, _, _, _, _, _, _, _, _, _, _, _, rfl⟩
  obtain ⟨j1, j2, j3, j4, j5, j6, j7, p1, p2, p3, p4, p5, p6, p7, p8, x1, q, e⟩ := e
  rw [e]
  with_reducible exact pe_lst (pa_cons pe_str (pa_cons pe_str (pa_cons pe_str (pa_cons pe_str (pa_cons pe_non (pa_cons pe_int (pa_cons pe_tt pa_nil star_t0) star_c) star_c) star_c) star_c) star_c) star_c)
theorem ok_lt1 {f : Addr} {fd : FuncData} {n : Nat} (hn : n ≤ 2) (F : Fun K "_law_thing" "_law_thing" sLawThing f fd) (B : Blt mg) (c_law_draw : Cal P w K mg base 1 "_law_draw" ["_law_pen_here", "_law_many"] (spDrw K)) (c_law_part : Cal P w K mg base 2 "_law_part" ["_law_pen_here", "_law_sort"] (spLP K)) (c_law_members : Cal P w K mg base 3 "_law_members" ["_law_pen_here"] (spLM K))
    (c_law_thing : Cal P w K mg base (n + 3) "_law_thing" ["_law_pen_here", "_law_deep"] (spLTp K n)) : FnOk P w K mg base CX0 (n + 3 + 1) f fd ["_law_pen_here", "_law_deep"] (spLT K n) := by
  refine F.ok scLT (fun vs H Q E h => ?_) (fun cdv A outer s H vs Q E hr h => ?_)
  · obtain ⟨p, a, rfl, _⟩ := h
    rfl
  · obtain ⟨p, a, rfl, hP, k⟩ := h
    have nd := scLT.nd
    obtain ⟨po, hpo⟩ := hP.2.at
    have mg_ := Mn_ge n
    rw [nine_eq]
    refine ⟨_, (pss_cons (ps_set (i := 2) nd rfl (Or.inl rfl) (pe_cal c_law_draw (hr.mono (by omega)) rfl (pa_cons (pv 0) (pa_cons pe_int pa_nil))))
      (pss_cons (ps_set (i := 3) nd rfl (Or.inl rfl) (pe_cal c_law_part (hr.mono (by omega)) rfl (pa_cons (pv 0) (pa_cons pe_str pa_nil))))
      (pss_cons (ps_if (pt_cmpR op_ltX (pv 2) pe_int (nomark _)) (pss_one (ps_set (i := 4) nd rfl (Or.inl rfl) (pe_tup (pa_cons (pe_ix (ix_X K hr.units) (pe_lst (pa_cons pe_str (pa_cons pe_str (pa_cons pe_str pa_nil)))) (pv 2) (fun _ _ => rfl)) (pa_cons (pv 3) (pa_cons (pe_cal c_law_part (hr.mono (by omega)) rfl (pa_cons (pv 0) (pa_cons pe_str pa_nil))) pa_nil)))))) (pss_one (ps_if (pt_cmpR (op_inX K hr.units) (pv 2) (pe_tup (pa_cons pe_int (pa_cons pe_int pa_nil))) (by with_unfolding_all rfl)) (pss_one (ps_set (i := 4) nd rfl (Or.inl rfl) (pe_tup (pa_cons (pe_ix (ix_X K hr.units) (pe_lst (pa_cons pe_str (pa_cons pe_str pa_nil))) (pe_op op_sub (pv 2) pe_int) (fun _ _ => rfl)) (pa_cons (pv 3) pa_nil))))) (pss_one (ps_if (pt_cmpR (op_eqX hr.units) (pv 2) pe_int (nomark _)) (pss_one (ps_set (i := 4) nd rfl (Or.inl rfl) (pe_tup (pa_cons pe_str (pa_cons (pv 3) (pa_cons (pe_cal c_law_part (hr.mono (by omega)) rfl (pa_cons (pv 0) (pa_cons pe_str pa_nil))) pa_nil)))))) (pss_one (ps_if (pt_cmpR (op_eqX hr.units) (pv 2) pe_int (nomark _)) (pss_one (ps_set (i := 4) nd rfl (Or.inl rfl) (pe_tup (pa_cons pe_str (pa_cons (pv 3) (pa_cons (pe_cal c_law_members (hr.mono (by omega)) rfl (pa_cons (pv 0) pa_nil)) pa_nil)))))) (pss_one (ps_if (pt_cmpR (op_inX K hr.units) (pv 2) (pe_tup (pa_cons pe_int (pa_cons pe_int pa_nil))) (by with_unfolding_all rfl)) (pss_one (ps_set (i := 4) nd rfl (Or.inl rfl) (pe_tup (pa_cons (pe_ix (ix_X K hr.units) (pe_lst (pa_cons pe_str (pa_cons pe_str pa_nil))) (pe_op op_sub (pv 2) pe_int) (fun _ _ => rfl)) (pa_cons (pe_cal c_law_part (hr.mono (by omega)) rfl (pa_cons (pv 0) (pa_cons pe_str pa_nil))) (pa_cons (pv 3) pa_nil)))))) (pss_one (ps_if (pt_cmpR (op_eqX hr.units) (pv 2) pe_int (nomark _)) (pss_one (ps_set (i := 4) nd rfl (Or.inl rfl) (pe_tup (pa_cons (pe_ix (ix_X K hr.units) pe_nine (pe_cal c_law_draw (hr.mono (by omega)) rfl (pa_cons (pv 0) (pa_cons pe_int pa_nil))) (fun _ _ => rfl)) (pa_cons (pv 3) (pa_cons (pv 3) pa_nil)))))) (pss_cons (ps_setC (i := 5) nd rfl rfl (by rfl) (defScope sLawThing) ["_law_pen_here", "_law_deep", "_law_word", "_law_name", "_law_found", "_law_some", "_law_pick"] ["_law_k"] [0, 1] ["_law_k", "_law_pen_here", "_law_deep"] rfl (pi_range1 rfl B.range (pa_cons (pe_op op_mul (pe_cal c_law_draw (hr.mono (by omega)) rfl (pa_cons (pv 0) (pa_cons pe_int pa_nil))) (b_int B (pa_cons (pe_cmpR op_gt (pv 1) pe_int (nomark _)) pa_nil))) pa_nil)) (fun _ _ _ _ _ => (pg_name (i := 0) (show (["_law_k", "_law_pen_here", "_law_deep"] : List Str).Nodup by decide) rfl (Or.inl rfl))) (fun _ _ _ _ _ => pts_nil) (fun _ _ _ _ _ => (pe_cal c_law_thing (hr.mono (by omega)) rfl (pa_cons (pv 1) (pa_cons (pe_op op_sub (pv 2) pe_int) pa_nil)))))
      (pss_one (ps_set (i := 4) nd rfl (Or.inl rfl) (pe_tup (pa_cons pe_str (pa_cons (pe_ix (ix_X K hr.units) (pe_lst (pa_cons (pv 5) (pa_cons (b_tuple K B (pa_cons (pv 5) pa_nil)) (pa_cons (pv 5) (pa_cons pe_non pa_nil))))) (pe_cal c_law_draw (hr.mono (by omega)) rfl (pa_cons (pv 0) (pa_cons pe_int pa_nil))) (fun _ _ => rfl)) pa_nil)))))))))))))))))
      (pss_cons (ps_set (i := 6) nd rfl (Or.inl rfl) (pe_cal c_law_draw (hr.mono (by omega)) rfl (pa_cons (pv 0) (pa_cons pe_int pa_nil))))
      (pss_cons (ps_if (pt_cmpR (op_eqX hr.units) (pv 6) pe_int (nomark _)) (pss_one (ps_ret (pe_op (op_catTA K) (pv 4) (pe_tup (pa_cons (pv 3) pa_nil))))) pss_nil)
      (pss_cons (ps_if (pt_cmpR (op_eqX hr.units) (pv 6) pe_int (nomark _)) (pss_one (ps_ret (pe_slice (sl_tupK K) (pv 4) po_none (po_some (pe_un un_neg pe_int))))) pss_nil)
      (pss_cons (ps_if (pt_cmpR (op_eqX hr.units) (pv 6) pe_int (nomark _)) (pss_one (ps_ret (pe_ix (ix_X K hr.units) (pe_lst (pa_cons (b_list K rfl B (pa_cons (pv 4) pa_nil)) (pa_cons pe_non (pa_cons pe_str (pa_cons (pe_tup pa_nil) (pa_cons pe_int pa_nil star_c) star_t) star_c) star_c) star_f)) (pe_cal c_law_draw (hr.mono (by omega)) rfl (pa_cons (pv 0) (pa_cons pe_int pa_nil))) (fun _ _ => rfl)))) pss_nil)
      (pss_one (ps_ret (pv 4)))))))))), ?_⟩
    refine ⟨_, rfl, p, a, 12, rfl, hP, by decide, by decide, fun wd H1 w0 w1 v1 b1 => ?_⟩
    refine ⟨_, rfl, p, a, _, rfl, hP.but b1 v1, fun nm H2 gnm v2 b2 => ?_⟩
    have gnm : GQ (Fr H) (Mn n) (kk n) H2 nm := (gnm.imp fun c hc => fr_sub b1 v1 hc).mono (by omega) (by unfold kk; omega)
    have b2 := b1.trans b2
    refine name_go ?_
    dsimp only
    refine seq_inv (fun σ' H' => ∃ tf fs o5, σ' = [some (.ref p), some (.int (n : Int)), some (.int wd), some nm, some (.ref tf), o5, none] ∧ H' tf = some (.tup fs) ∧ Fr H tf ∧ tf ≠ p ∧ 2 ≤ fs.length ∧ fs.length ≤ 3 ∧ (∀ x ∈ fs, GQ (Fr H) (Mn n) (kk n) H' x) ∧ GQ (Fr H) (Mn n) (kk n) H' nm ∧ DPV H' p a ∧ But p H H') ?_ ?_
    · rintro σ' H3 ⟨tf, fs, o5, rfl, e3, ftf, ntf, l2, l3, gf, gn, v3, b3⟩
      have k : ∀ x H', GQ (Fr H) (Lt n) (kk n + 1) H' x → NoDc H' x → DPV H' p a → But p H H' → Q x H' := k
      refine ⟨_, rfl, p, a, 16, rfl, hP.but b3 v3, by decide, by decide, fun pk H4 _ _ v4 b4 => ?_⟩
      have b04 := b3.trans b4
      have e4 := b4 _ _ ntf e3
      have gf := fun x hx => (gf x hx).but (butF b4 hpo)
      have gn := gn.but (butF b4 hpo)
      have gtup : ∀ (H5 : Hp) (t : Addr) (xs : List V), H5 t = some (.tup xs) → Fr H t → xs.length ≤ 4 → (∀ x ∈ xs, GQ (Fr H) (Mn n) (kk n) H5 x) → GQ (Fr H) (Lt n) (kk n + 1) H5 (.ref t) ∧ NoDc H5 (.ref t) := fun H5 t xs h f l g => ⟨(GQ.tup (m := 4) h f l (by decide) g).mono (by unfold Lt; omega) (Nat.le_refl _), fun b kvs e q => by cases e; rw [h] at q; cases q⟩
      refine ⟨_, rfl, .sc rfl ⟨_, rfl, ite2 (fun _ => ?_) (fun _ => ?_)⟩⟩
      · refine ⟨_, rfl, _, rfl, (by show 1 ≤ sizeLine; decide), fun t1 h1 => ?_⟩
        have s5 := Same.new (o := .tup [nm]) h1
        have e5 : upd H4 t1 (.tup [nm]) t1 = some (.tup [nm]) := upd_same
        have v5 := v4.same s5
        have b5 := b04.trans (But.of_same (p := p) s5)
        have gf5 := fun x hx => mono_gq _ _ _ s5 (gf x hx)
        have gn5 := mono_gq _ _ _ s5 gn
        have e6 := s5 _ _ e4
        generalize upd H4 t1 (.tup [nm]) = H5 at s5 e5 v5 b5 gf5 gn5 e6 ⊢
        refine ⟨tf, t1, fs, [nm], rfl, rfl, .of e6, .of e5, (by show fs.length + 1 ≤ sizeLine; exact Nat.le_of_lt (small1000 (by omega))), fun hx => ?_, fun _ h => absurd h (by simp), fun _ _ tt htt => ?_⟩
        · rw [hx] at l2; exact absurd l2 (by decide)
        · have s6 := Same.new (o := .tup (fs ++ [nm])) htt
          obtain ⟨g, d⟩ := gtup _ tt (fs ++ [nm]) upd_same (fr_sub b5 v5 htt) (by rw [List.length_append]; show fs.length + 1 ≤ 4; omega) fun x hx => mono_gq _ _ _ s6 (by
            rcases List.mem_append.mp hx with hx | hx
            · exact gf5 x hx
            · rw [List.mem_singleton.mp hx]; exact gn5)
          exact k _ _ g d (v5.same s6) (b5.trans (But.of_same s6))
      · refine ⟨_, rfl, .sc rfl ⟨_, rfl, ite2 (fun _ => ?_) (fun _ => ?_)⟩⟩
        · refine ⟨_, rfl, _, rfl, _, rfl, tf, fs, rfl, .of e4, fun h => ?_, fun t1 h1 => ?_⟩
          · have h := h.2
            have h : (if (-1 : Int) < 0 then ((-1 : Int) + (fs.length : Int)).toNat else min (-1 : Int).toNat fs.length) = fs.length := h
            rw [if_pos (by decide)] at h
            omega
          · have s5 := Same.new (o := .tup (cutV fs none (some (-1)))) h1
            obtain ⟨g, d⟩ := gtup _ t1 (cutV fs none (some (-1))) upd_same (fr_sub b04 v4 h1) (Nat.le_trans (cutV_length ..) (by omega)) fun x hx => mono_gq _ _ _ s5 (gf x (by
              unfold cutV at hx
              exact List.mem_of_mem_drop (List.mem_of_mem_take hx)))
            exact k _ _ g d (v4.same s5) (b04.trans (But.of_same s5))
        · refine ⟨_, rfl, .sc rfl ⟨_, rfl, ite2 (fun _ => ?_) (fun _ => ?_)⟩⟩
          · refine ⟨_, rfl, _, rfl, .seq (.inr (.of e4)) fun l1 h1 => ⟨(by show 0 ≤ sizeLine; decide), fun t0 h0 => ⟨(by show 5 ≤ sizeLine; decide), fun LL hL => ?_⟩⟩⟩
            have f1 : Fr H l1 := fr_sub b04 v4 h1
            have s5 := Same.new (o := .lst fs) h1
            have e5 : upd H4 l1 (.lst fs) l1 = some (.lst fs) := upd_same
            generalize upd H4 l1 (.lst fs) = H5 at s5 e5 h0 hL ⊢
            have b5 := b04.trans (But.of_same (p := p) s5)
            have f0 : Fr H t0 := fr_sub b5 (v4.same s5) h0
            have s6 := Same.new (o := .tup []) h0
            have e6 : upd H5 t0 (.tup []) t0 = some (.tup []) := upd_same
            generalize upd H5 t0 (.tup []) = H6 at s6 e6 hL ⊢
            have v6 := v4.same (s5.trans s6)
            have s7 := Same.new (o := .lst [V.ref l1, V.non, V.str "tie a b", V.ref t0, V.int 7]) hL
            have e7 : upd H6 LL (.lst [V.ref l1, V.non, V.str "tie a b", V.ref t0, V.int 7]) LL = some (.lst [V.ref l1, V.non, V.str "tie a b", V.ref t0, V.int 7]) := upd_same
            have nL : LL ≠ p := Ne.symm (v6.ne hL)
            generalize upd H6 LL (.lst [V.ref l1, V.non, V.str "tie a b", V.ref t0, V.int 7]) = H7 at s7 e7 ⊢
            have s47 := (s5.trans s6).trans s7
            have b7 := b04.trans (But.of_same (p := p) s47)
            refine ⟨_, rfl, p, a, 5, rfl, hP.but b7 (v4.same s47), by decide, by decide, fun r H8 r0 r1 v8 b8 => ?_⟩
            obtain ⟨x, hx, mx⟩ := at_mem (xs := [V.ref l1, V.non, V.str "tie a b", V.ref t0, V.int 7]) (m := 5) rfl r0 r1
            have n1 : l1 ≠ p := fun z => by rw [z] at f1; have f1 : H p = none := f1; rw [hpo] at f1; cases f1
            have n0 : t0 ≠ p := fun z => by rw [z] at f0; have f0 : H p = none := f0; rw [hpo] at f0; cases f0
            have e8 := b8 _ _ n1 ((s6.trans s7) _ _ e5)
            have e9 := b8 _ _ n0 (s7 _ _ e6)
            have gf8 : ∀ x ∈ fs, GQ (Fr H) (Mn n) (kk n) H8 x := fun x hx => (mono_gq _ _ _ s47 (gf x hx)).but (butF b8 hpo)
            have fin : GQ (Fr H) (Lt n) (kk n + 1) H8 x ∧ NoDc H8 x := by
              simp only [List.mem_cons, List.not_mem_nil, or_false] at mx
              rcases mx with rfl | rfl | rfl | rfl | rfl
              · exact ⟨(GQ.lst (m := 4) e8 f1 (by omega) (by decide) gf8).mono (by unfold Lt; omega) (Nat.le_refl _), fun b kvs e q => by cases e; rw [e8] at q; cases q⟩
              · exact ⟨(Gd.non (L := 130) (by decide)).mono (by unfold Lt; omega) (Nat.zero_le _), fun b kvs e => by cases e⟩
              · exact ⟨(Gd.str (L := 130) (by decide +kernel) (by decide +kernel)).mono (by unfold Lt; omega) (Nat.zero_le _), fun b kvs e => by cases e⟩
              · exact gtup H8 t0 [] e9 f0 (by decide) fun x hx => by cases hx
              · exact ⟨(Gd.int (L := 130) ⟨rfl, by decide, by decide +kernel⟩).mono (by unfold Lt; omega) (Nat.zero_le _), fun b kvs e => by cases e⟩
            exact .lst (.of (b8 _ _ nL e7)) hx (k x H8 fin.1 fin.2 v8 (b7.trans b8))
          · obtain ⟨g, d⟩ := gtup H4 tf fs e4 ftf (by omega) gf
            exact ⟨_, rfl, k _ _ g d v4 b04⟩
    · intro N hN
      have mk3 : ∀ (H3 : Hp) (xs : List V) (tf : Addr) (o5 : Option V), But p H H3 → DPV H3 p a → H3 tf = none → 2 ≤ xs.length → xs.length ≤ 3 → (∀ x ∈ xs, GQ (Fr H) (Mn n) (kk n) H3 x) → GQ (Fr H) (Mn n) (kk n) H3 nm → N [some (.ref p), some (.int (n : Int)), some (.int wd), some nm, some (.ref tf), o5, none] (upd H3 tf (.tup xs)) := fun H3 xs tf o5 b v ht l2 l3 gx gn => by
        have sn := Same.new (o := .tup xs) ht
        exact hN _ _ ⟨tf, xs, o5, rfl, upd_same, fr_sub b v ht, Ne.symm (v.ne ht), l2, l3, fun x hx => mono_gq _ _ _ sn (gx x hx), mono_gq _ _ _ sn gn, v.same sn, b.trans (But.of_same sn)⟩
      have gst : ∀ (H3 : Hp) (z : Str), z ∈ (["tie", "wait", "untie", "drop", "open", "thing", "group", "want", "unwant", "ties", "", "Tie", "first", "many"] : List Str) → GQ (Fr H) (Mn n) (kk n) H3 (.str z) := fun H3 z hz => gq_strs (ss := ["tie", "wait", "untie", "drop", "open", "thing", "group", "want", "unwant", "ties", "", "Tie", "first", "many"]) (by decide +kernel) (by omega) (List.mem_map.mpr ⟨z, hz, rfl⟩)
      refine ⟨_, rfl, .int ⟨_, rfl, ite2 (fun h => ?_) (fun h => ?_)⟩⟩
      · have h : wd < 3 := of_decide_eq_true h
        refine ⟨(by show 3 ≤ sizeLine; decide), fun lz hlz => ?_⟩
        obtain ⟨x, hx, mx⟩ := at_mem (xs := [V.str "tie", V.str "wait", V.str "untie"]) (m := 3) rfl w0 h
        have s3 := Same.new (o := .lst [V.str "tie", V.str "wait", V.str "untie"]) hlz
        have e3 : upd H2 lz (.lst [V.str "tie", V.str "wait", V.str "untie"]) lz = some (.lst [V.str "tie", V.str "wait", V.str "untie"]) := upd_same
        generalize upd H2 lz (.lst [V.str "tie", V.str "wait", V.str "untie"]) = H3 at s3 e3 ⊢
        have b3 := b2.trans (But.of_same (p := p) s3)
        refine ⟨_, rfl, .lst (.of e3) hx ⟨_, rfl, _, rfl, p, a, _, rfl, hP.but b3 (v2.same s3), fun x2 H4 g2 v4 b4 => nil_ ⟨(by show 3 ≤ sizeLine; decide), fun tf htf => ?_⟩⟩⟩
        have bb : ButN (Fr H) H2 H4 := butF ((But.of_same s3).trans b4) hpo
        refine mk3 H4 [x, nm, x2] tf _ (b3.trans b4) v4 htf (by show 2 ≤ 3; decide) (by show 3 ≤ 3; decide) (fun y hy => ?_) (gnm.but bb)
        simp only [List.mem_cons, List.not_mem_nil, or_false] at hy
        rcases hy with rfl | rfl | rfl
        · obtain ⟨z, hz, rfl⟩ := List.mem_map.mp (show y ∈ List.map V.str ["tie", "wait", "untie"] from mx)
          exact gst H4 z (List.mem_of_mem_take (i := 3) hz)
        · exact gnm.but bb
        · exact (g2.imp fun c hc => fr_sub b3 (v2.same s3) hc).mono (by omega) (by unfold kk; omega)
      · clear h
        refine ⟨_, rfl, (by show 2 ≤ sizeLine; decide), fun tq htq => .seq (.inr (.of upd_same)) rfl rfl ⟨_, rfl, ?_⟩⟩
        have sA := Same.new (o := .tup [V.int 3, V.int 4]) htq
        have gnm := mono_gq _ _ _ sA gnm
        have v3 := v2.same sA
        have b3 := b2.trans (But.of_same (p := p) sA)
        generalize upd H2 tq (.tup [V.int 3, V.int 4]) = H3 at sA gnm v3 b3 ⊢
        clear sA htq v2 b2
        refine ite2 (fun h => ?_) (fun h => ?_)
        · have h := in2i h
          refine ⟨(by show 2 ≤ sizeLine; decide), fun lz hlz => ?_⟩
          obtain ⟨x, hx, mx⟩ := at_mem (xs := [V.str "drop", V.str "open"]) (m := 2) (r := wd - 3) rfl (by omega) (by omega)
          have s4 := Same.new (o := .lst [V.str "drop", V.str "open"]) hlz
          have e4 : upd H3 lz (.lst [V.str "drop", V.str "open"]) lz = some (.lst [V.str "drop", V.str "open"]) := upd_same
          generalize upd H3 lz (.lst [V.str "drop", V.str "open"]) = H4 at s4 e4 ⊢
          have b4 := b3.trans (But.of_same (p := p) s4)
          refine ⟨_, rfl, _, _, rfl, rfl, .lst (.of e4) hx ⟨_, rfl, nil_ ⟨(by show 2 ≤ sizeLine; decide), fun tf htf => ?_⟩⟩⟩
          refine mk3 H4 [x, nm] tf _ b4 (v3.same s4) htf (by show 2 ≤ 2; decide) (by show 2 ≤ 3; decide) (fun y hy => ?_) (mono_gq _ _ _ s4 gnm)
          simp only [List.mem_cons, List.not_mem_nil, or_false] at hy
          rcases hy with rfl | rfl
          · obtain ⟨z, hz, rfl⟩ := List.mem_map.mp (show y ∈ List.map V.str ["drop", "open"] from mx)
            exact gst H4 z ((by decide : ∀ z ∈ (["drop", "open"] : List Str), z ∈ (["tie", "wait", "untie", "drop", "open", "thing", "group", "want", "unwant", "ties", "", "Tie", "first", "many"] : List Str)) z hz)
          · exact mono_gq _ _ _ s4 gnm
        · clear h
          refine ⟨_, rfl, .sc rfl ⟨_, rfl, ite2 (fun _ => ?_) (fun _ => ?_)⟩⟩
          · refine ⟨_, rfl, _, rfl, p, a, _, rfl, hP.but b3 v3, fun x2 H4 g2 v4 b4 => nil_ ⟨(by show 3 ≤ sizeLine; decide), fun tf htf => ?_⟩⟩
            refine mk3 H4 [.str "thing", nm, x2] tf _ (b3.trans b4) v4 htf (by show 2 ≤ 3; decide) (by show 3 ≤ 3; decide) (fun y hy => ?_) (gnm.but (butF b4 hpo))
            simp only [List.mem_cons, List.not_mem_nil, or_false] at hy
            rcases hy with rfl | rfl | rfl
            · exact gst H4 _ (by decide)
            · exact gnm.but (butF b4 hpo)
            · exact (g2.imp fun c hc => fr_sub b3 v3 hc).mono (by omega) (by unfold kk; omega)
          · refine ⟨_, rfl, .sc rfl ⟨_, rfl, ite2 (fun _ => ?_) (fun _ => ?_)⟩⟩
            · refine ⟨_, rfl, _, rfl, p, a, rfl, hP.but b3 v3, fun x2 H4 g2 v4 b4 => nil_ ⟨(by show 3 ≤ sizeLine; decide), fun tf htf => ?_⟩⟩
              refine mk3 H4 [.str "group", nm, x2] tf _ (b3.trans b4) v4 htf (by show 2 ≤ 3; decide) (by show 3 ≤ 3; decide) (fun y hy => ?_) (gnm.but (butF b4 hpo))
              simp only [List.mem_cons, List.not_mem_nil, or_false] at hy
              rcases hy with rfl | rfl | rfl
              · exact gst H4 _ (by decide)
              · exact gnm.but (butF b4 hpo)
              · exact (g2.imp fun c hc => fr_sub b3 v3 hc).mono (by omega) (by unfold kk; omega)
            · refine ⟨_, rfl, (by show 2 ≤ sizeLine; decide), fun tq htq => .seq (.inr (.of upd_same)) rfl rfl ⟨_, rfl, ?_⟩⟩
              have sA := Same.new (o := .tup [V.int 7, V.int 8]) htq
              have gnm := mono_gq _ _ _ sA gnm
              have v4 := v3.same sA
              have b4 := b3.trans (But.of_same (p := p) sA)
              generalize upd H3 tq (.tup [V.int 7, V.int 8]) = H4 at sA gnm v4 b4 ⊢
              clear sA htq v3 b3
              refine ite2 (fun h => ?_) (fun h => ?_)
              · have h := in2i h
                refine ⟨(by show 2 ≤ sizeLine; decide), fun lz hlz => ?_⟩
                obtain ⟨x, hx, mx⟩ := at_mem (xs := [V.str "want", V.str "unwant"]) (m := 2) (r := wd - 7) rfl (by omega) (by omega)
                have s5 := Same.new (o := .lst [V.str "want", V.str "unwant"]) hlz
                have e5 : upd H4 lz (.lst [V.str "want", V.str "unwant"]) lz = some (.lst [V.str "want", V.str "unwant"]) := upd_same
                generalize upd H4 lz (.lst [V.str "want", V.str "unwant"]) = H5 at s5 e5 ⊢
                have b5 := b4.trans (But.of_same (p := p) s5)
                refine ⟨_, rfl, _, _, rfl, rfl, .lst (.of e5) hx ⟨_, rfl, p, a, _, rfl, hP.but b5 (v4.same s5), fun x2 H6 g2 v6 b6 => ⟨_, rfl, nil_ ⟨(by show 3 ≤ sizeLine; decide), fun tf htf => ?_⟩⟩⟩⟩
                have bb : ButN (Fr H) H4 H6 := butF ((But.of_same s5).trans b6) hpo
                refine mk3 H6 [x, x2, nm] tf _ (b5.trans b6) v6 htf (by show 2 ≤ 3; decide) (by show 3 ≤ 3; decide) (fun y hy => ?_) (gnm.but bb)
                simp only [List.mem_cons, List.not_mem_nil, or_false] at hy
                rcases hy with rfl | rfl | rfl
                · obtain ⟨z, hz, rfl⟩ := List.mem_map.mp (show y ∈ List.map V.str ["want", "unwant"] from mx)
                  exact gst H6 z ((by decide : ∀ z ∈ (["want", "unwant"] : List Str), z ∈ (["tie", "wait", "untie", "drop", "open", "thing", "group", "want", "unwant", "ties", "", "Tie", "first", "many"] : List Str)) z hz)
                · exact (g2.imp fun c hc => fr_sub b5 (v4.same s5) hc).mono (by omega) (by unfold kk; omega)
                · exact gnm.but bb
              · clear h
                refine ⟨_, rfl, .sc rfl ⟨_, rfl, ite2 (fun _ => ?_) (fun _ => ?_)⟩⟩
                · refine ⟨(by show 1 ≤ sizeLine; decide), fun t9 h9 => nil_ ⟨(by show 7 ≤ sizeLine; decide), fun lz hlz => ?_⟩⟩
                  have f9 : Fr H t9 := fr_sub b4 v4 h9
                  have s5 := Same.new (o := .tup [V.str "tie"]) h9
                  have e5 : upd H4 t9 (.tup [V.str "tie"]) t9 = some (.tup [V.str "tie"]) := upd_same
                  generalize upd H4 t9 (.tup [V.str "tie"]) = H5 at s5 e5 hlz ⊢
                  have s6 := Same.new (o := .lst [V.str "ties", V.str "", V.str "Tie", V.str "first", V.non, V.int 0, V.ref t9]) hlz
                  have e6 : upd H5 lz (.lst [V.str "ties", V.str "", V.str "Tie", V.str "first", V.non, V.int 0, V.ref t9]) lz = some (.lst [V.str "ties", V.str "", V.str "Tie", V.str "first", V.non, V.int 0, V.ref t9]) := upd_same
                  have nlz : lz ≠ p := Ne.symm ((v4.same s5).ne hlz)
                  generalize upd H5 lz (.lst [V.str "ties", V.str "", V.str "Tie", V.str "first", V.non, V.int 0, V.ref t9]) = H6 at s6 e6 ⊢
                  have b6 := b4.trans (But.of_same (p := p) (s5.trans s6))
                  have v6 := v4.same (s5.trans s6)
                  refine ⟨_, rfl, p, a, 7, rfl, hP.but b6 v6, by decide, by decide, fun r H7 r0 r1 v7 b7 => ?_⟩
                  obtain ⟨x, hx, mx⟩ := at_mem (xs := [V.str "ties", V.str "", V.str "Tie", V.str "first", V.non, V.int 0, V.ref t9]) (m := 7) rfl r0 r1
                  refine .lst (.of (b7 _ _ nlz e6)) hx ⟨_, rfl, _, rfl, nil_ ⟨(by show 3 ≤ sizeLine; decide), fun tf htf => ?_⟩⟩
                  have gn7 : GQ (Fr H) (Mn n) (kk n) H7 nm := (mono_gq _ _ _ (s5.trans s6) gnm).but (butF b7 hpo)
                  refine mk3 H7 [x, nm, nm] tf _ (b6.trans b7) v7 htf (by show 2 ≤ 3; decide) (by show 3 ≤ 3; decide) (fun y hy => ?_) gn7
                  simp only [List.mem_cons, List.not_mem_nil, or_false] at hy
                  rcases hy with rfl | rfl | rfl
                  · simp only [List.mem_cons, List.not_mem_nil, or_false] at mx
                    rcases mx with rfl | rfl | rfl | rfl | rfl | rfl | rfl
                    · exact gst H7 _ (by decide)
                    · exact gst H7 _ (by decide)
                    · exact gst H7 _ (by decide)
                    · exact gst H7 _ (by decide)
                    · exact (Gd.non (L := 130) (by decide)).mono (by omega) (Nat.zero_le _)
                    · exact (Gd.int (L := 130) ⟨rfl, by decide, by decide +kernel⟩).mono (by omega) (Nat.zero_le _)
                    · have h9 := b7 _ _ (fun z => by rw [z] at f9; have f9 : H p = none := f9; rw [hpo] at f9; cases f9) (s6 _ _ e5)
                      refine (GQ.tup (L := 100) (k := 0) (m := 1) h9 f9 (Nat.le_refl 1) (by decide) fun v hv => ?_).mono (by omega) (by unfold kk; omega)
                      rw [List.mem_singleton.mp hv]
                      exact Gd.str (by decide +kernel) (by decide +kernel)
                  · exact gn7
                  · exact gn7
                · refine ⟨_, rfl, p, a, 3, rfl, hP.but b4 v4, by decide, by decide, fun r H5 r0 r1 v5 b5 => ?_⟩
                  refine ⟨_, rfl, _, _, rfl, rfl, _, rfl, .bl ⟨_, _, rfl, rfl, ?_, ?_⟩⟩
                  · exact .inl ⟨by omega, by omega⟩
                  · have b5 := b4.trans b5
                    have gnm : GQ (Fr H) (Mn n) (kk n) H5 nm := gnm.but (butF ‹But p H4 H5› hpo)
                    have cnt : ∃ c : Nat, (fun i j : Int => V.int (i * j)) r (if decide ((0 : Int) < (n : Int)) = true then 1 else 0) = V.int (c : Int) ∧ c ≤ 2 ∧ (n = 0 → c = 0) := by
                      by_cases z : n = 0
                      · subst z
                        refine ⟨0, ?_, by omega, fun _ => rfl⟩
                        show V.int (r * (if decide ((0 : Int) < ((0 : Nat) : Int)) = true then 1 else 0)) = _
                        rw [if_neg (by decide), Int.mul_zero]; rfl
                      · refine ⟨r.toNat, ?_, by omega, fun h => absurd h z⟩
                        show V.int (r * (if decide ((0 : Int) < (n : Int)) = true then 1 else 0)) = _
                        rw [if_pos (decide_eq_true (by omega)), Int.mul_one, Int.toNat_of_nonneg r0]
                    obtain ⟨c, ec, c2, cz⟩ := cnt
                    rw [ec]
                    refine ⟨_, rfl, by omega, by omega, ?_⟩
                    refine comp_range (fun D i acc σ' H' => ∃ o, σ' = [o, some (.ref p), some (.int (n : Int))] ∧ acc.length = i ∧ (∀ x ∈ acc, GQ (fun c => H c = none ∧ c ≠ D) (Lt (n - 1)) (kk (n - 1) + 1) H' x) ∧ DPV H' p a ∧ But p H5 H' ∧ H5 D = none ∧ D ≠ p) fun D hD => ⟨?_, ?_, ?_⟩
                    · have nD : D ≠ p := Ne.symm (v5.ne hD)
                      exact ⟨none, rfl, rfl, (fun _ h => by cases h), v5.upd (Ne.symm nD), (But.refl p H5).at hD, hD, nD⟩
                    · rintro i acc σ' H' hi ⟨o, rfl, al, ga, v, b, hD0, nD⟩ hacc
                      have hi : i < c := by simpa using hi
                      cases n with
                      | zero => have := cz rfl; omega
                      | succ n =>
                        refine gYes ?_
                        refine ⟨_, rfl, _, rfl, _, _, rfl, rfl, p, a, (by show [V.ref p, V.int (((n + 1 : Nat) : Int) - 1)] = _; rw [show ((n + 1 : Nat) : Int) - 1 = (n : Int) by omega]), hP.but (b5.trans b) v, fun x H6 gx _ v6 b6 => ?_⟩
                        have hacc2 := b6 _ _ nD hacc
                        refine ⟨hacc2, small1000 (by omega), _, rfl, by rw [List.length_append, al]; rfl, fun y hy => ?_, v6.upd (Ne.symm nD), (b.trans b6).at hD0, hD0, nD⟩
                        have bN : ButN (fun c => H c = none ∧ c ≠ D) H6 (upd H6 D (.lst (acc ++ [x]))) := fun c u n e => by rw [upd_ne n.2]; exact e
                        rcases List.mem_append.mp hy with hy | hy
                        · exact ((ga y hy).but fun c u n e => butF b6 hpo c u n.1 e).but bN
                        · rw [List.mem_singleton.mp hy]
                          refine (gx.imp fun c hc => ⟨fr_sub (b5.trans b) v hc, fun z => ?_⟩).but bN
                          have hc : H' c = none := hc
                          rw [z, hacc] at hc; cases hc
                    · rintro acc σ' H6 ⟨o, rfl, al0, ga, v6, b6, hD0, nD⟩ hacc
                      have al : acc.length ≤ 2 := by omega
                      have ga : ∀ x ∈ acc, GQ (Fr H) (Lt (n - 1)) (kk (n - 1) + 1) H6 x := fun x hx => (ga x hx).imp fun c n => n.1
                      have fD : Fr H D := fr_sub b5 v5 hD0
                      have b06 := b5.trans b6
                      have gnm := gnm.but (butF b6 hpo)
                      have nz : n = 0 → acc = [] := fun z => List.length_eq_zero_iff.mp (by rw [al0, cz z]; rfl)
                      refine ⟨_, rfl, _, rfl, D, acc, rfl, .of hacc, fun lt hlt => ⟨_, rfl, (by show 4 ≤ sizeLine; decide), fun LL hL => ?_⟩⟩
                      have s7 := Same.new (o := .tup acc) hlt
                      have e7 : upd H6 lt (.tup acc) lt = some (.tup acc) := upd_same
                      have fl : Fr H lt := fr_sub b06 v6 hlt
                      generalize upd H6 lt (.tup acc) = H7 at s7 e7 hL ⊢
                      have s8 := Same.new (o := .lst [V.ref D, V.ref lt, V.ref D, V.non]) hL
                      have e8 : upd H7 LL (.lst [V.ref D, V.ref lt, V.ref D, V.non]) LL = some (.lst [V.ref D, V.ref lt, V.ref D, V.non]) := upd_same
                      have nL : LL ≠ p := Ne.symm ((v6.same s7).ne hL)
                      generalize upd H7 LL (.lst [V.ref D, V.ref lt, V.ref D, V.non]) = H8 at s8 e8 ⊢
                      have s78 := s7.trans s8
                      have b8 := b06.trans (But.of_same (p := p) s78)
                      have v8 := v6.same s78
                      refine ⟨_, rfl, p, a, 4, rfl, hP.but b8 v8, by decide, by decide, fun r H9 r0 r1 v9 b9 => ?_⟩
                      obtain ⟨x, hx, mx⟩ := at_mem (xs := [V.ref D, V.ref lt, V.ref D, V.non]) (m := 4) rfl r0 r1
                      refine .lst (.of (b9 _ _ nL e8)) hx (nil_ ⟨(by show 2 ≤ sizeLine; decide), fun tf htf => ?_⟩)
                      have gn9 : GQ (Fr H) (Mn n) (kk n) H9 nm := (mono_gq _ _ _ s78 gnm).but (butF b9 hpo)
                      refine mk3 H9 [.str "many", x] tf _ (b8.trans b9) v9 htf (by show 2 ≤ 2; decide) (by show 2 ≤ 3; decide) (fun y hy => ?_) gn9
                      have g8 : ∀ x ∈ acc, GQ (Fr H) (Lt (n - 1)) (kk (n - 1) + 1) H8 x := fun x hx => mono_gq _ _ _ s78 (ga x hx)
                      have big : acc ≠ [] → 3 + 2 * (Lt (n - 1) + 2) ≤ Mn n ∧ kk (n - 1) + 2 ≤ kk n := fun ne => by
                        cases n with
                        | zero => exact absurd (nz rfl) ne
                        | succ n =>
                          refine ⟨?_, ?_⟩
                          · show 3 + 2 * (3 + 4 * (Mn n + 2) + 2) ≤ 3 + 2 * (3 + 4 * (Mn n + 2) + 2)
                            exact Nat.le_refl _
                          · show 2 * n + 2 + 2 ≤ 2 * (n + 1) + 2
                            omega
                      have gD : GQ (Fr H) (Mn n) (kk n) H8 (.ref D) := by
                        by_cases ne : acc = []
                        · have h := s78 _ _ hacc
                          rw [ne] at h
                          exact (GQ.lst (L := 0) (k := 0) (m := 0) h fD (Nat.le_refl 0) (by decide) fun v hv => by cases hv).mono (by omega) (by unfold kk; omega)
                        · obtain ⟨h1, h2⟩ := big ne
                          exact (GQ.lst (m := 2) (s78 _ _ hacc) fD al (by decide) g8).mono (by omega) (by omega)
                      have gt : GQ (Fr H) (Mn n) (kk n) H8 (.ref lt) := by
                        by_cases ne : acc = []
                        · have h := s8 _ _ e7
                          rw [ne] at h
                          exact (GQ.tup (L := 0) (k := 0) (m := 0) h fl (Nat.le_refl 0) (by decide) fun v hv => by cases hv).mono (by omega) (by unfold kk; omega)
                        · obtain ⟨h1, h2⟩ := big ne
                          exact (GQ.tup (m := 2) (s8 _ _ e7) fl al (by decide) g8).mono (by omega) (by omega)
                      simp only [List.mem_cons, List.not_mem_nil, or_false] at hy
                      rcases hy with rfl | rfl
                      · exact gst H9 _ (by decide)
                      · refine GQ.but ?_ (butF b9 hpo)
                        simp only [List.mem_cons, List.not_mem_nil, or_false] at mx
                        rcases mx with rfl | rfl | rfl | rfl
                        · exact gD
                        · exact gt
                        · exact gD
                        · exact (Gd.non (L := 130) (by decide)).mono (by omega) (Nat.zero_le _)
theorem ok_lt {f : Addr} {fd : FuncData} (F : Fun K "_law_thing" "_law_thing" sLawThing f fd) (B : Blt mg) (c_law_draw : Cal P w K mg base 1 "_law_draw" ["_law_pen_here", "_law_many"] (spDrw K)) (c_law_part : Cal P w K mg base 2 "_law_part" ["_law_pen_here", "_law_sort"] (spLP K)) (c_law_members : Cal P w K mg base 3 "_law_members" ["_law_pen_here"] (spLM K))
    (mk : ∀ h sp, FnOk P w K mg base CX0 h f fd ["_law_pen_here", "_law_deep"] sp → Cal P w K mg base h "_law_thing" ["_law_pen_here", "_law_deep"] sp) : ∀ n, n ≤ 2 → FnOk P w K mg base CX0 (n + 4) f fd ["_law_pen_here", "_law_deep"] (spLT K n)
  | 0, _ => ok_lt1 (by decide) F B c_law_draw c_law_part c_law_members (mk 3 _ ⟨fun vs H Q E h => h.elim, fun A outer s H args us' vs Q E hr he hb hv h => h.elim⟩)
  | n + 1, h => ok_lt1 h F B c_law_draw c_law_part c_law_members (mk _ _ (ok_lt F B c_law_draw c_law_part c_law_members mk n (by omega)))
end
end K56
namespace K56
open PySem L2
section
variable {P : Program} {w : World} {K : PySem.W.Frag} {mg : Str → Option Value} {base : Heap}
noncomputable def spLaw (K : PySem.W.Frag) : Sp := fun vs H Q _ => ∃ (a : Addr) (ns : List Int), vs = [.ref a] ∧ SqL K H a (ns.map V.int) ∧ ∀ H', Q (.bl true) H'
theorem scLaw : FnScope ["_law_script", "_law_pen_here", "_law_turn", "_law_thing_here", "_law_shown", "_law_due"] ["_law_script"] (defScope sLaw) := ⟨rfl, rfl, rfl, by decide +kernel, rfl, by decide +kernel, by decide +kernel⟩
theorem bl_rep {H : Hp} {b : Bool} : RpD H (.bl b) (.bool b) ∧ (∀ a kvs, V.bl b = .ref a → H a ≠ some (.dK kvs)) ∧ (PyData.bool b).showable = true ∧ (PyData.bool b).depth ≤ 16 ∧ (PyData.bool b).shown.length ≤ sizeLine := ⟨.tr (.bl b) rfl, (fun a kvs e => by cases e), rfl, by cases b <;> decide, by cases b <;> decide +kernel⟩
theorem ok_law {f : Addr} {fd : FuncData} (F : Fun K "law" "law" sLaw f fd) (B : Blt mg) (c_law_pen : Cal P w K mg base 1 "_law_pen" ["_law_script"] (spPenD K)) (c_law_thing : Cal P w K mg base 6 "_law_thing" ["_law_pen_here", "_law_deep"] (spLT K 2)) (c_law_is_deed : Cal P w K mg base 5 "_law_is_deed" ["_law_thing_here", "_law_deep"] (spLD 2)) (cis_deed : Cal P w K mg base 9 "is_deed" ["thing"] spDeed) (c_law_refused : Cal P w K mg base 11 "_law_refused" ["_law_thing_here"] spRef) : FnOk P w K mg base CX0 12 f fd ["_law_script"] (spLaw K) := by
  refine F.ok scLaw (fun vs H Q E h => ?_) (fun cdv A outer s H vs Q E hr h => ?_)
  · obtain ⟨a, ns, rfl, _⟩ := h
    rfl
  · obtain ⟨sc, ns, rfl, hS, k⟩ := h
    have nd := scLaw.nd
    refine ⟨_, (pss_cons (ps_set (i := 1) nd rfl (Or.inl rfl) (pe_cal c_law_pen (hr.mono (by decide)) rfl (pa_cons (pv 0) pa_nil)))
      (pss_cons (ps_for PassesOwn.never rfl (pi_range1 rfl B.range (pa_cons pe_int pa_nil)) (pg_name (i := 2) nd rfl (Or.inl rfl)) (pss_cons (ps_set (i := 3) nd rfl (Or.inl rfl) (pe_cal c_law_thing (hr.mono (by decide)) rfl (pa_cons (pv 1) (pa_cons pe_int pa_nil))))
      (pss_cons (ps_set (i := 4) nd rfl (Or.inl rfl) (b_reprG hr.gd hr.units B (pa_cons (pv 3) pa_nil)))
      (pss_cons (ps_set (i := 5) nd rfl (Or.inl rfl) (pe_cal c_law_is_deed (hr.mono (by decide)) rfl (pa_cons (pv 3) (pa_cons pe_int pa_nil))))
      (pss_cons (ps_if (PW.pt (pw_or (pt_cmpR (op_neX hr.units) (b_reprG hr.gd hr.units B (pa_cons (pe_cal cis_deed (hr.mono (by decide)) rfl (pa_cons (pv 3) pa_nil)) pa_nil)) (b_reprG hr.gd hr.units B (pa_cons (pv 5) pa_nil)) (nomark _)) (pw_or1 (pt_cmpR (op_neX hr.units) (b_reprG hr.gd hr.units B (pa_cons (pv 3) pa_nil)) (pv 4) (nomark _))))) (pss_one (ps_ret pe_bl)) pss_nil)
      (pss_one (ps_if (PW.pt (pw_and (pt_not (pt_val (pv 5))) (pw_and1 (pt_not (pt_val (pe_cal c_law_refused (hr.mono (by decide)) rfl (pa_cons (pv 3) pa_nil))))))) (pss_one (ps_ret pe_bl)) pss_nil)))))))
      (pss_one (ps_ret pe_bl)))), ?_⟩
    refine ⟨_, rfl, sc, ns, rfl, hS, fun p H1 hP => ?_⟩
    refine ⟨_, rfl, by decide, by decide, ?_⟩
    refine for_range (fun i σ H' => ∃ o2 o3 o4 o5, σ = [some (.ref sc), some (.ref p), o2, o3, o4, o5] ∧ DPV H' p sc ∧ But p H1 H') ⟨none, none, none, none, rfl, hP.2, But.refl p H1⟩ ?_ ?_
    · rintro i σ H2 _ ⟨o2, o3, o4, o5, rfl, v2, b2⟩
      refine ⟨_, rfl, p, sc, rfl, hP.but b2 v2, fun x H3 g ndc v3 b3 => ?_⟩
      obtain ⟨hd, d, rp, sv⟩ : Gd (Lt 2) (kk 2 + 1) H3 x := Gd.same g Mq.of
      have ln : d.shown.length ≤ sizeLine := Nat.le_trans sv.ln (by decide)
      have dp : d.depth ≤ 16 := Nat.le_trans sv.dp (by decide)
      refine ⟨_, rfl, x, d, rfl, rp, ndc, sv.sb, dp, ln, ?_⟩
      refine ⟨_, rfl, x, rfl, hd 6, fun H4 s4 => ?_⟩
      have ndc4 : ∀ a kvs, x = .ref a → H4 a ≠ some (.dK kvs) := fun a kvs e h => by
        subst e
        have t := (hd 0 : Thg H3 (.ref a))
        rw [thg_obj t s4] at h
        exact ndc a kvs rfl h
      have e4 : deedB 2 H4 x = deedB 2 H3 x := deedB_same (n := 2) (hd 6) s4
      obtain ⟨r1, r2, r3, r4, r5⟩ := bl_rep (H := H4) (b := deedB 2 H3 x)
      refine ⟨_, rfl, x, rfl, Hd.mono 6 _ _ _ s4 (hd 6), fun H5 s5 => ?_⟩
      rw [e4]
      have s35 := s4.trans s5
      have ndc5 : ∀ a kvs, x = .ref a → H5 a ≠ some (.dK kvs) := fun a kvs e h => by
        subst e
        have t := (hd 0 : Thg H3 (.ref a))
        rw [thg_obj t s35] at h
        exact ndc a kvs rfl h
      obtain ⟨q1, q2, q3, q4, q5⟩ := bl_rep (H := H5) (b := deedB 2 H3 x)
      refine ⟨_, _, rfl, q1, q2, q3, q4, q5, _, rfl, _, _, rfl, q1, q2, q3, q4, q5, .sc rfl ⟨_, rfl, ?_⟩⟩
      refine ite2 (fun h => ?_) (fun _ => ?_)
      · have h : (!decide (V.str (PyData.bool (deedB 2 H3 x)).shown = V.str (PyData.bool (deedB 2 H3 x)).shown)) = true := h
        rw [decide_eq_true rfl] at h
        cases h
      refine ⟨_, rfl, x, d, rfl, rp.same s35, ndc5, sv.sb, dp, ln, _, rfl, .sc rfl ⟨_, rfl, ?_⟩⟩
      refine ite2 (fun h => ?_) (fun _ => ?_)
      · have h : (!decide (V.str d.shown = V.str d.shown)) = true := h
        rw [decide_eq_true rfl] at h
        cases h
      have v5 := v3.same s35
      have b5 := b3.trans (But.of_same (p := p) s35)
      have fin : ∀ H', DPV H' p sc → But p H3 H' → ∃ o2 o3 o4 o5, ([some (V.ref sc), some (V.ref p), some (V.int (0 + (i : Int))), some x, some (V.str d.shown), some (V.bl (deedB 2 H3 x))] : St) = [some (.ref sc), some (.ref p), o2, o3, o4, o5] ∧ DPV H' p sc ∧ But p H1 H' := fun H' v b => ⟨_, _, _, _, rfl, v, (b2.trans b3).trans b⟩
      refine ⟨_, rfl, _, rfl, ?_⟩
      cases q : deedB 2 H3 x with
      | true =>
        rw [q] at fin
        exact iteF (iteF (fin H5 v5 (But.of_same s35)))
      | false =>
        rw [q] at fin
        refine iteT ⟨_, rfl, x, rfl, Hd.mono 6 _ _ _ s35 (hd 6), by rw [deedB_same (n := 2) (hd 6) s35]; exact q, fun H6 s6 => ⟨_, rfl, ?_⟩⟩
        exact iteF (fin H6 (v5.same s6) (But.of_same (s35.trans s6)))
    · rintro σ H2 ⟨o2, o3, o4, o5, rfl, v2, b2⟩
      exact k H2
end
end K56
namespace K56
open PySem L2
section
variable {P : Program} {w : World} {K : PySem.W.Frag} {mg : Str → Option Value} {base : Heap}
theorem sq_lit {K : PySem.W.Frag} {a : Addr} {od : Option Addr} {us : List Value} {n : Nat} {sl : Array (Option Value)} {xs : List V} (l : K.lookup a = some ⟨.type "tuple", od, .seq us.toArray n, sl⟩) (hz : us.length ≤ 1000) (r : Vals xs us) : ∀ H, SqT K H a xs := fun H =>
  .inr ⟨_, us.toArray, n, l, rfl, rfl, by rw [List.size_toArray]; exact Nat.le_trans hz (by decide), by rw [List.toList_toArray]; exact r⟩
structure Ent where
  x : Str
  t : Tok
  a : Addr
noncomputable def Ent.e (P : Params) (e : Ent) : DictEntry := ⟨PyData.keyHash P e.x, .str e.x e.t, .ref e.a⟩
noncomputable def Ent.kv (e : Ent) : Key × Value := (.inr e.x, .ref e.a)
theorem kd_lit {P : Program} {w : World} {K : PySem.W.Frag} {D0 : Addr} {ep : Nat} (l : List Ent) (h : K.lookup D0 = some ⟨.type "dict", none, .dict (l.map (Ent.e w.params)).toArray ep, #[]⟩) (hs : (D0 == sysModules) = false) (nd : (l.map (·.x)).Nodup) : KD P w K D0 (l.map Ent.kv) := by
  refine ⟨hs, _, _, ep, h, ⟨rfl, rfl, rfl⟩, rfl, fun e he => ?_, ?_, ?_⟩
  · have he : e ∈ l.map (Ent.e w.params) := by simpa using he
    obtain ⟨q, _, rfl⟩ := List.mem_map.mp he
    exact ⟨.inr q.x, mixKind_str _ _ _ _, rfl⟩
  · rw [List.toList_toArray]
    clear h nd
    induction l with
    | nil => exact .nil
    | cons q r ih => exact .cons (mixKind_str _ _ _ _) rfl ih
  · rw [List.map_map]
    have e : l.map ((·.1) ∘ Ent.kv) = (l.map (·.x)).map (Sum.inr : Str → Key) := by rw [List.map_map]; rfl
    rw [e]
    exact List.Pairwise.map _ (fun a b n q => n (Sum.inr.inj q)) nd
theorem val_lit {w : Str} : ∀ {l : List Ent} {q : List (Str × List Str)}, l.map (·.x) = q.map (·.1) →
    (q.lookup w = none → valueAt (l.map Ent.kv) (.inr w) = none) ∧ ∀ ss, q.lookup w = some ss → ∃ i : Nat, ∃ e : Ent, l[i]? = some e ∧ q[i]? = some (w, ss) ∧ valueAt (l.map Ent.kv) (.inr w) = some (.ref e.a)
  | [], [], _ => ⟨fun _ => rfl, fun ss h => by cases h⟩
  | e :: l, (x, s) :: q, h => by
    have h0 : e.x = x := (List.cons.inj h).1
    have ih := val_lit (w := w) (l := l) (q := q) (List.cons.inj h).2
    by_cases c : x = w
    · subst c
      refine ⟨fun z => ?_, fun ss z => ⟨0, e, rfl, ?_, ?_⟩⟩
      · rw [List.lookup_cons, beq_self_eq_true] at z; cases z
      · rw [List.lookup_cons, beq_self_eq_true] at z; cases z; rfl
      · unfold valueAt Ent.kv
        rw [List.map_cons, List.find?_cons]
        simp [h0]
    · have c2 : (w == x) = false := by rw [beq_eq_false_iff_ne]; exact fun z => c z.symm
      have v : valueAt ((e :: l).map Ent.kv) (.inr w) = valueAt (l.map Ent.kv) (.inr w) := by
        unfold valueAt
        rw [List.map_cons, List.find?_cons]
        have : decide ((Ent.kv e).1 = (Sum.inr w : Key)) = false := decide_eq_false fun z => c (h0 ▸ Sum.inr.inj z)
        simp only [this]
      refine ⟨fun z => ?_, fun ss z => ?_⟩
      · rw [List.lookup_cons, c2] at z
        rw [v]; exact ih.1 z
      · rw [List.lookup_cons, c2] at z
        obtain ⟨i, e', h1, h2, h3⟩ := ih.2 ss z
        exact ⟨i + 1, e', h1, h2, by rw [v]; exact h3⟩
  | [], _ :: _, h => by cases h
  | _ :: _, [], h => by cases h
theorem paired_get {α β : Type} {F : α → β → Prop} : ∀ {xs : List α} {ys : List β} {i : Nat} {a : α} {b : β}, Paired F xs ys → xs[i]? = some a → ys[i]? = some b → F a b
  | _, _, _, _, _, .nil, e, _ => by simp at e
  | _, _, 0, _, _, .cons r _, e, g => by simp at e g; subst e; subst g; exact r
  | _, _, i + 1, _, _, .cons _ t, e, g => paired_get (i := i) t (by simpa using e) (by simpa using g)
theorem pk_mk {P : Program} {w : World} {K : PySem.W.Frag} {D0 : Addr} {ep : Nat} (l : List Ent) (h : K.lookup D0 = some ⟨.type "dict", none, .dict (l.map (Ent.e w.params)).toArray ep, #[]⟩) (hs : (D0 == sysModules) = false) (hk : l.map (·.x) = partsA.map (·.1))
    (sq : Paired (fun (e : Ent) (q : Str × List Str) => ∀ H, SqT K H e.a (List.map V.str q.2)) l partsA) : PK P w K D0 (l.map Ent.kv) := by
  refine ⟨kd_lit l h hs (by rw [hk]; decide +kernel), fun w ss z => ?_, fun w z => (val_lit hk).1 z⟩
  obtain ⟨i, e, h1, h2, h3⟩ := (val_lit hk).2 ss z
  exact ⟨e.a, h3, paired_get sq h1 h2⟩
end
end K56
namespace K56
open PySem L2
section
variable {P : Program} {w : World} {K : PySem.W.Frag} {mg : Str → Option Value} {base : Heap}
theorem ar1 {us : List Value} (h : us.length = 1) : ∃ a, us = [a] := List.length_eq_one_iff.mp h
theorem ar2 {us : List Value} (h : us.length = 2) : ∃ a1 a2, us = [a1, a2] := by
  obtain ⟨a1, t, rfl⟩ := List.exists_cons_of_length_eq_add_one h
  obtain ⟨a2, rfl⟩ := ar1 (Nat.succ.inj h)
  exact ⟨a1, a2, rfl⟩
theorem all_mk {l : PySem.W.OpenLaw} {w : World} {K : PySem.W.Frag} {h : Heap} {mg : Str → Option Value} {fa f1 f2 f3 f4 f5 f6 f7 f8 f9 f10 f11 f12 f13 f14 f15 f16 f17 f18 f19 f20 f21 : Addr} (X : K.In h) (G : h.Ns mainGlobals mg) (hfa : mg "law" = some (.ref fa))
    {od1 an1 od2 an2 od3 an3 od4 an4 od5 an5 od6 an6 od7 an7 od8 an8 od9 an9 od10 an10 od11 an11 od12 an12 od13 an13 od14 an14 od15 an15 od16 an16 od17 an17 od18 an18 od19 an19 od20 an20 od21 an21 : Option Addr} {sl1 sl2 sl3 sl4 sl5 sl6 sl7 sl8 sl9 sl10 sl11 sl12 sl13 sl14 sl15 sl16 sl17 sl18 sl19 sl20 sl21 : Array (Option Value)} {oc1 kV1 dc1 pm1 cd1 ct1 oc2 kV2 dc2 pm2 cd2 ct2 oc3 kV3 dc3 pm3 cd3 ct3 oc4 kV4 dc4 pm4 cd4 ct4 oc5 kV5 dc5 pm5 cd5 ct5 oc6 kV6 dc6 pm6 cd6 ct6 oc7 kV7 dc7 pm7 cd7 ct7 oc8 kV8 dc8 pm8 cd8 ct8 oc9 kV9 dc9 pm9 cd9 ct9 oc10 kV10 dc10 pm10 cd10 ct10 oc11 kV11 dc11 pm11 cd11 ct11 oc12 kV12 dc12 pm12 cd12 ct12 oc13 kV13 dc13 pm13 cd13 ct13 oc14 kV14 dc14 pm14 cd14 ct14 oc15 kV15 dc15 pm15 cd15 ct15 oc16 kV16 dc16 pm16 cd16 ct16 oc17 kV17 dc17 pm17 cd17 ct17 oc18 kV18 dc18 pm18 cd18 ct18 oc19 kV19 dc19 pm19 cd19 ct19 oc20 kV20 dc20 pm20 cd20 ct20 oc21 kV21 dc21 pm21 cd21 ct21 : Value}
    (a1 : PySem.W.nsIn K mainGlobals "is_name" = some (some (.ref f1))) (l1 : K.lookup f1 = some ⟨oc1, od1, .func (PySem.W.fnOf "is_name" "is_name" (defArgs sIsName) (defBody sIsName) (defScope sIsName) .none kV1 dc1 pm1 an1 cd1 ct1), sl1⟩) (c1 : PySem.W.codeIn K cd1 "is_name" = true) (k1 : PySem.W.keepIn K (.ref f1) = true)
    (a2 : PySem.W.nsIn K mainGlobals "places_of" = some (some (.ref f2))) (l2 : K.lookup f2 = some ⟨oc2, od2, .func (PySem.W.fnOf "places_of" "places_of" (defArgs sPlaces) (defBody sPlaces) (defScope sPlaces) .none kV2 dc2 pm2 an2 cd2 ct2), sl2⟩) (c2 : PySem.W.codeIn K cd2 "places_of" = true) (k2 : PySem.W.keepIn K (.ref f2) = true)
    (a3 : PySem.W.nsIn K mainGlobals "are_unlike_names" = some (some (.ref f3))) (l3 : K.lookup f3 = some ⟨oc3, od3, .func (PySem.W.fnOf "are_unlike_names" "are_unlike_names" (defArgs sUNm) (defBody sUNm) (defScope sUNm) .none kV3 dc3 pm3 an3 cd3 ct3), sl3⟩) (c3 : PySem.W.codeIn K cd3 "are_unlike_names" = true) (k3 : PySem.W.keepIn K (.ref f3) = true)
    (a4 : PySem.W.nsIn K mainGlobals "are_unlike" = some (some (.ref f4))) (l4 : K.lookup f4 = some ⟨oc4, od4, .func (PySem.W.fnOf "are_unlike" "are_unlike" (defArgs sUnlike) (defBody sUnlike) (defScope sUnlike) .none kV4 dc4 pm4 an4 cd4 ct4), sl4⟩) (c4 : PySem.W.codeIn K cd4 "are_unlike" = true) (k4 : PySem.W.keepIn K (.ref f4) = true)
    (a5 : PySem.W.nsIn K mainGlobals "is_single" = some (some (.ref f5))) (l5 : K.lookup f5 = some ⟨oc5, od5, .func (PySem.W.fnOf "is_single" "is_single" (defArgs sIsSingle) (defBody sIsSingle) (defScope sIsSingle) .none kV5 dc5 pm5 an5 cd5 ct5), sl5⟩) (c5 : PySem.W.codeIn K cd5 "is_single" = true) (k5 : PySem.W.keepIn K (.ref f5) = true)
    (a6 : PySem.W.nsIn K mainGlobals "is_many" = some (some (.ref f6))) (l6 : K.lookup f6 = some ⟨oc6, od6, .func (PySem.W.fnOf "is_many" "is_many" (defArgs sIsMany) (defBody sIsMany) (defScope sIsMany) .none kV6 dc6 pm6 an6 cd6 ct6), sl6⟩) (c6 : PySem.W.codeIn K cd6 "is_many" = true) (k6 : PySem.W.keepIn K (.ref f6) = true)
    (a7 : PySem.W.nsIn K mainGlobals "has_word" = some (some (.ref f7))) (l7 : K.lookup f7 = some ⟨oc7, od7, .func (PySem.W.fnOf "has_word" "has_word" (defArgs sHasWord) (defBody sHasWord) (defScope sHasWord) .none kV7 dc7 pm7 an7 cd7 ct7), sl7⟩) (c7 : PySem.W.codeIn K cd7 "has_word" = true) (k7 : PySem.W.keepIn K (.ref f7) = true)
    (a8 : PySem.W.nsIn K mainGlobals "is_part" = some (some (.ref f8))) (l8 : K.lookup f8 = some ⟨oc8, od8, .func (PySem.W.fnOf "is_part" "is_part" (defArgs sIsPart) (defBody sIsPart) (defScope sIsPart) .none kV8 dc8 pm8 an8 cd8 ct8), sl8⟩) (c8 : PySem.W.codeIn K cd8 "is_part" = true) (k8 : PySem.W.keepIn K (.ref f8) = true)
    (a9 : PySem.W.nsIn K mainGlobals "is_deed" = some (some (.ref f9))) (l9 : K.lookup f9 = some ⟨oc9, od9, .func (PySem.W.fnOf "is_deed" "is_deed" (defArgs sIsDeed) (defBody sIsDeed) (defScope sIsDeed) .none kV9 dc9 pm9 an9 cd9 ct9), sl9⟩) (c9 : PySem.W.codeIn K cd9 "is_deed" = true) (k9 : PySem.W.keepIn K (.ref f9) = true)
    (a10 : PySem.W.nsIn K mainGlobals "behind" = some (some (.ref f10))) (l10 : K.lookup f10 = some ⟨oc10, od10, .func (PySem.W.fnOf "behind" "behind" (defArgs sBehind) (defBody sBehind) (defScope sBehind) .none kV10 dc10 pm10 an10 cd10 ct10), sl10⟩) (c10 : PySem.W.codeIn K cd10 "behind" = true) (k10 : PySem.W.keepIn K (.ref f10) = true)
    (a11 : PySem.W.nsIn K mainGlobals "is_deed_within" = some (some (.ref f11))) (l11 : K.lookup f11 = some ⟨oc11, od11, .func (PySem.W.fnOf "is_deed_within" "is_deed_within" (defArgs sIsDeedWithin) (defBody sIsDeedWithin) (defScope sIsDeedWithin) .none kV11 dc11 pm11 an11 cd11 ct11), sl11⟩) (c11 : PySem.W.codeIn K cd11 "is_deed_within" = true) (k11 : PySem.W.keepIn K (.ref f11) = true)
    (a12 : PySem.W.nsIn K mainGlobals "_law_pen" = some (some (.ref f12))) (l12 : K.lookup f12 = some ⟨oc12, od12, .func (PySem.W.fnOf "_law_pen" "_law_pen" (defArgs sPen) (defBody sPen) (defScope sPen) .none kV12 dc12 pm12 an12 cd12 ct12), sl12⟩) (c12 : PySem.W.codeIn K cd12 "_law_pen" = true) (k12 : PySem.W.keepIn K (.ref f12) = true)
    (a13 : PySem.W.nsIn K mainGlobals "_law_draw" = some (some (.ref f13))) (l13 : K.lookup f13 = some ⟨oc13, od13, .func (PySem.W.fnOf "_law_draw" "_law_draw" (defArgs sDraw) (defBody sDraw) (defScope sDraw) .none kV13 dc13 pm13 an13 cd13 ct13), sl13⟩) (c13 : PySem.W.codeIn K cd13 "_law_draw" = true) (k13 : PySem.W.keepIn K (.ref f13) = true)
    (a14 : PySem.W.nsIn K mainGlobals "_law_part" = some (some (.ref f14))) (l14 : K.lookup f14 = some ⟨oc14, od14, .func (PySem.W.fnOf "_law_part" "_law_part" (defArgs sLawPart) (defBody sLawPart) (defScope sLawPart) .none kV14 dc14 pm14 an14 cd14 ct14), sl14⟩) (c14 : PySem.W.codeIn K cd14 "_law_part" = true) (k14 : PySem.W.keepIn K (.ref f14) = true)
    (a15 : PySem.W.nsIn K mainGlobals "_law_members" = some (some (.ref f15))) (l15 : K.lookup f15 = some ⟨oc15, od15, .func (PySem.W.fnOf "_law_members" "_law_members" (defArgs sLawMembers) (defBody sLawMembers) (defScope sLawMembers) .none kV15 dc15 pm15 an15 cd15 ct15), sl15⟩) (c15 : PySem.W.codeIn K cd15 "_law_members" = true) (k15 : PySem.W.keepIn K (.ref f15) = true)
    (a16 : PySem.W.nsIn K mainGlobals "_law_thing" = some (some (.ref f16))) (l16 : K.lookup f16 = some ⟨oc16, od16, .func (PySem.W.fnOf "_law_thing" "_law_thing" (defArgs sLawThing) (defBody sLawThing) (defScope sLawThing) .none kV16 dc16 pm16 an16 cd16 ct16), sl16⟩) (c16 : PySem.W.codeIn K cd16 "_law_thing" = true) (k16 : PySem.W.keepIn K (.ref f16) = true)
    (a17 : PySem.W.nsIn K mainGlobals "_law_is_name" = some (some (.ref f17))) (l17 : K.lookup f17 = some ⟨oc17, od17, .func (PySem.W.fnOf "_law_is_name" "_law_is_name" (defArgs sLawIsName) (defBody sLawIsName) (defScope sLawIsName) .none kV17 dc17 pm17 an17 cd17 ct17), sl17⟩) (c17 : PySem.W.codeIn K cd17 "_law_is_name" = true) (k17 : PySem.W.keepIn K (.ref f17) = true)
    (a18 : PySem.W.nsIn K mainGlobals "_law_are_members" = some (some (.ref f18))) (l18 : K.lookup f18 = some ⟨oc18, od18, .func (PySem.W.fnOf "_law_are_members" "_law_are_members" (defArgs sLawAreMembers) (defBody sLawAreMembers) (defScope sLawAreMembers) .none kV18 dc18 pm18 an18 cd18 ct18), sl18⟩) (c18 : PySem.W.codeIn K cd18 "_law_are_members" = true) (k18 : PySem.W.keepIn K (.ref f18) = true)
    (a19 : PySem.W.nsIn K mainGlobals "_law_is_deed" = some (some (.ref f19))) (l19 : K.lookup f19 = some ⟨oc19, od19, .func (PySem.W.fnOf "_law_is_deed" "_law_is_deed" (defArgs sLawIsDeed) (defBody sLawIsDeed) (defScope sLawIsDeed) .none kV19 dc19 pm19 an19 cd19 ct19), sl19⟩) (c19 : PySem.W.codeIn K cd19 "_law_is_deed" = true) (k19 : PySem.W.keepIn K (.ref f19) = true)
    (a20 : PySem.W.nsIn K mainGlobals "_law_refused" = some (some (.ref f20))) (l20 : K.lookup f20 = some ⟨oc20, od20, .func (PySem.W.fnOf "_law_refused" "_law_refused" (defArgs sLawRefused) (defBody sLawRefused) (defScope sLawRefused) .none kV20 dc20 pm20 an20 cd20 ct20), sl20⟩) (c20 : PySem.W.codeIn K cd20 "_law_refused" = true) (k20 : PySem.W.keepIn K (.ref f20) = true)
    (a21 : PySem.W.nsIn K mainGlobals "law" = some (some (.ref f21))) (l21 : K.lookup f21 = some ⟨oc21, od21, .func (PySem.W.fnOf "law" "law" (defArgs sLaw) (defBody sLaw) (defScope sLaw) .none kV21 dc21 pm21 an21 cd21 ct21), sl21⟩) (c21 : PySem.W.codeIn K cd21 "law" = true) (k21 : PySem.W.keepIn K (.ref f21) = true)
    (z1 : PySem.W.nsIn K mainGlobals "len" = some none) (z2 : PySem.W.nsIn K mainGlobals "range" = some none) (z3 : PySem.W.nsIn K mainGlobals "abs" = some none) (z4 : PySem.W.nsIn K mainGlobals "all" = some none) (z5 : PySem.W.nsIn K mainGlobals "repr" = some none) (z6 : PySem.W.nsIn K mainGlobals "isinstance" = some none) (z7 : PySem.W.nsIn K mainGlobals "str" = some none) (z8 : PySem.W.nsIn K mainGlobals "int" = some none) (z9 : PySem.W.nsIn K mainGlobals "bool" = some none) (z10 : PySem.W.nsIn K mainGlobals "enumerate" = some none) (z11 : PySem.W.nsIn K mainGlobals "list" = some none) (z12 : PySem.W.nsIn K mainGlobals "tuple" = some none) (z13 : PySem.W.nsIn K mainGlobals "dict" = some none) (z14 : PySem.W.nsIn K mainGlobals "min" = some none) (z15 : PySem.W.nsIn K mainGlobals "max" = some none) (z16 : PySem.W.nsIn K mainGlobals "zip" = some none) (z17 : PySem.W.nsIn K mainGlobals "set" = some none)
    {tk1 : Tok} (y1 : PySem.W.nsIn K mainGlobals "MOST_SIGNS" = some (some (.int 8 tk1)))
    {tk2 : Tok} (y2 : PySem.W.nsIn K mainGlobals "MOST_MANY" = some (some (.int 2 tk2)))
    {x1 x2 : Addr} (r1 : PySem.W.nsIn K mainGlobals "OrderError" = some (some (.ref x1))) (r2 : PySem.W.nsIn K mainGlobals "NoDeed" = some (some (.ref x2)))
    (en : PySem.W.specialIn K (.builtin "object.__class__") "__get__" = some (some (.builtin "getset_descriptor.__get__"))) (et : PySem.W.takesIn K (.builtin "object.__class__") = some true) (ev : PySem.W.nsIn K mainGlobals "ValueError" = some none)
    {N1 : Addr} {bs1 bm1 su1 : List Value} {nm1 q1 : Str} {hd1 ab1 : Bool} {sn1 : List Str} {co1 : Option Bool} {dd1 : Option Addr} {ka1 kb1 kc1 kd1 ke1 : Option Value}
    (o1 : K.lookup x1 = some (excClassObj nm1 q1 x1 N1 bs1 bm1 hd1 sn1 su1 ab1 co1 dd1 ka1 kb1 kc1 kd1 ke1 "ValueError.__new__"))
    (u1 : PySem.W.nsOkIn K N1 = true) (ni1 : PySem.W.nsIn K N1 "__init__" = some none) (tl1 : PySem.W.tailIn K [.type "ValueError", .type "Exception", .type "BaseException", .type "object"] bm1 = true)
    (ga1 : PySem.W.findIn K (.ref x1) "__getattribute__" = some (some (.builtin "BaseException.__getattribute__"))) (gb1 : PySem.W.findIn K (.ref x1) "__getattr__" = some none) (ha1 : PySem.W.findIn K (.ref x1) "__class__" = some (some (.builtin "object.__class__")))
    (hm1 : PySem.W.mroIn K x1 (.type "object") = some true) (hb1 : PySem.W.mroIn K x1 (.type "BaseException") = some true) (cl1 : (PySem.W.clsIn K x1).isSome = true)
    (p1 : bm1.contains (.type "BaseException") = true) (q_1 : (Value.ref x1 :: bm1).contains (.ref x1) = true) (w1 : PySem.W.kitOne K (.ref x1) (.type "ValueError") = some true)
    {N2 : Addr} {bs2 bm2 su2 : List Value} {nm2 q2 : Str} {hd2 ab2 : Bool} {sn2 : List Str} {co2 : Option Bool} {dd2 : Option Addr} {ka2 kb2 kc2 kd2 ke2 : Option Value}
    (o2 : K.lookup x2 = some (excClassObj nm2 q2 x2 N2 bs2 bm2 hd2 sn2 su2 ab2 co2 dd2 ka2 kb2 kc2 kd2 ke2 "ValueError.__new__"))
    (u2 : PySem.W.nsOkIn K N2 = true) (ni2 : PySem.W.nsIn K N2 "__init__" = some none) (tl2 : PySem.W.tailIn K [.type "ValueError", .type "Exception", .type "BaseException", .type "object"] bm2 = true)
    (ga2 : PySem.W.findIn K (.ref x2) "__getattribute__" = some (some (.builtin "BaseException.__getattribute__"))) (gb2 : PySem.W.findIn K (.ref x2) "__getattr__" = some none) (ha2 : PySem.W.findIn K (.ref x2) "__class__" = some (some (.builtin "object.__class__")))
    (hm2 : PySem.W.mroIn K x2 (.type "object") = some true) (hb2 : PySem.W.mroIn K x2 (.type "BaseException") = some true) (cl2 : (PySem.W.clsIn K x2).isSome = true)
    (p2 : bm2.contains (.type "BaseException") = true) (q_2 : (Value.ref x2 :: bm2).contains (.ref x1) = true) (w2 : PySem.W.kitOne K (.ref x2) (.type "ValueError") = some true)
    (g2_1 : PySem.W.kitOne K (.ref x2) (.ref x1) = some true) (g2_2 : PySem.W.kitOne K (.ref x2) (.ref x2) = some true)
    {W : Addr} {odW : Option Addr} {tW1 tW2 : Tok} {nW : Nat} {slW : Array (Option Value)} (gW : PySem.W.nsIn K mainGlobals "WORDS" = some (some (.ref W))) (lW : K.lookup W = some ⟨.type "tuple", odW, .seq ([.str "first" tW1, .str "last" tW2] : List Value).toArray nW, slW⟩)
    {D0 : Addr} {epD : Nat} {tD1 tD2 tD3 tD4 tD5 tD6 tD7 tD8 tD9 : Tok} {sD1 sD2 sD3 sD4 sD5 sD6 sD7 sD8 sD9 : Addr} (gD : PySem.W.nsIn K mainGlobals "PARTS" = some (some (.ref D0))) (lD : K.lookup D0 = some ⟨.type "dict", none, .dict ([⟨PyData.keyHash w.params "thing", .str "thing" tD1, .ref sD1⟩, ⟨PyData.keyHash w.params "tie", .str "tie" tD2, .ref sD2⟩, ⟨PyData.keyHash w.params "wait", .str "wait" tD3, .ref sD3⟩, ⟨PyData.keyHash w.params "untie", .str "untie" tD4, .ref sD4⟩, ⟨PyData.keyHash w.params "drop", .str "drop" tD5, .ref sD5⟩, ⟨PyData.keyHash w.params "group", .str "group" tD6, .ref sD6⟩, ⟨PyData.keyHash w.params "open", .str "open" tD7, .ref sD7⟩, ⟨PyData.keyHash w.params "want", .str "want" tD8, .ref sD8⟩, ⟨PyData.keyHash w.params "unwant", .str "unwant" tD9, .ref sD9⟩] : List DictEntry).toArray epD, #[]⟩) (nD : (D0 == sysModules) = false)
    {oP1 : Option Addr} {uP1_0 uP1_1 : Tok} {nP1 : Nat} {lP1 : Array (Option Value)} (qP1 : K.lookup sD1 = some ⟨.type "tuple", oP1, .seq ([.str "name" uP1_0, .str "knot" uP1_1] : List Value).toArray nP1, lP1⟩)
    {oP2 : Option Addr} {uP2_0 uP2_1 : Tok} {nP2 : Nat} {lP2 : Array (Option Value)} (qP2 : K.lookup sD2 = some ⟨.type "tuple", oP2, .seq ([.str "name" uP2_0, .str "name" uP2_1] : List Value).toArray nP2, lP2⟩)
    {oP3 : Option Addr} {uP3_0 uP3_1 : Tok} {nP3 : Nat} {lP3 : Array (Option Value)} (qP3 : K.lookup sD3 = some ⟨.type "tuple", oP3, .seq ([.str "name" uP3_0, .str "name" uP3_1] : List Value).toArray nP3, lP3⟩)
    {oP4 : Option Addr} {uP4_0 uP4_1 : Tok} {nP4 : Nat} {lP4 : Array (Option Value)} (qP4 : K.lookup sD4 = some ⟨.type "tuple", oP4, .seq ([.str "name" uP4_0, .str "name" uP4_1] : List Value).toArray nP4, lP4⟩)
    {oP5 : Option Addr} {uP5_0 : Tok} {nP5 : Nat} {lP5 : Array (Option Value)} (qP5 : K.lookup sD5 = some ⟨.type "tuple", oP5, .seq ([.str "name" uP5_0] : List Value).toArray nP5, lP5⟩)
    {oP6 : Option Addr} {uP6_0 uP6_1 : Tok} {nP6 : Nat} {lP6 : Array (Option Value)} (qP6 : K.lookup sD6 = some ⟨.type "tuple", oP6, .seq ([.str "name" uP6_0, .str "members" uP6_1] : List Value).toArray nP6, lP6⟩)
    {oP7 : Option Addr} {uP7_0 : Tok} {nP7 : Nat} {lP7 : Array (Option Value)} (qP7 : K.lookup sD7 = some ⟨.type "tuple", oP7, .seq ([.str "name" uP7_0] : List Value).toArray nP7, lP7⟩)
    {oP8 : Option Addr} {uP8_0 uP8_1 : Tok} {nP8 : Nat} {lP8 : Array (Option Value)} (qP8 : K.lookup sD8 = some ⟨.type "tuple", oP8, .seq ([.str "word" uP8_0, .str "name" uP8_1] : List Value).toArray nP8, lP8⟩)
    {oP9 : Option Addr} {uP9_0 uP9_1 : Tok} {nP9 : Nat} {lP9 : Array (Option Value)} (qP9 : K.lookup sD9 = some ⟨.type "tuple", oP9, .seq ([.str "word" uP9_0, .str "name" uP9_1] : List Value).toArray nP9, lP9⟩)
    : ∃ fd : FuncData, (∀ (s : Shared) (v : Value), BindsTo s fd ⟨[v], []⟩ [("_law_script", v)]) ∧ ∀ base : Heap, K.In base → base.Ns mainGlobals mg → FnOk l.prog w K mg base CX0 12 fa fd ["_law_script"] (spLaw K) := by
  have e := hfa.symm.trans (PySem.W.mg_of X G a21)
  cases e
  have B : Blt mg := ⟨PySem.W.mg_none_of X G z1, PySem.W.mg_none_of X G z2, PySem.W.mg_none_of X G z3, PySem.W.mg_none_of X G z4, PySem.W.mg_none_of X G z5, PySem.W.mg_none_of X G z6, PySem.W.mg_none_of X G z7, PySem.W.mg_none_of X G z8, PySem.W.mg_none_of X G z9, PySem.W.mg_none_of X G z10, PySem.W.mg_none_of X G z11, PySem.W.mg_none_of X G z12, PySem.W.mg_none_of X G z13, PySem.W.mg_none_of X G z14, PySem.W.mg_none_of X G z15⟩
  have Zzip := PySem.W.mg_none_of X G z16
  have Zset := PySem.W.mg_none_of X G z17
  have TMOST_SIGNS := PySem.W.mg_of X G y1
  have TMOST_MANY := PySem.W.mg_of X G y2
  have F1 := fun_mk (st := sIsName) l1 c1 k1
  have F2 := fun_mk (st := sPlaces) l2 c2 k2
  have F3 := fun_mk (st := sUNm) l3 c3 k3
  have F4 := fun_mk (st := sUnlike) l4 c4 k4
  have F5 := fun_mk (st := sIsSingle) l5 c5 k5
  have F6 := fun_mk (st := sIsMany) l6 c6 k6
  have F7 := fun_mk (st := sHasWord) l7 c7 k7
  have F8 := fun_mk (st := sIsPart) l8 c8 k8
  have F9 := fun_mk (st := sIsDeed) l9 c9 k9
  have F10 := fun_mk (st := sBehind) l10 c10 k10
  have F11 := fun_mk (st := sIsDeedWithin) l11 c11 k11
  have F12 := fun_mk (st := sPen) l12 c12 k12
  have F13 := fun_mk (st := sDraw) l13 c13 k13
  have F14 := fun_mk (st := sLawPart) l14 c14 k14
  have F15 := fun_mk (st := sLawMembers) l15 c15 k15
  have F16 := fun_mk (st := sLawThing) l16 c16 k16
  have F17 := fun_mk (st := sLawIsName) l17 c17 k17
  have F18 := fun_mk (st := sLawAreMembers) l18 c18 k18
  have F19 := fun_mk (st := sLawIsDeed) l19 c19 k19
  have F20 := fun_mk (st := sLawRefused) l20 c20 k20
  have F21 := fun_mk (st := sLaw) l21 c21 k21
  have b1 := F1.binds (ps := ["thing"]) fun _ _ _ _ _ _ us hl => by obtain ⟨_, rfl⟩ := ar1 hl; rfl
  have b2 := F2.binds (ps := ["things"]) fun _ _ _ _ _ _ us hl => by obtain ⟨_, rfl⟩ := ar1 hl; rfl
  have b3 := F3.binds (ps := ["things"]) fun _ _ _ _ _ _ us hl => by obtain ⟨_, rfl⟩ := ar1 hl; rfl
  have b4 := F4.binds (ps := ["things"]) fun _ _ _ _ _ _ us hl => by obtain ⟨_, rfl⟩ := ar1 hl; rfl
  have b5 := F5.binds (ps := ["thing"]) fun _ _ _ _ _ _ us hl => by obtain ⟨_, rfl⟩ := ar1 hl; rfl
  have b6 := F6.binds (ps := ["thing"]) fun _ _ _ _ _ _ us hl => by obtain ⟨_, rfl⟩ := ar1 hl; rfl
  have b7 := F7.binds (ps := ["thing"]) fun _ _ _ _ _ _ us hl => by obtain ⟨_, rfl⟩ := ar1 hl; rfl
  have b8 := F8.binds (ps := ["sort", "part"]) fun _ _ _ _ _ _ us hl => by obtain ⟨_, _, rfl⟩ := ar2 hl; rfl
  have b9 := F9.binds (ps := ["thing"]) fun _ _ _ _ _ _ us hl => by obtain ⟨_, rfl⟩ := ar1 hl; rfl
  have b10 := F10.binds (ps := ["house", "deed"]) fun _ _ _ _ _ _ us hl => by obtain ⟨_, _, rfl⟩ := ar2 hl; rfl
  have b11 := F11.binds (ps := ["thing", "many"]) fun _ _ _ _ _ _ us hl => by obtain ⟨_, _, rfl⟩ := ar2 hl; rfl
  have b12 := F12.binds (ps := ["_law_script"]) fun _ _ _ _ _ _ us hl => by obtain ⟨_, rfl⟩ := ar1 hl; rfl
  have b13 := F13.binds (ps := ["_law_pen_here", "_law_many"]) fun _ _ _ _ _ _ us hl => by obtain ⟨_, _, rfl⟩ := ar2 hl; rfl
  have b14 := F14.binds (ps := ["_law_pen_here", "_law_sort"]) fun _ _ _ _ _ _ us hl => by obtain ⟨_, _, rfl⟩ := ar2 hl; rfl
  have b15 := F15.binds (ps := ["_law_pen_here"]) fun _ _ _ _ _ _ us hl => by obtain ⟨_, rfl⟩ := ar1 hl; rfl
  have b16 := F16.binds (ps := ["_law_pen_here", "_law_deep"]) fun _ _ _ _ _ _ us hl => by obtain ⟨_, _, rfl⟩ := ar2 hl; rfl
  have b17 := F17.binds (ps := ["_law_thing_here"]) fun _ _ _ _ _ _ us hl => by obtain ⟨_, rfl⟩ := ar1 hl; rfl
  have b18 := F18.binds (ps := ["_law_thing_here"]) fun _ _ _ _ _ _ us hl => by obtain ⟨_, rfl⟩ := ar1 hl; rfl
  have b19 := F19.binds (ps := ["_law_thing_here", "_law_deep"]) fun _ _ _ _ _ _ us hl => by obtain ⟨_, _, rfl⟩ := ar2 hl; rfl
  have b20 := F20.binds (ps := ["_law_thing_here"]) fun _ _ _ _ _ _ us hl => by obtain ⟨_, rfl⟩ := ar1 hl; rfl
  refine ⟨PySem.W.fnOf "law" "law" (defArgs sLaw) (defBody sLaw) (defScope sLaw) .none kV21 dc21 pm21 an21 cd21 ct21, fun s v => .of_eq rfl, fun base XB GB => ?_⟩
  have eN : (["OrderError", "NoDeed"] : List Str).Nodup := by decide +kernel
  have eO : ecOf ([("OrderError", x1), ("NoDeed", x2)] : List (Str × Addr)) "OrderError" = x1 := ecOf_at (ps := [("OrderError", x1), ("NoDeed", x2)]) eN ("OrderError", x1) (.head _)
  have Er : Errs K mg base (ecOf ([("OrderError", x1), ("NoDeed", x2)] : List (Str × Addr))) excL excC := errs_mk (ps := [("OrderError", x1), ("NoDeed", x2)]) (cs := [("OrderError", x1), ("NoDeed", x2)]) eN (fa_cons (.head _) (fa_cons (.tail _ (.head _)) fa_nil)) (fa_cons (PySem.W.mg_of X G r1) (fa_cons (PySem.W.mg_of X G r2) fa_nil)) (fa_cons ⟨ga1, gb1, ha1, en, et, hm1, hb1, cl1⟩ (fa_cons ⟨ga2, gb2, ha2, en, et, hm2, hb2, cl2⟩ fa_nil)) (show ("OrderError" : Str) ∈ excC by decide +kernel) (fa_cons (fun h => absurd rfl h) (fa_cons (fun _ => (fa_cons (g2_1.trans (congrArg some (show true = (("OrderError" : Str) == ("NoDeed" : Str) || ("OrderError" : Str) == ("OrderError" : Str)) by decide +kernel))) (fa_cons (g2_2.trans (congrArg some (show true = (("NoDeed" : Str) == ("NoDeed" : Str) || ("NoDeed" : Str) == ("OrderError" : Str)) by decide +kernel))) fa_nil))) fa_nil)) (fa_cons w1 (fa_cons w2 fa_nil)) (fa_cons ⟨bm1, xat_mk XB o1, p1, (by rw [eO]; exact q_1)⟩ (fa_cons ⟨bm2, xat_mk XB o2, p2, (by rw [eO]; exact q_2)⟩ fa_nil)) (PySem.W.mg_none_of X G ev) (fa_cons (fun _ => own_mk XB (PySem.W.mg_of X G r1) o1 u1 ni1 tl1) (fa_cons (fun _ => own_mk XB (PySem.W.mg_of X G r2) o2 u2 ni2 tl2) fa_nil))
  have KW := sq_lit (xs := [V.str "first", V.str "last"]) lW (Nat.le_of_ble_eq_true rfl) (.cons ⟨_, rfl⟩ (.cons ⟨_, rfl⟩ .nil))
  have TW := PySem.W.mg_of X G gW
  have TP := PySem.W.mg_of X G gD
  have PP : PK l.prog w K D0 _ := pk_mk [⟨"thing", tD1, sD1⟩, ⟨"tie", tD2, sD2⟩, ⟨"wait", tD3, sD3⟩, ⟨"untie", tD4, sD4⟩, ⟨"drop", tD5, sD5⟩, ⟨"group", tD6, sD6⟩, ⟨"open", tD7, sD7⟩, ⟨"want", tD8, sD8⟩, ⟨"unwant", tD9, sD9⟩] lD nD rfl (.cons (sq_lit qP1 (Nat.le_of_ble_eq_true rfl) (.cons ⟨_, rfl⟩ (.cons ⟨_, rfl⟩ .nil))) (.cons (sq_lit qP2 (Nat.le_of_ble_eq_true rfl) (.cons ⟨_, rfl⟩ (.cons ⟨_, rfl⟩ .nil))) (.cons (sq_lit qP3 (Nat.le_of_ble_eq_true rfl) (.cons ⟨_, rfl⟩ (.cons ⟨_, rfl⟩ .nil))) (.cons (sq_lit qP4 (Nat.le_of_ble_eq_true rfl) (.cons ⟨_, rfl⟩ (.cons ⟨_, rfl⟩ .nil))) (.cons (sq_lit qP5 (Nat.le_of_ble_eq_true rfl) (.cons ⟨_, rfl⟩ .nil)) (.cons (sq_lit qP6 (Nat.le_of_ble_eq_true rfl) (.cons ⟨_, rfl⟩ (.cons ⟨_, rfl⟩ .nil))) (.cons (sq_lit qP7 (Nat.le_of_ble_eq_true rfl) (.cons ⟨_, rfl⟩ .nil)) (.cons (sq_lit qP8 (Nat.le_of_ble_eq_true rfl) (.cons ⟨_, rfl⟩ (.cons ⟨_, rfl⟩ .nil))) (.cons (sq_lit qP9 (Nat.le_of_ble_eq_true rfl) (.cons ⟨_, rfl⟩ (.cons ⟨_, rfl⟩ .nil))) .nil)))))))))
  have c__law_pen : Cal l.prog w K mg base 1 "_law_pen" ["_law_script"] (spPenD K) := ⟨_, _, ok_pen F12 B, PySem.W.mg_of X G a12, k12, b12⟩
  have c__law_draw : Cal l.prog w K mg base 1 "_law_draw" ["_law_pen_here", "_law_many"] (spDrw K) := ⟨_, _, ok_draw F13 B, PySem.W.mg_of X G a13, k13, b13⟩
  have c_places_of : Cal l.prog w K mg base 1 "places_of" ["things"] spPlacesX := ⟨_, _, ok_placesX F2 B, PySem.W.mg_of X G a2, k2, b2⟩
  have c_is_name : Cal l.prog w K mg base 1 "is_name" ["thing"] spIsName := ⟨_, _, ok_isname F1 B TMOST_SIGNS, PySem.W.mg_of X G a1, k1, b1⟩
  have c_are_unlike : Cal l.prog w K mg base 2 "are_unlike" ["things"] spUnlike := ⟨_, _, ok_unlike F4 B c_places_of, PySem.W.mg_of X G a4, k4, b4⟩
  have c_are_unlike_names : Cal l.prog w K mg base 3 "are_unlike_names" ["things"] spUNmG := ⟨_, _, ok_unmG F3 B c_is_name c_are_unlike, PySem.W.mg_of X G a3, k3, b3⟩
  have c_has_word : Cal l.prog w K mg base 1 "has_word" ["thing"] spHW := ⟨_, _, ok_hw F7 B, PySem.W.mg_of X G a7, k7, b7⟩
  have c_is_many : Cal l.prog w K mg base 2 "is_many" ["thing"] spIM := ⟨_, _, ok_im F6 B c_has_word, PySem.W.mg_of X G a6, k6, b6⟩
  have c_is_part : Cal l.prog w K mg base 4 "is_part" ["sort", "part"] spPart := ⟨_, _, ok_part F8 B TW KW c_are_unlike_names c_is_name, PySem.W.mg_of X G a8, k8, b8⟩
  have c_is_single : Cal l.prog w K mg base 5 "is_single" ["thing"] spSing := ⟨_, _, ok_sing F5 B Zzip TP PP c_has_word c_is_part, PySem.W.mg_of X G a5, k5, b5⟩
  have c_is_deed_within : Cal l.prog w K mg base 8 "is_deed_within" ["thing", "many"] (spDW 2) := ⟨_, _, ok_dw F11 B c_is_many c_is_single (fun _ _ o => ⟨_, _, o, PySem.W.mg_of X G a11, k11, b11⟩) 2, PySem.W.mg_of X G a11, k11, b11⟩
  have c_is_deed : Cal l.prog w K mg base 9 "is_deed" ["thing"] spDeed := ⟨_, _, ok_deed F9 B TMOST_MANY c_is_deed_within, PySem.W.mg_of X G a9, k9, b9⟩
  have c_behindX : CalX l.prog w K mg base 10 "behind" ["house", "deed"] (spBehX _) := ⟨_, _, ok_behX F10 B Er c_is_deed, PySem.W.mg_of X G a10, k10, b10⟩
  have c__law_refused : Cal l.prog w K mg base 11 "_law_refused" ["_law_thing_here"] spRef := ⟨_, _, ok_ref F20 B Er c_behindX, PySem.W.mg_of X G a20, k20, b20⟩
  have c__law_is_name : Cal l.prog w K mg base 1 "_law_is_name" ["_law_thing_here"] spIsName := ⟨_, _, ok_lnm F17 B, PySem.W.mg_of X G a17, k17, b17⟩
  have c__law_are_members : Cal l.prog w K mg base 2 "_law_are_members" ["_law_thing_here"] spLMem := ⟨_, _, ok_lmem F18 B Zset c__law_is_name, PySem.W.mg_of X G a18, k18, b18⟩
  have c__law_is_deed : Cal l.prog w K mg base 5 "_law_is_deed" ["_law_thing_here", "_law_deep"] (spLD 2) := ⟨_, _, ok_ld F19 B c__law_is_name c__law_are_members (fun _ _ o => ⟨_, _, o, PySem.W.mg_of X G a19, k19, b19⟩) 2, PySem.W.mg_of X G a19, k19, b19⟩
  have c__law_part : Cal l.prog w K mg base 2 "_law_part" ["_law_pen_here", "_law_sort"] (spLP K) := ⟨_, _, ok_lp F14 B c__law_draw, PySem.W.mg_of X G a14, k14, b14⟩
  have c__law_members : Cal l.prog w K mg base 3 "_law_members" ["_law_pen_here"] (spLM K) := ⟨_, _, ok_lm F15 B c__law_draw c__law_part, PySem.W.mg_of X G a15, k15, b15⟩
  have c__law_thing : Cal l.prog w K mg base 6 "_law_thing" ["_law_pen_here", "_law_deep"] (spLT K 2) := ⟨_, _, ok_lt F16 B c__law_draw c__law_part c__law_members (fun _ _ o => ⟨_, _, o, PySem.W.mg_of X G a16, k16, b16⟩) 2 (by decide), PySem.W.mg_of X G a16, k16, b16⟩
  exact ok_law F21 B c__law_pen c__law_thing c__law_is_deed c_is_deed c__law_refused
theorem walk {l : PySem.W.OpenLaw} {q : Program} {loose : List Str} {XP : (Str → Option Value) → Heap → Prop} {YP : World → Heap → Prop} {d : DefRec} {K : Params → PySem.W.Frag} (hn : l.most = some 63) (hdf : d.params.defaults = [])
    (hY : ∀ (w : World) (h : Heap), YP w h → (K w.params).In h)
    (F : ∀ (w : World) (mg : Str → Option Value) (fa : Addr) (h : Heap), (K w.params).In h → h.Ns mainGlobals mg → mg d.name = some (.ref fa) →
      ∃ fd : FuncData, (∀ (s : Shared) (u : Value), BindsTo s fd ⟨[u], []⟩ [("_law_script", u)]) ∧ ∀ base : Heap, (K w.params).In base → base.Ns mainGlobals mg → FnOk l.prog w (K w.params) mg base CX0 12 fa fd ["_law_script"] (spLaw (K w.params))) :
    PySem.W.WalkO q loose XP YP l.row.toRowW d [] (fun f vs => PySem.call f vs) :=
  L2.walk_of (n := 63) (k := 12) (x := "_law_script") (CX := fun _ => CX0) (sp := fun w => spLaw (K w.params)) hn (by decide) hdf ⟨rfl, by decide, by decide, rfl⟩ hY F (fun _ _ a ns hl _ hS => ⟨a, ns, rfl, hS, fun _ => rfl⟩) fun _ _ _ _ _ z => z
end
end K56
open PySem PySem.W PyProof.Rows
set_option maxRecDepth 100000 in
set_option maxHeartbeats 0 in
theorem PySem.Challenge.cw_orderkeep_k56_what_is_a_deed_holds : PySem.Challenge.rw_orderkeep_k56_what_is_a_deed.Holds := by
  w_on; o_law; k_head; (case hw => w_witness2)
  k_fill
  refine K56.walk (l := PySem.Challenge.rw_orderkeep_k56_what_is_a_deed) rfl rfl (fun w h Y => PySem.W.km_in_of Y) ?F
  case F =>
    intro w mg fa h KX G hmg
    refine' K56.all_mk KX G hmg ?a1 ?l1 ?c1 ?k1 ?a2 ?l2 ?c2 ?k2 ?a3 ?l3 ?c3 ?k3 ?a4 ?l4 ?c4 ?k4 ?a5 ?l5 ?c5 ?k5 ?a6 ?l6 ?c6 ?k6 ?a7 ?l7 ?c7 ?k7 ?a8 ?l8 ?c8 ?k8 ?a9 ?l9 ?c9 ?k9 ?a10 ?l10 ?c10 ?k10 ?a11 ?l11 ?c11 ?k11 ?a12 ?l12 ?c12 ?k12 ?a13 ?l13 ?c13 ?k13 ?a14 ?l14 ?c14 ?k14 ?a15 ?l15 ?c15 ?k15 ?a16 ?l16 ?c16 ?k16 ?a17 ?l17 ?c17 ?k17 ?a18 ?l18 ?c18 ?k18 ?a19 ?l19 ?c19 ?k19 ?a20 ?l20 ?c20 ?k20 ?a21 ?l21 ?c21 ?k21 ?z1 ?z2 ?z3 ?z4 ?z5 ?z6 ?z7 ?z8 ?z9 ?z10 ?z11 ?z12 ?z13 ?z14 ?z15 ?z16 ?z17 ?y1 ?y2 ?r1 ?r2 ?en ?et ?ev ?o1 ?u1 ?ni1 ?tl1 ?ga1 ?gb1 ?ha1 ?hm1 ?hb1 ?cl1 ?p1 ?q_1 ?w1 ?o2 ?u2 ?ni2 ?tl2 ?ga2 ?gb2 ?ha2 ?hm2 ?hb2 ?cl2 ?p2 ?q_2 ?w2 ?g2_1 ?g2_2 ?gW ?lW ?gD ?lD ?nD ?qP1 ?qP2 ?qP3 ?qP4 ?qP5 ?qP6 ?qP7 ?qP8 ?qP9
    (case a1 => k_is)
    (case l1 => k_is)
    (case c1 => k_is)
    (case k1 => k_is)
    (case a2 => k_is)
    (case l2 => k_is)
    (case c2 => k_is)
    (case k2 => k_is)
    (case a3 => k_is)
    (case l3 => k_is)
    (case c3 => k_is)
    (case k3 => k_is)
    (case a4 => k_is)
    (case l4 => k_is)
    (case c4 => k_is)
    (case k4 => k_is)
    (case a5 => k_is)
    (case l5 => k_is)
    (case c5 => k_is)
    (case k5 => k_is)
    (case a6 => k_is)
    (case l6 => k_is)
    (case c6 => k_is)
    (case k6 => k_is)
    (case a7 => k_is)
    (case l7 => k_is)
    (case c7 => k_is)
    (case k7 => k_is)
    (case a8 => k_is)
    (case l8 => k_is)
    (case c8 => k_is)
    (case k8 => k_is)
    (case a9 => k_is)
    (case l9 => k_is)
    (case c9 => k_is)
    (case k9 => k_is)
    (case a10 => k_is)
    (case l10 => k_is)
    (case c10 => k_is)
    (case k10 => k_is)
    (case a11 => k_is)
    (case l11 => k_is)
    (case c11 => k_is)
    (case k11 => k_is)
    (case a12 => k_is)
    (case l12 => k_is)
    (case c12 => k_is)
    (case k12 => k_is)
    (case a13 => k_is)
    (case l13 => k_is)
    (case c13 => k_is)
    (case k13 => k_is)
    (case a14 => k_is)
    (case l14 => k_is)
    (case c14 => k_is)
    (case k14 => k_is)
    (case a15 => k_is)
    (case l15 => k_is)
    (case c15 => k_is)
    (case k15 => k_is)
    (case a16 => k_is)
    (case l16 => k_is)
    (case c16 => k_is)
    (case k16 => k_is)
    (case a17 => k_is)
    (case l17 => k_is)
    (case c17 => k_is)
    (case k17 => k_is)
    (case a18 => k_is)
    (case l18 => k_is)
    (case c18 => k_is)
    (case k18 => k_is)
    (case a19 => k_is)
    (case l19 => k_is)
    (case c19 => k_is)
    (case k19 => k_is)
    (case a20 => k_is)
    (case l20 => k_is)
    (case c20 => k_is)
    (case k20 => k_is)
    (case a21 => k_is)
    (case l21 => k_is)
    (case c21 => k_is)
    (case k21 => k_is)
    (case z1 => k_is)
    (case z2 => k_is)
    (case z3 => k_is)
    (case z4 => k_is)
    (case z5 => k_is)
    (case z6 => k_is)
    (case z7 => k_is)
    (case z8 => k_is)
    (case z9 => k_is)
    (case z10 => k_is)
    (case z11 => k_is)
    (case z12 => k_is)
    (case z13 => k_is)
    (case z14 => k_is)
    (case z15 => k_is)
    (case z16 => k_is)
    (case z17 => k_is)
    (case y1 => k_is)
    (case y2 => k_is)
    (case r1 => k_is)
    (case r2 => k_is)
    (case en => k_is)
    (case et => k_is)
    (case ev => k_is)
    (case o1 => k_is)
    (case u1 => kernel_rfl)
    (case ni1 => k_is)
    (case tl1 => kernel_rfl)
    (case ga1 => k_is)
    (case gb1 => k_is)
    (case ha1 => k_is)
    (case hm1 => k_is)
    (case hb1 => k_is)
    (case cl1 => exact rfl)
    (case p1 => exact rfl)
    (case q_1 => exact rfl)
    (case w1 => exact rfl)
    (case o2 => k_is)
    (case u2 => kernel_rfl)
    (case ni2 => k_is)
    (case tl2 => kernel_rfl)
    (case ga2 => k_is)
    (case gb2 => k_is)
    (case ha2 => k_is)
    (case hm2 => k_is)
    (case hb2 => k_is)
    (case cl2 => exact rfl)
    (case p2 => exact rfl)
    (case q_2 => exact rfl)
    (case w2 => exact rfl)
    (case g2_1 => exact rfl)
    (case g2_2 => exact rfl)
    (case gW => k_is)
    (case lW => k_is)
    (case gD => k_is)
    (case lD => k_is)
    (case nD => exact rfl)
    (case qP1 => k_is)
    (case qP2 => k_is)
    (case qP3 => k_is)
    (case qP4 => k_is)
    (case qP5 => k_is)
    (case qP6 => k_is)
    (case qP7 => k_is)
    (case qP8 => k_is)
    (case qP9 => k_is)