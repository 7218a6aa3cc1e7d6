import PyProof.Rows.All
import Wide.All
import OpenK.AllK
import Wide.FinOn
import Lean
import PyProof.EqAt
import PyProof.EqKinds
import PyProof.TupleCall
import PyProof.Rows.SumAny
import PyProof.StationsW
import PyProof.ExcClass3
import OpenK.KOwn
import KE.KTryDeep
import KE.KIsAll
import PyProof.ExcAttrAll.ValueError
import PyProof.ExcBaseAll.ValueError
import PyProof.InstStoreFacts
import PyProof.RulesTry
import PyProof.Rows.SortStr
import PyProof.TupleOfSeq
import KE.KxWritten
import PyProof.Conv_bool
import KE.KStrOpen
import PyProof.Rows.FStr
import PyProof.SetRoads
import PyProof.DictKinds
import PyProof.Rows.Range3
import PyProof.FactsAll.tuple_2
import PyProof.CollectIter
import PyProof.TupleOfGen
import PyProof.AttrMissHeap
import KE.KDictOf
import PyProof.StrOps2
import PyProof.DictWalks
import KE.KDictList
import PyProof.Rows.ZipGen
import PySem.Challenge.RW_orderkeep_k70_webs_not_put_together
namespace PySem.W.Fast
def tw11313454828900360805:=0
def tw17985295475959856905:=0
def tw16061778789559841926:=0
def tw2086657099514861808:=0
def tw7515183442024663359:=0
def tw10376287026797019410:=0
def tw15922485000032681426:=0
def tw6722331684418934427:=0
def tw8906001428018302798:=0
def tw15128833686610862958:=0
def tw13045571600735897955:=0
def tw9630818328816868369:=0
def tw18382311347027596095:=0
def tw6528629526867398124:=0
def tw16710141290791281595:=0
def tw3912228716744954840:=0
def tw13290641814909683642:=0
def tw2756510762016242201:=0
def tw5013662720171110502:=0
def tw3000189223458279298:=0
def tw2872209683856348471:=0
def tw6542580434110800889:=0
def tw12866206676619777633:=0
def tw13745850870694236900:=0
def tw8790131309362889707:=0
def tw312326936734678245:=0
def tw17633415040153956053:=0
def tw15539904666518728988:=0
def tw16911290804497072679:=0
def tw7351624860354553107:=0
def tw16645557460211421821:=0
def tw9244878878030038011:=0
def tw1934450641192804659:=0
def tw9417879762125149385:=0
def tw2886010321250453220:=0
def tw8402259524039787123:=0
def tw13981706347438007952:=0
def tw7400659442415879960:=0
def tw12838032386354344838:=0
def tw16405602721592876197:=0
def tw9061685866889984804:=0
def tw18083146704421497403:=0
def tw16384397680992957630:=0
def tw10706675215835840836:=0
def tw16692419475363353274:=0
def tw12784199241997675498:=0
def tw7852960823521976309:=0
def tw12241363282283742458:=0
def tw12090947589512505402:=0
def tw4013829515236467667:=0
def tw12665149426658940279:=0
def tw4418001890515072193:=0
def tw7239622694592296326:=0
def tw2279517151556753575:=0
def tw11225216106495182253:=0
def tw17921200577574343992:=0
def tw3483269862170368154:=0
def tw16071918768371230840:=0
def tw12518074063899410667:=0
def tw16945767634935435059:=0
def tw10474072060931021953:=0
def tw5168514518545567246:=0
def tw9275233764669702062:=0
def tw17804809438667515071:=0
def tw12033358040831560357:=0
def tw5894251636616764278:=0
def tw11104855401810566515:=0
def tw13084298719857184128:=0
def tw18382985771321996268:=0
def tw13298782446926881753:=0
def tw4311653277200174187:=0
def tw13425017865370114906:=0
def tw10817264006018221494:=0
def tw14087163227180491236:=0
def tw11743470856302739020:=0
def tw3781938752250478735:=0
def tw184883314361707200:=0
def tw3402155028118171490:=0
def tw11528771509365681591:=0
def tw13455861788751325373:=0
def tw5739675651285607203:=0
def tw2748890824486583396:=0
def tw7229640331619722849:=0
def tw13988357689132418767:=0
def tw3205513814312437107:=0
def tw4381492343900089089:=0
def tw3604529482472474030:=0
def tw5484966511247594886:=0
def tw10900685221081861610:=0
def tw14298288153092369115:=0
def tw6480642419596594372:=0
def tw11144301078183874690:=0
def tw12226277267054067035:=0
def tw12142105521799419850:=0
def tw542070732978276971:=0
def tw2060918073479985883:=0
def tw15244416628294382565:=0
def tw9118096827735122266:=0
def tw2128435214552942399:=0
def tw16769849004170681568:=0
def tw7703615618269135989:=0
def tw10001037346832035071:=0
def tw12126457893373083365:=0
def tw2424644100652257378:=0
def tw14907150784657001893:=0
def tw10403309752367211606:=0
def tw7219309620522074033:=0
def tw1601229949891008477:=0
def tw10183014030739098077:=0
def tw12919103949015345107:=0
def tw14997411905970661428:=0
def tw9461118743931958686:=0
def tw18302680466422333248:=0
def tw8838053357041042807:=0
def tw1817024678415338284:=0
def tw12450340245018026195:=0
def tw6337616266369493371:=0
def tw17259196275419351070:=0
def tw6540119999765646911:=0
def tw9343934596825821726:=0
def tw8714277942572536604:=0
def tw17786771248716054095:=0
def tw17355906845875077259:=0
def tw10583458449191832778:=0
def tw828713567437587146:=0
def tw12217271761478446145:=0
def tw1464418398683478836:=0
def tw12372822928746496209:=0
def tw14986706592906375263:=0
def tw5921471633415575616:=0
def tw8275676326929818847:=0
def tw14535958781491952847:=0
def tw4487908895811823944:=0
def tw6629201787357691467:=0
def tw3784300569115047122:=0
def tw7306426596483227752:=0
def tw6522974260164956209:=0
def tw6640331033629321275:=0
def tw17974559567634735067:=0
def tw1992169909241388475:=0
def tw12560356317578697198:=0
def tw16680971695401158618:=0
def tw566553697331651163:=0
def tw1297409277482711769:=0
def tw642447611312446949:=0
def tw2390588044505446948:=0
def tw16455135408568466458:=0
def tw9282937867007717477:=0
def tw17707523734936989602:=0
def tw428438481563800277:=0
def tw2501258804546146078:=0
def tw12014325366530836948:=0
def tw3389953286779376392:=0
def tw10011414871532046282:=0
def tw14445923767914737685:=0
def tw7074317864230135114:=0
def tw10825242265491261308:=0
def tw9588705279371121229:=0
def tw15869305891289313342:=0
def tw6664079534052692631:=0
def tw12980779153551297205:=0
def tw4122120236970846847:=0
def tw966863166084726286:=0
def tw5944448631449767199:=0
def tw8700918298322902590:=0
def tw15305170860796248653:=0
def tw9835797409988296114:=0
def tw12635317637982051402:=0
def tw10708324166791985874:=0
def tw7765927342262576331:=0
def tw7195052133257216900:=0
def tw12871690303110411045:=0
def tw13869164493616040787:=0
def tw12232695685636690438:=0
def tw4329988442404317508:=0
def tw14239518047039330803:=0
def tw16116313616519214762:=0
def tw8917337138439135487:=0
def tw619984659043666466:=0
def tw9497699236244582095:=0
def tw4562222658916172645:=0
def tw533356098134336198:=0
def tw8214737724059872573:=0
def tw10664441617431624511:=0
def tw17468745945801749347:=0
def tw9609203512565366995:=0
def tw7595672264014181363:=0
def tw9850244164920140528:=0
def tw18250523781190878516:=0
def tw15052212150208576618:=0
def tw6980694809827903838:=0
def tw13044786134793494538:=0
def tw16637862100752396246:=0
def tw5310147512899977472:=0
def tw9632891869090030442:=0
def tw414999971730323017:=0
def tw745751779756210304:=0
def tw14274830715653107140:=0
def tw2299177337880516944:=0
def tw3265295496269848067:=0
def tw5892541764758357816:=0
def tw6139281058291070514:=0
def tw4457209929600251977:=0
def tw1973505837692809679:=0
def tw10568624230160705957:=0
def tw3111696393178614067:=0
def tw4722971568332499709:=0
def tw9741541298150463489:=0
def tw9936447381271288580:=0
def tw1030781231032599550:=0
def tw8461240207145900377:=0
def tw11099320531374225347:=0
def tw9808688053696953895:=0
def tw18187173040955125368:=0
def tw2371689732841169960:=0
def tw97851233563715294:=0
def tw1617382833117145568:=0
def tw16071079397356523704:=0
def tw14117156315911639798:=0
def tw9101080941108285184:=0
def tw17021693158710692941:=0
def tw5983287316285302350:=0
def tw2618142567418538147:=0
def tw758813672260351801:=0
def tw5439005770918619308:=0
def tw518739158208821283:=0
def tw16477816158726541924:=0
def tw4038850202057694134:=0
def tw9503631660818044136:=0
def tw7926344013403469183:=0
def tw9947314794929822047:=0
def tw14641246858827189042:=0
def tw18046738800728114870:=0
def tw1453956502125241589:=0
def tw15419848743096983437:=0
def tw17202068254018261157:=0
def tw7650192165353111332:=0
def tw8479168242465697323:=0
def tw8038287857744157562:=0
def tw13854656318477106124:=0
def tw9982814207428236027:=0
def tw5020582599556505221:=0
def tw15551726921691673665:=0
def tw5998067514329187672:=0
def tw13089935119489016429:=0
def tw15444123565596646669:=0
def tw2939220633716199720:=0
def tw3175486315124107770:=0
def tw15052388426053084464:=0
def tw6439506890771006757:=0
def tw7601395982428655444:=0
def tw2952562074233280215:=0
def tw9354105960781425026:=0
def tw1399114661901237420:=0
def tw12915457595768185301:=0
def tw16256235147176464083:=0
def tw5560153545593235299:=0
def tw9136650307426932875:=0
def tw10319449389157423474:=0
def tw1830336117823162801:=0
def tw8975397315205459675:=0
def tw14059895574508087622:=0
def tw10955662955403245403:=0
def tw11334704749781399532:=0
def tw2781191381937313694:=0
def tw14590122405843458386:=0
def tw12909876186915387128:=0
def tw4929876696257846507:=0
def tw17232566355402142092:=0
def tw12538083954847417328:=0
def tw13003826760183290063:=0
def tw11779800588793689902:=0
def tw4176932142736998858:=0
def tw6219542672060713563:=0
def tw11109660942798464972:=0
def tw12378755364764623489:=0
def tw17020543093717860995:=0
def tw12277334428752048935:=0
def tw6176376333955209012:=0
def tw5057767847036677920:=0
def tw17657782406590699604:=0
def tw2632454238111608834:=0
def tw629427348898636529:=0
def tw6608515250180876204:=0
def tw13993659616222599726:=0
def tw2279448321619523840:=0
def tw5723955864997296991:=0
def tw9745815660572897722:=0
def tw13937538167407024558:=0
def tw8684732561442708360:=0
def tw3389666514213997206:=0
def tw2884170528702856324:=0
def tw7932874823827272473:=0
def tw14727229121027804109:=0
def tw14784531008062991559:=0
def tw16471507245635390261:=0
def tw12935741315331225116:=0
def tw2446073057076400349:=0
def tw157785884635076245:=0
def tw7879562953602462588:=0
def tw14041007320968788449:=0
def tw9145917133459938922:=0
def tw1379186432604305147:=0
def tw17597630479054631888:=0
def tw2099357146798123966:=0
def tw16321874385351031543:=0
def tw11853773379037291302:=0
def tw1202444140750129494:=0
def tw16719593097438302163:=0
def tw17455153252258236341:=0
def tw3703794320175793427:=0
def tw2467152564517108540:=0
def tw7611552611611305501:=0
def tw18009241768041326758:=0
def tw10322624275122725449:=0
def tw7499242478153115449:=0
def tw16029369811400438611:=0
def tw21238167143953761:=0
def tw17682121278991673771:=0
def tw15510458371600139072:=0
def tw14657565761838809936:=0
def tw13927660651181726312:=0
def tw13678788922291270277:=0
def tw8981374526468319967:=0
def tw8919314928190312486:=0
def tw6124822509697671152:=0
def tw841946499606520917:=0
def tw1798580576657917771:=0
def tw13651001146163086520:=0
def tw15010247718869824028:=0
def tw2895539096894761179:=0
def tw6281446663586555661:=0
def tw1351354785521711617:=0
def tw4397556331691707356:=0
def tw2752541511965418945:=0
def tw3961092106099444773:=0
def tw14193203781367606525:=0
def tw14870212347812073780:=0
def tw16940720994208431687:=0
def tw10391807932753770174:=0
def tw2099609040128563282:=0
def tw12039566177431028079:=0
def tw15242590874789182048:=0
def tw9875817881061125566:=0
def tw12196707148242043254:=0
def tw6999329759158429779:=0
def tw11243295102637675451:=0
def tw17079099449940911715:=0
def tw9647400626361709594:=0
def tw2767278322316665388:=0
def tw12096361542722833294:=0
def tw15656379940463143725:=0
def tw17371668670730065129:=0
def tw14029680453202445794:=0
def tw6528356655486167467:=0
def tw947493893962725059:=0
def tw8014798924750701556:=0
def tw6749020117459882597:=0
def tw6166157600250769853:=0
def tw12580069687103254376:=0
def tw15477432118156838520:=0
def tw17268408124455683850:=0
def tw9216670344506924717:=0
def tw15884728285067217698:=0
def tw14170818450315184750:=0
def tw17331149955712010179:=0
def tw8707796500034660935:=0
def tw11102158868452265769:=0
def tw16419231931619807294:=0
def tw7181504928205932444:=0
def tw7367319157700137614:=0
def tw15642664879662115530:=0
def tw6747211926875813212:=0
def tw17517893450540520024:=0
def tw3631887614322494615:=0
def tw1179121952995496432:=0
def tw14000490819730231645:=0
def tw16310948578392903785:=0
def tw16399979082460847802:=0
def tw8392079271875682567:=0
def tw4463347057191843654:=0
def tw15917574234758507089:=0
def tw5471567005264752032:=0
def tw4633993495346636025:=0
def tw5001287628303883142:=0
def tw6824074542373361810:=0
def tw5078131018597037952:=0
def tw17119331132041479499:=0
def tw4907021678414764668:=0
def tw3945731179381470984:=0
def tw9161040291661215660:=0
def tw11250193026220381186:=0
def tw5702068085377128328:=0
def tw9298902264223858348:=0
def tw4304094344225077075:=0
def tw18010033400449870508:=0
def tw6336467637280995011:=0
def tw15845720969482198934:=0
def tw2722741883663321822:=0
def tw342660460914260243:=0
def tw1659906983734123465:=0
def tw2851816993051535679:=0
def tw2931743888635977892:=0
def tw5970935876572274881:=0
def tw11838588809976746013:=0
def tw13054138718830501378:=0
def tw9936015772711179535:=0
def tw7724225354088179144:=0
def tw6427339355273744575:=0
def tw8852383980084697614:=0
def tw1343826209497526142:=0
def tw9396837415030093667:=0
def tw14827624183702330813:=0
def tw444694617420683154:=0
def tw15817180788493253621:=0
def tw6909828426251591553:=0
def tw16773208947251880779:=0
def tw1897528610264382289:=0
def tw9801214169410754631:=0
def tw12595483257959068930:=0
def tw11330033524274445212:=0
def tw8638417927572511669:=0
def tw14074690273892535021:=0
def tw7954209963661156885:=0
def tw512318746580288843:=0
def tw869571567116333165:=0
def tw6319247972430801650:=0
def tw4228684520303866833:=0
def tw5730244873260367008:=0
def tw18005117213929115870:=0
def tw12890022482885614345:=0
def tw10122399729599082590:=0
def tw1471262380652267883:=0
def tw3848560268153097477:=0
def tw12422479817892698123:=0
def tw5266085786884885002:=0
def tw15118986888631465371:=0
def tw6824798225973915962:=0
def tw14745504402531825385:=0
def tw6105724613402738089:=0
def tw16027537070923306498:=0
def tw9373707598623097884:=0
def tw5095383307984635754:=0
def tw17335025904692260299:=0
def tw1155296040957117997:=0
def tw2622899426623657004:=0
def tw16576089256683861110:=0
def tw1032980448933096650:=0
def tw10050616255245364563:=0
def tw2007818543353204779:=0
def tw784502905536078247:=0
def tw14025108546971210640:=0
def tw11551433323187201276:=0
def tw9805153671958387659:=0
def tw7949601319126079797:=0
def tw5132139056287122413:=0
def tw11672805631229993587:=0
def tw9112397327521485873:=0
def tw13524121068371362589:=0
def tw7079966102440737475:=0
def tw1985516472230024988:=0
def tw7774885953343313624:=0
def tw4314239902889196192:=0
def tw1536995716370723266:=0
def tw7671155448227243017:=0
def tw6179950265962897522:=0
def tw1682684977125250053:=0
def tw8665710990993494631:=0
def tw2509020135415849429:=0
def tw12613292754107500336:=0
def tw14446440470297025795:=0
def tw5487868710417881921:=0
def tw4790695920130211897:=0
def tw3610983227695345715:=0
def tw3751471838607842847:=0
def tw18038131181714079807:=0
def tw223095978135016717:=0
def tw17285447583324375391:=0
def tw16981193470928172883:=0
def tw5495662477411386005:=0
def tw5065624563320490188:=0
def tw14303738779625583239:=0
def tw13493348450613269333:=0
def tw14257398457889402907:=0
def tw1079535779481326498:=0
def tw6575250412584335953:=0
def tw15436388338344327972:=0
def tw16136731592435648055:=0
def tw15197497069875362028:=0
def tw11472826036422024377:=0
def tw7436049837528232036:=0
def tw16716867297111090967:=0
def tw14998425976416999492:=0
def tw2276624257147794739:=0
def tw10667478992409009107:=0
def tw990445003415478297:=0
def tw6345208815110023456:=0
def tw6008409052420644779:=0
def tw17602959384435363164:=0
def tw5035160858347287102:=0
def tw2553962341811290529:=0
def tw10158964959105502246:=0
def tw18421913012764578968:=0
def tw13345727265649204230:=0
def tw10087219445921276880:=0
def tw2320467231581079454:=0
def tw6671124204866572715:=0
def tw995609761465142913:=0
def tw12656944437900433854:=0
def tw7694259360842737043:=0
def tw15702375499503400219:=0
def tw15247980326938446421:=0
def tw7948865590158305741:=0
def tw16132074653426752998:=0
end PySem.W.Fast
noncomputable section
set_option Elab.async false
set_option linter.all false
set_option maxRecDepth 100000
namespace L2
open PySem PySem.Spec PyProof.Rows
abbrev Key:=Sum Int Str
def keyIs : Key→Value→Bool
  | .inl k,v=>Value.isInt k v
  | .inr x,v=>Value.isStrOf x v
def keyH (w : World) : Key→Int
  | .inl k=>hashInt k
  | .inr x=>hashStr w x
theorem keyIs_shape : ∀ {k : Key} {v : Value},keyIs k v = true→(∃ i t,k = Sum.inl i∧v = Value.int i t)∨(∃ x t,k = Sum.inr x∧v = Value.str x t)
  | .inl i,v,h=>by
    obtain ⟨t,e⟩:=Value.isInt_shape (k:=i) (v:=v) h
    exact .inl ⟨i,t,rfl,e⟩
  | .inr x,v,h=>by
    obtain ⟨t,e⟩:=Value.isStrOf_shape (x:=x) (v:=v) h
    exact .inr ⟨x,t,rfl,e⟩
theorem keyIs_int (i : Int) (t : Tok) : keyIs (.inl i) (.int i t) = true:=by simp [keyIs,Value.isInt]
theorem keyIs_str (x : Str) (t : Tok) : keyIs (.inr x) (.str x t) = true:=by simp [keyIs,Value.isStrOf]
theorem key_ll (a b : Int) : decide ((Sum.inl a : Key) = Sum.inl b) = (a == b):=by
  by_cases e : a = b
  · subst e;simp
  · have h : ¬ (Sum.inl a : Key) = Sum.inl b:=fun q=>e (Sum.inl.inj q)
    rw [decide_eq_false h]
    exact (beq_eq_false_iff_ne.mpr e).symm
theorem key_rr (a b : Str) : decide ((Sum.inr a : Key) = Sum.inr b) = decide (a = b):=by
  by_cases e : a = b
  · subst e;simp
  · have h : ¬ (Sum.inr a : Key) = Sum.inr b:=fun q=>e (Sum.inr.inj q)
    rw [decide_eq_false h,decide_eq_false e]
theorem key_lr (a : Int) (b : Str) : decide ((Sum.inl a : Key) = Sum.inr b) = false:=decide_eq_false (fun q=>nomatch q)
theorem key_rl (a : Str) (b : Int) : decide ((Sum.inr a : Key) = Sum.inl b) = false:=decide_eq_false (fun q=>nomatch q)
def mixKind (prog : Program) (w : World) : PySem.KeyKind prog w Key where
  is:=keyIs
  hash:=keyH w
  inj:=fun v a b ha hb=>by
    rcases keyIs_shape ha with ⟨i,t,rfl,rfl⟩ | ⟨x,t,rfl,rfl⟩
    · rcases keyIs_shape hb with ⟨j,u,rfl,e⟩ | ⟨y,u,rfl,e⟩
      · injection e with e1 _;rw [e1]
      · exact nomatch e
    · rcases keyIs_shape hb with ⟨j,u,rfl,e⟩ | ⟨y,u,rfl,e⟩
      · exact nomatch e
      · injection e with e1 _;rw [e1]
  byValue:=fun k v h=>by
    rcases keyIs_shape h with ⟨i,t,rfl,rfl⟩ | ⟨x,t,rfl,rfl⟩ <;> rfl
  pyHash:=fun hv h=>by
    rcases keyIs_shape hv with ⟨i,t,rfl,rfl⟩ | ⟨x,t,rfl,rfl⟩
    · exact wpAny_pyHash_int h
    · exact wpAny_pyHash_str h
  eqBool:=fun hu hv h=>by
    rcases keyIs_shape hu with ⟨i,t,rfl,rfl⟩ | ⟨x,t,rfl,rfl⟩
    · rcases keyIs_shape hv with ⟨j,u,rfl,rfl⟩ | ⟨y,u,rfl,rfl⟩
      · rw [key_ll] at h;exact wpAny_eqBool_int h
      · rw [key_lr] at h;exact SeqAt.EqAt.int_str i t y u _ _ _ _ h
    · rcases keyIs_shape hv with ⟨j,u,rfl,rfl⟩ | ⟨y,u,rfl,rfl⟩
      · rw [key_rl] at h;exact SeqAt.EqAt.str_int x t j u _ _ _ _ h
      · rw [key_rr] at h;exact wpAny_eqBool_str h
  «strs»:=fun k x t v h=>by
    rcases keyIs_shape h with ⟨i,u,rfl,e⟩ | ⟨y,u,rfl,e⟩
    · exact nomatch e
    · injection e with e1 _
      subst e1
      cases v <;> rfl
theorem mixKind_int (prog : Program) (w : World) (i : Int) (t : Tok) : (mixKind prog w).is (.inl i) (.int i t) = true:=keyIs_int i t
theorem mixKind_str (prog : Program) (w : World) (x : Str) (t : Tok) : (mixKind prog w).is (.inr x) (.str x t) = true:=keyIs_str x t
end L2
namespace L2
open PySem PySem.Spec PyProof.Rows
inductive V where
  | non | bl (b : Bool) | int (i : Int) | str (x : Str) | byt (b : Array UInt8) | flt (b : UInt64) | ref (a : Addr) | ty (n : String)
  deriving DecidableEq
def RelV : V→Value→Prop
  | .non,u=>u = Value.none
  | .bl b,u=>u = Value.bool b
  | .int i,u=>∃ t,u = Value.int i t
  | .str x,u=>∃ t,u = Value.str x t
  | .byt b,u=>∃ t,u = Value.bytes b t
  | .flt b,u=>∃ t,u = Value.float b t
  | .ref a,u=>u = Value.ref a
  | .ty n,u=>u = Value.type n
abbrev Vals : List V→List Value→Prop:=Paired RelV
theorem Vals.length {xs : List V} {us : List Value} (r : Vals xs us) : xs.length = us.length:=Paired.length r
theorem Vals.get : ∀ {xs : List V} {us : List Value} {i : Nat} {x : V},Vals xs us→xs[i]? = some x→∃ u,us[i]? = some u∧RelV x u
  | _,_,_,_,.nil,e=>by simp at e
  | _,_,0,_,.cons r _,e=>by simp at e;subst e;exact ⟨_,rfl,r⟩
  | _,_,i + 1,x,.cons _ t,e=>by
    obtain ⟨u,h1,h2⟩:=Vals.get (i:=i) (x:=x) t (by simpa using e)
    exact ⟨u,by simpa using h1,h2⟩
theorem Vals.set {x : V} {u : Value} (r : RelV x u) : ∀ {xs : List V} {us : List Value} (i : Nat),Vals xs us→Vals (xs.set i x) (us.set i u)
  | _,_,_,.nil=>.nil
  | _,_,0,.cons _ t=>.cons r t
  | _,_,i + 1,.cons q t=>.cons q (Vals.set r i t)
theorem Vals.append : ∀ {xs ys : List V} {us ws : List Value},Vals xs us→Vals ys ws→Vals (xs++ys) (us++ws)
  | _,_,_,_,.nil,s=>s
  | _,_,_,_,.cons r t,s=>.cons r (Vals.append t s)
theorem Vals.take : ∀ {xs : List V} {us : List Value} (n : Nat),Vals xs us→Vals (xs.take n) (us.take n)
  | _,_,0,_=>.nil
  | _,_,_ + 1,.nil=>.nil
  | _,_,n + 1,.cons r t=>.cons r (Vals.take n t)
theorem Vals.drop : ∀ {xs : List V} {us : List Value} (n : Nat),Vals xs us→Vals (xs.drop n) (us.drop n)
  | _,_,0,r=>r
  | _,_,_ + 1,.nil=>.nil
  | _,_,n + 1,.cons _ t=>Vals.drop n t
def RelO : Option V→Option Value→Prop
  | some v,some u=>RelV v u
  | none,none=>True
  | _,_=>False
def KV {κ : Type} : List (κ × V)→List (κ × Value)→Prop:=Paired fun (p : κ × V) (q : κ × Value)=>p.1 = q.1∧RelV p.2 q.2
def kV : Key→V
  | .inl i=>.int i
  | .inr x=>.str x
inductive HO where
  /-- a list -/
  | lst (xs : List V)
  /-- a tuple (never changes) -/
  | tup (xs : List V)
  /-- a dict whose keys are ints and texts;one whose keys are tuples of ints and texts (the empty one is both) -/
  | dK (kvs : List (Key × V)) | dT (kvs : List (List Key × V))
  /-- a set of ints: its members,its size -/
  | set (S : Int→Bool) (n : Nat)
  /-- an instance of the class at C,its dict at dx,its attributes -/
  | ins (C dx : Addr) (fs : List (Str × V))
  /-- the dict of the instance at x -/
  | own (x : Addr)
  /-- the dict of an exception -/
  | xd (fs : List (Str × V))
  /-- a bound method,f of x -/
  | met (f x : Addr)
  /-- a range object lo,lo + 1,.. below hi -/
  | rng (lo hi : Int)
  /-- a thing that is known to the object (the script;a dict while a loop walks it): read,never written while it is so -/
  | frz (o : Obj) (u : HO)
  /-- a code object's table -/
  | tbl (ps : Array Value)
  /-- any other thing,by what is true of its one object (a def of one's own: SetO a S n:=HO.ext fun h=>..) -/
  | ext (φ : Heap→Prop)
abbrev Hp:=Addr→Option HO
def upd (H : Hp) (a : Addr) (o : HO) : Hp:=fun b=>if b = a then some o else H b
theorem upd_same {H : Hp} {a : Addr} {o : HO} : upd H a o a = some o:=by unfold upd;rw [if_pos rfl]
theorem upd_ne {H : Hp} {a b : Addr} {o : HO} (h : b≠a) : upd H a o b = H b:=by unfold upd;rw [if_neg h]
theorem ne_of {H : Hp} {a b : Addr} {o u : HO} (h : H a = some o) (h' : H b = some u) (d : o≠u) : a≠b:=by
  intro e;subst e;rw [h] at h';exact d (Option.some.inj h')
theorem ne_of_none {H : Hp} {a b : Addr} {o : HO} (h : H a = some o) (h' : H b = none) : a≠b:=by
  intro e;subst e;rw [h] at h';cases h'
def TupN (h : Heap) (a : Addr) (items : Array Value) : Prop:=∃ o,h.get? a = some o∧o.cls = .type "tuple"∧∃ n,o.data = .seq items n∧o.dict = none
theorem TupN.tup {h : Heap} {a : Addr} {items : Array Value} (x : TupN h a items) : IsTup h a items:=let ⟨o,e,c,n,d,_⟩:=x;⟨o,e,c,n,d⟩
theorem TupN.new (h : Heap) (items : Array Value) : TupN (h.push { cls:=.type "tuple",data:=.seq items }) h.objs.size items:=⟨_,Heap.get?_push_size _ rfl,rfl,_,rfl,rfl⟩
section
variable (P : Program) (w : World)
def ObjOk (H : Hp) (h : Heap) (a : Addr) : HO → Prop
  | .lst xs=>xs.length≤sizeLine∧∃ (its : List Value) (n : Nat),Vals xs its∧h.get? a = some { cls:=.type "list",data:=.seq its.toArray n }
  | .tup xs=>xs.length≤sizeLine∧∃ its : List Value,Vals xs its∧TupN h a its.toArray
  | .dK kvs=>kvs.length≤sizeLine∧(a == sysModules) = false∧∃ vs,KV kvs vs∧h.DictOf (mixKind P w) a vs
  | .dT kvs=>kvs.length≤sizeLine∧(a == sysModules) = false∧∃ xs : List (List Key × Addr × Value),
      Paired (fun (p : List Key × V) (q : List Key × Addr × Value)=>p.1 = q.1∧H q.2.1 = some (.tup (p.1.map kV))∧RelV p.2 q.2.2) kvs xs ∧
      ∃ o es ep,h.get? a = some o∧o.ExactDict∧o.data = .dict es ep∧es.toList = xs.map (entryOfKey (tupleKind (mixKind P w)))∧(xs.map (·.1)).Nodup
  | .set S n=>h.SetOf (intKind P w) a S n
  | .ins C dx fs=>H dx = some (.own a)∧fs.length≤1000∧dx≠a∧h.get? a = some (PySem.W.instObj C dx) ∧
      ∃ mA,h.Ns1 dx mA∧(∀ f,RelO (fs.lookup f) (mA f))∧PySem.Within mA (fs.map (·.1))
  | .own _=>∃ o,h.get? a = some o
  | .xd fs=>∃ mA,h.Ns1 a mA∧∀ f,RelO (fs.lookup f) (mA f)
  | .rng lo hi=>∃ t u v,h.get? a = some { cls:=.type "range",data:=.fields #[.int lo t,.int hi u,.int 1 v] }
  | .frz o u=>h.get? a = some o∧ObjOk H h a u
  | .tbl ps=>h.get? a = some { cls:=.none,data:=.fields ps }
  | .met f x=>h.get? a = some (PySem.W.methodObj (.ref f) (.ref x))
  | .ext φ=>φ h∧(∃ o,h.get? a = some o)∧∀ h1 h2 : Heap,φ h1→(∀ o,h1.get? a = some o→h2.get? a = some o)→φ h2
def HOk (H : Hp) (h : Heap) : Prop:=∀ a o,H a = some o→ObjOk P w H h a o
end
section
variable {P : Program} {w : World} {H H' : Hp} {h h' : Heap} {a : Addr} {o : HO}
theorem ObjOk.lt (x : ObjOk P w H h a o) : a < h.objs.size:=by
  cases o with
  | lst xs=>obtain ⟨_,_,_,_,e⟩:=x;exact Heap.lt_size e
  | tup xs=>obtain ⟨_,_,_,p⟩:=x;exact p.tup.lt
  | dK kvs=>obtain ⟨_,_,_,_,o,_,_,e,_⟩:=x;exact Heap.lt_size e
  | dT kvs=>obtain ⟨_,_,_,_,o,_,_,e,_⟩:=x;exact Heap.lt_size e
  | set S n=>obtain ⟨o,_,_,_,e,_⟩:=x;exact Heap.lt_size e
  | ins C dx fs=>obtain ⟨_,_,_,e,_⟩:=x;exact Heap.lt_size e
  | own y=>obtain ⟨_,e⟩:=x;exact Heap.lt_size e
  | xd fs=>obtain ⟨_,⟨_,_,_,e,_⟩,_⟩:=x;exact Heap.lt_size e
  | rng lo hi=>obtain ⟨_,_,_,e⟩:=x;exact Heap.lt_size e
  | frz ob u=>obtain ⟨e,_⟩:=x;exact Heap.lt_size e
  | tbl ps=>exact Heap.lt_size (show h.get? a = some _ from x)
  | met f y=>exact Heap.lt_size (show h.get? a = some _ from x)
  | ext φ=>obtain ⟨_,⟨_,e⟩,_⟩:=x;exact Heap.lt_size e
theorem Paired.mapP {α β : Type} {F G : α→β→Prop} : ∀ {l₁ : List α} {l₂ : List β},Paired F l₁ l₂→(∀ a b,F a b→G a b)→Paired G l₁ l₂
  | _,_,.nil,_=>.nil
  | _,_,.cons r t,f=>.cons (f _ _ r) (Paired.mapP t f)
theorem ObjOk.stay (x : ObjOk P w H h a o) (k : ∀ b u,(b = a∨H b = some (.own a))→h.get? b = some u→h'.get? b = some u)
    (ho : ∀ b,H b = some (.own a)→H' b = some (.own a)) (ht : ∀ b xs,H b = some (.tup xs)→H' b = some (.tup xs)) : ObjOk P w H' h' a o:=by
  induction o with
  | lst xs=>obtain ⟨z,its,n,r,e⟩:=x;exact ⟨z,its,n,r,k _ _ (.inl rfl) e⟩
  | tup xs=>obtain ⟨z,its,r,ob,e,c⟩:=x;exact ⟨z,its,r,ob,k _ _ (.inl rfl) e,c⟩
  | dK kvs=>obtain ⟨z,y,vs,r,ob,es,ep,e,c⟩:=x;exact ⟨z,y,vs,r,ob,es,ep,k _ _ (.inl rfl) e,c⟩
  | dT kvs =>
    obtain ⟨z,y,xs,r,ob,es,ep,e,c⟩:=x
    exact ⟨z,y,xs,Paired.mapP r fun p q z=>⟨z.1,ht _ _ z.2.1,z.2.2⟩,ob,es,ep,k _ _ (.inl rfl) e,c⟩
  | set S n=>obtain ⟨ob,es,ep,t,e,c⟩:=x;exact ⟨ob,es,ep,t,k _ _ (.inl rfl) e,c⟩
  | ins C dx fs =>
    obtain ⟨d,z,ne,e,mA,⟨od,es,ep,e2,c⟩,r⟩:=x
    exact ⟨ho _ d,z,ne,k _ _ (.inl rfl) e,mA,⟨od,es,ep,k _ _ (.inr d) e2,c⟩,r⟩
  | own y=>obtain ⟨ob,e⟩:=x;exact ⟨ob,k _ _ (.inl rfl) e⟩
  | xd fs=>obtain ⟨mA,⟨od,es,ep,e,c⟩,r⟩:=x;exact ⟨mA,⟨od,es,ep,k _ _ (.inl rfl) e,c⟩,r⟩
  | rng lo hi=>obtain ⟨t,u,v,e⟩:=x;exact ⟨t,u,v,k _ _ (.inl rfl) e⟩
  | frz ob u ih=>obtain ⟨e,q⟩:=x;exact ⟨k _ _ (.inl rfl) e,ih q⟩
  | tbl ps =>
    have e : h.get? a = some { cls:=.none,data:=.fields ps }:=x
    show h'.get? a = some { cls:=.none,data:=.fields ps }
    exact k a _ (.inl rfl) e
  | met f y =>
    have e : h.get? a = some (PySem.W.methodObj (.ref f) (.ref y)):=x
    show h'.get? a = some (PySem.W.methodObj (.ref f) (.ref y))
    exact k a _ (.inl rfl) e
  | ext φ=>obtain ⟨p,⟨o,e⟩,st⟩:=x;exact ⟨st _ _ p fun o q=>k _ _ (.inl rfl) q,⟨o,k _ _ (.inl rfl) e⟩,st⟩
theorem HOk.lt (x : HOk P w H h) (e : H a = some o) : a < h.objs.size:=(x a o e).lt
theorem HOk.fresh (x : HOk P w H h) (e : h.objs.size≤a) : H a = none:=by
  cases q : H a with
  | none=>rfl
  | some u=>exact absurd (Nat.lt_of_lt_of_le (x.lt q) e) (Nat.lt_irrefl _)
theorem HOk.kept (x : HOk P w H h) (k : ∀ b u,h.get? b = some u→h'.get? b = some u) : HOk P w H h':=fun a o e =>
  (x a o e).stay (fun b u _ q=>k b u q) (fun _ q=>q) fun _ _ q=>q
theorem HOk.laid (x : HOk P w H h) (k : ∀ b u,h.get? b = some u→h'.get? b = some u) (hp : h.objs.size≤a) (new : ObjOk P w (upd H a o) h' a o) : HOk P w (upd H a o) h':=fun b u e=>by
  have hn:=x.fresh hp
  by_cases hb : b = a
  · subst hb;rw [upd_same] at e;cases e;exact new
  · rw [upd_ne hb] at e
    exact (x b u e).stay (fun c v _ q=>k c v q) (fun c q=>by rw [upd_ne (ne_of_none q hn)];exact q) fun c xs q=>by rw [upd_ne (ne_of_none q hn)];exact q
end
def Rd (H : Hp) (a : Addr) (u : HO) : Prop:=H a = some u∨∃ o,H a = some (.frz o u)
theorem Rd.ok {P : Program} {w : World} {H : Hp} {h : Heap} {a : Addr} {u : HO} (r : Rd H a u) (x : HOk P w H h) : ObjOk P w H h a u:=by
  rcases r with r | ⟨o,r⟩
  · exact x a u r
  · obtain ⟨_,q⟩:=x a _ r
    exact q
def Mut : Option HO→Prop
  | some (.lst _)=>True
  | some (.dK _)=>True
  | some (.dT _)=>True
  | some (.set _ _)=>True
  | some (.ins _ _ _)=>True
  | some (.ext _)=>True
  | _=>False
section
variable {P : Program} {w : World} {H : Hp} {h h' : Heap} {x e : Addr} {o' : HO}
theorem HOk.write (ok : HOk P w H h) (mu : Mut (H x)) (he : e = x ∨ H e = some (.own x)) (k : ∀ b u, b ≠ e → h.get? b = some u → h'.get? b = some u) (heo : ∃ u, h'.get? e = some u)
    (new : ObjOk P w (upd H x o') h' x o') : HOk P w (upd H x o') h':=fun b u q=>by
  have nown : ∀ c y,H c = some (.own y)→c≠x:=fun c y r z=>by subst z;rw [r] at mu;exact mu
  have ntup : ∀ c xs,H c = some (.tup xs)→c≠x:=fun c xs r z=>by subst z;rw [r] at mu;exact mu
  by_cases hb : b = x
  · subst hb;rw [upd_same] at q;cases q;exact new
  · rw [upd_ne hb] at q
    by_cases hbe : b = e
    · have q' : H b = some (.own x):=by
        rcases he with z | z
        · exact absurd (hbe.trans z) hb
        · rw [hbe];exact z
      rw [q] at q';cases q'
      obtain ⟨v,hv⟩:=heo
      exact ⟨v,by rw [hbe];exact hv⟩
    · refine (ok b u q).stay (fun c v hc r=>k c v ?_ r) (fun c r=>by rw [upd_ne (nown c b r)];exact r) fun c xs r=>by rw [upd_ne (ntup c xs r)];exact r
      rcases hc with rfl | hc
      · exact hbe
      · rintro rfl
        rcases he with z | z
        · exact nown c b hc z
        · rw [hc] at z;cases z;exact hb rfl
end
structure Un (fs ex : List Addr) (H H' : Hp) (h h' : Heap) : Prop where
  keep : ∀ b o,h.get? b = some o→H b = none→b∉fs→b∉ex→h'.get? b = some o
  slot : ∀ b o,h.get? b = some o→H b = none→b∈fs→b∉ex→∃ sl,h'.get? b = some { o with slots:=sl }
  free : ∀ b o,h.get? b = some o→H b = none→b∉ex→H' b = none
  there : ∀ b o,h.get? b = some o→b∉ex→∃ o',h'.get? b = some o'
  tups : ∀ b xs,H b = some (.tup xs)→H' b = some (.tup xs)
  frzs : ∀ b o u,H b = some (.frz o u)→H' b = some (.frz o u)
  tbls : ∀ b ps,H b = some (.tbl ps)→∃ more,H' b = some (.tbl (ps++more))
section
variable {fs fs' ex ex' : List Addr} {H H1 H2 : Hp} {h h1 h2 h' : Heap} {a x e : Addr} {o : HO}
theorem Un.any (u : Un fs ex H H1 h h1) {b : Addr} {ob : Obj} (q : h.get? b = some ob) (n : H b = none) (hx : b∉ex) : ∃ sl,h1.get? b = some { ob with slots:=sl }:=by
  by_cases hb : b∈fs
  · exact u.slot b ob q n hb hx
  · exact ⟨ob.slots,u.keep b ob q n hb hx⟩
theorem Un.kept (k : ∀ b u,h.get? b = some u→h'.get? b = some u) : Un fs ex H H h h' :=
  ⟨fun b ob q _ _ _=>k b ob q,fun b ob q _ _ _=>⟨ob.slots,k b ob q⟩,fun _ _ _ n _=>n,fun b ob q _=>⟨ob,k b ob q⟩,fun _ _ q=>q,fun _ _ _ q=>q,fun _ ps q=>⟨#[],by rw [q];simp⟩⟩
theorem Un.refl : Un fs ex H H h h:=Un.kept fun _ _ q=>q
theorem Un.laid (k : ∀ b u,h.get? b = some u→h'.get? b = some u) (hp : h.objs.size≤a) (hn : H a = none) : Un fs ex H (upd H a o) h h' where
  keep:=fun b u q _ _ _=>k b u q
  slot:=fun b u q _ _ _=>⟨u.slots,k b u q⟩
  free:=fun b u q n _=>by rw [upd_ne (Nat.ne_of_lt (Nat.lt_of_lt_of_le (Heap.lt_size q) hp))];exact n
  there:=fun b u q _=>⟨u,k b u q⟩
  tups:=fun b xs q=>by rw [upd_ne (ne_of_none q hn)];exact q
  frzs:=fun b u xs q=>by rw [upd_ne (ne_of_none q hn)];exact q
  tbls:=fun b ps q=>⟨#[],by rw [upd_ne (ne_of_none q hn),q];simp⟩
theorem Un.write (mu : Mut (H x)) (he : e = x∨H e = some (.own x)) (k : ∀ b u,b≠e→h.get? b = some u→h'.get? b = some u) (heo : ∃ u,h'.get? e = some u) : Un fs ex H (upd H x o) h h':=by
  have hx : ∀ b,H b = none→b≠x:=fun b n z=>by subst z;rw [n] at mu;exact mu
  have hb : ∀ b,H b = none→b≠e:=fun b n z=>by
    subst z
    rcases he with r | r
    · exact hx b n r
    · rw [n] at r;cases r
  have hm : ∀ b u,H b = some u→¬ Mut (some u)→b≠x:=fun b u q nm z=>by subst z;rw [q] at mu;exact nm mu
  refine ⟨fun b u q n _ _=>k b u (hb b n) q,fun b u q n _ _=>⟨u.slots,k b u (hb b n) q⟩,fun b u q n _=>by rw [upd_ne (hx b n)];exact n,fun b u q _=>?_,
    fun b xs q=>by rw [upd_ne (hm b _ q fun z=>z)];exact q,fun b u xs q=>by rw [upd_ne (hm b _ q fun z=>z)];exact q,fun b ps q=>⟨#[],by rw [upd_ne (hm b _ q fun z=>z),q];simp⟩⟩
  by_cases hbe : b = e
  · subst hbe;exact heo
  · exact ⟨u,k b u hbe q⟩
end
def trk (h : Heap) (H : Hp) : List Addr:=(List.range h.objs.size).filter fun a=>(H a).isSome
def hidT (h : Heap) (H : Hp) : Heap:=PySem.W.hideAll h (trk h H)
theorem hidT_size (h : Heap) (H : Hp) : (hidT h H).objs.size = h.objs.size:=PySem.W.hideAll_size _ _
theorem hidT_get {h : Heap} {H : Hp} {b : Addr} {o : Obj} (e : h.get? b = some o) (n : H b = none) : (hidT h H).get? b = some o :=
  PySem.W.hideAll_get _ e fun hm=>by
    have q : (H b).isSome = true:=(List.mem_filter.mp hm).2
    rw [n] at q;simp at q
theorem of_hidT {h : Heap} {H : Hp} {b : Addr} {o : Obj} (e : (hidT h H).get? b = some o) : h.get? b = some o∧H b = none:=by
  have e' : h.get? b = some o:=PySem.W.of_hideAll (trk h H) e
  refine ⟨e',?_⟩
  cases q : H b with
  | none=>rfl
  | some x =>
    have hm : b∈trk h H:=List.mem_filter.mpr ⟨List.mem_range.mpr (Heap.lt_size e'),by simp [q]⟩
    have z : (hidT h H).get? b = none:=PySem.W.hideAll_none (trk h H) hm
    rw [z] at e;cases e
def allNews (g h : Heap) (L : Addr) : List (Addr × Obj):=(List.range h.objs.size).filterMap fun a=>if a = L∨(g.get? a).isSome = true then none else (h.get? a).map fun o=>(a,o)
def rest (g h : Heap) (L d : Addr) : List (Addr × Obj):=(allNews g h L).filter fun p=>decide (p.1≠d)
end L2
namespace L2
open PySem PySem.Spec PyProof.Rows
structure Mod (K : PySem.W.Frag) (mg : Str→Option Value) (base : Heap) : Prop where
  kin : K.In base
  glob : base.Ns mainGlobals mg
  blt : ∃ mb,base.Ns builtinsNs mb∧∀ x : Str,x≠"__name__"→mb x = bootBuiltins x
  nolimit : base.NoLimit
structure Cx where
  prog : Program
  w : World
  K : PySem.W.Frag
  mg : Str→Option Value
  base : Heap
  A : Around
  N : List Str
  s₀ : Shared
  H₀ : Hp
  env : Env
  outer : List Env
  stack : List Env
  ex : List Addr
  fn : Str→Bool
  calm : Bool
  pn : List (Addr × Obj)
  xe : Value→Shared→Prop
def frs (l : List Env) : List Addr:=l.filterMap (·.frame)
abbrev Cx.fs (X : Cx) : List Addr:=frs X.outer
def Vis (sc : Scope) (x : Str) : Prop:=sc.names.lookup x = some .local∨sc.names.lookup x = some .cell∨sc.names.lookup x = some .free
def Loc (sc : Scope) (x : Str) : Prop:=sc.names.lookup x = some .local∨sc.names.lookup x = some .cell
def Look (env : Env) (h : Heap) (m : Str→Option Value) (x : Str) (u : Value) : Prop :=
  (env.kindOf x = some .local∧m x = some u)∨((env.kindOf x = some .cell∨env.kindOf x = some .free)∧∃ c,env.cells.lookup x = some c∧h.IsCell c (some u))
structure Cx.Ok (X : Cx) : Prop where
  mod : Mod X.K X.mg X.base
  kind : X.env.scope.kind = .function
  glob : X.env.globals = mainGlobals
  blt : X.env.builtins = builtinsNs
  above : X.s₀.heap.objs.size≤X.env.locals
  inj : ∀ x y c,X.env.cells.lookup x = some c→X.env.cells.lookup y = some c→x = y
  has : ∀ x,(X.env.kindOf x = some .cell∨X.env.kindOf x = some .free)→∃ c,X.env.cells.lookup x = some c
  cab : ∀ x c,X.fn x = true→X.env.cells.lookup x = some c→X.s₀.heap.objs.size≤c
  hd : X.calm = true→X.A.handled = none
  frames : X.A.frames = some X.stack
  stk : X.stack = X.outer∨(X.stack = X.env::X.outer∧X.env.frame = some X.env.locals)
  exf : ∀ b∈X.ex,b≠X.env.locals∧∀ x c,X.env.cells.lookup x = some c→c≠b
  bs : ∀ b o,X.base.get? b = some o→X.s₀.heap.get? b = some o∧X.H₀ b = none
  bsz : X.base.objs.size≤X.s₀.heap.objs.size
  noex : ∀ b o,X.base.get? b = some o→b∉X.ex
  exfs : ∀ b∈X.ex,b∉X.fs
  funs : X.s₀.heap.FunFrames X.base X.outer
  frf : ∀ b∈X.fs,X.H₀ b = none
structure Inv (X : Cx) (pins : List (Addr × Obj)) (σ : List (Option V)) (H : Hp) (s : Shared) : Prop where
  ok : X.Ok
  os : s.os = X.s₀.os
  bare : AllBare s.gens
  base : Un X.fs X.ex X.H₀ H X.s₀.heap s.heap
  loc : ∃ m,s.heap.Ns X.env.locals m∧∀ (i : Nat) (x : Str) (v : V),X.N[i]? = some x→σ[i]? = some (some v)→Vis X.env.scope x→∃ u,RelV v u∧Look X.env s.heap m x u
  cell : ∀ x c,X.env.cells.lookup x = some c→∃ v,s.heap.IsCell c v
  free : H X.env.locals = none
  freeC : ∀ x c,X.env.cells.lookup x = some c→H c = none
  pin : ∀ p∈X.pn++pins,s.heap.get? p.1 = some p.2∧H p.1 = none∧p.1≠X.env.locals∧p.1∉X.fs∧∀ v,p.2.data≠.cell v
  hok : HOk X.prog X.w H s.heap
  len : σ.length = X.N.length
section
variable {X : Cx} {pins : List (Addr × Obj)} {σ : List (Option V)} {H H' : Hp} {s : Shared} {h' : Heap}
theorem Cx.Ok.nofr (ok : X.Ok) {b : Addr} {o : Obj} (e : X.base.get? b = some o) : b∉X.fs:=fun hb=>by
  have:=(ok.funs.mem hb).1
  rw [e] at this;cases this
theorem Inv.bs (I : Inv X pins σ H s) : ∀ b o,X.base.get? b = some o→s.heap.get? b = some o∧H b = none:=fun b o e =>
  ⟨I.base.keep b o (I.ok.bs b o e).1 (I.ok.bs b o e).2 (I.ok.nofr e) (I.ok.noex b o e),I.base.free b o (I.ok.bs b o e).1 (I.ok.bs b o e).2 (I.ok.noex b o e)⟩
theorem Inv.bk (I : Inv X pins σ H s) : ∀ b o,X.base.get? b = some o→s.heap.get? b = some o:=fun b o e=>(I.bs b o e).1
theorem Inv.mod (I : Inv X pins σ H s) : Mod X.K X.mg X.base:=I.ok.mod
theorem Inv.kIn (I : Inv X pins σ H s) : X.K.In s.heap:=I.ok.mod.kin.keeps I.bk
theorem Inv.lt (I : Inv X pins σ H s) : X.env.locals < s.heap.objs.size:=let ⟨_,hn,_⟩:=I.loc;hn.lt
theorem Inv.sz (I : Inv X pins σ H s) : X.s₀.heap.objs.size≤s.heap.objs.size:=Nat.le_trans I.ok.above (Nat.le_of_lt I.lt)
theorem Inv.nofs (I : Inv X pins σ H s) {a : Addr} (h : s.heap.objs.size≤a) : a∉X.fs:=fun hb=>by
  obtain ⟨_,o,ho,_⟩:=I.ok.funs.mem hb
  exact absurd (Nat.lt_of_lt_of_le (Heap.lt_size ho) (Nat.le_trans I.sz h)) (Nat.lt_irrefl _)
theorem Inv.cne (I : Inv X pins σ H s) : ∀ x c,X.env.cells.lookup x = some c→c≠X.env.locals:=fun x c e z=>by
  obtain ⟨v,o,ho,hd⟩:=I.cell x c e
  obtain ⟨m,⟨o',es,ep,ho',hd',_⟩,_⟩:=I.loc
  rw [z,ho'] at ho;cases ho;rw [hd'] at hd;cases hd
theorem Inv.funs (I : Inv X pins σ H s) : s.heap.FunFrames X.base X.outer := by
  have all : ∀ (l : List Env),(∀ b∈frs l,b∈X.fs)→X.s₀.heap.FunFrames X.base l→s.heap.FunFrames X.base l:=by
    intro l
    induction l with
    | nil=>intro _ _;trivial
    | cons env r ih =>
      intro hs hl
      obtain ⟨hk,⟨L,o,hf,hn,ho,hd⟩,hr⟩:=hl
      have hL : L∈X.fs:=hs L (by unfold frs;rw [List.filterMap_cons,hf];exact List.mem_cons_self)
      obtain ⟨sl,e⟩:=I.base.slot L o ho (I.ok.frf L hL) hL fun z=>I.ok.exfs L z hL
      exact ⟨hk,⟨L,_,hf,hn,e,hd⟩,ih (fun b hb=>hs b (by unfold frs;rw [List.filterMap_cons,hf];exact List.mem_cons_of_mem _ hb)) hr⟩
  exact all X.outer (fun _ hb=>hb) I.ok.funs
theorem Inv.stack (I : Inv X pins σ H s) : s.heap.FunFrames X.base X.stack:=by
  rcases I.ok.stk with e | ⟨e,hf⟩
  · rw [e];exact I.funs
  · rw [e]
    obtain ⟨m,hn,_⟩:=I.loc
    refine .cons (by rw [I.ok.kind];decide) hf hn ?_ I.funs
    exact Heap.get?_none_of_le (Nat.le_trans I.ok.bsz I.ok.above)
theorem Inv.stkSub (I : Inv X pins σ H s) : ∀ b∈frs X.stack,b∈X.env.locals::X.fs:=fun b hb=>by
  rcases I.ok.stk with e | ⟨e,hf⟩
  · rw [e] at hb;exact List.mem_cons_of_mem _ hb
  · rw [e] at hb
    unfold frs at hb
    rw [List.filterMap_cons,hf] at hb
    exact hb
theorem Inv.stkFree (I : Inv X pins σ H s) : ∀ b∈frs X.stack,H b = none:=fun b hb=>by
  rcases List.mem_cons.mp (I.stkSub b hb) with e | hb
  · rw [e];exact I.free
  · obtain ⟨_,o,ho,_⟩:=I.ok.funs.mem hb
    exact I.base.free b o ho (I.ok.frf b hb) fun z=>I.ok.exfs b z hb
theorem Inv.step {g' : Array GenState} {t' : Nat} {d' : Drawn} {ch : List Addr} (I : Inv X pins σ H s)
    (hch : ∀ b∈ch,(b∈X.ex∨X.s₀.heap.objs.size≤b)∧b≠X.env.locals∧(∀ x c,X.env.cells.lookup x = some c→c≠b)∧∀ p∈X.pn++pins,p.1≠b)
    (keep : ∀ b o,b≠X.env.locals→b∉X.fs→b∉ch→s.heap.get? b = some o→H b = none→h'.get? b = some o)
    (slot : ∀ b o,b≠X.env.locals→b∈X.fs→b∉ch→s.heap.get? b = some o→H b = none→∃ sl,h'.get? b = some { o with slots:=sl }) (free : ∀ b o,b∉ch→s.heap.get? b = some o→H b = none→H' b = none)
    (there : ∀ b o,b∉ch→s.heap.get? b = some o→∃ o',h'.get? b = some o')
    (tups : ∀ b xs,H b = some (.tup xs)→H' b = some (.tup xs)) (frzs : ∀ b o u,H b = some (.frz o u)→H' b = some (.frz o u)) (tbls : ∀ b ps,H b = some (.tbl ps)→∃ more,H' b = some (.tbl (ps++more)))
    (ns : ∀ m,s.heap.Ns X.env.locals m→h'.Ns X.env.locals m) (hok : HOk X.prog X.w H' h') (hg : AllBare g') :
    Inv X pins σ H' { s with heap:=h',gens:=g',drawn:=d',toks:=t' }:=by
  have neL : ∀ b o,X.s₀.heap.get? b = some o→b≠X.env.locals:=fun b o e=>Nat.ne_of_lt (Nat.lt_of_lt_of_le (Heap.lt_size e) I.ok.above)
  have neC : ∀ b o,X.s₀.heap.get? b = some o→b∉X.ex→b∉ch:=fun b o e hx hb=>by
    rcases (hch b hb).1 with z | z
    · exact hx z
    · exact absurd (Nat.lt_of_lt_of_le (Heap.lt_size e) z) (Nat.lt_irrefl _)
  have cellK : ∀ x c,X.env.cells.lookup x = some c→∀ v,s.heap.IsCell c v→h'.IsCell c v:=fun x c e v ⟨o,ho,hd⟩=>by
    have nch : c∉ch:=fun z=>(hch c z).2.2.1 x c e rfl
    by_cases hc : c∈X.fs
    · obtain ⟨sl,q⟩:=slot c o (I.cne x c e) hc nch ho (I.freeC x c e)
      exact ⟨_,q,hd⟩
    · exact ⟨o,keep c o (I.cne x c e) hc nch ho (I.freeC x c e),hd⟩
  refine ⟨I.ok,I.os,hg,⟨fun b o e n hb hx=>?_,fun b o e n hb hx=>?_,fun b o e n hx=>?_,fun b o e hx=>?_,fun b xs e=>tups b xs (I.base.tups b xs e),fun b o xs e=>frzs b o xs (I.base.frzs b o xs e),fun b ps e=>?_⟩,?_,fun x c e=>?_,?_,fun x c e=>?_,fun p hp=>?_,hok,I.len⟩
  · exact keep b o (neL b o e) hb (neC b o e hx) (I.base.keep b o e n hb hx) (I.base.free b o e n hx)
  · obtain ⟨sl,e1⟩:=I.base.slot b o e n hb hx
    obtain ⟨sl',e2⟩:=slot b _ (neL b o e) hb (neC b o e hx) e1 (I.base.free b o e n hx)
    exact ⟨sl',e2⟩
  · obtain ⟨o',e1⟩:=I.base.there b o e hx
    exact free b o' (neC b o e hx) e1 (I.base.free b o e n hx)
  · obtain ⟨o',e1⟩:=I.base.there b o e hx
    exact there b o' (neC b o e hx) e1
  · obtain ⟨m1,e1⟩:=I.base.tbls b ps e
    obtain ⟨m2,e2⟩:=tbls b _ e1
    exact ⟨m1++m2,by rw [e2,Array.append_assoc]⟩
  · obtain ⟨m,hn,hl⟩:=I.loc
    refine ⟨m,ns m hn,fun i x v e1 e2 e3=>?_⟩
    obtain ⟨u,r,l⟩:=hl i x v e1 e2 e3
    refine ⟨u,r,?_⟩
    rcases l with l | ⟨k,c,e,z⟩
    · exact .inl l
    · exact .inr ⟨k,c,e,cellK x c e _ z⟩
  · obtain ⟨v,z⟩:=I.cell x c e
    exact ⟨v,cellK x c e v z⟩
  · obtain ⟨m,⟨o,_,_,ho,_⟩,_⟩:=I.loc
    exact free _ o (fun z=>(hch _ z).2.1 rfl) ho I.free
  · obtain ⟨v,o,ho,hd⟩:=I.cell x c e
    exact free c o (fun z=>(hch c z).2.2.1 x c e rfl) ho (I.freeC x c e)
  · obtain ⟨e,n,ne,nf,d⟩:=I.pin p hp
    have nch : p.1∉ch:=fun z=>(hch p.1 z).2.2.2 p hp rfl
    exact ⟨keep p.1 p.2 ne nf nch e n,free p.1 p.2 nch e n,ne,nf,d⟩
theorem Inv.un {t' : Nat} (I : Inv X pins σ H s) (u : Un X.fs [] H H' s.heap h') (hok : HOk X.prog X.w H' h') : Inv X pins σ H' { s with heap:=h',toks:=t' }:=by
  obtain ⟨m,⟨o,es,ep,ho,r⟩,_⟩:=id I.loc
  obtain ⟨sl,hL⟩:=u.any ho I.free (by simp)
  exact I.step (g':=s.gens) (d':=s.drawn) (ch:=[]) (fun _ z=>nomatch z) (fun b o _ hb _ e n=>u.keep b o e n hb (by simp)) (fun b o _ hb _ e n=>u.slot b o e n hb (by simp)) (fun b o _ e n=>u.free b o e n (by simp)) (fun b o _ e=>u.there b o e (by simp)) u.tups u.frzs u.tbls (fun m' hm=>by
    obtain ⟨o',es',ep',ho',r'⟩:=hm
    rw [ho] at ho';cases ho'
    exact ⟨_,es',ep',hL,r'⟩) hok I.bare
theorem Inv.call {g' : Array GenState} {t' : Nat} {d' : Drawn} {ch : List Addr} (I : Inv X pins σ H s) (u : Un (frs X.stack) ch H H' s.heap h') (hok : HOk X.prog X.w H' h') (hg : AllBare g')
    (hch : ∀ b∈ch,(b∈X.ex∨X.s₀.heap.objs.size≤b)∧b≠X.env.locals∧(∀ x c,X.env.cells.lookup x = some c→c≠b)∧∀ p∈X.pn++pins,p.1≠b) :
    Inv X pins σ H' { s with heap:=h',gens:=g',drawn:=d',toks:=t' }:=by
  obtain ⟨m,⟨o,es,ep,ho,r⟩,_⟩:=id I.loc
  obtain ⟨sl,hL⟩:=u.any ho I.free fun z=>(hch _ z).2.1 rfl
  exact I.step (ch:=ch) hch (fun b o hL hb hc e n=>u.keep b o e n (fun z=>(List.mem_cons.mp (I.stkSub b z)).elim hL hb) hc) (fun b o _ _ hc e n=>u.any e n hc) (fun b o hc e n=>u.free b o e n hc) (fun b o hc e=>u.there b o e hc) u.tups u.frzs u.tbls (fun m' hm=>by
    obtain ⟨o',es',ep',ho',r'⟩:=hm
    rw [ho] at ho';cases ho'
    exact ⟨_,es',ep',hL,r'⟩) hok hg
theorem Inv.turned {t' : Nat} {it : Addr} (I : Inv X pins σ H s) (k : ∀ b o,b≠it→s.heap.get? b = some o→h'.get? b = some o) (hn : H it = none) (hL : it≠X.env.locals)
    (h1 : it∈X.ex∨X.s₀.heap.objs.size≤it) (h2 : ∀ x c,X.env.cells.lookup x = some c→c≠it) (h3 : ∀ p∈X.pn++pins,p.1≠it) : Inv X pins σ H { s with heap:=h',toks:=t' }:=by
  have nit : ∀ b u,H b = some u→b≠it:=fun b u e z=>by rw [z,hn] at e;cases e
  refine I.step (g':=s.gens) (d':=s.drawn) (ch:=[it]) (fun b hb=>?_) (fun b o _ _ hc e _=>k b o (fun z=>hc (by simp [z])) e) (fun b o _ _ hc e _=>⟨o.slots,k b o (fun z=>hc (by simp [z])) e⟩) (fun _ _ _ _ n=>n)
    (fun b o hc e=>⟨o,k b o (fun z=>hc (by simp [z])) e⟩) (fun _ _ e=>e) (fun _ _ _ e=>e) (fun b ps e=>⟨#[],by rw [e];simp⟩) (fun m hm=>?_) (fun b u e=>?_) I.bare
  · have e : b = it:=by simpa using hb
    subst e
    exact ⟨h1,hL,h2,h3⟩
  · obtain ⟨o,es,ep,ho,r⟩:=hm
    exact ⟨o,es,ep,k _ o (Ne.symm hL) ho,r⟩
  · refine (I.hok b u e).stay (fun c v hc q=>k c v ?_ q) (fun _ q=>q) fun _ _ q=>q
    rcases hc with z | z
    · rw [z];exact nit b u e
    · exact nit c _ z
theorem Inv.tok (I : Inv X pins σ H s) (t : Nat) : Inv X pins σ H { s with toks:=t }:=I.un (h':=s.heap) (t':=t) Un.refl I.hok
theorem Inv.kept {t' : Nat} (I : Inv X pins σ H s) (k : ∀ b u,s.heap.get? b = some u→h'.get? b = some u) : Inv X pins σ H { s with heap:=h',toks:=t' }:=I.un (Un.kept k) (I.hok.kept k)
theorem Inv.laid {a : Addr} {o : HO} {t' : Nat} (I : Inv X pins σ H s) (k : ∀ b u,s.heap.get? b = some u→h'.get? b = some u) (hp : s.heap.objs.size≤a) (new : ObjOk X.prog X.w (upd H a o) h' a o) :
    Inv X pins σ (upd H a o) { s with heap:=h',toks:=t' }:=I.un (Un.laid k hp (I.hok.fresh hp)) (I.hok.laid k hp new)
theorem Inv.write {x e : Addr} {o : HO} {t' : Nat} (I : Inv X pins σ H s) (mu : Mut (H x)) (he : e = x∨H e = some (.own x)) (k : ∀ b u,b≠e→s.heap.get? b = some u→h'.get? b = some u) (heo : ∃ u,h'.get? e = some u)
    (new : ObjOk X.prog X.w (upd H x o) h' x o) : Inv X pins σ (upd H x o) { s with heap:=h',toks:=t' }:=I.un (Un.write mu he k heo) (I.hok.write mu he k heo new)
theorem Inv.pins_of {pins' : List (Addr × Obj)} (I : Inv X pins σ H s) (h : ∀ p∈pins',s.heap.get? p.1 = some p.2∧H p.1 = none∧p.1≠X.env.locals∧p.1∉X.fs∧∀ v,p.2.data≠.cell v) : Inv X pins' σ H s :=
  ⟨I.ok,I.os,I.bare,I.base,I.loc,I.cell,I.free,I.freeC,fun p hp=>(List.mem_append.mp hp).elim (fun z=>I.pin p (List.mem_append_left _ z)) (h p),I.hok,I.len⟩
theorem nodup_ix {N : List Str} (hN : N.Nodup) {i j : Nat} {x : Str} (a : N[i]? = some x) (b : N[j]? = some x) : i = j:=by
  obtain ⟨h1,e1⟩:=List.getElem?_eq_some_iff.mp a
  obtain ⟨h2,e2⟩:=List.getElem?_eq_some_iff.mp b
  exact (List.getElem_inj hN).mp (e1.trans e2.symm)
theorem store_ok2 {M : Model} {A : Around} {E : Value → Shared → Prop} {i : Nat} {x : Str} {v : V} {u : Value} {Q : Unit → Shared → Prop} (I : Inv X pins σ H s) (hN : X.N.Nodup) (hi : X.N[i]? = some x) (hx : Loc X.env.scope x) (r : RelV v u)
    (h : ∀ s',Inv X pins (σ.set i (some v)) H s'→(∃ a,Heap.SameBut a s.heap s'.heap∧(a = X.env.locals∨X.env.cells.lookup x = some a))→Q () s') (hf : X.fn x = true∨X.env.scope.names.lookup x = some .local:=by first | exact .inl rfl | exact .inr rfl | assumption) : wpAny M A (storeName X.env x u) Q E s:=by
  obtain ⟨m,hn,hl⟩:=id I.loc
  have hcls : (X.env.scope.kind == .class || (X.env.scope.kind == .module && X.env.locals != X.env.globals)) = false:=by rw [I.ok.kind];rfl
  have hiσ : i < σ.length:=by rw [I.len];exact (List.getElem?_eq_some_iff.mp hi).1
  have cne:=I.cne
  have tracked : ∀ {a : Addr} {h' : Heap},(∃ o,s.heap.get? a = some o∧H a = none)→Heap.SameBut a s.heap h'→HOk X.prog X.w H h':=fun {a h'} ha hs b ob e=>by
    obtain ⟨_,_,hfree⟩:=ha
    refine (I.hok b ob e).stay (fun c w' hc q=>(hs.2 c ?_).trans q) (fun _ q=>q) fun _ _ q=>q
    rintro rfl
    rcases hc with rfl | hc
    · rw [hfree] at e;cases e
    · rw [hfree] at hc;cases hc
  rcases hx with hk | hk
  · refine wpAny_storeName_local hk hn (fun h' hn' hs => ?_) hcls
    obtain ⟨oL,_,_,hoL,_⟩:=id hn
    refine h _ ⟨I.ok,I.os,I.bare,⟨fun b o e n hb hx=>?_,fun b o e n hb hx=>?_,I.base.free,fun b o e hx=>?_,I.base.tups,I.base.frzs,I.base.tbls⟩,⟨_,hn',fun j y v' e1 e2 e3=>?_⟩,fun y c e=>?_,I.free,I.freeC,fun p hp=>?_,tracked ⟨oL,hoL,I.free⟩ hs,by simpa using I.len⟩ ⟨_,hs,.inl rfl⟩
    · exact (hs.2 b (Nat.ne_of_lt (Nat.lt_of_lt_of_le (Heap.lt_size e) I.ok.above))).trans (I.base.keep b o e n hb hx)
    · obtain ⟨sl,e1⟩:=I.base.slot b o e n hb hx
      exact ⟨sl,(hs.2 b (Nat.ne_of_lt (Nat.lt_of_lt_of_le (Heap.lt_size e) I.ok.above))).trans e1⟩
    · obtain ⟨o',e1⟩:=I.base.there b o e hx
      exact ⟨o',(hs.2 b (Nat.ne_of_lt (Nat.lt_of_lt_of_le (Heap.lt_size e) I.ok.above))).trans e1⟩
    · by_cases hj : j = i
      · subst hj
        rw [hi] at e1;cases e1
        rw [List.getElem?_set_self hiσ] at e2
        cases e2
        exact ⟨u,r,.inl ⟨hk,by simp⟩⟩
      · rw [List.getElem?_set_ne (Ne.symm hj)] at e2
        obtain ⟨u',r',q⟩:=hl j y v' e1 e2 e3
        refine ⟨u',r',?_⟩
        rcases q with ⟨k,e⟩ | ⟨k,c,e,z⟩
        · refine .inl ⟨k,?_⟩
          have : y≠x:=fun e=>hj (nodup_ix hN e1 (e ▸ hi))
          simp [this,e]
        · exact .inr ⟨k,c,e,z.sameBut hs (cne y c e)⟩
    · obtain ⟨w',z⟩:=I.cell y c e
      exact ⟨w',z.sameBut hs (cne y c e)⟩
    · obtain ⟨e,n,ne,nf,d⟩:=I.pin p hp
      exact ⟨(hs.2 p.1 ne).trans e,n,ne,nf,d⟩
  · have hfn : X.fn x = true := by
      rcases hf with z | z
      · exact z
      · rw [z] at hk;cases hk
    obtain ⟨c,hc⟩:=I.ok.has x (.inl hk)
    obtain ⟨w',z⟩:=I.cell x c hc
    refine wpAny_storeName_cell I.ok.kind hk hc z (fun h' hc' hs=>?_)
    obtain ⟨oc,hoc,hocd⟩:=id z
    refine h { s with heap:=h' } ⟨I.ok,I.os,I.bare,⟨fun b o e n hb hx=>?_,fun b o e n hb hx=>?_,I.base.free,fun b o e hx=>?_,I.base.tups,I.base.frzs,I.base.tbls⟩,⟨m,hn.sameBut hs (Ne.symm (cne x c hc)),fun j y v' e1 e2 e3=>?_⟩,fun y c' e=>?_,I.free,I.freeC,fun p hp=>?_,tracked ⟨oc,hoc,I.freeC x c hc⟩ hs,by simpa using I.len⟩ ⟨c,hs,.inr hc⟩
    · exact (hs.2 b (Nat.ne_of_lt (Nat.lt_of_lt_of_le (Heap.lt_size e) (I.ok.cab x c hfn hc)))).trans (I.base.keep b o e n hb hx)
    · obtain ⟨sl,e1⟩:=I.base.slot b o e n hb hx
      exact ⟨sl,(hs.2 b (Nat.ne_of_lt (Nat.lt_of_lt_of_le (Heap.lt_size e) (I.ok.cab x c hfn hc)))).trans e1⟩
    · obtain ⟨o',e1⟩:=I.base.there b o e hx
      exact ⟨o',(hs.2 b (Nat.ne_of_lt (Nat.lt_of_lt_of_le (Heap.lt_size e) (I.ok.cab x c hfn hc)))).trans e1⟩
    · by_cases hj : j = i
      · subst hj
        rw [hi] at e1;cases e1
        rw [List.getElem?_set_self hiσ] at e2
        cases e2
        exact ⟨u,r,.inr ⟨.inl hk,c,hc,hc'⟩⟩
      · rw [List.getElem?_set_ne (Ne.symm hj)] at e2
        obtain ⟨u',r',q⟩:=hl j y v' e1 e2 e3
        refine ⟨u',r',?_⟩
        rcases q with q | ⟨k,c',e,z'⟩
        · exact .inl q
        · refine .inr ⟨k,c',e,z'.sameBut hs ?_⟩
          rintro rfl
          exact hj (nodup_ix hN e1 (I.ok.inj _ _ _ e hc ▸ hi))
    · by_cases hcc : c' = c
      · subst hcc;exact ⟨_,hc'⟩
      · obtain ⟨w2,z2⟩:=I.cell y c' e
        exact ⟨w2,z2.sameBut hs hcc⟩
    · obtain ⟨e,n,ne,nf,d⟩:=I.pin p hp
      refine ⟨(hs.2 p.1 ?_).trans e,n,ne,nf,d⟩
      intro q
      rw [q,hoc] at e
      have q' : oc = p.2:=Option.some.inj e
      exact d w' (by rw [← q'];exact hocd)
theorem store_ok {M : Model} {A : Around} {E : Value→Shared→Prop} {i : Nat} {x : Str} {v : V} {u : Value} {Q : Unit→Shared→Prop} (I : Inv X pins σ H s) (hN : X.N.Nodup) (hi : X.N[i]? = some x) (hx : Loc X.env.scope x) (r : RelV v u)
    (h : ∀ s',Inv X pins (σ.set i (some v)) H s'→Q () s') (hf : X.fn x = true∨X.env.scope.names.lookup x = some .local:=by first | exact .inl rfl | exact .inr rfl | assumption) : wpAny M A (storeName X.env x u) Q E s :=
  store_ok2 I hN hi hx r (fun s' I' _=>h s' I') hf
theorem Inv.call' {s' : Shared} {ch : List Addr} (I : Inv X pins σ H s) (ho : s'.os = s.os) (u : Un (frs X.stack) ch H H' s.heap s'.heap) (hok : HOk X.prog X.w H' s'.heap) (hg : AllBare s'.gens)
    (hch : ∀ b∈ch,(b∈X.ex∨X.s₀.heap.objs.size≤b)∧b≠X.env.locals∧(∀ x c,X.env.cells.lookup x = some c→c≠b)∧∀ p∈X.pn++pins,p.1≠b) : Inv X pins σ H' s':=by
  obtain ⟨h',g',d',t',o'⟩:=s'
  have e : o' = s.os:=ho
  subst e
  exact I.call (g':=g') (t':=t') (d':=d') u hok hg hch
end
abbrev XK:=Value→Option Addr→Hp→Prop
abbrev St:=List (Option V)
abbrev VK:=V→Hp→Prop
abbrev TE:=St→Hp→VK→Prop
abbrev TT:=St→Hp→(Bool→Hp→Prop)→Prop
abbrev TA:=St→Hp→(List V→Hp→Prop)→Prop
structure Ends where
  nx : St→Hp→Prop
  rt : VK
  bk : St→Hp→Prop:=fun _ _=>False
  ct : St→Hp→Prop:=fun _ _=>False
abbrev TS:=Ends→St→Hp→Prop
def EP (X : Cx) (pins : List (Addr × Obj)) (σ : St) (Q : VK) (u : Value) (s' : Shared) : Prop:=∃ v H',Inv X pins σ H' s'∧RelV v u∧Q v H'
def TP (X : Cx) (pins : List (Addr × Obj)) (σ : St) (Q : Bool→Hp→Prop) (b : Bool) (s' : Shared) : Prop:=∃ H',Inv X pins σ H' s'∧Q b H'
def AP (X : Cx) (pins : List (Addr × Obj)) (σ : St) (Q : List V→Hp→Prop) (us : List Value) (s' : Shared) : Prop:=∃ vs H',Inv X pins σ H' s'∧Vals vs us∧Q vs H'
def SP (X : Cx) (pins : List (Addr × Obj)) (D : Ends) (f : Flow) (s' : Shared) : Prop :=
  match f with
  | .next=>∃ σ' H',Inv X pins σ' H' s'∧D.nx σ' H'
  | .brk=>∃ σ' H',Inv X pins σ' H' s'∧D.bk σ' H'
  | .cont=>∃ σ' H',Inv X pins σ' H' s'∧D.ct σ' H'
  | .ret u=>∃ v σ' H',Inv X pins σ' H' s'∧RelV v u∧D.rt v H'
def PE (X : Cx) (e : Expr) (t : TE) : Prop :=
  ∀ (pins : List (Addr × Obj)) (s : Shared) (σ : St) (H : Hp) (Q : VK),Inv X pins σ H s→t σ H Q→wpAny (model X.prog X.w) X.A (eval e X.env) (EP X pins σ Q) X.xe s
def PT (X : Cx) (e : Expr) (t : TT) : Prop :=
  ∀ (pins : List (Addr × Obj)) (s : Shared) (σ : St) (H : Hp) (Q : Bool→Hp→Prop),Inv X pins σ H s→t σ H Q→wpAny (model X.prog X.w) X.A (isTrue e X.env (eval e X.env)) (TP X pins σ Q) X.xe s
def PW (X : Cx) (e : Expr) (t : TT) : Prop :=
  ∀ (whole : Sem Value) (pins : List (Addr × Obj)) (s : Shared) (σ : St) (H : Hp) (Q : Bool→Hp→Prop),Inv X pins σ H s→t σ H Q→wpAny (model X.prog X.w) X.A (isTrue e X.env whole) (TP X pins σ Q) X.xe s
theorem PW.pt {X : Cx} {e : Expr} {t : TT} (h : PW X e t) : PT X e t:=h _
def PA (X : Cx) (es : List Expr) (t : TA) : Prop :=
  ∀ (pos : Pos) (pins : List (Addr × Obj)) (s : Shared) (σ : St) (H : Hp) (Q : List V→Hp→Prop),Inv X pins σ H s→t σ H Q→wpAny (model X.prog X.w) X.A (spliced (backTo pos (starEach es X.env))) (AP X pins σ Q) X.xe s
def PS (X : Cx) (st : Stmt) (t : TS) : Prop :=
  ∀ (pins : List (Addr × Obj)) (s : Shared) (σ : St) (H : Hp) (D : Ends),Inv X pins σ H s→t D σ H→wpAny (model X.prog X.w) X.A (exec st X.env) (SP X pins D) X.xe s
def PSs (X : Cx) (st : List Stmt) (t : TS) : Prop :=
  ∀ (pins : List (Addr × Obj)) (s : Shared) (σ : St) (H : Hp) (D : Ends),Inv X pins σ H s→t D σ H→wpAny (model X.prog X.w) X.A (execs st X.env) (SP X pins D) X.xe s
theorem thn {α : Type} {t : Sem α} {Q Q' : α→Shared→Prop} {M : Model} {A : Around} {E : Value→Shared→Prop} {s : Shared} (h : wpAny M A t Q E s) (hQ : ∀ a s,Q a s→Q' a s) : wpAny M A t Q' E s:=wpAny_mono h hQ fun _ _ x=>x
end L2
namespace L2
open PySem PySem.Spec PyProof.Rows
section
variable {X : Cx}
def tVar (i : Nat) : TE:=fun σ H Q=>∃ v,σ[i]? = some (some v)∧Q v H
def tC (v : V) : TE:=fun _ H Q=>Q v H
theorem pe_var {i : Nat} {x : Str} {pos : Pos} (hN : X.N[i]? = some x) (hv : Vis X.env.scope x) (hd : (x == ("__debug__" : Str)) = false:=by decide) (hcd : (x == ("__classdict__" : Str)) = false:=by decide) : PE X (.Name x pos) (tVar i):=by
  intro pins s σ H Q I h
  obtain ⟨v,e,h⟩:=h
  obtain ⟨m,hn,hl⟩:=I.loc
  obtain ⟨u,r,l⟩:=hl i x v hN e hv
  have fin : EP X pins σ Q u s:=⟨v,H,I,r,h⟩
  rcases l with ⟨hk,hm⟩ | ⟨hk,c,hc,hcell⟩
  · exact wpAny_Name (wpAny_loadName_local I.ok.kind hk hn hm fin) hd
  · rcases hk with hk | hk
    · exact wpAny_Name (wpAny_loadName_cell I.ok.kind hk hc hcell fin) hd
    · exact wpAny_Name (wpAny_loadName_free I.ok.kind hk hc hcell fin hcd) hd
theorem pe_int {i j pos} : PE X (.Constant (.int i) j pos) (tC (.int i)):=fun _ _ _ H _ I h=>wpAny_Constant_int ⟨.int i,H,I.tok _,⟨_,rfl⟩,h⟩
theorem pe_bl {b j pos} : PE X (.Constant (.bool b) j pos) (tC (.bl b)):=fun _ _ _ H _ I h=>Constant_bool ⟨.bl b,H,I,rfl,h⟩
theorem pe_non {j pos} : PE X (.Constant .none j pos) (tC .non):=fun _ _ _ H _ I h=>Constant_none ⟨.non,H,I,rfl,h⟩
theorem pe_str {x j pos} : PE X (.Constant (.str x) j pos) (tC (.str x)):=fun _ _ _ H _ I h=>Calls.Constant_str ⟨.str x,H,I.tok _,⟨_,rfl⟩,h⟩
def Gl (X : Cx) (x : Str) : Prop:=X.env.kindOf x = some .globalImplicit
theorem ld_glob {E : Value→Shared→Prop} {pins : List (Addr × Obj)} {s : Shared} {σ : St} {H : Hp} {x : Str} {u : Value} {pos : Pos} {Q : Value→Shared→Prop} (I : Inv X pins σ H s) (hg : Gl X x) (hm : X.mg x = some u) (h : Q u s)
    (hd : (x == ("__debug__" : Str)) = false:=by decide) : wpAny (model X.prog X.w) X.A (eval (.Name x pos) X.env) Q E s :=
  Calls.Name_function_global I.ok.kind hg (Calls.loadGlobal_global (by rw [I.ok.glob];exact I.mod.glob.keeps I.bk) hm h) hd
theorem ld_blt {E : Value→Shared→Prop} {pins : List (Addr × Obj)} {s : Shared} {σ : St} {H : Hp} {x : Str} {u : Value} {pos : Pos} {Q : Value→Shared→Prop} (I : Inv X pins σ H s) (hg : Gl X x) (hm : X.mg x = none) (hv : bootBuiltins x = some u) (h : Q u s)
    (hn : x≠"__name__":=by decide) (hd : (x == ("__debug__" : Str)) = false:=by decide) : wpAny (model X.prog X.w) X.A (eval (.Name x pos) X.env) Q E s:=by
  obtain ⟨mb,h1,h2⟩:=I.mod.blt
  exact Calls.Name_function_global I.ok.kind hg (Calls.loadGlobal_builtin (by rw [I.ok.glob];exact I.mod.glob.keeps I.bk) hm (by rw [I.ok.blt];exact h1.keeps I.bk) ((h2 x hn).trans hv) h) hd
theorem pe_glob {x : Str} {v : V} {u : Value} {pos : Pos} (hg : Gl X x) (hm : X.mg x = some u) (r : RelV v u) (hd : (x == ("__debug__" : Str)) = false:=by decide) : PE X (.Name x pos) (tC v) :=
  fun _ _ _ H _ I h=>ld_glob I hg hm ⟨v,H,I,r,h⟩ hd
theorem pe_bltn {x : Str} {v : V} {u : Value} {pos : Pos} (hg : Gl X x) (hm : X.mg x = none) (hv : bootBuiltins x = some u) (r : RelV v u) (hn : x≠"__name__":=by decide) (hd : (x == ("__debug__" : Str)) = false:=by decide) : PE X (.Name x pos) (tC v) :=
  fun _ _ _ H _ I h=>ld_blt I hg hm hv ⟨v,H,I,r,h⟩ hn hd
variable {a b : Expr} {ta tb : TE} {pos : Pos}
def tB (t : TE) : TT:=fun σ H Q=>t σ H fun x H1=>∃ c,x = .bl c∧Q c H1
theorem pt_val {e : Expr} {t : TE} (h : PE X e t) (he : ∀ whole,isTrue e X.env whole = (do let v ← whole;standAt e.pos;holding [v] (truthy v)):=by intro _;rfl) : PT X e (tB t):=by
  intro pins s σ H Q I hw
  refine isTrue_plain (thn (h pins s σ H _ I hw) fun v s1 ⟨x,H1,I1,r1,q1⟩=>?_) (he _)
  obtain ⟨d,rfl,q⟩:=q1
  cases r1
  exact wpAny_truthy_bool ⟨H1,I1,q⟩
variable {tA tB' : TT} {rest : List Expr}
def tAnd (t u : TT) : TT:=fun σ H Q=>t σ H fun c H1=>if c = true then u σ H1 Q else Q false H1
def tOr (t u : TT) : TT:=fun σ H Q=>t σ H fun c H1=>if c = true then Q true H1 else u σ H1 Q
def tNot (t : TT) : TT:=fun σ H Q=>t σ H fun c H1=>Q (!c) H1
theorem pw_and1 (ha : PT X a tA) : PW X (.BoolOp .And [a] pos) tA:=by
  intro wh pins s σ H Q I h
  refine isTrue_and (thn (ha pins s σ H Q I h) fun c s1 e=>?_)
  cases c with
  | true=>exact isTrue_and_nil e
  | false=>exact e
theorem pw_or1 (ha : PT X a tA) : PW X (.BoolOp .Or [a] pos) tA:=by
  intro wh pins s σ H Q I h
  refine isTrue_or (thn (ha pins s σ H Q I h) fun c s1 e=>?_)
  cases c with
  | false=>exact isTrue_or_nil e
  | true=>exact e
theorem pw_and (ha : PT X a tA) (hb : PW X (.BoolOp .And (b::rest) pos) tB') : PW X (.BoolOp .And (a::b::rest) pos) (tAnd tA tB'):=by
  intro wh pins s σ H Q I h
  refine isTrue_and (thn (ha pins s σ H _ I h) fun c s1 ⟨H1,I1,q1⟩=>?_)
  cases c with
  | true=>exact hb wh pins s1 σ H1 Q I1 q1
  | false=>exact ⟨H1,I1,q1⟩
theorem pw_or (ha : PT X a tA) (hb : PW X (.BoolOp .Or (b::rest) pos) tB') : PW X (.BoolOp .Or (a::b::rest) pos) (tOr tA tB'):=by
  intro wh pins s σ H Q I h
  refine isTrue_or (thn (ha pins s σ H _ I h) fun c s1 ⟨H1,I1,q1⟩=>?_)
  cases c with
  | true=>exact ⟨H1,I1,q1⟩
  | false=>exact hb wh pins s1 σ H1 Q I1 q1
theorem pt_not (ha : PT X a tA) : PT X (.UnaryOp .Not a pos) (tNot tA):=by
  intro pins s σ H Q I h
  exact isTrue_not (ha pins s σ H (fun c H1=>Q (!c) H1) I h)
def tAndV (ta tb : TE) : TE:=fun σ H Q=>ta σ H fun x H1=>∃ c,x = .bl c∧if c = true then tb σ H1 Q else Q (.bl false) H1
theorem pe_one {op} {t : TE} (h : PE X a t) : PE X (.BoolOp op [a] pos) t:=fun pins s σ H Q I hw=>BoolOp_one (h pins s σ H Q I hw)
theorem pe_and (ha : PE X a ta) (hb : PE X (.BoolOp .And (b::rest) pos) tb) : PE X (.BoolOp .And (a::b::rest) pos) (tAndV ta tb):=by
  intro pins s σ H Q I h
  refine BoolOp_and (thn (ha pins s σ H _ I h) fun v s1 ⟨x,H1,I1,r1,q1⟩=>?_)
  obtain ⟨c,rfl,q1⟩:=q1
  cases r1
  refine wpAny_truthy_bool ?_
  cases c with
  | true=>exact hb pins s1 σ H1 Q I1 q1
  | false=>exact ⟨.bl false,H1,I1,rfl,q1⟩
end
end L2
namespace L2
open PySem PySem.Spec PyProof.Rows
def SqL (K : PySem.W.Frag) (H : Hp) (a : Addr) (xs : List V) : Prop :=
  Rd H a (.lst xs) ∨
    ∃ (o : Obj) (its : Array Value) (n : Nat),K.lookup a = some o∧o.cls = .type "list"∧o.dict = none∧o.data = .seq its n∧its.size≤sizeLine∧Vals xs its.toList
def SqT (K : PySem.W.Frag) (H : Hp) (a : Addr) (xs : List V) : Prop :=
  Rd H a (.tup xs) ∨
    ∃ (o : Obj) (its : Array Value) (n : Nat),K.lookup a = some o∧o.cls = .type "tuple"∧o.data = .seq its n∧its.size≤sizeLine∧Vals xs its.toList
def absV : Value→Option V
  | .none=>some .non
  | .bool b=>some (.bl b)
  | .int i _=>some (.int i)
  | .str x _=>some (.str x)
  | .bytes b _=>some (.byt b)
  | .float b _=>some (.flt b)
  | .ref a=>some (.ref a)
  | .type n=>some (.ty n)
  | _=>none
theorem RelV.abs {x : V} {u : Value} (r : RelV x u) : absV u = some x:=by
  cases x with
  | non=>cases r;rfl
  | bl _=>cases r;rfl
  | int _=>obtain ⟨t,rfl⟩:=r;rfl
  | str _=>obtain ⟨t,rfl⟩:=r;rfl
  | byt _=>obtain ⟨t,rfl⟩:=r;rfl
  | flt _=>obtain ⟨t,rfl⟩:=r;rfl
  | ref _=>cases r;rfl
  | ty _=>cases r;rfl
theorem RelV.inj {x y : V} {u : Value} (r : RelV x u) (q : RelV y u) : x = y:=Option.some.inj (r.abs.symm.trans q.abs)
theorem Vals.inj : ∀ {xs ys : List V} {us : List Value},Vals xs us→Vals ys us→xs = ys
  | _,_,_,.nil,.nil=>rfl
  | _,_,_,.cons r t,.cons r' t'=>by rw [r.inj r',Vals.inj t t']
section
variable {X : Cx} {pins : List (Addr × Obj)} {σ : St} {H : Hp} {s : Shared} {a : Addr} {xs ys : List V}
theorem SqL.of {K : PySem.W.Frag} (h : H a = some (.lst xs)) : SqL K H a xs:=.inl (.inl h)
theorem SqT.of {K : PySem.W.Frag} (h : H a = some (.tup xs)) : SqT K H a xs:=.inl (.inl h)
theorem Inv.list (I : Inv X pins σ H s) (h : SqL X.K H a xs) : ∃ its : List Value,Vals xs its∧PlainL s.heap a its.toArray∧xs.length≤sizeLine:=by
  rcases h with h | ⟨o,its,n,hk,hc,hd,hs,hz,r⟩
  · obtain ⟨z,its,n,r,e⟩:=h.ok I.hok
    exact ⟨its,r,⟨_,n,e,rfl,rfl,rfl⟩,z⟩
  · refine ⟨its.toList,r,⟨o,n,I.kIn a o hk,hc,hd,by simpa using hs⟩,?_⟩
    have e:=r.length
    simp only [Array.length_toList] at e
    omega
theorem Inv.tuple (I : Inv X pins σ H s) (h : SqT X.K H a xs) : ∃ its : List Value,Vals xs its∧IsTup s.heap a its.toArray∧xs.length≤sizeLine:=by
  rcases h with h | ⟨o,its,n,hk,hc,hs,hz,r⟩
  · obtain ⟨z,its,r,p⟩:=h.ok I.hok
    exact ⟨its,r,p.tup,z⟩
  · refine ⟨its.toList,r,⟨o,I.kIn a o hk,hc,n,by simpa using hs⟩,?_⟩
    have e:=r.length
    simp only [Array.length_toList] at e
    omega
theorem Inv.list_inj (I : Inv X pins σ H s) (h : SqL X.K H a xs) (h' : SqL X.K H a ys) : xs = ys:=by
  obtain ⟨its,r,⟨o,n,e,_,_,d⟩,_⟩:=I.list h
  obtain ⟨its',r',⟨o',n',e',_,_,d'⟩,_⟩:=I.list h'
  rw [e] at e';cases e'
  rw [d] at d'
  injection d' with d1 _
  have : its = its':=by simpa using congrArg Array.toList d1
  subst this
  exact r.inj r'
theorem Inv.tuple_inj (I : Inv X pins σ H s) (h : SqT X.K H a xs) (h' : SqT X.K H a ys) : xs = ys:=by
  obtain ⟨its,r,⟨o,e,_,n,d⟩,_⟩:=I.tuple h
  obtain ⟨its',r',⟨o',e',_,n',d'⟩,_⟩:=I.tuple h'
  rw [e] at e';cases e'
  rw [d] at d'
  injection d' with d1 _
  have : its = its':=by simpa using congrArg Array.toList d1
  subst this
  exact r.inj r'
end
abbrev Cx.wish (X : Cx) (E : Value→Shared→Prop) : Cx:={ X with xe:=E }
abbrev Cx.nox (X : Cx) : Cx:=X.wish fun _ _=>False
theorem Cx.Ok.wish {X : Cx} (ok : X.Ok) (E : Value→Shared→Prop) : (X.wish E).Ok :=
  ⟨ok.mod,ok.kind,ok.glob,ok.blt,ok.above,ok.inj,ok.has,ok.cab,ok.hd,ok.frames,ok.stk,ok.exf,ok.bs,ok.bsz,ok.noex,ok.exfs,ok.funs,ok.frf⟩
theorem Cx.Ok.unwish {X : Cx} {E : Value→Shared→Prop} (ok : (X.wish E).Ok) : X.Ok :=
  ⟨ok.mod,ok.kind,ok.glob,ok.blt,ok.above,ok.inj,ok.has,ok.cab,ok.hd,ok.frames,ok.stk,ok.exf,ok.bs,ok.bsz,ok.noex,ok.exfs,ok.funs,ok.frf⟩
section
variable {X : Cx} {pins : List (Addr × Obj)} {σ : St} {H : Hp} {s : Shared} {E : Value→Shared→Prop}
theorem Inv.wish (I : Inv X pins σ H s) (E : Value→Shared→Prop) : Inv (X.wish E) pins σ H s:=⟨I.ok.wish E,I.os,I.bare,I.base,I.loc,I.cell,I.free,I.freeC,I.pin,I.hok,I.len⟩
theorem Inv.unwish (I : Inv (X.wish E) pins σ H s) : Inv X pins σ H s:=⟨I.ok.unwish,I.os,I.bare,I.base,I.loc,I.cell,I.free,I.freeC,I.pin,I.hok,I.len⟩
theorem SP.unwish {D : Ends} {f : Flow} {s' : Shared} (h : SP (X.wish E) pins D f s') : SP X pins D f s':=by
  cases f with
  | next=>obtain ⟨σ',H',I,q⟩:=h;exact ⟨σ',H',I.unwish,q⟩
  | brk=>obtain ⟨σ',H',I,q⟩:=h;exact ⟨σ',H',I.unwish,q⟩
  | cont=>obtain ⟨σ',H',I,q⟩:=h;exact ⟨σ',H',I.unwish,q⟩
  | ret u=>obtain ⟨v,σ',H',I,r,q⟩:=h;exact ⟨v,σ',H',I.unwish,r,q⟩
theorem PSs.nox {st : List Stmt} {t : TS} (h : PSs X.nox st t) : PSs X st t:=fun pins s σ H D I hw =>
  wpAny_mono (h pins s σ H D (I.wish _) hw) (fun _ _ q=>q.unwish) fun _ _ z=>False.elim z
end
section
variable {X : Cx} {st : Stmt} {rest : List Stmt} {t u : TS} {e : Expr} {te : TE} {pos : Pos}
def tNext : TS:=fun D σ H=>D.nx σ H
def tSeq (t u : TS) : TS:=fun D σ H=>t { D with nx:=u D } σ H
theorem pss_nil : PSs X [] tNext:=fun _ _ σ H _ I h=>wpAny_execs_nil ⟨σ,H,I,h⟩
theorem pss_cons (h1 : PS X st t) (h2 : PSs X rest u) : PSs X (st::rest) (tSeq t u):=by
  intro pins s σ H D I h
  refine wpAny_execs_cons (thn (h1 pins s σ H { D with nx:=u D } I h) fun f s1 q=>?_)
  cases f with
  | next =>
    obtain ⟨σ',H',I',q⟩:=q
    exact h2 pins s1 σ' H' D I' q
  | ret v=>exact q
  | brk=>exact q
  | cont=>exact q
theorem pss_one (h1 : PS X st t) : PSs X [st] t:=by
  intro pins s σ H D I h
  refine wpAny_execs_cons (thn (h1 pins s σ H D I h) fun f s1 q=>?_)
  cases f with
  | next=>exact wpAny_execs_nil q
  | ret v=>exact q
  | brk=>exact q
  | cont=>exact q
theorem Inv.quiet {pins : List (Addr × Obj)} {σ : St} {H : Hp} {s : Shared} (I : Inv X pins σ H s) : interactive X.env = false:=by simp [interactive,I.ok.kind]
def tDrop (te : TE) : TS:=fun D σ H=>te σ H fun _ H1=>D.nx σ H1
theorem ps_expr (he : PE X e te) (hs : swapsWith e none pos.line X.env = pure false:=by rfl) : PS X (.Expr e pos) (tDrop te):=by
  intro pins s σ H D I h
  exact wpAny_Expr_any (thn (he pins s σ H _ I h) fun v s1 ⟨x,H1,I1,r1,q1⟩=>⟨σ,H1,I1,q1⟩) I.quiet hs
def tRet (te : TE) : TS:=fun D σ H=>te σ H D.rt
theorem ps_ret (he : PE X e te) : PS X (.Return (some e) pos) (tRet te):=by
  intro pins s σ H D I h
  exact wpAny_Return_some (thn (he pins s σ H _ I h) fun v s1 ⟨x,H1,I1,r1,q1⟩=>⟨x,σ,H1,I1,r1,q1⟩)
def tIfS (c : TT) (t u : TS) : TS:=fun D σ H=>c σ H fun b H1=>if b = true then t D σ H1 else u D σ H1
theorem ps_if {c : Expr} {a b : List Stmt} {tc : TT} (hc : PT X c tc) (ha : PSs X a t) (hb : PSs X b u) : PS X (.If c a b pos) (tIfS tc t u):=by
  intro pins s σ H D I h
  refine wpAny_If (thn (hc pins s σ H _ I h) fun d s1 ⟨H1,I1,q1⟩=>?_)
  cases d with
  | true=>exact ha pins s1 σ H1 D I1 q1
  | false=>exact hb pins s1 σ H1 D I1 q1
end
abbrev TG:=V→St→Hp→(St→Hp→Prop)→Prop
abbrev TGs:=List V→St→Hp→(St→Hp→Prop)→Prop
def PG (X : Cx) (target : Expr) (t : TG) : Prop :=
  ∀ (pins : List (Addr × Obj)) (s : Shared) (σ : St) (H : Hp) (v : V) (u : Value) (Q : St→Hp→Prop),Inv X pins σ H s→RelV v u→t v σ H Q →
    wpAny (model X.prog X.w) X.A (assign target X.env u) (fun _ s'=>∃ σ' H',Inv X pins σ' H' s'∧Q σ' H') X.xe s
def PGs (X : Cx) (ts : List Expr) (t : TGs) : Prop :=
  ∀ (pins : List (Addr × Obj)) (s : Shared) (σ : St) (H : Hp) (vs : List V) (us : List Value) (Q : St→Hp→Prop),Inv X pins σ H s→Vals vs us→t vs σ H Q →
    wpAny (model X.prog X.w) X.A (assignInOrder ((assignEach ts X.env).map (·.2)) us) (fun _ s'=>∃ σ' H',Inv X pins σ' H' s'∧Q σ' H') X.xe s
abbrev TSet:=V→V→V→Hp→(Hp→Prop)→Prop
def PSet (X : Cx) (t : TSet) : Prop :=
  ∀ (pins : List (Addr × Obj)) (s : Shared) (σ : St) (H : Hp) (o i v : V) (ov iv u : Value) (Q : Hp→Prop),Inv X pins σ H s→RelV o ov→RelV i iv→RelV v u→t o i v H Q →
    wpAny (model X.prog X.w) X.A (setItem ov iv u) (fun _ s'=>∃ H',Inv X pins σ H' s'∧Q H') X.xe s
section
variable {X : Cx} {pos : Pos}
def gName (i : Nat) : TG:=fun v σ H Q=>Q (σ.set i (some v)) H
theorem pg_name {i : Nat} {x : Str} (hN : X.N.Nodup) (hi : X.N[i]? = some x) (hx : Loc X.env.scope x) (hf : X.fn x = true∨X.env.scope.names.lookup x = some .local:=by first | exact .inl rfl | exact .inr rfl | assumption) : PG X (.Name x pos) (gName i):=by
  intro pins s σ H v u Q I r h
  exact wpAny_assign_Name (store_ok I hN hi hx r (fun s' I'=>⟨_,H,I',h⟩) hf)
def gNil : TGs:=fun vs σ H Q=>vs = []∧Q σ H
def gCons (t : TG) (u : TGs) : TGs:=fun vs σ H Q=>∃ v r,vs = v::r∧t v σ H fun σ' H'=>u r σ' H' Q
theorem pgs_nil : PGs X [] gNil:=by
  intro pins s σ H vs us Q I r h
  obtain ⟨e,h⟩:=h
  subst e
  cases r
  exact assignInOrder_nil ⟨σ,H,I,h⟩
theorem pgs_cons {e : Expr} {es : List Expr} {t : TG} {u : TGs} (h1 : PG X e t) (h2 : PGs X es u)
    (hs : (assignEach (e::es) X.env).map (·.2) = assign e X.env::(assignEach es X.env).map (·.2):=by rfl) : PGs X (e::es) (gCons t u):=by
  intro pins s σ H vs us Q I r h
  obtain ⟨v,vr,e1,h⟩:=h
  subst e1
  cases r with
  | cons r rr =>
    rw [hs]
    refine assignInOrder_cons (thn (h1 pins s σ H _ _ _ I r h) fun _ s1 ⟨σ1,H1,I1,q1⟩=>?_)
    exact h2 pins s1 σ1 H1 _ _ Q I1 rr q1
def gTup (K : PySem.W.Frag) (n : Nat) (t : TGs) : TG:=fun v σ H Q=>∃ a xs,v = .ref a∧SqT K H a xs∧xs.length = n∧t xs σ H Q
theorem pg_tup {es : List Expr} {k : Nat} {t : TGs} {n : Nat} (hc : X.calm = true) (h : PGs X es t)
    (hn : (assignEach es X.env).length = n:=by rfl) (hst : (assignEach es X.env).findIdx? (·.1) = none:=by rfl) : PG X (.Tuple es k pos) (gTup X.K n t):=by
  intro pins s σ H v u Q I r hw
  obtain ⟨a,xs,e1,hq,hl,hw⟩:=hw
  subst e1
  cases r
  obtain ⟨its,rv,ht,hz⟩:=I.tuple hq
  refine assign_Tuple_tuple (I.ok.hd hc) ht (by simp [hn,← hl,rv.length]) hst fun h' hx=>?_
  have I1 : Inv X pins σ H { s with heap:=h' }:=I.kept (t':=s.toks) fun b o e=>hx b o (Nat.ne_of_lt (Heap.lt_size e)) e
  exact h pins _ σ H xs _ Q I1 (by simpa using rv) hw
def gSub (to ti : TE) (t : TSet) : TG:=fun v σ H Q=>to σ H fun o H1=>ti σ H1 fun i H2=>t o i v H2 fun H3=>Q σ H3
theorem pg_sub {o i : Expr} {to ti : TE} {t : TSet} (ho : PE X o to) (hi : PE X i ti) (hs : PSet X t)
    (ha : ∀ v,assign (.Subscript o i pos) X.env v = (do
      let ov ← holding [v] (eval o X.env)
      let iv ← holding [v,ov] (eval i X.env)
      standAt pos
      holding [v,ov,iv] (setItem ov iv v)
      release [v,ov,iv] []):=by intro _;rfl) : PG X (.Subscript o i pos) (gSub to ti t):=by
  intro pins s σ H v u Q I r h
  rw [ha]
  refine wpAny_bind (wpAny_holding (thn (ho pins s σ H _ I h) fun ov s1 ⟨x,H1,I1,r1,q1⟩=>?_))
  refine wpAny_bind (wpAny_holding (thn (hi pins s1 σ H1 _ I1 q1) fun iv s2 ⟨y,H2,I2,r2,q2⟩=>?_))
  refine wpAny_bind (wpAny_standAt (wpAny_bind (wpAny_holding (thn (hs pins s2 σ H2 x y v ov iv u _ I2 r1 r2 r q2) fun _ s3 ⟨H3,I3,q3⟩=>?_))))
  exact wpAny_release ⟨σ,H3,I3,q3⟩
def tAsg (te : TE) (g : TG) : TS:=fun D σ H=>te σ H fun x H1=>g x σ H1 D.nx
theorem ps_asg {tg e : Expr} {te : TE} {g : TG} (he : PE X e te) (hg : PG X tg g) (hs : swapsWithSole [tg] e pos.line X.env = pure false:=by rfl) (hw : swappedStores [tg] e X.env = pure none:=by rfl)
    (h1 : (assignEach [tg] X.env).map (·.2) = [assign tg X.env]:=by rfl) : PS X (.Assign [tg] e pos) (tAsg te g):=by
  intro pins s σ H D I h
  refine wpAny_Assign_stores (thn (he pins s σ H _ I h) fun v s1 ⟨x,H1,I1,r1,q1⟩=>?_) hs hw
  rw [h1]
  exact thn (hg pins s1 σ H1 x v _ I1 r1 q1) fun _ s2 q=>q
theorem ps_set {i : Nat} {x : Str} {e : Expr} {te : TE} {pos' : Pos} (hN : X.N.Nodup) (hi : X.N[i]? = some x) (hx : Loc X.env.scope x) (he : PE X e te) (hs : swapsWith e (some (.Name x pos')) pos.line X.env = pure false:=by rfl) (hf : X.fn x = true∨X.env.scope.names.lookup x = some .local:=by first | exact .inl rfl | exact .inr rfl | assumption) :
    PS X (.Assign [.Name x pos'] e pos) (tAsg te (gName i)):=by
  intro pins s σ H D I h
  refine wpAny_Assign_Name (thn (he pins s σ H _ I h) fun v s1 ⟨y,H1,I1,r1,q1⟩=>?_) hs
  exact store_ok I1 hN hi hx r1 (fun s2 I2=>⟨_,H1,I2,q1⟩) hf
def tPar (i j : Nat) (ta : TA) : TS:=fun D σ H=>ta σ H fun vs H1=>∃ v w,vs = [v,w]∧D.nx ((σ.set i (some v)).set j (some w)) H1
theorem ps_par {i j : Nat} {x y : Str} {a b : Expr} {ta : TA} {px py pt : Pos} {kt k2 pt2} (hc : X.calm = true) (hN : X.N.Nodup) (hi : X.N[i]? = some x) (hj : X.N[j]? = some y) (hij : i ≠ j)
    (hx : X.env.scope.names.lookup x = some .local) (hy : X.env.scope.names.lookup y = some .local) (ha : PA X [a,b] ta)
    (hw : swappedStores [.Tuple [.Name x px,.Name y py] kt pt] (.Tuple [a,b] k2 pt2) X.env = pure (some [x,y]))
    (hs : swapsWithSole [.Tuple [.Name x px,.Name y py] kt pt] (.Tuple [a,b] k2 pt2) pos.line X.env = pure false:=by rfl) :
    PS X (.Assign [.Tuple [.Name x px,.Name y py] kt pt] (.Tuple [a,b] k2 pt2) pos) (tPar i j ta):=by
  intro pins s σ H D I h
  rw [exec_Assign_arm]
  refine wpAny_bind (wpAny_standAt ?_)
  rw [hs]
  refine wpAny_bind (wpAny_pure ?_)
  rw [if_neg (by decide)]
  refine wpAny_bind (Tuple_ (thn (ha _ pins s σ H _ I h) fun us s1 ⟨vs,H1,I1,r1,q1⟩=>?_))
  obtain ⟨v,w,e1,q1⟩:=q1
  subst e1
  obtain ⟨u1, u2, rfl, rv, rw'⟩ : ∃ u1 u2, us = [u1, u2] ∧ RelV v u1 ∧ RelV w u2 := by
    cases r1 with
    | cons p q =>
      cases q with
      | cons p' q' =>
        cases q'
        exact ⟨_,_,rfl,p,p'⟩
  refine wpAny_newObj_type ?_ (by show 2≤sizeLine;decide)
  have I2 : Inv X pins σ H1 { s1 with heap:=s1.heap.push { cls:=.type "tuple",data:=.seq [u1,u2].toArray } }:=I1.kept (t':=s1.toks) fun b o e=>Heap.get?_push_of_some _ e
  rw [hw]
  refine wpAny_bind (wpAny_pure ?_)
  show wpAny (model X.prog X.w) X.A (do rule "assign.swapped-stores";let items ← unpackItems (.ref s1.heap.objs.size) 2 none;assignInOrder [fun v=>bindName X.env y v,fun v=>bindName X.env x v] items.reverse;pure Flow.next) _ _ _
  refine wpAny_bind (wpAny_rule (wpAny_bind (unpackItems_tuple (items:=#[u1,u2]) (I.ok.hd hc) (IsTup.new s1.heap _) fun h' hx'=>?_)))
  have I3:=I2.kept (h':=h') (t':=s1.toks) fun b o e=>hx' b o (Nat.ne_of_lt (Heap.lt_size e)) e
  show wpAny _ _ (assignInOrder [fun v=>bindName X.env y v,fun v=>bindName X.env x v] [u2,u1] >>= fun _=>pure Flow.next) _ _ _
  refine wpAny_bind (assignInOrder_cons (wpAny_bindName (store_ok I3 hN hj (.inl hy) rw' (fun s2 I4=>?_) (.inr hy))))
  refine assignInOrder_cons (wpAny_bindName (store_ok I4 hN hi (.inl hx) rv (fun s3 I5=>assignInOrder_nil (wpAny_pure ?_)) (.inr hx)))
  rw [List.set_comm _ _ (Ne.symm hij)] at I5
  exact ⟨_,H1,I5,q1⟩
end
section
variable {X : Cx} {pos : Pos}
def tWhile (c : TT) (tb : TS) : TS:=fun D σ H=>∃ W : Nat→St→Hp→Prop,(∃ m,W m σ H)∧∀ m σ H,W m σ H →
  c σ H fun b H1=>if b = true then ∃ N : St→Hp→Prop,(∀ σ' H',N σ' H'→∃ m',m' < m∧W m' σ' H')∧tb { D with nx:=N,ct:=N,bk:=D.nx } σ H1 else D.nx σ H1
theorem ps_while {c : Expr} {body : List Stmt} {tc : TT} {tb : TS} (hp : PassesOwn (model X.prog X.w) X.A X.env X.xe) (hc : PT X c tc) (hb : PSs X body tb) : PS X (.While c body [] pos) (tWhile tc tb) := by
  intro pins s σ H D I h
  obtain ⟨W,⟨m0,w0⟩,turn⟩:=h
  refine wpAny_While (codeAny_whileLoop (fun n s'=>∃ σ' H',Inv X pins σ' H' s'∧W n σ' H') ?_ m0 ⟨σ,H,I,w0⟩)
  rintro n s1 ⟨σ1,H1,I1,w1⟩
  refine wpAny_passesOwn hp (thn (hc pins s1 σ1 H1 _ I1 (turn n σ1 H1 w1)) fun b s2 ⟨H2,I2,q2⟩=>?_)
  cases b with
  | true =>
    obtain ⟨N,hN,q2⟩:=q2
    rw [if_pos rfl]
    refine wpAny_passesOwn hp (thn (hb pins s2 σ1 H2 _ I2 q2) fun f s3 q3=>?_)
    cases f with
    | next =>
      obtain ⟨σ3,H3,I3,n3⟩:=q3
      obtain ⟨m',hm,w3⟩:=hN σ3 H3 n3
      exact ⟨m',hm,σ3,H3,I3,w3⟩
    | cont =>
      obtain ⟨σ3,H3,I3,n3⟩:=q3
      obtain ⟨m',hm,w3⟩:=hN σ3 H3 n3
      exact ⟨m',hm,σ3,H3,I3,w3⟩
    | brk=>exact q3
    | ret v=>exact q3
  | false =>
    rw [if_neg Bool.false_ne_true]
    exact wpAny_execs_nil ⟨σ1,H2,I2,q2⟩
end
structure It where
  go : Nat→Hp→Prop
  yld : Nat→Hp→V→Hp→Prop
  stop : Nat→Hp→Prop
def FpOk (X : Cx) (pins : List (Addr × Obj)) (H : Hp) (b : Addr) : Prop :=
  H b = none∧b≠X.env.locals∧b∉X.fs∧(b∈X.ex∨X.s₀.heap.objs.size≤b)∧(∀ x c,X.env.cells.lookup x = some c→c≠b)∧∀ p∈X.pn++pins,p.1≠b
theorem Inv.fpOk {X : Cx} {pins : List (Addr × Obj)} {σ : St} {H H' : Hp} {s : Shared} {b : Addr} (I : Inv X pins σ H s) (hb : s.heap.objs.size≤b) (hn : H' b = none) : FpOk X pins H' b:=by
  refine ⟨hn,Nat.ne_of_gt (Nat.lt_of_lt_of_le I.lt hb),I.nofs hb,.inr (Nat.le_trans I.sz hb),fun x c e z=>?_,fun p hp z=>?_⟩
  · obtain ⟨v,q⟩:=I.cell x c e
    exact absurd (Nat.lt_of_lt_of_le q.lt (by rw [z];exact hb)) (Nat.lt_irrefl _)
  · exact absurd (Nat.lt_of_lt_of_le (Heap.lt_size (I.pin p hp).1) (by rw [z];exact hb)) (Nat.lt_irrefl _)
structure Turn (P : Program) (w : World) (K : PySem.W.Frag) (tg : Expr) (J : It) (fp : List Addr) (it : Addr) (tn : Nat → Heap → Prop) : Prop where
  mem : it∈fp
  obj : ∀ i h,tn i h→∀ b∈fp,∃ o,h.get? b = some o∧∀ v,o.data≠.cell v
  keep : ∀ i h h',tn i h→(∀ b∈fp,∀ o,h.get? b = some o→h'.get? b = some o)→tn i h'
  item : ∀ (X : Cx),X.prog = P→X.w = w→X.K = K→X.calm = true→∀ (i : Nat) (pins : List (Addr × Obj)) (s : Shared) (σ : St) (H : Hp) (E : Value→Shared→Prop),Inv X pins σ H s→(∀ b∈fp,FpOk X pins H b)→tn i s.heap→J.go i H →
    wpAny (model P w) X.A (pyNext (.ref it)) (fun r s1=>∃ u,r = some u ∧
      wpAny (model P w) X.A (letOwnedTupleGo tg (.ref it) u) (fun _ s2=>∃ x H',Inv X pins σ H' s2∧RelV x u∧J.yld i H x H'∧tn (i + 1) s2.heap∧∀ b∈fp,H' b = none) E s1) E s
  done : ∀ (X : Cx),X.prog = P→X.w = w→X.K = K→X.calm = true→∀ (i : Nat) (pins : List (Addr × Obj)) (s : Shared) (σ : St) (H : Hp) (E : Value→Shared→Prop),Inv X pins σ H s→(∀ b∈fp,FpOk X pins H b)→tn i s.heap→J.stop i H →
    wpAny (model P w) X.A (pyNext (.ref it)) (fun r s1=>r = none∧Inv X pins σ H s1) E s
  self : ∀ (A : Around) (i : Nat) (s : Shared) (Q : Value→Shared→Prop) (E : Value→Shared→Prop),tn i s.heap→Q (.ref it) s→wpAny (model P w) A (pyIter (.ref it)) Q E s
abbrev TI:=St→Hp→(It→Hp→Prop)→Prop
def PIE (X : Cx) (pins : List (Addr × Obj)) (σ : St) (tg : Expr) (R : It→Hp→Prop) (itv : Value) (s2 : Shared) : Prop :=
  ∃ (it : Addr) (fp : List Addr) (tn : Nat→Heap→Prop) (J : It) (H' : Hp),itv = .ref it∧Inv X pins σ H' s2∧Turn X.prog X.w X.K tg J fp it tn∧tn 0 s2.heap∧(∀ b∈fp,FpOk X pins H' b)∧R J H'
def PI (X : Cx) (tg iter : Expr) (wi : TI) : Prop :=
  ∀ (pins : List (Addr × Obj)) (s : Shared) (σ : St) (H : Hp) (R : It→Hp→Prop),Inv X pins σ H s→wi σ H R →
    wpAny (model X.prog X.w) X.A (eval iter X.env) (fun v s1=>wpAny (model X.prog X.w) X.A (pyIter v) (PIE X pins σ tg R) X.xe s1) X.xe s
theorem go_of {M : Model} {A : Around} {E : Value → Shared → Prop} {s : Shared} {tg : Expr} {it : Addr} {u : Value} {o : Obj} {n : String} {vs : Array Value} {Q : Unit → Shared → Prop} (ho : s.heap.get? it = some o) (hc : o.cls = .type n) (hd : o.data = .fields vs)
    (hn : ["enumerate","zip","dict_itemiterator","dict_reverseitemiterator","odict_iterator","itertools.zip_longest","itertools.pairwise"].contains n = false) (hQ : Q () s) : wpAny M A (letOwnedTupleGo tg (.ref it) u) Q E s:=by
  unfold letOwnedTupleGo
  cases tg <;> first
    | exact wpAny_pure hQ
    | (cases u <;> first
        | exact wpAny_pure hQ
        | (refine wpAny_bind (wpAny_load ho ?_)
           rw [hc,hd]
           show wpAny M A (if (["enumerate","zip","dict_itemiterator","dict_reverseitemiterator","odict_iterator","itertools.zip_longest","itertools.pairwise"].contains n && vs[0]? == some (rawInt _)) = true then _ else _) Q E s
           rw [if_neg (by intro h;rw [hn,Bool.false_and] at h;cases h)]
           exact wpAny_pure hQ))
def Itl (K : PySem.W.Frag) (a : Addr) : It :=
  ⟨fun i H=>∃ xs x,SqL K H a xs∧xs[i]? = some x,fun i H x H'=>H' = H∧∀ xs,SqL K H a xs→xs[i]? = some x,fun i H=>∃ xs,SqL K H a xs∧xs.length≤i⟩
def Itt (K : PySem.W.Frag) (a : Addr) : It :=
  ⟨fun i H=>∃ xs x,SqT K H a xs∧xs[i]? = some x,fun i H x H'=>H' = H∧∀ xs,SqT K H a xs→xs[i]? = some x,fun i H=>∃ xs,SqT K H a xs∧xs.length≤i⟩
def Itr (lo : Int) (n : Nat) : It:=⟨fun i _=>i < n,fun i H x H'=>H' = H∧x = .int (lo + i),fun i _=>n≤i⟩
theorem turn_list {P : Program} {w : World} {K : PySem.W.Frag} {tg : Expr} (a it : Addr) : Turn P w K tg (Itl K a) [it] it (fun i h=>h.IsListIter it a i) where
  mem:=by simp
  obj:=fun i h st b hb=>by
    have e : b = it:=by simpa using hb
    subst e
    obtain ⟨o,e,c,d⟩:=st
    exact ⟨o,e,fun v z=>by rw [d] at z;cases z⟩
  keep:=fun i h h' st k=>st.at fun o e=>k it (by simp) o e
  item:=by
    intro X hP hw hK hc i pins s σ H E I hf st hg
    subst hP hw hK
    obtain ⟨xs,x,hq,hx⟩:=hg
    obtain ⟨its,rv,p,hz⟩:=I.list hq
    obtain ⟨u,hu,ru⟩:=rv.get hx
    obtain ⟨f0,f1,f2,f3,f4,f5⟩:=hf it (by simp)
    refine wpAny_pyNext_list_item st p.isList (x:=u) (by simpa using hu) fun h' st' sb=>?_
    have I1 : Inv X pins σ H { s with heap:=h' }:=I.turned (t':=s.toks) (fun b o hb e=>(sb.2 b hb).trans e) f0 f1 f3 f4 f5
    obtain ⟨o,e,c,d⟩:=id st'
    exact ⟨u,rfl,go_of (s:={ s with heap:=h' }) e c d (by decide) ⟨x,H,I1,ru,⟨rfl,fun ys hy=>by rw [I.list_inj hy hq];exact hx⟩,st',fun b hb=>(hf b hb).1⟩⟩
  done:=by
    intro X hP hw hK hc i pins s σ H E I hf st hg
    subst hP hw hK
    obtain ⟨xs,hq,hx⟩:=hg
    obtain ⟨its,rv,p,hz⟩:=I.list hq
    obtain ⟨f0,f1,f2,f3,f4,f5⟩:=hf it (by simp)
    have hl:=rv.length
    exact wpAny_pyNext_list_end (I.ok.hd hc) st p.isList (by simp;omega) fun h' eb=>⟨rfl,I.turned (t':=s.toks) (fun b o hb e=>eb b o hb e) f0 f1 f3 f4 f5⟩
  self:=fun _ _ _ _ _ st h=>wpAny_pyIter_listiter st h
theorem turn_tuple {P : Program} {w : World} {K : PySem.W.Frag} {tg : Expr} (a it : Addr) : Turn P w K tg (Itt K a) [it] it (fun i h=>h.IsTupleIter it a i) where
  mem:=by simp
  obj:=fun i h st b hb=>by
    have e : b = it:=by simpa using hb
    subst e
    obtain ⟨o,e,c,d⟩:=st
    exact ⟨o,e,fun v z=>by rw [d] at z;cases z⟩
  keep:=fun i h h' st k=>st.at fun o e=>k it (by simp) o e
  item:=by
    intro X hP hw hK hc i pins s σ H E I hf st hg
    subst hP hw hK
    obtain ⟨xs,x,hq,hx⟩:=hg
    obtain ⟨its,rv,p,hz⟩:=I.tuple hq
    obtain ⟨u,hu,ru⟩:=rv.get hx
    obtain ⟨f0,f1,f2,f3,f4,f5⟩:=hf it (by simp)
    refine wpAny_pyNext_tuple_item st (show s.heap.IsTuple a its.toArray from p) (x:=u) (by simpa using hu) fun h' st' sb=>?_
    have I1 : Inv X pins σ H { s with heap:=h' }:=I.turned (t':=s.toks) (fun b o hb e=>(sb.2 b hb).trans e) f0 f1 f3 f4 f5
    obtain ⟨o,e,c,d⟩:=id st'
    exact ⟨u,rfl,go_of (s:={ s with heap:=h' }) e c d (by decide) ⟨x,H,I1,ru,⟨rfl,fun ys hy=>by rw [I.tuple_inj hy hq];exact hx⟩,st',fun b hb=>(hf b hb).1⟩⟩
  done:=by
    intro X hP hw hK hc i pins s σ H E I hf st hg
    subst hP hw hK
    obtain ⟨xs,hq,hx⟩:=hg
    obtain ⟨its,rv,p,hz⟩:=I.tuple hq
    obtain ⟨f0,f1,f2,f3,f4,f5⟩:=hf it (by simp)
    have hl:=rv.length
    exact wpAny_pyNext_tuple_end (I.ok.hd hc) st (show s.heap.IsTuple a its.toArray from p) (by simp;omega) fun h' eb=>⟨rfl,I.turned (t':=s.toks) (fun b o hb e=>eb b o hb e) f0 f1 f3 f4 f5⟩
  self:=fun _ _ _ _ _ st h=>wpAny_pyIter_tupleiter st h
theorem turn_range {P : Program} {w : World} {K : PySem.W.Frag} {tg : Expr} (it : Addr) (lo : Int) (n : Nat) : Turn P w K tg (Itr lo n) [it] it (fun i h => IsRangeIter h it (lo + (i : Nat) * 1) ((n : Int) - (i : Nat)) 1) where
  mem:=by simp
  obj:=fun i h st b hb=>by
    have e : b = it:=by simpa using hb
    subst e
    exact ⟨_,st,fun v z=>by
      have z' : Data.fields _ = Data.cell v:=z
      cases z'⟩
  keep:=fun i h h' st k=>k it (by simp) _ st
  item:=by
    intro X hP hw hK hc i pins s σ H E I hf st hg
    subst hP hw hK
    obtain ⟨f0,f1,f2,f3,f4,f5⟩:=hf it (by simp)
    have W:=Walks.range (prog:=X.prog) (w:=X.w) (I.ok.hd hc) it lo 1 n
    refine W.item i s _ _ hg st fun v h' tk hv st' kk=>?_
    obtain ⟨t,rfl⟩:=hv
    have I1 : Inv X pins σ H { s with heap:=h',toks:=tk }:=I.turned (fun b o hb e=>kk b o (by simpa using hb) e) f0 f1 f3 f4 f5
    refine ⟨_,rfl,go_of (s:={ s with heap:=h',toks:=tk }) (n:="range_iterator") st' rfl rfl (by decide) ⟨.int (lo + i),H,I1,⟨t,?_⟩,⟨rfl,rfl⟩,st',fun b hb=>(hf b hb).1⟩⟩
    rw [Int.mul_one]
  done:=by
    intro X hP hw hK hc i pins s σ H E I hf st hg
    subst hP hw hK
    obtain ⟨f0,f1,f2,f3,f4,f5⟩:=hf it (by simp)
    exact wpAny_pyNext_range_end (I.ok.hd hc) st (by have : n≤i:=hg;omega) fun h' eb=>⟨rfl,I.turned (t':=s.toks) (fun b o hb e=>eb b o hb e) f0 f1 f3 f4 f5⟩
  self:=fun _ _ _ _ _ st h=>wpAny_pyIter_rangeiter st h
end L2
namespace L2
open PySem PySem.Spec PyProof.Rows
section
variable {X : Cx} {tg : Expr}
def iList (K : PySem.W.Frag) (tl : TE) : TI:=fun σ H R=>tl σ H fun x H1=>∃ a,x = .ref a∧(∃ xs,SqL K H1 a xs)∧R (Itl K a) H1
def iTup (K : PySem.W.Frag) (tl : TE) : TI:=fun σ H R=>tl σ H fun x H1=>∃ a,x = .ref a∧(∃ xs,SqT K H1 a xs)∧R (Itt K a) H1
theorem pi_list {l : Expr} {tl : TE} (hl : PE X l tl) : PI X tg l (iList X.K tl):=by
  intro pins s σ H R I h
  refine thn (hl pins s σ H _ I h) fun v s1 ⟨x,H1,I1,r1,q1⟩=>?_
  obtain ⟨a,e,⟨xs,hq⟩,q⟩:=q1
  subst e
  cases r1
  obtain ⟨its,rv,p,hz⟩:=I1.list hq
  refine wpAny_pyIter_list p.isList ?_
  refine ⟨s1.heap.objs.size,[s1.heap.objs.size],_,_,H1,rfl,I1.kept (t':=s1.toks) fun b o e=>Heap.get?_push_of_some _ e,turn_list a _,⟨_,Heap.get?_push_size _ rfl,rfl,rfl⟩,fun b hb=>?_,q⟩
  have e : b = s1.heap.objs.size:=by simpa using hb
  subst e
  exact I1.fpOk (Nat.le_refl _) (I1.hok.fresh (Nat.le_refl _))
theorem pi_tup {l : Expr} {tl : TE} (hl : PE X l tl) : PI X tg l (iTup X.K tl):=by
  intro pins s σ H R I h
  refine thn (hl pins s σ H _ I h) fun v s1 ⟨x,H1,I1,r1,q1⟩=>?_
  obtain ⟨a,e,⟨xs,hq⟩,q⟩:=q1
  subst e
  cases r1
  obtain ⟨its,rv,p,hz⟩:=I1.tuple hq
  refine wpAny_pyIter_tuple (show s1.heap.IsTuple a its.toArray from p) ?_
  refine ⟨s1.heap.objs.size,[s1.heap.objs.size],_,_,H1,rfl,I1.kept (t':=s1.toks) fun b o e=>Heap.get?_push_of_some _ e,turn_tuple a _,⟨_,Heap.get?_push_size _ rfl,rfl,rfl⟩,fun b hb=>?_,q⟩
  have e : b = s1.heap.objs.size:=by simpa using hb
  subst e
  exact I1.fpOk (Nat.le_refl _) (I1.hok.fresh (Nat.le_refl _))
theorem range_it {pins : List (Addr × Obj)} {σ : St} {H : Hp} {s : Shared} {R : It→Hp→Prop} {E : Value→Shared→Prop} {lo hi : Int} {t u v : Tok} {tk : Nat} (I : Inv X pins σ H s) (h1 : -(2 ^ 62)≤lo) (h2 : lo < 2 ^ 62) (h3 : -(2 ^ 62)≤hi) (h4 : hi < 2 ^ 62)
    (q : R (Itr lo (hi - lo).toNat) H) : wpAny (model X.prog X.w) X.A (pyIter (.ref s.heap.objs.size)) (PIE X pins σ tg R) E { s with heap:=s.heap.push { cls:=.type "range",data:=.fields #[.int lo t,.int hi u,.int 1 v] },toks:=tk }:=by
  refine wpAny_pyIter_range (IsRange.new ..) (small_one h1 h2 h3 h4) ?_
  have I1 : Inv X pins σ H { s with heap:=s.heap.push { cls:=.type "range",data:=.fields #[.int lo t,.int hi u,.int 1 v] },toks:=tk }:=I.kept fun b o e=>Heap.get?_push_of_some _ e
  refine ⟨(s.heap.push { cls:=.type "range",data:=.fields #[.int lo t,.int hi u,.int 1 v] }).objs.size,[(s.heap.push { cls:=.type "range",data:=.fields #[.int lo t,.int hi u,.int 1 v] }).objs.size],_,_,H,rfl,
    I1.kept (t':=tk) fun b o e=>Heap.get?_push_of_some _ e,turn_range _ lo (hi - lo).toNat,?_,fun b hb=>?_,q⟩
  · have e1 : lo + ((0 : Nat) : Int) * 1 = lo:=by simp
    have e2 : (((hi - lo).toNat : Nat) : Int) - ((0 : Nat) : Int) = Builtin.Range.rangeSize lo hi 1:=by rw [rangeSize_one];split <;> omega
    show IsRangeIter _ _ (lo + ((0 : Nat) : Int) * 1) ((((hi - lo).toNat : Nat) : Int) - ((0 : Nat) : Int)) 1
    rw [e1,e2]
    exact Heap.get?_push_size _ rfl
  · have e : b = (s.heap.push { cls:=.type "range",data:=.fields #[.int lo t,.int hi u,.int 1 v] }).objs.size:=by simpa using hb
    subst e
    exact I1.fpOk (Nat.le_refl _) (I1.hok.fresh (Nat.le_refl _))
def iRng1 (ta : TA) : TI:=fun σ H R=>ta σ H fun vs H1=>∃ j : Int,vs = [.int j]∧-(2 ^ 62)≤j∧j < 2 ^ 62∧R (Itr 0 j.toNat) H1
def iRng2 (ta : TA) : TI:=fun σ H R=>ta σ H fun vs H1=>∃ i j : Int,vs = [.int i,.int j]∧(-(2 ^ 62)≤i∧i < 2 ^ 62∧-(2 ^ 62)≤j∧j < 2 ^ 62)∧R (Itr i (j - i).toNat) H1
theorem pi_range1 {a : Expr} {ta : TA} {p pos : Pos} (hg : Gl X "range") (hm : X.mg "range" = none) (ha : PA X [a] ta) (hs : starEach [a] X.env = [(false,eval a X.env)]:=by rfl) : PI X tg (.Call (.Name "range" p) [a] [] pos) (iRng1 ta):=by
  intro pins s σ H R I h
  refine Call_ (ld_blt I hg hm boot_range (PyProof.Rows.callWith_type1 (thn (ha pos pins s σ H _ I h) fun us s1 ⟨vs,H1,I1,r1,q1⟩=>?_) hs rfl))
  obtain ⟨j,e,q1,q2,q⟩:=q1
  subst e
  cases r1 with
  | cons r rr =>
    cases rr
    obtain ⟨t,rfl⟩:=r
    exact call_range_1 (range_it I1 (by omega) (by omega) q1 q2 (by simpa using q))
theorem pi_range2 {a b : Expr} {ta : TA} {p pos : Pos} (hg : Gl X "range") (hm : X.mg "range" = none) (ha : PA X [a, b] ta) (hs : starEach [a, b] X.env = [(false, eval a X.env), (false, eval b X.env)] := by rfl) (hs2 : starEach [b] X.env = [(false, eval b X.env)] := by rfl) :
    PI X tg (.Call (.Name "range" p) [a,b] [] pos) (iRng2 ta):=by
  intro pins s σ H R I h
  refine Call_ (ld_blt I hg hm boot_range (PyProof.Rows.callWith_type1 (thn (ha pos pins s σ H _ I h) fun us s1 ⟨vs,H1,I1,r1,q1⟩=>?_) (by rw [hs,hs2]) (by rw [hs2];rfl)))
  obtain ⟨i,j,e,⟨q1,q2,q3,q4⟩,q⟩:=q1
  subst e
  cases r1 with
  | cons r rr =>
    cases rr with
    | cons r' rr =>
      cases rr
      obtain ⟨t,rfl⟩:=r
      obtain ⟨t',rfl⟩:=r'
      exact call_range_2 (range_it I1 q1 q2 q3 q4 q)
def tFor (wi : TI) (g : TG) (tb : TS) : TS:=fun D σ H=>wi σ H fun J H1=>∃ W : Nat→Nat→St→Hp→Prop,(∃ m,W 0 m σ H1)∧∀ i m σ H,W i m σ H →
  (J.stop i H∧D.nx σ H)∨(J.go i H∧∃ N : St→Hp→Prop,(∀ σ' H',N σ' H'→∃ m',m' < m∧W (i + 1) m' σ' H')∧∀ x H',J.yld i H x H'→g x σ H' fun σ2 H2=>tb { D with nx:=N,ct:=N,bk:=D.nx } σ2 H2)
def pinsAt (fp : List Addr) (h : Heap) : List (Addr × Obj):=fp.filterMap fun b=>(h.get? b).map fun o=>(b,o)
theorem mem_pinsAt {fp : List Addr} {h : Heap} {b : Addr} {o : Obj} (hb : b∈fp) (e : h.get? b = some o) : (b,o)∈pinsAt fp h:=List.mem_filterMap.mpr ⟨b,hb,by rw [e];rfl⟩
theorem of_pinsAt {fp : List Addr} {h : Heap} {p : Addr × Obj} (hp : p∈pinsAt fp h) : p.1∈fp∧h.get? p.1 = some p.2:=by
  obtain ⟨b,hb,e⟩:=List.mem_filterMap.mp hp
  cases q : h.get? b with
  | none=>rw [q] at e;cases e
  | some o =>
    rw [q] at e
    have e' : (b,o) = p:=Option.some.inj e
    subst e'
    exact ⟨hb,q⟩
theorem Inv.pinned {pins : List (Addr × Obj)} {σ : St} {H : Hp} {s : Shared} {fp : List Addr} (I : Inv X pins σ H s) (hf : ∀ b∈fp,FpOk X pins H b) (ho : ∀ b∈fp,∃ o,s.heap.get? b = some o∧∀ v,o.data≠.cell v) : Inv X (pins++pinsAt fp s.heap) σ H s :=
  I.pins_of fun p hp=>(List.mem_append.mp hp).elim (fun z=>I.pin p (List.mem_append_right _ z)) fun z=>by
    obtain ⟨hb,e⟩:=of_pinsAt z
    obtain ⟨f0,f1,f2,_⟩:=hf p.1 hb
    obtain ⟨o,e',d⟩:=ho p.1 hb
    rw [e] at e';cases e'
    exact ⟨e,f0,f1,f2,d⟩
theorem Inv.unpinned {pins pl : List (Addr × Obj)} {σ : St} {H : Hp} {s : Shared} (I : Inv X (pins++pl) σ H s) : Inv X pins σ H s:=I.pins_of fun p hp=>I.pin p (List.mem_append_right _ (List.mem_append_left _ hp))
theorem ps_for {iter : Expr} {body : List Stmt} {wi : TI} {g : TG} {tb : TS} {pos : Pos} (hp : PassesOwn (model X.prog X.w) X.A X.env X.xe) (hc : X.calm = true) (hi : PI X tg iter wi) (hg : PG X tg g) (hb : PSs X body tb)
    (hs : ∀ x,foldedSetIterable iter X.env x = pure x:=by intro _;rfl) : PS X (.For tg iter body [] pos) (tFor wi g tb):=by
  intro pins s σ H D I h
  refine wpAny_For (thn (hi pins s σ H _ I h) fun v s1 h1=>thn h1 fun itv s2 h2=>?_) hs
  obtain ⟨it,fp,tn,J,H2,e,I2,T,st2,f2,W,⟨m0,w0⟩,turn⟩:=h2
  subst e
  have stat : ∀ {H' : Hp},(∀ b∈fp,H' b = none)→∀ b∈fp,FpOk X pins H' b:=fun hn b hb=>⟨hn b hb,(f2 b hb).2⟩
  refine codeAny_forLoop_any (fun n s'=>∃ i σ' H',Inv X pins σ' H' s'∧tn i s'.heap∧(∀ b∈fp,H' b = none)∧W i n σ' H') ?_ m0 ⟨0,σ,H2,I2,st2,fun b hb=>(f2 b hb).1,w0⟩
  rintro n s3 ⟨i,σ3,H3,I3,st3,fr3,w3⟩
  rcases turn i n σ3 H3 w3 with ⟨stop,qn⟩ | ⟨go,N,hN,step⟩
  · refine wpAny_passesOwn hp (thn (T.done X rfl rfl rfl hc i pins s3 σ3 H3 X.xe I3 (stat fr3) st3 stop) fun r s4 ⟨hr,I4⟩=>?_)
    subst hr
    exact wpAny_execs_nil ⟨σ3,H3,I4,qn⟩
  · refine wpAny_passesOwn hp (thn (T.item X rfl rfl rfl hc i pins s3 σ3 H3 X.xe I3 (stat fr3) st3 go) fun r s4 ⟨u,hr,h4⟩=>?_)
    subst hr
    refine wpAny_passesOwn hp (thn h4 fun _ s5 ⟨x,H5,I5,r5,y5,st5,fr5⟩=>?_)
    have I5':=I5.pinned (stat fr5) (T.obj _ _ st5)
    refine wpAny_passesOwn hp (thn (hg _ s5 σ3 H5 x u _ I5' r5 (step x H5 y5)) fun _ s6 ⟨σ6,H6,I6,q6⟩=>?_)
    refine wpAny_passesOwn hp (thn (hb _ s6 σ6 H6 _ I6 q6) fun f s7 q7=>?_)
    have again : ∀ {σ7 : St} {H7 : Hp},Inv X (pins++pinsAt fp s5.heap) σ7 H7 s7→N σ7 H7→∃ m,m < n∧∃ i σ' H',Inv X pins σ' H' s7∧tn i s7.heap∧(∀ b∈fp,H' b = none)∧W i m σ' H':=fun {σ7 H7} I7 n7=>by
      obtain ⟨m',hm,w7⟩:=hN σ7 H7 n7
      refine ⟨m',hm,i + 1,σ7,H7,I7.unpinned,T.keep _ _ _ st5 fun b hb o e=>(I7.pin (b,o) (List.mem_append_right _ (List.mem_append_right _ (mem_pinsAt hb e)))).1,fun b hb=>?_,w7⟩
      obtain ⟨o,e,d⟩:=T.obj _ _ st5 b hb
      exact (I7.pin (b,o) (List.mem_append_right _ (List.mem_append_right _ (mem_pinsAt hb e)))).2.1
    cases f with
    | next=>obtain ⟨σ7,H7,I7,n7⟩:=q7;exact again I7 n7
    | cont=>obtain ⟨σ7,H7,I7,n7⟩:=q7;exact again I7 n7
    | brk=>obtain ⟨σ7,H7,I7,q7⟩:=q7;exact ⟨σ7,H7,I7.unpinned,q7⟩
    | ret v=>obtain ⟨x7,σ7,H7,I7,r7,q7⟩:=q7;exact ⟨x7,σ7,H7,I7.unpinned,r7,q7⟩
end
theorem for_list {K : PySem.W.Frag} {a : Addr} {xs : List V} {g : TG} {tb : TS} {D : Ends} {σ : St} {H : Hp} (Pv : Nat → St → Hp → Prop) (h0 : Pv 0 σ H) (hl : ∀ i σ H, i ≤ xs.length → Pv i σ H → SqL K H a xs)
    (hs : ∀ i x σ H,xs[i]? = some x→Pv i σ H→g x σ H fun σ2 H2=>tb { D with nx:=Pv (i + 1),ct:=Pv (i + 1),bk:=D.nx } σ2 H2) (hd : ∀ σ H,Pv xs.length σ H→D.nx σ H) :
    ∃ W : Nat→Nat→St→Hp→Prop,(∃ m,W 0 m σ H)∧∀ i m σ H,W i m σ H →
      ((Itl K a).stop i H∧D.nx σ H)∨((Itl K a).go i H∧∃ N : St→Hp→Prop,(∀ σ' H',N σ' H'→∃ m',m' < m∧W (i + 1) m' σ' H')∧∀ x H',(Itl K a).yld i H x H'→g x σ H' fun σ2 H2=>tb { D with nx:=N,ct:=N,bk:=D.nx } σ2 H2):=by
  refine ⟨fun i m σ H=>m = xs.length - i∧i≤xs.length∧Pv i σ H,⟨xs.length,by simp,Nat.zero_le _,h0⟩,?_⟩
  rintro i m σ H ⟨rfl,hi,p⟩
  have q:=hl i σ H hi p
  by_cases hlt : i < xs.length
  · refine .inr ⟨⟨xs,xs[i],q,by simp [hlt]⟩,Pv (i + 1),fun σ' H' p'=>⟨xs.length - (i + 1),by omega,rfl,hlt,p'⟩,fun x H' y=>?_⟩
    obtain ⟨e,y⟩:=y
    subst e
    exact hs i x σ _ (y xs q) p
  · have e : i = xs.length:=by omega
    subst e
    exact .inl ⟨⟨xs,q,Nat.le_refl _⟩,hd σ H p⟩
theorem for_tup {K : PySem.W.Frag} {a : Addr} {xs : List V} {g : TG} {tb : TS} {D : Ends} {σ : St} {H : Hp} (Pv : Nat → St → Hp → Prop) (h0 : Pv 0 σ H) (hl : ∀ i σ H, i ≤ xs.length → Pv i σ H → SqT K H a xs)
    (hs : ∀ i x σ H,xs[i]? = some x→Pv i σ H→g x σ H fun σ2 H2=>tb { D with nx:=Pv (i + 1),ct:=Pv (i + 1),bk:=D.nx } σ2 H2) (hd : ∀ σ H,Pv xs.length σ H→D.nx σ H) :
    ∃ W : Nat→Nat→St→Hp→Prop,(∃ m,W 0 m σ H)∧∀ i m σ H,W i m σ H →
      ((Itt K a).stop i H∧D.nx σ H)∨((Itt K a).go i H∧∃ N : St→Hp→Prop,(∀ σ' H',N σ' H'→∃ m',m' < m∧W (i + 1) m' σ' H')∧∀ x H',(Itt K a).yld i H x H'→g x σ H' fun σ2 H2=>tb { D with nx:=N,ct:=N,bk:=D.nx } σ2 H2):=by
  refine ⟨fun i m σ H=>m = xs.length - i∧i≤xs.length∧Pv i σ H,⟨xs.length,by simp,Nat.zero_le _,h0⟩,?_⟩
  rintro i m σ H ⟨rfl,hi,p⟩
  have q:=hl i σ H hi p
  by_cases hlt : i < xs.length
  · refine .inr ⟨⟨xs,xs[i],q,by simp [hlt]⟩,Pv (i + 1),fun σ' H' p'=>⟨xs.length - (i + 1),by omega,rfl,hlt,p'⟩,fun x H' y=>?_⟩
    obtain ⟨e,y⟩:=y
    subst e
    exact hs i x σ _ (y xs q) p
  · have e : i = xs.length:=by omega
    subst e
    exact .inl ⟨⟨xs,q,Nat.le_refl _⟩,hd σ H p⟩
theorem for_range {lo : Int} {n : Nat} {g : TG} {tb : TS} {D : Ends} {σ : St} {H : Hp} (Pv : Nat → St → Hp → Prop) (h0 : Pv 0 σ H)
    (hs : ∀ i σ H,i < n→Pv i σ H→g (.int (lo + i)) σ H fun σ2 H2=>tb { D with nx:=Pv (i + 1),ct:=Pv (i + 1),bk:=D.nx } σ2 H2) (hd : ∀ σ H,Pv n σ H→D.nx σ H) :
    ∃ W : Nat→Nat→St→Hp→Prop,(∃ m,W 0 m σ H)∧∀ i m σ H,W i m σ H →
      ((Itr lo n).stop i H∧D.nx σ H)∨((Itr lo n).go i H∧∃ N : St→Hp→Prop,(∀ σ' H',N σ' H'→∃ m',m' < m∧W (i + 1) m' σ' H')∧∀ x H',(Itr lo n).yld i H x H'→g x σ H' fun σ2 H2=>tb { D with nx:=N,ct:=N,bk:=D.nx } σ2 H2):=by
  refine ⟨fun i m σ H=>m = n - i∧i≤n∧Pv i σ H,⟨n,by simp,Nat.zero_le _,h0⟩,?_⟩
  rintro i m σ H ⟨rfl,hi,p⟩
  by_cases hlt : i < n
  · refine .inr ⟨hlt,Pv (i + 1),fun σ' H' p'=>⟨n - (i + 1),by omega,rfl,hlt,p'⟩,fun x H' y=>?_⟩
    obtain ⟨e,y⟩:=y
    subst e y
    exact hs i σ _ hlt p
  · have e : i = n:=by omega
    subst e
    exact .inl ⟨Nat.le_refl _,hd σ H p⟩
end L2
namespace L2
open PySem PySem.Spec PyProof.Rows
abbrev R2:=V→V→Hp→VK→Prop
def OpR (X : Cx) (f : Value→Value→Sem Value) (r : R2) : Prop :=
  ∀ (pins : List (Addr × Obj)) (s : Shared) (σ : St) (H : Hp) (x y : V) (v u : Value) (Q : VK),Inv X pins σ H s→RelV x v→RelV y u→r x y H Q →
    wpAny (model X.prog X.w) X.A (f v u) (EP X pins σ Q) X.xe s
def UnR (X : Cx) (f : Value→Sem Value) (r : V→Hp→VK→Prop) : Prop :=
  ∀ (pins : List (Addr × Obj)) (s : Shared) (σ : St) (H : Hp) (x : V) (v : Value) (Q : VK),Inv X pins σ H s→RelV x v→r x H Q →
    wpAny (model X.prog X.w) X.A (f v) (EP X pins σ Q) X.xe s
def CallR (X : Cx) (f : Value) (r : List V→Hp→VK→Prop) : Prop :=
  ∀ (pins : List (Addr × Obj)) (s : Shared) (σ : St) (H : Hp) (xs : List V) (us : List Value) (Q : VK),Inv X pins σ H s→Vals xs us→r xs H Q →
    wpAny (model X.prog X.w) X.A (call f us) (EP X pins σ Q) X.xe s
def tOp (r : R2) (ta tb : TE) : TE:=fun σ H Q=>ta σ H fun x H1=>tb σ H1 fun y H2=>r x y H2 Q
def tUn (r : V→Hp→VK→Prop) (ta : TE) : TE:=fun σ H Q=>ta σ H fun x H1=>r x H1 Q
def rI (C : Int→Int→Prop) (g : Int→Int→V) : R2:=fun x y H Q=>∃ i j,x = .int i∧y = .int j∧C i j∧Q (g i j) H
def rI0 (g : Int→Int→V) : R2:=fun x y H Q=>∃ i j,x = .int i∧y = .int j∧Q (g i j) H
def rU (g : Int→V) : V→Hp→VK→Prop:=fun x H Q=>∃ i,x = .int i∧Q (g i) H
section
variable {X : Cx} {a b c : Expr} {ta tb tc : TE} {pos : Pos}
theorem binT (ha : PE X a ta) (hb : PE X b tb) {pins : List (Addr × Obj)} {s : Shared} {σ : St} {H : Hp} {R : V→V→Hp→Prop} (I : Inv X pins σ H s)
    (h : ta σ H fun x H1=>tb σ H1 fun y H2=>R x y H2) {Q : Value→Shared→Prop} {f : Value→Value→Sem Value}
    (hf : ∀ v u s2 x y H2,Inv X pins σ H2 s2→RelV x v→RelV y u→R x y H2→wpAny (model X.prog X.w) X.A (f v u) Q X.xe s2) :
    wpAny (model X.prog X.w) X.A (eval a X.env) (fun v s₁=>wpAny (model X.prog X.w) X.A (eval b X.env) (fun u s₂=>wpAny (model X.prog X.w) X.A (f v u) Q X.xe s₂) X.xe s₁) X.xe s:=by
  refine thn (ha pins s σ H _ I h) fun v s1 ⟨x,H1,I1,r1,q1⟩=>?_
  refine thn (hb pins s1 σ H1 _ I1 q1) fun u s2 ⟨y,H2,I2,r2,q2⟩=>?_
  exact hf v u s2 x y H2 I2 r1 r2 q2
theorem pe_op {op : Operator} {r : R2} (ho : OpR X (binaryOp op) r) (ha : PE X a ta) (hb : PE X b tb) : PE X (.BinOp a op b pos) (tOp r ta tb):=by
  intro pins s σ H Q I h
  exact wpAny_BinOp (binT ha hb I h fun v u s2 x y H2 I2 rx ry q=>ho pins s2 σ H2 x y v u Q I2 rx ry q)
theorem pe_un {op : UnaryOp} {r : V→Hp→VK→Prop} (ho : UnR X (unaryOp op) r) (ha : PE X a ta) : PE X (.UnaryOp op a pos) (tUn r ta):=by
  intro pins s σ H Q I h
  exact UnaryOp_ (thn (ha pins s σ H _ I h) fun v s1 ⟨x,H1,I1,r1,q1⟩=>ho pins s1 σ H1 x v Q I1 r1 q1)
theorem opI {f : Value→Value→Sem Value} {C : Int→Int→Prop} {g : Int→Int→Int}
    (rule : ∀ (i j : Int) (t u : Tok) (s : Shared) (Q : Value→Shared→Prop) (E : Value→Shared→Prop),C i j→Q (.int (g i j) s.toks) { s with toks:=s.toks + 1 }→wpAny (model X.prog X.w) X.A (f (.int i t) (.int j u)) Q E s) :
    OpR X f (rI C fun i j=>.int (g i j)):=by
  intro pins s σ H x y v u Q I rx ry h
  obtain ⟨i,j,rfl,rfl,hc,q⟩:=h
  obtain ⟨t,rfl⟩:=rx
  obtain ⟨t',rfl⟩:=ry
  exact rule i j t t' s _ _ hc ⟨.int (g i j),H,I.tok _,⟨_,rfl⟩,q⟩
theorem opI0 {f : Value→Value→Sem Value} {g : Int→Int→Int}
    (rule : ∀ (i j : Int) (t u : Tok) (s : Shared) (Q : Value→Shared→Prop) (E : Value→Shared→Prop),Q (.int (g i j) s.toks) { s with toks:=s.toks + 1 }→wpAny (model X.prog X.w) X.A (f (.int i t) (.int j u)) Q E s) :
    OpR X f (rI0 fun i j=>.int (g i j)):=by
  intro pins s σ H x y v u Q I rx ry h
  obtain ⟨i,j,rfl,rfl,q⟩:=h
  obtain ⟨t,rfl⟩:=rx
  obtain ⟨t',rfl⟩:=ry
  exact rule i j t t' s _ _ ⟨.int (g i j),H,I.tok _,⟨_,rfl⟩,q⟩
theorem opB0 {f : Value→Value→Sem Value} {g : Int→Int→Bool}
    (rule : ∀ (i j : Int) (t u : Tok) (s : Shared) (Q : Value→Shared→Prop) (E : Value→Shared→Prop),Q (.bool (g i j)) s→wpAny (model X.prog X.w) X.A (f (.int i t) (.int j u)) Q E s) :
    OpR X f (rI0 fun i j=>.bl (g i j)):=by
  intro pins s σ H x y v u Q I rx ry h
  obtain ⟨i,j,rfl,rfl,q⟩:=h
  obtain ⟨t,rfl⟩:=rx
  obtain ⟨t',rfl⟩:=ry
  exact rule i j t t' s _ _ ⟨.bl (g i j),H,I,rfl,q⟩
def CDiv (i j : Int) : Prop:=0 < j∧j < 1073741824
def CPow (i j : Int) : Prop:=0≤j∧j≤1000000∧i.natAbs < 2 ^ 64
def CMul (i j : Int) : Prop:=(-(2 ^ 64) < i∧i < 2 ^ 64)∨(-(2 ^ 64) < j∧j < 2 ^ 64)
theorem CMul.ok {i j : Int} (h : CMul i j) : IntMulOk i j:=by
  rcases h with ⟨h1,h2⟩ | ⟨h1,h2⟩
  · exact .of_left (intBits_le_64 h1 h2)
  · exact .of_right (intBits_le_64 h1 h2)
theorem op_add : OpR X (binaryOp .Add) (rI0 fun i j=>.int (i + j)):=opI0 fun _ _ _ _ _ _ _ q=>add_int q
theorem op_sub : OpR X (binaryOp .Sub) (rI0 fun i j=>.int (i - j)):=opI0 fun _ _ _ _ _ _ _ q=>sub_int q
theorem op_mul : OpR X (binaryOp .Mult) (rI CMul fun i j=>.int (i * j)):=opI fun _ _ _ _ _ _ _ hc q=>mul_int q hc.ok
theorem op_fdiv : OpR X (binaryOp .FloorDiv) (rI CDiv fun i j=>.int (i / j)):=opI fun i j _ _ _ _ _ hc q=>by
  have h1 : (0 : Int) < j:=hc.1
  have h2 : j < 1073741824:=hc.2
  exact floordiv_int (by omega) (by rw [Int.fdiv_eq_ediv_of_nonneg i (by omega)];exact q) (.inl (PyProof.noPylong_small (by omega)))
theorem op_mod : OpR X (binaryOp .Mod) (rI (fun _ j=>0 < j) fun i j=>.int (i % j)):=opI fun i j _ _ _ _ _ hc q=>by
  have h1 : (0 : Int) < j:=hc
  exact mod_int' (by omega) (by rw [Int.fmod_eq_emod_of_nonneg i (by omega)];exact q)
theorem op_pow : OpR X (binaryOp .Pow) (rI CPow fun i j=>.int (i ^ j.toNat)):=opI fun _ _ _ _ _ _ _ hc q=>pow_int_small hc.1 hc.2.1 hc.2.2 q
theorem unI {f : Value→Sem Value} {g : Int→Int}
    (rule : ∀ (i : Int) (t : Tok) (s : Shared) (Q : Value→Shared→Prop) (E : Value→Shared→Prop),Q (.int (g i) s.toks) { s with toks:=s.toks + 1 }→wpAny (model X.prog X.w) X.A (f (.int i t)) Q E s) :
    UnR X f (rU fun i=>.int (g i)):=by
  intro pins s σ H x v Q I rx h
  obtain ⟨i,rfl,q⟩:=h
  obtain ⟨t,rfl⟩:=rx
  exact rule i t s _ _ ⟨.int (g i),H,I.tok _,⟨_,rfl⟩,q⟩
theorem un_neg : UnR X (unaryOp .USub) (rU fun i=>.int (-i)):=unI fun _ _ _ _ _ q=>neg_int q
end
def scal : V→V→Bool
  | .non,.non=>true | .non,.int _=>true | .int _,.non=>true | .non,.bl _=>true | .bl _,.non=>true | .non,.str _=>true | .str _,.non=>true
  | .int _,.int _=>true | .bl _,.bl _=>true | .str _,.str _=>true | .byt _,.byt _=>true
  | .int _,.str _=>true | .str _,.int _=>true | .bl _,.str _=>true | .str _,.bl _=>true
  | _,_=>false
def rEq : R2:=fun x y H Q=>scal x y = true∧Q (.bl (decide (x = y))) H
def rNe : R2:=fun x y H Q=>scal x y = true∧Q (.bl (!decide (x = y))) H
theorem dec_int {i j : Int} : decide (V.int i = V.int j) = (i == j):=by
  rw [Bool.eq_iff_iff]
  simp
theorem dec_bl {i j : Bool} : decide (V.bl i = V.bl j) = (i == j):=by
  rw [Bool.eq_iff_iff]
  simp
theorem dec_str {i j : Str} : decide (V.str i = V.str j) = (i == j):=by
  rw [Bool.eq_iff_iff]
  simp
theorem dec_byt {i j : Array UInt8} : decide (V.byt i = V.byt j) = (i.toList == j.toList):=by
  rw [Bool.eq_iff_iff]
  cases i
  cases j
  simp
section
variable {X : Cx} {a b c : Expr} {ta tb tc : TE} {pos : Pos}
theorem fin_bl {pins : List (Addr × Obj)} {σ : St} {H : Hp} {s : Shared} {Q : VK} {k k' : Bool} (I : Inv X pins σ H s) (q : Q (.bl k) H) (e : k = k') : EP X pins σ Q (.bool k') s:=by
  subst e
  exact ⟨.bl k,H,I,rfl,q⟩
theorem op_eq : OpR X (compareOp .Eq) rEq:=by
  intro pins s σ H x y v u Q I rx ry h
  obtain ⟨hs,q⟩:=h
  cases x with
  | non =>
    cases rx
    cases y with
    | non=>cases ry;exact PySem.EqNone.eq_none_none (fin_bl I q (by simp))
    | bl j=>cases ry;exact PySem.EqNone.eq_none_bool (fin_bl I q (by simp))
    | int j=>obtain ⟨t',rfl⟩:=ry;exact PySem.EqNone.eq_none_int (fin_bl I q (by simp))
    | str j=>obtain ⟨t',rfl⟩:=ry;exact PySem.EqNone.eq_none_str (fin_bl I q (by simp))
    | _=>exact absurd (show false = true from hs) Bool.false_ne_true
  | bl i =>
    cases rx
    cases y with
    | non=>cases ry;exact PySem.EqNone.eq_bool_none (fin_bl I q (by simp))
    | bl j=>cases ry;exact eq_bool (fin_bl I q dec_bl)
    | str j=>obtain ⟨t',rfl⟩:=ry;exact PySem.EqMixed.eq_bool_str (fin_bl I q (by simp))
    | _=>exact absurd (show false = true from hs) Bool.false_ne_true
  | int i =>
    obtain ⟨t,rfl⟩:=rx
    cases y with
    | non=>cases ry;exact PySem.EqNone.eq_int_none (fin_bl I q (by simp))
    | int j=>obtain ⟨t',rfl⟩:=ry;exact eq_int (fin_bl I q dec_int)
    | str j=>obtain ⟨t',rfl⟩:=ry;exact PySem.EqMixed.eq_int_str (fin_bl I q (by simp))
    | _=>exact absurd (show false = true from hs) Bool.false_ne_true
  | str i =>
    obtain ⟨t,rfl⟩:=rx
    cases y with
    | non=>cases ry;exact PySem.EqNone.eq_str_none (fin_bl I q (by simp))
    | bl j=>cases ry;exact PySem.EqMixed.eq_str_bool (fin_bl I q (by simp))
    | int j=>obtain ⟨t',rfl⟩:=ry;exact PySem.EqMixed.eq_str_int (fin_bl I q (by simp))
    | str j=>obtain ⟨t',rfl⟩:=ry;exact eq_str (fin_bl I q dec_str)
    | _=>exact absurd (show false = true from hs) Bool.false_ne_true
  | byt i =>
    obtain ⟨t,rfl⟩:=rx
    cases y with
    | byt j=>obtain ⟨t',rfl⟩:=ry;exact PySem.W.eq_bytes (fin_bl I q dec_byt)
    | _=>exact absurd (show false = true from hs) Bool.false_ne_true
  | _=>cases y <;> exact absurd (show false = true from hs) Bool.false_ne_true
theorem op_ne : OpR X (compareOp .NotEq) rNe:=by
  intro pins s σ H x y v u Q I rx ry h
  obtain ⟨hs,q⟩:=h
  cases x with
  | non =>
    cases rx
    cases y with
    | non=>cases ry;exact PySem.EqNone.ne_none_none (fin_bl I q (by simp))
    | bl j=>cases ry;exact PySem.EqNone.ne_none_bool (fin_bl I q (by simp))
    | int j=>obtain ⟨t',rfl⟩:=ry;exact PySem.EqNone.ne_none_int (fin_bl I q (by simp))
    | str j=>obtain ⟨t',rfl⟩:=ry;exact PySem.EqNone.ne_none_str (fin_bl I q (by simp))
    | _=>exact absurd (show false = true from hs) Bool.false_ne_true
  | bl i =>
    cases rx
    cases y with
    | non=>cases ry;exact PySem.EqNone.ne_bool_none (fin_bl I q (by simp))
    | bl j=>cases ry;exact ne_bool (fin_bl I q (congrArg not dec_bl))
    | str j=>obtain ⟨t',rfl⟩:=ry;exact PySem.EqMixed.ne_bool_str (fin_bl I q (by simp))
    | _=>exact absurd (show false = true from hs) Bool.false_ne_true
  | int i =>
    obtain ⟨t,rfl⟩:=rx
    cases y with
    | non=>cases ry;exact PySem.EqNone.ne_int_none (fin_bl I q (by simp))
    | int j=>obtain ⟨t',rfl⟩:=ry;exact ne_int (fin_bl I q (congrArg not dec_int))
    | str j=>obtain ⟨t',rfl⟩:=ry;exact PySem.EqMixed.ne_int_str (fin_bl I q (by simp))
    | _=>exact absurd (show false = true from hs) Bool.false_ne_true
  | str i =>
    obtain ⟨t,rfl⟩:=rx
    cases y with
    | non=>cases ry;exact PySem.EqNone.ne_str_none (fin_bl I q (by simp))
    | bl j=>cases ry;exact PySem.EqMixed.ne_str_bool (fin_bl I q (by simp))
    | int j=>obtain ⟨t',rfl⟩:=ry;exact PySem.EqMixed.ne_str_int (fin_bl I q (by simp))
    | str j=>obtain ⟨t',rfl⟩:=ry;exact ne_str (fin_bl I q (congrArg not dec_str))
    | _=>exact absurd (show false = true from hs) Bool.false_ne_true
  | byt i =>
    obtain ⟨t,rfl⟩:=rx
    cases y with
    | byt j=>obtain ⟨t',rfl⟩:=ry;exact PySem.W.ne_bytes (fin_bl I q (congrArg not dec_byt))
    | _=>exact absurd (show false = true from hs) Bool.false_ne_true
  | _=>cases y <;> exact absurd (show false = true from hs) Bool.false_ne_true
theorem op_lt : OpR X (compareOp .Lt) (rI0 fun i j=>.bl (decide (i < j))):=opB0 fun _ _ _ _ _ _ _ q=>lt_int q
theorem op_le : OpR X (compareOp .LtE) (rI0 fun i j=>.bl (decide (i≤j))):=opB0 fun _ _ _ _ _ _ _ q=>le_int q
theorem op_gt : OpR X (compareOp .Gt) (rI0 fun i j=>.bl (decide (j < i))):=opB0 fun _ _ _ _ _ _ _ q=>gt_int q
theorem op_ge : OpR X (compareOp .GtE) (rI0 fun i j=>.bl (decide (j≤i))):=opB0 fun _ _ _ _ _ _ _ q=>ge_int q
theorem op_lt_str : OpR X (compareOp .Lt) (fun x y H Q=>∃ i j,x = .str i∧y = .str j∧Q (.bl (decide (i.cps.toList < j.cps.toList))) H):=by
  intro pins s σ H x y v u Q I rx ry h
  obtain ⟨i,j,rfl,rfl,q⟩:=h
  obtain ⟨t,rfl⟩:=rx
  obtain ⟨t',rfl⟩:=ry
  exact lt_str (fin_bl I q rfl)
theorem op_isN : OpR X (compareOp .Is) (fun x y H Q=>y = .non∧Q (.bl (decide (x = .non))) H):=by
  intro pins s σ H x y v u Q I rx ry h
  obtain ⟨rfl,q⟩:=h
  cases ry
  refine is_none_gen (fin_bl I q ?_)
  cases x <;> first
    | (cases rx;rfl)
    | (obtain ⟨t,rfl⟩:=rx;rfl)
theorem op_notN : OpR X (compareOp .IsNot) (fun x y H Q=>y = .non∧Q (.bl (!decide (x = .non))) H):=by
  intro pins s σ H x y v u Q I rx ry h
  obtain ⟨rfl,q⟩:=h
  cases ry
  refine isnot_none_gen (fin_bl I q ?_)
  cases x <;> first
    | (cases rx;rfl)
    | (obtain ⟨t,rfl⟩:=rx;rfl)
theorem nomark (b : Expr) {op : CmpOp} (h : op≠.In:=by decide) (h2 : op≠.NotIn:=by decide) : behindInMarks op b = false:=by
  have e1 : (op == CmpOp.In) = false:=by cases op <;> first | rfl | exact absurd rfl h
  have e2 : (op == CmpOp.NotIn) = false:=by cases op <;> first | rfl | exact absurd rfl h2
  cases b <;> simp [behindInMarks,e1,e2]
theorem pe_cmpR {op : CmpOp} {r : R2} (ho : OpR X (compareOp op) r) (ha : PE X a ta) (hb : PE X b tb) (hm : behindInMarks op b = false) : PE X (.Compare a [op] [b] pos) (tOp r ta tb):=by
  intro pins s σ H Q I h
  exact wpAny_Compare1 (binT ha hb I h fun v u s2 x y H2 I2 rx ry q=>ho pins s2 σ H2 x y v u Q I2 rx ry q) hm
def tTest (t : TE) : TT:=fun σ H Q=>t σ H fun x H'=>∃ k,x = .bl k∧Q k H'
theorem pt_cmpR {op : CmpOp} {r : R2} (ho : OpR X (compareOp op) r) (ha : PE X a ta) (hb : PE X b tb) (hm : behindInMarks op b = false) : PT X (.Compare a [op] [b] pos) (tTest (tOp r ta tb)):=by
  intro pins s σ H Q I h
  refine wpAny_isTrue_Compare1 (thn (ha pins s σ H _ I h) fun v s1 ⟨x,H1,I1,r1,q1⟩=>thn (hb pins s1 σ H1 _ I1 q1) fun u s2 ⟨y,H2,I2,r2,q2⟩ =>
    thn (ho pins s2 σ H2 x y v u _ I2 r1 r2 q2) fun c s3 ⟨z,H3,I3,r3,k,e,q3⟩=>?_) hm
  subst e
  cases r3
  exact wpAny_truthy_bool ⟨H3,I3,q3⟩
def tChain (r r' : R2) (ta tb tc : TE) : TE:=fun σ H Q=>ta σ H fun x H1=>tb σ H1 fun y H2=>r x y H2 fun z H3=>∃ k,z = .bl k ∧
  (if k = true then tc σ H3 fun w' H4=>r' y w' H4 Q else Q (.bl false) H3)
theorem pe_chain {op op' : CmpOp} {r r' : R2} (ho : OpR X (compareOp op) r) (ho' : OpR X (compareOp op') r') (ha : PE X a ta) (hb : PE X b tb) (hc : PE X c tc)
    (hm : lastMarks [op,op'] [b,c] = false:=by with_unfolding_all rfl) : PE X (.Compare a [op,op'] [b,c] pos) (tChain r r' ta tb tc):=by
  intro pins s σ H Q I h
  refine Compare_chain (thn (ha pins s σ H _ I h) fun v s1 ⟨x,H1,I1,r1,q1⟩=>chain_link (thn (hb pins s1 σ H1 _ I1 q1) fun u s2 ⟨y,H2,I2,r2,q2⟩ =>
    thn (ho pins s2 σ H2 x y v u _ I2 r1 r2 q2) fun d s3 ⟨z,H3,I3,r3,k,e,q3⟩=>?_)) hm
  subst e
  cases r3
  refine wpAny_truthy_bool ?_
  cases k with
  | false=>exact ite_ff ⟨.bl false,H3,I3,rfl,q3⟩
  | true=>exact ite_tt (chain_last (thn (hc pins s3 σ H3 _ I3 q3) fun w' s4 ⟨z',H4,I4,r4,q4⟩=>ho' pins s4 σ H4 y z' u w' Q I4 r2 r4 q4))
theorem line63 : (sizeLine : Nat) < 2 ^ 63:=by rw [sizeLine_eq];decide
theorem op_add_str : OpR X (binaryOp .Add) (fun x y H Q=>∃ i j,x = .str i∧y = .str j∧i.length + j.length≤sizeLine∧Q (.str (i++j)) H):=by
  intro pins s σ H x y v u Q I rx ry h
  obtain ⟨i,j,rfl,rfl,hz,q⟩:=h
  obtain ⟨t,rfl⟩:=rx
  obtain ⟨t',rfl⟩:=ry
  exact add_str (fun t' tk=>⟨.str (i++j),H,I.tok _,⟨_,rfl⟩,q⟩) hz
theorem vals1 {x : V} {us : List Value} (r : Vals [x] us) : ∃ u,us = [u]∧RelV x u:=by
  cases r with
  | cons r1 r2=>cases r2;exact ⟨_,rfl,r1⟩
theorem vals2 {x y : V} {us : List Value} (r : Vals [x,y] us) : ∃ u w',us = [u,w']∧RelV x u∧RelV y w':=by
  cases r with
  | cons r1 r2 =>
    cases r2 with
    | cons r3 r4=>cases r4;exact ⟨_,_,rfl,r1,r3⟩
theorem call_abs : CallR X (.builtin "abs") (fun xs H Q=>∃ i,xs = [.int i]∧Q (.int (if i < 0 then -i else i)) H):=by
  intro pins s σ H xs us Q I r h
  obtain ⟨i,rfl,q⟩:=h
  obtain ⟨u,rfl,t,rfl⟩:=vals1 r
  exact call_abs_int fun u tk=>⟨.int (if i < 0 then -i else i),H,I.tok _,⟨_,rfl⟩,q⟩
theorem call_int1 : CallR X (.type "int") (fun xs H Q=>(∃ i,xs = [.int i]∧Q (.int i) H)∨∃ k,xs = [.bl k]∧Q (.int (if k then 1 else 0)) H):=by
  intro pins s σ H xs us Q I r h
  rcases h with ⟨i,rfl,q⟩ | ⟨k,rfl,q⟩
  · obtain ⟨u,rfl,t,rfl⟩:=vals1 r
    exact call_int_int ⟨.int i,H,I,⟨_,rfl⟩,q⟩
  · obtain ⟨u,rfl,r1⟩:=vals1 r
    cases r1
    exact call_int_bool ⟨.int (if k then 1 else 0),H,I.tok _,⟨_,rfl⟩,q⟩
def LenV (K : PySem.W.Frag) (x : V) (H : Hp) (n : Nat) : Prop :=
  match x with
  | .str y=>y.length≤sizeLine∧n = y.length
  | .byt y=>y.size≤sizeLine∧n = y.size
  | .ref p=>(∃ xs,SqL K H p xs∧n = xs.length)∨∃ xs,SqT K H p xs∧n = xs.length
  | _=>False
theorem call_len : CallR X (.builtin "len") (fun xs H Q => ∃ x n, xs = [x] ∧ LenV X.K x H n ∧ Q (.int n) H) := by
  intro pins s σ H xs us Q I r h
  obtain ⟨x,n,rfl,e,q⟩:=h
  obtain ⟨u,rfl,rx⟩:=vals1 r
  have hl:=line63
  have hs : sizeLine = 16777216:=sizeLine_eq
  cases x with
  | str y =>
    obtain ⟨t,rfl⟩:=rx
    obtain ⟨hy,e'⟩ : y.length≤sizeLine∧n = y.length:=e
    subst e'
    exact len_str (by omega) ⟨.int _,H,I.tok _,⟨_,rfl⟩,q⟩
  | byt y =>
    obtain ⟨t,rfl⟩:=rx
    obtain ⟨hy,e'⟩ : y.size≤sizeLine∧n = y.size:=e
    subst e'
    exact PySem.W.len_bytes (by omega) ⟨.int _,H,I.tok _,⟨_,rfl⟩,q⟩
  | ref p =>
    cases rx
    have e' : (∃ xs,SqL X.K H p xs∧n = xs.length)∨∃ xs,SqT X.K H p xs∧n = xs.length:=e
    rcases e' with ⟨xs,hx,e'⟩ | ⟨xs,hx,e'⟩
    · subst e'
      obtain ⟨its,r',pl,hz⟩:=I.list hx
      have hlen:=r'.length
      exact Calls.call_len_list pl.isList (by simp only [List.size_toArray];omega) ⟨.int xs.length,H,I.tok _,⟨_,by simp only [List.size_toArray];rw [hlen]⟩,q⟩
    · subst e'
      obtain ⟨its,r',pl,hz⟩:=I.tuple hx
      have hlen:=r'.length
      exact len_tuple pl (by simp only [List.size_toArray];omega) ⟨.int xs.length,H,I.tok _,⟨_,by simp only [List.size_toArray];rw [hlen]⟩,q⟩
  | _=>exact (show False from e).elim
end
end L2
namespace L2
open PySem PySem.Spec PyProof.Rows
structure ObjM (h : Heap) (x dx C : Addr) (mA : Str→Option Value) : Prop where
  obj : h.get? x = some (PySem.W.instObj C dx)
  ns : h.Ns1 dx mA
  ne : dx≠x
theorem lookIn_ns {h : Heap} {dx : Addr} {mA : Str → Option Value} (n : h.Ns1 dx mA) : ∃ od, h.get? dx = some od ∧ ∀ name, PySem.W.lookIn name od = some (mA name) := by
  obtain ⟨o,es,ep,ho,hd,hk,_,hm⟩:=n
  refine ⟨o,ho,fun name=>?_⟩
  have e:=hm name
  unfold nsFind findBy at e
  rw [← Array.find?_toList] at e
  unfold PySem.W.lookIn
  rw [hd]
  dsimp only
  split
  · rename_i y q
    rw [q] at e
    exact congrArg some e
  · rename_i q
    rw [q] at e
    have a : es.toList.any (·.refKey) = false:=by
      rw [List.any_eq_false]
      intro y hy
      obtain ⟨z,t,hkey⟩:=hk y (Array.mem_toList_iff.mp hy)
      simp [DictEntry.refKey,hkey]
    have a' : ¬ es.toList.any (·.refKey) = true:=by rw [a];exact Bool.false_ne_true
    rw [if_neg a']
    exact congrArg some e
theorem ObjM.look {h : Heap} {x dx C : Addr} {mA : Str→Option Value} (I : ObjM h x dx C mA) : ∃ od,PySem.W.InstAt h x (PySem.W.instObj C dx) C (some od)∧∀ name,PySem.W.lookIn name od = some (mA name) :=
  let ⟨od,ho,hl⟩:=lookIn_ns I.ns
  ⟨od,⟨I.obj,rfl,rfl,ho⟩,hl⟩
theorem RelO.some_of {v : V} {o : Option Value} (r : RelO (some v) o) : ∃ u,o = some u∧RelV v u:=by
  cases o with
  | none=>exact (show False from r).elim
  | some u=>exact ⟨u,rfl,r⟩
theorem handed_of {v : V} {u : Value} (r : RelV v u) : PySem.W.handedIn u = true:=by
  cases v with
  | non=>cases (show u = Value.none from r);rfl
  | bl b=>cases (show u = Value.bool b from r);rfl
  | int i=>obtain ⟨t,e⟩:=(show ∃ t,u = Value.int i t from r);cases e;rfl
  | str x=>obtain ⟨t,e⟩:=(show ∃ t,u = Value.str x t from r);cases e;rfl
  | byt b=>obtain ⟨t,e⟩:=(show ∃ t,u = Value.bytes b t from r);cases e;rfl
  | flt b=>obtain ⟨t,e⟩:=(show ∃ t,u = Value.float b t from r);cases e;rfl
  | ref a=>cases (show u = Value.ref a from r);rfl
  | ty n=>cases (show u = Value.type n from r);rfl
section
variable {P : Program} {w : World} {H H' : Hp} {h h' : Heap} {a C dx : Addr} {fs fs' : List (Str × V)}
theorem ins_get (hok : HOk P w H h) (e : H a = some (.ins C dx fs)) : ∃ mA,ObjM h a dx C mA∧(∀ f,RelO (fs.lookup f) (mA f))∧PySem.Within mA (fs.map (·.1))∧fs.length≤1000∧H dx = some (.own a):=by
  obtain ⟨d,z,ne,ob,mA,n,r,q⟩:=(show ObjOk P w H h a (.ins C dx fs) from hok a _ e)
  exact ⟨mA,⟨ob,n,ne⟩,r,q,z,d⟩
end
structure Cls (K : PySem.W.Frag) (C : Addr) : Prop where
  pg : PySem.W.plainGet K C Str.empty = true
  hd : PySem.W.hasDictIn K C = true
  po : PySem.W.plainOver K C = true
  sa : PySem.W.findIn K (.ref C) "__setattr__" = some (some (.builtin "object.__setattr__"))
theorem Cls.get {K : PySem.W.Frag} {C : Addr} (c : Cls K C) (f : Str) : PySem.W.plainGet K C f = true:=c.pg
section
variable {X : Cx} {pins : List (Addr × Obj)} {σ : St} {H : Hp} {s : Shared} {a C dx : Addr} {fs : List (Str × V)} {f : Str} {v : V} {A : Around} {E : Value→Shared→Prop}
theorem attr_of {prog : Program} {w : World} {env : Env} {e : Expr} {f : Str} {pos : Pos} {s : Shared} {Q : Value→Shared→Prop} (hb : attributeBase e f env (eval e env) = eval e env)
    (h : wpAny (model prog w) A (eval e env) (fun o s₁=>wpAny (model prog w) A (getAttr o f true) Q E s₁) E s) : wpAny (model prog w) A (eval (.Attribute e f pos) env) Q E s :=
  Attribute_any_ h (by rw [arm_eval_Attribute,hb])
end
section
variable {X : Cx} {pins : List (Addr × Obj)} {σ : St} {H : Hp} {s : Shared} {A : Around} {E : Value→Shared→Prop} {Q : Value→Shared→Prop} {c : Value} {b : Bool}
inductive TyOf (K : PySem.W.Frag) (H : Hp) : V → Value → Prop where
  | non : TyOf K H .non (.type "NoneType")
  | bl (x : Bool) : TyOf K H (.bl x) (.type "bool")
  | int (i : Int) : TyOf K H (.int i) (.type "int")
  | str (x : Str) : TyOf K H (.str x) (.type "str")
  | flt (x : UInt64) : TyOf K H (.flt x) (.type "float")
  | lst {a : Addr} {xs : List V} (e : H a = some (.lst xs)) : TyOf K H (.ref a) (.type "list")
  | frz {a : Addr} {o : Obj} {xs : List V} (e : H a = some (.frz o (.lst xs))) : TyOf K H (.ref a) (.type "list")
  | tup {a : Addr} {xs : List V} (e : H a = some (.tup xs)) : TyOf K H (.ref a) (.type "tuple")
  | dK {a : Addr} {kvs : List (Key × V)} (e : H a = some (.dK kvs)) : TyOf K H (.ref a) (.type "dict")
  | dT {a : Addr} {kvs : List (List Key × V)} (e : H a = some (.dT kvs)) : TyOf K H (.ref a) (.type "dict")
  | ins {a C dx : Addr} {fs : List (Str × V)} (e : H a = some (.ins C dx fs)) (cl : Cls K C) (ha : PySem.W.findIn K (.ref C) "__class__" = some (some (.builtin "object.__class__")))
      (hn : PySem.W.specialIn K (.builtin "object.__class__") "__get__" = some (some (.builtin "getset_descriptor.__get__"))) (htk : PySem.W.takesIn K (.builtin "object.__class__") = some true)
      (hm : PySem.W.mroIn K C (.type "object") = some true) : TyOf K H (.ref a) (.ref C)
theorem isinst_ok {x : V} {u t : Value} (I : Inv X pins σ H s) (rx : RelV x u) (ty : TyOf X.K H x t) (e : PySem.W.kitOne X.K t c = some b) (h : ∀ tk,Q (.bool b) { s with toks:=tk }) :
    wpAny (model X.prog X.w) A (call (.builtin "isinstance") [u,c]) Q E s:=by
  cases ty with
  | non=>cases (show u = Value.none from rx);exact PySem.W.kia_one PySem.W.kitx_none I.kIn True.intro e (fun z=>nomatch z) h
  | bl y=>cases (show u = Value.bool y from rx);exact PySem.W.kia_one PySem.W.kitx_bool I.kIn True.intro e (fun z=>nomatch z) h
  | int i=>obtain ⟨t,q⟩:=(show ∃ t,u = Value.int i t from rx);cases q;exact PySem.W.kia_one PySem.W.kitx_int I.kIn True.intro e (fun z=>nomatch z) h
  | str y=>obtain ⟨t,q⟩:=(show ∃ t,u = Value.str y t from rx);cases q;exact PySem.W.kia_one PySem.W.kitx_str I.kIn True.intro e (fun z=>nomatch z) h
  | flt y=>obtain ⟨t,q⟩:=(show ∃ t,u = Value.float y t from rx);cases q;exact PySem.W.kia_one PySem.W.kitx_float I.kIn True.intro e (fun z=>nomatch z) h
  | @lst a xs ea =>
    cases (show u = Value.ref a from rx)
    obtain ⟨_,_,n,_,h1⟩:=(show ObjOk X.prog X.w H s.heap a (.lst xs) from I.hok a _ ea)
    exact PySem.W.kia_one PySem.W.kitx_list I.kIn ⟨_,h1,rfl⟩ e (fun z=>nomatch z) h
  | @frz a ob xs ea =>
    cases (show u = Value.ref a from rx)
    obtain ⟨_,_,_,n,_,h1⟩:=(show ObjOk X.prog X.w H s.heap a (.frz ob (.lst xs)) from I.hok a _ ea)
    exact PySem.W.kia_one PySem.W.kitx_list I.kIn ⟨_,h1,rfl⟩ e (fun z=>nomatch z) h
  | @tup a xs ea =>
    cases (show u = Value.ref a from rx)
    obtain ⟨_,_,_,p⟩:=(show ObjOk X.prog X.w H s.heap a (.tup xs) from I.hok a _ ea)
    obtain ⟨o,h1,h2,_⟩:=p
    exact PySem.W.kia_one PySem.W.kitx_tuple I.kIn ⟨o,h1,h2⟩ e (fun z=>nomatch z) h
  | @dK a kvs ea =>
    cases (show u = Value.ref a from rx)
    obtain ⟨_,_,vs,_,p⟩:=(show ObjOk X.prog X.w H s.heap a (.dK kvs) from I.hok a _ ea)
    obtain ⟨o,es,ep,h1,h2,_⟩:=p
    exact PySem.W.kia_one PySem.W.kitx_dict I.kIn ⟨o,h1,h2.1⟩ e (fun z=>nomatch z) h
  | @dT a kvs ea =>
    cases (show u = Value.ref a from rx)
    obtain ⟨_,_,xs,_,o,es,ep,h1,h2,_⟩:=(show ObjOk X.prog X.w H s.heap a (.dT kvs) from I.hok a _ ea)
    exact PySem.W.kia_one PySem.W.kitx_dict I.kIn ⟨o,h1,h2.1⟩ e (fun z=>nomatch z) h
  | @ins a C dx fs ea cl ha hn htk hm =>
    cases (show u = Value.ref a from rx)
    obtain ⟨mA,O,_⟩:=ins_get I.hok ea
    obtain ⟨od,J,_⟩:=O.look
    exact PySem.W.kia_one (PySem.W.kitx_own (cl.get _) cl.hd ha hn htk hm) I.kIn J e (fun z=>nomatch z) h
end
end L2
namespace L2
open PySem PySem.Spec PyProof.Rows
structure Room (k : Nat) (A : Around) : Prop where
  hd : A.handled = none
  dp : A.depth + 3 * k + 5 < recursionLimit
  un : A.units + 16 * k + 200 < cLine
  gd : A.guards = some []
theorem Room.mono {j k : Nat} {A : Around} (r : Room k A) (h : j≤k) : Room j A:=⟨r.hd,by have:=r.dp;omega,by have:=r.un;omega,r.gd⟩
theorem Room.deeper {k : Nat} {A : Around} (r : Room (k + 1) A) (env : Env) : Room k (A.deeper env) :=
  ⟨r.hd,by have:=r.dp;show A.depth + 1 + 3 * k + 5 < _;omega,by have:=r.un;show A.units + 3 + 16 * k + 200 < _;omega,r.gd⟩
theorem make_depth {A : Around} {C : Addr} {us : List Value} {kw : List (Str × Value)} : (A.under (.builtin "type.__call__" ⟨.ref C::us,kw⟩)).depth = A.depth + 1:=by
  first | rfl | simp [Around.under,Code.weight,Code.isCreation,Code.isGuard,Code.isCaller,Code.frames,Code.isFrame,guardIds]
theorem make_units {A : Around} {C : Addr} {us : List Value} {kw : List (Str × Value)} : (A.under (.builtin "type.__call__" ⟨.ref C::us,kw⟩)).units = A.units + 1:=by
  first | rfl | simp [Around.under,Code.cUnits,Code.frames,Code.isFrame]
theorem Room.make {k : Nat} {A : Around} (r : Room (k + 1) A) (C : Addr) (us : List Value) (kw : List (Str × Value)) : Room k (A.under (.builtin "type.__call__" ⟨.ref C::us,kw⟩)) :=
  ⟨r.hd,by have:=r.dp;rw [make_depth];omega,by have:=r.un;rw [make_units];omega,by first | exact r.gd | (simp [Around.under,Code.isGuard,guardIds];exact r.gd)⟩
theorem Room.depth {k : Nat} {A : Around} (r : Room k A) : A.depth < recursionLimit:=by have:=r.dp;omega
theorem Room.units {k : Nat} {A : Around} (r : Room k A) : A.units + 64 < cLine:=by have:=r.un;omega
def tNil : TA:=fun _ H Q=>Q [] H
def tCons (ta : TE) (tr : TA) : TA:=fun σ H Q=>ta σ H fun x H1=>tr σ H1 fun xs H2=>Q (x::xs) H2
section
variable {X : Cx} {e : Expr} {es : List Expr} {te : TE} {t : TA} {pos : Pos}
theorem pa_nil : PA X [] tNil:=fun _ _ _ _ H Q I h=>Calls.spliced_nil ⟨[],H,I,.nil,h⟩
theorem pa_cons (ha : PE X e te) (hr : PA X es t) (hs : starEach (e::es) X.env = (false,eval e X.env)::starEach es X.env:=by rfl) : PA X (e::es) (tCons te t):=by
  intro pos pins s σ H Q I h
  rw [hs]
  show wpAny _ _ (spliced ((false,eval e X.env)::backTo pos (starEach es X.env))) _ _ s
  refine Calls.spliced_cons (thn (ha pins s σ H _ I h) fun u s1 ⟨x,H1,I1,r1,q1⟩=>?_)
  exact thn (hr pos pins s1 σ H1 _ I1 q1) fun us s2 ⟨xs,H2,I2,r2,q2⟩=>⟨x::xs,H2,I2,.cons r1 r2,q2⟩
def tTup (t : TA) : TE:=fun σ H Q=>t σ H fun xs H1=>xs.length≤sizeLine∧∀ p,H1 p = none→Q (.ref p) (upd H1 p (.tup xs))
def tLst (t : TA) : TE:=fun σ H Q=>t σ H fun xs H1=>xs.length≤sizeLine∧∀ p,H1 p = none→Q (.ref p) (upd H1 p (.lst xs))
theorem pe_tup {x1} (h : PA X es t) : PE X (.Tuple es x1 pos) (tTup t):=by
  intro pins s σ H Q I hq
  refine wpAny_Tuple_spliced (thn (h pos pins s σ H _ I hq) fun us s1 ⟨xs,H1,I1,r,z,q⟩=>⟨by rw [← r.length];exact z,?_⟩)
  have hf : H1 s1.heap.objs.size = none:=I1.hok.fresh (Nat.le_refl _)
  refine ⟨.ref s1.heap.objs.size,upd H1 s1.heap.objs.size (.tup xs),I1.laid (t':=s1.toks) (fun b u e=>Heap.get?_push_of_some _ e) (Nat.le_refl _) ?_,rfl,q _ hf⟩
  exact ⟨z,us,r,⟨_,Heap.get?_push_size _ rfl,rfl,_,rfl,rfl⟩⟩
theorem pe_lst (h : PA X es t) : PE X (.List es pos) (tLst t):=by
  intro pins s σ H Q I hq
  refine wpAny_List_spliced (thn (h pos pins s σ H _ I hq) fun us s1 ⟨xs,H1,I1,r,z,q⟩=>⟨by rw [← r.length];exact z,?_⟩)
  have hf : H1 s1.heap.objs.size = none:=I1.hok.fresh (Nat.le_refl _)
  refine ⟨.ref s1.heap.objs.size,upd H1 s1.heap.objs.size (.lst xs),I1.laid (t':=s1.toks) (fun b u e=>Heap.get?_push_of_some _ e) (Nat.le_refl _) ?_,rfl,q _ hf⟩
  exact ⟨z,us,0,r,Heap.get?_push_size _ rfl⟩
end
abbrev Sp:=List V→Hp→VK→XK→Prop
abbrev CXT:=List Env→Hp→Shared→XK→Value→Shared→Prop
structure Env0 (P : Program) (w : World) (K : PySem.W.Frag) (mg : Str→Option Value) (base : Heap) (A : Around) (outer : List Env) (s : Shared) (H : Hp) : Prop where
  frames : A.frames = some outer
  mod : Mod K mg base
  bs : ∀ b o,base.get? b = some o→s.heap.get? b = some o∧H b = none
  bsz : base.objs.size≤s.heap.objs.size
  funs : s.heap.FunFrames base outer
  frf : ∀ b∈frs outer,H b = none
  hok : HOk P w H s.heap
  bare : AllBare s.gens
def CE (outer : List Env) (P : Program) (w : World) (H : Hp) (s : Shared) (Q : VK) (u : Value) (s' : Shared) : Prop :=
  ∃ v H',s'.os = s.os∧AllBare s'.gens∧Un (frs outer) [] H H' s.heap s'.heap∧HOk P w H' s'.heap∧RelV v u∧Q v H'
def CR (CX : CXT) (outer : List Env) (P : Program) (w : World) (H : Hp) (s : Shared) (Q : VK) (E : XK) (r : Result) (s' : Shared) : Prop :=
  match r with
  | .ok (.ret u)=>CE outer P w H s Q u s'
  | .ok _=>False
  | .error e=>CX outer H s E e s'
structure FnOk (P : Program) (w : World) (K : PySem.W.Frag) (mg : Str→Option Value) (base : Heap) (CX : CXT) (k : Nat) (f : Addr) (fd : FuncData) (ps : List Str) (sp : Sp) : Prop where
  len : ∀ vs H Q E,sp vs H Q E→vs.length = ps.length
  run : ∀ (A : Around) (outer : List Env) (s : Shared) (H : Hp) (args : Args) (us : List Value) (vs : List V) (Q : VK) (E : XK),Room k A→Env0 P w K mg base A outer s H→BindsTo s fd args (ps.zip us)→Vals vs us→sp vs H Q E →
    codeAny (model P w) A (.call (.ref f) args) (CR CX outer P w H s Q E) s
theorem FnOk.imp {P : Program} {w : World} {K : PySem.W.Frag} {mg : Str→Option Value} {base : Heap} {CX : CXT} {k : Nat} {f : Addr} {fd : FuncData} {ps : List Str} {sp sp' : Sp} (F : FnOk P w K mg base CX k f fd ps sp)
    (h : ∀ vs H Q E,sp' vs H Q E→sp vs H Q E) : FnOk P w K mg base CX k f fd ps sp' :=
  ⟨fun vs H Q E q=>F.len vs H Q E (h _ _ _ _ q),fun A outer s H args us vs Q E hr he hb hv hs=>F.run A outer s H args us vs Q E hr he hb hv (h _ _ _ _ hs)⟩
theorem Env0.make {P : Program} {w : World} {K : PySem.W.Frag} {mg : Str→Option Value} {base : Heap} {A : Around} {outer : List Env} {s : Shared} {H : Hp} (e : Env0 P w K mg base A outer s H) (C : Addr) (us : List Value) (kw : List (Str × Value)) :
    Env0 P w K mg base (A.under (.builtin "type.__call__" ⟨.ref C::us,kw⟩)) outer s H:=⟨by first | exact e.frames | (simpa [Around.under,Code.envs,Code.isFrame,pushEnvs] using e.frames),e.mod,e.bs,e.bsz,e.funs,e.frf,e.hok,e.bare⟩
section
variable {X : Cx} {pins : List (Addr × Obj)} {σ : St} {H : Hp} {s s' : Shared}
theorem Inv.env0 (I : Inv X pins σ H s) : Env0 X.prog X.w X.K X.mg X.base X.A X.stack s H :=
  ⟨I.ok.frames,I.ok.mod,I.bs,Nat.le_trans I.ok.bsz I.sz,I.stack,I.stkFree,I.hok,I.bare⟩
theorem Inv.after {Q : VK} {u : Value} (I : Inv X pins σ H s) (h : CE X.stack X.prog X.w H s Q u s') : EP X pins σ Q u s':=by
  obtain ⟨v,H',os,bare,un,hok,r,q⟩:=h
  obtain ⟨hh,g,d,t,os'⟩:=s'
  obtain rfl : os' = s.os:=os
  exact ⟨v,H',I.call (h':=hh) (g':=g) (d':=d) (t':=t) (ch:=[]) un hok bare (fun b z=>absurd z (by simp)),r,q⟩
end
def tCall (sp : Sp) (dvs : List V) (E : XK) (t : TA) : TE:=fun σ H Q=>t σ H fun vs H1=>sp (vs++dvs) H1 Q E
def Binds (K : PySem.W.Frag) (fd : FuncData) (ps : List Str) (ds : List Value) : Prop :=
  ∀ (s : Shared) (us : List Value),K.In s.heap→(us++ds).length = ps.length→BindsTo s fd ⟨us,[]⟩ (ps.zip (us++ds))
theorem Binds.all {K : PySem.W.Frag} {fd : FuncData} {ps : List Str} (h : ∀ us : List Value,us.length = ps.length→bindArgs fd ⟨us,[]⟩ = pure (ps.zip us)) : Binds K fd ps []:=fun s us _ hl=>by
  rw [List.append_nil] at hl ⊢
  exact .of_eq (h us hl)
def Passes (CX : CXT) (X : Cx) (E : XK) : Prop:=∀ (pins : List (Addr × Obj)) (σ : St) (H : Hp) (s : Shared) (e : Value) (s' : Shared),Inv X pins σ H s→CX X.stack H s E e s'→X.xe e s'
section
variable {X : Cx} {CX : CXT} {k : Nat} {f C : Addr} {fd : FuncData} {ps : List Str} {sp : Sp} {dvs : List V} {ds : List Value} {E : XK} {x m : Str} {p pos apos : Pos} {e o : Expr} {es : List Expr} {ta : TE} {t : TA}
theorem run_fn {pins : List (Addr × Obj)} {σ : St} {H : Hp} {s : Shared} {Q : VK} {us : List Value} {vs : List V} (F : FnOk X.prog X.w X.K X.mg X.base CX k f fd ps sp) (hr : Room k X.A) (hb : Binds X.K fd ps ds) (hd : Vals dvs ds) (hx : Passes CX X E)
    (I : Inv X pins σ H s) (r : Vals vs us) (h : sp (vs++dvs) H Q E) : wpAny (model X.prog X.w) X.A (call (.ref f) us) (EP X pins σ Q) X.xe s:=by
  have r2 : Vals (vs++dvs) (us++ds):=r.append hd
  have hl : (us++ds).length = ps.length:=by rw [← r2.length];exact F.len _ _ _ _ h
  refine wpAny_call (codeAny_mono (F.run X.A X.stack s H ⟨us,[]⟩ (us++ds) (vs++dvs) Q E hr I.env0 (hb s us I.kIn hl) r2 h) fun r s' hq=>?_)
  cases r with
  | error e=>exact hx pins σ H s e s' I hq
  | ok fl =>
    cases fl with
    | ret u=>exact I.after hq
    | next=>exact False.elim hq
    | brk=>exact False.elim hq
    | cont=>exact False.elim hq
theorem pe_call (F : FnOk X.prog X.w X.K X.mg X.base CX k f fd ps sp) (hr : Room k X.A) (hg : Gl X x) (hm : X.mg x = some (.ref f)) (hk : PySem.W.keepIn X.K (.ref f) = true) (hb : Binds X.K fd ps ds) (hd : Vals dvs ds) (hx : Passes CX X E)
    (ha : PA X (e::es) t) (hdb : (x == ("__debug__" : Str)) = false:=by decide) (he : starEach (e::es) X.env = (false,eval e X.env)::starEach es X.env:=by rfl) (hpl : (backTo pos (starEach es X.env)).any (·.1) = false:=by rfl) :
    PE X (.Call (.Name x p) (e::es) [] pos) (tCall sp dvs E t):=by
  intro pins s σ H Q I h
  refine wpAny_Call_Name_kw (ld_glob I hg hm ?_ hdb)
  refine PySem.W.callWith_K (h₀:=X.base) I.ok.mod.kin hk (thn (ha pos pins s σ H _ I h) fun us s1 ⟨vs,H1,I1,r,q⟩=>⟨I1.kIn,?_⟩) he hpl
  exact run_fn F hr hb hd hx I1 r q
end
structure FnScope (N P : List Str) (sc : Scope) : Prop where
  kind : sc.kind = .function
  co : sc.isCoroutine = false
  gen : sc.isGenerator = false
  nd : N.Nodup
  pre : N.take P.length = P
  par : ∀ x∈P,sc.names.lookup x = some .local∨sc.names.lookup x = some .cell
  nofree : ∀ y∈sc.names,y.2≠.free
theorem bindL_out {kindOf : Str → Option NameKind} {x : Str} : ∀ {binds : List (Str × Value)} {m : Str → Option Value}, (∀ v, (x, v) ∉ binds) → bindL kindOf binds m x = m x
  | [],_,_=>rfl
  | (n,v)::r,m,h=>by
    unfold bindL
    rw [bindL_out fun w hw=>h w (List.mem_cons_of_mem _ hw)]
    split
    · have : x≠n:=by rintro rfl;exact h v List.mem_cons_self
      simp [this]
    · rfl
theorem bindC_out {kindOf : Str → Option NameKind} {x : Str} : ∀ {binds : List (Str × Value)} {m : Str → Option Value}, (∀ v, (x, v) ∉ binds) → bindC kindOf binds m x = m x
  | [],_,_=>rfl
  | (n,v)::r,m,h=>by
    unfold bindC
    rw [bindC_out fun w hw=>h w (List.mem_cons_of_mem _ hw)]
    split
    · rfl
    · have : x≠n:=by rintro rfl;exact h v List.mem_cons_self
      simp [this]
theorem bindL_get {kindOf : Str→Option NameKind} {x : Str} {v : Value} : ∀ {P : List Str} {vs : List Value} {i : Nat} {m : Str→Option Value},P.Nodup→P[i]? = some x→vs[i]? = some v→kindOf x = some .local →
    bindL kindOf (P.zip vs) m x = some v
  | [],_,_,_,_,h,_,_=>by simp at h
  | _::_,[],_,_,_,_,h,_=>by simp at h
  | p::P,w::vs,0,m,nd,h1,h2,hk=>by
    simp at h1 h2;subst h1;subst h2
    show bindL kindOf ((p,w)::P.zip vs) m p = _
    unfold bindL
    rw [bindL_out fun v hv=>(List.nodup_cons.mp nd).1 (List.of_mem_zip hv).1,if_pos hk]
    simp
  | p::P,w::vs,i + 1,m,nd,h1,h2,hk=>by
    show bindL kindOf ((p,w)::P.zip vs) m x = _
    unfold bindL
    exact bindL_get (i:=i) (List.nodup_cons.mp nd).2 (by simpa using h1) (by simpa using h2) hk
theorem bindC_get {kindOf : Str→Option NameKind} {x : Str} {v : Value} : ∀ {P : List Str} {vs : List Value} {i : Nat} {m : Str→Option Value},P.Nodup→P[i]? = some x→vs[i]? = some v→kindOf x≠some .local →
    bindC kindOf (P.zip vs) m x = some v
  | [],_,_,_,_,h,_,_=>by simp at h
  | _::_,[],_,_,_,_,h,_=>by simp at h
  | p::P,w::vs,0,m,nd,h1,h2,hk=>by
    simp at h1 h2;subst h1;subst h2
    show bindC kindOf ((p,w)::P.zip vs) m p = _
    unfold bindC
    rw [bindC_out fun v hv=>(List.nodup_cons.mp nd).1 (List.of_mem_zip hv).1,if_neg hk]
    simp
  | p::P,w::vs,i + 1,m,nd,h1,h2,hk=>by
    show bindC kindOf ((p,w)::P.zip vs) m x = _
    unfold bindC
    exact bindC_get (i:=i) (List.nodup_cons.mp nd).2 (by simpa using h1) (by simpa using h2) hk
def start (N : List Str) (vs : List V) : St:=vs.map some++List.replicate (N.length - vs.length) none
def cxOf (CX : CXT) (P : Program) (w : World) (K : PySem.W.Frag) (mg : Str→Option Value) (base : Heap) (N : List Str) (qual : Str) (scope : Scope) (f : Addr) (cd : Value) (A : Around) (outer : List Env) (s : Shared) (H : Hp) (E : XK) : Cx where
  prog:=P
  w:=w
  K:=K
  mg:=mg
  base:=base
  A:=A.deeper (envOfC qual scope s.heap.objs.size f cd)
  N:=N
  s₀:=s
  H₀:=H
  env:=envOfC qual scope s.heap.objs.size f cd
  outer:=outer
  stack:=envOfC qual scope s.heap.objs.size f cd::outer
  ex:=[]
  calm:=true
  fn:=fun _=>true
  pn:=[]
  xe:=fun e s'=>wpAny (model P w) (A.deeper (envOfC qual scope s.heap.objs.size f cd)) (leaving (envOfC qual scope s.heap.objs.size f cd) e) (fun _ s''=>CX outer H s E e s'') (fun e' s''=>CX outer H s E e' s'') s'
theorem cell_has {sc : Scope} {n : Nat} {x : Str} (h : sc.names.lookup x = some .cell) : ∃ c,(cellsFrom n sc.names []).lookup x = some c:=by
  have q:=PySem.W.cellsFrom_some sc.names n [] (.inl h)
  exact Option.isSome_iff_exists.mp q
theorem inv_start {CX : CXT} {P : Program} {w : World} {K : PySem.W.Frag} {mg : Str → Option Value} {base : Heap} {N ps : List Str} {qual : Str} {scope : Scope} {f : Addr} {cd : Value} {A : Around} {outer : List Env} {s s1 : Shared} {H : Hp} {E : XK} {us : List Value} {vs : List V}
    (S : FnScope N ps scope) (hd : A.handled = none) (e0 : Env0 P w K mg base A outer s H) (hl : vs.length = ps.length) (r : Vals vs us)
    (x : InCallC s s.heap.objs.size (bindL (envOfC qual scope s.heap.objs.size f cd).kindOf (ps.zip us) fun _=>none) (cellsFrom (s.heap.objs.size + 1) scope.names []) (bindC (envOfC qual scope s.heap.objs.size f cd).kindOf (ps.zip us) fun _=>none) s1) :
    Inv (cxOf CX P w K mg base N qual scope f cd A outer s H E) [] (start N vs) H s1:=by
  have hpl : ps.length≤N.length:=by have:=congrArg List.length S.pre;rw [List.length_take] at this;omega
  obtain ⟨h1,tk,rfl,hk⟩:=x.done
  have noA : ∀ b : Addr,b∉(cxOf CX P w K mg base N qual scope f cd A outer s H E).ex:=fun b z=>absurd (show b∈([] : List Addr) from z) (by simp)
  refine ⟨⟨e0.mod,S.kind,rfl,rfl,Nat.le_refl _,fun y z c h1 h2=>?_,fun y hy=>?_,fun y c _ h=>?_,fun _=>hd,Around.frames_deeper e0.frames,.inr ⟨rfl,rfl⟩,fun b z=>absurd z (noA b),e0.bs,e0.bsz,fun b _ _=>noA b,fun b z=>absurd z (noA b),e0.funs,e0.frf⟩,
    rfl,e0.bare,Un.kept hk,⟨_,x.toInCall.ns,fun i y v h1 h2 h3=>?_⟩,fun y c h=>⟨_,x.cell y c h⟩,e0.hok.fresh (Nat.le_refl _),fun y c h=>?_,fun p hp=>absurd (show p∈([] : List (Addr × Obj)) from hp) (by simp),e0.hok.kept hk,?_⟩
  · exact name_of_addr x.apart (PySem.mem_of_lookup h1) (PySem.mem_of_lookup h2)
  · have hy : scope.names.lookup y = some .cell∨scope.names.lookup y = some .free:=hy
    rcases hy with hy | hy
    · exact cell_has hy
    · exact absurd rfl (S.nofree _ (PySem.mem_of_lookup hy))
  · exact Nat.le_of_lt (x.above y c (PySem.mem_of_lookup h))
  · have hi : i < vs.length := by
      unfold start at h2
      by_cases hi : i < vs.length
      · exact hi
      · rw [List.getElem?_append_right (by simpa using hi)] at h2
        rw [List.getElem?_replicate] at h2
        split at h2 <;> cases h2
    have ha : vs[i]? = some v:=by
      unfold start at h2
      rw [List.getElem?_append_left (by simpa using hi),List.getElem?_map] at h2
      cases e : vs[i]? with
      | none=>rw [e] at h2;cases h2
      | some a=>rw [e] at h2;cases h2;rfl
    obtain ⟨u,hu,rv⟩:=r.get ha
    have hp : ps[i]? = some y:=by
      rw [← S.pre,List.getElem?_take_of_lt (by omega)];exact h1
    have ndP : ps.Nodup:=by rw [← S.pre];exact S.nd.sublist (List.take_sublist _ _)
    refine ⟨u,rv,?_⟩
    rcases S.par y (List.mem_of_getElem? hp) with k | k
    · exact .inl ⟨k,bindL_get ndP hp hu k⟩
    · obtain ⟨c,e⟩:=cell_has (n:=s.heap.objs.size + 1) k
      refine .inr ⟨.inl k,c,e,?_⟩
      have q:=x.cell y c e
      rw [bindC_get ndP hp hu (by show scope.names.lookup y≠_;rw [k];decide)] at q
      exact q
  · exact e0.hok.fresh (Nat.le_of_lt (x.above y c (PySem.mem_of_lookup h)))
  · unfold start
    show _ = N.length
    rw [List.length_append,List.length_map,List.length_replicate]
    omega
theorem fn_of {CX : CXT} {P : Program} {w : World} {K : PySem.W.Frag} {mg : Str → Option Value} {base : Heap} {k : Nat} {f : Addr} {name qual : Str} {params : Arguments} {body : List Stmt} {scope : Scope} {dV kV doc pm cdv ct oc : Value} {an od : Option Addr}
    {osl : Array (Option Value)} {N ps : List Str} {sp : Sp} (lk : K.lookup f = some ⟨oc,od,.func (PySem.W.fnOf name qual params body scope dV kV doc pm an cdv ct),osl⟩) (hcd : PySem.W.codeIn K cdv qual = true) (S : FnScope N ps scope)
    (len : ∀ vs H Q E,sp vs H Q E→vs.length = ps.length)
    (hbody : ∀ (A : Around) (outer : List Env) (s : Shared) (H : Hp) (vs : List V) (Q : VK) (E : XK),Room k (A.deeper (envOfC qual scope s.heap.objs.size f cdv))→sp vs H Q E →
      ∃ t,PSs (cxOf CX P w K mg base N qual scope f cdv A outer s H E) body t∧t { nx:=fun _ H'=>Q .non H',rt:=Q } (start N vs) H) :
    FnOk P w K mg base CX (k + 1) f (PySem.W.fnOf name qual params body scope dV kV doc pm an cdv ct) ps sp:=by
  refine ⟨len,fun A outer s H args us vs Q E hr e0 hb r hsp=>?_⟩
  have hl:=len _ _ _ _ hsp
  have KX : K.In s.heap:=e0.mod.kin.keeps fun b o e=>(e0.bs b o e).1
  have lim : s.heap.NoLimit:=e0.mod.nolimit.keeps fun b o e=>(e0.bs b o e).1
  have hkind : ∀ y∈ps.zip us,scope.names.lookup y.1 = some .local∨(scope.names.lookup y.1 = some .cell∧((cellsFrom (s.heap.objs.size + 1) scope.names []).lookup y.1).isSome = true):=fun ⟨n,v⟩ hy=>by
    rcases S.par n (List.of_mem_zip hy).1 with q | q
    · exact .inl q
    · exact .inr ⟨q,PySem.W.cellsFrom_some _ _ _ (.inl q)⟩
  refine codeAny_call_function hr.depth (KX _ _ lk) rfl S.co S.gen rfl (PySem.W.codeRec_of KX hcd) (hb _ _ _ _ ?_)
  refine wpAny_newFunctionEnv_cells S.kind hkind fun env he s1 x=>?_
  subst he
  refine ⟨lim.keeps x.toInCall.keep,codeAny_func ?_⟩
  obtain ⟨t,ht,hq⟩:=hbody A outer s H vs Q E (hr.deeper _) hsp
  have I : Inv (cxOf CX P w K mg base N qual scope f cdv A outer s H E) [] (start N vs) H s1:=inv_start S hr.hd e0 hl r x
  refine wpAny_mono (ht [] s1 (start N vs) H _ I hq) (fun fl s' hs=>?_) fun e s' hs=>hs
  have fin : ∀ {σ' : St} {H' : Hp} {v : V} {u : Value},Inv (cxOf CX P w K mg base N qual scope f cdv A outer s H E) [] σ' H' s'→RelV v u→Q v H'→CE outer P w H s Q u s' :=
    fun {σ' H' v u} J rv q=>⟨v,H',J.os,J.bare,J.base,J.hok,rv,q⟩
  cases fl with
  | ret u =>
    obtain ⟨v,σ',H',J,rv,q⟩:=hs
    exact fin J rv q
  | next =>
    obtain ⟨σ',H',J,q⟩:=hs
    exact fin (v:=V.non) (u:=Value.none) J rfl q
  | brk =>
    obtain ⟨_,_,_,q⟩:=hs
    exact False.elim q
  | cont =>
    obtain ⟨_,_,_,q⟩:=hs
    exact False.elim q
end L2
namespace L2
open PySem PySem.Spec PyProof.Rows
section
variable {X : Cx} {x : Str} {p pos : Pos} {e : Expr} {es : List Expr} {t : TA} {id T : String} {r : List V→Hp→VK→Prop}
def tCB (r : List V→Hp→VK→Prop) (t : TA) : TE:=fun σ H Q=>t σ H fun vs H1=>r vs H1 Q
theorem pe_callB (hc : CallR X (.builtin id) r) (hg : Gl X x) (hm : X.mg x = none) (hv : bootBuiltins x = some (.builtin id)) (ha : PA X (e::es) t) (hn : x≠"__name__":=by decide) (hdb : (x == ("__debug__" : Str)) = false:=by decide)
    (he : starEach (e::es) X.env = (false,eval e X.env)::starEach es X.env:=by rfl) (hpl : (backTo pos (starEach es X.env)).any (·.1) = false:=by rfl) : PE X (.Call (.Name x p) (e::es) [] pos) (tCB r t):=by
  intro pins s σ H Q I h
  refine wpAny_Call_Name_kw (ld_blt I hg hm hv ?_ hn hdb)
  exact PyProof.Rows.callWith_builtin1 (thn (ha pos pins s σ H _ I h) fun us s1 ⟨vs,H1,I1,r1,q1⟩=>hc pins s1 σ H1 vs us Q I1 r1 q1) he hpl
theorem pe_callTy (hc : CallR X (.type T) r) (hg : Gl X x) (hm : X.mg x = none) (hv : bootBuiltins x = some (.type T)) (ha : PA X (e::es) t) (hn : x≠"__name__":=by decide) (hdb : (x == ("__debug__" : Str)) = false:=by decide)
    (he : starEach (e::es) X.env = (false,eval e X.env)::starEach es X.env:=by rfl) (hpl : (backTo pos (starEach es X.env)).any (·.1) = false:=by rfl) : PE X (.Call (.Name x p) (e::es) [] pos) (tCB r t):=by
  intro pins s σ H Q I h
  refine wpAny_Call_Name_kw (ld_blt I hg hm hv ?_ hn hdb)
  exact PyProof.Rows.callWith_type1 (thn (ha pos pins s σ H _ I h) fun us s1 ⟨vs,H1,I1,r1,q1⟩=>hc pins s1 σ H1 vs us Q I1 r1 q1) he hpl
end
end L2
namespace HT
open PySem PyProof.Rows
section
open PySem.SeqAt
open PySem.AutoSeq1 (wpAny_loadPart')
open PySem.MeetsSeq PySem.MeetsSeq2 PySem.MeetsSeq3
end
section
variable {prog : Program} {w : World} {A : Around} {E : Value→Shared→Prop} {s : Shared}
theorem cat_tup {t b : Addr} {vs ws : List Value} {Q : Value → Shared → Prop} (ht : IsTup s.heap t vs.toArray) (hb : IsTup s.heap b ws.toArray) (hv : vs ≠ [])
    (h1 : ws = []→Q (.ref t) s) (h2 : ws≠[]→Q (.ref s.heap.objs.size) { s with heap:=s.heap.push { cls:=.type "tuple",data:=.seq (vs++ws).toArray } })
    (hsz : vs.length + ws.length≤sizeLine) : wpAny (model prog w) A (binaryOp .Add (.ref t) (.ref b)) Q E s:=by
  obtain ⟨⟨cls,dd,data,sl⟩,ho,hc,n,hd⟩:=id ht
  obtain ⟨⟨cls2,dd2,data2,sl2⟩,ho2,hc2,n2,hd2⟩:=id hb
  simp only at hc hd hc2 hd2
  subst hc hd hc2 hd2
  have e : vs.toArray++ws.toArray = (vs++ws).toArray:=by simp
  by_cases hw : ws = []
  · exact concat_meets ⟨_,ho,rfl⟩ ⟨_,ho2,rfl⟩ noFill_tuple_add seq_tuple_add PySem.F.slot_tuple_add PySem.F.entry_tuple_add (PySem.F.args_tuple_add_2 _ _)
      (tuple_addW1 t b vs.toArray ws.toArray n n2 dd dd2 sl sl2 (by simpa using hv) (by simp [hw])) ⟨ho,ho2,h1 hw⟩
  · refine concat_meets ⟨_,ho,rfl⟩ ⟨_,ho2,rfl⟩ noFill_tuple_add seq_tuple_add PySem.F.slot_tuple_add PySem.F.entry_tuple_add (PySem.F.args_tuple_add_2 _ _)
      (tuple_addW2 t b vs.toArray ws.toArray n n2 dd dd2 sl sl2 (by simpa using hv) (by simpa using hw) (by rw [List.size_toArray,List.size_toArray];exact hsz)) ⟨ho,ho2,?_⟩
    rw [e]
    exact h2 hw
def sIx (n d : Nat) : Option Int→Nat
  | none=>d
  | some v=>if v < 0 then (v + (n : Int)).toNat else min v.toNat n
theorem sIx_none (n d : Nat) : sIx n d none = d:=rfl
theorem sIx_nat (n d k : Nat) : sIx n d (some (k : Int)) = min k n:=by
  show (if (k : Int) < 0 then ((k : Int) + (n : Int)).toNat else min (k : Int).toNat n) = min k n
  rw [if_neg (by omega),Int.toNat_natCast]
theorem sIx_le (n d : Nat) (hd : d≤n) (o : Option Int) : sIx n d o≤n:=by
  cases o with
  | none=>exact hd
  | some v =>
    show (if v < 0 then (v + (n : Int)).toNat else min v.toNat n)≤n
    by_cases hv : v < 0
    · rw [if_pos hv];omega
    · rw [if_neg hv];exact Nat.min_le_right _ _
theorem clip_eq (v : Int) (n d : Nat) : (if v < 0 then max (v + (n : Int)) 0 else min v (n : Int)) = ((sIx n d (some v) : Nat) : Int):=by
  show (if v < 0 then max (v + (n : Int)) 0 else min v (n : Int)) = (((if v < 0 then (v + (n : Int)).toNat else min v.toNat n) : Nat) : Int)
  by_cases hv : v < 0
  · simp only [if_pos hv];omega
  · simp only [if_neg hv];omega
theorem adjust_gen (lo hi : Option Int) (n : Nat) : Builtin.Slice.sliceAdjust lo hi 1 (n : Int) = (((sIx n 0 lo : Nat) : Int),((sIx n n hi : Nat) : Int)):=by
  have h1 : ¬ ((1 : Int) < 0):=by omega
  unfold Builtin.Slice.sliceAdjust
  simp only [h1,if_false]
  refine Prod.ext ?_ ?_
  · cases lo with
    | none=>rfl
    | some v=>exact clip_eq v n 0
  · cases hi with
    | none=>rfl
    | some v=>exact clip_eq v n n
theorem places_gen (i j : Nat) : Builtin.Slice.slicePlaces (i : Int) (j : Int) 1 = j - i:=by
  unfold Builtin.Slice.slicePlaces
  have h1 : (1 : Int) > 0:=by omega
  simp only [h1,if_true,Int.ediv_one]
  split <;> omega
theorem slicePart_ {v : Value} {o : Option Int} {Q : Option Int→Shared→Prop} (p : IsPart v o) (h : Q o s) : wpAny (model prog w) A (Builtin.Slice.slicePartIndex v) Q E s:=by
  cases p with
  | none=>exact slicePart_none h
  | int i t=>exact slicePart_int h
theorem sliceApplied_gen {sl : Addr} {vl vu : Value} {lo hi : Option Int} {n : Nat} {Q : Int × Int × Nat→Shared→Prop} (hs : s.heap.IsSliceOf sl vl vu .none) (pl : IsPart vl lo) (pu : IsPart vu hi)
    (h : Q (((sIx n 0 lo : Nat) : Int),1,sIx n n hi - sIx n 0 lo) s) : wpAny (model prog w) A (Builtin.Slice.sliceApplied (.ref sl) (pure (n : Int))) Q E s:=by
  obtain ⟨os,hos,hcs,hds⟩:=id hs
  unfold Builtin.Slice.sliceApplied Builtin.Slice.sliceFields
  refine wpAny_bind (wpAny_bind (wpAny_field hos hds (x:=vl) rfl (wpAny_bind (wpAny_field hos hds (x:=vu) rfl (wpAny_bind (wpAny_field hos hds (x:=.none) rfl (wpAny_pure ?_)))))))
  refine wpAny_bind (slicePart_none ?_)
  show wpAny _ _ (if ((1 : Int) == 0) = true then _ else _) _ _ s
  rw [if_neg (by decide)]
  refine wpAny_bind (slicePart_ pl (wpAny_bind (slicePart_ pu (wpAny_bind (wpAny_pure ?_)))))
  show wpAny _ _ (match Builtin.Slice.sliceAdjust lo hi 1 (n : Int) with | (lo,hi)=>pure (lo,(1 : Int),Builtin.Slice.slicePlaces lo hi 1)) _ _ s
  rw [adjust_gen lo hi n]
  show wpAny _ _ (pure (((sIx n 0 lo : Nat) : Int),(1 : Int),Builtin.Slice.slicePlaces ((sIx n 0 lo : Nat) : Int) ((sIx n n hi : Nat) : Int) 1)) _ _ s
  rw [places_gen]
  exact wpAny_pure h
theorem pick_gen (xs : Array Value) (i k : Nat) : ((List.range k).filterMap fun (m : Nat)=>xs[((i : Int) + (m : Int) * 1).toNat]?).toArray = ((xs.toList.drop i).take k).toArray:=by
  have e : (fun (m : Nat)=>xs[((i : Int) + (m : Int) * 1).toNat]?) = fun m=>xs[i + m]?:=by
    funext m
    have : ((i : Int) + (m : Int) * 1).toNat = i + m:=by omega
    rw [this]
  rw [e]
  have:=pick_run xs i k
  rw [List.filterMap_map] at this
  have e2 : ((fun x=>xs[x]?) ∘ fun x=>i + x) = fun m=>xs[i + m]?:=rfl
  rw [e2] at this
  rw [this]
theorem getItem_tuple_cut {t sl : Addr} {items : Array Value} {vl vu : Value} {lo hi : Option Int} {Q : Value→Shared→Prop} (ht : IsTup s.heap t items) (hs : s.heap.IsSliceOf sl vl vu .none) (pl : IsPart vl lo) (pu : IsPart vu hi)
    (hw : ¬ (sIx items.size 0 lo = 0∧sIx items.size items.size hi = items.size))
    (h : Q (.ref s.heap.objs.size) { s with heap:=s.heap.push { cls:=.type "tuple",data:=.seq ((items.toList.drop (sIx items.size 0 lo)).take (sIx items.size items.size hi - sIx items.size 0 lo)).toArray } })
    (hsz : items.size≤sizeLine) : wpAny (model prog w) A (getItem (.ref t) (.ref sl)) Q E s:=by
  have htake : sizeOk (.seq ((items.toList.drop (sIx items.size 0 lo)).take (sIx items.size items.size hi - sIx items.size 0 lo)).toArray):=by
    show ((items.toList.drop (sIx items.size 0 lo)).take (sIx items.size items.size hi - sIx items.size 0 lo)).toArray.size≤sizeLine
    rw [List.size_toArray,List.length_take,List.length_drop,Array.length_toList]
    omega
  have hj : sIx items.size items.size hi≤items.size:=sIx_le _ _ (Nat.le_refl _) hi
  obtain ⟨os,hos,hcs,hds⟩:=id hs
  have hTs : s.TypeIs (.ref sl) "slice":=⟨os,hos,hcs⟩
  unfold getItem
  try with_reducible refine wpAny_holding ?_
  first | refine wpAny_bind (wpAny_pure ?_) | skip
  refine wpAny_bind (wpAny_sequenceKey ht.typeIs (by decide) ?_)
  refine wpAny_bind (wpAny_callSpecial?_slot (name:=Str.ofString "__getitem__") ht.typeIs PyProof.Rows.slot_tuple_getitem
    (wpAny_call_entry PyProof.Rows.slot_tuple_getitem ht.typeIs entry_tuple_getitem ?_ (args_tuple_getitem _ _)))
  show wpAny _ _ (Builtin.Tuple.tupleItemsOf (.ref t) >>= _) _ _ s
  refine wpAny_bind (tupleItemsOf_ ht ?_)
  refine wpAny_bind (wpAny_typeOf hTs ?_)
  rw [if_pos (by decide)]
  refine wpAny_bind (sliceApplied_gen hs pl pu ?_)
  have hno : ¬ ((((sIx items.size 0 lo : Nat) : Int) == 0 && (1 : Int) == 1 && (sIx items.size items.size hi - sIx items.size 0 lo) == items.size) = true):=by
    intro q
    rw [Bool.and_eq_true,Bool.and_eq_true] at q
    have q1 : ((sIx items.size 0 lo : Nat) : Int) = 0:=eq_of_beq q.1.1
    have q2 : sIx items.size items.size hi - sIx items.size 0 lo = items.size:=eq_of_beq q.2
    exact hw ⟨by omega,by omega⟩
  show wpAny _ _ (if (((sIx items.size 0 lo : Nat) : Int) == 0 && (1 : Int) == 1 && (sIx items.size items.size hi - sIx items.size 0 lo) == items.size) = true then _ else _) _ _ s
  rw [if_neg hno,pick_gen]
  first
    | exact wpAny_bind (m:=Builtin.Tuple.tupleExact _) (wpAny_newObj_type (wpAny_pure ⟨_,rfl,wpAny_pure h⟩) htake)
    | exact wpAny_bind (m:=Builtin.Tuple.tupleExact _) (wpAny_newObj_type (wpAny_bind (wpAny_pure (wpAny_pure ⟨_,rfl,wpAny_pure h⟩))) htake)
    | exact wpAny_bind (wpAny_bind (m:=Builtin.Tuple.tupleExact _) (wpAny_newObj_type (wpAny_pure (wpAny_pure ⟨_,rfl,wpAny_pure h⟩)) htake))
    | exact wpAny_bind (wpAny_bind (m:=Builtin.Tuple.tupleExact _) (wpAny_newObj_type (wpAny_pure ⟨_,rfl,wpAny_pure h⟩) htake))
end
end HT
namespace L2
open PySem PySem.Spec PyProof.Rows
abbrev TO:=St→Hp→(Option Int→Hp→Prop)→Prop
def PO (X : Cx) (e : Option Expr) (t : TO) : Prop :=
  ∀ (pins : List (Addr × Obj)) (s : Shared) (σ : St) (H : Hp) (Q : Option Int→Hp→Prop),Inv X pins σ H s→t σ H Q →
    wpAny (model X.prog X.w) X.A (evalPart e X.env) (fun u s'=>∃ o H',Inv X pins σ H' s'∧IsPart u o∧Q o H') X.xe s
def tNoPart : TO:=fun _ H Q=>Q none H
def tPart (t : TE) : TO:=fun σ H Q=>t σ H fun x H1=>∃ i,x = .int i∧Q (some i) H1
section
variable {X : Cx} {e : Expr} {te : TE} {lo hi : Option Expr} {tl th : TO} {pos p2 : Pos}
theorem po_none : PO X none tNoPart:=by
  intro pins s σ H Q I h
  rw [evalPart_none]
  exact wpAny_pure ⟨none,H,I,.none,h⟩
theorem po_some (h : PE X e te) : PO X (some e) (tPart te):=by
  intro pins s σ H Q I hw
  rw [evalPart_some]
  refine thn (h pins s σ H _ I hw) fun u s1 ⟨x,H1,I1,r1,q1⟩=>?_
  obtain ⟨i,rfl,q⟩:=q1
  obtain ⟨t,rfl⟩:=r1
  exact ⟨some i,H1,I1,.int i t,q⟩
def SlR (X : Cx) (r : V→Option Int→Option Int→Hp→VK→Prop) : Prop :=
  ∀ (pins : List (Addr × Obj)) (s : Shared) (σ : St) (H : Hp) (x : V) (v vl vu : Value) (lo hi : Option Int) (sl : Addr) (Q : VK),Inv X pins σ H s→RelV x v→s.heap.IsSliceOf sl vl vu .none→IsPart vl lo→IsPart vu hi→r x lo hi H Q →
    ∃ T id,typeLookup (.type T) "__getitem__" = pure (some (.builtin id))∧s.TypeIs v T∧wpAny (model X.prog X.w) X.A (getItem v (.ref sl)) (EP X pins σ Q) X.xe s
def tSl (r : V→Option Int→Option Int→Hp→VK→Prop) (te : TE) (tl th : TO) : TE:=fun σ H Q=>te σ H fun x H1=>tl σ H1 fun l H2=>th σ H2 fun u H3=>r x l u H3 Q
theorem pe_slice {r : V→Option Int→Option Int→Hp→VK→Prop} (hr : SlR X r) (he : PE X e te) (hl : PO X lo tl) (hu : PO X hi th) : PE X (.Subscript e (.Slice lo hi none p2) pos) (tSl r te tl th):=by
  intro pins s σ H Q I h
  refine Subscript_ (thn (he pins s σ H _ I h) fun v s1 ⟨x,H1,I1,r1,q1⟩=>?_)
  refine wpAny_Slice (thn (hl pins s1 σ H1 _ I1 q1) fun vl s2 ⟨l,H2,I2,pl,q2⟩=>thn (hu pins s2 σ H2 _ I2 q2) fun vu s3 ⟨u,H3,I3,pu,q3⟩=>?_)
  rw [evalPart_none]
  refine wpAny_pure ?_
  have I4 : Inv X pins σ H3 { s3 with heap:=s3.heap.push { cls:=.type "slice",data:=.fields #[vl,vu,.none] } }:=I3.kept (t':=s3.toks) fun b ob q=>Heap.get?_push_of_some _ q
  obtain ⟨T,id,hT,ht,hg⟩:=hr pins { s3 with heap:=s3.heap.push { cls:=.type "slice",data:=.fields #[vl,vu,.none] } } σ H3 x v vl vu l u s3.heap.objs.size Q I4 r1 (Heap.IsSliceOf.new ..) pl pu q3
  show wpAny (model X.prog X.w) X.A (subscriptTail e (.Slice lo hi none p2) v (.ref s3.heap.objs.size)) (EP X pins σ Q) X.xe { s3 with heap:=s3.heap.push { cls:=.type "slice",data:=.fields #[vl,vu,.none] } }
  exact tail_any (ops:=[.ref s3.heap.objs.size,v]) ht hT hg (by with_unfolding_all rfl)
def cutV (xs : List V) (lo hi : Option Int) : List V:=(xs.drop (HT.sIx xs.length 0 lo)).take (HT.sIx xs.length xs.length hi - HT.sIx xs.length 0 lo)
theorem cutV_length (xs : List V) (lo hi : Option Int) : (cutV xs lo hi).length≤xs.length:=by
  unfold cutV
  rw [List.length_take,List.length_drop]
  omega
def rSlT (K : PySem.W.Frag) : V→Option Int→Option Int→Hp→VK→Prop:=fun x lo hi H Q=>∃ a xs,x = .ref a∧SqT K H a xs ∧
  ¬ (HT.sIx xs.length 0 lo = 0∧HT.sIx xs.length xs.length hi = xs.length)∧∀ p,H p = none→Q (.ref p) (upd H p (.tup (cutV xs lo hi)))
theorem sl_tup : SlR X (rSlT X.K):=by
  intro pins s σ H x v vl vu lo hi sl Q I rx hs pl pu h
  obtain ⟨a,xs,rfl,hx,hw,q⟩:=h
  cases rx
  obtain ⟨its,r,ht,hz⟩:=I.tuple hx
  have hlen : its.toArray.size = xs.length:=by rw [List.size_toArray];exact r.length.symm
  refine ⟨"tuple",_,PyProof.Rows.slot_tuple_getitem.lookup,ht.typeIs,?_⟩
  refine HT.getItem_tuple_cut ht hs pl pu (by rw [hlen];exact hw) ?_ (by rw [hlen];exact hz)
  rw [hlen]
  refine ⟨.ref s.heap.objs.size,_,I.laid (t':=s.toks) (o:=.tup (cutV xs lo hi)) (fun b ob q=>Heap.get?_push_of_some _ q) (Nat.le_refl _) ?_,rfl,q _ (I.hok.fresh (Nat.le_refl _))⟩
  exact ⟨Nat.le_trans (cutV_length xs lo hi) hz,_,(r.drop (HT.sIx xs.length 0 lo)).take (HT.sIx xs.length xs.length hi - HT.sIx xs.length 0 lo),TupN.new _ _⟩
def rCatT (K : PySem.W.Frag) : R2:=fun x y H Q=>∃ a b xs ys,x = .ref a∧y = .ref b∧SqT K H a xs∧SqT K H b ys∧xs≠[]∧xs.length + ys.length≤sizeLine ∧
  (ys = []→Q (.ref a) H)∧(ys≠[]→∀ p,H p = none→Q (.ref p) (upd H p (.tup (xs++ys))))
theorem Vals.nil_iff {xs : List V} {us : List Value} (r : Vals xs us) : us = [] ↔ xs = []:=by
  cases r with
  | nil=>simp
  | cons _ _=>simp
theorem op_catT : OpR X (binaryOp .Add) (rCatT X.K):=by
  intro pins s σ H x y v u Q I rx ry h
  obtain ⟨a,b,xs,ys,rfl,rfl,ha,hb,hx,hz,q1,q2⟩:=h
  cases rx
  cases ry
  obtain ⟨its,r1,p1,_⟩:=I.tuple ha
  obtain ⟨its2,r2,p2,_⟩:=I.tuple hb
  refine HT.cat_tup p1 p2 (fun z=>hx (r1.nil_iff.mp z)) (fun z=>⟨.ref a,H,I,rfl,q1 (r2.nil_iff.mp z)⟩) (fun z=>?_) (by rw [← r1.length,← r2.length];exact hz)
  refine ⟨.ref s.heap.objs.size,_,I.laid (t':=s.toks) (o:=.tup (xs++ys)) (fun b ob q=>Heap.get?_push_of_some _ q) (Nat.le_refl _) ?_,rfl,q2 (fun w=>z (r2.nil_iff.mpr w)) _ (I.hok.fresh (Nat.le_refl _))⟩
  exact ⟨by rw [List.length_append];exact hz,_,r1.append r2,TupN.new _ _⟩
end
end L2
namespace L2
open PySem PySem.Spec PyProof.Rows
def ixN (n : Nat) (i : Int) : Option Nat:=if 0≤i then (if i < n then some i.toNat else none) else if -(n : Int)≤i then some (i + n).toNat else none
def atI {α : Type} (xs : List α) (i : Int) : Option α:=(ixN xs.length i).bind fun j=>xs[j]?
theorem ixN_seq {n : Nat} {i : Int} {j : Nat} (h : ixN n i = some j) : seqIndex? i n = some j ∧ j < n ∧ -(n : Int) ≤ i ∧ i < n := by
  unfold ixN at h
  by_cases h0 : 0≤i
  · rw [if_pos h0] at h
    by_cases h1 : i < n
    · rw [if_pos h1] at h
      have e : i.toNat = j:=Option.some.inj h
      exact ⟨by rw [seqIndex_of h0 h1,e],by omega,by omega,h1⟩
    · rw [if_neg h1] at h;cases h
  · rw [if_neg h0] at h
    by_cases h1 : -(n : Int)≤i
    · rw [if_pos h1] at h
      have e : (i + n).toNat = j:=Option.some.inj h
      exact ⟨by rw [seqIndex_neg (by omega) h1,e],by omega,h1,by omega⟩
    · rw [if_neg h1] at h;cases h
theorem atI_get {α : Type} {xs : List α} {i : Int} {v : α} (h : atI xs i = some v) : ∃ j,seqIndex? i xs.length = some j∧xs[j]? = some v∧j < xs.length∧-(xs.length : Int)≤i∧i < xs.length:=by
  unfold atI at h
  cases e : ixN xs.length i with
  | none=>rw [e] at h;cases h
  | some j =>
    rw [e] at h
    obtain ⟨h1,h2,h3,h4⟩:=ixN_seq e
    exact ⟨j,h1,h,h2,h3,h4⟩
theorem atI_nat {α : Type} {xs : List α} {j : Nat} {v : α} (h : xs[j]? = some v) : atI xs (j : Int) = some v:=by
  have hj : j < xs.length:=(List.getElem?_eq_some_iff.mp h).1
  have e : ixN xs.length (j : Int) = some j:=by
    unfold ixN
    rw [if_pos (by omega),if_pos (by omega)];simp
  unfold atI;rw [e];exact h
theorem atI_last {α : Type} (xs : List α) (v : α) : atI (xs++[v]) (-1) = some v:=by
  have hl : (xs++[v]).length = xs.length + 1:=by simp
  have e : ixN (xs++[v]).length (-1) = some xs.length:=by
    unfold ixN
    rw [hl,if_neg (by decide),if_pos (by omega)]
    congr 1
    omega
  unfold atI
  rw [e]
  show (xs++[v])[xs.length]? = some v
  simp
def PlainIx (b : Expr) : Prop:=∀ o i,subscripted b false o i = operate [o,i] (getItem o i)
def IxR (X : Cx) (r : R2) : Prop :=
  ∀ (value slice : Expr) (pins : List (Addr × Obj)) (s : Shared) (σ : St) (H : Hp) (x y : V) (v u : Value) (Q : VK),Inv X pins σ H s→RelV x v→RelV y u→r x y H Q →
    subscripted slice false v u = operate [v,u] (getItem v u)→wpAny (model X.prog X.w) X.A (subscriptTail value slice v u) (EP X pins σ Q) X.xe s
def MtR (X : Cx) (id : String) (r : V→List V→Hp→VK→Prop) : Prop :=
  ∀ (pins : List (Addr × Obj)) (s : Shared) (σ : St) (H : Hp) (x : V) (xs : List V) (v : Value) (us : List Value) (Q : VK),Inv X pins σ H s→RelV x v→Vals xs us→r x xs H Q →
    wpAny (model X.prog X.w) X.A (call (.builtin id) (v::us)) (EP X pins σ Q) X.xe s
section
variable {X : Cx} {a b : Expr} {ta tb : TE} {pos : Pos}
theorem pe_ix {r : R2} (hr : IxR X r) (ha : PE X a ta) (hb : PE X b tb) (hs : PlainIx b) : PE X (.Subscript a b pos) (tOp r ta tb):=by
  intro pins s σ H Q I h
  exact Subscript_ (binT ha hb I h fun v u s2 x y H2 I2 rx ry q=>hr a b pins s2 σ H2 x y v u Q I2 rx ry q (hs _ _))
def rIxL (K : PySem.W.Frag) : R2:=fun x y H Q=>∃ p xs i v,x = .ref p∧y = .int i∧SqL K H p xs∧atI xs i = some v∧Q v H
def rIxT (K : PySem.W.Frag) : R2:=fun x y H Q=>∃ p xs i v,x = .ref p∧y = .int i∧SqT K H p xs∧atI xs i = some v∧Q v H
def rIxS : R2:=fun x y H Q=>∃ z i c,x = .str z∧y = .int i∧z.length≤sizeLine∧atI z.cps.toList i = some c∧Q (.str ⟨#[c]⟩) H
theorem ix_list : IxR X (rIxL X.K) := by
  intro value slice pins s σ H x y v u Q I rx ry h hs
  obtain ⟨p,xs,i,z,rfl,rfl,hq,he,q⟩:=h
  cases rx
  obtain ⟨t,rfl⟩:=ry
  obtain ⟨its,r,pl,hz⟩:=I.list hq
  obtain ⟨j,h1,h2,h3,h4,h5⟩:=atI_get he
  obtain ⟨w,ew,rw'⟩:=r.get h2
  have hl:=r.length
  have hn:=line63
  have fin : EP X pins σ Q w s:=⟨z,H,I,rw',q⟩
  by_cases h0 : 0≤i
  · have hj : i.toNat = j:=by
      rw [seqIndex_of h0 h5] at h1
      exact Option.some.inj h1
    exact item_listR pl.isList h0 (by omega) (by rw [hj];simpa using ew) fin hs
  · have hj : (i + (its.toArray.size : Int)).toNat = j:=by
      rw [seqIndex_neg (by omega) h4] at h1
      rw [List.size_toArray,← hl]
      exact Option.some.inj h1
    exact subscriptTail_builtinR (x:=w) pl.isList.typeIs slot_list_getitem.lookup
      (wpAny_getItem_list_neg (Q:=fun r s'=>r = w∧EP X pins σ Q r s') pl.isList (by omega) (by rw [List.size_toArray] <;> omega) (by omega) (by rw [hj];simpa using ew) ⟨rfl,fin⟩) hs
theorem ix_tup : IxR X (rIxT X.K):=by
  intro value slice pins s σ H x y v u Q I rx ry h hs
  obtain ⟨p,xs,i,z,rfl,rfl,hq,he,q⟩:=h
  cases rx
  obtain ⟨t,rfl⟩:=ry
  obtain ⟨its,r,pl,hz⟩:=I.tuple hq
  obtain ⟨j,h1,h2,h3,h4,h5⟩:=atI_get he
  obtain ⟨w,ew,rw'⟩:=r.get h2
  have hl:=r.length
  have hn:=line63
  have fin : EP X pins σ Q w s:=⟨z,H,I,rw',q⟩
  exact subscriptTail_builtinR (x:=w) pl.typeIs slot_tuple_getitem.lookup
    (getItem_tuple (j:=j) (Q:=fun r s'=>r = w∧EP X pins σ Q r s') pl (by omega) (by omega) (by rw [List.size_toArray,← hl];exact h1) (by simpa using ew) ⟨rfl,fin⟩) hs
theorem ix_str : IxR X rIxS:=by
  intro value slice pins s σ H x y v u Q I rx ry h hs
  obtain ⟨z,i,c,rfl,rfl,hz,he,q⟩:=h
  obtain ⟨t,rfl⟩:=rx
  obtain ⟨t',rfl⟩:=ry
  obtain ⟨j,h1,h2,h3,h4,h5⟩:=atI_get he
  have hl : z.cps.toList.length = z.length:=by simp [Str.length]
  rw [hl] at h1 h4 h5
  have hn:=line63
  exact tail_any (typeIs_str s z t) slot_str_getitem.lookup (getItem_str (c:=c) (by
    have e1 : decide (i < -(2 ^ 63 : Int)) = false:=decide_eq_false (by omega)
    have e2 : decide (i ≥ 2 ^ 63) = false:=decide_eq_false (by omega)
    rw [e1,e2,Bool.or_false]) (by rw [h1];simpa using h2) ⟨.str ⟨#[c]⟩,H,I.tok _,⟨_,rfl⟩,q⟩) hs
theorem mapSeq_set (its : List Value) (n j : Nat) (u : Value) : Obj.mapSeq (·.setIfInBounds j u) { cls:=.type "list",data:=.seq its.toArray n } = { cls:=.type "list",data:=.seq (its.set j u).toArray n }:=by
  simp [Obj.mapSeq]
theorem Inv.lst {pins : List (Addr × Obj)} {σ : St} {H : Hp} {s : Shared} {p : Addr} {xs : List V} (I : Inv X pins σ H s) (h : H p = some (.lst xs)) :
    ∃ (its : List Value) (n : Nat),Vals xs its∧s.heap.get? p = some { cls:=.type "list",data:=.seq its.toArray n }∧xs.length≤sizeLine:=by
  obtain ⟨z,its,n,r,e⟩:=I.hok p _ h
  exact ⟨its,n,r,e,z⟩
theorem Inv.lstUpd {pins : List (Addr × Obj)} {σ : St} {H : Hp} {s : Shared} {p : Addr} {xs ys : List V} {its its' : List Value} {n n' : Nat} {f : Obj→Obj} (I : Inv X pins σ H s) (h : H p = some (.lst xs))
    (ho : s.heap.get? p = some { cls:=.type "list",data:=.seq its.toArray n }) (hf : f { cls:=.type "list",data:=.seq its.toArray n } = { cls:=.type "list",data:=.seq its'.toArray n' }) (r : Vals ys its') (hz : ys.length≤sizeLine) (t : Nat) :
    Inv X pins σ (upd H p (.lst ys)) { s with heap:=s.heap.update p f,toks:=t }:=by
  have e : (s.heap.update p f).get? p = some { cls:=.type "list",data:=.seq its'.toArray n' }:=by
    rw [Heap.get?_update_self f ho (by rw [hf] <;> rfl),hf]
  refine I.write (x:=p) (e:=p) (by rw [h];trivial) (.inl rfl) (fun b u hb q=>(Heap.get?_update_other _ _ (Ne.symm hb)).trans q) ⟨_,e⟩ ?_
  exact ⟨hz,its',n',r,e⟩
def rSetL : V→V→V→Hp→(Hp→Prop)→Prop:=fun o i v H Q=>∃ p xs k j,o = .ref p∧i = .int k∧H p = some (.lst xs)∧ixN xs.length k = some j∧Q (upd H p (.lst (xs.set j v)))
theorem set_list : PSet X rSetL := by
  intro pins s σ H o i v ov iv u Q I ro ri rv h
  obtain ⟨p,xs,k,j,rfl,rfl,hp,hj,q⟩:=h
  cases ro
  obtain ⟨t,rfl⟩:=ri
  obtain ⟨its,n,r,ho,hz⟩:=I.lst hp
  obtain ⟨h1,h2,h3,h4⟩:=ixN_seq hj
  have hl:=r.length
  have hn:=line63
  have I' : Inv X pins σ (upd H p (.lst (xs.set j v))) { s with heap:=s.heap.update p (Obj.mapSeq (·.setIfInBounds j u)) } :=
    I.lstUpd hp ho (mapSeq_set its n j u) (r.set rv j) (by rw [List.length_set];exact hz) s.toks
  by_cases h0 : 0≤k
  · have hk : k.toNat = j:=by
      rw [seqIndex_of h0 h4] at h1
      exact Option.some.inj h1
    exact PySem.W.ki_setAt ho h0 (by omega) (by rw [List.size_toArray,← hl];exact h4) (by rw [hk];exact ⟨_,I',q⟩)
  · have hk : (k + (its.toArray.size : Int)).toNat = j:=by
      rw [seqIndex_neg (by omega) h3] at h1
      rw [List.size_toArray,← hl]
      exact Option.some.inj h1
    exact PySem.W.ki_setBack ho (by omega) (by rw [List.size_toArray,← hl];exact h3) (by omega) (by rw [hk];exact ⟨_,I',q⟩)
theorem slice_bounds (lo hi : Option Int) (n : Nat) : (sliceBounds lo hi none n).1 = ((HT.sIx n 0 lo : Nat) : Int) ∧ (sliceBounds lo hi none n).2.1 = ((HT.sIx n n hi : Nat) : Int) ∧ (sliceBounds lo hi none n).2.2 = 1 := by
  refine ⟨?_,?_,rfl⟩
  · cases lo with
    | none=>simp [sliceBounds,HT.sIx]
    | some i =>
      simp only [sliceBounds,HT.sIx,Option.getD_none,show (1 : Int) > 0 by decide,if_true]
      by_cases h : i < 0
      · simp only [h,if_true] <;> omega
      · simp only [h,if_false] <;> omega
  · cases hi with
    | none=>simp [sliceBounds,HT.sIx]
    | some i =>
      simp only [sliceBounds,HT.sIx,Option.getD_none,show (1 : Int) > 0 by decide,if_true]
      by_cases h : i < 0
      · simp only [h,if_true] <;> omega
      · simp only [h,if_false] <;> omega
theorem slicePick_cut (its : List Value) (lo hi : Option Int) : slicePick its.toArray lo hi none = ((its.drop (HT.sIx its.length 0 lo)).take (HT.sIx its.length its.length hi - HT.sIx its.length 0 lo)).toArray:=by
  obtain ⟨h1,h2,h3⟩:=slice_bounds lo hi its.toArray.size
  unfold slicePick
  rw [h1,h2,h3]
  simp only [sliceRange_one,pick_run,List.size_toArray] <;> rfl
def rSlL (K : PySem.W.Frag) : V→Option Int→Option Int→Hp→VK→Prop:=fun x lo hi H Q=>∃ a xs,x = .ref a∧SqL K H a xs∧∀ p,H p = none→Q (.ref p) (upd H p (.lst (cutV xs lo hi)))
theorem sl_list : SlR X (rSlL X.K):=by
  intro pins s σ H x v vl vu lo hi sl Q I rx hs pl pu h
  obtain ⟨a,xs,rfl,hx,q⟩:=h
  cases rx
  obtain ⟨its,r,ht,hz⟩:=I.list hx
  have hlen:=r.length
  refine ⟨"list",_,slot_list_getitem.lookup,ht.isList.typeIs,?_⟩
  refine wpAny_getItem_list_slice ht.isList hs pl pu .none (by simp) ?_ (by rw [List.size_toArray] <;> omega)
  rw [slicePick_cut,← hlen]
  refine ⟨.ref s.heap.objs.size,_,I.laid (t':=s.toks) (o:=.lst (cutV xs lo hi)) (fun b ob q=>Heap.get?_push_of_some _ q) (Nat.le_refl _) ?_,rfl,q _ (I.hok.fresh (Nat.le_refl _))⟩
  exact ⟨Nat.le_trans (cutV_length xs lo hi) hz,_,0,(r.drop (HT.sIx xs.length 0 lo)).take (HT.sIx xs.length xs.length hi - HT.sIx xs.length 0 lo),Heap.get?_push_size _ rfl⟩
def flatV : V→Bool
  | .non=>true
  | .bl _=>true
  | .int _=>true
  | .str _=>true
  | _=>false
def eqV : V→V→Bool
  | .non,.non=>true
  | .bl a,.bl b=>a == b
  | .bl a,.int b=>(if a then 1 else 0) == b
  | .int a,.bl b=>a == (if b then 1 else 0)
  | .int a,.int b=>a == b
  | .str a,.str b=>a == b
  | _,_=>false
theorem eqAt_V {A : Around} {s : Shared} {y x : V} {u v : Value} (ry : RelV y u) (rx : RelV x v) (fy : flatV y = true) (fx : flatV x = true) : SeqAt.EqAt A s u v (eqV y x):=by
  cases y with
  | non =>
    cases ry
    cases x with
    | non=>cases rx;exact SeqAt.EqAt.same _
    | bl b=>cases rx;exact SeqAt.EqAt.none_bool b
    | int b=>obtain ⟨t,rfl⟩:=rx;exact SeqAt.EqAt.none_int b t
    | str b=>obtain ⟨t,rfl⟩:=rx;exact SeqAt.EqAt.none_str b t
    | _=>exact absurd (show false = true from fx) Bool.false_ne_true
  | bl a =>
    cases ry
    cases x with
    | non=>cases rx;exact SeqAt.EqAt.bool_none a
    | bl b=>cases rx;exact SeqAt.EqAt.bool_bool a b
    | int b=>obtain ⟨t,rfl⟩:=rx;exact SeqAt.EqAt.bool_int a b t
    | str b=>obtain ⟨t,rfl⟩:=rx;exact SeqAt.EqAt.bool_str a b t
    | _=>exact absurd (show false = true from fx) Bool.false_ne_true
  | int a =>
    obtain ⟨t',rfl⟩:=ry
    cases x with
    | non=>cases rx;exact SeqAt.EqAt.int_none a t'
    | bl b=>cases rx;exact SeqAt.EqAt.int_bool a t' b
    | int b=>obtain ⟨t,rfl⟩:=rx;exact SeqAt.EqAt.int_int a t' b t
    | str b=>obtain ⟨t,rfl⟩:=rx;exact SeqAt.EqAt.int_str a t' b t
    | _=>exact absurd (show false = true from fx) Bool.false_ne_true
  | str a =>
    obtain ⟨t',rfl⟩:=ry
    cases x with
    | non=>cases rx;exact SeqAt.EqAt.str_none a t'
    | bl b=>cases rx;exact SeqAt.EqAt.str_bool a t' b
    | int b=>obtain ⟨t,rfl⟩:=rx;exact SeqAt.EqAt.str_int a t' b t
    | str b=>obtain ⟨t,rfl⟩:=rx;exact SeqAt.EqAt.str_str a t' b t
    | _=>exact absurd (show false = true from fx) Bool.false_ne_true
  | _=>exact absurd (show false = true from fy) Bool.false_ne_true
def eqU (x : V) (u : Value) : Bool:=match u with
  | .none=>eqV .non x
  | .bool b=>eqV (.bl b) x
  | .int i _=>eqV (.int i) x
  | .str z _=>eqV (.str z) x
  | _=>false
theorem eqU_of {x y : V} {u : Value} (r : RelV y u) (f : flatV y = true) : eqU x u = eqV y x:=by
  cases y with
  | non=>cases r;rfl
  | bl b=>cases r;rfl
  | int i=>obtain ⟨t,rfl⟩:=r;rfl
  | str z=>obtain ⟨t,rfl⟩:=r;rfl
  | _=>exact absurd (show false = true from f) Bool.false_ne_true
theorem any_eqU {x : V} : ∀ {xs : List V} {us : List Value},Vals xs us→xs.all flatV = true→us.any (eqU x) = xs.any fun y=>eqV y x
  | _,_,.nil,_=>rfl
  | y::xs,u::us,.cons r t,f=>by
    rw [List.all_cons,Bool.and_eq_true] at f
    rw [List.any_cons,List.any_cons,eqU_of r f.1,any_eqU t f.2]
theorem mem_eqAt {A : Around} {s : Shared} {x : V} {v : Value} (rx : RelV x v) (fx : flatV x = true) : ∀ {xs : List V} {us : List Value},Vals xs us→xs.all flatV = true→∀ u∈us,SeqAt.EqAt A s u v (eqU x u)
  | _,_,.nil,_=>fun u hu=>by cases hu
  | y::xs,u::us,.cons r t,f=>fun u' hu=>by
    rw [List.all_cons,Bool.and_eq_true] at f
    rcases List.mem_cons.mp hu with rfl | hu
    · rw [eqU_of r f.1];exact eqAt_V r rx f.1 fx
    · exact mem_eqAt rx fx t f.2 u' hu
def inV (x : V) (xs : List V) : Bool:=xs.any fun y=>eqV y x
def rIn (K : PySem.W.Frag) (neg : Bool) : R2:=fun x y H Q=>∃ p xs,y = .ref p∧(SqL K H p xs∨SqT K H p xs)∧flatV x = true∧xs.all flatV = true∧Q (.bl (if neg then !inV x xs else inV x xs)) H
theorem op_in_seq : OpR X (compareOp .In) (rIn X.K false):=by
  intro pins s σ H x y v u Q I rx ry h
  obtain ⟨p,xs,rfl,hq,fx,fs,q⟩:=h
  cases ry
  rcases hq with hq | hq
  · obtain ⟨its,r,pl,hz⟩:=I.list hq
    refine SeqAt.in_listAt (eqU x) pl.isList (fun w hw=>mem_eqAt rx fx r fs w (by simpa using hw)) ⟨.bl _,H,I,rfl,?_⟩
    rw [show its.toArray.any (eqU x) = its.any (eqU x) by simp,any_eqU r fs]
    exact q
  · obtain ⟨its,r,pl,hz⟩:=I.tuple hq
    refine SeqAt.in_tupleAt (eqU x) pl (fun w hw=>mem_eqAt rx fx r fs w (by simpa using hw)) ⟨.bl _,H,I,rfl,?_⟩
    rw [show its.toArray.any (eqU x) = its.any (eqU x) by simp,any_eqU r fs]
    exact q
theorem op_notIn_seq : OpR X (compareOp .NotIn) (rIn X.K true):=by
  intro pins s σ H x y v u Q I rx ry h
  obtain ⟨p,xs,rfl,hq,fx,fs,q⟩:=h
  cases ry
  rcases hq with hq | hq
  · obtain ⟨its,r,pl,hz⟩:=I.list hq
    refine SeqAt.notIn_listAt (eqU x) pl.isList (fun w hw=>mem_eqAt rx fx r fs w (by simpa using hw)) ⟨.bl _,H,I,rfl,?_⟩
    rw [show its.toArray.any (eqU x) = its.any (eqU x) by simp,any_eqU r fs]
    exact q
  · obtain ⟨its,r,pl,hz⟩:=I.tuple hq
    refine SeqAt.notIn_tupleAt (eqU x) pl (fun w hw=>mem_eqAt rx fx r fs w (by simpa using hw)) ⟨.bl _,H,I,rfl,?_⟩
    rw [show its.toArray.any (eqU x) = its.any (eqU x) by simp,any_eqU r fs]
    exact q
theorem call_list_of : CallR X (.type "list") (fun xs H Q => ∃ p ys, xs = [.ref p] ∧ (SqL X.K H p ys ∨ SqT X.K H p ys) ∧ ∀ l, H l = none → Q (.ref l) (upd H l (.lst ys))) := by
  intro pins s σ H xs us Q I r h
  obtain ⟨p,ys,rfl,hq,q⟩:=h
  obtain ⟨u,rfl,rx⟩:=vals1 r
  cases rx
  have fin : ∀ (its : List Value),Vals ys its→ys.length≤sizeLine→∀ (h' : Heap) (c' : Nat),(∀ b o',s.heap.get? b = some o'→h'.get? b = some o') →
      h'.get? s.heap.objs.size = some { cls:=.type "list",dict:=none,data:=.seq its.toArray c',slots:=#[] }→EP X pins σ Q (.ref s.heap.objs.size) { s with heap:=h' }:=fun its r' hz h' c' kp e =>
    ⟨.ref s.heap.objs.size,_,I.laid (t':=s.toks) kp (Nat.le_refl _) (show ObjOk X.prog X.w _ h' _ (.lst ys) from ⟨hz,its,c',r',e⟩),rfl,q _ (I.hok.fresh (Nat.le_refl _))⟩
  rcases hq with hq | hq
  · obtain ⟨its,r',pl,hz⟩:=I.list hq
    have hlen:=r'.length
    obtain ⟨o,ho,hc,n,hd⟩:=pl.isList
    exact call_list_seq p (.inl rfl) ho hc hd (fun h' c' kp e=>fin its r' hz h' c' kp e) (by simp only [List.size_toArray] <;> omega)
  · obtain ⟨its,r',pl,hz⟩:=I.tuple hq
    have hlen:=r'.length
    obtain ⟨o,ho,hc,n,hd⟩:=pl
    exact call_list_seq p (.inr rfl) ho hc hd (fun h' c' kp e=>fin its r' hz h' c' kp e) (by simp only [List.size_toArray] <;> omega)
theorem call_tuple_of : CallR X (.type "tuple") (fun xs H Q => ∃ p ys, xs = [.ref p] ∧ ((SqL X.K H p ys ∧ ∀ l, H l = none → Q (.ref l) (upd H l (.tup ys))) ∨ (SqT X.K H p ys ∧ Q (.ref p) H))) := by
  intro pins s σ H xs us Q I r h
  obtain ⟨p,ys,rfl,h⟩:=h
  obtain ⟨u,rfl,rx⟩:=vals1 r
  cases rx
  rcases h with ⟨hq,q⟩ | ⟨hq,q⟩
  · obtain ⟨its,r',pl,hz⟩:=I.list hq
    have hlen:=r'.length
    refine call_tuple_list pl.isList (fun h' kp=>?_) (by simp only [List.size_toArray] <;> omega)
    have I1 : Inv X pins σ H { s with heap:=h' }:=I.kept (t':=s.toks) kp
    have I2 : Inv X pins σ (upd H h'.objs.size (.tup ys)) { s with heap:=h'.push { cls:=.type "tuple",data:=.seq its.toArray } } :=
      I1.laid (t':=s.toks) (fun b o e=>Heap.get?_push_of_some _ e) (Nat.le_refl _) (show ObjOk X.prog X.w _ _ _ (.tup ys) from ⟨hz,its,r',TupN.new _ _⟩)
    exact ⟨.ref h'.objs.size,_,I2,rfl,q _ (I1.hok.fresh (Nat.le_refl _))⟩
  · obtain ⟨its,r',pl,hz⟩:=I.tuple hq
    exact call_tuple_same pl ⟨.ref p,H,I,rfl,q⟩
def tyV (K : PySem.W.Frag) (T : String) (x : V) (H : Hp) : Prop := match x with
  | .str _=>T = "str"
  | .int _=>T = "int"
  | .ref p=>(T = "list"∧∃ xs,SqL K H p xs)∨(T = "tuple"∧∃ o,K.lookup p = some o∧o.cls = .type "tuple"∧o.dict = none) ∨
      (T = "dict"∧((∃ kvs,H p = some (.dK kvs))∨∃ kvs,H p = some (.dT kvs)))∨(T = "set"∧∃ S n,H p = some (.set S n))
  | _=>False
theorem tyV_is {pins : List (Addr × Obj)} {σ : St} {H : Hp} {s : Shared} {T : String} {x : V} {v : Value} (I : Inv X pins σ H s) (r : RelV x v) (ty : tyV X.K T x H) :
    s.TypeIs v T∧∀ a,v = .ref a→∃ ob,s.heap.get? a = some ob∧ob.dict = none:=by
  cases x with
  | str z =>
    obtain ⟨t,rfl⟩:=r
    cases (show T = "str" from ty)
    exact ⟨typeIs_str s z t,fun _ e=>nomatch e⟩
  | int i =>
    obtain ⟨t,rfl⟩:=r
    cases (show T = "int" from ty)
    exact ⟨typeIs_int s i t,fun _ e=>nomatch e⟩
  | ref p =>
    cases r
    rcases ty with ⟨rfl,xs,hq⟩ | ⟨rfl,o,hk,hc,hd⟩ | ⟨rfl,hk⟩ | ⟨rfl,S,n,hk⟩
    · obtain ⟨its,_,pl,_⟩:=I.list hq
      refine ⟨pl.isList.typeIs,fun a e=>?_⟩
      cases e
      obtain ⟨o,n,e,c,hd,_⟩:=pl
      exact ⟨o,e,hd⟩
    · refine ⟨⟨o,I.kIn p o hk,hc⟩,fun a e=>?_⟩
      cases e
      exact ⟨o,I.kIn _ o hk,hd⟩
    · have z : ∃ o, s.heap.get? p = some o ∧ o.ExactDict := by
        rcases hk with ⟨kvs,hk⟩ | ⟨kvs,hk⟩
        · obtain ⟨_,_,_,_,o,_,_,e,ex,_⟩:=I.hok p _ hk
          exact ⟨o,e,ex⟩
        · obtain ⟨_,_,_,_,o,_,_,e,ex,_⟩:=I.hok p _ hk
          exact ⟨o,e,ex⟩
      obtain ⟨o,e,ex⟩:=z
      refine ⟨⟨o,e,ex.1⟩,fun a e2=>?_⟩
      cases e2
      exact ⟨o,e,ex.2.1⟩
    · obtain ⟨o,_,_,_,e,ex,_⟩:=I.hok p _ hk
      refine ⟨⟨o,e,ex.1⟩,fun a e2=>?_⟩
      cases e2
      exact ⟨o,e,ex.2.1⟩
  | _=>exact False.elim ty
def tBM (K : PySem.W.Frag) (T : String) (r : V→List V→Hp→VK→Prop) (to : TE) (t : TA) : TE:=fun σ H Q=>to σ H fun x H1=>tyV K T x H1∧t σ H1 fun xs H2=>r x xs H2 Q
variable {o e : Expr} {es : List Expr} {to : TE} {t : TA} {name : Str} {apos cpos : Pos} {T id : String} {r : V→List V→Hp→VK→Prop}
theorem pe_bm (pa : PlainAttrs T) (slot : Slot T name id) (hty : typeOf (.builtin id) = pure (.type "method_descriptor")) (hm : MtR X id r) (ho : PE X o to) (ha : PA X (e :: es) t)
    (hbase : attributeBase o name X.env (eval o X.env) = eval o X.env:=by rfl)
    (hfew : ((backTo cpos (starEach (e::es) X.env)).all (fun x=>!x.1) && (backToKw cpos (keywordEach [] X.env)).all (fun x=>x.1.isSome)
      && decide ((e::es).length + ([] : List Keyword).length + (if ([] : List Keyword).isEmpty then 0 else 1) < 30)) = true:=by rfl)
    (hline : (apos.endLine == cpos.line) = true:=by rfl) (hs : starEach (e::es) X.env = (false,eval e X.env)::starEach es X.env:=by rfl) (hplain : (backTo cpos (starEach es X.env)).any (·.1) = false:=by rfl) :
    PE X (.Call (.Attribute o name apos) (e::es) [] cpos) (tBM X.K T r to t):=by
  intro pins s σ H Q I h
  refine wpAny_Call_method_late hbase hfew hline rfl (thn (ho pins s σ H _ I h) fun v s1 ⟨x,H1,I1,r1,ty,q1⟩=>?_)
  obtain ⟨h1,h2⟩:=tyV_is I1 r1 ty
  refine ⟨T,id,pa,slot,hty,h1,h2,?_⟩
  have hA:=ha cpos pins s1 σ H1 _ I1 q1
  rw [hs] at hA ⊢
  refine Calls.callWith_builtin (by show (false || (backTo cpos (starEach es X.env)).any (·.1)) = false;rw [hplain] <;> rfl) (Calls.evalArgs_plain ?_)
  exact thn hA fun us s2 ⟨vs,H2,I2,r2,q2⟩=>hm pins s2 σ H2 x vs v us Q I2 r1 r2 q2
end
end L2
namespace L2
open PySem PySem.Spec PyProof.Rows
def MtM (X : Cx) (id : String) (r : V→List V→Hp→VK→Prop) : Prop :=
  ∀ (pins : List (Addr × Obj)) (s : Shared) (σ : St) (H : Hp) (x : V) (xs : List V) (v : Value) (us : List Value) (Q : VK),Inv X pins σ H s→RelV x v→Vals xs us→r x xs H Q →
    wpAny (model X.prog X.w) X.A (call (.builtin id) (v::us)) (EP X pins σ Q) X.xe s
theorem Vals.one : ∀ {x : V} {us : List Value},Vals [x] us→∃ u,us = [u]∧RelV x u
  | _,_,.cons r .nil=>⟨_,rfl,r⟩
theorem Vals.reverse {xs : List V} {us : List Value} (h : Vals xs us) : Vals xs.reverse us.reverse:=by
  induction h with
  | nil=>exact .nil
  | cons r t ih=>rw [List.reverse_cons,List.reverse_cons];exact Vals.append ih (.cons r .nil)
section
variable {X : Cx} {pins : List (Addr × Obj)} {σ : St} {H : Hp} {s : Shared} {l b : Addr} {xs ys zs : List V}
theorem Inv.lset {its its' : List Value} {n : Nat} {f : Array Value→Array Value} {t' : Nat} (I : Inv X pins σ H s) (hH : H l = some (.lst xs))
    (e : s.heap.get? l = some { cls:=.type "list",data:=.seq its.toArray n }) (hf : f its.toArray = its'.toArray) (hv : Vals ys its') (hz : ys.length≤sizeLine) :
    Inv X pins σ (upd H l (.lst ys)) { s with heap:=s.heap.update l (Obj.mapSeq f),toks:=t' }:=by
  have q:=PySem.IsL.update e f
  rw [hf] at q
  refine I.write (x:=l) (e:=l) (by rw [hH];exact trivial) (.inl rfl) (fun b' u hb hu=>(Heap.get?_update_other s.heap (Obj.mapSeq f) (Ne.symm hb)).trans hu) ⟨_,q⟩ ?_
  exact ⟨hz,its',_,hv,q⟩
theorem Inv.lnew {its : List Value} {t' : Nat} (I : Inv X pins σ H s) (hv : Vals ys its) (hz : ys.length≤sizeLine) :
    Inv X pins σ (upd H s.heap.objs.size (.lst ys)) { s with heap:=s.heap.push { cls:=.type "list",data:=.seq its.toArray },toks:=t' } :=
  I.laid (fun _ _ q=>Heap.get?_push_of_some _ q) (Nat.le_refl _) ⟨hz,its,0,hv,Heap.get?_push_size _ rfl⟩
theorem Inv.fresh (I : Inv X pins σ H s) : H s.heap.objs.size = none:=I.hok.fresh (Nat.le_refl _)
theorem Inv.lstM (I : Inv X pins σ H s) (hH : H l = some (.lst xs)) : xs.length≤sizeLine∧∃ (its : List Value) (n : Nat),Vals xs its∧xs.length = its.length∧s.heap.get? l = some { cls:=.type "list",data:=.seq its.toArray n }:=by
  obtain ⟨z,its,n,r,e⟩:=I.hok l _ hH
  exact ⟨z,its,n,r,r.length,e⟩
theorem notLongL {n : Nat} (h : n≤sizeLine) : Builtin.List.listTooLong n = false:=by
  unfold Builtin.List.listTooLong
  exact decide_eq_false (by omega)
end
section
variable {X : Cx}
def rAppend : V→List V→Hp→VK→Prop:=fun x vs H Q=>∃ l xs y,x = .ref l∧vs = [y]∧H l = some (.lst xs)∧xs.length < sizeLine∧Q .non (upd H l (.lst (xs++[y])))
theorem mt_append : MtM X "list.append" rAppend:=by
  intro pins s σ H x vs v us Q I rx rv h
  obtain ⟨l,xs,y,rfl,rfl,hH,hz,q⟩:=h
  cases rx
  obtain ⟨u,rfl,ru⟩:=rv.one
  obtain ⟨z,its,n,r,hl,e⟩:=I.lstM hH
  refine call_meets F.slot_list_append ⟨_,e,rfl⟩ F.entry_list_append (F.args_list_append_2 _ _) (PySem.list_append l its.toArray n u (by rw [List.size_toArray];omega)) ⟨e,?_⟩
  refine ⟨.non,_,I.lset (its':=its++[u]) hH e (by simp) (r.append (.cons ru .nil)) ?_,rfl,q⟩
  rw [List.length_append,List.length_singleton]
  omega
def rExtend : V→List V→Hp→VK→Prop:=fun x vs H Q=>∃ l b xs zs,x = .ref l∧vs = [.ref b]∧H l = some (.lst xs)∧H b = some (.lst zs)∧xs.length + zs.length≤sizeLine∧Q .non (upd H l (.lst (xs++zs)))
theorem mt_extend : MtM X "list.extend" rExtend:=by
  intro pins s σ H x vs v us Q I rx rv h
  obtain ⟨l,b,xs,zs,rfl,rfl,hH,hB,hz,q⟩:=h
  cases rx
  obtain ⟨u,rfl,ru⟩:=rv.one
  cases ru
  obtain ⟨z,its,n,r,hl,e⟩:=I.lstM hH
  obtain ⟨z2,its2,n2,r2,hl2,e2⟩:=I.lstM hB
  have hsz : its.toArray.size + its2.toArray.size≤sizeLine:=by rw [List.size_toArray,List.size_toArray];omega
  have hlong : ¬ (!its.toArray.isEmpty && Builtin.List.listTooLong (its.toArray.size + its2.toArray.size)) = true:=by
    rw [notLongL hsz,Bool.and_false]
    exact Bool.false_ne_true
  refine call_meets F.slot_list_extend ⟨_,e,rfl⟩ F.entry_list_extend (F.args_list_extend_2 _ _)
    (AutoSeq1.list_extend_list_list_0 l its.toArray n b its2.toArray n2 hlong (by rw [List.size_toArray];omega) (by omega)) ⟨e,e2,?_⟩
  refine ⟨.non,_,I.lset (its':=its++its2) hH e (by simp) (r.append r2) ?_,rfl,q⟩
  rw [List.length_append]
  omega
def rCat : R2:=fun x y H Q=>∃ l b xs zs,x = .ref l∧y = .ref b∧H l = some (.lst xs)∧H b = some (.lst zs)∧xs.length + zs.length≤sizeLine∧∀ p,H p = none→Q (.ref p) (upd H p (.lst (xs++zs)))
theorem op_cat : OpR X (binaryOp .Add) rCat:=by
  intro pins s σ H x y v u Q I rx ry h
  obtain ⟨l,b,xs,zs,rfl,rfl,hH,hB,hz,q⟩:=h
  cases rx
  cases ry
  obtain ⟨z,its,n,r,hl,e⟩:=I.lstM hH
  obtain ⟨z2,its2,n2,r2,hl2,e2⟩:=I.lstM hB
  refine PySem.P.add_list e e2 ?_ (by rw [List.size_toArray,List.size_toArray];omega)
  have ea : its.toArray++its2.toArray = (its++its2).toArray:=by simp
  rw [ea]
  exact ⟨.ref _,_,I.lnew (t':=s.toks) (r.append r2) (by rw [List.length_append];omega),rfl,q _ I.fresh⟩
end
end L2
namespace L2
open PySem PySem.Spec PyProof.Rows
section
variable {κ : Type} [DecidableEq κ]
def valV (kvs : List (κ × V)) (k : κ) : Option V:=(kvs.find? fun kv=>decide (kv.1 = k)).map (·.2)
def putK (kvs : List (κ × V)) (k : κ) (v : V) : List (κ × V) :=
  if (kvs.any fun kv=>decide (kv.1 = k)) = true then kvs.map (fun kv=>if kv.1 = k then (kv.1,v) else kv) else kvs++[(k,v)]
theorem valV_nil {k : κ} : valV ([] : List (κ × V)) k = none:=rfl
theorem valV_pos {p : κ × V} {r : List (κ × V)} {k : κ} (e : p.1 = k) : valV (p::r) k = some p.2:=by simp [valV,List.find?_cons,e]
theorem valV_neg {p : κ × V} {r : List (κ × V)} {k : κ} (e : ¬ p.1 = k) : valV (p::r) k = valV r k:=by simp [valV,List.find?_cons,e]
theorem valV_any (k : κ) : ∀ kvs : List (κ × V),(kvs.any fun kv=>decide (kv.1 = k)) = (valV kvs k).isSome
  | []=>rfl
  | p::r=>by
    rw [List.any_cons]
    by_cases e : p.1 = k
    · simp only [valV_pos e,decide_eq_true e,Bool.true_or,Option.isSome_some]
    · rw [valV_neg e,decide_eq_false e,Bool.false_or];exact valV_any k r
theorem valV_map (k j : κ) (y : V) : ∀ kvs : List (κ × V), valV (kvs.map fun kv => if kv.1 = k then (kv.1, y) else kv) j = (valV kvs j).map fun x => if j = k then y else x
  | []=>rfl
  | p::r=>by
    have ih:=valV_map k j y r
    rw [List.map_cons]
    by_cases h : p.1 = k
    · rw [if_pos h]
      by_cases e : p.1 = j
      · rw [valV_pos (p:=(p.1,y)) e,valV_pos e,Option.map_some,if_pos (e.symm.trans h)]
      · rw [valV_neg (p:=(p.1,y)) e,valV_neg e,ih]
    · rw [if_neg h]
      by_cases e : p.1 = j
      · rw [valV_pos (p:=p) e,valV_pos e,Option.map_some,if_neg (fun z=>h (e.trans z))]
      · rw [valV_neg (p:=p) e,valV_neg e,ih]
theorem valV_snoc (k j : κ) (y : V) : ∀ kvs : List (κ × V),valV kvs k = none→valV (kvs++[(k,y)]) j = if j = k then some y else valV kvs j
  | [],_=>by
    by_cases e : k = j
    · rw [if_pos e.symm];exact valV_pos (p:=(k,y)) e
    · rw [if_neg (fun z=>e z.symm)];exact valV_neg (p:=(k,y)) e
  | p::r,hn=>by
    rw [List.cons_append]
    have hk : ¬ p.1 = k:=fun z=>by rw [valV_pos z] at hn;cases hn
    rw [valV_neg hk] at hn
    have ih:=valV_snoc k j y r hn
    by_cases e : p.1 = j
    · rw [valV_pos e,valV_pos e,if_neg (fun z=>hk (e.trans z))]
    · rw [valV_neg e,valV_neg e,ih]
theorem valV_put (kvs : List (κ × V)) (k j : κ) (y : V) : valV (putK kvs k y) j = if j = k then some y else valV kvs j := by
  unfold putK
  by_cases a : (kvs.any fun kv=>decide (kv.1 = k)) = true
  · rw [if_pos a,valV_map]
    rw [valV_any] at a
    by_cases e : j = k
    · obtain ⟨x,hx⟩:=Option.isSome_iff_exists.mp a
      rw [if_pos e,e,hx,Option.map_some,if_pos rfl]
    · rw [if_neg e]
      cases valV kvs j with
      | none=>rfl
      | some x=>rw [Option.map_some,if_neg e]
  · rw [if_neg a]
    refine valV_snoc k j y kvs ?_
    rw [valV_any] at a
    cases q : valV kvs k with
    | none=>rfl
    | some x=>rw [q] at a;exact (a rfl).elim
theorem length_putK (kvs : List (κ × V)) (k : κ) (v : V) : (putK kvs k v).length≤kvs.length + 1:=by
  unfold putK
  split
  · rw [List.length_map];omega
  · rw [List.length_append,List.length_cons,List.length_nil];omega
theorem putK_new {kvs : List (κ × V)} {k : κ} (v : V) (h : valV kvs k = none) : putK kvs k v = kvs++[(k,v)]:=by
  unfold putK
  rw [valV_any,h]
  exact if_neg (by decide)
theorem RelO.isSome_eq {o : Option V} {u : Option Value} (r : RelO o u) : o.isSome = u.isSome:=by
  cases o with
  | none=>cases u with
    | none=>rfl
    | some _=>exact (show False from r).elim
  | some _=>cases u with
    | none=>exact (show False from r).elim
    | some _=>rfl
theorem RelO.getD {o : Option V} {u : Option Value} {d : V} {d' : Value} (r : RelO o u) (rd : RelV d d') : RelV (o.getD d) (u.getD d'):=by
  cases o with
  | none=>cases u with
    | none=>exact rd
    | some _=>exact (show False from r).elim
  | some _=>cases u with
    | none=>exact (show False from r).elim
    | some _=>exact r
theorem KV.val {kvs : List (κ × V)} {vs : List (κ × Value)} (r : KV kvs vs) (k : κ) : RelO (valV kvs k) (valueAt vs k) := by
  unfold KV at r
  induction r with
  | nil=>exact True.intro
  | @cons p q ps qs h t ih =>
    obtain ⟨h1,h2⟩:=h
    by_cases e : p.1 = k
    · have e' : q.1 = k:=h1.symm.trans e
      have b : valueAt (q::qs) k = some q.2:=by simp [valueAt,List.find?_cons,e']
      rw [valV_pos e,b];exact h2
    · have e' : ¬ q.1 = k:=fun z=>e (h1.trans z)
      have b : valueAt (q::qs) k = valueAt qs k:=by simp [valueAt,List.find?_cons,e']
      rw [valV_neg e,b];exact ih
theorem KV.any {kvs : List (κ × V)} {vs : List (κ × Value)} (r : KV kvs vs) (k : κ) : (kvs.any fun kv=>decide (kv.1 = k)) = vs.any fun kv=>decide (kv.1 = k):=by
  unfold KV at r
  induction r with
  | nil=>rfl
  | cons h t ih=>rw [List.any_cons,List.any_cons,ih,h.1]
theorem KV.repl {kvs : List (κ × V)} {vs : List (κ × Value)} (r : KV kvs vs) (k : κ) {y : V} {u : Value} (ry : RelV y u) :
    KV (kvs.map fun kv=>if kv.1 = k then (kv.1,y) else kv) (vs.map fun kv=>if kv.1 = k then (kv.1,u) else kv):=by
  unfold KV at r ⊢
  induction r with
  | nil=>exact .nil
  | @cons p q ps qs h t ih =>
    rw [List.map_cons,List.map_cons]
    refine .cons ?_ ih
    obtain ⟨h1,h2⟩:=h
    by_cases e : p.1 = k
    · rw [if_pos e,if_pos (h1.symm.trans e)];exact ⟨h1,ry⟩
    · rw [if_neg e,if_neg (fun z=>e (h1.trans z))];exact ⟨h1,h2⟩
theorem KV.put {kvs : List (κ × V)} {vs : List (κ × Value)} (r : KV kvs vs) (k : κ) {y : V} {u : Value} (ry : RelV y u) : KV (putK kvs k y) (stored vs k u):=by
  unfold putK stored
  rw [r.any k]
  by_cases e : (vs.any fun kv=>decide (kv.1 = k)) = true
  · rw [if_pos e,if_pos e];exact r.repl k ry
  · rw [if_neg e,if_neg e];exact Paired.snoc r ⟨rfl,ry⟩
theorem KV.length {kvs : List (κ × V)} {vs : List (κ × Value)} (r : KV kvs vs) : kvs.length = vs.length:=Paired.length r
end
theorem kV_is {P : Program} {w : World} {k : Key} {u : Value} (r : RelV (kV k) u) : (mixKind P w).is k u = true:=by
  cases k with
  | inl i=>obtain ⟨t,e⟩:=(show ∃ t,u = Value.int i t from r);subst e;exact mixKind_int P w i t
  | inr x=>obtain ⟨t,e⟩:=(show ∃ t,u = Value.str x t from r);subst e;exact mixKind_str P w x t
theorem items_are {P : Program} {w : World} : ∀ {ks : List Key} {us : List Value},Vals (ks.map kV) us→ItemsAre (mixKind P w) ks us
  | [],_,r=>by rw [List.map_nil] at r;cases r;exact .nil
  | k::ks,_,r=>by
    rw [List.map_cons] at r
    cases r with
    | cons h t=>exact .cons (kV_is h) (items_are t)
abbrev KT (H : Hp) : List (List Key × V)→List (List Key × Addr × Value)→Prop:=Paired fun p q=>p.1 = q.1∧H q.2.1 = some (.tup (p.1.map kV))∧RelV p.2 q.2.2
theorem KT.val {H : Hp} {kvs : List (List Key × V)} {xs : List (List Key × Addr × Value)} (r : KT H kvs xs) (k : List Key) : RelO (valV kvs k) ((atKey xs k).map (·.2)) := by
  induction r with
  | nil=>exact True.intro
  | @cons p q ps qs h t ih =>
    obtain ⟨h1,_,h2⟩:=h
    by_cases e : p.1 = k
    · have e' : q.1 = k:=h1.symm.trans e
      have b : atKey (q::qs) k = some q.2:=by simp [atKey,List.find?_cons,e']
      rw [valV_pos e,b];exact h2
    · have e' : ¬ q.1 = k:=fun z=>e (h1.trans z)
      have b : atKey (q::qs) k = atKey qs k:=by simp [atKey,List.find?_cons,e']
      rw [valV_neg e,b];exact ih
theorem KT.repl {H : Hp} {kvs : List (List Key × V)} {xs : List (List Key × Addr × Value)} (r : KT H kvs xs) (k : List Key) {y : V} {u : Value} (ry : RelV y u) :
    KT H (kvs.map fun kv=>if kv.1 = k then (kv.1,y) else kv) (xs.map (putAt k u)):=by
  induction r with
  | nil=>exact .nil
  | @cons p q ps qs h t ih =>
    rw [List.map_cons,List.map_cons]
    refine .cons ?_ ih
    obtain ⟨h1,h2,h3⟩:=h
    unfold putAt
    by_cases e : p.1 = k
    · rw [if_pos e,if_pos (h1.symm.trans e)];exact ⟨h1,h2,ry⟩
    · rw [if_neg e,if_neg (fun z=>e (h1.trans z))];exact ⟨h1,h2,h3⟩
theorem KT.put {H : Hp} {kvs : List (List Key × V)} {xs : List (List Key × Addr × Value)} (r : KT H kvs xs) (k : List Key) {b : Addr} {y : V} {u : Value} (hb : H b = some (.tup (k.map kV))) (ry : RelV y u) :
    KT H (putK kvs k y) (storedH xs k b u):=by
  have e : (kvs.any fun kv=>decide (kv.1 = k)) = (atKey xs k).isSome:=by
    rw [valV_any,(r.val k).isSome_eq,Option.isSome_map]
  unfold putK storedH
  rw [e]
  by_cases q : (atKey xs k).isSome = true
  · rw [if_pos q,if_pos q];exact r.repl k ry
  · rw [if_neg q,if_neg q];exact Paired.snoc r ⟨rfl,hb,ry⟩
theorem KT.keeps {H H' : Hp} {kvs : List (List Key × V)} {xs : List (List Key × Addr × Value)} (r : KT H kvs xs) (ht : ∀ b ys,H b = some (.tup ys)→H' b = some (.tup ys)) : KT H' kvs xs :=
  Paired.mapP r fun _ _ z=>⟨z.1,ht _ _ z.2.1,z.2.2⟩
section
variable {P : Program} {w : World} {H : Hp} {h : Heap} {a : Addr}
theorem rd_of {u : HO} (ok : HOk P w H h) (e : Rd H a u) : ObjOk P w H h a u:=e.ok ok
theorem dk_rd {kvs : List (Key × V)} (ok : HOk P w H h) (e : Rd H a (.dK kvs)) : kvs.length≤sizeLine∧(a == sysModules) = false∧∃ vs,KV kvs vs∧h.DictOf (mixKind P w) a vs :=
  show ObjOk P w H h a (.dK kvs) from rd_of ok e
theorem dk_of {kvs : List (Key × V)} (ok : HOk P w H h) (e : H a = some (.dK kvs)) : kvs.length≤sizeLine∧(a == sysModules) = false∧∃ vs,KV kvs vs∧h.DictOf (mixKind P w) a vs:=dk_rd ok (.inl e)
theorem key_of {ks : List Key} (ok : HOk P w H h) (e : H a = some (.tup (ks.map kV))) : (tupleKind (mixKind P w)).is h ks a:=by
  obtain ⟨_,its,r,o,h1,h2,n,h3,_⟩:=(show ObjOk P w H h a (.tup (ks.map kV)) from ok a _ e)
  exact ⟨o,its.toArray,n,h1,h2,h3,by simpa using items_are r⟩
theorem dt_rd {kvs : List (List Key × V)} (ok : HOk P w H h) (e : Rd H a (.dT kvs)) : kvs.length ≤ sizeLine ∧ (a == sysModules) = false ∧
    ∃ xs,KT H kvs xs∧h.DictOfH (tupleKind (mixKind P w)) a xs:=by
  obtain ⟨z,y,xs,r,o,es,ep,h1,h2,h3,h4,h5⟩:=(show ObjOk P w H h a (.dT kvs) from rd_of ok e)
  refine ⟨z,y,xs,r,o,es,ep,h1,h2,h3,h4,fun x hx=>?_,h5⟩
  have all : ∀ {l : List (List Key × V)} {m : List (List Key × Addr × Value)}, KT H l m → ∀ x ∈ m, (tupleKind (mixKind P w)).is h x.1 x.2.1 := by
    intro l m q
    induction q with
    | nil=>intro x hx;exact nomatch hx
    | @cons p q ps qs hq t ih =>
      intro x hx
      rcases List.mem_cons.mp hx with e | hx
      · subst e
        exact key_of ok (by rw [← hq.1];exact hq.2.1)
      · exact ih x hx
  exact all r x hx
theorem dt_of {kvs : List (List Key × V)} (ok : HOk P w H h) (e : H a = some (.dT kvs)) : kvs.length≤sizeLine∧(a == sysModules) = false ∧
    ∃ xs,KT H kvs xs∧h.DictOfH (tupleKind (mixKind P w)) a xs:=dt_rd ok (.inl e)
end
def DGet (H : Hp) (a : Addr) (y : V) (r : Option V) : Prop :=
  (∃ kvs k,Rd H a (.dK kvs)∧y = kV k∧r = valV kvs k)∨∃ kvs k b,Rd H a (.dT kvs)∧y = .ref b∧H b = some (.tup (k.map kV))∧r = valV kvs k
def DPut (H : Hp) (a : Addr) (y v : V) (H' : Hp) : Prop :=
  (∃ kvs k,H a = some (.dK kvs)∧y = kV k∧kvs.length < sizeLine∧H' = upd H a (.dK (putK kvs k v))) ∨
  ∃ kvs k b,H a = some (.dT kvs)∧y = .ref b∧H b = some (.tup (k.map kV))∧kvs.length < sizeLine∧H' = upd H a (.dT (putK kvs k v))
theorem DGet.k {H : Hp} {a : Addr} {kvs : List (Key × V)} {k : Key} (e : H a = some (.dK kvs)) : DGet H a (kV k) (valV kvs k):=.inl ⟨kvs,k,.inl e,rfl,rfl⟩
theorem DGet.t {H : Hp} {a b : Addr} {kvs : List (List Key × V)} {k : List Key} (e : H a = some (.dT kvs)) (eb : H b = some (.tup (k.map kV))) : DGet H a (.ref b) (valV kvs k):=.inr ⟨kvs,k,b,.inl e,rfl,eb,rfl⟩
theorem DPut.k {H : Hp} {a : Addr} {kvs : List (Key × V)} {k : Key} {v : V} (e : H a = some (.dK kvs)) (hl : kvs.length < sizeLine) : DPut H a (kV k) v (upd H a (.dK (putK kvs k v))):=.inl ⟨kvs,k,e,rfl,hl,rfl⟩
theorem DPut.t {H : Hp} {a b : Addr} {kvs : List (List Key × V)} {k : List Key} {v : V} (e : H a = some (.dT kvs)) (eb : H b = some (.tup (k.map kV))) (hl : kvs.length < sizeLine) :
    DPut H a (.ref b) v (upd H a (.dT (putK kvs k v))):=.inr ⟨kvs,k,b,e,rfl,eb,hl,rfl⟩
section
variable {X : Cx} {pins : List (Addr × Obj)} {σ : St} {H : Hp} {s : Shared} {a : Addr} {y v : V} {u r : Value} {o : Option V} {A : Around} {E : Value→Shared→Prop}
theorem Inv.big (I : Inv X pins σ H s) : sysModules < s.heap.objs.size:=by
  have h : mainGlobals < s.heap.objs.size:=(I.mod.glob.keeps I.bk).lt
  exact Nat.lt_trans (by decide) h
theorem d_getItem {Q : Value→Shared→Prop} (hu : A.units + 1 < cLine) (I : Inv X pins σ H s) (g : DGet H a y (some v)) (ry : RelV y u) (h : ∀ w' s',Inv X pins σ H s'→RelV v w'→Q w' s') :
    wpAny (model X.prog X.w) A (getItem (.ref a) u) Q E s:=by
  rcases g with ⟨kvs,k,e,ey,l⟩ | ⟨kvs,k,b,e,ey,eb,l⟩
  · subst ey
    obtain ⟨z,hd,vs,rel,dd⟩:=dk_rd I.hok e
    obtain ⟨w',hw,rw'⟩:=RelO.some_of (v:=v) (o:=valueAt vs k) (by rw [l];exact rel.val k)
    exact wpAny_getItem_of (kV_is ry) dd.mapOf hw (h w' _ (I.tok _) rw')
  · subst ey
    cases (show u = Value.ref b from ry)
    obtain ⟨z,hd,xs,rel,dd⟩:=dt_rd I.hok e
    obtain ⟨w',hw,rw'⟩:=RelO.some_of (v:=v) (o:=(atKey xs k).map (·.2)) (by rw [l];exact rel.val k)
    obtain ⟨p,hp,hp2⟩:=Option.map_eq_some_iff.mp hw
    refine wpAny_getItem_heap (tupleKind_room_in1 hu) (key_of I.hok eb) dd hp ?_
    rw [hp2]
    exact h w' _ (I.tok _) rw'
theorem d_in {Q : Value→Shared→Prop} (hu : A.units + 1 < cLine) (I : Inv X pins σ H s) (g : DGet H a y o) (ry : RelV y u) (h : ∀ s',Inv X pins σ H s'→Q (.bool o.isSome) s') :
    wpAny (model X.prog X.w) A (compareOp .In u (.ref a)) Q E s:=by
  rcases g with ⟨kvs,k,e,ey,l⟩ | ⟨kvs,k,b,e,ey,eb,l⟩
  · subst ey
    obtain ⟨z,hd,vs,rel,dd⟩:=dk_rd I.hok e
    refine wpAny_in_of (kV_is ry) hd dd.mapOf ?_
    rw [← (rel.val k).isSome_eq,← l]
    exact h _ (I.tok _)
  · subst ey
    cases (show u = Value.ref b from ry)
    obtain ⟨z,hd,xs,rel,dd⟩:=dt_rd I.hok e
    refine wpAny_in_heap (tupleKind_room_in1 hu) (key_of I.hok eb) hd dd ?_
    have q:=(rel.val k).isSome_eq
    rw [Option.isSome_map] at q
    rw [← q,← l]
    exact h _ (I.tok _)
theorem d_notIn {Q : Value→Shared→Prop} (hu : A.units + 1 < cLine) (I : Inv X pins σ H s) (g : DGet H a y o) (ry : RelV y u) (h : ∀ s',Inv X pins σ H s'→Q (.bool (!o.isSome)) s') :
    wpAny (model X.prog X.w) A (compareOp .NotIn u (.ref a)) Q E s:=by
  rcases g with ⟨kvs,k,e,ey,l⟩ | ⟨kvs,k,b,e,ey,eb,l⟩
  · subst ey
    obtain ⟨z,hd,vs,rel,dd⟩:=dk_rd I.hok e
    refine wpAny_notIn_of (kV_is ry) hd dd.mapOf ?_
    rw [← (rel.val k).isSome_eq,← l]
    exact h _ (I.tok _)
  · subst ey
    cases (show u = Value.ref b from ry)
    obtain ⟨z,hd,xs,rel,dd⟩:=dt_rd I.hok e
    refine wpAny_notIn_heap (tupleKind_room_in1 hu) (key_of I.hok eb) hd dd ?_
    have q:=(rel.val k).isSome_eq
    rw [Option.isSome_map] at q
    rw [← q,← l]
    exact h _ (I.tok _)
theorem d_write {h' : Heap} {t' : Nat} {ob : HO} (I : Inv X pins σ H s) (mu : Mut (H a)) (hs : Heap.SameBut a s.heap h') (he : ∃ q,h'.get? a = some q) (new : ObjOk X.prog X.w (upd H a ob) h' a ob) :
    Inv X pins σ (upd H a ob) { s with heap:=h',toks:=t' } :=
  I.write (x:=a) (e:=a) mu (.inl rfl) (fun b q hb z=>(hs.2 b hb).trans z) he new
theorem dk_new {P : Program} {w : World} {H' : Hp} {h' : Heap} {kvs : List (Key × V)} {vs : List (Key × Value)} (z : kvs.length≤sizeLine) (hd : (a == sysModules) = false) (rel : KV kvs vs) (dd : h'.DictOf (mixKind P w) a vs) :
    ObjOk P w H' h' a (.dK kvs):=⟨z,hd,vs,rel,dd⟩
theorem d_setItem {H' : Hp} {Q : Unit→Shared→Prop} (hu : A.units + 1 < cLine) (I : Inv X pins σ H s) (g : DPut H a y v H') (ry : RelV y u) (rv : RelV v r) (h : ∀ s',Inv X pins σ H' s'→Q () s') :
    wpAny (model X.prog X.w) A (setItem (.ref a) u r) Q E s:=by
  rcases g with ⟨kvs,k,e,ey,l,eH⟩ | ⟨kvs,k,b,e,ey,eb,l,eH⟩
  · subst ey eH
    obtain ⟨z,hd,vs,rel,dd⟩:=dk_of I.hok e
    have hz : vs.length≤sizeLine:=by rw [← rel.length];exact z
    have hl : (putK kvs k v).length≤sizeLine:=by have:=length_putK kvs k v;omega
    refine wpAny_setItem_pairs (hsz:=hz) (kV_is ry) dd fun h' dd' hs=>h _ ?_
    have he : ∃ q,h'.get? a = some q:=let ⟨q,_,_,hq,_⟩:=dd';⟨q,hq⟩
    exact d_write I (by rw [e];exact True.intro) hs he (dk_new hl hd (rel.put k rv) dd')
  · subst ey eH
    cases (show u = Value.ref b from ry)
    obtain ⟨z,hd,xs,rel,dd⟩:=dt_of I.hok e
    have hz : xs.length≤sizeLine:=by rw [← Paired.length rel];exact z
    have hl : (putK kvs k v).length≤sizeLine:=by have:=length_putK kvs k v;omega
    refine wpAny_setItem_heap (hsz:=hz) (tupleKind_room_in1 hu) (key_of I.hok eb) dd fun h' dd' hs=>h _ ?_
    obtain ⟨q,es,ep,hq,h2,h3,h4,_,h5⟩:=dd'
    refine d_write I (by rw [e];exact True.intro) hs ⟨q,hq⟩ ⟨hl,hd,_,(rel.put k eb rv).keeps fun c ys ec=>?_,q,es,ep,hq,h2,h3,h4,h5⟩
    rw [upd_ne (ne_of ec e (fun z=>nomatch z))]
    exact ec
end
section
variable {X : Cx} {pins : List (Addr × Obj)} {σ : St} {H : Hp} {s : Shared} {a : Addr} {kvs : List (Key × V)} {k : Key} {u : Value} {A : Around} {E : Value→Shared→Prop}
theorem d_len {Q : Value→Shared→Prop} (I : Inv X pins σ H s) (e : Rd H a (.dK kvs)) (h : ∀ t s',Inv X pins σ H s'→Q (.int kvs.length t) s') : wpAny (model X.prog X.w) A (call (.builtin "len") [.ref a]) Q E s:=by
  obtain ⟨z,hd,vs,rel,dd⟩:=dk_rd I.hok e
  refine call_len_dict hd dd (by rw [← rel.length];rw [sizeLine_eq] at z;omega) ?_
  rw [← rel.length]
  exact h _ _ (I.tok _)
end
theorem dict_typeIs {X : Cx} {pins : List (Addr × Obj)} {σ : St} {H : Hp} {s : Shared} {a : Addr} {y : V} {o : Option V} (I : Inv X pins σ H s) (g : DGet H a y o) : s.TypeIs (.ref a) "dict":=by
  rcases g with ⟨kvs,k,e,_,_⟩ | ⟨kvs,k,b,e,_,_,_⟩
  · obtain ⟨_,_,vs,_,dd⟩:=dk_rd I.hok e
    exact dd.typeIs
  · obtain ⟨_,_,xs,_,dd⟩:=dt_rd I.hok e
    exact dd.typeIs
theorem dk_empty {P : Program} {w : World} {H : Hp} (h : Heap) (hb : sysModules < h.objs.size) : ObjOk P w H (h.push { cls:=.type "dict",data:=.dict #[] }) h.objs.size (.dK []) :=
  ⟨Nat.zero_le _,beq_eq_false_iff_ne.mpr (Ne.symm (Nat.ne_of_lt hb)),[],.nil,Heap.DictOf.new h⟩
theorem dt_empty {P : Program} {w : World} {H : Hp} (h : Heap) (hb : sysModules < h.objs.size) : ObjOk P w H (h.push { cls:=.type "dict",data:=.dict #[] }) h.objs.size (.dT []) :=
  ⟨Nat.zero_le _,beq_eq_false_iff_ne.mpr (Ne.symm (Nat.ne_of_lt hb)),[],.nil,_,#[],0,Heap.get?_push_size _ rfl,⟨rfl,rfl,rfl⟩,rfl,rfl,List.nodup_nil⟩
def tDNewK : TE:=fun _ H Q=>∀ p,H p = none→Q (.ref p) (upd H p (.dK []))
def tDNewT : TE:=fun _ H Q=>∀ p,H p = none→Q (.ref p) (upd H p (.dT []))
section
variable {X : Cx} {pos : Pos}
theorem pe_dnewK : PE X (.Dict [] [] pos) tDNewK:=fun pins s σ H Q I h =>
  wpAny_Dict_empty ⟨.ref s.heap.objs.size,_,I.laid (a:=s.heap.objs.size) (o:=.dK []) (t':=s.toks) (fun _ _ q=>Heap.get?_push_of_some _ q) (Nat.le_refl _) (dk_empty s.heap I.big),rfl,h _ (I.hok.fresh (Nat.le_refl _))⟩
theorem pe_dnewT : PE X (.Dict [] [] pos) tDNewT:=fun pins s σ H Q I h =>
  wpAny_Dict_empty ⟨.ref s.heap.objs.size,_,I.laid (a:=s.heap.objs.size) (o:=.dT []) (t':=s.toks) (fun _ _ q=>Heap.get?_push_of_some _ q) (Nat.le_refl _) (dt_empty s.heap I.big),rfl,h _ (I.hok.fresh (Nat.le_refl _))⟩
end
def tPairs : List (TE × TE)→St→Hp→(List (V × V)→Hp→Prop)→Prop
  | [],_,H,Q=>Q [] H
  | (tk,tv)::r,σ,H,Q=>tk σ H fun x H1=>tv σ H1 fun y H2=>tPairs r σ H2 fun ps H3=>Q ((x,y)::ps) H3
abbrev VV : List (V × V)→List (Value × Value)→Prop:=Paired fun p q=>RelV p.1 q.1∧RelV p.2 q.2
def PPs (X : Cx) (pos : Pos) (keys : List (Option Expr)) (values : List Expr) (trs : List (TE × TE)) : Prop :=
  ∀ (pins : List (Addr × Obj)) (s : Shared) (σ : St) (H : Hp) (Q : List (V × V)→Hp→Prop),Inv X pins σ H s→tPairs trs σ H Q →
    wpAny (model X.prog X.w) X.A (evalPairs (pairTrees keys values X.env pos)) (fun vs s'=>∃ ps H',Inv X pins σ H' s'∧VV ps vs∧Q ps H') X.xe s
theorem pps_nil {X : Cx} {pos : Pos} : PPs X pos [] [] []:=fun pins s σ H Q I h=>pairTrees_nil_walk ⟨[],H,I,.nil,h⟩
theorem pps_cons {X : Cx} {pos : Pos} {k v : Expr} {ks : List (Option Expr)} {vs : List Expr} {tk tv : TE} {trs : List (TE × TE)} (hk : PE X k tk) (hv : PE X v tv) (hr : PPs X pos ks vs trs) :
    PPs X pos (some k::ks) (v::vs) ((tk,tv)::trs):=fun pins s σ H Q I h =>
  pairTrees_cons_walk (thn (hk pins s σ H _ I h) fun u s1 ⟨x,H1,I1,rx,q1⟩=>thn (hv pins s1 σ H1 _ I1 q1) fun w2 s2 ⟨y,H2,I2,ry,q2⟩ =>
    thn (hr pins s2 σ H2 _ I2 q2) fun ws s3 ⟨ps,H3,I3,rel,q3⟩=>⟨(x,y)::ps,H3,I3,.cons ⟨rx,ry⟩ rel,q3⟩)
def mergeK (kvs more : List (Key × V)) : List (Key × V):=more.foldl (fun acc kv=>putK acc kv.1 kv.2) kvs
theorem KV.merge : ∀ {more : List (Key × V)} {rs : List (Key × Value)} {kvs : List (Key × V)} {vs : List (Key × Value)}, KV more rs → KV kvs vs → KV (mergeK kvs more) (merged vs rs) := by
  intro more rs kvs vs r
  unfold KV at r
  induction r generalizing kvs vs with
  | nil=>intro q;exact q
  | @cons p q ps qs h t ih =>
    intro r0
    have e : KV (putK kvs p.1 p.2) (stored vs q.1 q.2):=by
      have:=r0.put p.1 h.2
      rw [← h.1];exact this
    exact ih e
theorem length_mergeK : ∀ (more kvs : List (Key × V)),(mergeK kvs more).length≤kvs.length + more.length
  | [],kvs=>by show kvs.length≤kvs.length + 0;omega
  | p::r,kvs=>by
    have h1:=length_mergeK r (putK kvs p.1 p.2)
    have h2:=length_putK kvs p.1 p.2
    show (mergeK (putK kvs p.1 p.2) r).length≤_
    rw [List.length_cons];omega
theorem carries_of {P : Program} {w : World} : ∀ {kvs : List (Key × V)} {ws : List (Value × Value)}, VV (kvs.map fun kv => (kV kv.1, kv.2)) ws → ∃ rs, Carries (mixKind P w) ws rs ∧ KV kvs rs
  | [],_,r=>by rw [List.map_nil] at r;cases r;exact ⟨[],True.intro,.nil⟩
  | p::kvs,_,r=>by
    rw [List.map_cons] at r
    cases r with
    | @cons a b as bs h t =>
      obtain ⟨rs,c,q⟩:=carries_of (P:=P) (w:=w) t
      obtain ⟨b1,b2⟩:=b
      exact ⟨(p.1,b2)::rs,⟨kV_is h.1,rfl,c⟩,.cons ⟨rfl,h.2⟩ q⟩
def tDisp (trs : List (TE × TE)) : TE:=fun σ H Q=>∀ p,H p = none→tPairs trs σ (upd H p (.dK [])) fun ps H2=>H2 p = some (.dK [])∧∃ kvs : List (Key × V),ps = kvs.map (fun kv=>(kV kv.1,kv.2))∧kvs.length≤15∧Q (.ref p) (upd H2 p (.dK (mergeK [] kvs)))
theorem pe_disp {X : Cx} {pos : Pos} {keys : List (Option Expr)} {values : List Expr} {trs : List (TE × TE)} (h : PPs X pos keys values trs) (hall : keys.all (·.isSome) = true) (hl : keys.length = values.length) (h0 : keys≠[])
    (h15 : keys.length≤15) : PE X (.Dict keys values pos) (tDisp trs):=by
  intro pins s σ H Q I q
  have hn:=I.hok.fresh (Nat.le_refl s.heap.objs.size)
  have I1:=I.laid (a:=s.heap.objs.size) (o:=.dK []) (h':=s.heap.push { cls:=.type "dict",data:=.dict #[] }) (t':=s.toks) (fun _ _ q=>Heap.get?_push_of_some _ q) (Nat.le_refl _) (dk_empty s.heap I.big)
  refine wpAny_Dict_walk (knd:=mixKind X.prog X.w) hall hl h0 h15 (thn (h pins _ σ _ _ I1 (q _ hn)) fun ws s2 ⟨ps,H2,I2,rel,e,kvs,ep,lk,q2⟩=>?_)
  subst ep
  obtain ⟨rs,c,rk⟩:=carries_of (P:=X.prog) (w:=X.w) rel
  obtain ⟨z,hd,vs0,r0,dd⟩:=dk_of I2.hok e
  cases r0
  refine ⟨rs,c,dd,fun h' dd' hs=>⟨.ref s.heap.objs.size,_,?_,rfl,q2⟩⟩
  have hz : (mergeK [] kvs).length≤sizeLine:=by
    have h1:=length_mergeK kvs []
    rw [List.length_nil] at h1
    rw [sizeLine_eq];omega
  have he : ∃ q,h'.get? s.heap.objs.size = some q:=let ⟨q,_,_,hq,_⟩:=dd';⟨q,hq⟩
  exact d_write I2 (by rw [e];exact True.intro) hs he (dk_new hz hd (rk.merge .nil) dd')
structure M1 (X : Cx) (o : Expr) (m : Str) (apos : Pos) (e : Expr) (cpos : Pos) : Prop where
  base : attributeBase o m X.env (eval o X.env) = eval o X.env
  few : ((backTo cpos (starEach [e] X.env)).all (fun x=>!x.1) && (backToKw cpos (keywordEach [] X.env)).all (fun x=>x.1.isSome)
    && decide (([e] : List Expr).length + ([] : List Keyword).length + (if ([] : List Keyword).isEmpty then 0 else 1) < 30)) = true
  line : (apos.endLine == cpos.line) = true
  trees : backTo cpos (starEach [e] X.env) = [(false,eval e X.env)]
def IsD (H : Hp) (a : Addr) : Prop:=(∃ kvs,Rd H a (.dK kvs))∨∃ kvs,Rd H a (.dT kvs)
theorem isD_at {X : Cx} {pins : List (Addr × Obj)} {σ : St} {H : Hp} {s : Shared} {a : Addr} (I : Inv X pins σ H s) (d : IsD H a) :
    s.TypeIs (.ref a) "dict"∧(∀ b,Value.ref a = .ref b→∃ ob,s.heap.get? b = some ob∧ob.dict = none)∧(a == sysModules) = false:=by
  rcases d with ⟨kvs,e⟩ | ⟨kvs,e⟩
  · obtain ⟨_,hd,vs,_,dd⟩:=dk_rd I.hok e
    refine ⟨dd.typeIs,fun b q=>?_,hd⟩
    cases q
    obtain ⟨ob,_,_,h1,h2,_⟩:=dd
    exact ⟨ob,h1,h2.2.1⟩
  · obtain ⟨_,hd,xs,_,dd⟩:=dt_rd I.hok e
    refine ⟨dd.typeIs,fun b q=>?_,hd⟩
    cases q
    obtain ⟨ob,_,_,h1,h2,_⟩:=dd
    exact ⟨ob,h1,h2.2.1⟩
section
variable {X : Cx} {pins : List (Addr × Obj)} {σ : St} {H : Hp} {s : Shared} {a : Addr} {y d : V} {u r : Value} {o : Option V} {A : Around} {E : Value→Shared→Prop}
theorem d_get1 {Q : Value→Shared→Prop} (hu : A.units + 1 < cLine) (I : Inv X pins σ H s) (g : DGet H a y o) (ry : RelV y u) (h : ∀ w' s',Inv X pins σ H s'→RelV (o.getD .non) w'→Q w' s') :
    wpAny (model X.prog X.w) A (call (.builtin "dict.get") [.ref a,u]) Q E s:=by
  rcases g with ⟨kvs,k,e,ey,l⟩ | ⟨kvs,k,b,e,ey,eb,l⟩
  · subst ey
    obtain ⟨z,hd,vs,rel,dd⟩:=dk_rd I.hok e
    refine call_meetsIn PySem.F.slot_dict_get dd.typeIs PySem.F.entry_dict_get (PySem.F.args_dict_get_2 _ _) (meets_dict_get (mixKind X.prog X.w) a (kV_is ry) hd) ⟨_,dd.mapOf,h _ _ (I.tok _) ?_⟩
    rw [l]
    exact (rel.val k).getD rfl
  · subst ey
    cases (show u = Value.ref b from ry)
    obtain ⟨z,hd,xs,rel,dd⟩:=dt_rd I.hok e
    refine call_meetsIn PySem.F.slot_dict_get dd.typeIs PySem.F.entry_dict_get (PySem.F.args_dict_get_2 _ _) (meetsH_dict_get (tupleKind (mixKind X.prog X.w)) a b hd) ⟨tupleKind_room_in1 hu,k,xs,key_of I.hok eb,dd,h _ _ (I.tok _) ?_⟩
    rw [l]
    exact (rel.val k).getD rfl
end
def tDGet1 (td ty : TE) : TE:=fun σ H Q=>td σ H fun x H1=>∃ a,x = .ref a∧IsD H1 a∧ty σ H1 fun y H2=>∃ o,DGet H2 a y o∧Q (o.getD .non) H2
section
variable {X : Cx} {o e f : Expr} {apos cpos : Pos} {td ty tx : TE}
theorem pe_dget1 (hu : X.A.units + 1 < cLine) (ho : PE X o td) (he : PE X e ty) (m : M1 X o "get" apos e cpos) : PE X (.Call (.Attribute o "get" apos) [e] [] cpos) (tDGet1 td ty):=by
  intro pins s σ H Q I h
  refine wpAny_Call_method m.base m.few m.line PySem.F.plainAttrs_dict PySem.F.slot_dict_get PySem.F.type_dict_get (thn (ho pins s σ H _ I h) fun u s1 ⟨x,H1,I1,rx,a,ex,d,q1⟩=>?_)
  subst ex
  obtain rfl : u = Value.ref a:=rx
  obtain ⟨t1,t2,_⟩:=isD_at I1 d
  refine ⟨t1,t2,?_⟩
  rw [m.trees]
  refine Calls.callWith_builtin rfl (Calls.evalArgs_plain (Calls.spliced_cons (thn (he pins s1 σ H1 _ I1 q1) fun iv s2 ⟨y,H2,I2,ry,ov,g,q2⟩=>Calls.spliced_nil ?_)))
  exact d_get1 hu I2 g ry fun w' s3 I3 rw'=>⟨_,H2,I3,rw',q2⟩
end
end L2
namespace Att
open PySem PySem.W PySem.Calls PyProof.Rows
theorem ints_of_wellAll {P : Params} {h : Heap} : ∀ (ns : List Int) (vs : List Value), WellAll P h vs (ns.map WData.int) → IntsAre vs ns := by
  intro ns
  induction ns with
  | nil =>
    intro vs w
    rw [List.map_nil] at w
    cases w
    exact .nil
  | cons n ns ih =>
    intro vs w
    rw [List.map_cons] at w
    cases w with
    | cons a b =>
      cases a
      exact .cons _ _ (ih _ b)
theorem script_of {l : OpenLaw} {n : Nat} (hn : l.most = some n) {P : Params} {h : Heap} {args : List WData} {vals : List Value}
    (hpre : l.row.toRowW.claim.pre args = true) (hwl : WellAll P h vals args) :
    ∃ a vs ns,vals = [Value.ref a]∧args = [WData.list (ns.map WData.int)]∧h.get? a = some { cls:=.type "list",data:=.seq vs.toArray }∧IntsAre vs ns∧ns.length≤n:=by
  have hsh : WShape.hasAll [] args [.list .int] = true:=(pre_splitW hpre).1
  have hc : l.pre.holds [] { args:=args } = true:=(pre_splitW hpre).2
  obtain ⟨d,r,rfl,h1,h2⟩:=hasAllW_cons hsh
  obtain rfl:=hasAllW_nil h2
  obtain ⟨xs,rfl,h3⟩:=hasW_list h1
  obtain ⟨ns,rfl⟩:=items_int h3
  have hlen : ns.length≤n:=by
    unfold OpenLaw.pre at hc
    have h4 : (WTm.not (.lt (.lit (.int (n : Int))) (.len (.arg 0)))).holds [] { args:=[.list (ns.map .int)] } = true:=by
      have h4:=(holds_andW hc).1
      rw [hn] at h4
      exact h4
    have h5:=condW_of h4 (w_not (w_lt w_lit (w_len_list (w_arg rfl))))
    rw [List.length_map] at h5
    refine Nat.le_of_not_lt fun q=>?_
    have q' : (n : Int) < ((ns.length : Nat) : Int):=by omega
    first
      | (rw [decide_eq_true q'] at h5;exact absurd h5 (by decide))
      | (simp at h5;omega)
  cases hwl with
  | cons w1 w2 =>
    cases w2
    cases w1 with
    | list ho hall=>exact ⟨_,_,ns,rfl,rfl,ho,ints_of_wellAll ns _ hall,hlen⟩
theorem post_true (l : OpenLaw) (args : List WData) : l.row.toRowW.claim.post args (.bool true) args = true :=
  postW_of (r:=l.row.toRowW) (X:=(true == true))
    (show WShape.has [] (.bool true) .bool = true by first | rfl | decide | simp [WShape.has,WShape.arms,WShape.armsAll])
    (show (WTm.eq .res (.lit (.bool true))).value [] { args:=args,res:=some (.bool true),after:=args } = some (.bool (true == true)) from w_eq_bool (w_res rfl) w_lit) rfl
theorem attach_call {l : OpenLaw} {n : Nat} {q : Program} {loose : List Str} {XP : (Str → Option Value) → Heap → Prop} {YP : World → Heap → Prop} {d : DefRec}
    (hn : l.most = some n) (hdf : d.params.defaults = [])
    (call : ∀ (w : World) (s₀ s₁ : Shared) (mg mb : Str→Option Value) (fa : Addr) (o : Obj) (pm cd doc : Value) (a : Addr) (vs : List Value) (ns : List Int),
      Ground q loose [] XP w s₀ mg mb s₁.heap→YP w s₁.heap →
      s₁.heap.get? fa = some o→o.data = .func (docDef d.name d.params d.body d.scope pm cd doc)→s₁.heap.CodeRec cd d.name→mg d.name = some (.ref fa) →
      s₁.heap.get? a = some { cls:=.type "list",data:=.seq vs.toArray }→IntsAre vs ns→ns.length≤n→s₁.gens = #[] →
      codeAny (model l.prog w) callerA (.call (.ref fa) ⟨[.ref a],[]⟩) (fun r s'=>r = .ok (.ret (.bool true))∧OldK s₁.heap s'.heap∧s'.os = s₁.os∧AllBare s'.gens) s₁) :
    WalkO q loose XP YP l.row.toRowW d [] (fun f vs=>PySem.call f vs):=by
  intro w s₀ s₁ mg mb G Y fa o pm cd doc dV kV ho hd hcd hD hmg hg args vals as hpre hlay hrd hwl hlo
  obtain rfl : dV = .none:=Dflts.none hD hdf
  obtain rfl : kV = .none:=Dflts.noKw hD
  obtain ⟨a,vs,ns,rfl,rfl,hobj,hints,hlen⟩:=script_of hn hpre hwl
  refine enter_call (codeAny_mono (call w s₀ s₁ mg mb fa o pm cd doc a vs ns G Y ho (fd_plain hd) hcd hmg hobj hints hlen hg) fun r s' hq=>?_)
  obtain ⟨rfl,h2,h3,h4⟩:=hq
  exact ⟨.inl ⟨.bool true,.bool true,[],rfl,fun _=>rfl,.bool true,post_true l _,fun _=>⟨List.Pairwise.nil,fun _ hm=>(nomatch hm)⟩⟩,h2,h3,h4⟩
end Att
namespace L2
open PySem PySem.Spec PyProof.Rows
theorem vals_ints : ∀ {vs : List Value} {ns : List Int},IntsAre vs ns→Vals (ns.map V.int) vs
  | _,_,.nil=>.nil
  | _,_,.cons n t h=>.cons ⟨t,rfl⟩ (vals_ints h)
def Only (H : Hp) : Prop:=∀ b,H b = none∨∃ o xs,H b = some (.frz o (.lst xs))
theorem law_call {P : Program} {w : World} {K : PySem.W.Frag} {mg mb : Str → Option Value} {CX : CXT} {k : Nat} {fa a : Addr} {fd : FuncData} {x : Str} {sp : Sp} {s₁ : Shared} {vs : List Value} {ns : List Int}
    (KX : K.In s₁.heap) (hns : s₁.heap.Ns mainGlobals mg) (hb : s₁.heap.Ns builtinsNs mb) (hbb : ∀ x : Str,x≠"__name__"→mb x = bootBuiltins x) (hlim : s₁.heap.NoLimit) (hg : s₁.gens = #[])
    (ha : s₁.heap.get? a = some { cls:=.type "list",data:=.seq vs.toArray }) (hi : IntsAre vs ns) (hl : ns.length≤sizeLine) (hr : Room k callerA)
    (F : ∀ base : Heap,K.In base→base.Ns mainGlobals mg→FnOk P w K mg base CX k fa fd [x] sp) (hbind : ∀ (s : Shared) (u : Value),BindsTo s fd ⟨[u],[]⟩ [(x,u)])
    (hsp : ∀ H : Hp,Only H→SqL K H a (ns.map V.int)→sp [.ref a] H (fun v _=>v = .bl true) fun _ _ _=>False)
    (hCX : ∀ H e s',CX [] H s₁ (fun _ _ _=>False) e s'→False) :
    codeAny (model P w) callerA (.call (.ref fa) ⟨[.ref a],[]⟩) (fun r s'=>r = .ok (.ret (.bool true))∧OldK s₁.heap s'.heap∧s'.os = s₁.os∧AllBare s'.gens) s₁:=by
  have rv:=vals_ints hi
  have lenV:=hi.length
  have core : ∀ H : Hp, Only H → SqL K H a (ns.map V.int) → HOk P w H s₁.heap → (∀ b, H b ≠ none → b = a) → (H a ≠ none → K.lookup a = none) →
      codeAny (model P w) callerA (.call (.ref fa) ⟨[.ref a],[]⟩) (fun r s'=>r = .ok (.ret (.bool true))∧OldK s₁.heap s'.heap∧s'.os = s₁.os∧AllBare s'.gens) s₁:=by
    intro H hO hS hok hA hK
    have base_of : ∀ {b : Addr} {o : Obj},s₁.heap.get? b = some o→H b = none→(hidT s₁.heap H).get? b = some o:=fun e n=>hidT_get e n
    have noA : ∀ {b : Addr} {o : Obj} {es : Array DictEntry} {ep : Nat},s₁.heap.get? b = some o→o.data = .dict es ep→H b = none:=fun {b o es ep} e d=>by
      cases q : H b with
      | none=>rfl
      | some u =>
        have e' : b = a:=hA b (by rw [q];simp)
        subst e'
        rw [ha] at e;cases e
        have d' : Data.seq vs.toArray _ = Data.dict es ep:=d
        cases d'
    have nsK : ∀ {b : Addr} {m : Str→Option Value},s₁.heap.Ns b m→(hidT s₁.heap H).Ns b m:=fun {b m} ⟨o,es,ep,e,d,r⟩=>⟨o,es,ep,base_of e (noA e d),d,r⟩
    have hKb : K.In (hidT s₁.heap H):=fun b o e=>base_of (KX b o e) (by
      cases q : H b with
      | none=>rfl
      | some u =>
        have e' : b = a:=hA b (by rw [q];simp)
        subst e'
        rw [hK (by rw [q];simp)] at e;cases e)
    have hM : Mod K mg (hidT s₁.heap H):=⟨hKb,nsK hns,⟨mb,nsK hb,hbb⟩,let ⟨mc,h1,h2⟩:=hlim;⟨mc,nsK h1,h2⟩⟩
    have e0 : Env0 P w K mg (hidT s₁.heap H) callerA [] s₁ H:=⟨rfl,hM,fun b o e=>of_hidT e,Nat.le_of_eq (hidT_size _ _),trivial,fun b hb=>absurd (show b∈([] : List Addr) from hb) (by simp),hok,.of_eq hg⟩
    refine codeAny_mono ((F _ hKb (nsK hns)).run callerA [] s₁ H ⟨[.ref a],[]⟩ [.ref a] [.ref a] _ _ hr e0 (hbind s₁ (.ref a)) (.cons rfl .nil) (hsp H hO hS)) fun r s' h=>?_
    cases r with
    | error e=>exact (hCX H e s' h).elim
    | ok fl =>
      cases fl with
      | next=>exact False.elim h
      | brk=>exact False.elim h
      | cont=>exact False.elim h
      | ret u =>
        obtain ⟨v,H',os,bare,un,hok',r',q⟩:=h
        have q' : v = .bl true:=q
        subst q'
        obtain rfl : u = Value.bool true:=r'
        refine ⟨rfl,OldK.of_keep fun b o e=>?_,os,bare⟩
        cases q : H b with
        | none=>exact un.keep b o e q (by intro z;exact absurd (show b∈([] : List Addr) from z) (by simp)) (by simp)
        | some u =>
          rcases hO b with z | ⟨ob,xs,z⟩
          · rw [q] at z;cases z
          · have z2:=un.frzs b ob _ z
            obtain ⟨e1,_⟩:=hok b _ z
            obtain ⟨e2,_⟩:=hok' b _ z2
            rw [e] at e1;cases e1
            exact e2
  cases hk : K.lookup a with
  | some o =>
    have e:=KX a o hk
    rw [ha] at e
    cases e
    refine core (fun _=>none) (fun _=>.inl rfl) (.inr ⟨_,vs.toArray,_,hk,rfl,rfl,rfl,by rw [List.size_toArray,lenV];exact hl,by simpa using rv⟩) (fun b u z=>by have z' : (none : Option HO) = some u:=z;cases z') (fun b z=>absurd rfl z) fun z=>absurd rfl z
  | none =>
    refine core (fun b=>if b = a then some (.frz { cls:=.type "list",data:=.seq vs.toArray } (.lst (ns.map V.int))) else none) (fun b=>?_) (.inl (.inr ⟨{ cls:=.type "list",data:=.seq vs.toArray },if_pos rfl⟩)) (fun b u z=>?_) (fun b z=>?_) fun _=>hk
    · by_cases hb : b = a
      · exact .inr ⟨_,_,if_pos hb⟩
      · exact .inl (if_neg hb)
    · by_cases hb : b = a
      · have z':=(if_pos hb).symm.trans z
        cases z'
        subst hb
        exact ⟨ha,by rw [List.length_map];exact hl,vs,_,rv,ha⟩
      · have z':=(if_neg hb).symm.trans z
        cases z'
    · by_cases hb : b = a
      · exact hb
      · exact absurd (if_neg hb) z
end L2
namespace L2
open PySem PySem.Spec PyProof.Rows
theorem walk_of {l : PySem.W.OpenLaw} {n k : Nat} {q : Program} {loose : List Str} {XP : (Str → Option Value) → Heap → Prop} {YP : World → Heap → Prop} {d : DefRec} {K : Params → PySem.W.Frag} {CX : World → CXT} {sp : World → Sp} {x : Str}
    (hn : l.most = some n) (hn2 : n≤sizeLine) (hdf : d.params.defaults = []) (hr : Room k callerA)
    (hY : ∀ (w : World) (h : Heap),YP w h→(K w.params).In h)
    (F : ∀ (w : World) (mg : Str→Option Value) (fa : Addr) (h : Heap),(K w.params).In h→h.Ns mainGlobals mg→mg d.name = some (.ref fa) →
      ∃ fd : FuncData,(∀ (s : Shared) (u : Value),BindsTo s fd ⟨[u],[]⟩ [(x,u)]) ∧
        ∀ base : Heap,(K w.params).In base→base.Ns mainGlobals mg→FnOk l.prog w (K w.params) mg base (CX w) k fa fd [x] (sp w))
    (hsp : ∀ (w : World) (H : Hp) (a : Addr) (ns : List Int),ns.length≤n→Only H→SqL (K w.params) H a (ns.map V.int)→sp w [.ref a] H (fun v _=>v = .bl true) fun _ _ _=>False)
    (hCX : ∀ (w : World) (H : Hp) (s : Shared) (e : Value) (s' : Shared),CX w [] H s (fun _ _ _=>False) e s'→False) :
    PySem.W.WalkO q loose XP YP l.row.toRowW d [] (fun f vs=>PySem.call f vs):=by
  refine Att.attach_call hn hdf fun w s₀ s₁ mg mb fa o pm cd doc a vs ns G Y ho hd hcd hmg hobj hints hlen hg=>?_
  have KX:=hY w _ Y
  obtain ⟨fd,hb,hF⟩:=F w mg fa _ KX G.T.g hmg
  exact law_call KX G.T.g G.T.b G.T.builtins G.T.nolimit hg hobj hints (Nat.le_trans hlen hn2) hr hF hb (fun H hO hS=>hsp w H a ns hlen hO hS) fun H e s'=>hCX w H s₁ e s'
end L2
namespace L2
open PySem PySem.Spec PyProof.Rows
def defArgs (s : Stmt) : Arguments:=match s with
  | .FunctionDef _ a _ _ _ _ _ _ _ _=>a
  | _=>{ posonlyargs:=[],args:=[],vararg:=none,kwonlyargs:=[],kw_defaults:=[],kwarg:=none,defaults:=[] }
def defBody (s : Stmt) : List Stmt:=match s with
  | .FunctionDef _ _ b _ _ _ _ _ _ _=>b
  | _=>[]
def defScope (s : Stmt) : Scope:=match s with
  | .FunctionDef _ _ _ _ _ _ sc _ _ _=>sc
  | _=>{ kind:=.function,names:=[],isGenerator:=false,isCoroutine:=false }
abbrev CX0 : CXT:=fun _ _ _ _ _ _=>False
abbrev E0 : XK:=fun _ _ _=>False
theorem pass0 {X : Cx} : Passes CX0 X E0:=fun _ _ _ _ _ _ _ h=>h.elim
structure Fun (K : PySem.W.Frag) (x qual : Str) (st : Stmt) (f : Addr) (fd : FuncData) : Prop where
  ex : ∃ (oc : Value) (od : Option Addr) (kV doc pm : Value) (an : Option Addr) (cdv ct : Value) (osl : Array (Option Value)),
    fd = PySem.W.fnOf x qual (defArgs st) (defBody st) (defScope st) .none kV doc pm an cdv ct∧K.lookup f = some ⟨oc,od,.func fd,osl⟩∧PySem.W.codeIn K cdv qual = true
  kp : PySem.W.keepIn K (.ref f) = true
section
variable {P : Program} {w : World} {K : PySem.W.Frag} {mg : Str→Option Value} {base : Heap}
theorem Fun.ok {x qual : Str} {st : Stmt} {f : Addr} {fd : FuncData} {N ps : List Str} {k : Nat} {sp : Sp} (F : Fun K x qual st f fd) (S : FnScope N ps (defScope st)) (len : ∀ vs H Q E, sp vs H Q E → vs.length = ps.length)
    (hbody : ∀ (cdv : Value) (A : Around) (outer : List Env) (s : Shared) (H : Hp) (vs : List V) (Q : VK) (E : XK),Room k (A.deeper (envOfC qual (defScope st) s.heap.objs.size f cdv))→sp vs H Q E →
      ∃ t,PSs (cxOf CX0 P w K mg base N qual (defScope st) f cdv A outer s H E).nox (defBody st) t∧t { nx:=fun _ H'=>Q .non H',rt:=Q } (start N vs) H) : FnOk P w K mg base CX0 (k + 1) f fd ps sp:=by
  obtain ⟨oc,od,kV,doc,pm,an,cdv,ct,osl,rfl,lk,hcd⟩:=F.ex
  refine fn_of lk hcd S len fun A outer s H vs Q E hr hsp=>?_
  obtain ⟨t,h,q⟩:=hbody cdv A outer s H vs Q E hr hsp
  exact ⟨t,h.nox,q⟩
theorem Fun.binds {x qual : Str} {st : Stmt} {f : Addr} {fd : FuncData} {ps : List Str} (F : Fun K x qual st f fd)
    (h : ∀ (kV doc pm : Value) (an : Option Addr) (cdv ct : Value) (us : List Value),us.length = ps.length→bindArgs (PySem.W.fnOf x qual (defArgs st) (defBody st) (defScope st) .none kV doc pm an cdv ct) ⟨us,[]⟩ = pure (ps.zip us)) : Binds K fd ps []:=by
  obtain ⟨oc,od,kV,doc,pm,an,cdv,ct,osl,rfl,lk,hcd⟩:=F.ex
  exact .all (h kV doc pm an cdv ct)
theorem fun_mk {x qual : Str} {st : Stmt} {f : Addr} {oc : Value} {od an : Option Addr} {osl : Array (Option Value)} {kV doc pm cdv ct : Value} (l : K.lookup f = some ⟨oc,od,.func (PySem.W.fnOf x qual (defArgs st) (defBody st) (defScope st) .none kV doc pm an cdv ct),osl⟩)
    (c : PySem.W.codeIn K cdv qual = true) (k : PySem.W.keepIn K (.ref f) = true) : Fun K x qual st f (PySem.W.fnOf x qual (defArgs st) (defBody st) (defScope st) .none kV doc pm an cdv ct):=⟨⟨oc,od,kV,doc,pm,an,cdv,ct,osl,rfl,l,c⟩,k⟩
end
theorem small1000 {n : Nat} (h : n≤1000) : n < sizeLine:=Nat.lt_of_le_of_lt h (by decide)
section
variable {X : Cx}
theorem pv (i : Nat) {x : Str} {pos : Pos} (hN : X.N[i]? = some x:=by rfl) (hv : Vis X.env.scope x:=by first | exact Or.inl rfl | exact Or.inr (Or.inl rfl) | exact Or.inr (Or.inr rfl)) (hd : (x == ("__debug__" : Str)) = false:=by decide)
    (hcd : (x == ("__classdict__" : Str)) = false:=by decide) : PE X (.Name x pos) (tVar i):=pe_var hN hv hd hcd
theorem call_lenD : CallR X (.builtin "len") (fun xs H Q=>∃ a kvs,xs = [V.ref a]∧H a = some (.dK kvs)∧Q (.int kvs.length) H):=by
  intro pins s σ H xs us Q I r h
  obtain ⟨a,kvs,rfl,ha,q⟩:=h
  obtain ⟨u,rfl,ru⟩:=vals1 r
  cases ru
  exact d_len I (.inl ha) fun t s' I'=>⟨.int kvs.length,H,I',⟨t,rfl⟩,q⟩
end
theorem iteF {A B : Prop} (h : B) : if false = true then A else B:=by
  rw [if_neg Bool.false_ne_true]
  exact h
theorem iteT {A B : Prop} (h : A) : if true = true then A else B:=by
  rw [if_pos rfl]
  exact h
theorem ite2 {c A B : Prop} [Decidable c] (h1 : c→A) (h2 : ¬ c→B) : if c then A else B:=by
  by_cases h : c
  · rw [if_pos h]
    exact h1 h
  · rw [if_neg h]
    exact h2 h
def Same (H H' : Hp) : Prop:=∀ b o,H b = some o→H' b = some o
theorem Same.refl (H : Hp) : Same H H:=fun _ _ h=>h
theorem Same.trans {H H1 H2 : Hp} (a : Same H H1) (b : Same H1 H2) : Same H H2:=fun c o h=>b c o (a c o h)
section
variable {κ : Type} [DecidableEq κ]
theorem valV_not {kvs : List (κ × V)} {k : κ} (h : valV kvs k = none) : ¬ k∈kvs.map (·.1):=by
  intro m
  obtain ⟨p,hp,e⟩:=List.mem_map.mp m
  have q : (kvs.any fun kv=>decide (kv.1 = k)) = true:=List.any_eq_true.mpr ⟨p,hp,decide_eq_true e⟩
  rw [valV_any,h] at q
  exact absurd q (by simp)
theorem valV_in {kvs : List (κ × V)} {k : κ} {v : V} (h : valV kvs k = some v) : k∈kvs.map (·.1):=by
  have q : (kvs.any fun kv=>decide (kv.1 = k)) = true:=by
    rw [valV_any,h]
    all_goals rfl
  obtain ⟨p,hp,e⟩:=List.any_eq_true.mp q
  exact List.mem_map.mpr ⟨p,hp,of_decide_eq_true e⟩
theorem nd_snoc : ∀ {l : List κ} {k : κ},l.Nodup→¬ k∈l→(l++[k]).Nodup
  | [],k,_,_=>by simp
  | a::r,k,h,hk=>by
    obtain ⟨h1,h2⟩:=List.nodup_cons.mp h
    show (a::(r++[k])).Nodup
    refine List.nodup_cons.mpr ⟨fun m=>?_,nd_snoc h2 fun m=>hk (List.mem_cons.mpr (Or.inr m))⟩
    rcases List.mem_append.mp m with q | q
    · exact h1 q
    · exact hk (List.mem_cons.mpr (Or.inl (List.mem_singleton.mp q).symm))
theorem nd_putK {kvs : List (κ × V)} {k : κ} (v : V) (hn : (kvs.map (·.1)).Nodup) (h : valV kvs k = none) : ((putK kvs k v).map (·.1)).Nodup:=by
  rw [putK_new v h,List.map_append]
  exact nd_snoc hn (valV_not h)
end
end L2
set_option maxHeartbeats 4000000
namespace L2
open PySem PySem.Spec PyProof.Rows
theorem clos_go {env : Env} {f : Str × NameKind → List (Str × Addr) → Sem (ForInStep (List (Str × Addr)))}
    (f1 : ∀ n k r,k≠NameKind.free→f (n,k) r = pure (.yield r))
    (f2 : ∀ n c r,env.cells.lookup n = some c→f (n,NameKind.free) r = pure (.yield ((n,c)::r))) :
    ∀ (names : List (Str × NameKind)) (acc : List (Str × Addr)),
    (∀ y∈names,y.2 = NameKind.free→∃ c,env.cells.lookup y.1 = some c) →
    (∀ x c,acc.lookup x = some c→env.cells.lookup x = some c) →
    ∃ cl,forIn names acc f = (pure cl : Sem (List (Str × Addr)))∧(∀ x c,cl.lookup x = some c→env.cells.lookup x = some c) ∧
      (∀ x,(acc.lookup x).isSome = true→(cl.lookup x).isSome = true)∧∀ y∈names,y.2 = NameKind.free→(cl.lookup y.1).isSome = true
  | [],acc,_,h=>⟨acc,by rw [List.forIn_nil],h,fun _ q=>q,fun y hy=>nomatch hy⟩
  | (n, k) :: r, acc, hn, h => by
    by_cases hk : k = NameKind.free
    · subst hk
      obtain ⟨c,hc⟩:=hn (n,.free) List.mem_cons_self rfl
      have hc' : env.cells.lookup n = some c:=hc
      obtain ⟨cl,e,a,b,d⟩:=clos_go f1 f2 r ((n,c)::acc) (fun y hy=>hn y (List.mem_cons_of_mem _ hy)) (fun x c' q=>by
        rw [List.lookup_cons] at q
        cases e : x == n with
        | true =>
          rw [e] at q
          cases q
          rw [show x = n from LawfulBEq.eq_of_beq e]
          exact hc'
        | false =>
          rw [e] at q
          exact h x c' q)
      refine ⟨cl,?_,a,fun x q=>b x ?_,fun y hy hf=>?_⟩
      · rw [List.forIn_cons,f2 n c acc hc',pure_bind]
        exact e
      · rw [List.lookup_cons]
        cases x == n with
        | true=>rfl
        | false=>exact q
      · rcases List.mem_cons.mp hy with rfl | hy
        · refine b _ ?_
          rw [List.lookup_cons]
          simp
        · exact d y hy hf
    · obtain ⟨cl,e,a,b,d⟩:=clos_go f1 f2 r acc (fun y hy=>hn y (List.mem_cons_of_mem _ hy)) h
      refine ⟨cl,?_,a,b,fun y hy hf=>?_⟩
      · rw [List.forIn_cons,f1 n k acc hk,pure_bind]
        exact e
      · rcases List.mem_cons.mp hy with rfl | hy
        · exact absurd hf hk
        · exact d y hy hf
theorem clos_ok {scope : Scope} {env : Env} (hf : ∀ y ∈ scope.names, y.2 = NameKind.free → ∃ c, env.cells.lookup y.1 = some c) :
    ∃ cl,closureFor scope env = pure cl∧(∀ x c,cl.lookup x = some c→env.cells.lookup x = some c) ∧
      ∀ y∈scope.names,y.2 = NameKind.free→∃ c,cl.lookup y.1 = some c:=by
  have go:=clos_go (env:=env) (f:=fun (x : Str × NameKind) (r : List (Str × Addr))=>match x with
      | (name,kind)=>if (kind == NameKind.free) = true then do let c ← cellOf env name;pure (ForInStep.yield ((name,c)::r)) else pure (ForInStep.yield r))
    (fun n k r hk=>by
      have z : (k == NameKind.free) = false:=by simpa using hk
      simp only [z,Bool.false_eq_true,if_false])
    (fun n c r hc=>by
      simp only [beq_self_eq_true,if_true,cellOf,hc,pure_bind])
    scope.names [] hf (fun x c q=>by cases q)
  obtain ⟨cl,e,a,_,d⟩:=go
  refine ⟨cl,?_,a,fun y hy z=>Option.isSome_iff_exists.mp (d y hy z)⟩
  simp only [closureFor]
  first
    | exact e
    | (simp only [bind_pure];exact e)
    | (refine Eq.trans ?_ e;simp only [bind_pure])
def cxC (X : Cx) (scope : Scope) (N : List Str) (cl : List (Str × Addr)) (C : Addr) (s₀ : Shared) (H₀ : Hp) (ex : List Addr) : Cx where
  prog:=X.prog
  w:=X.w
  K:=X.K
  mg:=X.mg
  base:=X.base
  A:=X.A
  N:=N
  s₀:=s₀
  H₀:=H₀
  env:=compEnvC scope cl C X.env
  outer:=X.stack
  stack:=X.stack
  ex:=ex
  fn:=fun _=>false
  calm:=X.calm
  pn:=[]
  xe:=fun _ _=>False
def inSt (k : Nat) (fr : List Nat) (σ : St) : St:=List.replicate k none++fr.map fun i=>(σ[i]?).join
def frOk (osc scope : Scope) (NX : List Str) (fr : List Nat) : Bool:=fr.all fun i=>match NX[i]? with
  | some x=>(decide (osc.names.lookup x = some .cell) || decide (osc.names.lookup x = some .free)) && decide (scope.names.lookup x = some .free)
  | none=>false
structure CompSc (osc scope : Scope) (NX own : List Str) (fr : List Nat) (N : List Str) : Prop where
  kind : scope.kind = .function
  nocell : ∀ y∈scope.names,y.2≠NameKind.cell
  loc : ∀ y∈scope.names,y.2 = NameKind.local→scope.names.lookup y.1 = some .local
  free : ∀ y∈scope.names,y.2 = NameKind.free→osc.names.lookup y.1 = some .cell∨osc.names.lookup y.1 = some .free
  names : N.map some = own.map some++fr.map fun i=>NX[i]?
  outer : frOk osc scope NX fr = true
def compOk (osc scope : Scope) (NX own : List Str) (fr : List Nat) (N : List Str) : Bool :=
  decide (scope.kind = .function) && (scope.names.all (fun y=>decide (y.2≠NameKind.cell)) && (scope.names.all (fun y=>decide (y.2 = NameKind.local→scope.names.lookup y.1 = some .local)) &&
    (scope.names.all (fun y=>decide (y.2 = NameKind.free→(osc.names.lookup y.1 = some .cell∨osc.names.lookup y.1 = some .free))) && (decide (N.map some = own.map some++fr.map fun i=>NX[i]?) && frOk osc scope NX fr))))
theorem CompSc.of {osc scope : Scope} {NX own : List Str} {fr : List Nat} {N : List Str} (h : compOk osc scope NX own fr N = true) : CompSc osc scope NX own fr N:=by
  unfold compOk at h
  simp only [Bool.and_eq_true,decide_eq_true_eq,List.all_eq_true] at h
  obtain ⟨h1,h2,h3,h4,h5,h6⟩:=h
  exact ⟨h1,h2,h3,h4,h5,h6⟩
theorem CompSc.len {osc scope : Scope} {NX own : List Str} {fr : List Nat} {N : List Str} (S : CompSc osc scope NX own fr N) : N.length = own.length + fr.length:=by
  have h:=congrArg List.length S.names
  simpa using h
theorem lookup_relabel_free {env : Env} : ∀ {names : List (Str × NameKind)} {x : Str}, names.lookup x = some .free →
    (names.map fun (n,k)=>if (k == NameKind.free && env.scope.kind == .function && env.kindOf n == some .cell) then (n,NameKind.cell) else (n,k)).lookup x = some .cell ∨
    (names.map fun (n,k)=>if (k == NameKind.free && env.scope.kind == .function && env.kindOf n == some .cell) then (n,NameKind.cell) else (n,k)).lookup x = some .free
  | [],_,h=>by simp at h
  | (n,k)::r,x,h=>by
    have ih:=@lookup_relabel_free env r x
    cases hx : x == n with
    | true =>
      simp only [List.lookup_cons,hx] at h
      cases h
      simp only [List.map_cons]
      split
      · left;simp [List.lookup_cons,hx]
      · right;simp [List.lookup_cons,hx]
    | false =>
      simp only [List.lookup_cons,hx] at h
      simp only [List.map_cons]
      split
      · simp only [List.lookup_cons,hx];exact ih h
      · simp only [List.lookup_cons,hx];exact ih h
theorem of_relabel {env : Env} : ∀ {names : List (Str × NameKind)} {x : Str} {k' : NameKind},
    (names.map fun (n,k)=>if (k == NameKind.free && env.scope.kind == .function && env.kindOf n == some .cell) then (n,NameKind.cell) else (n,k)).lookup x = some k' →
    k' = .cell∨k' = .free→(∀ y∈names,y.2≠NameKind.cell)→∃ y∈names,y.1 = x∧y.2 = .free
  | [],_,_,h,_,_=>by simp at h
  | (n, k) :: r, x, k', h, hk, nc => by
    have ih:=@of_relabel env r x k'
    simp only [List.map_cons] at h
    cases hx : x == n with
    | true =>
      have ex : x = n:=LawfulBEq.eq_of_beq hx
      refine ⟨(n,k),List.mem_cons_self,ex.symm,?_⟩
      have nck : k≠.cell:=nc (n,k) List.mem_cons_self
      by_cases z : k = .free
      · exact z
      · have zb : (k == NameKind.free) = false:=by simpa using z
        simp only [zb,Bool.false_and,Bool.false_eq_true,if_false,List.lookup_cons,hx] at h
        cases h
        rcases hk with q | q
        · exact absurd q nck
        · exact absurd q z
    | false =>
      have h' : (r.map fun (n,k)=>if (k == NameKind.free && env.scope.kind == .function && env.kindOf n == some .cell) then (n,NameKind.cell) else (n,k)).lookup x = some k':=by
        split at h
        · simpa only [List.lookup_cons,hx] using h
        · simpa only [List.lookup_cons,hx] using h
      obtain ⟨y,hy,a,b⟩:=ih h' hk fun z hz=>nc z (List.mem_cons_of_mem _ hz)
      exact ⟨y,List.mem_cons_of_mem _ hy,a,b⟩
section
variable {X : Cx} {pins : List (Addr × Obj)} {σ : St} {H : Hp} {s : Shared}
def PTs (X : Cx) (ifs : List Expr) (t : TT) : Prop :=
  ∀ (pins : List (Addr × Obj)) (s : Shared) (σ : St) (H : Hp) (Q : Bool→Hp→Prop),Inv X pins σ H s→t σ H Q →
    wpAny (model X.prog X.w) X.A (forIn ifs true fun c r=>if r = true then do let ok ← isTrue c X.env (eval c X.env);pure (ForInStep.yield ok) else pure (ForInStep.yield r)) (TP X pins σ Q) X.xe s
def tYes : TT:=fun _ H Q=>Q true H
theorem pts_nil : PTs X [] tYes:=fun _ _ _ H _ I h=>wpAny_tests_nil ⟨H,I,h⟩
theorem pts_one {c : Expr} {t : TT} (h : PT X c t) : PTs X [c] t:=fun pins s σ H Q I q=>wpAny_tests_one (h pins s σ H Q I q)
theorem nx {α : Type} {t : Sem α} {Q Q' : α→Shared→Prop} {M : Model} {A : Around} {E : Value→Shared→Prop} {s : Shared} (h : wpAny M A t Q (fun _ _=>False) s) (hQ : ∀ a s,Q a s→Q' a s) : wpAny M A t Q' E s :=
  wpAny_mono h hQ fun _ _ f=>f.elim
theorem inv_block {scope : Scope} {own : List Str} {fr : List Nat} {N : List Str} {cl : List (Str × Addr)} {s3 s4 : Shared} {H3 : Hp} {fp : List Addr} {m : Str → Option Value}
    (hc : X.calm = true) (S : CompSc X.env.scope scope X.N own fr N)
    (c1 : ∀ x c,cl.lookup x = some c→X.env.cells.lookup x = some c) (c2 : ∀ y∈scope.names,y.2 = NameKind.free→∃ c,cl.lookup y.1 = some c)
    (I3 : Inv X pins σ H3 s3) (f3 : ∀ b∈fp,FpOk X pins H3 b∧b < s3.heap.objs.size)
    (hk : ∀ b o,s3.heap.get? b = some o→s4.heap.get? b = some o) (hn : s4.heap.Ns s3.heap.objs.size m) (ho : s4.os = s3.os) (hg : s4.gens = s3.gens) :
    Inv (cxC X scope N cl s3.heap.objs.size s3 H3 fp) [] (inSt own.length fr σ) H3 s4:=by
  have kindF : (compEnvC scope cl s3.heap.objs.size X.env).scope.kind = .function:=by
    show (relabel scope X.env).kind = .function
    exact S.kind
  refine ⟨⟨I3.ok.mod,kindF,I3.ok.glob,I3.ok.blt,Nat.le_refl _,?_,?_,?_,I3.ok.hd,I3.ok.frames,.inl rfl,?_,?_,?_,?_,?_,I3.stack,I3.stkFree⟩,ho,?_,Un.kept hk,⟨m,hn,?_⟩,?_,?_,?_,?_,I3.hok.kept hk,?_⟩
  · exact fun x y c h1 h2=>I3.ok.inj x y c (c1 x c h1) (c1 y c h2)
  · intro x hx
    have hx' : (relabel scope X.env).names.lookup x = some .cell∨(relabel scope X.env).names.lookup x = some .free:=hx
    obtain ⟨k',hk',hkk⟩ : ∃ k',(relabel scope X.env).names.lookup x = some k'∧(k' = NameKind.cell∨k' = NameKind.free):=by
      rcases hx' with q | q
      · exact ⟨_,q,.inl rfl⟩
      · exact ⟨_,q,.inr rfl⟩
    obtain ⟨y,hy,e,hf⟩:=of_relabel (env:=X.env) hk' hkk S.nocell
    subst e
    exact c2 y hy hf
  · exact fun x c h=>by cases h
  · intro b hb
    obtain ⟨f,hl⟩:=f3 b hb
    refine ⟨Nat.ne_of_lt hl,fun x c h=>f.2.2.2.2.1 x c (c1 x c h)⟩
  · exact fun b o e=>I3.bs b o e
  · exact Nat.le_trans I3.ok.bsz I3.sz
  · intro b o e hb
    obtain ⟨f,hl⟩:=f3 b hb
    rcases f.2.2.2.1 with z | z
    · exact I3.ok.noex b o e z
    · exact absurd (Nat.lt_of_lt_of_le (Heap.lt_size e) (Nat.le_trans I3.ok.bsz z)) (Nat.lt_irrefl _)
  · intro b hb
    obtain ⟨f,hl⟩:=f3 b hb
    show b∉frs X.stack
    intro z
    rcases List.mem_cons.mp (I3.stkSub b z) with q | q
    · exact f.2.1 q
    · exact f.2.2.1 q
  · rw [hg];exact I3.bare
  · intro i x v h1 h2 h3
    have h1 : N[i]? = some x:=h1
    obtain ⟨m0,hn0,hl0⟩:=I3.loc
    have hi : own.length≤i:=by
      refine Nat.le_of_not_lt fun q=>?_
      unfold inSt at h2
      rw [List.getElem?_append_left (by simpa using q),List.getElem?_replicate] at h2
      split at h2 <;> cases h2
    obtain ⟨j,rfl⟩:=Nat.exists_eq_add_of_le hi
    have h2' : (fr.map fun i=>(σ[i]?).join)[j]? = some (some v):=by
      unfold inSt at h2
      rw [List.getElem?_append_right (by simp)] at h2
      simpa using h2
    rw [List.getElem?_map] at h2'
    cases ej : fr[j]? with
    | none=>rw [ej] at h2';cases h2'
    | some k =>
      rw [ej] at h2'
      have e2 : (σ[k]?).join = some v:=Option.some.inj h2'
      have eσ : σ[k]? = some (some v):=by
        cases q : σ[k]? with
        | none=>rw [q] at e2;cases e2
        | some o=>rw [q] at e2;exact congrArg some e2
      have eN : X.N[k]? = some x:=by
        have q:=congrArg (fun l=>l[own.length + j]?) S.names
        simp only [List.getElem?_map,h1,List.getElem?_append_right (show (own.map some).length≤own.length + j by simp),List.length_map,Nat.add_sub_cancel_left,ej,Option.map_some] at q
        exact (Option.some.inj q).symm
      have ok:=List.all_eq_true.mp S.outer k (List.mem_of_getElem? ej)
      rw [eN] at ok
      simp only [Bool.and_eq_true,Bool.or_eq_true,decide_eq_true_eq] at ok
      obtain ⟨ok1,ok2⟩:=ok
      have vis : Vis X.env.scope x:=.inr ok1
      obtain ⟨u,r,l⟩:=hl0 k x v eN eσ vis
      refine ⟨u,r,?_⟩
      rcases l with ⟨l,_⟩ | ⟨_,c,e,z⟩
      · have l : X.env.scope.names.lookup x = some .local:=l
        rcases ok1 with q | q
        · rw [l] at q;cases q
        · rw [l] at q;cases q
      · obtain ⟨c',e'⟩:=c2 (x,.free) (PySem.mem_of_lookup ok2) rfl
        have e' : cl.lookup x = some c':=e'
        have ec : c' = c:=Option.some.inj ((c1 x c' e').symm.trans e)
        subst ec
        refine .inr ⟨lookup_relabel_free (env:=X.env) ok2,c',e',?_⟩
        obtain ⟨o,h1,h2⟩:=z
        exact ⟨o,hk _ _ h1,h2⟩
  · intro x c e
    obtain ⟨v,o,h1,h2⟩:=I3.cell x c (c1 x c e)
    exact ⟨v,o,hk _ _ h1,h2⟩
  · exact I3.hok.fresh (Nat.le_refl _)
  · exact fun x c e=>I3.freeC x c (c1 x c e)
  · intro p hp
    exact absurd hp (by simp [cxC])
  · show (inSt own.length fr σ).length = N.length
    rw [S.len]
    simp [inSt]
end
section
variable {prog : Program} {w : World} {A : Around} {R : Result→Shared→Prop} {s : Shared}
theorem comp_loop {elt tg iter : Expr} {ifs : List Expr} {scope : Scope} {pos : Pos} {it acc : Value} {env : Env} (J : Nat → Shared → Prop)
    (turn : ∀ k s, J k s → ∀ E : Value → Shared → Prop, wpAny (model prog w) A (pyNext it) (fun r s1 => match r with
      | none=>R (.ok .next) s1
      | some v => wpAny (model prog w) A (letOwnedTupleGo tg it v) (fun _ s2 => wpAny (model prog w) A (assign tg env v) (fun _ s3 =>
          wpAny (model prog w) A (forIn ifs true fun c r=>if r = true then do let ok ← isTrue c env (eval c env);pure (ForInStep.yield ok) else pure (ForInStep.yield r)) (fun ok s4 =>
            if ok = true then wpAny (model prog w) A (eval elt env) (fun x s5=>wpAny (model prog w) A (call (.builtin "list.append") [acc,x]) (fun _ s6=>∃ m,m < k∧J m s6) E s5) E s4
            else ∃ m,m < k∧J m s4) E s3) E s2) E s1) E s)
    (k : Nat) (h : J k s) : codeAny (model prog w) A (.compLoop (.ListComp elt [⟨tg,iter,ifs,0⟩] scope pos) 0 it acc env) R s:=by
  refine codeAny_loop rfl J (fun k s hJ=>?_) k h
  show wpAny _ A ((compTurn (.ListComp elt [⟨tg,iter,ifs,0⟩] scope pos) 0 it acc env).onRaise (fun e=>do noteFrame e env;theTreesLotGoes e)) _ _ s
  refine wpAny_noted ?_
  rw [compTurn_list]
  refine wpAny_bind (wpAny_standAt (wpAny_bind (thn (turn k s hJ _) fun r s1 h1=>?_)))
  cases r with
  | none=>exact wpAny_pure h1
  | some v =>
    refine wpAny_bind (thn h1 fun _ s2 h2=>wpAny_bind (thn h2 fun _ s3 h3=>wpAny_bind (thn h3 fun ok s4 h4=>?_)))
    cases ok with
    | false=>exact wpAny_pure ⟨rfl,h4⟩
    | true=>exact wpAny_bind (wpAny_bind (thn h4 fun x s5 h5=>wpAny_bind (thn h5 fun _ s6 h6=>wpAny_pure (wpAny_pure ⟨rfl,h6⟩))))
end
def tCompW (k : Nat) (fr : List Nat) (g : TG) (tc : TT) (te : TE) (J : It) (σ : St) (H1 : Hp) (Q : VK) : Prop :=
  ∀ D,H1 D = none→∃ W : Nat→Nat→List V→St→Hp→Prop,(∃ m,W 0 m [] (inSt k fr σ) (upd H1 D (.lst [])))∧∀ i m acc σ' H',W i m acc σ' H'→H' D = some (.lst acc) →
    (J.stop i H'∧Q (.ref D) H')∨(J.go i H'∧∃ N : List V→St→Hp→Prop,(∀ acc' σ2 H2,N acc' σ2 H2→∃ m',m' < m∧W (i + 1) m' acc' σ2 H2)∧∀ x H2,J.yld i H' x H2→g x σ' H2 fun σ2 H3=>tc σ2 H3 fun b H4 =>
      if b = true then te σ2 H4 fun y H5=>H5 D = some (.lst acc)∧acc.length < sizeLine∧N (acc++[y]) σ2 (upd H5 D (.lst (acc++[y])))
      else H4 D = some (.lst acc)∧N acc σ2 H4)
def tComp (k : Nat) (fr : List Nat) (wi : TI) (g : TG) (tc : TT) (te : TE) : TE:=fun σ H Q=>wi σ H fun J H1=>tCompW k fr g tc te J σ H1 Q
section
variable {X : Cx} {pins : List (Addr × Obj)} {σ : St} {H : Hp} {s : Shared} {tg elt iter : Expr} {ifs : List Expr} {scope : Scope} {pos : Pos}
theorem comp_block {own : List Str} {fr : List Nat} {N : List Str} {cl : List (Str × Addr)} {H2 : Hp} {s2 : Shared} {fp : List Addr} {it : Addr} {J : It} {tn : Nat → Heap → Prop} {g : TG} {tc : TT} {te : TE} {Q : VK} {E : Value → Shared → Prop} {POST : Value → Addr → Result → Shared → Prop}
    (hc : X.calm = true) (S : CompSc X.env.scope scope X.N own fr N)
    (c1 : ∀ x c,cl.lookup x = some c→X.env.cells.lookup x = some c) (c2 : ∀ y∈scope.names,y.2 = NameKind.free→∃ c,cl.lookup y.1 = some c)
    (hg : ∀ C s₀ H₀ ex,PG (cxC X scope N cl C s₀ H₀ ex) tg g) (ht : ∀ C s₀ H₀ ex,PTs (cxC X scope N cl C s₀ H₀ ex) ifs tc) (he : ∀ C s₀ H₀ ex,PE (cxC X scope N cl C s₀ H₀ ex) elt te)
    (I2 : Inv X pins σ H2 s2) (T : Turn X.prog X.w X.K tg J fp it tn) (t2 : tn 0 s2.heap) (f2 : ∀ b∈fp,FpOk X pins H2 b) (q : tCompW own.length fr g tc te J σ H2 Q)
    (fin : ∀ D C s' H' m,Inv X pins σ H' s'→FpOk X pins H' C→s'.heap.Ns C m→Q (.ref D) H'→POST (.ref D) C (.ok .next) s') :
    wpAny (model X.prog X.w) X.A (newList []) (fun acc s3=>wpAny (model X.prog X.w) X.A (newFunctionEnv scope X.env.globals cl [] X.env.qual none .none (some X.env)) (fun cenv s4 =>
      codeAny (model X.prog X.w) X.A (.compStart (.ListComp elt [⟨tg,iter,ifs,0⟩] scope pos) 0 (.ref it) acc { cenv with scope:=relabel scope X.env }) (POST acc cenv.locals) s4) E s3) E s2:=by
  refine wpAny_newObj_type (wpAny_newFunctionEnv S.nocell (by intro y hy;simp at hy) (fun h4 ns4 sb4=>?_) S.kind)
  dsimp only at ns4 sb4 ⊢
  have hD : H2 s2.heap.objs.size = none:=I2.hok.fresh (Nat.le_refl _)
  obtain ⟨W,⟨m0,w0⟩,turn⟩:=q s2.heap.objs.size hD
  have I3 : Inv X pins σ (upd H2 s2.heap.objs.size (.lst [])) { s2 with heap:=s2.heap.push { cls:=.type "list",dict:=none,data:=.seq ([] : List Value).toArray },toks:=s2.toks } :=
    I2.laid (fun b u q=>Heap.get?_push_of_some _ q) (Nat.le_refl _) ⟨Nat.zero_le _,[],_,.nil,Heap.get?_push_size _ rfl⟩
  generalize hh3 : s2.heap.push { cls:=.type "list",dict:=none,data:=.seq ([] : List Value).toArray } = h3 at *
  have z3 : h3.objs.size = s2.heap.objs.size + 1:=by rw [← hh3,Heap.size_push]
  have k23 : ∀ b o,s2.heap.get? b = some o→h3.get? b = some o:=fun b o e=>by rw [← hh3];exact Heap.get?_push_of_some _ e
  have k34 : ∀ b o,h3.get? b = some o→h4.get? b = some o:=fun b o e=>sb4.extBut b o (Nat.ne_of_lt (Heap.lt_size e)) (Heap.get?_push_of_some _ e)
  have fpl : ∀ b∈fp,b < s2.heap.objs.size:=fun b hb=>by
    obtain ⟨o,e,_⟩:=T.obj _ _ t2 b hb
    exact Heap.lt_size e
  have f3 : ∀ b∈fp,FpOk X pins (upd H2 s2.heap.objs.size (.lst [])) b∧b < h3.objs.size:=fun b hb=>by
    refine ⟨⟨?_,(f2 b hb).2⟩,by rw [z3];exact Nat.lt_succ_of_lt (fpl b hb)⟩
    rw [upd_ne (Nat.ne_of_lt (fpl b hb))]
    exact (f2 b hb).1
  generalize hs3 : ({ s2 with heap:=h3,toks:=s2.toks } : Shared) = s3 at I3
  have es3 : s3.heap = h3:=by rw [← hs3]
  have hs3' : ({ s2 with heap:=h3 } : Shared) = s3:=hs3
  have I4:=inv_block (s3:=s3) (s4:={ s3 with heap:=h4,toks:=s3.toks + ([] : List (Str × Value)).length }) hc S c1 c2 I3 (by rw [es3];exact f3) (by rw [es3];exact k34) (m:=fun x=>([] : List (Str × Value)).reverse.lookup x) (by rw [es3];exact ns4) rfl rfl
  rw [es3] at I4
  have stat : ∀ {H' : Hp} {s' : Shared} {σ' : St} {pl : List (Addr × Obj)},Inv (cxC X scope N cl h3.objs.size s3 (upd H2 s2.heap.objs.size (.lst [])) fp) pl σ' H' s'→(∀ p∈pl,p.1∉fp)→(∀ b∈fp,H' b = none)→∀ b∈fp,FpOk (cxC X scope N cl h3.objs.size s3 (upd H2 s2.heap.objs.size (.lst [])) fp) pl H' b:=fun {H' s' σ' pl} I' hpl hn b hb=>by
    refine ⟨hn b hb,Nat.ne_of_lt (f3 b hb).2,I'.ok.exfs b hb,.inl hb,fun x c e=>(f2 b hb).2.2.2.2.1 x c (c1 x c e),fun p hp=>?_⟩
    intro z
    exact hpl p (by simpa [cxC] using hp) (z ▸ hb)
  have loop : ∀ s4 : Shared, s4 = { s3 with heap := h4, toks := s3.toks + ([] : List (Str × Value)).length } →
      codeAny (model X.prog X.w) X.A (.compLoop (.ListComp elt [⟨tg,iter,ifs,0⟩] scope pos) 0 (.ref it) (.ref s2.heap.objs.size) (compEnvC scope cl h3.objs.size X.env)) (POST (.ref s2.heap.objs.size) h3.objs.size) s4:=by
    rintro s4 rfl
    refine comp_loop (fun n s'=>∃ i acc σ' H',Inv (cxC X scope N cl h3.objs.size s3 (upd H2 s2.heap.objs.size (.lst [])) fp) [] σ' H' s'∧tn i s'.heap∧(∀ b∈fp,H' b = none)∧H' s2.heap.objs.size = some (.lst acc)∧W i n acc σ' H') ?_ m0
      ⟨0,[],_,_,I4,T.keep _ _ _ t2 fun b hb o e=>k34 b o (k23 b o e),fun b hb=>(f3 b hb).1.1,upd_same,w0⟩
    rintro n s5 ⟨i,acc,σ5,H5,I5,t5,fr5,d5,w5⟩ E'
    rcases turn i n acc σ5 H5 w5 d5 with ⟨stop,qn⟩ | ⟨go,NN,hNN,step⟩
    · refine thn (T.done (cxC X scope N cl h3.objs.size s3 (upd H2 s2.heap.objs.size (.lst [])) fp) rfl rfl rfl hc i [] s5 σ5 H5 E' I5 (stat I5 (by simp) fr5) t5 stop) fun r s6 ⟨hr,I6⟩=>?_
      subst hr
      obtain ⟨m6,n6,_⟩:=id I6.loc
      have J6 : Inv X pins σ H5 s6:=I3.call' (ch:=fp) I6.os I6.base I6.hok I6.bare fun b hb=>⟨(f2 b hb).2.2.2.1,(f2 b hb).2.1,(f2 b hb).2.2.2.2.1,(f2 b hb).2.2.2.2.2⟩
      exact fin _ _ s6 H5 m6 J6 (I2.fpOk (by rw [z3];exact Nat.le_succ _) I6.free) n6 qn
    · refine thn (T.item (cxC X scope N cl h3.objs.size s3 (upd H2 s2.heap.objs.size (.lst [])) fp) rfl rfl rfl hc i [] s5 σ5 H5 E' I5 (stat I5 (by simp) fr5) t5 go) fun r s6 ⟨u,hr,h6⟩=>?_
      subst hr
      refine thn h6 fun _ s7 ⟨x,H7,I7,r7,y7,t7,fr7⟩=>?_
      have I7':=I7.pinned (stat I7 (by simp) fr7) (T.obj _ _ t7)
      have backTn : ∀ {s' : Shared} {H' : Hp} {σ' : St},Inv (cxC X scope N cl h3.objs.size s3 (upd H2 s2.heap.objs.size (.lst [])) fp) ([]++pinsAt fp s7.heap) σ' H' s'→tn (i + 1) s'.heap∧∀ b∈fp,H' b = none:=fun {s' H' σ'} I'=>by
        refine ⟨T.keep _ _ _ t7 fun b hb o e=>(I'.pin (b,o) (List.mem_append_right _ (List.mem_append_right _ (mem_pinsAt hb e)))).1,fun b hb=>?_⟩
        obtain ⟨o,e,_⟩:=T.obj _ _ t7 b hb
        exact (I'.pin (b,o) (List.mem_append_right _ (List.mem_append_right _ (mem_pinsAt hb e)))).2.1
      refine nx (hg _ _ _ _ _ s7 σ5 H7 x u _ I7' r7 (step x H7 y7)) fun _ s8 ⟨σ8,H8,I8,q8⟩=>?_
      refine nx (ht _ _ _ _ _ s8 σ8 H8 _ I8 q8) fun ok s9 ⟨H9,I9,q9⟩=>?_
      cases ok with
      | false =>
        obtain ⟨d9,n9⟩:=q9
        obtain ⟨m',hm,w9⟩:=hNN _ _ _ n9
        obtain ⟨a1,a2⟩:=backTn I9
        exact ⟨m',hm,i + 1,acc,σ8,H9,I9.unpinned,a1,a2,d9,w9⟩
      | true =>
        rw [if_pos rfl]
        refine nx (he _ _ _ _ _ s9 σ8 H9 _ I9 q9) fun y s10 ⟨v,H10,I10,r10,d10,l10,n10⟩=>?_
        obtain ⟨m',hm,w10⟩:=hNN _ _ _ n10
        refine nx (mt_append _ s10 σ8 H10 (.ref s2.heap.objs.size) [v] (.ref s2.heap.objs.size) [y] (fun _ H'=>H' = upd H10 s2.heap.objs.size (.lst (acc++[v]))) I10 rfl (.cons r10 .nil) ⟨_,acc,v,rfl,rfl,d10,l10,rfl⟩) fun _ s11 ⟨_,H11,I11,_,e11⟩=>?_
        subst e11
        obtain ⟨a1,a2⟩:=backTn I11
        exact ⟨m',hm,i + 1,_,σ8,_,I11.unpinned,a1,a2,upd_same,w10⟩
  exact codeAny_compStart_list (loop _ (by rw [← hs3])) (T.self _ 0 _ _ _ (T.keep _ _ _ t2 fun b hb o e=>k34 b o (k23 b o e)) (loop _ (by rw [← hs3])))
theorem pe_comp (osc : Scope) (NX own : List Str) (fr : List Nat) (N : List Str) {wi : TI} {g : TG} {tc : TT} {te : TE} (hc : X.calm = true)
    (hi : PI X tg iter wi) (hg : ∀ cl C s₀ H₀ ex,PG (cxC X scope N cl C s₀ H₀ ex) tg g) (ht : ∀ cl C s₀ H₀ ex,PTs (cxC X scope N cl C s₀ H₀ ex) ifs tc) (he : ∀ cl C s₀ H₀ ex,PE (cxC X scope N cl C s₀ H₀ ex) elt te)
    (hs : ∀ x,foldedSetIterable iter X.env x = pure x:=by intro _;rfl) (hosc : X.env.scope = osc:=by rfl) (hNX : X.N = NX:=by rfl) (hS : compOk osc scope NX own fr N = true:=by decide +kernel) :
    PE X (.ListComp elt [⟨tg,iter,ifs,0⟩] scope pos) (tComp own.length fr wi g tc te):=by
  intro pins s σ H Q I h
  have S : CompSc X.env.scope scope X.N own fr N:=by rw [hosc,hNX];exact CompSc.of hS
  obtain ⟨cl,ecl,c1,c2⟩:=clos_ok (scope:=scope) (env:=X.env) fun y hy hf=>I.ok.has y.1 (S.free y hy hf)
  rw [eval_ListComp]
  refine wpAny_comprehension_free (use:=none) rfl hs ecl S.kind S.loc (thn (hi pins s σ H _ I h) fun v s1 h1=>thn h1 fun itv s2 h2=>?_)
  obtain ⟨it,fp,tn,J,H2,e,I2,T,t2,f2,q⟩:=h2
  subst e
  refine comp_block (POST:=fun acc C=>compPost (model X.prog X.w) X.A X.xe none (EP X pins σ Q) acc C) hc S c1 c2 (hg cl) (ht cl) (he cl) I2 T t2 f2 q fun D C s' H' m I' fC ns q'=>?_
  refine ⟨m,ns,fun h' sb=>⟨.ref D,H',?_,rfl,q'⟩⟩
  obtain ⟨g0,g1,_,g3,g4,g5⟩:=fC
  exact I'.turned (t':=s'.toks) (fun b o hb e=>(sb.2 b hb).trans e) g0 g1 g3 g4 g5
theorem ps_setC {wi : TI} {g : TG} {tc : TT} {te : TE} {i : Nat} {x : Str} {px spos : Pos} (hN : X.N.Nodup) (hi' : X.N[i]? = some x) (hx : X.env.scope.names.lookup x = some .local)
    (hsw : swapsWith (.ListComp elt [⟨tg,iter,ifs,0⟩] scope pos) (some (.Name x px)) spos.line X.env = pure true)
    (osc : Scope) (NX own : List Str) (fr : List Nat) (N : List Str) (hc : X.calm = true)
    (hi : PI X tg iter wi) (hg : ∀ cl C s₀ H₀ ex,PG (cxC X scope N cl C s₀ H₀ ex) tg g) (ht : ∀ cl C s₀ H₀ ex,PTs (cxC X scope N cl C s₀ H₀ ex) ifs tc) (he : ∀ cl C s₀ H₀ ex,PE (cxC X scope N cl C s₀ H₀ ex) elt te)
    (hs : ∀ x,foldedSetIterable iter X.env x = pure x:=by intro _;rfl) (hosc : X.env.scope = osc:=by rfl) (hNX : X.N = NX:=by rfl) (hS : compOk osc scope NX own fr N = true:=by decide +kernel) :
    PS X (.Assign [.Name x px] (.ListComp elt [⟨tg,iter,ifs,0⟩] scope pos) spos) (tAsg (tComp own.length fr wi g tc te) (gName i)):=by
  intro pins s σ H D I h
  have S : CompSc X.env.scope scope X.N own fr N:=by rw [hosc,hNX];exact CompSc.of hS
  obtain ⟨cl,ecl,c1,c2⟩:=clos_ok (scope:=scope) (env:=X.env) fun y hy hf=>I.ok.has y.1 (S.free y hy hf)
  rw [exec_Assign_Name_used _ _ _ _ hsw]
  refine wpAny_bind (wpAny_standAt (wpAny_bind ?_))
  show wpAny _ X.A (do let _ ← comprehension (.ListComp elt [⟨tg,iter,ifs,0⟩] scope pos) scope X.env _ (newList []) false (eval iter X.env) (some (assign (.Name x px) X.env))) _ _ s
  refine wpAny_bind (thn (wpAny_comprehension_free (use:=some (assign (.Name x px) X.env)) (Q:=fun _ s'=>SP X pins D .next s') rfl hs ecl S.kind S.loc (thn (hi pins s σ H _ I h) fun v s1 h1=>thn h1 fun itv s2 h2=>?_)) fun _ s' hq=>wpAny_pure (wpAny_pure hq))
  obtain ⟨it,fp,tn,J,H2,e,I2,T,t2,f2,q⟩:=h2
  subst e
  refine comp_block (POST:=fun acc C=>compPost (model X.prog X.w) X.A X.xe (some (assign (.Name x px) X.env)) (fun _ s'=>SP X pins D .next s') acc C) hc S c1 c2 (hg cl) (ht cl) (he cl) I2 T t2 f2 q fun D' C s' H' m I' fC ns q'=>?_
  show wpAny _ X.A (assign (.Name x px) X.env (.ref D')) _ _ s'
  refine wpAny_assign_Name (store_ok2 I' hN hi' (.inl hx) (show RelV (.ref D') (.ref D') from rfl) (fun s3 I3 sb=>?_) (.inr hx))
  obtain ⟨a,sb,ha⟩:=sb
  obtain ⟨g0,g1,g2,g3,g4,g5⟩:=fC
  have aC : C≠a:=by
    rcases ha with z | z
    · rw [z];exact g1
    · exact fun w=>g4 x a z w.symm
  refine ⟨m,ns.sameBut sb aC,fun h' sb'=>⟨_,H',?_,q'⟩⟩
  exact I3.turned (t':=s3.toks) (fun b o hb e=>(sb'.2 b hb).trans e) g0 g1 g3 g4 g5
end
end L2
namespace L2
open PySem PySem.Spec PyProof.Rows
def sgV (x : Str) (i : Nat) : Option V:=(x.cps[i]?).map fun c=>V.str ⟨#[c]⟩
def Its (x : Str) : It:=⟨fun i _=>i < x.cps.size,fun i H v H'=>H' = H∧sgV x i = some v,fun i _=>x.cps.size≤i⟩
theorem turn_signs {P : Program} {w : World} {K : PySem.W.Frag} {tg : Expr} (T : String) (it : Addr) (x : Str) (t : Tok)
    (hn : ["enumerate","zip","dict_itemiterator","dict_reverseitemiterator","odict_iterator","itertools.zip_longest","itertools.pairwise"].contains T = false)
    (W : ∀ A : Around,A.handled = none→Walks P w A it [it] [it] x.cps.size (SignAt x) (fun i h=>h.IsStrIter it T x t i))
    (hs : ∀ (A : Around) (i : Nat) (s : Shared) (Q : Value→Shared→Prop) (E : Value→Shared→Prop),s.heap.IsStrIter it T x t i→Q (.ref it) s→wpAny (model P w) A (pyIter (.ref it)) Q E s) :
    Turn P w K tg (Its x) [it] it (fun i h=>h.IsStrIter it T x t i∧i≤x.cps.size) where
  mem:=by simp
  obj:=fun i h st b hb=>by
    have e : b = it:=by simpa using hb
    subst e
    obtain ⟨o,e,c,d⟩:=st.1
    exact ⟨o,e,fun v z=>by rw [d] at z;cases z⟩
  keep:=fun i h h' st k=>⟨by
    obtain ⟨o,e,c⟩:=st.1
    exact ⟨o,k it (by simp) o e,c⟩,st.2⟩
  item:=by
    intro X hP hw hK hc i pins s σ H E I hf st hg
    subst hP hw hK
    obtain ⟨f0,f1,f2,f3,f4,f5⟩:=hf it (by simp)
    refine (W X.A (I.ok.hd hc)).item i s _ _ hg st.1 fun v h' tk hv st' kk=>?_
    obtain ⟨c,u,hcp,rfl⟩:=hv
    have I1 : Inv X pins σ H { s with heap:=h',toks:=tk }:=I.turned (fun b o hb e=>kk b o (by simpa using hb) e) f0 f1 f3 f4 f5
    obtain ⟨o,e,cc,d⟩:=id st'
    refine ⟨_,rfl,go_of (s:={ s with heap:=h',toks:=tk }) e cc d hn ⟨.str ⟨#[c]⟩,H,I1,⟨u,rfl⟩,⟨rfl,?_⟩,⟨st',?_⟩,fun b hb=>(hf b hb).1⟩⟩
    · unfold sgV;rw [hcp];rfl
    · exact hg
  done:=by
    intro X hP hw hK hc i pins s σ H E I hf st hg
    subst hP hw hK
    obtain ⟨f0,f1,f2,f3,f4,f5⟩:=hf it (by simp)
    have e : i = x.cps.size:=Nat.le_antisymm st.2 hg
    subst e
    exact (W X.A (I.ok.hd hc)).done s _ _ st.1 fun h' tk kk=>⟨rfl,I.turned (fun b o hb e=>kk b o (by simpa using hb) e) f0 f1 f3 f4 f5⟩
  self:=fun A i s Q E st h=>hs A i s Q E st.1 h
def iStr (tl : TE) : TI:=fun σ H R=>tl σ H fun x H1=>∃ z,x = .str z∧R (Its z) H1
theorem pi_str {X : Cx} {tg l : Expr} {tl : TE} (hl : PE X l tl) : PI X tg l (iStr tl) := by
  intro pins s σ H R I h
  refine thn (hl pins s σ H _ I h) fun v s1 ⟨x,H1,I1,r1,q1⟩=>?_
  obtain ⟨z,e,q⟩:=q1
  subst e
  obtain ⟨t,rfl⟩:=r1
  have fin : ∀ (T : String),["enumerate","zip","dict_itemiterator","dict_reverseitemiterator","odict_iterator","itertools.zip_longest","itertools.pairwise"].contains T = false →
      (∀ A : Around,A.handled = none→Walks X.prog X.w A s1.heap.objs.size [s1.heap.objs.size] [s1.heap.objs.size] z.cps.size (SignAt z) (fun i h=>h.IsStrIter s1.heap.objs.size T z t i)) →
      (∀ (A : Around) (i : Nat) (s : Shared) (Q : Value→Shared→Prop) (E : Value→Shared→Prop),s.heap.IsStrIter s1.heap.objs.size T z t i→Q (.ref s1.heap.objs.size) s→wpAny (model X.prog X.w) A (pyIter (.ref s1.heap.objs.size)) Q E s) →
      PIE X pins σ tg R (.ref s1.heap.objs.size) { s1 with heap:=s1.heap.push { cls:=.type T,data:=.fields #[.str z t,.int 0 0] } }:=fun T hn W hs=>by
    refine ⟨_,[s1.heap.objs.size],_,_,H1,rfl,I1.kept (t':=s1.toks) fun b o e=>Heap.get?_push_of_some _ e,turn_signs T _ z t hn W hs,⟨⟨_,Heap.get?_push_size _ rfl,rfl,rfl⟩,Nat.zero_le _⟩,fun b hb=>?_,q⟩
    have e : b = s1.heap.objs.size:=by simpa using hb
    subst e
    exact I1.fpOk (Nat.le_refl _) (I1.hok.fresh (Nat.le_refl _))
  cases ha : z.cps.all (· < 128)
  · exact wpAny_pyIter_wide ha (fin "str_iterator" (by decide) (fun A hA=>Walks.strWide hA _ z t) fun A i s Q E st h=>wpAny_pyIter_striter_wide st h)
  · exact wpAny_pyIter_ascii ha (fin "str_ascii_iterator" (by decide) (fun A hA=>Walks.strAscii hA _ z t) fun A i s Q E st h=>wpAny_pyIter_striter_ascii st h)
def Ite (K : PySem.W.Frag) (a : Addr) : It :=
  ⟨fun i H=>∃ xs x,SqL K H a xs∧xs[i]? = some x,fun i H v H'=>∃ p x,H p = none∧v = .ref p∧(∀ xs,SqL K H a xs→xs[i]? = some x)∧H' = upd H p (.tup [.int i,x]),fun i H=>∃ xs,SqL K H a xs∧xs.length≤i⟩
theorem turn_enum {P : Program} {w : World} {K : PySem.W.Frag} {elts : List Expr} {k : Nat} {tp : Pos} (a e it : Addr) (hne : e ≠ it) :
    Turn P w K (.Tuple elts k tp) (Ite K a) [e,it] e (fun i h=>(∃ old,IsEnum h e it i old)∧h.IsListIter it a i) where
  mem:=by simp
  obj:=fun i h st b hb=>by
    obtain ⟨⟨old,he⟩,hit⟩:=st
    have hb : b = e∨b = it:=by simpa using hb
    rcases hb with z | z
    · subst z
      exact ⟨_,he,fun v z=>by cases z⟩
    · subst z
      obtain ⟨o,e1,c,d⟩:=hit
      exact ⟨o,e1,fun v z=>by rw [d] at z;cases z⟩
  keep:=fun i h h' st kk=>by
    obtain ⟨⟨old,he⟩,hit⟩:=st
    exact ⟨⟨old,kk e (by simp) _ he⟩,hit.at fun o q=>kk it (by simp) o q⟩
  item := by
    intro X hP hw hK hc i pins s σ H E I hf st hg
    subst hP hw hK
    obtain ⟨⟨old,he⟩,hit⟩:=st
    obtain ⟨xs,x,hq,hx⟩:=hg
    obtain ⟨its,rv,p,hz⟩:=I.list hq
    obtain ⟨u,hu,ru⟩:=rv.get hx
    obtain ⟨f0,f1,f2,f3,f4,f5⟩:=hf e (by simp)
    obtain ⟨g0,g1,g2,g3,g4,g5⟩:=hf it (by simp)
    refine wpAny_pyNext_enum_item he hit p.isList (x:=u) (by simpa using hu) hne fun h1 ho hit1 ht1 hz1 k1=>?_
    have hel : e < s.heap.objs.size:=Heap.lt_size he
    have hil : it < s.heap.objs.size:=by obtain ⟨o,q,_⟩:=hit;exact Heap.lt_size q
    refine ⟨_,rfl,wpAny_letOwnedTupleGo_enum ho fun h2 he2 sb2=>?_⟩
    have sb2 : Heap.SameBut e h1 h2:=sb2
    have T2 : h2.get? s.heap.objs.size = some { cls:=.type "tuple",data:=.seq #[.int i s.toks,u] }:=(sb2.2 _ (Nat.ne_of_gt hel)).trans ht1
    have hp : H s.heap.objs.size = none:=I.hok.fresh (Nat.le_refl _)
    have nit : ∀ b v,H b = some v→b≠e∧b≠it:=fun b v q=>⟨fun z=>(by rw [z,f0] at q;cases q),fun z=>(by rw [z,g0] at q;cases q)⟩
    have kk : ∀ b o,b≠e→b≠it→s.heap.get? b = some o→h2.get? b = some o:=fun b o n1 n2 q=>(sb2.2 b n1).trans (k1 b o n1 n2 q)
    have up : ∀ b v,H b = some v→upd H s.heap.objs.size (.tup [.int i,x]) b = some v:=fun b v q=>by rw [upd_ne (ne_of_none q hp)];exact q
    have I1 : Inv X pins σ (upd H s.heap.objs.size (.tup [.int i, x])) { s with heap := h2, gens := s.gens, drawn := s.drawn, toks := s.toks + 1 } := by
      refine I.step (g':=s.gens) (d':=s.drawn) (ch:=[e,it]) (fun b hb=>?_) (fun b o _ _ hb q _=>kk b o (fun z=>hb (by simp [z])) (fun z=>hb (by simp [z])) q) (fun b o _ _ hb q _=>⟨o.slots,kk b o (fun z=>hb (by simp [z])) (fun z=>hb (by simp [z])) q⟩) (fun b o _ q n=>?_)
        (fun b o hb q=>⟨o,kk b o (fun z=>hb (by simp [z])) (fun z=>hb (by simp [z])) q⟩) (fun b ys q=>up b _ q) (fun b o v q=>up b _ q) (fun b ps q=>⟨#[],by rw [up b _ q];simp⟩) (fun m hm=>?_) (fun b v q=>?_) I.bare
      · have hb : b = e∨b = it:=by simpa using hb
        rcases hb with z | z
        · subst z;exact ⟨f3,f1,f4,f5⟩
        · subst z;exact ⟨g3,g1,g4,g5⟩
      · rw [upd_ne (Nat.ne_of_lt (Heap.lt_size q))];exact n
      · obtain ⟨o,es,ep,ho,r⟩:=hm
        exact ⟨o,es,ep,kk _ o (Ne.symm f1) (Ne.symm g1) ho,r⟩
      · by_cases hb : b = s.heap.objs.size
        · subst hb
          rw [upd_same] at q
          have q' : HO.tup [V.int i,x] = v:=Option.some.inj q
          subst q'
          exact ⟨by show 2≤sizeLine;decide,[.int i s.toks,u],.cons ⟨_,rfl⟩ (.cons ru .nil),⟨_,T2,rfl,_,rfl,rfl⟩⟩
        · rw [upd_ne hb] at q
          refine (I.hok b v q).stay (fun c v' hc q'=>?_) (fun c q=>up c _ q) fun c ys q=>up c _ q
          rcases hc with z | z
          · rw [z] at q' ⊢;exact kk b v' (nit b v q).1 (nit b v q).2 q'
          · exact kk c v' (nit c _ z).1 (nit c _ z).2 q'
    refine ⟨.ref s.heap.objs.size,upd H s.heap.objs.size (.tup [.int i,x]),I1,rfl,⟨_,x,hp,rfl,fun ys hy=>by rw [I.list_inj hy hq];exact hx,rfl⟩,⟨⟨u,?_⟩,?_⟩,fun b hb=>?_⟩
    · exact (by simpa using he2)
    · exact hit1.at fun o q=>(sb2.2 it (Ne.symm hne)).trans q
    · have hb : b = e∨b = it:=by simpa using hb
      rcases hb with z | z
      · rw [z,upd_ne (Nat.ne_of_lt hel)];exact f0
      · rw [z,upd_ne (Nat.ne_of_lt hil)];exact g0
  done:=by
    intro X hP hw hK hc i pins s σ H E I hf st hg
    subst hP hw hK
    obtain ⟨⟨old,he⟩,hit⟩:=st
    obtain ⟨xs,hq,hx⟩:=hg
    obtain ⟨its,rv,p,hz⟩:=I.list hq
    obtain ⟨g0,g1,g2,g3,g4,g5⟩:=hf it (by simp)
    have hl:=rv.length
    exact wpAny_pyNext_enum_end (I.ok.hd hc) he hit p.isList (by simp;omega) fun h' eb=>⟨rfl,I.turned (t':=s.toks) (fun b o hb q=>eb b o hb q) g0 g1 g3 g4 g5⟩
  self:=fun _ _ _ _ _ st h=>by
    obtain ⟨⟨old,he⟩,_⟩:=st
    exact wpAny_pyIter_enum he h
end L2
namespace L2
open PySem PySem.Spec PyProof.Rows
mutual
inductive Rep (H : Hp) : V→PyData→Prop
  | non : Rep H .non .none
  | bl (b : Bool) : Rep H (.bl b) (.bool b)
  | int (i : Int) : Rep H (.int i) (.int i)
  | str (x : Str) : Rep H (.str x) (.str x)
  | lst {a : Addr} {xs : List V} {ds : List PyData} : H a = some (.lst xs)→RepAll H xs ds→Rep H (.ref a) (.list ds)
  | tup {a : Addr} {xs : List V} {ds : List PyData} : H a = some (.tup xs)→RepAll H xs ds→Rep H (.ref a) (.tuple ds)
inductive RepAll (H : Hp) : List V→List PyData→Prop
  | nil : RepAll H [] []
  | cons {x : V} {xs : List V} {d : PyData} {ds : List PyData} : Rep H x d→RepAll H xs ds→RepAll H (x::xs) (d::ds)
end
mutual
theorem Rep.reads {P : Program} {w : World} {H : Hp} {h : Heap} (ok : HOk P w H h) : ∀ {v : V} {d : PyData} {u : Value},Rep H v d→RelV v u→∃ as,Reads h u d as
  | _,_,_,.non,r=>by cases r;exact ⟨_,.none⟩
  | _,_,_,.bl b,r=>by cases r;exact ⟨_,.bool b⟩
  | _,_,_,.int i,r=>by obtain ⟨t,rfl⟩:=r;exact ⟨_,.int i t⟩
  | _,_,_,.str x,r=>by obtain ⟨t,rfl⟩:=r;exact ⟨_,.str x t⟩
  | _,_,_,.lst (a:=a) (xs:=xs) e rs,r=>by
    cases r
    obtain ⟨_,its,n,rv,eh⟩:=(show ObjOk P w H h a (.lst xs) from ok a _ e)
    obtain ⟨as,z⟩:=RepAll.reads ok rs rv
    exact ⟨_,.list eh rfl rfl (by simpa using z)⟩
  | _,_,_,.tup (a:=a) (xs:=xs) e rs,r=>by
    cases r
    obtain ⟨_,its,rv,o,eh,hc,n,hd,_⟩:=(show ObjOk P w H h a (.tup xs) from ok a _ e)
    obtain ⟨as,z⟩:=RepAll.reads ok rs rv
    exact ⟨_,.tuple eh hc hd (by simpa using z)⟩
theorem RepAll.reads {P : Program} {w : World} {H : Hp} {h : Heap} (ok : HOk P w H h) : ∀ {vs : List V} {ds : List PyData} {us : List Value}, RepAll H vs ds → Vals vs us → ∃ as, ReadsAll h us ds as
  | _,_,_,.nil,r=>by cases r;exact ⟨_,.nil⟩
  | _,_,_,.cons q qs,r=>by
    cases r with
    | cons r1 r2 =>
      obtain ⟨as,z⟩:=Rep.reads ok q r1
      obtain ⟨bs,zs⟩:=RepAll.reads ok qs r2
      exact ⟨_,.cons z zs⟩
end
mutual
theorem Rep.same {H H' : Hp} (s : Same H H') : ∀ {v : V} {d : PyData},Rep H v d→Rep H' v d
  | _,_,.non=>.non
  | _,_,.bl b=>.bl b
  | _,_,.int i=>.int i
  | _,_,.str x=>.str x
  | _,_,.lst e rs=>.lst (s _ _ e) (rs.same s)
  | _,_,.tup e rs=>.tup (s _ _ e) (rs.same s)
theorem RepAll.same {H H' : Hp} (s : Same H H') : ∀ {vs : List V} {ds : List PyData},RepAll H vs ds→RepAll H' vs ds
  | _,_,.nil=>.nil
  | _,_,.cons q qs=>.cons (q.same s) (qs.same s)
end
section
variable {X : Cx}
def shp (d : PyData) : Prop:=SeqAt.shaped d = true
def rEqD : R2:=fun x y H Q=>∃ da db,Rep H x da∧Rep H y db∧shp da∧shp db∧Q (.bl (PyData.eqv da db)) H
def rNeD : R2:=fun x y H Q=>∃ da db,Rep H x da∧Rep H y db∧shp da∧shp db∧Q (.bl (!PyData.eqv da db)) H
theorem op_eqD (hu : X.A.units + 64 < cLine) : OpR X (compareOp .Eq) rEqD:=by
  intro pins s σ H x y v u Q I rx ry h
  obtain ⟨da,db,ra,rb,sa,sb,q⟩:=h
  obtain ⟨as,za⟩:=ra.reads I.hok rx
  obtain ⟨bs,zb⟩:=rb.reads I.hok ry
  exact eq_dataH za zb sa sb hu ⟨.bl _,H,I,rfl,q⟩
theorem op_neD (hu : X.A.units + 64 < cLine) : OpR X (compareOp .NotEq) rNeD:=by
  intro pins s σ H x y v u Q I rx ry h
  obtain ⟨da,db,ra,rb,sa,sb,q⟩:=h
  obtain ⟨as,za⟩:=ra.reads I.hok rx
  obtain ⟨bs,zb⟩:=rb.reads I.hok ry
  exact ne_dataH za zb sa sb hu ⟨.bl _,H,I,rfl,q⟩
theorem op_le_str : OpR X (compareOp .LtE) (fun x y H Q=>∃ i j,x = .str i∧y = .str j∧Q (.bl (!decide (j.cps.toList < i.cps.toList))) H):=by
  intro pins s σ H x y v u Q I rx ry h
  obtain ⟨i,j,rfl,rfl,q⟩:=h
  obtain ⟨t,rfl⟩:=rx
  obtain ⟨t',rfl⟩:=ry
  exact PySem.P.le_str (fin_bl I q (by simp))
theorem all_range (bs : List Bool) : ((List.range bs.length).all fun i=>bs.getD i false) = bs.all id:=by
  rw [Bool.eq_iff_iff,List.all_eq_true,List.all_eq_true]
  constructor
  · intro h b hb
    obtain ⟨i,hi,rfl⟩:=List.mem_iff_getElem.mp hb
    have:=h i (by simpa using hi)
    simpa [List.getD_eq_getElem?_getD,hi] using this
  · intro h i hi
    have hi : i < bs.length:=by simpa using hi
    have:=h bs[i] (List.getElem_mem hi)
    simpa [List.getD_eq_getElem?_getD,hi] using this
theorem vals_bl {bs : List Bool} {its : List Value} (r : Vals (bs.map V.bl) its) {i : Nat} {v : Value} (e : its[i]? = some v) : v = .bool (bs.getD i false):=by
  have hl:=r.length
  rw [List.length_map] at hl
  have hi : i < bs.length:=by rw [hl];exact (List.getElem?_eq_some_iff.mp e).1
  obtain ⟨u,hu,ru⟩:=r.get (i:=i) (x:=V.bl (bs.getD i false)) (by rw [List.getElem?_map];simp [List.getD_eq_getElem?_getD,hi])
  rw [e] at hu
  cases hu
  exact ru
theorem call_all_bl (hc : X.calm = true) : CallR X (.builtin "all") (fun xs H Q=>∃ p bs,xs = [.ref p]∧H p = some (.lst (List.map V.bl bs))∧Q (.bl (bs.all id)) H):=by
  intro pins s σ H xs us Q I r h
  obtain ⟨p,bs,rfl,e,q⟩:=h
  obtain ⟨u,rfl,ru⟩:=vals1 r
  cases ru
  obtain ⟨hz,its,n,rv,eh⟩:=(show ObjOk X.prog X.w H s.heap p (.lst (List.map V.bl bs)) from I.hok p _ e)
  have hl : s.heap.IsList p its.toArray:=⟨_,eh,rfl,n,rfl⟩
  have hlen : its.length = bs.length:=by have:=rv.length;rw [List.length_map] at this;exact this.symm
  have hpl : p < s.heap.objs.size:=Heap.lt_size eh
  refine call_all_walk (wpAny_pyIter_list hl ?_)
  refine ⟨s.heap.objs.size,[s.heap.objs.size,p],[s.heap.objs.size],its.toArray.size,_,_,fun i=>bs.getD i false,rfl,
    Walks.list (A:=X.A.in1) (I.ok.hd hc) _ p (Nat.ne_of_lt hpl) its.toArray,⟨⟨_,Heap.get?_push_size _ rfl,rfl,rfl⟩,⟨_,Heap.get?_push_of_some _ eh,rfl,n,rfl⟩⟩,?_,fun h' tk hk=>?_⟩
  · intro i v s' Q' E' hv hQ'
    have hv : its[i]? = some v:=by simpa using hv
    rw [vals_bl rv hv]
    exact wpAny_pure hQ'
  · refine ⟨.bl _,H,I.kept fun b o eb=>hk b o (by simpa using Nat.ne_of_lt (Heap.lt_size eb)) (Heap.get?_push_of_some _ eb),rfl,?_⟩
    rw [List.size_toArray,hlen,all_range]
    exact q
theorem strs_of : ∀ {ys : List Str} {us : List Value}, Vals (ys.map V.str) us → StrsAre us ys
  | [],us,r=>by cases r;exact .nil
  | y::ys,us,r=>by
    cases r with
    | cons r1 r2 =>
      obtain ⟨t,rfl⟩:=r1
      exact .cons y t (strs_of r2)
def rJoin : V→List V→Hp→VK→Prop:=fun x xs H Q=>∃ z p ys,x = .str z∧xs = [.ref p]∧H p = some (.lst (List.map V.str ys))∧(ys.map (·.length)).sum + ys.length * z.length≤16777216∧Q (.str (Txt.join z ys)) H
theorem mt_join : MtR X "str.join" rJoin:=by
  intro pins s σ H x xs v us Q I rx rv h
  obtain ⟨z,p,ys,rfl,rfl,e,hz,q⟩:=h
  obtain ⟨t,rfl⟩:=rx
  obtain ⟨u,rfl,ru⟩:=vals1 rv
  cases ru
  obtain ⟨_,its,n,rv,eh⟩:=(show ObjOk X.prog X.w H s.heap p (.lst (List.map V.str ys)) from I.hok p _ e)
  exact join_list (D:=p) (items:=its.toArray) ⟨_,eh,rfl,n,rfl⟩ (by simpa using strs_of rv) hz fun t' k=>⟨.str _,H,I.tok k,⟨t',rfl⟩,q⟩
def rSlS : V→Option Int→Option Int→Hp→VK→Prop:=fun x lo hi H Q=>∃ z,x = .str z∧z.length≤sizeLine∧Q (.str (Txt.slice z lo hi)) H
theorem sl_str : SlR X rSlS:=by
  intro pins s σ H x v vl vu lo hi sl Q I rx hs pl pu h
  obtain ⟨z,rfl,hz,q⟩:=h
  obtain ⟨t,rfl⟩:=rx
  refine ⟨"str",_,PySem.F.slot_str_getitem.lookup,typeIs_str _ _ _,?_⟩
  obtain ⟨o,h1,h2,h3⟩:=hs
  have fin : ∀ t' k,EP X pins σ Q (.str (Txt.slice z lo hi) t') { s with toks:=k }:=fun t' k=>⟨.str _,H,I.tok k,⟨t',rfl⟩,q⟩
  cases pl with
  | none=>cases pu with
    | none=>exact wpAny_getItem_str_slice (l:=none) (u:=none) (st:=none) ⟨o,h1,h2,h3⟩ rfl (post_val_or_str ⟨Nat.le_trans (Txt.slice_le z _ _) hz,fin⟩)
    | int j tj=>exact wpAny_getItem_str_slice (l:=none) (u:=some (j,tj)) (st:=none) ⟨o,h1,h2,h3⟩ rfl (post_val_or_str ⟨Nat.le_trans (Txt.slice_le z _ _) hz,fin⟩)
  | int i ti=>cases pu with
    | none=>exact wpAny_getItem_str_slice (l:=some (i,ti)) (u:=none) (st:=none) ⟨o,h1,h2,h3⟩ rfl (post_val_or_str ⟨Nat.le_trans (Txt.slice_le z _ _) hz,fin⟩)
    | int j tj=>exact wpAny_getItem_str_slice (l:=some (i,ti)) (u:=some (j,tj)) (st:=none) ⟨o,h1,h2,h3⟩ rfl (post_val_or_str ⟨Nat.le_trans (Txt.slice_le z _ _) hz,fin⟩)
def rIsi (K : PySem.W.Frag) (c : String) : List V→Hp→VK→Prop:=fun xs H Q=>∃ x t b,xs = [x,.ty c]∧TyOf K H x t∧PySem.W.kitOne K t (.type c) = some b∧Q (.bl b) H
theorem call_isi (c : String) : CallR X (.builtin "isinstance") (rIsi X.K c):=by
  intro pins s σ H xs us Q I r h
  obtain ⟨x,t,b,rfl,ty,e,q⟩:=h
  obtain ⟨u,w',rfl,ru,rw'⟩:=vals2 r
  cases rw'
  exact isinst_ok I ru ty e fun tk=>⟨.bl b,H,I.tok tk,rfl,q⟩
def rRepr : List V→Hp→VK→Prop:=fun xs H Q=>∃ x d,xs = [x]∧Rep H x d∧d.showable = true∧d.hasDict = false∧d.depth≤16∧d.shown.length≤sizeLine∧Q (.str d.shown) H
theorem call_repr_tree (hg : X.A.guards = some []) (hu : X.A.units + 64 < cLine) : CallR X (.builtin "repr") rRepr:=by
  intro pins s σ H xs us Q I r h
  obtain ⟨x,d,rfl,rep,hs,hd,hdp,hz,q⟩:=h
  obtain ⟨u,rfl,ru⟩:=vals1 r
  have rd:=rep.reads I.hok ru
  have byRef : ∀ a,u = .ref a→wpAny (model X.prog X.w) X.A (call (.builtin "repr") [.ref a]) (EP X pins σ Q) X.xe s:=fun a e=>by
    subst e
    obtain ⟨as,rd⟩:=rd
    exact repr_of_reads' rd hs (PyData.noDict_hsm hd) hg (by omega) (fun _ _ e=>e) (fun h' u' tk hk=>⟨.str _,H,I.kept hk,⟨u',rfl⟩,q⟩) hz
  cases rep with
  | non=>cases ru;exact PySem.P.repr_of_none ⟨.str _,H,I.tok _,⟨_,rfl⟩,q⟩
  | bl b=>cases ru;exact PySem.P.repr_of_bool ⟨.str _,H,I.tok _,⟨_,rfl⟩,q⟩
  | int i =>
    obtain ⟨t,rfl⟩:=ru
    exact PySem.P.repr_of_int (by simpa [PyData.showable] using hs) ⟨.str _,H,I.tok _,⟨_,rfl⟩,q⟩
  | str y =>
    obtain ⟨t,rfl⟩:=ru
    exact PySem.P.repr_of_str ⟨.str _,H,I.tok _,⟨_,rfl⟩,q⟩ hz
  | lst e rs=>cases ru;exact byRef _ rfl
  | tup e rs=>cases ru;exact byRef _ rfl
def isFl : V→Bool
  | .non | .bl _ | .int _ | .str _=>true
  | _=>false
def flD : V→PyData
  | .bl b=>.bool b
  | .int i=>.int i
  | .str x=>.str x
  | _=>.none
theorem fl_reads {h : Heap} {v : V} {u : Value} (f : isFl v = true) (r : RelV v u) : Reads h u (flD v) []:=by
  cases v with
  | non=>cases r;exact .none
  | bl b=>cases r;exact .bool b
  | int i=>obtain ⟨t,rfl⟩:=r;exact .int i t
  | str x=>obtain ⟨t,rfl⟩:=r;exact .str x t
  | _=>cases f
theorem fl_pairs {P : Program} {w : World} {h : Heap} : ∀ {kvs : List (Key × V)} {vs : List (Key × Value)} {es : List DictEntry}, KV kvs vs → Pairs (mixKind P w) es vs → kvs.all (fun p => isFl p.2) = true →
    ReadsAll h (es.map (·.key)) ((kvs.map fun p=>(flD (kV p.1),flD p.2)).map (·.1)) []∧ReadsAll h (es.map (·.val)) ((kvs.map fun p=>(flD (kV p.1),flD p.2)).map (·.2)) []
  | [],_,_,r,q,_=>by
    cases r
    cases q
    exact ⟨.nil,.nil⟩
  | p :: kvs, vs, es, r, q, f => by
    cases r with
    | @cons _ b _ vs' r1 r2 =>
      cases q with
      | cons qk qv q2 =>
        rw [List.all_cons,Bool.and_eq_true] at f
        obtain ⟨a1,a2⟩:=fl_pairs r2 q2 f.2
        rename_i en es'
        have k1 : Reads h en.key (flD (kV p.1)) []:=by
          have hk:=qk
          rw [← r1.1] at hk
          rcases keyIs_shape hk with ⟨i,t,e1,e2⟩ | ⟨x,t,e1,e2⟩
          · rw [e1,e2];exact .int i t
          · rw [e1,e2];exact .str x t
        have v1 : Reads h en.val (flD p.2) []:=by
          rw [qv]
          exact fl_reads f.1 r1.2
        exact ⟨.cons k1 a1,.cons v1 a2⟩
def dictD (kvs : List (Key × V)) : PyData:=.dict (kvs.map fun p=>(flD (kV p.1),flD p.2))
inductive ReprR (H : Hp) : V→VK→Prop
  | tr {x : V} {d : PyData} {Q : VK} : Rep H x d→d.showable = true→d.hasDict = false→d.depth≤16→d.shown.length≤sizeLine→Q (.str d.shown) H→ReprR H x Q
  | dc {a : Addr} {kvs : List (Key × V)} {Q : VK} : H a = some (.dK kvs)→kvs.all (fun p=>isFl p.2) = true→(dictD kvs).showable = true→(dictD kvs).depth≤16→(dictD kvs).shown.length≤sizeLine→Q (.str (dictD kvs).shown) H→ReprR H (.ref a) Q
def rReprX : List V→Hp→VK→Prop:=fun xs H Q=>∃ x,xs = [x]∧ReprR H x Q
theorem call_reprX (hg : X.A.guards = some []) (hu : X.A.units + 64 < cLine) : CallR X (.builtin "repr") rReprX:=by
  intro pins s σ H xs us Q I r h
  obtain ⟨x,rfl,h⟩:=h
  cases h with
  | tr rep hs hd hdp hz q=>exact call_repr_tree hg hu pins s σ H _ us Q I r ⟨_,_,rfl,rep,hs,hd,hdp,hz,q⟩
  | @dc a kvs _ e f hs hdp hz q =>
    obtain ⟨u,rfl,ru⟩:=vals1 r
    cases ru
    obtain ⟨_,hsys,vs,rv,o,es,ep,h1,h2,h3,_,h5,_⟩:=(show ObjOk X.prog X.w H s.heap a (.dK kvs) from I.hok a _ e)
    obtain ⟨k1,k2⟩:=fl_pairs (h:=s.heap) rv h5 f
    have rd : Reads s.heap (.ref a) (dictD kvs) (a::[]++[]):=.dict h1 h2.1 h3 k1 k2
    refine repr_of_reads' rd hs (fun _ hm=>?_) hg (by omega) (fun _ _ e=>e) (fun h' u' tk hk=>⟨.str _,H,I.kept hk,⟨u',rfl⟩,q⟩) hz
    have : sysModules = a:=by simpa using hm
    rw [this] at hsys
    simp at hsys
theorem any_readOf {P : Program} {w : World} {H : Hp} {h : Heap} (ok : HOk P w H h) {d : PyData} : ∀ {xs : List V} {ds : List PyData} {us : List Value}, RepAll H xs ds → Vals xs us → PyData.canLayAll0 ds = true → us.any (fun u => PyData.eqv (SeqAt.readOf h u) d) = ds.any fun e => PyData.eqv e d
  | _,_,_,.nil,r,_=>by cases r;rfl
  | _,_,_,.cons q qs,r,hl=>by
    cases r with
    | cons r1 r2 =>
      have hl':=Bool.and_eq_true_iff.mp (show (PyData.canLay0 _ && PyData.canLayAll0 _) = true from hl)
      obtain ⟨as,z⟩:=q.reads ok r1
      rw [List.any_cons,List.any_cons,SeqAt.readOf_eq hl'.1 z,any_readOf ok qs r2 hl'.2]
theorem mem_readOf {P : Program} {w : World} {H : Hp} {A : Around} {s : Shared} (ok : HOk P w H s.heap) {d : PyData} {x : V} {v : Value} {bs : List Addr} (zx : Reads s.heap v d bs) (hd : d.canLay0 = true) (hu : A.units + d.depth < cLine) :
    ∀ {xs : List V} {ds : List PyData} {us : List Value},RepAll H xs ds→Vals xs us→PyData.canLayAll0 ds = true→∀ u∈us,SeqAt.EqAt A s u v (PyData.eqv (SeqAt.readOf s.heap u) d)
  | _,_,_,.nil,r,_=>by cases r;intro u hu;cases hu
  | _, _, _, .cons q qs, r, hl => by
    cases r with
    | cons r1 r2 =>
      have hl':=Bool.and_eq_true_iff.mp (show (PyData.canLay0 _ && PyData.canLayAll0 _) = true from hl)
      intro u hm
      rcases List.mem_cons.mp hm with rfl | hm
      · obtain ⟨as,z⟩:=q.reads ok r1
        rw [SeqAt.readOf_eq hl'.1 z]
        exact SeqAt.eqAt_reads _ _ _ _ _ _ _ _ z zx hl'.1 hd (Nat.lt_of_le_of_lt (Nat.add_le_add_left (Nat.min_le_right _ _) _) hu)
      · exact mem_readOf (x:=x) ok zx hd hu qs r2 hl'.2 u hm
def rInD (neg : Bool) : R2:=fun x y H Q=>∃ p xs ds d,y = .ref p∧H p = some (.lst xs)∧RepAll H xs ds∧Rep H x d∧PyData.canLayAll0 ds = true∧d.canLay0 = true∧d.depth≤16 ∧
  Q (.bl (if neg then !(ds.any fun e=>PyData.eqv e d) else ds.any fun e=>PyData.eqv e d)) H
theorem op_inD (hu : X.A.units + 64 < cLine) : OpR X (compareOp .In) (rInD false):=by
  intro pins s σ H x y v u Q I rx ry h
  obtain ⟨p,xs,ds,d,rfl,e,rs,r,cs,c,dp,q⟩:=h
  cases ry
  obtain ⟨_,its,n,rv,eh⟩:=(show ObjOk X.prog X.w H s.heap p (.lst xs) from I.hok p _ e)
  obtain ⟨bs,zx⟩:=r.reads I.hok rx
  refine SeqAt.in_listAt (fun u=>PyData.eqv (SeqAt.readOf s.heap u) d) ⟨_,eh,rfl,n,rfl⟩ (fun w hw=>mem_readOf (x:=x) I.hok zx c (by show X.A.units + 1 + d.depth < cLine;omega) rs rv cs w (by simpa using hw)) ⟨.bl _,H,I,rfl,?_⟩
  rw [show its.toArray.any (fun u=>PyData.eqv (SeqAt.readOf s.heap u) d) = its.any (fun u=>PyData.eqv (SeqAt.readOf s.heap u) d) by simp,any_readOf I.hok rs rv cs]
  exact q
theorem op_notInD (hu : X.A.units + 64 < cLine) : OpR X (compareOp .NotIn) (rInD true):=by
  intro pins s σ H x y v u Q I rx ry h
  obtain ⟨p,xs,ds,d,rfl,e,rs,r,cs,c,dp,q⟩:=h
  cases ry
  obtain ⟨_,its,n,rv,eh⟩:=(show ObjOk X.prog X.w H s.heap p (.lst xs) from I.hok p _ e)
  obtain ⟨bs,zx⟩:=r.reads I.hok rx
  refine SeqAt.notIn_listAt (fun u=>PyData.eqv (SeqAt.readOf s.heap u) d) ⟨_,eh,rfl,n,rfl⟩ (fun w hw=>mem_readOf (x:=x) I.hok zx c (by show X.A.units + 1 + d.depth < cLine;omega) rs rv cs w (by simpa using hw)) ⟨.bl _,H,I,rfl,?_⟩
  rw [show its.toArray.any (fun u=>PyData.eqv (SeqAt.readOf s.heap u) d) = its.any (fun u=>PyData.eqv (SeqAt.readOf s.heap u) d) by simp,any_readOf I.hok rs rv cs]
  exact q
end
end L2
namespace L2
open PySem PySem.Spec PyProof.Rows
structure Cal (P : Program) (w : World) (K : PySem.W.Frag) (mg : Str→Option Value) (base : Heap) (k : Nat) (x : Str) (ps : List Str) (sp : Sp) : Prop where
  ex : ∃ (f : Addr) (fd : FuncData),FnOk P w K mg base CX0 k f fd ps sp∧mg x = some (.ref f)∧PySem.W.keepIn K (.ref f) = true∧Binds K fd ps []
section
variable {X : Cx} {x : Str} {ps : List Str} {sp : Sp} {k j : Nat} {p pos : Pos} {e : Expr} {es : List Expr} {t : TA}
theorem pe_cal (c : Cal X.prog X.w X.K X.mg X.base k x ps sp) (hr : Room k X.A) (hg : Gl X x) (ha : PA X (e::es) t)
    (hs : starEach (e::es) X.env = (false,eval e X.env)::starEach es X.env:=by rfl) (hpl : (backTo pos (starEach es X.env)).any (·.1) = false:=by rfl) (hdb : (x == ("__debug__" : Str)) = false:=by decide) :
    PE X (.Call (.Name x p) (e::es) [] pos) (tCall sp [] E0 t):=by
  obtain ⟨f,fd,G,mf,kp,b⟩:=c.ex
  exact pe_call G hr hg mf kp b .nil pass0 ha (hdb:=hdb) (he:=hs) (hpl:=hpl)
end
section
variable {X : Cx}
inductive AddR (H : Hp) : V→V→VK→Prop
  | int {i j : Int} {Q : VK} : Q (.int (i + j)) H→AddR H (.int i) (.int j) Q
  | str {i j : Str} {Q : VK} : i.length + j.length≤sizeLine→Q (.str (i++j)) H→AddR H (.str i) (.str j) Q
  | lst {l b : Addr} {xs zs : List V} {Q : VK} : H l = some (.lst xs)→H b = some (.lst zs)→xs.length + zs.length≤sizeLine→(∀ p,H p = none→Q (.ref p) (upd H p (.lst (xs++zs))))→AddR H (.ref l) (.ref b) Q
theorem op_addX : OpR X (binaryOp .Add) (fun x y H Q=>AddR H x y Q):=by
  intro pins s σ H x y v u Q I rx ry h
  cases h with
  | int q=>exact op_add pins s σ H _ _ v u Q I rx ry ⟨_,_,rfl,rfl,q⟩
  | str hz q=>exact op_add_str pins s σ H _ _ v u Q I rx ry ⟨_,_,rfl,rfl,hz,q⟩
  | lst h1 h2 hz q=>exact op_cat pins s σ H _ _ v u Q I rx ry ⟨_,_,_,_,rfl,rfl,h1,h2,hz,q⟩
inductive EqR (neg : Bool) (H : Hp) : V→V→VK→Prop
  | sc {x y : V} {Q : VK} : scal x y = true→Q (.bl (if neg then !decide (x = y) else decide (x = y))) H→EqR neg H x y Q
  | tr {x y : V} {da db : PyData} {Q : VK} : Rep H x da→Rep H y db→shp da→shp db→Q (.bl (if neg then !PyData.eqv da db else PyData.eqv da db)) H→EqR neg H x y Q
theorem op_eqX (hu : X.A.units + 64 < cLine) : OpR X (compareOp .Eq) (fun x y H Q=>EqR false H x y Q):=by
  intro pins s σ H x y v u Q I rx ry h
  cases h with
  | sc h q=>exact op_eq pins s σ H _ _ v u Q I rx ry ⟨h,q⟩
  | tr ra rb sa sb q=>exact op_eqD hu pins s σ H _ _ v u Q I rx ry ⟨_,_,ra,rb,sa,sb,q⟩
theorem op_neX (hu : X.A.units + 64 < cLine) : OpR X (compareOp .NotEq) (fun x y H Q=>EqR true H x y Q):=by
  intro pins s σ H x y v u Q I rx ry h
  cases h with
  | sc h q=>exact op_ne pins s σ H _ _ v u Q I rx ry ⟨h,q⟩
  | tr ra rb sa sb q=>exact op_neD hu pins s σ H _ _ v u Q I rx ry ⟨_,_,ra,rb,sa,sb,q⟩
inductive SlX (K : PySem.W.Frag) (H : Hp) : V→Option Int→Option Int→VK→Prop
  | str {z : Str} {lo hi : Option Int} {Q : VK} : z.length≤sizeLine→Q (.str (Txt.slice z lo hi)) H→SlX K H (.str z) lo hi Q
  | lst {a : Addr} {xs : List V} {lo hi : Option Int} {Q : VK} : SqL K H a xs→(∀ p,H p = none→Q (.ref p) (upd H p (.lst (cutV xs lo hi))))→SlX K H (.ref a) lo hi Q
theorem sl_X : SlR X (fun x lo hi H Q=>SlX X.K H x lo hi Q):=by
  intro pins s σ H x v vl vu lo hi sl Q I rx hs pl pu h
  cases h with
  | str hz q=>exact sl_str pins s σ H _ v vl vu lo hi sl Q I rx hs pl pu ⟨_,rfl,hz,q⟩
  | lst h1 q=>exact sl_list pins s σ H _ v vl vu lo hi sl Q I rx hs pl pu ⟨_,_,rfl,h1,q⟩
end
section
variable {X : Cx}
inductive CmR (f : Int→Int→Bool) (g : Str→Str→Bool) (H : Hp) : V→V→VK→Prop
  | int {i j : Int} {Q : VK} : Q (.bl (f i j)) H→CmR f g H (.int i) (.int j) Q
  | str {i j : Str} {Q : VK} : Q (.bl (g i j)) H→CmR f g H (.str i) (.str j) Q
theorem op_leX : OpR X (compareOp .LtE) (fun x y H Q=>CmR (fun i j=>decide (i≤j)) (fun i j=>!decide (j.cps.toList < i.cps.toList)) H x y Q):=by
  intro pins s σ H x y v u Q I rx ry h
  cases h with
  | int q=>exact op_le pins s σ H _ _ v u Q I rx ry ⟨_,_,rfl,rfl,q⟩
  | str q=>exact op_le_str pins s σ H _ _ v u Q I rx ry ⟨_,_,rfl,rfl,q⟩
theorem op_ltX : OpR X (compareOp .Lt) (fun x y H Q=>CmR (fun i j=>decide (i < j)) (fun i j=>decide (i.cps.toList < j.cps.toList)) H x y Q):=by
  intro pins s σ H x y v u Q I rx ry h
  cases h with
  | int q=>exact op_lt pins s σ H _ _ v u Q I rx ry ⟨_,_,rfl,rfl,q⟩
  | str q=>exact op_lt_str pins s σ H _ _ v u Q I rx ry ⟨_,_,rfl,rfl,q⟩
inductive IsB (neg : Bool) (H : Hp) : V→V→VK→Prop
  | int {i : Int} {b : Bool} {Q : VK} : Q (.bl neg) H→IsB neg H (.int i) (.bl b) Q
  | bl {c b : Bool} {Q : VK} : Q (.bl (if neg then !decide (c = b) else decide (c = b))) H→IsB neg H (.bl c) (.bl b) Q
  | non {x : V} {Q : VK} : Q (.bl (if neg then !decide (x = .non) else decide (x = .non))) H→IsB neg H x .non Q
theorem op_isNotX : OpR X (compareOp .IsNot) (fun x y H Q=>IsB true H x y Q):=by
  intro pins s σ H x y v u Q I rx ry h
  cases h with
  | int q =>
    obtain ⟨t,rfl⟩:=rx
    cases ry
    exact wpAny_isNot_other (by rfl) (by intro z;cases z) ⟨.bl _,H,I,rfl,q⟩
  | @bl c b _ q =>
    cases rx
    cases ry
    exact wpAny_isNot_plain (by rfl) (fin_bl I q (by cases c <;> cases b <;> rfl))
  | non q=>exact op_notN pins s σ H _ _ v u Q I rx ry ⟨rfl,q⟩
theorem op_isX : OpR X (compareOp .Is) (fun x y H Q=>IsB false H x y Q):=by
  intro pins s σ H x y v u Q I rx ry h
  cases h with
  | int q =>
    obtain ⟨t,rfl⟩:=rx
    cases ry
    exact wpAny_is_other (by rfl) (by intro z;cases z) ⟨.bl _,H,I,rfl,q⟩
  | @bl c b _ q =>
    cases rx
    cases ry
    exact wpAny_is_plain (by rfl) (fin_bl I q (by cases c <;> cases b <;> rfl))
  | non q=>exact op_isN pins s σ H _ _ v u Q I rx ry ⟨rfl,q⟩
theorem m_join (K : PySem.W.Frag) {o e : Expr} {to : TE} {t : TA} {apos cpos : Pos} (ho : PE X o to) (ha : PA X [e] t)
    (hbase : attributeBase o "join" X.env (eval o X.env) = eval o X.env:=by rfl)
    (hfew : ((backTo cpos (starEach [e] X.env)).all (fun x=>!x.1) && (backToKw cpos (keywordEach [] X.env)).all (fun x=>x.1.isSome)
      && decide ([e].length + ([] : List Keyword).length + (if ([] : List Keyword).isEmpty then 0 else 1) < 30)) = true:=by rfl)
    (hline : (apos.endLine == cpos.line) = true:=by rfl) (hs : starEach [e] X.env = (false,eval e X.env)::starEach [] X.env:=by rfl) (hplain : (backTo cpos (starEach [] X.env)).any (·.1) = false:=by rfl) (hK : X.K = K:=by rfl) :
    PE X (.Call (.Attribute o "join" apos) [e] [] cpos) (tBM K "str" rJoin to t):=hK ▸ pe_bm PySem.F.plainAttrs_str PySem.F.slot_str_join PySem.F.type_str_join mt_join ho ha hbase hfew hline hs hplain
theorem m_append (K : PySem.W.Frag) {o e : Expr} {to : TE} {t : TA} {apos cpos : Pos} (ho : PE X o to) (ha : PA X [e] t)
    (hbase : attributeBase o "append" X.env (eval o X.env) = eval o X.env:=by rfl)
    (hfew : ((backTo cpos (starEach [e] X.env)).all (fun x=>!x.1) && (backToKw cpos (keywordEach [] X.env)).all (fun x=>x.1.isSome)
      && decide ([e].length + ([] : List Keyword).length + (if ([] : List Keyword).isEmpty then 0 else 1) < 30)) = true:=by rfl)
    (hline : (apos.endLine == cpos.line) = true:=by rfl) (hs : starEach [e] X.env = (false,eval e X.env)::starEach [] X.env:=by rfl) (hplain : (backTo cpos (starEach [] X.env)).any (·.1) = false:=by rfl) (hK : X.K = K:=by rfl) :
    PE X (.Call (.Attribute o "append" apos) [e] [] cpos) (tBM K "list" rAppend to t):=hK ▸ pe_bm PySem.F.plainAttrs_list PySem.F.slot_list_append PySem.F.type_list_append mt_append ho ha hbase hfew hline hs hplain
theorem sl_K (K : PySem.W.Frag) (hK : X.K = K:=by rfl) : SlR X (fun x lo hi H Q=>SlX K H x lo hi Q):=hK ▸ sl_X
theorem pi_listK (K : PySem.W.Frag) {tg l : Expr} {tl : TE} (hl : PE X l tl) (hK : X.K = K:=by rfl) : PI X tg l (iList K tl):=hK ▸ pi_list hl
theorem pi_tupK (K : PySem.W.Frag) {tg l : Expr} {tl : TE} (hl : PE X l tl) (hK : X.K = K:=by rfl) : PI X tg l (iTup K tl):=hK ▸ pi_tup hl
end
theorem gYes {i : Nat} {v : V} {σ : St} {H : Hp} {A B : St→Hp→Prop} (h : A (σ.set i (some v)) H) : gName i v σ H fun σ2 H3=>tYes σ2 H3 fun b H4=>if b = true then A σ2 H4 else B σ2 H4:=by
  show (if true = true then A (σ.set i (some v)) H else B (σ.set i (some v)) H)
  rw [if_pos rfl]
  exact h
section
variable {K : PySem.W.Frag} {k : Nat} {fr : List Nat} {g : TG} {tc : TT} {te : TE} {σ : St} {H1 : Hp} {Q : VK}
theorem comp_items {J : It} (xs : List V) (Ok : Hp → Prop) (hgo : ∀ i H, Ok H → i < xs.length → J.go i H) (hyl : ∀ i H x H', Ok H → i < xs.length → J.yld i H x H' → H' = H ∧ xs[i]? = some x) (hst : ∀ H, Ok H → J.stop xs.length H)
    (Pv : Addr→Nat→List V→St→Hp→Prop)
    (h : ∀ D,H1 D = none→Pv D 0 [] (inSt k fr σ) (upd H1 D (.lst []))∧(∀ i acc σ' H',i≤xs.length→Pv D i acc σ' H'→H' D = some (.lst acc)→Ok H') ∧
      (∀ i acc σ' H' x,xs[i]? = some x→Pv D i acc σ' H'→H' D = some (.lst acc)→g x σ' H' fun σ2 H3=>tc σ2 H3 fun b H4 =>
        if b = true then te σ2 H4 fun y H5=>H5 D = some (.lst acc)∧acc.length < sizeLine∧Pv D (i + 1) (acc++[y]) σ2 (upd H5 D (.lst (acc++[y]))) else H4 D = some (.lst acc)∧Pv D (i + 1) acc σ2 H4) ∧
      ∀ acc σ' H',Pv D xs.length acc σ' H'→H' D = some (.lst acc)→Q (.ref D) H') : tCompW k fr g tc te J σ H1 Q:=by
  intro D hD
  obtain ⟨h0,hok,hs,hd⟩:=h D hD
  refine ⟨fun i m acc σ' H'=>m = xs.length - i∧i≤xs.length∧Pv D i acc σ' H',⟨xs.length,by simp,Nat.zero_le _,h0⟩,?_⟩
  rintro i m acc σ' H' ⟨rfl,hi,p⟩ hacc
  have ok:=hok i acc σ' H' hi p hacc
  by_cases hlt : i < xs.length
  · refine .inr ⟨hgo i H' ok hlt,Pv D (i + 1),fun acc' σ2 H2 p'=>⟨xs.length - (i + 1),by omega,rfl,hlt,p'⟩,fun x H2 y=>?_⟩
    obtain ⟨e,hx⟩:=hyl i H' x H2 ok hlt y
    subst e
    exact hs i acc σ' H2 x hx p hacc
  · have e : i = xs.length:=by omega
    subst e
    exact .inl ⟨hst H' ok,hd acc σ' H' p hacc⟩
def rngV (n : Nat) : List V:=(List.range n).map fun i=>V.int (0 + (i : Nat))
theorem comp_range {n : Nat} (Pv : Addr → Nat → List V → St → Hp → Prop)
    (h : ∀ D,H1 D = none→Pv D 0 [] (inSt k fr σ) (upd H1 D (.lst [])) ∧
      (∀ i acc σ' H',i < n→Pv D i acc σ' H'→H' D = some (.lst acc)→g (.int (0 + (i : Nat))) σ' H' fun σ2 H3=>tc σ2 H3 fun b H4 =>
        if b = true then te σ2 H4 fun y H5=>H5 D = some (.lst acc)∧acc.length < sizeLine∧Pv D (i + 1) (acc++[y]) σ2 (upd H5 D (.lst (acc++[y]))) else H4 D = some (.lst acc)∧Pv D (i + 1) acc σ2 H4) ∧
      ∀ acc σ' H',Pv D n acc σ' H'→H' D = some (.lst acc)→Q (.ref D) H') : tCompW k fr g tc te (Itr 0 n) σ H1 Q:=by
  have hl : (rngV n).length = n:=by simp [rngV]
  refine comp_items (rngV n) (fun _=>True) (fun i H _ hi=>by rw [hl] at hi;exact hi) (fun i H x H' _ hi y=>⟨y.1,?_⟩) (fun H _=>by show n≤(rngV n).length;rw [hl];exact Nat.le_refl _) Pv fun D hD=>?_
  · rw [hl] at hi
    rw [y.2]
    simp [rngV,hi]
  · obtain ⟨a,b,c⟩:=h D hD
    refine ⟨a,fun _ _ _ _ _ _ _=>trivial,fun i acc σ' H' x hx p hacc=>?_,by rw [hl];exact c⟩
    have hi : i < n:=by rw [← hl];exact (List.getElem?_eq_some_iff.mp hx).1
    have e : x = V.int (0 + (i : Nat)):=by
      simp [rngV,hi] at hx
      rw [← hx];simp
    subst e
    exact b i acc σ' H' hi p hacc
theorem comp_list {a : Addr} (xs : List V) (Pv : Addr → Nat → List V → St → Hp → Prop)
    (h : ∀ D,H1 D = none→Pv D 0 [] (inSt k fr σ) (upd H1 D (.lst []))∧(∀ i acc σ' H',i≤xs.length→Pv D i acc σ' H'→H' D = some (.lst acc)→SqL K H' a xs) ∧
      (∀ i acc σ' H' x,xs[i]? = some x→Pv D i acc σ' H'→H' D = some (.lst acc)→g x σ' H' fun σ2 H3=>tc σ2 H3 fun b H4 =>
        if b = true then te σ2 H4 fun y H5=>H5 D = some (.lst acc)∧acc.length < sizeLine∧Pv D (i + 1) (acc++[y]) σ2 (upd H5 D (.lst (acc++[y]))) else H4 D = some (.lst acc)∧Pv D (i + 1) acc σ2 H4) ∧
      ∀ acc σ' H',Pv D xs.length acc σ' H'→H' D = some (.lst acc)→Q (.ref D) H') : tCompW k fr g tc te (Itl K a) σ H1 Q :=
  comp_items xs (fun H=>SqL K H a xs) (fun i H q hi=>⟨xs,xs[i],q,by simp [hi]⟩) (fun i H x H' q hi y=>⟨y.1,y.2 xs q⟩) (fun H q=>⟨xs,q,Nat.le_refl _⟩) Pv h
theorem comp_tup {a : Addr} (xs : List V) (Pv : Addr → Nat → List V → St → Hp → Prop)
    (h : ∀ D,H1 D = none→Pv D 0 [] (inSt k fr σ) (upd H1 D (.lst []))∧(∀ i acc σ' H',i≤xs.length→Pv D i acc σ' H'→H' D = some (.lst acc)→SqT K H' a xs) ∧
      (∀ i acc σ' H' x,xs[i]? = some x→Pv D i acc σ' H'→H' D = some (.lst acc)→g x σ' H' fun σ2 H3=>tc σ2 H3 fun b H4 =>
        if b = true then te σ2 H4 fun y H5=>H5 D = some (.lst acc)∧acc.length < sizeLine∧Pv D (i + 1) (acc++[y]) σ2 (upd H5 D (.lst (acc++[y]))) else H4 D = some (.lst acc)∧Pv D (i + 1) acc σ2 H4) ∧
      ∀ acc σ' H',Pv D xs.length acc σ' H'→H' D = some (.lst acc)→Q (.ref D) H') : tCompW k fr g tc te (Itt K a) σ H1 Q :=
  comp_items xs (fun H=>SqT K H a xs) (fun i H q hi=>⟨xs,xs[i],q,by simp [hi]⟩) (fun i H x H' q hi y=>⟨y.1,y.2 xs q⟩) (fun H q=>⟨xs,q,Nat.le_refl _⟩) Pv h
def signsV (z : Str) : List V:=z.cps.toList.map fun c=>V.str ⟨#[c]⟩
theorem comp_str {z : Str} (Pv : Addr → Nat → List V → St → Hp → Prop)
    (h : ∀ D,H1 D = none→Pv D 0 [] (inSt k fr σ) (upd H1 D (.lst [])) ∧
      (∀ i acc σ' H' c,z.cps.toList[i]? = some c→Pv D i acc σ' H'→H' D = some (.lst acc)→g (.str ⟨#[c]⟩) σ' H' fun σ2 H3=>tc σ2 H3 fun b H4 =>
        if b = true then te σ2 H4 fun y H5=>H5 D = some (.lst acc)∧acc.length < sizeLine∧Pv D (i + 1) (acc++[y]) σ2 (upd H5 D (.lst (acc++[y]))) else H4 D = some (.lst acc)∧Pv D (i + 1) acc σ2 H4) ∧
      ∀ acc σ' H',Pv D z.cps.toList.length acc σ' H'→H' D = some (.lst acc)→Q (.ref D) H') : tCompW k fr g tc te (Its z) σ H1 Q:=by
  have hl : (signsV z).length = z.cps.toList.length:=by simp [signsV]
  refine comp_items (signsV z) (fun _=>True) (fun i H _ hi=>by rw [hl] at hi;show i < z.cps.size;simpa using hi) (fun i H x H' _ hi y=>⟨y.1,?_⟩) (fun H _=>by show z.cps.size≤(signsV z).length;rw [hl];simp) Pv fun D hD=>?_
  · have y2:=y.2
    unfold sgV at y2
    simp only [signsV,List.getElem?_map,Array.getElem?_toList]
    exact y2
  · obtain ⟨a,b,c⟩:=h D hD
    refine ⟨a,fun _ _ _ _ _ _ _=>trivial,fun i acc σ' H' x hx p hacc=>?_,by rw [hl];exact c⟩
    simp only [signsV,List.getElem?_map] at hx
    cases e : z.cps.toList[i]? with
    | none=>rw [e] at hx;cases hx
    | some cc =>
      rw [e] at hx
      cases hx
      exact b i acc σ' H' cc e p hacc
end
def But (p : Addr) (H H' : Hp) : Prop:=∀ b o,b≠p→H b = some o→H' b = some o
theorem But.refl (p : Addr) (H : Hp) : But p H H:=fun _ _ _ h=>h
theorem But.trans {p : Addr} {H H1 H2 : Hp} (a : But p H H1) (b : But p H1 H2) : But p H H2:=fun c o n h=>b c o n (a c o n h)
theorem But.upd {p : Addr} {H : Hp} {o : HO} : But p H (upd H p o):=fun b o' n h=>by rw [upd_ne n];exact h
theorem But.of_same {p : Addr} {H H' : Hp} (s : Same H H') : But p H H':=fun b o _ h=>s b o h
theorem Same.new {H : Hp} {p : Addr} {o : HO} (h : H p = none) : Same H (upd H p o):=fun b o' e=>by rw [upd_ne (ne_of_none e h)];exact e
theorem Rd.but {p : Addr} {H H' : Hp} (b : But p H H') {a : Addr} {u : HO} (n : a≠p) (h : Rd H a u) : Rd H' a u:=by
  rcases h with h | ⟨o,h⟩
  · exact .inl (b _ _ n h)
  · exact .inr ⟨o,b _ _ n h⟩
theorem SqL.but {K : PySem.W.Frag} {p : Addr} {H H' : Hp} (b : But p H H') {a : Addr} {xs : List V} (n : a≠p) (h : SqL K H a xs) : SqL K H' a xs:=by
  rcases h with h | h
  · exact .inl (h.but b n)
  · exact .inr h
structure Blt (mg : Str→Option Value) : Prop where
  len : mg "len" = none
  range : mg "range" = none
  abs : mg "abs" = none
  all : mg "all" = none
  repr : mg "repr" = none
  isinstance : mg "isinstance" = none
  str : mg "str" = none
  int : mg "int" = none
  bool : mg "bool" = none
  enumerate : mg "enumerate" = none
  list : mg "list" = none
  tuple : mg "tuple" = none
  dict : mg "dict" = none
  min : mg "min" = none
  max : mg "max" = none
section
variable {X : Cx} {p pos : Pos} {e f : Expr} {t : TA}
def rLen (K : PySem.W.Frag) : List V→Hp→VK→Prop:=fun xs H Q=>∃ x n,xs = [x]∧LenV K x H n∧Q (.int n) H
def rAbs : List V→Hp→VK→Prop:=fun xs H Q=>∃ i,xs = [.int i]∧Q (.int (if i < 0 then -i else i)) H
def rAll : List V→Hp→VK→Prop:=fun xs H Q=>∃ p bs,xs = [.ref p]∧H p = some (.lst (List.map V.bl bs))∧Q (.bl (bs.all id)) H
theorem b_len (K : PySem.W.Frag) (B : Blt X.mg) (ha : PA X [e] t) (hg : Gl X "len":=by rfl) (he : starEach [e] X.env = (false,eval e X.env)::starEach [] X.env:=by rfl) (hpl : (backTo pos (starEach [] X.env)).any (·.1) = false:=by rfl) (hK : X.K = K:=by rfl) : PE X (.Call (.Name "len" p) [e] [] pos) (tCB (rLen K) t) :=
  hK ▸ pe_callB call_len hg B.len PySem.boot_len ha (by decide) (by decide) he hpl
theorem b_abs (B : Blt X.mg) (ha : PA X [e] t) (hg : Gl X "abs":=by rfl) (he : starEach [e] X.env = (false,eval e X.env)::starEach [] X.env:=by rfl) (hpl : (backTo pos (starEach [] X.env)).any (·.1) = false:=by rfl) : PE X (.Call (.Name "abs" p) [e] [] pos) (tCB rAbs t) :=
  pe_callB call_abs hg B.abs boot_abs ha (by decide) (by decide) he hpl
theorem b_all (hc : X.calm = true) (B : Blt X.mg) (ha : PA X [e] t) (hg : Gl X "all":=by rfl) (he : starEach [e] X.env = (false,eval e X.env)::starEach [] X.env:=by rfl) (hpl : (backTo pos (starEach [] X.env)).any (·.1) = false:=by rfl) : PE X (.Call (.Name "all" p) [e] [] pos) (tCB rAll t) :=
  pe_callB (call_all_bl hc) hg B.all boot_all ha (by decide) (by decide) he hpl
theorem b_repr (gd : X.A.guards = some []) (hu : X.A.units + 64 < cLine) (B : Blt X.mg) (ha : PA X [e] t) (hg : Gl X "repr":=by rfl) (he : starEach [e] X.env = (false,eval e X.env)::starEach [] X.env:=by rfl) (hpl : (backTo pos (starEach [] X.env)).any (·.1) = false:=by rfl) : PE X (.Call (.Name "repr" p) [e] [] pos) (tCB rReprX t) :=
  pe_callB (call_reprX gd hu) hg B.repr boot_repr ha (by decide) (by decide) he hpl
theorem b_isi (K : PySem.W.Frag) (c : String) (B : Blt X.mg) (ha : PA X [e,f] t) (hg : Gl X "isinstance":=by rfl) (he : starEach [e,f] X.env = (false,eval e X.env)::starEach [f] X.env:=by rfl) (hpl : (backTo pos (starEach [f] X.env)).any (·.1) = false:=by rfl) (hK : X.K = K:=by rfl) : PE X (.Call (.Name "isinstance" p) [e,f] [] pos) (tCB (rIsi K c) t) :=
  hK ▸ pe_callB (call_isi c) hg B.isinstance boot_isinstance ha (by decide) (by decide) he hpl
theorem g_str (B : Blt X.mg) (hg : Gl X "str":=by rfl) : PE X (.Name "str" p) (tC (.ty "str")):=pe_bltn hg B.str PyProof.Rows.boot_str rfl
theorem g_list (B : Blt X.mg) (hg : Gl X "list":=by rfl) : PE X (.Name "list" p) (tC (.ty "list")):=pe_bltn hg B.list (show bootBuiltins "list" = some (.type "list") by decide +kernel) rfl
end
end L2
namespace L2
open PySem PySem.Spec PyProof.Rows PySem.Builtin PySem.Builtin.Str
def Asc (z : Str) : Prop:=∀ c∈z.cps.toList,c < 128
theorem len_app (x y : Str) : (x++y).length = x.length + y.length:=by
  show (x.cps++y.cps).size = x.cps.size + y.cps.size
  rw [Array.size_append]
theorem len_join (sep : Str) (ys : List Str) : (Txt.join sep ys).length≤(ys.map (·.length)).sum + ys.length * sep.length:=by
  unfold Txt.join
  rw [size_glued]
  exact Nat.add_le_add_left (Nat.mul_le_mul_right _ (Nat.sub_le _ _)) _
theorem sum_le {ys : List Str} {n : Nat} (h : ∀ y∈ys,y.length≤n) : (ys.map (·.length)).sum≤ys.length * n:=by
  induction ys with
  | nil=>simp
  | cons y r ih =>
    have h1:=h y (by simp)
    have h2:=ih fun z hz=>h z (List.mem_cons_of_mem _ hz)
    simp only [List.map_cons,List.sum_cons,List.length_cons]
    rw [Nat.succ_mul]
    omega
theorem at_ok {α : Type} {xs : List α} {j : Int} (h0 : 0≤j) (h1 : j < xs.length) : ∃ v,atI xs j = some v∧v∈xs:=by
  obtain ⟨k,rfl⟩:=Int.eq_ofNat_of_zero_le h0
  have hk : k < xs.length:=by omega
  exact ⟨xs[k],atI_nat (by simp [hk]),List.getElem_mem hk⟩
theorem at_int {ns : List Int} {j : Int} (h0 : 0≤j) (h1 : j < (ns.map V.int).length) : ∃ c,atI (ns.map V.int) j = some (.int c):=by
  obtain ⟨v,e,m⟩:=at_ok h0 h1
  obtain ⟨c,_,rfl⟩:=List.mem_map.mp m
  exact ⟨c,e⟩
theorem fst_small (x : Int) : -(2 ^ 64) < x % 2147483647∧x % 2147483647 < 2 ^ 64:=by
  have h1:=Int.emod_nonneg x (show (2147483647 : Int)≠0 by decide)
  have h2:=Int.emod_lt_of_pos x (show (0 : Int) < 2147483647 by decide)
  omega
def PenV (H : Hp) (p a : Addr) : Prop:=∃ (i n : Int),H p = some (.lst [.ref a,.int i,.int n])∧0≤i∧0≤n
def Pen (K : PySem.W.Frag) (H : Hp) (p a : Addr) : Prop:=(∃ ns : List Int,∀ H',But p H H'→SqL K H' a (ns.map V.int))∧PenV H p a
theorem Pen.but {K : PySem.W.Frag} {H H' : Hp} {p a : Addr} (h : Pen K H p a) (b : But p H H') (v : PenV H' p a) : Pen K H' p a:=⟨let ⟨ns,q⟩:=h.1;⟨ns,fun H2 b2=>q H2 (b.trans b2)⟩,v⟩
theorem Pen.new {K : PySem.W.Frag} {H : Hp} {p a : Addr} {ns : List Int} {o : HO} (h : SqL K H a (ns.map V.int)) (hp : H p = none) (v : PenV (upd H p o) p a) : Pen K (upd H p o) p a := by
  refine ⟨⟨ns,fun H' b=>?_⟩,v⟩
  rcases h with h | h
  · have n : a≠p:=by
      rcases h with h | ⟨ob,h⟩
      · exact ne_of_none h hp
      · exact ne_of_none h hp
    have s : Same H (upd H p o):=Same.new hp
    exact SqL.but (fun c o' n' e=>b c o' n' (s c o' e)) n (.inl h)
  · exact .inr h
theorem PenV.upd {H : Hp} {p a D : Addr} {o : HO} (h : PenV H p a) (n : p≠D) : PenV (L2.upd H D o) p a:=let ⟨i,m,e,q⟩:=h;⟨i,m,by rw [upd_ne n];exact e,q⟩
theorem PenV.ne {H : Hp} {p a D : Addr} (h : PenV H p a) (e : H D = none) : p≠D:=let ⟨_,_,q,_⟩:=h;ne_of_none q e
theorem But.at {p D : Addr} {H H' : Hp} {o : HO} (b : But p H H') (hD : H D = none) : But p H (L2.upd H' D o):=fun c o' n h=>by rw [upd_ne (ne_of_none h hD)];exact b c o' n h
theorem But.of_eq {p : Addr} {H H' : Hp} (h : ∀ b,b≠p→H' b = H b) : But p H H':=fun b o n e=>(h b n).trans e
theorem But.free {p D : Addr} {H H' : Hp} (b : But p H H') (n : D≠p) (h : H' D = none) : H D = none:=by
  cases e : H D with
  | none=>rfl
  | some o=>rw [b D o n e] at h;cases h
def spDraw (K : PySem.W.Frag) : Sp:=fun vs H Q _=>∃ (p a : Addr) (m : Int),vs = [.ref p,.int m]∧Pen K H p a∧0 < m∧m < 1073741824∧∀ r H',0≤r→r < m→PenV H' p a→(∀ b,b≠p→H' b = H b)→Q (.int r) H'
end L2
namespace L2
open PySem PySem.Spec PyProof.Rows
section
variable {X : Cx}
inductive InR (K : PySem.W.Frag) (neg : Bool) (H : Hp) : V → V → VK → Prop
  | dic {a : Addr} {y : V} {o : Option V} {Q : VK} : DGet H a y o→Q (.bl (if neg then !o.isSome else o.isSome)) H→InR K neg H y (.ref a) Q
  | seq {p : Addr} {x : V} {xs : List V} {Q : VK} : (SqL K H p xs∨SqT K H p xs)→flatV x = true→xs.all flatV = true→Q (.bl (if neg then !inV x xs else inV x xs)) H→InR K neg H x (.ref p) Q
  | tr {p : Addr} {x : V} {xs : List V} {ds : List PyData} {d : PyData} {Q : VK} : H p = some (.lst xs)→RepAll H xs ds→Rep H x d→PyData.canLayAll0 ds = true→d.canLay0 = true→d.depth≤16 →
      Q (.bl (if neg then !(ds.any fun e=>PyData.eqv e d) else ds.any fun e=>PyData.eqv e d)) H→InR K neg H x (.ref p) Q
theorem op_inX (K : PySem.W.Frag) (hu : X.A.units + 64 < cLine) (hK : X.K = K:=by rfl) : OpR X (compareOp .In) (fun x y H Q=>InR K false H x y Q):=by
  subst hK
  intro pins s σ H x y v u Q I rx ry h
  cases h with
  | dic g q =>
    cases ry
    exact d_in (by omega) I g rx fun s' I'=>⟨.bl _,H,I',rfl,q⟩
  | seq hq fx fs q=>exact op_in_seq pins s σ H _ _ v u Q I rx ry ⟨_,_,rfl,hq,fx,fs,q⟩
  | tr e rs r cs c dp q=>exact op_inD hu pins s σ H _ _ v u Q I rx ry ⟨_,_,_,_,rfl,e,rs,r,cs,c,dp,q⟩
theorem op_notInX (K : PySem.W.Frag) (hu : X.A.units + 64 < cLine) (hK : X.K = K:=by rfl) : OpR X (compareOp .NotIn) (fun x y H Q=>InR K true H x y Q):=by
  subst hK
  intro pins s σ H x y v u Q I rx ry h
  cases h with
  | dic g q =>
    cases ry
    exact d_notIn (by omega) I g rx fun s' I'=>⟨.bl _,H,I',rfl,q⟩
  | seq hq fx fs q=>exact op_notIn_seq pins s σ H _ _ v u Q I rx ry ⟨_,_,rfl,hq,fx,fs,q⟩
  | tr e rs r cs c dp q=>exact op_notInD hu pins s σ H _ _ v u Q I rx ry ⟨_,_,_,_,rfl,e,rs,r,cs,c,dp,q⟩
inductive IxX (K : PySem.W.Frag) (H : Hp) : V→V→VK→Prop
  | lst {p : Addr} {xs : List V} {i : Int} {v : V} {Q : VK} : SqL K H p xs→atI xs i = some v→Q v H→IxX K H (.ref p) (.int i) Q
  | tup {p : Addr} {xs : List V} {i : Int} {v : V} {Q : VK} : SqT K H p xs→atI xs i = some v→Q v H→IxX K H (.ref p) (.int i) Q
  | str {z : Str} {i : Int} {c : Nat} {Q : VK} : z.length≤sizeLine→atI z.cps.toList i = some c→Q (.str ⟨#[c]⟩) H→IxX K H (.str z) (.int i) Q
  | dic {a : Addr} {y v : V} {Q : VK} : DGet H a y (some v)→Q v H→IxX K H (.ref a) y Q
theorem ix_X (K : PySem.W.Frag) (hu : X.A.units + 64 < cLine) (hK : X.K = K:=by rfl) : IxR X (fun x y H Q=>IxX K H x y Q):=by
  subst hK
  intro value slice pins s σ H x y v u Q I rx ry h hs
  cases h with
  | lst hq e q=>exact ix_list value slice pins s σ H _ _ v u Q I rx ry ⟨_,_,_,_,rfl,rfl,hq,e,q⟩ hs
  | tup hq e q=>exact ix_tup value slice pins s σ H _ _ v u Q I rx ry ⟨_,_,_,_,rfl,rfl,hq,e,q⟩ hs
  | str hz e q=>exact ix_str value slice pins s σ H _ _ v u Q I rx ry ⟨_,_,_,rfl,rfl,hz,e,q⟩ hs
  | dic g q =>
    cases rx
    exact tail_any (dict_typeIs I g) PySem.F.slot_dict_getitem.lookup (d_getItem (by omega) I g ry fun w' s3 I3 rw'=>⟨_,H,I3,rw',q⟩) hs
inductive SetX (H : Hp) : V→V→V→(Hp→Prop)→Prop
  | lst {p : Addr} {xs : List V} {k : Int} {j : Nat} {v : V} {Q : Hp→Prop} : H p = some (.lst xs)→ixN xs.length k = some j→Q (upd H p (.lst (xs.set j v)))→SetX H (.ref p) (.int k) v Q
  | dic {a : Addr} {y v : V} {H' : Hp} {Q : Hp→Prop} : DPut H a y v H'→Q H'→SetX H (.ref a) y v Q
theorem set_X (hu : X.A.units + 64 < cLine) : PSet X (fun o i v H Q=>SetX H o i v Q):=by
  intro pins s σ H o i v ov iv u Q I ro ri rv h
  cases h with
  | lst e ej q=>exact set_list pins s σ H _ _ _ ov iv u Q I ro ri rv ⟨_,_,_,_,rfl,rfl,e,ej,q⟩
  | dic g q =>
    cases ro
    exact d_setItem (by omega) I g ri rv fun s4 I4=>⟨_,I4,q⟩
theorem pg_tupK (K : PySem.W.Frag) {es : List Expr} {k : Nat} {pos : Pos} {t : TGs} {n : Nat} (hc : X.calm = true) (h : PGs X es t)
    (hn : (assignEach es X.env).length = n:=by rfl) (hst : (assignEach es X.env).findIdx? (·.1) = none:=by rfl) (hK : X.K = K:=by rfl) : PG X (.Tuple es k pos) (gTup K n t):=hK ▸ pg_tup hc h hn hst
variable {p pos p2 pos2 : Pos} {e f : Expr} {t : TA}
end
end L2
namespace L2
open PySem PySem.Spec PyProof.Rows
section
variable {X : Cx} {p pos p2 pos2 : Pos} {e f : Expr} {t : TA}
def rTupL (K : PySem.W.Frag) : List V→Hp→VK→Prop:=fun xs H Q=>∃ a ys,xs = [.ref a]∧SqL K H a ys∧∀ l,H l = none→Q (.ref l) (upd H l (.tup ys))
theorem b_tuple (K : PySem.W.Frag) (B : Blt X.mg) (ha : PA X [e] t) (hg : Gl X "tuple":=by rfl) (he : starEach [e] X.env = (false,eval e X.env)::starEach [] X.env:=by rfl) (hpl : (backTo pos (starEach [] X.env)).any (·.1) = false:=by rfl) (hK : X.K = K:=by rfl) :
    PE X (.Call (.Name "tuple" p) [e] [] pos) (tCB (rTupL K) t):=by
  subst hK
  refine pe_callTy (r:=rTupL X.K) (fun pins s σ H xs us Q I r h=>?_) hg B.tuple (show bootBuiltins "tuple" = some (.type "tuple") by decide +kernel) ha (by decide) (by decide) he hpl
  obtain ⟨a,ys,rfl,hq,q⟩:=h
  exact call_tuple_of pins s σ H _ us Q I r ⟨a,ys,rfl,.inl ⟨hq,q⟩⟩
inductive LstR (K : PySem.W.Frag) (H : Hp) : V→VK→Prop
  | seq {a : Addr} {ys : List V} {Q : VK} : (SqL K H a ys∨SqT K H a ys)→(∀ l,H l = none→Q (.ref l) (upd H l (.lst ys)))→LstR K H (.ref a) Q
  | rng {a : Addr} {n : Nat} {Q : VK} : H a = some (.rng 0 (n : Int))→n≤1000→(∀ l,H l = none→Q (.ref l) (upd H l (.lst (rngV n))))→LstR K H (.ref a) Q
def rLst (K : PySem.W.Frag) : List V→Hp→VK→Prop:=fun xs H Q=>∃ x,xs = [x]∧LstR K H x Q
theorem vals_rng {n : Nat} {its : List Value} (hl : its.length = n) (h : ∀ i v, its[i]? = some v → ∃ t, v = Value.int (0 + (i : Nat) * 1) t) : Vals (rngV n) its := by
  subst hl
  have key : ∀ (its : List Value) (k : Nat), (∀ i v, its[i]? = some v → ∃ t, v = Value.int (0 + ((k + i : Nat) : Int)) t) → Vals ((List.range' k its.length).map fun i => V.int (0 + (i : Nat))) its := by
    intro its
    induction its with
    | nil=>intro k _;exact .nil
    | cons u r ih =>
      intro k h
      rw [List.length_cons,List.range'_succ,List.map_cons]
      refine .cons ?_ (ih (k + 1) fun i v e=>?_)
      · obtain ⟨t,e⟩:=h 0 u rfl
        exact ⟨t,by rw [e,Nat.add_zero]⟩
      · obtain ⟨t,e'⟩:=h (i + 1) v (by simpa using e)
        exact ⟨t,by rw [e',show ((k + (i + 1) : Nat) : Int) = ((k + 1 + i : Nat) : Int) by omega]⟩
  have:=key its 0 fun i v e=>by
    obtain ⟨t,e'⟩:=h i v e
    exact ⟨t,by rw [e',Int.mul_one,Nat.zero_add]⟩
  rw [rngV,List.range_eq_range']
  exact this
theorem b_list (K : PySem.W.Frag) (hc : X.calm = true) (B : Blt X.mg) (ha : PA X [e] t) (hg : Gl X "list":=by rfl) (he : starEach [e] X.env = (false,eval e X.env)::starEach [] X.env:=by rfl) (hpl : (backTo pos (starEach [] X.env)).any (·.1) = false:=by rfl) (hK : X.K = K:=by rfl) :
    PE X (.Call (.Name "list" p) [e] [] pos) (tCB (rLst K) t):=by
  subst hK
  refine pe_callTy (r:=rLst X.K) (fun pins s σ H xs us Q I r h=>?_) hg B.list (show bootBuiltins "list" = some (.type "list") by decide +kernel) ha (by decide) (by decide) he hpl
  obtain ⟨x,rfl,h⟩:=h
  cases h with
  | seq hq q=>exact call_list_of pins s σ H _ us Q I r ⟨_,_,rfl,hq,q⟩
  | @rng a n _ ea hn q =>
    obtain ⟨u,rfl,ru⟩:=vals1 r
    cases ru
    obtain ⟨t1,t2,t3,eh⟩:=(show ObjOk X.prog X.w H s.heap a (.rng 0 (n : Int)) from I.hok a _ ea)
    refine call_list_range (n:=n) (I.ok.hd hc) eh (small_one (by decide) (by decide) (by omega) (by omega)) (by rw [rangeSize_one];split <;> omega) (by omega) fun h' tk acc' c' hk hl hi=>?_
    have hv : Vals (rngV n) acc'.toList:=vals_rng (by simpa using hi.1) fun i v e=>hi.2 i v (by simpa using e)
    refine ⟨.ref _,_,I.laid (o:=.lst (rngV n)) hk (Nat.le_refl _) ⟨?_,acc'.toList,c',hv,by simpa using hl⟩,rfl,q _ (I.hok.fresh (Nat.le_refl _))⟩
    have : (rngV n).length = n:=by simp [rngV]
    rw [this]
    exact Nat.le_of_lt (small1000 hn)
theorem ins_at {its : List Value} {u : Value} {k : Nat} {x : Int} (hx : x = (k : Int)) (hk : k≤its.length) :
    (fun xs : Array Value=>have k:=if x < 0 then (x + (xs.size : Int)).toNat else min x.toNat xs.size;(xs.extract 0 k).push u++xs.extract k) its.toArray = (its.take k++u::its.drop k).toArray:=by
  subst hx
  simp only [List.size_toArray]
  rw [if_neg (by omega),Int.toNat_natCast,Nat.min_eq_left hk]
  simp [List.extract_eq_drop_take]
  exact List.take_of_length_le (by rw [List.length_drop];omega)
def rInsert : V→List V→Hp→VK→Prop:=fun x vs H Q=>∃ l xs i k y,x = .ref l∧vs = [.int i,y]∧i = ((k : Nat) : Int)∧H l = some (.lst xs)∧k≤xs.length∧xs.length < sizeLine∧Q .non (upd H l (.lst (xs.take k++y::xs.drop k)))
theorem mt_insert : MtR X "list.insert" rInsert:=by
  intro pins s σ H x vs v us Q I rx rv h
  obtain ⟨l,xs,i,k,y,rfl,rfl,hi,hH,hk,hz,q⟩:=h
  cases rx
  obtain ⟨u1,u2,rfl,r1,r2⟩:=vals2 rv
  obtain ⟨t,rfl⟩:=r1
  obtain ⟨z,its,n,r,hl,e⟩:=I.lstM hH
  have hs : its.length≤sizeLine:=by omega
  have hfit : Builtin.List.listFitsIndex i = true:=by
    have h1 : i < 2 ^ 63:=by have:=line63;omega
    exact fitsIndex_both (by omega) h1
  have ME:=PySem.AutoSeq1.list_insert_list_int_val_1 l its.toArray n i t u2 (by simp [hfit]) (by rw [List.size_toArray];exact hs)
  refine call_meets F.slot_list_insert ⟨_,e,rfl⟩ F.entry_list_insert (F.args_list_insert_3 _ _ _) ME ⟨e,?_⟩
  refine ⟨.non,_,I.lset (its':=its.take k++u2::its.drop k) hH e (ins_at hi (by omega)) (Vals.append (r.take k) (.cons r2 (r.drop k))) ?_,rfl,q⟩
  simp only [List.length_append,List.length_cons,List.length_take,List.length_drop]
  omega
theorem m_insert (K : PySem.W.Frag) {o e f : Expr} {to : TE} {t : TA} {apos cpos : Pos} (ho : PE X o to) (ha : PA X [e, f] t)
    (hbase : attributeBase o "insert" X.env (eval o X.env) = eval o X.env:=by rfl)
    (hfew : ((backTo cpos (starEach [e,f] X.env)).all (fun x=>!x.1) && (backToKw cpos (keywordEach [] X.env)).all (fun x=>x.1.isSome)
      && decide ([e,f].length + ([] : List Keyword).length + (if ([] : List Keyword).isEmpty then 0 else 1) < 30)) = true:=by rfl)
    (hline : (apos.endLine == cpos.line) = true:=by rfl) (hs : starEach [e,f] X.env = (false,eval e X.env)::starEach [f] X.env:=by rfl) (hplain : (backTo cpos (starEach [f] X.env)).any (·.1) = false:=by rfl) (hK : X.K = K:=by rfl) :
    PE X (.Call (.Attribute o "insert" apos) [e,f] [] cpos) (tBM K "list" rInsert to t):=hK ▸ pe_bm PySem.F.plainAttrs_list PySem.F.slot_list_insert PySem.F.type_list_insert mt_insert ho ha hbase hfew hline hs hplain
end
end L2
namespace L2
open PySem PySem.Spec PyProof.Rows
def Nm (s : Str) : Prop:=1≤s.length∧s.length≤8∧∀ c∈s.cps.toList,97≤c∧c≤122
theorem Nm.asc {s : Str} (h : Nm s) : Asc s:=fun c hc=>by have:=h.2.2 c hc;omega
def tieD (e : Nat × Nat) : PyData:=.tuple [.int e.1,.int e.2]
def pairD (e : Str × Str) : PyData:=.tuple [.str e.1,.str e.2]
def webD (ss : List Str) (ts : List (Str × Str)) : PyData:=.tuple [.tuple (ss.map .str),.tuple (ts.map pairD)]
section
variable {H H' : Hp}
theorem Rep.tupI {v : V} {ds : List PyData} (h : Rep H v (.tuple ds)) : ∃ a xs,v = .ref a∧H a = some (.tup xs)∧RepAll H xs ds:=by
  cases h with
  | tup e r=>exact ⟨_,_,rfl,e,r⟩
theorem Rep.strI {v : V} {s : Str} (h : Rep H v (.str s)) : v = .str s:=by cases h;rfl
theorem Rep.intI {v : V} {i : Int} (h : Rep H v (.int i)) : v = .int i:=by cases h;rfl
theorem RepAll.nilI {xs : List V} (h : RepAll H xs []) : xs = []:=by cases h;rfl
theorem RepAll.consI {xs : List V} {d : PyData} {ds : List PyData} (h : RepAll H xs (d::ds)) : ∃ y ys,xs = y::ys∧Rep H y d∧RepAll H ys ds:=by
  cases h with
  | cons a b=>exact ⟨_,_,rfl,a,b⟩
theorem RepAll.strs : ∀ {xs : List V} {ss : List Str},RepAll H xs (ss.map PyData.str)→xs = ss.map V.str
  | _,[],h=>by rw [h.nilI];rfl
  | _,s::ss,h=>by
    obtain ⟨y,ys,rfl,a,b⟩:=RepAll.consI h
    rw [a.strI,RepAll.strs b];rfl
theorem RepAll.of_strs : ∀ (ss : List Str),RepAll H (ss.map V.str) (ss.map PyData.str)
  | []=>.nil
  | s::ss=>.cons (.str s) (RepAll.of_strs ss)
theorem RepAll.len {xs : List V} {ds : List PyData} (h : RepAll H xs ds) : xs.length = ds.length:=by
  induction ds generalizing xs with
  | nil=>rw [h.nilI];rfl
  | cons d ds ih =>
    obtain ⟨y,ys,rfl,a,b⟩:=h.consI
    simp [ih b]
theorem RepAll.get {xs : List V} {ds : List PyData} (h : RepAll H xs ds) {i : Nat} {x : V} (e : xs[i]? = some x) : ∃ d,ds[i]? = some d∧Rep H x d:=by
  induction ds generalizing xs i with
  | nil=>rw [h.nilI] at e;simp at e
  | cons d ds ih =>
    obtain ⟨y,ys,rfl,a,b⟩:=h.consI
    cases i with
    | zero=>simp at e;subst e;exact ⟨d,rfl,a⟩
    | succ i=>simpa using ih b (by simpa using e)
theorem RepAll.append {xs ys : List V} {ds es : List PyData} (h : RepAll H xs ds) (g : RepAll H ys es) : RepAll H (xs++ys) (ds++es):=by
  induction ds generalizing xs with
  | nil=>rw [h.nilI];exact g
  | cons d ds ih =>
    obtain ⟨y,zs,rfl,a,b⟩:=h.consI
    exact .cons a (ih b)
theorem RepAll.take {xs : List V} {ds : List PyData} (h : RepAll H xs ds) : ∀ k,RepAll H (xs.take k) (ds.take k):=by
  induction ds generalizing xs with
  | nil=>intro k;rw [h.nilI];simp;exact .nil
  | cons d ds ih =>
    obtain ⟨y,zs,rfl,a,b⟩:=h.consI
    intro k
    cases k with
    | zero=>exact .nil
    | succ k=>exact .cons a (ih b k)
theorem RepAll.drop {xs : List V} {ds : List PyData} (h : RepAll H xs ds) : ∀ k,RepAll H (xs.drop k) (ds.drop k):=by
  induction ds generalizing xs with
  | nil=>intro k;rw [h.nilI];simp;exact .nil
  | cons d ds ih =>
    obtain ⟨y,zs,rfl,a,b⟩:=h.consI
    intro k
    cases k with
    | zero=>exact .cons a b
    | succ k=>exact ih b k
theorem tie_at {v : V} {e : Nat × Nat} (h : Rep H v (tieD e)) : ∃ a,v = .ref a∧H a = some (.tup [.int e.1,.int e.2]):=by
  obtain ⟨a,xs,rfl,ha,r⟩:=Rep.tupI h
  obtain ⟨y,ys,rfl,r1,r⟩:=r.consI
  obtain ⟨z,zs,rfl,r2,r⟩:=r.consI
  have e1:=RepAll.nilI r
  subst e1
  rw [r1.intI,r2.intI] at ha
  exact ⟨a,rfl,ha⟩
theorem pair_at {v : V} {e : Str × Str} (h : Rep H v (pairD e)) : ∃ a,v = .ref a∧H a = some (.tup [.str e.1,.str e.2]):=by
  obtain ⟨a,xs,rfl,ha,r⟩:=Rep.tupI h
  obtain ⟨y,ys,rfl,r1,r⟩:=r.consI
  obtain ⟨z,zs,rfl,r2,r⟩:=r.consI
  have e1:=RepAll.nilI r
  subst e1
  rw [r1.strI,r2.strI] at ha
  exact ⟨a,rfl,ha⟩
theorem tie_rep {a : Addr} {i j : Nat} (h : H a = some (.tup [.int i,.int j])) : Rep H (.ref a) (tieD (i,j)):=.tup h (.cons (.int _) (.cons (.int _) .nil))
theorem pair_rep {a : Addr} {s t : Str} (h : H a = some (.tup [.str s,.str t])) : Rep H (.ref a) (pairD (s,t)):=.tup h (.cons (.str _) (.cons (.str _) .nil))
theorem web_at {v : V} {ss : List Str} {ts : List (Str × Str)} (h : Rep H v (webD ss ts)) : ∃ q a b xs,v = .ref q∧H q = some (.tup [.ref a,.ref b])∧H a = some (.tup (ss.map V.str))∧H b = some (.tup xs)∧RepAll H xs (ts.map pairD):=by
  obtain ⟨q,ws,rfl,hq,r0⟩:=Rep.tupI h
  obtain ⟨y,ys,rfl,r1,r3⟩:=r0.consI
  obtain ⟨z,zs,rfl,r2,r4⟩:=r3.consI
  obtain ⟨a,xa,rfl,ha,ra⟩:=Rep.tupI r1
  obtain ⟨b,xb,rfl,hb,rb⟩:=Rep.tupI r2
  have e1:=RepAll.nilI r4
  subst e1
  have e2:=RepAll.strs ra
  subst e2
  exact ⟨q,a,b,xb,rfl,hq,ha,hb,rb⟩
end
theorem eqv_tie (a b : Nat × Nat) : PyData.eqv (tieD a) (tieD b) = decide (a = b):=by
  obtain ⟨a1,a2⟩:=a
  obtain ⟨b1,b2⟩:=b
  show ((a1 : Int) == (b1 : Int) && ((a2 : Int) == (b2 : Int) && true)) = _
  rw [Bool.and_true,Bool.eq_iff_iff]
  simp only [Bool.and_eq_true,beq_iff_eq,decide_eq_true_eq,Prod.mk.injEq]
  omega
theorem canLay_ties : ∀ es : List (Nat × Nat),PyData.canLayAll0 (es.map tieD) = true
  | []=>rfl
  | e::es=>by
    show (PyData.canLay0 (tieD e) && PyData.canLayAll0 (es.map tieD)) = true
    rw [canLay_ties es]
    rfl
theorem any_tie (es : List (Nat × Nat)) (e : Nat × Nat) : ((es.map tieD).any fun d=>PyData.eqv d (tieD e)) = decide (e∈es):=by
  rw [Bool.eq_iff_iff,List.any_eq_true,decide_eq_true_iff]
  constructor
  · rintro ⟨d,hd,q⟩
    obtain ⟨f,hf,rfl⟩:=List.mem_map.mp hd
    rw [eqv_tie,decide_eq_true_iff] at q
    rw [← q];exact hf
  · intro h
    exact ⟨tieD e,List.mem_map.mpr ⟨e,h,rfl⟩,by rw [eqv_tie];simp⟩
theorem depth_ties : ∀ es : List (Nat × Nat),PyData.depthAll (es.map tieD)≤1
  | []=>by decide
  | e::es=>by
    show max (PyData.depth (tieD e)) (PyData.depthAll (es.map tieD))≤1
    have h1 : PyData.depth (tieD e) = 1:=rfl
    have h2:=depth_ties es
    omega
theorem shp_ties (es : List (Nat × Nat)) : shp (.list (es.map tieD)):=by
  show (PyData.canLayAll0 (es.map tieD) && decide (PyData.depthAll (es.map tieD) + 1≤64)) = true
  have:=depth_ties es
  rw [canLay_ties,decide_eq_true (by omega)]
  rfl
end L2
set_option autoImplicit false
namespace MG
variable {α : Type}
def Walk (R : α→α→Prop) : Nat→α→α→Prop
  | 0,x,y=>x = y
  | n + 1,x,y=>∃ z,Walk R n x z∧R z y
def Rch (R : α→α→Prop) (x y : α) : Prop:=∃ n,Walk R n x y
def Dst (R : α→α→Prop) (x : α) (d : Nat) (y : α) : Prop:=Walk R d x y∧∀ k,k < d→¬ Walk R k x y
variable {R : α→α→Prop} {x : α}
theorem Dst.uniq {d e : Nat} {y : α} (a : Dst R x d y) (b : Dst R x e y) : d = e:=by
  rcases Nat.lt_trichotomy d e with h | h | h
  · exact absurd a.1 (b.2 d h)
  · exact h
  · exact absurd b.1 (a.2 e h)
theorem Rch.dst {y : α} (h : Rch R x y) : ∃ d, Dst R x d y := by
  obtain ⟨n,h⟩:=h
  induction n using Nat.strongRecOn generalizing y with
  | _ n ih =>
    by_cases e : ∃ k,k < n∧Walk R k x y
    · obtain ⟨k,hk,w⟩:=e
      exact ih k hk w
    · exact ⟨n,h,fun k hk w=>e ⟨k,hk,w⟩⟩
theorem Dst.rch {d : Nat} {y : α} (h : Dst R x d y) : Rch R x y:=⟨d,h.1⟩
theorem Dst.pred {d : Nat} {y : α} (h : Dst R x (d + 1) y) : ∃ z,Dst R x d z∧R z y:=by
  obtain ⟨⟨z,w,r⟩,m⟩:=h
  exact ⟨z,⟨w,fun k hk w'=>m (k + 1) (by omega) ⟨z,w',r⟩⟩,r⟩
theorem Dst.zero : Dst R x 0 x:=⟨rfl,fun k hk=>by omega⟩
theorem Dst.of_zero {y : α} (h : Dst R x 0 y) : y = x:=h.1.symm
theorem Dst.below {d : Nat} {y : α} (h : Dst R x d y) : ∀ e, e ≤ d → ∃ z, Dst R x e z := by
  induction d generalizing y with
  | zero => intro e he; have : e = 0 := by omega
            subst this;exact ⟨y,h⟩
  | succ d ih =>
    intro e he
    by_cases q : e = d + 1
    · subst q;exact ⟨y,h⟩
    · obtain ⟨z,hz,_⟩:=h.pred
      exact ih hz e (by omega)
theorem Rch.refl : Rch R x x:=⟨0,rfl⟩
theorem Rch.step {y z : α} (h : Rch R x y) (r : R y z) : Rch R x z:=by
  obtain ⟨n,w⟩:=h
  exact ⟨n + 1,y,w,r⟩
theorem Rch.closed {S : α → Prop} (h0 : S x) (hs : ∀ y z, S y → R y z → S z) {y : α} (h : Rch R x y) : S y := by
  obtain ⟨n,w⟩:=h
  induction n generalizing y with
  | zero => have : x = y := w
            subst this;exact h0
  | succ n ih =>
    obtain ⟨z,w,r⟩:=w
    exact hs z y (ih w) r
structure Lev (R : α→α→Prop) (x : α) (L : Nat) (look : α→Option Nat) (edge : List α) : Prop where
  snd : ∀ y k,look y = some k→Dst R x k y∧k≤L
  cmp : ∀ y k,k≤L→Dst R x k y→look y = some k
  edg : ∀ y,y∈edge ↔ Dst R x L y
structure Mid (R : α→α→Prop) (x : α) (L : Nat) (look : α→Option Nat) (further : List α) (done : α→α→Prop) : Prop where
  snd : ∀ y k,look y = some k→(Dst R x k y∧k≤L)∨(k = L + 1∧y∈further)
  cmp : ∀ y k,k≤L→Dst R x k y→look y = some k
  fur : ∀ y,y∈further→Dst R x (L + 1) y∧look y = some (L + 1)
  dn : ∀ z y,done z y→(look y).isSome = true
theorem Lev.start [DecidableEq α] {look : α→Option Nat} (h : ∀ y,look y = if y = x then some 0 else none) : Lev R x 0 look [x]:=by
  refine ⟨fun y k e=>?_,fun y k hk d=>?_,fun y=>?_⟩
  · rw [h] at e
    split at e
    · rename_i q;subst q;cases e;exact ⟨Dst.zero,Nat.le_refl _⟩
    · cases e
  · have : k = 0:=by omega
    subst this
    rw [h,if_pos d.of_zero]
  · rw [List.mem_singleton]
    exact ⟨fun e=>e ▸ Dst.zero,fun d=>d.of_zero⟩
theorem Lev.mid {L : Nat} {look : α→Option Nat} {edge : List α} (h : Lev R x L look edge) : Mid R x L look [] (fun _ _=>False) :=
  ⟨fun y k e=>.inl (h.snd y k e),h.cmp,fun y hy=>(nomatch hy),fun _ _ f=>f.elim⟩
theorem Mid.skip {L : Nat} {look : α→Option Nat} {further : List α} {done : α→α→Prop} (h : Mid R x L look further done) {z y : α} (e : (look y).isSome = true) : Mid R x L look further (fun a b=>done a b∨(a = z∧b = y)) :=
  ⟨h.snd,h.cmp,h.fur,fun a b d=>by
    rcases d with d | ⟨_,q⟩
    · exact h.dn a b d
    · rw [q];exact e⟩
theorem Mid.add {L : Nat} {look look' : α → Option Nat} {further : List α} {done : α → α → Prop} (h : Mid R x L look further done) {z y : α} (hz : Dst R x L z) (r : R z y) (e : look y = none)
    [DecidableEq α] (hl : ∀ a,look' a = if a = y then some (L + 1) else look a) : Mid R x L look' (further++[y]) (fun a b=>done a b∨(a = z∧b = y)):=by
  have dy : Dst R x (L + 1) y:=by
    refine ⟨⟨z,hz.1,r⟩,fun k hk w=>?_⟩
    obtain ⟨d,dd⟩:=Rch.dst ⟨k,w⟩
    have hd : d≤k:=Nat.le_of_not_lt fun q=>dd.2 k q w
    rw [h.cmp y d (by omega) dd] at e
    cases e
  refine ⟨fun a k q=>?_,fun a k hk d=>?_,fun a ha=>?_,fun a b d=>?_⟩
  · rw [hl] at q
    split at q
    · rename_i ea;cases q;subst ea;exact .inr ⟨rfl,by simp⟩
    · rcases h.snd a k q with q' | ⟨q1,q2⟩
      · exact .inl q'
      · exact .inr ⟨q1,by simp [q2]⟩
  · rw [hl]
    split
    · rename_i ea;subst ea;have:=d.uniq dy;omega
    · exact h.cmp a k hk d
  · rcases List.mem_append.mp ha with q | q
    · refine ⟨(h.fur a q).1,?_⟩
      rw [hl]
      split
      · rfl
      · exact (h.fur a q).2
    · have : a = y:=by simpa using q
      subst this
      exact ⟨dy,by rw [hl,if_pos rfl]⟩
  · rw [hl]
    split
    · rfl
    · rename_i nb
      rcases d with d | ⟨_,q⟩
      · exact h.dn a b d
      · exact absurd q nb
theorem Mid.wk {L : Nat} {look : α→Option Nat} {further : List α} {done done' : α→α→Prop} (h : Mid R x L look further done) (w : ∀ a b,done' a b→done a b) : Mid R x L look further done' :=
  ⟨h.snd,h.cmp,h.fur,fun a b d=>h.dn a b (w a b d)⟩
theorem Mid.next {L : Nat} {look : α→Option Nat} {further edge : List α} {done : α→α→Prop} (h : Mid R x L look further done) (he : ∀ y,y∈edge ↔ Dst R x L y) (hd : ∀ z y,z∈edge→R z y→done z y) : Lev R x (L + 1) look further:=by
  have key : ∀ y,Dst R x (L + 1) y→y∈further∧look y = some (L + 1):=fun y d=>by
    obtain ⟨z,dz,r⟩:=d.pred
    have s:=h.dn z y (hd z y ((he z).mpr dz) r)
    obtain ⟨k,e⟩:=Option.isSome_iff_exists.mp s
    rcases h.snd y k e with ⟨q,hk⟩ | ⟨q1,q2⟩
    · have:=q.uniq d;omega
    · subst q1;exact ⟨q2,e⟩
  refine ⟨fun y k e=>?_,fun y k hk d=>?_,fun y=>⟨fun q=>(h.fur y q).1,fun d=>(key y d).1⟩⟩
  · rcases h.snd y k e with ⟨q,hk⟩ | ⟨q1,q2⟩
    · exact ⟨q,by omega⟩
    · subst q1;exact ⟨(h.fur y q2).1,Nat.le_refl _⟩
  · by_cases q : k = L + 1
    · subst q;exact (key y d).2
    · exact h.cmp y k (by omega) d
theorem Lev.done {L : Nat} {look : α→Option Nat} (h : Lev R x L look []) : ∀ y k,look y = some k ↔ Dst R x k y:=fun y k=>by
  refine ⟨fun e=>(h.snd y k e).1,fun d=>?_⟩
  by_cases q : k≤L
  · exact h.cmp y k q d
  · obtain ⟨z,hz⟩:=d.below L (by omega)
    exact (nomatch (h.edg z).mpr hz)
end MG
namespace MG
variable {α : Type} {R : α→α→Prop} {x : α}
theorem Dst.lt {ss : List α} (hin : ∀ y, Rch R x y → y ∈ ss) {L : Nat} {y : α} (d : Dst R x L y) : L < ss.length := by
  have key : ∀ n, n ≤ L + 1 → ∃ zs : List α, zs.length = n ∧ zs.Nodup ∧ ∀ z ∈ zs, ∃ e, e < n ∧ Dst R x e z := by
    intro n
    induction n with
    | zero=>intro _;exact ⟨[],rfl,List.nodup_nil,fun z hz=>by cases hz⟩
    | succ n ih =>
      intro hn
      obtain ⟨zs,hl,hnd,hz⟩:=ih (by omega)
      obtain ⟨z,dz⟩:=d.below n (by omega)
      refine ⟨z::zs,by simp [hl],List.nodup_cons.mpr ⟨fun hm=>?_,hnd⟩,fun w hw=>?_⟩
      · obtain ⟨e,he,de⟩:=hz z hm
        have:=de.uniq dz
        omega
      · rcases List.mem_cons.mp hw with rfl | hw
        · exact ⟨n,by omega,dz⟩
        · obtain ⟨e,he,de⟩:=hz w hw
          exact ⟨e,by omega,de⟩
  obtain ⟨zs,hl,hnd,hz⟩:=key (L + 1) (Nat.le_refl _)
  have:=hnd.length_le_of_subset (l₂:=ss) fun z hm=>by
    obtain ⟨e,_,de⟩:=hz z hm
    exact hin z de.rch
  omega
end MG
namespace L2
open PySem PySem.Spec PyProof.Rows
def namesD (ss : List Str) : PyData:=.list (ss.map .str)
theorem names_rep {H : Hp} {a : Addr} {ss : List Str} (h : H a = some (.lst (ss.map V.str))) : Rep H (.ref a) (namesD ss):=.lst h (RepAll.of_strs ss)
theorem canLay_nm {s : Str} (h : Nm s) : PyData.canLay0 (.str s) = true:=by
  show (s.cps.all (· < 0x110000)) = true
  rw [← Array.all_toList,List.all_eq_true]
  intro c hc
  have:=h.2.2 c hc
  exact decide_eq_true (by omega)
theorem canLay_strs : ∀ ss : List Str,(∀ s∈ss,Nm s)→PyData.canLayAll0 (ss.map PyData.str) = true
  | [],_=>rfl
  | s::ss,h=>by
    show (PyData.canLay0 (.str s) && PyData.canLayAll0 (ss.map PyData.str)) = true
    rw [canLay_strs ss fun x hx=>h x (List.mem_cons_of_mem _ hx),canLay_nm (h s (by simp))]
    rfl
theorem depth_strs : ∀ ss : List Str,PyData.depthAll (ss.map PyData.str) = 0
  | []=>rfl
  | s::ss=>by
    show max (PyData.depth (.str s)) (PyData.depthAll (ss.map PyData.str)) = 0
    rw [depth_strs ss];rfl
theorem shp_names {ss : List Str} (h : ∀ s∈ss,Nm s) : shp (namesD ss):=by
  show (PyData.canLayAll0 (ss.map PyData.str) && decide (PyData.depthAll (ss.map PyData.str) + 1≤64)) = true
  rw [canLay_strs ss h,depth_strs];rfl
theorem textFrom_le {n : Nat} : ∀ (ts : List Str) (k : Nat) (acc : Str), (∀ t ∈ ts, t.length ≤ n) → (textFrom k acc ts).length ≤ acc.length + ts.length * (n + 2)
  | [],k,acc,_=>by show acc.length≤acc.length + 0 * _;omega
  | t::r,k,acc,h=>by
    have h1:=textFrom_le r (k + 1) (acc++(if k > 0 then ", " else "" : String)++t) fun u hu=>h u (List.mem_cons_of_mem _ hu)
    have h2:=h t (by simp)
    have e : (acc++(if k > 0 then ", " else "" : String)++t).length≤acc.length + 2 + t.length:=by
      rw [len_app,len_app]
      have : (Str.ofString (if k > 0 then ", " else "" : String)).length≤2:=by split <;> decide
      show acc.length + (Str.ofString (if k > 0 then ", " else "" : String)).length + t.length≤_
      omega
    show (textFrom (k + 1) (acc++(if k > 0 then ", " else "" : String)++t) r).length≤acc.length + (r.length + 1) * (n + 2)
    rw [Nat.succ_mul]
    omega
theorem Nm.repr {s : Str} (h : Nm s) : (reprText s).length≤82:=by
  have:=StrLaws.reprText_len s fun c hc=>Nat.lt_trans (h.asc c hc) (by decide)
  have:=h.2.1
  omega
structure Shw (d : PyData) : Prop where
  sh : shp d
  sb : d.showable = true
  hd : d.hasDict = false
  dp : d.depth≤16
  ln : d.shown.length≤sizeLine
theorem eqv_shp {d : PyData} (h : shp d) : PyData.eqv d d = true:=SeqAt.eqv_refl d (SeqAt.canLay_of_shaped h)
def spSame : Sp:=fun vs H Q _=>∃ x y d,vs = [x,y]∧Rep H x d∧Rep H y d∧Shw d∧Q (.bl true) H
theorem for_enum {K : PySem.W.Frag} {a : Addr} {xs : List V} {g : TG} {tb : TS} {D : Ends} {σ : St} {H : Hp} (Pv : Nat → St → Hp → Prop) (h0 : Pv 0 σ H) (hl : ∀ i σ H, i ≤ xs.length → Pv i σ H → SqL K H a xs)
    (hs : ∀ i x σ H p,xs[i]? = some x→Pv i σ H→H p = none→g (.ref p) σ (upd H p (.tup [.int i,x])) fun σ2 H2=>tb { D with nx:=Pv (i + 1),ct:=Pv (i + 1),bk:=D.nx } σ2 H2) (hd : ∀ σ H,Pv xs.length σ H→D.nx σ H) :
    ∃ W : Nat→Nat→St→Hp→Prop,(∃ m,W 0 m σ H)∧∀ i m σ H,W i m σ H →
      ((Ite K a).stop i H∧D.nx σ H)∨((Ite K a).go i H∧∃ N : St→Hp→Prop,(∀ σ' H',N σ' H'→∃ m',m' < m∧W (i + 1) m' σ' H')∧∀ x H',(Ite K a).yld i H x H'→g x σ H' fun σ2 H2=>tb { D with nx:=N,ct:=N,bk:=D.nx } σ2 H2):=by
  refine ⟨fun i m σ H=>m = xs.length - i∧i≤xs.length∧Pv i σ H,⟨xs.length,by simp,Nat.zero_le _,h0⟩,?_⟩
  rintro i m σ H ⟨rfl,hi,p⟩
  have q:=hl i σ H hi p
  by_cases hlt : i < xs.length
  · refine .inr ⟨⟨xs,xs[i],q,by simp [hlt]⟩,Pv (i + 1),fun σ' H' p'=>⟨xs.length - (i + 1),by omega,rfl,hlt,p'⟩,fun x H' y=>?_⟩
    obtain ⟨r,z,hr,rfl,hz,rfl⟩:=y
    exact hs i z σ H r (hz xs q) p hr
  · have e : i = xs.length:=by omega
    subst e
    exact .inl ⟨⟨xs,q,Nat.le_refl _⟩,hd σ H p⟩
def spPlaces : Sp:=fun vs H Q _=>∃ a xs,vs = [.ref a]∧H a = some (.lst (List.map V.str xs))∧xs.length≤1000 ∧
  ∀ d kvs H',Same H H'→H d = none→H' d = some (.dK kvs)→(∀ s,(valV kvs (.inr s)).isSome = true ↔ s∈xs)→(∀ s v,valV kvs (.inr s) = some v→∃ j : Nat,v = .int j∧xs[j]? = some s)→Q (.ref d) H'
structure Web (H : Hp) (v : V) (ss : List Str) (ts : List (Str × Str)) : Prop where
  rep : Rep H v (webD ss ts)
  nd : ss.Nodup
  nm : ∀ s∈ss,Nm s
  len : ss.length≤60
  few : ts.length≤401
  inn : ∀ e∈ts,e.1∈ss∧e.2∈ss
theorem Web.same {H H' : Hp} {v : V} {ss : List Str} {ts : List (Str × Str)} (h : Web H v ss ts) (s : Same H H') : Web H' v ss ts:=⟨h.rep.same s,h.nd,h.nm,h.len,h.few,h.inn⟩
def nxtL (ss : List Str) (ts : List (Str × Str)) (s : Str) : List Str:=ss.filter fun t=>decide ((s,t)∈ts)
def flipE (ts : List (Str × Str)) : List (Str × Str):=ts.map fun e=>(e.2,e.1)
theorem mem_flip {ts : List (Str × Str)} {a b : Str} : (a,b)∈flipE ts ↔ (b,a)∈ts:=by
  unfold flipE
  rw [List.mem_map]
  constructor
  · rintro ⟨⟨x,y⟩,h,e⟩
    cases e;exact h
  · intro h;exact ⟨(b,a),h,rfl⟩
def Tab (H : Hp) (d : Addr) (ss : List Str) (f : Str→List Str) : Prop:=∃ kvs,H d = some (.dK kvs)∧∀ s∈ss,∃ l,valV kvs (.inr s) = some (.ref l)∧H l = some (.lst (List.map V.str (f s)))
theorem Tab.same {H H' : Hp} {d : Addr} {ss : List Str} {f : Str→List Str} (h : Tab H d ss f) (s : Same H H') : Tab H' d ss f:=let ⟨kvs,a,b⟩:=h;⟨kvs,s _ _ a,fun x hx=>let ⟨l,c,e⟩:=b x hx;⟨l,c,s _ _ e⟩⟩
def Ner (ss : List Str) (f : Str→List Str) (a b : Str) : Prop:=a∈ss∧b∈f a
def Tie (ts : List (Str × Str)) (a b : Str) : Prop:=(a,b)∈ts
end L2
namespace MG
variable {α : Type} {R : α→α→Prop} {x : α}
theorem Walk.map {β : Type} {S : β→β→Prop} (f : α→β) (h : ∀ a b,R a b→S (f a) (f b)) {n : Nat} {y : α} (w : Walk R n x y) : Walk S n (f x) (f y):=by
  induction n generalizing y with
  | zero =>
    have w : x = y:=w
    subst w
    exact rfl
  | succ n ih =>
    obtain ⟨z,w,r⟩:=w
    exact ⟨f z,ih w,h z y r⟩
theorem Walk.back {β : Type} {S : β→β→Prop} (f : α→β) (h : ∀ a c,S (f a) c→∃ b,c = f b∧R a b) {n : Nat} {c : β} (w : Walk S n (f x) c) : ∃ y,c = f y∧Walk R n x y:=by
  induction n generalizing c with
  | zero =>
    have w : f x = c:=w
    exact ⟨x,w.symm,rfl⟩
  | succ n ih =>
    obtain ⟨z,w,r⟩:=w
    obtain ⟨y,rfl,wy⟩:=ih w
    obtain ⟨b,rfl,rb⟩:=h y c r
    exact ⟨b,rfl,y,wy,rb⟩
def swp (es : List (Nat × Nat)) : List (Nat × Nat):=es.map fun e=>(e.2,e.1)
theorem mem_swp {es : List (Nat × Nat)} {a b : Nat} : (a,b)∈swp es ↔ (b,a)∈es:=by
  unfold swp
  rw [List.mem_map]
  constructor
  · rintro ⟨⟨x,y⟩,h,e⟩
    cases e;exact h
  · intro h;exact ⟨(b,a),h,rfl⟩
def Arr (es : List (Nat × Nat)) (a b : Nat) : Prop:=(a,b)∈es
def To (es : List (Nat × Nat)) (goal k a : Nat) : Prop:=Dst (Arr (swp es)) goal k a
variable {es : List (Nat × Nat)} {goal : Nat}
theorem To.pred {k a : Nat} (h : To es goal (k + 1) a) : ∃ c,(a,c)∈es∧To es goal k c:=by
  obtain ⟨z,d,r⟩:=Dst.pred h
  exact ⟨z,mem_swp.mp r,d⟩
theorem To.step {k m a c : Nat} (r : (a,c)∈es) (h : To es goal k c) (g : To es goal m a) : m≤k + 1:=by
  refine Nat.le_of_not_lt fun q=>?_
  exact g.2 (k + 1) q ⟨c,h.1,mem_swp.mpr r⟩
theorem To.zero {a : Nat} (h : To es goal 0 a) : a = goal:=h.of_zero
theorem To.here : To es goal 0 goal:=Dst.zero
theorem To.rch {k a : Nat} (h : To es goal k a) : Rch (Arr (swp es)) goal a:=h.1 |> fun w=>⟨k,w⟩
theorem To.inn {n k a : Nat} (val : ∀ e∈es,e.1 < n∧e.2 < n) (hg : goal < n) (h : To es goal k a) : a < n :=
  Rch.closed (S:=fun y=>y < n) hg (fun x y _ r=>(val _ (mem_swp.mp r)).1) h.rch
theorem To.lt {n k a : Nat} (val : ∀ e∈es,e.1 < n∧e.2 < n) (hg : goal < n) (h : To es goal k a) : k < n:=by
  have:=Dst.lt (ss:=List.range n) (fun y r=>List.mem_range.mpr (Rch.closed (S:=fun y=>y < n) hg (fun x y _ r=>(val _ (mem_swp.mp r)).1) r)) h
  simpa using this
def Lst (es : List (Nat × Nat)) (goal k a b : Nat) : Prop:=(a,b)∈es∧To es goal k b∧∀ c,(a,c)∈es→To es goal k c→b≤c
theorem Lst.uniq {k a b c : Nat} (h : Lst es goal k a b) (g : Lst es goal k a c) : b = c:=Nat.le_antisymm (h.2.2 c g.1 g.2.1) (g.2.2 b h.1 h.2.1)
def Wy (es : List (Nat × Nat)) (goal : Nat) : Nat→Nat→List Nat→Prop
  | 0,a,ws=>a = goal∧ws = [a]
  | k + 1,a,ws=>∃ b r,ws = a::r∧Lst es goal k a b∧Wy es goal k b r
theorem Wy.uniq {k a : Nat} {ws vs : List Nat} (h : Wy es goal k a ws) (g : Wy es goal k a vs) : ws = vs:=by
  induction k generalizing a ws vs with
  | zero=>rw [h.2,g.2]
  | succ k ih =>
    obtain ⟨b,r,rfl,l,w⟩:=h
    obtain ⟨c,q,rfl,m,v⟩:=g
    have e:=l.uniq m
    subst e
    rw [ih w v]
theorem Wy.len {k a : Nat} {ws : List Nat} (h : Wy es goal k a ws) : ws.length = k + 1:=by
  induction k generalizing a ws with
  | zero=>rw [h.2];rfl
  | succ k ih =>
    obtain ⟨b,r,rfl,l,w⟩:=h
    simp [ih w]
theorem Wy.inn {n k a : Nat} {ws : List Nat} (val : ∀ e∈es,e.1 < n∧e.2 < n) (hg : goal < n) (h : Wy es goal k a ws) : ∀ x∈ws,x < n:=by
  induction k generalizing a ws with
  | zero =>
    rw [h.2,h.1]
    intro x hx
    have : x = goal:=by simpa using hx
    omega
  | succ k ih =>
    obtain ⟨b,r,rfl,l,w⟩:=h
    intro x hx
    rcases List.mem_cons.mp hx with rfl | hx
    · exact (val _ l.1).1
    · exact ih w x hx
def Pre (es : List (Nat × Nat)) (goal k one j a : Nat) (ws : List Nat) : Prop:=To es goal j a∧(∃ us,ws = us++[a])∧(∀ r,Wy es goal j a (a::r)→Wy es goal k one (ws++r))∧ws.length + j = k + 1
theorem Pre.start {k one : Nat} (h : To es goal k one) : Pre es goal k one k one [one]:=⟨h,⟨[],rfl⟩,fun r w=>w,by simp;omega⟩
theorem Pre.add {k one j a b : Nat} {ws : List Nat} (h : Pre es goal k one (j + 1) a ws) (l : Lst es goal j a b) : Pre es goal k one j b (ws++[b]):=by
  obtain ⟨h1,h2,h3,h4⟩:=h
  refine ⟨l.2.1,⟨ws,rfl⟩,fun r w=>?_,by simp;omega⟩
  rw [List.append_assoc]
  exact h3 (b::r) ⟨b,b::r,rfl,l,w⟩
theorem Pre.done {k one a : Nat} {ws : List Nat} (h : Pre es goal k one 0 a ws) : Wy es goal k one ws:=by
  have:=h.2.2.1 [] ⟨h.1.zero,rfl⟩
  simpa using this
end MG
namespace MG
variable {es : List (Nat × Nat)}
theorem Walk.cons {α : Type} {R : α→α→Prop} {x y z : α} {n : Nat} (r : R x y) (w : Walk R n y z) : Walk R (n + 1) x z:=by
  induction n generalizing z with
  | zero =>
    have w : y = z:=w
    subst w
    exact ⟨x,rfl,r⟩
  | succ n ih =>
    obtain ⟨v,w,q⟩:=w
    exact ⟨v,ih w,q⟩
theorem walk_swp {n a b : Nat} (w : Walk (Arr es) n a b) : Walk (Arr (swp es)) n b a:=by
  induction n generalizing b with
  | zero =>
    have w : a = b:=w
    exact w.symm
  | succ n ih =>
    obtain ⟨z,w,r⟩:=w
    exact Walk.cons (mem_swp.mpr r) (ih w)
theorem swp_swp (es : List (Nat × Nat)) : swp (swp es) = es:=by
  unfold swp
  rw [List.map_map]
  exact List.map_id'' (fun e=>rfl) es
theorem rch_to {a goal : Nat} : Rch (Arr es) a goal ↔ ∃ k,To es goal k a:=by
  constructor
  · rintro ⟨n,w⟩
    exact Rch.dst ⟨n,walk_swp w⟩
  · rintro ⟨k,h⟩
    have:=walk_swp h.1
    rw [swp_swp] at this
    exact ⟨k,this⟩
def RingAt (es : List (Nat × Nat)) (e : Nat × Nat) : Prop:=∃ k,To es e.1 k e.2
def FirstR (es : List (Nat × Nat)) (i : Nat) (e : Nat × Nat) : Prop:=es[i]? = some e∧RingAt es e∧∀ j,j < i→∀ f,es[j]? = some f→¬ RingAt es f
theorem FirstR.uniq {i j : Nat} {e f : Nat × Nat} (h : FirstR es i e) (g : FirstR es j f) : e = f:=by
  have : i = j:=by
    rcases Nat.lt_trichotomy i j with q | q | q
    · exact absurd h.2.1 (g.2.2 i q e h.1)
    · exact q
    · exact absurd g.2.1 (h.2.2 j q f g.1)
  subst this
  exact Option.some.inj (h.1.symm.trans g.1)
end MG
namespace L2
open PySem PySem.Spec PyProof.Rows
theorem same_free {H H' : Hp} {b : Addr} (s : Same H H') (h : H' b = none) : H b = none:=by
  cases q : H b with
  | none=>rfl
  | some o=>rw [s _ _ q] at h;cases h
theorem same_at {H H' : Hp} {b : Addr} {o : HO} (s : Same H H') (h : H b = none) : Same H (upd H' b o):=fun c o' hc=>by
  rw [upd_ne (ne_of_none hc h)];exact s _ _ hc
theorem penSame {H H' : Hp} {p a : Addr} (s : Same H H') (v : PenV H p a) : PenV H' p a:=let ⟨i,m,e,q⟩:=v;⟨i,m,s _ _ e,q⟩
end L2
namespace MG
section
variable {α : Type} [DecidableEq α]
def ix : List α→α→Nat
  | [],_=>0
  | a::r,x=>if a = x then 0 else ix r x + 1
theorem ix_here (a : α) (r : List α) : ix (a::r) a = 0:=by show (if a = a then 0 else _) = 0;rw [if_pos rfl]
theorem ix_next {a x : α} (r : List α) (h : a≠x) : ix (a::r) x = ix r x + 1:=by show (if a = x then 0 else _) = _;rw [if_neg h]
theorem ix_at {l : List α} (nd : l.Nodup) : ∀ {i : Nat} {x : α}, l[i]? = some x → ix l x = i := by
  induction l with
  | nil=>intro i x e;simp at e
  | cons a r ih =>
    intro i x e
    have ⟨h1,h2⟩:=List.nodup_cons.mp nd
    cases i with
    | zero=>simp at e;subst e;exact ix_here a r
    | succ i =>
      have e' : r[i]? = some x:=by simpa using e
      have hx:=List.mem_of_getElem? e'
      rw [ix_next r (fun q : a = x=>h1 (q ▸ hx)),ih h2 e']
end
variable {es : List (Nat × Nat)}
def Fwd (es : List (Nat × Nat)) : Prop:=∃ r : Nat→Nat,∀ e∈es,r e.1 < r e.2
theorem least (r : Nat → Nat) : ∀ (l : List Nat), l ≠ [] → ∃ k ∈ l, ∀ j ∈ l, r k ≤ r j
  | [],h=>absurd rfl h
  | [a],_=>⟨a,by simp,fun j hj=>by rw [List.mem_singleton.mp hj];exact Nat.le_refl _⟩
  | a::b::l,_=>by
    obtain ⟨k,hk,h⟩:=least r (b::l) (by simp)
    by_cases q : r a≤r k
    · refine ⟨a,by simp,fun j hj=>?_⟩
      rcases List.mem_cons.mp hj with rfl | hj
      · exact Nat.le_refl _
      · exact Nat.le_trans q (h j hj)
    · refine ⟨k,List.mem_cons_of_mem _ hk,fun j hj=>?_⟩
      rcases List.mem_cons.mp hj with rfl | hj
      · omega
      · exact h j hj
end MG
namespace L2
open PySem PySem.Spec PyProof.Rows
open PySem.AutoSeq1 (wpAny_loadPart')
section
variable {prog : Program} {w : World} {A : Around} {E : Value→Shared→Prop} {s : Shared}
theorem nextT_item {jt tt : Addr} {i : Nat} {its : Array Value} {y : Value} {Q : Value→Shared→Prop} (hj : s.heap.IsTupleIter jt tt i) (htt : s.heap.IsTuple tt its) (hy : its[i]? = some y)
    (hQ : ∀ h',h'.IsTupleIter jt tt (i + 1)→Heap.SameBut jt s.heap h'→Q y { s with heap:=h' }) : wpAny (model prog w) A (Builtin.SmallTypes.nextOf (.ref jt)) Q E s:=by
  obtain ⟨oj,hoj,cj,dj⟩:=id hj
  obtain ⟨ot,hot,_,nt,dt⟩:=htt
  unfold Builtin.SmallTypes.nextOf
  refine wpAny_bind (wpAny_callSpecial?_slot (name:=Str.ofString "__next__") hj.typeIs F.slot_tuple_iterator_next (wpAny_call_entry F.slot_tuple_iterator_next hj.typeIs F.entry_tuple_iterator_next ?_ (F.args_tuple_iterator_next_1 _)))
  show wpAny _ _ (field (.ref jt) 0 >>= _) _ _ s
  refine wpAny_bind (wpAny_field hoj dj (x:=.ref tt) rfl ?_)
  show wpAny _ _ (if (Value.ref tt == Value.none) = true then _ else _) _ _ s
  rw [if_neg (show ¬ ((Value.ref tt == Value.none) = true) from Bool.false_ne_true)]
  show wpAny _ _ (field (.ref jt) 1 >>= _) _ _ s
  refine wpAny_bind (wpAny_field hoj dj (x:=.int i 0) rfl (wpAny_bind (wpAny_seqItems hot dt ?_)))
  simp only [Int.toNat_natCast,hy]
  refine wpAny_bind (wpAny_setField hoj dj (by simp) (wpAny_pure ⟨y,rfl,wpAny_pure (hQ _ ?_ (Heap.SameBut.update ..))⟩))
  exact ⟨_,Heap.get?_update_self _ hoj (Obj.isFreed_of_fields (Obj.data_mapFields dj _)),(Obj.cls_mapFields ..).trans cj,by rw [Obj.data_mapFields dj];simp [rawInt]⟩
theorem nextT_end {jt tt : Addr} {i : Nat} {its : Array Value} {Q : Value→Shared→Prop} (hh : A.handled = none) (hj : s.heap.IsTupleIter jt tt i) (htt : s.heap.IsTuple tt its) (hy : its[i]? = none)
    (hE : ∀ h' e,Heap.ExtBut jt s.heap h'→(∃ o,h'.get? e = some o∧o.cls = .type "StopIteration")→E (.ref e) { s with heap:=h' }) : wpAny (model prog w) A (Builtin.SmallTypes.nextOf (.ref jt)) Q E s:=by
  obtain ⟨oj,hoj,cj,dj⟩:=id hj
  obtain ⟨ot,hot,_,nt,dt⟩:=htt
  unfold Builtin.SmallTypes.nextOf
  refine wpAny_bind (wpAny_callSpecial?_slot (name:=Str.ofString "__next__") hj.typeIs F.slot_tuple_iterator_next (wpAny_call_entry F.slot_tuple_iterator_next hj.typeIs F.entry_tuple_iterator_next ?_ (F.args_tuple_iterator_next_1 _)))
  show wpAny _ _ (field (.ref jt) 0 >>= _) _ _ s
  refine wpAny_bind (wpAny_field hoj dj (x:=.ref tt) rfl ?_)
  show wpAny _ _ (if (Value.ref tt == Value.none) = true then _ else _) _ _ s
  rw [if_neg (show ¬ ((Value.ref tt == Value.none) = true) from Bool.false_ne_true)]
  show wpAny _ _ (field (.ref jt) 1 >>= _) _ _ s
  refine wpAny_bind (wpAny_field hoj dj (x:=.int i 0) rfl (wpAny_bind (wpAny_seqItems hot dt ?_)))
  simp only [Int.toNat_natCast,hy]
  refine wpAny_bind (wpAny_rule (wpAny_bind (wpAny_setField hoj dj (by simp) ?_)))
  show wpAny _ _ (newExc (.type "StopIteration") [] >>= _) _ _ _
  refine wpAny_bind ?_
  simp only [newExc,newTuple]
  refine wpAny_bind (wpAny_newObj_type (wpAny_bind (m:=firstArgMember _ _) (wpAny_of_eq (a:=Value.none) (by first | rfl | (simp only [firstArgMember];rfl)) ?_)) (by size_fits))
  refine wpAny_newObj_type ?_ (by size_fits)
  simp only [raiseNew]
  refine wpAny_bind (wpAny_handled ?_)
  first | rw [show A.in1.handled = none from hh] | rw [hh]
  refine wpAny_bind (wpAny_pure (wpAny_throw (hE _ _ (((Heap.SameBut.update ..).extBut.push _).push _) ⟨_,Heap.get?_push_size _ rfl,rfl⟩)))
theorem drawsT {prog : Program} {w : World} {A : Around} (hh : A.handled = none) (jt tt : Addr) (hne : tt≠jt) (its : Array Value) :
    Draws prog w A jt [jt,tt] its.size (fun i y=>its[i]? = some y) (fun i h=>h.IsTupleIter jt tt i∧h.IsTuple tt its) where
  live:=fun i h st=>let ⟨o,e,_⟩:=st.1;⟨o,e⟩
  frame:=fun i h h' st k=>⟨let ⟨o,e,r⟩:=st.1;⟨o,k jt (by simp) o e,r⟩,let ⟨o,e,r⟩:=st.2;⟨o,k tt (by simp) o e,r⟩⟩
  item:=fun i s Q E hi st hQ=>nextT_item st.1 st.2 (y:=its[i]) (by simp [hi]) fun h' j' sb=>hQ _ h' s.toks (by simp [hi]) ⟨j',st.2.extBut sb.extBut hne⟩ sb
  done:=fun s Q E st hE=>nextT_end hh st.1 st.2 (by simp) hE
set_option maxHeartbeats 1000000 in
theorem meets_enumT (l : Addr) (its : Array Value) (n : Nat) (dct : Option Addr) (sl : Array (Option Value)) :
    Meets (Builtin.«enumerate.__new__» ⟨[.type "enumerate",.ref l],[]⟩) (fun _ R s=>s.heap.get? l = some { cls:=.type "tuple",dict:=dct,data:=.seq its n,slots:=sl } ∧
      R (.ok (.ret (.ref (s.heap.push { cls:=.type "tuple_iterator",data:=.fields #[.ref l,.int 0 0] }).objs.size)))
        { s with heap:=(s.heap.push { cls:=.type "tuple_iterator",data:=.fields #[.ref l,.int 0 0] }).push { cls:=.type "enumerate",data:=.fields #[.none,.bool false,.ref s.heap.objs.size,rawInt 0,.none,.none] } }) :=
  .of_wp fun prog w A R s h => by
    obtain ⟨h0,g0,d0,t0,os0⟩:=s
    obtain ⟨hl,h⟩:=h
    have hsub:=sub_enumerate
    have hT : Heap.IsTuple (Shared.heap ⟨h0,g0,d0,t0,os0⟩) l its:=⟨_,hl,rfl,n,rfl⟩
    wp_walk using wpAny_loadPart' hl
    refine wpAny_stack_any fun st=>wpAny_pure ?_
    split
    · rename_i c _ _ _ _ _
      cases (c == Value.type "enumerate")
      · wp_walk using wpAny_loadPart' hl,wpAny_pyIter_tuple hT
        exact ⟨_,rfl,h⟩
      · wp_walk using wpAny_loadPart' hl,wpAny_pyIter_tuple hT
        exact ⟨_,rfl,h⟩
    · wp_walk using wpAny_loadPart' hl,wpAny_pyIter_tuple hT
      exact ⟨_,rfl,h⟩
theorem call_enumT {l : Addr} {its : Array Value} {Q : Value→Shared→Prop} (hT : s.heap.IsTuple l its)
    (h : ∀ h',IsEnum h' (s.heap.objs.size + 1) s.heap.objs.size 0 .none→h'.IsTupleIter s.heap.objs.size l 0→(∀ b o,s.heap.get? b = some o→h'.get? b = some o)→Q (.ref (s.heap.objs.size + 1)) { s with heap:=h' }) :
    wpAny (model prog w) A (call (.type "enumerate") [.ref l]) Q E s:=by
  obtain ⟨⟨c,dct,dt,sl⟩,hl,hc,n,hd⟩:=hT
  replace hc : c = .type "tuple":=hc
  replace hd : dt = .seq its n:=hd
  subst hc hd
  refine callType_new F.called_enumerate (by decide) (F.typeCall_enumerate_1 _) (F.newCall_enumerate_1 _) (fun obj=>F.args_object_init_2 obj _) F.entry_enumerate_new (meets_enumT l its n dct sl) ⟨hl,?_⟩
  have hz : (s.heap.push { cls:=.type "tuple_iterator",data:=.fields #[.ref l,.int 0 0] }).objs.size = s.heap.objs.size + 1:=Heap.size_push ..
  show _∧_
  rw [hz]
  have he : IsEnum ((s.heap.push { cls:=.type "tuple_iterator",data:=.fields #[.ref l,.int 0 0] }).push { cls:=.type "enumerate",data:=.fields #[.none,.bool false,.ref s.heap.objs.size,rawInt 0,.none,.none] }) (s.heap.objs.size + 1) s.heap.objs.size 0 .none:=by
    have:=Heap.get?_push_size (s.heap.push { cls:=.type "tuple_iterator",data:=.fields #[.ref l,.int 0 0] }) (o:={ cls:=.type "enumerate",data:=.fields #[.none,.bool false,.ref s.heap.objs.size,rawInt 0,.none,.none] }) rfl
    rw [hz] at this;exact this
  exact ⟨⟨_,he,rfl⟩,h _ he ⟨_,Heap.get?_push_of_some _ (Heap.get?_push_size _ rfl),rfl,rfl⟩ fun b o x=>Heap.get?_push_of_some _ (Heap.get?_push_of_some _ x)⟩
end
def IteT (K : PySem.W.Frag) (a : Addr) : It :=
  ⟨fun i H=>∃ xs x,SqT K H a xs∧xs[i]? = some x,fun i H v H'=>∃ p x,H p = none∧v = .ref p∧(∀ xs,SqT K H a xs→xs[i]? = some x)∧H' = upd H p (.tup [.int i,x]),fun i H=>∃ xs,SqT K H a xs∧xs.length≤i⟩
theorem turn_enumT {P : Program} {w : World} {K : PySem.W.Frag} {elts : List Expr} {k : Nat} {tp : Pos} (a e it : Addr) (hne : e ≠ it) :
    Turn P w K (.Tuple elts k tp) (IteT K a) [e,it] e (fun i h=>(∃ old,IsEnum h e it i old)∧h.IsTupleIter it a i) where
  mem:=by simp
  obj:=fun i h st b hb=>by
    obtain ⟨⟨old,he⟩,hit⟩:=st
    have hb : b = e∨b = it:=by simpa using hb
    rcases hb with z | z
    · subst z
      exact ⟨_,he,fun v z=>by cases z⟩
    · subst z
      obtain ⟨o,e1,c,d⟩:=hit
      exact ⟨o,e1,fun v z=>by rw [d] at z;cases z⟩
  keep:=fun i h h' st kk=>by
    obtain ⟨⟨old,he⟩,hit⟩:=st
    exact ⟨⟨old,kk e (by simp) _ he⟩,let ⟨o,q,r⟩:=hit;⟨o,kk it (by simp) o q,r⟩⟩
  item := by
    intro X hP hw hK hc i pins s σ H E I hf st hg
    subst hP hw hK
    obtain ⟨⟨old,he⟩,hit⟩:=st
    obtain ⟨xs,x,hq,hx⟩:=hg
    obtain ⟨its,rv,p,hz⟩:=I.tuple hq
    obtain ⟨u,hu,ru⟩:=rv.get hx
    obtain ⟨f0,f1,f2,f3,f4,f5⟩:=hf e (by simp)
    obtain ⟨g0,g1,g2,g3,g4,g5⟩:=hf it (by simp)
    have hel : e < s.heap.objs.size:=Heap.lt_size he
    have hil : it < s.heap.objs.size:=by obtain ⟨o,q,_⟩:=hit;exact Heap.lt_size q
    have hae : a≠e:=fun z=>by
      obtain ⟨o,q,c,_⟩:=p
      rw [z,he] at q;cases q;simp at c
    have hai : a≠it:=fun z=>by
      obtain ⟨o,q,c,_⟩:=p
      obtain ⟨o',q',c',_⟩:=hit
      rw [z,q'] at q;cases q;rw [c] at c';simp at c'
    have hul:=(List.getElem?_eq_some_iff.mp hu).1
    refine wpAny_pyNext_enum_itemD (drawsT (A:=X.A.in1) (show X.A.in1.handled = none from I.ok.hd hc) it a hai its.toArray) he ⟨hit,p⟩ (by simpa using hul) hne (by simp [hne,Ne.symm hae]) fun u' h1 tk hu' ho hit1 ht1 hz1 k1=>?_
    have eu : u' = u:=by
      have : its[i]? = some u':=by simpa using hu'
      rw [hu] at this
      exact (Option.some.inj this).symm
    subst eu
    refine ⟨_,rfl,wpAny_letOwnedTupleGo_enum ho fun h2 he2 sb2=>?_⟩
    have sb2 : Heap.SameBut e h1 h2:=sb2
    have T2 : h2.get? s.heap.objs.size = some { cls:=.type "tuple",data:=.seq #[.int i tk,u'] }:=(sb2.2 _ (Nat.ne_of_gt hel)).trans ht1
    have hp : H s.heap.objs.size = none:=I.hok.fresh (Nat.le_refl _)
    have nit : ∀ b v,H b = some v→b≠e∧b≠it:=fun b v q=>⟨fun z=>(by rw [z,f0] at q;cases q),fun z=>(by rw [z,g0] at q;cases q)⟩
    have kk : ∀ b o,b≠e→b≠it→s.heap.get? b = some o→h2.get? b = some o:=fun b o n1 n2 q=>(sb2.2 b n1).trans (k1 b o n1 n2 q)
    have up : ∀ b v,H b = some v→upd H s.heap.objs.size (.tup [.int i,x]) b = some v:=fun b v q=>by rw [upd_ne (ne_of_none q hp)];exact q
    have I1 : Inv X pins σ (upd H s.heap.objs.size (.tup [.int i, x])) { s with heap := h2, gens := s.gens, drawn := s.drawn, toks := tk + 1 } := by
      refine I.step (g':=s.gens) (d':=s.drawn) (ch:=[e,it]) (fun b hb=>?_) (fun b o _ _ hb q _=>kk b o (fun z=>hb (by simp [z])) (fun z=>hb (by simp [z])) q) (fun b o _ _ hb q _=>⟨o.slots,kk b o (fun z=>hb (by simp [z])) (fun z=>hb (by simp [z])) q⟩) (fun b o _ q n=>?_)
        (fun b o hb q=>⟨o,kk b o (fun z=>hb (by simp [z])) (fun z=>hb (by simp [z])) q⟩) (fun b ys q=>up b _ q) (fun b o v q=>up b _ q) (fun b ps q=>⟨#[],by rw [up b _ q];simp⟩) (fun m hm=>?_) (fun b v q=>?_) I.bare
      · have hb : b = e∨b = it:=by simpa using hb
        rcases hb with z | z
        · subst z;exact ⟨f3,f1,f4,f5⟩
        · subst z;exact ⟨g3,g1,g4,g5⟩
      · rw [upd_ne (Nat.ne_of_lt (Heap.lt_size q))];exact n
      · obtain ⟨o,es,ep,ho,r⟩:=hm
        exact ⟨o,es,ep,kk _ o (Ne.symm f1) (Ne.symm g1) ho,r⟩
      · by_cases hb : b = s.heap.objs.size
        · subst hb
          rw [upd_same] at q
          have q' : HO.tup [V.int i,x] = v:=Option.some.inj q
          subst q'
          exact ⟨by show 2≤sizeLine;decide,[.int i tk,u'],.cons ⟨_,rfl⟩ (.cons ru .nil),⟨_,T2,rfl,_,rfl,rfl⟩⟩
        · rw [upd_ne hb] at q
          refine (I.hok b v q).stay (fun c v' hc q'=>?_) (fun c q=>up c _ q) fun c ys q=>up c _ q
          rcases hc with z | z
          · rw [z] at q' ⊢;exact kk b v' (nit b v q).1 (nit b v q).2 q'
          · exact kk c v' (nit c _ z).1 (nit c _ z).2 q'
    refine ⟨.ref s.heap.objs.size,upd H s.heap.objs.size (.tup [.int i,x]),I1,rfl,⟨_,x,hp,rfl,fun ys hy=>by rw [I.tuple_inj hy hq];exact hx,rfl⟩,⟨⟨u',?_⟩,?_⟩,fun b hb=>?_⟩
    · exact (by simpa using he2)
    · obtain ⟨o,q,r⟩:=hit1.1
      exact ⟨o,(sb2.2 it (Ne.symm hne)).trans q,r⟩
    · have hb : b = e∨b = it:=by simpa using hb
      rcases hb with z | z
      · rw [z,upd_ne (Nat.ne_of_lt hel)];exact f0
      · rw [z,upd_ne (Nat.ne_of_lt hil)];exact g0
  done:=by
    intro X hP hw hK hc i pins s σ H E I hf st hg
    subst hP hw hK
    obtain ⟨⟨old,he⟩,hit⟩:=st
    obtain ⟨xs,hq,hx⟩:=hg
    obtain ⟨its,rv,p,hz⟩:=I.tuple hq
    obtain ⟨g0,g1,g2,g3,g4,g5⟩:=hf it (by simp)
    have hl:=rv.length
    have hT : s.TypeIs (.ref e) "enumerate":=⟨_,he,rfl⟩
    unfold pyNext
    refine wpAny_bind (wpAny_attempt (wpAny_callSpecial?_slot (name:=Str.ofString "__next__") hT F.slot_enumerate_next (wpAny_call_entry F.slot_enumerate_next hT F.entry_enumerate_next ?_ (F.args_enumerate_next_1 _))))
    show wpAny _ _ (field (.ref e) 2 >>= _) _ _ _
    refine wpAny_bind (wpAny_field he rfl (x:=.ref it) rfl (wpAny_bind (nextT_end (I.ok.hd hc) hit p (by simp;omega) fun h' x he' hx'=>?_)))
    obtain ⟨o,ho,hc'⟩:=hx'
    refine wpAny_bind (wpAny_isInstance (T:="StopIteration") (b:=true) ⟨o,ho,hc'⟩ isSubtype_stop ?_)
    exact wpAny_pure ⟨rfl,I.turned (t':=s.toks) (fun b o hb q=>he' b o hb q) g0 g1 g3 g4 g5⟩
  self:=fun _ _ _ _ _ st h=>by
    obtain ⟨⟨old,he⟩,_⟩:=st
    exact wpAny_pyIter_enum he h
inductive EnmR (K : PySem.W.Frag) (H : Hp) : V→(It→Hp→Prop)→Prop
  | lst {a : Addr} {xs : List V} {R : It→Hp→Prop} : SqL K H a xs→R (Ite K a) H→EnmR K H (.ref a) R
  | tup {a : Addr} {xs : List V} {R : It→Hp→Prop} : SqT K H a xs→R (IteT K a) H→EnmR K H (.ref a) R
def iEnumX (K : PySem.W.Frag) (ta : TA) : TI:=fun σ H R=>ta σ H fun vs H1=>∃ x,vs = [x]∧EnmR K H1 x R
theorem pi_enumX (K : PySem.W.Frag) {X : Cx} {elts : List Expr} {k : Nat} {tp : Pos} {a : Expr} {ta : TA} {p pos : Pos} (hg : Gl X "enumerate") (hm : X.mg "enumerate" = none) (ha : PA X [a] ta) (hs : starEach [a] X.env = [(false,eval a X.env)]:=by rfl) (hK : X.K = K:=by rfl) :
    PI X (.Tuple elts k tp) (.Call (.Name "enumerate" p) [a] [] pos) (iEnumX K ta):=by
  subst hK
  intro pins s σ H R I h
  refine Call_ (ld_blt I hg hm boot_enumerate (PyProof.Rows.callWith_type1 (thn (ha pos pins s σ H _ I h) fun us s1 ⟨vs,H1,I1,r1,q1⟩=>?_) hs rfl))
  obtain ⟨x,e,q⟩:=q1
  subst e
  obtain ⟨u,rfl,ru⟩:=vals1 r1
  have fin : ∀ b,b = s1.heap.objs.size + 1∨b = s1.heap.objs.size→FpOk X pins H1 b:=fun b hb=>by
    rcases hb with z | z
    · subst z;exact I1.fpOk (Nat.le_succ _) (I1.hok.fresh (Nat.le_succ _))
    · subst z;exact I1.fpOk (Nat.le_refl _) (I1.hok.fresh (Nat.le_refl _))
  cases q with
  | lst hq q =>
    cases ru
    obtain ⟨its,rv,pl,hz⟩:=I1.list hq
    refine call_enumerate_list pl.isList fun h' he hit hz' k'=>wpAny_pyIter_enum (s:={ s1 with heap:=h' }) he ?_
    exact ⟨_,[s1.heap.objs.size + 1,s1.heap.objs.size],_,_,H1,rfl,I1.kept (t':=s1.toks) k',turn_enum _ _ _ (Nat.succ_ne_self _),⟨⟨_,he⟩,hit⟩,fun b hb=>fin b (by simpa using hb),q⟩
  | tup hq q =>
    cases ru
    obtain ⟨its,rv,pl,hz⟩:=I1.tuple hq
    refine call_enumT pl fun h' he hit k'=>wpAny_pyIter_enum (s:={ s1 with heap:=h' }) he ?_
    exact ⟨_,[s1.heap.objs.size + 1,s1.heap.objs.size],_,_,H1,rfl,I1.kept (t':=s1.toks) k',turn_enumT _ _ _ (Nat.succ_ne_self _),⟨⟨_,he⟩,hit⟩,fun b hb=>fin b (by simpa using hb),q⟩
theorem for_enumT {K : PySem.W.Frag} {a : Addr} {xs : List V} {g : TG} {tb : TS} {D : Ends} {σ : St} {H : Hp} (Pv : Nat → St → Hp → Prop) (h0 : Pv 0 σ H) (hl : ∀ i σ H, i ≤ xs.length → Pv i σ H → SqT K H a xs)
    (hs : ∀ i x σ H p,xs[i]? = some x→Pv i σ H→H p = none→g (.ref p) σ (upd H p (.tup [.int i,x])) fun σ2 H2=>tb { D with nx:=Pv (i + 1),ct:=Pv (i + 1),bk:=D.nx } σ2 H2) (hd : ∀ σ H,Pv xs.length σ H→D.nx σ H) :
    ∃ W : Nat→Nat→St→Hp→Prop,(∃ m,W 0 m σ H)∧∀ i m σ H,W i m σ H →
      ((IteT K a).stop i H∧D.nx σ H)∨((IteT K a).go i H∧∃ N : St→Hp→Prop,(∀ σ' H',N σ' H'→∃ m',m' < m∧W (i + 1) m' σ' H')∧∀ x H',(IteT K a).yld i H x H'→g x σ H' fun σ2 H2=>tb { D with nx:=N,ct:=N,bk:=D.nx } σ2 H2):=by
  refine ⟨fun i m σ H=>m = xs.length - i∧i≤xs.length∧Pv i σ H,⟨xs.length,by simp,Nat.zero_le _,h0⟩,?_⟩
  rintro i m σ H ⟨rfl,hi,p⟩
  have q:=hl i σ H hi p
  by_cases hlt : i < xs.length
  · refine .inr ⟨⟨xs,xs[i],q,by simp [hlt]⟩,Pv (i + 1),fun σ' H' p'=>⟨xs.length - (i + 1),by omega,rfl,hlt,p'⟩,fun x H' y=>?_⟩
    obtain ⟨r,z,hr,rfl,hz,rfl⟩:=y
    exact hs i z σ H r (hz xs q) p hr
  · have e : i = xs.length:=by omega
    subst e
    exact .inl ⟨⟨xs,q,Nat.le_refl _⟩,hd σ H p⟩
end L2
namespace L2
open PySem PySem.Spec PyProof.Rows
inductive Thg (H : Hp) : V→Prop
  | non : Thg H .non
  | bl (b : Bool) : Thg H (.bl b)
  | int (i : Int) : Thg H (.int i)
  | str {z : Str} : z.length≤sizeLine→Thg H (.str z)
  | lst {a : Addr} {xs : List V} : H a = some (.lst xs)→Thg H (.ref a)
  | tup {a : Addr} {xs : List V} : H a = some (.tup xs)→Thg H (.ref a)
  | dK {a : Addr} {kvs : List (Key × V)} : H a = some (.dK kvs)→Thg H (.ref a)
  | dT {a : Addr} {kvs : List (List Key × V)} : H a = some (.dT kvs)→Thg H (.ref a)
def isS : V→Bool
  | .str _=>true
  | _=>false
def isI : V→Bool
  | .int _ | .bl _=>true
  | _=>false
def isB : V→Bool
  | .bl _=>true
  | _=>false
def isL (H : Hp) : V→Bool
  | .ref a=>match H a with
    | some (.lst _)=>true
    | _=>false
  | _=>false
def isT (H : Hp) : V→Bool
  | .ref a=>match H a with
    | some (.tup _)=>true
    | _=>false
  | _=>false
theorem isL_of {H : Hp} {a : Addr} {xs : List V} (e : H a = some (.lst xs)) : isL H (.ref a) = true:=by show (match H a with | some (.lst _)=>true | _=>false) = true;rw [e]
theorem isT_of {H : Hp} {a : Addr} {xs : List V} (e : H a = some (.tup xs)) : isT H (.ref a) = true:=by show (match H a with | some (.tup _)=>true | _=>false) = true;rw [e]
theorem isL_not {H : Hp} {a : Addr} {o : HO} (e : H a = some o) (n : ∀ xs,o≠.lst xs) : isL H (.ref a) = false:=by
  show (match H a with | some (.lst _)=>true | _=>false) = false
  rw [e];split
  · rename_i xs q;exact absurd (Option.some.inj q) (n xs)
  · rfl
theorem isT_not {H : Hp} {a : Addr} {o : HO} (e : H a = some o) (n : ∀ xs,o≠.tup xs) : isT H (.ref a) = false:=by
  show (match H a with | some (.tup _)=>true | _=>false) = false
  rw [e];split
  · rename_i xs q;exact absurd (Option.some.inj q) (n xs)
  · rfl
theorem ty_thg {K : PySem.W.Frag} {H : Hp} {x : V} (h : Thg H x) : ∃ t,TyOf K H x t∧PySem.W.kitOne K t (.type "str") = some (isS x)∧PySem.W.kitOne K t (.type "int") = some (isI x)∧PySem.W.kitOne K t (.type "bool") = some (isB x) ∧
    PySem.W.kitOne K t (.type "list") = some (isL H x)∧PySem.W.kitOne K t (.type "tuple") = some (isT H x):=by
  cases h with
  | non=>exact ⟨_,.non,by rfl,by rfl,by rfl,by rfl,by rfl⟩
  | bl b=>exact ⟨_,.bl b,by rfl,by rfl,by rfl,by rfl,by rfl⟩
  | int i=>exact ⟨_,.int i,by rfl,by rfl,by rfl,by rfl,by rfl⟩
  | str z=>exact ⟨_,.str _,by rfl,by rfl,by rfl,by rfl,by rfl⟩
  | lst e=>exact ⟨_,.lst e,by rfl,by rfl,by rfl,by rw [isL_of e];rfl,by rw [isT_not e (fun _ z=>by cases z)];rfl⟩
  | tup e=>exact ⟨_,.tup e,by rfl,by rfl,by rfl,by rw [isL_not e (fun _ z=>by cases z)];rfl,by rw [isT_of e];rfl⟩
  | dK e=>exact ⟨_,.dK e,by rfl,by rfl,by rfl,by rw [isL_not e (fun _ z=>by cases z)];rfl,by rw [isT_not e (fun _ z=>by cases z)];rfl⟩
  | dT e=>exact ⟨_,.dT e,by rfl,by rfl,by rfl,by rw [isL_not e (fun _ z=>by cases z)];rfl,by rw [isT_not e (fun _ z=>by cases z)];rfl⟩
def isLow (c : Nat) : Bool:=decide (97≤c) && decide (c≤122)
def isNm : V→Bool
  | .str z=>decide (1≤z.length) && (decide (z.length≤8) && z.cps.toList.all isLow)
  | _=>false
theorem isNm_iff {z : Str} : isNm (.str z) = true ↔ Nm z:=by
  show (decide (1≤z.length) && (decide (z.length≤8) && z.cps.toList.all isLow)) = true ↔ _
  rw [Bool.and_eq_true,Bool.and_eq_true,decide_eq_true_iff,decide_eq_true_iff,List.all_eq_true]
  unfold Nm
  constructor
  · rintro ⟨h1,h2,h3⟩
    refine ⟨h1,h2,fun c hc=>?_⟩
    have h:=h3 c hc
    unfold isLow at h
    rw [Bool.and_eq_true,decide_eq_true_iff,decide_eq_true_iff] at h
    exact h
  · rintro ⟨h1,h2,h3⟩
    refine ⟨h1,h2,fun c hc=>?_⟩
    unfold isLow
    rw [Bool.and_eq_true,decide_eq_true_iff,decide_eq_true_iff]
    exact h3 c hc
theorem lt_one (c d : Nat) : decide ([c] < [d]) = decide (c < d):=by
  by_cases h : c < d
  · rw [decide_eq_true h];exact decide_eq_true (List.Lex.rel h)
  · rw [decide_eq_false h]
    refine decide_eq_false fun z=>?_
    cases z with
    | rel z=>exact h z
    | cons z=>cases z
def spIsName : Sp:=fun vs H Q _=>∃ x,vs = [x]∧Thg H x∧∀ H',Same H H'→Q (.bl (isNm x)) H'
def pK (e : Str × Str) : List Key:=[.inr e.1,.inr e.2]
theorem pK_inj {e f : Str × Str} (h : pK e = pK f) : e = f:=by
  unfold pK at h
  have h1:=List.cons.inj h
  have h2:=List.cons.inj h1.2
  exact Prod.ext (Sum.inr.inj h1.1) (Sum.inr.inj h2.1)
inductive PlR (H : Hp) : V → VK → Prop
  | nm {a : Addr} {xs : List Str} {Q : VK} : (H a = some (.lst (List.map V.str xs))∨H a = some (.tup (List.map V.str xs)))→xs.length≤1000 →
      (∀ d kvs H',Same H H'→H d = none→H' d = some (.dK kvs)→(∀ s,(valV kvs (.inr s)).isSome = true ↔ s∈xs)→(∀ s v,valV kvs (.inr s) = some v→∃ j : Nat,v = .int j∧xs[j]? = some s)→(kvs.map (·.1)).Nodup→(∀ k∈kvs.map (·.1),∃ s∈xs,k = Sum.inr s)→Q (.ref d) H')→PlR H (.ref a) Q
  | pr {a : Addr} {refs : List V} {ps : List (Str × Str)} {Q : VK} : (H a = some (.lst refs)∨H a = some (.tup refs))→RepAll H refs (ps.map pairD)→ps.length≤1000 →
      (∀ d kvs H',Same H H'→H d = none→H' d = some (.dT kvs)→(∀ e : Str × Str,(valV kvs (pK e)).isSome = true ↔ e∈ps)→Q (.ref d) H')→PlR H (.ref a) Q
def spPlacesX : Sp:=fun vs H Q _=>∃ x,vs = [x]∧PlR H x Q
section
variable {X : Cx} {p pos p2 pos2 : Pos} {e f : Expr} {t : TA}
inductive IntR (H : Hp) : V→VK→Prop
  | int {i : Int} {Q : VK} : Q (.int i) H→IntR H (.int i) Q
  | bl {b : Bool} {Q : VK} : Q (.int (if b then 1 else 0)) H→IntR H (.bl b) Q
theorem b_int (B : Blt X.mg) (ha : PA X [e] t) (hg : Gl X "int":=by rfl) (he : starEach [e] X.env = (false,eval e X.env)::starEach [] X.env:=by rfl) (hpl : (backTo pos (starEach [] X.env)).any (·.1) = false:=by rfl) :
    PE X (.Call (.Name "int" p) [e] [] pos) (tCB (fun xs H Q=>∃ x,xs = [x]∧IntR H x Q) t):=by
  refine pe_callTy (r:=fun xs H Q=>∃ x,xs = [x]∧IntR H x Q) (fun pins s σ H xs us Q I r h=>?_) hg B.int PyProof.Rows.boot_int ha (by decide) (by decide) he hpl
  obtain ⟨x,rfl,h⟩:=h
  cases h with
  | int q=>exact call_int1 pins s σ H _ us Q I r (.inl ⟨_,rfl,q⟩)
  | bl q=>exact call_int1 pins s σ H _ us Q I r (.inr ⟨_,rfl,q⟩)
theorem g_tuple (B : Blt X.mg) (hg : Gl X "tuple":=by rfl) : PE X (.Name "tuple" p) (tC (.ty "tuple")):=pe_bltn hg B.tuple (show bootBuiltins "tuple" = some (.type "tuple") by decide +kernel) rfl
def rIsi2 (K : PySem.W.Frag) (c d : String) : List V→Hp→VK→Prop:=fun xs H Q=>∃ x a t b,xs = [x,.ref a]∧H a = some (.tup [.ty c,.ty d])∧TyOf K H x t∧PySem.W.kitAny K t [.type c,.type d] = some b∧Q (.bl b) H
theorem isinst_tup {pins : List (Addr × Obj)} {σ : St} {H : Hp} {s : Shared} {A : Around} {E : Value→Shared→Prop} {Q : Value→Shared→Prop} {x : V} {u t : Value} {tp : Addr} {dd : Option Addr} {its : List Value} {n : Nat} {sl : Array (Option Value)} {b : Bool}
    (I : Inv X pins σ H s) (rx : RelV x u) (ty : TyOf X.K H x t) (htp : s.heap.get? tp = some ⟨.type "tuple",dd,.seq its.toArray n,sl⟩) (e : PySem.W.kitAny X.K t its = some b) (h : ∀ tk,Q (.bool b) { s with toks:=tk }) :
    wpAny (model X.prog X.w) A (call (.builtin "isinstance") [u,.ref tp]) Q E s:=by
  cases ty with
  | non=>cases (show u = Value.none from rx);exact PySem.W.kia_tup PySem.W.kitx_none I.kIn True.intro htp e (fun z=>nomatch z) h
  | bl y=>cases (show u = Value.bool y from rx);exact PySem.W.kia_tup PySem.W.kitx_bool I.kIn True.intro htp e (fun z=>nomatch z) h
  | int i=>obtain ⟨t,q⟩:=(show ∃ t,u = Value.int i t from rx);cases q;exact PySem.W.kia_tup PySem.W.kitx_int I.kIn True.intro htp e (fun z=>nomatch z) h
  | str y=>obtain ⟨t,q⟩:=(show ∃ t,u = Value.str y t from rx);cases q;exact PySem.W.kia_tup PySem.W.kitx_str I.kIn True.intro htp e (fun z=>nomatch z) h
  | flt y=>obtain ⟨t,q⟩:=(show ∃ t,u = Value.float y t from rx);cases q;exact PySem.W.kia_tup PySem.W.kitx_float I.kIn True.intro htp e (fun z=>nomatch z) h
  | @lst a xs ea =>
    cases (show u = Value.ref a from rx)
    obtain ⟨_,_,n,_,h1⟩:=(show ObjOk X.prog X.w H s.heap a (.lst xs) from I.hok a _ ea)
    exact PySem.W.kia_tup PySem.W.kitx_list I.kIn ⟨_,h1,rfl⟩ htp e (fun z=>nomatch z) h
  | @frz a ob xs ea =>
    cases (show u = Value.ref a from rx)
    obtain ⟨_,_,_,n,_,h1⟩:=(show ObjOk X.prog X.w H s.heap a (.frz ob (.lst xs)) from I.hok a _ ea)
    exact PySem.W.kia_tup PySem.W.kitx_list I.kIn ⟨_,h1,rfl⟩ htp e (fun z=>nomatch z) h
  | @tup a xs ea =>
    cases (show u = Value.ref a from rx)
    obtain ⟨_,_,_,p⟩:=(show ObjOk X.prog X.w H s.heap a (.tup xs) from I.hok a _ ea)
    obtain ⟨o,h1,h2,_⟩:=p
    exact PySem.W.kia_tup PySem.W.kitx_tuple I.kIn ⟨o,h1,h2⟩ htp e (fun z=>nomatch z) h
  | @dK a kvs ea =>
    cases (show u = Value.ref a from rx)
    obtain ⟨_,_,vs,_,p⟩:=(show ObjOk X.prog X.w H s.heap a (.dK kvs) from I.hok a _ ea)
    obtain ⟨o,es,ep,h1,h2,_⟩:=p
    exact PySem.W.kia_tup PySem.W.kitx_dict I.kIn ⟨o,h1,h2.1⟩ htp e (fun z=>nomatch z) h
  | @dT a kvs ea =>
    cases (show u = Value.ref a from rx)
    obtain ⟨_,_,xs,_,o,es,ep,h1,h2,_⟩:=(show ObjOk X.prog X.w H s.heap a (.dT kvs) from I.hok a _ ea)
    exact PySem.W.kia_tup PySem.W.kitx_dict I.kIn ⟨o,h1,h2.1⟩ htp e (fun z=>nomatch z) h
  | @ins a C dx fs ea cl ha hn htk hm =>
    cases (show u = Value.ref a from rx)
    obtain ⟨mA,O,_⟩:=ins_get I.hok ea
    obtain ⟨od,J,_⟩:=O.look
    exact PySem.W.kia_tup (PySem.W.kitx_own (cl.get _) cl.hd ha hn htk hm) I.kIn J htp e (fun z=>nomatch z) h
theorem call_isi2 (c d : String) : CallR X (.builtin "isinstance") (rIsi2 X.K c d):=by
  intro pins s σ H xs us Q I r h
  obtain ⟨x,a,t,b,rfl,ea,ty,e,q⟩:=h
  obtain ⟨u,w',rfl,ru,rw'⟩:=vals2 r
  cases rw'
  obtain ⟨_,its,rv,⟨oc,od,odt,osl⟩,h1,h2,n,h3,_⟩:=(show ObjOk X.prog X.w H s.heap a (.tup [.ty c,.ty d]) from I.hok a _ ea)
  have h2 : oc = .type "tuple":=h2
  have h3 : odt = .seq its.toArray n:=h3
  subst h2 h3
  obtain ⟨u1,u2,rfl,r1,r2⟩:=vals2 rv
  cases r1
  cases r2
  exact isinst_tup I ru ty h1 e fun tk=>⟨.bl b,H,I.tok tk,rfl,q⟩
theorem b_isi2 (K : PySem.W.Frag) (c d : String) (B : Blt X.mg) (ha : PA X [e,f] t) (hg : Gl X "isinstance":=by rfl) (he : starEach [e,f] X.env = (false,eval e X.env)::starEach [f] X.env:=by rfl) (hpl : (backTo pos (starEach [f] X.env)).any (·.1) = false:=by rfl) (hK : X.K = K:=by rfl) : PE X (.Call (.Name "isinstance" p) [e,f] [] pos) (tCB (rIsi2 K c d) t) :=
  hK ▸ pe_callB (call_isi2 c d) hg B.isinstance boot_isinstance ha (by decide) (by decide) he hpl
end
theorem kit_lt {K : PySem.W.Frag} {H : Hp} {x : V} {t : Value} (h1 : PySem.W.kitOne K t (.type "list") = some (isL H x)) (h2 : PySem.W.kitOne K t (.type "tuple") = some (isT H x)) : PySem.W.kitAny K t [.type "list",.type "tuple"] = some (isL H x || isT H x):=by
  unfold PySem.W.kitAny
  rw [h1]
  cases isL H x with
  | true=>rfl
  | false =>
    show PySem.W.kitAny K t [.type "tuple"] = _
    unfold PySem.W.kitAny
    rw [h2]
    cases isT H x <;> rfl
end L2
namespace MG
variable {es : List (Nat × Nat)} {goal : Nat}
end MG
namespace L2
open PySem PySem.Spec PyProof.Rows
section
variable {X : Cx} {p pos : Pos} {e : Expr} {t : TA}
def rLenD : List V→Hp→VK→Prop:=fun xs H Q=>∃ a kvs,xs = [V.ref a]∧H a = some (.dK kvs)∧Q (.int kvs.length) H
theorem b_lenD (B : Blt X.mg) (ha : PA X [e] t) (hg : Gl X "len":=by rfl) (he : starEach [e] X.env = (false,eval e X.env)::starEach [] X.env:=by rfl) (hpl : (backTo pos (starEach [] X.env)).any (·.1) = false:=by rfl) : PE X (.Call (.Name "len" p) [e] [] pos) (tCB rLenD t) :=
  pe_callB call_lenD hg B.len PySem.boot_len ha (by decide) (by decide) he hpl
end
theorem eqv_str (x y : Str) : PyData.eqv (.str x) (.str y) = decide (x = y):=by
  show (x == y) = _
  by_cases h : x = y
  · subst h;simp
  · rw [decide_eq_false h];simpa using h
theorem twice_of {α : Type} [DecidableEq α] : ∀ {l : List α}, ¬ l.Nodup → ∃ l1 a l2, l = l1 ++ a :: l2 ∧ a ∈ l2
  | [],h=>absurd List.nodup_nil h
  | x::l,h=>by
    by_cases q : x∈l
    · exact ⟨[],x,l,rfl,q⟩
    · have h : ¬ l.Nodup:=fun z=>h (List.nodup_cons.mpr ⟨q,z⟩)
      obtain ⟨l1,a,l2,e,m⟩:=twice_of h
      exact ⟨x::l1,a,l2,by rw [e];rfl,m⟩
theorem len_keys {α : Type} [DecidableEq α] {ks ws : List α} (nd : ks.Nodup) (h1 : ∀ k ∈ ks, k ∈ ws) (h2 : ∀ w ∈ ws, w ∈ ks) : ks.length = ws.length ↔ ws.Nodup := by
  constructor
  · intro hl
    refine Classical.byContradiction fun hn=>?_
    obtain ⟨l1,a,l2,e,m⟩:=twice_of hn
    have:=nd.length_le_of_subset (l₂:=l1++l2) fun k hk=>by
      have:=h1 k hk
      rw [e] at this
      rcases List.mem_append.mp this with q | q
      · exact List.mem_append_left _ q
      · rcases List.mem_cons.mp q with q | q
        · rw [q];exact List.mem_append_right _ m
        · exact List.mem_append_right _ q
    rw [hl,e,List.length_append,List.length_append,List.length_cons] at this
    omega
  · intro hw
    exact Nat.le_antisymm (nd.length_le_of_subset h1) (hw.length_le_of_subset h2)
theorem len_kvs {kvs : List (Key × V)} {ws : List Str} (nd : (kvs.map (·.1)).Nodup) (ks : ∀ k ∈ kvs.map (·.1), ∃ s ∈ ws, k = Sum.inr s) (hin : ∀ s, (valV kvs (.inr s)).isSome = true ↔ s ∈ ws) : kvs.length = ws.length ↔ ws.Nodup := by
  have h:=len_keys (ks:=kvs.map (·.1)) (ws:=ws.map (Sum.inr : Str→Key)) nd (fun k hk=>by
      obtain ⟨s,hs,rfl⟩:=ks k hk
      exact List.mem_map.mpr ⟨s,hs,rfl⟩) (fun k hk=>by
      obtain ⟨s,hs,rfl⟩:=List.mem_map.mp hk
      obtain ⟨v,hv⟩:=Option.isSome_iff_exists.mp ((hin s).mpr hs)
      exact valV_in hv)
  rw [List.length_map,List.length_map] at h
  rw [h]
  constructor
  · intro q
    exact List.Pairwise.of_map (Sum.inr : Str→Key) (fun a b n e=>n (by rw [e])) q
  · intro q
    exact List.Pairwise.map _ (fun a b n e=>n (Sum.inr.inj e)) q
end L2
namespace L2
open PySem PySem.Spec PyProof.Rows PySem.Builtin PySem.Builtin.Str
theorem star_c {c : Const} {j : Nat} {p : Pos} {es : List Expr} {env : Env} : starEach (.Constant c j p::es) env = (false,eval (.Constant c j p) env)::starEach es env:=rfl
theorem star_n {x : Str} {p : Pos} {es : List Expr} {env : Env} : starEach (.Name x p::es) env = (false,eval (.Name x p) env)::starEach es env:=rfl
end L2
namespace L2
open PySem PySem.Spec PyProof.Rows
def SqA (H : Hp) (a : Addr) (xs : List V) : Prop:=H a = some (.lst xs)∨H a = some (.tup xs)
theorem SqA.same {H H' : Hp} {a : Addr} {xs : List V} (h : SqA H a xs) (s : Same H H') : SqA H' a xs:=by
  rcases h with h | h
  · exact .inl (s _ _ h)
  · exact .inr (s _ _ h)
theorem SqA.len {K : PySem.W.Frag} {H : Hp} {a : Addr} {xs : List V} (h : SqA H a xs) : LenV K (.ref a) H xs.length:=by
  rcases h with h | h
  · exact .inl ⟨xs,.of h,rfl⟩
  · exact .inr ⟨xs,.of h,rfl⟩
theorem SqA.thg {H : Hp} {a : Addr} {xs : List V} (h : SqA H a xs) : Thg H (.ref a):=by
  rcases h with h | h
  · exact .lst h
  · exact .tup h
theorem SqA.lt {H : Hp} {a : Addr} {xs : List V} (h : SqA H a xs) : (isL H (.ref a) || isT H (.ref a)) = true:=by
  rcases h with h | h
  · rw [isL_of h];rfl
  · rw [isT_of h,Bool.or_true]
section
variable {X : Cx} {p pos p2 pos2 : Pos} {e f : Expr} {t : TA}
inductive TupR (K : PySem.W.Frag) (H : Hp) : V→VK→Prop
  | lst {a : Addr} {ys : List V} {Q : VK} : SqL K H a ys→(∀ l,H l = none→Q (.ref l) (upd H l (.tup ys)))→TupR K H (.ref a) Q
  | tup {a : Addr} {ys : List V} {Q : VK} : SqT K H a ys→Q (.ref a) H→TupR K H (.ref a) Q
theorem b_tupX (K : PySem.W.Frag) (B : Blt X.mg) (ha : PA X [e] t) (hg : Gl X "tuple":=by rfl) (he : starEach [e] X.env = (false,eval e X.env)::starEach [] X.env:=by rfl) (hpl : (backTo pos (starEach [] X.env)).any (·.1) = false:=by rfl) (hK : X.K = K:=by rfl) :
    PE X (.Call (.Name "tuple" p) [e] [] pos) (tCB (fun xs H Q=>∃ x,xs = [x]∧TupR K H x Q) t):=by
  subst hK
  refine pe_callTy (r:=fun xs H Q=>∃ x,xs = [x]∧TupR X.K H x Q) (fun pins s σ H xs us Q I r h=>?_) hg B.tuple (show bootBuiltins "tuple" = some (.type "tuple") by decide +kernel) ha (by decide) (by decide) he hpl
  obtain ⟨x,rfl,h⟩:=h
  cases h with
  | lst h1 q=>exact call_tuple_of pins s σ H _ us Q I r ⟨_,_,rfl,.inl ⟨h1,q⟩⟩
  | tup h1 q=>exact call_tuple_of pins s σ H _ us Q I r ⟨_,_,rfl,.inr ⟨h1,q⟩⟩
end
end L2
namespace L2
open PySem PySem.Spec PyProof.Rows
theorem shownAll_map : ∀ ds : List PyData,PyData.shownAll ds = ds.map PyData.shown
  | []=>rfl
  | d::ds=>by
    show PyData.shown d::PyData.shownAll ds = _
    rw [shownAll_map ds];rfl
structure Sw (d : PyData) (n k : Nat) : Prop where
  lay : d.canLay0 = true
  sb : d.showable = true
  dp : d.depth≤k
  ln : d.shown.length≤n
theorem Sw.mono {d : PyData} {n k n' k' : Nat} (h : Sw d n k) (hn : n≤n') (hk : k≤k') : Sw d n' k':=⟨h.lay,h.sb,Nat.le_trans h.dp hk,Nat.le_trans h.ln hn⟩
theorem Sw.all {n k : Nat} : ∀ {ds : List PyData}, (∀ d ∈ ds, Sw d n k) → PyData.canLayAll0 ds = true ∧ PyData.showableAll ds = true ∧ PyData.depthAll ds ≤ k
  | [],_=>⟨rfl,rfl,Nat.zero_le _⟩
  | d::ds,h=>by
    obtain ⟨a,b,c⟩:=Sw.all fun x hx=>h x (List.mem_cons_of_mem _ hx)
    have q:=h d (by simp)
    refine ⟨?_,?_,?_⟩
    · show (PyData.canLay0 d && PyData.canLayAll0 ds) = true
      rw [q.lay,a];rfl
    · show (PyData.showable d && PyData.showableAll ds) = true
      rw [q.sb,b];rfl
    · show max (PyData.depth d) (PyData.depthAll ds)≤k
      have:=q.dp
      omega
theorem Sw.list {n k : Nat} {ds : List PyData} (h : ∀ d∈ds,Sw d n k) : Sw (.list ds) (2 + ds.length * (n + 2)) (k + 1):=by
  obtain ⟨a,b,c⟩:=Sw.all h
  refine ⟨a,b,(by show PyData.depthAll ds + 1≤k + 1;omega),?_⟩
  show (listText (PyData.shownAll ds)).length≤_
  rw [shownAll_map]
  have h1:=textFrom_le (n:=n) (ds.map PyData.shown) 0 "[" fun t ht=>by
    obtain ⟨e,he,rfl⟩:=List.mem_map.mp ht
    exact (h e he).ln
  rw [List.length_map] at h1
  have h3 : (Str.ofString "[").length = 1:=rfl
  have h4 : (Str.ofString "]").length = 1:=rfl
  have h1 : (textFrom 0 (Str.ofString "[") (ds.map PyData.shown)).length≤(Str.ofString "[").length + ds.length * (n + 2):=h1
  show (textFrom 0 "[" (ds.map PyData.shown)++"]").length≤_
  rw [len_app]
  show (textFrom 0 (Str.ofString "[") (ds.map PyData.shown)).length + (Str.ofString "]").length≤_
  omega
theorem Sw.shw {d : PyData} {n k : Nat} (h : Sw d n k) (hk : k≤16) (hn : n≤sizeLine) : Shw d:=by
  have sh : shp d:=by
    show (PyData.canLay0 d && decide (PyData.depth d≤64)) = true
    have:=h.dp
    rw [h.lay,decide_eq_true (by omega)];rfl
  exact ⟨sh,h.sb,PyData.hasDict_of_canLay _ (SeqAt.canLay_of_shaped sh),Nat.le_trans h.dp hk,Nat.le_trans h.ln hn⟩
theorem Sw.nm {s : Str} (h : Nm s) : Sw (.str s) 82 0:=⟨canLay_nm h,rfl,Nat.le_refl 0,h.repr⟩
theorem join_le {n : Nat} : ∀ (ts : List Str),(∀ t∈ts,t.length≤n)→(Str.join ", " ts).length≤ts.length * (n + 2)
  | [],_=>Nat.zero_le _
  | [y],h=>by
    have:=h y (by simp)
    show y.length≤1 * (n + 2)
    omega
  | y::z::r,h=>by
    have h1:=join_le (z::r) fun t ht=>h t (List.mem_cons_of_mem _ ht)
    have h2:=h y (by simp)
    have h3 : (Str.ofString ", ").length = 2:=rfl
    show (y++", "++Str.join ", " (z::r)).length≤((z::r).length + 1) * (n + 2)
    rw [len_app,len_app,Nat.succ_mul]
    show y.length + (Str.ofString ", ").length + _≤_
    omega
theorem Sw.tuple {n k : Nat} {ds : List PyData} (h : ∀ d∈ds,Sw d n k) : Sw (.tuple ds) (3 + ds.length * (n + 2)) (k + 1):=by
  obtain ⟨a,b,c⟩:=Sw.all h
  refine ⟨a,b,(by show PyData.depthAll ds + 1≤k + 1;omega),?_⟩
  show (tupleText (PyData.shownAll ds)).length≤_
  rw [shownAll_map]
  have h1:=join_le (n:=n) (ds.map PyData.shown) fun t ht=>by
    obtain ⟨e,he,rfl⟩:=List.mem_map.mp ht
    exact (h e he).ln
  rw [List.length_map] at h1
  have h3 : (Str.ofString "(").length = 1:=rfl
  have h4 : ∀ b : Bool,(Str.ofString (if b then ",)" else ")" : String)).length≤2:=by intro b;cases b <;> decide
  show (("(" : Str)++Str.join ", " (ds.map PyData.shown)++(if (ds.map PyData.shown).length == 1 then ",)" else ")" : String)).length≤_
  rw [len_app,len_app]
  have h5:=h4 ((ds.map PyData.shown).length == 1)
  show (Str.ofString "(").length + _ + (Str.ofString (if (ds.map PyData.shown).length == 1 then ",)" else ")" : String)).length≤_
  omega
theorem Sw.pair {e : Str × Str} (h1 : Nm e.1) (h2 : Nm e.2) : Sw (pairD e) 171 1:=Sw.tuple (n:=82) (k:=0) (ds:=[.str e.1,.str e.2]) (fun d hd=>by
  rcases List.mem_cons.mp hd with rfl | hd
  · exact Sw.nm h1
  · rw [List.mem_singleton.mp hd];exact Sw.nm h2)
end L2
namespace L2
open PySem PySem.Spec PyProof.Rows
section
variable {X : Cx} {p pos p2 pos2 : Pos} {e f : Expr} {t : TA}
theorem mtR_extend : MtR X "list.extend" rExtend:=mt_extend
theorem m_extend (K : PySem.W.Frag) {o e : Expr} {to : TE} {t : TA} {apos cpos : Pos} (ho : PE X o to) (ha : PA X [e] t)
    (hbase : attributeBase o "extend" X.env (eval o X.env) = eval o X.env:=by rfl)
    (hfew : ((backTo cpos (starEach [e] X.env)).all (fun x=>!x.1) && (backToKw cpos (keywordEach [] X.env)).all (fun x=>x.1.isSome)
      && decide ([e].length + ([] : List Keyword).length + (if ([] : List Keyword).isEmpty then 0 else 1) < 30)) = true:=by rfl)
    (hline : (apos.endLine == cpos.line) = true:=by rfl) (hs : starEach [e] X.env = (false,eval e X.env)::starEach [] X.env:=by rfl) (hplain : (backTo cpos (starEach [] X.env)).any (·.1) = false:=by rfl) (hK : X.K = K:=by rfl) :
    PE X (.Call (.Attribute o "extend" apos) [e] [] cpos) (tBM K "list" rExtend to t):=hK ▸ pe_bm PySem.F.plainAttrs_list PySem.F.slot_list_extend PySem.F.type_list_extend mtR_extend ho ha hbase hfew hline hs hplain
end
end L2
namespace L2
open PySem PySem.Spec PyProof.Rows
theorem cutV_from (xs : List V) (k : Nat) : cutV xs (some (k : Int)) none = xs.drop k:=by
  unfold cutV
  rw [HT.sIx_nat,HT.sIx_none]
  by_cases h : k≤xs.length
  · rw [Nat.min_eq_left h,List.take_of_length_le (by rw [List.length_drop];omega)]
  · rw [Nat.min_eq_right (by omega),List.drop_of_length_le (Nat.le_refl _),List.drop_of_length_le (by omega)];simp
theorem cutV_to (xs : List V) (k : Nat) (h : k≤xs.length) : cutV xs none (some (k : Int)) = xs.take k:=by
  unfold cutV
  rw [HT.sIx_nat,HT.sIx_none,Nat.min_eq_left h,List.drop_zero,Nat.sub_zero]
end L2
namespace MG
variable {α : Type}
end MG
namespace L2
open PySem PySem.Spec PyProof.Rows
namespace SP
open PySem.Builtin PySem.Builtin.Str PySem.StrLaws
abbrev one (c : Nat) : Str:=⟨#[c]⟩
end SP
end L2
namespace L2
open PySem PySem.Spec PyProof.Rows
section
variable {X : Cx}
theorem slicePick_rev (its : List Value) : slicePick its.toArray none none (some (-1)) = its.reverse.toArray := by
  unfold slicePick
  have hb : sliceBounds none none (some (-1)) its.toArray.size = ((its.length : Int) - 1,-1,-1):=by
    simp [sliceBounds]
  rw [hb]
  show (List.filterMap _ (sliceRange ((its.length : Int) - 1) (-1) (-1))).toArray = _
  have hr : sliceRange ((its.length : Int) - 1) (-1) (-1) = (List.range its.length).map fun k => its.length - 1 - k := by
    unfold sliceRange
    have hc : (if (-1 : Int) > 0 then (if (its.length : Int) - 1 < -1 then (-1 - ((its.length : Int) - 1) + -1 - 1) / -1 else 0) else (if (its.length : Int) - 1 > -1 then ((its.length : Int) - 1 - -1 - -1 - 1) / (-(-1)) else 0)) = (its.length : Int):=by
      rw [if_neg (by decide)]
      by_cases h : (its.length : Int) - 1 > -1
      · rw [if_pos h]
        show ((its.length : Int) - 1 - -1 - -1 - 1) / 1 = _
        rw [Int.ediv_one]
        omega
      · rw [if_neg h]
        omega
    show List.map _ (List.range (Int.toNat _)) = _
    rw [hc,Int.toNat_natCast]
    refine List.map_congr_left fun k hk=>?_
    have:=List.mem_range.mp hk
    omega
  rw [hr]
  congr 1
  apply List.ext_getElem?
  intro j
  have hfm : ∀ ks : List Nat, (∀ k ∈ ks, k < its.length) → List.filterMap (fun x => its.toArray[x]?) (ks.map fun k => its.length - 1 - k) = ks.map fun k => its.getD (its.length - 1 - k) .none := by
    intro ks
    induction ks with
    | nil=>intro _;rfl
    | cons k r ih =>
      intro h
      have hk:=h k (by simp)
      rw [List.map_cons,List.map_cons,List.filterMap_cons]
      have e : its.toArray[its.length - 1 - k]? = some (its.getD (its.length - 1 - k) .none):=by
        rw [List.getD_eq_getElem?_getD,List.getElem?_toArray,List.getElem?_eq_getElem (by omega)]
        rfl
      rw [e,ih fun x hx=>h x (List.mem_cons_of_mem _ hx)]
  have hfm:=hfm (List.range its.length) fun k hk=>List.mem_range.mp hk
  rw [hfm,List.getElem?_map]
  by_cases hj : j < its.length
  · rw [List.getElem?_range hj,List.getElem?_reverse hj,List.getElem?_eq_getElem (by omega)]
    show some (its.getD (its.length - 1 - j) .none) = _
    rw [List.getD_eq_getElem?_getD,List.getElem?_eq_getElem (by omega)]
    rfl
  · rw [List.getElem?_eq_none (by simpa using hj),List.getElem?_eq_none (by rw [List.length_reverse];omega)]
    rfl
def rRev (K : PySem.W.Frag) (te : TE) (ts : TO) : TE:=fun σ H Q=>te σ H fun x H1=>ts σ H1 fun i H2=>∃ a xs,i = some (-1)∧x = .ref a∧SqL K H2 a xs∧∀ l,H2 l = none→Q (.ref l) (upd H2 l (.lst xs.reverse))
theorem pe_rev (K : PySem.W.Frag) {e st : Expr} {te : TE} {ts : TO} {p3 pos : Pos} (he : PE X e te) (hst : PO X (some st) ts) (hK : X.K = K:=by rfl) : PE X (.Subscript e (.Slice none none (some st) p3) pos) (rRev K te ts):=by
  subst hK
  intro pins s σ H Q I h
  refine Subscript_ (thn (he pins s σ H _ I h) fun v s1 ⟨x,H1,I1,r1,q1⟩=>?_)
  refine wpAny_Slice ?_
  rw [evalPart_none]
  refine wpAny_pure (wpAny_pure ?_)
  refine thn (hst pins s1 σ H1 _ I1 q1) fun vs s2 ⟨i,H2,I2,pi,q2⟩=>?_
  obtain ⟨a,xs,rfl,rfl,hx,q⟩:=q2
  cases r1
  have I4 : Inv X pins σ H2 { s2 with heap:=s2.heap.push { cls:=.type "slice",data:=.fields #[.none,.none,vs] } }:=I2.kept (t':=s2.toks) fun b ob q=>Heap.get?_push_of_some _ q
  obtain ⟨its,r,ht,hz⟩:=I4.list hx
  have hlen:=r.length
  show wpAny (model X.prog X.w) X.A (subscriptTail e (.Slice none none (some st) p3) (.ref a) (.ref s2.heap.objs.size)) (EP X pins σ Q) X.xe { s2 with heap:=s2.heap.push { cls:=.type "slice",data:=.fields #[.none,.none,vs] } }
  refine tail_any (ops:=[.ref a,.ref s2.heap.objs.size]) ht.isList.typeIs slot_list_getitem.lookup ?_ (by with_unfolding_all rfl)
  refine wpAny_getItem_list_slice ht.isList (Heap.IsSliceOf.new ..) .none .none pi (by simp) ?_ (by rw [List.size_toArray] <;> omega)
  rw [slicePick_rev]
  refine ⟨.ref _,_,I4.laid (t':=s2.toks) (o:=.lst xs.reverse) (fun b ob q=>Heap.get?_push_of_some _ q) (Nat.le_refl _) ?_,rfl,q _ (I4.hok.fresh (Nat.le_refl _))⟩
  exact ⟨by rw [List.length_reverse];exact hz,_,0,r.reverse,Heap.get?_push_size _ rfl⟩
variable {p pos : Pos} {e : Expr} {t : TA}
end
end L2
namespace MG
variable {es : List (Nat × Nat)} {goal : Nat}
theorem To.wy {k a : Nat} (h : To es goal k a) : ∃ ws, Wy es goal k a ws := by
  induction k generalizing a with
  | zero=>exact ⟨[a],h.zero,rfl⟩
  | succ k ih =>
    obtain ⟨c,hc,tc⟩:=h.pred
    have : ∀ m, (∃ b, b ≤ m ∧ (a, b) ∈ es ∧ To es goal k b) → ∃ b, Lst es goal k a b := by
      intro m
      induction m using Nat.strongRecOn with
      | _ m im =>
        rintro ⟨b,hb,h1,h2⟩
        by_cases q : ∃ d,d < b∧(a,d)∈es∧To es goal k d
        · obtain ⟨d,hd,h3,h4⟩:=q
          exact im d (by omega) ⟨d,Nat.le_refl _,h3,h4⟩
        · exact ⟨b,h1,h2,fun d h3 h4=>Nat.le_of_not_lt fun z=>q ⟨d,z,h3,h4⟩⟩
    obtain ⟨b,hb⟩:=this c ⟨c,Nat.le_refl _,hc,tc⟩
    obtain ⟨ws,hw⟩:=ih hb.2.1
    exact ⟨a::ws,b,ws,rfl,hb,hw⟩
end MG
set_option maxHeartbeats 400000
namespace L2
open PySem PySem.Spec PyProof.Rows
section
variable {X : Cx}
def rInDT (neg : Bool) : V→V→Hp→VK→Prop:=fun x y H Q=>∃ p xs ds d,y = .ref p∧H p = some (.tup xs)∧RepAll H xs ds∧Rep H x d∧PyData.canLayAll0 ds = true∧d.canLay0 = true∧d.depth≤16∧Q (.bl (if neg then !(ds.any fun e=>PyData.eqv e d) else ds.any fun e=>PyData.eqv e d)) H
theorem op_notInDT (hu : X.A.units + 64 < cLine) : OpR X (compareOp .NotIn) (rInDT true):=by
  intro pins s σ H x y v u Q I rx ry h
  obtain ⟨p,xs,ds,d,rfl,e,rs,r,cs,c,dp,q⟩:=h
  cases ry
  obtain ⟨its,rv,pl,_⟩:=I.tuple (a:=p) (xs:=xs) (.of e)
  obtain ⟨bs,zx⟩:=r.reads I.hok rx
  refine SeqAt.notIn_tupleAt (fun u=>PyData.eqv (SeqAt.readOf s.heap u) d) pl (fun w hw=>mem_readOf (x:=x) I.hok zx c (by show X.A.units + 1 + d.depth < cLine;omega) rs rv cs w (by simpa using hw)) ⟨.bl _,H,I,rfl,?_⟩
  rw [show its.toArray.any (fun u=>PyData.eqv (SeqAt.readOf s.heap u) d) = its.any (fun u=>PyData.eqv (SeqAt.readOf s.heap u) d) by simp,any_readOf I.hok rs rv cs]
  exact q
end
end L2
set_option maxHeartbeats 4000000
namespace MG
theorem nodup_le {l : List Nat} {n : Nat} (nd : l.Nodup) (h : ∀ x ∈ l, x < n) : l.length ≤ n := by
  have key : ∀ (l ws : List Nat),l.Nodup→(∀ x∈l,x∈ws)→l.length≤ws.length:=by
    intro l
    induction l with
    | nil=>intro ws _ _;exact Nat.zero_le _
    | cons s r ih =>
      intro ws nd hm
      obtain ⟨h1,h2⟩:=List.nodup_cons.mp nd
      have p:=(List.perm_cons_erase (hm s (by simp))).length_eq
      rw [List.length_cons] at p ⊢
      have:=ih (ws.erase s) h2 fun x hx=>(List.mem_erase_of_ne (fun z : x = s=>h1 (z ▸ hx))).mpr (hm x (List.mem_cons_of_mem _ hx))
      omega
  have:=key l (List.range n) nd fun x hx=>List.mem_range.mpr (h x hx)
  rwa [List.length_range] at this
end MG
namespace L2
open PySem PySem.Spec PyProof.Rows
theorem once {G T : Prop} (m : T→G) (t : T) : G:=m t
end L2
namespace MG
structure IsD (es : List (Nat × Nat)) (W D : Nat→Int) : Prop where
  ge : ∀ v,W v≤D v
  up : ∀ e∈es,D e.1 + W e.2≤D e.2
  eq : ∀ v,D v = W v∨∃ u,(u,v)∈es∧D v = D u + W v
def mx : List Int→Int
  | []=>0
  | x::l=>max x (mx l)
def dp (es : List (Nat × Nat)) (W : Nat→Int) : Nat→Nat→Int
  | 0,_=>0
  | k + 1,v=>W v + mx ((es.filter fun e=>decide (e.2 = v)).map fun e=>dp es W k e.1)
end MG
namespace L2
open PySem PySem.Spec PyProof.Rows
section
variable {X : Cx}
def rCatTA (K : PySem.W.Frag) : R2:=fun x y H Q=>∃ a b xs ys,x = .ref a∧y = .ref b∧SqT K H a xs∧SqT K H b ys∧xs.length + ys.length≤sizeLine ∧
  (xs = []→Q (.ref b) H)∧(xs≠[]→ys = []→Q (.ref a) H)∧(xs≠[]→ys≠[]→∀ p,H p = none→Q (.ref p) (upd H p (.tup (xs++ys))))
theorem op_catTA (K : PySem.W.Frag) (hK : X.K = K:=by rfl) : OpR X (binaryOp .Add) (rCatTA K):=by
  subst hK
  intro pins s σ H x y v u Q I rx ry h
  obtain ⟨a,b,xs,ys,rfl,rfl,ha,hb,hz,q0,q1,q2⟩:=h
  by_cases hx : xs = []
  · cases rx
    cases ry
    obtain ⟨its,r1,p1,_⟩:=I.tuple ha
    obtain ⟨its2,r2,p2,_⟩:=I.tuple hb
    have e1 : its = []:=r1.nil_iff.mpr hx
    obtain ⟨⟨cls,dd,data,sl⟩,ho,hc,n,hd⟩:=id p1
    obtain ⟨⟨cls2,dd2,data2,sl2⟩,ho2,hc2,n2,hd2⟩:=id p2
    simp only at hc hd hc2 hd2
    subst hc hd hc2 hd2
    exact concat_meets ⟨_,ho,rfl⟩ ⟨_,ho2,rfl⟩ noFill_tuple_add seq_tuple_add F.slot_tuple_add F.entry_tuple_add (F.args_tuple_add_2 _ _) (tuple_addW0 a b its.toArray its2.toArray n n2 dd dd2 sl sl2 (by simp [e1])) ⟨ho,ho2,⟨.ref b,H,I,rfl,q0 hx⟩⟩
  · exact op_catT pins s σ H _ _ v u Q I rx ry ⟨a,b,xs,ys,rfl,rfl,ha,hb,hx,hz,q1 hx,q2 hx⟩
end
end L2
namespace L2
open PySem
theorem idxAt {os : List Str} (nd : os.Nodup) {j : Nat} {s : Str} (h : os[j]? = some s) : os.idxOf s = j:=by
  have hj:=(List.getElem?_eq_some_iff.mp h).1
  have hm:=List.mem_of_getElem? h
  have hi:=List.idxOf_lt_length_of_mem hm
  have e : os[os.idxOf s]? = some s:=by rw [List.getElem?_eq_getElem hi,List.getElem_idxOf]
  exact ((List.getElem?_inj hj nd).mp (h.trans e.symm)).symm
theorem atIdx {os : List Str} {s : Str} (hm : s∈os) : os[os.idxOf s]? = some s:=by
  have hi:=List.idxOf_lt_length_of_mem hm
  rw [List.getElem?_eq_getElem hi,List.getElem_idxOf]
theorem getDIdx {os : List Str} {s : Str} (hm : s∈os) : os.getD (os.idxOf s) "" = s:=by rw [List.getD_eq_getElem?_getD,atIdx hm];rfl
end L2
namespace L2
open PySem PySem.Spec PyProof.Rows
def XF (B : Heap) (l : List Env) (a : Addr) (c : Value) (dd : Option Addr) (fl : Value) (h : Heap) : Prop :=
  B.StaysIn h∧B.get? a = none∧h.FunFrames B l∧∃ o vs T p ts,h.get? a = some o∧o.cls = c∧o.dict = dd∧o.data = .fields vs∧vs[1]? = some (.ref T)∧B.get? T = none∧T≠a∧h.get? T = some p∧p.data = .fields ts∧ts[3]? = some fl
theorem XF.there {B : Heap} {l : List Env} {a : Addr} {c fl : Value} {dd : Option Addr} {h : Heap} (x : XF B l a c dd fl h) : ∃ o,h.get? a = some o∧o.cls = c∧o.dict = dd:=by
  obtain ⟨_,_,_,o,_,_,_,_,e,k1,k2,_⟩:=x
  exact ⟨o,e,k1,k2⟩
theorem XF.rec {B : Heap} {l : List Env} {a : Addr} {c fl : Value} {dd : Option Addr} {h : Heap} (x : XF B l a c dd fl h) : ∃ o vs,h.get? a = some o∧o.data = .fields vs:=by
  obtain ⟨_,_,_,o,vs,_,_,_,e,_,_,k,_⟩:=x
  exact ⟨o,vs,e,k⟩
theorem XF.out {B : Heap} {e0 : Env} {l : List Env} {a : Addr} {c fl : Value} {dd : Option Addr} {h : Heap} (x : XF B (e0::l) a c dd fl h) : XF B l a c dd fl h:=⟨x.1,x.2.1,x.2.2.1.2.2,x.2.2.2⟩
theorem dict_map (f : Array Value→Array Value) (o : Obj) : (Obj.mapFields f o).dict = o.dict:=by
  unfold Obj.mapFields
  split <;> rfl
section
variable {M : Model} {A : Around} {E : Value→Shared→Prop} {s : Shared} {B : Heap} {e0 : Env} {out : List Env} {a L : Addr} {Q : Unit→Shared→Prop}
theorem entryX {o : Obj} {vs : Array Value} {hd : Value} {b0 : Bool} (fr : A.frames = some (e0 :: out)) (ff : s.heap.FunFrames B (e0 :: out)) (fL : e0.frame = some L) (ea : s.heap.get? a = some o) (st : B.StaysIn s.heap) (na : B.get? a = none) (dv : o.data = .fields vs) (n1 : 1 < vs.size)
    (k : ∀ h',XF B (e0::out) a o.cls o.dict (rawInt L) h'→s.heap.UpToSlots h'→Q () { s with heap:=h' }) :
    wpAny M A (do let f ← frameOf e0;let pl ← entryPlaceOf L b0;let b ← EntryCells.newEntry hd f .none (rawInt L) .none pl;setField (.ref a) 1 b) Q E s:=by
  have nf : a∉(e0::out).filterMap (·.frame):=fun z=>by
    obtain ⟨_,p,ep,q⟩:=ff.mem z
    exact q vs (Option.some.inj (ea.symm.trans ep) ▸ dv)
  refine wpAny_bind (wpAny_frameOf_fun fr ff fL fun g1 so=>wpAny_bind (wpAny_entryPlaceOf fun pl ip=>?_))
  unfold EntryCells.newEntry newFields
  refine wpAny_bind (wpAny_newObj_type ?_ (ip.sizeOk5 _ _ _ _ _))
  generalize ep : ([hd,Value.ref L,Value.none,rawInt L,Value.none]++(if pl.isEmpty then List.replicate 6 Value.none else pl)).toArray = tv
  have t3 : tv[3]? = some (rawInt L):=by rw [← ep];first | (simp;done) | (rcases ip with rfl | ⟨_,_,_,_,_,_,_,rfl⟩ <;> simp)
  have e1 : g1.get? a = some o:=(so.2.1 a nf).trans ea
  have e2:=Heap.get?_push_of_some (h:=g1) { cls:=.type "traceback",dict:=none,data:=.fields tv } e1
  have nT : g1.objs.size≠a:=Nat.ne_of_gt (Heap.lt_size e1)
  have dm:=Obj.data_mapFields dv (·.setIfInBounds 1 (Value.ref g1.objs.size))
  have ot : ∀ b p,b≠a→g1.get? b = some p→((g1.push { cls:=.type "traceback",dict:=none,data:=.fields tv }).update a (Obj.mapFields (·.setIfInBounds 1 (Value.ref g1.objs.size)))).get? b = some p:=fun b p nb eb=>by
    rw [Heap.get?_update_other _ _ (Ne.symm nb)]
    exact Heap.get?_push_of_some _ eb
  have up : s.heap.UpToSlots ((g1.push { cls:=.type "traceback",dict:=none,data:=.fields tv }).update a (Obj.mapFields (·.setIfInBounds 1 (Value.ref g1.objs.size)))):=fun b p eb q=>by
    obtain ⟨sl,es⟩:=so.2.2 b p eb
    exact ⟨sl,ot b _ (fun z=>q vs (Option.some.inj (ea.symm.trans (z ▸ eb)) ▸ dv)) es⟩
  refine wpAny_setField e2 dv n1 (k _ ?_ ?_)
  · have sg : B.StaysIn g1:=fun b p eb=>(so.2.1 b fun z=>by have:=(ff.mem z).1;rw [eb] at this;cases this).trans (st b p eb)
    refine ⟨fun b p eb=>ot b p (fun z=>by rw [z,na] at eb;cases eb) (sg b p eb),na,ff.of_keeps fun b p eb q=>?_,_,_,g1.objs.size,{ cls:=.type "traceback",dict:=none,data:=.fields tv },tv,Heap.get?_update_self _ e2 (Obj.isFreed_of_fields dm),Obj.cls_mapFields _ _,dict_map _ _,dm,by simp [n1],sg.fresh,nT,?_,rfl,t3⟩
    · obtain ⟨sl,es⟩:=up b p eb q
      exact ⟨_,es,rfl⟩
    · rw [Heap.get?_update_other _ _ (Ne.symm nT)]
      exact Heap.get?_push_size g1 rfl
  · exact up
theorem flightX {c fl x : Value} {dd : Option Addr} {l : List Env} (X : XF B l a c dd fl s.heap) : ∃ T p ts,(∀ h',h' = s.heap.update T (Obj.mapFields (·.setIfInBounds 3 x))→XF B l a c dd x h'∧s.heap.UpToSlots h') ∧
    s.heap.get? T = some p∧p.data = .fields ts∧ts[3]? = some fl∧∃ o vs,s.heap.get? a = some o∧o.data = .fields vs∧vs[1]? = some (.ref T):=by
  obtain ⟨st,na,ff,o,vs,T,p,ts,ea,k1,k2,dv,v1,nT,ne,eT,dT,t3⟩:=X
  have l3 : 3 < ts.size:=(Array.getElem?_eq_some_iff.mp t3).1
  refine ⟨T,p,ts,fun h' e=>?_,eT,dT,t3,o,vs,ea,dv,v1⟩
  have ot : ∀ b,b≠T→h'.get? b = s.heap.get? b:=fun b nb=>by rw [e];exact Heap.get?_update_other _ _ (Ne.symm nb)
  have up : s.heap.UpToSlots h':=fun b u eb q=>⟨u.slots,(ot b fun z=>q ts (Option.some.inj (eT.symm.trans (z ▸ eb)) ▸ dT)).trans eb⟩
  refine ⟨⟨fun b u eb=>(ot b fun z=>by rw [z,nT] at eb;cases eb).trans (st b u eb),na,ff.of_keeps fun b u eb q=>?_,o,vs,T,Obj.mapFields (·.setIfInBounds 3 x) p,ts.setIfInBounds 3 x,(ot a (Ne.symm ne)).trans ea,k1,k2,dv,v1,nT,ne,?_,Obj.data_mapFields dT _,by simp [l3]⟩,up⟩
  · obtain ⟨sl,es⟩:=up b u eb q
    exact ⟨_,es,rfl⟩
  · rw [e]
    exact Heap.get?_update_self _ eT (Obj.isFreed_of_fields (Obj.data_mapFields dT _))
theorem landX {c fl : Value} {dd : Option Addr} {l : List Env} (X : XF B l a c dd fl s.heap) (k : ∀ h',XF B l a c dd .none h'→s.heap.UpToSlots h'→Q () { s with heap:=h' }) : wpAny M A (setFlight (.ref a) none) Q E s:=by
  obtain ⟨T,p,ts,z,eT,dT,t3,o,vs,ea,dv,v1⟩:=flightX (x:=.none) X
  unfold setFlight
  refine wpAny_bind (wpAny_field ea dv v1 ?_)
  rw [if_pos (show (Value.ref T != Value.none) = true by simp)]
  obtain ⟨z1,z2⟩:=z _ rfl
  exact wpAny_setField eT dT (Array.getElem?_eq_some_iff.mp t3).1 (k _ z1 z2)
theorem noteX {c : Value} {dd : Option Addr} (fr : A.frames = some (e0::out)) (fL : e0.frame = some L) (X : XF B (e0::out) a c dd .none s.heap)
    (k : ∀ h',XF B (e0::out) a c dd (rawInt L) h'→s.heap.UpToSlots h'→Q () { s with heap:=h' }) : wpAny M A (noteFrame (.ref a) e0) Q E s:=by
  obtain ⟨T,p,ts,z,eT,dT,t3,o,vs,ea,dv,v1⟩:=flightX (x:=.none) X
  unfold noteFrame
  simp only [fL]
  refine wpAny_bind (wpAny_field ea dv v1 ?_)
  rw [if_pos (show (Value.ref T != Value.none) = true by simp)]
  refine wpAny_bind (wpAny_field eT dT t3 ?_)
  rw [if_neg (show ¬ ((Value.none == rawInt L) = true) by simp [rawInt])]
  obtain ⟨z1,z2⟩:=z _ rfl
  refine wpAny_bind (wpAny_setField eT dT (Array.getElem?_eq_some_iff.mp t3).1 ?_)
  obtain ⟨q1,q2,q3,o',vs',T',p',ts',g1,g2,g3,g4,g5,_⟩:=z1
  subst g2 g3
  exact entryX (s:={ s with heap:=s.heap.update T (Obj.mapFields (·.setIfInBounds 3 Value.none)) }) fr q3 fL g1 q1 q2 g4 (Array.getElem?_eq_some_iff.mp g5).1 fun h' x y=>k h' x (z2.trans y)
theorem leaveX {c : Value} {dd : Option Addr} (fr : A.frames = some (e0::out)) (fL : e0.frame = some L) (X : XF B (e0::out) a c dd .none s.heap)
    (k : ∀ h',XF B out a c dd .none h'→s.heap.UpToSlots h'→Q () { s with heap:=h' }) : wpAny M A (leaving e0 (.ref a)) Q E s:=by
  unfold leaving
  refine wpAny_bind (noteX fr fL X fun h' x y=>?_)
  exact landX (s:={ s with heap:=h' }) x fun h2 x2 y2=>k h2 x2.out (y.trans y2)
theorem leaveX0 {o : Obj} {vs : Array Value} (fr : A.frames = some (e0::out)) (ff : s.heap.FunFrames B (e0::out)) (fL : e0.frame = some L) (ea : s.heap.get? a = some o) (st : B.StaysIn s.heap) (na : B.get? a = none) (dv : o.data = .fields vs) (v1 : vs[1]? = some .none)
    (k : ∀ h',XF B out a o.cls o.dict .none h'→s.heap.UpToSlots h'→Q () { s with heap:=h' }) : wpAny M A (leaving e0 (.ref a)) Q E s:=by
  unfold leaving noteFrame
  simp only [fL]
  refine wpAny_bind (wpAny_bind (wpAny_field ea dv v1 ?_))
  rw [if_neg (by decide)]
  refine entryX fr ff fL ea st na dv (Array.getElem?_eq_some_iff.mp v1).1 fun h' x y=>?_
  exact landX (s:={ s with heap:=h' }) x fun h2 x2 y2=>k h2 x2.out (y.trans y2)
end
end L2
namespace L2
open PySem PySem.Spec PyProof.Rows
theorem ObjOk.obj {P : Program} {w : World} {H : Hp} {h : Heap} {a : Addr} {o : HO} (x : ObjOk P w H h a o) : ∃ ob,h.get? a = some ob:=by
  cases o with
  | lst xs=>obtain ⟨_,_,_,_,e⟩:=x;exact ⟨_,e⟩
  | tup xs=>obtain ⟨_,_,_,ob,e,_⟩:=x;exact ⟨_,e⟩
  | dK kvs=>obtain ⟨_,_,_,_,o,_,_,e,_⟩:=x;exact ⟨_,e⟩
  | dT kvs=>obtain ⟨_,_,_,_,o,_,_,e,_⟩:=x;exact ⟨_,e⟩
  | set S n=>obtain ⟨o,_,_,_,e,_⟩:=x;exact ⟨_,e⟩
  | ins C dx fs=>obtain ⟨_,_,_,e,_⟩:=x;exact ⟨_,e⟩
  | own y=>obtain ⟨_,e⟩:=x;exact ⟨_,e⟩
  | xd fs=>obtain ⟨_,⟨_,_,_,e,_⟩,_⟩:=x;exact ⟨_,e⟩
  | rng lo hi=>obtain ⟨_,_,_,e⟩:=x;exact ⟨_,e⟩
  | frz ob u=>obtain ⟨e,_⟩:=x;exact ⟨_,e⟩
  | tbl ps=>exact ⟨_,(show h.get? a = some _ from x)⟩
  | met f y=>exact ⟨_,(show h.get? a = some _ from x)⟩
  | ext φ=>obtain ⟨_,e,_⟩:=x;exact e
def CX1 (P : Program) (w : World) : CXT:=fun outer H s E e s' =>
  ∃ (a : Addr) (cls : Value) (dd : Option Addr) (B : Heap) (H' : Hp),e = .ref a∧s'.os = s.os∧AllBare s'.gens∧Un (frs outer) [] H H' s.heap s'.heap∧HOk P w H' s'.heap∧XF B outer a cls dd .none s'.heap∧H' a = none ∧
    (∀ b u,H' b = some u→∃ o,s'.heap.get? b = some o∧B.get? b = some o)∧(∀ b o,s.heap.get? b = some o→H b = none→b∉frs outer→B.get? b = some o)∧(∀ b o,s.heap.get? b = some o→b∉frs outer→∃ o',B.get? b = some o')∧E cls dd H'
theorem pass1 {P : Program} {w : World} {K : PySem.W.Frag} {mg : Str → Option Value} {base : Heap} {N : List Str} {qual : Str} {scope : Scope} {f : Addr} {cd : Value} {A : Around} {outer : List Env} {s : Shared} {H : Hp} {E : XK} :
    Passes (CX1 P w) (cxOf (CX1 P w) P w K mg base N qual scope f cd A outer s H E) E:=by
  intro pins σ Hc sc e s' I h
  obtain ⟨a,cls,dd,B,H',rfl,os,bare,un,hok,fl,hna,TB,KB,AB,q⟩:=h
  obtain ⟨v,H2,J,_,rfl⟩:=I.after (Q:=fun _ H2=>H' = H2) (u:=.none) ⟨.non,H',os,bare,un,hok,rfl,rfl⟩
  show wpAny (model P w) (A.deeper (envOfC qual scope s.heap.objs.size f cd)) (leaving (envOfC qual scope s.heap.objs.size f cd) (.ref a)) (fun _ s''=>CX1 P w outer H s E (.ref a) s'') (fun e' s''=>CX1 P w outer H s E e' s'') s'
  refine leaveX (out:=outer) (L:=s.heap.objs.size) I.ok.frames rfl fl fun h2 x1 x2=>?_
  have old : ∀ b o,s.heap.get? b = some o→H b = none→b∉frs outer→B.get? b = some o:=fun b o q n hb=>by
    have e1 : sc.heap.get? b = some o:=I.base.keep b o q n hb (by intro z;cases z)
    have e2 : Hc b = none:=I.base.free b o q n (by intro z;cases z)
    refine KB b o e1 e2 fun z=>?_
    rcases List.mem_cons.mp (I.stkSub b z) with r | r
    · have r : b = s.heap.objs.size:=r
      exact absurd (r ▸ Heap.lt_size q) (Nat.lt_irrefl _)
    · exact hb r
  have notL : ∀ b o,s.heap.get? b = some o→b∉frs outer→b∉frs (envOfC qual scope s.heap.objs.size f cd::outer):=fun b o q hb z=>by
    rcases List.mem_cons.mp (I.stkSub b z) with r | r
    · have r : b = s.heap.objs.size:=r
      exact absurd (r ▸ Heap.lt_size q) (Nat.lt_irrefl _)
    · exact hb r
  have exi : ∀ b o,s.heap.get? b = some o→b∉frs outer→∃ o',B.get? b = some o':=fun b o q hb=>by
    obtain ⟨oc,ec⟩:=I.base.there b o q (by intro z;cases z)
    exact AB b oc ec (notL b o q hb)
  refine ⟨a,cls,dd,B,H',rfl,J.os,bare,?_,fun c o e=>(hok c o e).stay (fun d u hd q'=>?_) (fun _ z=>z) fun _ _ z=>z,x1,hna,fun b u e=>?_,old,exi,q⟩
  · refine ⟨fun b o q n hb hx => x1.1 b o (old b o q n hb), fun b o q n hb hx => ?_, fun b o q n hx => J.base.free b o q n hx, fun b o q hx => ?_, J.base.tups, J.base.frzs, J.base.tbls⟩
    · obtain ⟨sl,e1⟩:=J.base.slot b o q n hb hx
      obtain ⟨_,o1,g1,g2⟩:=(I.ok.funs.mem hb)
      have : o1 = o:=Option.some.inj (g1.symm.trans q)
      subst this
      obtain ⟨sl2,e2⟩:=x2 b _ e1 (by intro vs z;exact g2 vs z)
      exact ⟨sl2,e2⟩
    · by_cases hb : b∈frs outer
      · obtain ⟨_,o1,g1,_⟩:=x1.2.2.1.mem hb
        exact ⟨_,g1⟩
      · obtain ⟨o',e1⟩:=exi b o q hb
        exact ⟨o',x1.1 b o' e1⟩
  · have tr : ∃ z,H' d = some z:=by
      rcases hd with r | r
      · exact ⟨_,r ▸ e⟩
      · exact ⟨_,r⟩
    obtain ⟨z,hz⟩:=tr
    obtain ⟨o1,e1,e2⟩:=TB d z hz
    have : u = o1:=Option.some.inj (q'.symm.trans e1)
    rw [this]
    exact x1.1 d o1 e2
  · obtain ⟨o1,e1,e2⟩:=TB b u e
    exact ⟨o1,x1.1 b o1 e2,e2⟩
theorem raiseG {P : Program} {w : World} {K : PySem.W.Frag} {mg : Str → Option Value} {base : Heap} {N : List Str} {qual : Str} {scope : Scope} {f : Addr} {cd : Value} {A : Around} {outer : List Env} {s : Shared} {H : Hp} {E : XK} {pins : List (Addr × Obj)} {σ : St} {H1 : Hp} {s1 : Shared} {e : Addr} {oe : Obj} {vs : Array Value}
    (I : Inv (cxOf (CX1 P w) P w K mg base N qual scope f cd A outer s H E) pins σ H1 s1) (he : H1 e = none) (ge : s1.heap.get? e = some oe) (dv : oe.data = .fields vs) (v1 : vs[1]? = some .none) (new : s.heap.get? e = none) (q : E oe.cls oe.dict H1) :
    (cxOf (CX1 P w) P w K mg base N qual scope f cd A outer s H E).xe (.ref e) s1:=by
  show wpAny (model P w) (A.deeper (envOfC qual scope s.heap.objs.size f cd)) (leaving (envOfC qual scope s.heap.objs.size f cd) (.ref e)) (fun _ s''=>CX1 P w outer H s E (.ref e) s'') (fun e' s''=>CX1 P w outer H s E e' s'') s1
  have hin : ∀ env∈(envOfC qual scope s.heap.objs.size f cd::outer),∀ b,env.frame = some b→b∈e::frs (envOfC qual scope s.heap.objs.size f cd::outer):=fun env he b hb=>List.mem_cons_of_mem _ (List.mem_filterMap.mpr ⟨env,he,hb⟩)
  refine leaveX0 (B:=PySem.W.hideAll s1.heap (e::frs (envOfC qual scope s.heap.objs.size f cd::outer))) (out:=outer) (L:=s.heap.objs.size) I.ok.frames (PySem.W.funFrames_hide I.stack hin) rfl ge (fun b o z=>PySem.W.of_hideAll _ z) (PySem.W.hideAll_none _ (.head _)) dv v1 fun h2 x1 x4=>?_
  have trk : ∀ b u,H1 b = some u→∃ o,s1.heap.get? b = some o∧(PySem.W.hideAll s1.heap (e::frs (envOfC qual scope s.heap.objs.size f cd::outer))).get? b = some o:=fun b u eb=>by
    obtain ⟨o,ho⟩:=ObjOk.obj (I.hok b u eb)
    refine ⟨o,ho,PySem.W.hideAll_get _ ho fun z=>?_⟩
    rcases List.mem_cons.mp z with z | z
    · rw [z,he] at eb;cases eb
    · have:=I.stkFree b z
      rw [eb] at this;cases this
  have old : ∀ b o,s.heap.get? b = some o→H b = none→b∉frs outer→(PySem.W.hideAll s1.heap (e::frs (envOfC qual scope s.heap.objs.size f cd::outer))).get? b = some o:=fun b o z n hb=>by
    have e1 : s1.heap.get? b = some o:=I.base.keep b o z n hb (by intro y;cases y)
    refine PySem.W.hideAll_get _ e1 fun y=>?_
    rcases List.mem_cons.mp y with y | y
    · rw [y,new] at z;cases z
    rcases List.mem_cons.mp (I.stkSub b y) with r | r
    · have r : b = s.heap.objs.size:=r
      exact absurd (r ▸ Heap.lt_size z) (Nat.lt_irrefl _)
    · exact hb r
  have exi : ∀ b o,s.heap.get? b = some o→b∉frs outer→∃ o',(PySem.W.hideAll s1.heap (e::frs (envOfC qual scope s.heap.objs.size f cd::outer))).get? b = some o':=fun b o z hb=>by
    obtain ⟨o1,e1⟩:=I.base.there b o z (by intro y;cases y)
    refine ⟨o1,PySem.W.hideAll_get _ e1 fun y=>?_⟩
    rcases List.mem_cons.mp y with y | y
    · rw [y,new] at z;cases z
    rcases List.mem_cons.mp (I.stkSub b y) with r | r
    · have r : b = s.heap.objs.size:=r
      exact absurd (r ▸ Heap.lt_size z) (Nat.lt_irrefl _)
    · exact hb r
  refine ⟨e,oe.cls,oe.dict,_,H1,rfl,I.os,I.bare,?_,fun c o ec=>(I.hok c o ec).stay (fun d u hd q'=>?_) (fun _ z=>z) fun _ _ z=>z,x1,he,fun b u eb=>?_,old,exi,q⟩
  · refine ⟨fun b o z n hb _ => x1.1 b o (old b o z n hb), fun b o z n hb hx' => ?_, fun b o z n hx' => I.base.free b o z n hx', fun b o z hx' => ?_, I.base.tups, I.base.frzs, I.base.tbls⟩
    · obtain ⟨sl,e1⟩:=I.base.slot b o z n hb hx'
      obtain ⟨_,o1,g1,g2⟩:=(I.ok.funs.mem hb)
      have : o1 = o:=Option.some.inj (g1.symm.trans z)
      subst this
      obtain ⟨sl2,e2⟩:=x4 b _ e1 (by intro vs y;exact g2 vs y)
      exact ⟨sl2,e2⟩
    · by_cases hb : b∈frs outer
      · obtain ⟨_,o1,g1,_⟩:=x1.2.2.1.mem hb
        exact ⟨_,g1⟩
      · obtain ⟨o',e1⟩:=exi b o z hb
        exact ⟨o',x1.1 b o' e1⟩
  · have tr : ∃ z,H1 d = some z:=by
      rcases hd with r | r
      · exact ⟨_,r ▸ ec⟩
      · exact ⟨_,r⟩
    obtain ⟨z,hz⟩:=tr
    obtain ⟨o1,e1,e2⟩:=trk d z hz
    have : u = o1:=Option.some.inj (q'.symm.trans e1)
    rw [this]
    exact x1.1 d o1 e2
  · obtain ⟨o1,e1,e2⟩:=trk b u eb
    exact ⟨o1,x1.1 b o1 e2,e2⟩
theorem raise1 {P : Program} {w : World} {K : PySem.W.Frag} {mg : Str → Option Value} {base : Heap} {N : List Str} {qual : Str} {scope : Scope} {f : Addr} {cd : Value} {A : Around} {outer : List Env} {s : Shared} {H : Hp} {E : XK} {pins : List (Addr × Obj)} {σ : St} {H1 : Hp} {s1 : Shared} {h' : Heap} {e : Addr} {cls : Value} {args : List Value}
    (I : Inv (cxOf (CX1 P w) P w K mg base N qual scope f cd A outer s H E) pins σ H1 s1) (hx : Heap.MadeExcOf s1.heap h' e cls args) (q : E cls none H1) :
    (cxOf (CX1 P w) P w K mg base N qual scope f cd A outer s H E).xe (.ref e) { s1 with heap:=h' }:=by
  obtain ⟨t,ge,_,_⟩:=hx.there
  refine raiseG (s1:={ s1 with heap:=h' }) (I.kept (t':=s1.toks) hx.keeps) ?_ ge rfl rfl ?_ q
  · cases z : H1 e with
    | none=>rfl
    | some u =>
      obtain ⟨o,ho⟩:=ObjOk.obj (I.hok e u z)
      rw [hx.new] at ho;cases ho
  · cases z : s.heap.get? e with
    | none=>rfl
    | some o =>
      obtain ⟨o',e'⟩:=I.base.there e o z (by intro y;cases y)
      rw [hx.new] at e';cases e'
end L2
namespace L2
open PySem PySem.Spec PyProof.Rows
def tRaise (E : XK) (C : Addr) (ta : TA) : TS:=fun _ σ H=>ta σ H fun vs H1=>vs.length≤sizeLine∧E (.ref C) none H1
theorem ps_raise1 {P : Program} {w : World} {K : PySem.W.Frag} {mg : Str→Option Value} {base : Heap} {N : List Str} {qual : Str} {scope : Scope} {f : Addr} {cd : Value} {A : Around} {outer : List Env} {s : Shared} {H : Hp} {E : XK}
    {x : Str} {C : Addr} {bm bmN : List Value} {B Bn newId nid initId inN : String} {np cpos pos : Pos} {e₀ : Expr} {rest : List Expr} {ta : TA} (O : OwnCls x C bm newId mg base) (Fn : ExcBaseFacts Bn newId inN bmN) (hBn : bm.contains (.type Bn) = true) (FB : ExcBaseFacts B nid initId bm)
    (hg : Gl (cxOf (CX1 P w) P w K mg base N qual scope f cd A outer s H E) x) (ha : PA (cxOf (CX1 P w) P w K mg base N qual scope f cd A outer s H E) (e₀::rest) ta)
    (he : starEach (e₀::rest) (cxOf (CX1 P w) P w K mg base N qual scope f cd A outer s H E).env = (false,eval e₀ (cxOf (CX1 P w) P w K mg base N qual scope f cd A outer s H E).env)::starEach rest (cxOf (CX1 P w) P w K mg base N qual scope f cd A outer s H E).env:=by rfl)
    (hpl : (backTo cpos (starEach rest (cxOf (CX1 P w) P w K mg base N qual scope f cd A outer s H E).env)).any (·.1) = false:=by rfl) (hdb : (x == ("__debug__" : Str)) = false:=by decide) :
    PS (cxOf (CX1 P w) P w K mg base N qual scope f cd A outer s H E) (.Raise (some (.Call (.Name x np) (e₀::rest) [] cpos)) none pos) (tRaise E C ta):=by
  intro pins s1 σ H1 D I h
  obtain ⟨tl,Nn,nm,q,bs,hdct,sn,sub,ab,col,dd,k0,k1,k2,k3,k5,mN,hC,hN,hni,T⟩:=O.obj
  refine wpAny_Raise_call_subU (C:=C) (nm:=nm) (q:=q) (N:=Nn) (bs:=bs) (bm:=tl) (hdct:=hdct) (sn:=sn) (sub:=sub) (ab:=ab) (col:=col) (dd:=dd) (k0:=k0) (k1:=k1) (k2:=k2) (k3:=k3) (k5:=k5)
    Fn hBn FB (mN:=mN) (T.hasType FB.hasBase) (I.ok.hd rfl) (by rw [he];show (false || _) = false;rw [Bool.false_or];exact hpl) hni (ld_glob I hg O.bound ?_ hdb)
  refine ⟨rfl,?_⟩
  rw [he]
  have key:=ha cpos pins s1 σ H1 _ I h
  rw [he] at key
  refine Calls.evalArgs_plain (thn key fun us s2 hh=>?_)
  obtain ⟨vs,H2,I2,r,hl,q2⟩:=hh
  have bk:=I2.bk
  refine ⟨rfl,by rw [← r.length];exact hl,bk _ _ hC,hN.keeps bk,T.keeps bk,fun h' e hm=>raise1 I2 hm q2⟩
end L2
namespace L2
open PySem PySem.Spec PyProof.Rows
section
variable {M : Model} {A : Around} {E : Value→Shared→Prop} {nm q nm' q' : Str} {C N D N' : Addr} {bs bm bs' bm' : List Value} {hdct hdct' : Bool} {sn sn' : List Str} {sub sub' : List Value} {ab ab' : Bool} {col col' : Option Bool} {dd dd' : Option Addr} {k0 k1 k2 k3 k5 j0 j1 j2 j3 j5 : Option Value} {newId newId' : String}
theorem matches_own {h : Heap} {g : Array GenState} {d : Drawn} {t : Nat} {os : OsState} {e : Addr} {oe : Obj} {Q : Bool → Shared → Prop}
    (hC : h.get? C = some (excClassObj nm q C N bs bm hdct sn sub ab col dd k0 k1 k2 k3 k5 newId)) (he : h.get? e = some oe) (hcls : oe.cls = .ref C)
    (hD : h.get? D = some (excClassObj nm' q' D N' bs' bm' hdct' sn' sub' ab' col' dd' j0 j1 j2 j3 j5 newId')) (hb : bm'.contains (.type "BaseException") = true)
    (hin : (Value.ref C::bm).contains (.ref D) = true) (hq : Q true ⟨h,g,d,t,os⟩) : wpAny M A (excMatches (.ref e) (.ref D)) Q E ⟨h,g,d,t,os⟩:=by
  have hcB : (Value.ref D::bm').contains (.type "BaseException") = true:=by rw [List.contains_cons,hb,Bool.or_true]
  have f:=tc_notTuple
  unfold excMatches
  repeat first
    | (with_reducible refine wpAny_loadPart_at he ?_
       rw [hcls])
    | with_reducible refine wpAny_loadPart_at hD ?_
    | (with_reducible refine wpAny_isSubtype_exc hD ?_
       rw [hcB])
    | (with_reducible refine wpAny_isSubtype_exc hC ?_
       rw [hin])
    | wp_step
  exact hq
end
theorem inv_fly {X : Cx} {pins : List (Addr × Obj)} {σ : St} {H1 H' : Hp} {s1 s' : Shared} {B h5 : Heap} {a : Addr} {cls fz : Value} {dd : Option Addr} (I : Inv X pins σ H1 s1) (hst : X.stack = X.env :: X.outer) (hfr : X.env.frame = some X.env.locals)
    (os : s'.os = s1.os) (bare : AllBare s'.gens) (un : Un (frs X.stack) [] H1 H' s1.heap s'.heap) (hok : HOk X.prog X.w H' s'.heap) (fl : XF B X.stack a cls dd fz h5) (sm : s'.heap.UpToSlots h5)
    (TB : ∀ b u,H' b = some u→∃ o,s'.heap.get? b = some o∧B.get? b = some o) (KB : ∀ b o,s1.heap.get? b = some o→H1 b = none→b∉frs X.stack→B.get? b = some o) (AB : ∀ b o,s1.heap.get? b = some o→b∉frs X.stack→∃ o',B.get? b = some o') :
    Inv X pins σ H' { s' with heap:=h5 }:=by
  obtain ⟨hh,g,d,tk,os'⟩:=s'
  obtain rfl : os' = s1.os:=os
  have efr : frs X.stack = X.env.locals::X.fs:=by rw [hst];unfold frs;rw [List.filterMap_cons,hfr];rfl
  have nin : ∀ b,b≠X.env.locals→b∉X.fs→b∉frs X.stack:=fun b n1 n2 z=>by
    rw [efr] at z
    rcases List.mem_cons.mp z with r | r
    · exact n1 r
    · exact n2 r
  have inn : ∀ b,b∈X.fs→b∈frs X.stack:=fun b hb=>by rw [efr];exact List.mem_cons_of_mem _ hb
  have nof : ∀ {b : Addr} {o : Obj},b∈frs X.stack→s1.heap.get? b = some o→∀ vs,o.data≠.fields vs:=fun hb e vs=>by
    obtain ⟨_,o1,g1,g2⟩:=I.stack.mem hb
    have:=Option.some.inj (g1.symm.trans e)
    exact this ▸ g2 vs
  have slot : ∀ b o,b∈frs X.stack→s1.heap.get? b = some o→H1 b = none→∃ sl,h5.get? b = some { o with slots:=sl }:=fun b o hb e n=>by
    obtain ⟨sl,e1⟩:=un.slot b o e n hb (by intro z;cases z)
    obtain ⟨sl2,e2⟩:=sm b _ e1 (fun vs z=>nof hb e vs z)
    exact ⟨sl2,e2⟩
  show Inv X pins σ H' { s1 with heap:=h5,gens:=g,drawn:=d,toks:=tk }
  refine Inv.step (s:=s1) (h':=h5) (g':=g) (d':=d) (t':=tk) (ch:=[]) I (fun b hb=>by cases hb) (fun b o n1 n2 _ e n=>fl.1 b o (KB b o e n (nin b n1 n2))) (fun b o _ hb _ e n=>slot b o (inn b hb) e n) (fun b o _ e n=>un.free b o e n (by intro z;cases z)) (fun b o _ e=>?_) un.tups un.frzs un.tbls (fun m hn=>?_) (fun c o ec=>(hok c o ec).stay (fun d u hd q'=>?_) (fun _ z=>z) fun _ _ z=>z) bare
  · by_cases hb : b∈frs X.stack
    · obtain ⟨_,o1,g1,_⟩:=fl.2.2.1.mem hb
      exact ⟨_,g1⟩
    · obtain ⟨o',e1⟩:=AB b o e hb
      exact ⟨o',fl.1 b o' e1⟩
  · obtain ⟨o,es,ep,ho,hd,r⟩:=hn
    obtain ⟨sl,e1⟩:=slot X.env.locals o (by rw [efr];simp) ho I.free
    exact ⟨_,es,ep,e1,hd,r⟩
  · have tr : ∃ z,H' d = some z:=by
      rcases hd with r | r
      · exact ⟨_,r ▸ ec⟩
      · exact ⟨_,r⟩
    obtain ⟨z,hz⟩:=tr
    obtain ⟨o1,e1,e2⟩:=TB d z hz
    have : u = o1:=Option.some.inj (q'.symm.trans e1)
    rw [this]
    exact fl.1 d o1 e2
end L2
namespace L2
open PySem PySem.Spec PyProof.Rows
abbrev Cx.mark (X : Cx) (e : Value) (E : Value→Shared→Prop) : Cx:={ X with A:=X.A.mark (some e),calm:=false,xe:=E }
section
variable {X : Cx} {pins : List (Addr × Obj)} {σ : St} {H : Hp} {s : Shared} {e : Value} {E : Value→Shared→Prop}
theorem Cx.Ok.mark (ok : X.Ok) : (X.mark e E).Ok :=
  ⟨ok.mod,ok.kind,ok.glob,ok.blt,ok.above,ok.inj,ok.has,ok.cab,fun z=>(by cases z),ok.frames,ok.stk,ok.exf,ok.bs,ok.bsz,ok.noex,ok.exfs,ok.funs,ok.frf⟩
theorem Inv.mark (I : Inv X pins σ H s) : Inv (X.mark e E) pins σ H s:=⟨I.ok.mark,I.os,I.bare,I.base,I.loc,I.cell,I.free,I.freeC,I.pin,I.hok,I.len⟩
theorem Inv.unmark (ok : X.Ok) (I : Inv (X.mark e E) pins σ H s) : Inv X pins σ H s:=⟨ok,I.os,I.bare,I.base,I.loc,I.cell,I.free,I.freeC,I.pin,I.hok,I.len⟩
theorem unname {M : Model} {A : Around} {i : Nat} {n : Str} {pos : Pos} {Q : Unit → Shared → Prop} (I : Inv X pins σ H s) (hN : X.N.Nodup) (hi : X.N[i]? = some n) (hk : X.env.kindOf n = some .local)
    (h : ∀ s',Inv X pins (σ.set i none) H s'→Q () s') : wpAny M A (do bindName X.env n .none;unbindBehindTheSuite X.env n pos) Q E s:=by
  obtain ⟨m,hn,hl⟩:=id I.loc
  have hcls : (X.env.scope.kind == .class || (X.env.scope.kind == .module && X.env.locals != X.env.globals)) = false:=by rw [I.ok.kind];rfl
  have hiσ : i < σ.length:=by rw [I.len];exact (List.getElem?_eq_some_iff.mp hi).1
  have cne:=I.cne
  refine wpAny_nameGoes_keeps hk hn hcls fun h' v hn' hs=>?_
  obtain ⟨oL,_,_,hoL,_⟩:=id hn
  have tracked : HOk X.prog X.w H h':=fun b ob e=>by
    refine (I.hok b ob e).stay (fun c w' hc q=>(hs.2 c ?_).trans q) (fun _ q=>q) fun _ _ q=>q
    rintro rfl
    rcases hc with z | hc
    · have:=I.free;rw [z] at this;rw [this] at e;cases e
    · rw [I.free] at hc;cases hc
  refine h _ ⟨I.ok,I.os,I.bare,⟨fun b o e n hb hx=>?_,fun b o e n hb hx=>?_,I.base.free,fun b o e hx=>?_,I.base.tups,I.base.frzs,I.base.tbls⟩,⟨_,hn',fun j y v' e1 e2 e3=>?_⟩,fun y c e=>?_,I.free,I.freeC,fun p hp=>?_,tracked,by simpa using I.len⟩
  · exact (hs.2 b (Nat.ne_of_lt (Nat.lt_of_lt_of_le (Heap.lt_size e) I.ok.above))).trans (I.base.keep b o e n hb hx)
  · obtain ⟨sl,e1⟩:=I.base.slot b o e n hb hx
    exact ⟨sl,(hs.2 b (Nat.ne_of_lt (Nat.lt_of_lt_of_le (Heap.lt_size e) I.ok.above))).trans e1⟩
  · obtain ⟨o',e1⟩:=I.base.there b o e hx
    exact ⟨o',(hs.2 b (Nat.ne_of_lt (Nat.lt_of_lt_of_le (Heap.lt_size e) I.ok.above))).trans e1⟩
  · by_cases hj : j = i
    · subst hj
      rw [List.getElem?_set_self hiσ] at e2
      cases e2
    · rw [List.getElem?_set_ne (Ne.symm hj)] at e2
      obtain ⟨u',r',q⟩:=hl j y v' e1 e2 e3
      refine ⟨u',r',?_⟩
      rcases q with ⟨k,e⟩ | ⟨k,c,e,z⟩
      · refine .inl ⟨k,?_⟩
        have : y≠n:=fun e=>hj (nodup_ix hN e1 (e ▸ hi))
        simp [this,e]
      · exact .inr ⟨k,c,e,z.sameBut hs (cne y c e)⟩
  · obtain ⟨w',z⟩:=I.cell y c e
    exact ⟨w',z.sameBut hs (cne y c e)⟩
  · obtain ⟨e,n,ne,nf,d⟩:=I.pin p hp
    exact ⟨(hs.2 p.1 ne).trans e,n,ne,nf,d⟩
theorem Inv.track {σ1 : St} {H1 : Hp} {s1 : Shared} {a : Addr} {o : HO} (I1 : Inv X pins σ1 H1 s1) (I : Inv X pins σ H s) (hn : s1.heap.get? a = none) (ha : H a = none) (new : ObjOk X.prog X.w (upd H a o) s.heap a o) : Inv X pins σ (upd H a o) s := by
  have h0 : ∀ ob,X.s₀.heap.get? a = some ob→a∈X.ex:=fun ob e=>by
    by_cases hx : a∈X.ex
    · exact hx
    · obtain ⟨o',e'⟩:=I1.base.there a ob e hx
      rw [hn] at e';cases e'
  have ne : ∀ {b : Addr} {u : HO},H b = some u→b≠a:=fun e z=>by rw [z,ha] at e;cases e
  have dif : ∀ {b : Addr} {ob : Obj},s1.heap.get? b = some ob→b≠a:=fun e z=>by rw [z,hn] at e;cases e
  obtain ⟨m1,hn1,_⟩:=id I1.loc
  obtain ⟨oL,_,_,hoL,_⟩:=hn1
  refine ⟨I.ok,I.os,I.bare,⟨I.base.keep,I.base.slot,fun b ob e n hx=>?_,I.base.there,fun b xs e=>?_,fun b x y e=>?_,fun b ps e=>?_⟩,I.loc,I.cell,?_,fun x c e=>?_,fun p hp=>?_,fun b u e=>?_,I.len⟩
  · have : b≠a:=fun z=>hx (z ▸ h0 ob (z ▸ e))
    rw [upd_ne this];exact I.base.free b ob e n hx
  · have z:=I.base.tups b xs e
    rw [upd_ne (ne z)];exact z
  · have z:=I.base.frzs b x y e
    rw [upd_ne (ne z)];exact z
  · obtain ⟨more,z⟩:=I.base.tbls b ps e
    exact ⟨more,by rw [upd_ne (ne z)];exact z⟩
  · rw [upd_ne (dif hoL)];exact I.free
  · obtain ⟨v,oc,z,_⟩:=I1.cell x c e
    rw [upd_ne (dif z)];exact I.freeC x c e
  · obtain ⟨e1,n1,r⟩:=I.pin p hp
    obtain ⟨e2,_⟩:=I1.pin p hp
    exact ⟨e1,by rw [upd_ne (dif e2)];exact n1,r⟩
  · by_cases hb : b = a
    · subst hb;rw [upd_same] at e;cases e;exact new
    · rw [upd_ne hb] at e
      exact (I.hok b u e).stay (fun _ _ _ z=>z) (fun c q=>by rw [upd_ne (ne q)];exact q) fun c xs q=>by rw [upd_ne (ne q)];exact q
end
def XAt (h : Heap) (C : Addr) (bm : List Value) : Prop :=
  ∃ nm q N bs hdct sn sub ab col dd k0 k1 k2 k3 k5 newId,h.get? C = some (excClassObj nm q C N bs bm hdct sn sub ab col dd k0 k1 k2 k3 k5 newId)
def xObj (a C : Addr) (dd : Option Addr) : HO:=.ext fun h=>∃ o,h.get? a = some o∧o.cls = .ref C∧o.dict = dd∧PySem.W.notCls o = true
end L2
namespace L2
open PySem PySem.Spec PyProof.Rows
section
open PySem.W PySem.Calls Builtin Builtin.ObjectAttr Builtin.Getset_descriptor
structure XFacts (K : Frag) (C : Addr) : Prop where
  ga : findIn K (.ref C) "__getattribute__" = some (some (.builtin "BaseException.__getattribute__"))
  gb : findIn K (.ref C) "__getattr__" = some none
  ha : findIn K (.ref C) "__class__" = some (some (.builtin "object.__class__"))
  hn : specialIn K (.builtin "object.__class__") "__get__" = some (some (.builtin "getset_descriptor.__get__"))
  ht : takesIn K (.builtin "object.__class__") = some true
  hm : mroIn K C (.type "object") = some true
  hb : mroIn K C (.type "BaseException") = some true
  cl : (clsIn K C).isSome = true
def XIs (x C : Addr) (h : Heap) : Prop:=∃ o,h.get? x = some o∧o.cls = .ref C
variable {K : Frag} {x C : Addr} {h : Heap} {M : Model}
theorem XIs.type (p : XIs x C h) : Looks M h (typeOf (.ref x)) (.ref C):=by
  obtain ⟨o,e,c⟩:=p
  exact c ▸ (Looks.ld e).andThen .now
theorem XFacts.found (Z : XFacts K C) (X : K.In h) : Looks M h (find (.ref x) (.ref C) "__class__") (.bind (.builtin "getset_descriptor.__get__") (.builtin "object.__class__")):=by
  have l1:=looks_findIn (M:=M) X Z.ha
  have l2 : Looks M h (getOf (some (.builtin "object.__class__"))) (some (.builtin "getset_descriptor.__get__")):=looks_specialIn X Z.hn
  have l3 : Looks M h (dataDescriptor? (some (.builtin "object.__class__")) (some (.builtin "getset_descriptor.__get__"))) (some (.builtin "getset_descriptor.__get__",.builtin "object.__class__")):=(looks_takesIn (M:=M) X Z.ht).andThen .now
  exact l1.andThen (l2.andThen (l3.andThen (Looks.tag .now)))
variable {prog : Program} {w : World} {A : Around} {E : Value→Shared→Prop} {s : Shared}
theorem xe_get {R : Result→Shared→Prop} {tp : Value} (Z : XFacts K C) (X : K.In s.heap) (p : XIs x C s.heap) (h : R (.ok (.ret (.ref C))) s) :
    codeAny (model prog w) A (.call (.builtin "getset_descriptor.__get__") ⟨[.builtin "object.__class__",.ref x,tp],[]⟩) R s:=by
  have q1:=p.type (M:=model prog w)
  have q2:=looks_mroIn (M:=model prog w) X Z.hm
  obtain ⟨hh,g,dr,t,os⟩:=s
  refine codeAny_call_builtin KF.slot_gs.plain KF.entry_gs (KF.slot_gs.check _ _ _ _ _ _ _ _ KF.type_class (KF.args_gs _ _ _) ?_)
  simp only [Builtin.«getset_descriptor.__get__»,descrGet,dga_obj]
  refine wpAny_bind (wpAny_pure ?_)
  simp only [descrGetter,descrCheckInstance,descrNameAndClass,isInstance,KF.owner_class]
  repeat lk
  refine ⟨Code.quiet_builtin _ (by decide +kernel),codeAny_builtin KF.entry_class ?_⟩
  simp only [Builtin.«object.__class__»,shownTypeOf]
  repeat lk
  exact h
theorem xe_ga {tk : Tok} {R : Result→Shared→Prop} (Z : XFacts K C) (X : K.In s.heap) (p : XIs x C s.heap) (h : R (.ok (.ret (.ref C))) s) :
    codeAny (model prog w) A (.call (.builtin "BaseException.__getattribute__") ⟨[.ref x,.str "__class__" tk],[]⟩) R s:=by
  have q1:=p.type (M:=model prog w)
  have q2:=looks_mroIn (M:=model prog w) X Z.hb
  have q3:=Z.found (M:=model prog w) (x:=x) X
  have hk : builtinKind "BaseException.__getattribute__" = some .slot:=by decide +kernel
  have hsp : splitId "BaseException.__getattribute__" = some ("BaseException","__getattribute__"):=by decide +kernel
  have ha:=PySem.F.args_bexc_ga (.ref x) (.str "__class__" tk)
  obtain ⟨hh,g,dr,t,os⟩:=s
  refine codeAny_call_builtin PySem.F.attr_ValueError.ga.plain PySem.F.entry_bexc_ga ?_
  simp only [checkBuiltinCall,hk,hsp]
  refine wpAny_bind ?_
  unfold isInstance
  repeat lk
  show wpAny _ _ (run (.call (.builtin "getset_descriptor.__get__") ⟨[.builtin "object.__class__",.ref x,.ref C],[]⟩) none) _ _ _
  refine wpAny_run (xe_get Z X p ?_)
  exact wpAny_pure (wpAny_pure h)
theorem xe_class {Q : Option Value→Shared→Prop} (Z : XFacts K C) (X : K.In s.heap) (p : XIs x C s.heap) (h : Q (some (.ref C)) { s with toks:=s.toks + 1 }) : wpAny (model prog w) A (getAttr? (.ref x) "__class__") Q E s:=by
  have q1:=p.type (M:=model prog w)
  have q2:=looks_findIn (M:=model prog w) X Z.ga
  have q4:=looks_findIn (M:=model prog w) X Z.gb
  have f3:=PySem.F.attr_ValueError.ga.bind (.ref x)
  obtain ⟨hh,g,dr,t,os⟩:=s
  simp only [getAttr?,getAttrBy?,getAttrBy]
  refine wpAny_bind (wpAny_mkText (wpAny_bind (wpAny_attempt (wpAny_holding (wpAny_bind (q1.at (wpAny_bind (q2.at ?_))))))))
  show wpAny _ _ (getAttrByItsOwn _ _ _ _ _ _) _ _ _
  refine wpAny_bind ?_
  show wpAny _ _ (typeLookup (.ref C) "__getattr__") _ _ _
  refine q4.at (wpAny_bind (wpAny_attempt (wpAny_holding ?_)))
  show wpAny _ _ (boundAndCalled _ _ _) _ _ _
  unfold boundAndCalled
  rw [f3]
  refine wpAny_bind (wpAny_pure ?_)
  show wpAny _ _ (call (.builtin "BaseException.__getattribute__") [.ref x,.str "__class__" t]) _ _ _
  refine wpAny_call (xe_ga Z X p ?_)
  show wpAny _ _ (handedOut (Value.ref C)) _ _ _
  exact handed_on rfl (wpAny_pure h)
theorem kitx_exc (Z : XFacts K C) : KitX K (.ref x) (.ref C) (XIs x C) where
  ty:=fun _ _ _ p=>p.type
  it:=fun M h X _=>by
    obtain ⟨cd,hc⟩:=Option.isSome_iff_exists.mp Z.cl
    unfold clsIn at hc
    split at hc
    · rename_i ho
      intro A' Q' E' s' k q
      unfold isType loadHead
      exact wpAny_bind (wpAny_loadPart (k _ _ (X _ _ ho)) (wpAny_pure q))
    · cases hc
  ne:=fun h tp dd its n sl X htp=>by
    obtain ⟨cd,hc⟩:=Option.isSome_iff_exists.mp Z.cl
    refine Bool.eq_false_iff.mpr fun q=>?_
    cases Value.ref.inj (beq_iff_eq.mp q)
    unfold clsIn at hc
    split at hc
    · rename_i ho
      cases (X _ _ ho).symm.trans htp
    · cases hc
  ca:=fun X p k=>xe_class Z X p k
end
section
variable {X : Cx} {pins : List (Addr × Obj)} {σ : St} {H : Hp} {s : Shared} {A : Around} {E : Value→Shared→Prop} {Q : Value→Shared→Prop} {e f : Expr} {t : TA} {p pos : Pos}
theorem xobj_is {a C : Addr} {dd : Option Addr} (I : Inv X pins σ H s) (h : H a = some (xObj a C dd)) : XIs a C s.heap:=let ⟨o,e,c,_⟩:=(show ObjOk X.prog X.w H s.heap a (xObj a C dd) from I.hok a _ h).1;⟨o,e,c⟩
def rIsx (K : PySem.W.Frag) : List V→Hp→VK→Prop:=fun xs H Q=>∃ a C dd c u b,xs = [.ref a,c]∧H a = some (xObj a C dd)∧XFacts K C∧(∀ v,RelV c v→v = u)∧PySem.W.kitOne K (.ref C) u = some b∧Q (.bl b) H
theorem call_isx : CallR X (.builtin "isinstance") (rIsx X.K):=by
  intro pins s σ H xs us Q I r h
  obtain ⟨a,C,dd,c,u,b,rfl,ea,Z,ru,e,q⟩:=h
  obtain ⟨v1,v2,rfl,r1,r2⟩:=vals2 r
  cases r1
  cases ru v2 r2
  exact PySem.W.kia_one (kitx_exc Z) I.kIn (xobj_is I ea) e (fun z=>nomatch z) fun tk=>⟨.bl b,H,I.tok tk,rfl,q⟩
theorem b_isx (K : PySem.W.Frag) (B : Blt X.mg) (ha : PA X [e,f] t) (hg : Gl X "isinstance":=by rfl) (he : starEach [e,f] X.env = (false,eval e X.env)::starEach [f] X.env:=by rfl) (hpl : (backTo pos (starEach [f] X.env)).any (·.1) = false:=by rfl) (hK : X.K = K:=by rfl) :
    PE X (.Call (.Name "isinstance" p) [e,f] [] pos) (tCB (rIsx K) t) :=
  hK ▸ pe_callB call_isx hg B.isinstance boot_isinstance ha (by decide) (by decide) he hpl
def rIsxT (K : PySem.W.Frag) : List V→Hp→VK→Prop:=fun xs H Q=>∃ (a C : Addr) (dd : Option Addr) (tp : Addr) (cs : List Addr) (b : Bool),xs = [.ref a,.ref tp]∧H a = some (xObj a C dd)∧H tp = some (.tup (cs.map V.ref))∧XFacts K C∧PySem.W.kitAny K (.ref C) (cs.map Value.ref) = some b∧Q (.bl b) H
theorem vals_refs : ∀ {cs : List Addr} {its : List Value},Vals (cs.map V.ref) its→its = cs.map Value.ref
  | [],_,.nil=>rfl
  | c::cs,_,.cons r t=>by
    cases r
    exact congrArg _ (vals_refs t)
theorem call_isxT : CallR X (.builtin "isinstance") (rIsxT X.K):=by
  intro pins s σ H xs us Q I r h
  obtain ⟨a,C,dd,tp,cs,b,rfl,ea,et,Z,e,q⟩:=h
  obtain ⟨v1,v2,rfl,r1,r2⟩:=vals2 r
  cases r1
  cases r2
  obtain ⟨_,its,rv,⟨oc,od,odt,osl⟩,h1,h2,n,h3,_⟩:=(show ObjOk X.prog X.w H s.heap tp (.tup _) from I.hok tp _ et)
  have h2 : oc = .type "tuple":=h2
  have h3 : odt = .seq its.toArray n:=h3
  subst h2 h3
  cases vals_refs rv
  exact PySem.W.kia_tup (kitx_exc Z) I.kIn (xobj_is I ea) h1 e (fun z=>nomatch z) fun tk=>⟨.bl b,H,I.tok tk,rfl,q⟩
theorem b_isxT (K : PySem.W.Frag) (B : Blt X.mg) (ha : PA X [e,f] t) (hg : Gl X "isinstance":=by rfl) (he : starEach [e,f] X.env = (false,eval e X.env)::starEach [f] X.env:=by rfl) (hpl : (backTo pos (starEach [f] X.env)).any (·.1) = false:=by rfl) (hK : X.K = K:=by rfl) :
    PE X (.Call (.Name "isinstance" p) [e,f] [] pos) (tCB (rIsxT K) t) :=
  hK ▸ pe_callB call_isxT hg B.isinstance boot_isinstance ha (by decide) (by decide) he hpl
end
end L2
namespace L2
open PySem PySem.Spec PyProof.Rows
section
variable {P : Program} {w : World} {K : PySem.W.Frag} {mg : Str→Option Value} {base : Heap}
theorem Fun.okX {x qual : Str} {st : Stmt} {f : Addr} {fd : FuncData} {N ps : List Str} {k : Nat} {sp : Sp} (F : Fun K x qual st f fd) (S : FnScope N ps (defScope st)) (len : ∀ vs H Q E, sp vs H Q E → vs.length = ps.length)
    (hbody : ∀ (cdv : Value) (A : Around) (outer : List Env) (s : Shared) (H : Hp) (vs : List V) (Q : VK) (E : XK),Room k (A.deeper (envOfC qual (defScope st) s.heap.objs.size f cdv))→sp vs H Q E →
      ∃ t,PSs (cxOf (CX1 P w) P w K mg base N qual (defScope st) f cdv A outer s H E) (defBody st) t∧t { nx:=fun _ H'=>Q .non H',rt:=Q } (start N vs) H) : FnOk P w K mg base (CX1 P w) (k + 1) f fd ps sp:=by
  obtain ⟨oc,od,kV,doc,pm,an,cdv,ct,osl,rfl,lk,hcd⟩:=F.ex
  exact fn_of lk hcd S len fun A outer s H vs Q E hr hsp=>hbody cdv A outer s H vs Q E hr hsp
structure CalX (P : Program) (w : World) (K : PySem.W.Frag) (mg : Str→Option Value) (base : Heap) (k : Nat) (x : Str) (ps : List Str) (sp : Sp) : Prop where
  ex : ∃ (f : Addr) (fd : FuncData),FnOk P w K mg base (CX1 P w) k f fd ps sp∧mg x = some (.ref f)∧PySem.W.keepIn K (.ref f) = true∧Binds K fd ps []
theorem pe_calX {N : List Str} {qual : Str} {scope : Scope} {f : Addr} {cd : Value} {A : Around} {outer : List Env} {s : Shared} {H : Hp} {E : XK} {x : Str} {ps : List Str} {sp : Sp} {k : Nat} {p pos : Pos} {e : Expr} {es : List Expr} {t : TA}
    (c : CalX P w K mg base k x ps sp) (hr : Room k (cxOf (CX1 P w) P w K mg base N qual scope f cd A outer s H E).A) (hg : Gl (cxOf (CX1 P w) P w K mg base N qual scope f cd A outer s H E) x)
    (ha : PA (cxOf (CX1 P w) P w K mg base N qual scope f cd A outer s H E) (e::es) t)
    (hs : starEach (e::es) (cxOf (CX1 P w) P w K mg base N qual scope f cd A outer s H E).env = (false,eval e (cxOf (CX1 P w) P w K mg base N qual scope f cd A outer s H E).env)::starEach es (cxOf (CX1 P w) P w K mg base N qual scope f cd A outer s H E).env:=by rfl)
    (hpl : (backTo pos (starEach es (cxOf (CX1 P w) P w K mg base N qual scope f cd A outer s H E).env)).any (·.1) = false:=by rfl) (hdb : (x == ("__debug__" : Str)) = false:=by decide) :
    PE (cxOf (CX1 P w) P w K mg base N qual scope f cd A outer s H E) (.Call (.Name x p) (e::es) [] pos) (tCall sp [] E t):=by
  obtain ⟨g,fd,G,mf,kp,b⟩:=c.ex
  exact pe_call G hr hg mf kp b .nil pass1 ha (hdb:=hdb) (he:=hs) (hpl:=hpl)
variable {x : Str} {C N : Addr} {bmB bm bs : List Value} {newId : String} {nm q : Str} {hdct : Bool} {sn : List Str} {sub : List Value} {ab : Bool} {col : Option Bool} {dd : Option Addr} {k0 k1 k2 k3 k5 : Option Value} {h : Heap}
theorem own_mk (X : K.In h) (bound : mg x = some (.ref C)) (lk : K.lookup C = some (excClassObj nm q C N bs bm hdct sn sub ab col dd k0 k1 k2 k3 k5 newId)) (ok : PySem.W.nsOkIn K N = true) (ni : PySem.W.nsIn K N "__init__" = some none)
    (tl : PySem.W.tailIn K bmB bm = true) : OwnCls x C bmB newId mg h :=
  ⟨bound,bm,N,nm,q,bs,hdct,sn,sub,ab,col,dd,k0,k1,k2,k3,k5,_,X _ _ lk,.of_isNs (PySem.W.isNs_of_in X ok),PySem.W.nsMap_none_of_in X ok ni,PySem.W.tail_of_in X tl⟩
theorem xat_mk (X : K.In h) (lk : K.lookup C = some (excClassObj nm q C N bs bm hdct sn sub ab col dd k0 k1 k2 k3 k5 newId)) : XAt h C bm :=
  ⟨nm,q,N,bs,hdct,sn,sub,ab,col,dd,k0,k1,k2,k3,k5,newId,X _ _ lk⟩
end
end L2
namespace L2
open PySem PySem.Spec PyProof.Rows
structure Errs (K : PySem.W.Frag) (mg : Str→Option Value) (base : Heap) (ec : Str→Addr) (l c : List Str) : Prop where
  b : ∀ x∈l,mg x = some (.ref (ec x))
  f : ∀ x∈c,XFacts K (ec x)
  ord : ("OrderError" : Str)∈c
  kit : ∀ x∈c,x≠"OrderError"→∀ y∈l,PySem.W.kitOne K (.ref (ec x)) (.ref (ec y)) = some (y == x || y == ("OrderError" : Str))
  val : ∀ x∈c,PySem.W.kitOne K (.ref (ec x)) (.type "ValueError") = some true
  at_ : ∀ x∈c,∃ bm,XAt base (ec x) bm∧bm.contains (.type "BaseException") = true∧(Value.ref (ec x)::bm).contains (.ref (ec "OrderError")) = true
  nv : mg "ValueError" = none
  own : ∀ x∈c,x∉(["NoText","Ring","NoUnit"] : List Str)→OwnCls x (ec x) [.type "ValueError",.type "Exception",.type "BaseException",.type "object"] "ValueError.__new__" mg base
theorem kitAny_false {K : PySem.W.Frag} {t : Value} : ∀ {cs : List Value},(∀ c∈cs,PySem.W.kitOne K t c = some false)→PySem.W.kitAny K t cs = some false
  | [],_=>rfl
  | c::cs,h=>by
    unfold PySem.W.kitAny
    rw [h c (List.mem_cons_self ..)]
    exact kitAny_false fun d hd=>h d (List.mem_cons_of_mem _ hd)
section
variable {K : PySem.W.Frag} {mg : Str→Option Value} {base : Heap} {ec : Str→Addr} {l c : List Str}
theorem Errs.none_of (Er : Errs K mg base ec l c) {x : Str} (hx : x∈c) (hn : x≠"OrderError") {ys : List Str} (h : ∀ y∈ys,y∈l∧y≠x∧y≠"OrderError") : PySem.W.kitAny K (.ref (ec x)) ((ys.map ec).map Value.ref) = some false:=by
  refine kitAny_false fun d hc=>?_
  rw [List.map_map] at hc
  obtain ⟨y,hy,rfl⟩:=List.mem_map.mp hc
  obtain ⟨h1,h2,h3⟩:=h y hy
  show PySem.W.kitOne K (.ref (ec x)) (.ref (ec y)) = some false
  rw [Er.kit x hx hn y h1]
  simp [h2,h3]
end
theorem ps_raiseV {P : Program} {w : World} {K : PySem.W.Frag} {mg : Str→Option Value} {base : Heap} {ec : Str→Addr} {l c : List Str} {N : List Str} {qual : Str} {scope : Scope} {f : Addr} {cd : Value} {A : Around} {outer : List Env} {s : Shared} {H : Hp} {E : XK}
    {x : Str} {np cpos pos : Pos} {e₀ : Expr} {rest : List Expr} {ta : TA} (Er : Errs K mg base ec l c) (hx : x∈c) (hi : x∉(["NoText","Ring","NoUnit"] : List Str))
    (hg : Gl (cxOf (CX1 P w) P w K mg base N qual scope f cd A outer s H E) x) (ha : PA (cxOf (CX1 P w) P w K mg base N qual scope f cd A outer s H E) (e₀::rest) ta)
    (he : starEach (e₀::rest) (cxOf (CX1 P w) P w K mg base N qual scope f cd A outer s H E).env = (false,eval e₀ (cxOf (CX1 P w) P w K mg base N qual scope f cd A outer s H E).env)::starEach rest (cxOf (CX1 P w) P w K mg base N qual scope f cd A outer s H E).env:=by rfl)
    (hpl : (backTo cpos (starEach rest (cxOf (CX1 P w) P w K mg base N qual scope f cd A outer s H E).env)).any (·.1) = false:=by rfl) (hdb : (x == ("__debug__" : Str)) = false:=by decide) :
    PS (cxOf (CX1 P w) P w K mg base N qual scope f cd A outer s H E) (.Raise (some (.Call (.Name x np) (e₀::rest) [] cpos)) none pos) (tRaise E (ec x) ta) :=
  ps_raise1 (Er.own x hx hi) PySem.F.excBase_ValueError (by decide) PySem.F.excBase_ValueError hg ha he hpl hdb
theorem b_ValueError : bootBuiltins "ValueError" = some (.type "ValueError"):=by decide +kernel
end L2
namespace L2
open PySem PySem.Spec PyProof.Rows
abbrev excO (C : Addr) (dd : Option Addr) (t : Addr) : Obj:={ cls:=.ref C,dict:=dd,data:=.fields #[.ref t,.none,.none,.none,.bool false,.none] }
abbrev argO (us : List Value) : Obj:={ cls:=.type "tuple",data:=.seq us.toArray }
def xNew (a C : Addr) (dd : Option Addr) : HO:=.ext fun h=>∃ t,h.get? a = some (excO C dd t)
section
variable {prog : Program} {w : World} {A : Around} {E : Value→Shared→Prop} {h : Heap} {g : Array GenState} {d : Drawn} {tk : Nat} {os : OsState}
variable {nm q : Str} {C N fI : Addr} {oI : Obj} {bs bm bmB bmN : List Value} {hdct : Bool} {sn : List Str} {sub : List Value} {ab : Bool} {col : Option Bool} {dd : Option Addr} {k0 k1 k2 k3 k5 : Option Value} {B Bn newId nid initId inN : String} {mN : Str→Option Value} {us : List Value}
theorem tcall_init {Q : Fin→Shared→Prop} (Fn : ExcBaseFacts Bn newId inN bmN) (hBn : bmB.contains (.type Bn) = true) (F : ExcBaseFacts B nid initId bmB) (T : OwnTail h bmB bm) (hC : h.get? C = some (excClassObj nm q C N bs bm hdct sn sub ab col dd k0 k1 k2 k3 k5 newId)) (hn : h.Ns N mN)
    (hi : mN "__init__" = some (.ref fI)) (gf : h.get? fI = some oI) (cf : oI.cls = .type "function") (lu : us.length≤sizeLine)
    (k : ∀ h' e,Heap.MadeExcOf h h' e (.ref C) us→wpAny (model prog w) A (call (.ref fI) (.ref e::us)) (fun r s'=>r = .none∧Q (.done (.ret (.ref e))) s') E ⟨h',g,d,tk,os⟩) :
    wpAny (model prog w) A (Builtin.«type.__call__» ⟨.ref C::us,[]⟩) Q E ⟨h,g,d,tk,os⟩:=by
  repeat (first | with_reducible refine wpAny_madeBy_exc hC ?_ | with_reducible refine wpAny_loadPart_at hC ?_ | wp_step)
  refine codeAny_call_builtin_code (Code.quiet_builtin _ Fn.quiet) (wpAny_check_new_subU Fn hBn T hC (codeAny_exc_new_subU Fn hBn F T hC ?_ lu))
  show wpAny _ _ _ _ _ _
  have up : ∀ b o,h.get? b = some o→((h.push (argO us)).push (excO C none h.objs.size)).get? b = some o:=fun b o z=>Heap.get?_push_of_some _ (Heap.get?_push_of_some _ z)
  have ge : ((h.push (argO us)).push (excO C none h.objs.size)).get? (h.objs.size + 1) = some (excO C none h.objs.size):=by heap_get
  have gC:=up _ _ hC
  have me : (Value.ref C::bm).contains (.ref C) = true:=by simp
  have hn2 : ((h.push (argO us)).push (excO C none h.objs.size)).Ns N mN:=hn.keeps up
  unfold isInstance
  repeat (first | with_reducible refine wpAny_loadPart_at ge ?_ | (with_reducible refine wpAny_isSubtype_exc gC ?_;rw [me]) | wp_step)
  show wpAny _ _ (typeLookup (.ref C) "__init__") _ _ _
  refine wpAny_typeLookup_tail gC hn2 (T.keeps up) F.mroIs F.init.lookup ?_
  rw [hi]
  refine wpAny_holding (wpAny_bind ?_)
  unfold bindSpecial
  refine wpAny_bind (wpAny_typeOf (T:="function") ⟨oI,up _ _ gf,cf⟩ ?_)
  rw [if_pos (by decide)]
  refine wpAny_pure (wpAny_bind (wpAny_mono (k _ (h.objs.size + 1) ⟨up,Heap.get?_none_of_le (Nat.le_succ _),h.objs.size,ge,Heap.get?_none_of_le (Nat.le_refl _),Heap.get?_push_of_some _ (Heap.get?_push_at rfl rfl)⟩) (fun r s' z=>?_) fun _ _ x=>x))
  obtain ⟨rfl,z⟩:=z
  wp_walk
  exact z
theorem call_init {Q : Value→Shared→Prop} (Fn : ExcBaseFacts Bn newId inN bmN) (hBn : bmB.contains (.type Bn) = true) (F : ExcBaseFacts B nid initId bmB) (T : OwnTail h bmB bm) (hC : h.get? C = some (excClassObj nm q C N bs bm hdct sn sub ab col dd k0 k1 k2 k3 k5 newId)) (hn : h.Ns N mN)
    (hi : mN "__init__" = some (.ref fI)) (gf : h.get? fI = some oI) (cf : oI.cls = .type "function") (lu : us.length≤sizeLine)
    (k : ∀ h' e,Heap.MadeExcOf h h' e (.ref C) us→wpAny (model prog w) (A.under (.builtin "type.__call__" ⟨.ref C::us,[]⟩)) (call (.ref fI) (.ref e::us)) (fun r s'=>r = .none∧Q (.ref e) s') E ⟨h',g,d,tk,os⟩) :
    wpAny (model prog w) A (call (.ref C) us) Q E ⟨h,g,d,tk,os⟩:=by
  have l1:=tc_lookup
  have l2:=tc_bind (.ref C)
  have ty : (⟨h,g,d,tk,os⟩ : Shared).TypeIs (.ref C) "type":=⟨_,hC,rfl⟩
  refine wpAny_call (codeAny_of_tree ?_)
  show wpAny _ _ (callAny (.ref C) _) _ _ _
  repeat (any_goals (first | assumption | wp_step | with_reducible refine wpAny_loadPart_at hC ?_))
  refine ⟨rfl,codeAny_call_builtin_at (Code.quiet_builtin _ (by decide +kernel)) entry_typeCall (wpAny_check_type_call_sub hC (tcall_init Fn hBn F T hC hn hi gf cf lu fun h' e hm=>?_))⟩
  exact k h' e hm
end
section
variable {M : Model} {A : Around} {E : Value→Shared→Prop} {env : Env} {s : Shared} {bm : List Value} {C : Addr}
theorem raiseStmtX {x : Sem Value} {Q : Flow→Shared→Prop} (hb : bm.contains (.type "BaseException") = true) (hh : A.handled = none)
    (h : wpAny M A x (fun v s1=>∃ e t dq,v = .ref e∧XAt s1.heap C bm∧s1.heap.get? e = some (excO C dq t)∧E (.ref e) s1) E s) : wpAny M A (raiseStmt env (some x) none) Q E s:=by
  have hc : (Value.ref C::bm).contains (.type "BaseException") = true:=by rw [List.contains_cons,hb,Bool.or_true]
  unfold raiseStmt
  refine wpAny_bind (wpAny_mono h (fun v s1 z=>?_) fun _ _ y=>y)
  obtain ⟨e,t,dq,rfl,⟨nm,q,N,bs,hdct,sn,sub,ab,col,dd,k0,k1,k2,k3,k5,newId,gC⟩,ge,qE⟩:=z
  obtain ⟨hp,g,dr,tk,os⟩:=s1
  repeat (first | (with_reducible refine wpAny_isSubtype_exc gC ?_;rw [hc]) | with_reducible refine wpAny_loadPart_at ge ?_ | with_reducible refine wpAny_loadPart_at gC ?_ | wp_step)
  exact wpAny_raiseNew_none hh qE
end
end L2
namespace L2
open PySem PySem.Spec PyProof.Rows
def bmV : List Value:=[.type "ValueError",.type "Exception",.type "BaseException",.type "object"]
def tailE (l : List Value) : Bool:=match l with
  | .ref _::.ref _::r=>r == bmV
  | _=>false
theorem refuse_tail (self : Value) {l : List Value} (e : tailE l = true) : refuseLoop self "__setattr__" l = pure ():=by
  unfold tailE at e
  split at e
  · rw [refuseLoop_ref,refuseLoop_ref,beq_iff_eq.mp e]
    exact PySem.F.store_ValueError.passes self
  · cases e
structure XSet (K : PySem.W.Frag) (C : Addr) (f : Str) : Prop where
  sa : PySem.W.findIn K (.ref C) "__setattr__" = some (some (.builtin "object.__setattr__"))
  po : (PySem.W.clsIn K C).any (fun cd=>tailE cd.mro) = true
  na : PySem.W.findIn K (.ref C) f = some none
  hd : PySem.W.hasDictIn K C = true
  hm : PySem.W.mroIn K C (.type "object") = some true
section
open PySem.W Builtin Builtin.ObjectAttr
variable {prog : Program} {w : World} {A : Around} {E : Value→Shared→Prop} {s : Shared} {K : Frag} {x C t : Addr} {f : Str} {v : Value}
theorem xinst {h : Heap} (hx : h.get? x = some (excO C none t)) : InstAt h x (excO C none t) C none:=⟨hx,rfl,rfl,True.intro⟩
theorem setX {Q : Unit→Shared→Prop} (X : K.In s.heap) (Z : XSet K C f) (hx : s.heap.get? x = some (excO C none t))
    (k : ∀ h' d,s.heap.objs.size≤d→h'.get? x = some (excO C (some d) t)→h'.Ns1 d (fun y=>if y = f then some v else none)→(∀ b o,b≠x→s.heap.get? b = some o→h'.get? b = some o)→Q () { s with heap:=h',toks:=s.toks + 2 }) :
    wpAny (model prog w) A (setAttr (.ref x) f v) Q E s:=by
  have I:=xinst hx
  obtain ⟨cd,hc,ho⟩:=any_some Z.po
  obtain ⟨cd',hc',hd'⟩:=any_some Z.hd
  cases Option.some.inj (hc'.symm.trans hc)
  refine set_plain X I Z.sa ?_
  have G:=PySem.F.store_object
  have io : Looks (model prog w) s.heap (isInstance (.ref x) (.type "object")) true:=I.type.andThen (looks_mroIn X Z.hm)
  have mr : Looks (model prog w) s.heap (mroOf (.ref C)) cd.mro:=(looks_clsIn X hc).andThen .now
  refine codeAny_call_builtin G.slot.plain G.entry (@check_slot (model prog w) _ _ { s with toks:=s.toks + 1 } "object.__setattr__" "object" "__setattr__" (.ref x) [.str f s.toks,v] [] _ G.kind G.split io (G.args (.ref x) (.str f s.toks) v) ?_)
  rw [osa_eq,refuse_eq]
  refine wpAny_bind (wpAny_bind (Looks.here (s:={ s with toks:=s.toks + 1 }) I.type (wpAny_bind (Looks.here (s:={ s with toks:=s.toks + 1 }) mr ?_))))
  rw [refuse_tail _ ho]
  refine wpAny_pure (wpAny_bind (Looks.here (s:={ s with toks:=s.toks + 1 }) I.type (wpAny_bind (Looks.here (s:={ s with toks:=s.toks + 1 }) (looks_findIn X Z.na) (wpAny_bind (wpAny_pure ?_))))))
  have nx : x≠s.heap.objs.size:=Nat.ne_of_lt (Heap.lt_size hx)
  refine wpAny_bind (wpAny_pure (wpAny_bind (wpAny_bind (wpAny_loadPart hx (wpAny_bind (Looks.here (s:={ s with toks:=s.toks + 1 }) (looks_clsIn X hc) ?_))))))
  rw [hd']
  show wpAny _ _ (alloc { cls:=Value.type "dict",data:=Data.dict #[] } >>= _) _ _ _
  have x1:=Heap.get?_push_of_some (h:=s.heap) { cls:=.type "dict",data:=.dict #[] } hx
  refine wpAny_bind (wpAny_alloc' (wpAny_bind (wpAny_update' x1 (wpAny_pure ?_))))
  generalize eg : (s.heap.push { cls:=.type "dict",data:=.dict #[] }).update x (fun o=>{ cls:=o.cls,dict:=some s.heap.objs.size,data:=o.data,slots:=o.slots }) = g1
  have d1 : g1.get? s.heap.objs.size = some { cls:=.type "dict",data:=.dict #[] }:=by
    rw [← eg];exact (Heap.get?_update_ne _ _ _ _ (Ne.symm nx)).trans (Heap.get?_push_at rfl rfl)
  have e1 : g1.get? x = some (excO C (some s.heap.objs.size) t):=by rw [← eg];exact Heap.get?_update_self _ x1 rfl
  have o1 : ∀ b o,b≠x→s.heap.get? b = some o→g1.get? b = some o:=fun b o nb z=>by
    rw [← eg];exact (Heap.get?_update_ne _ _ _ _ nb).trans (Heap.get?_push_of_some _ z)
  have n1 : g1.Ns s.heap.objs.size (fun _=>none):=⟨_,#[],_,d1,rfl,(fun e he=>absurd he (by simp)),fun _=>rfl⟩
  show wpAny _ _ (storeInDict s.heap.objs.size (.str f s.toks) f v) _ _ _
  unfold storeInDict newKeyGuard
  refine wpAny_bind (wpAny_pure (wpAny_bind (wpAny_nsSet1 (Heap.Ns1.of_empty n1) fun h' n2 sb=>?_)))
  obtain ⟨oD,esD,epD,gD,dD,cD⟩:=n2.count (Within.cons f v Within.nil)
  refine wpAny_bind (wpAny_lookBehind gD (by rw [dD];exact pastItsLine_dict (Nat.le_trans cD (by rw [List.length_cons,List.length_nil,sizeLine_eq];omega))) ?_)
  refine wpAny_pure ?_
  exact k h' s.heap.objs.size (Nat.le_refl _) ((sb.2 x nx).trans e1) n2 fun b o nb z=>(sb.2 b (Nat.ne_of_lt (Heap.lt_size z))).trans (o1 b o nb z)
end
section
variable {X : Cx} {pins : List (Addr × Obj)} {σ : St} {H : Hp} {s : Shared} {A : Around} {E : Value→Shared→Prop} {a C : Addr} {f : Str}
theorem xnew_at {dd : Option Addr} (I : Inv X pins σ H s) (h : H a = some (xNew a C dd)) : ∃ t,s.heap.get? a = some (excO C dd t):=(show ObjOk X.prog X.w H s.heap a (xNew a C dd) from I.hok a _ h).1
theorem xnew_ok {P : Program} {w : World} {dd : Option Addr} {h : Heap} {t : Addr} (e : h.get? a = some (excO C dd t)) : ObjOk P w H h a (xNew a C dd) :=
  ⟨⟨t,e⟩,⟨_,e⟩,fun _ _ ⟨u,q⟩ z=>⟨u,z _ q⟩⟩
theorem setX_ok {y : V} {u : Value} {Q : Unit → Shared → Prop} (I : Inv X pins σ H s) (e : H a = some (xNew a C none)) (Z : XSet X.K C f) (ry : RelV y u)
    (k : ∀ d s',H d = none→d≠a→Inv X pins σ (upd (upd H d (.xd [(f,y)])) a (xNew a C (some d))) s'→Q () s') : wpAny (model X.prog X.w) A (setAttr (.ref a) f u) Q E s:=by
  obtain ⟨t,ge⟩:=xnew_at I e
  refine setX I.kIn Z ge fun h' d sd g1 g2 g3=>?_
  have nd : H d = none:=I.hok.fresh sd
  have da : d≠a:=fun z=>by rw [z,e] at nd;cases nd
  have gd : s.heap.get? d = none:=Heap.get?_none_of_le sd
  refine k d _ nd da ?_
  have ne : ∀ {b : Addr} {v : HO},H b = some v→b≠d:=fun z1 z2=>by rw [z2,nd] at z1;cases z1
  have na : ∀ {b : Addr},H b = none→b≠a:=fun z1 z2=>by rw [z2,e] at z1;cases z1
  have same : ∀ b,b≠a→b≠d→upd (upd H d (.xd [(f,y)])) a (xNew a C (some d)) b = H b:=fun b z1 z2=>by rw [upd_ne z1,upd_ne z2]
  have keepK : ∀ (b : Addr) (v : HO),H b = some v→v≠xNew a C none→upd (upd H d (.xd [(f,y)])) a (xNew a C (some d)) b = some v:=fun b v z1 z2=>by
    rw [same b (fun z=>by rw [z,e] at z1;exact z2 (Option.some.inj z1).symm) (ne z1)];exact z1
  refine Inv.step (g':=s.gens) (d':=s.drawn) (t':=s.toks + 2) (ch:=[]) I (fun b hb=>by cases hb) (fun b o _ _ _ z n=>g3 b o (na n) z) (fun b o _ _ _ z n=>⟨o.slots,g3 b o (na n) z⟩) (fun b o _ z n=>?_) (fun b o _ z=>?_)
    (fun b xs z=>keepK b _ z (by intro q;cases q)) (fun b o v z=>keepK b _ z (by intro q;cases q)) (fun b ps z=>⟨#[],by rw [Array.append_empty];exact keepK b _ z (by intro q;cases q)⟩) (fun m hn=>?_) (fun b v z=>?_) I.bare
  · rw [same b (na n) fun q=>by rw [q,gd] at z;cases z];exact n
  · by_cases hb : b = a
    · exact ⟨_,hb ▸ g1⟩
    · exact ⟨o,g3 b o hb z⟩
  · obtain ⟨o,es,ep,ho,r⟩:=hn
    exact ⟨o,es,ep,g3 _ o (na I.free) ho,r⟩
  · by_cases hb : b = a
    · subst hb
      rw [upd_same] at z;cases z
      exact xnew_ok g1
    · by_cases hd : b = d
      · subst hd
        rw [upd_ne hb,upd_same] at z;cases z
        refine ⟨_,g2,fun y'=>?_⟩
        show RelO (List.lookup y' [(f,y)]) (if y' = f then some u else none)
        by_cases q : y' = f
        · subst q
          simp only [List.lookup,beq_self_eq_true,if_pos]
          exact ry
        · have : (y' == f) = false:=beq_eq_false_iff_ne.mpr q
          simp only [List.lookup,this,if_neg q]
          exact True.intro
      · rw [same b hb hd] at z
        refine (I.hok b v z).stay (fun c w hc q=>g3 c w ?_ q) (fun c q=>keepK c _ q (by intro q;cases q)) fun c xs q=>keepK c _ q (by intro q;cases q)
        rintro rfl
        rcases hc with r | r
        · exact hb r.symm
        · rw [e] at r;cases r
def sFldX (K : PySem.W.Frag) (ta tv : TE) (f : Str) : TS:=fun D σ H=>tv σ H fun y H1=>ta σ H1 fun x H2=>∃ a C,x = .ref a∧H2 a = some (xNew a C none)∧XSet K C f∧∀ d,H2 d = none→d≠a→D.nx σ (upd (upd H2 d (.xd [(f,y)])) a (xNew a C (some d)))
theorem ps_fldX {o value : Expr} {pos pos' : Pos} {ta tv : TE} (ha : PE X o ta) (hv : PE X value tv) (hs : swapsWith value (some (.Attribute o f pos')) pos.line X.env = pure false) : PS X (.Assign [.Attribute o f pos'] value pos) (sFldX X.K ta tv f):=by
  intro pins s σ H D I h
  refine plainObj_wpAny_Assign_Attribute (thn (hv pins s σ H _ I h) fun u s1 ⟨y,H1,I1,ry,q⟩=>thn (ha pins s1 σ H1 _ I1 q) fun ov s2 ⟨x,H2,I2,rx,a,C,ex,ea,Z,q2⟩=>?_) hs
  subst ex
  obtain rfl : ov = Value.ref a:=rx
  exact setX_ok I2 ea Z ry fun d s3 hd hda I3=>⟨σ,_,I3,q2 d hd hda⟩
end
end L2
namespace L2
open PySem PySem.Spec PyProof.Rows
theorem ns_some {K : PySem.W.Frag} {h : Heap} {N : Addr} {mN : Str → Option Value} {n : Str} {v : Value} (X : K.In h) (G : h.Ns N mN) (e : PySem.W.nsIn K N n = some (some v)) : mN n = some v := by
  obtain ⟨o,es,ep,go,de,_,fe⟩:=G
  unfold PySem.W.nsIn at e
  split at e
  · rename_i q
    have z:=X _ _ q
    rw [go] at z
    cases z
    cases de
    split at e
    · rename_i en he
      cases e
      rw [← fe]
      unfold nsFind findBy
      rw [← Array.find?_toList,he];rfl
    · split at e <;> cases e
  · cases e
structure OwnI (x : Str) (C fI : Addr) (mg : Str→Option Value) (h : Heap) : Prop where
  bound : mg x = some (.ref C)
  obj : ∃ tl N nm q bs hdct sn sub ab col dd k0 k1 k2 k3 k5 mN oI,h.get? C = some (excClassObj nm q C N bs tl hdct sn sub ab col dd k0 k1 k2 k3 k5 "ValueError.__new__")∧h.Ns N mN∧mN "__init__" = some (.ref fI)∧OwnTail h bmV tl∧h.get? fI = some oI∧oI.cls = .type "function"
def del (H : Hp) (e : Addr) : Hp:=fun b=>if b = e then none else H b
theorem del_same {H : Hp} {e : Addr} : del H e e = none:=by unfold del;rw [if_pos rfl]
theorem del_ne {H : Hp} {e b : Addr} (h : b≠e) : del H e b = H b:=by unfold del;rw [if_neg h]
theorem Inv.del {X : Cx} {pins : List (Addr × Obj)} {σ : St} {H : Hp} {s : Shared} {e C : Addr} {dd : Option Addr} (I : Inv X pins σ H s) (he : H e = some (xNew e C dd)) : Inv X pins σ (del H e) s := by
  have kp : ∀ (b : Addr) (v : HO),H b = some v→v≠xNew e C dd→L2.del H e b = some v:=fun b v z n=>by
    rw [del_ne fun q=>by rw [q,he] at z;exact n (Option.some.inj z).symm];exact z
  have fr : ∀ b,H b = none→L2.del H e b = none:=fun b z=>by
    unfold L2.del;split
    · rfl
    · exact z
  refine ⟨I.ok,I.os,I.bare,⟨I.base.keep,I.base.slot,fun b o z n hx=>fr b (I.base.free b o z n hx),I.base.there,fun b xs z=>kp b _ (I.base.tups b xs z) (by intro q;cases q),fun b o u z=>kp b _ (I.base.frzs b o u z) (by intro q;cases q),fun b ps z=>?_⟩,I.loc,I.cell,fr _ I.free,fun x c z=>fr _ (I.freeC x c z),fun p hp=>?_,fun b v z=>?_,I.len⟩
  · obtain ⟨more,q⟩:=I.base.tbls b ps z
    exact ⟨more,kp b _ q (by intro q;cases q)⟩
  · obtain ⟨g1,g2,g3⟩:=I.pin p hp
    exact ⟨g1,fr _ g2,g3⟩
  · have hb : H b = some v:=by
      unfold L2.del at z;split at z
      · cases z
      · exact z
    exact (I.hok b v hb).stay (fun _ _ _ q=>q) (fun c q=>kp c _ q (by intro q;cases q)) fun c xs q=>kp c _ q (by intro q;cases q)
def tRaiseI (E : XK) (C : Addr) (sp : Sp) (ta : TA) : TS:=fun _ σ H=>ta σ H fun vs H1=>vs.length≤sizeLine∧∀ e,H1 e = none→sp (.ref e::vs) (upd H1 e (xNew e C none)) (fun v H2=>v = .non∧∃ dd,H2 e = some (xNew e C dd)∧E (.ref C) dd (del H2 e)) E0
theorem ps_raiseI {P : Program} {w : World} {K : PySem.W.Frag} {mg : Str → Option Value} {base : Heap} {N : List Str} {qual : Str} {scope : Scope} {f : Addr} {cd : Value} {A : Around} {outer : List Env} {s : Shared} {H : Hp} {E : XK}
    {x : Str} {C fI : Addr} {fd : FuncData} {ps : List Str} {sp : Sp} {k : Nat} {np cpos pos : Pos} {e₀ : Expr} {rest : List Expr} {ta : TA} (O : OwnI x C fI mg base) (kp : PySem.W.keepIn K (.ref C) = true)
    (F : FnOk P w K mg base CX0 k fI fd ps sp) (hb : Binds K fd ps []) (hr : Room (k + 1) (cxOf (CX1 P w) P w K mg base N qual scope f cd A outer s H E).A)
    (hg : Gl (cxOf (CX1 P w) P w K mg base N qual scope f cd A outer s H E) x) (ha : PA (cxOf (CX1 P w) P w K mg base N qual scope f cd A outer s H E) (e₀::rest) ta)
    (he : starEach (e₀::rest) (cxOf (CX1 P w) P w K mg base N qual scope f cd A outer s H E).env = (false,eval e₀ (cxOf (CX1 P w) P w K mg base N qual scope f cd A outer s H E).env)::starEach rest (cxOf (CX1 P w) P w K mg base N qual scope f cd A outer s H E).env:=by rfl)
    (hpl : (backTo cpos (starEach rest (cxOf (CX1 P w) P w K mg base N qual scope f cd A outer s H E).env)).any (·.1) = false:=by rfl) (hdb : (x == ("__debug__" : Str)) = false:=by decide) :
    PS (cxOf (CX1 P w) P w K mg base N qual scope f cd A outer s H E) (.Raise (some (.Call (.Name x np) (e₀::rest) [] cpos)) none pos) (tRaiseI E C sp ta):=by
  intro pins s1 σ H1 D I h
  obtain ⟨tl,Nn,nm,q,bs,hdct,sn,sub,ab,col,dd,k0,k1,k2,k3,k5,mN,oI,hC,hN,hi,T,gf,cf⟩:=O.obj
  rw [arm_exec_Raise]
  refine wpAny_bind (wpAny_standAt (raiseStmtX (C:=C) (bm:=tl) (T.hasType PySem.F.excBase_ValueError.hasBase) (I.ok.hd rfl) ?_))
  show wpAny _ _ (do let v ← eval (.Call (.Name x np) (e₀::rest) [] cpos) _;standAt pos;pure v) _ _ _
  refine wpAny_bind (thn (Q:=fun v s3=>∃ e t dq,v = .ref e∧XAt s3.heap C tl∧s3.heap.get? e = some (excO C dq t)∧(cxOf (CX1 P w) P w K mg base N qual scope f cd A outer s H E).xe (.ref e) s3) ?_ fun v s3 z=>wpAny_bind (wpAny_standAt (wpAny_pure z)))
  refine wpAny_Call_Name_kw (ld_glob I hg O.bound ?_ hdb)
  refine PySem.W.callWith_K (h₀:=base) I.ok.mod.kin kp (thn (ha cpos pins s1 σ H1 _ I h) fun us s2 ⟨vs,H2,I2,r,hl,q2⟩=>⟨I2.kIn,?_⟩) he hpl
  have bk:=I2.bk
  obtain ⟨hh,g,d,tk,os⟩:=s2
  refine call_init PySem.F.excBase_ValueError (by decide) PySem.F.excBase_ValueError (T.keeps bk) (bk _ _ hC) (hN.keeps bk) hi (bk _ _ gf) cf (by rw [List.nil_append,← r.length];exact hl) fun h' e hm=>?_
  rw [List.nil_append] at hm ⊢
  obtain ⟨t,ge,_,_⟩:=hm.there
  have ne : H2 e = none:=by
    cases z : H2 e with
    | none=>rfl
    | some u =>
      obtain ⟨o,ho⟩:=ObjOk.obj (I2.hok e u z)
      rw [hm.new] at ho;cases ho
  have n0 : s.heap.get? e = none:=by
    cases z : s.heap.get? e with
    | none=>rfl
    | some o =>
      obtain ⟨o',e'⟩:=I2.base.there e o z (by intro y;cases y)
      rw [hm.new] at e';cases e'
  have I3 : Inv (cxOf (CX1 P w) P w K mg base N qual scope f cd A outer s H E) pins σ (upd H2 e (xNew e C none)) ⟨h',g,d,tk,os⟩ :=
    Inv.track I2 (I2.kept (t':=tk) hm.keeps) hm.new ne (xnew_ok ge)
  have hs:=q2 e ne
  have r2 : Vals (V.ref e::vs) (Value.ref e::us):=.cons rfl r
  have hlen : (Value.ref e::us++[]).length = ps.length:=by rw [List.append_nil,← r2.length];exact F.len _ _ _ _ hs
  refine wpAny_call (codeAny_mono (F.run _ _ _ _ ⟨Value.ref e::us,[]⟩ (Value.ref e::us++[]) (V.ref e::vs) _ _ (hr.make C us []) (I3.env0.make C us []) (hb _ (Value.ref e::us) I3.kIn hlen) (by rw [List.append_nil];exact r2) hs) fun r s' hq=>?_)
  cases r with
  | error ev=>exact False.elim hq
  | ok fl =>
    cases fl with
    | ret u =>
      obtain ⟨v,H4,I4,rv,rfl,dq,e4,qE⟩:=I3.after hq
      obtain ⟨t4,g4⟩:=xnew_at I4 e4
      refine ⟨rv,e,t4,dq,rfl,⟨nm,q,Nn,bs,hdct,sn,sub,ab,col,dd,k0,k1,k2,k3,k5,_,I4.bk _ _ hC⟩,g4,?_⟩
      exact raiseG (I4.del e4) del_same g4 rfl rfl n0 qE
    | next=>exact False.elim hq
    | brk=>exact False.elim hq
    | cont=>exact False.elim hq
end L2
namespace L2
open PySem PySem.Spec PyProof.Rows
structure XGet (K : PySem.W.Frag) (C : Addr) (f : Str) : Prop where
  na : PySem.W.findIn K (.ref C) f = some none
  hd : PySem.W.hasDictIn K C = true
section
open PySem.W PySem.Calls Builtin Builtin.ObjectAttr
variable {K : Frag} {x C : Addr} {h : Heap} {M : Model} {prog : Program} {w : World} {A : Around} {E : Value→Shared→Prop} {s : Shared} {ox od : Obj} {f : Str} {u : Value}
theorem xg_ga {tk : Tok} {R : Result→Shared→Prop} (Z : XFacts K C) (X : K.In s.heap) (I : InstAt s.heap x ox C (some od)) (hf : findObj K C (some od) f = some (.value u)) (h : R (.ok (.ret u)) s) :
    codeAny (model prog w) A (.call (.builtin "BaseException.__getattribute__") ⟨[.ref x,.str f tk],[]⟩) R s:=by
  have q1:=I.type (M:=model prog w)
  have q2:=looks_mroIn (M:=model prog w) X Z.hb
  have q3:=looks_find (M:=model prog w) X I hf
  have hk : builtinKind "BaseException.__getattribute__" = some .slot:=by decide +kernel
  have hs : splitId "BaseException.__getattribute__" = some ("BaseException","__getattribute__"):=by decide +kernel
  have ha:=PySem.F.args_bexc_ga (.ref x) (.str f tk)
  obtain ⟨hh,g,dr,t,os⟩:=s
  refine codeAny_call_builtin PySem.F.attr_ValueError.ga.plain PySem.F.entry_bexc_ga ?_
  simp only [checkBuiltinCall,hk,hs]
  refine wpAny_bind ?_
  unfold isInstance
  repeat lk
  exact h
theorem xg_get {b : Bool} {Q : Value→Shared→Prop} (Z : XFacts K C) (X : K.In s.heap) (I : InstAt s.heap x ox C (some od)) (hf : findObj K C (some od) f = some (.value u)) (hu : handedIn u = true) (h : Q u { s with toks:=s.toks + 1 }) :
    wpAny (model prog w) A (getAttr (.ref x) f b) Q E s:=by
  have q1:=I.type (M:=model prog w)
  have q2:=looks_findIn (M:=model prog w) X Z.ga
  have q4:=looks_findIn (M:=model prog w) X Z.gb
  have f3:=PySem.F.attr_ValueError.ga.bind (.ref x)
  obtain ⟨hh,g,dr,t,os⟩:=s
  simp only [getAttr,getAttrBy]
  refine wpAny_bind (wpAny_mkText (wpAny_holding (wpAny_bind (q1.at (wpAny_bind (q2.at ?_))))))
  show wpAny _ _ (getAttrByItsOwn _ _ _ _ _ _) _ _ _
  refine wpAny_bind ?_
  show wpAny _ _ (typeLookup (.ref C) "__getattr__") _ _ _
  refine q4.at (wpAny_bind (wpAny_attempt (wpAny_holding ?_)))
  unfold callGetattribute
  rw [if_neg (by cases b <;> decide)]
  unfold boundAndCalled
  rw [f3]
  refine wpAny_bind (wpAny_pure ?_)
  show wpAny _ _ (call (.builtin "BaseException.__getattribute__") [.ref x,.str f t]) _ _ _
  refine wpAny_call (xg_ga Z X I hf ?_)
  show wpAny _ _ (handedOut u) _ _ _
  exact handed_on hu (by exact h)
end
section
variable {X : Cx} {e : Expr} {f : Str} {pos : Pos} {ta : TE}
def tFldX (K : PySem.W.Frag) (ta : TE) (f : Str) : TE:=fun σ H Q=>ta σ H fun x H1=>∃ a C d fs v,x = .ref a∧H1 a = some (xObj a C (some d))∧H1 d = some (.xd fs)∧fs.lookup f = some v∧XFacts K C∧XGet K C f∧Q v H1
theorem pe_fldX (he : PE X e ta) (hb : attributeBase e f X.env (eval e X.env) = eval e X.env) : PE X (.Attribute e f pos) (tFldX X.K ta f):=by
  intro pins s σ H Q I h
  refine attr_of hb (thn (he pins s σ H _ I h) fun u s1 ⟨x,H1,I1,rx,a,C,d,fs,v,ex,ea,ed,l,Z,G,q⟩=>?_)
  subst ex
  obtain rfl : u = Value.ref a:=rx
  obtain ⟨o,go,oc,dd,nc⟩:=(show ObjOk X.prog X.w H1 s1.heap a (xObj a C (some d)) from I1.hok a _ ea).1
  obtain ⟨mA,ns,r⟩:=(show ObjOk X.prog X.w H1 s1.heap d (.xd fs) from I1.hok d _ ed)
  obtain ⟨od,gd,lk⟩:=lookIn_ns ns
  obtain ⟨u',hu,ru⟩:=RelO.some_of (v:=v) (o:=mA f) (by rw [← l];exact r f)
  have J : PySem.W.InstAt s1.heap a o C (some od):=⟨go,oc,nc,by rw [dd];exact gd⟩
  exact xg_get Z I1.kIn J (PySem.W.findObj_own G.hd G.na rfl (by rw [lk,hu])) (handed_of ru) ⟨v,H1,I1.tok _,ru,q⟩
end
end L2
namespace L2
open PySem
theorem with_rest {R J : St→Hp→Prop} {G : Prop} (main : (∀ σ H,J σ H→R σ H)→G) (rest : ∀ σ H,J σ H→R σ H) : G:=main rest
end L2
namespace L2
open PySem PySem.Spec PyProof.Rows
def ecOf (ps : List (Str × Addr)) (x : Str) : Addr:=(ps.lookup x).getD 0
theorem ecOf_at : ∀ {ps : List (Str × Addr)}, (ps.map (·.1)).Nodup → ∀ p ∈ ps, ecOf ps p.1 = p.2
  | [],_,p,h=>by cases h
  | q::ps,nd,p,h=>by
    rw [List.map_cons,List.nodup_cons] at nd
    unfold ecOf
    rcases List.mem_cons.mp h with rfl | h
    · rw [List.lookup_cons];simp
    · have ne : p.1≠q.1:=fun z=>nd.1 (z ▸ List.mem_map.mpr ⟨p,h,rfl⟩)
      have : (p.1 == q.1) = false:=by simpa using ne
      rw [List.lookup_cons,this]
      exact ecOf_at nd.2 p h
theorem fa_nil {α : Type} {P : α→Prop} : ∀ x∈([] : List α),P x:=fun x h=>by cases h
theorem fa_cons {α : Type} {P : α→Prop} {a : α} {l : List α} (h : P a) (g : ∀ x∈l,P x) : ∀ x∈a::l,P x:=fun x hx=>by
  rcases List.mem_cons.mp hx with rfl | hx
  · exact h
  · exact g x hx
variable {K : PySem.W.Frag} {mg : Str→Option Value} {base : Heap}
theorem errs_mk {ps cs : List (Str × Addr)} (nd : (ps.map (·.1)).Nodup) (sub : ∀ p∈cs,p∈ps) (b : ∀ p∈ps,mg p.1 = some (.ref p.2)) (f : ∀ p∈cs,XFacts K p.2) (ord : ("OrderError" : Str)∈cs.map (·.1))
    (kit : ∀ p∈cs,p.1≠"OrderError"→∀ q∈ps,PySem.W.kitOne K (.ref p.2) (.ref q.2) = some (q.1 == p.1 || q.1 == ("OrderError" : Str))) (val : ∀ p∈cs,PySem.W.kitOne K (.ref p.2) (.type "ValueError") = some true)
    (at_ : ∀ p∈cs,∃ bm,XAt base p.2 bm∧bm.contains (.type "BaseException") = true∧(Value.ref p.2::bm).contains (.ref (ecOf ps "OrderError")) = true) (nv : mg "ValueError" = none)
    (own : ∀ p∈cs,p.1∉(["NoText","Ring","NoUnit"] : List Str)→OwnCls p.1 p.2 [.type "ValueError",.type "Exception",.type "BaseException",.type "object"] "ValueError.__new__" mg base) : Errs K mg base (ecOf ps) (ps.map (·.1)) (cs.map (·.1)):=by
  have e:=ecOf_at nd
  have q : ∀ {x : Str},x∈ps.map (·.1)→∃ p∈ps,p.1 = x:=fun h=>by obtain ⟨p,hp,rfl⟩:=List.mem_map.mp h;exact ⟨p,hp,rfl⟩
  have r : ∀ {x : Str},x∈cs.map (·.1)→∃ p∈cs,p.1 = x:=fun h=>by obtain ⟨p,hp,rfl⟩:=List.mem_map.mp h;exact ⟨p,hp,rfl⟩
  refine ⟨fun x hx=>?_,fun x hx=>?_,ord,fun x hx hn y hy=>?_,fun x hx=>?_,fun x hx=>?_,nv,fun x hx hn=>?_⟩
  · obtain ⟨p,hp,rfl⟩:=q hx
    rw [e p hp];exact b p hp
  · obtain ⟨p,hp,rfl⟩:=r hx
    rw [e p (sub p hp)];exact f p hp
  · obtain ⟨p,hp,rfl⟩:=r hx
    obtain ⟨p2,hp2,rfl⟩:=q hy
    rw [e p (sub p hp),e p2 hp2];exact kit p hp hn p2 hp2
  · obtain ⟨p,hp,rfl⟩:=r hx
    rw [e p (sub p hp)];exact val p hp
  · obtain ⟨p,hp,rfl⟩:=r hx
    rw [e p (sub p hp)];exact at_ p hp
  · obtain ⟨p,hp,rfl⟩:=r hx
    rw [e p (sub p hp)];exact own p hp hn
end L2
namespace MG
variable {es : List (Nat × Nat)} {goal : Nat}
def NoR (es : List (Nat × Nat)) : Prop:=∀ e∈es,¬ RingAt es e
structure Qu (es : List (Nat × Nat)) (goal i : Nat) (ps : List (Nat × Nat)) : Prop where
  nd : (ps.map (·.1)).Nodup
  so : ps.Pairwise (fun p q=>p.2≤q.2)
  wk : ∀ p∈ps,Walk (Arr (swp es)) p.2 goal p.1
  up : ∀ c,ps[i]? = some c→∀ p∈ps,p.2≤c.2 + 1
  dn : ∀ j,j < i→∀ c,ps[j]? = some c→∀ y,(y,c.1)∈es→∃ k,(y,k)∈ps∧k≤c.2 + 1
  g : (goal,0)∈ps
structure Qm (es : List (Nat × Nat)) (goal i : Nat) (c : Nat × Nat) (l ps : List (Nat × Nat)) : Prop where
  q : Qu es goal i ps
  at_ : ps[i]? = some c
  dn : ∀ y,(y,c.1)∈l→∃ k,(y,k)∈ps∧k≤c.2 + 1
theorem Qu.start : Qu es goal 0 [(goal,0)] :=
  ⟨by simp,by simp,fun p hp=>by
    have : p = (goal,0):=by simpa using hp
    subst this;exact rfl,fun c hc p hp=>by
    have : p = (goal,0):=by simpa using hp
    subst this;exact Nat.zero_le _,fun j hj=>absurd hj (Nat.not_lt_zero j),by simp⟩
theorem Qu.mid {i : Nat} {c : Nat × Nat} {ps : List (Nat × Nat)} (h : Qu es goal i ps) (e : ps[i]? = some c) : Qm es goal i c [] ps:=⟨h,e,fun y hy=>by cases hy⟩
theorem Qm.skip {i y z : Nat} {c : Nat × Nat} {l ps : List (Nat × Nat)} (h : Qm es goal i c l ps) (hz : z = c.1 → ∃ k, (y, k) ∈ ps) : Qm es goal i c (l ++ [(y, z)]) ps :=
  ⟨h.q,h.at_,fun y' hy=>by
    rcases List.mem_append.mp hy with hy | hy
    · exact h.dn y' hy
    · have hy : y' = y∧c.1 = z:=by simpa using hy
      obtain ⟨k,hk⟩:=hz hy.2.symm
      rw [hy.1]
      exact ⟨k,hk,h.q.up c h.at_ _ hk⟩⟩
theorem Qm.add {i y : Nat} {c : Nat × Nat} {l ps : List (Nat × Nat)} (h : Qm es goal i c l ps) (he : (y, c.1) ∈ es) (hn : ∀ k, (y, k) ∉ ps) : Qm es goal i c (l ++ [(y, c.1)]) (ps ++ [(y, c.2 + 1)]) := by
  have hc : c∈ps:=List.mem_of_getElem? h.at_
  have hi:=(List.getElem?_eq_some_iff.mp h.at_).1
  have old : ∀ j,j < ps.length→(ps++[(y,c.2 + 1)])[j]? = ps[j]?:=fun j hj=>List.getElem?_append_left hj
  refine ⟨⟨?_,?_,?_,?_,?_,List.mem_append_left _ h.q.g⟩,?_,?_⟩
  · rw [List.map_append,List.nodup_append]
    refine ⟨h.q.nd,by simp,fun a ha b hb=>?_⟩
    have hb : b = y:=by simpa using hb
    obtain ⟨p,hp,e⟩:=List.mem_map.mp ha
    intro q
    subst q
    subst hb
    subst e
    exact hn p.2 hp
  · rw [List.pairwise_append]
    refine ⟨h.q.so,by simp,fun a ha b hb=>?_⟩
    have hb : b = (y,c.2 + 1):=by simpa using hb
    subst hb
    exact h.q.up c h.at_ a ha
  · intro p hp
    rcases List.mem_append.mp hp with hp | hp
    · exact h.q.wk p hp
    · have hp : p = (y,c.2 + 1):=by simpa using hp
      subst hp
      exact ⟨c.1,h.q.wk c hc,mem_swp.mpr he⟩
  · intro c' hc' p hp
    rw [old i hi,h.at_] at hc'
    cases hc'
    rcases List.mem_append.mp hp with hp | hp
    · exact h.q.up c h.at_ p hp
    · have hp : p = (y,c.2 + 1):=by simpa using hp
      subst hp
      exact Nat.le_refl _
  · intro j hj c' hc' y' hy'
    rw [old j (by omega)] at hc'
    obtain ⟨k,h1,h2⟩:=h.q.dn j hj c' hc' y' hy'
    exact ⟨k,List.mem_append_left _ h1,h2⟩
  · rw [old i hi];exact h.at_
  · intro y' hy
    rcases List.mem_append.mp hy with hy | hy
    · obtain ⟨k,h1,h2⟩:=h.dn y' hy
      exact ⟨k,List.mem_append_left _ h1,h2⟩
    · have hy : y' = y:=by simpa using hy
      rw [hy]
      exact ⟨c.2 + 1,by simp,Nat.le_refl _⟩
theorem Qm.next {i : Nat} {c : Nat × Nat} {ps : List (Nat × Nat)} (h : Qm es goal i c es ps) : Qu es goal (i + 1) ps := by
  refine ⟨h.q.nd,h.q.so,h.q.wk,fun c' hc' p hp=>?_,fun j hj c' hc' y hy=>?_,h.q.g⟩
  · have h1:=h.q.up c h.at_ p hp
    obtain ⟨i1,e1⟩:=List.getElem?_eq_some_iff.mp h.at_
    obtain ⟨i2,e2⟩:=List.getElem?_eq_some_iff.mp hc'
    have:=List.pairwise_iff_getElem.mp h.q.so i (i + 1) i1 i2 (by omega)
    rw [e1,e2] at this
    omega
  · by_cases hji : j = i
    · subst hji
      rw [h.at_] at hc'
      cases hc'
      exact h.dn y hy
    · exact h.q.dn j (by omega) c' hc' y hy
theorem Qu.fst {i : Nat} {ps : List (Nat × Nat)} (h : Qu es goal i ps) {x a b : Nat} (ha : (x,a)∈ps) (hb : (x,b)∈ps) : a = b:=by
  obtain ⟨j,hj⟩:=List.getElem?_of_mem ha
  obtain ⟨m,hm⟩:=List.getElem?_of_mem hb
  have hjl:=(List.getElem?_eq_some_iff.mp hj).1
  have e1 : (ps.map (·.1))[j]? = some x:=by rw [List.getElem?_map,hj];rfl
  have e2 : (ps.map (·.1))[m]? = some x:=by rw [List.getElem?_map,hm];rfl
  have:=(List.getElem?_inj (i:=j) (j:=m) (by rw [List.length_map];exact hjl) h.nd).mp (e1.trans e2.symm)
  subst this
  rw [hj] at hm
  cases hm
  rfl
theorem Qu.done {i : Nat} {ps : List (Nat × Nat)} (h : Qu es goal i ps) (hi : ps.length ≤ i) (x k : Nat) : (x, k) ∈ ps ↔ To es goal k x := by
  have key : ∀ m x,Walk (Arr (swp es)) m goal x→∃ k,(x,k)∈ps∧k≤m:=by
    intro m
    induction m with
    | zero =>
      intro x w
      have w : goal = x:=w
      subst w
      exact ⟨0,h.g,Nat.le_refl _⟩
    | succ m ih =>
      intro x ⟨z,w,r⟩
      obtain ⟨k,hk,hkm⟩:=ih z w
      obtain ⟨j,hj⟩:=List.getElem?_of_mem hk
      have hjl:=(List.getElem?_eq_some_iff.mp hj).1
      obtain ⟨k',h1,h2⟩:=h.dn j (by omega) _ hj x (mem_swp.mp r)
      exact ⟨k',h1,by have h2 : k'≤k + 1:=h2;omega⟩
  constructor
  · intro hx
    refine ⟨h.wk _ hx,fun m hm w=>?_⟩
    obtain ⟨k',h1,h2⟩:=key m x w
    have:=h.fst h1 hx
    omega
  · intro t
    obtain ⟨k',h1,h2⟩:=key k x t.1
    have : k' = k:=by
      refine Classical.byContradiction fun q=>?_
      exact t.2 k' (by omega) (h.wk _ h1)
    rw [← this];exact h1
theorem Qu.inn {i n : Nat} {ps : List (Nat × Nat)} (h : Qu es goal i ps) (val : ∀ e∈es,e.1 < n∧e.2 < n) (hg : goal < n) : ∀ p∈ps,p.1 < n:=fun p hp =>
  Rch.closed (R:=Arr (swp es)) (x:=goal) (S:=fun y=>y < n) hg (fun y z _ r=>(val _ (mem_swp.mp r)).1) ⟨p.2,h.wk p hp⟩
theorem Qu.len {i n : Nat} {ps : List (Nat × Nat)} (h : Qu es goal i ps) (val : ∀ e∈es,e.1 < n∧e.2 < n) (hg : goal < n) : ps.length≤n:=by
  have:=nodup_le (n:=n) h.nd fun x hx=>by
    obtain ⟨p,hp,rfl⟩:=List.mem_map.mp hx
    exact h.inn val hg p hp
  rwa [List.length_map] at this
def wyOf (es : List (Nat × Nat)) (e : Nat × Nat) : List Nat:=Classical.epsilon fun ws=>∃ k,To es e.1 k e.2∧Wy es e.1 k e.2 ws
theorem wyOf_eq {k : Nat} {e : Nat × Nat} {ws : List Nat} (t : To es e.1 k e.2) (w : Wy es e.1 k e.2 ws) : wyOf es e = ws:=by
  obtain ⟨k2,t2,w2⟩:=Classical.epsilon_spec (p:=fun ws=>∃ k,To es e.1 k e.2∧Wy es e.1 k e.2 ws) ⟨ws,k,t,w⟩
  have ek:=Dst.uniq t2 t
  subst ek
  exact w2.uniq w
abbrev Row:=(Nat × Nat) × List Nat
open Classical in
def stepP (st : List (Nat × Nat) × List Row) (e : Nat × Nat) : List (Nat × Nat) × List Row:=if RingAt st.1 e then (st.1,st.2++[(e,e.1::(wyOf st.1 e).dropLast)]) else (st.1++[e],st.2)
def putP (es l : List (Nat × Nat)) : List (Nat × Nat) × List Row:=l.foldl stepP (es,[])
theorem putP_nil : putP es [] = (es,[]):=rfl
theorem putP_snoc (l : List (Nat × Nat)) (e : Nat × Nat) : putP es (l++[e]) = stepP (putP es l) e:=by unfold putP;rw [List.foldl_append];rfl
theorem stepP_ring {st : List (Nat × Nat) × List Row} {e : Nat × Nat} {k : Nat} {ws : List Nat} (t : To st.1 e.1 k e.2) (w : Wy st.1 e.1 k e.2 ws) : stepP st e = (st.1,st.2++[(e,e.1::ws.dropLast)]):=by
  unfold stepP;rw [if_pos ⟨k,t⟩,wyOf_eq t w]
theorem stepP_none {st : List (Nat × Nat) × List Row} {e : Nat × Nat} (n : ∀ k,¬ To st.1 e.1 k e.2) : stepP st e = (st.1++[e],st.2):=by
  unfold stepP;rw [if_neg fun ⟨k,t⟩=>n k t]
theorem stepP_cases (st : List (Nat × Nat) × List Row) (e : Nat × Nat) : (∃ k ws,To st.1 e.1 k e.2∧Wy st.1 e.1 k e.2 ws∧stepP st e = (st.1,st.2++[(e,e.1::ws.dropLast)]))∨(¬ RingAt st.1 e∧stepP st e = (st.1++[e],st.2)):=by
  by_cases h : RingAt st.1 e
  · obtain ⟨k,t⟩:=h
    obtain ⟨ws,w⟩:=t.wy
    exact Or.inl ⟨k,ws,t,w,stepP_ring t w⟩
  · exact Or.inr ⟨h,stepP_none fun k t=>h ⟨k,t⟩⟩
theorem snoc_ind {α : Type} {P : List α→Prop} (h0 : P []) (hs : ∀ l x,P l→P (l++[x])) (l : List α) : P l:=by
  rw [← List.reverse_reverse l]
  induction l.reverse with
  | nil=>exact h0
  | cons x r ih=>rw [List.reverse_cons];exact hs _ _ ih
theorem put_app (l : List (Nat × Nat)) : ∃ l',(putP es l).1 = es++l'∧l'.Sublist l:=by
  refine snoc_ind (P:=fun l=>∃ l',(putP es l).1 = es++l'∧l'.Sublist l) ⟨[],by simp [putP_nil],List.Sublist.slnil⟩ (fun l e ⟨l',h1,h2⟩=>?_) l
  rw [putP_snoc]
  rcases stepP_cases (putP es l) e with ⟨k,ws,_,_,q⟩ | ⟨_,q⟩
  · rw [q];exact ⟨l',h1,h2.trans (List.sublist_append_left _ _)⟩
  · rw [q];exact ⟨l'++[e],by rw [h1,List.append_assoc],h2.append (List.Sublist.refl _)⟩
theorem put_mem (l : List (Nat × Nat)) : ∀ e∈(putP es l).1,e∈es∨e∈l:=fun e he=>by
  obtain ⟨l',h1,h2⟩:=put_app (es:=es) l
  rw [h1] at he
  rcases List.mem_append.mp he with he | he
  · exact Or.inl he
  · exact Or.inr (h2.subset he)
theorem put_nodup {l : List (Nat × Nat)} (h : (es++l).Nodup) : (putP es l).1.Nodup:=by
  obtain ⟨l',h1,h2⟩:=put_app (es:=es) l
  rw [h1]
  exact h.sublist ((List.Sublist.refl es).append h2)
theorem put_len (l : List (Nat × Nat)) : (putP es l).1.length≤es.length + l.length:=by
  obtain ⟨l',h1,h2⟩:=put_app (es:=es) l
  rw [h1,List.length_append]
  have:=h2.length_le
  omega
theorem put_rows {n : Nat} (l : List (Nat × Nat)) (val : ∀ e ∈ es, e.1 < n ∧ e.2 < n) (vl : ∀ e ∈ l, e.1 < n ∧ e.2 < n) : (putP es l).2.length ≤ l.length ∧ ∀ r ∈ (putP es l).2, (r.1 ∈ l) ∧ r.2.length ≤ n ∧ ∀ x ∈ r.2, x < n := by
  revert vl
  refine snoc_ind (P:=fun l=>(∀ e∈l,e.1 < n∧e.2 < n)→(putP es l).2.length≤l.length∧∀ r∈(putP es l).2,(r.1∈l)∧r.2.length≤n∧∀ x∈r.2,x < n) (fun _=>⟨Nat.le_refl _,fun r hr=>by cases hr⟩) (fun l e ih vl=>?_) l
  obtain ⟨h1,h2⟩:=ih fun x hx=>vl x (List.mem_append_left _ hx)
  have ve:=vl e (by simp)
  have val' : ∀ e∈(putP es l).1,e.1 < n∧e.2 < n:=fun x hx=>by
    rcases put_mem l x hx with hx | hx
    · exact val x hx
    · exact vl x (List.mem_append_left _ hx)
  rw [putP_snoc]
  rcases stepP_cases (putP es l) e with ⟨k,ws,t,w,q⟩ | ⟨_,q⟩
  · rw [q]
    refine ⟨by simp;omega,fun r hr=>?_⟩
    rcases List.mem_append.mp hr with hr | hr
    · obtain ⟨a,b⟩:=h2 r hr
      exact ⟨List.mem_append_left _ a,b⟩
    · have hr : r = (e,e.1::ws.dropLast):=by simpa using hr
      subst hr
      have wl:=w.len
      have kl:=To.lt val' ve.1 t
      refine ⟨by simp,?_,fun x hx=>?_⟩
      · show (e.1::ws.dropLast).length≤n
        rw [List.length_cons,List.length_dropLast];omega
      · rcases List.mem_cons.mp hx with rfl | hx
        · exact ve.1
        · exact Wy.inn val' ve.1 w x (List.dropLast_subset _ hx)
  · rw [q]
    refine ⟨by simp;omega,fun r hr=>?_⟩
    obtain ⟨a,b⟩:=h2 r hr
    exact ⟨List.mem_append_left _ a,b⟩
end MG
namespace MG
variable {es : List (Nat × Nat)} {n : Nat} {ks ls : List Nat}
end MG
namespace L2
open PySem PySem.Spec PyProof.Rows
def inCls (s : Stmt) (i : Nat) : Stmt:=match s with
  | .ClassDef _ _ _ b _ _ _ _ _ _ _=>b.getD i (.Pass ⟨0,0,0,0⟩)
  | s=>s
section
variable {P : Program} {w : World} {K : PySem.W.Frag} {mg : Str→Option Value} {base : Heap}
variable {x : Str} {C N fI : Addr} {bm bs : List Value} {nm q : Str} {hdct : Bool} {sn : List Str} {sub : List Value} {ab : Bool} {col : Option Bool} {dd : Option Addr} {k0 k1 k2 k3 k5 : Option Value} {h : Heap}
theorem ownI_mk {od : Option Addr} {dt : Data} {sl : Array (Option Value)} (X : K.In h) (bound : mg x = some (.ref C)) (lk : K.lookup C = some (excClassObj nm q C N bs bm hdct sn sub ab col dd k0 k1 k2 k3 k5 "ValueError.__new__")) (ok : PySem.W.nsOkIn K N = true)
    (ni : PySem.W.nsIn K N "__init__" = some (some (.ref fI))) (tl : PySem.W.tailIn K bmV bm = true) (lf : K.lookup fI = some ⟨.type "function",od,dt,sl⟩) : OwnI x C fI mg h :=
  ⟨bound,bm,N,nm,q,bs,hdct,sn,sub,ab,col,dd,k0,k1,k2,k3,k5,_,_,X _ _ lk,.of_isNs (PySem.W.isNs_of_in X ok),ns_some X (.of_isNs (PySem.W.isNs_of_in X ok)) ni,PySem.W.tail_of_in X tl,X _ _ lf,rfl⟩
structure MkI (P : Program) (w : World) (K : PySem.W.Frag) (mg : Str→Option Value) (base : Heap) (k : Nat) (x : Str) (C : Addr) (ps : List Str) (sp : Sp) : Prop where
  ex : ∃ (fI : Addr) (fd : FuncData),OwnI x C fI mg base∧PySem.W.keepIn K (.ref C) = true∧FnOk P w K mg base CX0 k fI fd ps sp∧Binds K fd ps []
theorem ps_raiseM {NN : List Str} {qual : Str} {scope : Scope} {f : Addr} {cd : Value} {A : Around} {outer : List Env} {s : Shared} {H : Hp} {E : XK} {ps : List Str} {sp : Sp} {k : Nat} {np cpos pos : Pos} {e₀ : Expr} {rest : List Expr} {ta : TA}
    (m : MkI P w K mg base k x C ps sp) (hr : Room (k + 1) (cxOf (CX1 P w) P w K mg base NN qual scope f cd A outer s H E).A)
    (hg : Gl (cxOf (CX1 P w) P w K mg base NN qual scope f cd A outer s H E) x) (ha : PA (cxOf (CX1 P w) P w K mg base NN qual scope f cd A outer s H E) (e₀::rest) ta)
    (he : starEach (e₀::rest) (cxOf (CX1 P w) P w K mg base NN qual scope f cd A outer s H E).env = (false,eval e₀ (cxOf (CX1 P w) P w K mg base NN qual scope f cd A outer s H E).env)::starEach rest (cxOf (CX1 P w) P w K mg base NN qual scope f cd A outer s H E).env:=by rfl)
    (hpl : (backTo cpos (starEach rest (cxOf (CX1 P w) P w K mg base NN qual scope f cd A outer s H E).env)).any (·.1) = false:=by rfl) (hdb : (x == ("__debug__" : Str)) = false:=by decide) :
    PS (cxOf (CX1 P w) P w K mg base NN qual scope f cd A outer s H E) (.Raise (some (.Call (.Name x np) (e₀::rest) [] cpos)) none pos) (tRaiseI E C sp ta):=by
  obtain ⟨fI,fd,O,kp,F,b⟩:=m.ex
  exact ps_raiseI O kp F b hr hg ha he hpl hdb
def spInitL (K : PySem.W.Frag) (fl : Str) : Sp:=fun vs H Q _=>∃ (e C l : Addr) (xs : List V),vs = [.ref e,.ref l]∧H e = some (xNew e C none)∧H l = some (.lst xs)∧XSet K C fl ∧
  ∀ r d,H r = none→H d = none→r≠d→Q .non (upd (upd (upd H r (.lst xs)) d (.xd [(fl,.ref r)])) e (xNew e C (some d)))
theorem initL_raise {E : XK} {C l e : Addr} {fl : Str} {xs : List V} {H1 : Hp} (hl : H1 l = some (.lst xs)) (Z : XSet K C fl) (he : H1 e = none) (k : ∀ r d H',Same H1 H'→H1 r = none→H1 d = none→H' r = some (.lst xs)→H' d = some (.xd [(fl,.ref r)])→E (.ref C) (some d) H') :
    spInitL K fl [.ref e,.ref l] (upd H1 e (xNew e C none)) (fun v H2=>v = .non∧∃ dd,H2 e = some (xNew e C dd)∧E (.ref C) dd (del H2 e)) E0:=by
  have hle : l≠e:=ne_of_none hl he
  refine ⟨e,C,l,xs,rfl,upd_same,by rw [upd_ne hle];exact hl,Z,fun r d hr hd hrd=>⟨rfl,some d,upd_same,?_⟩⟩
  have hre : r≠e:=fun z=>by rw [z,upd_same] at hr;cases hr
  have hde : d≠e:=fun z=>by rw [z,upd_same] at hd;cases hd
  rw [upd_ne hre] at hr
  rw [upd_ne hde] at hd
  refine k r d _ (fun b o hb=>?_) hr hd ?_ ?_
  · have n1 : b≠e:=ne_of_none hb he
    rw [del_ne n1,upd_ne n1,upd_ne (ne_of_none hb hd),upd_ne (ne_of_none hb hr),upd_ne n1];exact hb
  · rw [del_ne hre,upd_ne hre,upd_ne hrd,upd_same]
  · rw [del_ne hde,upd_ne hde,upd_same]
end
end L2
namespace L2
open PySem PySem.Spec PyProof.Rows
def Cx.catch (X : Cx) (pins : List (Addr × Obj)) (σ : St) (E : XK) : Cx:={ X with pn:=X.pn++pins,xe:=fun ev s'=>∃ H1 s1,Inv X pins σ H1 s1∧CX1 X.prog X.w X.stack H1 s1 E ev s' }
section
variable {X : Cx} {pins pins' : List (Addr × Obj)} {σ σ0 : St} {H : Hp} {s : Shared} {E : XK}
theorem Cx.Ok.catch (ok : X.Ok) : (X.catch pins σ0 E).Ok :=
  ⟨ok.mod,ok.kind,ok.glob,ok.blt,ok.above,ok.inj,ok.has,ok.cab,ok.hd,ok.frames,ok.stk,ok.exf,ok.bs,ok.bsz,ok.noex,ok.exfs,ok.funs,ok.frf⟩
theorem Inv.catch (I : Inv X pins σ H s) : Inv (X.catch pins σ0 E) [] σ H s :=
  ⟨I.ok.catch,I.os,I.bare,I.base,I.loc,I.cell,I.free,I.freeC,fun p hp=>I.pin p (by rw [List.append_nil] at hp;exact hp),I.hok,I.len⟩
theorem Inv.ofCatch (ok : X.Ok) (I : Inv (X.catch pins σ0 E) pins' σ H s) : Inv X pins σ H s :=
  ⟨ok,I.os,I.bare,I.base,I.loc,I.cell,I.free,I.freeC,fun p hp=>I.pin p (List.mem_append_left _ hp),I.hok,I.len⟩
theorem Inv.okC (I : Inv (X.catch pins σ0 E) pins' σ H s) : X.Ok :=
  ⟨I.ok.mod,I.ok.kind,I.ok.glob,I.ok.blt,I.ok.above,I.ok.inj,I.ok.has,I.ok.cab,I.ok.hd,I.ok.frames,I.ok.stk,I.ok.exf,I.ok.bs,I.ok.bsz,I.ok.noex,I.ok.exfs,I.ok.funs,I.ok.frf⟩
def tCallT (σ0 : St) (sp : Sp) (E : XK) (t : TA) : TE:=fun σ H Q=>t σ H fun vs H1=>σ = σ0∧sp vs H1 Q E
theorem pe_calT {x : Str} {ps : List Str} {sp : Sp} {k : Nat} {p pos : Pos} {e : Expr} {es : List Expr} {t : TA} (c : CalX X.prog X.w X.K X.mg X.base k x ps sp) (hr : Room k X.A) (hg : Gl X x) (ha : PA (X.catch pins σ0 E) (e::es) t)
    (he : starEach (e::es) X.env = (false,eval e X.env)::starEach es X.env:=by rfl) (hpl : (backTo pos (starEach es X.env)).any (·.1) = false:=by rfl) (hdb : (x == ("__debug__" : Str)) = false:=by decide) :
    PE (X.catch pins σ0 E) (.Call (.Name x p) (e::es) [] pos) (tCallT σ0 sp E t):=by
  intro pins' s σ H Q I h
  obtain ⟨f,fd,F,mf,kp,b⟩:=c.ex
  refine wpAny_Call_Name_kw (ld_glob (X:=X.catch pins σ0 E) I hg mf ?_ hdb)
  refine PySem.W.callWith_K (h₀:=X.base) I.ok.mod.kin kp (thn (ha pos pins' s σ H _ I h) fun us s1 ⟨vs,H1,I1,r,hσ,q⟩=>⟨I1.kIn,?_⟩) he hpl
  subst hσ
  have hl : (us++[]).length = ps.length:=by rw [List.append_nil,← r.length];exact F.len _ _ _ _ q
  refine wpAny_call (codeAny_mono (F.run X.A X.stack s1 H1 ⟨us,[]⟩ (us++[]) vs Q E hr I1.env0 (b s1 us I1.kIn hl) (by rw [List.append_nil];exact r) q) fun r s' hq=>?_)
  cases r with
  | error ev=>exact ⟨H1,s1,I1.ofCatch I.okC,hq⟩
  | ok fl =>
    cases fl with
    | ret u=>exact I1.after hq
    | next=>exact False.elim hq
    | brk=>exact False.elim hq
    | cont=>exact False.elim hq
def xHand (base : Heap) (Dc : Addr) (i : Nat) (th : TS) (D : Ends) (σ : St) : XK:=fun cls dd H2=>∃ C bm,cls = .ref C∧XAt base C bm∧(Value.ref C::bm).contains (.ref Dc) = true∧∀ a,H2 a = none →
    th { nx:=fun σ' H'=>D.nx (σ'.set i none) H',rt:=D.rt,bk:=fun σ' H'=>D.bk (σ'.set i none) H',ct:=fun σ' H'=>D.ct (σ'.set i none) H' } (σ.set i (some (.ref a))) (upd H2 a (xObj a C dd))
def tTryG (base : Heap) (tb : St→XK→TS) (Dc : Addr) (i : Nat) (th : TS) : TS:=fun D σ H=>tb σ (xHand base Dc i th D σ) D σ H
theorem ps_tryG {Dc : Addr} {bmD : List Value} {Dn n : Str} {i : Nat} {q hpos tpos : Pos} {body : List Stmt} {tb : St → XK → TS} {b₀ : Stmt} {suite : List Stmt} {th : TS}
    (hb : ∀ pins σ E,PSs (X.catch pins σ E) body (tb σ E)) (hst : X.stack = X.env::X.outer) (hfr : X.env.frame = some X.env.locals) (hgD : Gl X Dn) (hmD : X.mg Dn = some (.ref Dc)) (hD : XAt X.base Dc bmD) (hDb : bmD.contains (.type "BaseException") = true)
    (hN : X.N.Nodup) (hi : X.N[i]? = some n) (hl : X.env.scope.names.lookup n = some .local) (hs : ∀ a xe,PSs (X.mark (.ref a) xe) (b₀::suite) th) (hdD : (Dn == ("__debug__" : Str)) = false:=by decide) :
    PS X (.Try body [.ExceptHandler (some (.Name Dn q)) (some n) (b₀::suite) hpos] [] [] tpos) (tTryG X.base tb Dc i th):=by
  intro pins s σ H D I h
  refine wpAny_Try_except (wpAny_mono (hb pins σ _ [] s σ H D I.catch h) (fun fl s' hq=>?_) fun ev s' hq=>?_)
  · have ok:=I.ok
    cases fl with
    | next =>
      obtain ⟨σ',H',I',q'⟩:=hq
      exact wpAny_execs_nil ⟨σ',H',I'.ofCatch ok,q'⟩
    | brk =>
      obtain ⟨σ',H',I',q'⟩:=hq
      exact ⟨σ',H',I'.ofCatch ok,q'⟩
    | cont =>
      obtain ⟨σ',H',I',q'⟩:=hq
      exact ⟨σ',H',I'.ofCatch ok,q'⟩
    | ret u =>
      obtain ⟨v,σ',H',I',r',q'⟩:=hq
      exact ⟨v,σ',H',I'.ofCatch ok,r',q'⟩
  · obtain ⟨H1, s1, I1, a, cls, dq, B, H', rfl, os, bare, un, hok, fl, hna, TB, KB, AB, C, bm, rfl, hC, hin, hq2⟩ := hq
    have fl' : XF B (X.env::X.outer) a (.ref C) dq .none s'.heap:=hst ▸ fl
    have ne1 : s1.heap.get? a = none := by
      cases z : s1.heap.get? a with
      | none=>rfl
      | some ob =>
        by_cases hb : a∈frs X.stack
        · obtain ⟨_,o1,g1,g2⟩:=fl.2.2.1.mem hb
          obtain ⟨oe,vs',he',hd'⟩:=fl.rec
          rw [g1] at he';cases he'
          exact absurd hd' (g2 vs')
        · obtain ⟨o',e'⟩:=AB a ob z hb
          have:=fl.2.1
          rw [e'] at this;cases this
    have hfrm : X.A.frames = some (X.env::X.outer):=hst ▸ I.ok.frames
    refine noteX hfrm hfr fl' fun h4 f4 sm4=>?_
    refine landX (s:={ s' with heap:=h4 }) f4 fun h5 f5 sm5=>?_
    have I5 : Inv X pins σ H' { s' with heap:=h5 }:=inv_fly I1 hst hfr os bare un hok (hst ▸ f5) (sm4.trans sm5) TB KB AB
    refine wpAny_handleBy_cons (codeAny_handlers_test (ld_glob (X:=X.mark (.ref a) (fun _ _=>False)) I5.mark hgD hmD ?_ hdD)) (by intro z;cases z)
    obtain ⟨oe,ge,gc,_⟩:=f5.there
    obtain ⟨nm,qq,NN,bs,hdct,sn,sub,ab,col,dd,k0,k1,k2,k3,k5,newId,gC⟩:=hC
    obtain ⟨nm',qq',NN',bs',hdct',sn',sub',ab',col',dd',j0,j1,j2,j3,j5,newId',gD⟩:=hD
    refine matches_own (I5.bk _ _ gC) ge gc (I5.bk _ _ gD) hDb hin (codeAny_handlers_suite_as (landX (s:={ s' with heap:=h5 }) f5 fun h6 f6 sm6=>?_))
    have I6 : Inv X pins σ H' { s' with heap:=h6 }:=inv_fly I1 hst hfr os bare un hok (hst ▸ f6) ((sm4.trans sm5).trans sm6) TB KB AB
    obtain ⟨o6,g6,c6,d6⟩:=f6.there
    have n6 : PySem.W.notCls o6 = true:=by
      obtain ⟨o7,vs7,g7,k7⟩:=f6.rec
      have z7:=Option.some.inj (g7.symm.trans g6)
      rw [← z7]
      unfold PySem.W.notCls
      rw [k7]
    have I7 : Inv X pins σ (upd H' a (xObj a C dq)) { s' with heap:=h6 }:=Inv.track I1 I6 ne1 hna ⟨⟨o6,g6,c6,d6,n6⟩,⟨o6,g6⟩,fun h1 h2 ⟨o,e1,e2⟩ z=>⟨o,z o e1,e2⟩⟩
    refine store_ok (v:=.ref a) I7 hN hi (.inl hl) rfl (fun s8 I8=>?_) (.inr hl)
    refine wpAny_mono (hs a _ pins s8 _ _ _ I8.mark (hq2 a hna)) (fun fl s9 h9=>?_) fun ev s9 h9=>h9
    cases fl with
    | next =>
      obtain ⟨σ',H9,I9,q9⟩:=h9
      exact unname (I9.unmark I.ok) hN hi hl fun s' I'=>⟨_,_,I',q9⟩
    | brk =>
      obtain ⟨σ',H9,I9,q9⟩:=h9
      exact unname (I9.unmark I.ok) hN hi hl fun s' I'=>⟨_,_,I',q9⟩
    | cont =>
      obtain ⟨σ',H9,I9,q9⟩:=h9
      exact unname (I9.unmark I.ok) hN hi hl fun s' I'=>⟨_,_,I',q9⟩
    | ret u =>
      obtain ⟨v,σ',H9,I9,r9,q9⟩:=h9
      exact unname (I9.unmark I.ok) hN hi hl fun s' I'=>⟨v,_,_,I',r9,q9⟩
end
end L2
namespace L2
open PySem PySem.Calls PyProof.Rows
section
variable {X : Cx}
def tFsI (a : Str) (te : TE) (b : Str) : TE:=fun σ H Q=>te σ H fun x H1=>∃ i : Int,x = .int i∧i.natAbs.log2 < 1920∧a.length≤sizeLine∧(a++(toString i : Str)).length≤sizeLine∧(a++(toString i : Str)++b).length≤sizeLine∧∀ z : Str,Q (.str z) H1
theorem empty_app (a : Str) : Str.empty++a = a:=by
  cases a with
  | mk d=>exact congrArg Str.mk (Array.empty_append ..)
theorem pe_fsI {e : Expr} {te : TE} {a b : Str} {j1 j2} {p1 p2 p3 pos : Pos} (he : PE X e te) (ha : a.length≤sizeLine:=by decide) : PE X (.JoinedStr [.Constant (.str a) j1 p1,.FormattedValue e (-1) none p2,.Constant (.str b) j2 p3] pos) (tFsI a te b):=by
  intro pins s σ H Q I h
  refine JoinedStr_many (joinParts_cons (Calls.Constant_str ⟨(by rw [empty_app];exact ha),?_⟩))
  rw [empty_app]
  refine joinParts_cons (FormattedValue_plain (wpAny_mono (he pins _ σ H _ (I.tok _) h) (fun v s1 hq=>?_) fun _ _ x=>x))
  obtain ⟨x,H1,I1,r,i,rfl,hl,h1,h2,h3,q⟩:=hq
  obtain ⟨t,rfl⟩:=r
  refine formatField_int_small hl ⟨h2,?_⟩
  exact joinParts_cons (Calls.Constant_str ⟨h3,joinParts_nil ⟨.str _,H1,(((I1.tok _).tok _).tok _).tok _,⟨_,rfl⟩,q _⟩ h3⟩)
end
end L2
namespace L2
open PySem PySem.Spec PyProof.Rows
def iSeq (K : PySem.W.Frag) (tl : TE) : TI:=fun σ H R=>tl σ H fun x H1=>∃ a,x = .ref a∧((∃ xs,SqL K H1 a xs)∧R (Itl K a) H1∨(∃ xs,SqT K H1 a xs)∧R (Itt K a) H1)
theorem pi_seqK (K : PySem.W.Frag) {X : Cx} {tg l : Expr} {tl : TE} (hl : PE X l tl) (hK : X.K = K:=by rfl) : PI X tg l (iSeq K tl):=by
  subst hK
  intro pins s σ H R I h
  refine thn (hl pins s σ H _ I h) fun v s1 ⟨x,H1,I1,r1,q1⟩=>?_
  obtain ⟨a,e,q⟩:=q1
  subst e
  cases r1
  have fp : ∀ b∈[s1.heap.objs.size],FpOk X pins H1 b:=fun b hb=>by
    have e : b = s1.heap.objs.size:=by simpa using hb
    subst e
    exact I1.fpOk (Nat.le_refl _) (I1.hok.fresh (Nat.le_refl _))
  rcases q with ⟨⟨xs,hq⟩,q⟩ | ⟨⟨xs,hq⟩,q⟩
  · obtain ⟨its,rv,p,hz⟩:=I1.list hq
    exact wpAny_pyIter_list p.isList ⟨s1.heap.objs.size,[s1.heap.objs.size],_,_,H1,rfl,I1.kept (t':=s1.toks) fun b o e=>Heap.get?_push_of_some _ e,turn_list a _,⟨_,Heap.get?_push_size _ rfl,rfl,rfl⟩,fp,q⟩
  · obtain ⟨its,rv,p,hz⟩:=I1.tuple hq
    exact wpAny_pyIter_tuple (show s1.heap.IsTuple a its.toArray from p) ⟨s1.heap.objs.size,[s1.heap.objs.size],_,_,H1,rfl,I1.kept (t':=s1.toks) fun b o e=>Heap.get?_push_of_some _ e,turn_tuple a _,⟨_,Heap.get?_push_size _ rfl,rfl,rfl⟩,fp,q⟩
theorem comp_seq {K : PySem.W.Frag} {k : Nat} {fr : List Nat} {g : TG} {tc : TT} {te : TE} {σ : St} {H1 : Hp} {Q : VK} {a : Addr} (xs : List V) (Pv : Addr → Nat → List V → St → Hp → Prop) (ha : SqA H1 a xs)
    (h : ∀ D,H1 D = none→Pv D 0 [] (inSt k fr σ) (upd H1 D (.lst []))∧(∀ i acc σ' H',i≤xs.length→Pv D i acc σ' H'→H' D = some (.lst acc)→H' a = H1 a) ∧
      (∀ i acc σ' H' x,xs[i]? = some x→Pv D i acc σ' H'→H' D = some (.lst acc)→g x σ' H' fun σ2 H3=>tc σ2 H3 fun b H4 =>
        if b = true then te σ2 H4 fun y H5=>H5 D = some (.lst acc)∧acc.length < sizeLine∧Pv D (i + 1) (acc++[y]) σ2 (upd H5 D (.lst (acc++[y]))) else H4 D = some (.lst acc)∧Pv D (i + 1) acc σ2 H4) ∧
      ∀ acc σ' H',Pv D xs.length acc σ' H'→H' D = some (.lst acc)→Q (.ref D) H') : (∃ xs,SqL K H1 a xs)∧tCompW k fr g tc te (Itl K a) σ H1 Q∨(∃ xs,SqT K H1 a xs)∧tCompW k fr g tc te (Itt K a) σ H1 Q:=by
  rcases ha with ha | ha
  · exact .inl ⟨⟨xs,.of ha⟩,comp_list xs Pv fun D hD=>let ⟨h0,h1,h2,h3⟩:=h D hD;⟨h0,fun i acc σ' H' hi p q=>.of ((h1 i acc σ' H' hi p q).trans ha),h2,h3⟩⟩
  · exact .inr ⟨⟨xs,.of ha⟩,comp_tup xs Pv fun D hD=>let ⟨h0,h1,h2,h3⟩:=h D hD;⟨h0,fun i acc σ' H' hi p q=>.of ((h1 i acc σ' H' hi p q).trans ha),h2,h3⟩⟩
end L2
open PySem
namespace PySem.SeqAt
end PySem.SeqAt
namespace HT
open PySem PySem.Spec PyProof.Rows
variable {prog : Program} {w : World} {A : Around} {E : Value→Shared→Prop} {s : Shared}
theorem pair_back {t sl : Addr} {a b : Value} {k : Tok} {Q : Value→Shared→Prop} (ht : IsTup s.heap t #[a,b]) (hs : s.heap.IsSliceOf sl .none .none (.int (-1) k))
    (h : Q (.ref s.heap.objs.size) { s with heap:=s.heap.push { cls:=.type "tuple",data:=.seq #[b,a] } }) : wpAny (model prog w) A (getItem (.ref t) (.ref sl)) Q E s:=by
  obtain ⟨os,hos,hcs,hds⟩:=id hs
  have tS : s.TypeIs (.ref sl) "slice":=⟨os,hos,hcs⟩
  have fits : sizeOk (.seq #[b,a]):=by show (2 : Nat)≤sizeLine;decide
  unfold getItem
  try with_reducible refine wpAny_holding ?_
  first | refine wpAny_bind (wpAny_pure ?_) | skip
  refine wpAny_bind (wpAny_sequenceKey ht.typeIs (by decide) (wpAny_bind (wpAny_callSpecial?_slot (name:=Str.ofString "__getitem__") ht.typeIs slot_tuple_getitem (wpAny_call_entry slot_tuple_getitem ht.typeIs entry_tuple_getitem ?_ (args_tuple_getitem _ _)))))
  show wpAny _ _ (Builtin.Tuple.tupleItemsOf (.ref t) >>= _) _ _ s
  refine wpAny_bind (tupleItemsOf_ ht (wpAny_bind (wpAny_typeOf tS ?_)))
  rw [if_pos (by decide)]
  refine wpAny_bind ?_
  unfold Builtin.Slice.sliceApplied Builtin.Slice.sliceFields
  refine wpAny_bind (wpAny_bind (wpAny_field hos hds (x:=.none) rfl (wpAny_bind (wpAny_field hos hds (x:=.none) rfl (wpAny_bind (wpAny_field hos hds (x:=.int (-1) k) rfl (wpAny_pure ?_)))))))
  refine wpAny_bind (slicePart_int ?_)
  show wpAny _ _ (if ((-1 : Int) == 0) = true then _ else _) _ _ s
  rw [if_neg (by decide)]
  refine wpAny_bind (slicePart_none (wpAny_bind (slicePart_none (wpAny_bind (wpAny_pure ?_)))))
  refine wpAny_pure ?_
  have lt : ((-1 : Int) < 0) = True:=by simp
  have hp : Builtin.Slice.slicePlaces (((#[a,b] : Array Value).size : Int) - 1) (-1) (-1) = 2:=by show Builtin.Slice.slicePlaces (2 - 1) (-1) (-1) = 2;decide
  simp only [Option.getD_some,lt,if_true]
  rw [hp]
  have e : (List.filterMap (fun k : Nat=>(#[a,b] : Array Value)[((1 : Int) + (k : Int) * (-1)).toNat]?) (List.range 2)).toArray = #[b,a]:=rfl
  show wpAny _ _ (if ((1 : Int) == 0 && (-1 : Int) == 1 && (2 : Nat) == 2) = true then _ else (do let x ← Builtin.Tuple.tupleExact (List.filterMap (fun k : Nat=>(#[a,b] : Array Value)[((1 : Int) + (k : Int) * (-1)).toNat]?) (List.range 2)).toArray;ret x)) _ _ s
  rw [if_neg (by decide),e]
  first
    | exact wpAny_bind (m:=Builtin.Tuple.tupleExact _) (wpAny_newObj_type (wpAny_pure ⟨_,rfl,wpAny_pure h⟩) fits)
    | exact wpAny_bind (m:=Builtin.Tuple.tupleExact _) (wpAny_newObj_type (wpAny_bind (wpAny_pure (wpAny_pure ⟨_,rfl,wpAny_pure h⟩))) fits)
    | exact wpAny_bind (wpAny_bind (m:=Builtin.Tuple.tupleExact _) (wpAny_newObj_type (wpAny_pure (wpAny_pure ⟨_,rfl,wpAny_pure h⟩)) fits))
    | exact wpAny_bind (wpAny_bind (m:=Builtin.Tuple.tupleExact _) (wpAny_newObj_type (wpAny_pure ⟨_,rfl,wpAny_pure h⟩) fits))
end HT
namespace L2
open PySem PySem.Spec PyProof.Rows
section
variable {X : Cx}
def rRevT (K : PySem.W.Frag) (te : TE) (ts : TO) : TE:=fun σ H Q=>te σ H fun x H1=>ts σ H1 fun i H2=>∃ a y z,i = some (-1)∧x = .ref a∧SqT K H2 a [y,z]∧∀ l,H2 l = none→Q (.ref l) (upd H2 l (.tup [z,y]))
theorem pe_revT (K : PySem.W.Frag) {e st : Expr} {te : TE} {ts : TO} {p3 pos : Pos} (he : PE X e te) (hst : PO X (some st) ts) (hK : X.K = K:=by rfl) : PE X (.Subscript e (.Slice none none (some st) p3) pos) (rRevT K te ts):=by
  subst hK
  intro pins s σ H Q I h
  refine Subscript_ (thn (he pins s σ H _ I h) fun v s1 ⟨x,H1,I1,r1,q1⟩=>wpAny_Slice ?_)
  rw [evalPart_none]
  refine wpAny_pure (wpAny_pure (thn (hst pins s1 σ H1 _ I1 q1) fun vs s2 ⟨i,H2,I2,pi,q2⟩=>?_))
  obtain ⟨a,y,z,rfl,rfl,hx,q⟩:=q2
  cases r1
  obtain ⟨k,rfl⟩ : ∃ k,vs = .int (-1) k:=by
    cases pi with
    | int i t=>exact ⟨_,rfl⟩
  have I4 : Inv X pins σ H2 { s2 with heap:=s2.heap.push { cls:=.type "slice",data:=.fields #[.none,.none,.int (-1) k] } }:=I2.kept (t':=s2.toks) fun b ob q=>Heap.get?_push_of_some _ q
  obtain ⟨its,r,ht,hz⟩:=I4.tuple hx
  obtain ⟨u1,u2,rfl,r1,r2⟩:=vals2 r
  show wpAny (model X.prog X.w) X.A (subscriptTail e (.Slice none none (some st) p3) (.ref a) (.ref s2.heap.objs.size)) (EP X pins σ Q) X.xe { s2 with heap:=s2.heap.push { cls:=.type "slice",data:=.fields #[.none,.none,.int (-1) k] } }
  refine tail_any (ops:=[.ref a,.ref s2.heap.objs.size]) ht.typeIs slot_tuple_getitem.lookup ?_ (by with_unfolding_all rfl)
  refine HT.pair_back ht (Heap.IsSliceOf.new ..) ?_
  refine ⟨.ref _,_,I4.laid (t':=s2.toks) (o:=.tup [z,y]) (fun b ob q=>Heap.get?_push_of_some _ q) (Nat.le_refl _) ?_,rfl,q _ (I4.hok.fresh (Nat.le_refl _))⟩
  exact ⟨by show (2 : Nat)≤sizeLine;decide,[u2,u1],.cons r2 (.cons r1 .nil),TupN.new _ _⟩
end
end L2
namespace MG
variable {α : Type}
end MG
namespace L2
open PySem
abbrev Kn:=List (Str × List Str)
section
variable {us : List Str} {ks : Kn}
abbrev tp (a : List Str) : List Str:=("" : Str)::a
end
end L2
namespace L2
open PySem
section
variable {H H' : Hp} {L p : Addr}
theorem ins_mem {α : Type} {l : List α} {k : Nat} {x y : α} (h : y∈l.take k++x::l.drop k) : y = x∨y∈l:=by
  rcases List.mem_append.mp h with q | q
  · exact .inr (List.mem_of_mem_take q)
  · rcases List.mem_cons.mp q with q | q
    · exact .inl q
    · exact .inr (List.mem_of_mem_drop q)
end
end L2
namespace L2
open PySem
theorem canLay_pairsN : ∀ {ps : List (Str × Str)},(∀ e∈ps,Nm e.1∧Nm e.2)→PyData.canLayAll0 (ps.map pairD) = true
  | [],_=>rfl
  | e::ps,h=>by
    have:=h e (by simp)
    show (PyData.canLay0 (pairD e) && PyData.canLayAll0 (ps.map pairD)) = true
    rw [canLay_pairsN fun x hx=>h x (List.mem_cons_of_mem _ hx)]
    show ((PyData.canLay0 (.str e.1) && (PyData.canLay0 (.str e.2) && true)) && true) = true
    rw [canLay_nm this.1,canLay_nm this.2];rfl
theorem canLay_pairN {e : Str × Str} (h : Nm e.1∧Nm e.2) : PyData.canLay0 (pairD e) = true:=by
  show (PyData.canLay0 (.str e.1) && (PyData.canLay0 (.str e.2) && true)) = true
  rw [canLay_nm h.1,canLay_nm h.2];rfl
theorem flat_strs (xs : List Str) : (List.map V.str xs).all flatV = true:=by
  rw [List.all_map,List.all_eq_true]
  intro x _;rfl
theorem in_strs (x : Str) (xs : List Str) : inV (V.str x) (List.map V.str xs) = decide (x∈xs):=by
  rw [Bool.eq_iff_iff,decide_eq_true_iff]
  unfold inV
  rw [List.any_map,List.any_eq_true]
  constructor
  · rintro ⟨y,hy,q⟩
    have q : (y == x) = true:=q
    have q : y = x:=by simpa using q
    exact q ▸ hy
  · intro h
    refine ⟨x,h,?_⟩
    show (x == x) = true
    simp
end L2
namespace MG
variable {es : List (Nat × Nat)} {s n P t L : Nat} {me par : Nat→Nat} {rw : Nat→List Nat}
end MG
open PySem
namespace PySem.SeqAt
end PySem.SeqAt
namespace HT
open PySem PySem.Spec PyProof.Rows
variable {prog : Program} {w : World} {A : Around} {E : Value→Shared→Prop} {s : Shared}
end HT
namespace L2
open PySem
def kdO (ks : Kn) (u : Str) : List Str:=((ks.find? fun k=>decide (k.1 = u)).map (·.2)).getD []
section
variable {us : List Str} {ks : Kn}
def rd (ks : Kn) : Nat→Str→List Str
  | 0,u=>[u]
  | n + 1,u=>u::(kdO ks u).flatMap (rd ks n)
def RD (ks : Kn) (u : Str) : List Str:=rd ks 61 u
end
end L2
namespace L2
open PySem PySem.Spec PyProof.Rows
open _root_.HT PySem.SeqAt PySem.MeetsSeq PySem.MeetsSeq2 PySem.MeetsSeq3
namespace HTW
variable {prog : Program} {w : World} {A : Around} {E : Value→Shared→Prop} {s : Shared}
theorem getItem_tuple_whole {t sl : Addr} {items : Array Value} {vl vu : Value} {lo hi : Option Int} {Q : Value→Shared→Prop} (ht : IsTup s.heap t items) (hs : s.heap.IsSliceOf sl vl vu .none) (pl : IsPart vl lo) (pu : IsPart vu hi)
    (h0 : sIx items.size 0 lo = 0) (h1 : sIx items.size items.size hi = items.size)
    (h : Q (.ref t) s) : wpAny (model prog w) A (getItem (.ref t) (.ref sl)) Q E s:=by
  obtain ⟨os,hos,hcs,hds⟩:=id hs
  have hTs : s.TypeIs (.ref sl) "slice":=⟨os,hos,hcs⟩
  unfold getItem
  try with_reducible refine wpAny_holding ?_
  first | refine wpAny_bind (wpAny_pure ?_) | skip
  refine wpAny_bind (wpAny_sequenceKey ht.typeIs (by decide) ?_)
  refine wpAny_bind (wpAny_callSpecial?_slot (name:=Str.ofString "__getitem__") ht.typeIs PyProof.Rows.slot_tuple_getitem
    (wpAny_call_entry PyProof.Rows.slot_tuple_getitem ht.typeIs entry_tuple_getitem ?_ (args_tuple_getitem _ _)))
  show wpAny _ _ (Builtin.Tuple.tupleItemsOf (.ref t) >>= _) _ _ s
  refine wpAny_bind (tupleItemsOf_ ht ?_)
  refine wpAny_bind (wpAny_typeOf hTs ?_)
  rw [if_pos (by decide)]
  refine wpAny_bind (sliceApplied_gen hs pl pu ?_)
  have hyes : (((sIx items.size 0 lo : Nat) : Int) == 0 && (1 : Int) == 1 && (sIx items.size items.size hi - sIx items.size 0 lo) == items.size) = true:=by
    rw [h0,h1];simp
  show wpAny _ _ (if (((sIx items.size 0 lo : Nat) : Int) == 0 && (1 : Int) == 1 && (sIx items.size items.size hi - sIx items.size 0 lo) == items.size) = true then _ else _) _ _ s
  rw [if_pos hyes]
  unfold Builtin.Tuple.tupleIsExact
  refine wpAny_bind (wpAny_bind (wpAny_typeOf ht.typeIs (wpAny_pure ?_)))
  rw [if_pos (by decide)]
  refine wpAny_bind (wpAny_rule (wpAny_pure ⟨_,rfl,wpAny_pure h⟩))
end HTW
section
variable {X : Cx}
theorem cut_whole {xs : List V} {lo hi : Option Int} (h0 : HT.sIx xs.length 0 lo = 0) (h1 : HT.sIx xs.length xs.length hi = xs.length) : cutV xs lo hi = xs:=by
  unfold cutV
  rw [h0,h1,List.drop_zero,Nat.sub_zero,List.take_of_length_le (Nat.le_refl _)]
def rSlTA : V→Option Int→Option Int→Hp→VK→Prop:=fun x lo hi H Q=>∃ a xs,x = .ref a∧H a = some (.tup xs)∧∀ p H',Same H H'→H' p = some (.tup (cutV xs lo hi))→Q (.ref p) H'
theorem sl_tupA : SlR X rSlTA:=by
  intro pins s σ H x v vl vu lo hi sl Q I rx hs pl pu h
  obtain ⟨a,xs,rfl,hx,q⟩:=h
  by_cases hw : HT.sIx xs.length 0 lo = 0∧HT.sIx xs.length xs.length hi = xs.length
  · cases rx
    obtain ⟨its,r,ht,hz⟩:=I.tuple (.of hx)
    have hlen : its.toArray.size = xs.length:=by rw [List.size_toArray];exact r.length.symm
    refine ⟨"tuple",_,PyProof.Rows.slot_tuple_getitem.lookup,ht.typeIs,?_⟩
    refine HTW.getItem_tuple_whole ht hs pl pu (by rw [hlen];exact hw.1) (by rw [hlen];exact hw.2) ?_
    exact ⟨.ref a,H,I,rfl,q a H (Same.refl H) (by rw [cut_whole hw.1 hw.2];exact hx)⟩
  · exact sl_tup pins s σ H _ v vl vu lo hi sl Q I rx hs pl pu ⟨a,xs,rfl,.of hx,hw,fun p hp=>q p _ (Same.new hp) upd_same⟩
def rCatTB : R2:=fun x y H Q=>∃ a b xs ys,x = .ref a∧y = .ref b∧H a = some (.tup xs)∧H b = some (.tup ys)∧xs.length + ys.length≤sizeLine∧∀ p H',Same H H'→H' p = some (.tup (xs++ys))→Q (.ref p) H'
theorem op_catTB : OpR X (binaryOp .Add) rCatTB:=by
  intro pins s σ H x y v u Q I rx ry h
  obtain ⟨a,b,xs,ys,rfl,rfl,ha,hb,hz,q⟩:=h
  refine op_catTA X.K rfl pins s σ H _ _ v u Q I rx ry ⟨a,b,xs,ys,rfl,rfl,.of ha,.of hb,hz,fun e=>q b H (Same.refl H) (by rw [e];exact hb),fun _ e=>q a H (Same.refl H) (by rw [e,List.append_nil];exact ha),fun _ _ p hp=>q p _ (Same.new hp) upd_same⟩
end
end L2
namespace L2
open PySem PySem.Spec PyProof.Rows
section
variable {X : Cx} {e e' : Expr} {te te' : TE}
theorem p1 (ha : PE X e te) (hs : starEach [e] X.env = (false,eval e X.env)::starEach [] X.env:=by rfl) : PA X [e] (tCons te tNil):=pa_cons ha pa_nil hs
theorem p2 (ha : PE X e te) (hb : PE X e' te') (hs : starEach [e,e'] X.env = (false,eval e X.env)::starEach [e'] X.env:=by rfl) (hs' : starEach [e'] X.env = (false,eval e' X.env)::starEach [] X.env:=by rfl) : PA X [e,e'] (tCons te (tCons te' tNil)):=pa_cons ha (pa_cons hb pa_nil hs') hs
theorem px (K : PySem.W.Frag) {pos : Pos} {k : Nat} (hr : Room k X.A) (ha : PE X e te) (hb : PE X e' te') (hs : PlainIx e':=by exact fun _ _=>rfl) (hK : X.K = K:=by rfl) : PE X (.Subscript e e' pos) (tOp (fun x y H Q=>IxX K H x y Q) te te'):=pe_ix (ix_X K hr.units hK) ha hb hs
theorem pc {x : Str} {ps : List Str} {sp : Sp} {k j : Nat} {p pos : Pos} {es : List Expr} {t : TA} (c : Cal X.prog X.w X.K X.mg X.base k x ps sp) (hr : Room j X.A) (ha : PA X (e::es) t) (hj : k≤j:=by decide) (hg : Gl X x:=by exact rfl)
    (hs : starEach (e::es) X.env = (false,eval e X.env)::starEach es X.env:=by rfl) (hpl : (backTo pos (starEach es X.env)).any (·.1) = false:=by rfl) (hdb : (x == ("__debug__" : Str)) = false:=by decide) :
    PE X (.Call (.Name x p) (e::es) [] pos) (tCall sp [] E0 t):=pe_cal c (hr.mono hj) hg ha hs hpl hdb
theorem pst (i : Nat) {x : Str} {pos pos' : Pos} (hN : X.N.Nodup) (he : PE X e te) (hi : X.N[i]? = some x:=by rfl) (hx : Loc X.env.scope x:=by exact Or.inl rfl) (hs : swapsWith e (some (.Name x pos')) pos.line X.env = pure false:=by rfl)
    (hf : X.fn x = true∨X.env.scope.names.lookup x = some .local:=by first | exact .inl rfl | exact .inr rfl | assumption) : PS X (.Assign [.Name x pos'] e pos) (tAsg te (gName i)):=ps_set hN hi hx he hs hf
end
end L2
namespace L2
open PySem PySem.Spec PyProof.Rows
structure FnM (P : Program) (w : World) (K : PySem.W.Frag) (mg : Str→Option Value) (base : Heap) (k : Nat) (f : Addr) (fd : FuncData) (ps : List Str) (sp : Sp) : Prop where
  len : ∀ vs H Q E,sp vs H Q E→vs.length = ps.length
  run : ∀ (A : Around) (m : Value) (outer : List Env) (s : Shared) (H : Hp) (args : Args) (us : List Value) (vs : List V) (Q : VK) (E : XK),Room k A→Env0 P w K mg base A outer s H→BindsTo s fd args (ps.zip us)→Vals vs us→sp vs H Q E →
    codeAny (model P w) (A.mark (some m)) (.call (.ref f) args) (CR CX0 outer P w H s Q E) s
structure CalM (P : Program) (w : World) (K : PySem.W.Frag) (mg : Str→Option Value) (base : Heap) (k : Nat) (x : Str) (ps : List Str) (sp : Sp) : Prop where
  ex : ∃ (f : Addr) (fd : FuncData),FnM P w K mg base k f fd ps sp∧mg x = some (.ref f)∧PySem.W.keepIn K (.ref f) = true∧Binds K fd ps []
theorem okOf {X : Cx} {m : Value} {xe : Value→Shared→Prop} (hd : X.A.handled = none) (o : (X.mark m xe).Ok) : X.Ok :=
  ⟨o.mod,o.kind,o.glob,o.blt,o.above,o.inj,o.has,o.cab,fun _=>hd,o.frames,o.stk,o.exf,o.bs,o.bsz,o.noex,o.exfs,o.funs,o.frf⟩
theorem pe_calM {X : Cx} {m : Value} {xe : Value→Shared→Prop} {x : Str} {ps : List Str} {sp : Sp} {k : Nat} {p pos : Pos} {e : Expr} {es : List Expr} {t : TA} (c : CalM X.prog X.w X.K X.mg X.base k x ps sp) (hr : Room k X.A) (hg : Gl X x) (ha : PA (X.mark m xe) (e::es) t)
    (he : starEach (e::es) X.env = (false,eval e X.env)::starEach es X.env:=by rfl) (hpl : (backTo pos (starEach es X.env)).any (·.1) = false:=by rfl) (hdb : (x == ("__debug__" : Str)) = false:=by decide) :
    PE (X.mark m xe) (.Call (.Name x p) (e::es) [] pos) (tCall sp [] E0 t):=by
  intro pins s σ H Q I h
  obtain ⟨f,fd,F,mf,kp,b⟩:=c.ex
  refine wpAny_Call_Name_kw (ld_glob (X:=X.mark m xe) I hg mf ?_ hdb)
  refine PySem.W.callWith_K (h₀:=X.base) I.ok.mod.kin kp (thn (ha pos pins s σ H _ I h) fun us s1 ⟨vs,H1,I1,r,q⟩=>⟨I1.kIn,?_⟩) he hpl
  have q : sp (vs++[]) H1 Q E0:=q
  rw [List.append_nil] at q
  have hl : (us++[]).length = ps.length:=by rw [List.append_nil,← r.length];exact F.len _ _ _ _ q
  refine wpAny_call (codeAny_mono (F.run X.A m X.stack s1 H1 ⟨us,[]⟩ (us++[]) vs Q E0 hr (I1.unmark (okOf hr.hd I1.ok)).env0 (b s1 us I1.kIn hl) (by rw [List.append_nil];exact r) q) fun r s' hq=>?_)
  cases r with
  | error ev=>exact hq.elim
  | ok fl =>
    cases fl with
    | ret u=>exact I1.after hq
    | next=>exact False.elim hq
    | brk=>exact False.elim hq
    | cont=>exact False.elim hq
section
variable {P : Program} {w : World} {K : PySem.W.Frag} {mg : Str→Option Value} {base : Heap}
theorem Fun.okM {x qual : Str} {st : Stmt} {f : Addr} {fd : FuncData} {N ps : List Str} {k : Nat} {sp : Sp} (F : Fun K x qual st f fd) (S : FnScope N ps (defScope st)) (len : ∀ vs H Q E, sp vs H Q E → vs.length = ps.length)
    (hbody : ∀ (cdv : Value) (A : Around) (m : Value) (outer : List Env) (s : Shared) (H : Hp) (vs : List V) (Q : VK) (E : XK),Room k (A.deeper (envOfC qual (defScope st) s.heap.objs.size f cdv))→sp vs H Q E →
      ∃ t,PSs ((cxOf CX0 P w K mg base N qual (defScope st) f cdv A outer s H E).mark m (fun _ _=>False)) (defBody st) t∧t { nx:=fun _ H'=>Q .non H',rt:=Q } (start N vs) H) : FnM P w K mg base (k + 1) f fd ps sp:=by
  obtain ⟨oc,od,kV,doc,pm,an,cdv,ct,osl,rfl,lk,hcd⟩:=F.ex
  refine ⟨len,fun A m outer s H args us vs Q E hr e0 hb r hsp=>?_⟩
  have hl:=len _ _ _ _ hsp
  have KX : K.In s.heap:=e0.mod.kin.keeps fun b o e=>(e0.bs b o e).1
  have lim : s.heap.NoLimit:=e0.mod.nolimit.keeps fun b o e=>(e0.bs b o e).1
  have hkind : ∀ y∈ps.zip us,(defScope st).names.lookup y.1 = some .local∨((defScope st).names.lookup y.1 = some .cell∧((cellsFrom (s.heap.objs.size + 1) (defScope st).names []).lookup y.1).isSome = true):=fun ⟨n,v⟩ hy=>by
    rcases S.par n (List.of_mem_zip hy).1 with q | q
    · exact .inl q
    · exact .inr ⟨q,PySem.W.cellsFrom_some _ _ _ (.inl q)⟩
  refine codeAny_call_function (show (A.mark (some m)).depth < recursionLimit from hr.depth) (KX _ _ lk) rfl S.co S.gen rfl (PySem.W.codeRec_of KX hcd) (hb _ _ _ _ ?_)
  refine wpAny_newFunctionEnv_cells S.kind hkind fun env he s1 x=>?_
  subst he
  refine ⟨lim.keeps x.toInCall.keep,codeAny_func ?_⟩
  obtain ⟨t,ht,hq⟩:=hbody cdv A m outer s H vs Q E (hr.deeper _) hsp
  have I:=(inv_start (CX:=CX0) (E:=E) S hr.hd e0 hl r x).mark (e:=m) (E:=fun _ _=>False)
  refine wpAny_mono (ht [] s1 (start N vs) H _ I hq) (fun fl s' hs=>?_) fun e s' hs=>hs.elim
  have fin : ∀ {σ' : St} {H' : Hp} {v : V} {u : Value},Inv ((cxOf CX0 P w K mg base N qual (defScope st) f cdv A outer s H E).mark m (fun _ _=>False)) [] σ' H' s'→RelV v u→Q v H'→CE outer P w H s Q u s' :=
    fun {σ' H' v u} J rv q=>⟨v,H',J.os,J.bare,J.base,J.hok,rv,q⟩
  cases fl with
  | ret u =>
    obtain ⟨v,σ',H',J,rv,q⟩:=hs
    exact fin J rv q
  | next =>
    obtain ⟨σ',H',J,q⟩:=hs
    exact fin (v:=V.non) (u:=Value.none) J rfl q
  | brk =>
    obtain ⟨_,_,_,q⟩:=hs
    exact False.elim q
  | cont =>
    obtain ⟨_,_,_,q⟩:=hs
    exact False.elim q
end
end L2
namespace K70
open PySem L2
def top (i : Nat) : Stmt:=PySem.Challenge.pw_orderkeep_k70_webs_not_put_together.main.body.getD i (.Pass ⟨0,0,0,0⟩)
abbrev sIsName : Stmt:=top 23
abbrev sWebOf : Stmt:=top 27
abbrev sNexts : Stmt:=top 28
abbrev sPriors : Stmt:=top 29
abbrev sPlaces : Stmt:=top 30
abbrev sAreThings : Stmt:=top 31
abbrev sUNm : Stmt:=top 32
abbrev sUnlike : Stmt:=top 33
abbrev sWrong : Stmt:=top 34
abbrev sAmong : Stmt:=top 35
abbrev sWay : Stmt:=top 37
abbrev sNearer : Stmt:=top 38
abbrev sNextsAll : Stmt:=top 39
abbrev sPriorsAll : Stmt:=top 40
abbrev sSteps : Stmt:=top 41
abbrev sRingBy : Stmt:=top 43
abbrev sRingOf : Stmt:=top 44
abbrev sRefuse : Stmt:=top 45
abbrev sTogether : Stmt:=top 47
abbrev sTake : Stmt:=top 49
abbrev sNames : Stmt:=top 50
abbrev sTies : Stmt:=top 51
abbrev sSame : Stmt:=top 52
abbrev sStepsTo : Stmt:=top 53
abbrev sLRingBy : Stmt:=top 54
abbrev sLRingOf : Stmt:=top 55
abbrev sOthers : Stmt:=top 56
abbrev sLawWord : Stmt:=top 57
abbrev sLawTried : Stmt:=top 58
abbrev sWeb : Stmt:=top 59
abbrev sLawWithRing : Stmt:=top 60
abbrev sLawManyThings : Stmt:=top 61
abbrev sLawManyTies : Stmt:=top 62
abbrev sLaw : Stmt:=top 63
abbrev sRingInit : Stmt:=inCls (top 4) 0
section
variable {P : Program} {w : World} {K : PySem.W.Frag} {mg : Str→Option Value} {base : Heap}
def spNames (K : PySem.W.Frag) : Sp:=fun vs H Q _=>∃ (p a : Addr) (m : Nat),vs = [.ref p,.int (m : Int)]∧Pen K H p a∧m≤62 ∧
  ∀ l ss H',ss.length = m→ss.Nodup→(∀ s∈ss,Nm s)→H' l = some (.lst (List.map V.str ss))→l≠p→PenV H' p a→But p H H'→Q (.ref l) H'
theorem scTake : FnScope ["_law_pen","_law_many","_law_digit","_law_at","_law_cell","_law_one","_law_two"] ["_law_pen","_law_many"] (defScope sTake):=⟨rfl,rfl,rfl,by decide +kernel,rfl,by decide +kernel,by decide +kernel⟩
theorem two_small (x : Int) : -(2 ^ 64) < x % 2147483587∧x % 2147483587 < 2 ^ 64:=by
  have h1:=Int.emod_nonneg x (show (2147483587 : Int)≠0 by decide)
  have h2:=Int.emod_lt_of_pos x (show (0 : Int) < 2147483587 by decide)
  omega
theorem cell_small (x : Int) : -(2 ^ 64) < x % 2147483629 + 1∧x % 2147483629 + 1 < 2 ^ 64:=by
  have h1:=Int.emod_nonneg x (show (2147483629 : Int)≠0 by decide)
  have h2:=Int.emod_lt_of_pos x (show (0 : Int) < 2147483629 by decide)
  omega
theorem ok_take {f : Addr} {fd : FuncData} (F : Fun K "_law_take" "_law_take" sTake f fd) (B : Blt mg) : FnOk P w K mg base CX0 1 f fd ["_law_pen", "_law_many"] (spDraw K) := by
  refine F.ok scTake (fun vs H Q E h=>?_) (fun cdv A outer s H vs Q E hr h=>?_)
  · obtain ⟨p,a,m,rfl,_⟩:=h
    rfl
  · obtain ⟨p, a, m, rfl, ⟨⟨ns, hS⟩, i, n, hp, hi, hn⟩, hm, hm2, k⟩ := h
    have ku : ∀ (H1 : Hp) (o : HO),(∀ b,b≠p→H1 b = H b)→∀ b,b≠p→(upd H1 p o) b = H b:=fun H1 o q b n=>by rw [upd_ne n];exact q b n
    have nd:=scTake.nd
    refine ⟨_,(pss_cons (ps_if (pt_cmpR op_gt (px K hr (pv 0) pe_int) pe_int (nomark _)) (pss_cons (pst 2 nd (pe_op op_mod (px K hr (pv 0) pe_int) (pv 1)))
      (pss_cons (ps_asg (pe_op op_fdiv (px K hr (pv 0) pe_int) (pv 1)) (pg_sub (pv 0) pe_int (set_X hr.units)))
      (pss_one (ps_ret (pv 2))))) pss_nil)
      (pss_cons (pst 3 nd (px K hr (pv 0) pe_int))
      (pss_cons (ps_asg (pe_op op_addX (pv 3) pe_int) (pg_sub (pv 0) pe_int (set_X hr.units)))
      (pss_cons (pst 4 nd pe_int)
      (pss_cons (ps_if (pt_cmpR op_gt (b_len K B (p1 (px K hr (pv 0) pe_int))) pe_int (nomark _)) (pss_one (pst 4 nd (px K hr (px K hr (pv 0) pe_int) (pe_op op_mod (pv 3) (b_len K B (p1 (px K hr (pv 0) pe_int))))))) pss_nil)
      (pss_cons (ps_if (PW.pt (pw_and (pt_cmpR op_ltX (pv 3) (b_len K B (p1 (px K hr (pv 0) pe_int))) (nomark _)) (pw_and1 (pt_cmpR op_ge (b_abs B (p1 (pv 4))) (pe_op op_pow pe_int pe_int) (nomark _))))) (pss_cons (ps_asg (pe_op op_fdiv (b_abs B (p1 (pv 4))) (pv 1)) (pg_sub (pv 0) pe_int (set_X hr.units)))
      (pss_one (ps_ret (pe_op op_mod (b_abs B (p1 (pv 4))) (pv 1))))) pss_nil)
      (pss_cons (pst 5 nd (pe_op op_mod (pe_op op_mul (pe_op op_addX (pe_op op_mod (pv 4) pe_int) pe_int) (pe_op op_addX (pe_op op_mul pe_int (pv 3)) pe_int)) pe_int))
      (pss_cons (pst 6 nd (pe_op op_mod (pe_op op_addX (pe_op op_addX (pe_op op_mul (pv 5) (pv 5)) (pe_op op_mul pe_int (pv 3))) pe_int) pe_int))
      (pss_one (ps_ret (pe_op op_mod (pe_op op_fdiv (pe_op op_mod (pe_op op_mul (pv 6) (pe_op op_addX (pe_op op_mod (pv 6) pe_int) pe_int)) pe_int) pe_int) (pv 1)))))))))))),?_⟩
    refine ⟨_,rfl,.lst (.of hp) rfl ⟨_,_,rfl,rfl,_,rfl,?_⟩⟩
    refine ite2 (fun h=>?_) (fun h=>?_)
    · refine ⟨_,rfl,.lst (.of hp) rfl ⟨_,rfl,_,_,rfl,rfl,hm,?_⟩⟩
      refine ⟨_,rfl,.lst (.of hp) rfl ⟨_,rfl,_,_,rfl,rfl,⟨hm,hm2⟩,?_⟩⟩
      refine ⟨_,rfl,.lst (j:=2) hp rfl ?_⟩
      refine ⟨_,rfl,?_⟩
      exact k _ _ (Int.emod_nonneg _ (by omega)) (Int.emod_lt_of_pos _ hm) ⟨i,n / m,upd_same,hi,Int.ediv_nonneg hn (by omega)⟩ (ku H _ fun _ _=>rfl)
    · refine ⟨_, rfl, .lst (.of hp) rfl ?_⟩
      refine ⟨_,rfl,.int ?_⟩
      refine ⟨_,rfl,.lst (j:=1) hp rfl ?_⟩
      have hp1 : (upd H p (.lst ([V.ref a,V.int i,V.int n].set 1 (V.int (i + 1))))) p = some (.lst [.ref a,.int (i + 1),.int n]):=upd_same
      have hS1 : SqL K (upd H p (.lst ([V.ref a,V.int i,V.int n].set 1 (V.int (i + 1))))) a (ns.map V.int):=hS _ But.upd
      have b1 : ∀ b,b≠p→(upd H p (.lst ([V.ref a,V.int i,V.int n].set 1 (V.int (i + 1))))) b = H b:=ku H _ fun _ _=>rfl
      generalize upd H p (.lst ([V.ref a,V.int i,V.int n].set 1 (V.int (i + 1)))) = H1 at hp1 hS1 b1 ⊢
      have fin : ∀ c : Int,0≤c→Q (.int (c % m)) H1:=fun c hc=>k _ _ (Int.emod_nonneg _ (by omega)) (Int.emod_lt_of_pos _ hm) ⟨i + 1,n,hp1,by omega,hn⟩ b1
      refine ⟨_,rfl,.lst (.of hp1) rfl ⟨_,_,rfl,Or.inl ⟨_,hS1,rfl⟩,_,_,rfl,rfl,_,rfl,?_⟩⟩
      refine ite2 (fun h=>?a) (fun h=>?b)
      case' a =>
        have hl : (0 : Int) < ((ns.map V.int).length : Nat):=of_decide_eq_true h
        obtain ⟨c,hc⟩:=at_int (ns:=ns) (j:=i % ((ns.map V.int).length : Nat)) (Int.emod_nonneg _ (by omega)) (Int.emod_lt_of_pos _ hl)
        refine ⟨_,rfl,.lst (.of hp1) rfl ⟨_,rfl,_,rfl,.lst (.of hp1) rfl ⟨_,_,rfl,Or.inl ⟨_,hS1,rfl⟩,_,_,rfl,rfl,hl,.lst hS1 hc ?_⟩⟩⟩
      all_goals
        refine ⟨_,rfl,_,rfl,.lst (.of hp1) rfl ⟨_,_,rfl,Or.inl ⟨_,hS1,rfl⟩,.int ⟨_,rfl,?_⟩⟩⟩
        refine ite2 (fun h1=>?_) (fun h1=>?_)
        · refine ⟨_,rfl,_,rfl,_,_,rfl,rfl,⟨by decide,by decide,by decide⟩,_,_,rfl,rfl,_,rfl,?_⟩
          refine ite2 (fun h2=>?_) (fun h2=>?_)
          · refine ⟨_,rfl,_,rfl,_,rfl,_,_,rfl,rfl,⟨hm,hm2⟩,?_⟩
            refine ⟨_,rfl,.lst (j:=2) hp1 rfl ?_⟩
            refine ⟨_,rfl,_,rfl,_,rfl,_,_,rfl,rfl,hm,?_⟩
            refine k _ _ (Int.emod_nonneg _ (by omega)) (Int.emod_lt_of_pos _ hm) ⟨i + 1,_,upd_same,by omega,Int.ediv_nonneg (by split <;> omega) (by omega)⟩ (ku H1 _ b1)
          · refine ⟨_,rfl,_,_,rfl,rfl,(by show (0 : Int) < _;decide),.int ⟨_,rfl,_,_,rfl,rfl,.inl ⟨by decide,by decide⟩,.int ⟨_,_,rfl,rfl,.inl (cell_small _),_,_,rfl,rfl,(by show (0 : Int) < _;decide),?_⟩⟩⟩
            refine ⟨_,rfl,_,rfl,_,_,rfl,rfl,.inl (fst_small _),_,rfl,_,_,rfl,rfl,.inl ⟨by decide,by decide⟩,.int (.int ⟨_,_,rfl,rfl,(by show (0 : Int) < _;decide),?_⟩)⟩
            refine ⟨_,rfl,_,rfl,_,_,rfl,rfl,(by show (0 : Int) < _;decide),.int ⟨_,_,rfl,rfl,.inl (two_small _),_,_,rfl,rfl,(by show (0 : Int) < _;decide),_,_,rfl,rfl,⟨by decide,by decide⟩,_,rfl,_,_,rfl,rfl,hm,?_⟩⟩
            exact fin _ (Int.ediv_nonneg (Int.emod_nonneg _ (by decide)) (by decide))
        · refine ⟨_,rfl,_,_,rfl,rfl,(by show (0 : Int) < _;decide),.int ⟨_,rfl,_,_,rfl,rfl,.inl ⟨by decide,by decide⟩,.int ⟨_,_,rfl,rfl,.inl (cell_small _),_,_,rfl,rfl,(by show (0 : Int) < _;decide),?_⟩⟩⟩
          refine ⟨_,rfl,_,rfl,_,_,rfl,rfl,.inl (fst_small _),_,rfl,_,_,rfl,rfl,.inl ⟨by decide,by decide⟩,.int (.int ⟨_,_,rfl,rfl,(by show (0 : Int) < _;decide),?_⟩)⟩
          refine ⟨_,rfl,_,rfl,_,_,rfl,rfl,(by show (0 : Int) < _;decide),.int ⟨_,_,rfl,rfl,.inl (two_small _),_,_,rfl,rfl,(by show (0 : Int) < _;decide),_,_,rfl,rfl,⟨by decide,by decide⟩,_,rfl,_,_,rfl,rfl,hm,?_⟩⟩
          exact fin _ (Int.ediv_nonneg (Int.emod_nonneg _ (by decide)) (by decide))
end
end K70
namespace K70
open PySem L2
section
variable {P : Program} {w : World} {K : PySem.W.Frag} {mg : Str→Option Value} {base : Heap}
theorem let_at {j : Int} (h0 : 0≤j) (h1 : j < 26) : atI ("abcdefghijklmnopqrstuvwxyz" : Str).cps.toList j = some (97 + j.toNat):=by
  obtain ⟨k,rfl⟩:=Int.eq_ofNat_of_zero_le h0
  have hk : k < 26:=by omega
  exact (by decide +kernel : ∀ k : Nat,k < 26→atI ("abcdefghijklmnopqrstuvwxyz" : Str).cps.toList (k : Int) = some (97 + (k : Int).toNat)) k hk
theorem one_nm {c : Nat} (h : 97≤c) (h2 : c≤122) : Nm ⟨#[c]⟩:=⟨Nat.le_refl 1,by show 1≤8;decide,fun d hd=>by
  have : d = c:=by simpa using hd
  omega⟩
theorem two_nm {c d : Nat} {t : Str} (hc : 97 ≤ c ∧ c ≤ 122) (hd : 97 ≤ d ∧ d ≤ 122) (ht : t.length ≤ 6) (ha : ∀ x ∈ t.cps.toList, 97 ≤ x ∧ x ≤ 122) : Nm (⟨#[c]⟩ ++ ⟨#[d]⟩ ++ t) := by
  refine ⟨?_,?_,fun x hx=>?_⟩
  · rw [len_app,len_app];show 1≤1 + 1 + _;omega
  · rw [len_app,len_app];show 1 + 1 + t.length≤8;omega
  · have hx : x∈(#[c]++#[d]++t.cps).toList:=hx
    simp only [Array.toList_append,List.mem_append] at hx
    rcases hx with (hx | hx) | hx
    · have : x = c:=by simpa using hx
      omega
    · have : x = d:=by simpa using hx
      omega
    · exact ha x hx
theorem two_inj {c d c' d' : Nat} {t t' : Str} (h : (⟨#[c]⟩++⟨#[d]⟩++t : Str) = ⟨#[c']⟩++⟨#[d']⟩++t') : c = c'∧d = d':=by
  have h : (#[c]++#[d]++t.cps).toList = (#[c']++#[d']++t'.cps).toList:=congrArg (fun s : Str=>s.cps.toList) h
  simp only [Array.toList_append,List.cons_append,List.nil_append,List.cons.injEq] at h
  exact ⟨h.1,h.2.1⟩
def Low (t : Str) : Prop:=∀ x∈t.cps.toList,97≤x∧x≤122
theorem Low.app {x y : Str} (hx : Low x) (hy : Low y) : Low (x++y):=fun c hc=>by
  have hc : c∈(x.cps++y.cps).toList:=hc
  rw [Array.toList_append] at hc
  rcases List.mem_append.mp hc with h | h
  · exact hx c h
  · exact hy c h
theorem Low.slice {x : Str} (h : Low x) (l u : Option Int) : Low (Txt.slice x l u):=by
  unfold Txt.slice
  split
  · exact h
  · intro c hc
    have hc : c∈(List.filterMap (x.cps[·]?) (Builtin.Str.strSliceIndices l u 1 x.length)).toArray.toList:=hc
    rw [List.toList_toArray] at hc
    obtain ⟨i,_,e⟩:=List.mem_filterMap.mp hc
    exact h c (by simpa using Array.mem_of_getElem? e)
theorem Low.joinS {sep : Str} (hs : Low sep) : ∀ {ys : List Str},(∀ y∈ys,Low y)→Low (Str.join sep ys)
  | [],_=>fun c hc=>by
    have hc : c∈(#[] : Array Nat).toList:=hc
    simp at hc
  | [y],h=>h y (by simp)
  | y::z::r,h=>by
    show Low (y++sep++Str.join sep (z::r))
    exact ((h y (by simp)).app hs).app (Low.joinS hs fun x hx=>h x (List.mem_cons_of_mem _ hx))
theorem Low.join {sep : Str} {ys : List Str} (hs : Low sep) (h : ∀ y∈ys,Low y) : Low (Txt.join sep ys):=by
  unfold Txt.join
  rw [StrLaws.glued_eq_join]
  exact Low.joinS hs h
theorem nodup_snoc {α : Type} {l : List α} {x : α} (h : l.Nodup) (hx : x∉l) : (l++[x]).Nodup:=by
  rw [List.nodup_append]
  exact ⟨h,by simp,fun a ha b hb=>by
    have : b = x:=by simpa using hb
    subst this
    exact fun e=>hx (e ▸ ha)⟩
theorem num_inj {r st : Int} {i j : Nat} (hst : st = 1∨st = 675∨st = 27∨st = 211∨st = 79) (hj : j < i) (hi : i < 62) : (r + st * (j : Int)) % 676≠(r + st * (0 + (i : Nat) : Int)) % 676:=by
  rcases hst with rfl | rfl | rfl | rfl | rfl <;> omega
theorem scNames : FnScope ["_law_pen","_law_many","_law_letters","_law_begin","_law_step","_law_tail","_law_found","_law_k","_law_number","_law_size"] ["_law_pen","_law_many"] (defScope sNames):=⟨rfl,rfl,rfl,by decide +kernel,rfl,by decide +kernel,by decide +kernel⟩
theorem ok_names {f : Addr} {fd : FuncData} (F : Fun K "_law_names" "_law_names" sNames f fd) (B : Blt mg) (c_law_take : Cal P w K mg base 1 "_law_take" ["_law_pen", "_law_many"] (spDraw K)) : FnOk P w K mg base CX0 2 f fd ["_law_pen", "_law_many"] (spNames K) := by
  refine F.ok scNames (fun vs H Q E h=>?_) (fun cdv A outer s H vs Q E hr h=>?_)
  · obtain ⟨p,a,m,rfl,_⟩:=h
    rfl
  · obtain ⟨p, a, m, rfl, hP, hm, k⟩ := h
    have nd:=scNames.nd
    refine ⟨_,(pss_cons (ps_set (i:=2) nd rfl (Or.inr rfl) pe_str)
      (pss_cons (ps_set (i:=3) nd rfl (Or.inr rfl) (pc c_law_take hr (p2 (pv 0) pe_int)))
      (pss_cons (ps_if (PW.pt (pw_and (pt_cmpR op_ltX (pv 1) pe_int (nomark _)) (pw_and1 (pt_cmpR (op_eqX hr.units) (pc c_law_take hr (p2 (pv 0) pe_int)) pe_int (nomark _))))) (pss_one (ps_ret (pe_comp (defScope sNames) ["_law_pen","_law_many","_law_letters","_law_begin","_law_step","_law_tail","_law_found","_law_k","_law_number","_law_size"] ["_law_k"] [2,3] ["_law_k","_law_letters","_law_begin"] rfl (pi_range1 rfl B.range (p1 (pv 1))) (fun _ _ _ _ _=>(pg_name (i:=0) (show (["_law_k","_law_letters","_law_begin"] : List Str).Nodup by decide) rfl (Or.inl rfl))) (fun _ _ _ _ _=>pts_nil) (fun _ _ _ _ _=>(px K hr (pv 1) (pe_op op_mod (pe_op op_addX (pv 2) (pe_op op_mul pe_int (pv 0))) pe_int)))))) pss_nil)
      (pss_cons (pst 4 nd (px K hr (pe_lst (pa_cons pe_int (pa_cons pe_int (pa_cons pe_int (p2 pe_int pe_int star_c star_c) star_c) star_c) star_c)) (pc c_law_take hr (p2 (pv 0) pe_int))))
      (pss_cons (pst 5 nd (m_join K pe_str (p1 (pe_comp (defScope sNames) ["_law_pen","_law_many","_law_letters","_law_begin","_law_step","_law_tail","_law_found","_law_k","_law_number","_law_size"] ["_law_k"] [2,0] ["_law_k","_law_letters","_law_pen"] rfl (pi_range1 rfl B.range (p1 (pc c_law_take hr (p2 (pv 0) pe_int)))) (fun _ _ _ _ _=>(pg_name (i:=0) (show (["_law_k","_law_letters","_law_pen"] : List Str).Nodup by decide) rfl (Or.inl rfl))) (fun _ _ _ _ _=>pts_nil) (fun _ _ _ _ _=>(px K hr (pv 1) (pc c_law_take hr (p2 (pv 2) pe_int))))))))
      (pss_cons (pst 6 nd (pe_lst pa_nil))
      (pss_cons (ps_for PassesOwn.never rfl (pi_range1 rfl B.range (p1 (pv 1))) (pg_name (i:=7) nd rfl (Or.inl rfl)) (pss_cons (pst 8 nd (pe_op op_mod (pe_op op_addX (pv 3) (pe_op op_mul (pv 4) (pv 7))) pe_int))
      (pss_cons (pst 9 nd (pc c_law_take hr (p2 (pv 0) (pe_op op_addX (b_len K B (p1 (pv 5))) pe_int))))
      (pss_one (ps_expr (m_append K (pv 6) (p1 (pe_op op_addX (pe_op op_addX (px K hr (pv 2) (pe_op op_fdiv (pv 8) pe_int)) (px K hr (pv 2) (pe_op op_mod (pv 8) pe_int))) (pe_slice (sl_K K) (pv 5) po_none (po_some (pv 9)))))))))))
      (pss_one (ps_ret (pv 6)))))))))),?_⟩
    refine ⟨_,rfl,p,a,676,rfl,hP,by decide,by decide,fun r1 H1 h10 h11 v1 e1=>?_⟩
    have b1:=But.of_eq e1
    refine ⟨_,rfl,.int ⟨_,rfl,?_⟩⟩
    have lL : ("abcdefghijklmnopqrstuvwxyz" : Str).length≤sizeLine:=by decide +kernel
    refine ite2 (fun h1=>?a) (fun h1=>?b)
    case' a =>
      refine ⟨_,rfl,p,a,4,rfl,hP.but b1 v1,by decide,by decide,fun r2 H2 h20 h21 v2 e2=>.sc rfl ⟨_,rfl,?_⟩⟩
      have b2:=b1.trans (But.of_eq e2)
      have h1 : (m : Int) < 27:=of_decide_eq_true h1
      refine ite2 (fun _=>?c) (fun _=>?d)
      case c =>
        refine ⟨_,rfl,_,rfl,by omega,by omega,?_⟩
        refine comp_range (fun D i acc σ' H'=>∃ o ss,σ' = [o,some (.str "abcdefghijklmnopqrstuvwxyz"),some (.int r1)]∧acc = List.map V.str ss∧ss.length = i∧(∀ (j : Nat) (s : Str),ss[j]? = some s→∃ c : Nat,s = ⟨#[c]⟩∧(c : Int) = 97 + (r1 + 7 * (j : Int)) % 26)∧ss.Nodup∧PenV H' p a∧But p H H'∧H D = none∧p≠D) fun D hD=>⟨?_,?_,?_⟩
        · have hDp:=v2.ne hD
          have hD0:=b2.free (Ne.symm hDp) hD
          exact ⟨none,[],rfl,rfl,rfl,(fun j s e=>by simp at e),List.nodup_nil,v2.upd hDp,b2.at hD0,hD0,hDp⟩
        · rintro i acc σ' H' hi ⟨o, ss, rfl, rfl, hl, hj, hnd, v, b, hD0, hDp⟩ hacc
          refine gYes ?_
          refine ⟨_,rfl,_,rfl,_,rfl,_,_,rfl,rfl,.inl ⟨by decide,by decide⟩,.int ⟨_,_,rfl,rfl,(by show (0 : Int) < _;decide),?_⟩⟩
          have g0:=Int.emod_nonneg (r1 + 7 * (0 + (i : Nat) : Int)) (show (26 : Int)≠0 by decide)
          have g1:=Int.emod_lt_of_pos (r1 + 7 * (0 + (i : Nat) : Int)) (show (0 : Int) < 26 by decide)
          refine .str lL (let_at g0 g1) ⟨hacc,?_,_,ss++[⟨#[97 + ((r1 + 7 * (0 + (i : Nat) : Int)) % 26).toNat]⟩],rfl,by simp,by simp [hl],?_,?_,v.upd hDp,b.at hD0,hD0,hDp⟩
          · rw [List.length_map,hl];exact small1000 (by omega)
          · intro j s e
            by_cases q : j < ss.length
            · rw [List.getElem?_append_left q] at e
              exact hj j s e
            · rw [List.getElem?_append_right (by omega)] at e
              have : j = i:=by
                have:=(List.getElem?_eq_some_iff.mp e).1
                simp at this
                omega
              subst this
              rw [hl,Nat.sub_self] at e
              cases e
              exact ⟨_,rfl,by omega⟩
          · refine nodup_snoc hnd fun hm=>?_
            obtain ⟨j,hjl,e⟩:=List.mem_iff_getElem.mp hm
            obtain ⟨c,ec,hc⟩:=hj j _ (List.getElem?_eq_getElem hjl)
            rw [e] at ec
            have ec : [97 + ((r1 + 7 * (0 + (i : Nat) : Int)) % 26).toNat] = [c]:=congrArg (fun s : Str=>s.cps.toList) ec
            have ec : 97 + ((r1 + 7 * (0 + (i : Nat) : Int)) % 26).toNat = c:=by simpa using ec
            omega
        · rintro acc σ' H' ⟨o,ss,rfl,rfl,hl,hj,hnd,v,b,hD0,hDp⟩ hacc
          refine k D ss H' (by simpa using hl) hnd (fun s hs=>?_) hacc (Ne.symm hDp) v b
          obtain ⟨j,hjl,e⟩:=List.mem_iff_getElem.mp hs
          obtain ⟨c,ec,hc⟩:=hj j _ (List.getElem?_eq_getElem hjl)
          rw [e] at ec
          subst ec
          exact one_nm (by omega) (by omega)
      have v1:=v2
      have b1:=b2
    all_goals
      refine ⟨(by show 5≤sizeLine;decide),fun l hl=>?_⟩
      have hpl:=v1.ne hl
      have b1:=b1.at (o:=.lst [V.int 1,V.int 675,V.int 27,V.int 211,V.int 79]) (b1.free (Ne.symm hpl) hl)
      refine ⟨_,rfl,p,a,5,rfl,hP.but b1 (v1.upd hpl),by decide,by decide,fun r3 H3 h30 h31 v3 e3=>?_⟩
      have hl3 : H3 l = some (.lst [V.int 1,V.int 675,V.int 27,V.int 211,V.int 79]):=(e3 l (Ne.symm hpl)).trans upd_same
      have b3:=b1.trans (But.of_eq e3)
      obtain ⟨st,est,hst⟩ : ∃ st,atI [V.int 1,V.int 675,V.int 27,V.int 211,V.int 79] r3 = some (.int st)∧(st = 1∨st = 675∨st = 27∨st = 211∨st = 79):=by
        have hr3 : r3 = 0∨r3 = 1∨r3 = 2∨r3 = 3∨r3 = 4:=by omega
        rcases hr3 with rfl | rfl | rfl | rfl | rfl
        · exact ⟨_,rfl,by omega⟩
        · exact ⟨_,rfl,by omega⟩
        · exact ⟨_,rfl,by omega⟩
        · exact ⟨_,rfl,by omega⟩
        · exact ⟨_,rfl,by omega⟩
      refine .lst (.of hl3) est ?_
      clear hl3 e3
      refine ⟨rfl,?_⟩
      refine ⟨_,rfl,p,a,7,rfl,hP.but b3 v3,by decide,by decide,fun r4 H4 h40 h41 v4 e4=>⟨r4,rfl,by omega,by omega,?_⟩⟩
      have b4:=b3.trans (But.of_eq e4)
      refine comp_range (fun D i acc σ' H'=>∃ o ys,σ' = [o,some (.str "abcdefghijklmnopqrstuvwxyz"),some (.ref p)]∧acc = List.map V.str ys∧ys.length = i∧(∀ y∈ys,y.length = 1∧Low y)∧PenV H' p a∧But p H H'∧H D = none∧p≠D) fun D hD=>⟨?_,?_,?_⟩
      · have hDp:=v4.ne hD
        have hD0:=b4.free (Ne.symm hDp) hD
        exact ⟨none,[],rfl,rfl,rfl,(fun y hy=>by cases hy),v4.upd hDp,b4.at hD0,hD0,hDp⟩
      · rintro i acc σ' H' hi ⟨o, ys, rfl, rfl, hl, hys, v, b, hD0, hDp⟩ hacc
        refine gYes ?_
        refine ⟨_,rfl,_,rfl,p,a,26,rfl,hP.but b v,by decide,by decide,fun r5 H5 h50 h51 v5 e5=>?_⟩
        refine .str lL (let_at h50 h51) ⟨(e5 D (Ne.symm hDp)).trans hacc,?_,_,ys++[⟨#[97 + r5.toNat]⟩],rfl,by simp,by simp [hl],?_,v5.upd hDp,(b.trans (But.of_eq e5)).at hD0,hD0,hDp⟩
        · rw [List.length_map,hl];exact small1000 (by omega)
        · intro y hy
          rcases List.mem_append.mp hy with hy | hy
          · exact hys y hy
          · have : y = ⟨#[97 + r5.toNat]⟩:=by simpa using hy
            subst this
            exact ⟨rfl,(one_nm (by omega) (by omega)).2.2⟩
      · rintro acc σ' H5 ⟨o, ys, rfl, rfl, hl, hys, v5, b5, hD0, hDp⟩ hacc
        have hsum:=sum_le (n:=1) fun y hy=>Nat.le_of_eq (hys y hy).1
        have hlj:=len_join "" ys
        have e0 : ("" : Str).length = 0:=by decide +kernel
        have hj : Low (Txt.join "" ys):=Low.join (fun c hc=>by
          have hc : c∈("" : Str).cps.toList:=hc
          rw [show ("" : Str).cps.toList = [] by decide +kernel] at hc
          cases hc) fun y hy=>(hys y hy).2
        rw [e0] at hlj
        refine ⟨_,D,ys,rfl,rfl,hacc,by rw [e0];omega,?_⟩
        have htl : (Txt.join "" ys).length≤6:=by omega
        generalize Txt.join "" ys = z at hj htl ⊢
        have hz : z.length≤sizeLine:=Nat.le_of_lt (small1000 (by omega))
        refine ⟨(by show 0≤sizeLine;decide),fun fl hfl=>?_⟩
        have hpf:=v5.ne hfl
        have hf0:=b5.free (Ne.symm hpf) hfl
        refine ⟨_,rfl,_,rfl,by omega,by omega,?_⟩
        refine for_range (fun i σ H'=>∃ o7 o8 o9 ss,σ = [some (.ref p),some (.int (m : Int)),some (.str "abcdefghijklmnopqrstuvwxyz"),some (.int r1),some (.int st),some (.str z),some (.ref fl),o7,o8,o9]∧H' fl = some (.lst (List.map V.str ss))∧ss.length = i ∧
            (∀ (j : Nat) (s : Str),ss[j]? = some s→∃ (c d : Nat) (x : Str),s = ⟨#[c]⟩++⟨#[d]⟩++x∧(c : Int) = 97 + (r1 + st * (j : Int)) % 676 / 26∧(d : Int) = 97 + (r1 + st * (j : Int)) % 676 % 26)∧(∀ s∈ss,Nm s)∧ss.Nodup∧PenV H' p a∧But p H H')
          ⟨none,none,none,[],rfl,upd_same,rfl,(fun j s e=>by simp at e),(fun s hs=>by cases hs),List.nodup_nil,v5.upd hpf,b5.at hf0⟩ ?_ ?_
        · rintro i σ H6 hi ⟨o7, o8, o9, ss, rfl, hf, hl6, hj6, hnm, hnd6, v6, b6⟩
          refine ⟨_,rfl,_,rfl,_,rfl,_,_,rfl,rfl,.inl ⟨by omega,by omega⟩,.int ⟨_,_,rfl,rfl,(by show (0 : Int) < _;decide),?_⟩⟩
          have n0:=Int.emod_nonneg (r1 + st * (0 + (i : Nat) : Int)) (show (676 : Int)≠0 by decide)
          have n1:=Int.emod_lt_of_pos (r1 + st * (0 + (i : Nat) : Int)) (show (0 : Int) < 676 by decide)
          have hnew : ∀ j : Nat,j < i→(r1 + st * (j : Int)) % 676≠(r1 + st * (0 + (i : Nat) : Int)) % 676:=fun j hj=>num_inj hst hj (by omega)
          have hnum : (r1 + st * (0 + (i : Nat) : Int)) % 676 = (r1 + st * (i : Int)) % 676:=by rw [Int.zero_add]
          refine ⟨_,rfl,_,rfl,_,_,rfl,⟨hz,rfl⟩,.int ⟨p,a,_,rfl,hP.but b6 v6,by omega,by omega,fun r7 H7 h70 h71 v7 e7=>?_⟩⟩
          have hf7 : H7 fl = some (.lst (List.map V.str ss)):=(e7 fl (Ne.symm hpf)).trans hf
          have b7:=b6.trans (But.of_eq e7)
          have sl:=Txt.slice_le z none (some r7)
          have q0 : 0≤((r1 + st * (0 + (i : Nat) : Int)) % 676) / 26∧((r1 + st * (0 + (i : Nat) : Int)) % 676) / 26 < 26:=by omega
          have q1 : 0≤((r1 + st * (0 + (i : Nat) : Int)) % 676) % 26∧((r1 + st * (0 + (i : Nat) : Int)) % 676) % 26 < 26:=by omega
          refine ⟨_,rfl,.inl ⟨rfl,_,.of hf7⟩,?_⟩
          refine ⟨_,rfl,_,rfl,_,_,rfl,rfl,⟨by decide,by decide⟩,.str lL (let_at q0.1 q0.2) ⟨_,rfl,_,rfl,_,_,rfl,rfl,(by show (0 : Int) < _;decide),.str lL (let_at q1.1 q1.2) (.str (by show 1 + 1≤sizeLine;decide) ⟨_,rfl,_,rfl,_,rfl,.str hz (.str ?_ ⟨fl,_,_,rfl,rfl,hf7,?_,?_⟩)⟩)⟩⟩
          · rw [len_app]
            have:=small1000 (n:=8) (by omega)
            show 1 + 1 + _≤sizeLine
            omega
          · rw [List.length_map,hl6];exact small1000 (by omega)
          · refine ⟨_, _, _, ss ++ [⟨#[97 + (((r1 + st * (0 + (i : Nat) : Int)) % 676) / 26).toNat]⟩ ++ ⟨#[97 + (((r1 + st * (0 + (i : Nat) : Int)) % 676) % 26).toNat]⟩ ++ Txt.slice z none (some r7)], rfl, ?_, by simp [hl6], ?_, ?_, ?_, v7.upd hpf, b7.at hf0⟩
            · rw [upd_same];simp
            · intro j s e
              by_cases q : j < ss.length
              · rw [List.getElem?_append_left q] at e
                exact hj6 j s e
              · rw [List.getElem?_append_right (by omega)] at e
                have : j = i:=by
                  have:=(List.getElem?_eq_some_iff.mp e).1
                  simp at this
                  omega
                subst this
                rw [hl6,Nat.sub_self] at e
                cases e
                exact ⟨_,_,_,rfl,by omega,by omega⟩
            · intro s hs
              rcases List.mem_append.mp hs with hs | hs
              · exact hnm s hs
              · rw [List.mem_singleton.mp hs]
                exact two_nm (by omega) (by omega) (by omega) (hj.slice _ _)
            · refine nodup_snoc hnd6 fun hm=>?_
              obtain ⟨j,hjl,e⟩:=List.mem_iff_getElem.mp hm
              obtain ⟨c,d,x,ec,hc,hd⟩:=hj6 j _ (List.getElem?_eq_getElem hjl)
              rw [e] at ec
              obtain ⟨e1,e2⟩:=two_inj ec
              refine hnew j (by omega) ?_
              omega
        · rintro σ H6 ⟨o7,o8,o9,ss,rfl,hf,hl6,hj6,hnm,hnd6,v6,b6⟩
          exact ⟨_,rfl,k fl ss H6 (by simpa using hl6) hnd6 hnm hf (Ne.symm hpf) v6 b6⟩
end
end K70
namespace K70
open PySem L2
section
variable {P : Program} {w : World} {K : PySem.W.Frag} {mg : Str→Option Value} {base : Heap}
def natV (xs : List Nat) : List V:=xs.map fun x : Nat=>V.int (x : Int)
theorem Rep.tieBut {H H' : Hp} {p : Addr} {ys : List V} (hp : H p = some (.lst ys)) (b : But p H H') {v : V} {e : Nat × Nat} (h : Rep H v (tieD e)) : Rep H' v (tieD e):=by
  obtain ⟨a,rfl,ha⟩:=tie_at h
  exact tie_rep (b a _ (ne_of ha hp (by intro z;cases z)) ha)
theorem RepAll.tieBut {H H' : Hp} {p : Addr} {ys : List V} (hp : H p = some (.lst ys)) (b : But p H H') : ∀ {es : List (Nat × Nat)} {xs : List V},RepAll H xs (es.map tieD)→RepAll H' xs (es.map tieD)
  | [],xs,h=>by rw [RepAll.nilI h];exact .nil
  | e::es,xs,h=>by
    obtain ⟨y,ys',rfl,a,c⟩:=RepAll.consI h
    exact .cons (Rep.tieBut hp b a) (RepAll.tieBut hp b c)
theorem penAt {H : Hp} {p a : Addr} (v : PenV H p a) : ∃ ys,H p = some (.lst ys):=let ⟨_,_,e,_⟩:=v;⟨_,e⟩
theorem nat_at {xs : List Nat} {i : Nat} (h : i < xs.length) : atI (natV xs) (i : Int) = some (.int ((xs[i] : Nat) : Int)):=atI_nat (by simp [natV,h])
theorem natV_len (xs : List Nat) : (natV xs).length = xs.length:=by simp [natV]
theorem ins_perm {α : Type} (xs : List α) (j : Nat) (x : α) : (xs.take j++x::xs.drop j).Perm (x::xs):=by
  refine List.perm_middle.trans ?_
  rw [List.take_append_drop]
def spTies (K : PySem.W.Frag) : Sp:=fun vs H Q _=>∃ (p a : Addr) (n c : Nat) (kd : Int),vs = [.ref p,.int (n : Int),.int (c : Int),.int kd]∧Pen K H p a∧(0 < n∨c = 0)∧n≤60∧c≤400∧(kd = 0∨kd = 1) ∧
  ∀ (l : Addr) (refs : List V) (es : List (Nat × Nat)) (H' : Hp),H' l = some (.lst refs)→RepAll H' refs (es.map tieD)→(∀ e∈es,e.1 < n∧e.2 < n)→es.length≤c→es.Nodup→(kd = 1→MG.Fwd es)→l≠p→PenV H' p a→But p H H'→Q (.ref l) H'
theorem scTies : FnScope ["_law_pen","_law_size","_law_count","_law_kind","_law_line","_law_k","_law_found","_law_one","_law_other"] ["_law_pen","_law_size","_law_count","_law_kind"] (defScope sTies):=⟨rfl,rfl,rfl,by decide +kernel,rfl,by decide +kernel,by decide +kernel⟩
theorem ok_ties {f : Addr} {fd : FuncData} (F : Fun K "_law_ties" "_law_ties" sTies f fd) (B : Blt mg) (c_law_take : Cal P w K mg base 1 "_law_take" ["_law_pen", "_law_many"] (spDraw K)) : FnOk P w K mg base CX0 2 f fd ["_law_pen", "_law_size", "_law_count", "_law_kind"] (spTies K) := by
  refine F.ok scTies (fun vs H Q E h=>?_) (fun cdv A outer s H vs Q E hr h=>?_)
  · obtain ⟨p,a,n,c,kd,rfl,_⟩:=h
    rfl
  · obtain ⟨p, a, n, c, kd, rfl, hP, hn0, hn, hc, hkd, k⟩ := h
    have nd:=scTies.nd
    have v0:=hP.2
    refine ⟨_,(pss_cons (pst 4 nd (pe_lst pa_nil))
      (pss_cons (ps_for PassesOwn.never rfl (pi_range1 rfl B.range (p1 (pv 1))) (pg_name (i:=5) nd rfl (Or.inl rfl)) (pss_one (ps_expr (m_insert K (pv 4) (p2 (pc c_law_take hr (p2 (pv 0) (pe_op op_addX (pv 5) pe_int))) (pv 5))))))
      (pss_cons (pst 6 nd (pe_lst pa_nil))
      (pss_cons (ps_for PassesOwn.never rfl (pi_range1 rfl B.range (p1 (pv 2))) (pg_name (i:=5) nd rfl (Or.inl rfl)) (pss_cons (pst 7 nd (pc c_law_take hr (p2 (pv 0) (pv 1))))
      (pss_cons (pst 8 nd (pc c_law_take hr (p2 (pv 0) (pv 1))))
      (pss_cons (ps_if (pt_cmpR (op_eqX hr.units) (pc c_law_take hr (p2 (pv 0) pe_int)) pe_int (nomark _)) (pss_one (pst 8 nd (pe_op op_mod (pe_op op_addX (pv 7) pe_int) (pv 1)))) pss_nil)
      (pss_cons (ps_if (PW.pt (pw_and (pt_cmpR op_gt (pv 3) pe_int (nomark _)) (pw_and1 (pt_cmpR op_gt (pv 7) (pv 8) (nomark _))))) (pss_one (ps_par (i:=7) (j:=8) rfl nd rfl rfl (by decide) rfl rfl (p2 (pv 8) (pv 7)) rfl)) pss_nil)
      (pss_one (ps_if (PW.pt (pw_and (PW.pt (pw_or (pt_cmpR (op_eqX hr.units) (pv 3) pe_int (nomark _)) (pw_or1 (pt_cmpR op_ltX (pv 7) (pv 8) (nomark _))))) (pw_and1 (pt_cmpR (op_notInX K hr.units) (pe_tup (p2 (px K hr (pv 4) (pv 7)) (px K hr (pv 4) (pv 8)))) (pv 6) (by with_unfolding_all rfl))))) (pss_one (ps_expr (m_append K (pv 6) (p1 (pe_tup (p2 (px K hr (pv 4) (pv 7)) (px K hr (pv 4) (pv 8)))))))) pss_nil)))))))
      (pss_cons (ps_if (PW.pt (pw_and (pt_cmpR (op_eqX hr.units) (pv 3) pe_int (nomark _)) (pw_and1 (pt_cmpR (op_neX hr.units) (pv 6) (pe_lst pa_nil) (nomark _))))) (pss_cons (ps_asg (px K hr (pv 6) (pc c_law_take hr (p2 (pv 0) (b_len K B (p1 (pv 6)))))) (pg_tupK (n:=2) K rfl (pgs_cons (pg_name (i:=7) nd rfl (Or.inl rfl)) (pgs_cons (pg_name (i:=8) nd rfl (Or.inl rfl)) pgs_nil))))
      (pss_one (ps_if (PW.pt (pw_and (pt_cmpR (op_notInX K hr.units) (pe_tup (p2 (pv 8) (pv 7))) (pv 6) (by with_unfolding_all rfl)) (pw_and1 (pt_cmpR op_ltX (b_len K B (p1 (pv 6))) pe_int (nomark _))))) (pss_one (ps_expr (m_insert K (pv 6) (p2 (pc c_law_take hr (p2 (pv 0) (pe_op op_addX (b_len K B (p1 (pv 6))) pe_int))) (pe_tup (p2 (pv 8) (pv 7))))))) pss_nil))) pss_nil)
      (pss_one (ps_ret (pv 6)))))))),?_⟩
    refine ⟨(by show 0≤sizeLine;decide),fun lo hlo=>?_⟩
    have hpo:=v0.ne hlo
    refine ⟨_,rfl,_,rfl,by omega,by omega,?_⟩
    refine for_range (fun i σ H'=>∃ o5 xs,σ = [some (.ref p),some (.int (n : Int)),some (.int (c : Int)),some (.int kd),some (.ref lo),o5,none,none,none]∧H' lo = some (.lst (natV xs))∧xs.length = i∧(∀ x∈xs,x < i)∧xs.Nodup∧PenV H' p a∧But p H H')
      ⟨none,[],rfl,upd_same,rfl,(fun x hx=>by cases hx),List.nodup_nil,v0.upd hpo,(But.refl p H).at hlo⟩ ?_ ?_
    · rintro i σ H1 hi ⟨o5,xs,rfl,ho1,hl1,hx1,hnd1,v1,b1⟩
      have hi : i < n:=by simpa using hi
      refine ⟨_,rfl,.inl ⟨rfl,_,.of ho1⟩,_,rfl,_,rfl,.int ⟨p,a,_,rfl,hP.but b1 v1,by omega,by omega,fun r H2 h0 h1 v2 e2=>?_⟩⟩
      obtain ⟨j,rfl⟩:=Int.eq_ofNat_of_zero_le h0
      have ho2 : H2 lo = some (.lst (natV xs)):=(e2 lo (Ne.symm hpo)).trans ho1
      have hln:=natV_len xs
      refine ⟨_,rfl,lo,_,_,j,_,rfl,rfl,rfl,ho2,by omega,by rw [hln];exact small1000 (by omega),?_⟩
      have pm:=ins_perm xs j i
      refine ⟨_,xs.take j++i::xs.drop j,rfl,?_,?_,?_,?_,v2.upd hpo,(b1.trans (But.of_eq e2)).at hlo⟩
      · rw [upd_same]
        simp [natV,List.map_take,List.map_drop]
      · rw [pm.length_eq,List.length_cons,hl1]
      · intro x hx
        rcases List.mem_cons.mp (pm.mem_iff.mp hx) with rfl | hx
        · omega
        · have:=hx1 x hx;omega
      · exact pm.nodup_iff.mpr (List.nodup_cons.mpr ⟨fun z=>by have:=hx1 _ z;omega,hnd1⟩)
    · rintro σ H1 ⟨o5, xs, rfl, ho1, hl1, hx1, hnd1, v1, b1⟩
      have hl1 : xs.length = n:=by simpa using hl1
      have hx1 : ∀ x∈xs,x < n:=fun x hx=>by simpa using hx1 x hx
      refine ⟨(by show 0≤sizeLine;decide),fun lf hlf=>?_⟩
      have hpf:=v1.ne hlf
      have hf0:=b1.free (Ne.symm hpf) hlf
      have hof : lo≠lf:=ne_of_none ho1 hlf
      refine ⟨_,rfl,_,rfl,by omega,by omega,?_⟩
      refine for_range (fun i σ H'=>∃ o5 o7 o8 refs es,σ = [some (.ref p),some (.int (n : Int)),some (.int (c : Int)),some (.int kd),some (.ref lo),o5,some (.ref lf),o7,o8]∧H' lo = some (.lst (natV xs))∧H' lf = some (.lst refs)∧RepAll H' refs (es.map tieD)∧(∀ e∈es,e.1 < n∧e.2 < n)∧es.length≤i∧es.Nodup∧(kd = 1→∀ e∈es,MG.ix xs e.1 < MG.ix xs e.2)∧PenV H' p a∧But p H H')
        ⟨_,none,none,[],[],rfl,by rw [upd_ne hof];exact ho1,upd_same,.nil,(fun e he=>by cases he),Nat.le_refl _,List.nodup_nil,(fun _ e he=>by cases he),v1.upd hpf,b1.at hf0⟩ ?_ ?_
      · rintro i σ H2 hi ⟨o5, o7, o8, refs, es, rfl, ho2, hf2, rp2, he2, hl2, hd2, hk2, v2, b2⟩
        have hi : i < c:=by simpa using hi
        have hn0 : 0 < n:=by omega
        have hn62 : ((n : Nat) : Int) < 1073741824:=by omega
        refine ⟨_,rfl,_,rfl,p,a,_,rfl,hP.but b2 v2,by omega,hn62,fun r1 H3 h10 h11 v3 e3=>?_⟩
        have b3:=b2.trans (But.of_eq e3)
        refine ⟨_,rfl,_,rfl,p,a,_,rfl,hP.but b3 v3,by omega,hn62,fun r2 H4 h20 h21 v4 e4=>?_⟩
        have b4:=b3.trans (But.of_eq e4)
        obtain ⟨n1,rfl⟩:=Int.eq_ofNat_of_zero_le h10
        obtain ⟨n2,rfl⟩:=Int.eq_ofNat_of_zero_le h20
        refine ⟨_,rfl,p,a,2,rfl,hP.but b4 v4,by decide,by decide,fun r3 H5 h30 h31 v5 e5=>.sc rfl ⟨_,rfl,?_⟩⟩
        have b5:=b4.trans (But.of_eq e5)
        have ho5 : H5 lo = some (.lst (natV xs)):=by rw [e5 lo (Ne.symm hpo),e4 lo (Ne.symm hpo),e3 lo (Ne.symm hpo)];exact ho2
        have hf5 : H5 lf = some (.lst refs):=by rw [e5 lf (Ne.symm hpf),e4 lf (Ne.symm hpf),e3 lf (Ne.symm hpf)];exact hf2
        have rp5 : RepAll H5 refs (es.map tieD):=by
          obtain ⟨_,hpv⟩:=penAt v2
          exact RepAll.tieBut hpv (((But.of_eq e3).trans (But.of_eq e4)).trans (But.of_eq e5)) rp2
        clear e3 e4 e5 b3 b4 v3 v4 ho2 hf2 rp2
        have g1 : n1 < n:=by omega
        refine ite2 (fun _=>?a) (fun _=>?b)
        case' a =>
          refine ⟨_,rfl,.int ⟨_,rfl,_,_,rfl,rfl,(by show (0 : Int) < (n : Int);omega),?_⟩⟩
          have g0:=Int.emod_nonneg ((n1 : Int) + 1) (show (n : Int)≠0 by omega)
          have g2:=Int.emod_lt_of_pos ((n1 : Int) + 1) (show (0 : Int) < (n : Int) by omega)
          obtain ⟨o,eo⟩:=Int.eq_ofNat_of_zero_le g0
          have ho : o < n:=by omega
          dsimp only
          rw [eo]
        case' b =>
          have ho : n2 < n:=by omega
          obtain ⟨o,rfl⟩ : ∃ o,o = n2:=⟨_,rfl⟩
        all_goals
          refine ⟨_,rfl,_,_,rfl,rfl,_,rfl,?_⟩
          refine ite2 (fun _=>?_) (fun _=>?_)
          all_goals first
            | (refine ⟨_,rfl,_,rfl,_,_,rfl,rfl,_,rfl,?_⟩
               refine ite2 (fun _=>?_) (fun _=>?_))
            | refine iteF ?_
          all_goals first
            | (refine ⟨_,rfl,_,rfl,_,_,rfl,?_⟩
               have g1':=g1
               have g1:=ho
               have ho:=g1'
               clear g1'
               obtain ⟨x,rfl⟩ : ∃ x,x = o:=⟨_,rfl⟩
               obtain ⟨y,rfl⟩ : ∃ y,y = n1:=⟨_,rfl⟩)
            | (obtain ⟨x,rfl⟩ : ∃ x,x = n1:=⟨_,rfl⟩
               obtain ⟨y,rfl⟩ : ∃ y,y = o:=⟨_,rfl⟩)
          all_goals
            have ax:=nat_at (xs:=xs) (i:=x) (by omega)
            have ay:=nat_at (xs:=xs) (i:=y) (by omega)
            refine ⟨_,rfl,.sc rfl ⟨_,rfl,?_⟩⟩
            refine ite2 (fun hk0=>?_) (fun hk0=>?_)
            all_goals first
              | (have hk0 : V.int kd = V.int 0:=of_decide_eq_true hk0
                 have hxy : kd = 1→x < y:=fun z=>by rw [z] at hk0;cases hk0
                 refine iteT ?_)
              | (refine ⟨_,rfl,_,rfl,.int ⟨_,rfl,?_⟩⟩
                 refine ite2 (fun hxy=>?_) (fun hxy=>?_))
            all_goals first
              | (have hxy : kd = 1 → x < y := fun _ => by
                   have z : (x : Int) < (y : Int):=of_decide_eq_true hxy
                   omega)
              | skip
            all_goals first
              | exact iteF ⟨_,_,_,refs,es,rfl,ho5,hf5,rp5,he2,by omega,hd2,hk2,v5,b5⟩
              | skip
            all_goals
              refine ⟨_,rfl,_,rfl,.lst (.of ho5) ax ⟨_,rfl,_,rfl,.lst (.of ho5) ay ⟨(by show 2≤sizeLine;decide),fun tq htq=>?_⟩⟩⟩
              have sq:=Same.new (o:=.tup [V.int ((xs[x] : Nat) : Int),V.int ((xs[y] : Nat) : Int)]) htq
              have hpq:=v5.ne htq
              refine ⟨_,rfl,.tr (sq _ _ hf5) (rp5.same sq) (tie_rep (i:=xs[x]) (j:=xs[y]) upd_same) (canLay_ties es) rfl (by show 1≤16;decide) ⟨_,rfl,?_⟩⟩
              have ho6:=sq _ _ ho5
              have hf6:=sq _ _ hf5
              have rp6:=rp5.same sq
              have v6 : PenV _ p a:=v5.upd (o:=.tup [V.int ((xs[x] : Nat) : Int),V.int ((xs[y] : Nat) : Int)]) hpq
              have b6:=b5.at (o:=.tup [V.int ((xs[x] : Nat) : Int),V.int ((xs[y] : Nat) : Int)]) (b5.free (Ne.symm hpq) htq)
              generalize upd H5 tq (.tup [V.int ((xs[x] : Nat) : Int),V.int ((xs[y] : Nat) : Int)]) = H6 at ho6 hf6 rp6 v6 b6 ⊢
              rw [any_tie]
              refine ite2 (fun hnin=>?_) (fun _=>?_)
              · refine ⟨_, rfl, .inl ⟨rfl, _, .of hf6⟩, ?_⟩
                refine ⟨_,rfl,_,rfl,.lst (.of ho6) ax ⟨_,rfl,_,rfl,.lst (.of ho6) ay ⟨(by show 2≤sizeLine;decide),fun tr htr=>?_⟩⟩⟩
                have sr:=Same.new (o:=.tup [V.int ((xs[x] : Nat) : Int),V.int ((xs[y] : Nat) : Int)]) htr
                have hpr:=v6.ne htr
                have hlr : lf≠tr:=ne_of_none hf6 htr
                have rlen:=rp6.len
                rw [List.length_map] at rlen
                refine ⟨lf,_,_,rfl,rfl,sr _ _ hf6,by rw [rlen];exact small1000 (by omega),?_⟩
                refine ⟨_,_,_,refs++[.ref tr],es++[(xs[x],xs[y])],rfl,?_,upd_same,?_,?_,?_,?_,?_,?_,?_⟩
                · rw [upd_ne hof];exact sr _ _ ho6
                · rw [List.map_append]
                  refine RepAll.append ?_ (.cons ?_ .nil)
                  · exact RepAll.tieBut (p:=lf) (sr _ _ hf6) But.upd (rp6.same sr)
                  · refine tie_rep ?_
                    rw [upd_ne (Ne.symm hlr)];exact upd_same
                · intro e he
                  rcases List.mem_append.mp he with he | he
                  · exact he2 e he
                  · rw [List.mem_singleton.mp he]
                    exact ⟨hx1 _ (List.getElem_mem _),hx1 _ (List.getElem_mem _)⟩
                · rw [List.length_append];show _ + 1≤_;omega
                · exact nodup_snoc hd2 (by simpa using hnin)
                · intro z e he
                  rcases List.mem_append.mp he with he | he
                  · exact hk2 z e he
                  · rw [List.mem_singleton.mp he]
                    show MG.ix xs xs[x] < MG.ix xs xs[y]
                    rw [MG.ix_at hnd1 (i:=x) (List.getElem?_eq_getElem _),MG.ix_at hnd1 (i:=y) (List.getElem?_eq_getElem _)]
                    exact hxy z
                · exact (v6.upd hpr).upd hpf
                · exact (b6.at (b6.free (Ne.symm hpr) htr)).at hf0
              · exact ⟨_,_,_,refs,es,rfl,ho6,hf6,rp6,he2,by omega,hd2,hk2,v6,b6⟩
      · rintro σ H2 ⟨o5,o7,o8,refs,es,rfl,ho2,hf2,rp2,he2,hl2,hd2,hk2,v2,b2⟩
        have hl2 : es.length≤c:=by simpa using hl2
        have rlen:=rp2.len
        rw [List.length_map] at rlen
        have hfw : kd = 1→MG.Fwd es:=fun z=>⟨MG.ix xs,hk2 z⟩
        refine ⟨_,rfl,.sc rfl ⟨_,rfl,?_⟩⟩
        refine ite2 (fun hk=>?_) (fun _=>?_)
        · have hk : V.int kd = V.int 2:=of_decide_eq_true hk
          exact absurd hk (by rcases hkd with rfl | rfl <;> (intro z;cases z))
        · exact iteF ⟨_,rfl,k lf refs es H2 hf2 rp2 he2 hl2 hd2 hfw (Ne.symm hpf) v2 b2⟩
structure Built (H : Hp) (n t : Addr) (ss : List Str) (es : List (Nat × Nat)) : Prop where
  nm : H n = some (.lst (List.map V.str ss))
  nd : ss.Nodup
  ok : ∀ s∈ss,Nm s
  len : ss.length≤60
  ti : ∃ refs,H t = some (.lst refs)∧RepAll H refs (es.map tieD)
  val : ∀ e∈es,e.1 < ss.length∧e.2 < ss.length
  few : es.length≤401
theorem Built.same {H H' : Hp} {n t : Addr} {ss : List Str} {es : List (Nat × Nat)} (h : Built H n t ss es) (s : Same H H') : Built H' n t ss es :=
  ⟨s _ _ h.nm,h.nd,h.ok,h.len,let ⟨refs,a,b⟩:=h.ti;⟨refs,s _ _ a,b.same s⟩,h.val,h.few⟩
def nmP (ss : List Str) (e : Nat × Nat) : Str × Str:=(ss.getD e.1 "",ss.getD e.2 "")
theorem str_at {ss : List Str} {i : Nat} (h : i < ss.length) : atI (List.map V.str ss) (i : Int) = some (.str (ss.getD i "")):=atI_nat (by simp [h,List.getD_eq_getElem?_getD])
theorem Rep.pairBut {H H' : Hp} {p : Addr} {ys : List V} (hp : H p = some (.lst ys)) (b : But p H H') {v : V} {e : Str × Str} (h : Rep H v (pairD e)) : Rep H' v (pairD e):=by
  obtain ⟨a,rfl,ha⟩:=pair_at h
  exact pair_rep (b a _ (ne_of ha hp (by intro z;cases z)) ha)
theorem RepAll.pairBut {H H' : Hp} {p : Addr} {ys : List V} (hp : H p = some (.lst ys)) (b : But p H H') : ∀ {es : List (Str × Str)} {xs : List V},RepAll H xs (es.map pairD)→RepAll H' xs (es.map pairD)
  | [],xs,h=>by rw [RepAll.nilI h];exact .nil
  | e::es,xs,h=>by
    obtain ⟨y,ys',rfl,a,c⟩:=RepAll.consI h
    exact .cons (Rep.pairBut hp b a) (RepAll.pairBut hp b c)
theorem gYes2 {x : V} {q : Addr} {u v : V} {σ : St} {H : Hp} {A B : St→Hp→Prop} (hx : x = .ref q) (hq : SqT K H q [u,v]) (h : A ((σ.set 0 (some u)).set 1 (some v)) H) :
    gTup K 2 (gCons (gName 0) (gCons (gName 1) gNil)) x σ H fun σ2 H3=>tYes σ2 H3 fun b H4=>if b = true then A σ2 H4 else B σ2 H4:=by
  subst hx
  refine ⟨q,_,rfl,hq,rfl,_,_,rfl,_,_,rfl,rfl,?_⟩
  show (if true = true then A ((σ.set 0 (some u)).set 1 (some v)) H else B ((σ.set 0 (some u)).set 1 (some v)) H)
  rw [if_pos rfl]
  exact h
def spWeb : Sp:=fun vs H Q _=>∃ n t ss es,vs = [.ref n,.ref t]∧Built H n t ss es∧∀ q H',Same H H'→Rep H' (.ref q) (webD ss (es.map (nmP ss)))→Q (.ref q) H'
theorem scWeb : FnScope ["_law_names_here","_law_ties_here"] ["_law_names_here","_law_ties_here"] (defScope sWeb):=⟨rfl,rfl,rfl,by decide +kernel,rfl,by decide +kernel,by decide +kernel⟩
theorem ok_web {f : Addr} {fd : FuncData} (F : Fun K "_law_web" "_law_web" sWeb f fd) (B : Blt mg) : FnOk P w K mg base CX0 1 f fd ["_law_names_here", "_law_ties_here"] spWeb := by
  refine F.ok scWeb (fun vs H Q E h=>?_) (fun cdv A outer s H vs Q E hr h=>?_)
  · obtain ⟨n,t,ss,es,rfl,_⟩:=h
    rfl
  · obtain ⟨n, t, ss, es, rfl, hB, k⟩ := h
    have nd:=scWeb.nd
    refine ⟨_,(pss_one (ps_ret (pe_tup (p2 (b_tuple K B (p1 (pv 0))) (b_tuple K B (p1 (pe_comp (defScope sWeb) ["_law_names_here","_law_ties_here"] ["_law_one","_law_other"] [0] ["_law_one","_law_other","_law_names_here"] rfl (pi_listK K (pv 1)) (fun _ _ _ _ _=>(pg_tupK (n:=2) K rfl (pgs_cons (pg_name (i:=0) (show (["_law_one","_law_other","_law_names_here"] : List Str).Nodup by decide) rfl (Or.inl rfl)) (pgs_cons (pg_name (i:=1) (show (["_law_one","_law_other","_law_names_here"] : List Str).Nodup by decide) rfl (Or.inl rfl)) pgs_nil)))) (fun _ _ _ _ _=>pts_nil) (fun _ _ _ _ _=>(pe_tup (p2 (px K hr (pv 2) (pv 0)) (px K hr (pv 2) (pv 1)))))))))))),?_⟩
    refine ⟨_,rfl,n,_,rfl,.of hB.nm,fun l1 h1=>?_⟩
    have s1:=Same.new (o:=.tup (List.map V.str ss)) h1
    have e1 : upd H l1 (.tup (List.map V.str ss)) l1 = some (.tup (List.map V.str ss)):=upd_same
    have hB1:=hB.same s1
    generalize upd H l1 (.tup (List.map V.str ss)) = H1 at s1 e1 hB1 ⊢
    obtain ⟨refs,ht,rp⟩:=hB1.ti
    have rlen:=rp.len
    rw [List.length_map] at rlen
    refine ⟨_,rfl,t,rfl,⟨_,.of ht⟩,?_⟩
    refine comp_list refs (fun D i acc σ' H'=>∃ o1 o2,σ' = [o1,o2,some (.ref n)]∧RepAll H' acc (((es.take i).map (nmP ss)).map pairD)∧Same H1 H'∧H1 D = none) fun D hD=>⟨?_,?_,?_,?_⟩
    · exact ⟨none,none,rfl,.nil,Same.new hD,hD⟩
    · rintro i acc σ' H' _ ⟨o1,o2,rfl,_,sm,_⟩ _
      exact .of (sm _ _ ht)
    · rintro i acc σ' H' x hx ⟨o1,o2,rfl,rpa,sm,hD0⟩ hacc
      obtain ⟨d,hd,rd⟩:=(rp.same sm).get hx
      rw [List.getElem?_map] at hd
      obtain ⟨e,he,rfl⟩ : ∃ e,es[i]? = some e∧tieD e = d:=by
        cases q : es[i]? with
        | none=>rw [q] at hd;cases hd
        | some e=>rw [q] at hd;exact ⟨e,rfl,Option.some.inj hd⟩
      obtain ⟨ta,eta,hta⟩:=tie_at rd
      have hev:=hB1.val e (List.mem_of_getElem? he)
      have hn':=sm _ _ hB1.nm
      have alen:=rpa.len
      simp only [List.length_map,List.length_take] at alen
      have hil:=(List.getElem?_eq_some_iff.mp he).1
      refine gYes2 eta (.of hta) ?_
      refine ⟨_,rfl,_,rfl,.lst (.of hn') (str_at hev.1) ⟨_,rfl,_,rfl,.lst (.of hn') (str_at hev.2) ⟨(by show 2≤sizeLine;decide),fun q hq=>?_⟩⟩⟩
      have sq:=Same.new (o:=.tup [V.str (ss.getD e.1 ""),V.str (ss.getD e.2 "")]) hq
      have hDq : D≠q:=ne_of_none hacc hq
      refine ⟨sq _ _ hacc,small1000 (by have:=hB1.few;omega),_,_,rfl,?_,?_,hD0⟩
      · rw [List.take_add_one,he,List.map_append,List.map_append]
        refine RepAll.append (RepAll.pairBut (p:=D) (sq _ _ hacc) But.upd (rpa.same sq)) (.cons ?_ .nil)
        refine pair_rep ?_
        rw [upd_ne (Ne.symm hDq)];exact upd_same
      · intro b o hb
        rw [upd_ne (ne_of_none hb hD0)]
        exact sq _ _ (sm _ _ hb)
    · rintro acc σ' H' ⟨o1,o2,rfl,rpa,sm,hD0⟩ hacc
      rw [rlen,List.take_of_length_le (Nat.le_refl _)] at rpa
      refine ⟨D,_,rfl,.of hacc,fun l2 h2=>⟨(by show 2≤sizeLine;decide),fun q hq=>?_⟩⟩
      have s2:=Same.new (o:=.tup acc) h2
      have s3:=Same.new (o:=.tup [V.ref l1,V.ref l2]) hq
      refine k q _ ((s1.trans sm).trans (s2.trans s3)) (.tup upd_same (.cons (.tup ((sm.trans (s2.trans s3)) _ _ e1) (RepAll.of_strs ss)) (.cons (.tup (s3 _ _ upd_same) (rpa.same (s2.trans s3))) .nil)))
end
end K70
namespace K70
open PySem L2
section
variable {P : Program} {w : World} {K : PySem.W.Frag} {mg : Str→Option Value} {base : Heap}
theorem scSame : FnScope ["_law_found","_law_due"] ["_law_found","_law_due"] (defScope sSame):=⟨rfl,rfl,rfl,by decide +kernel,rfl,by decide +kernel,by decide +kernel⟩
theorem ok_same {f : Addr} {fd : FuncData} (F : Fun K "_law_same" "_law_same" sSame f fd) (B : Blt mg) : FnOk P w K mg base CX0 1 f fd ["_law_found","_law_due"] spSame:=by
  refine F.ok scSame (fun vs H Q E h=>?_) (fun cdv A outer s H vs Q E hr h=>?_)
  · obtain ⟨x,y,d,rfl,_⟩:=h
    rfl
  · obtain ⟨x,y,d,rfl,r1,r2,S,k⟩:=h
    have nd:=scSame.nd
    refine ⟨_,(pss_one (ps_ret (pe_and (pe_cmpR (op_eqX hr.units) (pv 0) (pv 1) (nomark _)) (pe_one (pe_cmpR (op_eqX hr.units) (b_repr hr.gd hr.units B (p1 (pv 0))) (b_repr hr.gd hr.units B (p1 (pv 1))) (nomark _)))))),?_⟩
    refine ⟨_,rfl,_,rfl,.tr r1 r2 S.sh S.sh ?_⟩
    rw [eqv_shp S.sh]
    refine ⟨_,rfl,?_⟩
    refine ite2 (fun _=>?_) (fun h=>absurd rfl h)
    refine ⟨_,rfl,_,rfl,.tr r1 S.sb S.hd S.dp S.ln ⟨_,rfl,_,rfl,.tr r2 S.sb S.hd S.dp S.ln (.sc rfl ?_)⟩⟩
    have : decide (V.str d.shown = V.str d.shown) = true:=decide_eq_true rfl
    show Q (.bl (decide (V.str d.shown = V.str d.shown))) _
    rw [this]
    exact k
end
end K70
namespace K70
open PySem L2
section
variable {P : Program} {w : World} {K : PySem.W.Frag} {mg : Str→Option Value} {base : Heap}
theorem scPlaces : FnScope ["things","places","place","thing"] ["things"] (defScope sPlaces):=⟨rfl,rfl,rfl,by decide +kernel,rfl,by decide +kernel,by decide +kernel⟩
theorem pair_get {H : Hp} {refs : List V} {ps : List (Str × Str)} (rp : RepAll H refs (ps.map pairD)) {j : Nat} {x : V} (hx : refs[j]? = some x) : ∃ e ta,ps[j]? = some e∧x = .ref ta∧H ta = some (.tup [.str e.1,.str e.2]):=by
  obtain ⟨d,hd,rd⟩:=rp.get hx
  rw [List.getElem?_map] at hd
  cases q : ps[j]? with
  | none=>rw [q] at hd;cases hd
  | some e =>
    rw [q] at hd
    have hd : pairD e = d:=Option.some.inj hd
    rw [← hd] at rd
    obtain ⟨ta,h1,h2⟩:=pair_at rd
    exact ⟨e,ta,rfl,h1,h2⟩
theorem str_get {ss : List Str} {i : Nat} {x : V} (h : (List.map V.str ss)[i]? = some x) : ∃ s,ss[i]? = some s∧V.str s = x:=by
  rw [List.getElem?_map] at h
  cases q : ss[i]? with
  | none=>rw [q] at h;cases h
  | some e=>rw [q] at h;exact ⟨e,rfl,Option.some.inj h⟩
structure PlN (H H' : Hp) (d : Addr) (xs : List Str) (i : Nat) (kvs : List (Key × V)) : Prop where
  sm : Same H H'
  at_ : H' d = some (.dK kvs)
  len : kvs.length≤i
  inn : ∀ s,(valV kvs (.inr s)).isSome = true ↔ s∈xs.take i
  ix : ∀ s v,valV kvs (.inr s) = some v→∃ j : Nat,v = .int j∧xs[j]? = some s
  nd : (kvs.map (·.1)).Nodup
  ks : ∀ k∈kvs.map (·.1),∃ s∈xs,k = Sum.inr s
theorem map_putK {kvs : List (Key × V)} {k : Key} {v : V} (h : (valV kvs k).isSome = true) : (putK kvs k v).map (·.1) = kvs.map (·.1):=by
  unfold putK
  rw [if_pos (by rw [valV_any];exact h),List.map_map]
  refine List.map_congr_left fun p _=>?_
  show (if p.1 = k then (p.1,v) else p).1 = p.1
  split <;> rfl
theorem PlN.step {H H' : Hp} {d p : Addr} {xs : List Str} {i : Nat} {kvs : List (Key × V)} {t : Str} {o : HO} (h : PlN H H' d xs i kvs) (hd : H d = none) (hp : H' p = none) (ht : xs[i]? = some t) :
    PlN H (upd (upd H' p o) d (.dK (putK kvs (.inr t) (.int (i : Nat))))) d xs (i + 1) (putK kvs (.inr t) (.int (i : Nat))):=by
  refine ⟨?_,upd_same,?_,?_,?_,?_,?_⟩
  · intro b o hb
    rw [upd_ne (ne_of_none hb hd)]
    exact Same.new hp _ _ (h.sm _ _ hb)
  · have:=length_putK kvs (.inr t) (V.int (i : Nat))
    have:=h.len
    omega
  · intro s
    rw [valV_put,List.take_add_one,ht,List.mem_append]
    by_cases q : s = t
    · subst q
      simp
    · rw [if_neg (fun z=>q (Sum.inr.inj z)),h.inn s]
      simp [q]
  · intro s v e
    rw [valV_put] at e
    by_cases q : s = t
    · subst q
      rw [if_pos rfl] at e
      exact ⟨i,(Option.some.inj e).symm,ht⟩
    · rw [if_neg (fun z=>q (Sum.inr.inj z))] at e
      exact h.ix s v e
  · cases q : valV kvs (.inr t) with
    | none=>exact nd_putK _ h.nd q
    | some v=>rw [map_putK (by rw [q];rfl)];exact h.nd
  · intro k hk
    cases q : valV kvs (.inr t) with
    | none =>
      rw [putK_new _ q,List.map_append] at hk
      rcases List.mem_append.mp hk with hk | hk
      · exact h.ks k hk
      · have : k = Sum.inr t:=by simpa using hk
        exact ⟨t,List.mem_of_getElem? ht,this⟩
    | some v=>rw [map_putK (by rw [q];rfl)] at hk;exact h.ks k hk
theorem ok_placesX {f : Addr} {fd : FuncData} (F : Fun K "places_of" "places_of" sPlaces f fd) (B : Blt mg) : FnOk P w K mg base CX0 1 f fd ["things"] spPlacesX := by
  refine F.ok scPlaces (fun vs H Q E h=>?_) (fun cdv A outer s H vs Q E hr h=>?_)
  · obtain ⟨x,rfl,_⟩:=h
    rfl
  · obtain ⟨x, rfl, h⟩ := h
    have nd:=scPlaces.nd
    cases h with
    | @nm a xs _ ha hl k =>
      refine ⟨_,(pss_cons (pst 1 nd pe_dnewK)
      (pss_cons (ps_for PassesOwn.never rfl (pi_enumX K rfl B.enumerate (p1 (pv 0))) (pg_tupK (n:=2) K rfl (pgs_cons (pg_name (i:=2) nd rfl (Or.inl rfl)) (pgs_cons (pg_name (i:=3) nd rfl (Or.inl rfl)) pgs_nil))) (pss_one (ps_asg (pv 2) (pg_sub (pv 1) (pv 3) (set_X hr.units)))))
      (pss_one (ps_ret (pv 1))))),?_⟩
      intro d hd
      have s0:=Same.new (o:=.dK []) hd
      have start : PlN H (upd H d (.dK [])) d xs 0 []:=⟨s0,upd_same,Nat.le_refl _,(fun s=>by simp [valV_nil]),(fun s v e=>by cases e),List.nodup_nil,(fun k hk=>by cases hk)⟩
      rcases ha with ha | ha
      · refine ⟨_,rfl,_,rfl,.lst (.of (s0 _ _ ha)) ?_⟩
        refine for_enum (xs:=List.map V.str xs) (fun i σ H'=>∃ o1 o2 kvs,σ = [some (.ref a),some (.ref d),o1,o2]∧PlN H H' d xs i kvs) ?_ ?_ ?_ ?_
        · exact ⟨none,none,[],rfl,start⟩
        · rintro i σ H' hi ⟨o1,o2,kvs,rfl,pl⟩
          exact .of (pl.sm _ _ ha)
        · rintro i x σ H' p hx ⟨o1,o2,kvs,rfl,pl⟩ hp
          obtain ⟨t,ht,rfl⟩:=str_get hx
          have hil:=(List.getElem?_eq_some_iff.mp ht).1
          have hdp : d≠p:=ne_of_none pl.at_ hp
          have:=pl.len
          refine ⟨p,_,rfl,.of upd_same,rfl,_,_,rfl,_,_,rfl,rfl,?_⟩
          exact ⟨_,rfl,_,rfl,_,rfl,.dic (DPut.k (k:=.inr t) (by rw [upd_ne hdp];exact pl.at_) (small1000 (by omega))) ⟨_,_,_,rfl,pl.step hd hp ht⟩⟩
        · rintro σ H' ⟨o1,o2,kvs,rfl,pl⟩
          have hin:=pl.inn
          rw [List.length_map,List.take_of_length_le (Nat.le_refl _)] at hin
          exact ⟨_,rfl,k d kvs H' pl.sm hd pl.at_ hin pl.ix pl.nd pl.ks⟩
      · refine ⟨_,rfl,_,rfl,.tup (.of (s0 _ _ ha)) ?_⟩
        refine for_enumT (xs:=List.map V.str xs) (fun i σ H'=>∃ o1 o2 kvs,σ = [some (.ref a),some (.ref d),o1,o2]∧PlN H H' d xs i kvs) ?_ ?_ ?_ ?_
        · exact ⟨none,none,[],rfl,start⟩
        · rintro i σ H' hi ⟨o1,o2,kvs,rfl,pl⟩
          exact .of (pl.sm _ _ ha)
        · rintro i x σ H' p hx ⟨o1,o2,kvs,rfl,pl⟩ hp
          obtain ⟨t,ht,rfl⟩:=str_get hx
          have hil:=(List.getElem?_eq_some_iff.mp ht).1
          have hdp : d≠p:=ne_of_none pl.at_ hp
          have:=pl.len
          refine ⟨p,_,rfl,.of upd_same,rfl,_,_,rfl,_,_,rfl,rfl,?_⟩
          exact ⟨_,rfl,_,rfl,_,rfl,.dic (DPut.k (k:=.inr t) (by rw [upd_ne hdp];exact pl.at_) (small1000 (by omega))) ⟨_,_,_,rfl,pl.step hd hp ht⟩⟩
        · rintro σ H' ⟨o1,o2,kvs,rfl,pl⟩
          have hin:=pl.inn
          rw [List.length_map,List.take_of_length_le (Nat.le_refl _)] at hin
          exact ⟨_,rfl,k d kvs H' pl.sm hd pl.at_ hin pl.ix pl.nd pl.ks⟩
    | @pr a refs ps _ ha rp hl k =>
      refine ⟨_,(pss_cons (pst 1 nd pe_dnewT)
      (pss_cons (ps_for PassesOwn.never rfl (pi_enumX K rfl B.enumerate (p1 (pv 0))) (pg_tupK (n:=2) K rfl (pgs_cons (pg_name (i:=2) nd rfl (Or.inl rfl)) (pgs_cons (pg_name (i:=3) nd rfl (Or.inl rfl)) pgs_nil))) (pss_one (ps_asg (pv 2) (pg_sub (pv 1) (pv 3) (set_X hr.units)))))
      (pss_one (ps_ret (pv 1))))),?_⟩
      have rlen:=rp.len
      rw [List.length_map] at rlen
      intro d hd
      have s0:=Same.new (o:=.dT []) hd
      have turn : ∀ (i : Nat) (e : Str × Str) (ta p : Addr) (H' : Hp) (kvs : List (List Key × V)), Same H H' → H' d = some (.dT kvs) → kvs.length ≤ i → i < ps.length → (∀ f : Str × Str, (valV kvs (pK f)).isSome = true ↔ f ∈ ps.take i) → ps[i]? = some e → H' p = none →
          Same H (upd (upd H' p (.tup [.int (i : Nat),.ref ta])) d (.dT (putK kvs (pK e) (.int (i : Nat)))))∧(putK kvs (pK e) (V.int (i : Nat))).length≤i + 1∧∀ f : Str × Str,(valV (putK kvs (pK e) (V.int (i : Nat))) (pK f)).isSome = true ↔ f∈ps.take (i + 1):=by
        intro i e ta p H' kvs sm hk hkl hi hin he hp
        refine ⟨?_,?_,fun f=>?_⟩
        · intro b o hb
          rw [upd_ne (ne_of_none hb hd)]
          exact Same.new hp _ _ (sm _ _ hb)
        · have:=length_putK kvs (pK e) (V.int (i : Nat))
          omega
        · rw [valV_put,List.take_add_one,he,List.mem_append]
          by_cases q : f = e
          · subst q;simp
          · rw [if_neg (fun z=>q (pK_inj z)),hin f]
            simp [q]
      rcases ha with ha | ha
      · refine ⟨_,rfl,_,rfl,.lst (.of (s0 _ _ ha)) ?_⟩
        refine for_enum (xs:=refs) (fun i σ H'=>∃ o1 o2 kvs,σ = [some (.ref a),some (.ref d),o1,o2]∧Same H H'∧H' d = some (.dT kvs)∧kvs.length≤i∧∀ f : Str × Str,(valV kvs (pK f)).isSome = true ↔ f∈ps.take i) ?_ ?_ ?_ ?_
        · exact ⟨none,none,[],rfl,s0,upd_same,Nat.le_refl _,fun s=>by simp [valV_nil]⟩
        · rintro i σ H' hi ⟨o1,o2,kvs,rfl,sm,_⟩
          exact .of (sm _ _ ha)
        · rintro i x σ H' p hx ⟨o1,o2,kvs,rfl,sm,hk,hkl,hin⟩ hp
          obtain ⟨e,ta,he,rfl,hta⟩:=pair_get (rp.same sm) hx
          have hil:=(List.getElem?_eq_some_iff.mp he).1
          have hdp : d≠p:=ne_of_none hk hp
          obtain ⟨g1,g2,g3⟩:=turn i e ta p H' kvs sm hk hkl hil hin he hp
          refine ⟨p,_,rfl,.of upd_same,rfl,_,_,rfl,_,_,rfl,rfl,?_⟩
          exact ⟨_,rfl,_,rfl,_,rfl,.dic (DPut.t (k:=pK e) (by rw [upd_ne hdp];exact hk) (Same.new hp _ _ hta) (small1000 (by omega))) ⟨_,_,_,rfl,g1,upd_same,g2,g3⟩⟩
        · rintro σ H' ⟨o1,o2,kvs,rfl,sm,hk,hkl,hin⟩
          rw [rlen,List.take_of_length_le (Nat.le_refl _)] at hin
          exact ⟨_,rfl,k d kvs H' sm hd hk hin⟩
      · refine ⟨_,rfl,_,rfl,.tup (.of (s0 _ _ ha)) ?_⟩
        refine for_enumT (xs:=refs) (fun i σ H'=>∃ o1 o2 kvs,σ = [some (.ref a),some (.ref d),o1,o2]∧Same H H'∧H' d = some (.dT kvs)∧kvs.length≤i∧∀ f : Str × Str,(valV kvs (pK f)).isSome = true ↔ f∈ps.take i) ?_ ?_ ?_ ?_
        · exact ⟨none,none,[],rfl,s0,upd_same,Nat.le_refl _,fun s=>by simp [valV_nil]⟩
        · rintro i σ H' hi ⟨o1,o2,kvs,rfl,sm,_⟩
          exact .of (sm _ _ ha)
        · rintro i x σ H' p hx ⟨o1,o2,kvs,rfl,sm,hk,hkl,hin⟩ hp
          obtain ⟨e,ta,he,rfl,hta⟩:=pair_get (rp.same sm) hx
          have hil:=(List.getElem?_eq_some_iff.mp he).1
          have hdp : d≠p:=ne_of_none hk hp
          obtain ⟨g1,g2,g3⟩:=turn i e ta p H' kvs sm hk hkl hil hin he hp
          refine ⟨p,_,rfl,.of upd_same,rfl,_,_,rfl,_,_,rfl,rfl,?_⟩
          exact ⟨_,rfl,_,rfl,_,rfl,.dic (DPut.t (k:=pK e) (by rw [upd_ne hdp];exact hk) (Same.new hp _ _ hta) (small1000 (by omega))) ⟨_,_,_,rfl,g1,upd_same,g2,g3⟩⟩
        · rintro σ H' ⟨o1,o2,kvs,rfl,sm,hk,hkl,hin⟩
          rw [rlen,List.take_of_length_le (Nat.le_refl _)] at hin
          exact ⟨_,rfl,k d kvs H' sm hd hk hin⟩
theorem placesX_of (vs : List V) (H : Hp) (Q : VK) (E : XK) (h : spPlaces vs H Q E) : spPlacesX vs H Q E:=by
  obtain ⟨a,xs,rfl,ha,hl,k⟩:=h
  exact ⟨_,rfl,.nm (.inl ha) hl fun d kvs H' s h0 h1 h2 h3 _ _=>k d kvs H' s h0 h1 h2 h3⟩
end
end K70
namespace K70
open PySem L2
section
variable {P : Program} {w : World} {K : PySem.W.Frag} {mg : Str→Option Value} {base : Heap}
theorem scIsName : FnScope ["thing"] ["thing"] (defScope sIsName):=⟨rfl,rfl,rfl,by decide +kernel,rfl,by decide +kernel,by decide +kernel⟩
theorem ok_isname {f : Addr} {fd : FuncData} {tk : Tok} (F : Fun K "is_name" "is_name" sIsName f fd) (B : Blt mg) (T : mg "MOST_SIGNS" = some (.int 8 tk)) : FnOk P w K mg base CX0 1 f fd ["thing"] spIsName := by
  refine F.ok scIsName (fun vs H Q E h=>?_) (fun cdv A outer s H vs Q E hr h=>?_)
  · obtain ⟨x,rfl,_⟩:=h
    rfl
  · obtain ⟨x, rfl, hx, k⟩ := h
    have nd:=scIsName.nd
    obtain ⟨t,ty,t1,_⟩:=ty_thg (K:=K) hx
    refine ⟨_,(pss_cons (ps_if (pt_not (pt_val (b_isi K "str" B (p2 (pv 0) (g_str B))))) (pss_one (ps_ret pe_bl)) pss_nil)
      (pss_cons (ps_if (PW.pt (pw_or (pt_cmpR op_ltX (b_len K B (p1 (pv 0))) pe_int (nomark _)) (pw_or1 (pt_cmpR op_gt (b_len K B (p1 (pv 0))) (pe_glob (v:=.int 8) rfl T ⟨_,rfl⟩) (nomark _))))) (pss_one (ps_ret pe_bl)) pss_nil)
      (pss_one (ps_ret (b_all rfl B (p1 (pe_comp (defScope sIsName) ["thing"] ["sign"] [] ["sign"] rfl (pi_str (pv 0)) (fun _ _ _ _ _=>(pg_name (i:=0) (show (["sign"] : List Str).Nodup by decide) rfl (Or.inl rfl))) (fun _ _ _ _ _=>pts_nil) (fun _ _ _ _ _=>(pe_chain op_leX op_leX pe_str (pv 0) pe_str))))))))),?_⟩
    refine ⟨_,rfl,x,t,_,rfl,ty,t1,_,rfl,?_⟩
    refine ite2 (fun hn=>?_) (fun hn=>?_)
    · have e : isNm x = false:=by cases x <;> first | rfl | (simp [isS] at hn)
      have q:=k H (Same.refl H)
      rw [e] at q
      exact q
    · obtain ⟨z, rfl⟩ : ∃ z, x = .str z := by cases x <;> first | exact ⟨_, rfl⟩ | (simp [isS] at hn)
      have hzz : z.length≤sizeLine:=by
        cases hx with
        | str h=>exact h
      refine ⟨_,rfl,_,_,rfl,⟨hzz,rfl⟩,.int ⟨_,rfl,?_⟩⟩
      refine ite2 (fun h1=>?_) (fun h1=>?_)
      · refine iteT ?_
        have q:=k H (Same.refl H)
        have h1 : (z.length : Int) < 1:=of_decide_eq_true h1
        have e : isNm (.str z) = false:=by
          show (decide (1≤z.length) && _) = false
          rw [decide_eq_false (by omega)];rfl
        rw [e] at q
        exact q
      · have h1 : ¬ (z.length : Int) < 1 := of_decide_eq_false (by simpa using h1)
        refine ⟨_,rfl,_,_,rfl,⟨hzz,rfl⟩,_,_,rfl,rfl,_,rfl,?_⟩
        refine ite2 (fun h2=>?_) (fun h2=>?_)
        · have q:=k H (Same.refl H)
          have h2 : (8 : Int) < z.length:=of_decide_eq_true h2
          have e : isNm (.str z) = false:=by
            show (decide (1≤z.length) && (decide (z.length≤8) && _)) = false
            rw [decide_eq_false (show ¬ z.length≤8 by omega),Bool.false_and,Bool.and_false]
          rw [e] at q
          exact q
        · have h2 : ¬ (8 : Int) < z.length := of_decide_eq_false (by simpa using h2)
          have e : isNm (.str z) = z.cps.toList.all isLow:=by
            show (decide (1≤z.length) && (decide (z.length≤8) && _)) = _
            rw [decide_eq_true (show 1≤z.length by omega),decide_eq_true (show z.length≤8 by omega),Bool.true_and,Bool.true_and]
          refine ⟨_,rfl,z,rfl,?_⟩
          refine comp_str (fun D i acc σ' H'=>∃ o,σ' = [o]∧acc = (z.cps.toList.take i).map (fun c=>V.bl (isLow c))∧Same H H'∧H D = none) fun D hD=>⟨⟨none,rfl,rfl,Same.new hD,hD⟩,?_,?_⟩
          · rintro i acc σ' H' c hc ⟨o, rfl, rfl, sm, hD0⟩ hacc
            refine gYes ?_
            have sg : ∀ b : Bool,b = isLow c→(H' D = some (.lst ((z.cps.toList.take i).map (fun c=>V.bl (isLow c))))∧((z.cps.toList.take i).map (fun c=>V.bl (isLow c))).length < sizeLine ∧
                (∃ o,[some (V.str ⟨#[c]⟩)] = [o]∧(z.cps.toList.take i).map (fun c=>V.bl (isLow c))++[V.bl b] = (z.cps.toList.take (i + 1)).map (fun c=>V.bl (isLow c))∧Same H (upd H' D (.lst ((z.cps.toList.take i).map (fun c=>V.bl (isLow c))++[V.bl b])))∧H D = none)):=fun b hb=>by
              refine ⟨hacc,?_,_,rfl,?_,?_,hD0⟩
              · rw [List.length_map]
                refine small1000 ?_
                have:=List.length_take_le' i z.cps.toList
                have h2' : z.length≤8:=by omega
                have hl : z.cps.toList.length = z.length:=by simp [Str.length]
                omega
              · rw [List.take_add_one,hc,List.map_append,hb];rfl
              · intro b' o' e'
                rw [upd_ne (ne_of_none e' hD0)]
                exact sm b' o' e'
            refine ⟨_,rfl,.str ⟨_,rfl,?_⟩⟩
            have e1 : (!decide ((⟨#[c]⟩ : Str).cps.toList < ("a" : Str).cps.toList)) = decide (97≤c):=by
              show (!decide ([c] < [97])) = _
              rw [lt_one]
              by_cases hh : c < 97
              · rw [decide_eq_true hh,decide_eq_false (by omega)];rfl
              · rw [decide_eq_false hh,decide_eq_true (by omega)];rfl
            have e2 : (!decide (("z" : Str).cps.toList < (⟨#[c]⟩ : Str).cps.toList)) = decide (c≤122):=by
              show (!decide ([122] < [c])) = _
              rw [lt_one]
              by_cases hh : 122 < c
              · rw [decide_eq_true hh,decide_eq_false (by omega)];rfl
              · rw [decide_eq_false hh,decide_eq_true (by omega)];rfl
            rw [e1]
            refine ite2 (fun h3=>?_) (fun h3=>?_)
            · refine .str (sg _ ?_)
              rw [e2]
              unfold isLow
              rw [h3,Bool.true_and]
            · refine sg false ?_
              unfold isLow
              have h3 : decide (97≤c) = false:=by simpa using h3
              rw [h3,Bool.false_and]
          · rintro acc σ' H' ⟨o,rfl,rfl,sm,hD0⟩ hacc
            rw [List.take_of_length_le (Nat.le_refl _)] at hacc
            refine ⟨D,z.cps.toList.map isLow,rfl,by rw [List.map_map];exact hacc,?_⟩
            have q:=k H' sm
            rw [e] at q
            have e4 : (z.cps.toList.map isLow).all id = z.cps.toList.all isLow:=by rw [List.all_map];rfl
            rw [e4]
            exact q
end
end K70
namespace K70
open PySem L2
section
variable {P : Program} {w : World} {K : PySem.W.Frag} {mg : Str→Option Value} {base : Heap}
def spUnlike : Sp:=fun vs H Q _=>∃ (a : Addr) (ss : List Str),vs = [.ref a]∧SqA H a (List.map V.str ss)∧ss.length≤1000∧∀ H',Same H H'→Q (.bl (decide ss.Nodup)) H'
theorem scUnlike : FnScope ["things"] ["things"] (defScope sUnlike):=⟨rfl,rfl,rfl,by decide +kernel,rfl,by decide +kernel,by decide +kernel⟩
theorem ok_unlike {f : Addr} {fd : FuncData} (F : Fun K "are_unlike" "are_unlike" sUnlike f fd) (B : Blt mg) (cplaces_of : Cal P w K mg base 1 "places_of" ["things"] spPlacesX) : FnOk P w K mg base CX0 2 f fd ["things"] spUnlike := by
  refine F.ok scUnlike (fun vs H Q E h=>?_) (fun cdv A outer s H vs Q E hr h=>?_)
  · obtain ⟨a,ss,rfl,_⟩:=h
    rfl
  · obtain ⟨a, ss, rfl, ha, hlen, k⟩ := h
    have nd:=scUnlike.nd
    refine ⟨_,(pss_one (ps_ret (pe_cmpR (op_eqX hr.units) (b_lenD B (p1 (pc cplaces_of hr (p1 (pv 0))))) (b_len K B (p1 (pv 0))) (nomark _)))),?_⟩
    refine ⟨_,rfl,_,rfl,?_⟩
    refine .nm ha hlen fun d kvs H1 s1 hd0 hd hin hat knd ks=>⟨d,kvs,rfl,hd,_,rfl,_,ss.length,rfl,?_,.sc rfl ?_⟩
    · have:=(SqA.same ha s1).len (K:=K)
      rw [List.length_map] at this
      exact this
    · have e:=len_kvs knd ks hin
      have e2 : decide (V.int (kvs.length : Nat) = V.int (ss.length : Nat)) = decide ss.Nodup:=by
        rw [Bool.eq_iff_iff,decide_eq_true_iff,decide_eq_true_iff,← e]
        exact ⟨fun z=>Int.ofNat.inj (V.int.inj z),fun z=>by rw [z]⟩
      show Q (.bl (decide (V.int (kvs.length : Nat) = V.int (ss.length : Nat)))) H1
      rw [e2]
      exact k H1 s1
end
end K70
namespace K70
open PySem L2
section
variable {P : Program} {w : World} {K : PySem.W.Frag} {mg : Str→Option Value} {base : Heap}
theorem nmS {s : Str} (h : Nm s) : s.length≤sizeLine:=Nat.le_of_lt (small1000 (by have:=h.2.1;omega))
def spAmong : Sp:=fun vs H Q _=>∃ (d ta : Addr) (kvs : List (Key × V)) (e : Str × Str),vs = [.ref d,.ref ta]∧H d = some (.dK kvs)∧H ta = some (.tup [.str e.1,.str e.2])∧Nm e.1∧Nm e.2∧(valV kvs (.inr e.1)).isSome = true∧(valV kvs (.inr e.2)).isSome = true∧∀ H',Same H H'→Q (.bl true) H'
theorem scAmong : FnScope ["places","tie"] ["places","tie"] (defScope sAmong):=⟨rfl,rfl,rfl,by decide +kernel,rfl,by decide +kernel,by decide +kernel⟩
theorem ok_among {f : Addr} {fd : FuncData} (F : Fun K "is_tie_among" "is_tie_among" sAmong f fd) (B : Blt mg) (cis_name : Cal P w K mg base 1 "is_name" ["thing"] spIsName) : FnOk P w K mg base CX0 2 f fd ["places", "tie"] spAmong := by
  refine F.ok scAmong (fun vs H Q E h=>?_) (fun cdv A outer s H vs Q E hr h=>?_)
  · obtain ⟨d,ta,kvs,e,rfl,_⟩:=h
    rfl
  · obtain ⟨d, ta, kvs, e, rfl, hd, hta, n1, n2, i1, i2, k⟩ := h
    have nd:=scAmong.nd
    obtain ⟨t,ty,_,_,_,_,t5⟩:=ty_thg (K:=K) (Thg.tup hta)
    rw [isT_of hta] at t5
    refine ⟨_,(pss_cons (ps_if (PW.pt (pw_or (pt_not (pt_val (b_isi K "tuple" B (p2 (pv 1) (g_tuple B))))) (pw_or1 (pt_cmpR (op_neX hr.units) (b_len K B (p1 (pv 1))) pe_int (nomark _))))) (pss_one (ps_ret pe_bl)) pss_nil)
      (pss_one (ps_ret (b_all rfl B (p1 (pe_comp (defScope sAmong) ["places","tie"] ["end"] [0] ["end","places"] rfl (pi_tupK K (pv 1)) (fun _ _ _ _ _=>(pg_name (i:=0) (show (["end","places"] : List Str).Nodup by decide) rfl (Or.inl rfl))) (fun _ _ _ _ _=>pts_nil) (fun _ _ _ _ _=>(pe_and (pc cis_name hr (p1 (pv 0))) (pe_one (pe_cmpR (op_inX K hr.units) (pv 0) (pv 1) (by with_unfolding_all rfl))))))))))),?_⟩
    refine ⟨_,rfl,_,t,_,rfl,ty,t5,_,rfl,?_⟩
    refine ite2 (fun h=>absurd h (by decide)) (fun _=>?_)
    refine ⟨_,rfl,_,_,rfl,Or.inr ⟨_,.of hta,rfl⟩,.sc rfl ⟨_,rfl,?_⟩⟩
    refine ite2 (fun h=>absurd h (by show ¬ (!decide (V.int 2 = V.int 2)) = true;decide)) (fun _=>?_)
    refine ⟨_,rfl,ta,rfl,⟨_,.of hta⟩,?_⟩
    refine comp_tup [V.str e.1,V.str e.2] (fun D i acc σ' H'=>∃ o,σ' = [o,some (.ref d)]∧acc = List.replicate i (V.bl true)∧Same H H'∧H D = none) fun D hD=>⟨?_,?_,?_,?_⟩
    · exact ⟨none,rfl,rfl,Same.new hD,hD⟩
    · rintro i acc σ' H' _ ⟨o,rfl,_,sm,_⟩ _
      exact .of (sm _ _ hta)
    · rintro i acc σ' H' x hx ⟨o,rfl,rfl,sm,hD0⟩ hacc
      have hil:=(List.getElem?_eq_some_iff.mp hx).1
      have hil : i < 2:=hil
      obtain ⟨z,rfl,nz,iz⟩ : ∃ z,x = .str z∧Nm z∧(valV kvs (.inr z)).isSome = true:=by
        match i,hil,hx with
        | 0,_,hx=>exact ⟨e.1,(Option.some.inj hx).symm,n1,i1⟩
        | 1,_,hx=>exact ⟨e.2,(Option.some.inj hx).symm,n2,i2⟩
      refine gYes ?_
      refine ⟨_,rfl,_,rfl,.str (nmS nz),fun H2 s2=>⟨_,rfl,?_⟩⟩
      rw [isNm_iff.mpr nz]
      refine iteT ?_
      refine ⟨_,rfl,_,rfl,.dic (DGet.k (k:=.inr z) (s2 _ _ (sm _ _ hd))) ?_⟩
      refine ⟨s2 _ _ hacc,by rw [List.length_replicate];exact small1000 (by omega),_,rfl,?_,same_at (sm.trans s2) hD0,hD0⟩
      show List.replicate i (V.bl true)++[V.bl (valV kvs (.inr z)).isSome] = _
      rw [iz,List.replicate_succ']
    · rintro acc σ' H2 ⟨o,rfl,rfl,s2,hD0⟩ hacc
      refine ⟨D,[true,true],rfl,hacc,?_⟩
      exact k H2 s2
def spUNm : Sp:=fun vs H Q _=>∃ (a : Addr) (ss : List Str),vs = [.ref a]∧H a = some (.lst (List.map V.str ss))∧ss.length≤62∧ss.Nodup∧(∀ s∈ss,Nm s)∧∀ H',Same H H'→Q (.bl true) H'
theorem scUNm : FnScope ["things"] ["things"] (defScope sUNm):=⟨rfl,rfl,rfl,by decide +kernel,rfl,by decide +kernel,by decide +kernel⟩
theorem ok_unm {f : Addr} {fd : FuncData} (F : Fun K "are_unlike_names" "are_unlike_names" sUNm f fd) (B : Blt mg) (cis_name : Cal P w K mg base 1 "is_name" ["thing"] spIsName) (care_unlike : Cal P w K mg base 2 "are_unlike" ["things"] spUnlike) : FnOk P w K mg base CX0 3 f fd ["things"] spUNm := by
  refine F.ok scUNm (fun vs H Q E h=>?_) (fun cdv A outer s H vs Q E hr h=>?_)
  · obtain ⟨a,ss,rfl,_⟩:=h
    rfl
  · obtain ⟨a,ss,rfl,ha,hlen,snd,snm,k⟩:=h
    have nd:=scUNm.nd
    refine ⟨_,(pss_cons (ps_if (pt_not (pt_val (b_isi2 K "list" "tuple" B (p2 (pv 0) (pe_tup (p2 (g_list B) (g_tuple B))))))) (pss_one (ps_ret pe_bl)) pss_nil)
      (pss_one (ps_ret (pe_and (b_all rfl B (p1 (pe_comp (defScope sUNm) ["things"] ["thing"] [] ["thing"] rfl (pi_listK K (pv 0)) (fun _ _ _ _ _=>(pg_name (i:=0) (show (["thing"] : List Str).Nodup by decide) rfl (Or.inl rfl))) (fun _ _ _ _ _=>pts_nil) (fun _ _ _ _ _=>(pc cis_name hr (p1 (pv 0))))))) (pe_one (pc care_unlike hr (p1 (pv 0)))))))),?_⟩
    refine ⟨_,rfl,(by show 2≤sizeLine;decide),fun tp htp=>?_⟩
    have s0:=Same.new (o:=.tup [V.ty "list",V.ty "tuple"]) htp
    have A0 : SqA (upd H tp (.tup [V.ty "list",V.ty "tuple"])) a (List.map V.str ss):=(SqA.same (.inl ha) s0)
    obtain ⟨t,ty,_,_,_,t4,t5⟩:=ty_thg (K:=K) A0.thg
    have kl:=kit_lt t4 t5
    rw [A0.lt] at kl
    refine ⟨_,tp,t,_,rfl,upd_same,ty,kl,_,rfl,?_⟩
    refine ite2 (fun h=>absurd h (by decide)) (fun _=>?_)
    have ha0:=s0 _ _ ha
    generalize upd H tp (.tup [V.ty "list",V.ty "tuple"]) = H0 at s0 ha0 ⊢
    refine ⟨_,rfl,a,rfl,⟨_,.of ha0⟩,?_⟩
    refine comp_list (List.map V.str ss) (fun D i acc σ' H'=>∃ o,σ' = [o]∧acc = List.replicate i (V.bl true)∧Same H0 H'∧H0 D = none) fun D hD=>⟨?_,?_,?_,?_⟩
    · exact ⟨none,rfl,rfl,Same.new hD,hD⟩
    · rintro i acc σ' H' _ ⟨o,rfl,_,sm,_⟩ _
      exact .of (sm _ _ ha0)
    · rintro i acc σ' H' x hx ⟨o,rfl,rfl,sm,hD0⟩ hacc
      obtain ⟨z,hz,rfl⟩:=str_get hx
      have hil:=(List.getElem?_eq_some_iff.mp hz).1
      have nz:=snm z (List.mem_of_getElem? hz)
      refine gYes ?_
      refine ⟨_,rfl,_,rfl,.str (nmS nz),fun H2 s2=>?_⟩
      rw [isNm_iff.mpr nz]
      exact ⟨s2 _ _ hacc,by rw [List.length_replicate];exact small1000 (by omega),_,rfl,by rw [List.replicate_succ'],same_at (sm.trans s2) hD0,hD0⟩
    · rintro acc σ' H2 ⟨o,rfl,rfl,s2,hD0⟩ hacc
      refine ⟨D,List.replicate (List.map V.str ss).length true,rfl,by rw [List.map_replicate];exact hacc,_,rfl,?_⟩
      rw [show (List.replicate (List.map V.str ss).length true).all id = true from by simp]
      refine iteT ?_
      exact ⟨_,rfl,a,ss,rfl,(SqA.same (SqA.same (.inl ha) s0) s2),by omega,fun H3 s3=>by rw [decide_eq_true snd];exact k H3 ((s0.trans s2).trans s3)⟩
def spAre : Sp:=fun vs H Q _=>∃ (a : Addr) (ss : List Str),vs = [.ref a]∧H a = some (.lst (List.map V.str ss))∧ss.length≤62∧ss.Nodup∧(∀ s∈ss,Nm s)∧∀ H',Same H H'→Q (.bl (decide (ss.length≤60))) H'
theorem scAre : FnScope ["things"] ["things"] (defScope sAreThings):=⟨rfl,rfl,rfl,by decide +kernel,rfl,by decide +kernel,by decide +kernel⟩
theorem ok_are {f : Addr} {fd : FuncData} {tk : Tok} (F : Fun K "are_things" "are_things" sAreThings f fd) (B : Blt mg) (TT : mg "MOST_THINGS" = some (.int 60 tk)) (care_unlike_names : Cal P w K mg base 3 "are_unlike_names" ["things"] spUNm) : FnOk P w K mg base CX0 4 f fd ["things"] spAre:=by
  refine F.ok scAre (fun vs H Q E h=>?_) (fun cdv A outer s H vs Q E hr h=>?_)
  · obtain ⟨a,ss,rfl,_⟩:=h
    rfl
  · obtain ⟨a,ss,rfl,ha,hlen,snd,snm,k⟩:=h
    have nd:=scAre.nd
    have hl60 : decide ((((List.map V.str ss).length : Nat) : Int)≤60) = decide (ss.length≤60):=by rw [List.length_map,Bool.eq_iff_iff,decide_eq_true_iff,decide_eq_true_iff];omega
    refine ⟨_,(pss_one (ps_ret (pe_and (pc care_unlike_names hr (p1 (pv 0))) (pe_one (pe_cmpR op_leX (b_len K B (p1 (pv 0))) (pe_glob (v:=.int 60) rfl TT ⟨_,rfl⟩) (nomark _)))))),?_⟩
    refine ⟨_,rfl,a,ss,rfl,ha,hlen,snd,snm,fun H1 s1=>⟨_,rfl,iteT ?_⟩⟩
    refine ⟨_,rfl,_,_,rfl,SqA.len (K:=K) (.inl (s1 _ _ ha)),.int ?_⟩
    have z:=k H1 s1
    rw [← hl60] at z
    exact z
theorem eqv_pair (e f : Str × Str) : PyData.eqv (pairD e) (pairD f) = decide (e = f):=by
  show (PyData.eqv (.str e.1) (.str f.1) && (PyData.eqv (.str e.2) (.str f.2) && true)) = _
  rw [eqv_str,eqv_str,Bool.and_true,Bool.eq_iff_iff,Bool.and_eq_true,decide_eq_true_iff,decide_eq_true_iff,decide_eq_true_iff]
  exact ⟨fun ⟨a,b⟩=>Prod.ext a b,fun h=>by rw [h];exact ⟨rfl,rfl⟩⟩
theorem any_pair (ts : List (Str × Str)) (e : Str × Str) : ((ts.map pairD).any fun d=>PyData.eqv d (pairD e)) = decide (e∈ts):=by
  rw [List.any_map,Bool.eq_iff_iff,List.any_eq_true,decide_eq_true_iff]
  constructor
  · rintro ⟨x,hx,h⟩
    have h : PyData.eqv (pairD x) (pairD e) = true:=h
    rw [eqv_pair] at h
    rw [← of_decide_eq_true h];exact hx
  · intro h
    refine ⟨e,h,?_⟩
    show PyData.eqv (pairD e) (pairD e) = true
    rw [eqv_pair];exact decide_eq_true rfl
end
end K70
namespace K70
open PySem L2
section
variable {P : Program} {w : World} {K : PySem.W.Frag} {mg : Str→Option Value} {base : Heap}
theorem not_take {α : Type} {l : List α} (h : l.Nodup) {i : Nat} {x : α} (e : l[i]? = some x) : x∉l.take i:=by
  intro hx
  obtain ⟨j,ej⟩:=List.mem_iff_getElem?.mp hx
  have hj:=(List.getElem?_eq_some_iff.mp ej).1
  rw [List.length_take] at hj
  rw [List.getElem?_take_of_lt (by omega)] at ej
  have hi:=(List.getElem?_eq_some_iff.mp e).1
  rw [List.getElem?_eq_getElem (by omega)] at ej
  rw [List.getElem?_eq_getElem hi] at e
  have : j = i:=(List.getElem_inj h).mp ((Option.some.inj ej).trans (Option.some.inj e).symm)
  omega
def spWrong : Sp:=fun vs H Q _=>∃ (a t : Addr) (ss : List Str) (ts : List (Str × Str)) (refs : List V),vs = [.ref a,.ref t]∧H a = some (.lst (List.map V.str ss))∧ss.length≤60∧(∀ s∈ss,Nm s)∧H t = some (.lst refs)∧RepAll H refs (ts.map pairD)∧ts.length≤410∧ts.Nodup∧(∀ e∈ts,e.1∈ss∧e.2∈ss)∧(ts.length≤400→∀ H',Same H H'→Q .non H')∧(¬ ts.length≤400→∀ H',Same H H'→Q (.int 400) H')
theorem scWrong : FnScope ["things","ties","places","seen","number","tie"] ["things","ties"] (defScope sWrong):=⟨rfl,rfl,rfl,by decide +kernel,rfl,by decide +kernel,by decide +kernel⟩
theorem ok_wrong {f : Addr} {fd : FuncData} {tk : Tok} (F : Fun K "first_wrong_tie" "first_wrong_tie" sWrong f fd) (B : Blt mg) (TT : mg "MOST_TIES" = some (.int 400 tk)) (cplaces_of : Cal P w K mg base 1 "places_of" ["things"] spPlacesX) (cis_tie_among : Cal P w K mg base 2 "is_tie_among" ["places", "tie"] spAmong) : FnOk P w K mg base CX0 3 f fd ["things", "ties"] spWrong := by
  refine F.ok scWrong (fun vs H Q E h=>?_) (fun cdv A outer s H vs Q E hr h=>?_)
  · obtain ⟨a,t,ss,ts,refs,rfl,_⟩:=h
    rfl
  · obtain ⟨a, t, ss, ts, refs, rfl, hA, hlen, snm, ht, rp, few, tnd, inn, k, k4⟩ := h
    have nd:=scWrong.nd
    have rlen:=rp.len
    rw [List.length_map] at rlen
    refine ⟨_,(pss_cons (pst 2 nd (pc cplaces_of hr (p1 (pv 0))))
      (pss_cons (pst 3 nd pe_dnewT)
      (pss_cons (ps_for PassesOwn.never rfl (pi_enumX K rfl B.enumerate (p1 (pv 1))) (pg_tupK (n:=2) K rfl (pgs_cons (pg_name (i:=4) nd rfl (Or.inl rfl)) (pgs_cons (pg_name (i:=5) nd rfl (Or.inl rfl)) pgs_nil))) (pss_cons (ps_if (PW.pt (pw_or (pt_cmpR (op_eqX hr.units) (pv 4) (pe_glob (v:=.int 400) rfl TT ⟨_,rfl⟩) (nomark _)) (pw_or (pt_not (pt_val (pc cis_tie_among hr (p2 (pv 2) (pv 5))))) (pw_or1 (pt_cmpR (op_inX K hr.units) (pv 5) (pv 3) (by with_unfolding_all rfl)))))) (pss_one (ps_ret (pv 4))) pss_nil)
      (pss_one (ps_asg pe_bl (pg_sub (pv 3) (pv 5) (set_X hr.units))))))
      (pss_one (ps_ret pe_non))))),?_⟩
    refine ⟨_,rfl,_,rfl,.nm (.inl hA) (by omega) fun d kvs H1 s1 hd0 hd hin hat _ _=>?_⟩
    intro dt hdt
    have s2:=s1.trans (Same.new (o:=.dT []) hdt)
    refine ⟨_,rfl,_,rfl,.lst (.of (s2 _ _ ht)) ?_⟩
    refine for_enum (xs:=refs) (fun i σ H'=>∃ (o4 o5 : Option V) (kt : List (List Key × V)),σ = [some (.ref a),some (.ref t),some (.ref d),some (.ref dt),o4,o5]∧Same H1 H'∧H' dt = some (.dT kt)∧i≤400∧kt.length≤i∧∀ f : Str × Str,(valV kt (pK f)).isSome = true ↔ f∈ts.take i) ?_ ?_ ?_ ?_
    · exact ⟨none,none,[],rfl,Same.new hdt,upd_same,Nat.zero_le _,Nat.le_refl _,fun f=>by simp [valV_nil]⟩
    · rintro i σ H' hi ⟨o4,o5,kt,rfl,sm,_⟩
      exact .of (sm _ _ (s1 _ _ ht))
    · rintro i x σ H' p hx ⟨o4, o5, kt, rfl, sm, hkt, hi4, hkl, hkin⟩ hp
      obtain ⟨e,ta,he,rfl,hta⟩:=pair_get ((rp.same s1).same sm) hx
      have hil:=(List.getElem?_eq_some_iff.mp he).1
      have hin':=inn e (List.mem_of_getElem? he)
      have sp:=Same.new (o:=.tup [V.int (i : Nat),V.ref ta]) hp
      have hdtp : dt≠p:=ne_of_none hkt hp
      refine ⟨p,_,rfl,.of upd_same,rfl,_,_,rfl,_,_,rfl,rfl,?_⟩
      have sm2:=sm.trans sp
      have hkt2:=sp _ _ hkt
      have hta2:=sp _ _ hta
      generalize upd H' p (.tup [V.int (i : Nat),V.ref ta]) = H3 at sm2 hkt2 hta2 ⊢
      refine ⟨_,rfl,.sc rfl ⟨_,rfl,?_⟩⟩
      refine ite2 (fun h=>?_) (fun hn4=>?_)
      · have z : (i : Int) = 400:=V.int.inj (of_decide_eq_true h)
        have z : i = 400:=by omega
        subst z
        exact ⟨_,rfl,k4 (by omega) _ (s1.trans sm2)⟩
      have hi4 : i + 1≤400:=by
        have : i≠400:=fun q=>hn4 (decide_eq_true (by rw [q];rfl))
        omega
      refine ⟨_,rfl,_,rfl,d,ta,kvs,e,rfl,sm2 _ _ hd,hta2,snm _ hin'.1,snm _ hin'.2,(hin _).mpr hin'.1,(hin _).mpr hin'.2,fun H4 s4=>⟨_,rfl,?_⟩⟩
      refine ite2 (fun h=>absurd h (by decide)) (fun _=>?_)
      have hkt4:=s4 _ _ hkt2
      have hta4:=s4 _ _ hta2
      refine ⟨_,rfl,_,rfl,.dic (DGet.t (k:=pK e) hkt4 hta4) ⟨_,rfl,?_⟩⟩
      refine ite2 (fun h=>absurd ((hkin e).mp h) (not_take tnd he)) (fun _=>?_)
      refine ⟨_,rfl,_,rfl,.dic (DPut.t (k:=pK e) hkt4 hta4 (small1000 (by omega))) ⟨_,_,_,rfl,?_,upd_same,hi4,?_,fun f=>?_⟩⟩
      · intro b o hb
        rw [upd_ne (ne_of_none hb hdt)]
        exact s4 _ _ (sm2 _ _ hb)
      · have:=length_putK kt (pK e) (V.bl true)
        omega
      · rw [valV_put,List.take_add_one,he,List.mem_append]
        by_cases q : f = e
        · subst q;simp
        · rw [if_neg (fun z=>q (pK_inj z)),hkin f]
          simp [q]
    · rintro σ H' ⟨o4,o5,kt,rfl,sm,_,hi4,_⟩
      exact k (by omega) H' (s1.trans sm)
end
end K70
namespace K70
open PySem L2
section
variable {P : Program} {w : World} {K : PySem.W.Frag} {mg : Str→Option Value} {base : Heap}
abbrev excL : List Str:=["OrderError","NoWeb","NoText","Ring","NoOrder","NoWeights","NoHouse","NoDeed","NoUnit","Twice","Within","NoTie","Full","Apart","NoWant","TooMany","NoUndo","NoRedo","Clash","NoRow"]
abbrev excC : List Str:=["OrderError","NoWeb","Ring"]
def spWebB (ec : Str→Addr) : Sp:=fun vs H Q E=>∃ (a t : Addr) (ss : List Str) (ts : List (Str × Str)) (refs : List V),vs = [.ref a,.ref t]∧H a = some (.lst (List.map V.str ss))∧ss.length≤62∧ss.Nodup∧(∀ s∈ss,Nm s)∧H t = some (.lst refs)∧RepAll H refs (ts.map pairD)∧ts.length≤410∧ts.Nodup∧(∀ e∈ts,e.1∈ss∧e.2∈ss) ∧
  (ss.length≤60→ts.length≤400→∀ q H',Same H H'→Rep H' (.ref q) (webD ss ts)→Q (.ref q) H')∧(¬ (ss.length≤60∧ts.length≤400)→∀ H',Same H H'→E (.ref (ec "NoWeb")) none H')
theorem scWebOf : FnScope ["things","ties","wrong"] ["things","ties"] (defScope sWebOf):=⟨rfl,rfl,rfl,by decide +kernel,rfl,by decide +kernel,by decide +kernel⟩
theorem ok_webB {f : Addr} {fd : FuncData} {ec : Str → Addr} (F : Fun K "web_of" "web_of" sWebOf f fd) (B : Blt mg) (Er : Errs K mg base ec excL excC) (care_things : Cal P w K mg base 4 "are_things" ["things"] spAre) (cfirst_wrong_tie : Cal P w K mg base 3 "first_wrong_tie" ["things", "ties"] spWrong) : FnOk P w K mg base (CX1 P w) 5 f fd ["things", "ties"] (spWebB ec) := by
  refine F.okX scWebOf (fun vs H Q E h=>?_) (fun cdv A outer s H vs Q E hr h=>?_)
  · obtain ⟨a,t,ss,ts,refs,rfl,_⟩:=h
    rfl
  · obtain ⟨a, t, ss, ts, refs, rfl, ha, hlen, snd, snm, ht, rp, few, tnd, inn, k, kx⟩ := h
    have nd:=scWebOf.nd
    have rlen:=rp.len
    rw [List.length_map] at rlen
    refine ⟨_,(pss_cons (ps_if (pt_not (pt_val (pc care_things hr (p1 (pv 0))))) (pss_one (ps_raiseV Er (by decide) (by decide) rfl (p1 pe_str))) pss_nil)
      (pss_cons (ps_if (pt_not (pt_val (b_isi2 K "list" "tuple" B (p2 (pv 1) (pe_tup (p2 (g_list B) (g_tuple B))))))) (pss_one (ps_raiseV Er (by decide) (by decide) rfl (p1 pe_str))) pss_nil)
      (pss_cons (pst 2 nd (pc cfirst_wrong_tie hr (p2 (pv 0) (pv 1))))
      (pss_cons (ps_if (pt_cmpR op_isNotX (pv 2) pe_non (nomark _)) (pss_one (ps_raiseV Er (by decide) (by decide) rfl (p1 (pe_fsI (pv 2))))) pss_nil)
      (pss_one (ps_ret (pe_tup (p2 (b_tupX K B (p1 (pv 0))) (b_tuple K B (p1 (pe_comp (defScope sWebOf) ["things","ties","wrong"] ["tie"] [] ["tie"] rfl (pi_listK K (pv 1)) (fun _ _ _ _ _=>(pg_name (i:=0) (show (["tie"] : List Str).Nodup by decide) rfl (Or.inl rfl))) (fun _ _ _ _ _=>pts_nil) (fun _ _ _ _ _=>(pe_tup (p2 (px K hr (pv 0) pe_int) (px K hr (pv 0) pe_int))))))))))))))),?_⟩
    refine ⟨_,rfl,a,ss,rfl,ha,hlen,snd,snm,fun H1 s1=>⟨_,rfl,ite2 (fun h=>?_) (fun h=>?_)⟩⟩
    · have h : (!decide (ss.length≤60)) = true:=h
      have h : ¬ ss.length≤60:=by simpa using h
      exact ⟨by show 1≤sizeLine;decide,kx (fun z=>h z.1) _ s1⟩
    have h : ¬ (!decide (ss.length≤60)) = true:=h
    have h6 : ss.length≤60:=by
      refine Classical.byContradiction fun z=>h ?_
      rw [decide_eq_false z];rfl
    refine ⟨_,rfl,(by show 2≤sizeLine;decide),fun tp htp=>?_⟩
    have s2:=s1.trans (Same.new (o:=.tup [V.ty "list",V.ty "tuple"]) htp)
    have A2 : SqA (upd H1 tp (.tup [V.ty "list",V.ty "tuple"])) t refs:=SqA.same (.inl ht) s2
    obtain ⟨tt,ty,_,_,_,t4,t5⟩:=ty_thg (K:=K) A2.thg
    have kl:=kit_lt t4 t5
    rw [A2.lt] at kl
    refine ⟨_,tp,tt,_,rfl,upd_same,ty,kl,_,rfl,?_⟩
    refine ite2 (fun h=>absurd h (by decide)) (fun _=>?_)
    generalize upd H1 tp (.tup [V.ty "list",V.ty "tuple"]) = H2 at s2 A2 ⊢
    refine ⟨_,rfl,_,rfl,a,t,ss,ts,refs,rfl,s2 _ _ ha,h6,snm,s2 _ _ ht,rp.same s2,few,tnd,inn,fun h4 H3 s3=>?_,fun h4 H3 s3=>?_⟩
    · refine ⟨_, rfl, .non ⟨_, rfl, ?_⟩⟩
      refine ite2 (fun h=>absurd h (by decide)) (fun _=>?_)
      have s3:=s2.trans s3
      have ht3:=s3 _ _ ht
      refine ⟨_,rfl,_,rfl,.lst (.of (s3 _ _ ha)) fun q1 hq0=>?_⟩
      have s4:=Same.new (o:=.tup (List.map V.str ss)) hq0
      have hq1 : upd H3 q1 (.tup (List.map V.str ss)) q1 = some (.tup (List.map V.str ss)):=upd_same
      generalize upd H3 q1 (.tup (List.map V.str ss)) = H4 at s4 hq1 ⊢
      have ht4:=s4 _ _ ht3
      have rp4:=(rp.same s3).same s4
      refine ⟨_,rfl,t,rfl,⟨_,.of ht4⟩,?_⟩
      refine comp_list refs (fun D i acc σ' H'=>∃ o,σ' = [o]∧RepAll H' acc ((ts.take i).map pairD)∧Same H4 H'∧H4 D = none) fun D hD=>⟨?_,?_,?_,?_⟩
      · exact ⟨none,rfl,.nil,Same.new hD,hD⟩
      · rintro i acc σ' H' _ ⟨o,rfl,_,sm,_⟩ _
        exact .of (sm _ _ ht4)
      · rintro i acc σ' H' x hx ⟨o,rfl,rpa,sm,hD0⟩ hacc
        obtain ⟨e,ta,he,rfl,hta⟩:=pair_get (rp4.same sm) hx
        have hil:=(List.getElem?_eq_some_iff.mp he).1
        have alen:=rpa.len
        simp only [List.length_map,List.length_take] at alen
        refine gYes ?_
        refine ⟨_,rfl,.tup (.of hta) rfl ⟨_,rfl,.tup (.of hta) rfl ⟨(by show 2≤sizeLine;decide),fun q hq=>?_⟩⟩⟩
        have sq:=Same.new (o:=.tup [V.str e.1,V.str e.2]) hq
        have hDq : D≠q:=ne_of_none hacc hq
        refine ⟨sq _ _ hacc,small1000 (by omega),_,rfl,?_,?_,hD0⟩
        · rw [List.take_add_one,he,List.map_append]
          refine RepAll.append (RepAll.pairBut (p:=D) (sq _ _ hacc) But.upd (rpa.same sq)) (.cons (pair_rep ?_) .nil)
          rw [upd_ne (Ne.symm hDq)];exact upd_same
        · intro b o hb
          rw [upd_ne (ne_of_none hb hD0)]
          exact sq _ _ (sm _ _ hb)
      · rintro acc σ' H5 ⟨o,rfl,rpa,s5,hD0⟩ hacc
        rw [rlen,List.take_of_length_le (Nat.le_refl _)] at rpa
        refine ⟨D,_,rfl,.of hacc,fun l2 h2=>⟨(by show 2≤sizeLine;decide),fun q hq=>?_⟩⟩
        have s6:=Same.new (o:=.tup acc) h2
        have s7:=Same.new (o:=.tup [V.ref q1,V.ref l2]) hq
        exact k h6 h4 q _ ((s3.trans s4).trans (s5.trans (s6.trans s7))) (.tup upd_same (.cons (.tup ((s5.trans (s6.trans s7)) _ _ hq1) (RepAll.of_strs ss)) (.cons (.tup (s7 _ _ upd_same) (rpa.same (s6.trans s7))) .nil)))
    · refine ⟨_,rfl,.non ⟨_,rfl,ite2 (fun _=>?_) (fun h=>absurd rfl h)⟩⟩
      have o1 : ("the tie at " : Str).length = 11:=by decide +kernel
      have o2 : (" is no tie of two things, is there twice, or is one too many" : Str).length = 60:=by decide +kernel
      have o4 : (toString (400 : Int) : Str).length = 3:=by decide +kernel
      have o3 : 100≤sizeLine:=by decide
      refine ⟨_,rfl,400,rfl,by decide +kernel,by decide +kernel,?_,?_,fun z=>⟨by show 1≤sizeLine;decide,kx (fun z=>h4 z.2) _ (s2.trans s3)⟩⟩
      · rw [len_app,o1,o4];omega
      · rw [len_app,len_app,o1,o2,o4];omega
end
end K70
namespace K70
open PySem L2
section
variable {P : Program} {w : World} {K : PySem.W.Frag} {mg : Str→Option Value} {base : Heap}
theorem sq_at {H H' : Hp} {a : Addr} {xs : List V} (h : SqA H a xs) (s : Same H H') : H' a = H a:=by
  rcases h with h | h <;> rw [h,s _ _ h]
theorem for_seq {K : PySem.W.Frag} {a : Addr} {xs : List V} {g : TG} {tb : TS} {D : Ends} {σ : St} {H0 : Hp} (Pv : Nat → St → Hp → Prop) (ha : SqA H0 a xs) (h0 : Pv 0 σ H0) (hl : ∀ i σ H, i ≤ xs.length → Pv i σ H → H a = H0 a)
    (hs : ∀ i x σ H,xs[i]? = some x→Pv i σ H→g x σ H fun σ2 H2=>tb { D with nx:=Pv (i + 1),ct:=Pv (i + 1),bk:=D.nx } σ2 H2) (hd : ∀ σ H,Pv xs.length σ H→D.nx σ H) :
    (∃ xs,SqL K H0 a xs)∧(∃ W : Nat→Nat→St→Hp→Prop,(∃ m,W 0 m σ H0)∧∀ i m σ H,W i m σ H →
      ((Itl K a).stop i H∧D.nx σ H)∨((Itl K a).go i H∧∃ N : St→Hp→Prop,(∀ σ' H',N σ' H'→∃ m',m' < m∧W (i + 1) m' σ' H')∧∀ x H',(Itl K a).yld i H x H'→g x σ H' fun σ2 H2=>tb { D with nx:=N,ct:=N,bk:=D.nx } σ2 H2)) ∨
    (∃ xs,SqT K H0 a xs)∧(∃ W : Nat→Nat→St→Hp→Prop,(∃ m,W 0 m σ H0)∧∀ i m σ H,W i m σ H →
      ((Itt K a).stop i H∧D.nx σ H)∨((Itt K a).go i H∧∃ N : St→Hp→Prop,(∀ σ' H',N σ' H'→∃ m',m' < m∧W (i + 1) m' σ' H')∧∀ x H',(Itt K a).yld i H x H'→g x σ H' fun σ2 H2=>tb { D with nx:=N,ct:=N,bk:=D.nx } σ2 H2)):=by
  rcases ha with ha | ha
  · exact .inl ⟨⟨xs,.of ha⟩,for_list Pv h0 (fun i σ H hi p=>.of ((hl i σ H hi p).trans ha)) hs hd⟩
  · exact .inr ⟨⟨xs,.of ha⟩,for_tup Pv h0 (fun i σ H hi p=>.of ((hl i σ H hi p).trans ha)) hs hd⟩
structure WebA (H : Hp) (v : V) (ss : List Str) (ts : List (Str × Str)) : Prop where
  rep : ∃ q a b xs,v = .ref q∧H q = some (.tup [.ref a,.ref b])∧SqA H a (List.map V.str ss)∧SqA H b xs∧RepAll H xs (ts.map pairD)
  nd : ss.Nodup
  nm : ∀ s∈ss,Nm s
  len : ss.length≤60
  few : ts.length≤410
  inn : ∀ e∈ts,e.1∈ss∧e.2∈ss
theorem WebA.same {H H' : Hp} {v : V} {ss : List Str} {ts : List (Str × Str)} (h : WebA H v ss ts) (s : Same H H') : WebA H' v ss ts :=
  ⟨let ⟨q,a,b,xs,e,hq,ha,hb,rp⟩:=h.rep;⟨q,a,b,xs,e,s _ _ hq,ha.same s,hb.same s,rp.same s⟩,h.nd,h.nm,h.len,h.few,h.inn⟩
theorem webA {H : Hp} {v : V} {ss : List Str} {ts : List (Str × Str)} (h : Web H v ss ts) : WebA H v ss ts :=
  ⟨let ⟨q,a,b,xs,e,hq,ha,hb,rp⟩:=web_at h.rep;⟨q,a,b,xs,e,hq,.inr ha,.inr hb,rp⟩,h.nd,h.nm,h.len,Nat.le_trans h.few (by decide),h.inn⟩
def spNextsA (rev : Bool) : Sp:=fun vs H Q _=>∃ q ss ts s,vs = [q,.str s]∧WebA H q ss ts ∧
  ∀ l H',Same H H'→H l = none→H' l = some (.lst (List.map V.str (nxtL ss (if rev then flipE ts else ts) s)))→Q (.ref l) H'
def spNextsAllA (rev : Bool) : Sp:=fun vs H Q _=>∃ q ss ts,vs = [q]∧WebA H q ss ts ∧
  ∀ d H',Same H H'→H d = none→Tab H' d ss (nxtL ss (if rev then flipE ts else ts))→Q (.ref d) H'
theorem mem_endsfalse {ts : List (Str × Str)} {s t : Str} : t ∈ (ts.filter fun e => decide (e.1 = s)).map (fun e => e.2) ↔ (s, t) ∈ (if false then flipE ts else ts) := by
  rw [List.mem_map]
  constructor
  · rintro ⟨⟨x,y⟩,h,rfl⟩
    have h:=List.mem_filter.mp h
    have h2:=of_decide_eq_true h.2
    subst h2
    first
      | exact h.1
      | exact mem_flip.mpr h.1
  · intro h
    first
      | exact ⟨(s,t),List.mem_filter.mpr ⟨h,decide_eq_true rfl⟩,rfl⟩
      | exact ⟨(t,s),List.mem_filter.mpr ⟨mem_flip.mp h,decide_eq_true rfl⟩,rfl⟩
theorem scNexts : FnScope ["web","one","found"] ["web","one"] (defScope sNexts):=⟨rfl,rfl,rfl,by decide +kernel,rfl,by decide +kernel,by decide +kernel⟩
theorem ok_nexts {f : Addr} {fd : FuncData} (F : Fun K "nexts" "nexts" sNexts f fd) (B : Blt mg) (cplaces_of : Cal P w K mg base 1 "places_of" ["things"] spPlaces) : FnOk P w K mg base CX0 2 f fd ["web", "one"] (spNextsA false) := by
  refine F.ok scNexts (fun vs H Q E h=>?_) (fun cdv A outer s H vs Q E hr h=>?_)
  · obtain ⟨q,ss,ts,s,rfl,_⟩:=h
    rfl
  · obtain ⟨q, ss, ts, s, rfl, W, k⟩ := h
    have nd:=scNexts.nd
    refine ⟨_,(pss_cons (ps_set (i:=2) nd rfl (Or.inr rfl) (pc cplaces_of hr (p1 (pe_comp (defScope sNexts) ["web","one","found"] ["tie"] [1] ["tie","one"] rfl (pi_seqK K (px K hr (pv 0) pe_int)) (fun _ _ _ _ _=>(pg_name (i:=0) (show (["tie","one"] : List Str).Nodup by decide) rfl (Or.inl rfl))) (fun _ _ _ _ _=>(pts_one (pt_cmpR (op_eqX hr.units) (px K hr (pv 0) pe_int) (pv 1) (nomark _)))) (fun _ _ _ _ _=>(px K hr (pv 0) pe_int))))))
      (pss_one (ps_ret (pe_comp (defScope sNexts) ["web","one","found"] ["thing"] [2] ["thing","found"] rfl (pi_seqK K (px K hr (pv 0) pe_int)) (fun _ _ _ _ _=>(pg_name (i:=0) (show (["thing","found"] : List Str).Nodup by decide) rfl (Or.inl rfl))) (fun _ _ _ _ _=>(pts_one (pt_cmpR (op_inX K hr.units) (pv 0) (pv 1) (by with_unfolding_all rfl)))) (fun _ _ _ _ _=>(pv 0)))))),?_⟩
    obtain ⟨q,a,b,xs,rfl,hq,ha,hb,rp⟩:=W.rep
    have rlen:=rp.len
    rw [List.length_map] at rlen
    refine ⟨_,rfl,.tup (.of hq) rfl ⟨_,rfl,?_⟩⟩
    refine comp_seq xs (fun D i acc σ' H'=>∃ o,σ' = [o,some (.str s)]∧acc = ((ts.take i).filter fun e=>decide (e.1 = s)).map (fun e=>V.str e.2)∧Same H H'∧H D = none) hb fun D hD=>⟨?_,?_,?_,?_⟩
    · exact ⟨none,rfl,rfl,Same.new hD,hD⟩
    · rintro i acc σ' H' _ ⟨o,rfl,_,sm,_⟩ _
      exact sq_at hb sm
    · rintro i acc σ' H' x hx ⟨o, rfl, hacc0, sm, hD0⟩ hacc
      obtain ⟨d,hd,rd⟩:=(rp.same sm).get hx
      rw [List.getElem?_map] at hd
      obtain ⟨e,he,rfl⟩ : ∃ e,ts[i]? = some e∧pairD e = d:=by
        cases q : ts[i]? with
        | none=>rw [q] at hd;cases hd
        | some e=>rw [q] at hd;exact ⟨e,rfl,Option.some.inj hd⟩
      obtain ⟨ta,rfl,hta⟩:=pair_at rd
      have hil:=(List.getElem?_eq_some_iff.mp he).1
      refine ⟨_,rfl,.tup (.of hta) rfl ⟨_,rfl,.sc rfl ⟨_,rfl,?_⟩⟩⟩
      refine ite2 (fun h1=>?_) (fun h1=>?_)
      · have h1 : e.1 = s:=V.str.inj (of_decide_eq_true h1)
        refine ⟨_,rfl,.tup (.of hta) rfl ⟨hacc,?_,_,rfl,?_,?_,hD0⟩⟩
        · rw [hacc0,List.length_map]
          have h2:=List.length_filter_le (fun e : Str × Str=>decide (e.1 = s)) (ts.take i)
          rw [List.length_take] at h2
          have:=W.few
          exact small1000 (by omega)
        · rw [List.take_add_one,he,hacc0,List.filter_append,List.map_append]
          simp [h1]
        · intro c o hc
          rw [upd_ne (ne_of_none hc hD0)]
          exact sm _ _ hc
      · have h1 : ¬ e.1 = s:=fun z=>h1 (decide_eq_true (congrArg V.str z))
        refine ⟨hacc,_,rfl,?_,sm,hD0⟩
        rw [List.take_add_one,he,hacc0,List.filter_append,List.map_append]
        simp [h1]
    · rintro acc σ' H1 ⟨o, rfl, hacc0, s1, hD0⟩ hacc
      rw [rlen,List.take_of_length_le (Nat.le_refl _)] at hacc0
      have ea : acc = List.map V.str ((ts.filter fun e=>decide (e.1 = s)).map (fun e=>e.2)):=by rw [hacc0,List.map_map];rfl
      refine ⟨D,_,rfl,by rw [← ea];exact hacc,?_,?_⟩
      · rw [List.length_map]
        have h2:=List.length_filter_le (fun e : Str × Str=>decide (e.1 = s)) ts
        have:=W.few
        omega
      · intro d kvs H2 s2 hd2 hk hin hat
        have s12:=s1.trans s2
        refine ⟨_,rfl,.tup (.of (s12 _ _ hq)) rfl ⟨_,rfl,?_⟩⟩
        refine comp_seq (List.map V.str ss) (fun D i acc σ' H'=>∃ o,σ' = [o,some (.ref d)]∧acc = List.map V.str ((ss.take i).filter fun t=>(valV kvs (.inr t)).isSome)∧Same H2 H'∧H2 D = none) (ha.same s12) fun D' hD'=>⟨?_,?_,?_,?_⟩
        · exact ⟨none,rfl,rfl,Same.new hD',hD'⟩
        · rintro i acc σ' H' _ ⟨o,rfl,_,sm,_⟩ _
          exact sq_at (ha.same s12) sm
        · rintro i acc σ' H' x hx ⟨o, rfl, hacc0, sm, hD0⟩ hacc
          rw [List.getElem?_map] at hx
          obtain ⟨t,ht,rfl⟩ : ∃ t,ss[i]? = some t∧V.str t = x:=by
            cases q : ss[i]? with
            | none=>rw [q] at hx;cases hx
            | some e=>rw [q] at hx;exact ⟨e,rfl,Option.some.inj hx⟩
          have hil:=(List.getElem?_eq_some_iff.mp ht).1
          refine ⟨_,rfl,_,rfl,.dic (DGet.k (k:=.inr t) (sm _ _ hk)) ⟨_,rfl,?_⟩⟩
          refine ite2 (fun h1=>?_) (fun h1=>?_)
          · refine ⟨_,rfl,hacc,?_,_,rfl,?_,?_,hD0⟩
            · rw [hacc0,List.length_map]
              have h2:=List.length_filter_le (fun t : Str=>(valV kvs (.inr t)).isSome) (ss.take i)
              rw [List.length_take] at h2
              have:=W.len
              exact small1000 (by omega)
            · have h1 : (valV kvs (.inr t)).isSome = true:=h1
              rw [List.take_add_one,ht,hacc0,List.filter_append,List.map_append]
              simp [h1]
            · intro c o hc
              rw [upd_ne (ne_of_none hc hD0)]
              exact sm _ _ hc
          · have h1 : ¬ (valV kvs (.inr t)).isSome = true:=h1
            refine ⟨hacc,_,rfl,?_,sm,hD0⟩
            rw [List.take_add_one,ht,hacc0,List.filter_append,List.map_append]
            simp [h1]
        · rintro acc σ' H' ⟨o, rfl, hacc0, sm, hD0⟩ hacc
          rw [List.length_map,List.take_of_length_le (Nat.le_refl _)] at hacc0
          refine k _ _ (s12.trans sm) ?_ ?_
          · cases e : H D' with
            | none=>rfl
            | some o=>rw [s12 _ _ e] at hD0;cases hD0
          · rw [hacc,hacc0]
            have : (ss.filter fun t=>(valV kvs (.inr t)).isSome) = nxtL ss (if false then flipE ts else ts) s:=by
              unfold nxtL
              refine List.filter_congr fun t _=>?_
              rw [Bool.eq_iff_iff,hin t,mem_endsfalse,decide_eq_true_iff]
            rw [this]
theorem mem_endstrue {ts : List (Str × Str)} {s t : Str} : t ∈ (ts.filter fun e => decide (e.2 = s)).map (fun e => e.1) ↔ (s, t) ∈ (if true then flipE ts else ts) := by
  rw [List.mem_map]
  constructor
  · rintro ⟨⟨x,y⟩,h,rfl⟩
    have h:=List.mem_filter.mp h
    have h2:=of_decide_eq_true h.2
    subst h2
    first
      | exact h.1
      | exact mem_flip.mpr h.1
  · intro h
    first
      | exact ⟨(s,t),List.mem_filter.mpr ⟨h,decide_eq_true rfl⟩,rfl⟩
      | exact ⟨(t,s),List.mem_filter.mpr ⟨mem_flip.mp h,decide_eq_true rfl⟩,rfl⟩
theorem scPriors : FnScope ["web","one","found"] ["web","one"] (defScope sPriors):=⟨rfl,rfl,rfl,by decide +kernel,rfl,by decide +kernel,by decide +kernel⟩
theorem ok_priors {f : Addr} {fd : FuncData} (F : Fun K "priors" "priors" sPriors f fd) (B : Blt mg) (cplaces_of : Cal P w K mg base 1 "places_of" ["things"] spPlaces) : FnOk P w K mg base CX0 2 f fd ["web", "one"] (spNextsA true) := by
  refine F.ok scPriors (fun vs H Q E h=>?_) (fun cdv A outer s H vs Q E hr h=>?_)
  · obtain ⟨q,ss,ts,s,rfl,_⟩:=h
    rfl
  · obtain ⟨q, ss, ts, s, rfl, W, k⟩ := h
    have nd:=scPriors.nd
    refine ⟨_,(pss_cons (ps_set (i:=2) nd rfl (Or.inr rfl) (pc cplaces_of hr (p1 (pe_comp (defScope sPriors) ["web","one","found"] ["tie"] [1] ["tie","one"] rfl (pi_seqK K (px K hr (pv 0) pe_int)) (fun _ _ _ _ _=>(pg_name (i:=0) (show (["tie","one"] : List Str).Nodup by decide) rfl (Or.inl rfl))) (fun _ _ _ _ _=>(pts_one (pt_cmpR (op_eqX hr.units) (px K hr (pv 0) pe_int) (pv 1) (nomark _)))) (fun _ _ _ _ _=>(px K hr (pv 0) pe_int))))))
      (pss_one (ps_ret (pe_comp (defScope sPriors) ["web","one","found"] ["thing"] [2] ["thing","found"] rfl (pi_seqK K (px K hr (pv 0) pe_int)) (fun _ _ _ _ _=>(pg_name (i:=0) (show (["thing","found"] : List Str).Nodup by decide) rfl (Or.inl rfl))) (fun _ _ _ _ _=>(pts_one (pt_cmpR (op_inX K hr.units) (pv 0) (pv 1) (by with_unfolding_all rfl)))) (fun _ _ _ _ _=>(pv 0)))))),?_⟩
    obtain ⟨q,a,b,xs,rfl,hq,ha,hb,rp⟩:=W.rep
    have rlen:=rp.len
    rw [List.length_map] at rlen
    refine ⟨_,rfl,.tup (.of hq) rfl ⟨_,rfl,?_⟩⟩
    refine comp_seq xs (fun D i acc σ' H'=>∃ o,σ' = [o,some (.str s)]∧acc = ((ts.take i).filter fun e=>decide (e.2 = s)).map (fun e=>V.str e.1)∧Same H H'∧H D = none) hb fun D hD=>⟨?_,?_,?_,?_⟩
    · exact ⟨none,rfl,rfl,Same.new hD,hD⟩
    · rintro i acc σ' H' _ ⟨o,rfl,_,sm,_⟩ _
      exact sq_at hb sm
    · rintro i acc σ' H' x hx ⟨o, rfl, hacc0, sm, hD0⟩ hacc
      obtain ⟨d,hd,rd⟩:=(rp.same sm).get hx
      rw [List.getElem?_map] at hd
      obtain ⟨e,he,rfl⟩ : ∃ e,ts[i]? = some e∧pairD e = d:=by
        cases q : ts[i]? with
        | none=>rw [q] at hd;cases hd
        | some e=>rw [q] at hd;exact ⟨e,rfl,Option.some.inj hd⟩
      obtain ⟨ta,rfl,hta⟩:=pair_at rd
      have hil:=(List.getElem?_eq_some_iff.mp he).1
      refine ⟨_,rfl,.tup (.of hta) rfl ⟨_,rfl,.sc rfl ⟨_,rfl,?_⟩⟩⟩
      refine ite2 (fun h1=>?_) (fun h1=>?_)
      · have h1 : e.2 = s:=V.str.inj (of_decide_eq_true h1)
        refine ⟨_,rfl,.tup (.of hta) rfl ⟨hacc,?_,_,rfl,?_,?_,hD0⟩⟩
        · rw [hacc0,List.length_map]
          have h2:=List.length_filter_le (fun e : Str × Str=>decide (e.2 = s)) (ts.take i)
          rw [List.length_take] at h2
          have:=W.few
          exact small1000 (by omega)
        · rw [List.take_add_one,he,hacc0,List.filter_append,List.map_append]
          simp [h1]
        · intro c o hc
          rw [upd_ne (ne_of_none hc hD0)]
          exact sm _ _ hc
      · have h1 : ¬ e.2 = s:=fun z=>h1 (decide_eq_true (congrArg V.str z))
        refine ⟨hacc,_,rfl,?_,sm,hD0⟩
        rw [List.take_add_one,he,hacc0,List.filter_append,List.map_append]
        simp [h1]
    · rintro acc σ' H1 ⟨o, rfl, hacc0, s1, hD0⟩ hacc
      rw [rlen,List.take_of_length_le (Nat.le_refl _)] at hacc0
      have ea : acc = List.map V.str ((ts.filter fun e=>decide (e.2 = s)).map (fun e=>e.1)):=by rw [hacc0,List.map_map];rfl
      refine ⟨D,_,rfl,by rw [← ea];exact hacc,?_,?_⟩
      · rw [List.length_map]
        have h2:=List.length_filter_le (fun e : Str × Str=>decide (e.2 = s)) ts
        have:=W.few
        omega
      · intro d kvs H2 s2 hd2 hk hin hat
        have s12:=s1.trans s2
        refine ⟨_,rfl,.tup (.of (s12 _ _ hq)) rfl ⟨_,rfl,?_⟩⟩
        refine comp_seq (List.map V.str ss) (fun D i acc σ' H'=>∃ o,σ' = [o,some (.ref d)]∧acc = List.map V.str ((ss.take i).filter fun t=>(valV kvs (.inr t)).isSome)∧Same H2 H'∧H2 D = none) (ha.same s12) fun D' hD'=>⟨?_,?_,?_,?_⟩
        · exact ⟨none,rfl,rfl,Same.new hD',hD'⟩
        · rintro i acc σ' H' _ ⟨o,rfl,_,sm,_⟩ _
          exact sq_at (ha.same s12) sm
        · rintro i acc σ' H' x hx ⟨o, rfl, hacc0, sm, hD0⟩ hacc
          rw [List.getElem?_map] at hx
          obtain ⟨t,ht,rfl⟩ : ∃ t,ss[i]? = some t∧V.str t = x:=by
            cases q : ss[i]? with
            | none=>rw [q] at hx;cases hx
            | some e=>rw [q] at hx;exact ⟨e,rfl,Option.some.inj hx⟩
          have hil:=(List.getElem?_eq_some_iff.mp ht).1
          refine ⟨_,rfl,_,rfl,.dic (DGet.k (k:=.inr t) (sm _ _ hk)) ⟨_,rfl,?_⟩⟩
          refine ite2 (fun h1=>?_) (fun h1=>?_)
          · refine ⟨_,rfl,hacc,?_,_,rfl,?_,?_,hD0⟩
            · rw [hacc0,List.length_map]
              have h2:=List.length_filter_le (fun t : Str=>(valV kvs (.inr t)).isSome) (ss.take i)
              rw [List.length_take] at h2
              have:=W.len
              exact small1000 (by omega)
            · have h1 : (valV kvs (.inr t)).isSome = true:=h1
              rw [List.take_add_one,ht,hacc0,List.filter_append,List.map_append]
              simp [h1]
            · intro c o hc
              rw [upd_ne (ne_of_none hc hD0)]
              exact sm _ _ hc
          · have h1 : ¬ (valV kvs (.inr t)).isSome = true:=h1
            refine ⟨hacc,_,rfl,?_,sm,hD0⟩
            rw [List.take_add_one,ht,hacc0,List.filter_append,List.map_append]
            simp [h1]
        · rintro acc σ' H' ⟨o, rfl, hacc0, sm, hD0⟩ hacc
          rw [List.length_map,List.take_of_length_le (Nat.le_refl _)] at hacc0
          refine k _ _ (s12.trans sm) ?_ ?_
          · cases e : H D' with
            | none=>rfl
            | some o=>rw [s12 _ _ e] at hD0;cases hD0
          · rw [hacc,hacc0]
            have : (ss.filter fun t=>(valV kvs (.inr t)).isSome) = nxtL ss (if true then flipE ts else ts) s:=by
              unfold nxtL
              refine List.filter_congr fun t _=>?_
              rw [Bool.eq_iff_iff,hin t,mem_endstrue,decide_eq_true_iff]
            rw [this]
end
end K70
namespace K70
open PySem L2
section
variable {P : Program} {w : World} {K : PySem.W.Frag} {mg : Str→Option Value} {base : Heap}
theorem scNextsAll : FnScope ["web","table","thing"] ["web"] (defScope sNextsAll):=⟨rfl,rfl,rfl,by decide +kernel,rfl,by decide +kernel,by decide +kernel⟩
theorem ok_nexts_of_all {f : Addr} {fd : FuncData} (F : Fun K "nexts_of_all" "nexts_of_all" sNextsAll f fd) (B : Blt mg) (cnexts : Cal P w K mg base 2 "nexts" ["web", "one"] (spNextsA false)) : FnOk P w K mg base CX0 3 f fd ["web"] (spNextsAllA false) := by
  refine F.ok scNextsAll (fun vs H Q E h=>?_) (fun cdv A outer s H vs Q E hr h=>?_)
  · obtain ⟨q,ss,ts,rfl,_⟩:=h
    rfl
  · obtain ⟨q, ss, ts, rfl, W, k⟩ := h
    have nd:=scNextsAll.nd
    refine ⟨_,(pss_cons (pst 1 nd pe_dnewK)
      (pss_cons (ps_for PassesOwn.never rfl (pi_seqK K (px K hr (pv 0) pe_int)) (pg_name (i:=2) nd rfl (Or.inl rfl)) (pss_one (ps_asg (pc cnexts hr (p2 (pv 0) (pv 2))) (pg_sub (pv 1) (pv 2) (set_X hr.units)))))
      (pss_one (ps_ret (pv 1))))),?_⟩
    intro d hd
    have W1:=W.same (Same.new (o:=.dK []) hd)
    obtain ⟨q,a,b,xs,rfl,hq,ha,hb,rp⟩:=W.rep
    have s0:=Same.new (o:=.dK []) hd
    refine ⟨_,rfl,.tup (.of (s0 _ _ hq)) rfl ⟨_,rfl,?_⟩⟩
    refine for_seq (xs:=List.map V.str ss) (fun i σ H'=>∃ o1 kvs,σ = [some (.ref q),some (.ref d),o1]∧Same H H'∧H' d = some (.dK kvs)∧kvs.length≤i∧∀ s∈ss.take i,∃ l,valV kvs (.inr s) = some (.ref l)∧H' l = some (.lst (List.map V.str (nxtL ss (if false then flipE ts else ts) s)))) (ha.same s0) ?_ ?_ ?_ ?_
    · exact ⟨none,[],rfl,s0,upd_same,Nat.le_refl _,fun s hs=>by simp at hs⟩
    · rintro i σ H' hi ⟨o1,kvs,rfl,sm,_⟩
      exact (sq_at ha sm).trans (sq_at ha s0).symm
    · rintro i x σ H' hx ⟨o1, kvs, rfl, sm, hk, hkl, hall⟩
      rw [List.getElem?_map] at hx
      obtain ⟨t,ht,rfl⟩ : ∃ t,ss[i]? = some t∧V.str t = x:=by
        cases q : ss[i]? with
        | none=>rw [q] at hx;cases hx
        | some e=>rw [q] at hx;exact ⟨e,rfl,Option.some.inj hx⟩
      have hil:=(List.getElem?_eq_some_iff.mp ht).1
      refine ⟨_,rfl,_,rfl,.ref q,ss,ts,t,rfl,W.same sm,fun l H2 s2 hl hl2=>?_⟩
      have hk2:=s2 _ _ hk
      have:=W.len
      refine ⟨_,rfl,_,rfl,.dic (DPut.k (k:=.inr t) hk2 (small1000 (by omega))) ⟨_,_,rfl,?_,upd_same,?_,?_⟩⟩
      · intro c o hc
        rw [upd_ne (ne_of_none hc hd)]
        exact s2 _ _ (sm _ _ hc)
      · have:=length_putK kvs (.inr t) (V.ref l)
        omega
      · intro s hs
        rw [List.take_add_one,ht,List.mem_append] at hs
        by_cases q : s = t
        · subst q
          refine ⟨l,by rw [valV_put,if_pos rfl],?_⟩
          rw [upd_ne (ne_of hl2 hk2 (by intro z;cases z))]
          exact hl2
        · rcases hs with hs | hs
          · obtain ⟨l',e1,e2⟩:=hall s hs
            refine ⟨l',by rw [valV_put,if_neg (fun z=>q (Sum.inr.inj z))];exact e1,?_⟩
            rw [upd_ne (ne_of (s2 _ _ e2) hk2 (by intro z;cases z))]
            exact s2 _ _ e2
          · exact absurd (by simpa using hs) q
    · rintro σ H' ⟨o1,kvs,rfl,sm,hk,_,hall⟩
      rw [List.length_map,List.take_of_length_le (Nat.le_refl _)] at hall
      exact ⟨_,rfl,k d H' sm hd ⟨kvs,hk,hall⟩⟩
theorem scPriorsAll : FnScope ["web","table","thing"] ["web"] (defScope sPriorsAll):=⟨rfl,rfl,rfl,by decide +kernel,rfl,by decide +kernel,by decide +kernel⟩
theorem ok_priors_of_all {f : Addr} {fd : FuncData} (F : Fun K "priors_of_all" "priors_of_all" sPriorsAll f fd) (B : Blt mg) (cpriors : Cal P w K mg base 2 "priors" ["web", "one"] (spNextsA true)) : FnOk P w K mg base CX0 3 f fd ["web"] (spNextsAllA true) := by
  refine F.ok scPriorsAll (fun vs H Q E h=>?_) (fun cdv A outer s H vs Q E hr h=>?_)
  · obtain ⟨q,ss,ts,rfl,_⟩:=h
    rfl
  · obtain ⟨q, ss, ts, rfl, W, k⟩ := h
    have nd:=scPriorsAll.nd
    refine ⟨_,(pss_cons (pst 1 nd pe_dnewK)
      (pss_cons (ps_for PassesOwn.never rfl (pi_seqK K (px K hr (pv 0) pe_int)) (pg_name (i:=2) nd rfl (Or.inl rfl)) (pss_one (ps_asg (pc cpriors hr (p2 (pv 0) (pv 2))) (pg_sub (pv 1) (pv 2) (set_X hr.units)))))
      (pss_one (ps_ret (pv 1))))),?_⟩
    intro d hd
    have W1:=W.same (Same.new (o:=.dK []) hd)
    obtain ⟨q,a,b,xs,rfl,hq,ha,hb,rp⟩:=W.rep
    have s0:=Same.new (o:=.dK []) hd
    refine ⟨_,rfl,.tup (.of (s0 _ _ hq)) rfl ⟨_,rfl,?_⟩⟩
    refine for_seq (xs:=List.map V.str ss) (fun i σ H'=>∃ o1 kvs,σ = [some (.ref q),some (.ref d),o1]∧Same H H'∧H' d = some (.dK kvs)∧kvs.length≤i∧∀ s∈ss.take i,∃ l,valV kvs (.inr s) = some (.ref l)∧H' l = some (.lst (List.map V.str (nxtL ss (if true then flipE ts else ts) s)))) (ha.same s0) ?_ ?_ ?_ ?_
    · exact ⟨none,[],rfl,s0,upd_same,Nat.le_refl _,fun s hs=>by simp at hs⟩
    · rintro i σ H' hi ⟨o1,kvs,rfl,sm,_⟩
      exact (sq_at ha sm).trans (sq_at ha s0).symm
    · rintro i x σ H' hx ⟨o1, kvs, rfl, sm, hk, hkl, hall⟩
      rw [List.getElem?_map] at hx
      obtain ⟨t,ht,rfl⟩ : ∃ t,ss[i]? = some t∧V.str t = x:=by
        cases q : ss[i]? with
        | none=>rw [q] at hx;cases hx
        | some e=>rw [q] at hx;exact ⟨e,rfl,Option.some.inj hx⟩
      have hil:=(List.getElem?_eq_some_iff.mp ht).1
      refine ⟨_,rfl,_,rfl,.ref q,ss,ts,t,rfl,W.same sm,fun l H2 s2 hl hl2=>?_⟩
      have hk2:=s2 _ _ hk
      have:=W.len
      refine ⟨_,rfl,_,rfl,.dic (DPut.k (k:=.inr t) hk2 (small1000 (by omega))) ⟨_,_,rfl,?_,upd_same,?_,?_⟩⟩
      · intro c o hc
        rw [upd_ne (ne_of_none hc hd)]
        exact s2 _ _ (sm _ _ hc)
      · have:=length_putK kvs (.inr t) (V.ref l)
        omega
      · intro s hs
        rw [List.take_add_one,ht,List.mem_append] at hs
        by_cases q : s = t
        · subst q
          refine ⟨l,by rw [valV_put,if_pos rfl],?_⟩
          rw [upd_ne (ne_of hl2 hk2 (by intro z;cases z))]
          exact hl2
        · rcases hs with hs | hs
          · obtain ⟨l',e1,e2⟩:=hall s hs
            refine ⟨l',by rw [valV_put,if_neg (fun z=>q (Sum.inr.inj z))];exact e1,?_⟩
            rw [upd_ne (ne_of (s2 _ _ e2) hk2 (by intro z;cases z))]
            exact s2 _ _ e2
          · exact absurd (by simpa using hs) q
    · rintro σ H' ⟨o1,kvs,rfl,sm,hk,_,hall⟩
      rw [List.length_map,List.take_of_length_le (Nat.le_refl _)] at hall
      exact ⟨_,rfl,k d H' sm hd ⟨kvs,hk,hall⟩⟩
end
end K70
namespace K70
open PySem L2
section
variable {P : Program} {w : World} {K : PySem.W.Frag} {mg : Str→Option Value} {base : Heap}
structure Stp (H H' : Hp) (ss : List Str) (e : Addr) (look : Str→Option Nat) (kvs : List (Key × V)) : Prop where
  sm : Same H H'
  at_ : H' e = some (.dK kvs)
  lk : ∀ t,valV kvs (.inr t) = (look t).map fun k : Nat=>V.int (k : Int)
  nd : (kvs.map (·.1)).Nodup
  ks : ∀ k∈kvs.map (·.1),∃ t∈ss,k = Sum.inr t
theorem Stp.len {H H' : Hp} {ss : List Str} {e : Addr} {look : Str→Option Nat} {kvs : List (Key × V)} (h : Stp H H' ss e look kvs) : kvs.length≤ss.length:=by
  have:=h.nd.length_le_of_subset (l₂:=ss.map (Sum.inr : Str→Key)) fun k hk=>by
    obtain ⟨t,ht,rfl⟩:=h.ks k hk
    exact List.mem_map.mpr ⟨t,ht,rfl⟩
  simpa using this
theorem Stp.oth {H H' : Hp} {ss : List Str} {e b : Addr} {look : Str→Option Nat} {kvs : List (Key × V)} {o : HO} (h : Stp H H' ss e look kvs) (hb : H b = none) (n : e≠b) : Stp H (upd H' b o) ss e look kvs :=
  ⟨fun c o' hc=>by rw [upd_ne (ne_of_none hc hb)];exact h.sm _ _ hc,by rw [upd_ne n];exact h.at_,h.lk,h.nd,h.ks⟩
theorem Stp.put {H H' : Hp} {ss : List Str} {e : Addr} {look : Str → Option Nat} {kvs : List (Key × V)} (h : Stp H H' ss e look kvs) (he : H e = none) {t : Str} (ht : t ∈ ss) (hn : look t = none) (k : Nat) :
    Stp H (upd H' e (.dK (putK kvs (.inr t) (.int (k : Int))))) ss e (fun a=>if a = t then some k else look a) (putK kvs (.inr t) (.int (k : Int))):=by
  have hv : valV kvs (.inr t) = none:=by rw [h.lk,hn];rfl
  refine ⟨fun c o' hc=>by rw [upd_ne (ne_of_none hc he)];exact h.sm _ _ hc,upd_same,fun u=>?_,nd_putK _ h.nd hv,fun q hq=>?_⟩
  · rw [valV_put]
    by_cases q : u = t
    · subst q;rw [if_pos rfl];simp
    · rw [if_neg (fun z=>q (Sum.inr.inj z)),h.lk u];simp [q]
  · rw [putK_new _ hv,List.map_append] at hq
    rcases List.mem_append.mp hq with hq | hq
    · exact h.ks q hq
    · have : q = Sum.inr t:=by simpa using hq
      exact ⟨t,ht,this⟩
def spStepsL : Sp:=fun vs H Q _=>∃ d st s ss f,vs = [.ref d,.ref st]∧H st = some (.lst [V.str s])∧Tab H d ss f∧s∈ss∧ss.length≤60∧(∀ t∈ss,∀ u∈f t,u∈ss) ∧
  ∀ e kvs H',Same H H'→H e = none→H' e = some (.dK kvs)→(∀ t v,valV kvs (.inr t) = some v ↔ ∃ k : Nat,v = .int k∧MG.Dst (Ner ss f) s k t)→Q (.ref e) H'
theorem scSteps : FnScope ["table","starts","steps","start","edge","further","thing","near"] ["table","starts"] (defScope sSteps):=⟨rfl,rfl,rfl,by decide +kernel,rfl,by decide +kernel,by decide +kernel⟩
theorem ok_steps {f : Addr} {fd : FuncData} (F : Fun K "steps_from" "steps_from" sSteps f fd) (B : Blt mg) : FnOk P w K mg base CX0 1 f fd ["table", "starts"] spStepsL := by
  refine F.ok scSteps (fun vs H Q E h=>?_) (fun cdv A outer s H vs Q E hr h=>?_)
  · obtain ⟨d,st,s,ss,f,rfl,_⟩:=h
    rfl
  · obtain ⟨d, st, s, ss, fn, rfl, hst, T, hs, hlen, hcl, k⟩ := h
    have nd:=scSteps.nd
    refine ⟨_,(pss_cons (pst 2 nd pe_dnewK)
      (pss_cons (ps_for PassesOwn.never rfl (pi_listK K (pv 1)) (pg_name (i:=3) nd rfl (Or.inl rfl)) (pss_one (ps_asg pe_int (pg_sub (pv 2) (pv 3) (set_X hr.units)))))
      (pss_cons (pst 4 nd (b_list K rfl B (p1 (pv 1))))
      (pss_cons (ps_while PassesOwn.never (pt_cmpR op_gt (b_len K B (p1 (pv 4))) pe_int (nomark _)) (pss_cons (pst 5 nd (pe_lst pa_nil))
      (pss_cons (ps_for PassesOwn.never rfl (pi_listK K (pv 4)) (pg_name (i:=6) nd rfl (Or.inl rfl)) (pss_one (ps_for PassesOwn.never rfl (pi_listK K (px K hr (pv 0) (pv 6))) (pg_name (i:=7) nd rfl (Or.inl rfl)) (pss_one (ps_if (pt_cmpR (op_notInX K hr.units) (pv 7) (pv 2) (by with_unfolding_all rfl)) (pss_cons (ps_asg (pe_op op_addX (px K hr (pv 2) (pv 6)) pe_int) (pg_sub (pv 2) (pv 7) (set_X hr.units)))
      (pss_one (ps_expr (m_append K (pv 5) (p1 (pv 7)))))) pss_nil)))))
      (pss_one (pst 4 nd (pv 5))))))
      (pss_one (ps_ret (pv 2))))))),?_⟩
    have hin : ∀ y,MG.Rch (Ner ss fn) s y→y∈ss:=fun y r=>MG.Rch.closed (S:=fun y=>y∈ss) hs (fun a b ha r=>hcl a ha b r.2) r
    intro e he
    have hste : st≠e:=ne_of_none hst he
    refine ⟨_,rfl,st,rfl,⟨_,.of (by rw [upd_ne hste];exact hst)⟩,?_⟩
    refine for_list (xs:=[V.str s]) (fun i σ H'=>∃ o3 o4 o5 o6 o7,σ = [some (.ref d),some (.ref st),some (.ref e),o3,o4,o5,o6,o7]∧H' st = some (.lst [V.str s])∧(i = 0→H' = upd H e (.dK []))∧(i≠0→∃ kvs,Stp H H' ss e (fun a=>if a = s then some 0 else none) kvs)) ?_ ?_ ?_ ?_
    · exact ⟨none,none,none,none,none,rfl,by rw [upd_ne hste];exact hst,fun _=>rfl,fun z=>absurd rfl z⟩
    · rintro i σ H' hi ⟨o3,o4,o5,o6,o7,rfl,h1,_⟩
      exact .of h1
    · rintro i x σ H' hx ⟨o3,o4,o5,o6,o7,rfl,h1,h2,_⟩
      have hi : i < 1:=(List.getElem?_eq_some_iff.mp hx).1
      have hi : i = 0:=by omega
      subst hi
      have hx : V.str s = x:=Option.some.inj hx
      subst hx
      have h2:=h2 rfl
      subst h2
      have h0 : Stp H (upd (upd H e (.dK [])) e (.dK (putK [] (.inr s) (.int ((0 : Nat) : Int))))) ss e (fun a=>if a = s then some 0 else none) (putK [] (.inr s) (.int ((0 : Nat) : Int))) :=
        Stp.put (kvs:=[]) (look:=fun _=>none) ⟨Same.new he,upd_same,fun t=>rfl,List.nodup_nil,fun k hk=>by cases hk⟩ he hs rfl 0
      refine ⟨_,rfl,_,rfl,.dic (DPut.k (k:=.inr s) upd_same (by show 0 < sizeLine;decide)) ⟨_,_,_,_,_,rfl,by rw [upd_ne hste];exact h1,fun z=>absurd z (by omega),fun _=>⟨_,h0⟩⟩⟩
    rintro σ H1 ⟨o3,o4,o5,o6,o7,rfl,hst1,_,hS⟩
    obtain ⟨kv0,h0⟩:=hS (by show 1≠0;omega)
    refine ⟨_,rfl,_,rfl,.seq (.inl (.of hst1)) fun l0 hl0=>?_⟩
    have hl00 : H l0 = none:=by
      cases q : H l0 with
      | none=>rfl
      | some o=>rw [h0.sm _ _ q] at hl0;cases hl0
    have h1:=h0.oth (o:=.lst [V.str s]) hl00 (ne_of_none h0.at_ hl0)
    refine ⟨fun m σ H'=>∃ L le edge kvs look o3 o4 o5 o6,m + L = ss.length∧σ = [some (.ref d),some (.ref st),some (.ref e),o3,some (.ref le),o4,o5,o6]∧Stp H H' ss e look kvs∧H le = none∧H' le = some (.lst (List.map V.str edge))∧edge.length≤60∧MG.Lev (Ner ss fn) s L look edge,
      ⟨ss.length,0,l0,[s],_,_,o3,o5,o6,o7,by omega,rfl,h1,hl00,upd_same,by show 1≤60;decide,MG.Lev.start fun y=>rfl⟩,?_⟩
    rintro m σ H2 ⟨L,le,edge,kvs,look,o3,o4,o5,o6,hm,rfl,S,hle0,hle,hel,lev⟩
    refine ⟨_,rfl,_,_,rfl,Or.inl ⟨_,.of hle,rfl⟩,_,_,rfl,rfl,_,rfl,?_⟩
    refine ite2 (fun hc=>?_) (fun hc=>?_)
    · have hc : (0 : Int) < ((List.map V.str edge).length : Nat) := of_decide_eq_true hc
      rw [List.length_map] at hc
      have hL : L < ss.length:=by
        cases edge with
        | nil=>simp at hc
        | cons y r=>exact MG.Dst.lt hin ((lev.edg y).mp (by simp))
      refine ⟨fun σ' H'=>∃ le edge kvs look o3 o4 o5 o6,σ' = [some (.ref d),some (.ref st),some (.ref e),o3,some (.ref le),o4,o5,o6]∧Stp H H' ss e look kvs∧H le = none∧H' le = some (.lst (List.map V.str edge))∧edge.length≤60∧MG.Lev (Ner ss fn) s (L + 1) look edge,
        fun σ' H' ⟨le,edge,kvs,look,o3,o4,o5,o6,p⟩=>⟨m - 1,by omega,L + 1,le,edge,kvs,look,o3,o4,o5,o6,by omega,p⟩,?_⟩
      refine ⟨(by show 0≤sizeLine;decide),fun lf hlf=>?_⟩
      have hlf0 : H lf = none:=by
        cases q : H lf with
        | none=>rfl
        | some o=>rw [S.sm _ _ q] at hlf;cases hlf
      have nlf : le≠lf:=ne_of_none hle hlf
      have S1:=S.oth (o:=.lst []) hlf0 (ne_of_none S.at_ hlf)
      refine ⟨_,rfl,le,rfl,⟨_,.of (by rw [upd_ne nlf];exact hle)⟩,?_⟩
      refine for_list (xs:=List.map V.str edge) (fun i σ H'=>∃ kvs look fur o5 o6,σ = [some (.ref d),some (.ref st),some (.ref e),o3,some (.ref le),some (.ref lf),o5,o6]∧Stp H H' ss e look kvs∧H' le = some (.lst (List.map V.str edge))∧H' lf = some (.lst (List.map V.str fur))∧fur.Nodup∧(∀ t∈fur,t∈ss)∧MG.Mid (Ner ss fn) s L look fur (fun z y=>z∈edge.take i∧Ner ss fn z y)) ?_ ?_ ?_ ?_
      · exact ⟨kvs,look,[],o5,o6,rfl,S1,by rw [upd_ne nlf];exact hle,upd_same,List.nodup_nil,(fun t ht=>by cases ht),lev.mid.wk fun a b h=>by simp at h⟩
      · rintro i σ H' hi ⟨kvs,look,fur,o5,o6,rfl,S,hle,_⟩
        exact .of hle
      · rintro i x σ H' hx ⟨kvs, look, fur, o5, o6, rfl, S, hle, hlf, hfn, hfs, mid⟩
        rw [List.getElem?_map] at hx
        obtain ⟨z,hz,rfl⟩ : ∃ z,edge[i]? = some z∧V.str z = x:=by
          cases q : edge[i]? with
          | none=>rw [q] at hx;cases hx
          | some e=>rw [q] at hx;exact ⟨e,rfl,Option.some.inj hx⟩
        have dz:=(lev.edg z).mp (List.mem_of_getElem? hz)
        have hzs:=hin z dz.rch
        obtain ⟨tkv,hd,ht⟩:=T
        obtain ⟨l,el,hl⟩:=ht z hzs
        have hl':=S.sm _ _ hl
        refine ⟨_,rfl,_,rfl,.dic (.inl ⟨tkv,.inr z,.inl (S.sm _ _ hd),rfl,el.symm⟩) ⟨l,rfl,⟨_,.of hl'⟩,?_⟩⟩
        refine for_list (xs:=List.map V.str (fn z)) (fun j σ H'=>∃ kvs look fur o6,σ = [some (.ref d),some (.ref st),some (.ref e),o3,some (.ref le),some (.ref lf),some (.str z),o6]∧Stp H H' ss e look kvs∧H' le = some (.lst (List.map V.str edge))∧H' lf = some (.lst (List.map V.str fur))∧fur.Nodup∧(∀ t∈fur,t∈ss)∧MG.Mid (Ner ss fn) s L look fur (fun a y=>(a∈edge.take i∧Ner ss fn a y)∨(a = z∧y∈(fn z).take j))) ?_ ?_ ?_ ?_
        · exact ⟨kvs,look,fur,o6,rfl,S,hle,hlf,hfn,hfs,mid.wk fun a b h=>by simpa using h⟩
        · rintro j σ H' hj ⟨kvs,look,fur,o6,rfl,S,_⟩
          exact .of (S.sm _ _ hl)
        · rintro j x σ H' hx ⟨kvs, look, fur, o6, rfl, S, hle, hlf, hfn, hfs, mid⟩
          rw [List.getElem?_map] at hx
          obtain ⟨y,hy,rfl⟩ : ∃ y,(fn z)[j]? = some y∧V.str y = x:=by
            cases q : (fn z)[j]? with
            | none=>rw [q] at hx;cases hx
            | some e=>rw [q] at hx;exact ⟨e,rfl,Option.some.inj hx⟩
          have hyf:=List.mem_of_getElem? hy
          have hys:=hcl z hzs y hyf
          have hdone : ∀ a b,((a∈edge.take i∧Ner ss fn a b)∨(a = z∧b∈(fn z).take (j + 1)))→((a∈edge.take i∧Ner ss fn a b)∨(a = z∧b∈(fn z).take j))∨(a = z∧b = y):=by
            intro a b h
            rcases h with h | ⟨h1,h2⟩
            · exact .inl (.inl h)
            · rw [List.take_add_one,hy,List.mem_append] at h2
              rcases h2 with h2 | h2
              · exact .inl (.inr ⟨h1,h2⟩)
              · exact .inr ⟨h1,by simpa using h2⟩
          refine ⟨_,rfl,_,rfl,.dic (DGet.k (k:=.inr y) S.at_) ⟨_,rfl,?_⟩⟩
          rw [S.lk y]
          refine ite2 (fun hc=>?_) (fun hc=>?_)
          · have hc : ¬ (look y).isSome = true := by simpa using hc
            have hn : look y = none:=by simpa using hc
            have hzl : valV kvs (.inr z) = some (V.int (L : Int)):=by rw [S.lk,mid.cmp z L (Nat.le_refl _) dz];rfl
            refine ⟨_,rfl,_,rfl,.dic (.inl ⟨kvs,.inr z,.inl S.at_,rfl,hzl.symm⟩) (.int ?_)⟩
            have hkl:=S.len
            refine ⟨_,rfl,_,rfl,.dic (DPut.k (k:=.inr y) S.at_ (small1000 (by omega))) ?_⟩
            have S':=S.put he hys hn (L + 1)
            have nle : le≠e:=ne_of hle S.at_ (by intro z;cases z)
            have nlf' : lf≠e:=ne_of hlf S.at_ (by intro z;cases z)
            refine ⟨_,rfl,.inl ⟨rfl,_,.of (by rw [upd_ne nlf'];exact hlf)⟩,?_⟩
            have hfl : fur.length≤ss.length:=hfn.length_le_of_subset hfs
            refine ⟨_,rfl,lf,_,_,rfl,rfl,by rw [upd_ne nlf'];exact hlf,by rw [List.length_map];exact small1000 (by omega),?_⟩
            refine ⟨_,_,fur++[y],_,rfl,S'.oth hlf0 (Ne.symm nlf'),?_,?_,?_,?_,(mid.add (z:=z) (y:=y) dz ⟨hzs,hyf⟩ hn fun a=>rfl).wk hdone⟩
            · rw [upd_ne nlf,upd_ne nle];exact hle
            · rw [upd_same,List.map_append];rfl
            · rw [List.nodup_append]
              refine ⟨hfn,by simp,fun a ha b hb=>?_⟩
              have : b = y:=by simpa using hb
              subst this
              rintro rfl
              rw [(mid.fur a ha).2] at hn
              cases hn
            · intro t ht
              rcases List.mem_append.mp ht with ht | ht
              · exact hfs t ht
              · have : t = y:=by simpa using ht
                rw [this];exact hys
          · have hc : (look y).isSome = true:=by
              cases q : look y with
              | none=>rw [q] at hc;exact absurd rfl hc
              | some v=>rfl
            exact ⟨kvs,look,fur,_,rfl,S,hle,hlf,hfn,hfs,(mid.skip (z:=z) hc).wk hdone⟩
        · rintro σ H' ⟨kvs,look,fur,o6,rfl,S,hle,hlf,hfn,hfs,mid⟩
          rw [List.length_map,List.take_of_length_le (Nat.le_refl _)] at mid
          refine ⟨kvs,look,fur,_,_,rfl,S,hle,hlf,hfn,hfs,mid.wk fun a b h=>?_⟩
          obtain ⟨h1,h2⟩:=h
          rw [List.take_add_one,hz,List.mem_append] at h1
          rcases h1 with h1 | h1
          · exact .inl ⟨h1,h2⟩
          · have : a = z:=by simpa using h1
            subst this
            exact .inr ⟨rfl,h2.2⟩
      · rintro σ H' ⟨kvs,look,fur,o5,o6,rfl,S,hle,hlf,hfn,hfs,mid⟩
        rw [List.length_map,List.take_of_length_le (Nat.le_refl _)] at mid
        have hfl : fur.length≤ss.length:=hfn.length_le_of_subset hfs
        exact ⟨_,rfl,lf,fur,kvs,look,_,_,_,_,rfl,S,hlf0,hlf,by omega,mid.next lev.edg fun z y hz r=>⟨hz,r⟩⟩
    · have he0 : edge = [] := by
        cases edge with
        | nil=>rfl
        | cons y r=>exact absurd (decide_eq_true (by simp)) hc
      subst he0
      have fin:=lev.done
      refine ⟨_,rfl,k e kvs H2 S.sm he S.at_ fun t v=>?_⟩
      rw [S.lk t]
      constructor
      · intro q
        cases q2 : look t with
        | none=>rw [q2] at q;cases q
        | some n =>
          rw [q2] at q
          exact ⟨n,(Option.some.inj q).symm,(fin t n).mp q2⟩
      · rintro ⟨n,rfl,dn⟩
        rw [(fin t n).mpr dn];rfl
end
end K70
namespace K70
open PySem L2
section
variable {P : Program} {w : World} {K : PySem.W.Frag} {mg : Str→Option Value} {base : Heap}
theorem mem_getD {ss : List Str} {i : Nat} (h : i < ss.length) : ss.getD i ""∈ss:=by
  rw [List.getD_eq_getElem?_getD,List.getElem?_eq_getElem h]
  exact List.getElem_mem h
theorem web_of {H H' : Hp} {n t : Addr} {ss : List Str} {es : List (Nat × Nat)} {v : V} (B : Built H n t ss es) (r : Rep H' v (webD ss (es.map (nmP ss)))) : Web H' v ss (es.map (nmP ss)) :=
  ⟨r,B.nd,B.ok,B.len,by rw [List.length_map];exact B.few,fun e he=>by
    obtain ⟨f,hf,rfl⟩:=List.mem_map.mp he
    have:=B.val f hf
    exact ⟨mem_getD this.1,mem_getD this.2⟩⟩
theorem getD_inj {ss : List Str} (nd : ss.Nodup) (nm : ∀ s∈ss,Nm s) {a b : Nat} (ha : a < ss.length) (h : ss.getD a "" = ss.getD b "") : a = b:=by
  by_cases hb : b < ss.length
  · rw [List.getD_eq_getElem?_getD,List.getD_eq_getElem?_getD,List.getElem?_eq_getElem ha,List.getElem?_eq_getElem hb] at h
    exact (List.getElem_inj nd).mp h
  · have e : ss.getD b "" = "":=by rw [List.getD_eq_getElem?_getD,List.getElem?_eq_none (by omega)];rfl
    have h2:=(nm _ (mem_getD ha)).1
    rw [h,e] at h2
    exact absurd h2 (by decide)
def swapE (es : List (Nat × Nat)) : List (Nat × Nat):=es.map fun e=>(e.2,e.1)
theorem flip_nm (ss : List Str) (es : List (Nat × Nat)) : flipE (es.map (nmP ss)) = (swapE es).map (nmP ss):=by
  unfold flipE swapE
  rw [List.map_map,List.map_map];rfl
theorem swap_val {ss : List Str} {es : List (Nat × Nat)} (val : ∀ e∈es,e.1 < ss.length∧e.2 < ss.length) : ∀ e∈swapE es,e.1 < ss.length∧e.2 < ss.length:=fun e he=>by
  obtain ⟨f,hf,rfl⟩:=List.mem_map.mp he
  exact ⟨(val f hf).2,(val f hf).1⟩
end
end K70
namespace K70
open PySem L2
section
variable {P : Program} {w : World} {K : PySem.W.Frag} {mg : Str→Option Value} {base : Heap}
def nmA (ss : List Str) (i : Nat) : Str:=ss.getD i ""
theorem ss_eq (ss : List Str) : ss = (List.range ss.length).map (nmA ss):=by
  apply List.ext_getElem?
  intro i
  rw [List.getElem?_map]
  by_cases hi : i < ss.length
  · rw [List.getElem?_eq_getElem hi,List.getElem?_range hi]
    simp [nmA,hi]
  · rw [List.getElem?_eq_none (by omega),List.getElem?_eq_none (by simpa using hi)]
    rfl
theorem mem_nmP {ss : List Str} {es : List (Nat × Nat)} (nd : ss.Nodup) (nm : ∀ s∈ss,Nm s) (val : ∀ e∈es,e.1 < ss.length∧e.2 < ss.length) {a b : Nat} : (nmA ss a,nmA ss b)∈es.map (nmP ss) ↔ (a,b)∈es:=by
  rw [List.mem_map]
  constructor
  · rintro ⟨e,he,q⟩
    have q1:=getD_inj nd nm (val e he).1 (Prod.mk.inj q).1
    have q2:=getD_inj nd nm (val e he).2 (Prod.mk.inj q).2
    rw [← q1,← q2];exact he
  · intro h;exact ⟨(a,b),h,rfl⟩
def nxn (n : Nat) (es : List (Nat × Nat)) (a : Nat) : List Nat:=(List.range n).filter fun b=>decide ((a,b)∈es)
theorem nxt_num {ss : List Str} {es : List (Nat × Nat)} (nd : ss.Nodup) (nm : ∀ s∈ss,Nm s) (val : ∀ e∈es,e.1 < ss.length∧e.2 < ss.length) (a : Nat) : nxtL ss (es.map (nmP ss)) (nmA ss a) = (nxn ss.length es a).map (nmA ss):=by
  unfold nxtL nxn
  have e2 : ∀ g : Str→Bool,ss.filter g = ((List.range ss.length).map (nmA ss)).filter g:=fun g=>by rw [← ss_eq ss]
  rw [e2,List.filter_map]
  congr 1
  refine List.filter_congr fun i hi=>?_
  show decide ((nmA ss a,nmA ss i)∈es.map (nmP ss)) = decide ((a,i)∈es)
  rw [Bool.eq_iff_iff,decide_eq_true_iff,decide_eq_true_iff,mem_nmP nd nm val]
theorem head_least {n b : Nat} {q : Nat→Bool} {r : List Nat} (h : (List.range n).filter q = b::r) : b < n∧q b = true∧∀ c,c < n→q c = true→b≤c:=by
  have hb : b∈(List.range n).filter q:=by rw [h];simp
  obtain ⟨h1,h2⟩:=List.mem_filter.mp hb
  refine ⟨List.mem_range.mp h1,h2,fun c hc hq=>?_⟩
  have hm : c∈(List.range n).filter q:=List.mem_filter.mpr ⟨List.mem_range.mpr hc,hq⟩
  have hp:=(List.pairwise_lt_range (n:=n)).filter q
  rw [h] at hm hp
  rcases List.mem_cons.mp hm with rfl | hm
  · exact Nat.le_refl _
  · exact Nat.le_of_lt ((List.pairwise_cons.mp hp).1 c hm)
theorem walk_names {ss : List Str} {es : List (Nat × Nat)} (nd : ss.Nodup) (nm : ∀ s ∈ ss, Nm s) (val : ∀ e ∈ es, e.1 < ss.length ∧ e.2 < ss.length) {one i k : Nat} (hi : i < ss.length) :
    MG.Walk (Tie (es.map (nmP ss))) k (nmA ss one) (nmA ss i) ↔ MG.Walk (MG.Arr es) k one i:=by
  constructor
  · intro r
    obtain ⟨y,ey,ry⟩:=MG.Walk.back (R:=MG.Arr es) (x:=one) (nmA ss) (fun a c h=>by
      obtain ⟨e,he,q⟩:=List.mem_map.mp h
      have q1 : ss.getD e.1 "" = ss.getD a "":=(Prod.mk.inj q).1
      have q2 : ss.getD e.2 "" = c:=(Prod.mk.inj q).2
      have:=getD_inj nd nm (val e he).1 q1
      exact ⟨e.2,q2.symm,by unfold MG.Arr;rw [← this];exact he⟩) r
    have:=getD_inj nd nm hi ey
    rw [this];exact ry
  · intro r
    exact MG.Walk.map (nmA ss) (fun a b h=>List.mem_map.mpr ⟨(a,b),h,rfl⟩) r
theorem dst_names {ss : List Str} {es : List (Nat × Nat)} (nd : ss.Nodup) (nm : ∀ s∈ss,Nm s) (val : ∀ e∈es,e.1 < ss.length∧e.2 < ss.length) {goal i k : Nat} (hi : i < ss.length) :
    MG.Dst (Tie (flipE (es.map (nmP ss)))) (nmA ss goal) k (nmA ss i) ↔ MG.To es goal k i:=by
  rw [flip_nm]
  have w : ∀ k,MG.Walk (Tie ((swapE es).map (nmP ss))) k (nmA ss goal) (nmA ss i) ↔ MG.Walk (MG.Arr (swapE es)) k goal i:=fun k=>walk_names nd nm (swap_val val) hi
  constructor
  · rintro ⟨h1,h2⟩
    exact ⟨(w k).mp h1,fun m hm q=>h2 m hm ((w m).mpr q)⟩
  · rintro ⟨h1,h2⟩
    exact ⟨(w k).mpr h1,fun m hm q=>h2 m hm ((w m).mp q)⟩
theorem ner_flip {H : Hp} {q : V} {ss : List Str} {ts : List (Str × Str)} (W : WebA H q ss ts) : Ner ss (nxtL ss (if true then flipE ts else ts)) = Tie (flipE ts):=by
  funext a b
  refine propext ⟨fun h=>?_,fun h=>?_⟩
  · have h3:=of_decide_eq_true (List.mem_filter.mp h.2).2
    exact h3
  · have g:=W.inn _ (mem_flip.mp h)
    exact ⟨g.2,List.mem_filter.mpr ⟨g.1,decide_eq_true h⟩⟩
def LeftN (kvs : List (Key × V)) (ss : List Str) (es : List (Nat × Nat)) (goal : Nat) : Prop:=∀ i v,i < ss.length→(valV kvs (.inr (nmA ss i)) = some v ↔ ∃ k : Nat,v = .int (k : Int)∧MG.To es goal k i)
def ValE (ss : List Str) (es : List (Nat × Nat)) : Prop:=∀ e∈es,e.1 < ss.length∧e.2 < ss.length
def spNearer : Sp:=fun vs H Q _=>∃ (q : V) (ss : List Str) (es : List (Nat × Nat)) (dl : Addr) (kvs : List (Key × V)) (goal j a : Nat),vs = [q,.str (nmA ss a),.ref dl]∧WebA H q ss (es.map (nmP ss))∧ValE ss es∧H dl = some (.dK kvs)∧LeftN kvs ss es goal∧a < ss.length∧MG.To es goal (j + 1) a ∧
  ∀ b H',MG.Lst es goal j a b→Same H H'→Q (.str (nmA ss b)) H'
theorem scNearer : FnScope ["web","thing","left","nearer"] ["web","thing","left"] (defScope sNearer):=⟨rfl,rfl,rfl,by decide +kernel,rfl,by decide +kernel,by decide +kernel⟩
theorem ok_nearer {f : Addr} {fd : FuncData} (F : Fun K "first_nearer" "first_nearer" sNearer f fd) (B : Blt mg) (cnexts : Cal P w K mg base 2 "nexts" ["web", "one"] (spNextsA false)) : FnOk P w K mg base CX0 3 f fd ["web", "thing", "left"] spNearer := by
  refine F.ok scNearer (fun vs H Q E h=>?_) (fun cdv A outer s H vs Q E hr h=>?_)
  · obtain ⟨q,ss,es,dl,kvs,goal,j,a,rfl,_⟩:=h
    rfl
  · obtain ⟨q, ss, es, dl, kvs, goal, j, a, rfl, W, val, hdl, left, ha, toa, k⟩ := h
    have nd:=scNearer.nd
    refine ⟨_,(pss_cons (ps_setC (i:=3) nd rfl rfl (by rfl) (defScope sNearer) ["web","thing","left","nearer"] ["near"] [2,1] ["near","left","thing"] rfl (pi_listK K (pc cnexts hr (p2 (pv 0) (pv 1)))) (fun _ _ _ _ _=>(pg_name (i:=0) (show (["near","left","thing"] : List Str).Nodup by decide) rfl (Or.inl rfl))) (fun _ _ _ _ _=>(pts_one (PW.pt (pw_and (pt_cmpR (op_inX K hr.units) (pv 0) (pv 1) (by with_unfolding_all rfl)) (pw_and1 (pt_cmpR op_ltX (px K hr (pv 1) (pv 0)) (px K hr (pv 1) (pv 2)) (nomark _))))))) (fun _ _ _ _ _=>(pv 0)))
      (pss_one (ps_ret (px K hr (pv 3) pe_int)))),?_⟩
    refine ⟨_,rfl,_,rfl,q,ss,_,_,rfl,W,fun l1 H1 s1 hl1 hc1=>⟨l1,rfl,⟨_,.of hc1⟩,?_⟩⟩
    have hc1 : H1 l1 = some (.lst (List.map V.str ((nxn ss.length es a).map (nmA ss)))):=by rw [← nxt_num W.nd W.nm val a];exact hc1
    have hfl : (nxn ss.length es a).length≤ss.length:=by
      have:=List.length_filter_le (fun b=>decide ((a,b)∈es)) (List.range ss.length)
      rw [List.length_range] at this
      exact this
    have hlen:=W.len
    refine comp_list (List.map V.str ((nxn ss.length es a).map (nmA ss))) (fun D i acc σ' H'=>∃ o,σ' = [o,some (.ref dl),some (.str (nmA ss a))]∧acc = List.map V.str ((((nxn ss.length es a).take i).filter fun b=>decide (valV kvs (.inr (nmA ss b)) = some (.int (j : Int)))).map (nmA ss))∧Same H1 H'∧H1 D = none) fun D hD=>⟨?_,?_,?_,?_⟩
    · exact ⟨none,rfl,rfl,Same.new hD,hD⟩
    · rintro i acc σ' H' _ ⟨o,rfl,_,sm,_⟩ _
      exact .of (sm _ _ hc1)
    · rintro i acc σ' H' x hx ⟨o, rfl, rfl, sm, hD0⟩ hacc
      rw [List.map_map,List.getElem?_map] at hx
      obtain ⟨b,hb,rfl⟩ : ∃ b,(nxn ss.length es a)[i]? = some b∧V.str (nmA ss b) = x:=by
        cases q : (nxn ss.length es a)[i]? with
        | none=>rw [q] at hx;cases hx
        | some e=>rw [q] at hx;exact ⟨e,rfl,Option.some.inj hx⟩
      have hil:=(List.getElem?_eq_some_iff.mp hb).1
      obtain ⟨hb1,hb2⟩:=List.mem_filter.mp (List.mem_of_getElem? hb)
      have hbn:=List.mem_range.mp hb1
      have hbe:=of_decide_eq_true hb2
      have hd':=sm _ _ (s1 _ _ hdl)
      have hno : ¬ valV kvs (.inr (nmA ss b)) = some (.int (j : Int))→(((nxn ss.length es a).take (i + 1)).filter fun b=>decide (valV kvs (.inr (nmA ss b)) = some (.int (j : Int)))) = (((nxn ss.length es a).take i).filter fun b=>decide (valV kvs (.inr (nmA ss b)) = some (.int (j : Int)))):=fun q=>by
        rw [List.take_add_one,hb,List.filter_append]
        simp [q]
      refine ⟨_,rfl,_,rfl,.dic (DGet.k (k:=.inr (nmA ss b)) hd') ⟨_,rfl,?_⟩⟩
      refine ite2 (fun h1=>?_) (fun h1=>?_)
      · obtain ⟨v, hv⟩ := Option.isSome_iff_exists.mp h1
        obtain ⟨k1,rfl,tob⟩:=(left b v hbn).mp hv
        have hav : valV kvs (.inr (nmA ss a)) = some (.int ((j + 1 : Nat) : Int)):=(left a _ ha).mpr ⟨j + 1,rfl,toa⟩
        have hge:=MG.To.step hbe tob toa
        refine ⟨_,rfl,_,rfl,.dic (.inl ⟨kvs,.inr (nmA ss b),.inl hd',rfl,hv.symm⟩) ⟨_,rfl,_,rfl,.dic (.inl ⟨kvs,.inr (nmA ss a),.inl hd',rfl,hav.symm⟩) (.int ⟨_,rfl,?_⟩)⟩⟩
        refine ite2 (fun h2=>?_) (fun h2=>?_)
        · have h2 : (k1 : Int) < ((j + 1 : Nat) : Int):=of_decide_eq_true h2
          have : k1 = j:=by omega
          subst this
          refine ⟨_,rfl,hacc,?_,_,rfl,?_,same_at sm hD0,hD0⟩
          · rw [List.length_map,List.length_map]
            have h2:=List.length_filter_le (fun b=>decide (valV kvs (.inr (nmA ss b)) = some (.int (k1 : Int)))) ((nxn ss.length es a).take i)
            rw [List.length_take] at h2
            exact small1000 (by omega)
          · rw [List.take_add_one,hb,List.filter_append,List.map_append,List.map_append]
            simp [hv]
        · have h2 : ¬ (k1 : Int) < ((j + 1 : Nat) : Int):=fun q=>h2 (decide_eq_true q)
          refine ⟨hacc,_,rfl,?_,sm,hD0⟩
          rw [hno fun q=>?_]
          rw [hv] at q
          have:=V.int.inj (Option.some.inj q)
          omega
      · have h1 : ¬ (valV kvs (.inr (nmA ss b))).isSome = true:=h1
        refine iteF ⟨hacc,_,rfl,?_,sm,hD0⟩
        rw [hno fun q=>?_]
        rw [q] at h1
        exact h1 rfl
    · rintro acc σ' H2 ⟨o, rfl, rfl, s2, hD0⟩ hacc
      rw [List.length_map,List.length_map,List.take_of_length_le (Nat.le_refl _)] at hacc
      have hf : ((nxn ss.length es a).filter fun b=>decide (valV kvs (.inr (nmA ss b)) = some (.int (j : Int)))) = (List.range ss.length).filter fun b=>decide (valV kvs (.inr (nmA ss b)) = some (.int (j : Int))) && decide ((a,b)∈es):=by
        unfold nxn
        rw [List.filter_filter]
      rw [hf] at hacc
      have hq : ∀ b,b < ss.length→((decide (valV kvs (.inr (nmA ss b)) = some (.int (j : Int))) && decide ((a,b)∈es)) = true ↔ (a,b)∈es∧MG.To es goal j b):=fun b hb=>by
        rw [Bool.and_eq_true,decide_eq_true_iff,decide_eq_true_iff,left b _ hb]
        constructor
        · rintro ⟨⟨k,h1,h2⟩,h3⟩
          have : (j : Int) = k:=V.int.inj h1
          have : j = k:=by omega
          subst this
          exact ⟨h3,h2⟩
        · rintro ⟨h1,h2⟩
          exact ⟨⟨j,rfl,h2⟩,h1⟩
      cases hl : (List.range ss.length).filter fun b=>decide (valV kvs (.inr (nmA ss b)) = some (.int (j : Int))) && decide ((a,b)∈es) with
      | nil =>
        obtain ⟨c,hc1',hc2⟩:=MG.To.pred toa
        have hcn:=(val _ hc1').2
        have : c∈(List.range ss.length).filter fun b=>decide (valV kvs (.inr (nmA ss b)) = some (.int (j : Int))) && decide ((a,b)∈es):=List.mem_filter.mpr ⟨List.mem_range.mpr hcn,(hq c hcn).mpr ⟨hc1',hc2⟩⟩
        rw [hl] at this
        cases this
      | cons b r =>
        obtain ⟨g1,g2,g3⟩:=head_least hl
        rw [hl] at hacc
        have g2:=(hq b g1).mp g2
        refine ⟨_,rfl,.lst (.of hacc) (atI_nat (j:=0) rfl) (k b H2 ⟨g2.1,g2.2,fun c h1 h2=>g3 c (val _ h1).2 ((hq c (val _ h1).2).mpr ⟨h1,h2⟩)⟩ (s1.trans s2))⟩
def spWay : Sp:=fun vs H Q _=>∃ (q : V) (ss : List Str) (es : List (Nat × Nat)) (goal one : Nat),vs = [q,.str (nmA ss one),.str (nmA ss goal)]∧WebA H q ss (es.map (nmP ss))∧ValE ss es∧one < ss.length∧goal < ss.length ∧
  ((∀ k,¬ MG.To es goal k one)→∀ H',Same H H'→Q .non H')∧∀ l k ws H',MG.To es goal k one→MG.Wy es goal k one ws→Same H H'→H l = none→H' l = some (.lst (List.map V.str (ws.map (nmA ss))))→Q (.ref l) H'
theorem nm_last (ss : List Str) (us : List Nat) (a : Nat) : atI (List.map V.str ((us++[a]).map (nmA ss))) (-1) = some (.str (nmA ss a)):=by
  rw [List.map_append,List.map_append]
  exact atI_last _ _
theorem scWay : FnScope ["web","one","other","left","told"] ["web","one","other"] (defScope sWay):=⟨rfl,rfl,rfl,by decide +kernel,rfl,by decide +kernel,by decide +kernel⟩
theorem ok_way {f : Addr} {fd : FuncData} (F : Fun K "way" "way" sWay f fd) (B : Blt mg) (csteps_from : Cal P w K mg base 1 "steps_from" ["table", "starts"] spStepsL) (cpriors_of_all : Cal P w K mg base 3 "priors_of_all" ["web"] (spNextsAllA true)) (cfirst_nearer : Cal P w K mg base 3 "first_nearer" ["web", "thing", "left"] spNearer) : FnOk P w K mg base CX0 4 f fd ["web", "one", "other"] spWay := by
  refine F.ok scWay (fun vs H Q E h=>?_) (fun cdv A outer s H vs Q E hr h=>?_)
  · obtain ⟨q,ss,es,goal,one,rfl,_⟩:=h
    rfl
  · obtain ⟨q, ss, es, goal, one, rfl, W, val, hone, hg, k0, k⟩ := h
    have nd:=scWay.nd
    refine ⟨_,(pss_cons (pst 3 nd (pc csteps_from hr (p2 (pc cpriors_of_all hr (p1 (pv 0))) (pe_lst (p1 (pv 2))))))
      (pss_cons (ps_if (pt_cmpR (op_notInX K hr.units) (pv 1) (pv 3) (by with_unfolding_all rfl)) (pss_one (ps_ret pe_non)) pss_nil)
      (pss_cons (pst 4 nd (pe_lst (p1 (pv 1))))
      (pss_cons (ps_while PassesOwn.never (pt_cmpR (op_neX hr.units) (px K hr (pv 4) (pe_un un_neg pe_int)) (pv 2) (nomark _)) (pss_one (ps_expr (m_append K (pv 4) (p1 (pc cfirst_nearer hr (pa_cons (pv 0) (p2 (px K hr (pv 4) (pe_un un_neg pe_int)) (pv 3)))))))))
      (pss_one (ps_ret (pv 4))))))),?_⟩
    refine ⟨_,rfl,q,ss,_,rfl,W,fun dt H0 s0 hdt T=>⟨_,rfl,(by show 1≤sizeLine;decide),fun ls hls=>⟨dt,ls,nmA ss goal,ss,_,rfl,upd_same,T.same (Same.new hls),mem_getD hg,W.len,fun t _ u hu=>(List.mem_filter.mp hu).1,fun dl kvs H2 s2 hdl hk hst=>?_⟩⟩⟩
    have s1:=s0.trans (Same.new (o:=.lst [V.str (nmA ss goal)]) hls)
    rw [ner_flip W] at hst
    have left : LeftN kvs ss es goal:=fun i v hi=>by
      rw [hst]
      constructor
      · rintro ⟨k,e,d⟩
        exact ⟨k,e,(dst_names W.nd W.nm val hi).mp d⟩
      · rintro ⟨k,e,d⟩
        exact ⟨k,e,(dst_names W.nd W.nm val hi).mpr d⟩
    have s12:=s1.trans s2
    refine ⟨_,rfl,_,rfl,.dic (DGet.k (k:=.inr (nmA ss one)) hk) ⟨_,rfl,?_⟩⟩
    refine ite2 (fun h1=>?_) (fun h1=>?_)
    · have h1 : (!(valV kvs (.inr (nmA ss one))).isSome) = true:=h1
      refine k0 (fun k tk=>?_) H2 s12
      rw [(left one _ hone).mpr ⟨k,rfl,tk⟩] at h1
      cases h1
    · have h1 : ¬ (!(valV kvs (.inr (nmA ss one))).isSome) = true := h1
      obtain ⟨k1,to1⟩ : ∃ k1,MG.To es goal k1 one:=by
        cases q : valV kvs (.inr (nmA ss one)) with
        | none=>rw [q] at h1;exact (h1 rfl).elim
        | some v =>
          obtain ⟨k1,_,t⟩:=(left one v hone).mp q
          exact ⟨k1,t⟩
      refine ⟨_,rfl,(by show 1≤sizeLine;decide),fun l hl=>?_⟩
      have hl0:=same_free s12 hl
      refine ⟨fun m σ H'=>∃ us a,σ = [some q,some (.str (nmA ss one)),some (.str (nmA ss goal)),some (.ref dl),some (.ref l)]∧Same H2 H'∧H' l = some (.lst (List.map V.str ((us++[a]).map (nmA ss))))∧MG.Pre es goal k1 one m a (us++[a]),⟨k1,[],one,rfl,Same.new hl,upd_same,MG.Pre.start to1⟩,?_⟩
      rintro m σ H3 ⟨us,a,rfl,s3,e3,pre⟩
      have toa:=pre.1
      have ha:=MG.To.inn val hg toa
      refine ⟨_,rfl,_,rfl,.lst (.of e3) (nm_last ss us a) ⟨_,rfl,.sc rfl ⟨_,rfl,?_⟩⟩⟩
      refine ite2 (fun h2=>?_) (fun h2=>?_)
      · have h2 : (!decide (V.str (nmA ss a) = V.str (nmA ss goal))) = true:=h2
        have hne : a≠goal:=fun q=>by subst q;simp at h2
        obtain ⟨j,rfl⟩ : ∃ j,m = j + 1:=by
          cases m with
          | zero=>exact absurd (MG.To.zero toa) hne
          | succ j=>exact ⟨j,rfl⟩
        refine ⟨fun σ' H'=>∃ us a,σ' = [some q,some (.str (nmA ss one)),some (.str (nmA ss goal)),some (.ref dl),some (.ref l)]∧Same H2 H'∧H' l = some (.lst (List.map V.str ((us++[a]).map (nmA ss))))∧MG.Pre es goal k1 one j a (us++[a]),fun σ' H' p=>⟨j,by omega,p⟩,?_⟩
        refine ⟨_,rfl,.inl ⟨rfl,_,.of e3⟩,?_⟩
        refine ⟨_,rfl,_,rfl,_,rfl,.lst (.of e3) (nm_last ss us a) ⟨_,rfl,q,ss,es,dl,kvs,goal,j,a,rfl,(W.same s12).same s3,val,s3 _ _ hk,left,ha,toa,fun b H4 lst s4=>?_⟩⟩
        have pre':=pre.add lst
        have hlen:=pre'.2.2.2
        have hk1:=MG.To.lt val hg to1
        have h60:=W.len
        have e4:=s4 _ _ e3
        refine ⟨l,_,_,rfl,rfl,e4,?_,?_⟩
        · rw [List.length_map,List.length_map]
          rw [List.length_append] at hlen
          exact small1000 (by omega)
        · refine ⟨us++[a],b,rfl,same_at (s3.trans s4) hl,?_,pre'⟩
          rw [upd_same,List.map_append (l₁:=us++[a]),List.map_append (l₁:=(us++[a]).map (nmA ss))];rfl
      · have h2 : ¬ (!decide (V.str (nmA ss a) = V.str (nmA ss goal))) = true:=h2
        have he : nmA ss a = nmA ss goal:=by
          refine Classical.byContradiction fun q=>h2 ?_
          have : ¬ V.str (nmA ss a) = V.str (nmA ss goal):=fun z=>q (V.str.inj z)
          simp [this]
        have he:=getD_inj W.nd W.nm ha he
        subst he
        have hm : m = 0:=MG.Dst.uniq toa MG.To.here
        subst hm
        exact ⟨_,rfl,k l k1 _ H3 to1 pre.done (s12.trans s3) hl0 e3⟩
theorem Wy_small {ss : List Str} {es : List (Nat × Nat)} {goal k one : Nat} {ws : List Nat} (val : ValE ss es) (hg : goal < ss.length) (t : MG.To es goal k one) (wy : MG.Wy es goal k one ws) : ws.length≤ss.length∧∀ x∈ws,x < ss.length:=by
  have h1:=wy.len
  have h2:=MG.To.lt val hg t
  exact ⟨by omega,MG.Wy.inn val hg wy⟩
end
end K70
namespace K70
open PySem L2
section
variable {P : Program} {w : World} {K : PySem.W.Frag} {mg : Str→Option Value} {base : Heap}
theorem cut_last (xs : List V) : cutV xs none (some (-1)) = xs.dropLast:=by
  unfold cutV
  have h1 : HT.sIx xs.length 0 none = 0:=rfl
  have h2 : HT.sIx xs.length xs.length (some (-1)) = xs.length - 1:=by
    show (if (-1 : Int) < 0 then ((-1 : Int) + (xs.length : Int)).toNat else min (-1 : Int).toNat xs.length) = xs.length - 1
    rw [if_pos (by decide)]
    omega
  rw [h1,h2,List.drop_zero,Nat.sub_zero,List.dropLast_eq_take]
theorem str_dropLast (ss : List Str) (ws : List Nat) : (List.map V.str (ws.map (nmA ss))).dropLast = List.map V.str (ws.dropLast.map (nmA ss)):=by
  rw [List.dropLast_eq_take,List.dropLast_eq_take,List.length_map,List.length_map,List.map_take,List.map_take]
def spRingBy : Sp:=fun vs H Q _=>∃ (q : V) (ss : List Str) (es : List (Nat × Nat)) (one other : Nat),vs = [q,.str (nmA ss one),.str (nmA ss other)]∧WebA H q ss (es.map (nmP ss))∧ValE ss es∧one < ss.length∧other < ss.length ∧
  ((∀ k,¬ MG.To es one k other)→∀ H',Same H H'→Q .non H')∧∀ l k ws H',MG.To es one k other→MG.Wy es one k other ws→Same H H'→H l = none→H' l = some (.lst (List.map V.str ((one::ws.dropLast).map (nmA ss))))→Q (.ref l) H'
theorem scRingBy : FnScope ["web","one","other","back"] ["web","one","other"] (defScope sRingBy):=⟨rfl,rfl,rfl,by decide +kernel,rfl,by decide +kernel,by decide +kernel⟩
theorem ok_ring_by {f : Addr} {fd : FuncData} (F : Fun K "ring_by" "ring_by" sRingBy f fd) (B : Blt mg) (cway : Cal P w K mg base 4 "way" ["web", "one", "other"] spWay) : FnOk P w K mg base CX0 5 f fd ["web", "one", "other"] spRingBy := by
  refine F.ok scRingBy (fun vs H Q E h=>?_) (fun cdv A outer s H vs Q E hr h=>?_)
  · obtain ⟨q,ss,es,one,other,rfl,_⟩:=h
    rfl
  · obtain ⟨q, ss, es, one, other, rfl, W, val, hone, hoth, k0, k⟩ := h
    have nd:=scRingBy.nd
    refine ⟨_,(pss_cons (pst 3 nd (pc cway hr (pa_cons (pv 0) (p2 (pv 2) (pv 1)))))
      (pss_cons (ps_if (pt_cmpR op_isX (pv 3) pe_non (nomark _)) (pss_one (ps_ret pe_non)) pss_nil)
      (pss_one (ps_ret (pe_op op_addX (pe_lst (p1 (pv 1))) (pe_slice (sl_K K) (pv 3) po_none (po_some (pe_un un_neg pe_int)))))))),?_⟩
    refine ⟨_,rfl,_,rfl,_,rfl,q,ss,es,one,other,rfl,W,val,hoth,hone,fun hno H1 s1=>?_,fun l1 k1 ws H1 to1 wy s1 hl1 hc1=>?_⟩
    · refine ⟨_,rfl,.non ⟨_,rfl,?_⟩⟩
      refine ite2 (fun _=>?_) (fun h=>(h (decide_eq_true (rfl : V.non = V.non))).elim)
      exact k0 hno H1 s1
    · obtain ⟨hwl, hwn⟩ := Wy_small val hone to1 wy
      have h60:=W.len
      refine ⟨_,rfl,.non ⟨_,rfl,?_⟩⟩
      refine ite2 (fun h=>?_) (fun _=>?_)
      · have h : V.ref l1 = V.non:=of_decide_eq_true h
        cases h
      · refine ⟨_,rfl,(by show 1≤sizeLine;decide),fun l2 hl2=>?_⟩
        have s2:=Same.new (o:=.lst [V.str (nmA ss one)]) hl2
        refine ⟨_,rfl,_,rfl,_,rfl,.lst (.of (s2 _ _ hc1)) fun l3 hl3=>?_⟩
        rw [cut_last,str_dropLast]
        have s3:=Same.new (o:=.lst (List.map V.str (ws.dropLast.map (nmA ss)))) hl3
        refine .lst (s3 _ _ upd_same) upd_same ?_ fun l hl=>?_
        · rw [List.length_map,List.length_map,List.length_dropLast]
          show 1 + (ws.length - 1)≤sizeLine
          exact Nat.le_of_lt (small1000 (by omega))
        · exact k l k1 ws _ to1 wy (s1.trans (s2.trans (s3.trans (Same.new hl)))) (same_free (s1.trans (s2.trans s3)) hl) upd_same
end
end K70
namespace K70
open PySem L2
section
variable {P : Program} {w : World} {K : PySem.W.Frag} {mg : Str→Option Value} {base : Heap}
theorem ner_fwd {H : Hp} {q : V} {ss : List Str} {ts : List (Str × Str)} (W : WebA H q ss ts) : Ner ss (nxtL ss (if false then flipE ts else ts)) = Tie ts:=by
  funext a b
  refine propext ⟨fun h=>?_,fun h=>?_⟩
  · have h3:=of_decide_eq_true (List.mem_filter.mp h.2).2
    exact h3
  · have g:=W.inn _ h
    exact ⟨g.1,List.mem_filter.mpr ⟨g.2,decide_eq_true h⟩⟩
structure RD (H : Hp) (ss : List Str) (ts : List (Str × Str)) (dr : Addr) (s : Str) (d : Addr) : Prop where
  ne : d≠dr
  at_ : ∃ kv,H d = some (.dK kv)∧∀ t v,valV kv (.inr t) = some v ↔ ∃ k : Nat,v = .int (k : Int)∧MG.Dst (Tie ts) s k t
def spRingOf : Sp:=fun vs H Q _=>∃ (q : V) (ss : List Str) (es : List (Nat × Nat)),vs = [q]∧WebA H q ss (es.map (nmP ss))∧ValE ss es ∧
  ((∀ e∈es,¬ MG.RingAt es e)→∀ H',Same H H'→Q .non H')∧∀ l i e k ws H',MG.FirstR es i e→MG.To es e.1 k e.2→MG.Wy es e.1 k e.2 ws→Same H H'→H l = none→H' l = some (.lst (List.map V.str ((e.1::ws.dropLast).map (nmA ss))))→Q (.ref l) H'
theorem scRingOf : FnScope ["web","table","reached","thing","tie"] ["web"] (defScope sRingOf):=⟨rfl,rfl,rfl,by decide +kernel,rfl,by decide +kernel,by decide +kernel⟩
theorem ok_ring_of {f : Addr} {fd : FuncData} (F : Fun K "ring_of" "ring_of" sRingOf f fd) (B : Blt mg) (csteps_from : Cal P w K mg base 1 "steps_from" ["table", "starts"] spStepsL) (cnexts_of_all : Cal P w K mg base 3 "nexts_of_all" ["web"] (spNextsAllA false)) (cring_by : Cal P w K mg base 5 "ring_by" ["web", "one", "other"] spRingBy) : FnOk P w K mg base CX0 6 f fd ["web"] spRingOf := by
  refine F.ok scRingOf (fun vs H Q E h=>?_) (fun cdv A outer s H vs Q E hr h=>?_)
  · obtain ⟨q,ss,es,rfl,_⟩:=h
    rfl
  · obtain ⟨q, ss, es, rfl, W, val, k0, k⟩ := h
    have nd:=scRingOf.nd
    refine ⟨_,(pss_cons (pst 1 nd (pc cnexts_of_all hr (p1 (pv 0))))
      (pss_cons (pst 2 nd pe_dnewK)
      (pss_cons (ps_for PassesOwn.never rfl (pi_seqK K (px K hr (pv 0) pe_int)) (pg_name (i:=3) nd rfl (Or.inl rfl)) (pss_one (ps_asg (pc csteps_from hr (p2 (pv 1) (pe_lst (p1 (pv 3))))) (pg_sub (pv 2) (pv 3) (set_X hr.units)))))
      (pss_cons (ps_for PassesOwn.never rfl (pi_seqK K (px K hr (pv 0) pe_int)) (pg_name (i:=4) nd rfl (Or.inl rfl)) (pss_one (ps_if (pt_cmpR (op_inX K hr.units) (px K hr (pv 4) pe_int) (px K hr (pv 2) (px K hr (pv 4) pe_int)) (by with_unfolding_all rfl)) (pss_one (ps_ret (pc cring_by hr (pa_cons (pv 0) (p2 (px K hr (pv 4) pe_int) (px K hr (pv 4) pe_int)))))) pss_nil)))
      (pss_one (ps_ret pe_non)))))),?_⟩
    have h60:=W.len
    obtain ⟨q,a,b,xs,rfl,hq,ha,hb,rp⟩:=W.rep
    have rlen:=rp.len
    rw [List.length_map] at rlen
    refine ⟨_,rfl,.ref q,ss,_,rfl,W,fun dt H1 s1 hdt T=>?_⟩
    intro dr hdr
    have hdr0:=same_free s1 hdr
    have s2:=s1.trans (Same.new (o:=.dK []) hdr)
    have T2:=T.same (Same.new (o:=.dK []) hdr)
    have e2 : upd H1 dr (.dK []) dr = some (.dK []):=upd_same
    have sb : Same H1 (upd H1 dr (.dK [])):=Same.new hdr
    generalize upd H1 dr (.dK []) = H2 at s2 T2 e2 sb ⊢
    refine ⟨_,rfl,.tup (.of (s2 _ _ hq)) rfl ⟨_,rfl,?_⟩⟩
    refine for_seq (xs:=List.map V.str ss) (fun i σ H'=>∃ o3 kvs,σ = [some (.ref q),some (.ref dt),some (.ref dr),o3,none]∧Same H1 H'∧H' dr = some (.dK kvs)∧kvs.length≤i∧∀ s∈ss.take i,∃ d,valV kvs (.inr s) = some (.ref d)∧RD H' ss (es.map (nmP ss)) dr s d) (ha.same s2) ?_ ?_ ?_ ?_
    · exact ⟨none,[],rfl,sb,e2,Nat.le_refl _,fun s hs=>by simp at hs⟩
    · rintro i σ H' hi ⟨o3,kvs,rfl,sm,_⟩
      exact (sq_at (ha.same s1) sm).trans (sq_at (ha.same s1) sb).symm
    · rintro i x σ H3 hx ⟨o3, kvs, rfl, s3, hk, hkl, hall⟩
      rw [List.getElem?_map] at hx
      obtain ⟨t,ht,rfl⟩ : ∃ t,ss[i]? = some t∧V.str t = x:=by
        cases q : ss[i]? with
        | none=>rw [q] at hx;cases hx
        | some e=>rw [q] at hx;exact ⟨e,rfl,Option.some.inj hx⟩
      have hil:=(List.getElem?_eq_some_iff.mp ht).1
      refine ⟨_,rfl,_,rfl,(by show 1≤sizeLine;decide),fun ls hls=>⟨dt,ls,t,ss,_,rfl,upd_same,(T.same s3).same (Same.new hls),List.mem_of_getElem? ht,W.len,fun t _ u hu=>(List.mem_filter.mp hu).1,fun d kv H4 s4' hd4' hkd hst=>?_⟩⟩
      have s4:=(Same.new (o:=.lst [V.str t]) hls).trans s4'
      have hd4:=same_free (Same.new (o:=.lst [V.str t]) hls) hd4'
      rw [ner_fwd W] at hst
      have hk4:=s4 _ _ hk
      have hne : d≠dr:=Ne.symm (ne_of_none hk hd4)
      refine ⟨_,rfl,_,rfl,.dic (DPut.k (k:=.inr t) hk4 (small1000 (by omega))) ⟨_,_,rfl,same_at (s3.trans s4) hdr,upd_same,?_,?_⟩⟩
      · have:=length_putK kvs (.inr t) (V.ref d)
        omega
      · intro s hs
        rw [List.take_add_one,ht,List.mem_append] at hs
        by_cases q : s = t
        · subst q
          refine ⟨d,by rw [valV_put,if_pos rfl],hne,kv,?_,hst⟩
          rw [upd_ne hne];exact hkd
        · rcases hs with hs | hs
          · obtain ⟨d',e1,n1,kv',e2,h2⟩:=hall s hs
            refine ⟨d',by rw [valV_put,if_neg (fun z=>q (Sum.inr.inj z))];exact e1,n1,kv',?_,h2⟩
            rw [upd_ne n1];exact s4 _ _ e2
          · exact absurd (by simpa using hs) q
    · rintro σ H3 ⟨o3, kvs, rfl, s3, hk, _, hall⟩
      rw [List.length_map,List.take_of_length_le (Nat.le_refl _)] at hall
      have s13:=s1.trans s3
      refine ⟨_,rfl,.tup (.of (s13 _ _ hq)) rfl ⟨_,rfl,?_⟩⟩
      refine for_seq (xs:=xs) (fun i σ H'=>∃ o3 o4,σ = [some (.ref q),some (.ref dt),some (.ref dr),o3,o4]∧H' = H3∧∀ j,j < i→∀ f,es[j]? = some f→¬ MG.RingAt es f) (hb.same s13) ?_ ?_ ?_ ?_
      · exact ⟨_,_,rfl,rfl,fun j hj=>by omega⟩
      · rintro i σ H' hi ⟨o3,o4,rfl,rfl,_⟩
        rfl
      · rintro i x σ H' hx ⟨o3, o4, rfl, rfl, hno⟩
        obtain ⟨d,hd,rd⟩:=(rp.same s13).get hx
        rw [List.getElem?_map,List.getElem?_map] at hd
        obtain ⟨e,he,rfl⟩ : ∃ e,es[i]? = some e∧pairD (nmP ss e) = d:=by
          cases q : es[i]? with
          | none=>rw [q] at hd;cases hd
          | some e=>rw [q] at hd;exact ⟨e,rfl,Option.some.inj hd⟩
        obtain ⟨ta,rfl,hta⟩:=pair_at rd
        have hval:=val e (List.mem_of_getElem? he)
        obtain ⟨d2,hd2,hne2,kv2,hkv2,hst2⟩:=hall (nmA ss e.2) (mem_getD hval.2)
        have hring : (valV kv2 (.inr (nmA ss e.1))).isSome = true ↔ MG.RingAt es e:=by
          have h1 : ∀ k,MG.Walk (Tie (es.map (nmP ss))) k (nmA ss e.2) (nmA ss e.1) ↔ MG.Walk (MG.Arr es) k e.2 e.1:=fun k=>walk_names W.nd W.nm val hval.1
          constructor
          · intro h
            obtain ⟨v,hv⟩:=Option.isSome_iff_exists.mp h
            obtain ⟨m,_,dm⟩:=(hst2 _ v).mp hv
            exact MG.rch_to.mp ⟨m,(h1 m).mp dm.1⟩
          · intro h
            obtain ⟨m,wm⟩:=MG.rch_to.mpr h
            obtain ⟨m',dm⟩:=MG.Rch.dst (R:=Tie (es.map (nmP ss))) ⟨m,(h1 m).mpr wm⟩
            rw [(hst2 _ (.int (m' : Int))).mpr ⟨m',rfl,dm⟩];rfl
        refine ⟨_,rfl,.tup (.of hta) rfl ⟨_,rfl,_,rfl,.tup (.of hta) rfl (.dic (.inl ⟨kvs,.inr (nmA ss e.2),.inl hk,rfl,hd2.symm⟩) (.dic (DGet.k (k:=.inr (nmA ss e.1)) hkv2) ⟨_,rfl,?_⟩))⟩⟩
        refine ite2 (fun h1=>?_) (fun h1=>?_)
        · have hR : MG.RingAt es e:=hring.mp h1
          refine ⟨_,rfl,_,rfl,.tup (.of hta) rfl ⟨_,rfl,.tup (.of hta) rfl ⟨.ref q,ss,es,e.1,e.2,rfl,W.same s13,val,hval.1,hval.2,fun hn=>?_,fun l m ws H4 tom wy s4 hl hc=>?_⟩⟩⟩
          · obtain ⟨m,tm⟩:=hR
            exact absurd tm (hn m)
          · exact k l i e m ws H4 ⟨he,hR,hno⟩ tom wy (s13.trans s4) (same_free s13 hl) hc
        · have hR : ¬ MG.RingAt es e:=fun z=>h1 (hring.mpr z)
          refine ⟨_,_,rfl,rfl,fun j hj f hf=>?_⟩
          by_cases q : j < i
          · exact hno j q f hf
          · have : j = i:=by omega
            subst this
            rw [he] at hf
            cases hf
            exact hR
      · rintro σ H' ⟨o3,o4,rfl,rfl,hno⟩
        rw [rlen] at hno
        refine k0 (fun e he=>?_) _ s13
        obtain ⟨j,hj,ej⟩:=List.mem_iff_getElem.mp he
        refine hno j ?_ e (by rw [List.getElem?_eq_getElem hj,ej])
        rw [List.length_map];exact hj
end
end K70
namespace K70
open PySem L2
section
variable {P : Program} {w : World} {K : PySem.W.Frag} {mg : Str→Option Value} {base : Heap}
theorem nat_get {xs : List Nat} {i : Nat} {x : V} (h : (natV xs)[i]? = some x) : ∃ j,xs[i]? = some j∧V.int ((j : Nat) : Int) = x:=by
  unfold natV at h
  rw [List.getElem?_map] at h
  cases q : xs[i]? with
  | none=>rw [q] at h;cases h
  | some e=>rw [q] at h;exact ⟨e,rfl,Option.some.inj h⟩
theorem tie_get {H : Hp} {refs : List V} {es : List (Nat × Nat)} (rp : RepAll H refs (es.map tieD)) {j : Nat} {x : V} (hx : refs[j]? = some x) : ∃ e ta,es[j]? = some e∧x = .ref ta∧H ta = some (.tup [.int ((e.1 : Nat) : Int),.int ((e.2 : Nat) : Int)]):=by
  obtain ⟨d,hd,rd⟩:=rp.get hx
  rw [List.getElem?_map] at hd
  cases q : es[j]? with
  | none=>rw [q] at hd;cases hd
  | some e =>
    rw [q] at hd
    have hd : tieD e = d:=Option.some.inj hd
    rw [← hd] at rd
    obtain ⟨ta,h1,h2⟩:=tie_at rd
    exact ⟨e,ta,rfl,h1,h2⟩
def qK (ps : List (Nat × Nat)) : List (Key × V):=ps.map fun p=>(.inl (p.1 : Int),.int (p.2 : Int))
theorem qK_cons (p : Nat × Nat) (ps : List (Nat × Nat)) (x : Nat) : valV (qK (p::ps)) (.inl (x : Int)) = if p.1 = x then some (.int (p.2 : Int)) else valV (qK ps) (.inl (x : Int)):=by
  unfold valV qK
  rw [List.map_cons,List.find?_cons]
  by_cases h : p.1 = x
  · subst h;simp
  · have h2 : ¬ ((p.1 : Int) = (x : Int)):=by omega
    simp [h,h2]
theorem qK_mem {x : Nat} {v : V} : ∀ {ps : List (Nat × Nat)}, valV (qK ps) (.inl (x : Int)) = some v → ∃ k : Nat, v = .int (k : Int) ∧ (x, k) ∈ ps
  | [],h=>by cases h
  | p::ps,h=>by
    rw [qK_cons] at h
    by_cases q : p.1 = x
    · rw [if_pos q] at h
      refine ⟨p.2,(Option.some.inj h).symm,?_⟩
      rw [← q];exact List.mem_cons_self
    · rw [if_neg q] at h
      obtain ⟨k,h1,h2⟩:=qK_mem h
      exact ⟨k,h1,List.mem_cons_of_mem _ h2⟩
theorem qK_some {x k : Nat} : ∀ {ps : List (Nat × Nat)}, (ps.map (·.1)).Nodup → (x, k) ∈ ps → valV (qK ps) (.inl (x : Int)) = some (.int (k : Int))
  | [],_,h=>by cases h
  | p::ps,nd,h=>by
    rw [List.map_cons,List.nodup_cons] at nd
    rw [qK_cons]
    rcases List.mem_cons.mp h with h | h
    · subst h;rw [if_pos rfl]
    · have : p.1≠x:=fun q=>nd.1 (q ▸ List.mem_map.mpr ⟨_,h,rfl⟩)
      rw [if_neg this];exact qK_some nd.2 h
theorem qK_snoc (ps : List (Nat × Nat)) {x k : Nat} (h : ∀ m, (x, m) ∉ ps) : putK (qK ps) (.inl (x : Int)) (.int (k : Int)) = qK (ps ++ [(x, k)]) := by
  have hn : valV (qK ps) (.inl (x : Int)) = none:=by
    cases q : valV (qK ps) (.inl (x : Int)) with
    | none=>rfl
    | some v =>
      obtain ⟨m,_,hm⟩:=qK_mem q
      exact absurd hm (h m)
  rw [putK_new _ hn]
  unfold qK
  rw [List.map_append];rfl
theorem nat_fst_at {ps : List (Nat × Nat)} {i : Nat} {c : Nat × Nat} (h : ps[i]? = some c) : atI (natV (ps.map (·.1))) (i : Int) = some (.int (c.1 : Int)):=atI_nat (by
  unfold natV
  rw [List.getElem?_map,List.getElem?_map,h];rfl)
theorem lenNat (xs : List Nat) : (natV xs).length = xs.length:=by simp [natV]
def Far (kvs : List (Key × V)) (es : List (Nat × Nat)) (goal : Nat) : Prop:=∀ (x : Nat) (v : V),valV kvs (.inl (x : Int)) = some v ↔ ∃ k : Nat,v = .int (k : Int)∧MG.To es goal k x
def spStepsTo : Sp:=fun vs H Q _=>∃ (t : Addr) (refs : List V) (es : List (Nat × Nat)) (goal n : Nat),vs = [.ref t,.int (goal : Int)]∧H t = some (.lst refs)∧RepAll H refs (es.map tieD)∧(∀ e∈es,e.1 < n∧e.2 < n)∧goal < n∧n≤60 ∧
  ∀ d kvs H',Same H H'→H d = none→H' d = some (.dK kvs)→Far kvs es goal→Q (.ref d) H'
theorem scStepsTo : FnScope ["_law_ties_here","_law_goal","_law_found","_law_line","_law_at","_law_one","_law_other"] ["_law_ties_here","_law_goal"] (defScope sStepsTo):=⟨rfl,rfl,rfl,by decide +kernel,rfl,by decide +kernel,by decide +kernel⟩
theorem ok_stepsTo {f : Addr} {fd : FuncData} (F : Fun K "_law_steps_to" "_law_steps_to" sStepsTo f fd) (B : Blt mg) : FnOk P w K mg base CX0 1 f fd ["_law_ties_here", "_law_goal"] spStepsTo := by
  refine F.ok scStepsTo (fun vs H Q E h=>?_) (fun cdv A outer s H vs Q E hr h=>?_)
  · obtain ⟨t,refs,es,goal,n,rfl,_⟩:=h
    rfl
  · obtain ⟨t, refs, es, goal, n, rfl, ht, rp, val, hg, hn, k⟩ := h
    have nd:=scStepsTo.nd
    refine ⟨_,(pss_cons (pst 2 nd (pe_disp (pps_cons (pv 1) pe_int pps_nil) rfl rfl (by simp) (by decide)))
      (pss_cons (pst 3 nd (pe_lst (p1 (pv 1))))
      (pss_cons (pst 4 nd pe_int)
      (pss_cons (ps_while PassesOwn.never (pt_cmpR op_ltX (pv 4) (b_len K B (p1 (pv 3))) (nomark _)) (pss_cons (ps_for PassesOwn.never rfl (pi_listK K (pv 0)) (pg_tupK (n:=2) K rfl (pgs_cons (pg_name (i:=5) nd rfl (Or.inl rfl)) (pgs_cons (pg_name (i:=6) nd rfl (Or.inl rfl)) pgs_nil))) (pss_one (ps_if (PW.pt (pw_and (pt_cmpR (op_eqX hr.units) (pv 6) (px K hr (pv 3) (pv 4)) (nomark _)) (pw_and1 (pt_cmpR (op_notInX K hr.units) (pv 5) (pv 2) (by with_unfolding_all rfl))))) (pss_cons (ps_asg (pe_op op_addX (px K hr (pv 2) (pv 6)) pe_int) (pg_sub (pv 2) (pv 5) (set_X hr.units)))
      (pss_one (ps_expr (m_append K (pv 3) (p1 (pv 5)))))) pss_nil)))
      (pss_one (pst 4 nd (pe_op op_addX (pv 4) pe_int)))))
      (pss_one (ps_ret (pv 2))))))),?_⟩
    have rlen:=rp.len
    rw [List.length_map] at rlen
    intro d hd
    refine ⟨_,rfl,upd_same,[(.inl (goal : Int),.int 0)],rfl,(by show 1≤15;decide),?_⟩
    have e1 : upd (upd H d (.dK [])) d (.dK (mergeK [] [(.inl (goal : Int),.int 0)])) d = some (.dK (qK [(goal,0)])):=upd_same
    have s1 : Same H (upd (upd H d (.dK [])) d (.dK (mergeK [] [(.inl (goal : Int),.int 0)]))):=fun b o hb=>by
      rw [upd_ne (ne_of_none hb hd),upd_ne (ne_of_none hb hd)];exact hb
    generalize upd (upd H d (.dK [])) d (.dK (mergeK [] [(.inl (goal : Int),.int 0)])) = H1 at e1 s1 ⊢
    refine ⟨_,rfl,(by show 1≤sizeLine;decide),fun l hl=>?_⟩
    have hl0 : H l = none:=same_free s1 hl
    have hdl : d≠l:=ne_of_none e1 hl
    refine ⟨fun m σ H'=>∃ (i : Nat) (ps : List (Nat × Nat)) (o5 o6 : Option V),m + i = n∧σ = [some (.ref t),some (.int (goal : Int)),some (.ref d),some (.ref l),some (.int ((i : Nat) : Int)),o5,o6]∧Same H H'∧H' d = some (.dK (qK ps))∧H' l = some (.lst (natV (ps.map (·.1))))∧MG.Qu es goal i ps∧i≤ps.length,
      ⟨n,0,[(goal,0)],none,none,by omega,rfl,s1.trans (Same.new hl),by rw [upd_ne hdl];exact e1,upd_same,MG.Qu.start,by omega⟩,?_⟩
    rintro m σ H2 ⟨i,ps,o5,o6,hm,rfl,sm,hd2,hl2,qu,hil⟩
    have hpn:=qu.len val hg
    have hln : (natV (ps.map (·.1))).length = ps.length:=by rw [lenNat,List.length_map]
    refine ⟨_,rfl,_,rfl,_,_,rfl,Or.inl ⟨_,.of hl2,rfl⟩,.int ⟨_,rfl,?_⟩⟩
    refine ite2 (fun hc=>?_) (fun hc=>?_)
    · have hc : (i : Int) < ((natV (ps.map (·.1))).length : Nat) := of_decide_eq_true hc
      have hlt : i < ps.length:=by omega
      obtain ⟨c,hci⟩ : ∃ c,ps[i]? = some c:=⟨_,List.getElem?_eq_getElem hlt⟩
      refine ⟨fun σ' H'=>∃ (ps : List (Nat × Nat)) (o5 o6 : Option V),σ' = [some (.ref t),some (.int (goal : Int)),some (.ref d),some (.ref l),some (.int ((i + 1 : Nat) : Int)),o5,o6]∧Same H H'∧H' d = some (.dK (qK ps))∧H' l = some (.lst (natV (ps.map (·.1))))∧MG.Qu es goal (i + 1) ps∧i + 1≤ps.length,
        fun σ' H' ⟨ps,o5,o6,p⟩=>⟨m - 1,by omega,i + 1,ps,o5,o6,by omega,p⟩,?_⟩
      refine ⟨_,rfl,t,rfl,⟨_,.of (sm _ _ ht)⟩,?_⟩
      refine for_list (xs:=refs) (fun j σ H'=>∃ (ps : List (Nat × Nat)) (o5 o6 : Option V),σ = [some (.ref t),some (.int (goal : Int)),some (.ref d),some (.ref l),some (.int ((i : Nat) : Int)),o5,o6]∧Same H H'∧H' d = some (.dK (qK ps))∧H' l = some (.lst (natV (ps.map (·.1))))∧MG.Qm es goal i c (es.take j) ps) ?_ ?_ ?_ ?_
      · exact ⟨ps,o5,o6,rfl,sm,hd2,hl2,qu.mid hci⟩
      · rintro j σ H' hj ⟨ps,o5,o6,rfl,sm,_⟩
        exact .of (sm _ _ ht)
      · rintro j x σ H' hx ⟨ps, o5, o6, rfl, sm, hd', hl', qm⟩
        obtain ⟨dd,hdd,rd⟩:=(rp.same sm).get hx
        rw [List.getElem?_map] at hdd
        obtain ⟨e,he,rfl⟩ : ∃ e,es[j]? = some e∧tieD e = dd:=by
          cases q : es[j]? with
          | none=>rw [q] at hdd;cases hdd
          | some e=>rw [q] at hdd;exact ⟨e,rfl,Option.some.inj hdd⟩
        obtain ⟨ta,rfl,hta⟩:=tie_at rd
        have hem:=List.mem_of_getElem? he
        have hpn:=qm.q.len val hg
        have tk : es.take (j + 1) = es.take j++[(e.1,e.2)]:=by rw [List.take_add_one,he];rfl
        refine ⟨ta,_,rfl,.of hta,rfl,_,_,rfl,_,_,rfl,rfl,?_⟩
        refine ⟨_,rfl,_,rfl,_,rfl,.lst (.of hl') (nat_fst_at qm.at_) (.sc rfl ⟨_,rfl,?_⟩)⟩
        refine ite2 (fun h1=>?_) (fun h1=>?_)
        · have h1 : ((e.2 : Nat) : Int) = (c.1 : Nat) := V.int.inj (of_decide_eq_true h1)
          have h1 : e.2 = c.1:=by omega
          refine ⟨_,rfl,_,rfl,.dic (DGet.k (k:=.inl ((e.1 : Nat) : Int)) hd') ⟨_,rfl,?_⟩⟩
          refine ite2 (fun h2=>?_) (fun h2=>?_)
          · have h2 : (!(valV (qK ps) (.inl ((e.1 : Nat) : Int))).isSome) = true:=h2
            have hn : ∀ m,(e.1,m)∉ps:=fun m hm=>by
              rw [qK_some qm.q.nd hm] at h2;cases h2
            have hcv : valV (qK ps) (.inl ((e.2 : Nat) : Int)) = some (.int (c.2 : Int)):=by
              rw [h1];exact qK_some qm.q.nd (List.mem_of_getElem? qm.at_)
            refine ⟨_,rfl,_,rfl,.dic (.inl ⟨qK ps,.inl ((e.2 : Nat) : Int),.inl hd',rfl,hcv.symm⟩) (.int ?_)⟩
            have kl : (qK ps).length = ps.length:=List.length_map ..
            refine ⟨_,rfl,_,rfl,.dic (DPut.k (k:=.inl ((e.1 : Nat) : Int)) hd' (small1000 (by omega))) ?_⟩
            have ek : putK (qK ps) (.inl ((e.1 : Nat) : Int)) (.int ((c.2 : Int) + 1)) = qK (ps++[(e.1,c.2 + 1)]):=qK_snoc ps (k:=c.2 + 1) hn
            rw [ek]
            have hl3 : upd H' d (.dK (qK (ps++[(e.1,c.2 + 1)]))) l = some (.lst (natV (ps.map (·.1)))):=by rw [upd_ne (Ne.symm hdl)];exact hl'
            have hd3 : upd H' d (.dK (qK (ps++[(e.1,c.2 + 1)]))) d = some (.dK (qK (ps++[(e.1,c.2 + 1)]))):=upd_same
            have s3 : Same H (upd H' d (.dK (qK (ps++[(e.1,c.2 + 1)])))):=fun b o hb=>by rw [upd_ne (ne_of_none hb hd)];exact sm _ _ hb
            generalize upd H' d (.dK (qK (ps++[(e.1,c.2 + 1)]))) = H3 at hl3 hd3 s3 ⊢
            refine ⟨_,rfl,.inl ⟨rfl,_,.of hl3⟩,?_⟩
            refine ⟨_,rfl,l,_,_,rfl,rfl,hl3,by rw [lenNat,List.length_map];exact small1000 (by omega),?_⟩
            refine ⟨ps++[(e.1,c.2 + 1)],_,_,rfl,fun b o hb=>?_,?_,?_,?_⟩
            · rw [upd_ne (ne_of_none hb hl0)];exact s3 _ _ hb
            · rw [upd_ne hdl];exact hd3
            · rw [upd_same,List.map_append];unfold natV;rw [List.map_append];rfl
            · rw [tk,h1]
              refine qm.add ?_ hn
              rw [← h1];exact hem
          · have h2 : ¬ (!(valV (qK ps) (.inl ((e.1 : Nat) : Int))).isSome) = true:=h2
            refine ⟨ps,_,_,rfl,sm,hd',hl',?_⟩
            rw [tk]
            refine qm.skip fun _=>?_
            cases q : valV (qK ps) (.inl ((e.1 : Nat) : Int)) with
            | none=>rw [q] at h2;exact absurd rfl h2
            | some v =>
              obtain ⟨m,_,hm⟩:=qK_mem q
              exact ⟨m,hm⟩
        · have h1 : e.2≠c.1:=fun q=>h1 (decide_eq_true (by rw [q]))
          refine iteF ⟨ps,_,_,rfl,sm,hd',hl',?_⟩
          rw [tk]
          exact qm.skip fun q=>absurd q h1
      · rintro σ H' ⟨ps,o5,o6,rfl,sm,hd',hl',qm⟩
        rw [rlen,List.take_of_length_le (Nat.le_refl _)] at qm
        have hi:=(List.getElem?_eq_some_iff.mp qm.at_).1
        exact ⟨_,rfl,.int ⟨ps,o5,o6,rfl,sm,hd',hl',qm.next,hi⟩⟩
    · have hc : ¬ (i : Int) < ((natV (ps.map (·.1))).length : Nat):=fun q=>hc (decide_eq_true q)
      refine ⟨_,rfl,k d _ H2 sm hd hd2 fun x v=>⟨fun q=>?_,fun ⟨m,e,tm⟩=>?_⟩⟩
      · obtain ⟨m,e,hm⟩:=qK_mem q
        exact ⟨m,e,(qu.done (by omega) x m).mp hm⟩
      · rw [e];exact qK_some qu.nd ((qu.done (by omega) x m).mpr tm)
end
end K70
namespace K70
open PySem L2
section
variable {P : Program} {w : World} {K : PySem.W.Frag} {mg : Str→Option Value} {base : Heap}
def spLRingBy : Sp:=fun vs H Q _=>∃ (n : Nat) (t : Addr) (refs : List V) (es : List (Nat × Nat)) (one other : Nat),vs = [.int (n : Int),.ref t,.int (one : Int),.int (other : Int)]∧H t = some (.lst refs)∧RepAll H refs (es.map tieD)∧es.length≤1000∧(∀ e∈es,e.1 < n∧e.2 < n)∧one < n∧other < n∧n≤60 ∧
  ((∀ k,¬ MG.To es one k other)→∀ H',Same H H'→Q .non H')∧∀ l k ws H',MG.To es one k other→MG.Wy es one k other ws→Same H H'→H l = none→H' l = some (.lst (natV (one::ws.dropLast)))→Q (.ref l) H'
theorem scLRingBy : FnScope ["_law_size","_law_ties_here","_law_one","_law_other","_law_steps","_law_found","_law_here"] ["_law_size","_law_ties_here","_law_one","_law_other"] (defScope sLRingBy):=⟨rfl,rfl,rfl,by decide +kernel,rfl,by decide +kernel,by decide +kernel⟩
theorem ok_lringBy {f : Addr} {fd : FuncData} (F : Fun K "_law_ring_by" "_law_ring_by" sLRingBy f fd) (B : Blt mg) (c_law_steps_to : Cal P w K mg base 1 "_law_steps_to" ["_law_ties_here", "_law_goal"] spStepsTo) : FnOk P w K mg base CX0 2 f fd ["_law_size", "_law_ties_here", "_law_one", "_law_other"] spLRingBy := by
  refine F.ok scLRingBy (fun vs H Q E h=>?_) (fun cdv A outer s H vs Q E hr h=>?_)
  · obtain ⟨n,t,refs,es,one,other,rfl,_⟩:=h
    rfl
  · obtain ⟨n, t, refs, es, one, other, rfl, ht, rp, hel, val, hone, hoth, hn, k0, k⟩ := h
    have nd:=scLRingBy.nd
    refine ⟨_,(pss_cons (ps_set (i:=4) nd rfl (Or.inr rfl) (pc c_law_steps_to hr (p2 (pv 1) (pv 2))))
      (pss_cons (ps_if (pt_cmpR (op_notInX K hr.units) (pv 3) (pv 4) (by with_unfolding_all rfl)) (pss_one (ps_ret pe_non)) pss_nil)
      (pss_cons (pst 5 nd (pe_lst (p1 (pv 2))))
      (pss_cons (ps_set (i:=6) nd rfl (Or.inr rfl) (pv 3))
      (pss_cons (ps_while PassesOwn.never (pt_cmpR (op_neX hr.units) (pv 6) (pv 2) (nomark _)) (pss_cons (ps_expr (m_append K (pv 5) (p1 (pv 6))))
      (pss_one (ps_set (i:=6) nd rfl (Or.inr rfl) (px K hr (pe_comp (defScope sLRingBy) ["_law_size","_law_ties_here","_law_one","_law_other","_law_steps","_law_found","_law_here"] ["_law_there"] [1,6,4] ["_law_there","_law_ties_here","_law_here","_law_steps"] rfl (pi_range1 rfl B.range (p1 (pv 0))) (fun _ _ _ _ _=>(pg_name (i:=0) (show (["_law_there","_law_ties_here","_law_here","_law_steps"] : List Str).Nodup by decide) rfl (Or.inl rfl))) (fun _ _ _ _ _=>(pts_one (PW.pt (pw_and (pt_cmpR (op_inX K hr.units) (pe_tup (p2 (pv 2) (pv 0))) (pv 1) (by with_unfolding_all rfl)) (pw_and1 (pt_cmpR (op_eqX hr.units) (pe_dget1 (Nat.lt_of_le_of_lt (Nat.add_le_add_left (show 1≤64 by decide) _) hr.units) (pv 3) (pv 0) ⟨rfl,rfl,rfl,rfl⟩) (pe_op op_sub (px K hr (pv 3) (pv 2)) pe_int) (nomark _))))))) (fun _ _ _ _ _=>(pv 0))) pe_int)))))
      (pss_one (ps_ret (pv 5)))))))),?_⟩
    refine ⟨_,rfl,_,rfl,t,refs,es,one,n,rfl,ht,rp,val,hone,hn,fun d kvs H1 s1 hd0 hd far=>?_⟩
    refine ⟨_,rfl,_,rfl,.dic (DGet.k (k:=.inl (other : Int)) hd) ⟨_,rfl,?_⟩⟩
    refine ite2 (fun h1=>?_) (fun h1=>?_)
    · have h1 : (!(valV kvs (.inl (other : Int))).isSome) = true:=h1
      refine k0 (fun m tm=>?_) H1 s1
      rw [(far other _).mpr ⟨m,rfl,tm⟩] at h1
      cases h1
    · have h1 : ¬ (!(valV kvs (.inl (other : Int))).isSome) = true := h1
      obtain ⟨k1,to1⟩ : ∃ k1,MG.To es one k1 other:=by
        cases q : valV kvs (.inl (other : Int)) with
        | none=>rw [q] at h1;exact (h1 rfl).elim
        | some v =>
          obtain ⟨k1,_,t⟩:=(far other v).mp q
          exact ⟨k1,t⟩
      refine ⟨_,rfl,(by show 1≤sizeLine;decide),fun l hl=>?_⟩
      have hl0:=same_free s1 hl
      refine ⟨_,rfl,?_⟩
      refine ⟨fun m σ H'=>∃ (us : List Nat) (a : Nat),σ = [some (.int (n : Int)),some (.ref t),some (.int (one : Int)),some (.int (other : Int)),some (.ref d),some (.ref l),some (.int (a : Int))]∧Same H1 H'∧H' l = some (.lst (natV (one::us)))∧MG.Pre es one k1 other m a (us++[a]),⟨k1,[],other,rfl,Same.new hl,upd_same,MG.Pre.start to1⟩,?_⟩
      rintro m σ H2 ⟨us,a,rfl,s2,e2,pre⟩
      have toa:=pre.1
      have ha:=MG.To.inn val hone toa
      have hk1:=MG.To.lt val hone to1
      refine ⟨_,rfl,_,rfl,.sc rfl ⟨_,rfl,?_⟩⟩
      refine ite2 (fun h2=>?_) (fun h2=>?_)
      · have h2 : (!decide (V.int (a : Int) = V.int (one : Int))) = true := h2
        have hne : a≠one:=fun q=>by subst q;simp at h2
        obtain ⟨j,rfl⟩ : ∃ j,m = j + 1:=by
          cases m with
          | zero=>exact absurd (MG.To.zero toa) hne
          | succ j=>exact ⟨j,rfl⟩
        refine ⟨fun σ' H'=>∃ (us : List Nat) (a : Nat),σ' = [some (.int (n : Int)),some (.ref t),some (.int (one : Int)),some (.int (other : Int)),some (.ref d),some (.ref l),some (.int (a : Int))]∧Same H1 H'∧H' l = some (.lst (natV (one::us)))∧MG.Pre es one k1 other j a (us++[a]),fun σ' H' p=>⟨j,by omega,p⟩,?_⟩
        have hus : us.length≤60:=by
          have:=pre.2.2.2
          rw [List.length_append] at this
          simp at this
          omega
        refine ⟨_,rfl,.inl ⟨rfl,_,.of e2⟩,?_⟩
        refine ⟨_,rfl,l,_,_,rfl,rfl,e2,by rw [lenNat,List.length_cons];exact small1000 (by omega),?_⟩
        have e3 : upd H2 l (.lst (natV (one::us)++[V.int (a : Int)])) l = some (.lst (natV (one::(us++[a])))):=by
          rw [upd_same];unfold natV;simp
        have s3 : Same H1 (upd H2 l (.lst (natV (one::us)++[V.int (a : Int)]))):=fun b o hb=>by rw [upd_ne (ne_of_none hb hl)];exact s2 _ _ hb
        generalize upd H2 l (.lst (natV (one::us)++[V.int (a : Int)])) = H3 at e3 s3 ⊢
        refine ⟨_,rfl,_,rfl,by omega,by omega,?_⟩
        have hd3:=s3 _ _ hd
        refine comp_range (fun D i acc σ' H'=>∃ o,σ' = [o,some (.ref t),some (.int (a : Int)),some (.ref d)]∧acc = natV ((List.range i).filter fun b=>decide ((a,b)∈es∧valV kvs (.inl (b : Int)) = some (.int (j : Int))))∧Same H3 H'∧H3 D = none) fun D hD=>⟨?_,?_,?_⟩
        · exact ⟨none,rfl,rfl,Same.new hD,hD⟩
        · rintro i acc σ' H' hi ⟨o, rfl, rfl, sm, hD0⟩ hacc
          have s4:=s3.trans sm
          have ht4:=s4 _ _ (s1 _ _ ht)
          have hsz : (natV ((List.range i).filter fun b=>decide ((a,b)∈es∧valV kvs (.inl (b : Int)) = some (.int (j : Int))))).length < sizeLine:=by
            rw [lenNat]
            have h2:=List.length_filter_le (fun b=>decide ((a,b)∈es∧valV kvs (.inl (b : Int)) = some (.int (j : Int)))) (List.range i)
            rw [List.length_range] at h2
            exact small1000 (by omega)
          have hav : valV kvs (.inl (a : Int)) = some (.int ((j + 1 : Nat) : Int)):=(far a _).mpr ⟨j + 1,rfl,toa⟩
          have hno : ¬ ((a,i)∈es∧valV kvs (.inl (i : Int)) = some (.int (j : Int)))→((List.range (i + 1)).filter fun b=>decide ((a,b)∈es∧valV kvs (.inl (b : Int)) = some (.int (j : Int)))) = ((List.range i).filter fun b=>decide ((a,b)∈es∧valV kvs (.inl (b : Int)) = some (.int (j : Int)))):=fun q=>by
            rw [List.range_succ,List.filter_append]
            simp [q]
          refine ⟨_,rfl,_,rfl,(by show 2≤sizeLine;decide),fun p hp=>?_⟩
          have sp:=Same.new (o:=.tup [V.int (a : Int),V.int (0 + (i : Nat) : Int)]) hp
          have hpt : upd H' p (.tup [V.int (a : Int),V.int (0 + (i : Nat) : Int)]) p = some (.tup [V.int (a : Int),V.int (i : Int)]):=by rw [upd_same,Int.zero_add]
          generalize upd H' p (.tup [V.int (a : Int),V.int (0 + (i : Nat) : Int)]) = H4 at sp hpt ⊢
          have s5:=s4.trans sp
          refine ⟨_,rfl,.tr (s5 _ _ (s1 _ _ ht)) ((rp.same s1).same s5) (tie_rep hpt) (canLay_ties _) rfl (by show 1≤16;decide) ⟨_,rfl,?_⟩⟩
          rw [any_tie]
          refine ite2 (fun h3=>?_) (fun h3=>?_)
          · have h3 : (a, i) ∈ es := of_decide_eq_true h3
            have hd5:=s5 _ _ hd
            refine ⟨_,rfl,d,rfl,Or.inl ⟨kvs,.inl hd5⟩,_,rfl,_,DGet.k (k:=.inl (0 + (i : Nat) : Int)) hd5,_,rfl,_,rfl,.dic (.inl ⟨kvs,.inl (a : Int),.inl hd5,rfl,hav.symm⟩) ⟨_,_,rfl,rfl,?_⟩⟩
            dsimp only
            rw [show ((j + 1 : Nat) : Int) - 1 = (j : Int) by omega,Int.zero_add]
            cases qv : valV kvs (.inl (i : Int)) with
            | none =>
              refine .sc rfl ⟨_,rfl,ite2 (fun h4=>?_) (fun h4=>?_)⟩
              · have h4 : V.non = V.int (j : Int):=of_decide_eq_true h4
                cases h4
              · refine ⟨sp _ _ hacc,_,rfl,?_,sm.trans sp,hD0⟩
                rw [hno fun q=>by rw [qv] at q;cases q.2]
            | some v =>
              obtain ⟨m,rfl,tm⟩:=(far i v).mp qv
              refine .sc rfl ⟨_,rfl,ite2 (fun h4=>?_) (fun h4=>?_)⟩
              · have h4 : (m : Int) = (j : Int):=V.int.inj (of_decide_eq_true h4)
                refine ⟨_,rfl,sp _ _ hacc,hsz,_,rfl,?_,same_at (sm.trans sp) hD0,hD0⟩
                rw [List.range_succ,List.filter_append]
                unfold natV
                rw [List.map_append]
                simp [h3,qv,h4]
              · have h4 : ¬ (m : Int) = (j : Int):=fun q=>h4 (decide_eq_true (congrArg V.int q))
                refine ⟨sp _ _ hacc,_,rfl,?_,sm.trans sp,hD0⟩
                rw [hno fun q=>h4 (by rw [qv] at q;exact V.int.inj (Option.some.inj q.2))]
          · have h3 : ¬ (a,i)∈es:=fun q=>h3 (decide_eq_true q)
            refine iteF ⟨sp _ _ hacc,_,rfl,?_,sm.trans sp,hD0⟩
            rw [hno fun q=>h3 q.1]
        · rintro acc σ' H4 ⟨o, rfl, rfl, s4, hD0⟩ hacc
          have hq : ∀ b,b < n→(decide ((a,b)∈es∧valV kvs (.inl (b : Int)) = some (.int (j : Int))) = true ↔ (a,b)∈es∧MG.To es one j b):=fun b hb=>by
            rw [decide_eq_true_iff,far b]
            constructor
            · rintro ⟨h3,k,h1,h2⟩
              have : (j : Int) = k:=V.int.inj h1
              have : j = k:=by omega
              subst this
              exact ⟨h3,h2⟩
            · rintro ⟨h1,h2⟩
              exact ⟨h1,j,rfl,h2⟩
          cases hf : (List.range n).filter fun b=>decide ((a,b)∈es∧valV kvs (.inl (b : Int)) = some (.int (j : Int))) with
          | nil =>
            obtain ⟨c,hc1',hc2⟩:=MG.To.pred toa
            have hcn:=(val _ hc1').2
            have : c∈(List.range n).filter fun b=>decide ((a,b)∈es∧valV kvs (.inl (b : Int)) = some (.int (j : Int))):=List.mem_filter.mpr ⟨List.mem_range.mpr hcn,(hq c hcn).mpr ⟨hc1',hc2⟩⟩
            rw [hf] at this
            cases this
          | cons b r =>
            obtain ⟨g1,g2,g3⟩:=head_least hf
            have hacc : H4 D = some (.lst (natV (b::r))):=by rw [← hf];simpa using hacc
            have g2:=(hq b g1).mp g2
            have lst : MG.Lst es one j a b:=⟨g2.1,g2.2,fun c h1 h2=>g3 c (val _ h1).2 ((hq c (val _ h1).2).mpr ⟨h1,h2⟩)⟩
            refine .lst (.of hacc) (atI_nat (j:=0) rfl) ⟨us++[a],b,rfl,s3.trans s4,s4 _ _ e3,pre.add lst⟩
      · have h2 : ¬ (!decide (V.int (a : Int) = V.int (one : Int))) = true:=h2
        have he : (a : Int) = (one : Int):=by
          refine Classical.byContradiction fun q=>h2 ?_
          have : ¬ V.int (a : Int) = V.int (one : Int):=fun z=>q (V.int.inj z)
          simp [this]
        have he : a = one:=by omega
        subst he
        have hm : m = 0:=MG.Dst.uniq toa MG.To.here
        subst hm
        refine ⟨_,rfl,k l k1 _ H2 to1 pre.done (s1.trans s2) hl0 ?_⟩
        rw [List.dropLast_concat];exact e2
def spLRingOf : Sp:=fun vs H Q _=>∃ (n : Nat) (t : Addr) (refs : List V) (es : List (Nat × Nat)),vs = [.int (n : Int),.ref t]∧H t = some (.lst refs)∧RepAll H refs (es.map tieD)∧es.length≤1000∧(∀ e∈es,e.1 < n∧e.2 < n)∧n≤60∧(∃ e∈es,MG.RingAt es e) ∧
  ∀ l i e k ws H',MG.FirstR es i e→MG.To es e.1 k e.2→MG.Wy es e.1 k e.2 ws→Same H H'→H l = none→H' l = some (.lst (natV (e.1::ws.dropLast)))→Q (.ref l) H'
theorem scLRingOf : FnScope ["_law_size","_law_ties_here","_law_one","_law_other","_law_found"] ["_law_size","_law_ties_here"] (defScope sLRingOf):=⟨rfl,rfl,rfl,by decide +kernel,rfl,by decide +kernel,by decide +kernel⟩
theorem ok_lringOf {f : Addr} {fd : FuncData} (F : Fun K "_law_ring_of" "_law_ring_of" sLRingOf f fd) (B : Blt mg) (c_law_ring_by : Cal P w K mg base 2 "_law_ring_by" ["_law_size", "_law_ties_here", "_law_one", "_law_other"] spLRingBy) : FnOk P w K mg base CX0 3 f fd ["_law_size", "_law_ties_here"] spLRingOf := by
  refine F.ok scLRingOf (fun vs H Q E h=>?_) (fun cdv A outer s H vs Q E hr h=>?_)
  · obtain ⟨n,t,refs,es,rfl,_⟩:=h
    rfl
  · obtain ⟨n, t, refs, es, rfl, ht, rp, hel, val, hn, ⟨e0, he0, hr0⟩, k⟩ := h
    have nd:=scLRingOf.nd
    refine ⟨_,(pss_cons (ps_for PassesOwn.never rfl (pi_listK K (pv 1)) (pg_tupK (n:=2) K rfl (pgs_cons (pg_name (i:=2) nd rfl (Or.inl rfl)) (pgs_cons (pg_name (i:=3) nd rfl (Or.inl rfl)) pgs_nil))) (pss_cons (pst 4 nd (pc c_law_ring_by hr (pa_cons (pv 0) (pa_cons (pv 1) (p2 (pv 2) (pv 3))))))
      (pss_one (ps_if (pt_cmpR op_isNotX (pv 4) pe_non (nomark _)) (pss_one (ps_ret (pv 4))) pss_nil))))
      (pss_one (ps_ret pe_non))),?_⟩
    have rlen:=rp.len
    rw [List.length_map] at rlen
    refine ⟨_,rfl,t,rfl,⟨_,.of ht⟩,?_⟩
    refine for_list (xs:=refs) (fun j σ H'=>∃ o1 o2 o3,σ = [some (.int (n : Int)),some (.ref t),o1,o2,o3]∧Same H H'∧∀ i,i < j→∀ g,es[i]? = some g→¬ MG.RingAt es g) ?_ ?_ ?_ ?_
    · exact ⟨none,none,none,rfl,Same.refl H,fun i hi=>absurd hi (Nat.not_lt_zero i)⟩
    · rintro j σ H' hj ⟨o1,o2,o3,rfl,sm,_⟩
      exact .of (sm _ _ ht)
    · rintro j x σ H' hx ⟨o1, o2, o3, rfl, sm, hno⟩
      obtain ⟨e,ta,he,rfl,hta⟩:=tie_get (rp.same sm) hx
      have hev:=val e (List.mem_of_getElem? he)
      refine ⟨ta,_,rfl,.of hta,rfl,_,_,rfl,_,_,rfl,rfl,?_⟩
      refine ⟨_,rfl,_,rfl,_,rfl,_,rfl,n,t,refs,es,e.1,e.2,rfl,sm _ _ ht,rp.same sm,hel,val,hev.1,hev.2,hn,fun hz H2 s2=>?_,fun l kk ws H2 to1 wy s2 hl0 hl=>?_⟩
      · refine ⟨_,rfl,.non ⟨_,rfl,ite2 (fun h=>absurd h (by decide)) (fun _=>?_)⟩⟩
        refine ⟨_,_,_,rfl,sm.trans s2,fun i hi g hg=>?_⟩
        by_cases q : i = j
        · subst q
          rw [he] at hg
          cases hg
          exact fun ⟨kk,z⟩=>hz kk z
        · exact hno i (by omega) g hg
      · refine ⟨_,rfl,.non ⟨_,rfl,ite2 (fun _=>?_) (fun h=>absurd rfl h)⟩⟩
        exact ⟨_,rfl,k l j e kk ws H2 ⟨he,⟨kk,to1⟩,fun i hi g hg=>hno i hi g hg⟩ to1 wy (sm.trans s2) (same_free sm hl0) hl⟩
    · rintro σ H' ⟨o1,o2,o3,rfl,sm,hno⟩
      obtain ⟨i,hi⟩:=List.getElem?_of_mem he0
      have:=(List.getElem?_eq_some_iff.mp hi).1
      exact absurd hr0 (hno i (by omega) e0 hi)
end
end K70
namespace K70
open PySem L2
section
variable {P : Program} {w : World} {K : PySem.W.Frag} {mg : Str→Option Value} {base : Heap}
theorem scInit : FnScope ["self","ring"] ["self","ring"] (defScope sRingInit):=⟨rfl,rfl,rfl,by decide +kernel,rfl,by decide +kernel,by decide +kernel⟩
theorem ok_init {f : Addr} {fd : FuncData} (F : Fun K "__init__" "Ring.__init__" sRingInit f fd) (B : Blt mg) : FnOk P w K mg base CX0 1 f fd ["self","ring"] (spInitL K "ring"):=by
  refine F.ok scInit (fun vs H Q E h=>?_) (fun cdv A outer s H vs Q E hr h=>?_)
  · obtain ⟨e,C,l,xs,rfl,_⟩:=h
    rfl
  · obtain ⟨e,C,l,xs,rfl,he,hl,Z,k⟩:=h
    have nd:=scInit.nd
    refine ⟨_,(pss_one (ps_fldX (pv 0) (b_list K rfl B (p1 (pv 1))) rfl)),?_⟩
    refine ⟨_,rfl,_,rfl,.seq (.inl (.of hl)) fun r hr1=>?_⟩
    refine ⟨_,rfl,e,C,rfl,by rw [upd_ne (ne_of_none he hr1)];exact he,Z,fun d hd hde=>?_⟩
    have hrd : r≠d:=fun z=>by rw [← z,upd_same] at hd;cases hd
    rw [upd_ne (Ne.symm hrd)] at hd
    exact k r d hr1 hd hrd
theorem scRefuse : FnScope ["web","ring"] ["web"] (defScope sRefuse):=⟨rfl,rfl,rfl,by decide +kernel,rfl,by decide +kernel,by decide +kernel⟩
def RingX (C : Addr) (H : Hp) (ss : List Str) (es : List (Nat × Nat)) (E : Value→Option Addr→Hp→Prop) : Prop :=
  ∀ i e k ws r d H',MG.FirstR es i e→MG.To es e.1 k e.2→MG.Wy es e.1 k e.2 ws→Same H H'→H r = none→H d = none→H' r = some (.lst (List.map V.str ((e.1::ws.dropLast).map (nmA ss))))→H' d = some (.xd [("ring",.ref r)])→E (.ref C) (some d) H'
def spRefB (C : Addr) : Sp:=fun vs H Q E=>∃ (q : V) (ss : List Str) (es : List (Nat × Nat)),vs = [q]∧WebA H q ss (es.map (nmP ss))∧ValE ss es∧(MG.NoR es→∀ H',Same H H'→Q .non H')∧RingX C H ss es E
theorem ok_refB {f : Addr} {fd : FuncData} {C : Addr} (F : Fun K "refuse_ring" "refuse_ring" sRefuse f fd) (B : Blt mg) (mRing : MkI P w K mg base 1 "Ring" C ["self", "ring"] (spInitL K "ring")) (Z : XSet K C "ring") (cring_of : Cal P w K mg base 6 "ring_of" ["web"] spRingOf) : FnOk P w K mg base (CX1 P w) 7 f fd ["web"] (spRefB C) := by
  refine F.okX scRefuse (fun vs H Q E h=>?_) (fun cdv A outer s H vs Q E hr h=>?_)
  · obtain ⟨q,ss,es,rfl,_⟩:=h
    rfl
  · obtain ⟨q,ss,es,rfl,W,val,k0,k⟩:=h
    have nd:=scRefuse.nd
    refine ⟨_,(pss_cons (pst 1 nd (pc cring_of hr (p1 (pv 0))))
      (pss_one (ps_if (pt_cmpR op_isNotX (pv 1) pe_non (nomark _)) (pss_one (ps_raiseM mRing (hr.mono (by decide)) rfl (p1 (pv 1)))) pss_nil))),?_⟩
    refine ⟨_,rfl,q,ss,es,rfl,W,val,fun hno H1 s1=>?_,fun l i e kk ws H1 fr to1 wy s1 hl0 hl=>?_⟩
    · refine ⟨_,rfl,.non ⟨_,rfl,ite2 (fun h=>absurd h (by decide)) (fun _=>k0 hno H1 s1)⟩⟩
    refine ⟨_,rfl,.non ⟨_,rfl,ite2 (fun _=>?_) (fun h=>absurd rfl h)⟩⟩
    refine ⟨_,rfl,(by show 1≤sizeLine;decide),fun e1 he1=>?_⟩
    exact initL_raise hl Z he1 fun r d H2 s2 hr2 hd2 h3 h4=>k i e kk ws r d H2 fr to1 wy (s1.trans s2) (same_free s1 hr2) (same_free s1 hd2) h3 h4
end
end K70
namespace K70
open PySem L2
section
variable {P : Program} {w : World} {K : PySem.W.Frag} {mg : Str→Option Value} {base : Heap}
def unionL (fs ss : List Str) : List Str:=fs++ss.filter fun s=>decide (s∉fs)
def numP (ss : List Str) (e : Str × Str) : Nat × Nat:=(ss.idxOf e.1,ss.idxOf e.2)
theorem union_in {fs ss : List Str} {s : Str} : s∈unionL fs ss ↔ s∈fs∨s∈ss:=by
  unfold unionL
  rw [List.mem_append,List.mem_filter]
  by_cases h : s∈fs <;> simp [h]
theorem union_nd {fs ss : List Str} (h : fs.Nodup) (g : ss.Nodup) : (unionL fs ss).Nodup:=by
  unfold unionL
  rw [List.nodup_append]
  refine ⟨h,g.filter _,fun a ha b hb e=>?_⟩
  subst e
  have:=(List.mem_filter.mp hb).2
  exact (of_decide_eq_true this) ha
theorem nmP_num {ss : List Str} {e : Str × Str} (h : e.1∈ss∧e.2∈ss) : nmP ss (numP ss e) = e:=by
  unfold nmP numP
  rw [getDIdx h.1,getDIdx h.2]
theorem num_nmP {ss : List Str} (nd : ss.Nodup) {e : Nat × Nat} (h : e.1 < ss.length∧e.2 < ss.length) : numP ss (nmP ss e) = e:=by
  have f : ∀ i,i < ss.length→ss.idxOf (ss.getD i "") = i:=fun i hi=>idxAt nd (by simp [hi])
  unfold nmP numP
  rw [f _ h.1,f _ h.2]
theorem num_val {ss : List Str} {e : Str × Str} (h : e.1∈ss∧e.2∈ss) : (numP ss e).1 < ss.length∧(numP ss e).2 < ss.length:=⟨List.idxOf_lt_length_of_mem h.1,List.idxOf_lt_length_of_mem h.2⟩
theorem nmP_un {fs ss : List Str} {e : Nat × Nat} (h : e.1 < fs.length∧e.2 < fs.length) : nmP (unionL fs ss) e = nmP fs e:=by
  unfold nmP unionL
  simp only [List.getD_eq_getElem?_getD,List.getElem?_append_left h.1,List.getElem?_append_left h.2]
def newL (fs ss : List Str) (ts ms : List (Str × Str)) : List (Nat × Nat):=(ms.filter fun e=>decide (e∉ts)).map (numP (unionL fs ss))
structure Two (fs ss : List Str) (es : List (Nat × Nat)) (ms : List (Str × Str)) : Prop where
  nd1 : fs.Nodup
  nm1 : ∀ s∈fs,Nm s
  nd2 : ss.Nodup
  nm2 : ∀ s∈ss,Nm s
  val : ValE fs es
  end_ : es.Nodup
  mnd : ms.Nodup
  inn : ∀ e∈ms,e.1∈ss∧e.2∈ss
  len : (unionL fs ss).length≤62
  lenM : ms = []∨(unionL fs ss).length≤60
  few : es.length + ms.length≤410
section
variable {fs ss : List Str} {es : List (Nat × Nat)} {ms : List (Str × Str)}
theorem Two.nd (T : Two fs ss es ms) : (unionL fs ss).Nodup:=union_nd T.nd1 T.nd2
theorem Two.nm (T : Two fs ss es ms) : ∀ s∈unionL fs ss,Nm s:=fun s hs=>by
  rcases union_in.mp hs with h | h
  · exact T.nm1 s h
  · exact T.nm2 s h
theorem Two.inU (T : Two fs ss es ms) : ∀ e∈ms,e.1∈unionL fs ss∧e.2∈unionL fs ss:=fun e he=>⟨union_in.mpr (Or.inr (T.inn e he).1),union_in.mpr (Or.inr (T.inn e he).2)⟩
theorem Two.valU (T : Two fs ss es ms) : ValE (unionL fs ss) es:=fun e he=>by
  have:=T.val e he
  unfold unionL
  rw [List.length_append]
  omega
theorem Two.names (T : Two fs ss es ms) : es.map (nmP (unionL fs ss)) = es.map (nmP fs):=List.map_congr_left fun e he=>nmP_un (T.val e he)
theorem Two.valN (T : Two fs ss es ms) : ∀ ts,∀ e∈newL fs ss ts ms,e.1 < (unionL fs ss).length∧e.2 < (unionL fs ss).length:=fun ts e he=>by
  obtain ⟨x,hx,rfl⟩:=List.mem_map.mp he
  exact num_val (T.inU x (List.mem_filter.mp hx).1)
theorem numP_inj {us : List Str} {a b : Str × Str} (ha : a.1∈us∧a.2∈us) (hb : b.1∈us∧b.2∈us) (h : numP us a = numP us b) : a = b:=by rw [← nmP_num ha,h,nmP_num hb]
theorem nodup_on {α β : Type} {f : α→β} : ∀ {l : List α},(∀ a∈l,∀ b∈l,f a = f b→a = b)→l.Nodup→(l.map f).Nodup
  | [],_,_=>List.nodup_nil
  | x::l,h,nd=>by
    rw [List.nodup_cons] at nd
    rw [List.map_cons,List.nodup_cons]
    refine ⟨fun q=>?_,nodup_on (fun a ha b hb=>h a (List.mem_cons_of_mem _ ha) b (List.mem_cons_of_mem _ hb)) nd.2⟩
    obtain ⟨y,hy,e⟩:=List.mem_map.mp q
    exact nd.1 (h y (List.mem_cons_of_mem _ hy) x List.mem_cons_self e ▸ hy)
theorem Two.ndN (T : Two fs ss es ms) : (es++newL fs ss (es.map (nmP fs)) ms).Nodup:=by
  rw [List.nodup_append]
  refine ⟨T.end_,nodup_on (fun a ha b hb=>numP_inj (T.inU a (List.mem_filter.mp ha).1) (T.inU b (List.mem_filter.mp hb).1)) (T.mnd.filter _),fun a ha b hb e=>?_⟩
  subst e
  obtain ⟨x,hx,rfl⟩:=List.mem_map.mp hb
  obtain ⟨hx1,hx2⟩:=List.mem_filter.mp hx
  refine of_decide_eq_true hx2 (List.mem_map.mpr ⟨_,ha,?_⟩)
  rw [← nmP_un (ss:=ss) (T.val _ ha),nmP_num (T.inU x hx1)]
theorem newL_len {ts : List (Str × Str)} : (newL fs ss ts ms).length≤ms.length:=by
  unfold newL
  rw [List.length_map]
  exact List.length_filter_le _ _
end
def Bt (N : List Addr) (H H' : Hp) : Prop:=∀ b o,b∉N→H b = some o→H' b = some o
theorem Bt.trans {N : List Addr} {H H1 H2 : Hp} (a : Bt N H H1) (b : Bt N H1 H2) : Bt N H H2:=fun c o n h=>b c o n (a c o n h)
theorem Bt.of {N : List Addr} {H H' : Hp} (s : Same H H') : Bt N H H':=fun b o _ h=>s b o h
theorem Bt.upd {N : List Addr} {H : Hp} {a : Addr} {o : HO} (h : a∈N) : Bt N H (upd H a o):=fun b o' n e=>by
  have nb : b≠a:=fun z=>n (by rw [z];exact h)
  rw [upd_ne nb];exact e
def Ls (N : List Addr) (H : Hp) : Prop:=∀ a∈N,∃ ys,H a = some (.lst ys)
theorem Ls.not {N : List Addr} {H : Hp} (h : Ls N H) {b : Addr} {xs : List V} (e : H b = some (.tup xs)) : b∉N:=fun m=>by
  obtain ⟨ys,q⟩:=h b m
  rw [e] at q;cases q
theorem pairBt {N : List Addr} {H H' : Hp} (hN : Ls N H) (b : Bt N H H') {v : V} {e : Str × Str} (h : Rep H v (pairD e)) : Rep H' v (pairD e):=by
  obtain ⟨a,rfl,ha⟩:=pair_at h
  exact pair_rep (b a _ (hN.not ha) ha)
theorem pairsBt {N : List Addr} {H H' : Hp} (hN : Ls N H) (b : Bt N H H') : ∀ {es : List (Str × Str)} {xs : List V},RepAll H xs (es.map pairD)→RepAll H' xs (es.map pairD)
  | [],xs,h=>by rw [RepAll.nilI h];exact .nil
  | e::es,xs,h=>by
    obtain ⟨y,ys',rfl,a,c⟩:=RepAll.consI h
    exact .cons (pairBt hN b a) (pairsBt hN b c)
def RowAt (H0 H : Hp) (ss : List Str) (N : List Addr) (x : V) (r : MG.Row) : Prop:=∃ p tv q,x = .ref p∧H p = some (.tup [tv,.ref q])∧Rep H tv (pairD (nmP ss r.1))∧H q = some (.lst (List.map V.str (r.2.map (nmA ss))))∧H0 q = none∧q∉N
theorem RowAt.bt {H0 H H' : Hp} {ss : List Str} {N : List Addr} {x : V} {r : MG.Row} (hN : Ls N H) (b : Bt N H H') (h : RowAt H0 H ss N x r) : RowAt H0 H' ss N x r:=by
  obtain ⟨p,tv,q,e,hp,rt,hq,h0,n⟩:=h
  exact ⟨p,tv,q,e,b _ _ (hN.not hp) hp,pairBt hN b rt,b _ _ n hq,h0,n⟩
inductive Rows (H0 H : Hp) (ss : List Str) (N : List Addr) : List V→List MG.Row→Prop
  | nil : Rows H0 H ss N [] []
  | snoc {xs : List V} {rs : List MG.Row} {x : V} {r : MG.Row} : Rows H0 H ss N xs rs→RowAt H0 H ss N x r→Rows H0 H ss N (xs++[x]) (rs++[r])
theorem Rows.bt {H0 H H' : Hp} {ss : List Str} {N : List Addr} {xs : List V} {rs : List MG.Row} (hN : Ls N H) (b : Bt N H H') (h : Rows H0 H ss N xs rs) : Rows H0 H' ss N xs rs:=by
  induction h with
  | nil=>exact .nil
  | snoc _ r ih=>exact .snoc ih (r.bt hN b)
theorem Rows.len {H0 H : Hp} {ss : List Str} {N : List Addr} {xs : List V} {rs : List MG.Row} (h : Rows H0 H ss N xs rs) : xs.length = rs.length:=by
  induction h with
  | nil=>rfl
  | snoc _ r ih=>rw [List.length_append,List.length_append,ih];rfl
def Told (H H' : Hp) (t : Addr) (ss : List Str) (st : List (Nat × Nat) × List MG.Row) : Prop:=∃ wv ll xs N,H' t = some (.tup [wv,.ref ll])∧Rep H' wv (webD ss (st.1.map (nmP ss)))∧H ll = none∧H' ll = some (.lst xs)∧ll∈N∧Rows H H' ss N xs st.2
end
end K70
namespace K70
open PySem L2
section
variable {P : Program} {w : World} {K : PySem.W.Frag} {mg : Str→Option Value} {base : Heap}
def spTogB (ec : Str→Addr) : Sp:=fun vs H Q E=>∃ (v1 v2 : V) (fs ss : List Str) (es : List (Nat × Nat)) (ms : List (Str × Str)),vs = [v1,v2]∧Web H v1 fs (es.map (nmP fs))∧Web H v2 ss ms∧Two fs ss es ms ∧
  (MG.NoR es→(unionL fs ss).length≤60→(MG.putP es (newL fs ss (es.map (nmP fs)) ms)).1.length≤400→∀ t H',Same H H'→Told H H' t (unionL fs ss) (MG.putP es (newL fs ss (es.map (nmP fs)) ms))→Q (.ref t) H') ∧
  (MG.NoR es→¬ ((unionL fs ss).length≤60∧(MG.putP es (newL fs ss (es.map (nmP fs)) ms)).1.length≤400)→∀ H',Same H H'→E (.ref (ec "NoWeb")) none H')∧RingX (ec "Ring") H fs es E
theorem scTogether : FnScope ["one","other","things","ties","left","tie","ring"] ["one","other"] (defScope sTogether):=⟨rfl,rfl,rfl,by decide +kernel,rfl,by decide +kernel,by decide +kernel⟩
theorem ok_togB {f : Addr} {fd : FuncData} {ec : Str → Addr} (F : Fun K "together" "together" sTogether f fd) (B : Blt mg) (xrefuse_ring : CalX P w K mg base 7 "refuse_ring" ["web"] (spRefB (ec "Ring"))) (cring_by : Cal P w K mg base 5 "ring_by" ["web", "one", "other"] spRingBy) (xweb_of : CalX P w K mg base 5 "web_of" ["things", "ties"] (spWebB ec)) : FnOk P w K mg base (CX1 P w) 8 f fd ["one", "other"] (spTogB ec) := by
  refine F.okX scTogether (fun vs H Q E h=>?_) (fun cdv A outer s H vs Q E hr h=>?_)
  · obtain ⟨v1,v2,fs,ss,es,ms,rfl,_⟩:=h
    rfl
  · obtain ⟨v1, v2, fs, ss, es, ms, rfl, W1, W2, T, k, kw, kx⟩ := h
    have nd:=scTogether.nd
    refine ⟨_,(pss_cons (ps_expr (pe_calX xrefuse_ring (hr.mono (by decide)) rfl (p1 (pv 0))))
      (pss_cons (pst 2 nd (pe_op op_addX (b_list K rfl B (p1 (px K hr (pv 0) pe_int))) (pe_comp (defScope sTogether) ["one","other","things","ties","left","tie","ring"] ["thing"] [0] ["thing","one"] rfl (pi_tupK K (px K hr (pv 1) pe_int)) (fun _ _ _ _ _=>(pg_name (i:=0) (show (["thing","one"] : List Str).Nodup by decide) rfl (Or.inl rfl))) (fun _ _ _ _ _=>(pts_one (pt_cmpR (op_notInX K hr.units) (pv 0) (px K hr (pv 1) pe_int) (by with_unfolding_all rfl)))) (fun _ _ _ _ _=>(pv 0)))))
      (pss_cons (pst 3 nd (b_list K rfl B (p1 (px K hr (pv 0) pe_int))))
      (pss_cons (pst 4 nd (pe_lst pa_nil))
      (pss_cons (ps_for PassesOwn.leaving rfl (pi_listK K (pe_comp (defScope sTogether) ["one","other","things","ties","left","tie","ring"] ["tie"] [0] ["tie","one"] rfl (pi_tupK K (px K hr (pv 1) pe_int)) (fun _ _ _ _ _=>(pg_name (i:=0) (show (["tie","one"] : List Str).Nodup by decide) rfl (Or.inl rfl))) (fun _ _ _ _ _=>(pts_one (pt_cmpR (op_notInDT hr.units) (pv 0) (px K hr (pv 1) pe_int) (by with_unfolding_all rfl)))) (fun _ _ _ _ _=>(pv 0)))) (pg_name (i:=5) nd rfl (Or.inl rfl)) (pss_cons (pst 6 nd (pc cring_by hr (pa_cons (pe_tup (p2 (pv 2) (pv 3))) (p2 (px K hr (pv 5) pe_int) (px K hr (pv 5) pe_int)))))
      (pss_one (ps_if (pt_cmpR op_isX (pv 6) pe_non (nomark _)) (pss_one (ps_expr (m_append K (pv 3) (p1 (pv 5))))) (pss_one (ps_expr (m_append K (pv 4) (p1 (pe_tup (p2 (pv 5) (pv 6)))))))))))
      (pss_one (ps_ret (pe_tup (p2 (pe_calX xweb_of (hr.mono (by decide)) rfl (p2 (pv 2) (pv 3))) (pv 4)))))))))),?_⟩
    refine ⟨_,rfl,v1,fs,es,rfl,webA W1,T.val,fun nor H1 s1=>?_,kx⟩
    obtain ⟨q1,a1,b1,xs1,rfl,hq1,ha1,hb1,rp1⟩:=web_at (W1.same s1).rep
    obtain ⟨q2,a2,b2,xs2,rfl,hq2,ha2,hb2,rp2⟩:=web_at (W2.same s1).rep
    have l1:=rp1.len
    have l2:=rp2.len
    rw [List.length_map,List.length_map] at l1
    rw [List.length_map] at l2
    have f1:=W1.len
    have f2:=W2.len
    have few:=T.few
    refine ⟨_,rfl,.tup (.of hq1) rfl ⟨_,rfl,.seq (.inr (.of ha1)) fun c1 hc1=>?_⟩⟩
    have s2:=Same.new (o:=.lst (List.map V.str fs)) hc1
    have hc1' : upd H1 c1 (.lst (List.map V.str fs)) c1 = some (.lst (List.map V.str fs)):=upd_same
    generalize upd H1 c1 (.lst (List.map V.str fs)) = H2 at s2 hc1' ⊢
    refine ⟨_,rfl,.tup (.of (s2 _ _ hq2)) rfl ⟨_,rfl,⟨_,.of (s2 _ _ ha2)⟩,?_⟩⟩
    refine comp_tup (List.map V.str ss) (fun D i acc σ' H'=>∃ o,σ' = [o,some (.ref q1)]∧acc = List.map V.str ((ss.take i).filter fun s=>decide (s∉fs))∧Same H2 H'∧H2 D = none) fun D hD=>⟨?_,?_,?_,?_⟩
    · exact ⟨none,rfl,rfl,Same.new hD,hD⟩
    · rintro i acc σ' H' _ ⟨o,rfl,_,sm,_⟩ _
      exact .of (sm _ _ (s2 _ _ ha2))
    · rintro i acc σ' H' x hx ⟨o, rfl, rfl, sm, hD0⟩ hacc
      rw [List.getElem?_map] at hx
      obtain ⟨t,ht,rfl⟩ : ∃ t,ss[i]? = some t∧V.str t = x:=by
        cases q : ss[i]? with
        | none=>rw [q] at hx;cases hx
        | some e=>rw [q] at hx;exact ⟨e,rfl,Option.some.inj hx⟩
      have hil:=(List.getElem?_eq_some_iff.mp ht).1
      have s3:=s2.trans sm
      refine ⟨_,rfl,_,rfl,.tup (.of (s3 _ _ hq1)) rfl (.seq (.inr (.of (s3 _ _ ha1))) rfl (flat_strs _) ⟨_,rfl,?_⟩)⟩
      rw [in_strs]
      refine ite2 (fun h1=>?_) (fun h1=>?_)
      · have h1 : t∉fs:=by simpa using h1
        refine ⟨_,rfl,hacc,?_,_,rfl,?_,same_at sm hD0,hD0⟩
        · rw [List.length_map]
          have h2:=List.length_filter_le (fun s : Str=>decide (s∉fs)) (ss.take i)
          rw [List.length_take] at h2
          exact small1000 (by omega)
        · rw [List.take_add_one,ht,List.filter_append,List.map_append]
          simp [h1]
      · have h1 : t∈fs:=by simpa using h1
        refine ⟨hacc,_,rfl,?_,sm,hD0⟩
        rw [List.take_add_one,ht,List.filter_append,List.map_append]
        simp [h1]
    rintro acc σ' H3 ⟨o,rfl,rfl,s3,hD0⟩ hacc
    rw [List.length_map,List.take_of_length_le (Nat.le_refl _)] at hacc
    have s13:=s2.trans s3
    have hU:=T.len
    refine .lst (s3 _ _ hc1') hacc ?_ fun lt hlt=>?_
    · rw [List.length_map,List.length_map,← List.length_append]
      exact Nat.le_of_lt (small1000 (Nat.le_trans hU (by decide)))
    have eU : List.map V.str fs++List.map V.str (ss.filter fun s=>decide (s∉fs)) = List.map V.str (unionL fs ss):=(List.map_append ..).symm
    rw [eU]
    have s4:=s13.trans (Same.new (o:=.lst (List.map V.str (unionL fs ss))) hlt)
    have hlt4 : upd H3 lt (.lst (List.map V.str (unionL fs ss))) lt = some (.lst (List.map V.str (unionL fs ss))):=upd_same
    generalize upd H3 lt (.lst (List.map V.str (unionL fs ss))) = H4 at s4 hlt4 ⊢
    refine ⟨_,rfl,.tup (.of (s4 _ _ hq1)) rfl ⟨_,rfl,.seq (.inr (.of (s4 _ _ hb1))) fun lk hlk=>?_⟩⟩
    have s5:=Same.new (o:=.lst xs1) hlk
    have hlk5 : upd H4 lk (.lst xs1) lk = some (.lst xs1):=upd_same
    generalize upd H4 lk (.lst xs1) = H5 at s5 hlk5 ⊢
    refine ⟨(by show 0≤sizeLine;decide),fun ll hll=>?_⟩
    have s6:=Same.new (o:=.lst []) hll
    have hll6 : upd H5 ll (.lst []) ll = some (.lst []):=upd_same
    generalize upd H5 ll (.lst []) = H6 at s6 hll6 ⊢
    have s46:=s5.trans s6
    have s16:=s4.trans s46
    have hlk6:=s6 _ _ hlk5
    have hlt6:=s46 _ _ hlt4
    have nm1 : ∀ e∈es.map (nmP fs),Nm e.1∧Nm e.2:=fun e he=>⟨T.nm1 _ (W1.inn e he).1,T.nm1 _ (W1.inn e he).2⟩
    refine ⟨_,rfl,.tup (.of (s16 _ _ hq2)) rfl ⟨_,rfl,⟨_,.of (s16 _ _ hb2)⟩,?_⟩⟩
    refine comp_tup xs2 (fun D i acc σ' H'=>∃ o,σ' = [o,some (.ref q1)]∧RepAll H' acc (((ms.take i).filter fun e=>decide (e∉es.map (nmP fs))).map pairD)∧Same H6 H'∧H6 D = none) fun D hD=>⟨?_,?_,?_,?_⟩
    · exact ⟨none,rfl,.nil,Same.new hD,hD⟩
    · rintro i acc σ' H' _ ⟨o,rfl,_,sm,_⟩ _
      exact .of (sm _ _ (s16 _ _ hb2))
    · rintro i acc σ' H' x hx ⟨o, rfl, rpa, sm, hD0⟩ hacc
      have s7:=s16.trans sm
      obtain ⟨e,ta,he,rfl,hta⟩:=pair_get (rp2.same s7) hx
      have hil:=(List.getElem?_eq_some_iff.mp he).1
      have hem:=List.mem_of_getElem? he
      have nme : Nm e.1∧Nm e.2:=⟨T.nm2 _ (T.inn e hem).1,T.nm2 _ (T.inn e hem).2⟩
      refine ⟨_,rfl,_,rfl,.tup (.of (s7 _ _ hq1)) rfl ⟨b1,xs1,_,_,rfl,s7 _ _ hb1,rp1.same s7,pair_rep hta,canLay_pairsN nm1,canLay_pairN nme,(by show 1≤16;decide),_,rfl,?_⟩⟩
      rw [any_pair]
      refine ite2 (fun h1=>?_) (fun h1=>?_)
      · have h1 : (!decide (e∈es.map (nmP fs))) = true:=h1
        have h1 : e∉es.map (nmP fs):=by simpa only [Bool.not_eq_true',decide_eq_false_iff_not] using h1
        refine ⟨_,rfl,hacc,?_,_,rfl,?_,same_at sm hD0,hD0⟩
        · have al:=rpa.len
          rw [List.length_map] at al
          have h2:=List.length_filter_le (fun e : Str × Str=>decide (e∉es.map (nmP fs))) (ms.take i)
          rw [List.length_take] at h2
          exact small1000 (by omega)
        · rw [List.take_add_one,he,List.filter_append,List.map_append]
          refine RepAll.append (RepAll.pairBut hacc But.upd rpa) ?_
          rw [show ((some e).toList.filter fun e=>decide (e∉es.map (nmP fs))) = [e] by simp [h1]]
          exact .cons (pair_rep (by rw [upd_ne (ne_of hta hacc (by intro z;cases z))];exact hta)) .nil
      · have h1 : ¬ (!decide (e∈es.map (nmP fs))) = true:=h1
        have h1 : e∈es.map (nmP fs):=by
          refine Classical.byContradiction fun z=>h1 ?_
          rw [decide_eq_false z];rfl
        refine ⟨hacc,_,rfl,?_,sm,hD0⟩
        rw [List.take_add_one,he,List.filter_append,List.map_append]
        rw [show ((some e).toList.filter fun e=>decide (e∉es.map (nmP fs))) = [] by simp [h1]]
        simpa using rpa
    rintro acc σ' H7 ⟨o,rfl,rpa,s7,hD0⟩ hacc
    rw [l2,List.take_of_length_le (Nat.le_refl _)] at rpa
    have hll7:=s7 _ _ hll6
    have hlk7:=s7 _ _ hlk6
    have hlt7:=s7 _ _ hlt6
    have nkl : lk≠ll:=ne_of_none hlk5 hll
    have ntl : lt≠ll:=ne_of_none (s5 _ _ hlt4) hll
    have ntk : lt≠lk:=ne_of_none hlt4 hlk
    have nDk : D≠lk:=fun z=>by rw [z,hlk6] at hD0;cases hD0
    have nDl : D≠ll:=fun z=>by rw [z,hll6] at hD0;cases hD0
    have s17:=s1.trans (s16.trans s7)
    have hk0 : H lk = none:=same_free (s1.trans s4) hlk
    have hl0 : H ll = none:=same_free ((s1.trans s4).trans s5) hll
    have alen:=rpa.len
    rw [List.length_map] at alen
    have lenL : (newL fs ss (es.map (nmP fs)) ms).length = acc.length:=by unfold newL;rw [List.length_map];exact alen.symm
    have lenM : acc.length≤ms.length:=by rw [alen];exact List.length_filter_le _ _
    have vali : ∀ i,ValE (unionL fs ss) (MG.putP es ((newL fs ss (es.map (nmP fs)) ms).take i)).1:=fun i e he=>by
      rcases MG.put_mem _ e he with h | h
      · exact T.valU e h
      · exact T.valN _ e (List.mem_of_mem_take h)
    have leni : ∀ i,(MG.putP es ((newL fs ss (es.map (nmP fs)) ms).take i)).1.length≤410:=fun i=>by
      have h1:=MG.put_len (es:=es) ((newL fs ss (es.map (nmP fs)) ms).take i)
      have h2 : ((newL fs ss (es.map (nmP fs)) ms).take i).length≤(newL fs ss (es.map (nmP fs)) ms).length:=by rw [List.length_take];omega
      omega
    have inni : ∀ i,∀ e∈(MG.putP es ((newL fs ss (es.map (nmP fs)) ms).take i)).1.map (nmP (unionL fs ss)),e.1∈unionL fs ss∧e.2∈unionL fs ss:=fun i e he=>by
      obtain ⟨x,hx,rfl⟩:=List.mem_map.mp he
      exact ⟨mem_getD (vali i x hx).1,mem_getD (vali i x hx).2⟩
    refine ⟨D,rfl,⟨_,.of hacc⟩,?_⟩
    refine for_list (xs:=acc) (fun i σ H'=>∃ (o5 o6 : Option V) (kr xs : List V),σ = [some (.ref q1),some (.ref q2),some (.ref lt),some (.ref lk),some (.ref ll),o5,o6]∧Same H H'∧Bt [lk,ll] H7 H'∧H' lk = some (.lst kr)∧RepAll H' kr (((MG.putP es ((newL fs ss (es.map (nmP fs)) ms).take i)).1.map (nmP (unionL fs ss))).map pairD)∧H' ll = some (.lst xs)∧Rows H H' (unionL fs ss) [lk,ll] xs (MG.putP es ((newL fs ss (es.map (nmP fs)) ms).take i)).2) ?_ ?_ ?_ ?_
    · refine ⟨none,none,xs1,[],rfl,s17,Bt.of (Same.refl _),hlk7,?_,hll7,.nil⟩
      show RepAll H7 xs1 ((es.map (nmP (unionL fs ss))).map pairD)
      rw [T.names]
      exact rp1.same (s16.trans s7)
    · rintro i σ H' _ ⟨o5,o6,kr,xs,rfl,sm,bt,_⟩
      exact .of (bt _ _ (by simp [nDk,nDl]) hacc)
    · rintro i x σ H8 hx ⟨o5, o6, kr, xs, rfl, s8, bt, hk8, rk8, hl8, rows8⟩
      have L7 : Ls [lk,ll] H7:=fun a ha=>by
        rcases List.mem_cons.mp ha with rfl | ha
        · exact ⟨_,hlk7⟩
        · rw [List.mem_singleton.mp ha];exact ⟨_,hll7⟩
      have L8 : Ls [lk,ll] H8:=fun a ha=>by
        rcases List.mem_cons.mp ha with rfl | ha
        · exact ⟨_,hk8⟩
        · rw [List.mem_singleton.mp ha];exact ⟨_,hl8⟩
      obtain ⟨e,ta,he,rfl,hta⟩:=pair_get (pairsBt L7 bt rpa) hx
      have hem:=(List.mem_filter.mp (List.mem_of_getElem? he)).1
      have heU:=T.inU e hem
      have n1 : nmA (unionL fs ss) (numP (unionL fs ss) e).1 = e.1:=getDIdx heU.1
      have n2 : nmA (unionL fs ss) (numP (unionL fs ss) e).2 = e.2:=getDIdx heU.2
      have tk : (newL fs ss (es.map (nmP fs)) ms).take (i + 1) = (newL fs ss (es.map (nmP fs)) ms).take i++[numP (unionL fs ss) e]:=by
        rw [List.take_add_one]
        congr 1
        unfold newL
        rw [List.getElem?_map,he];rfl
      have vi:=vali i
      have li:=leni i
      have ii:=inni i
      have hrl : (MG.putP es ((newL fs ss (es.map (nmP fs)) ms).take i)).2.length≤410:=by
        have h1:=(MG.put_rows (es:=es) ((newL fs ss (es.map (nmP fs)) ms).take i) T.valU fun e he=>T.valN _ e (List.mem_of_mem_take he)).1
        have h2 : ((newL fs ss (es.map (nmP fs)) ms).take i).length≤(newL fs ss (es.map (nmP fs)) ms).length:=by rw [List.length_take];omega
        omega
      rw [tk,MG.putP_snoc]
      have hlt8:=bt _ _ (by simp [ntk,ntl]) hlt7
      generalize MG.putP es ((newL fs ss (es.map (nmP fs)) ms).take i) = st at rk8 rows8 vi li ii hrl ⊢
      refine ⟨_,rfl,_,rfl,(by show 2≤sizeLine;decide),fun p hp=>?_⟩
      have s9:=Same.new (o:=.tup [V.ref lt,V.ref lk]) hp
      have hp9 : upd H8 p (.tup [V.ref lt,V.ref lk]) p = some (.tup [V.ref lt,V.ref lk]):=upd_same
      generalize upd H8 p (.tup [V.ref lt,V.ref lk]) = H9 at s9 hp9 ⊢
      have hta9:=s9 _ _ hta
      refine ⟨_,rfl,.tup (.of hta9) rfl ⟨_,rfl,.tup (.of hta9) rfl ⟨.ref p,unionL fs ss,st.1,(numP (unionL fs ss) e).1,(numP (unionL fs ss) e).2,by rw [n1,n2];rfl,?_,vi,(num_val heU).1,(num_val heU).2,fun hno H10 s10=>?_,fun l m ws H10 tom wy s10 hl hc=>?_⟩⟩⟩
      · refine ⟨⟨p,lt,lk,kr,rfl,hp9,.inl (s9 _ _ hlt8),.inl (s9 _ _ hk8),rk8.same s9⟩,T.nd,T.nm,?_,by rw [List.length_map];omega,ii⟩
        exact T.lenM.resolve_left fun z=>by rw [z] at hem;cases hem
      · have s10:=s9.trans s10
        have kl:=rk8.len
        rw [List.length_map,List.length_map] at kl
        refine ⟨_,rfl,.non ⟨_,rfl,ite2 (fun _=>?_) (fun h=>(h (decide_eq_true (rfl : V.non = V.non))).elim)⟩⟩
        have hk10:=s10 _ _ hk8
        refine ⟨_,rfl,.inl ⟨rfl,_,.of hk10⟩,?_⟩
        refine ⟨_,rfl,lk,_,_,rfl,rfl,hk10,small1000 (by omega),?_⟩
        rw [MG.stepP_none hno]
        have b10 : Bt [lk,ll] H8 (upd H10 lk (.lst (kr++[V.ref ta]))):=(Bt.of s10).trans (Bt.upd (by simp))
        refine ⟨_,_,kr++[V.ref ta],xs,rfl,fun b o hb=>?_,bt.trans b10,upd_same,?_,?_,rows8.bt L8 b10⟩
        · rw [upd_ne (ne_of_none hb hk0)];exact s10 _ _ (s8 _ _ hb)
        · show RepAll _ _ (((st.1++[numP (unionL fs ss) e]).map (nmP (unionL fs ss))).map pairD)
          rw [List.map_append,List.map_append]
          refine RepAll.append (pairsBt L8 b10 rk8) (.cons ?_ .nil)
          rw [nmP_num heU]
          exact pairBt L8 b10 (pair_rep hta)
        · rw [upd_ne (Ne.symm nkl)];exact s10 _ _ hl8
      · have s10:=s9.trans s10
        refine ⟨_,rfl,.non ⟨_,rfl,ite2 (fun h=>?_) (fun _=>?_)⟩⟩
        · have h : V.ref l = V.non:=of_decide_eq_true h
          cases h
        have hl10:=s10 _ _ hl8
        refine ⟨_,rfl,.inl ⟨rfl,_,.of hl10⟩,?_⟩
        refine ⟨_,rfl,_,rfl,(by show 2≤sizeLine;decide),fun p2 hp2=>?_⟩
        have s11:=Same.new (o:=.tup [V.ref ta,V.ref l]) hp2
        have hp11 : upd H10 p2 (.tup [V.ref ta,V.ref l]) p2 = some (.tup [V.ref ta,V.ref l]):=upd_same
        generalize upd H10 p2 (.tup [V.ref ta,V.ref l]) = H11 at s11 hp11 ⊢
        have s811:=s10.trans s11
        have rl:=rows8.len
        refine ⟨ll,_,_,rfl,rfl,s11 _ _ hl10,small1000 (by omega),?_⟩
        rw [MG.stepP_ring tom wy]
        have b11 : Bt [lk,ll] H8 (upd H11 ll (.lst (xs++[V.ref p2]))):=(Bt.of s811).trans (Bt.upd (by simp))
        have hlq : l≠lk:=fun z=>by rw [z,s9 _ _ hk8] at hl;cases hl
        have hlq2 : l≠ll:=fun z=>by rw [z,s9 _ _ hl8] at hl;cases hl
        refine ⟨_,_,kr,xs++[V.ref p2],rfl,fun b o hb=>?_,bt.trans b11,?_,pairsBt L8 b11 rk8,upd_same,.snoc (rows8.bt L8 b11) ⟨p2,.ref ta,l,rfl,?_,?_,?_,same_free (s8.trans s9) hl,by simp [hlq,hlq2]⟩⟩
        · rw [upd_ne (ne_of_none hb hl0)];exact s811 _ _ (s8 _ _ hb)
        · rw [upd_ne nkl];exact s811 _ _ hk8
        · rw [upd_ne (ne_of hp11 (s11 _ _ hl10) (by intro z;cases z))];exact hp11
        · rw [nmP_num heU];exact pairBt L8 b11 (pair_rep hta)
        · rw [upd_ne hlq2];exact s11 _ _ hc
    · rintro σ H8 ⟨o5, o6, kr, xs, rfl, s8, bt, hk8, rk8, hl8, rows8⟩
      have vi:=vali acc.length
      have li:=leni acc.length
      have ii:=inni acc.length
      rw [List.take_of_length_le (Nat.le_of_eq lenL)] at rk8 rows8 vi li ii
      have hlt8:=bt _ _ (by simp [ntk,ntl]) hlt7
      have ndk:=MG.put_nodup T.ndN
      refine ⟨_,rfl,_,rfl,lt,lk,unionL fs ss,_,kr,rfl,hlt8,hU,T.nd,T.nm,hk8,rk8,by rw [List.length_map];exact li,?_,ii,fun h6 h4 q H9 s9 rw9=>?_,fun hn H9 s9=>kw nor (by rw [List.length_map] at hn;exact hn) H9 (s8.trans s9)⟩
      · refine nodup_on (fun a ha b hb h=>?_) ndk
        rw [← num_nmP T.nd (vi a ha),h,num_nmP T.nd (vi b hb)]
      · refine ⟨_,rfl,(by show 2≤sizeLine;decide),fun t ht=>?_⟩
        have s10:=s9.trans (Same.new (o:=.tup [V.ref q,V.ref ll]) ht)
        have L8 : Ls [lk,ll] H8:=fun a ha=>by
          rcases List.mem_cons.mp ha with rfl | ha
          · exact ⟨_,hk8⟩
          · rw [List.mem_singleton.mp ha];exact ⟨_,hl8⟩
        exact k nor h6 (by rw [List.length_map] at h4;exact h4) t _ (s8.trans s10) ⟨.ref q,ll,xs,[lk,ll],upd_same,rw9.same (Same.new ht),hl0,s10 _ _ hl8,by simp,rows8.bt L8 (Bt.of s10)⟩
end
end K70
namespace K70
open PySem L2
section
variable {P : Program} {w : World} {K : PySem.W.Frag} {mg : Str→Option Value} {base : Heap}
def spOthers (ec : Str→Addr) : Sp:=fun vs H Q _=>∃ (a : Addr) (dd : Option Addr) (c : Str),vs = [.ref a]∧(c = "Ring"∨c = "NoWeb")∧H a = some (xObj a (ec c) dd)∧∀ H',Same H H'→Q (.bl false) H'
theorem scOthers : FnScope ["_law_caught"] ["_law_caught"] (defScope sOthers):=⟨rfl,rfl,rfl,by decide +kernel,rfl,by decide +kernel,by decide +kernel⟩
theorem ok_others {f : Addr} {fd : FuncData} {ec : Str → Addr} (F : Fun K "_law_others" "_law_others" sOthers f fd) (B : Blt mg) (Er : Errs K mg base ec excL excC) : FnM P w K mg base 1 f fd ["_law_caught"] (spOthers ec) := by
  refine F.okM scOthers (fun vs H Q E h=>?_) (fun cdv A mk outer s H vs Q E hr h=>?_)
  · obtain ⟨a,dd,c,rfl,_⟩:=h
    rfl
  · obtain ⟨a,dd,c,rfl,hc,ha,k⟩:=h
    have nd:=scOthers.nd
    refine ⟨_,(pss_cons (ps_if (PW.pt (pw_or (pt_not (pt_val (b_isx K B (p2 (pv 0) (pe_glob (v:=.ref (ec "OrderError")) rfl (Er.b "OrderError" (by decide)) rfl))))) (pw_or1 (pt_not (pt_val (b_isx K B (p2 (pv 0) (pe_bltn (v:=.ty "ValueError") rfl Er.nv b_ValueError rfl)))))))) (pss_one (ps_ret pe_bl)) pss_nil)
      (pss_cons (ps_if (pt_val (b_isxT K B (p2 (pv 0) (pe_tup (pa_cons (pe_glob (v:=.ref (ec "Apart")) rfl (Er.b "Apart" (by decide)) rfl) (pa_cons (pe_glob (v:=.ref (ec "Clash")) rfl (Er.b "Clash" (by decide)) rfl) (pa_cons (pe_glob (v:=.ref (ec "Full")) rfl (Er.b "Full" (by decide)) rfl) (pa_cons (pe_glob (v:=.ref (ec "NoDeed")) rfl (Er.b "NoDeed" (by decide)) rfl) (pa_cons (pe_glob (v:=.ref (ec "NoHouse")) rfl (Er.b "NoHouse" (by decide)) rfl) (pa_cons (pe_glob (v:=.ref (ec "NoRedo")) rfl (Er.b "NoRedo" (by decide)) rfl) (p2 (pe_glob (v:=.ref (ec "NoRow")) rfl (Er.b "NoRow" (by decide)) rfl) (pe_glob (v:=.ref (ec "NoText")) rfl (Er.b "NoText" (by decide)) rfl) star_n star_n) star_n) star_n) star_n) star_n) star_n) star_n))))) (pss_one (ps_ret pe_bl)) pss_nil)
      (pss_one (ps_ret (b_isxT K B (p2 (pv 0) (pe_tup (pa_cons (pe_glob (v:=.ref (ec "NoTie")) rfl (Er.b "NoTie" (by decide)) rfl) (pa_cons (pe_glob (v:=.ref (ec "NoUndo")) rfl (Er.b "NoUndo" (by decide)) rfl) (pa_cons (pe_glob (v:=.ref (ec "NoUnit")) rfl (Er.b "NoUnit" (by decide)) rfl) (pa_cons (pe_glob (v:=.ref (ec "NoWant")) rfl (Er.b "NoWant" (by decide)) rfl) (pa_cons (pe_glob (v:=.ref (ec "NoWeights")) rfl (Er.b "NoWeights" (by decide)) rfl) (pa_cons (pe_glob (v:=.ref (ec "TooMany")) rfl (Er.b "TooMany" (by decide)) rfl) (pa_cons (pe_glob (v:=.ref (ec "Twice")) rfl (Er.b "Twice" (by decide)) rfl) (p2 (pe_glob (v:=.ref (ec "Within")) rfl (Er.b "Within" (by decide)) rfl) (pe_glob (v:=.ref (ec "NoOrder")) rfl (Er.b "NoOrder" (by decide)) rfl) star_n star_n) star_n) star_n) star_n) star_n) star_n) star_n) star_n)))))))),?_⟩
    have fN : _:=Er.f c (by rcases hc with rfl | rfl <;> decide)
    refine ⟨_,rfl,a,ec c,dd,_,.ref (ec "OrderError"),true,rfl,ha,fN,fun v hv=>hv,by rcases hc with rfl | rfl <;> exact (Er.kit _ (by decide) (by decide) "OrderError" (by decide)).trans (by decide),?_⟩
    refine ⟨true,rfl,?_⟩
    refine ⟨_,rfl,a,ec c,dd,_,.type "ValueError",true,rfl,ha,fN,fun v hv=>hv,by rcases hc with rfl | rfl <;> exact Er.val _ (by decide),?_⟩
    refine ⟨true,rfl,?_⟩
    refine ⟨_,rfl,(by show 8≤sizeLine;decide),fun t1 h1=>?_⟩
    have s1:=Same.new (o:=.tup ([ec "Apart",ec "Clash",ec "Full",ec "NoDeed",ec "NoHouse",ec "NoRedo",ec "NoRow",ec "NoText"].map V.ref)) h1
    refine ⟨a,ec c,dd,t1,(["Apart","Clash","Full","NoDeed","NoHouse","NoRedo","NoRow","NoText"] : List Str).map ec,false,rfl,s1 _ _ ha,upd_same,fN,by rcases hc with rfl | rfl <;> exact Er.none_of (by decide) (by decide) (by decide),?_⟩
    refine ⟨false,rfl,?_⟩
    refine ⟨_,rfl,(by show 9≤sizeLine;decide),fun t2 h2=>?_⟩
    have s2:=Same.new (o:=.tup ([ec "NoTie",ec "NoUndo",ec "NoUnit",ec "NoWant",ec "NoWeights",ec "TooMany",ec "Twice",ec "Within",ec "NoOrder"].map V.ref)) h2
    exact ⟨a,ec c,dd,t2,(["NoTie","NoUndo","NoUnit","NoWant","NoWeights","TooMany","Twice","Within","NoOrder"] : List Str).map ec,false,rfl,s2 _ _ (s1 _ _ ha),upd_same,fN,by rcases hc with rfl | rfl <;> exact Er.none_of (by decide) (by decide) (by decide),k _ fun b u e=>s2 _ _ (s1 _ _ e)⟩
def spWord (ec : Str→Addr) : Sp:=fun vs H Q _=>∃ a : Addr,vs = [.ref a] ∧
  ((∃ (d r : Addr),H a = some (xObj a (ec "Ring") (some d))∧H d = some (.xd [("ring",.ref r)])∧∀ t H',Same H H'→H' t = some (.tup [.str "ring",.ref r])→Q (.ref t) H') ∨
   (∃ dd,H a = some (xObj a (ec "NoWeb") dd)∧∀ t l H',Same H H'→H' t = some (.tup [.str "web",.ref l])→H' l = some (.lst [])→Q (.ref t) H'))
theorem scWord : FnScope ["_law_caught"] ["_law_caught"] (defScope sLawWord):=⟨rfl,rfl,rfl,by decide +kernel,rfl,by decide +kernel,by decide +kernel⟩
theorem ok_word {f : Addr} {fd : FuncData} {ec : Str → Addr} (F : Fun K "_law_word" "_law_word" sLawWord f fd) (B : Blt mg) (Er : Errs K mg base ec excL excC) (G : XGet K (ec "Ring") "ring") (c_law_others : CalM P w K mg base 1 "_law_others" ["_law_caught"] (spOthers ec)) : FnM P w K mg base 2 f fd ["_law_caught"] (spWord ec) := by
  refine F.okM scWord (fun vs H Q E h=>?_) (fun cdv A mk outer s H vs Q E hr h=>?_)
  · obtain ⟨a,rfl,_⟩:=h
    rfl
  · obtain ⟨a,rfl,h⟩:=h
    have nd:=scWord.nd
    refine ⟨_,(pss_cons (ps_if (PW.pt (pw_or (pt_val (pe_calM c_law_others (hr.mono (show 1≤1 by decide)) rfl (p1 (pv 0)))) (pw_or1 (pt_cmpR (op_eqX hr.units) (b_isx K B (p2 (pv 0) (pe_glob (v:=.ref (ec "Ring")) rfl (Er.b "Ring" (by decide)) rfl))) (b_isx K B (p2 (pv 0) (pe_glob (v:=.ref (ec "NoWeb")) rfl (Er.b "NoWeb" (by decide)) rfl))) (nomark _))))) (pss_one (ps_ret (pe_tup (p2 pe_str (pe_lst pa_nil))))) pss_nil)
      (pss_cons (ps_if (pt_val (b_isx K B (p2 (pv 0) (pe_glob (v:=.ref (ec "Ring")) rfl (Er.b "Ring" (by decide)) rfl)))) (pss_one (ps_ret (pe_tup (p2 pe_str (pe_fldX (pv 0) rfl))))) pss_nil)
      (pss_one (ps_ret (pe_tup (p2 pe_str (pe_lst pa_nil))))))),?_⟩
    have fR:=Er.f "Ring" (by decide)
    have fW:=Er.f "NoWeb" (by decide)
    rcases h with ⟨d,r,ha,hd,k⟩ | ⟨dd,ha,k⟩
    · refine ⟨_,rfl,a,some d,"Ring",rfl,.inl rfl,ha,fun H1 s1=>⟨false,rfl,?_⟩⟩
      have ha1:=s1 _ _ ha
      refine ⟨_,rfl,a,ec "Ring",some d,_,.ref (ec "Ring"),true,rfl,ha1,fR,fun v hv=>hv,(Er.kit "Ring" (by decide) (by decide) "Ring" (by decide)).trans (by decide),?_⟩
      refine ⟨_,rfl,a,ec "Ring",some d,_,.ref (ec "NoWeb"),false,rfl,ha1,fR,fun v hv=>hv,(Er.kit "Ring" (by decide) (by decide) "NoWeb" (by decide)).trans (by decide),.sc rfl ⟨_,rfl,ite2 (fun h=>absurd h (by simp)) (fun _=>?_)⟩⟩
      refine ⟨_,rfl,a,ec "Ring",some d,_,.ref (ec "Ring"),true,rfl,ha1,fR,fun v hv=>hv,(Er.kit "Ring" (by decide) (by decide) "Ring" (by decide)).trans (by decide),⟨true,rfl,ite2 (fun _=>?_) (fun h=>absurd rfl h)⟩⟩
      refine ⟨_,rfl,a,ec "Ring",d,_,.ref r,rfl,ha1,s1 _ _ hd,rfl,fR,G,(by show 2≤sizeLine;decide),fun t ht=>?_⟩
      exact k t _ (s1.trans (Same.new ht)) upd_same
    · refine ⟨_,rfl,a,dd,"NoWeb",rfl,.inr rfl,ha,fun H1 s1=>⟨false,rfl,?_⟩⟩
      have ha1:=s1 _ _ ha
      refine ⟨_,rfl,a,ec "NoWeb",dd,_,.ref (ec "Ring"),false,rfl,ha1,fW,fun v hv=>hv,(Er.kit "NoWeb" (by decide) (by decide) "Ring" (by decide)).trans (by decide),?_⟩
      refine ⟨_,rfl,a,ec "NoWeb",dd,_,.ref (ec "NoWeb"),true,rfl,ha1,fW,fun v hv=>hv,(Er.kit "NoWeb" (by decide) (by decide) "NoWeb" (by decide)).trans (by decide),.sc rfl ⟨_,rfl,ite2 (fun h=>absurd h (by simp)) (fun _=>?_)⟩⟩
      refine ⟨_,rfl,a,ec "NoWeb",dd,_,.ref (ec "Ring"),false,rfl,ha1,fW,fun v hv=>hv,(Er.kit "NoWeb" (by decide) (by decide) "Ring" (by decide)).trans (by decide),⟨false,rfl,ite2 (fun h=>absurd h (by decide)) (fun _=>?_)⟩⟩
      refine ⟨(by show 0≤sizeLine;decide),fun l hl=>⟨(by show 2≤sizeLine;decide),fun t ht=>?_⟩⟩
      exact k t l _ (s1.trans ((Same.new hl).trans (Same.new ht))) upd_same (Same.new ht _ _ upd_same)
end
end K70
namespace K70
open PySem L2
section
variable {P : Program} {w : World} {K : PySem.W.Frag} {mg : Str→Option Value} {base : Heap}
theorem web_sw {ss : List Str} {ts : List (Str × Str)} (h : ∀ s∈ss,Nm s) (g : ∀ e∈ts,Nm e.1∧Nm e.2) (l1 : ss.length≤60) (l2 : ts.length≤410) : Sw (webD ss ts) 170000 3:=by
  have s1 : Sw (.tuple (ss.map .str)) 80000 2:=(Sw.tuple (n:=82) (k:=0) fun d hd=>by
    obtain ⟨s,hs,rfl⟩:=List.mem_map.mp hd
    exact Sw.nm (h s hs)).mono (by rw [List.length_map];omega) (by omega)
  have s2 : Sw (.tuple (ts.map pairD)) 80000 2:=(Sw.tuple (n:=171) (k:=1) fun d hd=>by
    obtain ⟨e,he,rfl⟩:=List.mem_map.mp hd
    exact Sw.pair (g e he).1 (g e he).2).mono (by rw [List.length_map];omega) (by omega)
  exact (Sw.tuple (n:=80000) (k:=2) (ds:=[.tuple (ss.map .str),.tuple (ts.map pairD)]) fun d hd=>by
    rcases List.mem_cons.mp hd with rfl | hd
    · exact s1
    · rw [List.mem_singleton.mp hd];exact s2).mono (by show 3 + 2 * (80000 + 2)≤170000;decide) (by omega)
theorem swWeb {H : Hp} {v : V} {ss : List Str} {ts : List (Str × Str)} (W : Web H v ss ts) : Sw (webD ss ts) 170000 3:=web_sw W.nm (fun e he=>⟨W.nm _ (W.inn e he).1,W.nm _ (W.inn e he).2⟩) W.len (Nat.le_trans W.few (by decide))
theorem two_sw {d1 d2 : PyData} (h1 : Sw d1 170000 3) (h2 : Sw d2 170000 3) : Shw (.list [d1,d2]):=(Sw.list (n:=170000) (k:=3) (ds:=[d1,d2]) fun d hd=>by
    rcases List.mem_cons.mp hd with rfl | hd
    · exact h1
    · rw [List.mem_singleton.mp hd];exact h2).shw (by decide) (by rw [sizeLine_eq];show 2 + 2 * (170000 + 2)≤_;decide)
def toldD (a b c : Nat) : PyData:=.tuple [.str "told",.list [.int (a : Int),.int (b : Int),.int (c : Int)]]
def webXD : PyData:=.tuple [.str "web",.list []]
def ringD (ns : List Str) : PyData:=.tuple [.str "ring",.list (ns.map .str)]
def spTried : Sp:=fun vs H Q _=>∃ (v1 v2 : V) (fs ss : List Str) (es : List (Nat × Nat)) (ms : List (Str × Str)),vs = [v1,v2]∧Web H v1 fs (es.map (nmP fs))∧Web H v2 ss ms∧Two fs ss es ms ∧
  (MG.NoR es→(unionL fs ss).length≤60→(MG.putP es (newL fs ss (es.map (nmP fs)) ms)).1.length≤400→∀ t H',Same H H'→Rep H' (.ref t) (toldD (unionL fs ss).length (MG.putP es (newL fs ss (es.map (nmP fs)) ms)).1.length (MG.putP es (newL fs ss (es.map (nmP fs)) ms)).2.length)→Q (.ref t) H') ∧
  (MG.NoR es→¬ ((unionL fs ss).length≤60∧(MG.putP es (newL fs ss (es.map (nmP fs)) ms)).1.length≤400)→∀ t H',Same H H'→Rep H' (.ref t) webXD→Q (.ref t) H') ∧
  ∀ i e k ws t H',MG.FirstR es i e→MG.To es e.1 k e.2→MG.Wy es e.1 k e.2 ws→Same H H'→Rep H' (.ref t) (ringD ((e.1::ws.dropLast).map (nmA fs)))→Q (.ref t) H'
theorem scTried : FnScope ["_law_one","_law_other","_law_kept","_law_told","_law_found","refusal"] ["_law_one","_law_other"] (defScope sLawTried):=⟨rfl,rfl,rfl,by decide +kernel,rfl,by decide +kernel,by decide +kernel⟩
theorem ok_tried {f : Addr} {fd : FuncData} {ec : Str → Addr} (F : Fun K "_law_tried" "_law_tried" sLawTried f fd) (B : Blt mg) (Er : Errs K mg base ec excL excC) (c_law_word : CalM P w K mg base 2 "_law_word" ["_law_caught"] (spWord ec)) (xtogether : CalX P w K mg base 8 "together" ["one", "other"] (spTogB ec)) : FnOk P w K mg base CX0 9 f fd ["_law_one", "_law_other"] spTried := by
  refine F.ok scTried (fun vs H Q E h=>?_) (fun cdv A outer s H vs Q E hr h=>?_)
  · obtain ⟨v1,v2,fs,ss,es,ms,rfl,_⟩:=h
    rfl
  · obtain ⟨v1, v2, fs, ss, es, ms, rfl, W1, W2, T, k, kw, kx⟩ := h
    have nd:=scTried.nd
    obtain ⟨bmD,xD,hDb,_⟩:=Er.at_ "OrderError" (by decide)
    obtain ⟨bmR,xR,_,hinR⟩:=Er.at_ "Ring" (by decide)
    obtain ⟨bmW,xW,_,hinW⟩:=Er.at_ "NoWeb" (by decide)
    have S:=two_sw (swWeb W1) (swWeb W2)
    refine ⟨_,(pss_cons (pst 2 nd (b_repr hr.gd hr.units B (p1 (pe_lst (p2 (pv 0) (pv 1))))))
      (pss_cons (ps_tryG (i:=5) (fun _ _ _=>(pss_cons (pst 3 nd (pe_calT xtogether (hr.mono (by decide)) rfl (p2 (pv 0) (pv 1))))
      (pss_one (pst 4 nd (pe_tup (p2 pe_str (pe_lst (pa_cons (b_len K B (p1 (px K hr (px K hr (pv 3) pe_int) pe_int))) (p2 (b_len K B (p1 (px K hr (px K hr (pv 3) pe_int) pe_int))) (b_len K B (p1 (px K hr (pv 3) pe_int)))))))))))) rfl rfl rfl (Er.b "OrderError" (by decide)) xD hDb nd rfl rfl (fun _ _=>(pss_one (pst 4 nd (pe_calM c_law_word (hr.mono (show 2≤8 by decide)) rfl (p1 (pv 5)))))))
      (pss_one (ps_ret (px K hr (pe_lst (p2 (pe_tup (p2 pe_str (pe_lst pa_nil))) (pv 4))) (b_int B (p1 (pe_cmpR (op_eqX hr.units) (b_repr hr.gd hr.units B (p1 (pe_lst (p2 (pv 0) (pv 1))))) (pv 2) (nomark _))))))))),?_⟩
    refine ⟨_,rfl,_,rfl,(by show 2≤sizeLine;decide),fun l0 hl0=>⟨_,rfl,?_⟩⟩
    have s0:=Same.new (o:=.lst [v1,v2]) hl0
    refine .tr (d:=.list [webD fs (es.map (nmP fs)),webD ss ms]) (.lst upd_same (.cons (W1.rep.same s0) (.cons (W2.rep.same s0) .nil))) S.sb S.hd S.dp S.ln ?_
    generalize upd H l0 (.lst [v1,v2]) = H0 at s0 ⊢
    obtain ⟨kt,ekt⟩ : ∃ kt,kt = (PyData.list [webD fs (es.map (nmP fs)),webD ss ms]).shown:=⟨_,rfl⟩
    rw [← ekt]
    apply with_rest (J:=fun σZ HZ=>∃ o3 o5 t D,σZ = [some v1,some v2,some (.str kt),o3,some (.ref t),o5]∧Same H HZ∧Rep HZ (.ref t) D∧∀ H',Same H H'→Rep H' (.ref t) D→Q (.ref t) H')
    · intro rest
      refine ⟨_,rfl,_,rfl,rfl,v1,v2,fs,ss,es,ms,rfl,W1.same s0,W2.same s0,T,fun nor h6 h4 t H1 s1 told=>?_,fun nor hn H1 s1=>⟨ec "NoWeb",bmW,rfl,xW,hinW,fun a hna=>?_⟩,fun i e kk ws r d H1 fr to1 wy s1 hr0 hd0 h3 h4=>⟨ec "Ring",bmR,rfl,xR,hinR,fun a hna=>?_⟩⟩
      rotate_left
      · have s2:=Same.new (o:=xObj a (ec "NoWeb") none) hna
        have ha2 : upd H1 a (xObj a (ec "NoWeb") none) a = some (xObj a (ec "NoWeb") none):=upd_same
        have sA:=(s0.trans s1).trans s2
        generalize upd H1 a (xObj a (ec "NoWeb") none) = H2 at ha2 sA ⊢
        refine ⟨_,rfl,a,rfl,.inr ⟨none,ha2,fun t l H3 s3 ht hl=>?_⟩⟩
        exact rest _ _ ⟨_,_,t,webXD,rfl,sA.trans s3,.tup ht (.cons (.str _) (.cons (.lst hl .nil) .nil)),fun H' s' r'=>kw nor hn t H' s' r'⟩
      · have s2:=Same.new (o:=xObj a (ec "Ring") (some d)) hna
        have ha2 : upd H1 a (xObj a (ec "Ring") (some d)) a = some (xObj a (ec "Ring") (some d)):=upd_same
        have h3':=s2 _ _ h3
        have h4':=s2 _ _ h4
        have sA:=(s0.trans s1).trans s2
        generalize upd H1 a (xObj a (ec "Ring") (some d)) = H2 at ha2 h3' h4' sA ⊢
        refine ⟨_,rfl,a,rfl,.inl ⟨d,r,ha2,h4',fun t H3 s3 ht=>?_⟩⟩
        exact rest _ _ ⟨_,_,t,ringD _,rfl,sA.trans s3,.tup ht (.cons (.str _) (.cons (.lst (s3 _ _ h3') (RepAll.of_strs _)) .nil)),fun H' s' r'=>kx i e kk ws t H' fr to1 wy s' r'⟩
      · obtain ⟨wv,ll,xs,N,ht,rwv,_,hll,_,rows⟩:=told
        obtain ⟨q,c,b,ys,rfl,hq,hc,hb,rp⟩:=web_at rwv
        have rl:=rp.len
        rw [List.length_map,List.length_map] at rl
        have xl:=rows.len
        refine ⟨_,rfl,.tup (.of ht) rfl (.tup (.of hq) rfl ⟨_,_,rfl,Or.inr ⟨_,.of hc,rfl⟩,_,rfl,.tup (.of ht) rfl (.tup (.of hq) rfl ⟨_,_,rfl,Or.inr ⟨_,.of hb,rfl⟩,_,rfl,.tup (.of ht) rfl ⟨_,_,rfl,Or.inl ⟨_,.of hll,rfl⟩,?_⟩⟩)⟩)⟩
        refine ⟨(by show 3≤sizeLine;decide),fun l hl=>⟨(by show 2≤sizeLine;decide),fun t2 ht2=>?_⟩⟩
        have s2:=Same.new (o:=.tup [V.str "told",V.ref l]) ht2
        refine rest _ _ ⟨some (.ref t),none,t2,_,rfl,(s0.trans s1).trans ((Same.new hl).trans s2),.tup upd_same (.cons (.str _) (.cons (.lst (s2 _ _ upd_same) (.cons (.int _) (.cons (.int _) (.cons (.int _) .nil)))) .nil)),fun H' s' r'=>k nor h6 h4 t2 H' s' ?_⟩
        rw [List.length_map,rl,xl] at r'
        exact r'
    · rintro σZ HZ ⟨o3,o5,t,D,rfl,sZ,rD,kf⟩
      refine ⟨(by show 0≤sizeLine;decide),fun e1 h1=>⟨(by show 2≤sizeLine;decide),fun e2 h2=>⟨_,rfl,(by show 2≤sizeLine;decide),fun e3 h3=>?_⟩⟩⟩
      have s1:=(Same.new (o:=.lst []) h1).trans (Same.new (o:=.tup [V.str "changed",V.ref e1]) h2)
      have s3:=s1.trans (Same.new (o:=.lst [V.ref e2,V.ref t]) h3)
      have g3 : upd (upd (upd HZ e1 (.lst [])) e2 (.tup [V.str "changed",V.ref e1])) e3 (.lst [V.ref e2,V.ref t]) e3 = some (.lst [V.ref e2,V.ref t]):=upd_same
      generalize upd (upd (upd HZ e1 (.lst [])) e2 (.tup [V.str "changed",V.ref e1])) e3 (.lst [V.ref e2,V.ref t]) = H3 at s3 g3 ⊢
      refine ⟨_,rfl,_,rfl,(by show 2≤sizeLine;decide),fun l4 h4=>⟨_,rfl,?_⟩⟩
      have s4:=Same.new (o:=.lst [v1,v2]) h4
      have sF:=sZ.trans (s3.trans s4)
      refine .tr (d:=.list [webD fs (es.map (nmP fs)),webD ss ms]) (.lst upd_same (.cons (W1.rep.same sF) (.cons (W2.rep.same sF) .nil))) S.sb S.hd S.dp S.ln ?_
      rw [← ekt]
      refine ⟨_,rfl,.sc rfl ⟨_,rfl,.bl ?_⟩⟩
      have e1 : (if false = true then !decide (V.str kt = V.str kt) else decide (V.str kt = V.str kt)) = true:=by simp
      rw [e1]
      exact .lst (.of (s4 _ _ g3)) rfl (kf _ sF (rD.same (s3.trans s4)))
end
end K70
namespace K70
open PySem L2
section
variable {P : Program} {w : World} {K : PySem.W.Frag} {mg : Str→Option Value} {base : Heap}
theorem insT {σ : St} {H : Hp} {vi vj u1 u2 : Nat} {c : Addr} {xs : List V} {es : List (Nat × Nat)} {j x y : Nat} {Qc : VK} (hi : σ[vi]? = some (some (.ref c))) (hj : σ[vj]? = some (some (.int (j : Int)))) (h1 : σ[u1]? = some (some (.int (x : Int)))) (h2 : σ[u2]? = some (some (.int (y : Int)))) (hc : H c = some (.lst xs)) (rp : RepAll H xs (es.map tieD)) (jl : j≤es.length) (xl : es.length≤500)
    (k : ∀ l refs H',Same H H'→H l = none→H' l = some (.lst refs)→RepAll H' refs ((es.take j++(x,y)::es.drop j).map tieD)→Qc (.ref l) H') :
    (tOp (fun x y H Q=>AddR H x y Q) (tOp (fun x y H Q=>AddR H x y Q) (tSl (fun x lo hi H Q=>SlX K H x lo hi Q) (tVar vi) tNoPart (tPart (tVar vj))) (tLst (tCons (tTup (tCons (tVar u1) (tCons (tVar u2) tNil))) tNil))) (tSl (fun x lo hi H Q=>SlX K H x lo hi Q) (tVar vi) (tPart (tVar vj)) tNoPart)) σ H Qc:=by
  have rl:=rp.len
  rw [List.length_map] at rl
  refine ⟨_,hi,_,hj,_,rfl,.lst (.of hc) fun l1 g1=>?_⟩
  rw [cutV_to xs j (by omega)]
  have s1:=Same.new (o:=.lst (xs.take j)) g1
  have e1 : upd H l1 (.lst (xs.take j)) l1 = some (.lst (xs.take j)):=upd_same
  generalize upd H l1 (.lst (xs.take j)) = H1 at s1 e1 ⊢
  refine ⟨_,h1,_,h2,(by show 2≤sizeLine;decide),fun t2 g2=>⟨(by show 1≤sizeLine;decide),fun l3 g3=>?_⟩⟩
  have s2:=Same.new (o:=.tup [V.int (x : Int),V.int (y : Int)]) g2
  have e2 : upd H1 t2 (.tup [V.int (x : Int),V.int (y : Int)]) t2 = some (.tup [V.int (x : Int),V.int (y : Int)]):=upd_same
  generalize upd H1 t2 (.tup [V.int (x : Int),V.int (y : Int)]) = H2 at s2 e2 g3 ⊢
  have s3:=Same.new (o:=.lst [V.ref t2]) g3
  have e3 : upd H2 l3 (.lst [V.ref t2]) l3 = some (.lst [V.ref t2]):=upd_same
  generalize upd H2 l3 (.lst [V.ref t2]) = H3 at s3 e3 ⊢
  have tl : (xs.take j).length = j:=by rw [List.length_take];omega
  refine .lst ((s2.trans s3) _ _ e1) e3 (Nat.le_of_lt (small1000 (by show _ + 1≤1000;omega))) fun l4 g4=>?_
  have s4:=Same.new (o:=.lst (xs.take j++[V.ref t2])) g4
  have e4 : upd H3 l4 (.lst (xs.take j++[V.ref t2])) l4 = some (.lst (xs.take j++[V.ref t2])):=upd_same
  generalize upd H3 l4 (.lst (xs.take j++[V.ref t2])) = H4 at s4 e4 ⊢
  have sA:=(s1.trans s2).trans (s3.trans s4)
  refine ⟨_,hi,_,hj,_,rfl,.lst (.of (sA _ _ hc)) fun l5 g5=>?_⟩
  rw [cutV_from]
  have s5:=Same.new (o:=.lst (xs.drop j)) g5
  have e5 : upd H4 l5 (.lst (xs.drop j)) l5 = some (.lst (xs.drop j)):=upd_same
  generalize upd H4 l5 (.lst (xs.drop j)) = H5 at s5 e5 ⊢
  refine .lst (s5 _ _ e4) e5 (by rw [List.length_append,List.length_drop];exact Nat.le_of_lt (small1000 (by show _ + 1 + _≤1000;omega))) fun l6 g6=>?_
  have s6:=Same.new (o:=.lst (xs.take j++[V.ref t2]++xs.drop j)) g6
  have e6 : upd H5 l6 (.lst (xs.take j++[V.ref t2]++xs.drop j)) l6 = some (.lst (xs.take j++[V.ref t2]++xs.drop j)):=upd_same
  generalize upd H5 l6 (.lst (xs.take j++[V.ref t2]++xs.drop j)) = H6 at s6 e6 ⊢
  have sF:=(sA.trans s5).trans s6
  refine k l6 _ _ sF (same_free (sA.trans s5) g6) e6 ?_
  have rF:=rp.same sF
  rw [List.append_assoc,List.map_append,List.map_cons,List.map_take,List.map_drop]
  exact RepAll.append (rF.take j) (.cons (tie_rep (((s3.trans s4).trans (s5.trans s6)) _ _ e2)) (rF.drop j))
theorem rAt {es : List (Nat × Nat)} {a b : Nat} : MG.RingAt es (a,b) ↔ MG.Rch (MG.Arr es) b a:=MG.rch_to.symm
theorem ins_mem {α : Type} {l : List α} {j : Nat} {x y : α} : y∈l.take j++x::l.drop j ↔ y = x∨y∈l:=by
  rw [(ins_perm l j x).mem_iff,List.mem_cons]
theorem ring_round {es : List (Nat × Nat)} {n at_ : Nat} (h0 : 0 < n) (h : ∀ k,k < n→((k + at_) % n,(k + 1 + at_) % n)∈es) : MG.RingAt es (at_ % n,(1 + at_) % n):=by
  refine rAt.mpr ?_
  have key : ∀ j,j < n→MG.Rch (MG.Arr es) ((1 + at_) % n) ((j + 1 + at_) % n):=by
    intro j
    induction j with
    | zero=>intro _;rw [Nat.zero_add];exact MG.Rch.refl
    | succ j ih=>exact fun hj=>(ih (by omega)).step (h (j + 1) hj)
  have z:=key (n - 1) (by omega)
  rw [show n - 1 + 1 + at_ = at_ + n by omega,Nat.add_mod_right] at z
  exact z
theorem mod_inj {n a i j : Nat} (hi : i < n) (hj : j < n) (h : (i + a) % n = (j + a) % n) : i = j:=by
  have z : ∀ i j : Nat,i≤j→j < n→(i + a) % n = (j + a) % n→i = j:=fun i j hij hj h=>by
    have e : (j + a) = (i + a) + (j - i):=by omega
    rw [e,Nat.add_mod (i + a) (j - i) n,Nat.mod_eq_of_lt (show j - i < n by omega)] at h
    have h1:=Nat.mod_lt (i + a) (show 0 < n by omega)
    generalize (i + a) % n = m at h h1
    by_cases q : m + (j - i) < n
    · rw [Nat.mod_eq_of_lt q] at h;omega
    · rw [Nat.mod_eq_sub_mod (by omega),Nat.mod_eq_of_lt (by omega)] at h;omega
  rcases Nat.le_total i j with q | q
  · exact z i j q hj h
  · exact (z j i q hi h.symm).symm
def rnd (n a i : Nat) : List (Nat × Nat):=(List.range i).map fun k=>((k + a) % n,(k + 1 + a) % n)
theorem rnd_nd {n a : Nat} : (rnd n a n).Nodup:=by
  refine nodup_on (fun x hx y hy h=>?_) List.nodup_range
  exact mod_inj (List.mem_range.mp hx) (List.mem_range.mp hy) (Prod.mk.inj h).1
theorem rnd_val {n a i : Nat} (h : 0 < n) : ∀ e∈rnd n a i,e.1 < n∧e.2 < n:=fun e he=>by
  obtain ⟨k,_,rfl⟩:=List.mem_map.mp he
  exact ⟨Nat.mod_lt _ h,Nat.mod_lt _ h⟩
def spWithR (K : PySem.W.Frag) : Sp:=fun vs H Q _=>∃ (p a n : Addr) (ss : List Str),vs = [.ref p,.ref n]∧Pen K H p a∧H n = some (.lst (List.map V.str ss))∧n≠p∧0 < ss.length∧ss.length≤12 ∧
  ∀ l refs es H',H' l = some (.lst refs)→RepAll H' refs (es.map tieD)→(∀ e∈es,e.1 < ss.length∧e.2 < ss.length)→es.length≤40→es.Nodup→(∃ e∈es,MG.RingAt es e)→l≠p→PenV H' p a→But p H H'→Q (.ref l) H'
theorem scWithR : FnScope ["_law_pen","_law_names_here","_law_size","_law_ties_here","_law_at","_law_kind","_law_one","_law_other","_law_some"] ["_law_pen","_law_names_here"] (defScope sLawWithRing):=⟨rfl,rfl,rfl,by decide +kernel,rfl,by decide +kernel,by decide +kernel⟩
theorem ok_withR {f : Addr} {fd : FuncData} (F : Fun K "_law_with_ring" "_law_with_ring" sLawWithRing f fd) (B : Blt mg) (c_law_take : Cal P w K mg base 1 "_law_take" ["_law_pen", "_law_many"] (spDraw K)) (c_law_ties : Cal P w K mg base 2 "_law_ties" ["_law_pen", "_law_size", "_law_count", "_law_kind"] (spTies K)) : FnOk P w K mg base CX0 3 f fd ["_law_pen", "_law_names_here"] (spWithR K) := by
  refine F.ok scWithR (fun vs H Q E h=>?_) (fun cdv A outer s H vs Q E hr h=>?_)
  · obtain ⟨p,a,n,ss,rfl,_⟩:=h
    rfl
  · obtain ⟨p, a, n, ss, rfl, hP, hn, nnp, h0, h12, k⟩ := h
    have nd:=scWithR.nd
    have hln : (List.map V.str ss).length = ss.length:=List.length_map ..
    refine ⟨_,(pss_cons (ps_set (i:=2) nd rfl (Or.inr rfl) (b_len K B (p1 (pv 1))))
      (pss_cons (ps_set (i:=3) nd rfl (Or.inr rfl) (pc c_law_ties hr (pa_cons (pv 0) (pa_cons (pv 2) (p2 (pc c_law_take hr (p2 (pv 0) (pe_op op_addX (pe_op op_mul pe_int (pv 2)) pe_int))) pe_int)))))
      (pss_cons (ps_set (i:=4) nd rfl (Or.inr rfl) (pc c_law_take hr (p2 (pv 0) (pe_op op_addX (b_len K B (p1 (pv 3))) pe_int))))
      (pss_cons (pst 5 nd (pc c_law_take hr (p2 (pv 0) pe_int)))
      (pss_cons (ps_if (PW.pt (pw_or (pt_cmpR (op_eqX hr.units) (pv 5) pe_int (nomark _)) (pw_or (pt_cmpR (op_eqX hr.units) (pv 2) pe_int (nomark _)) (pw_or1 (pt_cmpR (op_eqX hr.units) (pv 3) (pe_lst pa_nil) (nomark _)))))) (pss_cons (pst 6 nd (pc c_law_take hr (p2 (pv 0) (pv 2))))
      (pss_one (ps_ret (pe_op op_addX (pe_op op_addX (pe_slice (sl_K K) (pv 3) po_none (po_some (pv 4))) (pe_lst (p1 (pe_tup (p2 (pv 6) (pv 6)))))) (pe_slice (sl_K K) (pv 3) (po_some (pv 4)) po_none))))) pss_nil)
      (pss_cons (ps_if (pt_cmpR (op_eqX hr.units) (pv 5) pe_int (nomark _)) (pss_cons (ps_asg (px K hr (pv 3) (pc c_law_take hr (p2 (pv 0) (b_len K B (p1 (pv 3)))))) (pg_tupK (n:=2) K rfl (pgs_cons (pg_name (i:=6) nd rfl (Or.inl rfl)) (pgs_cons (pg_name (i:=7) nd rfl (Or.inl rfl)) pgs_nil))))
      (pss_one (ps_ret (pe_op op_addX (pe_op op_addX (pe_slice (sl_K K) (pv 3) po_none (po_some (pv 4))) (pe_lst (p1 (pe_tup (p2 (pv 7) (pv 6)))))) (pe_slice (sl_K K) (pv 3) (po_some (pv 4)) po_none))))) pss_nil)
      (pss_cons (ps_setC (i:=8) nd rfl rfl (by rfl) (defScope sLawWithRing) ["_law_pen","_law_names_here","_law_size","_law_ties_here","_law_at","_law_kind","_law_one","_law_other","_law_some"] ["_law_k"] [2,4] ["_law_k","_law_size","_law_at"] rfl (pi_range1 rfl B.range (p1 (pv 2))) (fun _ _ _ _ _=>(pg_name (i:=0) (show (["_law_k","_law_size","_law_at"] : List Str).Nodup by decide) rfl (Or.inl rfl))) (fun _ _ _ _ _=>pts_nil) (fun _ _ _ _ _=>(pe_tup (p2 (pe_op op_mod (pe_op op_addX (pv 0) (pv 2)) (pv 1)) (pe_op op_mod (pe_op op_addX (pe_op op_addX (pv 0) pe_int) (pv 2)) (pv 1))))))
      (pss_one (ps_ret (pe_op op_addX (pv 3) (pe_comp (defScope sLawWithRing) ["_law_pen","_law_names_here","_law_size","_law_ties_here","_law_at","_law_kind","_law_one","_law_other","_law_some"] ["_law_pair"] [3] ["_law_pair","_law_ties_here"] rfl (pi_listK K (pv 8)) (fun _ _ _ _ _=>(pg_name (i:=0) (show (["_law_pair","_law_ties_here"] : List Str).Nodup by decide) rfl (Or.inl rfl))) (fun _ _ _ _ _=>(pts_one (pt_cmpR (op_notInX K hr.units) (pv 0) (pv 1) (by with_unfolding_all rfl)))) (fun _ _ _ _ _=>(pv 0))))))))))))),?_⟩
    refine ⟨_,rfl,_,_,rfl,Or.inl ⟨_,.of hn,rfl⟩,?_⟩
    rw [hln]
    refine ⟨_,rfl,_,rfl,_,rfl,_,rfl,_,_,rfl,rfl,.inl ⟨by decide,by decide⟩,.int ⟨p,a,_,rfl,hP,by omega,by omega,fun r1 H1 h10 h11 v1 e1=>?_⟩⟩
    obtain ⟨c,rfl⟩:=Int.eq_ofNat_of_zero_le h10
    have b1:=But.of_eq e1
    refine ⟨p,a,ss.length,c,1,rfl,hP.but b1 v1,.inl h0,by omega,by omega,.inr rfl,fun t refs es H2 ht rp val hlen hnd hfw ntp v2 b2=>?_⟩
    have b2:=b1.trans b2
    have rl:=rp.len
    rw [List.length_map] at rl
    refine ⟨_,rfl,_,rfl,_,_,rfl,Or.inl ⟨_,.of ht,rfl⟩,.int ⟨p,a,_,rfl,hP.but b2 v2,by omega,by omega,fun r3 H3 h30 h31 v3 e3=>?_⟩⟩
    obtain ⟨ja,rfl⟩:=Int.eq_ofNat_of_zero_le h30
    have hja : ja≤es.length:=by omega
    have b3:=b2.trans (But.of_eq e3)
    refine ⟨_,rfl,p,a,3,rfl,hP.but b3 v3,by decide,by decide,fun r4 H4 h40 h41 v4 e4=>?_⟩
    have b4:=b3.trans (But.of_eq e4)
    have ht4 : H4 t = some (.lst refs):=by rw [e4 t ntp,e3 t ntp];exact ht
    have rp4 : RepAll H4 refs (es.map tieD):=by
      obtain ⟨_,hpv⟩:=penAt v2
      exact RepAll.tieBut hpv ((But.of_eq e3).trans (But.of_eq e4)) rp
    clear e3 e4 rp ht
    have fin : ∀ (x y : Nat) (H5 : Hp),x < ss.length→y < ss.length→(x,y)∉es→MG.RingAt (es.take ja++(x,y)::es.drop ja) (x,y)→PenV H5 p a→But p H H5→∀ l refs2 H',Same H5 H'→H5 l = none→H' l = some (.lst refs2)→RepAll H' refs2 ((es.take ja++(x,y)::es.drop ja).map tieD)→Q (.ref l) H':=fun x y H5 hx hy hn hR v5 b5 l refs2 H' s' hl0 hl r'=>by
      refine k l refs2 _ H' hl r' (fun e he=>?_) ?_ ?_ ⟨_,ins_mem.mpr (.inl rfl),hR⟩ (fun z=>?_) (penSame s' v5) (b5.trans (But.of_same s'))
      · rcases ins_mem.mp he with rfl | he
        · exact ⟨hx,hy⟩
        · exact val e he
      · rw [(ins_perm es ja (x,y)).length_eq,List.length_cons];omega
      · exact (ins_perm es ja (x,y)).nodup_iff.mpr (List.nodup_cons.mpr ⟨hn,hnd⟩)
      · obtain ⟨_,hp⟩:=penAt v5
        rw [z,hp] at hl0;cases hl0
    obtain ⟨rk,hrk⟩:=hfw rfl
    apply with_rest (J:=fun σZ HZ=>σZ = [some (.ref p),some (.ref n),some (.int (ss.length : Int)),some (.ref t),some (.int (ja : Int)),some (.int r4),none,none,none]∧Same H4 HZ)
    · intro rest
      refine ⟨_,rfl,.sc rfl ⟨_,rfl,ite2 (fun _=>?_) (fun _=>?_)⟩⟩
      · show (if true = true then _ else _)
        rw [if_pos rfl]
        exact rest _ _ ⟨rfl,Same.refl _⟩
      refine ⟨_,rfl,.sc rfl ⟨_,rfl,ite2 (fun _=>?_) (fun _=>?_)⟩⟩
      · show (if true = true then _ else _)
        rw [if_pos rfl]
        exact rest _ _ ⟨rfl,Same.refl _⟩
      refine ⟨_,rfl,(by show 0≤sizeLine;decide),fun le hle=>?_⟩
      have se:=Same.new (o:=.lst []) hle
      refine .tr (.lst (se _ _ ht4) (rp4.same se)) (.lst upd_same .nil) (shp_ties es) (by rfl) ⟨_,rfl,?_⟩
      generalize upd H4 le (.lst []) = H5 at se ⊢
      have b5:=b4.trans (But.of_same se)
      have v5:=penSame se v4
      have ht5:=se _ _ ht4
      have rp5:=rp4.same se
      refine ite2 (fun _=>rest _ _ ⟨rfl,se⟩) (fun hne=>?_)
      have hpos : 0 < es.length:=by
        cases es with
        | nil=>exact absurd rfl hne
        | cons e es=>simp
      refine ⟨_,rfl,.sc rfl ⟨_,rfl,ite2 (fun _=>?_) (fun _=>?_)⟩⟩
      · refine ⟨_,rfl,_,rfl,_,rfl,_,_,rfl,Or.inl ⟨_,.of ht5,rfl⟩,p,a,_,rfl,hP.but b5 v5,by omega,by omega,fun r6 H6 h60 h61 v6 e6=>?_⟩
        obtain ⟨j,rfl⟩:=Int.eq_ofNat_of_zero_le h60
        have hj : j < refs.length:=by omega
        have ht6:=(e6 t ntp).trans ht5
        obtain ⟨_,hpv⟩:=penAt v5
        have rp6:=RepAll.tieBut hpv (But.of_eq e6) rp5
        have gj : refs[j]? = some refs[j]:=by simp [hj]
        obtain ⟨e,ta,he,hx,hta⟩:=tie_get rp6 gj
        rw [hx] at gj
        refine .lst (.of ht6) (atI_nat gj) ?_
        refine ⟨ta,_,rfl,.of hta,rfl,_,_,rfl,_,_,rfl,rfl,?_⟩
        have hem:=List.mem_of_getElem? he
        have hev:=val e hem
        refine insT (x:=e.2) (y:=e.1) rfl rfl rfl rfl ht6 rp6 hja (by omega) (fin e.2 e.1 H6 hev.2 hev.1 (fun z=>?_) (rAt.mpr ?_) v6 (b5.trans (But.of_eq e6)))
        · have h1:=hrk _ z
          have h2:=hrk _ hem
          dsimp only at h1
          omega
        · exact MG.Rch.refl.step (ins_mem.mpr (.inr hem))
      have hp0 : (0 : Int) < (ss.length : Nat):=by omega
      refine ⟨_,rfl,_,rfl,by omega,by omega,?_⟩
      refine comp_range (fun D i acc σ' H'=>∃ o,σ' = [o,some (.int (ss.length : Int)),some (.int (ja : Int))]∧RepAll H' acc ((rnd ss.length ja i).map tieD)∧Same H5 H'∧H5 D = none) fun D hD=>⟨⟨none,rfl,.nil,Same.new hD,hD⟩,?_,?_⟩
      · rintro i acc σ' H' hi ⟨o,rfl,rpa,sm,hD0⟩ hacc
        have al:=rpa.len
        rw [List.length_map] at al
        have al : acc.length = i:=by rw [al];unfold rnd;rw [List.length_map,List.length_range]
        refine gYes ?_
        refine ⟨_,rfl,_,rfl,.int ⟨_,rfl,_,_,rfl,rfl,hp0,_,rfl,.int ⟨_,rfl,.int ⟨_,rfl,_,_,rfl,rfl,hp0,(by show 2≤sizeLine;decide),fun q hq=>?_⟩⟩⟩⟩
        have e1 : ((0 + (i : Nat) : Int) + (ja : Int)) % (ss.length : Int) = (((i + ja) % ss.length : Nat) : Int):=by rw [Int.zero_add,← Int.natCast_add,Int.natCast_emod]
        have e2 : ((0 + (i : Nat) : Int) + 1 + (ja : Int)) % (ss.length : Int) = (((i + 1 + ja) % ss.length : Nat) : Int):=by rw [Int.zero_add,Int.natCast_emod];rfl
        dsimp only
        rw [e1,e2]
        have sq:=Same.new (o:=.tup [V.int (((i + ja) % ss.length : Nat) : Int),V.int (((i + 1 + ja) % ss.length : Nat) : Int)]) hq
        have hDq : D≠q:=ne_of_none hacc hq
        refine ⟨sq _ _ hacc,small1000 (by omega),_,rfl,?_,?_,hD0⟩
        · unfold rnd
          rw [List.range_succ,List.map_append,List.map_append]
          refine RepAll.append (RepAll.tieBut (p:=D) (sq _ _ hacc) But.upd (rpa.same sq)) (.cons (tie_rep ?_) .nil)
          rw [upd_ne (Ne.symm hDq)];exact upd_same
        · intro b o hb
          rw [upd_ne (ne_of_none hb hD0)]
          exact sq _ _ (sm _ _ hb)
      · rintro acc σ' H6 ⟨o, rfl, rpa, s6, hD0⟩ hacc
        rw [Int.toNat_natCast] at rpa
        have ht6:=s6 _ _ ht5
        have rp6:=rp5.same s6
        have al:=rpa.len
        rw [List.length_map] at al
        have al2 : (rnd ss.length ja ss.length).length = ss.length:=by unfold rnd;rw [List.length_map,List.length_range]
        refine ⟨_,rfl,_,rfl,D,rfl,⟨_,.of hacc⟩,?_⟩
        refine comp_list acc (fun D2 i acc2 σ' H'=>∃ o,σ' = [o,some (.ref t)]∧RepAll H' acc2 ((((rnd ss.length ja ss.length).take i).filter fun e=>decide (e∉es)).map tieD)∧Same H6 H'∧H6 D2 = none) fun D2 hD2=>⟨⟨none,rfl,.nil,Same.new hD2,hD2⟩,?_,?_,?_⟩
        · rintro i acc2 σ' H' _ ⟨o,rfl,_,sm,_⟩ _
          exact .of (sm _ _ hacc)
        · rintro i acc2 σ' H' x hx ⟨o, rfl, rpb, sm, hD20⟩ hacc2
          obtain ⟨e,ta,he,rfl,hta⟩:=tie_get (rpa.same sm) hx
          have hil:=(List.getElem?_eq_some_iff.mp he).1
          refine ⟨_,rfl,_,rfl,.tr (sm _ _ ht6) (rp6.same sm) (tie_rep (i:=e.1) (j:=e.2) hta) (canLay_ties es) rfl (by show 1≤16;decide) ⟨_,rfl,?_⟩⟩
          rw [any_tie]
          refine ite2 (fun h1=>?_) (fun h1=>?_)
          · have h1 : e∉es:=by simpa using h1
            refine ⟨_,rfl,hacc2,?_,_,rfl,?_,same_at sm hD20,hD20⟩
            · have bl:=rpb.len
              rw [List.length_map] at bl
              have h2:=List.length_filter_le (fun e : Nat × Nat=>decide (e∉es)) ((rnd ss.length ja ss.length).take i)
              rw [List.length_take] at h2
              exact small1000 (by omega)
            · rw [List.take_add_one,he,List.filter_append,List.map_append]
              refine RepAll.append (RepAll.tieBut hacc2 But.upd rpb) ?_
              rw [show ((some e).toList.filter fun e=>decide (e∉es)) = [e] by simp [h1]]
              exact .cons (tie_rep (by rw [upd_ne (ne_of hta hacc2 (by intro z;cases z))];exact hta)) .nil
          · have h1 : e∈es:=by simpa using h1
            refine ⟨hacc2,_,rfl,?_,sm,hD20⟩
            rw [List.take_add_one,he,List.filter_append,show ((some e).toList.filter fun e=>decide (e∉es)) = [] by simp [h1],List.append_nil]
            exact rpb
        · rintro acc2 σ' H7 ⟨o,rfl,rpb,s7,hD20⟩ hacc2
          rw [al,List.take_of_length_le (Nat.le_refl _)] at rpb
          have bl:=rpb.len
          rw [List.length_map] at bl
          have fl:=List.length_filter_le (fun e : Nat × Nat=>decide (e∉es)) (rnd ss.length ja ss.length)
          refine .lst (s7 _ _ ht6) hacc2 (Nat.le_of_lt (small1000 (by omega))) fun l hl=>?_
          have s8:=Same.new (o:=.lst (refs++acc2)) hl
          have sF:=(s6.trans s7).trans s8
          refine k l _ (es++(rnd ss.length ja ss.length).filter fun e=>decide (e∉es)) _ upd_same ?_ (fun e he=>?_) ?_ ?_ ⟨_,?_,ring_round (at_:=ja) h0 fun i hi=>?_⟩ (fun z=>?_) (penSame sF v5) (b5.trans (But.of_same sF))
          · rw [List.map_append]
            exact RepAll.append (rp5.same sF) (rpb.same s8)
          · rcases List.mem_append.mp he with he | he
            · exact val e he
            · exact rnd_val h0 e (List.mem_filter.mp he).1
          · rw [List.length_append];omega
          · rw [List.nodup_append]
            refine ⟨hnd,rnd_nd.filter _,fun x hx y hy e=>?_⟩
            subst e
            exact of_decide_eq_true (List.mem_filter.mp hy).2 hx
          · have m0 : (ja % ss.length,(1 + ja) % ss.length)∈rnd ss.length ja ss.length:=List.mem_map.mpr ⟨0,List.mem_range.mpr h0,by rw [Nat.zero_add,Nat.zero_add]⟩
            rw [List.mem_append,List.mem_filter]
            by_cases q : (ja % ss.length,(1 + ja) % ss.length)∈es
            · exact .inl q
            · exact .inr ⟨m0,decide_eq_true q⟩
          · have m0 : ((i + ja) % ss.length,(i + 1 + ja) % ss.length)∈rnd ss.length ja ss.length:=List.mem_map.mpr ⟨i,List.mem_range.mpr hi,rfl⟩
            rw [List.mem_append,List.mem_filter]
            by_cases q : ((i + ja) % ss.length,(i + 1 + ja) % ss.length)∈es
            · exact .inl q
            · exact .inr ⟨m0,decide_eq_true q⟩
          · have hp5:=penSame (s6.trans s7) v5
            exact hp5.ne hl z.symm
    · rintro σZ HZ ⟨rfl,sZ⟩
      have vZ:=penSame sZ v4
      have bZ:=b4.trans (But.of_same sZ)
      refine ⟨_,rfl,_,rfl,p,a,_,rfl,hP.but bZ vZ,by omega,by omega,fun r5 H5 h50 h51 v5 e5=>?_⟩
      obtain ⟨x,rfl⟩:=Int.eq_ofNat_of_zero_le h50
      have ht5:=(e5 t ntp).trans (sZ _ _ ht4)
      obtain ⟨_,hpv⟩:=penAt vZ
      have rp5:=RepAll.tieBut hpv (But.of_eq e5) (rp4.same sZ)
      refine insT (x:=x) (y:=x) rfl rfl rfl rfl ht5 rp5 hja (by omega) (fin x x H5 (by omega) (by omega) (fun z=>?_) ⟨0,MG.To.here⟩ v5 (bZ.trans (But.of_eq e5)))
      have:=hrk _ z
      dsimp only at this
      omega
end
end K70
namespace K70
open PySem L2
section
variable {P : Program} {w : World} {K : PySem.W.Frag} {mg : Str→Option Value} {base : Heap}
theorem cutV_mid (xs : List V) (i j : Nat) (h : j≤xs.length) : cutV xs (some (i : Int)) (some (j : Int)) = (xs.take j).drop i:=by
  unfold cutV
  rw [HT.sIx_nat,HT.sIx_nat,Nat.min_eq_left h,List.drop_take]
  by_cases q : i≤xs.length
  · rw [Nat.min_eq_left q]
  · rw [Nat.min_eq_right (by omega),List.drop_of_length_le (Nat.le_refl _),List.drop_of_length_le (by omega)];simp
theorem map_rev (xs : List Str) : (List.map V.str xs).reverse = List.map V.str xs.reverse:=List.map_reverse.symm
theorem union_len {ss : List Str} (nd : ss.Nodup) {a b m : Nat} (h1 : b ≤ a) (h2 : a ≤ m) (h3 : m ≤ ss.length) : (unionL (ss.take a) ((ss.take m).drop b).reverse).length = m := by
  unfold unionL
  rw [List.length_append,List.length_take,List.filter_reverse,List.length_reverse]
  have e : (ss.take m).drop b = ((ss.take m).drop b).take (a - b)++(ss.take m).drop a:=by
    have:=(List.take_append_drop (a - b) ((ss.take m).drop b)).symm
    rw [List.drop_drop,show b + (a - b) = a by omega] at this
    exact this
  have f1 : ((((ss.take m).drop b).take (a - b)).filter fun s=>decide (s∉ss.take a)) = []:=by
    rw [List.filter_eq_nil_iff]
    intro x hx
    have hx : x∈ss.take a:=by
      rw [← List.drop_take,List.take_take,Nat.min_eq_left h2] at hx
      exact List.mem_of_mem_drop hx
    simp [hx]
  have f2 : (((ss.take m).drop a).filter fun s=>decide (s∉ss.take a)) = (ss.take m).drop a:=by
    rw [List.filter_eq_self]
    intro x hx
    have n1 : (ss.take m).Nodup:=nd.sublist (List.take_sublist _ _)
    rw [← List.take_append_drop a (ss.take m),List.nodup_append] at n1
    have h4 : ss.take a = (ss.take m).take a:=by rw [List.take_take,Nat.min_eq_left h2]
    refine decide_eq_true fun z=>?_
    rw [h4] at z
    exact n1.2.2 x z x hx rfl
  rw [e,List.filter_append,f1,f2,List.nil_append,List.length_drop,List.length_take]
  omega
theorem pick {σ : St} {H : Hp} {L : TA} {j a b c m : Nat} {Bd : Int} {Q : VK} (hL : ∀ R : List V→Hp→Prop,R [.int (a : Int),.int (b : Int),.int (c : Int)] H→L σ H R) (hj : σ[j]? = some (some (.int (m : Int))))
    (k : ∀ t H',Same H H'→((m : Int)≤Bd→Rep H' (.ref t) (toldD a b c))→(¬ (m : Int)≤Bd→Rep H' (.ref t) webXD)→Q (.ref t) H') :
    (tOp (fun x y H Q=>IxX K H x y Q) (tLst (tCons (tTup (tCons (tC (V.str "told")) (tCons (tLst L) tNil))) (tCons (tTup (tCons (tC (V.str "web")) (tCons (tLst tNil) tNil))) tNil))) (tCB (fun xs H Q=>∃ x,xs = [x]∧IntR H x Q) (tCons (tOp (rI0 fun i j=>V.bl (decide (j < i))) (tVar j) (tC (V.int Bd))) tNil))) σ H Q:=by
  refine hL _ ⟨(by show 3≤sizeLine;decide),fun l1 g1=>⟨(by show 2≤sizeLine;decide),fun l2 g2=>⟨(by show 0≤sizeLine;decide),fun l3 g3=>⟨(by show 2≤sizeLine;decide),fun l4 g4=>⟨(by show 2≤sizeLine;decide),fun l5 g5=>?_⟩⟩⟩⟩⟩
  have s1:=Same.new (o:=.lst [V.int (a : Int),V.int (b : Int),V.int (c : Int)]) g1
  have q1 : upd H l1 (.lst [V.int (a : Int),V.int (b : Int),V.int (c : Int)]) l1 = some (.lst [V.int (a : Int),V.int (b : Int),V.int (c : Int)]):=upd_same
  generalize upd H l1 (.lst [V.int (a : Int),V.int (b : Int),V.int (c : Int)]) = H1 at s1 q1 g2 g3 g4 g5 ⊢
  have s2:=Same.new (o:=.tup [V.str "told",V.ref l1]) g2
  have q2 : upd H1 l2 (.tup [V.str "told",V.ref l1]) l2 = some (.tup [V.str "told",V.ref l1]):=upd_same
  generalize upd H1 l2 (.tup [V.str "told",V.ref l1]) = H2 at s2 q2 g3 g4 g5 ⊢
  have s3:=Same.new (o:=.lst []) g3
  have q3 : upd H2 l3 (.lst []) l3 = some (.lst []):=upd_same
  generalize upd H2 l3 (.lst []) = H3 at s3 q3 g4 g5 ⊢
  have s4:=Same.new (o:=.tup [V.str "web",V.ref l3]) g4
  have q4 : upd H3 l4 (.tup [V.str "web",V.ref l3]) l4 = some (.tup [V.str "web",V.ref l3]):=upd_same
  generalize upd H3 l4 (.tup [V.str "web",V.ref l3]) = H4 at s4 q4 g5 ⊢
  have s5:=Same.new (o:=.lst [V.ref l2,V.ref l4]) g5
  have q5 : upd H4 l5 (.lst [V.ref l2,V.ref l4]) l5 = some (.lst [V.ref l2,V.ref l4]):=upd_same
  generalize upd H4 l5 (.lst [V.ref l2,V.ref l4]) = H5 at s5 q5 ⊢
  have sF:=((s1.trans s2).trans (s3.trans s4)).trans s5
  refine ⟨_,hj,_,_,rfl,rfl,_,rfl,.bl ?_⟩
  by_cases q : (m : Int)≤Bd
  · rw [decide_eq_false (show ¬ Bd < (m : Int) by omega)]
    exact .lst (.of q5) rfl (k l2 H5 sF (fun _=>.tup (((s3.trans s4).trans s5) _ _ q2) (.cons (.str _) (.cons (.lst ((((s2.trans s3).trans s4).trans s5) _ _ q1) (.cons (.int _) (.cons (.int _) (.cons (.int _) .nil)))) .nil))) (fun z=>absurd q z))
  · rw [decide_eq_true (show Bd < (m : Int) by omega)]
    exact .lst (.of q5) rfl (k l4 H5 sF (fun z=>absurd z q) (fun _=>.tup (s5 _ _ q4) (.cons (.str _) (.cons (.lst ((s4.trans s5) _ _ q3) .nil) .nil))))
theorem shp_told (a b c : Nat) : shp (toldD a b c):=by
  show (PyData.canLay0 (.str "told") && (_ && true) && decide _) = true
  rw [show PyData.canLay0 (.str "told") = true by decide +kernel];rfl
theorem shp_webX : shp webXD:=by
  show SeqAt.shaped webXD = true
  decide +kernel
def spManyT (K : PySem.W.Frag) : Sp:=fun vs H Q _=>∃ (p a : Addr),vs = [.ref p]∧Pen K H p a∧∀ H',PenV H' p a→But p H H'→Q (.bl true) H'
theorem scManyT : FnScope ["_law_pen","_law_names_here","_law_size","_law_both","_law_many","_law_one","_law_other"] ["_law_pen"] (defScope sLawManyThings):=⟨rfl,rfl,rfl,by decide +kernel,rfl,by decide +kernel,by decide +kernel⟩
theorem ok_manyT {f : Addr} {fd : FuncData} (F : Fun K "_law_many_things" "_law_many_things" sLawManyThings f fd) (B : Blt mg) (c_law_take : Cal P w K mg base 1 "_law_take" ["_law_pen", "_law_many"] (spDraw K)) (c_law_names : Cal P w K mg base 2 "_law_names" ["_law_pen", "_law_many"] (spNames K)) (c_law_tried : Cal P w K mg base 9 "_law_tried" ["_law_one", "_law_other"] spTried) : FnOk P w K mg base CX0 10 f fd ["_law_pen"] (spManyT K) := by
  refine F.ok scManyT (fun vs H Q E h=>?_) (fun cdv A outer s H vs Q E hr h=>?_)
  · obtain ⟨p,a,rfl,_⟩:=h
    rfl
  · obtain ⟨p,a,rfl,hP,k⟩:=h
    have nd:=scManyT.nd
    refine ⟨_,(pss_cons (pst 1 nd (pc c_law_names hr (p2 (pv 0) pe_int)))
      (pss_cons (pst 2 nd (pe_op op_addX pe_int (pc c_law_take hr (p2 (pv 0) pe_int))))
      (pss_cons (pst 3 nd (pc c_law_take hr (p2 (pv 0) pe_int)))
      (pss_cons (pst 4 nd (pe_op op_addX pe_int (pc c_law_take hr (p2 (pv 0) pe_int))))
      (pss_cons (pst 5 nd (pe_tup (p2 (b_tuple K B (p1 (pe_slice (sl_K K) (pv 1) po_none (po_some (pv 2))))) (pe_tup pa_nil))))
      (pss_cons (pst 6 nd (pe_tup (p2 (b_tuple K B (p1 (pe_rev K (pe_slice (sl_K K) (pv 1) (po_some (pe_op op_sub (pv 2) (pv 3))) (po_some (pv 4))) (po_some (pe_un un_neg pe_int))))) (pe_tup pa_nil))))
      (pss_one (ps_ret (pe_cmpR (op_eqX hr.units) (pc c_law_tried hr (p2 (pv 5) (pv 6))) (px K hr (pe_lst (p2 (pe_tup (p2 pe_str (pe_lst (pa_cons (pv 4) (p2 pe_int pe_int))))) (pe_tup (p2 pe_str (pe_lst pa_nil))))) (b_int B (p1 (pe_cmpR op_gt (pv 4) pe_int (nomark _))))) (nomark _)))))))))),?_⟩
    refine ⟨_,rfl,p,a,62,rfl,hP,by decide,fun ln ss H1 sl snd snm hln nlp v1 b1=>?_⟩
    refine ⟨_,rfl,p,a,25,rfl,hP.but b1 v1,by decide,by decide,fun r2 H2 h20 h21 v2 e2=>.int ?_⟩
    obtain ⟨x,rfl⟩:=Int.eq_ofNat_of_zero_le h20
    have b2:=b1.trans (But.of_eq e2)
    rw [show (30 : Int) + (x : Nat) = ((30 + x : Nat) : Int) by omega]
    refine ⟨_,rfl,p,a,6,rfl,hP.but b2 v2,by decide,by decide,fun r3 H3 h30 h31 v3 e3=>?_⟩
    obtain ⟨y,rfl⟩:=Int.eq_ofNat_of_zero_le h30
    have b3:=b2.trans (But.of_eq e3)
    refine ⟨_,rfl,p,a,4,rfl,hP.but b3 v3,by decide,by decide,fun r4 H4 h40 h41 v4 e4=>.int ?_⟩
    obtain ⟨z,rfl⟩:=Int.eq_ofNat_of_zero_le h40
    have b4:=b3.trans (But.of_eq e4)
    rw [show (59 : Int) + (z : Nat) = ((59 + z : Nat) : Int) by omega]
    have hln4 : H4 ln = some (.lst (List.map V.str ss)):=by rw [e4 ln nlp,e3 ln nlp,e2 ln nlp];exact hln
    have hl : (List.map V.str ss).length = 62:=by rw [List.length_map];exact sl
    clear e2 e3 e4
    refine ⟨_,rfl,_,rfl,_,rfl,.lst (.of hln4) fun l1 g1=>?_⟩
    rw [cutV_to _ _ (by omega),← List.map_take]
    have s1:=Same.new (o:=.lst (List.map V.str (ss.take (30 + x)))) g1
    have q1 : upd H4 l1 (.lst (List.map V.str (ss.take (30 + x)))) l1 = some (.lst (List.map V.str (ss.take (30 + x)))):=upd_same
    generalize upd H4 l1 (.lst (List.map V.str (ss.take (30 + x)))) = H5 at s1 q1 ⊢
    refine ⟨l1,_,rfl,.of q1,fun l2 g2=>⟨(by show 0≤sizeLine;decide),fun l3 g3=>⟨(by show 2≤sizeLine;decide),fun w1 g4=>?_⟩⟩⟩
    have s2:=Same.new (o:=.tup (List.map V.str (ss.take (30 + x)))) g2
    have q2 : upd H5 l2 (.tup (List.map V.str (ss.take (30 + x)))) l2 = some (.tup (List.map V.str (ss.take (30 + x)))):=upd_same
    generalize upd H5 l2 (.tup (List.map V.str (ss.take (30 + x)))) = H6 at s2 q2 g3 g4 ⊢
    have s3:=Same.new (o:=.tup []) g3
    have q3 : upd H6 l3 (.tup []) l3 = some (.tup []):=upd_same
    generalize upd H6 l3 (.tup []) = H7 at s3 q3 g4 ⊢
    have s4:=Same.new (o:=.tup [V.ref l2,V.ref l3]) g4
    have q4 : upd H7 w1 (.tup [V.ref l2,V.ref l3]) w1 = some (.tup [V.ref l2,V.ref l3]):=upd_same
    generalize upd H7 w1 (.tup [V.ref l2,V.ref l3]) = H8 at s4 q4 ⊢
    have s48:=(s1.trans s2).trans (s3.trans s4)
    refine ⟨_,rfl,_,rfl,_,rfl,_,_,rfl,rfl,_,rfl,_,rfl,_,rfl,.lst (.of (s48 _ _ hln4)) fun l5 g5=>?_⟩
    rw [show ((30 + x : Nat) : Int) - (y : Nat) = ((30 + x - y : Nat) : Int) by omega,cutV_mid _ _ _ (by omega),← List.map_take,← List.map_drop]
    have s5:=Same.new (o:=.lst (List.map V.str ((ss.take (59 + z)).drop (30 + x - y)))) g5
    have q5 : upd H8 l5 (.lst (List.map V.str ((ss.take (59 + z)).drop (30 + x - y)))) l5 = some (.lst (List.map V.str ((ss.take (59 + z)).drop (30 + x - y)))):=upd_same
    generalize upd H8 l5 (.lst (List.map V.str ((ss.take (59 + z)).drop (30 + x - y)))) = H9 at s5 q5 ⊢
    refine ⟨_,rfl,_,rfl,l5,_,rfl,rfl,.of q5,fun l6 g6=>?_⟩
    rw [map_rev]
    have s6:=Same.new (o:=.lst (List.map V.str ((ss.take (59 + z)).drop (30 + x - y)).reverse)) g6
    have q6 : upd H9 l6 (.lst (List.map V.str ((ss.take (59 + z)).drop (30 + x - y)).reverse)) l6 = some (.lst (List.map V.str ((ss.take (59 + z)).drop (30 + x - y)).reverse)):=upd_same
    generalize upd H9 l6 (.lst (List.map V.str ((ss.take (59 + z)).drop (30 + x - y)).reverse)) = HA at s6 q6 ⊢
    refine ⟨l6,_,rfl,.of q6,fun l7 g7=>⟨(by show 0≤sizeLine;decide),fun l8 g8=>⟨(by show 2≤sizeLine;decide),fun w2 g9=>?_⟩⟩⟩
    have s7:=Same.new (o:=.tup (List.map V.str ((ss.take (59 + z)).drop (30 + x - y)).reverse)) g7
    have q7 : upd HA l7 (.tup (List.map V.str ((ss.take (59 + z)).drop (30 + x - y)).reverse)) l7 = some (.tup (List.map V.str ((ss.take (59 + z)).drop (30 + x - y)).reverse)):=upd_same
    generalize upd HA l7 (.tup (List.map V.str ((ss.take (59 + z)).drop (30 + x - y)).reverse)) = HB at s7 q7 g8 g9 ⊢
    have s8:=Same.new (o:=.tup []) g8
    have q8 : upd HB l8 (.tup []) l8 = some (.tup []):=upd_same
    generalize upd HB l8 (.tup []) = HC at s8 q8 g9 ⊢
    have s9:=Same.new (o:=.tup [V.ref l7,V.ref l8]) g9
    have q9 : upd HC w2 (.tup [V.ref l7,V.ref l8]) w2 = some (.tup [V.ref l7,V.ref l8]):=upd_same
    generalize upd HC w2 (.tup [V.ref l7,V.ref l8]) = HD at s9 q9 ⊢
    have sAD:=(s7.trans s8).trans s9
    have s8D:=(s5.trans s6).trans sAD
    have s4D:=s48.trans s8D
    have nm1 : ∀ s∈ss.take (30 + x),Nm s:=fun s hs=>snm s (List.mem_of_mem_take hs)
    have nm2 : ∀ s∈((ss.take (59 + z)).drop (30 + x - y)).reverse,Nm s:=fun s hs=>snm s (List.mem_of_mem_take (List.mem_of_mem_drop (List.mem_reverse.mp hs)))
    have nd1 : (ss.take (30 + x)).Nodup:=snd.sublist (List.take_sublist _ _)
    have nd2 : ((ss.take (59 + z)).drop (30 + x - y)).reverse.Nodup:=(List.reverse_perm _).nodup_iff.mpr ((snd.sublist (List.take_sublist _ _)).sublist (List.drop_sublist _ _))
    have ul:=union_len snd (a:=30 + x) (b:=30 + x - y) (m:=59 + z) (by omega) (by omega) (by omega)
    have len1 : (ss.take (30 + x)).length≤60:=by rw [List.length_take];omega
    have len2 : ((ss.take (59 + z)).drop (30 + x - y)).reverse.length≤60:=by rw [List.length_reverse,List.length_drop,List.length_take];omega
    have W1 : Web HD (.ref w1) (ss.take (30 + x)) (([] : List (Nat × Nat)).map (nmP (ss.take (30 + x)))):=⟨.tup (s8D _ _ q4) (.cons (.tup (((s3.trans s4).trans s8D) _ _ q2) (RepAll.of_strs _)) (.cons (.tup ((s4.trans s8D) _ _ q3) .nil) .nil)),nd1,nm1,len1,Nat.zero_le _,fun e he=>by cases he⟩
    have W2 : Web HD (.ref w2) ((ss.take (59 + z)).drop (30 + x - y)).reverse []:=⟨.tup q9 (.cons (.tup ((s8.trans s9) _ _ q7) (RepAll.of_strs _)) (.cons (.tup (s9 _ _ q8) .nil) .nil)),nd2,nm2,len2,by decide,fun e he=>by cases he⟩
    generalize ss.take (30 + x) = fs at W1 nm1 nd1 ul
    generalize ((ss.take (59 + z)).drop (30 + x - y)).reverse = us at W2 nm2 nd2 ul
    have T : Two fs us [] []:=⟨nd1,nm1,nd2,nm2,(fun e he=>by cases he),List.nodup_nil,List.nodup_nil,(fun e he=>by cases he),by omega,.inl rfl,by decide⟩
    have fin : ∀ H',Same HD H'→Q (.bl true) H':=fun H' s'=>k H' (penSame (s4D.trans s') v4) (b4.trans (But.of_same (s4D.trans s')))
    have nor0 : MG.NoR ([] : List (Nat × Nat)):=fun e he=>by cases he
    refine ⟨_,rfl,_,rfl,.ref w1,.ref w2,fs,us,[],[],rfl,W1,W2,T,fun _ h6 _ t HE sE rE=>?_,fun _ hn t HE sE rE=>?_,fun i e _ _ _ _ fr=>by have:=fr.1;simp at this⟩
    · refine pick (m:=59 + z) (a:=59 + z) (b:=0) (c:=0) (fun R hR=>⟨_,rfl,hR⟩) rfl fun t2 HF sF h1 _=>?_
      have r2:=h1 (by omega)
      rw [ul] at rE
      have rE : Rep HE (.ref t) (toldD (59 + z) 0 0):=rE
      refine .tr (rE.same sF) r2 (shp_told ..) (shp_told ..) ?_
      rw [eqv_shp (shp_told ..)]
      exact fin _ (sE.trans sF)
    · refine pick (m:=59 + z) (a:=59 + z) (b:=0) (c:=0) (fun R hR=>⟨_,rfl,hR⟩) rfl fun t2 HF sF _ h2=>?_
      have r2:=h2 (fun q=>hn ⟨by omega,Nat.zero_le _⟩)
      refine .tr (rE.same sF) r2 shp_webX shp_webX ?_
      rw [eqv_shp shp_webX]
      exact fin _ (sE.trans sF)
end
end K70
namespace K70
open PySem L2
section
variable {P : Program} {w : World} {K : PySem.W.Frag} {mg : Str→Option Value} {base : Heap}
def lexT (i : Nat) : List (Nat × Nat):=(List.range i).flatMap fun k=>(List.range (28 - k)).map fun d=>(k,k + 1 + d)
theorem lexT_succ (i : Nat) : lexT (i + 1) = lexT i++(List.range (28 - i)).map fun d=>(i,i + 1 + d):=by
  unfold lexT
  rw [List.range_succ,List.flatMap_append];simp
theorem lexT_len : (lexT 29).length = 406:=by decide +kernel
theorem lexT_mem {i : Nat} (hi : i≤29) : ∀ e∈lexT i,e.1 < e.2∧e.2 < 29:=fun e he=>by
  obtain ⟨k,hk,he⟩:=List.mem_flatMap.mp he
  obtain ⟨d,hd,rfl⟩:=List.mem_map.mp he
  have hk:=List.mem_range.mp hk
  have hd:=List.mem_range.mp hd
  dsimp only
  omega
theorem lexT_nd : (lexT 29).Nodup:=by decide +kernel
theorem lexT_hd : lexT 29 = (0,1)::(lexT 29).tail:=by decide +kernel
theorem fwd_no {es : List (Nat × Nat)} (h : ∀ e∈es,e.1 < e.2) {e : Nat × Nat} (he : e.1 < e.2) : ¬ MG.RingAt es e:=fun z=>by
  have r:=rAt.mp z
  have:=MG.Rch.closed (S:=fun y=>e.2≤y) (Nat.le_refl _) (fun y w hy r=>by have:=h _ r;dsimp only at this;omega) r
  omega
theorem foldA {es : List (Nat × Nat)} : ∀ (vs : List (Nat × Nat)) (r : List MG.Row), (∀ e ∈ vs, MG.RingAt es e) → ∃ r2, vs.foldl MG.stepP (es, r) = (es, r2) ∧ r2.length = r.length + vs.length
  | [],r,_=>⟨r,rfl,rfl⟩
  | v::vs,r,h=>by
    rw [List.foldl_cons]
    have e : MG.stepP (es,r) v = (es,r++[(v,v.1::(MG.wyOf es v).dropLast)]):=by
      unfold MG.stepP
      rw [if_pos (h v (by simp))]
    rw [e]
    obtain ⟨r2,h1,h2⟩:=foldA vs _ fun x hx=>h x (List.mem_cons_of_mem _ hx)
    exact ⟨r2,h1,by rw [h2,List.length_append,List.length_cons];simp;omega⟩
theorem foldB : ∀ (ms es : List (Nat × Nat)) (r : List MG.Row), (∀ e ∈ es, e.1 < e.2) → (∀ e ∈ ms, e.1 < e.2) → ms.foldl MG.stepP (es, r) = (es ++ ms, r)
  | [],es,r,_,_=>by rw [List.append_nil];rfl
  | m::ms,es,r,h,g=>by
    rw [List.foldl_cons]
    have hm:=g m (by simp)
    have e : MG.stepP (es,r) m = (es++[m],r):=by
      unfold MG.stepP
      rw [if_neg (fwd_no h hm)]
    rw [e,foldB ms (es++[m]) r (fun x hx=>?_) fun x hx=>g x (List.mem_cons_of_mem _ hx),List.append_assoc];rfl
    rcases List.mem_append.mp hx with hx | hx
    · exact h x hx
    · rw [List.mem_singleton.mp hx];exact hm
theorem put_two {es vs ms : List (Nat × Nat)} (h : ∀ e∈es,e.1 < e.2) (g : ∀ e∈ms,e.1 < e.2) (hv : ∀ e∈vs,(e.2,e.1)∈es) : (MG.putP es (vs++ms)).1 = es++ms∧(MG.putP es (vs++ms)).2.length = vs.length:=by
  unfold MG.putP
  rw [List.foldl_append]
  obtain ⟨r2,h1,h2⟩:=foldA (es:=es) vs [] fun e he=>rAt.mpr (MG.Rch.refl.step (hv e he))
  rw [h1,foldB ms es r2 h g]
  exact ⟨rfl,by rw [h2];simp⟩
theorem union_self (ss : List Str) : unionL ss ss = ss:=by
  unfold unionL
  rw [show (ss.filter fun s=>decide (s∉ss)) = [] from List.filter_eq_nil_iff.mpr fun x hx=>by simp [hx],List.append_nil]
theorem newL_self {ss : List Str} (nd : ss.Nodup) (nm : ∀ s∈ss,Nm s) {es ms : List (Nat × Nat)} (he : ValE ss es) (hm : ValE ss ms) : newL ss ss (es.map (nmP ss)) (ms.map (nmP ss)) = ms.filter fun e=>decide (e∉es):=by
  unfold newL
  rw [union_self,List.filter_map,List.map_map]
  have e1 : (ms.filter ((fun e=>decide (e∉es.map (nmP ss))) ∘ nmP ss)) = ms.filter fun e=>decide (e∉es):=by
    refine List.filter_congr fun x hx=>?_
    show decide (nmP ss x∉es.map (nmP ss)) = decide (x∉es)
    rw [Bool.eq_iff_iff,decide_eq_true_iff,decide_eq_true_iff]
    have z:=mem_nmP (a:=x.1) (b:=x.2) nd nm he
    exact not_congr z
  rw [e1]
  have e2 : ∀ x∈ms.filter (fun e=>decide (e∉es)),(numP ss ∘ nmP ss) x = x:=fun x hx=>num_nmP nd (hm x (List.mem_filter.mp hx).1)
  rw [List.map_congr_left e2,List.map_id'']
  exact fun x=>rfl
theorem new_part {es vs ms ys : List (Nat × Nat)} (h1 : ∀ e∈vs,e∉es) (h2 : ∀ e∈ms,e∉es) (h3 : ∀ e∈ys,e∈es) : ((vs++(ms++ys)).filter fun e=>decide (e∉es)) = vs++ms:=by
  rw [List.filter_append,List.filter_append]
  rw [List.filter_eq_self.mpr fun e he=>decide_eq_true (h1 e he),List.filter_eq_self.mpr fun e he=>decide_eq_true (h2 e he),List.filter_eq_nil_iff.mpr fun e he=>by simp [h3 e he],List.append_nil]
theorem nm_nd {ss : List Str} (nd : ss.Nodup) {es : List (Nat × Nat)} (hv : ValE ss es) (h : es.Nodup) : (es.map (nmP ss)).Nodup:=nodup_on (fun a ha b hb q=>by rw [← num_nmP nd (hv a ha),q,num_nmP nd (hv b hb)]) h
theorem first01 {es : List (Nat × Nat)} : MG.FirstR ((0,1)::(1,0)::es) 0 (0,1)∧MG.To ((0,1)::(1,0)::es) 0 1 1∧MG.Wy ((0,1)::(1,0)::es) 0 1 1 [1,0]:=by
  have m1 : ((1,0) : Nat × Nat)∈(0,1)::(1,0)::es:=by simp
  have t1 : MG.To ((0,1)::(1,0)::es) 0 1 1:=by
    obtain ⟨k,tk⟩:=(MG.rch_to (es:=(0,1)::(1,0)::es) (a:=1) (goal:=0)).mp (MG.Rch.refl.step m1)
    have h1:=MG.To.step m1 MG.To.here tk
    have h2 : k≠0:=fun z=>by subst z;exact absurd (MG.To.zero tk) (by decide)
    have : k = 1:=by omega
    rw [this] at tk;exact tk
  exact ⟨⟨rfl,⟨1,t1⟩,fun j hj=>absurd hj (Nat.not_lt_zero _)⟩,t1,0,[0],rfl,⟨m1,MG.To.here,fun c _ _=>Nat.zero_le c⟩,rfl,rfl⟩
end
end K70
namespace K70
open PySem L2
section
variable {P : Program} {w : World} {K : PySem.W.Frag} {mg : Str→Option Value} {base : Heap}
theorem comp_rngL {k : Nat} {fr : List Nat} {g : TG} {tc : TT} {te : TE} {σ : St} {H1 : Hp} {Q : VK} {n : Nat} {lo : Int} (Pv : Addr → Nat → List V → St → Hp → Prop)
    (h : ∀ D,H1 D = none→Pv D 0 [] (inSt k fr σ) (upd H1 D (.lst [])) ∧
      (∀ i acc σ' H',i < n→Pv D i acc σ' H'→H' D = some (.lst acc)→g (.int (lo + (i : Nat))) σ' H' fun σ2 H3=>tc σ2 H3 fun b H4 =>
        if b = true then te σ2 H4 fun y H5=>H5 D = some (.lst acc)∧acc.length < sizeLine∧Pv D (i + 1) (acc++[y]) σ2 (upd H5 D (.lst (acc++[y]))) else H4 D = some (.lst acc)∧Pv D (i + 1) acc σ2 H4) ∧
      ∀ acc σ' H',Pv D n acc σ' H'→H' D = some (.lst acc)→Q (.ref D) H') : tCompW k fr g tc te (Itr lo n) σ H1 Q:=by
  have hl : ((List.range n).map fun i : Nat=>V.int (lo + (i : Nat))).length = n:=by simp
  refine comp_items ((List.range n).map fun i : Nat=>V.int (lo + (i : Nat))) (fun _=>True) (fun i H _ hi=>by rw [hl] at hi;exact hi) (fun i H x H' _ hi y=>⟨y.1,?_⟩) (fun H _=>by show n≤_;rw [hl];exact Nat.le_refl _) Pv fun D hD=>?_
  · rw [hl] at hi
    rw [y.2]
    simp [hi]
  · obtain ⟨a,b,c⟩:=h D hD
    refine ⟨a,fun _ _ _ _ _ _ _=>trivial,fun i acc σ' H' x hx p hacc=>?_,by rw [hl];exact c⟩
    have hi : i < n:=by rw [← hl];exact (List.getElem?_eq_some_iff.mp hx).1
    have e : x = V.int (lo + (i : Nat)):=by
      simp [hi] at hx
      rw [← hx]
    subst e
    exact b i acc σ' H' hi p hacc
theorem comp_nm {σ : St} {H : Hp} {Q : VK} {l n : Addr} {ss : List Str} {us : List Nat} {fr : Nat} (hl : H l = some (.lst (natV us))) (hn : H n = some (.lst (List.map V.str ss))) (hs : inSt 1 [fr] σ = [none,some (.ref n)]) (hu : ∀ x∈us,x < ss.length) (ul : us.length≤500)
    (k : ∀ D H',Same H H'→H D = none→H' D = some (.lst (List.map V.str (us.map (nmA ss))))→Q (.ref D) H') : tCompW 1 [fr] (gName 0) tYes (tOp (fun x y H Q=>IxX K H x y Q) (tVar 1) (tVar 0)) (Itl K l) σ H Q:=by
  refine comp_list (natV us) (fun D i acc σ' H'=>∃ o,σ' = [o,some (.ref n)]∧acc = List.map V.str ((us.take i).map (nmA ss))∧Same H H'∧H D = none) fun D hD=>⟨?_,?_,?_,?_⟩
  · exact ⟨none,hs,rfl,Same.new hD,hD⟩
  · rintro i acc σ' H' _ ⟨o,rfl,_,sm,_⟩ _
    exact .of (sm _ _ hl)
  · rintro i acc σ' H' x hx ⟨o,rfl,rfl,sm,hD0⟩ hacc
    obtain ⟨j,hj,rfl⟩:=nat_get hx
    have hjl:=hu j (List.mem_of_getElem? hj)
    have hil:=(List.getElem?_eq_some_iff.mp hj).1
    refine gYes ?_
    refine ⟨_,rfl,_,rfl,.lst (.of (sm _ _ hn)) (str_at hjl) ⟨hacc,?_,_,rfl,?_,same_at sm hD0,hD0⟩⟩
    · rw [List.length_map,List.length_map,List.length_take];exact small1000 (by omega)
    · rw [List.take_add_one,hj,List.map_append,List.map_append];rfl
  · rintro acc σ' H8 ⟨o,rfl,rfl,s8,hD0⟩ hacc
    rw [show (natV us).length = us.length by simp [natV],List.take_of_length_le (Nat.le_refl _)] at hacc
    exact k D H8 s8 hD0 hacc
theorem ring_sw {ns : List Str} (h : ∀ s∈ns,Nm s) (hl : ns.length≤100) : Shw (ringD ns):=by
  have s1 : Sw (.str "ring") 9000 1:=(Sw.nm (isNm_iff.mp (by decide +kernel))).mono (by decide) (by decide)
  have s2 : Sw (.list (ns.map .str)) 9000 1:=(Sw.list (n:=82) (k:=0) fun d hd=>by
    obtain ⟨s,hs,rfl⟩:=List.mem_map.mp hd
    exact Sw.nm (h s hs)).mono (by rw [List.length_map];omega) (by omega)
  exact (Sw.tuple (n:=9000) (k:=1) (ds:=[.str "ring",.list (ns.map .str)]) fun d hd=>by
    rcases List.mem_cons.mp hd with rfl | hd
    · exact s1
    · rw [List.mem_singleton.mp hd];exact s2).shw (by decide) (by rw [sizeLine_eq];show 3 + 2 * (9000 + 2)≤_;decide)
theorem scManyE : FnScope ["_law_pen","_law_names_here","_law_ties_here","_law_k","_law_size","_law_many","_law_turned","_law_more","_law_one","_law_other","_law_ring","_law_first"] ["_law_pen"] (defScope sLawManyTies):=⟨rfl,rfl,rfl,by decide +kernel,rfl,by decide +kernel,by decide +kernel⟩
theorem ok_manyE {f : Addr} {fd : FuncData} (F : Fun K "_law_many_ties" "_law_many_ties" sLawManyTies f fd) (B : Blt mg) (c_law_take : Cal P w K mg base 1 "_law_take" ["_law_pen", "_law_many"] (spDraw K)) (c_law_names : Cal P w K mg base 2 "_law_names" ["_law_pen", "_law_many"] (spNames K)) (c_law_web : Cal P w K mg base 1 "_law_web" ["_law_names_here", "_law_ties_here"] spWeb) (c_law_ring_of : Cal P w K mg base 3 "_law_ring_of" ["_law_size", "_law_ties_here"] spLRingOf) (c_law_tried : Cal P w K mg base 9 "_law_tried" ["_law_one", "_law_other"] spTried) : FnOk P w K mg base CX0 10 f fd ["_law_pen"] (spManyT K) := by
  refine F.ok scManyE (fun vs H Q E h=>?_) (fun cdv A outer s H vs Q E hr h=>?_)
  · obtain ⟨p,a,rfl,_⟩:=h
    rfl
  · obtain ⟨p, a, rfl, hP, k⟩ := h
    have nd:=scManyE.nd
    refine ⟨_,(pss_cons (ps_set (i:=1) nd rfl (Or.inr rfl) (pc c_law_names hr (p2 (pv 0) pe_int)))
      (pss_cons (ps_set (i:=2) nd rfl (Or.inr rfl) (pe_lst pa_nil))
      (pss_cons (ps_for PassesOwn.never rfl (pi_range1 rfl B.range (p1 pe_int)) (pg_name (i:=3) nd rfl (Or.inr rfl)) (pss_one (ps_expr (m_extend K (pv 2) (p1 (pe_comp (defScope sLawManyTies) ["_law_pen","_law_names_here","_law_ties_here","_law_k","_law_size","_law_many","_law_turned","_law_more","_law_one","_law_other","_law_ring","_law_first"] ["_law_j"] [3] ["_law_j","_law_k"] rfl (pi_range2 rfl B.range (p2 (pe_op op_addX (pv 3) pe_int) pe_int)) (fun _ _ _ _ _=>(pg_name (i:=0) (show (["_law_j","_law_k"] : List Str).Nodup by decide) rfl (Or.inl rfl))) (fun _ _ _ _ _=>pts_nil) (fun _ _ _ _ _=>(pe_tup (p2 (pv 1) (pv 0))))))))))
      (pss_cons (ps_set (i:=4) nd rfl (Or.inr rfl) (pe_op op_addX pe_int (pc c_law_take hr (p2 (pv 0) pe_int))))
      (pss_cons (pst 5 nd (pe_op op_addX pe_int (pc c_law_take hr (p2 (pv 0) pe_int))))
      (pss_cons (ps_set (i:=6) nd rfl (Or.inr rfl) (pe_comp (defScope sLawManyTies) ["_law_pen","_law_names_here","_law_ties_here","_law_k","_law_size","_law_many","_law_turned","_law_more","_law_one","_law_other","_law_ring","_law_first"] ["_law_k"] [2,0,4] ["_law_k","_law_ties_here","_law_pen","_law_size"] rfl (pi_range1 rfl B.range (p1 (pc c_law_take hr (p2 (pv 0) pe_int)))) (fun _ _ _ _ _=>(pg_name (i:=0) (show (["_law_k","_law_ties_here","_law_pen","_law_size"] : List Str).Nodup by decide) rfl (Or.inl rfl))) (fun _ _ _ _ _=>pts_nil) (fun _ _ _ _ _=>(pe_revT K (px K hr (pv 1) (pc c_law_take hr (p2 (pv 2) (pv 3)))) (po_some (pe_un un_neg pe_int))))))
      (pss_cons (ps_set (i:=6) nd rfl (Or.inr rfl) (pe_comp (defScope sLawManyTies) ["_law_pen","_law_names_here","_law_ties_here","_law_k","_law_size","_law_many","_law_turned","_law_more","_law_one","_law_other","_law_ring","_law_first"] ["_law_k"] [6] ["_law_k","_law_turned"] rfl (pi_range1 rfl B.range (p1 (b_len K B (p1 (pv 6))))) (fun _ _ _ _ _=>(pg_name (i:=0) (show (["_law_k","_law_turned"] : List Str).Nodup by decide) rfl (Or.inl rfl))) (fun _ _ _ _ _=>(pts_one (pt_cmpR (op_notInX K hr.units) (px K hr (pv 1) (pv 0)) (pe_slice (sl_K K) (pv 1) po_none (po_some (pv 0))) (by with_unfolding_all rfl)))) (fun _ _ _ _ _=>(px K hr (pv 1) (pv 0)))))
      (pss_cons (pst 7 nd (pe_op op_addX (pe_slice (sl_K K) (pv 2) (po_some (pv 4)) (po_some (pv 5))) (pe_slice (sl_K K) (pv 2) po_none (po_some (pc c_law_take hr (p2 (pv 0) pe_int))))))
      (pss_cons (pst 8 nd (pc c_law_web hr (p2 (pv 1) (pe_slice (sl_K K) (pv 2) po_none (po_some (pv 4))))))
      (pss_cons (pst 9 nd (pc c_law_web hr (p2 (pv 1) (pe_op op_addX (pv 6) (pv 7)))))
      (pss_cons (ps_if (pt_cmpR (op_neX hr.units) (pc c_law_tried hr (p2 (pv 8) (pv 9))) (px K hr (pe_lst (p2 (pe_tup (p2 pe_str (pe_lst (pa_cons pe_int (p2 (pv 5) (b_len K B (p1 (pv 6)))))))) (pe_tup (p2 pe_str (pe_lst pa_nil))))) (b_int B (p1 (pe_cmpR op_gt (pv 5) pe_int (nomark _))))) (nomark _)) (pss_one (ps_ret pe_bl)) pss_nil)
      (pss_cons (ps_setC (i:=10) nd rfl rfl (by rfl) (defScope sLawManyTies) ["_law_pen","_law_names_here","_law_ties_here","_law_k","_law_size","_law_many","_law_turned","_law_more","_law_one","_law_other","_law_ring","_law_first"] ["_law_k"] [1] ["_law_k","_law_names_here"] rfl (pi_listK K (pc c_law_ring_of hr (p2 pe_int (pe_op op_addX (pe_slice (sl_K K) (pv 2) po_none (po_some pe_int)) (pe_lst (p1 (pe_revT K (px K hr (pv 2) pe_int) (po_some (pe_un un_neg pe_int))))))))) (fun _ _ _ _ _=>(pg_name (i:=0) (show (["_law_k","_law_names_here"] : List Str).Nodup by decide) rfl (Or.inl rfl))) (fun _ _ _ _ _=>pts_nil) (fun _ _ _ _ _=>(px K hr (pv 1) (pv 0))))
      (pss_cons (pst 11 nd (pe_tup (p2 (px K hr (pv 8) pe_int) (pe_op op_catTB (pe_op op_catTB (pe_slice sl_tupA (px K hr (pv 8) pe_int) po_none (po_some pe_int)) (pe_tup (p1 (pe_tup (p2 (px K hr (px K hr (px K hr (pv 8) pe_int) pe_int) pe_int) (px K hr (px K hr (px K hr (pv 8) pe_int) pe_int) pe_int)))))) (pe_slice sl_tupA (px K hr (pv 8) pe_int) (po_some pe_int) po_none)))))
      (pss_one (ps_ret (pe_cmpR (op_eqX hr.units) (pc c_law_tried hr (p2 (pv 11) (pv 9))) (pe_tup (p2 pe_str (pv 10))) (nomark _))))))))))))))))),?_⟩
    refine ⟨_,rfl,p,a,29,rfl,hP,by decide,fun ln ss H1 sl snd snm hln nlp v1 b1=>?_⟩
    refine ⟨(by show 0≤sizeLine;decide),fun lt g0=>?_⟩
    have npt:=v1.ne g0
    have nln : ln≠lt:=ne_of_none hln g0
    have ht0:=b1.free (Ne.symm npt) g0
    refine ⟨_,rfl,by decide,by decide,?_⟩
    refine for_range (fun i σ H'=>∃ o3 refs,σ = [some (.ref p),some (.ref ln),some (.ref lt),o3,none,none,none,none,none,none,none,none]∧H' ln = some (.lst (List.map V.str ss))∧H' lt = some (.lst refs)∧RepAll H' refs ((lexT i).map tieD)∧PenV H' p a∧But p H H') ?_ ?_ ?_
    · exact ⟨none,[],rfl,(Same.new g0) _ _ hln,upd_same,.nil,v1.upd npt,b1.at ht0⟩
    · rintro i σ H2 hi ⟨o3, refs, rfl, hln2, hlt2, rp2, v2, b2⟩
      have hi : i < 29:=hi
      have rl:=rp2.len
      rw [List.length_map] at rl
      have ll : (lexT i).length≤406:=by
        have h1 : (lexT i).Sublist (lexT 29):=by
          unfold lexT
          rw [show List.range 29 = List.range i++(List.range 29).drop i by rw [← List.take_append_drop i (List.range 29),List.take_range,Nat.min_eq_left (by omega)];simp,List.flatMap_append]
          exact List.sublist_append_left _ _
        have:=h1.length_le
        rw [lexT_len] at this;exact this
      refine ⟨_,rfl,.inl ⟨rfl,_,.of hlt2⟩,_,rfl,.int ⟨_,_,rfl,⟨by omega,by omega,by decide,by decide⟩,?_⟩⟩
      refine comp_rngL (fun D j acc σ' H'=>∃ o,σ' = [o,some (.int (0 + (i : Nat) : Int))]∧RepAll H' acc (((List.range j).map fun d=>(i,i + 1 + d)).map tieD)∧Same H2 H'∧H2 D = none) fun D hD=>⟨⟨none,rfl,.nil,Same.new hD,hD⟩,?_,?_⟩
      · rintro j acc σ' H' hj ⟨o,rfl,rpa,sm,hD0⟩ hacc
        have al:=rpa.len
        rw [List.length_map,List.length_map,List.length_range] at al
        have hj : j < 28:=by omega
        refine gYes ?_
        refine ⟨_,rfl,_,rfl,(by show 2≤sizeLine;decide),fun q hq=>?_⟩
        rw [show (0 + (i : Nat) + 1 + (j : Nat) : Int) = ((i + 1 + j : Nat) : Int) by omega,show (0 + (i : Nat) : Int) = ((i : Nat) : Int) by omega]
        have sq:=Same.new (o:=.tup [V.int ((i : Nat) : Int),V.int ((i + 1 + j : Nat) : Int)]) hq
        have hDq : D≠q:=ne_of_none hacc hq
        refine ⟨sq _ _ hacc,small1000 (by omega),_,rfl,?_,?_,hD0⟩
        · rw [List.range_succ,List.map_append,List.map_append]
          refine RepAll.append (RepAll.tieBut (p:=D) (sq _ _ hacc) But.upd (rpa.same sq)) (.cons (tie_rep ?_) .nil)
          rw [upd_ne (Ne.symm hDq)];exact upd_same
        · intro b o hb
          rw [upd_ne (ne_of_none hb hD0)]
          exact sq _ _ (sm _ _ hb)
      · rintro acc σ' H3 ⟨o,rfl,rpa,s3,hD0⟩ hacc
        have al:=rpa.len
        rw [List.length_map,List.length_map,List.length_range] at al
        rw [show ((29 : Int) - (0 + (i : Nat) + 1)).toNat = 28 - i by omega] at rpa al
        have hlt3:=s3 _ _ hlt2
        have nD : D≠lt:=fun z=>by rw [z,hlt2] at hD0;cases hD0
        refine ⟨lt,D,_,_,rfl,rfl,hlt3,hacc,Nat.le_of_lt (small1000 (by omega)),?_⟩
        refine ⟨_,_,rfl,?_,upd_same,?_,?_,?_⟩
        · rw [upd_ne nln];exact s3 _ _ hln2
        · rw [lexT_succ,List.map_append]
          exact (RepAll.tieBut hlt3 But.upd (rp2.same s3)).append (RepAll.tieBut hlt3 But.upd rpa)
        · exact (penSame s3 v2).upd npt
        · exact (b2.trans (But.of_same s3)).at ht0
    · rintro σ H2 ⟨o3, refs, rfl, hln2, hlt2, rp2, v2, b2⟩
      have rp2 : RepAll H2 refs ((lexT 29).map tieD):=rp2
      have rl:=rp2.len
      rw [List.length_map,lexT_len] at rl
      refine ⟨_,rfl,p,a,13,rfl,hP.but b2 v2,by decide,by decide,fun r3 H3 h30 h31 v3 e3=>.int ?_⟩
      obtain ⟨x,rfl⟩:=Int.eq_ofNat_of_zero_le h30
      have b3:=b2.trans (But.of_eq e3)
      rw [show (380 : Int) + (x : Nat) = ((380 + x : Nat) : Int) by omega]
      refine ⟨_,rfl,p,a,5,rfl,hP.but b3 v3,by decide,by decide,fun r4 H4 h40 h41 v4 e4=>.int ?_⟩
      obtain ⟨z,rfl⟩:=Int.eq_ofNat_of_zero_le h40
      have b4:=b3.trans (But.of_eq e4)
      rw [show (398 : Int) + (z : Nat) = ((398 + z : Nat) : Int) by omega]
      refine ⟨_,rfl,p,a,3,rfl,hP.but b4 v4,by decide,by decide,fun r5 H5 h50 h51 v5 e5=>⟨r5,rfl,by omega,by omega,?_⟩⟩
      obtain ⟨y5,rfl⟩:=Int.eq_ofNat_of_zero_le h50
      have b5:=b4.trans (But.of_eq e5)
      have nltp : lt≠p:=Ne.symm npt
      have hln5 : H5 ln = some (.lst (List.map V.str ss)):=by rw [e5 ln nlp,e4 ln nlp,e3 ln nlp];exact hln2
      have hlt5 : H5 lt = some (.lst refs):=by rw [e5 lt nltp,e4 lt nltp,e3 lt nltp];exact hlt2
      have rp5 : RepAll H5 refs ((lexT 29).map tieD):=by
        obtain ⟨_,hpv⟩:=penAt v2
        exact RepAll.tieBut hpv (((But.of_eq e3).trans (But.of_eq e4)).trans (But.of_eq e5)) rp2
      clear e3 e4 e5 hln2 hlt2 rp2
      refine comp_range (fun D i acc σ' H'=>∃ (o : Option V) (us : List (Nat × Nat)),σ' = [o,some (.ref lt),some (.ref p),some (.int ((380 + x : Nat) : Int))]∧RepAll H' acc (us.map tieD)∧us.length = i∧(∀ e∈us,(e.2,e.1)∈(lexT 29).take (380 + x))∧H' ln = some (.lst (List.map V.str ss))∧H' lt = some (.lst refs)∧RepAll H' refs ((lexT 29).map tieD)∧PenV H' p a∧But p H H'∧H5 D = none) fun D hD=>?_
      have npD:=v5.ne hD
      have hD0:=b5.free (Ne.symm npD) hD
      have nDt : lt≠D:=ne_of_none hlt5 hD
      have nDn : ln≠D:=ne_of_none hln5 hD
      refine ⟨⟨none,[],rfl,.nil,rfl,(fun e he=>by cases he),(Same.new hD) _ _ hln5,(Same.new hD) _ _ hlt5,rp5.same (Same.new hD),v5.upd npD,b5.at hD0,hD⟩,?_,?_⟩
      · rintro i acc σ' H' hi ⟨o, us, rfl, rpa, hul, hus, hln', hlt', rp', v', b', _⟩ hacc
        have al:=rpa.len
        rw [List.length_map] at al
        refine gYes ?_
        refine ⟨_,rfl,_,rfl,_,rfl,p,a,_,rfl,hP.but b' v',by omega,by omega,fun r6 H6 h60 h61 v6 e6=>?_⟩
        obtain ⟨j,rfl⟩:=Int.eq_ofNat_of_zero_le h60
        obtain ⟨_,hpv⟩:=penAt v'
        have be:=But.of_eq e6
        have rp6:=RepAll.tieBut hpv be rp'
        have rpa6:=RepAll.tieBut hpv be rpa
        have gj : refs[j]? = some (refs[j]'(by omega)):=by simp
        obtain ⟨e,ta,he,hx,hta⟩:=tie_get rp6 gj
        rw [hx] at gj
        refine .lst (.of ((e6 lt nltp).trans hlt')) (atI_nat gj) ⟨_,rfl,_,rfl,ta,_,_,rfl,rfl,.of hta,fun q hq=>?_⟩
        have sq:=Same.new (o:=.tup [V.int ((e.2 : Nat) : Int),V.int ((e.1 : Nat) : Int)]) hq
        have npq:=v6.ne hq
        have hD6 : H6 D = some (.lst acc):=(e6 D (Ne.symm npD)).trans hacc
        have hDq : D≠q:=ne_of_none hD6 hq
        have b6:=b'.trans be
        have hq0:=b6.free (Ne.symm npq) hq
        refine ⟨sq _ _ hD6,small1000 (by omega),_,us++[(e.2,e.1)],rfl,?_,by rw [List.length_append,hul];rfl,?_,?_,?_,?_,(v6.upd npq).upd npD,(b6.at hq0).at hD0,hD⟩
        · rw [List.map_append]
          refine RepAll.append (RepAll.tieBut (p:=D) (sq _ _ hD6) But.upd (rpa6.same sq)) (.cons (tie_rep (i:=e.2) (j:=e.1) ?_) .nil)
          rw [upd_ne (Ne.symm hDq)];exact upd_same
        · intro f hf
          rcases List.mem_append.mp hf with hf | hf
          · exact hus f hf
          · rw [List.mem_singleton.mp hf]
            refine List.mem_iff_getElem?.mpr ⟨j,?_⟩
            rw [List.getElem?_take_of_lt (by omega)];exact he
        · rw [upd_ne nDn];exact sq _ _ ((e6 ln nlp).trans hln')
        · rw [upd_ne nDt];exact sq _ _ ((e6 lt nltp).trans hlt')
        · exact RepAll.tieBut (p:=D) (sq _ _ hD6) But.upd (rp6.same sq)
      · rintro acc σ' H7 ⟨o, us, rfl, rpa, hul, hus, hln7, hlt7, rp7, v7, b7, _⟩ hacc
        have al:=rpa.len
        rw [List.length_map] at al
        have hul : us.length≤2:=by omega
        refine ⟨_,rfl,_,_,rfl,Or.inl ⟨_,.of hacc,rfl⟩,_,rfl,by omega,by omega,?_⟩
        refine comp_range (fun D2 i acc2 σ' H'=>∃ (o : Option V) (vs : List (Nat × Nat)),σ' = [o,some (.ref D)]∧RepAll H' acc2 (vs.map tieD)∧vs.Nodup∧(∀ e,e∈vs ↔ e∈us.take i)∧vs.length≤i∧Same H7 H'∧H7 D2 = none) fun D2 hD2=>⟨⟨none,[],rfl,.nil,List.nodup_nil,(fun e=>by simp),Nat.le_refl _,Same.new hD2,hD2⟩,?_,?_⟩
        · rintro i acc2 σ' H' hi ⟨o, vs, rfl, rpb, vnd, vin, vl, sm, hD20⟩ hacc2
          have hi : i < acc.length:=by omega
          rw [show (0 + (i : Nat) : Int) = ((i : Nat) : Int) by omega]
          have bl:=rpb.len
          rw [List.length_map] at bl
          obtain ⟨e,ta,he,hx,hta⟩:=tie_get (rpa.same sm) (List.getElem?_eq_getElem hi)
          have hD':=sm _ _ hacc
          have at_ : atI acc (i : Int) = some (.ref ta):=atI_nat (by rw [List.getElem?_eq_getElem hi,hx])
          refine ⟨_,rfl,_,rfl,.lst (.of hD') at_ ⟨_,rfl,_,rfl,_,rfl,.lst (.of hD') fun l5 g5=>?_⟩⟩
          rw [cutV_to _ _ (by omega)]
          have s5:=Same.new (o:=.lst (acc.take i)) g5
          have rpt : RepAll (upd H' l5 (.lst (acc.take i))) (acc.take i) ((us.take i).map tieD):=by
            rw [List.map_take]
            exact ((rpa.same sm).same s5).take i
          refine .tr upd_same rpt (tie_rep (i:=e.1) (j:=e.2) (s5 _ _ hta)) (canLay_ties _) rfl (by show 1≤16;decide) ⟨_,rfl,?_⟩
          rw [any_tie]
          have sm5:=sm.trans s5
          have hacc5:=s5 _ _ hacc2
          have rpb5:=rpb.same s5
          have hta5:=s5 _ _ hta
          have hD5:=s5 _ _ hD'
          generalize upd H' l5 (.lst (acc.take i)) = HX at sm5 hacc5 rpb5 hta5 hD5 ⊢
          have tk : ∀ f,f∈us.take (i + 1) ↔ f∈us.take i∨f = e:=fun f=>by
            rw [List.take_add_one,he,List.mem_append];simp
          refine ite2 (fun h1=>?_) (fun h1=>?_)
          · have h1 : e∉us.take i:=by simpa using h1
            refine ⟨_,rfl,_,rfl,.lst (.of hD5) at_ ⟨hacc5,small1000 (by omega),_,vs++[e],rfl,?_,nodup_snoc vnd fun q=>h1 ((vin e).mp q),fun f=>?_,by rw [List.length_append];show _ + 1≤_;omega,same_at sm5 hD20,hD20⟩⟩
            · rw [List.map_append]
              refine RepAll.append (RepAll.tieBut hacc5 But.upd rpb5) (.cons (tie_rep (i:=e.1) (j:=e.2) ?_) .nil)
              rw [upd_ne (ne_of hta5 hacc5 (by intro z;cases z))];exact hta5
            · rw [tk,List.mem_append,vin,List.mem_singleton]
          · have h1 : e∈us.take i:=by simpa using h1
            refine ⟨hacc5,_,vs,rfl,rpb5,vnd,fun f=>?_,by omega,sm5,hD20⟩
            rw [tk,vin]
            exact ⟨.inl,fun q=>q.elim id fun q=>by rw [q];exact h1⟩
        · rintro acc2 σ' H8 ⟨o,vs,rfl,rpv,vnd,vin,vl,s8,hD20⟩ hacc2
          have vl : vs.length≤2:=by omega
          have vrev : ∀ e∈vs,(e.2,e.1)∈(lexT 29).take (380 + x):=fun e he=>hus e (List.mem_of_mem_take ((vin e).mp he))
          clear vin rpa
          have hln8:=s8 _ _ hln7
          have hlt8:=s8 _ _ hlt7
          have rp8:=rp7.same s8
          have v8:=penSame s8 v7
          have b8:=b7.trans (But.of_same s8)
          have npD2:=v7.ne hD2
          refine ⟨_,rfl,_,rfl,_,rfl,_,rfl,_,rfl,.lst (.of hlt8) fun l6 g6=>?_⟩
          rw [cutV_mid _ _ _ (by omega)]
          have np6:=v8.ne g6
          have s9:=Same.new (o:=.lst ((refs.take (398 + z)).drop (380 + x))) g6
          have q9 : upd H8 l6 (.lst ((refs.take (398 + z)).drop (380 + x))) l6 = some (.lst ((refs.take (398 + z)).drop (380 + x))):=upd_same
          generalize upd H8 l6 (.lst ((refs.take (398 + z)).drop (380 + x))) = H9 at s9 q9 ⊢
          have b9:=b8.trans (But.of_same s9)
          refine ⟨_,rfl,_,rfl,p,a,3,rfl,hP.but b9 (penSame s9 v8),by decide,by decide,fun r7 HA h70 h71 vA eA=>⟨_,rfl,.lst (.of ((eA lt nltp).trans (s9 _ _ hlt8))) fun l7 g7=>?_⟩⟩
          obtain ⟨y7,rfl⟩:=Int.eq_ofNat_of_zero_le h70
          rw [cutV_to _ _ (by omega)]
          have bA:=b9.trans (But.of_eq eA)
          have hlnA:=(eA ln nlp).trans (s9 _ _ hln8)
          have hltA:=(eA lt nltp).trans (s9 _ _ hlt8)
          have hD2A:=(eA D2 (Ne.symm npD2)).trans (s9 _ _ hacc2)
          have q9A:=(eA l6 (Ne.symm np6)).trans q9
          obtain ⟨_,hpv⟩:=penAt (penSame s9 v8)
          have rpA:=RepAll.tieBut hpv (But.of_eq eA) (rp8.same s9)
          have rpvA:=RepAll.tieBut hpv (But.of_eq eA) (rpv.same s9)
          clear eA q9 hpv
          have s10:=Same.new (o:=.lst (refs.take y7)) g7
          have q10 : upd HA l7 (.lst (refs.take y7)) l7 = some (.lst (refs.take y7)):=upd_same
          generalize upd HA l7 (.lst (refs.take y7)) = HB at s10 q10 ⊢
          refine .lst (s10 _ _ q9A) q10 (Nat.le_of_lt (small1000 (by rw [List.length_drop,List.length_take,List.length_take];omega))) fun l8 g8=>?_
          have s11:=Same.new (o:=.lst ((refs.take (398 + z)).drop (380 + x)++refs.take y7)) g8
          have q11 : upd HB l8 (.lst ((refs.take (398 + z)).drop (380 + x)++refs.take y7)) l8 = some (.lst ((refs.take (398 + z)).drop (380 + x)++refs.take y7)):=upd_same
          generalize upd HB l8 (.lst ((refs.take (398 + z)).drop (380 + x)++refs.take y7)) = HC at s11 q11 ⊢
          have sAC:=s10.trans s11
          refine ⟨_,rfl,_,rfl,_,rfl,_,rfl,.lst (.of (sAC _ _ hltA)) fun l9 g9=>?_⟩
          rw [cutV_to _ _ (by omega)]
          have s12:=Same.new (o:=.lst (refs.take (380 + x))) g9
          have q12 : upd HC l9 (.lst (refs.take (380 + x))) l9 = some (.lst (refs.take (380 + x))):=upd_same
          generalize upd HC l9 (.lst (refs.take (380 + x))) = HD at s12 q12 ⊢
          have sAD:=sAC.trans s12
          have lL:=lexT_len
          have lm : ∀ e∈lexT 29,e.1 < e.2∧e.2 < 29:=lexT_mem (Nat.le_refl _)
          have elen : ((lexT 29).take (380 + x)).length = 380 + x:=by rw [List.length_take];omega
          have mlen : (((lexT 29).take (398 + z)).drop (380 + x)).length = 398 + z - (380 + x):=by rw [List.length_drop,List.length_take];omega
          have ylen : ((lexT 29).take y7).length = y7:=by rw [List.length_take];omega
          have em : ∀ e∈(lexT 29).take (380 + x),e∈lexT 29:=fun e he=>List.mem_of_mem_take he
          have mm : ∀ e∈((lexT 29).take (398 + z)).drop (380 + x),e∈lexT 29:=fun e he=>List.mem_of_mem_take (List.mem_of_mem_drop he)
          have ye : ∀ e∈(lexT 29).take y7,e∈(lexT 29).take (380 + x):=fun e he=>by
            rw [show (lexT 29).take y7 = ((lexT 29).take (380 + x)).take y7 by rw [List.take_take,Nat.min_eq_left (by omega)]] at he
            exact List.mem_of_mem_take he
          have me : ∀ e∈((lexT 29).take (398 + z)).drop (380 + x),e∉(lexT 29).take (380 + x):=fun e he he2=>by
            have n1 : ((lexT 29).take (398 + z)).Nodup:=lexT_nd.sublist (List.take_sublist _ _)
            rw [← List.take_append_drop (380 + x) ((lexT 29).take (398 + z)),List.nodup_append] at n1
            refine n1.2.2 e ?_ e he rfl
            rw [List.take_take,Nat.min_eq_left (by omega)];exact he2
          have vfw : ∀ e∈vs,e.2 < e.1∧e.1 < 29:=fun e he=>lm _ (em _ (vrev e he))
          have rpE : RepAll HD (refs.take (380 + x)) (((lexT 29).take (380 + x)).map tieD):=by rw [List.map_take];exact (rpA.same sAD).take _
          have rpM : RepAll HD ((refs.take (398 + z)).drop (380 + x)++refs.take y7) ((((lexT 29).take (398 + z)).drop (380 + x)++(lexT 29).take y7).map tieD):=by
            rw [List.map_append,List.map_drop,List.map_take,List.map_take]
            exact RepAll.append (((rpA.same sAD).take _).drop _) ((rpA.same sAD).take _)
          have nde : ((lexT 29).take (380 + x)).Nodup:=lexT_nd.sublist (List.take_sublist _ _)
          have nd2 : (vs++(((lexT 29).take (398 + z)).drop (380 + x)++(lexT 29).take y7)).Nodup:=by
            rw [List.nodup_append,List.nodup_append]
            refine ⟨vnd,⟨(lexT_nd.sublist (List.take_sublist _ _)).sublist (List.drop_sublist _ _),lexT_nd.sublist (List.take_sublist _ _),fun e he f hf q=>?_⟩,fun e he f hf q=>?_⟩
            · subst q
              exact me e he (ye e hf)
            · subst q
              have h1:=vfw e he
              rcases List.mem_append.mp hf with hf | hf
              · have:=lm _ (mm e hf);omega
              · have:=lm _ (em _ (ye e hf));omega
          have val2 : ∀ e∈vs++(((lexT 29).take (398 + z)).drop (380 + x)++(lexT 29).take y7),e.1 < ss.length∧e.2 < ss.length:=fun e he=>by
            rw [sl]
            rcases List.mem_append.mp he with he | he
            · have:=vfw e he;omega
            · rcases List.mem_append.mp he with he | he
              · have:=lm _ (mm e he);omega
              · have:=lm _ (em _ (ye e he));omega
          have lex0 : (lexT 29).take (380 + x) = (0,1)::((lexT 29).take (380 + x)).tail:=by
            have h1:=lexT_hd
            generalize (lexT 29).tail = tl at h1
            rw [h1,show 380 + x = (379 + x) + 1 by omega,List.take_succ_cons];rfl
          have vmf : ∀ e∈vs,e∉(lexT 29).take (380 + x):=fun e he he2=>by
            have h1:=vfw e he
            have h2:=lm _ (em _ he2)
            omega
          have np:=new_part vmf me ye
          have pt:=put_two (es:=(lexT 29).take (380 + x)) (vs:=vs) (ms:=((lexT 29).take (398 + z)).drop (380 + x)) (fun e he=>(lm _ (em e he)).1) (fun e he=>(lm _ (mm e he)).1) vrev
          have efw : ∀ e∈(lexT 29).take (380 + x),e.1 < e.2∧e.2 < ss.length:=fun e he=>by rw [sl];exact lm _ (em e he)
          have eml : (vs++(((lexT 29).take (398 + z)).drop (380 + x)++(lexT 29).take y7)).length = vs.length + (398 + z - (380 + x) + y7):=by rw [List.length_append,List.length_append,mlen,ylen]
          have pl : ((lexT 29).take (380 + x)++((lexT 29).take (398 + z)).drop (380 + x)).length = 398 + z:=by rw [List.length_append,elen,mlen];omega
          have rpW : RepAll HD (acc2++((refs.take (398 + z)).drop (380 + x)++refs.take y7)) ((vs++(((lexT 29).take (398 + z)).drop (380 + x)++(lexT 29).take y7)).map tieD):=by
            rw [List.map_append]
            exact RepAll.append (rpvA.same sAD) rpM
          have al2:=rpvA.len
          rw [List.length_map] at al2
          have rl2 : ((refs.take (398 + z)).drop (380 + x)++refs.take y7).length≤30:=by rw [List.length_append,List.length_drop,List.length_take,List.length_take];omega
          clear lm em mm ye me vfw lL vmf vrev rpM rpvA
          generalize (lexT 29).take (380 + x) = es at rpE nde lex0 np pt efw elen pl
          generalize vs++(((lexT 29).take (398 + z)).drop (380 + x)++(lexT 29).take y7) = ms at nd2 val2 np eml rpW
          generalize (refs.take (398 + z)).drop (380 + x)++refs.take y7 = mr at rpW q11 rl2
          have valE : ValE ss es:=fun e he=>⟨by have:=efw e he;omega,(efw e he).2⟩
          have hBD : Built HD ln l9 ss es:=⟨sAD _ _ hlnA,snd,snm,by omega,⟨_,q12,rpE⟩,valE,by omega⟩
          refine ⟨ln,l9,ss,es,rfl,hBD,fun w1 HE sE rE=>?_⟩
          have W1:=web_of hBD rE
          refine ⟨_,rfl,_,rfl,_,rfl,.lst (sE _ _ (sAD _ _ hD2A)) (sE _ _ (s12 _ _ q11)) (Nat.le_of_lt (small1000 (by omega))) fun lA gA=>?_⟩
          have s13:=Same.new (o:=.lst (acc2++mr)) gA
          have q13 : upd HE lA (.lst (acc2++mr)) lA = some (.lst (acc2++mr)):=upd_same
          generalize upd HE lA (.lst (acc2++mr)) = HF at s13 q13 ⊢
          have sDF:=sE.trans s13
          have hBF : Built HF ln lA ss ms:=⟨sDF _ _ hBD.nm,snd,snm,by omega,⟨_,q13,rpW.same sDF⟩,val2,by omega⟩
          refine ⟨ln,lA,ss,ms,rfl,hBF,fun w2 HG sG rG=>?_⟩
          have W2:=web_of hBF rG
          have W1:=W1.same (s13.trans sG)
          have sAG:=(sAD.trans sDF).trans sG
          have inn2 : ∀ e∈ms.map (nmP ss),e.1∈ss∧e.2∈ss:=W2.inn
          have T : Two ss ss es (ms.map (nmP ss)):=⟨snd,snm,snd,snm,valE,nde,nm_nd snd val2 nd2,inn2,by rw [union_self];omega,.inr (by rw [union_self];omega),by rw [List.length_map];omega⟩
          apply with_rest (J:=fun σZ HZ=>σZ = [some (.ref p),some (.ref ln),some (.ref lt),o3,some (.int ((380 + x : Nat) : Int)),some (.int ((398 + z : Nat) : Int)),some (.ref D2),some (.ref l8),some (.ref w1),some (.ref w2),none,none]∧Same HG HZ)
          · intro rest
            have hD2G:=sAG _ _ hD2A
            refine ⟨_,rfl,_,rfl,.ref w1,.ref w2,ss,ss,es,_,rfl,W1,W2,T,fun nor h6 h4 t HH sH rH=>?_,fun nor hn t HH sH rH=>?_,fun i e _ _ _ _ fr=>absurd fr.2.1 (fwd_no (fun e he=>(efw e he).1) (efw e (List.mem_of_getElem? fr.1)).1)⟩
            · rw [newL_self snd snm valE val2,np,pt.1,pl] at h4 rH
              rw [union_self,sl,pt.2,← al2] at rH
              refine pick (m:=398 + z) (a:=29) (b:=398 + z) (c:=acc2.length) (fun R hR=>⟨_,rfl,_,rfl,_,_,rfl,Or.inl ⟨_,.of (sH _ _ hD2G),rfl⟩,hR⟩) rfl fun t2 HI sI h1 _=>?_
              have r2:=h1 (by omega)
              refine .tr (rH.same sI) r2 (shp_told ..) (shp_told ..) ⟨_,rfl,?_⟩
              rw [eqv_shp (shp_told ..)]
              refine ite2 (fun h=>absurd h (by decide)) (fun _=>?_)
              exact rest _ _ ⟨rfl,sH.trans sI⟩
            · rw [newL_self snd snm valE val2,np,pt.1,pl,union_self] at hn
              refine pick (m:=398 + z) (a:=29) (b:=398 + z) (c:=acc2.length) (fun R hR=>⟨_,rfl,_,rfl,_,_,rfl,Or.inl ⟨_,.of (sH _ _ hD2G),rfl⟩,hR⟩) rfl fun t2 HI sI _ h2=>?_
              have r2:=h2 (fun q=>hn ⟨by omega,by omega⟩)
              refine .tr (rH.same sI) r2 shp_webX shp_webX ⟨_,rfl,?_⟩
              rw [eqv_shp shp_webX]
              refine ite2 (fun h=>absurd h (by decide)) (fun _=>?_)
              exact rest _ _ ⟨rfl,sH.trans sI⟩
          · rintro σZ HZ ⟨rfl,sZ⟩
            have sAZ:=sAG.trans sZ
            have bZ:=bA.trans (But.of_same sAZ)
            have vZ:=penSame sAZ vA
            have hlnZ:=sAZ _ _ hlnA
            have hltZ:=sAZ _ _ hltA
            have rpZ:=rpA.same sAZ
            have W1:=W1.same sZ
            have W2:=W2.same sZ
            clear np pt
            have l0 : 0 < refs.length:=by omega
            obtain ⟨e0,ta,he,hx,hta⟩:=tie_get rpZ (List.getElem?_eq_getElem l0)
            have e01 : e0 = (0,1):=by
              rw [lexT_hd] at he;exact (Option.some.inj he).symm
            have at0 : atI refs (0 : Int) = some (.ref ta):=atI_nat (j:=0) (by rw [List.getElem?_eq_getElem l0,hx])
            refine ⟨_,rfl,_,rfl,.lst (.of hltZ) fun m1 gm1=>?_⟩
            rw [show cutV refs none (some (1 : Int)) = refs.take 1 from cutV_to refs 1 (by omega)]
            have s14:=Same.new (o:=.lst (refs.take 1)) gm1
            have q14 : upd HZ m1 (.lst (refs.take 1)) m1 = some (.lst (refs.take 1)):=upd_same
            generalize upd HZ m1 (.lst (refs.take 1)) = HJ at s14 q14 ⊢
            refine ⟨_,rfl,.lst (.of (s14 _ _ hltZ)) at0 ⟨_,rfl,_,rfl,ta,_,_,rfl,rfl,.of (s14 _ _ hta),fun m2 gm2=>⟨(by show 1≤sizeLine;decide),fun m3 gm3=>?_⟩⟩⟩
            have s15:=Same.new (o:=.tup [V.int ((e0.2 : Nat) : Int),V.int ((e0.1 : Nat) : Int)]) gm2
            have q15 : upd HJ m2 (.tup [V.int ((e0.2 : Nat) : Int),V.int ((e0.1 : Nat) : Int)]) m2 = some (.tup [V.int ((e0.2 : Nat) : Int),V.int ((e0.1 : Nat) : Int)]):=upd_same
            generalize upd HJ m2 (.tup [V.int ((e0.2 : Nat) : Int),V.int ((e0.1 : Nat) : Int)]) = HK at s15 q15 gm3 ⊢
            have s16:=Same.new (o:=.lst [V.ref m2]) gm3
            have q16 : upd HK m3 (.lst [V.ref m2]) m3 = some (.lst [V.ref m2]):=upd_same
            generalize upd HK m3 (.lst [V.ref m2]) = HL at s16 q16 ⊢
            refine .lst ((s15.trans s16) _ _ q14) q16 (Nat.le_of_lt (small1000 (by rw [List.length_take];show _ + 1≤1000;omega))) fun m4 gm4=>?_
            have s17:=Same.new (o:=.lst (refs.take 1++[V.ref m2])) gm4
            have q17 : upd HL m4 (.lst (refs.take 1++[V.ref m2])) m4 = some (.lst (refs.take 1++[V.ref m2])):=upd_same
            generalize upd HL m4 (.lst (refs.take 1++[V.ref m2])) = HM at s17 q17 ⊢
            have sJM:=(s15.trans s16).trans s17
            have sZM:=s14.trans sJM
            have r01 : RepAll HM (refs.take 1++[V.ref m2]) (([(0,1),(1,0)] : List (Nat × Nat)).map tieD):=by
              have h1:=(rpZ.same sZM).take 1
              rw [lexT_hd,List.map_cons,List.take_succ_cons,List.take_zero] at h1
              rw [e01] at q15
              exact RepAll.append h1 (.cons (tie_rep (i:=1) (j:=0) ((s16.trans s17) _ _ q15)) .nil)
            obtain ⟨f1,t1,y1⟩:=first01 (es:=[])
            refine ⟨29,m4,_,[(0,1),(1,0)],rfl,q17,r01,by decide,by decide,by decide,⟨(0,1),by simp,f1.2.1⟩,fun l5 i e kk ws HN fr to1 wy sN hl50 hl5=>?_⟩
            have ee:=fr.uniq f1
            subst ee
            have ek:=MG.Dst.uniq to1 t1
            subst ek
            have ew:=wy.uniq y1
            subst ew
            refine ⟨l5,rfl,⟨_,.of hl5⟩,?_⟩
            have sZN:=sZM.trans sN
            refine comp_nm (us:=[0,1]) hl5 (sZN _ _ hlnZ) rfl (by rw [sl];decide) (by decide) fun D3 HO sO hD30 hD3=>?_
            have sZO:=sZN.trans sO
            have W1:=W1.same sZO
            have W2:=W2.same sZO
            obtain ⟨q,c,d,xs,eq,hq,hc,hd,rpx⟩:=web_at W1.rep
            cases eq
            have xl:=rpx.len
            rw [List.length_map,List.length_map] at xl
            have x0 : 0 < xs.length:=by omega
            obtain ⟨pe,tb,hpe,hxs,htb⟩:=pair_get rpx (List.getElem?_eq_getElem x0)
            have epe : pe = nmP ss (0,1):=by
              rw [lex0,List.map_cons] at hpe;exact (Option.some.inj hpe).symm
            have at1 : atI xs (0 : Int) = some (.ref tb):=atI_nat (j:=0) (by rw [List.getElem?_eq_getElem x0,hxs])
            refine ⟨_,rfl,.tup (.of hq) rfl ⟨_,rfl,.tup (.of hq) rfl ⟨_,rfl,d,xs,rfl,hd,fun p1 HP sP hp1=>?_⟩⟩⟩
            rw [show cutV xs none (some (1 : Int)) = xs.take 1 from cutV_to xs 1 (by omega)] at hp1
            have hqP:=sP _ _ hq
            have hdP:=sP _ _ hd
            have htbP:=sP _ _ htb
            refine ⟨_,rfl,.tup (.of hqP) rfl (.tup (.of hdP) at1 (.tup (.of htbP) rfl ⟨_,rfl,.tup (.of hqP) rfl (.tup (.of hdP) at1 (.tup (.of htbP) rfl ⟨(by show 2≤sizeLine;decide),fun t5 g5=>⟨(by show 1≤sizeLine;decide),fun t6 g6=>?_⟩⟩))⟩))⟩
            have s18:=Same.new (o:=.tup [V.str pe.2,V.str pe.1]) g5
            have q18 : upd HP t5 (.tup [V.str pe.2,V.str pe.1]) t5 = some (.tup [V.str pe.2,V.str pe.1]):=upd_same
            generalize upd HP t5 (.tup [V.str pe.2,V.str pe.1]) = HQ at s18 q18 g6 ⊢
            have s19:=Same.new (o:=.tup [V.ref t5]) g6
            have q19 : upd HQ t6 (.tup [V.ref t5]) t6 = some (.tup [V.ref t5]):=upd_same
            generalize upd HQ t6 (.tup [V.ref t5]) = HR at s19 q19 ⊢
            have sPR:=s18.trans s19
            refine ⟨p1,t6,_,_,rfl,rfl,sPR _ _ hp1,q19,Nat.le_of_lt (small1000 (by rw [List.length_take];show _ + 1≤1000;omega)),fun p2 HS sS hp2=>?_⟩
            have sPS:=sPR.trans sS
            refine ⟨_,rfl,.tup (.of (sPS _ _ hqP)) rfl ⟨_,rfl,d,xs,rfl,sPS _ _ hdP,fun p3 HT sT hp3=>?_⟩⟩
            rw [show cutV xs (some (1 : Int)) none = xs.drop 1 from cutV_from xs 1] at hp3
            refine ⟨p2,p3,_,_,rfl,rfl,sT _ _ hp2,hp3,Nat.le_of_lt (small1000 (by rw [List.length_append,List.length_take,List.length_drop];show _ + 1 + _≤1000;omega)),fun p4 HU sU hp4=>⟨(by show 2≤sizeLine;decide),fun w3 g7=>?_⟩⟩
            have s20:=Same.new (o:=.tup [V.ref c,V.ref p4]) g7
            have q20 : upd HU w3 (.tup [V.ref c,V.ref p4]) w3 = some (.tup [V.ref c,V.ref p4]):=upd_same
            generalize upd HU w3 (.tup [V.ref c,V.ref p4]) = HV at s20 q20 ⊢
            have sRV:=((sS.trans sT).trans sU).trans s20
            have sPV:=sPR.trans sRV
            have sOV:=sP.trans sPV
            have sZV:=sZO.trans sOV
            have efw0:=efw
            rw [lex0] at rpx nde efw
            generalize es.tail = tl at rpx nde efw lex0
            have val4 : ValE ss ((0,1)::(1,0)::tl):=fun e he=>by
              rcases List.mem_cons.mp he with rfl | he
              · rw [sl];decide
              · rcases List.mem_cons.mp he with rfl | he
                · rw [sl];decide
                · have:=efw e (List.mem_cons_of_mem _ he);omega
            have nd4 : (((0,1) : Nat × Nat)::(1,0)::tl).Nodup:=by
              rw [List.nodup_cons] at nde
              rw [List.nodup_cons,List.nodup_cons]
              refine ⟨fun q=>?_,fun q=>?_,nde.2⟩
              · rcases List.mem_cons.mp q with q | q
                · cases q
                · exact nde.1 q
              · have:=efw _ (List.mem_cons_of_mem _ q)
                dsimp only at this
                omega
            have tll : tl.length + 1 = 380 + x:=by rw [← elen,lex0,List.length_cons]
            have R4 : RepAll HV (xs.take 1++[V.ref t5]++xs.drop 1) (((((0,1) : Nat × Nat)::(1,0)::tl).map (nmP ss)).map pairD):=by
              have rV:=rpx.same sOV
              have h1:=rV.take 1
              have h2:=rV.drop 1
              rw [List.map_cons,List.map_cons] at h1 h2
              rw [List.take_succ_cons,List.take_zero] at h1
              rw [List.drop_succ_cons,List.drop_zero] at h2
              rw [epe] at q18
              rw [List.append_assoc]
              exact RepAll.append h1 (.cons (pair_rep ((s19.trans sRV) _ _ q18)) h2)
            have W3 : Web HV (.ref w3) ss ((((0,1) : Nat × Nat)::(1,0)::tl).map (nmP ss)):=⟨.tup q20 (.cons (.tup (sOV _ _ hc) (RepAll.of_strs _)) (.cons (.tup (s20 _ _ hp4) R4) .nil)),snd,snm,by omega,by rw [List.length_map];show tl.length + 1 + 1≤401;omega,fun e he=>by
              obtain ⟨f,hf,rfl⟩:=List.mem_map.mp he
              exact ⟨mem_getD (val4 f hf).1,mem_getD (val4 f hf).2⟩⟩
            have T4 : Two ss ss ((0,1)::(1,0)::tl) (ms.map (nmP ss)):=⟨snd,snm,snd,snm,val4,nd4,T.mnd,inn2,T.len,T.lenM,by rw [List.length_map];show tl.length + 1 + 1 + _≤410;omega⟩
            obtain ⟨f1,t1,y1⟩:=first01 (es:=tl)
            refine ⟨_,rfl,_,rfl,.ref w3,.ref w2,ss,ss,(0,1)::(1,0)::tl,_,rfl,W3,W2.same sOV,T4,fun nor=>absurd f1.2.1 (nor (0,1) (by simp)),fun nor=>absurd f1.2.1 (nor (0,1) (by simp)),fun i e kk ws t HW fr to1 wy sW rW=>?_⟩
            have ee:=fr.uniq f1
            subst ee
            have ek:=MG.Dst.uniq to1 t1
            subst ek
            have ew:=wy.uniq y1
            subst ew
            have S:=ring_sw (ns:=([0,1] : List Nat).map (nmA ss)) (fun s hs=>by
              obtain ⟨j,hj,rfl⟩:=List.mem_map.mp hs
              refine snm _ (mem_getD ?_)
              rw [sl]
              have : j = 0∨j = 1:=by simpa using hj
              omega) (by show 2≤100;decide)
            refine ⟨_,rfl,(by show 2≤sizeLine;decide),fun t9 g9=>?_⟩
            have s21:=Same.new (o:=.tup [V.str "ring",V.ref D3]) g9
            have sVF:=sW.trans s21
            refine .tr (rW.same s21) (.tup upd_same (.cons (.str _) (.cons (.lst (sVF _ _ (sOV _ _ hD3)) (RepAll.of_strs _)) .nil))) S.sh S.sh ?_
            have eqq:=eqv_shp S.sh
            have sF:=sZV.trans sVF
            rw [show (PyData.eqv (ringD (((0,1).1::([1,0] : List Nat).dropLast).map (nmA ss))) (.tuple [.str "ring",.list ((([0,1] : List Nat).map (nmA ss)).map .str)])) = true from eqq]
            exact k _ (penSame sF vZ) (bZ.trans (But.of_same sF))
end
end K70
namespace K70
open PySem L2
section
variable {P : Program} {w : World} {K : PySem.W.Frag} {mg : Str→Option Value} {base : Heap}
def spLaw (K : PySem.W.Frag) : Sp:=fun vs H Q _=>∃ (a : Addr) (ns : List Int),vs = [.ref a]∧SqL K H a (ns.map V.int)∧∀ H',Q (.bl true) H'
theorem union_le {fs ss : List Str} : (unionL fs ss).length≤fs.length + ss.length:=by
  unfold unionL
  rw [List.length_append]
  have:=List.length_filter_le (fun s=>decide (s∉fs)) ss
  omega
theorem scLaw : FnScope ["_law_script","_law_pen","_law_turn","_law_names_here","_law_ties_here","_law_ring","_law_others_here","_law_other"] ["_law_script"] (defScope sLaw):=⟨rfl,rfl,rfl,by decide +kernel,rfl,by decide +kernel,by decide +kernel⟩
theorem ok_law {f : Addr} {fd : FuncData} (F : Fun K "law" "law" sLaw f fd) (B : Blt mg) (c_law_take : Cal P w K mg base 1 "_law_take" ["_law_pen", "_law_many"] (spDraw K)) (c_law_names : Cal P w K mg base 2 "_law_names" ["_law_pen", "_law_many"] (spNames K)) (c_law_ties : Cal P w K mg base 2 "_law_ties" ["_law_pen", "_law_size", "_law_count", "_law_kind"] (spTies K)) (c_law_with_ring : Cal P w K mg base 3 "_law_with_ring" ["_law_pen", "_law_names_here"] (spWithR K)) (c_law_web : Cal P w K mg base 1 "_law_web" ["_law_names_here", "_law_ties_here"] spWeb) (c_law_ring_of : Cal P w K mg base 3 "_law_ring_of" ["_law_size", "_law_ties_here"] spLRingOf) (c_law_same : Cal P w K mg base 1 "_law_same" ["_law_found", "_law_due"] spSame) (c_law_tried : Cal P w K mg base 9 "_law_tried" ["_law_one", "_law_other"] spTried) (c_law_many_ties : Cal P w K mg base 10 "_law_many_ties" ["_law_pen"] (spManyT K)) (c_law_many_things : Cal P w K mg base 10 "_law_many_things" ["_law_pen"] (spManyT K)) : FnOk P w K mg base CX0 11 f fd ["_law_script"] (spLaw K) := by
  refine F.ok scLaw (fun vs H Q E h=>?_) (fun cdv A outer s H vs Q E hr h=>?_)
  · obtain ⟨a,ns,rfl,_⟩:=h
    rfl
  · obtain ⟨a, ns, rfl, hS, k⟩ := h
    have nd:=scLaw.nd
    refine ⟨_,(pss_cons (pst 1 nd (pe_lst (pa_cons (pe_slice (sl_K K) (pv 0) po_none (po_some pe_int)) (p2 pe_int pe_int))))
      (pss_cons (ps_for PassesOwn.never rfl (pi_range1 rfl B.range (p1 pe_int)) (pg_name (i:=2) nd rfl (Or.inl rfl)) (pss_cons (ps_set (i:=3) nd rfl (Or.inr rfl) (pc c_law_names hr (p2 (pv 1) (pe_op op_addX pe_int (pc c_law_take hr (p2 (pv 1) pe_int))))))
      (pss_cons (pst 4 nd (pc c_law_with_ring hr (p2 (pv 1) (pv 3))))
      (pss_cons (ps_setC (i:=5) nd rfl rfl (by rfl) (defScope sLaw) ["_law_script","_law_pen","_law_turn","_law_names_here","_law_ties_here","_law_ring","_law_others_here","_law_other"] ["_law_k"] [3] ["_law_k","_law_names_here"] rfl (pi_listK K (pc c_law_ring_of hr (p2 (b_len K B (p1 (pv 3))) (pv 4)))) (fun _ _ _ _ _=>(pg_name (i:=0) (show (["_law_k","_law_names_here"] : List Str).Nodup by decide) rfl (Or.inl rfl))) (fun _ _ _ _ _=>pts_nil) (fun _ _ _ _ _=>(px K hr (pv 1) (pv 0))))
      (pss_cons (pst 6 nd (pc c_law_names hr (p2 (pv 1) (pc c_law_take hr (p2 (pv 1) pe_int)))))
      (pss_cons (pst 7 nd (pc c_law_web hr (p2 (pv 6) (pc c_law_ties hr (pa_cons (pv 1) (pa_cons (b_len K B (p1 (pv 6))) (p2 (pe_op op_mul (pc c_law_take hr (p2 (pv 1) pe_int)) (b_int B (p1 (pe_cmpR (op_neX hr.units) (pv 6) (pe_lst pa_nil) (nomark _))))) pe_int)))))))
      (pss_cons (ps_if (pt_not (pt_val (pc c_law_same hr (p2 (pc c_law_tried hr (p2 (pc c_law_web hr (p2 (pv 3) (pv 4))) (pv 7))) (pe_tup (p2 pe_str (pv 5))))))) (pss_one (ps_ret pe_bl)) pss_nil)
      (pss_one (ps_if (pt_cmpR (op_notInX K hr.units) (px K hr (pc c_law_tried hr (p2 (pv 7) (pc c_law_web hr (p2 (pv 3) (pv 4))))) pe_int) (pe_tup (p2 pe_str pe_str)) (by with_unfolding_all rfl)) (pss_one (ps_ret pe_bl)) pss_nil)))))))))
      (pss_cons (ps_if (PW.pt (pw_and (pt_cmpR (op_eqX hr.units) (pc c_law_take hr (p2 (pv 1) pe_int)) pe_int (nomark _)) (pw_and1 (pt_not (pt_val (pc c_law_many_ties hr (p1 (pv 1)))))))) (pss_one (ps_ret pe_bl)) pss_nil)
      (pss_one (ps_ret (pc c_law_many_things hr (p1 (pv 1)))))))),?_⟩
    obtain ⟨ns',hns⟩ : ∃ ns',cutV (ns.map V.int) none (some 63) = List.map V.int ns':=⟨_,by unfold cutV;rw [← List.map_drop,← List.map_take]⟩
    refine ⟨_,rfl,_,rfl,.lst hS fun a0 ha0=>?_⟩
    rw [hns]
    refine ⟨(by show 3≤sizeLine;decide),fun p hp=>?_⟩
    have hP : Pen K (upd (upd H a0 (.lst (List.map V.int ns'))) p (.lst [.ref a0,.int 0,.int 0])) p a0:=Pen.new (ns:=ns') (.of upd_same) hp ⟨0,0,upd_same,by decide,by decide⟩
    generalize upd (upd H a0 (.lst (List.map V.int ns'))) p (.lst [.ref a0,.int 0,.int 0]) = H2 at hP ⊢
    refine ⟨_,rfl,by decide,by decide,?_⟩
    refine for_range (fun i σ H'=>∃ o2 o3 o4 o5 o6 o7,σ = [some (.ref a),some (.ref p),o2,o3,o4,o5,o6,o7]∧PenV H' p a0∧But p H2 H') ?_ ?_ ?_
    · exact ⟨none,none,none,none,none,none,rfl,hP.2,But.refl p H2⟩
    · rintro turn σ H2' _ ⟨o2,o3,o4,o5,o6,o7,rfl,v2,b2⟩
      refine ⟨_,rfl,_,rfl,p,a0,12,rfl,hP.but b2 v2,by decide,by decide,fun r1 H1 h10 h11 v1 e1=>.int ?_⟩
      obtain ⟨x,rfl⟩:=Int.eq_ofNat_of_zero_le h10
      have b1:=b2.trans (But.of_eq e1)
      rw [show (1 : Int) + (x : Nat) = ((1 + x : Nat) : Int) by omega]
      refine ⟨p,a0,1 + x,rfl,hP.but b1 v1,by omega,fun ln ss H3 sl snd snm hln nlp v3 b3=>?_⟩
      have b3:=b1.trans b3
      refine ⟨_,rfl,_,rfl,p,a0,ln,ss,rfl,hP.but b3 v3,hln,nlp,by omega,by omega,fun lt refs es H4 hlt rp val el end_ hring nltp v4 b4=>?_⟩
      have hln4:=b4 ln _ nlp hln
      have b4:=b3.trans b4
      have hll : (List.map V.str ss).length = ss.length:=List.length_map ..
      refine ⟨_,rfl,_,_,rfl,Or.inl ⟨_,.of hln4,rfl⟩,_,rfl,?_⟩
      rw [hll]
      refine ⟨ss.length,lt,refs,es,rfl,hlt,rp,by omega,val,by omega,hring,fun lr i e kk ws H5 fr to1 wy s5 hlr0 hlr=>⟨lr,rfl,⟨_,.of hlr⟩,?_⟩⟩
      have hev:=val e (List.mem_of_getElem? fr.1)
      obtain ⟨hwl,hwn⟩:=Wy_small val hev.1 to1 wy
      have hwd : ∀ x∈e.1::ws.dropLast,x < ss.length:=fun x hx=>by
        rcases List.mem_cons.mp hx with rfl | hx
        · exact hev.1
        · exact hwn x (List.dropLast_subset _ hx)
      have hwdl : (e.1::ws.dropLast).length≤61:=by rw [List.length_cons,List.length_dropLast];omega
      refine comp_nm hlr (s5 _ _ hln4) rfl hwd (by omega) fun D H6 s6 hD0 hD=>?_
      have s46:=s5.trans s6
      have v6:=penSame s46 v4
      have b6:=b4.trans (But.of_same s46)
      refine ⟨_,rfl,_,rfl,p,a0,9,rfl,hP.but b6 v6,by decide,by decide,fun r7 H7 h70 h71 v7 e7=>?_⟩
      obtain ⟨y,rfl⟩:=Int.eq_ofNat_of_zero_le h70
      have b7:=b6.trans (But.of_eq e7)
      refine ⟨p,a0,y,rfl,hP.but b7 v7,by omega,fun lo us H8 ul und unm hlo nlop v8 b8=>?_⟩
      have b68:=(But.of_eq e7).trans b8
      have b8:=b7.trans b8
      have hul : (List.map V.str us).length = us.length:=List.length_map ..
      refine ⟨_,rfl,_,rfl,_,rfl,_,_,rfl,Or.inl ⟨_,.of hlo,rfl⟩,_,rfl,p,a0,9,rfl,hP.but b8 v8,by decide,by decide,fun r9 H9 h90 h91 v9 e9=>?_⟩
      rw [hul]
      obtain ⟨z,rfl⟩:=Int.eq_ofNat_of_zero_le h90
      have b9:=b8.trans (But.of_eq e9)
      have hlo9:=(e9 lo nlop).trans hlo
      refine ⟨_,rfl,(by show 0≤sizeLine;decide),fun le hle=>?_⟩
      have se:=Same.new (o:=.lst []) hle
      refine .tr (names_rep (se _ _ hlo9)) (.lst upd_same .nil) (shp_names unm) (by rfl) ⟨_,rfl,.bl ?_⟩
      have npe:=v9.ne hle
      have vE : PenV (upd H9 le (.lst [])) p a0:=v9.upd npe
      have bE:=b9.at (o:=.lst []) (b9.free (Ne.symm npe) hle)
      have hloE:=se _ _ hlo9
      have b6E : But p H6 (upd H9 le (.lst [])):=(b68.trans (But.of_eq e9)).trans (But.of_same se)
      generalize upd H9 le (.lst []) = HE at vE bE hloE b6E ⊢
      obtain ⟨bb,hbb,hb1,hb0⟩ : ∃ bb : Nat,(if (if true = true then !PyData.eqv (namesD us) (.list []) else PyData.eqv (namesD us) (.list [])) = true then (1 : Int) else 0) = (bb : Int)∧bb≤1∧(us = []→bb = 0):=by
        cases us with
        | nil=>exact ⟨0,rfl,by decide,fun _=>rfl⟩
        | cons u us=>exact ⟨1,rfl,by decide,fun q=>by cases q⟩
      rw [hbb]
      refine ⟨_,_,rfl,rfl,.inl ⟨by omega,by omega⟩,?_⟩
      dsimp only
      rw [← Int.natCast_mul]
      have hz : z * bb≤8:=by
        have h1 : bb = 0∨bb = 1:=by omega
        rcases h1 with rfl | rfl
        · omega
        · omega
      have h0 : 0 < us.length∨z * bb = 0:=by
        cases us with
        | nil=>exact .inr (by rw [hb0 rfl,Nat.mul_zero])
        | cons u us=>exact .inl (by simp)
      clear hbb hb0 hb1 e7 e9
      refine ⟨p,a0,us.length,z * bb,0,rfl,hP.but bE vE,h0,by omega,by omega,.inl rfl,fun lt2 refs2 es2 HA hlt2 rp2 val2 el2 nd2 _ nlt2p vA bA=>?_⟩
      have hloA:=bA lo _ nlop hloE
      have b6A:=b6E.trans bA
      have bA:=bE.trans bA
      have hlnA:=b6A ln _ nlp (s46 _ _ hln4)
      have hltA:=b6A lt _ nltp (s46 _ _ hlt)
      have npD : D≠p:=fun q=>by
        obtain ⟨_,h1⟩:=penAt (penSame s5 v4)
        rw [q,h1] at hD0;cases hD0
      have hDA:=b6A D _ npD hD
      obtain ⟨_,hp6⟩:=penAt v6
      have rpA:=RepAll.tieBut hp6 b6A (rp.same s46)
      have hB2 : Built HA lo lt2 us es2:=⟨hloA,und,unm,by omega,⟨_,hlt2,rp2⟩,val2,by omega⟩
      refine ⟨lo,lt2,us,es2,rfl,hB2,fun w2 HB sB rB=>?_⟩
      have W2:=web_of hB2 rB
      have hB1 : Built HB ln lt ss es:=⟨sB _ _ hlnA,snd,snm,by omega,⟨_,sB _ _ hltA,rpA.same sB⟩,val,by omega⟩
      have ule:=union_le (fs:=ss) (ss:=us)
      have ule2:=union_le (fs:=us) (ss:=ss)
      refine ⟨_,rfl,_,rfl,ln,lt,ss,es,rfl,hB1,fun w1 HC sC rC=>?_⟩
      have W1:=web_of hB1 rC
      have W2C:=W2.same sC
      have T1 : Two ss us es (es2.map (nmP us)):=⟨snd,snm,und,unm,val,end_,nm_nd und val2 nd2,W2.inn,by omega,.inr (by omega),by rw [List.length_map];omega⟩
      have T2 : Two us ss es2 (es.map (nmP ss)):=⟨und,unm,snd,snm,val2,nd2,nm_nd snd val end_,W1.inn,by omega,.inr (by omega),by rw [List.length_map];omega⟩
      refine ⟨_,rfl,.ref w1,.ref w2,ss,us,es,_,rfl,W1,W2C,T1,fun nor=>absurd fr.2.1 (nor e (List.mem_of_getElem? fr.1)),fun nor=>absurd fr.2.1 (nor e (List.mem_of_getElem? fr.1)),fun i2 e2 k2 ws2 t HD fr2 to2 wy2 sD rD=>?_⟩
      have ee:=fr2.uniq fr
      subst ee
      have ek:=MG.Dst.uniq to2 to1
      subst ek
      have ew:=wy2.uniq wy
      subst ew
      have S:=ring_sw (ns:=(e2.1::ws2.dropLast).map (nmA ss)) (fun s hs=>by
        obtain ⟨j,hj,rfl⟩:=List.mem_map.mp hs
        exact snm _ (mem_getD (hwd j hj))) (by rw [List.length_map];omega)
      refine ⟨_,rfl,(by show 2≤sizeLine;decide),fun t2 g2=>?_⟩
      have sT:=Same.new (o:=.tup [V.str "ring",V.ref D]) g2
      have sBT:=(sC.trans sD).trans sT
      refine ⟨_,_,_,rfl,rD.same sT,.tup upd_same (.cons (.str _) (.cons (.lst ((sB.trans sBT) _ _ hDA) (RepAll.of_strs _)) .nil)),S,⟨_,rfl,?_⟩⟩
      generalize upd HD t2 (.tup [V.str "ring",V.ref D]) = HF at sT sBT ⊢
      refine ite2 (fun h=>absurd h (by decide)) (fun _=>?_)
      have hB1F:=hB1.same sBT
      refine ⟨_,rfl,_,rfl,_,rfl,ln,lt,ss,es,rfl,hB1F,fun w3 HG sG rG=>?_⟩
      have W3:=web_of hB1F rG
      have sAG:=sB.trans (sBT.trans sG)
      have fin : ∀ H',Same HG H'→∃ o2 o3 o4 o5 o6 o7,[some (V.ref a),some (V.ref p),some (V.int (0 + (turn : Nat) : Int)),some (V.ref ln),some (V.ref lt),some (V.ref D),some (V.ref lo),some (V.ref w2)] = [some (V.ref a),some (V.ref p),o2,o3,o4,o5,o6,o7]∧PenV H' p a0∧But p H2 H':=fun H' s'=>⟨_,_,_,_,_,_,rfl,penSame (sAG.trans s') vA,bA.trans (But.of_same (sAG.trans s'))⟩
      refine ⟨.ref w2,.ref w3,us,ss,es2,_,rfl,W2.same (sBT.trans sG),W3,T2,fun nor h6 h4 t HH sH rH=>?_,fun nor hn=>?_,fun i2 e2 k2 ws2 t HH fr2 to2 wy2 sH rH=>?_⟩
      · obtain ⟨q,zs,eq,hq,r0⟩:=Rep.tupI rH
        cases eq
        obtain ⟨u,zs',rfl,ru,_⟩:=r0.consI
        cases ru
        have h0 : atI (V.str "told"::zs') (0 : Int) = some (V.str "told"):=atI_nat (j:=0) rfl
        refine .tup (.of hq) h0 ⟨(by show 2≤sizeLine;decide),fun t3 g3=>.seq (.inr (.of upd_same)) rfl rfl ⟨_,rfl,ite2 (fun h=>?_) (fun _=>fin _ (sH.trans (Same.new g3)))⟩⟩
        have e1 : inV (V.str "told") [V.str "told",V.str "ring"] = true:=by decide +kernel
        rw [e1] at h
        exact absurd h (by decide)
      · refine absurd ⟨by omega,?_⟩ hn
        have h1:=MG.put_len (es:=es2) (newL us ss (es2.map (nmP us)) (es.map (nmP ss)))
        have h2:=newL_len (fs:=us) (ss:=ss) (ts:=es2.map (nmP us)) (ms:=es.map (nmP ss))
        rw [List.length_map] at h2
        omega
      · obtain ⟨q,zs,eq,hq,r0⟩:=Rep.tupI rH
        cases eq
        obtain ⟨u,zs',rfl,ru,_⟩:=r0.consI
        cases ru
        have h0 : atI (V.str "ring"::zs') (0 : Int) = some (V.str "ring"):=atI_nat (j:=0) rfl
        refine .tup (.of hq) h0 ⟨(by show 2≤sizeLine;decide),fun t3 g3=>.seq (.inr (.of upd_same)) rfl rfl ⟨_,rfl,ite2 (fun h=>?_) (fun _=>fin _ (sH.trans (Same.new g3)))⟩⟩
        have e1 : inV (V.str "ring") [V.str "told",V.str "ring"] = true:=by decide +kernel
        rw [e1] at h
        exact absurd h (by decide)
    · rintro σ H' ⟨o2,o3,o4,o5,o6,o7,rfl,v3,b3⟩
      refine ⟨_,rfl,p,a0,3,rfl,hP.but b3 v3,by decide,by decide,fun r4 H4 h40 h41 v4 e4=>.sc rfl ⟨_,rfl,?_⟩⟩
      have b4:=b3.trans (But.of_eq e4)
      refine ite2 (fun _=>?_) (fun _=>iteF ?_)
      · refine ⟨_,rfl,p,a0,rfl,hP.but b4 v4,fun H5 v5 b5=>⟨true,rfl,?_⟩⟩
        refine ite2 (fun h=>absurd h (by decide)) (fun _=>?_)
        exact ⟨_,rfl,p,a0,rfl,hP.but (b4.trans b5) v5,fun H6 _ _=>k _⟩
      · exact ⟨_,rfl,p,a0,rfl,hP.but b4 v4,fun H6 _ _=>k _⟩
end
end K70
namespace K70
open PySem L2
section
variable {P : Program} {w : World} {K : PySem.W.Frag} {mg : Str→Option Value} {base : Heap}
theorem ar1 {us : List Value} (h : us.length = 1) : ∃ a,us = [a]:=List.length_eq_one_iff.mp h
theorem ar2 {us : List Value} (h : us.length = 2) : ∃ a1 a2,us = [a1,a2]:=by
  obtain ⟨a1,t,rfl⟩:=List.exists_cons_of_length_eq_add_one h
  obtain ⟨a2,rfl⟩:=ar1 (Nat.succ.inj h)
  exact ⟨a1,a2,rfl⟩
theorem ar3 {us : List Value} (h : us.length = 3) : ∃ a1 a2 a3,us = [a1,a2,a3]:=by
  obtain ⟨a1,t,rfl⟩:=List.exists_cons_of_length_eq_add_one h
  obtain ⟨a2,a3,rfl⟩:=ar2 (Nat.succ.inj h)
  exact ⟨a1,a2,a3,rfl⟩
theorem ar4 {us : List Value} (h : us.length = 4) : ∃ a1 a2 a3 a4,us = [a1,a2,a3,a4]:=by
  obtain ⟨a1,t,rfl⟩:=List.exists_cons_of_length_eq_add_one h
  obtain ⟨a2,a3,a4,rfl⟩:=ar3 (Nat.succ.inj h)
  exact ⟨a1,a2,a3,a4,rfl⟩
structure FH (K : PySem.W.Frag) (mg : Str→Option Value) (n : Str) (st : Stmt) (f : Addr) (fd : FuncData) : Prop where
  F : Fun K n n st f fd
  g : mg n = some (.ref f)
theorem fh_mk {K : PySem.W.Frag} {h : Heap} {mg : Str→Option Value} {n : Str} {st : Stmt} {f : Addr} {od an : Option Addr} {sl : Array (Option Value)} {oc kV dc pm cd ct : Value} (X : K.In h) (G : h.Ns mainGlobals mg) (a : PySem.W.nsIn K mainGlobals n = some (some (.ref f)))
    (l : K.lookup f = some ⟨oc,od,.func (PySem.W.fnOf n n (defArgs st) (defBody st) (defScope st) .none kV dc pm an cd ct),sl⟩) (c : PySem.W.codeIn K cd n = true) (k : PySem.W.keepIn K (.ref f) = true) :
    FH K mg n st f (PySem.W.fnOf n n (defArgs st) (defBody st) (defScope st) .none kV dc pm an cd ct):=⟨fun_mk l c k,PySem.W.mg_of X G a⟩
section
variable {K : PySem.W.Frag} {mg : Str→Option Value} {n : Str} {st : Stmt} {f : Addr} {fd : FuncData} {r : Nat} {sp : Sp}
theorem FH.cl (h : FH K mg n st f fd) (l : PySem.W.OpenLaw) (w : World) (base : Heap) {ps : List Str} (o : FnOk l.prog w K mg base CX0 r f fd ps sp) (b : ∀ (kV doc pm : Value) (an : Option Addr) (cdv ct : Value) (us : List Value),us.length = ps.length→bindArgs (PySem.W.fnOf n n (defArgs st) (defBody st) (defScope st) .none kV doc pm an cdv ct) ⟨us,[]⟩ = pure (ps.zip us):=by intro _ _ _ _ _ _ us hl;first | (obtain ⟨_,rfl⟩:=ar1 hl;rfl) | (obtain ⟨_,_,rfl⟩:=ar2 hl;rfl) | (obtain ⟨_,_,_,rfl⟩:=ar3 hl;rfl) | (obtain ⟨_,_,_,_,rfl⟩:=ar4 hl;rfl)) : Cal l.prog w K mg base r n ps sp:=⟨_,_,o,h.g,h.F.kp,h.F.binds b⟩
theorem FH.cx (h : FH K mg n st f fd) (l : PySem.W.OpenLaw) (w : World) (base : Heap) {ps : List Str} (o : FnOk l.prog w K mg base (CX1 l.prog w) r f fd ps sp) (b : ∀ (kV doc pm : Value) (an : Option Addr) (cdv ct : Value) (us : List Value),us.length = ps.length→bindArgs (PySem.W.fnOf n n (defArgs st) (defBody st) (defScope st) .none kV doc pm an cdv ct) ⟨us,[]⟩ = pure (ps.zip us):=by intro _ _ _ _ _ _ us hl;first | (obtain ⟨_,rfl⟩:=ar1 hl;rfl) | (obtain ⟨_,_,rfl⟩:=ar2 hl;rfl) | (obtain ⟨_,_,_,rfl⟩:=ar3 hl;rfl) | (obtain ⟨_,_,_,_,rfl⟩:=ar4 hl;rfl)) : CalX l.prog w K mg base r n ps sp:=⟨_,_,o,h.g,h.F.kp,h.F.binds b⟩
theorem FH.cm (h : FH K mg n st f fd) (l : PySem.W.OpenLaw) (w : World) (base : Heap) {ps : List Str} (o : FnM l.prog w K mg base r f fd ps sp) (b : ∀ (kV doc pm : Value) (an : Option Addr) (cdv ct : Value) (us : List Value),us.length = ps.length→bindArgs (PySem.W.fnOf n n (defArgs st) (defBody st) (defScope st) .none kV doc pm an cdv ct) ⟨us,[]⟩ = pure (ps.zip us):=by intro _ _ _ _ _ _ us hl;first | (obtain ⟨_,rfl⟩:=ar1 hl;rfl) | (obtain ⟨_,_,rfl⟩:=ar2 hl;rfl) | (obtain ⟨_,_,_,rfl⟩:=ar3 hl;rfl) | (obtain ⟨_,_,_,_,rfl⟩:=ar4 hl;rfl)) : CalM l.prog w K mg base r n ps sp:=⟨_,_,o,h.g,h.F.kp,h.F.binds b⟩
end
theorem all_mk {l : PySem.W.OpenLaw} {w : World} {K : PySem.W.Frag} {h : Heap} {mg : Str→Option Value} {fa f1 f2 f3 f4 f5 f6 f7 f8 f9 f10 f11 f12 f13 f14 f15 f16 f17 f18 f19 f20 f21 f22 f23 f24 f25 f26 f27 f28 f29 f30 f31 f32 f33 f34 : Addr} {d1 d2 d3 d4 d5 d6 d7 d8 d9 d10 d11 d12 d13 d14 d15 d16 d17 d18 d19 d20 d21 d22 d23 d24 d25 d26 d27 d28 d29 d30 d31 d32 d33 d34 : FuncData} (X : K.In h) (G : h.Ns mainGlobals mg) (hfa : mg "law" = some (.ref fa))
    (h1 : FH K mg "is_name" sIsName f1 d1)
    (h2 : FH K mg "web_of" sWebOf f2 d2)
    (h3 : FH K mg "nexts" sNexts f3 d3)
    (h4 : FH K mg "priors" sPriors f4 d4)
    (h5 : FH K mg "places_of" sPlaces f5 d5)
    (h6 : FH K mg "are_things" sAreThings f6 d6)
    (h7 : FH K mg "are_unlike_names" sUNm f7 d7)
    (h8 : FH K mg "are_unlike" sUnlike f8 d8)
    (h9 : FH K mg "first_wrong_tie" sWrong f9 d9)
    (h10 : FH K mg "is_tie_among" sAmong f10 d10)
    (h11 : FH K mg "way" sWay f11 d11)
    (h12 : FH K mg "first_nearer" sNearer f12 d12)
    (h13 : FH K mg "nexts_of_all" sNextsAll f13 d13)
    (h14 : FH K mg "priors_of_all" sPriorsAll f14 d14)
    (h15 : FH K mg "steps_from" sSteps f15 d15)
    (h16 : FH K mg "ring_by" sRingBy f16 d16)
    (h17 : FH K mg "ring_of" sRingOf f17 d17)
    (h18 : FH K mg "refuse_ring" sRefuse f18 d18)
    (h19 : FH K mg "together" sTogether f19 d19)
    (h20 : FH K mg "_law_take" sTake f20 d20)
    (h21 : FH K mg "_law_names" sNames f21 d21)
    (h22 : FH K mg "_law_ties" sTies f22 d22)
    (h23 : FH K mg "_law_same" sSame f23 d23)
    (h24 : FH K mg "_law_steps_to" sStepsTo f24 d24)
    (h25 : FH K mg "_law_ring_by" sLRingBy f25 d25)
    (h26 : FH K mg "_law_ring_of" sLRingOf f26 d26)
    (h27 : FH K mg "_law_others" sOthers f27 d27)
    (h28 : FH K mg "_law_word" sLawWord f28 d28)
    (h29 : FH K mg "_law_tried" sLawTried f29 d29)
    (h30 : FH K mg "_law_web" sWeb f30 d30)
    (h31 : FH K mg "_law_with_ring" sLawWithRing f31 d31)
    (h32 : FH K mg "_law_many_things" sLawManyThings f32 d32)
    (h33 : FH K mg "_law_many_ties" sLawManyTies f33 d33)
    (h34 : FH K mg "law" sLaw f34 d34)
    (B : Blt mg) 
    {tk1 : Tok} (y1 : PySem.W.nsIn K mainGlobals "MOST_SIGNS" = some (some (.int 8 tk1)))
    {tk2 : Tok} (y2 : PySem.W.nsIn K mainGlobals "MOST_THINGS" = some (some (.int 60 tk2)))
    {tk3 : Tok} (y3 : PySem.W.nsIn K mainGlobals "MOST_TIES" = some (some (.int 400 tk3)))
    {x1 x2 x3 x4 x5 x6 x7 x8 x9 x10 x11 x12 x13 x14 x15 x16 x17 x18 x19 x20 : Addr} (r1 : PySem.W.nsIn K mainGlobals "OrderError" = some (some (.ref x1))) (r2 : PySem.W.nsIn K mainGlobals "NoWeb" = some (some (.ref x2))) (r3 : PySem.W.nsIn K mainGlobals "NoText" = some (some (.ref x3))) (r4 : PySem.W.nsIn K mainGlobals "Ring" = some (some (.ref x4))) (r5 : PySem.W.nsIn K mainGlobals "NoOrder" = some (some (.ref x5))) (r6 : PySem.W.nsIn K mainGlobals "NoWeights" = some (some (.ref x6))) (r7 : PySem.W.nsIn K mainGlobals "NoHouse" = some (some (.ref x7))) (r8 : PySem.W.nsIn K mainGlobals "NoDeed" = some (some (.ref x8))) (r9 : PySem.W.nsIn K mainGlobals "NoUnit" = some (some (.ref x9))) (r10 : PySem.W.nsIn K mainGlobals "Twice" = some (some (.ref x10))) (r11 : PySem.W.nsIn K mainGlobals "Within" = some (some (.ref x11))) (r12 : PySem.W.nsIn K mainGlobals "NoTie" = some (some (.ref x12))) (r13 : PySem.W.nsIn K mainGlobals "Full" = some (some (.ref x13))) (r14 : PySem.W.nsIn K mainGlobals "Apart" = some (some (.ref x14))) (r15 : PySem.W.nsIn K mainGlobals "NoWant" = some (some (.ref x15))) (r16 : PySem.W.nsIn K mainGlobals "TooMany" = some (some (.ref x16))) (r17 : PySem.W.nsIn K mainGlobals "NoUndo" = some (some (.ref x17))) (r18 : PySem.W.nsIn K mainGlobals "NoRedo" = some (some (.ref x18))) (r19 : PySem.W.nsIn K mainGlobals "Clash" = some (some (.ref x19))) (r20 : PySem.W.nsIn K mainGlobals "NoRow" = some (some (.ref x20)))
    (en : PySem.W.specialIn K (.builtin "object.__class__") "__get__" = some (some (.builtin "getset_descriptor.__get__"))) (et : PySem.W.takesIn K (.builtin "object.__class__") = some true) (ev : PySem.W.nsIn K mainGlobals "ValueError" = some none)
    {N1 : Addr} {bs1 bm1 su1 : List Value} {nm1 q1 : Str} {hd1 ab1 : Bool} {sn1 : List Str} {co1 : Option Bool} {dd1 : Option Addr} {ka1 kb1 kc1 kd1 ke1 : Option Value}
    (o1 : K.lookup x1 = some (excClassObj nm1 q1 x1 N1 bs1 bm1 hd1 sn1 su1 ab1 co1 dd1 ka1 kb1 kc1 kd1 ke1 "ValueError.__new__"))
    (u1 : PySem.W.nsOkIn K N1 = true) (ni1 : PySem.W.nsIn K N1 "__init__" = some none) (tl1 : PySem.W.tailIn K [.type "ValueError",.type "Exception",.type "BaseException",.type "object"] bm1 = true)
    (ga1 : PySem.W.findIn K (.ref x1) "__getattribute__" = some (some (.builtin "BaseException.__getattribute__"))) (gb1 : PySem.W.findIn K (.ref x1) "__getattr__" = some none) (ha1 : PySem.W.findIn K (.ref x1) "__class__" = some (some (.builtin "object.__class__")))
    (hm1 : PySem.W.mroIn K x1 (.type "object") = some true) (hb1 : PySem.W.mroIn K x1 (.type "BaseException") = some true) (cl1 : (PySem.W.clsIn K x1).isSome = true)
    (p1 : bm1.contains (.type "BaseException") = true) (q_1 : (Value.ref x1::bm1).contains (.ref x1) = true) (w1 : PySem.W.kitOne K (.ref x1) (.type "ValueError") = some true)
    {N2 : Addr} {bs2 bm2 su2 : List Value} {nm2 q2 : Str} {hd2 ab2 : Bool} {sn2 : List Str} {co2 : Option Bool} {dd2 : Option Addr} {ka2 kb2 kc2 kd2 ke2 : Option Value}
    (o2 : K.lookup x2 = some (excClassObj nm2 q2 x2 N2 bs2 bm2 hd2 sn2 su2 ab2 co2 dd2 ka2 kb2 kc2 kd2 ke2 "ValueError.__new__"))
    (u2 : PySem.W.nsOkIn K N2 = true) (ni2 : PySem.W.nsIn K N2 "__init__" = some none) (tl2 : PySem.W.tailIn K [.type "ValueError",.type "Exception",.type "BaseException",.type "object"] bm2 = true)
    (ga2 : PySem.W.findIn K (.ref x2) "__getattribute__" = some (some (.builtin "BaseException.__getattribute__"))) (gb2 : PySem.W.findIn K (.ref x2) "__getattr__" = some none) (ha2 : PySem.W.findIn K (.ref x2) "__class__" = some (some (.builtin "object.__class__")))
    (hm2 : PySem.W.mroIn K x2 (.type "object") = some true) (hb2 : PySem.W.mroIn K x2 (.type "BaseException") = some true) (cl2 : (PySem.W.clsIn K x2).isSome = true)
    (p2 : bm2.contains (.type "BaseException") = true) (q_2 : (Value.ref x2::bm2).contains (.ref x1) = true) (w2 : PySem.W.kitOne K (.ref x2) (.type "ValueError") = some true)
    (g2_1 : PySem.W.kitOne K (.ref x2) (.ref x1) = some true) (g2_2 : PySem.W.kitOne K (.ref x2) (.ref x2) = some true) (g2_3 : PySem.W.kitOne K (.ref x2) (.ref x3) = some false) (g2_4 : PySem.W.kitOne K (.ref x2) (.ref x4) = some false) (g2_5 : PySem.W.kitOne K (.ref x2) (.ref x5) = some false) (g2_6 : PySem.W.kitOne K (.ref x2) (.ref x6) = some false) (g2_7 : PySem.W.kitOne K (.ref x2) (.ref x7) = some false) (g2_8 : PySem.W.kitOne K (.ref x2) (.ref x8) = some false) (g2_9 : PySem.W.kitOne K (.ref x2) (.ref x9) = some false) (g2_10 : PySem.W.kitOne K (.ref x2) (.ref x10) = some false) (g2_11 : PySem.W.kitOne K (.ref x2) (.ref x11) = some false) (g2_12 : PySem.W.kitOne K (.ref x2) (.ref x12) = some false) (g2_13 : PySem.W.kitOne K (.ref x2) (.ref x13) = some false) (g2_14 : PySem.W.kitOne K (.ref x2) (.ref x14) = some false) (g2_15 : PySem.W.kitOne K (.ref x2) (.ref x15) = some false) (g2_16 : PySem.W.kitOne K (.ref x2) (.ref x16) = some false) (g2_17 : PySem.W.kitOne K (.ref x2) (.ref x17) = some false) (g2_18 : PySem.W.kitOne K (.ref x2) (.ref x18) = some false) (g2_19 : PySem.W.kitOne K (.ref x2) (.ref x19) = some false) (g2_20 : PySem.W.kitOne K (.ref x2) (.ref x20) = some false)
    {N4 : Addr} {bs4 bm4 su4 : List Value} {nm4 q4 : Str} {hd4 ab4 : Bool} {sn4 : List Str} {co4 : Option Bool} {dd4 : Option Addr} {ka4 kb4 kc4 kd4 ke4 : Option Value}
    (o4 : K.lookup x4 = some (excClassObj nm4 q4 x4 N4 bs4 bm4 hd4 sn4 su4 ab4 co4 dd4 ka4 kb4 kc4 kd4 ke4 "ValueError.__new__"))
    {fi4 : Addr} {iod4 ian4 : Option Addr} {isl4 : Array (Option Value)} {ikV4 idc4 ipm4 icd4 ict4 : Value}
    (u4 : PySem.W.nsOkIn K N4 = true) (ni4 : PySem.W.nsIn K N4 "__init__" = some (some (.ref fi4))) (tl4 : PySem.W.tailIn K bmV bm4 = true)
    (il4 : K.lookup fi4 = some ⟨.type "function",iod4,.func (PySem.W.fnOf "__init__" "Ring.__init__" (defArgs sRingInit) (defBody sRingInit) (defScope sRingInit) .none ikV4 idc4 ipm4 ian4 icd4 ict4),isl4⟩) (ic4 : PySem.W.codeIn K icd4 "Ring.__init__" = true) (ik4 : PySem.W.keepIn K (.ref fi4) = true) (kc4 : PySem.W.keepIn K (.ref x4) = true)
    (sa4 : PySem.W.findIn K (.ref x4) "__setattr__" = some (some (.builtin "object.__setattr__"))) (po4 : (PySem.W.clsIn K x4).any (fun cd=>tailE cd.mro) = true) (na4 : PySem.W.findIn K (.ref x4) "ring" = some none) (hd_4 : PySem.W.hasDictIn K x4 = true)
    (ga4 : PySem.W.findIn K (.ref x4) "__getattribute__" = some (some (.builtin "BaseException.__getattribute__"))) (gb4 : PySem.W.findIn K (.ref x4) "__getattr__" = some none) (ha4 : PySem.W.findIn K (.ref x4) "__class__" = some (some (.builtin "object.__class__")))
    (hm4 : PySem.W.mroIn K x4 (.type "object") = some true) (hb4 : PySem.W.mroIn K x4 (.type "BaseException") = some true) (cl4 : (PySem.W.clsIn K x4).isSome = true)
    (p4 : bm4.contains (.type "BaseException") = true) (q_4 : (Value.ref x4::bm4).contains (.ref x1) = true) (w4 : PySem.W.kitOne K (.ref x4) (.type "ValueError") = some true)
    (g4_1 : PySem.W.kitOne K (.ref x4) (.ref x1) = some true) (g4_2 : PySem.W.kitOne K (.ref x4) (.ref x2) = some false) (g4_3 : PySem.W.kitOne K (.ref x4) (.ref x3) = some false) (g4_4 : PySem.W.kitOne K (.ref x4) (.ref x4) = some true) (g4_5 : PySem.W.kitOne K (.ref x4) (.ref x5) = some false) (g4_6 : PySem.W.kitOne K (.ref x4) (.ref x6) = some false) (g4_7 : PySem.W.kitOne K (.ref x4) (.ref x7) = some false) (g4_8 : PySem.W.kitOne K (.ref x4) (.ref x8) = some false) (g4_9 : PySem.W.kitOne K (.ref x4) (.ref x9) = some false) (g4_10 : PySem.W.kitOne K (.ref x4) (.ref x10) = some false) (g4_11 : PySem.W.kitOne K (.ref x4) (.ref x11) = some false) (g4_12 : PySem.W.kitOne K (.ref x4) (.ref x12) = some false) (g4_13 : PySem.W.kitOne K (.ref x4) (.ref x13) = some false) (g4_14 : PySem.W.kitOne K (.ref x4) (.ref x14) = some false) (g4_15 : PySem.W.kitOne K (.ref x4) (.ref x15) = some false) (g4_16 : PySem.W.kitOne K (.ref x4) (.ref x16) = some false) (g4_17 : PySem.W.kitOne K (.ref x4) (.ref x17) = some false) (g4_18 : PySem.W.kitOne K (.ref x4) (.ref x18) = some false) (g4_19 : PySem.W.kitOne K (.ref x4) (.ref x19) = some false) (g4_20 : PySem.W.kitOne K (.ref x4) (.ref x20) = some false)
    : ∃ fd : FuncData,(∀ (s : Shared) (v : Value),BindsTo s fd ⟨[v],[]⟩ [("_law_script",v)])∧∀ base : Heap,K.In base→base.Ns mainGlobals mg→FnOk l.prog w K mg base CX0 11 fa fd ["_law_script"] (spLaw K):=by
  have e:=hfa.symm.trans h34.g
  cases e
  have TMOST_SIGNS:=PySem.W.mg_of X G y1
  have TMOST_THINGS:=PySem.W.mg_of X G y2
  have TMOST_TIES:=PySem.W.mg_of X G y3
  have F34:=h34.F
  obtain ⟨_,_,kV,dc,pm,an,cd,ct,_,rfl,_,_⟩:=F34.ex
  refine ⟨PySem.W.fnOf "law" "law" (defArgs sLaw) (defBody sLaw) (defScope sLaw) .none kV dc pm an cd ct,fun s v=>.of_eq rfl,fun base XB GB=>?_⟩
  have eN : (["OrderError","NoWeb","NoText","Ring","NoOrder","NoWeights","NoHouse","NoDeed","NoUnit","Twice","Within","NoTie","Full","Apart","NoWant","TooMany","NoUndo","NoRedo","Clash","NoRow"] : List Str).Nodup:=by decide +kernel
  have eO : ecOf ([("OrderError",x1),("NoWeb",x2),("NoText",x3),("Ring",x4),("NoOrder",x5),("NoWeights",x6),("NoHouse",x7),("NoDeed",x8),("NoUnit",x9),("Twice",x10),("Within",x11),("NoTie",x12),("Full",x13),("Apart",x14),("NoWant",x15),("TooMany",x16),("NoUndo",x17),("NoRedo",x18),("Clash",x19),("NoRow",x20)] : List (Str × Addr)) "OrderError" = x1:=ecOf_at (ps:=[("OrderError",x1),("NoWeb",x2),("NoText",x3),("Ring",x4),("NoOrder",x5),("NoWeights",x6),("NoHouse",x7),("NoDeed",x8),("NoUnit",x9),("Twice",x10),("Within",x11),("NoTie",x12),("Full",x13),("Apart",x14),("NoWant",x15),("TooMany",x16),("NoUndo",x17),("NoRedo",x18),("Clash",x19),("NoRow",x20)]) eN ("OrderError",x1) (.head _)
  have Er : Errs K mg base (ecOf ([("OrderError",x1),("NoWeb",x2),("NoText",x3),("Ring",x4),("NoOrder",x5),("NoWeights",x6),("NoHouse",x7),("NoDeed",x8),("NoUnit",x9),("Twice",x10),("Within",x11),("NoTie",x12),("Full",x13),("Apart",x14),("NoWant",x15),("TooMany",x16),("NoUndo",x17),("NoRedo",x18),("Clash",x19),("NoRow",x20)] : List (Str × Addr))) excL excC:=errs_mk (ps:=[("OrderError",x1),("NoWeb",x2),("NoText",x3),("Ring",x4),("NoOrder",x5),("NoWeights",x6),("NoHouse",x7),("NoDeed",x8),("NoUnit",x9),("Twice",x10),("Within",x11),("NoTie",x12),("Full",x13),("Apart",x14),("NoWant",x15),("TooMany",x16),("NoUndo",x17),("NoRedo",x18),("Clash",x19),("NoRow",x20)]) (cs:=[("OrderError",x1),("NoWeb",x2),("Ring",x4)]) eN (fa_cons (.head _) (fa_cons (.tail _ (.head _)) (fa_cons (.tail _ (.tail _ (.tail _ (.head _)))) fa_nil))) (fa_cons (PySem.W.mg_of X G r1) (fa_cons (PySem.W.mg_of X G r2) (fa_cons (PySem.W.mg_of X G r3) (fa_cons (PySem.W.mg_of X G r4) (fa_cons (PySem.W.mg_of X G r5) (fa_cons (PySem.W.mg_of X G r6) (fa_cons (PySem.W.mg_of X G r7) (fa_cons (PySem.W.mg_of X G r8) (fa_cons (PySem.W.mg_of X G r9) (fa_cons (PySem.W.mg_of X G r10) (fa_cons (PySem.W.mg_of X G r11) (fa_cons (PySem.W.mg_of X G r12) (fa_cons (PySem.W.mg_of X G r13) (fa_cons (PySem.W.mg_of X G r14) (fa_cons (PySem.W.mg_of X G r15) (fa_cons (PySem.W.mg_of X G r16) (fa_cons (PySem.W.mg_of X G r17) (fa_cons (PySem.W.mg_of X G r18) (fa_cons (PySem.W.mg_of X G r19) (fa_cons (PySem.W.mg_of X G r20) fa_nil)))))))))))))))))))) (fa_cons ⟨ga1,gb1,ha1,en,et,hm1,hb1,cl1⟩ (fa_cons ⟨ga2,gb2,ha2,en,et,hm2,hb2,cl2⟩ (fa_cons ⟨ga4,gb4,ha4,en,et,hm4,hb4,cl4⟩ fa_nil))) (show ("OrderError" : Str)∈excC by decide +kernel) (fa_cons (fun h=>absurd rfl h) (fa_cons (fun _=>(fa_cons (g2_1.trans (congrArg some (show true = (("OrderError" : Str) == ("NoWeb" : Str) || ("OrderError" : Str) == ("OrderError" : Str)) by decide +kernel))) (fa_cons (g2_2.trans (congrArg some (show true = (("NoWeb" : Str) == ("NoWeb" : Str) || ("NoWeb" : Str) == ("OrderError" : Str)) by decide +kernel))) (fa_cons (g2_3.trans (congrArg some (show false = (("NoText" : Str) == ("NoWeb" : Str) || ("NoText" : Str) == ("OrderError" : Str)) by decide +kernel))) (fa_cons (g2_4.trans (congrArg some (show false = (("Ring" : Str) == ("NoWeb" : Str) || ("Ring" : Str) == ("OrderError" : Str)) by decide +kernel))) (fa_cons (g2_5.trans (congrArg some (show false = (("NoOrder" : Str) == ("NoWeb" : Str) || ("NoOrder" : Str) == ("OrderError" : Str)) by decide +kernel))) (fa_cons (g2_6.trans (congrArg some (show false = (("NoWeights" : Str) == ("NoWeb" : Str) || ("NoWeights" : Str) == ("OrderError" : Str)) by decide +kernel))) (fa_cons (g2_7.trans (congrArg some (show false = (("NoHouse" : Str) == ("NoWeb" : Str) || ("NoHouse" : Str) == ("OrderError" : Str)) by decide +kernel))) (fa_cons (g2_8.trans (congrArg some (show false = (("NoDeed" : Str) == ("NoWeb" : Str) || ("NoDeed" : Str) == ("OrderError" : Str)) by decide +kernel))) (fa_cons (g2_9.trans (congrArg some (show false = (("NoUnit" : Str) == ("NoWeb" : Str) || ("NoUnit" : Str) == ("OrderError" : Str)) by decide +kernel))) (fa_cons (g2_10.trans (congrArg some (show false = (("Twice" : Str) == ("NoWeb" : Str) || ("Twice" : Str) == ("OrderError" : Str)) by decide +kernel))) (fa_cons (g2_11.trans (congrArg some (show false = (("Within" : Str) == ("NoWeb" : Str) || ("Within" : Str) == ("OrderError" : Str)) by decide +kernel))) (fa_cons (g2_12.trans (congrArg some (show false = (("NoTie" : Str) == ("NoWeb" : Str) || ("NoTie" : Str) == ("OrderError" : Str)) by decide +kernel))) (fa_cons (g2_13.trans (congrArg some (show false = (("Full" : Str) == ("NoWeb" : Str) || ("Full" : Str) == ("OrderError" : Str)) by decide +kernel))) (fa_cons (g2_14.trans (congrArg some (show false = (("Apart" : Str) == ("NoWeb" : Str) || ("Apart" : Str) == ("OrderError" : Str)) by decide +kernel))) (fa_cons (g2_15.trans (congrArg some (show false = (("NoWant" : Str) == ("NoWeb" : Str) || ("NoWant" : Str) == ("OrderError" : Str)) by decide +kernel))) (fa_cons (g2_16.trans (congrArg some (show false = (("TooMany" : Str) == ("NoWeb" : Str) || ("TooMany" : Str) == ("OrderError" : Str)) by decide +kernel))) (fa_cons (g2_17.trans (congrArg some (show false = (("NoUndo" : Str) == ("NoWeb" : Str) || ("NoUndo" : Str) == ("OrderError" : Str)) by decide +kernel))) (fa_cons (g2_18.trans (congrArg some (show false = (("NoRedo" : Str) == ("NoWeb" : Str) || ("NoRedo" : Str) == ("OrderError" : Str)) by decide +kernel))) (fa_cons (g2_19.trans (congrArg some (show false = (("Clash" : Str) == ("NoWeb" : Str) || ("Clash" : Str) == ("OrderError" : Str)) by decide +kernel))) (fa_cons (g2_20.trans (congrArg some (show false = (("NoRow" : Str) == ("NoWeb" : Str) || ("NoRow" : Str) == ("OrderError" : Str)) by decide +kernel))) fa_nil))))))))))))))))))))) (fa_cons (fun _=>(fa_cons (g4_1.trans (congrArg some (show true = (("OrderError" : Str) == ("Ring" : Str) || ("OrderError" : Str) == ("OrderError" : Str)) by decide +kernel))) (fa_cons (g4_2.trans (congrArg some (show false = (("NoWeb" : Str) == ("Ring" : Str) || ("NoWeb" : Str) == ("OrderError" : Str)) by decide +kernel))) (fa_cons (g4_3.trans (congrArg some (show false = (("NoText" : Str) == ("Ring" : Str) || ("NoText" : Str) == ("OrderError" : Str)) by decide +kernel))) (fa_cons (g4_4.trans (congrArg some (show true = (("Ring" : Str) == ("Ring" : Str) || ("Ring" : Str) == ("OrderError" : Str)) by decide +kernel))) (fa_cons (g4_5.trans (congrArg some (show false = (("NoOrder" : Str) == ("Ring" : Str) || ("NoOrder" : Str) == ("OrderError" : Str)) by decide +kernel))) (fa_cons (g4_6.trans (congrArg some (show false = (("NoWeights" : Str) == ("Ring" : Str) || ("NoWeights" : Str) == ("OrderError" : Str)) by decide +kernel))) (fa_cons (g4_7.trans (congrArg some (show false = (("NoHouse" : Str) == ("Ring" : Str) || ("NoHouse" : Str) == ("OrderError" : Str)) by decide +kernel))) (fa_cons (g4_8.trans (congrArg some (show false = (("NoDeed" : Str) == ("Ring" : Str) || ("NoDeed" : Str) == ("OrderError" : Str)) by decide +kernel))) (fa_cons (g4_9.trans (congrArg some (show false = (("NoUnit" : Str) == ("Ring" : Str) || ("NoUnit" : Str) == ("OrderError" : Str)) by decide +kernel))) (fa_cons (g4_10.trans (congrArg some (show false = (("Twice" : Str) == ("Ring" : Str) || ("Twice" : Str) == ("OrderError" : Str)) by decide +kernel))) (fa_cons (g4_11.trans (congrArg some (show false = (("Within" : Str) == ("Ring" : Str) || ("Within" : Str) == ("OrderError" : Str)) by decide +kernel))) (fa_cons (g4_12.trans (congrArg some (show false = (("NoTie" : Str) == ("Ring" : Str) || ("NoTie" : Str) == ("OrderError" : Str)) by decide +kernel))) (fa_cons (g4_13.trans (congrArg some (show false = (("Full" : Str) == ("Ring" : Str) || ("Full" : Str) == ("OrderError" : Str)) by decide +kernel))) (fa_cons (g4_14.trans (congrArg some (show false = (("Apart" : Str) == ("Ring" : Str) || ("Apart" : Str) == ("OrderError" : Str)) by decide +kernel))) (fa_cons (g4_15.trans (congrArg some (show false = (("NoWant" : Str) == ("Ring" : Str) || ("NoWant" : Str) == ("OrderError" : Str)) by decide +kernel))) (fa_cons (g4_16.trans (congrArg some (show false = (("TooMany" : Str) == ("Ring" : Str) || ("TooMany" : Str) == ("OrderError" : Str)) by decide +kernel))) (fa_cons (g4_17.trans (congrArg some (show false = (("NoUndo" : Str) == ("Ring" : Str) || ("NoUndo" : Str) == ("OrderError" : Str)) by decide +kernel))) (fa_cons (g4_18.trans (congrArg some (show false = (("NoRedo" : Str) == ("Ring" : Str) || ("NoRedo" : Str) == ("OrderError" : Str)) by decide +kernel))) (fa_cons (g4_19.trans (congrArg some (show false = (("Clash" : Str) == ("Ring" : Str) || ("Clash" : Str) == ("OrderError" : Str)) by decide +kernel))) (fa_cons (g4_20.trans (congrArg some (show false = (("NoRow" : Str) == ("Ring" : Str) || ("NoRow" : Str) == ("OrderError" : Str)) by decide +kernel))) fa_nil))))))))))))))))))))) fa_nil))) (fa_cons w1 (fa_cons w2 (fa_cons w4 fa_nil))) (fa_cons ⟨bm1,xat_mk XB o1,p1,(by rw [eO];exact q_1)⟩ (fa_cons ⟨bm2,xat_mk XB o2,p2,(by rw [eO];exact q_2)⟩ (fa_cons ⟨bm4,xat_mk XB o4,p4,(by rw [eO];exact q_4)⟩ fa_nil))) (PySem.W.mg_none_of X G ev) (fa_cons (fun _=>own_mk XB (PySem.W.mg_of X G r1) o1 u1 ni1 tl1) (fa_cons (fun _=>own_mk XB (PySem.W.mg_of X G r2) o2 u2 ni2 tl2) (fa_cons (fun h=>absurd (show ("Ring" : Str)∈(["NoText","Ring","NoUnit"] : List Str) by decide) h) fa_nil)))
  have FIRing:=fun_mk (st:=sRingInit) il4 ic4 ik4
  have bIRing:=FIRing.binds (ps:=["self","ring"]) fun _ _ _ _ _ _ us hl=>by obtain ⟨_,_,rfl⟩:=ar2 hl;rfl
  have eeRing : ecOf ([("OrderError",x1),("NoWeb",x2),("NoText",x3),("Ring",x4),("NoOrder",x5),("NoWeights",x6),("NoHouse",x7),("NoDeed",x8),("NoUnit",x9),("Twice",x10),("Within",x11),("NoTie",x12),("Full",x13),("Apart",x14),("NoWant",x15),("TooMany",x16),("NoUndo",x17),("NoRedo",x18),("Clash",x19),("NoRow",x20)] : List (Str × Addr)) "Ring" = x4:=ecOf_at (ps:=[("OrderError",x1),("NoWeb",x2),("NoText",x3),("Ring",x4),("NoOrder",x5),("NoWeights",x6),("NoHouse",x7),("NoDeed",x8),("NoUnit",x9),("Twice",x10),("Within",x11),("NoTie",x12),("Full",x13),("Apart",x14),("NoWant",x15),("TooMany",x16),("NoUndo",x17),("NoRedo",x18),("Clash",x19),("NoRow",x20)]) eN ("Ring",x4) (.tail _ (.tail _ (.tail _ (.head _))))
  have ZRing : XSet K (ecOf ([("OrderError",x1),("NoWeb",x2),("NoText",x3),("Ring",x4),("NoOrder",x5),("NoWeights",x6),("NoHouse",x7),("NoDeed",x8),("NoUnit",x9),("Twice",x10),("Within",x11),("NoTie",x12),("Full",x13),("Apart",x14),("NoWant",x15),("TooMany",x16),("NoUndo",x17),("NoRedo",x18),("Clash",x19),("NoRow",x20)] : List (Str × Addr)) "Ring") "ring":=eeRing.symm ▸ ⟨sa4,po4,na4,hd_4,hm4⟩
  have GRing : XGet K (ecOf ([("OrderError",x1),("NoWeb",x2),("NoText",x3),("Ring",x4),("NoOrder",x5),("NoWeights",x6),("NoHouse",x7),("NoDeed",x8),("NoUnit",x9),("Twice",x10),("Within",x11),("NoTie",x12),("Full",x13),("Apart",x14),("NoWant",x15),("TooMany",x16),("NoUndo",x17),("NoRedo",x18),("Clash",x19),("NoRow",x20)] : List (Str × Addr)) "Ring") "ring":=⟨ZRing.na,ZRing.hd⟩
  have mRing : MkI l.prog w K mg base 1 "Ring" (ecOf ([("OrderError",x1),("NoWeb",x2),("NoText",x3),("Ring",x4),("NoOrder",x5),("NoWeights",x6),("NoHouse",x7),("NoDeed",x8),("NoUnit",x9),("Twice",x10),("Within",x11),("NoTie",x12),("Full",x13),("Apart",x14),("NoWant",x15),("TooMany",x16),("NoUndo",x17),("NoRedo",x18),("Clash",x19),("NoRow",x20)] : List (Str × Addr)) "Ring") ["self","ring"] (spInitL K "ring"):=eeRing.symm ▸ ⟨_,_,ownI_mk XB (PySem.W.mg_of X G r4) o4 u4 ni4 tl4 il4,kc4,ok_init FIRing B,bIRing⟩
  have c__law_take:=h20.cl l w base (ok_take h20.F B)
  have c__law_names:=h21.cl l w base (ok_names h21.F B c__law_take)
  have c__law_ties:=h22.cl l w base (ok_ties h22.F B c__law_take)
  have c__law_web:=h30.cl l w base (ok_web h30.F B)
  have c__law_same:=h23.cl l w base (ok_same h23.F B)
  have c_places_of:=h5.cl l w base (ok_placesX h5.F B)
  have c_places_ofN:=h5.cl l w base ((ok_placesX h5.F B).imp placesX_of)
  have c_is_name:=h1.cl l w base (ok_isname h1.F B TMOST_SIGNS)
  have c_is_tie_among:=h10.cl l w base (ok_among h10.F B c_is_name)
  have c_are_unlike:=h8.cl l w base (ok_unlike h8.F B c_places_of)
  have c_are_unlike_names:=h7.cl l w base (ok_unm h7.F B c_is_name c_are_unlike)
  have c_are_things:=h6.cl l w base (ok_are h6.F B TMOST_THINGS c_are_unlike_names)
  have c_first_wrong_tie:=h9.cl l w base (ok_wrong h9.F B TMOST_TIES c_places_of c_is_tie_among)
  have c_web_ofX:=h2.cx l w base (ok_webB h2.F B Er c_are_things c_first_wrong_tie)
  have c_nexts:=h3.cl l w base (ok_nexts h3.F B c_places_ofN)
  have c_priors:=h4.cl l w base (ok_priors h4.F B c_places_ofN)
  have c_nexts_of_all:=h13.cl l w base (ok_nexts_of_all h13.F B c_nexts)
  have c_priors_of_all:=h14.cl l w base (ok_priors_of_all h14.F B c_priors)
  have c_steps_from:=h15.cl l w base (ok_steps h15.F B)
  have c_first_nearer:=h12.cl l w base (ok_nearer h12.F B c_nexts)
  have c_way:=h11.cl l w base (ok_way h11.F B c_steps_from c_priors_of_all c_first_nearer)
  have c_ring_by:=h16.cl l w base (ok_ring_by h16.F B c_way)
  have c_ring_of:=h17.cl l w base (ok_ring_of h17.F B c_steps_from c_nexts_of_all c_ring_by)
  have c_refuse_ringX:=h18.cx l w base (ok_refB h18.F B mRing ZRing c_ring_of)
  have c_togetherX:=h19.cx l w base (ok_togB h19.F B c_refuse_ringX c_ring_by c_web_ofX)
  have c__law_steps_to:=h24.cl l w base (ok_stepsTo h24.F B)
  have c__law_ring_by:=h25.cl l w base (ok_lringBy h25.F B c__law_steps_to)
  have c__law_ring_of:=h26.cl l w base (ok_lringOf h26.F B c__law_ring_by)
  have c__law_othersM:=h27.cm l w base (ok_others h27.F B Er)
  have c__law_wordM:=h28.cm l w base (ok_word h28.F B Er GRing c__law_othersM)
  have c__law_tried:=h29.cl l w base (ok_tried h29.F B Er c__law_wordM c_togetherX)
  have c__law_with_ring:=h31.cl l w base (ok_withR h31.F B c__law_take c__law_ties)
  have c__law_many_things:=h32.cl l w base (ok_manyT h32.F B c__law_take c__law_names c__law_tried)
  have c__law_many_ties:=h33.cl l w base (ok_manyE h33.F B c__law_take c__law_names c__law_web c__law_ring_of c__law_tried)
  exact ok_law F34 B c__law_take c__law_names c__law_ties c__law_with_ring c__law_web c__law_ring_of c__law_same c__law_tried c__law_many_ties c__law_many_things
theorem walk {l : PySem.W.OpenLaw} {q : Program} {loose : List Str} {XP : (Str → Option Value) → Heap → Prop} {YP : World → Heap → Prop} {d : DefRec} {K : Params → PySem.W.Frag} (hn : l.most = some 63) (hdf : d.params.defaults = [])
    (hY : ∀ (w : World) (h : Heap),YP w h→(K w.params).In h)
    (F : ∀ (w : World) (mg : Str→Option Value) (fa : Addr) (h : Heap),(K w.params).In h→h.Ns mainGlobals mg→mg d.name = some (.ref fa) →
      ∃ fd : FuncData,(∀ (s : Shared) (u : Value),BindsTo s fd ⟨[u],[]⟩ [("_law_script",u)])∧∀ base : Heap,(K w.params).In base→base.Ns mainGlobals mg→FnOk l.prog w (K w.params) mg base CX0 11 fa fd ["_law_script"] (spLaw (K w.params))) :
    PySem.W.WalkO q loose XP YP l.row.toRowW d [] (fun f vs=>PySem.call f vs) :=
  L2.walk_of (n:=63) (k:=11) (x:="_law_script") (CX:=fun _=>CX0) (sp:=fun w=>spLaw (K w.params)) hn (by decide) hdf ⟨rfl,by decide,by decide,rfl⟩ hY F (fun _ _ a ns hl _ hS=>⟨a,ns,rfl,hS,fun _=>rfl⟩) fun _ _ _ _ _ z=>z
end
end K70
open PySem PySem.W PyProof.Rows
set_option maxRecDepth 100000 in
set_option maxHeartbeats 0 in
theorem PySem.Challenge.cw_orderkeep_k70_webs_not_put_together_holds : PySem.Challenge.rw_orderkeep_k70_webs_not_put_together.Holds := by
  w_on;o_law;k_head;(case hw=>w_witness2)
  k_fill
  refine K70.walk (l:=PySem.Challenge.rw_orderkeep_k70_webs_not_put_together) rfl rfl (fun w h Y=>PySem.W.kIn_of Y) ?F
  case F =>
    intro w mg fa h KX G hmg
    refine' K70.all_mk KX G hmg (K70.fh_mk KX G ?a1 ?l1 ?c1 ?k1) (K70.fh_mk KX G ?a2 ?l2 ?c2 ?k2) (K70.fh_mk KX G ?a3 ?l3 ?c3 ?k3) (K70.fh_mk KX G ?a4 ?l4 ?c4 ?k4) (K70.fh_mk KX G ?a5 ?l5 ?c5 ?k5) (K70.fh_mk KX G ?a6 ?l6 ?c6 ?k6) (K70.fh_mk KX G ?a7 ?l7 ?c7 ?k7) (K70.fh_mk KX G ?a8 ?l8 ?c8 ?k8) (K70.fh_mk KX G ?a9 ?l9 ?c9 ?k9) (K70.fh_mk KX G ?a10 ?l10 ?c10 ?k10) (K70.fh_mk KX G ?a11 ?l11 ?c11 ?k11) (K70.fh_mk KX G ?a12 ?l12 ?c12 ?k12) (K70.fh_mk KX G ?a13 ?l13 ?c13 ?k13) (K70.fh_mk KX G ?a14 ?l14 ?c14 ?k14) (K70.fh_mk KX G ?a15 ?l15 ?c15 ?k15) (K70.fh_mk KX G ?a16 ?l16 ?c16 ?k16) (K70.fh_mk KX G ?a17 ?l17 ?c17 ?k17) (K70.fh_mk KX G ?a18 ?l18 ?c18 ?k18) (K70.fh_mk KX G ?a19 ?l19 ?c19 ?k19) (K70.fh_mk KX G ?a20 ?l20 ?c20 ?k20) (K70.fh_mk KX G ?a21 ?l21 ?c21 ?k21) (K70.fh_mk KX G ?a22 ?l22 ?c22 ?k22) (K70.fh_mk KX G ?a23 ?l23 ?c23 ?k23) (K70.fh_mk KX G ?a24 ?l24 ?c24 ?k24) (K70.fh_mk KX G ?a25 ?l25 ?c25 ?k25) (K70.fh_mk KX G ?a26 ?l26 ?c26 ?k26) (K70.fh_mk KX G ?a27 ?l27 ?c27 ?k27) (K70.fh_mk KX G ?a28 ?l28 ?c28 ?k28) (K70.fh_mk KX G ?a29 ?l29 ?c29 ?k29) (K70.fh_mk KX G ?a30 ?l30 ?c30 ?k30) (K70.fh_mk KX G ?a31 ?l31 ?c31 ?k31) (K70.fh_mk KX G ?a32 ?l32 ?c32 ?k32) (K70.fh_mk KX G ?a33 ?l33 ?c33 ?k33) (K70.fh_mk KX G ?a34 ?l34 ?c34 ?k34) ⟨PySem.W.mg_none_of KX G ?z1,PySem.W.mg_none_of KX G ?z2,PySem.W.mg_none_of KX G ?z3,PySem.W.mg_none_of KX G ?z4,PySem.W.mg_none_of KX G ?z5,PySem.W.mg_none_of KX G ?z6,PySem.W.mg_none_of KX G ?z7,PySem.W.mg_none_of KX G ?z8,PySem.W.mg_none_of KX G ?z9,PySem.W.mg_none_of KX G ?z10,PySem.W.mg_none_of KX G ?z11,PySem.W.mg_none_of KX G ?z12,PySem.W.mg_none_of KX G ?z13,PySem.W.mg_none_of KX G ?z14,PySem.W.mg_none_of KX G ?z15⟩ ?y1 ?y2 ?y3 ?r1 ?r2 ?r3 ?r4 ?r5 ?r6 ?r7 ?r8 ?r9 ?r10 ?r11 ?r12 ?r13 ?r14 ?r15 ?r16 ?r17 ?r18 ?r19 ?r20 ?en ?et ?ev ?o1 ?u1 ?ni1 ?tl1 ?ga1 ?gb1 ?ha1 ?hm1 ?hb1 ?cl1 ?p1 ?q_1 ?w1 ?o2 ?u2 ?ni2 ?tl2 ?ga2 ?gb2 ?ha2 ?hm2 ?hb2 ?cl2 ?p2 ?q_2 ?w2 ?g2_1 ?g2_2 ?g2_3 ?g2_4 ?g2_5 ?g2_6 ?g2_7 ?g2_8 ?g2_9 ?g2_10 ?g2_11 ?g2_12 ?g2_13 ?g2_14 ?g2_15 ?g2_16 ?g2_17 ?g2_18 ?g2_19 ?g2_20 ?o4 ?u4 ?ni4 ?tl4 ?il4 ?ic4 ?ik4 ?kc4 ?sa4 ?po4 ?na4 ?hd_4 ?ga4 ?gb4 ?ha4 ?hm4 ?hb4 ?cl4 ?p4 ?q_4 ?w4 ?g4_1 ?g4_2 ?g4_3 ?g4_4 ?g4_5 ?g4_6 ?g4_7 ?g4_8 ?g4_9 ?g4_10 ?g4_11 ?g4_12 ?g4_13 ?g4_14 ?g4_15 ?g4_16 ?g4_17 ?g4_18 ?g4_19 ?g4_20
    (case a1 | l1 | c1 | k1 | a2 | l2 | c2 | k2 | a3 | l3 | c3 | k3 | a4 | l4 | c4 | k4 | a5 | l5 | c5 | k5 | a6 | l6 | c6 | k6 | a7 | l7 | c7 | k7 | a8 | l8 | c8 | k8 | a9 | l9 | c9 | k9 | a10 | l10 | c10 | k10=>k_is)
    (case a11 | l11 | c11 | k11 | a12 | l12 | c12 | k12 | a13 | l13 | c13 | k13 | a14 | l14 | c14 | k14 | a15 | l15 | c15 | k15 | a16 | l16 | c16 | k16 | a17 | l17 | c17 | k17 | a18 | l18 | c18 | k18 | a19 | l19=>k_is)
    (case c19 | k19 | a20 | l20 | c20 | k20 | a21 | l21 | c21 | k21 | a22 | l22 | c22 | k22 | a23 | l23 | c23 | k23 | a24 | l24 | c24 | k24 | a25 | l25 | c25 | k25 | a26 | l26 | c26 | k26 | a27 | l27 | c27 | k27=>k_is)
    (case a28 | l28 | c28 | k28 | a29 | l29 | c29 | k29 | a30 | l30 | c30 | k30 | a31 | l31 | c31 | k31 | a32 | l32 | c32 | k32 | a33 | l33 | c33 | k33 | a34 | l34 | c34 | k34 | z1 | z2 | z3 | z4 | z5 | z6 | z7=>k_is)
    (case z8 | z9 | z10 | z11 | z12 | z13 | z14 | z15 | y1 | y2 | y3 | r1 | r2 | r3 | r4 | r5 | r6 | r7 | r8 | r9 | r10 | r11 | r12 | r13 | r14 | r15 | r16 | r17 | r18 | r19 | r20 | en | et | ev | o1=>k_is)
    (case u1=>kernel_rfl)
    (case ni1=>k_is)
    (case tl1=>kernel_rfl)
    (case ga1 | gb1 | ha1 | hm1 | hb1=>k_is)
    (case cl1 | p1 | q_1 | w1=>exact rfl)
    (case o2=>k_is)
    (case u2=>kernel_rfl)
    (case ni2=>k_is)
    (case tl2=>kernel_rfl)
    (case ga2 | gb2 | ha2 | hm2 | hb2=>k_is)
    (case cl2 | p2 | q_2 | w2 | g2_1 | g2_2 | g2_3 | g2_4 | g2_5 | g2_6 | g2_7 | g2_8 | g2_9 | g2_10 | g2_11 | g2_12 | g2_13 | g2_14 | g2_15 | g2_16 | g2_17 | g2_18 | g2_19 | g2_20=>exact rfl)
    (case o4=>k_is)
    (case u4=>kernel_rfl)
    (case ni4=>k_is)
    (case tl4=>kernel_rfl)
    (case il4 | ic4 | ik4=>k_is)
    (case kc4=>first | k_is | exact rfl)
    (case sa4=>k_is)
    (case po4=>exact rfl)
    (case na4=>k_is)
    (case hd_4=>first | k_is | exact rfl)
    (case ga4 | gb4 | ha4 | hm4 | hb4=>k_is)
    (case cl4 | p4 | q_4 | w4 | g4_1 | g4_2 | g4_3 | g4_4 | g4_5 | g4_6 | g4_7 | g4_8 | g4_9 | g4_10 | g4_11 | g4_12 | g4_13 | g4_14 | g4_15 | g4_16 | g4_17 | g4_18 | g4_19 | g4_20=>exact rfl)
end
