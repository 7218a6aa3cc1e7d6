import PyProof.Rows.All
import Wide.All
import OpenK.AllK
import Wide.FinOn
import Lean
import PyProof.EqAt
import PyProof.EqKinds
import PyProof.TupleCall
import PyProof.Rows.SumAny
import PyProof.StationsW
import PyProof.ExcClass3
import OpenK.KOwn
import KE.KTryDeep
import KE.KIsAll
import PyProof.ExcAttrAll.ValueError
import PyProof.ExcBaseAll.ValueError
import PyProof.InstStoreFacts
import PyProof.RulesTry
import PyProof.Rows.SortStr
import PyProof.TupleOfSeq
import KE.KxWritten
import PyProof.Conv_bool
import KE.KStrOpen
import PyProof.AttrMissHeap
import KE.KDictOf
import PyProof.StrOps2
import PyProof.DictWalks
import KE.KDictList
import PyProof.Rows.ZipGen
import PySem.Challenge.RW_orderkeep_k03_no_webs
namespace PySem.W.Fast
def tw7263898487361271401:=0
def tw11354563436200195832:=0
def tw10724553896027142930:=0
def tw2295601571193823155:=0
def tw7269971392093091730:=0
def tw16746133609511984426:=0
def tw9863615957863277241:=0
def tw1823583587610753806:=0
def tw11705332379525135754:=0
def tw1757980789073887608:=0
def tw9848244184567225199:=0
def tw14845843440016565932:=0
def tw16775851798587408834:=0
def tw2506882994403277818:=0
def tw9369366076122930335:=0
def tw16922744797530835016:=0
def tw1482876761611745173:=0
def tw8657848438391040068:=0
def tw566867293544591971:=0
def tw15340352955821906436:=0
def tw11739853748155471236:=0
def tw12072351201948787060:=0
def tw11899583238461250265:=0
def tw17013783770513074796:=0
def tw3957525040404168371:=0
def tw15283829650644565833:=0
def tw6549767825736881074:=0
def tw13644658721038806023:=0
def tw3044050160535948793:=0
def tw8450925089240676103:=0
def tw11600637454668305977:=0
def tw12569154128536703657:=0
def tw9857176761480711689:=0
def tw3362071330378402826:=0
def tw1304295203154861275:=0
def tw4317995359516785076:=0
def tw4573289361463169707:=0
def tw13513172645538550129:=0
def tw3581602700380688730:=0
def tw4151966995681777321:=0
def tw3033774517445657437:=0
def tw14490321452138813853:=0
def tw16029971390033773175:=0
def tw16772065249569802058:=0
def tw13108316118802529924:=0
def tw378341687169149964:=0
def tw11824545076378911330:=0
def tw6965382647402829477:=0
def tw4945126840493706958:=0
def tw13243795624510542474:=0
def tw5077866653955173757:=0
def tw10335922992744995526:=0
def tw16384613194785353363:=0
def tw2043604303912473819:=0
def tw2011310640389096616:=0
def tw12964262983064902876:=0
def tw15057345969994844906:=0
def tw753857004200678169:=0
def tw8243727741295835007:=0
def tw16649432379553345599:=0
def tw7082254969802824025:=0
def tw13886706355436702721:=0
def tw3342580112906699962:=0
def tw18435704137731185194:=0
def tw15944181362160817151:=0
def tw5248741831171073986:=0
def tw1519803911522908749:=0
def tw18118253515662035943:=0
def tw6747753778287595975:=0
def tw1223881691557985605:=0
def tw6871985396296775360:=0
def tw12579161992278222945:=0
def tw15783246695020623877:=0
def tw8648589071803417307:=0
def tw1477703993722720185:=0
def tw5896674470031535790:=0
def tw3547179896889843847:=0
def tw16232127275266741062:=0
def tw9735131452494449342:=0
def tw9361269448249065711:=0
def tw1307818208439228658:=0
def tw17895686240820601862:=0
def tw17943784082837888225:=0
def tw7538893739175103603:=0
def tw4957662357533936876:=0
def tw13692176720239702715:=0
def tw2463118936112171016:=0
def tw16277369065700998346:=0
def tw10658800765929571525:=0
def tw6372391497186010841:=0
def tw16774311632433497153:=0
def tw11175058063747255778:=0
def tw10528333166162348016:=0
def tw11976510046132655517:=0
def tw4681412428663897518:=0
def tw15870988406428348301:=0
def tw12011103642286556307:=0
def tw4366505313015703326:=0
def tw12861596930198368584:=0
def tw734312439133927172:=0
def tw15097966078914301501:=0
def tw2036815853349218884:=0
def tw7476740359435011548:=0
def tw4152961249447400322:=0
def tw2817871197570290437:=0
def tw1253368923477010522:=0
def tw15554749302432504104:=0
def tw14361926611678262756:=0
def tw5613485568107901313:=0
def tw3825252653423732251:=0
def tw2178214535665710006:=0
def tw17021315134470227393:=0
def tw14466280494827971841:=0
def tw8927898170758756044:=0
def tw10978501698447835102:=0
def tw84489219854117187:=0
def tw8164024664691639307:=0
def tw16110900533672454185:=0
def tw1432435990132904534:=0
def tw8678174393845991115:=0
def tw3120801154505773982:=0
def tw14217446182548344663:=0
def tw15251878078211665105:=0
def tw8921264524966408032:=0
def tw7217239227127805903:=0
def tw3868094671284962393:=0
def tw14586124657378231461:=0
def tw10970593068817760754:=0
def tw8253710543007523611:=0
def tw12460795935160815793:=0
def tw9125633722552276790:=0
def tw14298387533062121592:=0
def tw9523220416617447170:=0
def tw16864304058596175230:=0
def tw4506473259454662796:=0
def tw8549965796588588157:=0
def tw17401637610266019150:=0
def tw5047406778042554118:=0
def tw675476614077979724:=0
def tw17756316804382404627:=0
def tw4503512337146621830:=0
def tw10858571975983252789:=0
def tw12297714364334471237:=0
def tw12441364435290823309:=0
def tw9326924389706247817:=0
def tw17670435506164492614:=0
def tw8420622821685122683:=0
def tw5512771473619980862:=0
def tw16273872729988460717:=0
def tw264747802434130443:=0
def tw10075128068926630252:=0
def tw16795521829282912198:=0
def tw17349203959009730498:=0
def tw1400141216465392577:=0
def tw15197022866303575731:=0
def tw14990690945395158194:=0
def tw4986328485426616183:=0
def tw17823438240174527872:=0
def tw3270814791724856035:=0
def tw8572257850923692323:=0
def tw17879995222058690164:=0
def tw17771665108219915668:=0
def tw5131750245679370147:=0
def tw3186496169707826530:=0
def tw13204901155025327484:=0
def tw6622831080629405197:=0
def tw16891418128118940774:=0
def tw8739821636906285687:=0
def tw16460070465248489562:=0
def tw17944538756715666664:=0
def tw1002848623248713997:=0
def tw8123688493832890573:=0
def tw16168189955053469318:=0
def tw12674092480667948158:=0
def tw1777238987537931472:=0
def tw29005615727150510:=0
def tw3669943637252422495:=0
def tw15682545119680501693:=0
def tw8721731577464730379:=0
def tw15543991615219461242:=0
def tw1891485636047303186:=0
def tw10688136035011476899:=0
def tw1825400618061188966:=0
def tw11610004522916198011:=0
def tw16121178454671850484:=0
def tw4741532388882343124:=0
def tw16459176712311108582:=0
def tw13148074137398431773:=0
def tw7063691036939861530:=0
def tw10857534541107354229:=0
def tw7553958479487380947:=0
def tw7072196190063987991:=0
def tw3925861785932569304:=0
def tw4240201865926379328:=0
def tw5684821743580141307:=0
def tw16257481245775803044:=0
def tw11144912795408526603:=0
def tw16758463290811943065:=0
def tw10238579741754457280:=0
def tw16011663672494490731:=0
def tw6381105273120054839:=0
def tw8686673617009357031:=0
def tw12270685510072553160:=0
def tw18068054396243893525:=0
def tw16876693703215077508:=0
def tw1059404752280467011:=0
def tw5694950096944502910:=0
def tw10280037085010455379:=0
def tw16871553750751646416:=0
def tw8041522508070872544:=0
def tw1524481022668886008:=0
def tw11365685049576973453:=0
def tw16041029727444367254:=0
def tw5203311988996613046:=0
def tw16977316166221012859:=0
def tw14590935084312483224:=0
def tw15074404205842158062:=0
def tw16563261818182922597:=0
def tw9410601154872223611:=0
def tw2728487923245348010:=0
def tw11056650927791784708:=0
def tw6244695753664030578:=0
def tw13608747884720427416:=0
def tw10465470322592089677:=0
def tw16864600242773467255:=0
def tw12902027401840318864:=0
def tw18230676788197386190:=0
def tw6627438173822146061:=0
def tw1744441516633717773:=0
def tw7264010810388972231:=0
def tw16919971090000446722:=0
def tw5459141947932638376:=0
def tw6354105583024434883:=0
def tw13403433500884164574:=0
def tw1951261090887786603:=0
def tw12430271508544119664:=0
def tw7641814813586113932:=0
def tw10919259357245248882:=0
def tw5113646006853963362:=0
def tw14076567016428213606:=0
def tw15096730662405617142:=0
def tw15287791388974911930:=0
def tw3397073013837226232:=0
def tw1260012358543256347:=0
def tw10593524485013008541:=0
def tw10210661547138129142:=0
def tw17677469909953067225:=0
def tw10956210299306578034:=0
def tw17617212270696563149:=0
def tw5686866082932199987:=0
def tw8683537773562335659:=0
def tw9011330586738993371:=0
def tw5021122439923045821:=0
def tw5959942705394142617:=0
def tw6470087791968586130:=0
def tw14210506032032995725:=0
def tw33523820197609181:=0
def tw4713553532422286075:=0
def tw12673548902147912940:=0
def tw6779805026587337674:=0
def tw9581597989895578600:=0
def tw13603468801472811494:=0
def tw13639018804827740969:=0
def tw16615889182928079828:=0
def tw11931032452385293232:=0
def tw17585825533878337689:=0
def tw15088359738892337780:=0
def tw2811207820961778763:=0
def tw8871300873341295400:=0
def tw2753006079018696604:=0
def tw11069284676745178752:=0
def tw18332538654109721222:=0
def tw6510139429136709026:=0
def tw7189403497553520499:=0
def tw7205604434813132030:=0
def tw637100282702764689:=0
def tw12669341025432230476:=0
def tw3656919875047206739:=0
def tw3647889879654780315:=0
def tw4854722040988788082:=0
def tw4730438948099196011:=0
def tw6581183487925192361:=0
def tw17984892343143616354:=0
def tw3440283113713997543:=0
def tw371228562943307189:=0
def tw16406958666784133178:=0
def tw16728237316802943704:=0
def tw14185768230742633005:=0
def tw5766133416683601689:=0
def tw11858525955100198362:=0
def tw5031727393053207935:=0
def tw10886336257714441694:=0
def tw17929599956878032072:=0
def tw16192895724207801461:=0
def tw9237174775225937350:=0
def tw9589034088522799098:=0
def tw1232976358511939429:=0
def tw10757646224526012903:=0
def tw7778419689179972799:=0
def tw9060965090724669191:=0
def tw8274588138075899699:=0
def tw7419501099377683509:=0
def tw5077771782883153190:=0
def tw2543124436480392626:=0
def tw4488901940462318506:=0
def tw11050710594086639017:=0
def tw3057799173330754120:=0
def tw5856449036244057414:=0
def tw10004739574619386505:=0
def tw2670742759118993640:=0
def tw9122689711440375852:=0
def tw16901018531623453910:=0
def tw8741937040229386788:=0
def tw5781978380364792683:=0
def tw6155670930599189963:=0
def tw1787623106180039250:=0
def tw6114191259850858256:=0
def tw6749910053023211020:=0
def tw2166811002901556440:=0
def tw13550227126950849028:=0
def tw11159126545396586996:=0
def tw498925688957659436:=0
def tw16447819892766654420:=0
def tw10909145768799119286:=0
def tw8944322661375311340:=0
def tw9147347823911764648:=0
def tw11424917153705969149:=0
def tw17429050574171666151:=0
def tw1261032898670431787:=0
def tw2254931062995597192:=0
def tw11345317779437772562:=0
def tw2926384358936686285:=0
def tw1419782871484712538:=0
def tw8533478276609994995:=0
def tw8968566983009737595:=0
def tw3140904365017751974:=0
def tw18285277872613741428:=0
def tw15413314648028431011:=0
def tw17630674323264278963:=0
def tw3888294157952485805:=0
def tw12140026994836317415:=0
def tw6596588966922517710:=0
def tw11734667193872395286:=0
def tw17241520324881214203:=0
def tw2367147521385660758:=0
def tw8626815431692836466:=0
def tw151912590547242794:=0
def tw13223006229318521707:=0
def tw2133486085059540497:=0
def tw16173547414432402410:=0
def tw17368704275809286790:=0
def tw5485057311267534540:=0
def tw2537136490547606584:=0
def tw3331536395092199459:=0
def tw5401161172652533187:=0
def tw14839113629914957315:=0
def tw3748330611807242842:=0
def tw4589125818303021041:=0
def tw11266671591715171969:=0
def tw6439176404601984131:=0
def tw15105129434269001212:=0
def tw12418613761905445263:=0
def tw10894689044717362549:=0
def tw13114673060397591258:=0
def tw10430289061386035871:=0
def tw14304928391594819677:=0
def tw2353111349544408085:=0
def tw192526660244573659:=0
def tw10590099764519557884:=0
def tw7254226753856641101:=0
def tw8747078238704399190:=0
def tw16551539009401800195:=0
def tw6829615256476962831:=0
def tw9024687015910679173:=0
def tw3958883845093991109:=0
def tw10411159626131096390:=0
def tw16570377859547366723:=0
def tw11408487292904169735:=0
def tw6350174986509271233:=0
def tw12199707737000522230:=0
def tw1511765776188104743:=0
def tw16273968648609325053:=0
def tw10629612703001952155:=0
def tw17957598432762017230:=0
def tw16439599514957482506:=0
def tw4959766793865818166:=0
def tw18010793578845123707:=0
def tw18089284511869333491:=0
def tw1455676971906511545:=0
def tw9878575947653990127:=0
def tw12974511737938698480:=0
def tw9536782929544400803:=0
def tw11809820056738001723:=0
def tw7389024089620588046:=0
def tw10807443283458824806:=0
def tw1694457134873807881:=0
def tw15565271995637059140:=0
def tw3142605367264692897:=0
def tw8638796906545073954:=0
def tw7653546288157682913:=0
def tw11420031588175268320:=0
def tw6591271922781086915:=0
def tw18333303877171517718:=0
def tw17882142651001178100:=0
def tw17045478032134861401:=0
def tw13771370309492798629:=0
def tw17908751690903781242:=0
def tw2254287942468144305:=0
def tw10887383114969525088:=0
def tw11946165922595278685:=0
def tw18218176678911739495:=0
def tw9121243126030759781:=0
def tw4704079222487648207:=0
def tw5317937547367709346:=0
def tw3550666742735813784:=0
def tw4329435045545184726:=0
def tw14914195288870901285:=0
def tw504404484010075752:=0
def tw15897748366780059171:=0
def tw17496652405613546838:=0
def tw9065654207686782504:=0
def tw17426701949849128298:=0
def tw13368007005292938277:=0
def tw7631715269301692430:=0
def tw13309223276872086048:=0
def tw8954230654275795971:=0
def tw1934825903518329818:=0
def tw12496637271685533005:=0
def tw8134457695048070011:=0
def tw8308642910309648887:=0
def tw15279988680354881652:=0
def tw2566373884871683332:=0
def tw409236724152817328:=0
def tw11867521374881226800:=0
def tw17147077590276439332:=0
def tw11502890103766238342:=0
def tw8175087746153865995:=0
def tw14208813727415848002:=0
def tw9202148240630434531:=0
def tw6832198768660959368:=0
def tw878587728715547989:=0
def tw14161114622353522150:=0
def tw12285236708016139680:=0
def tw4291411327424595483:=0
def tw9712255280038343505:=0
def tw17034972216340923899:=0
def tw7298497450102439955:=0
def tw15962107213507279079:=0
def tw14677889016565155188:=0
end PySem.W.Fast
set_option Elab.async false
set_option linter.all false
set_option maxRecDepth 100000
namespace L2
open PySem PySem.Spec PyProof.Rows
noncomputable abbrev Key := Sum Int Str
noncomputable def keyIs : Key → Value → Bool
  | .inl k, v => Value.isInt k v
  | .inr x, v => Value.isStrOf x v
noncomputable def keyH (w : World) : Key → Int
  | .inl k => hashInt k
  | .inr x => hashStr w x
theorem keyIs_shape : ∀ {k : Key} {v : Value}, keyIs k v = true → (∃ i t, k = Sum.inl i ∧ v = Value.int i t) ∨ (∃ x t, k = Sum.inr x ∧ v = Value.str x t)
  | .inl i, v, h => by
    obtain ⟨t, e⟩ := Value.isInt_shape (k := i) (v := v) h
    exact .inl ⟨i, t, rfl, e⟩
  | .inr x, v, h => by
    obtain ⟨t, e⟩ := Value.isStrOf_shape (x := x) (v := v) h
    exact .inr ⟨x, t, rfl, e⟩
theorem keyIs_int (i : Int) (t : Tok) : keyIs (.inl i) (.int i t) = true := by simp [keyIs, Value.isInt]
theorem keyIs_str (x : Str) (t : Tok) : keyIs (.inr x) (.str x t) = true := by simp [keyIs, Value.isStrOf]
theorem key_ll (a b : Int) : decide ((Sum.inl a : Key) = Sum.inl b) = (a == b) := by
  by_cases e : a = b
  · subst e; simp
  · have h : ¬ (Sum.inl a : Key) = Sum.inl b := fun q => e (Sum.inl.inj q)
    rw [decide_eq_false h]
    exact (beq_eq_false_iff_ne.mpr e).symm
theorem key_rr (a b : Str) : decide ((Sum.inr a : Key) = Sum.inr b) = decide (a = b) := by
  by_cases e : a = b
  · subst e; simp
  · have h : ¬ (Sum.inr a : Key) = Sum.inr b := fun q => e (Sum.inr.inj q)
    rw [decide_eq_false h, decide_eq_false e]
theorem key_lr (a : Int) (b : Str) : decide ((Sum.inl a : Key) = Sum.inr b) = false := decide_eq_false (fun q => nomatch q)
theorem key_rl (a : Str) (b : Int) : decide ((Sum.inr a : Key) = Sum.inl b) = false := decide_eq_false (fun q => nomatch q)
noncomputable def mixKind (prog : Program) (w : World) : PySem.KeyKind prog w Key where
  is := keyIs
  hash := keyH w
  inj := fun v a b ha hb => by
    rcases keyIs_shape ha with ⟨i, t, rfl, rfl⟩ | ⟨x, t, rfl, rfl⟩
    · rcases keyIs_shape hb with ⟨j, u, rfl, e⟩ | ⟨y, u, rfl, e⟩
      · injection e with e1 _; rw [e1]
      · exact nomatch e
    · rcases keyIs_shape hb with ⟨j, u, rfl, e⟩ | ⟨y, u, rfl, e⟩
      · exact nomatch e
      · injection e with e1 _; rw [e1]
  byValue := fun k v h => by
    rcases keyIs_shape h with ⟨i, t, rfl, rfl⟩ | ⟨x, t, rfl, rfl⟩ <;> rfl
  pyHash := fun hv h => by
    rcases keyIs_shape hv with ⟨i, t, rfl, rfl⟩ | ⟨x, t, rfl, rfl⟩
    · exact wpAny_pyHash_int h
    · exact wpAny_pyHash_str h
  eqBool := fun hu hv h => by
    rcases keyIs_shape hu with ⟨i, t, rfl, rfl⟩ | ⟨x, t, rfl, rfl⟩
    · rcases keyIs_shape hv with ⟨j, u, rfl, rfl⟩ | ⟨y, u, rfl, rfl⟩
      · rw [key_ll] at h; exact wpAny_eqBool_int h
      · rw [key_lr] at h; exact SeqAt.EqAt.int_str i t y u _ _ _ _ h
    · rcases keyIs_shape hv with ⟨j, u, rfl, rfl⟩ | ⟨y, u, rfl, rfl⟩
      · rw [key_rl] at h; exact SeqAt.EqAt.str_int x t j u _ _ _ _ h
      · rw [key_rr] at h; exact wpAny_eqBool_str h
  «strs» := fun k x t v h => by
    rcases keyIs_shape h with ⟨i, u, rfl, e⟩ | ⟨y, u, rfl, e⟩
    · exact nomatch e
    · injection e with e1 _
      subst e1
      cases v <;> rfl
theorem mixKind_int (prog : Program) (w : World) (i : Int) (t : Tok) : (mixKind prog w).is (.inl i) (.int i t) = true := keyIs_int i t
theorem mixKind_str (prog : Program) (w : World) (x : Str) (t : Tok) : (mixKind prog w).is (.inr x) (.str x t) = true := keyIs_str x t
end L2
namespace L2
open PySem PySem.Spec PyProof.Rows
inductive V where
  | non | bl (b : Bool) | int (i : Int) | str (x : Str) | byt (b : Array UInt8) | flt (b : UInt64) | ref (a : Addr) | ty (n : String)
  deriving DecidableEq
noncomputable def RelV : V → Value → Prop
  | .non, u => u = Value.none
  | .bl b, u => u = Value.bool b
  | .int i, u => ∃ t, u = Value.int i t
  | .str x, u => ∃ t, u = Value.str x t
  | .byt b, u => ∃ t, u = Value.bytes b t
  | .flt b, u => ∃ t, u = Value.float b t
  | .ref a, u => u = Value.ref a
  | .ty n, u => u = Value.type n
noncomputable abbrev Vals : List V → List Value → Prop := Paired RelV
theorem Vals.length {xs : List V} {us : List Value} (r : Vals xs us) : xs.length = us.length := Paired.length r
theorem Vals.get : ∀ {xs : List V} {us : List Value} {i : Nat} {x : V}, Vals xs us → xs[i]? = some x → ∃ u, us[i]? = some u ∧ RelV x u
  | _, _, _, _, .nil, e => by simp at e
  | _, _, 0, _, .cons r _, e => by simp at e; subst e; exact ⟨_, rfl, r⟩
  | _, _, i + 1, x, .cons _ t, e => by
    obtain ⟨u, h1, h2⟩ := Vals.get (i := i) (x := x) t (by simpa using e)
    exact ⟨u, by simpa using h1, h2⟩
theorem Vals.set {x : V} {u : Value} (r : RelV x u) : ∀ {xs : List V} {us : List Value} (i : Nat), Vals xs us → Vals (xs.set i x) (us.set i u)
  | _, _, _, .nil => .nil
  | _, _, 0, .cons _ t => .cons r t
  | _, _, i + 1, .cons q t => .cons q (Vals.set r i t)
theorem Vals.append : ∀ {xs ys : List V} {us ws : List Value}, Vals xs us → Vals ys ws → Vals (xs ++ ys) (us ++ ws)
  | _, _, _, _, .nil, s => s
  | _, _, _, _, .cons r t, s => .cons r (Vals.append t s)
theorem Vals.take : ∀ {xs : List V} {us : List Value} (n : Nat), Vals xs us → Vals (xs.take n) (us.take n)
  | _, _, 0, _ => .nil
  | _, _, _ + 1, .nil => .nil
  | _, _, n + 1, .cons r t => .cons r (Vals.take n t)
theorem Vals.drop : ∀ {xs : List V} {us : List Value} (n : Nat), Vals xs us → Vals (xs.drop n) (us.drop n)
  | _, _, 0, r => r
  | _, _, _ + 1, .nil => .nil
  | _, _, n + 1, .cons _ t => Vals.drop n t
noncomputable def RelO : Option V → Option Value → Prop
  | some v, some u => RelV v u
  | none, none => True
  | _, _ => False
noncomputable def KV {κ : Type} : List (κ × V) → List (κ × Value) → Prop := Paired fun (p : κ × V) (q : κ × Value) => p.1 = q.1 ∧ RelV p.2 q.2
noncomputable def kV : Key → V
  | .inl i => .int i
  | .inr x => .str x
inductive HO where
  /-- a list -/
  | lst (xs : List V)
  /-- a tuple (never changes) -/
  | tup (xs : List V)
  /-- a dict whose keys are ints and texts; one whose keys are tuples of ints and texts (the empty one is both) -/
  | dK (kvs : List (Key × V)) | dT (kvs : List (List Key × V))
  /-- a set of ints: its members, its size -/
  | set (S : Int → Bool) (n : Nat)
  /-- an instance of the class at C, its dict at dx, its attributes -/
  | ins (C dx : Addr) (fs : List (Str × V))
  /-- the dict of the instance at x -/
  | own (x : Addr)
  /-- the dict of an exception -/
  | xd (fs : List (Str × V))
  /-- a bound method, f of x -/
  | met (f x : Addr)
  /-- a range object lo, lo + 1, .. below hi -/
  | rng (lo hi : Int)
  /-- a thing that is known to the object (the script; a dict while a loop walks it): read, never written while it is so -/
  | frz (o : Obj) (u : HO)
  /-- a code object's table -/
  | tbl (ps : Array Value)
  /-- any other thing, by what is true of its one object (a def of one's own: SetO a S n := HO.ext fun h => ..) -/
  | ext (φ : Heap → Prop)
noncomputable abbrev Hp := Addr → Option HO
noncomputable def upd (H : Hp) (a : Addr) (o : HO) : Hp := fun b => if b = a then some o else H b
theorem upd_same {H : Hp} {a : Addr} {o : HO} : upd H a o a = some o := by unfold upd; rw [if_pos rfl]
theorem upd_ne {H : Hp} {a b : Addr} {o : HO} (h : b ≠ a) : upd H a o b = H b := by unfold upd; rw [if_neg h]
theorem ne_of {H : Hp} {a b : Addr} {o u : HO} (h : H a = some o) (h' : H b = some u) (d : o ≠ u) : a ≠ b := by
  intro e; subst e; rw [h] at h'; exact d (Option.some.inj h')
theorem ne_of_none {H : Hp} {a b : Addr} {o : HO} (h : H a = some o) (h' : H b = none) : a ≠ b := by
  intro e; subst e; rw [h] at h'; cases h'
noncomputable def TupN (h : Heap) (a : Addr) (items : Array Value) : Prop := ∃ o, h.get? a = some o ∧ o.cls = .type "tuple" ∧ ∃ n, o.data = .seq items n ∧ o.dict = none
theorem TupN.tup {h : Heap} {a : Addr} {items : Array Value} (x : TupN h a items) : IsTup h a items := let ⟨o, e, c, n, d, _⟩ := x; ⟨o, e, c, n, d⟩
theorem TupN.new (h : Heap) (items : Array Value) : TupN (h.push { cls := .type "tuple", data := .seq items }) h.objs.size items := ⟨_, Heap.get?_push_size _ rfl, rfl, _, rfl, rfl⟩
section
variable (P : Program) (w : World)
noncomputable def ObjOk (H : Hp) (h : Heap) (a : Addr) : HO → Prop
  | .lst xs => xs.length ≤ sizeLine ∧ ∃ (its : List Value) (n : Nat), Vals xs its ∧ h.get? a = some { cls := .type "list", data := .seq its.toArray n }
  | .tup xs => xs.length ≤ sizeLine ∧ ∃ its : List Value, Vals xs its ∧ TupN h a its.toArray
  | .dK kvs => kvs.length ≤ sizeLine ∧ (a == sysModules) = false ∧ ∃ vs, KV kvs vs ∧ h.DictOf (mixKind P w) a vs
  | .dT kvs => kvs.length ≤ sizeLine ∧ (a == sysModules) = false ∧ ∃ xs : List (List Key × Addr × Value),
      Paired (fun (p : List Key × V) (q : List Key × Addr × Value) => p.1 = q.1 ∧ H q.2.1 = some (.tup (p.1.map kV)) ∧ RelV p.2 q.2.2) kvs xs ∧
      ∃ o es ep, h.get? a = some o ∧ o.ExactDict ∧ o.data = .dict es ep ∧ es.toList = xs.map (entryOfKey (tupleKind (mixKind P w))) ∧ (xs.map (·.1)).Nodup
  | .set S n => h.SetOf (intKind P w) a S n
  | .ins C dx fs => H dx = some (.own a) ∧ fs.length ≤ 1000 ∧ dx ≠ a ∧ h.get? a = some (PySem.W.instObj C dx) ∧
      ∃ mA, h.Ns1 dx mA ∧ (∀ f, RelO (fs.lookup f) (mA f)) ∧ PySem.Within mA (fs.map (·.1))
  | .own _ => ∃ o, h.get? a = some o
  | .xd fs => ∃ mA, h.Ns1 a mA ∧ ∀ f, RelO (fs.lookup f) (mA f)
  | .rng lo hi => ∃ t u v, h.get? a = some { cls := .type "range", data := .fields #[.int lo t, .int hi u, .int 1 v] }
  | .frz o u => h.get? a = some o ∧ ObjOk H h a u
  | .tbl ps => h.get? a = some { cls := .none, data := .fields ps }
  | .met f x => h.get? a = some (PySem.W.methodObj (.ref f) (.ref x))
  | .ext φ => φ h ∧ (∃ o, h.get? a = some o) ∧ ∀ h1 h2 : Heap, φ h1 → (∀ o, h1.get? a = some o → h2.get? a = some o) → φ h2
noncomputable def HOk (H : Hp) (h : Heap) : Prop := ∀ a o, H a = some o → ObjOk P w H h a o
end
section
variable {P : Program} {w : World} {H H' : Hp} {h h' : Heap} {a : Addr} {o : HO}
theorem ObjOk.lt (x : ObjOk P w H h a o) : a < h.objs.size := by
  cases o with
  | lst xs => obtain ⟨_, _, _, _, e⟩ := x; exact Heap.lt_size e
  | tup xs => obtain ⟨_, _, _, p⟩ := x; exact p.tup.lt
  | dK kvs => obtain ⟨_, _, _, _, o, _, _, e, _⟩ := x; exact Heap.lt_size e
  | dT kvs => obtain ⟨_, _, _, _, o, _, _, e, _⟩ := x; exact Heap.lt_size e
  | set S n => obtain ⟨o, _, _, _, e, _⟩ := x; exact Heap.lt_size e
  | ins C dx fs => obtain ⟨_, _, _, e, _⟩ := x; exact Heap.lt_size e
  | own y => obtain ⟨_, e⟩ := x; exact Heap.lt_size e
  | xd fs => obtain ⟨_, ⟨_, _, _, e, _⟩, _⟩ := x; exact Heap.lt_size e
  | rng lo hi => obtain ⟨_, _, _, e⟩ := x; exact Heap.lt_size e
  | frz ob u => obtain ⟨e, _⟩ := x; exact Heap.lt_size e
  | tbl ps => exact Heap.lt_size (show h.get? a = some _ from x)
  | met f y => exact Heap.lt_size (show h.get? a = some _ from x)
  | ext φ => obtain ⟨_, ⟨_, e⟩, _⟩ := x; exact Heap.lt_size e
theorem Paired.mapP {α β : Type} {F G : α → β → Prop} : ∀ {l₁ : List α} {l₂ : List β}, Paired F l₁ l₂ → (∀ a b, F a b → G a b) → Paired G l₁ l₂
  | _, _, .nil, _ => .nil
  | _, _, .cons r t, f => .cons (f _ _ r) (Paired.mapP t f)
theorem ObjOk.stay (x : ObjOk P w H h a o) (k : ∀ b u, (b = a ∨ H b = some (.own a)) → h.get? b = some u → h'.get? b = some u)
    (ho : ∀ b, H b = some (.own a) → H' b = some (.own a)) (ht : ∀ b xs, H b = some (.tup xs) → H' b = some (.tup xs)) : ObjOk P w H' h' a o := by
  induction o with
  | lst xs => obtain ⟨z, its, n, r, e⟩ := x; exact ⟨z, its, n, r, k _ _ (.inl rfl) e⟩
  | tup xs => obtain ⟨z, its, r, ob, e, c⟩ := x; exact ⟨z, its, r, ob, k _ _ (.inl rfl) e, c⟩
  | dK kvs => obtain ⟨z, y, vs, r, ob, es, ep, e, c⟩ := x; exact ⟨z, y, vs, r, ob, es, ep, k _ _ (.inl rfl) e, c⟩
  | dT kvs =>
    obtain ⟨z, y, xs, r, ob, es, ep, e, c⟩ := x
    exact ⟨z, y, xs, Paired.mapP r fun p q z => ⟨z.1, ht _ _ z.2.1, z.2.2⟩, ob, es, ep, k _ _ (.inl rfl) e, c⟩
  | set S n => obtain ⟨ob, es, ep, t, e, c⟩ := x; exact ⟨ob, es, ep, t, k _ _ (.inl rfl) e, c⟩
  | ins C dx fs =>
    obtain ⟨d, z, ne, e, mA, ⟨od, es, ep, e2, c⟩, r⟩ := x
    exact ⟨ho _ d, z, ne, k _ _ (.inl rfl) e, mA, ⟨od, es, ep, k _ _ (.inr d) e2, c⟩, r⟩
  | own y => obtain ⟨ob, e⟩ := x; exact ⟨ob, k _ _ (.inl rfl) e⟩
  | xd fs => obtain ⟨mA, ⟨od, es, ep, e, c⟩, r⟩ := x; exact ⟨mA, ⟨od, es, ep, k _ _ (.inl rfl) e, c⟩, r⟩
  | rng lo hi => obtain ⟨t, u, v, e⟩ := x; exact ⟨t, u, v, k _ _ (.inl rfl) e⟩
  | frz ob u ih => obtain ⟨e, q⟩ := x; exact ⟨k _ _ (.inl rfl) e, ih q⟩
  | tbl ps =>
    have e : h.get? a = some { cls := .none, data := .fields ps } := x
    show h'.get? a = some { cls := .none, data := .fields ps }
    exact k a _ (.inl rfl) e
  | met f y =>
    have e : h.get? a = some (PySem.W.methodObj (.ref f) (.ref y)) := x
    show h'.get? a = some (PySem.W.methodObj (.ref f) (.ref y))
    exact k a _ (.inl rfl) e
  | ext φ => obtain ⟨p, ⟨o, e⟩, st⟩ := x; exact ⟨st _ _ p fun o q => k _ _ (.inl rfl) q, ⟨o, k _ _ (.inl rfl) e⟩, st⟩
theorem HOk.lt (x : HOk P w H h) (e : H a = some o) : a < h.objs.size := (x a o e).lt
theorem HOk.fresh (x : HOk P w H h) (e : h.objs.size ≤ a) : H a = none := by
  cases q : H a with
  | none => rfl
  | some u => exact absurd (Nat.lt_of_lt_of_le (x.lt q) e) (Nat.lt_irrefl _)
theorem HOk.kept (x : HOk P w H h) (k : ∀ b u, h.get? b = some u → h'.get? b = some u) : HOk P w H h' := fun a o e =>
  (x a o e).stay (fun b u _ q => k b u q) (fun _ q => q) fun _ _ q => q
theorem HOk.laid (x : HOk P w H h) (k : ∀ b u, h.get? b = some u → h'.get? b = some u) (hp : h.objs.size ≤ a) (new : ObjOk P w (upd H a o) h' a o) : HOk P w (upd H a o) h' := fun b u e => by
  have hn := x.fresh hp
  by_cases hb : b = a
  · subst hb; rw [upd_same] at e; cases e; exact new
  · rw [upd_ne hb] at e
    exact (x b u e).stay (fun c v _ q => k c v q) (fun c q => by rw [upd_ne (ne_of_none q hn)]; exact q) fun c xs q => by rw [upd_ne (ne_of_none q hn)]; exact q
end
noncomputable def Rd (H : Hp) (a : Addr) (u : HO) : Prop := H a = some u ∨ ∃ o, H a = some (.frz o u)
theorem Rd.ok {P : Program} {w : World} {H : Hp} {h : Heap} {a : Addr} {u : HO} (r : Rd H a u) (x : HOk P w H h) : ObjOk P w H h a u := by
  rcases r with r | ⟨o, r⟩
  · exact x a u r
  · obtain ⟨_, q⟩ := x a _ r
    exact q
noncomputable def Mut : Option HO → Prop
  | some (.lst _) => True
  | some (.dK _) => True
  | some (.dT _) => True
  | some (.set _ _) => True
  | some (.ins _ _ _) => True
  | some (.ext _) => True
  | _ => False
section
variable {P : Program} {w : World} {H : Hp} {h h' : Heap} {x e : Addr} {o' : HO}
theorem HOk.write (ok : HOk P w H h) (mu : Mut (H x)) (he : e = x ∨ H e = some (.own x)) (k : ∀ b u, b ≠ e → h.get? b = some u → h'.get? b = some u) (heo : ∃ u, h'.get? e = some u)
    (new : ObjOk P w (upd H x o') h' x o') : HOk P w (upd H x o') h' := fun b u q => by
  have nown : ∀ c y, H c = some (.own y) → c ≠ x := fun c y r z => by subst z; rw [r] at mu; exact mu
  have ntup : ∀ c xs, H c = some (.tup xs) → c ≠ x := fun c xs r z => by subst z; rw [r] at mu; exact mu
  by_cases hb : b = x
  · subst hb; rw [upd_same] at q; cases q; exact new
  · rw [upd_ne hb] at q
    by_cases hbe : b = e
    · have q' : H b = some (.own x) := by
        rcases he with z | z
        · exact absurd (hbe.trans z) hb
        · rw [hbe]; exact z
      rw [q] at q'; cases q'
      obtain ⟨v, hv⟩ := heo
      exact ⟨v, by rw [hbe]; exact hv⟩
    · refine (ok b u q).stay (fun c v hc r => k c v ?_ r) (fun c r => by rw [upd_ne (nown c b r)]; exact r) fun c xs r => by rw [upd_ne (ntup c xs r)]; exact r
      rcases hc with rfl | hc
      · exact hbe
      · rintro rfl
        rcases he with z | z
        · exact nown c b hc z
        · rw [hc] at z; cases z; exact hb rfl
end
structure Un (fs ex : List Addr) (H H' : Hp) (h h' : Heap) : Prop where
  keep : ∀ b o, h.get? b = some o → H b = none → b ∉ fs → b ∉ ex → h'.get? b = some o
  slot : ∀ b o, h.get? b = some o → H b = none → b ∈ fs → b ∉ ex → ∃ sl, h'.get? b = some { o with slots := sl }
  free : ∀ b o, h.get? b = some o → H b = none → b ∉ ex → H' b = none
  there : ∀ b o, h.get? b = some o → b ∉ ex → ∃ o', h'.get? b = some o'
  tups : ∀ b xs, H b = some (.tup xs) → H' b = some (.tup xs)
  frzs : ∀ b o u, H b = some (.frz o u) → H' b = some (.frz o u)
  tbls : ∀ b ps, H b = some (.tbl ps) → ∃ more, H' b = some (.tbl (ps ++ more))
section
variable {fs fs' ex ex' : List Addr} {H H1 H2 : Hp} {h h1 h2 h' : Heap} {a x e : Addr} {o : HO}
theorem Un.any (u : Un fs ex H H1 h h1) {b : Addr} {ob : Obj} (q : h.get? b = some ob) (n : H b = none) (hx : b ∉ ex) : ∃ sl, h1.get? b = some { ob with slots := sl } := by
  by_cases hb : b ∈ fs
  · exact u.slot b ob q n hb hx
  · exact ⟨ob.slots, u.keep b ob q n hb hx⟩
theorem Un.kept (k : ∀ b u, h.get? b = some u → h'.get? b = some u) : Un fs ex H H h h' :=
  ⟨fun b ob q _ _ _ => k b ob q, fun b ob q _ _ _ => ⟨ob.slots, k b ob q⟩, fun _ _ _ n _ => n, fun b ob q _ => ⟨ob, k b ob q⟩, fun _ _ q => q, fun _ _ _ q => q, fun _ ps q => ⟨#[], by rw [q]; simp⟩⟩
theorem Un.refl : Un fs ex H H h h := Un.kept fun _ _ q => q
theorem Un.laid (k : ∀ b u, h.get? b = some u → h'.get? b = some u) (hp : h.objs.size ≤ a) (hn : H a = none) : Un fs ex H (upd H a o) h h' where
  keep := fun b u q _ _ _ => k b u q
  slot := fun b u q _ _ _ => ⟨u.slots, k b u q⟩
  free := fun b u q n _ => by rw [upd_ne (Nat.ne_of_lt (Nat.lt_of_lt_of_le (Heap.lt_size q) hp))]; exact n
  there := fun b u q _ => ⟨u, k b u q⟩
  tups := fun b xs q => by rw [upd_ne (ne_of_none q hn)]; exact q
  frzs := fun b u xs q => by rw [upd_ne (ne_of_none q hn)]; exact q
  tbls := fun b ps q => ⟨#[], by rw [upd_ne (ne_of_none q hn), q]; simp⟩
theorem Un.write (mu : Mut (H x)) (he : e = x ∨ H e = some (.own x)) (k : ∀ b u, b ≠ e → h.get? b = some u → h'.get? b = some u) (heo : ∃ u, h'.get? e = some u) : Un fs ex H (upd H x o) h h' := by
  have hx : ∀ b, H b = none → b ≠ x := fun b n z => by subst z; rw [n] at mu; exact mu
  have hb : ∀ b, H b = none → b ≠ e := fun b n z => by
    subst z
    rcases he with r | r
    · exact hx b n r
    · rw [n] at r; cases r
  have hm : ∀ b u, H b = some u → ¬ Mut (some u) → b ≠ x := fun b u q nm z => by subst z; rw [q] at mu; exact nm mu
  refine ⟨fun b u q n _ _ => k b u (hb b n) q, fun b u q n _ _ => ⟨u.slots, k b u (hb b n) q⟩, fun b u q n _ => by rw [upd_ne (hx b n)]; exact n, fun b u q _ => ?_,
    fun b xs q => by rw [upd_ne (hm b _ q fun z => z)]; exact q, fun b u xs q => by rw [upd_ne (hm b _ q fun z => z)]; exact q, fun b ps q => ⟨#[], by rw [upd_ne (hm b _ q fun z => z), q]; simp⟩⟩
  by_cases hbe : b = e
  · subst hbe; exact heo
  · exact ⟨u, k b u hbe q⟩
end
noncomputable def trk (h : Heap) (H : Hp) : List Addr := (List.range h.objs.size).filter fun a => (H a).isSome
noncomputable def hidT (h : Heap) (H : Hp) : Heap := PySem.W.hideAll h (trk h H)
theorem hidT_size (h : Heap) (H : Hp) : (hidT h H).objs.size = h.objs.size := PySem.W.hideAll_size _ _
theorem hidT_get {h : Heap} {H : Hp} {b : Addr} {o : Obj} (e : h.get? b = some o) (n : H b = none) : (hidT h H).get? b = some o :=
  PySem.W.hideAll_get _ e fun hm => by
    have q : (H b).isSome = true := (List.mem_filter.mp hm).2
    rw [n] at q; simp at q
theorem of_hidT {h : Heap} {H : Hp} {b : Addr} {o : Obj} (e : (hidT h H).get? b = some o) : h.get? b = some o ∧ H b = none := by
  have e' : h.get? b = some o := PySem.W.of_hideAll (trk h H) e
  refine ⟨e', ?_⟩
  cases q : H b with
  | none => rfl
  | some x =>
    have hm : b ∈ trk h H := List.mem_filter.mpr ⟨List.mem_range.mpr (Heap.lt_size e'), by simp [q]⟩
    have z : (hidT h H).get? b = none := PySem.W.hideAll_none (trk h H) hm
    rw [z] at e; cases e
noncomputable def allNews (g h : Heap) (L : Addr) : List (Addr × Obj) := (List.range h.objs.size).filterMap fun a => if a = L ∨ (g.get? a).isSome = true then none else (h.get? a).map fun o => (a, o)
noncomputable def rest (g h : Heap) (L d : Addr) : List (Addr × Obj) := (allNews g h L).filter fun p => decide (p.1 ≠ d)
end L2
namespace L2
open PySem PySem.Spec PyProof.Rows
structure Mod (K : PySem.W.Frag) (mg : Str → Option Value) (base : Heap) : Prop where
  kin : K.In base
  glob : base.Ns mainGlobals mg
  blt : ∃ mb, base.Ns builtinsNs mb ∧ ∀ x : Str, x ≠ "__name__" → mb x = bootBuiltins x
  nolimit : base.NoLimit
structure Cx where
  prog : Program
  w : World
  K : PySem.W.Frag
  mg : Str → Option Value
  base : Heap
  A : Around
  N : List Str
  s₀ : Shared
  H₀ : Hp
  env : Env
  outer : List Env
  stack : List Env
  ex : List Addr
  fn : Str → Bool
  calm : Bool
  pn : List (Addr × Obj)
  xe : Value → Shared → Prop
noncomputable def frs (l : List Env) : List Addr := l.filterMap (·.frame)
noncomputable abbrev Cx.fs (X : Cx) : List Addr := frs X.outer
noncomputable def Vis (sc : Scope) (x : Str) : Prop := sc.names.lookup x = some .local ∨ sc.names.lookup x = some .cell ∨ sc.names.lookup x = some .free
noncomputable def Loc (sc : Scope) (x : Str) : Prop := sc.names.lookup x = some .local ∨ sc.names.lookup x = some .cell
noncomputable def Look (env : Env) (h : Heap) (m : Str → Option Value) (x : Str) (u : Value) : Prop :=
  (env.kindOf x = some .local ∧ m x = some u) ∨ ((env.kindOf x = some .cell ∨ env.kindOf x = some .free) ∧ ∃ c, env.cells.lookup x = some c ∧ h.IsCell c (some u))
structure Cx.Ok (X : Cx) : Prop where
  mod : Mod X.K X.mg X.base
  kind : X.env.scope.kind = .function
  glob : X.env.globals = mainGlobals
  blt : X.env.builtins = builtinsNs
  above : X.s₀.heap.objs.size ≤ X.env.locals
  inj : ∀ x y c, X.env.cells.lookup x = some c → X.env.cells.lookup y = some c → x = y
  has : ∀ x, (X.env.kindOf x = some .cell ∨ X.env.kindOf x = some .free) → ∃ c, X.env.cells.lookup x = some c
  cab : ∀ x c, X.fn x = true → X.env.cells.lookup x = some c → X.s₀.heap.objs.size ≤ c
  hd : X.calm = true → X.A.handled = none
  frames : X.A.frames = some X.stack
  stk : X.stack = X.outer ∨ (X.stack = X.env :: X.outer ∧ X.env.frame = some X.env.locals)
  exf : ∀ b ∈ X.ex, b ≠ X.env.locals ∧ ∀ x c, X.env.cells.lookup x = some c → c ≠ b
  bs : ∀ b o, X.base.get? b = some o → X.s₀.heap.get? b = some o ∧ X.H₀ b = none
  bsz : X.base.objs.size ≤ X.s₀.heap.objs.size
  noex : ∀ b o, X.base.get? b = some o → b ∉ X.ex
  exfs : ∀ b ∈ X.ex, b ∉ X.fs
  funs : X.s₀.heap.FunFrames X.base X.outer
  frf : ∀ b ∈ X.fs, X.H₀ b = none
structure Inv (X : Cx) (pins : List (Addr × Obj)) (σ : List (Option V)) (H : Hp) (s : Shared) : Prop where
  ok : X.Ok
  os : s.os = X.s₀.os
  bare : AllBare s.gens
  base : Un X.fs X.ex X.H₀ H X.s₀.heap s.heap
  loc : ∃ m, s.heap.Ns X.env.locals m ∧ ∀ (i : Nat) (x : Str) (v : V), X.N[i]? = some x → σ[i]? = some (some v) → Vis X.env.scope x → ∃ u, RelV v u ∧ Look X.env s.heap m x u
  cell : ∀ x c, X.env.cells.lookup x = some c → ∃ v, s.heap.IsCell c v
  free : H X.env.locals = none
  freeC : ∀ x c, X.env.cells.lookup x = some c → H c = none
  pin : ∀ p ∈ X.pn ++ pins, s.heap.get? p.1 = some p.2 ∧ H p.1 = none ∧ p.1 ≠ X.env.locals ∧ p.1 ∉ X.fs ∧ ∀ v, p.2.data ≠ .cell v
  hok : HOk X.prog X.w H s.heap
  len : σ.length = X.N.length
section
variable {X : Cx} {pins : List (Addr × Obj)} {σ : List (Option V)} {H H' : Hp} {s : Shared} {h' : Heap}
theorem Cx.Ok.nofr (ok : X.Ok) {b : Addr} {o : Obj} (e : X.base.get? b = some o) : b ∉ X.fs := fun hb => by
  have := (ok.funs.mem hb).1
  rw [e] at this; cases this
theorem Inv.bs (I : Inv X pins σ H s) : ∀ b o, X.base.get? b = some o → s.heap.get? b = some o ∧ H b = none := fun b o e =>
  ⟨I.base.keep b o (I.ok.bs b o e).1 (I.ok.bs b o e).2 (I.ok.nofr e) (I.ok.noex b o e), I.base.free b o (I.ok.bs b o e).1 (I.ok.bs b o e).2 (I.ok.noex b o e)⟩
theorem Inv.bk (I : Inv X pins σ H s) : ∀ b o, X.base.get? b = some o → s.heap.get? b = some o := fun b o e => (I.bs b o e).1
theorem Inv.mod (I : Inv X pins σ H s) : Mod X.K X.mg X.base := I.ok.mod
theorem Inv.kIn (I : Inv X pins σ H s) : X.K.In s.heap := I.ok.mod.kin.keeps I.bk
theorem Inv.lt (I : Inv X pins σ H s) : X.env.locals < s.heap.objs.size := let ⟨_, hn, _⟩ := I.loc; hn.lt
theorem Inv.sz (I : Inv X pins σ H s) : X.s₀.heap.objs.size ≤ s.heap.objs.size := Nat.le_trans I.ok.above (Nat.le_of_lt I.lt)
theorem Inv.nofs (I : Inv X pins σ H s) {a : Addr} (h : s.heap.objs.size ≤ a) : a ∉ X.fs := fun hb => by
  obtain ⟨_, o, ho, _⟩ := I.ok.funs.mem hb
  exact absurd (Nat.lt_of_lt_of_le (Heap.lt_size ho) (Nat.le_trans I.sz h)) (Nat.lt_irrefl _)
theorem Inv.cne (I : Inv X pins σ H s) : ∀ x c, X.env.cells.lookup x = some c → c ≠ X.env.locals := fun x c e z => by
  obtain ⟨v, o, ho, hd⟩ := I.cell x c e
  obtain ⟨m, ⟨o', es, ep, ho', hd', _⟩, _⟩ := I.loc
  rw [z, ho'] at ho; cases ho; rw [hd'] at hd; cases hd
theorem Inv.funs (I : Inv X pins σ H s) : s.heap.FunFrames X.base X.outer := by
  have all : ∀ (l : List Env), (∀ b ∈ frs l, b ∈ X.fs) → X.s₀.heap.FunFrames X.base l → s.heap.FunFrames X.base l := by
    intro l
    induction l with
    | nil => intro _ _; trivial
    | cons env r ih =>
      intro hs hl
      obtain ⟨hk, ⟨L, o, hf, hn, ho, hd⟩, hr⟩ := hl
      have hL : L ∈ X.fs := hs L (by unfold frs; rw [List.filterMap_cons, hf]; exact List.mem_cons_self)
      obtain ⟨sl, e⟩ := I.base.slot L o ho (I.ok.frf L hL) hL fun z => I.ok.exfs L z hL
      exact ⟨hk, ⟨L, _, hf, hn, e, hd⟩, ih (fun b hb => hs b (by unfold frs; rw [List.filterMap_cons, hf]; exact List.mem_cons_of_mem _ hb)) hr⟩
  exact all X.outer (fun _ hb => hb) I.ok.funs
theorem Inv.stack (I : Inv X pins σ H s) : s.heap.FunFrames X.base X.stack := by
  rcases I.ok.stk with e | ⟨e, hf⟩
  · rw [e]; exact I.funs
  · rw [e]
    obtain ⟨m, hn, _⟩ := I.loc
    refine .cons (by rw [I.ok.kind]; decide) hf hn ?_ I.funs
    exact Heap.get?_none_of_le (Nat.le_trans I.ok.bsz I.ok.above)
theorem Inv.stkSub (I : Inv X pins σ H s) : ∀ b ∈ frs X.stack, b ∈ X.env.locals :: X.fs := fun b hb => by
  rcases I.ok.stk with e | ⟨e, hf⟩
  · rw [e] at hb; exact List.mem_cons_of_mem _ hb
  · rw [e] at hb
    unfold frs at hb
    rw [List.filterMap_cons, hf] at hb
    exact hb
theorem Inv.stkFree (I : Inv X pins σ H s) : ∀ b ∈ frs X.stack, H b = none := fun b hb => by
  rcases List.mem_cons.mp (I.stkSub b hb) with e | hb
  · rw [e]; exact I.free
  · obtain ⟨_, o, ho, _⟩ := I.ok.funs.mem hb
    exact I.base.free b o ho (I.ok.frf b hb) fun z => I.ok.exfs b z hb
theorem Inv.step {g' : Array GenState} {t' : Nat} {d' : Drawn} {ch : List Addr} (I : Inv X pins σ H s)
    (hch : ∀ b ∈ ch, (b ∈ X.ex ∨ X.s₀.heap.objs.size ≤ b) ∧ b ≠ X.env.locals ∧ (∀ x c, X.env.cells.lookup x = some c → c ≠ b) ∧ ∀ p ∈ X.pn ++ pins, p.1 ≠ b)
    (keep : ∀ b o, b ≠ X.env.locals → b ∉ X.fs → b ∉ ch → s.heap.get? b = some o → H b = none → h'.get? b = some o)
    (slot : ∀ b o, b ≠ X.env.locals → b ∈ X.fs → b ∉ ch → s.heap.get? b = some o → H b = none → ∃ sl, h'.get? b = some { o with slots := sl }) (free : ∀ b o, b ∉ ch → s.heap.get? b = some o → H b = none → H' b = none)
    (there : ∀ b o, b ∉ ch → s.heap.get? b = some o → ∃ o', h'.get? b = some o')
    (tups : ∀ b xs, H b = some (.tup xs) → H' b = some (.tup xs)) (frzs : ∀ b o u, H b = some (.frz o u) → H' b = some (.frz o u)) (tbls : ∀ b ps, H b = some (.tbl ps) → ∃ more, H' b = some (.tbl (ps ++ more)))
    (ns : ∀ m, s.heap.Ns X.env.locals m → h'.Ns X.env.locals m) (hok : HOk X.prog X.w H' h') (hg : AllBare g') :
    Inv X pins σ H' { s with heap := h', gens := g', drawn := d', toks := t' } := by
  have neL : ∀ b o, X.s₀.heap.get? b = some o → b ≠ X.env.locals := fun b o e => Nat.ne_of_lt (Nat.lt_of_lt_of_le (Heap.lt_size e) I.ok.above)
  have neC : ∀ b o, X.s₀.heap.get? b = some o → b ∉ X.ex → b ∉ ch := fun b o e hx hb => by
    rcases (hch b hb).1 with z | z
    · exact hx z
    · exact absurd (Nat.lt_of_lt_of_le (Heap.lt_size e) z) (Nat.lt_irrefl _)
  have cellK : ∀ x c, X.env.cells.lookup x = some c → ∀ v, s.heap.IsCell c v → h'.IsCell c v := fun x c e v ⟨o, ho, hd⟩ => by
    have nch : c ∉ ch := fun z => (hch c z).2.2.1 x c e rfl
    by_cases hc : c ∈ X.fs
    · obtain ⟨sl, q⟩ := slot c o (I.cne x c e) hc nch ho (I.freeC x c e)
      exact ⟨_, q, hd⟩
    · exact ⟨o, keep c o (I.cne x c e) hc nch ho (I.freeC x c e), hd⟩
  refine ⟨I.ok, I.os, hg, ⟨fun b o e n hb hx => ?_, fun b o e n hb hx => ?_, fun b o e n hx => ?_, fun b o e hx => ?_, fun b xs e => tups b xs (I.base.tups b xs e), fun b o xs e => frzs b o xs (I.base.frzs b o xs e), fun b ps e => ?_⟩, ?_, fun x c e => ?_, ?_, fun x c e => ?_, fun p hp => ?_, hok, I.len⟩
  · exact keep b o (neL b o e) hb (neC b o e hx) (I.base.keep b o e n hb hx) (I.base.free b o e n hx)
  · obtain ⟨sl, e1⟩ := I.base.slot b o e n hb hx
    obtain ⟨sl', e2⟩ := slot b _ (neL b o e) hb (neC b o e hx) e1 (I.base.free b o e n hx)
    exact ⟨sl', e2⟩
  · obtain ⟨o', e1⟩ := I.base.there b o e hx
    exact free b o' (neC b o e hx) e1 (I.base.free b o e n hx)
  · obtain ⟨o', e1⟩ := I.base.there b o e hx
    exact there b o' (neC b o e hx) e1
  · obtain ⟨m1, e1⟩ := I.base.tbls b ps e
    obtain ⟨m2, e2⟩ := tbls b _ e1
    exact ⟨m1 ++ m2, by rw [e2, Array.append_assoc]⟩
  · obtain ⟨m, hn, hl⟩ := I.loc
    refine ⟨m, ns m hn, fun i x v e1 e2 e3 => ?_⟩
    obtain ⟨u, r, l⟩ := hl i x v e1 e2 e3
    refine ⟨u, r, ?_⟩
    rcases l with l | ⟨k, c, e, z⟩
    · exact .inl l
    · exact .inr ⟨k, c, e, cellK x c e _ z⟩
  · obtain ⟨v, z⟩ := I.cell x c e
    exact ⟨v, cellK x c e v z⟩
  · obtain ⟨m, ⟨o, _, _, ho, _⟩, _⟩ := I.loc
    exact free _ o (fun z => (hch _ z).2.1 rfl) ho I.free
  · obtain ⟨v, o, ho, hd⟩ := I.cell x c e
    exact free c o (fun z => (hch c z).2.2.1 x c e rfl) ho (I.freeC x c e)
  · obtain ⟨e, n, ne, nf, d⟩ := I.pin p hp
    have nch : p.1 ∉ ch := fun z => (hch p.1 z).2.2.2 p hp rfl
    exact ⟨keep p.1 p.2 ne nf nch e n, free p.1 p.2 nch e n, ne, nf, d⟩
theorem Inv.un {t' : Nat} (I : Inv X pins σ H s) (u : Un X.fs [] H H' s.heap h') (hok : HOk X.prog X.w H' h') : Inv X pins σ H' { s with heap := h', toks := t' } := by
  obtain ⟨m, ⟨o, es, ep, ho, r⟩, _⟩ := id I.loc
  obtain ⟨sl, hL⟩ := u.any ho I.free (by simp)
  exact I.step (g' := s.gens) (d' := s.drawn) (ch := []) (fun _ z => nomatch z) (fun b o _ hb _ e n => u.keep b o e n hb (by simp)) (fun b o _ hb _ e n => u.slot b o e n hb (by simp)) (fun b o _ e n => u.free b o e n (by simp)) (fun b o _ e => u.there b o e (by simp)) u.tups u.frzs u.tbls (fun m' hm => by
    obtain ⟨o', es', ep', ho', r'⟩ := hm
    rw [ho] at ho'; cases ho'
    exact ⟨_, es', ep', hL, r'⟩) hok I.bare
theorem Inv.call {g' : Array GenState} {t' : Nat} {d' : Drawn} {ch : List Addr} (I : Inv X pins σ H s) (u : Un (frs X.stack) ch H H' s.heap h') (hok : HOk X.prog X.w H' h') (hg : AllBare g')
    (hch : ∀ b ∈ ch, (b ∈ X.ex ∨ X.s₀.heap.objs.size ≤ b) ∧ b ≠ X.env.locals ∧ (∀ x c, X.env.cells.lookup x = some c → c ≠ b) ∧ ∀ p ∈ X.pn ++ pins, p.1 ≠ b) :
    Inv X pins σ H' { s with heap := h', gens := g', drawn := d', toks := t' } := by
  obtain ⟨m, ⟨o, es, ep, ho, r⟩, _⟩ := id I.loc
  obtain ⟨sl, hL⟩ := u.any ho I.free fun z => (hch _ z).2.1 rfl
  exact I.step (ch := ch) hch (fun b o hL hb hc e n => u.keep b o e n (fun z => (List.mem_cons.mp (I.stkSub b z)).elim hL hb) hc) (fun b o _ _ hc e n => u.any e n hc) (fun b o hc e n => u.free b o e n hc) (fun b o hc e => u.there b o e hc) u.tups u.frzs u.tbls (fun m' hm => by
    obtain ⟨o', es', ep', ho', r'⟩ := hm
    rw [ho] at ho'; cases ho'
    exact ⟨_, es', ep', hL, r'⟩) hok hg
theorem Inv.turned {t' : Nat} {it : Addr} (I : Inv X pins σ H s) (k : ∀ b o, b ≠ it → s.heap.get? b = some o → h'.get? b = some o) (hn : H it = none) (hL : it ≠ X.env.locals)
    (h1 : it ∈ X.ex ∨ X.s₀.heap.objs.size ≤ it) (h2 : ∀ x c, X.env.cells.lookup x = some c → c ≠ it) (h3 : ∀ p ∈ X.pn ++ pins, p.1 ≠ it) : Inv X pins σ H { s with heap := h', toks := t' } := by
  have nit : ∀ b u, H b = some u → b ≠ it := fun b u e z => by rw [z, hn] at e; cases e
  refine I.step (g' := s.gens) (d' := s.drawn) (ch := [it]) (fun b hb => ?_) (fun b o _ _ hc e _ => k b o (fun z => hc (by simp [z])) e) (fun b o _ _ hc e _ => ⟨o.slots, k b o (fun z => hc (by simp [z])) e⟩) (fun _ _ _ _ n => n)
    (fun b o hc e => ⟨o, k b o (fun z => hc (by simp [z])) e⟩) (fun _ _ e => e) (fun _ _ _ e => e) (fun b ps e => ⟨#[], by rw [e]; simp⟩) (fun m hm => ?_) (fun b u e => ?_) I.bare
  · have e : b = it := by simpa using hb
    subst e
    exact ⟨h1, hL, h2, h3⟩
  · obtain ⟨o, es, ep, ho, r⟩ := hm
    exact ⟨o, es, ep, k _ o (Ne.symm hL) ho, r⟩
  · refine (I.hok b u e).stay (fun c v hc q => k c v ?_ q) (fun _ q => q) fun _ _ q => q
    rcases hc with z | z
    · rw [z]; exact nit b u e
    · exact nit c _ z
theorem Inv.tok (I : Inv X pins σ H s) (t : Nat) : Inv X pins σ H { s with toks := t } := I.un (h' := s.heap) (t' := t) Un.refl I.hok
theorem Inv.kept {t' : Nat} (I : Inv X pins σ H s) (k : ∀ b u, s.heap.get? b = some u → h'.get? b = some u) : Inv X pins σ H { s with heap := h', toks := t' } := I.un (Un.kept k) (I.hok.kept k)
theorem Inv.laid {a : Addr} {o : HO} {t' : Nat} (I : Inv X pins σ H s) (k : ∀ b u, s.heap.get? b = some u → h'.get? b = some u) (hp : s.heap.objs.size ≤ a) (new : ObjOk X.prog X.w (upd H a o) h' a o) :
    Inv X pins σ (upd H a o) { s with heap := h', toks := t' } := I.un (Un.laid k hp (I.hok.fresh hp)) (I.hok.laid k hp new)
theorem Inv.write {x e : Addr} {o : HO} {t' : Nat} (I : Inv X pins σ H s) (mu : Mut (H x)) (he : e = x ∨ H e = some (.own x)) (k : ∀ b u, b ≠ e → s.heap.get? b = some u → h'.get? b = some u) (heo : ∃ u, h'.get? e = some u)
    (new : ObjOk X.prog X.w (upd H x o) h' x o) : Inv X pins σ (upd H x o) { s with heap := h', toks := t' } := I.un (Un.write mu he k heo) (I.hok.write mu he k heo new)
theorem Inv.pins_of {pins' : List (Addr × Obj)} (I : Inv X pins σ H s) (h : ∀ p ∈ pins', s.heap.get? p.1 = some p.2 ∧ H p.1 = none ∧ p.1 ≠ X.env.locals ∧ p.1 ∉ X.fs ∧ ∀ v, p.2.data ≠ .cell v) : Inv X pins' σ H s :=
  ⟨I.ok, I.os, I.bare, I.base, I.loc, I.cell, I.free, I.freeC, fun p hp => (List.mem_append.mp hp).elim (fun z => I.pin p (List.mem_append_left _ z)) (h p), I.hok, I.len⟩
theorem nodup_ix {N : List Str} (hN : N.Nodup) {i j : Nat} {x : Str} (a : N[i]? = some x) (b : N[j]? = some x) : i = j := by
  obtain ⟨h1, e1⟩ := List.getElem?_eq_some_iff.mp a
  obtain ⟨h2, e2⟩ := List.getElem?_eq_some_iff.mp b
  exact (List.getElem_inj hN).mp (e1.trans e2.symm)
theorem store_ok2 {M : Model} {A : Around} {E : Value → Shared → Prop} {i : Nat} {x : Str} {v : V} {u : Value} {Q : Unit → Shared → Prop} (I : Inv X pins σ H s) (hN : X.N.Nodup) (hi : X.N[i]? = some x) (hx : Loc X.env.scope x) (r : RelV v u)
    (h : ∀ s', Inv X pins (σ.set i (some v)) H s' → (∃ a, Heap.SameBut a s.heap s'.heap ∧ (a = X.env.locals ∨ X.env.cells.lookup x = some a)) → Q () s') (hf : X.fn x = true ∨ X.env.scope.names.lookup x = some .local := by first | exact .inl rfl | exact .inr rfl | assumption) : wpAny M A (storeName X.env x u) Q E s := by
  obtain ⟨m, hn, hl⟩ := id I.loc
  have hcls : (X.env.scope.kind == .class || (X.env.scope.kind == .module && X.env.locals != X.env.globals)) = false := by rw [I.ok.kind]; rfl
  have hiσ : i < σ.length := by rw [I.len]; exact (List.getElem?_eq_some_iff.mp hi).1
  have cne := I.cne
  have tracked : ∀ {a : Addr} {h' : Heap}, (∃ o, s.heap.get? a = some o ∧ H a = none) → Heap.SameBut a s.heap h' → HOk X.prog X.w H h' := fun {a h'} ha hs b ob e => by
    obtain ⟨_, _, hfree⟩ := ha
    refine (I.hok b ob e).stay (fun c w' hc q => (hs.2 c ?_).trans q) (fun _ q => q) fun _ _ q => q
    rintro rfl
    rcases hc with rfl | hc
    · rw [hfree] at e; cases e
    · rw [hfree] at hc; cases hc
  rcases hx with hk | hk
  · refine wpAny_storeName_local hk hn (fun h' hn' hs => ?_) hcls
    obtain ⟨oL, _, _, hoL, _⟩ := id hn
    refine h _ ⟨I.ok, I.os, I.bare, ⟨fun b o e n hb hx => ?_, fun b o e n hb hx => ?_, I.base.free, fun b o e hx => ?_, I.base.tups, I.base.frzs, I.base.tbls⟩, ⟨_, hn', fun j y v' e1 e2 e3 => ?_⟩, fun y c e => ?_, I.free, I.freeC, fun p hp => ?_, tracked ⟨oL, hoL, I.free⟩ hs, by simpa using I.len⟩ ⟨_, hs, .inl rfl⟩
    · exact (hs.2 b (Nat.ne_of_lt (Nat.lt_of_lt_of_le (Heap.lt_size e) I.ok.above))).trans (I.base.keep b o e n hb hx)
    · obtain ⟨sl, e1⟩ := I.base.slot b o e n hb hx
      exact ⟨sl, (hs.2 b (Nat.ne_of_lt (Nat.lt_of_lt_of_le (Heap.lt_size e) I.ok.above))).trans e1⟩
    · obtain ⟨o', e1⟩ := I.base.there b o e hx
      exact ⟨o', (hs.2 b (Nat.ne_of_lt (Nat.lt_of_lt_of_le (Heap.lt_size e) I.ok.above))).trans e1⟩
    · by_cases hj : j = i
      · subst hj
        rw [hi] at e1; cases e1
        rw [List.getElem?_set_self hiσ] at e2
        cases e2
        exact ⟨u, r, .inl ⟨hk, by simp⟩⟩
      · rw [List.getElem?_set_ne (Ne.symm hj)] at e2
        obtain ⟨u', r', q⟩ := hl j y v' e1 e2 e3
        refine ⟨u', r', ?_⟩
        rcases q with ⟨k, e⟩ | ⟨k, c, e, z⟩
        · refine .inl ⟨k, ?_⟩
          have : y ≠ x := fun e => hj (nodup_ix hN e1 (e ▸ hi))
          simp [this, e]
        · exact .inr ⟨k, c, e, z.sameBut hs (cne y c e)⟩
    · obtain ⟨w', z⟩ := I.cell y c e
      exact ⟨w', z.sameBut hs (cne y c e)⟩
    · obtain ⟨e, n, ne, nf, d⟩ := I.pin p hp
      exact ⟨(hs.2 p.1 ne).trans e, n, ne, nf, d⟩
  · have hfn : X.fn x = true := by
      rcases hf with z | z
      · exact z
      · rw [z] at hk; cases hk
    obtain ⟨c, hc⟩ := I.ok.has x (.inl hk)
    obtain ⟨w', z⟩ := I.cell x c hc
    refine wpAny_storeName_cell I.ok.kind hk hc z (fun h' hc' hs => ?_)
    obtain ⟨oc, hoc, hocd⟩ := id z
    refine h { s with heap := h' } ⟨I.ok, I.os, I.bare, ⟨fun b o e n hb hx => ?_, fun b o e n hb hx => ?_, I.base.free, fun b o e hx => ?_, I.base.tups, I.base.frzs, I.base.tbls⟩, ⟨m, hn.sameBut hs (Ne.symm (cne x c hc)), fun j y v' e1 e2 e3 => ?_⟩, fun y c' e => ?_, I.free, I.freeC, fun p hp => ?_, tracked ⟨oc, hoc, I.freeC x c hc⟩ hs, by simpa using I.len⟩ ⟨c, hs, .inr hc⟩
    · exact (hs.2 b (Nat.ne_of_lt (Nat.lt_of_lt_of_le (Heap.lt_size e) (I.ok.cab x c hfn hc)))).trans (I.base.keep b o e n hb hx)
    · obtain ⟨sl, e1⟩ := I.base.slot b o e n hb hx
      exact ⟨sl, (hs.2 b (Nat.ne_of_lt (Nat.lt_of_lt_of_le (Heap.lt_size e) (I.ok.cab x c hfn hc)))).trans e1⟩
    · obtain ⟨o', e1⟩ := I.base.there b o e hx
      exact ⟨o', (hs.2 b (Nat.ne_of_lt (Nat.lt_of_lt_of_le (Heap.lt_size e) (I.ok.cab x c hfn hc)))).trans e1⟩
    · by_cases hj : j = i
      · subst hj
        rw [hi] at e1; cases e1
        rw [List.getElem?_set_self hiσ] at e2
        cases e2
        exact ⟨u, r, .inr ⟨.inl hk, c, hc, hc'⟩⟩
      · rw [List.getElem?_set_ne (Ne.symm hj)] at e2
        obtain ⟨u', r', q⟩ := hl j y v' e1 e2 e3
        refine ⟨u', r', ?_⟩
        rcases q with q | ⟨k, c', e, z'⟩
        · exact .inl q
        · refine .inr ⟨k, c', e, z'.sameBut hs ?_⟩
          rintro rfl
          exact hj (nodup_ix hN e1 (I.ok.inj _ _ _ e hc ▸ hi))
    · by_cases hcc : c' = c
      · subst hcc; exact ⟨_, hc'⟩
      · obtain ⟨w2, z2⟩ := I.cell y c' e
        exact ⟨w2, z2.sameBut hs hcc⟩
    · obtain ⟨e, n, ne, nf, d⟩ := I.pin p hp
      refine ⟨(hs.2 p.1 ?_).trans e, n, ne, nf, d⟩
      intro q
      rw [q, hoc] at e
      have q' : oc = p.2 := Option.some.inj e
      exact d w' (by rw [← q']; exact hocd)
theorem store_ok {M : Model} {A : Around} {E : Value → Shared → Prop} {i : Nat} {x : Str} {v : V} {u : Value} {Q : Unit → Shared → Prop} (I : Inv X pins σ H s) (hN : X.N.Nodup) (hi : X.N[i]? = some x) (hx : Loc X.env.scope x) (r : RelV v u)
    (h : ∀ s', Inv X pins (σ.set i (some v)) H s' → Q () s') (hf : X.fn x = true ∨ X.env.scope.names.lookup x = some .local := by first | exact .inl rfl | exact .inr rfl | assumption) : wpAny M A (storeName X.env x u) Q E s :=
  store_ok2 I hN hi hx r (fun s' I' _ => h s' I') hf
theorem Inv.call' {s' : Shared} {ch : List Addr} (I : Inv X pins σ H s) (ho : s'.os = s.os) (u : Un (frs X.stack) ch H H' s.heap s'.heap) (hok : HOk X.prog X.w H' s'.heap) (hg : AllBare s'.gens)
    (hch : ∀ b ∈ ch, (b ∈ X.ex ∨ X.s₀.heap.objs.size ≤ b) ∧ b ≠ X.env.locals ∧ (∀ x c, X.env.cells.lookup x = some c → c ≠ b) ∧ ∀ p ∈ X.pn ++ pins, p.1 ≠ b) : Inv X pins σ H' s' := by
  obtain ⟨h', g', d', t', o'⟩ := s'
  have e : o' = s.os := ho
  subst e
  exact I.call (g' := g') (t' := t') (d' := d') u hok hg hch
end
noncomputable abbrev XK := Value → Option Addr → Hp → Prop
noncomputable abbrev St := List (Option V)
noncomputable abbrev VK := V → Hp → Prop
noncomputable abbrev TE := St → Hp → VK → Prop
noncomputable abbrev TT := St → Hp → (Bool → Hp → Prop) → Prop
noncomputable abbrev TA := St → Hp → (List V → Hp → Prop) → Prop
structure Ends where
  nx : St → Hp → Prop
  rt : VK
  bk : St → Hp → Prop := fun _ _ => False
  ct : St → Hp → Prop := fun _ _ => False
noncomputable abbrev TS := Ends → St → Hp → Prop
noncomputable def EP (X : Cx) (pins : List (Addr × Obj)) (σ : St) (Q : VK) (u : Value) (s' : Shared) : Prop := ∃ v H', Inv X pins σ H' s' ∧ RelV v u ∧ Q v H'
noncomputable def TP (X : Cx) (pins : List (Addr × Obj)) (σ : St) (Q : Bool → Hp → Prop) (b : Bool) (s' : Shared) : Prop := ∃ H', Inv X pins σ H' s' ∧ Q b H'
noncomputable def AP (X : Cx) (pins : List (Addr × Obj)) (σ : St) (Q : List V → Hp → Prop) (us : List Value) (s' : Shared) : Prop := ∃ vs H', Inv X pins σ H' s' ∧ Vals vs us ∧ Q vs H'
noncomputable def SP (X : Cx) (pins : List (Addr × Obj)) (D : Ends) (f : Flow) (s' : Shared) : Prop :=
  match f with
  | .next => ∃ σ' H', Inv X pins σ' H' s' ∧ D.nx σ' H'
  | .brk => ∃ σ' H', Inv X pins σ' H' s' ∧ D.bk σ' H'
  | .cont => ∃ σ' H', Inv X pins σ' H' s' ∧ D.ct σ' H'
  | .ret u => ∃ v σ' H', Inv X pins σ' H' s' ∧ RelV v u ∧ D.rt v H'
noncomputable def PE (X : Cx) (e : Expr) (t : TE) : Prop :=
  ∀ (pins : List (Addr × Obj)) (s : Shared) (σ : St) (H : Hp) (Q : VK), Inv X pins σ H s → t σ H Q → wpAny (model X.prog X.w) X.A (eval e X.env) (EP X pins σ Q) X.xe s
noncomputable def PT (X : Cx) (e : Expr) (t : TT) : Prop :=
  ∀ (pins : List (Addr × Obj)) (s : Shared) (σ : St) (H : Hp) (Q : Bool → Hp → Prop), Inv X pins σ H s → t σ H Q → wpAny (model X.prog X.w) X.A (isTrue e X.env (eval e X.env)) (TP X pins σ Q) X.xe s
noncomputable def PW (X : Cx) (e : Expr) (t : TT) : Prop :=
  ∀ (whole : Sem Value) (pins : List (Addr × Obj)) (s : Shared) (σ : St) (H : Hp) (Q : Bool → Hp → Prop), Inv X pins σ H s → t σ H Q → wpAny (model X.prog X.w) X.A (isTrue e X.env whole) (TP X pins σ Q) X.xe s
theorem PW.pt {X : Cx} {e : Expr} {t : TT} (h : PW X e t) : PT X e t := h _
noncomputable def PA (X : Cx) (es : List Expr) (t : TA) : Prop :=
  ∀ (pos : Pos) (pins : List (Addr × Obj)) (s : Shared) (σ : St) (H : Hp) (Q : List V → Hp → Prop), Inv X pins σ H s → t σ H Q → wpAny (model X.prog X.w) X.A (spliced (backTo pos (starEach es X.env))) (AP X pins σ Q) X.xe s
noncomputable def PS (X : Cx) (st : Stmt) (t : TS) : Prop :=
  ∀ (pins : List (Addr × Obj)) (s : Shared) (σ : St) (H : Hp) (D : Ends), Inv X pins σ H s → t D σ H → wpAny (model X.prog X.w) X.A (exec st X.env) (SP X pins D) X.xe s
noncomputable def PSs (X : Cx) (st : List Stmt) (t : TS) : Prop :=
  ∀ (pins : List (Addr × Obj)) (s : Shared) (σ : St) (H : Hp) (D : Ends), Inv X pins σ H s → t D σ H → wpAny (model X.prog X.w) X.A (execs st X.env) (SP X pins D) X.xe s
theorem thn {α : Type} {t : Sem α} {Q Q' : α → Shared → Prop} {M : Model} {A : Around} {E : Value → Shared → Prop} {s : Shared} (h : wpAny M A t Q E s) (hQ : ∀ a s, Q a s → Q' a s) : wpAny M A t Q' E s := wpAny_mono h hQ fun _ _ x => x
end L2
namespace L2
open PySem PySem.Spec PyProof.Rows
section
variable {X : Cx}
noncomputable def tVar (i : Nat) : TE := fun σ H Q => ∃ v, σ[i]? = some (some v) ∧ Q v H
noncomputable def tC (v : V) : TE := fun _ H Q => Q v H
theorem pe_var {i : Nat} {x : Str} {pos : Pos} (hN : X.N[i]? = some x) (hv : Vis X.env.scope x) (hd : (x == ("__debug__" : Str)) = false := by decide) (hcd : (x == ("__classdict__" : Str)) = false := by decide) : PE X (.Name x pos) (tVar i) := by
  intro pins s σ H Q I h
  obtain ⟨v, e, h⟩ := h
  obtain ⟨m, hn, hl⟩ := I.loc
  obtain ⟨u, r, l⟩ := hl i x v hN e hv
  have fin : EP X pins σ Q u s := ⟨v, H, I, r, h⟩
  rcases l with ⟨hk, hm⟩ | ⟨hk, c, hc, hcell⟩
  · exact wpAny_Name (wpAny_loadName_local I.ok.kind hk hn hm fin) hd
  · rcases hk with hk | hk
    · exact wpAny_Name (wpAny_loadName_cell I.ok.kind hk hc hcell fin) hd
    · exact wpAny_Name (wpAny_loadName_free I.ok.kind hk hc hcell fin hcd) hd
theorem pe_int {i j pos} : PE X (.Constant (.int i) j pos) (tC (.int i)) := fun _ _ _ H _ I h => wpAny_Constant_int ⟨.int i, H, I.tok _, ⟨_, rfl⟩, h⟩
theorem pe_bl {b j pos} : PE X (.Constant (.bool b) j pos) (tC (.bl b)) := fun _ _ _ H _ I h => Constant_bool ⟨.bl b, H, I, rfl, h⟩
theorem pe_non {j pos} : PE X (.Constant .none j pos) (tC .non) := fun _ _ _ H _ I h => Constant_none ⟨.non, H, I, rfl, h⟩
theorem pe_str {x j pos} : PE X (.Constant (.str x) j pos) (tC (.str x)) := fun _ _ _ H _ I h => Calls.Constant_str ⟨.str x, H, I.tok _, ⟨_, rfl⟩, h⟩
noncomputable def Gl (X : Cx) (x : Str) : Prop := X.env.kindOf x = some .globalImplicit
theorem ld_glob {E : Value → Shared → Prop} {pins : List (Addr × Obj)} {s : Shared} {σ : St} {H : Hp} {x : Str} {u : Value} {pos : Pos} {Q : Value → Shared → Prop} (I : Inv X pins σ H s) (hg : Gl X x) (hm : X.mg x = some u) (h : Q u s)
    (hd : (x == ("__debug__" : Str)) = false := by decide) : wpAny (model X.prog X.w) X.A (eval (.Name x pos) X.env) Q E s :=
  Calls.Name_function_global I.ok.kind hg (Calls.loadGlobal_global (by rw [I.ok.glob]; exact I.mod.glob.keeps I.bk) hm h) hd
theorem ld_blt {E : Value → Shared → Prop} {pins : List (Addr × Obj)} {s : Shared} {σ : St} {H : Hp} {x : Str} {u : Value} {pos : Pos} {Q : Value → Shared → Prop} (I : Inv X pins σ H s) (hg : Gl X x) (hm : X.mg x = none) (hv : bootBuiltins x = some u) (h : Q u s)
    (hn : x ≠ "__name__" := by decide) (hd : (x == ("__debug__" : Str)) = false := by decide) : wpAny (model X.prog X.w) X.A (eval (.Name x pos) X.env) Q E s := by
  obtain ⟨mb, h1, h2⟩ := I.mod.blt
  exact Calls.Name_function_global I.ok.kind hg (Calls.loadGlobal_builtin (by rw [I.ok.glob]; exact I.mod.glob.keeps I.bk) hm (by rw [I.ok.blt]; exact h1.keeps I.bk) ((h2 x hn).trans hv) h) hd
theorem pe_glob {x : Str} {v : V} {u : Value} {pos : Pos} (hg : Gl X x) (hm : X.mg x = some u) (r : RelV v u) (hd : (x == ("__debug__" : Str)) = false := by decide) : PE X (.Name x pos) (tC v) :=
  fun _ _ _ H _ I h => ld_glob I hg hm ⟨v, H, I, r, h⟩ hd
theorem pe_bltn {x : Str} {v : V} {u : Value} {pos : Pos} (hg : Gl X x) (hm : X.mg x = none) (hv : bootBuiltins x = some u) (r : RelV v u) (hn : x ≠ "__name__" := by decide) (hd : (x == ("__debug__" : Str)) = false := by decide) : PE X (.Name x pos) (tC v) :=
  fun _ _ _ H _ I h => ld_blt I hg hm hv ⟨v, H, I, r, h⟩ hn hd
variable {a b : Expr} {ta tb : TE} {pos : Pos}
noncomputable def tB (t : TE) : TT := fun σ H Q => t σ H fun x H1 => ∃ c, x = .bl c ∧ Q c H1
theorem pt_val {e : Expr} {t : TE} (h : PE X e t) (he : ∀ whole, isTrue e X.env whole = (do let v ← whole; standAt e.pos; holding [v] (truthy v)) := by intro _; rfl) : PT X e (tB t) := by
  intro pins s σ H Q I hw
  refine isTrue_plain (thn (h pins s σ H _ I hw) fun v s1 ⟨x, H1, I1, r1, q1⟩ => ?_) (he _)
  obtain ⟨d, rfl, q⟩ := q1
  cases r1
  exact wpAny_truthy_bool ⟨H1, I1, q⟩
variable {tA tB' : TT} {rest : List Expr}
noncomputable def tAnd (t u : TT) : TT := fun σ H Q => t σ H fun c H1 => if c = true then u σ H1 Q else Q false H1
noncomputable def tOr (t u : TT) : TT := fun σ H Q => t σ H fun c H1 => if c = true then Q true H1 else u σ H1 Q
noncomputable def tNot (t : TT) : TT := fun σ H Q => t σ H fun c H1 => Q (!c) H1
theorem pw_and1 (ha : PT X a tA) : PW X (.BoolOp .And [a] pos) tA := by
  intro wh pins s σ H Q I h
  refine isTrue_and (thn (ha pins s σ H Q I h) fun c s1 e => ?_)
  cases c with
  | true => exact isTrue_and_nil e
  | false => exact e
theorem pw_or1 (ha : PT X a tA) : PW X (.BoolOp .Or [a] pos) tA := by
  intro wh pins s σ H Q I h
  refine isTrue_or (thn (ha pins s σ H Q I h) fun c s1 e => ?_)
  cases c with
  | false => exact isTrue_or_nil e
  | true => exact e
theorem pw_and (ha : PT X a tA) (hb : PW X (.BoolOp .And (b :: rest) pos) tB') : PW X (.BoolOp .And (a :: b :: rest) pos) (tAnd tA tB') := by
  intro wh pins s σ H Q I h
  refine isTrue_and (thn (ha pins s σ H _ I h) fun c s1 ⟨H1, I1, q1⟩ => ?_)
  cases c with
  | true => exact hb wh pins s1 σ H1 Q I1 q1
  | false => exact ⟨H1, I1, q1⟩
theorem pw_or (ha : PT X a tA) (hb : PW X (.BoolOp .Or (b :: rest) pos) tB') : PW X (.BoolOp .Or (a :: b :: rest) pos) (tOr tA tB') := by
  intro wh pins s σ H Q I h
  refine isTrue_or (thn (ha pins s σ H _ I h) fun c s1 ⟨H1, I1, q1⟩ => ?_)
  cases c with
  | true => exact ⟨H1, I1, q1⟩
  | false => exact hb wh pins s1 σ H1 Q I1 q1
theorem pt_not (ha : PT X a tA) : PT X (.UnaryOp .Not a pos) (tNot tA) := by
  intro pins s σ H Q I h
  exact isTrue_not (ha pins s σ H (fun c H1 => Q (!c) H1) I h)
noncomputable def tAndV (ta tb : TE) : TE := fun σ H Q => ta σ H fun x H1 => ∃ c, x = .bl c ∧ if c = true then tb σ H1 Q else Q (.bl false) H1
noncomputable def tNotV (ta : TE) : TE := fun σ H Q => ta σ H fun x H1 => ∃ c, x = .bl c ∧ Q (.bl (!c)) H1
theorem pe_one {op} {t : TE} (h : PE X a t) : PE X (.BoolOp op [a] pos) t := fun pins s σ H Q I hw => BoolOp_one (h pins s σ H Q I hw)
theorem pe_and (ha : PE X a ta) (hb : PE X (.BoolOp .And (b :: rest) pos) tb) : PE X (.BoolOp .And (a :: b :: rest) pos) (tAndV ta tb) := by
  intro pins s σ H Q I h
  refine BoolOp_and (thn (ha pins s σ H _ I h) fun v s1 ⟨x, H1, I1, r1, q1⟩ => ?_)
  obtain ⟨c, rfl, q1⟩ := q1
  cases r1
  refine wpAny_truthy_bool ?_
  cases c with
  | true => exact hb pins s1 σ H1 Q I1 q1
  | false => exact ⟨.bl false, H1, I1, rfl, q1⟩
theorem pe_not (ha : PE X a ta) : PE X (.UnaryOp .Not a pos) (tNotV ta) := by
  intro pins s σ H Q I h
  refine UnaryOp_ (thn (ha pins s σ H _ I h) fun v s1 ⟨x, H1, I1, r1, q1⟩ => ?_)
  obtain ⟨c, rfl, q1⟩ := q1
  cases r1
  exact not_of (wpAny_truthy_bool ⟨.bl (!c), H1, I1, rfl, q1⟩)
end
end L2
namespace L2
open PySem PySem.Spec PyProof.Rows
noncomputable def SqL (K : PySem.W.Frag) (H : Hp) (a : Addr) (xs : List V) : Prop :=
  Rd H a (.lst xs) ∨
    ∃ (o : Obj) (its : Array Value) (n : Nat), K.lookup a = some o ∧ o.cls = .type "list" ∧ o.dict = none ∧ o.data = .seq its n ∧ its.size ≤ sizeLine ∧ Vals xs its.toList
noncomputable def SqT (K : PySem.W.Frag) (H : Hp) (a : Addr) (xs : List V) : Prop :=
  Rd H a (.tup xs) ∨
    ∃ (o : Obj) (its : Array Value) (n : Nat), K.lookup a = some o ∧ o.cls = .type "tuple" ∧ o.data = .seq its n ∧ its.size ≤ sizeLine ∧ Vals xs its.toList
noncomputable def absV : Value → Option V
  | .none => some .non
  | .bool b => some (.bl b)
  | .int i _ => some (.int i)
  | .str x _ => some (.str x)
  | .bytes b _ => some (.byt b)
  | .float b _ => some (.flt b)
  | .ref a => some (.ref a)
  | .type n => some (.ty n)
  | _ => none
theorem RelV.abs {x : V} {u : Value} (r : RelV x u) : absV u = some x := by
  cases x with
  | non => cases r; rfl
  | bl _ => cases r; rfl
  | int _ => obtain ⟨t, rfl⟩ := r; rfl
  | str _ => obtain ⟨t, rfl⟩ := r; rfl
  | byt _ => obtain ⟨t, rfl⟩ := r; rfl
  | flt _ => obtain ⟨t, rfl⟩ := r; rfl
  | ref _ => cases r; rfl
  | ty _ => cases r; rfl
theorem RelV.inj {x y : V} {u : Value} (r : RelV x u) (q : RelV y u) : x = y := Option.some.inj (r.abs.symm.trans q.abs)
theorem Vals.inj : ∀ {xs ys : List V} {us : List Value}, Vals xs us → Vals ys us → xs = ys
  | _, _, _, .nil, .nil => rfl
  | _, _, _, .cons r t, .cons r' t' => by rw [r.inj r', Vals.inj t t']
section
variable {X : Cx} {pins : List (Addr × Obj)} {σ : St} {H : Hp} {s : Shared} {a : Addr} {xs ys : List V}
theorem SqL.of {K : PySem.W.Frag} (h : H a = some (.lst xs)) : SqL K H a xs := .inl (.inl h)
theorem SqT.of {K : PySem.W.Frag} (h : H a = some (.tup xs)) : SqT K H a xs := .inl (.inl h)
theorem Inv.list (I : Inv X pins σ H s) (h : SqL X.K H a xs) : ∃ its : List Value, Vals xs its ∧ PlainL s.heap a its.toArray ∧ xs.length ≤ sizeLine := by
  rcases h with h | ⟨o, its, n, hk, hc, hd, hs, hz, r⟩
  · obtain ⟨z, its, n, r, e⟩ := h.ok I.hok
    exact ⟨its, r, ⟨_, n, e, rfl, rfl, rfl⟩, z⟩
  · refine ⟨its.toList, r, ⟨o, n, I.kIn a o hk, hc, hd, by simpa using hs⟩, ?_⟩
    have e := r.length
    simp only [Array.length_toList] at e
    omega
theorem Inv.tuple (I : Inv X pins σ H s) (h : SqT X.K H a xs) : ∃ its : List Value, Vals xs its ∧ IsTup s.heap a its.toArray ∧ xs.length ≤ sizeLine := by
  rcases h with h | ⟨o, its, n, hk, hc, hs, hz, r⟩
  · obtain ⟨z, its, r, p⟩ := h.ok I.hok
    exact ⟨its, r, p.tup, z⟩
  · refine ⟨its.toList, r, ⟨o, I.kIn a o hk, hc, n, by simpa using hs⟩, ?_⟩
    have e := r.length
    simp only [Array.length_toList] at e
    omega
theorem Inv.list_inj (I : Inv X pins σ H s) (h : SqL X.K H a xs) (h' : SqL X.K H a ys) : xs = ys := by
  obtain ⟨its, r, ⟨o, n, e, _, _, d⟩, _⟩ := I.list h
  obtain ⟨its', r', ⟨o', n', e', _, _, d'⟩, _⟩ := I.list h'
  rw [e] at e'; cases e'
  rw [d] at d'
  injection d' with d1 _
  have : its = its' := by simpa using congrArg Array.toList d1
  subst this
  exact r.inj r'
theorem Inv.tuple_inj (I : Inv X pins σ H s) (h : SqT X.K H a xs) (h' : SqT X.K H a ys) : xs = ys := by
  obtain ⟨its, r, ⟨o, e, _, n, d⟩, _⟩ := I.tuple h
  obtain ⟨its', r', ⟨o', e', _, n', d'⟩, _⟩ := I.tuple h'
  rw [e] at e'; cases e'
  rw [d] at d'
  injection d' with d1 _
  have : its = its' := by simpa using congrArg Array.toList d1
  subst this
  exact r.inj r'
end
noncomputable abbrev Cx.wish (X : Cx) (E : Value → Shared → Prop) : Cx := { X with xe := E }
noncomputable abbrev Cx.nox (X : Cx) : Cx := X.wish fun _ _ => False
theorem Cx.Ok.wish {X : Cx} (ok : X.Ok) (E : Value → Shared → Prop) : (X.wish E).Ok :=
  ⟨ok.mod, ok.kind, ok.glob, ok.blt, ok.above, ok.inj, ok.has, ok.cab, ok.hd, ok.frames, ok.stk, ok.exf, ok.bs, ok.bsz, ok.noex, ok.exfs, ok.funs, ok.frf⟩
theorem Cx.Ok.unwish {X : Cx} {E : Value → Shared → Prop} (ok : (X.wish E).Ok) : X.Ok :=
  ⟨ok.mod, ok.kind, ok.glob, ok.blt, ok.above, ok.inj, ok.has, ok.cab, ok.hd, ok.frames, ok.stk, ok.exf, ok.bs, ok.bsz, ok.noex, ok.exfs, ok.funs, ok.frf⟩
section
variable {X : Cx} {pins : List (Addr × Obj)} {σ : St} {H : Hp} {s : Shared} {E : Value → Shared → Prop}
theorem Inv.wish (I : Inv X pins σ H s) (E : Value → Shared → Prop) : Inv (X.wish E) pins σ H s := ⟨I.ok.wish E, I.os, I.bare, I.base, I.loc, I.cell, I.free, I.freeC, I.pin, I.hok, I.len⟩
theorem Inv.unwish (I : Inv (X.wish E) pins σ H s) : Inv X pins σ H s := ⟨I.ok.unwish, I.os, I.bare, I.base, I.loc, I.cell, I.free, I.freeC, I.pin, I.hok, I.len⟩
theorem SP.unwish {D : Ends} {f : Flow} {s' : Shared} (h : SP (X.wish E) pins D f s') : SP X pins D f s' := by
  cases f with
  | next => obtain ⟨σ', H', I, q⟩ := h; exact ⟨σ', H', I.unwish, q⟩
  | brk => obtain ⟨σ', H', I, q⟩ := h; exact ⟨σ', H', I.unwish, q⟩
  | cont => obtain ⟨σ', H', I, q⟩ := h; exact ⟨σ', H', I.unwish, q⟩
  | ret u => obtain ⟨v, σ', H', I, r, q⟩ := h; exact ⟨v, σ', H', I.unwish, r, q⟩
theorem PSs.nox {st : List Stmt} {t : TS} (h : PSs X.nox st t) : PSs X st t := fun pins s σ H D I hw =>
  wpAny_mono (h pins s σ H D (I.wish _) hw) (fun _ _ q => q.unwish) fun _ _ z => False.elim z
end
section
variable {X : Cx} {st : Stmt} {rest : List Stmt} {t u : TS} {e : Expr} {te : TE} {pos : Pos}
noncomputable def tNext : TS := fun D σ H => D.nx σ H
noncomputable def tSeq (t u : TS) : TS := fun D σ H => t { D with nx := u D } σ H
theorem pss_nil : PSs X [] tNext := fun _ _ σ H _ I h => wpAny_execs_nil ⟨σ, H, I, h⟩
theorem pss_cons (h1 : PS X st t) (h2 : PSs X rest u) : PSs X (st :: rest) (tSeq t u) := by
  intro pins s σ H D I h
  refine wpAny_execs_cons (thn (h1 pins s σ H { D with nx := u D } I h) fun f s1 q => ?_)
  cases f with
  | next =>
    obtain ⟨σ', H', I', q⟩ := q
    exact h2 pins s1 σ' H' D I' q
  | ret v => exact q
  | brk => exact q
  | cont => exact q
theorem pss_one (h1 : PS X st t) : PSs X [st] t := by
  intro pins s σ H D I h
  refine wpAny_execs_cons (thn (h1 pins s σ H D I h) fun f s1 q => ?_)
  cases f with
  | next => exact wpAny_execs_nil q
  | ret v => exact q
  | brk => exact q
  | cont => exact q
theorem Inv.quiet {pins : List (Addr × Obj)} {σ : St} {H : Hp} {s : Shared} (I : Inv X pins σ H s) : interactive X.env = false := by simp [interactive, I.ok.kind]
noncomputable def tDrop (te : TE) : TS := fun D σ H => te σ H fun _ H1 => D.nx σ H1
theorem ps_expr (he : PE X e te) (hs : swapsWith e none pos.line X.env = pure false := by rfl) : PS X (.Expr e pos) (tDrop te) := by
  intro pins s σ H D I h
  exact wpAny_Expr_any (thn (he pins s σ H _ I h) fun v s1 ⟨x, H1, I1, r1, q1⟩ => ⟨σ, H1, I1, q1⟩) I.quiet hs
noncomputable def tRet (te : TE) : TS := fun D σ H => te σ H D.rt
theorem ps_ret (he : PE X e te) : PS X (.Return (some e) pos) (tRet te) := by
  intro pins s σ H D I h
  exact wpAny_Return_some (thn (he pins s σ H _ I h) fun v s1 ⟨x, H1, I1, r1, q1⟩ => ⟨x, σ, H1, I1, r1, q1⟩)
noncomputable def tIfS (c : TT) (t u : TS) : TS := fun D σ H => c σ H fun b H1 => if b = true then t D σ H1 else u D σ H1
theorem ps_if {c : Expr} {a b : List Stmt} {tc : TT} (hc : PT X c tc) (ha : PSs X a t) (hb : PSs X b u) : PS X (.If c a b pos) (tIfS tc t u) := by
  intro pins s σ H D I h
  refine wpAny_If (thn (hc pins s σ H _ I h) fun d s1 ⟨H1, I1, q1⟩ => ?_)
  cases d with
  | true => exact ha pins s1 σ H1 D I1 q1
  | false => exact hb pins s1 σ H1 D I1 q1
noncomputable def tNever : TS := fun _ _ _ => False
theorem ps_never : PS X st tNever := fun _ _ _ _ _ _ h => h.elim
theorem pss_never {sts : List Stmt} : PSs X sts tNever := fun _ _ _ _ _ _ h => h.elim
end
noncomputable abbrev TG := V → St → Hp → (St → Hp → Prop) → Prop
noncomputable abbrev TGs := List V → St → Hp → (St → Hp → Prop) → Prop
noncomputable def PG (X : Cx) (target : Expr) (t : TG) : Prop :=
  ∀ (pins : List (Addr × Obj)) (s : Shared) (σ : St) (H : Hp) (v : V) (u : Value) (Q : St → Hp → Prop), Inv X pins σ H s → RelV v u → t v σ H Q →
    wpAny (model X.prog X.w) X.A (assign target X.env u) (fun _ s' => ∃ σ' H', Inv X pins σ' H' s' ∧ Q σ' H') X.xe s
noncomputable def PGs (X : Cx) (ts : List Expr) (t : TGs) : Prop :=
  ∀ (pins : List (Addr × Obj)) (s : Shared) (σ : St) (H : Hp) (vs : List V) (us : List Value) (Q : St → Hp → Prop), Inv X pins σ H s → Vals vs us → t vs σ H Q →
    wpAny (model X.prog X.w) X.A (assignInOrder ((assignEach ts X.env).map (·.2)) us) (fun _ s' => ∃ σ' H', Inv X pins σ' H' s' ∧ Q σ' H') X.xe s
noncomputable abbrev TSet := V → V → V → Hp → (Hp → Prop) → Prop
noncomputable def PSet (X : Cx) (t : TSet) : Prop :=
  ∀ (pins : List (Addr × Obj)) (s : Shared) (σ : St) (H : Hp) (o i v : V) (ov iv u : Value) (Q : Hp → Prop), Inv X pins σ H s → RelV o ov → RelV i iv → RelV v u → t o i v H Q →
    wpAny (model X.prog X.w) X.A (setItem ov iv u) (fun _ s' => ∃ H', Inv X pins σ H' s' ∧ Q H') X.xe s
section
variable {X : Cx} {pos : Pos}
noncomputable def gName (i : Nat) : TG := fun v σ H Q => Q (σ.set i (some v)) H
theorem pg_name {i : Nat} {x : Str} (hN : X.N.Nodup) (hi : X.N[i]? = some x) (hx : Loc X.env.scope x) (hf : X.fn x = true ∨ X.env.scope.names.lookup x = some .local := by first | exact .inl rfl | exact .inr rfl | assumption) : PG X (.Name x pos) (gName i) := by
  intro pins s σ H v u Q I r h
  exact wpAny_assign_Name (store_ok I hN hi hx r (fun s' I' => ⟨_, H, I', h⟩) hf)
noncomputable def gNil : TGs := fun vs σ H Q => vs = [] ∧ Q σ H
noncomputable def gCons (t : TG) (u : TGs) : TGs := fun vs σ H Q => ∃ v r, vs = v :: r ∧ t v σ H fun σ' H' => u r σ' H' Q
theorem pgs_nil : PGs X [] gNil := by
  intro pins s σ H vs us Q I r h
  obtain ⟨e, h⟩ := h
  subst e
  cases r
  exact assignInOrder_nil ⟨σ, H, I, h⟩
theorem pgs_cons {e : Expr} {es : List Expr} {t : TG} {u : TGs} (h1 : PG X e t) (h2 : PGs X es u)
    (hs : (assignEach (e :: es) X.env).map (·.2) = assign e X.env :: (assignEach es X.env).map (·.2) := by rfl) : PGs X (e :: es) (gCons t u) := by
  intro pins s σ H vs us Q I r h
  obtain ⟨v, vr, e1, h⟩ := h
  subst e1
  cases r with
  | cons r rr =>
    rw [hs]
    refine assignInOrder_cons (thn (h1 pins s σ H _ _ _ I r h) fun _ s1 ⟨σ1, H1, I1, q1⟩ => ?_)
    exact h2 pins s1 σ1 H1 _ _ Q I1 rr q1
noncomputable def gTup (K : PySem.W.Frag) (n : Nat) (t : TGs) : TG := fun v σ H Q => ∃ a xs, v = .ref a ∧ SqT K H a xs ∧ xs.length = n ∧ t xs σ H Q
theorem pg_tup {es : List Expr} {k : Nat} {t : TGs} {n : Nat} (hc : X.calm = true) (h : PGs X es t)
    (hn : (assignEach es X.env).length = n := by rfl) (hst : (assignEach es X.env).findIdx? (·.1) = none := by rfl) : PG X (.Tuple es k pos) (gTup X.K n t) := by
  intro pins s σ H v u Q I r hw
  obtain ⟨a, xs, e1, hq, hl, hw⟩ := hw
  subst e1
  cases r
  obtain ⟨its, rv, ht, hz⟩ := I.tuple hq
  refine assign_Tuple_tuple (I.ok.hd hc) ht (by simp [hn, ← hl, rv.length]) hst fun h' hx => ?_
  have I1 : Inv X pins σ H { s with heap := h' } := I.kept (t' := s.toks) fun b o e => hx b o (Nat.ne_of_lt (Heap.lt_size e)) e
  exact h pins _ σ H xs _ Q I1 (by simpa using rv) hw
noncomputable def gSub (to ti : TE) (t : TSet) : TG := fun v σ H Q => to σ H fun o H1 => ti σ H1 fun i H2 => t o i v H2 fun H3 => Q σ H3
theorem pg_sub {o i : Expr} {to ti : TE} {t : TSet} (ho : PE X o to) (hi : PE X i ti) (hs : PSet X t)
    (ha : ∀ v, assign (.Subscript o i pos) X.env v = (do
      let ov ← holding [v] (eval o X.env)
      let iv ← holding [v, ov] (eval i X.env)
      standAt pos
      holding [v, ov, iv] (setItem ov iv v)
      release [v, ov, iv] []) := by intro _; rfl) : PG X (.Subscript o i pos) (gSub to ti t) := by
  intro pins s σ H v u Q I r h
  rw [ha]
  refine wpAny_bind (wpAny_holding (thn (ho pins s σ H _ I h) fun ov s1 ⟨x, H1, I1, r1, q1⟩ => ?_))
  refine wpAny_bind (wpAny_holding (thn (hi pins s1 σ H1 _ I1 q1) fun iv s2 ⟨y, H2, I2, r2, q2⟩ => ?_))
  refine wpAny_bind (wpAny_standAt (wpAny_bind (wpAny_holding (thn (hs pins s2 σ H2 x y v ov iv u _ I2 r1 r2 r q2) fun _ s3 ⟨H3, I3, q3⟩ => ?_))))
  exact wpAny_release ⟨σ, H3, I3, q3⟩
noncomputable def tAsg (te : TE) (g : TG) : TS := fun D σ H => te σ H fun x H1 => g x σ H1 D.nx
theorem ps_asg {tg e : Expr} {te : TE} {g : TG} (he : PE X e te) (hg : PG X tg g) (hs : swapsWithSole [tg] e pos.line X.env = pure false := by rfl) (hw : swappedStores [tg] e X.env = pure none := by rfl)
    (h1 : (assignEach [tg] X.env).map (·.2) = [assign tg X.env] := by rfl) : PS X (.Assign [tg] e pos) (tAsg te g) := by
  intro pins s σ H D I h
  refine wpAny_Assign_stores (thn (he pins s σ H _ I h) fun v s1 ⟨x, H1, I1, r1, q1⟩ => ?_) hs hw
  rw [h1]
  exact thn (hg pins s1 σ H1 x v _ I1 r1 q1) fun _ s2 q => q
theorem ps_set {i : Nat} {x : Str} {e : Expr} {te : TE} {pos' : Pos} (hN : X.N.Nodup) (hi : X.N[i]? = some x) (hx : Loc X.env.scope x) (he : PE X e te) (hs : swapsWith e (some (.Name x pos')) pos.line X.env = pure false := by rfl) (hf : X.fn x = true ∨ X.env.scope.names.lookup x = some .local := by first | exact .inl rfl | exact .inr rfl | assumption) :
    PS X (.Assign [.Name x pos'] e pos) (tAsg te (gName i)) := by
  intro pins s σ H D I h
  refine wpAny_Assign_Name (thn (he pins s σ H _ I h) fun v s1 ⟨y, H1, I1, r1, q1⟩ => ?_) hs
  exact store_ok I1 hN hi hx r1 (fun s2 I2 => ⟨_, H1, I2, q1⟩) hf
end
structure It where
  go : Nat → Hp → Prop
  yld : Nat → Hp → V → Hp → Prop
  stop : Nat → Hp → Prop
noncomputable def FpOk (X : Cx) (pins : List (Addr × Obj)) (H : Hp) (b : Addr) : Prop :=
  H b = none ∧ b ≠ X.env.locals ∧ b ∉ X.fs ∧ (b ∈ X.ex ∨ X.s₀.heap.objs.size ≤ b) ∧ (∀ x c, X.env.cells.lookup x = some c → c ≠ b) ∧ ∀ p ∈ X.pn ++ pins, p.1 ≠ b
theorem Inv.fpOk {X : Cx} {pins : List (Addr × Obj)} {σ : St} {H H' : Hp} {s : Shared} {b : Addr} (I : Inv X pins σ H s) (hb : s.heap.objs.size ≤ b) (hn : H' b = none) : FpOk X pins H' b := by
  refine ⟨hn, Nat.ne_of_gt (Nat.lt_of_lt_of_le I.lt hb), I.nofs hb, .inr (Nat.le_trans I.sz hb), fun x c e z => ?_, fun p hp z => ?_⟩
  · obtain ⟨v, q⟩ := I.cell x c e
    exact absurd (Nat.lt_of_lt_of_le q.lt (by rw [z]; exact hb)) (Nat.lt_irrefl _)
  · exact absurd (Nat.lt_of_lt_of_le (Heap.lt_size (I.pin p hp).1) (by rw [z]; exact hb)) (Nat.lt_irrefl _)
structure Turn (P : Program) (w : World) (K : PySem.W.Frag) (tg : Expr) (J : It) (fp : List Addr) (it : Addr) (tn : Nat → Heap → Prop) : Prop where
  mem : it ∈ fp
  obj : ∀ i h, tn i h → ∀ b ∈ fp, ∃ o, h.get? b = some o ∧ ∀ v, o.data ≠ .cell v
  keep : ∀ i h h', tn i h → (∀ b ∈ fp, ∀ o, h.get? b = some o → h'.get? b = some o) → tn i h'
  item : ∀ (X : Cx), X.prog = P → X.w = w → X.K = K → X.calm = true → ∀ (i : Nat) (pins : List (Addr × Obj)) (s : Shared) (σ : St) (H : Hp) (E : Value → Shared → Prop), Inv X pins σ H s → (∀ b ∈ fp, FpOk X pins H b) → tn i s.heap → J.go i H →
    wpAny (model P w) X.A (pyNext (.ref it)) (fun r s1 => ∃ u, r = some u ∧
      wpAny (model P w) X.A (letOwnedTupleGo tg (.ref it) u) (fun _ s2 => ∃ x H', Inv X pins σ H' s2 ∧ RelV x u ∧ J.yld i H x H' ∧ tn (i + 1) s2.heap ∧ ∀ b ∈ fp, H' b = none) E s1) E s
  done : ∀ (X : Cx), X.prog = P → X.w = w → X.K = K → X.calm = true → ∀ (i : Nat) (pins : List (Addr × Obj)) (s : Shared) (σ : St) (H : Hp) (E : Value → Shared → Prop), Inv X pins σ H s → (∀ b ∈ fp, FpOk X pins H b) → tn i s.heap → J.stop i H →
    wpAny (model P w) X.A (pyNext (.ref it)) (fun r s1 => r = none ∧ Inv X pins σ H s1) E s
  self : ∀ (A : Around) (i : Nat) (s : Shared) (Q : Value → Shared → Prop) (E : Value → Shared → Prop), tn i s.heap → Q (.ref it) s → wpAny (model P w) A (pyIter (.ref it)) Q E s
noncomputable abbrev TI := St → Hp → (It → Hp → Prop) → Prop
noncomputable def PIE (X : Cx) (pins : List (Addr × Obj)) (σ : St) (tg : Expr) (R : It → Hp → Prop) (itv : Value) (s2 : Shared) : Prop :=
  ∃ (it : Addr) (fp : List Addr) (tn : Nat → Heap → Prop) (J : It) (H' : Hp), itv = .ref it ∧ Inv X pins σ H' s2 ∧ Turn X.prog X.w X.K tg J fp it tn ∧ tn 0 s2.heap ∧ (∀ b ∈ fp, FpOk X pins H' b) ∧ R J H'
noncomputable def PI (X : Cx) (tg iter : Expr) (wi : TI) : Prop :=
  ∀ (pins : List (Addr × Obj)) (s : Shared) (σ : St) (H : Hp) (R : It → Hp → Prop), Inv X pins σ H s → wi σ H R →
    wpAny (model X.prog X.w) X.A (eval iter X.env) (fun v s1 => wpAny (model X.prog X.w) X.A (pyIter v) (PIE X pins σ tg R) X.xe s1) X.xe s
theorem go_of {M : Model} {A : Around} {E : Value → Shared → Prop} {s : Shared} {tg : Expr} {it : Addr} {u : Value} {o : Obj} {n : String} {vs : Array Value} {Q : Unit → Shared → Prop} (ho : s.heap.get? it = some o) (hc : o.cls = .type n) (hd : o.data = .fields vs)
    (hn : ["enumerate", "zip", "dict_itemiterator", "dict_reverseitemiterator", "odict_iterator", "itertools.zip_longest", "itertools.pairwise"].contains n = false) (hQ : Q () s) : wpAny M A (letOwnedTupleGo tg (.ref it) u) Q E s := by
  unfold letOwnedTupleGo
  cases tg <;> first
    | exact wpAny_pure hQ
    | (cases u <;> first
        | exact wpAny_pure hQ
        | (refine wpAny_bind (wpAny_load ho ?_)
           rw [hc, hd]
           show wpAny M A (if (["enumerate", "zip", "dict_itemiterator", "dict_reverseitemiterator", "odict_iterator", "itertools.zip_longest", "itertools.pairwise"].contains n && vs[0]? == some (rawInt _)) = true then _ else _) Q E s
           rw [if_neg (by intro h; rw [hn, Bool.false_and] at h; cases h)]
           exact wpAny_pure hQ))
noncomputable def Itl (K : PySem.W.Frag) (a : Addr) : It :=
  ⟨fun i H => ∃ xs x, SqL K H a xs ∧ xs[i]? = some x, fun i H x H' => H' = H ∧ ∀ xs, SqL K H a xs → xs[i]? = some x, fun i H => ∃ xs, SqL K H a xs ∧ xs.length ≤ i⟩
noncomputable def Itt (K : PySem.W.Frag) (a : Addr) : It :=
  ⟨fun i H => ∃ xs x, SqT K H a xs ∧ xs[i]? = some x, fun i H x H' => H' = H ∧ ∀ xs, SqT K H a xs → xs[i]? = some x, fun i H => ∃ xs, SqT K H a xs ∧ xs.length ≤ i⟩
noncomputable def Itr (lo : Int) (n : Nat) : It := ⟨fun i _ => i < n, fun i H x H' => H' = H ∧ x = .int (lo + i), fun i _ => n ≤ i⟩
theorem turn_list {P : Program} {w : World} {K : PySem.W.Frag} {tg : Expr} (a it : Addr) : Turn P w K tg (Itl K a) [it] it (fun i h => h.IsListIter it a i) where
  mem := by simp
  obj := fun i h st b hb => by
    have e : b = it := by simpa using hb
    subst e
    obtain ⟨o, e, c, d⟩ := st
    exact ⟨o, e, fun v z => by rw [d] at z; cases z⟩
  keep := fun i h h' st k => st.at fun o e => k it (by simp) o e
  item := by
    intro X hP hw hK hc i pins s σ H E I hf st hg
    subst hP hw hK
    obtain ⟨xs, x, hq, hx⟩ := hg
    obtain ⟨its, rv, p, hz⟩ := I.list hq
    obtain ⟨u, hu, ru⟩ := rv.get hx
    obtain ⟨f0, f1, f2, f3, f4, f5⟩ := hf it (by simp)
    refine wpAny_pyNext_list_item st p.isList (x := u) (by simpa using hu) fun h' st' sb => ?_
    have I1 : Inv X pins σ H { s with heap := h' } := I.turned (t' := s.toks) (fun b o hb e => (sb.2 b hb).trans e) f0 f1 f3 f4 f5
    obtain ⟨o, e, c, d⟩ := id st'
    exact ⟨u, rfl, go_of (s := { s with heap := h' }) e c d (by decide) ⟨x, H, I1, ru, ⟨rfl, fun ys hy => by rw [I.list_inj hy hq]; exact hx⟩, st', fun b hb => (hf b hb).1⟩⟩
  done := by
    intro X hP hw hK hc i pins s σ H E I hf st hg
    subst hP hw hK
    obtain ⟨xs, hq, hx⟩ := hg
    obtain ⟨its, rv, p, hz⟩ := I.list hq
    obtain ⟨f0, f1, f2, f3, f4, f5⟩ := hf it (by simp)
    have hl := rv.length
    exact wpAny_pyNext_list_end (I.ok.hd hc) st p.isList (by simp; omega) fun h' eb => ⟨rfl, I.turned (t' := s.toks) (fun b o hb e => eb b o hb e) f0 f1 f3 f4 f5⟩
  self := fun _ _ _ _ _ st h => wpAny_pyIter_listiter st h
theorem turn_tuple {P : Program} {w : World} {K : PySem.W.Frag} {tg : Expr} (a it : Addr) : Turn P w K tg (Itt K a) [it] it (fun i h => h.IsTupleIter it a i) where
  mem := by simp
  obj := fun i h st b hb => by
    have e : b = it := by simpa using hb
    subst e
    obtain ⟨o, e, c, d⟩ := st
    exact ⟨o, e, fun v z => by rw [d] at z; cases z⟩
  keep := fun i h h' st k => st.at fun o e => k it (by simp) o e
  item := by
    intro X hP hw hK hc i pins s σ H E I hf st hg
    subst hP hw hK
    obtain ⟨xs, x, hq, hx⟩ := hg
    obtain ⟨its, rv, p, hz⟩ := I.tuple hq
    obtain ⟨u, hu, ru⟩ := rv.get hx
    obtain ⟨f0, f1, f2, f3, f4, f5⟩ := hf it (by simp)
    refine wpAny_pyNext_tuple_item st (show s.heap.IsTuple a its.toArray from p) (x := u) (by simpa using hu) fun h' st' sb => ?_
    have I1 : Inv X pins σ H { s with heap := h' } := I.turned (t' := s.toks) (fun b o hb e => (sb.2 b hb).trans e) f0 f1 f3 f4 f5
    obtain ⟨o, e, c, d⟩ := id st'
    exact ⟨u, rfl, go_of (s := { s with heap := h' }) e c d (by decide) ⟨x, H, I1, ru, ⟨rfl, fun ys hy => by rw [I.tuple_inj hy hq]; exact hx⟩, st', fun b hb => (hf b hb).1⟩⟩
  done := by
    intro X hP hw hK hc i pins s σ H E I hf st hg
    subst hP hw hK
    obtain ⟨xs, hq, hx⟩ := hg
    obtain ⟨its, rv, p, hz⟩ := I.tuple hq
    obtain ⟨f0, f1, f2, f3, f4, f5⟩ := hf it (by simp)
    have hl := rv.length
    exact wpAny_pyNext_tuple_end (I.ok.hd hc) st (show s.heap.IsTuple a its.toArray from p) (by simp; omega) fun h' eb => ⟨rfl, I.turned (t' := s.toks) (fun b o hb e => eb b o hb e) f0 f1 f3 f4 f5⟩
  self := fun _ _ _ _ _ st h => wpAny_pyIter_tupleiter st h
theorem turn_range {P : Program} {w : World} {K : PySem.W.Frag} {tg : Expr} (it : Addr) (lo : Int) (n : Nat) : Turn P w K tg (Itr lo n) [it] it (fun i h => IsRangeIter h it (lo + (i : Nat) * 1) ((n : Int) - (i : Nat)) 1) where
  mem := by simp
  obj := fun i h st b hb => by
    have e : b = it := by simpa using hb
    subst e
    exact ⟨_, st, fun v z => by
      have z' : Data.fields _ = Data.cell v := z
      cases z'⟩
  keep := fun i h h' st k => k it (by simp) _ st
  item := by
    intro X hP hw hK hc i pins s σ H E I hf st hg
    subst hP hw hK
    obtain ⟨f0, f1, f2, f3, f4, f5⟩ := hf it (by simp)
    have W := Walks.range (prog := X.prog) (w := X.w) (I.ok.hd hc) it lo 1 n
    refine W.item i s _ _ hg st fun v h' tk hv st' kk => ?_
    obtain ⟨t, rfl⟩ := hv
    have I1 : Inv X pins σ H { s with heap := h', toks := tk } := I.turned (fun b o hb e => kk b o (by simpa using hb) e) f0 f1 f3 f4 f5
    refine ⟨_, rfl, go_of (s := { s with heap := h', toks := tk }) (n := "range_iterator") st' rfl rfl (by decide) ⟨.int (lo + i), H, I1, ⟨t, ?_⟩, ⟨rfl, rfl⟩, st', fun b hb => (hf b hb).1⟩⟩
    rw [Int.mul_one]
  done := by
    intro X hP hw hK hc i pins s σ H E I hf st hg
    subst hP hw hK
    obtain ⟨f0, f1, f2, f3, f4, f5⟩ := hf it (by simp)
    exact wpAny_pyNext_range_end (I.ok.hd hc) st (by have : n ≤ i := hg; omega) fun h' eb => ⟨rfl, I.turned (t' := s.toks) (fun b o hb e => eb b o hb e) f0 f1 f3 f4 f5⟩
  self := fun _ _ _ _ _ st h => wpAny_pyIter_rangeiter st h
end L2
namespace L2
open PySem PySem.Spec PyProof.Rows
section
variable {X : Cx} {tg : Expr}
noncomputable def iList (K : PySem.W.Frag) (tl : TE) : TI := fun σ H R => tl σ H fun x H1 => ∃ a, x = .ref a ∧ (∃ xs, SqL K H1 a xs) ∧ R (Itl K a) H1
noncomputable def iTup (K : PySem.W.Frag) (tl : TE) : TI := fun σ H R => tl σ H fun x H1 => ∃ a, x = .ref a ∧ (∃ xs, SqT K H1 a xs) ∧ R (Itt K a) H1
theorem pi_list {l : Expr} {tl : TE} (hl : PE X l tl) : PI X tg l (iList X.K tl) := by
  intro pins s σ H R I h
  refine thn (hl pins s σ H _ I h) fun v s1 ⟨x, H1, I1, r1, q1⟩ => ?_
  obtain ⟨a, e, ⟨xs, hq⟩, q⟩ := q1
  subst e
  cases r1
  obtain ⟨its, rv, p, hz⟩ := I1.list hq
  refine wpAny_pyIter_list p.isList ?_
  refine ⟨s1.heap.objs.size, [s1.heap.objs.size], _, _, H1, rfl, I1.kept (t' := s1.toks) fun b o e => Heap.get?_push_of_some _ e, turn_list a _, ⟨_, Heap.get?_push_size _ rfl, rfl, rfl⟩, fun b hb => ?_, q⟩
  have e : b = s1.heap.objs.size := by simpa using hb
  subst e
  exact I1.fpOk (Nat.le_refl _) (I1.hok.fresh (Nat.le_refl _))
theorem pi_tup {l : Expr} {tl : TE} (hl : PE X l tl) : PI X tg l (iTup X.K tl) := by
  intro pins s σ H R I h
  refine thn (hl pins s σ H _ I h) fun v s1 ⟨x, H1, I1, r1, q1⟩ => ?_
  obtain ⟨a, e, ⟨xs, hq⟩, q⟩ := q1
  subst e
  cases r1
  obtain ⟨its, rv, p, hz⟩ := I1.tuple hq
  refine wpAny_pyIter_tuple (show s1.heap.IsTuple a its.toArray from p) ?_
  refine ⟨s1.heap.objs.size, [s1.heap.objs.size], _, _, H1, rfl, I1.kept (t' := s1.toks) fun b o e => Heap.get?_push_of_some _ e, turn_tuple a _, ⟨_, Heap.get?_push_size _ rfl, rfl, rfl⟩, fun b hb => ?_, q⟩
  have e : b = s1.heap.objs.size := by simpa using hb
  subst e
  exact I1.fpOk (Nat.le_refl _) (I1.hok.fresh (Nat.le_refl _))
theorem range_it {pins : List (Addr × Obj)} {σ : St} {H : Hp} {s : Shared} {R : It → Hp → Prop} {E : Value → Shared → Prop} {lo hi : Int} {t u v : Tok} {tk : Nat} (I : Inv X pins σ H s) (h1 : -(2 ^ 62) ≤ lo) (h2 : lo < 2 ^ 62) (h3 : -(2 ^ 62) ≤ hi) (h4 : hi < 2 ^ 62)
    (q : R (Itr lo (hi - lo).toNat) H) : wpAny (model X.prog X.w) X.A (pyIter (.ref s.heap.objs.size)) (PIE X pins σ tg R) E { s with heap := s.heap.push { cls := .type "range", data := .fields #[.int lo t, .int hi u, .int 1 v] }, toks := tk } := by
  refine wpAny_pyIter_range (IsRange.new ..) (small_one h1 h2 h3 h4) ?_
  have I1 : Inv X pins σ H { s with heap := s.heap.push { cls := .type "range", data := .fields #[.int lo t, .int hi u, .int 1 v] }, toks := tk } := I.kept fun b o e => Heap.get?_push_of_some _ e
  refine ⟨(s.heap.push { cls := .type "range", data := .fields #[.int lo t, .int hi u, .int 1 v] }).objs.size, [(s.heap.push { cls := .type "range", data := .fields #[.int lo t, .int hi u, .int 1 v] }).objs.size], _, _, H, rfl,
    I1.kept (t' := tk) fun b o e => Heap.get?_push_of_some _ e, turn_range _ lo (hi - lo).toNat, ?_, fun b hb => ?_, q⟩
  · have e1 : lo + ((0 : Nat) : Int) * 1 = lo := by simp
    have e2 : (((hi - lo).toNat : Nat) : Int) - ((0 : Nat) : Int) = Builtin.Range.rangeSize lo hi 1 := by rw [rangeSize_one]; split <;> omega
    show IsRangeIter _ _ (lo + ((0 : Nat) : Int) * 1) ((((hi - lo).toNat : Nat) : Int) - ((0 : Nat) : Int)) 1
    rw [e1, e2]
    exact Heap.get?_push_size _ rfl
  · have e : b = (s.heap.push { cls := .type "range", data := .fields #[.int lo t, .int hi u, .int 1 v] }).objs.size := by simpa using hb
    subst e
    exact I1.fpOk (Nat.le_refl _) (I1.hok.fresh (Nat.le_refl _))
noncomputable def iRng1 (ta : TA) : TI := fun σ H R => ta σ H fun vs H1 => ∃ j : Int, vs = [.int j] ∧ -(2 ^ 62) ≤ j ∧ j < 2 ^ 62 ∧ R (Itr 0 j.toNat) H1
theorem pi_range1 {a : Expr} {ta : TA} {p pos : Pos} (hg : Gl X "range") (hm : X.mg "range" = none) (ha : PA X [a] ta) (hs : starEach [a] X.env = [(false, eval a X.env)] := by rfl) : PI X tg (.Call (.Name "range" p) [a] [] pos) (iRng1 ta) := by
  intro pins s σ H R I h
  refine Call_ (ld_blt I hg hm boot_range (PyProof.Rows.callWith_type1 (thn (ha pos pins s σ H _ I h) fun us s1 ⟨vs, H1, I1, r1, q1⟩ => ?_) hs rfl))
  obtain ⟨j, e, q1, q2, q⟩ := q1
  subst e
  cases r1 with
  | cons r rr =>
    cases rr
    obtain ⟨t, rfl⟩ := r
    exact call_range_1 (range_it I1 (by omega) (by omega) q1 q2 (by simpa using q))
noncomputable def tFor (wi : TI) (g : TG) (tb : TS) : TS := fun D σ H => wi σ H fun J H1 => ∃ W : Nat → Nat → St → Hp → Prop, (∃ m, W 0 m σ H1) ∧ ∀ i m σ H, W i m σ H →
  (J.stop i H ∧ D.nx σ H) ∨ (J.go i H ∧ ∃ N : St → Hp → Prop, (∀ σ' H', N σ' H' → ∃ m', m' < m ∧ W (i + 1) m' σ' H') ∧ ∀ x H', J.yld i H x H' → g x σ H' fun σ2 H2 => tb { D with nx := N, ct := N, bk := D.nx } σ2 H2)
noncomputable def pinsAt (fp : List Addr) (h : Heap) : List (Addr × Obj) := fp.filterMap fun b => (h.get? b).map fun o => (b, o)
theorem mem_pinsAt {fp : List Addr} {h : Heap} {b : Addr} {o : Obj} (hb : b ∈ fp) (e : h.get? b = some o) : (b, o) ∈ pinsAt fp h := List.mem_filterMap.mpr ⟨b, hb, by rw [e]; rfl⟩
theorem of_pinsAt {fp : List Addr} {h : Heap} {p : Addr × Obj} (hp : p ∈ pinsAt fp h) : p.1 ∈ fp ∧ h.get? p.1 = some p.2 := by
  obtain ⟨b, hb, e⟩ := List.mem_filterMap.mp hp
  cases q : h.get? b with
  | none => rw [q] at e; cases e
  | some o =>
    rw [q] at e
    have e' : (b, o) = p := Option.some.inj e
    subst e'
    exact ⟨hb, q⟩
theorem Inv.pinned {pins : List (Addr × Obj)} {σ : St} {H : Hp} {s : Shared} {fp : List Addr} (I : Inv X pins σ H s) (hf : ∀ b ∈ fp, FpOk X pins H b) (ho : ∀ b ∈ fp, ∃ o, s.heap.get? b = some o ∧ ∀ v, o.data ≠ .cell v) : Inv X (pins ++ pinsAt fp s.heap) σ H s :=
  I.pins_of fun p hp => (List.mem_append.mp hp).elim (fun z => I.pin p (List.mem_append_right _ z)) fun z => by
    obtain ⟨hb, e⟩ := of_pinsAt z
    obtain ⟨f0, f1, f2, _⟩ := hf p.1 hb
    obtain ⟨o, e', d⟩ := ho p.1 hb
    rw [e] at e'; cases e'
    exact ⟨e, f0, f1, f2, d⟩
theorem Inv.unpinned {pins pl : List (Addr × Obj)} {σ : St} {H : Hp} {s : Shared} (I : Inv X (pins ++ pl) σ H s) : Inv X pins σ H s := I.pins_of fun p hp => I.pin p (List.mem_append_right _ (List.mem_append_left _ hp))
theorem ps_for {iter : Expr} {body : List Stmt} {wi : TI} {g : TG} {tb : TS} {pos : Pos} (hp : PassesOwn (model X.prog X.w) X.A X.env X.xe) (hc : X.calm = true) (hi : PI X tg iter wi) (hg : PG X tg g) (hb : PSs X body tb)
    (hs : ∀ x, foldedSetIterable iter X.env x = pure x := by intro _; rfl) : PS X (.For tg iter body [] pos) (tFor wi g tb) := by
  intro pins s σ H D I h
  refine wpAny_For (thn (hi pins s σ H _ I h) fun v s1 h1 => thn h1 fun itv s2 h2 => ?_) hs
  obtain ⟨it, fp, tn, J, H2, e, I2, T, st2, f2, W, ⟨m0, w0⟩, turn⟩ := h2
  subst e
  have stat : ∀ {H' : Hp}, (∀ b ∈ fp, H' b = none) → ∀ b ∈ fp, FpOk X pins H' b := fun hn b hb => ⟨hn b hb, (f2 b hb).2⟩
  refine codeAny_forLoop_any (fun n s' => ∃ i σ' H', Inv X pins σ' H' s' ∧ tn i s'.heap ∧ (∀ b ∈ fp, H' b = none) ∧ W i n σ' H') ?_ m0 ⟨0, σ, H2, I2, st2, fun b hb => (f2 b hb).1, w0⟩
  rintro n s3 ⟨i, σ3, H3, I3, st3, fr3, w3⟩
  rcases turn i n σ3 H3 w3 with ⟨stop, qn⟩ | ⟨go, N, hN, step⟩
  · refine wpAny_passesOwn hp (thn (T.done X rfl rfl rfl hc i pins s3 σ3 H3 X.xe I3 (stat fr3) st3 stop) fun r s4 ⟨hr, I4⟩ => ?_)
    subst hr
    exact wpAny_execs_nil ⟨σ3, H3, I4, qn⟩
  · refine wpAny_passesOwn hp (thn (T.item X rfl rfl rfl hc i pins s3 σ3 H3 X.xe I3 (stat fr3) st3 go) fun r s4 ⟨u, hr, h4⟩ => ?_)
    subst hr
    refine wpAny_passesOwn hp (thn h4 fun _ s5 ⟨x, H5, I5, r5, y5, st5, fr5⟩ => ?_)
    have I5' := I5.pinned (stat fr5) (T.obj _ _ st5)
    refine wpAny_passesOwn hp (thn (hg _ s5 σ3 H5 x u _ I5' r5 (step x H5 y5)) fun _ s6 ⟨σ6, H6, I6, q6⟩ => ?_)
    refine wpAny_passesOwn hp (thn (hb _ s6 σ6 H6 _ I6 q6) fun f s7 q7 => ?_)
    have again : ∀ {σ7 : St} {H7 : Hp}, Inv X (pins ++ pinsAt fp s5.heap) σ7 H7 s7 → N σ7 H7 → ∃ m, m < n ∧ ∃ i σ' H', Inv X pins σ' H' s7 ∧ tn i s7.heap ∧ (∀ b ∈ fp, H' b = none) ∧ W i m σ' H' := fun {σ7 H7} I7 n7 => by
      obtain ⟨m', hm, w7⟩ := hN σ7 H7 n7
      refine ⟨m', hm, i + 1, σ7, H7, I7.unpinned, T.keep _ _ _ st5 fun b hb o e => (I7.pin (b, o) (List.mem_append_right _ (List.mem_append_right _ (mem_pinsAt hb e)))).1, fun b hb => ?_, w7⟩
      obtain ⟨o, e, d⟩ := T.obj _ _ st5 b hb
      exact (I7.pin (b, o) (List.mem_append_right _ (List.mem_append_right _ (mem_pinsAt hb e)))).2.1
    cases f with
    | next => obtain ⟨σ7, H7, I7, n7⟩ := q7; exact again I7 n7
    | cont => obtain ⟨σ7, H7, I7, n7⟩ := q7; exact again I7 n7
    | brk => obtain ⟨σ7, H7, I7, q7⟩ := q7; exact ⟨σ7, H7, I7.unpinned, q7⟩
    | ret v => obtain ⟨x7, σ7, H7, I7, r7, q7⟩ := q7; exact ⟨x7, σ7, H7, I7.unpinned, r7, q7⟩
end
theorem for_list {K : PySem.W.Frag} {a : Addr} {xs : List V} {g : TG} {tb : TS} {D : Ends} {σ : St} {H : Hp} (Pv : Nat → St → Hp → Prop) (h0 : Pv 0 σ H) (hl : ∀ i σ H, i ≤ xs.length → Pv i σ H → SqL K H a xs)
    (hs : ∀ i x σ H, xs[i]? = some x → Pv i σ H → g x σ H fun σ2 H2 => tb { D with nx := Pv (i + 1), ct := Pv (i + 1), bk := D.nx } σ2 H2) (hd : ∀ σ H, Pv xs.length σ H → D.nx σ H) :
    ∃ W : Nat → Nat → St → Hp → Prop, (∃ m, W 0 m σ H) ∧ ∀ i m σ H, W i m σ H →
      ((Itl K a).stop i H ∧ D.nx σ H) ∨ ((Itl K a).go i H ∧ ∃ N : St → Hp → Prop, (∀ σ' H', N σ' H' → ∃ m', m' < m ∧ W (i + 1) m' σ' H') ∧ ∀ x H', (Itl K a).yld i H x H' → g x σ H' fun σ2 H2 => tb { D with nx := N, ct := N, bk := D.nx } σ2 H2) := by
  refine ⟨fun i m σ H => m = xs.length - i ∧ i ≤ xs.length ∧ Pv i σ H, ⟨xs.length, by simp, Nat.zero_le _, h0⟩, ?_⟩
  rintro i m σ H ⟨rfl, hi, p⟩
  have q := hl i σ H hi p
  by_cases hlt : i < xs.length
  · refine .inr ⟨⟨xs, xs[i], q, by simp [hlt]⟩, Pv (i + 1), fun σ' H' p' => ⟨xs.length - (i + 1), by omega, rfl, hlt, p'⟩, fun x H' y => ?_⟩
    obtain ⟨e, y⟩ := y
    subst e
    exact hs i x σ _ (y xs q) p
  · have e : i = xs.length := by omega
    subst e
    exact .inl ⟨⟨xs, q, Nat.le_refl _⟩, hd σ H p⟩
theorem for_range {lo : Int} {n : Nat} {g : TG} {tb : TS} {D : Ends} {σ : St} {H : Hp} (Pv : Nat → St → Hp → Prop) (h0 : Pv 0 σ H)
    (hs : ∀ i σ H, i < n → Pv i σ H → g (.int (lo + i)) σ H fun σ2 H2 => tb { D with nx := Pv (i + 1), ct := Pv (i + 1), bk := D.nx } σ2 H2) (hd : ∀ σ H, Pv n σ H → D.nx σ H) :
    ∃ W : Nat → Nat → St → Hp → Prop, (∃ m, W 0 m σ H) ∧ ∀ i m σ H, W i m σ H →
      ((Itr lo n).stop i H ∧ D.nx σ H) ∨ ((Itr lo n).go i H ∧ ∃ N : St → Hp → Prop, (∀ σ' H', N σ' H' → ∃ m', m' < m ∧ W (i + 1) m' σ' H') ∧ ∀ x H', (Itr lo n).yld i H x H' → g x σ H' fun σ2 H2 => tb { D with nx := N, ct := N, bk := D.nx } σ2 H2) := by
  refine ⟨fun i m σ H => m = n - i ∧ i ≤ n ∧ Pv i σ H, ⟨n, by simp, Nat.zero_le _, h0⟩, ?_⟩
  rintro i m σ H ⟨rfl, hi, p⟩
  by_cases hlt : i < n
  · refine .inr ⟨hlt, Pv (i + 1), fun σ' H' p' => ⟨n - (i + 1), by omega, rfl, hlt, p'⟩, fun x H' y => ?_⟩
    obtain ⟨e, y⟩ := y
    subst e y
    exact hs i σ _ hlt p
  · have e : i = n := by omega
    subst e
    exact .inl ⟨Nat.le_refl _, hd σ H p⟩
end L2
namespace L2
open PySem PySem.Spec PyProof.Rows
noncomputable abbrev R2 := V → V → Hp → VK → Prop
noncomputable def OpR (X : Cx) (f : Value → Value → Sem Value) (r : R2) : Prop :=
  ∀ (pins : List (Addr × Obj)) (s : Shared) (σ : St) (H : Hp) (x y : V) (v u : Value) (Q : VK), Inv X pins σ H s → RelV x v → RelV y u → r x y H Q →
    wpAny (model X.prog X.w) X.A (f v u) (EP X pins σ Q) X.xe s
noncomputable def UnR (X : Cx) (f : Value → Sem Value) (r : V → Hp → VK → Prop) : Prop :=
  ∀ (pins : List (Addr × Obj)) (s : Shared) (σ : St) (H : Hp) (x : V) (v : Value) (Q : VK), Inv X pins σ H s → RelV x v → r x H Q →
    wpAny (model X.prog X.w) X.A (f v) (EP X pins σ Q) X.xe s
noncomputable def CallR (X : Cx) (f : Value) (r : List V → Hp → VK → Prop) : Prop :=
  ∀ (pins : List (Addr × Obj)) (s : Shared) (σ : St) (H : Hp) (xs : List V) (us : List Value) (Q : VK), Inv X pins σ H s → Vals xs us → r xs H Q →
    wpAny (model X.prog X.w) X.A (call f us) (EP X pins σ Q) X.xe s
noncomputable def tOp (r : R2) (ta tb : TE) : TE := fun σ H Q => ta σ H fun x H1 => tb σ H1 fun y H2 => r x y H2 Q
noncomputable def tUn (r : V → Hp → VK → Prop) (ta : TE) : TE := fun σ H Q => ta σ H fun x H1 => r x H1 Q
noncomputable def rI (C : Int → Int → Prop) (g : Int → Int → V) : R2 := fun x y H Q => ∃ i j, x = .int i ∧ y = .int j ∧ C i j ∧ Q (g i j) H
noncomputable def rI0 (g : Int → Int → V) : R2 := fun x y H Q => ∃ i j, x = .int i ∧ y = .int j ∧ Q (g i j) H
noncomputable def rU (g : Int → V) : V → Hp → VK → Prop := fun x H Q => ∃ i, x = .int i ∧ Q (g i) H
section
variable {X : Cx} {a b c : Expr} {ta tb tc : TE} {pos : Pos}
theorem binT (ha : PE X a ta) (hb : PE X b tb) {pins : List (Addr × Obj)} {s : Shared} {σ : St} {H : Hp} {R : V → V → Hp → Prop} (I : Inv X pins σ H s)
    (h : ta σ H fun x H1 => tb σ H1 fun y H2 => R x y H2) {Q : Value → Shared → Prop} {f : Value → Value → Sem Value}
    (hf : ∀ v u s2 x y H2, Inv X pins σ H2 s2 → RelV x v → RelV y u → R x y H2 → wpAny (model X.prog X.w) X.A (f v u) Q X.xe s2) :
    wpAny (model X.prog X.w) X.A (eval a X.env) (fun v s₁ => wpAny (model X.prog X.w) X.A (eval b X.env) (fun u s₂ => wpAny (model X.prog X.w) X.A (f v u) Q X.xe s₂) X.xe s₁) X.xe s := by
  refine thn (ha pins s σ H _ I h) fun v s1 ⟨x, H1, I1, r1, q1⟩ => ?_
  refine thn (hb pins s1 σ H1 _ I1 q1) fun u s2 ⟨y, H2, I2, r2, q2⟩ => ?_
  exact hf v u s2 x y H2 I2 r1 r2 q2
theorem pe_op {op : Operator} {r : R2} (ho : OpR X (binaryOp op) r) (ha : PE X a ta) (hb : PE X b tb) : PE X (.BinOp a op b pos) (tOp r ta tb) := by
  intro pins s σ H Q I h
  exact wpAny_BinOp (binT ha hb I h fun v u s2 x y H2 I2 rx ry q => ho pins s2 σ H2 x y v u Q I2 rx ry q)
theorem pe_un {op : UnaryOp} {r : V → Hp → VK → Prop} (ho : UnR X (unaryOp op) r) (ha : PE X a ta) : PE X (.UnaryOp op a pos) (tUn r ta) := by
  intro pins s σ H Q I h
  exact UnaryOp_ (thn (ha pins s σ H _ I h) fun v s1 ⟨x, H1, I1, r1, q1⟩ => ho pins s1 σ H1 x v Q I1 r1 q1)
theorem opI {f : Value → Value → Sem Value} {C : Int → Int → Prop} {g : Int → Int → Int}
    (rule : ∀ (i j : Int) (t u : Tok) (s : Shared) (Q : Value → Shared → Prop) (E : Value → Shared → Prop), C i j → Q (.int (g i j) s.toks) { s with toks := s.toks + 1 } → wpAny (model X.prog X.w) X.A (f (.int i t) (.int j u)) Q E s) :
    OpR X f (rI C fun i j => .int (g i j)) := by
  intro pins s σ H x y v u Q I rx ry h
  obtain ⟨i, j, rfl, rfl, hc, q⟩ := h
  obtain ⟨t, rfl⟩ := rx
  obtain ⟨t', rfl⟩ := ry
  exact rule i j t t' s _ _ hc ⟨.int (g i j), H, I.tok _, ⟨_, rfl⟩, q⟩
theorem opI0 {f : Value → Value → Sem Value} {g : Int → Int → Int}
    (rule : ∀ (i j : Int) (t u : Tok) (s : Shared) (Q : Value → Shared → Prop) (E : Value → Shared → Prop), Q (.int (g i j) s.toks) { s with toks := s.toks + 1 } → wpAny (model X.prog X.w) X.A (f (.int i t) (.int j u)) Q E s) :
    OpR X f (rI0 fun i j => .int (g i j)) := by
  intro pins s σ H x y v u Q I rx ry h
  obtain ⟨i, j, rfl, rfl, q⟩ := h
  obtain ⟨t, rfl⟩ := rx
  obtain ⟨t', rfl⟩ := ry
  exact rule i j t t' s _ _ ⟨.int (g i j), H, I.tok _, ⟨_, rfl⟩, q⟩
theorem opB0 {f : Value → Value → Sem Value} {g : Int → Int → Bool}
    (rule : ∀ (i j : Int) (t u : Tok) (s : Shared) (Q : Value → Shared → Prop) (E : Value → Shared → Prop), Q (.bool (g i j)) s → wpAny (model X.prog X.w) X.A (f (.int i t) (.int j u)) Q E s) :
    OpR X f (rI0 fun i j => .bl (g i j)) := by
  intro pins s σ H x y v u Q I rx ry h
  obtain ⟨i, j, rfl, rfl, q⟩ := h
  obtain ⟨t, rfl⟩ := rx
  obtain ⟨t', rfl⟩ := ry
  exact rule i j t t' s _ _ ⟨.bl (g i j), H, I, rfl, q⟩
noncomputable def CDiv (i j : Int) : Prop := 0 < j ∧ j < 1073741824
noncomputable def CPow (i j : Int) : Prop := 0 ≤ j ∧ j ≤ 1000000 ∧ i.natAbs < 2 ^ 64
noncomputable def CMul (i j : Int) : Prop := (-(2 ^ 64) < i ∧ i < 2 ^ 64) ∨ (-(2 ^ 64) < j ∧ j < 2 ^ 64)
theorem CMul.ok {i j : Int} (h : CMul i j) : IntMulOk i j := by
  rcases h with ⟨h1, h2⟩ | ⟨h1, h2⟩
  · exact .of_left (intBits_le_64 h1 h2)
  · exact .of_right (intBits_le_64 h1 h2)
theorem op_add : OpR X (binaryOp .Add) (rI0 fun i j => .int (i + j)) := opI0 fun _ _ _ _ _ _ _ q => add_int q
theorem op_mul : OpR X (binaryOp .Mult) (rI CMul fun i j => .int (i * j)) := opI fun _ _ _ _ _ _ _ hc q => mul_int q hc.ok
theorem op_fdiv : OpR X (binaryOp .FloorDiv) (rI CDiv fun i j => .int (i / j)) := opI fun i j _ _ _ _ _ hc q => by
  have h1 : (0 : Int) < j := hc.1
  have h2 : j < 1073741824 := hc.2
  exact floordiv_int (by omega) (by rw [Int.fdiv_eq_ediv_of_nonneg i (by omega)]; exact q) (.inl (PyProof.noPylong_small (by omega)))
theorem op_mod : OpR X (binaryOp .Mod) (rI (fun _ j => 0 < j) fun i j => .int (i % j)) := opI fun i j _ _ _ _ _ hc q => by
  have h1 : (0 : Int) < j := hc
  exact mod_int' (by omega) (by rw [Int.fmod_eq_emod_of_nonneg i (by omega)]; exact q)
theorem op_pow : OpR X (binaryOp .Pow) (rI CPow fun i j => .int (i ^ j.toNat)) := opI fun _ _ _ _ _ _ _ hc q => pow_int_small hc.1 hc.2.1 hc.2.2 q
theorem unI {f : Value → Sem Value} {g : Int → Int}
    (rule : ∀ (i : Int) (t : Tok) (s : Shared) (Q : Value → Shared → Prop) (E : Value → Shared → Prop), Q (.int (g i) s.toks) { s with toks := s.toks + 1 } → wpAny (model X.prog X.w) X.A (f (.int i t)) Q E s) :
    UnR X f (rU fun i => .int (g i)) := by
  intro pins s σ H x v Q I rx h
  obtain ⟨i, rfl, q⟩ := h
  obtain ⟨t, rfl⟩ := rx
  exact rule i t s _ _ ⟨.int (g i), H, I.tok _, ⟨_, rfl⟩, q⟩
theorem un_neg : UnR X (unaryOp .USub) (rU fun i => .int (-i)) := unI fun _ _ _ _ _ q => neg_int q
end
noncomputable def scal : V → V → Bool
  | .non, .non => true | .non, .int _ => true | .int _, .non => true | .non, .bl _ => true | .bl _, .non => true | .non, .str _ => true | .str _, .non => true
  | .int _, .int _ => true | .bl _, .bl _ => true | .str _, .str _ => true | .byt _, .byt _ => true
  | .int _, .str _ => true | .str _, .int _ => true | .bl _, .str _ => true | .str _, .bl _ => true
  | _, _ => false
noncomputable def rEq : R2 := fun x y H Q => scal x y = true ∧ Q (.bl (decide (x = y))) H
noncomputable def rNe : R2 := fun x y H Q => scal x y = true ∧ Q (.bl (!decide (x = y))) H
theorem dec_int {i j : Int} : decide (V.int i = V.int j) = (i == j) := by
  rw [Bool.eq_iff_iff]
  simp
theorem dec_bl {i j : Bool} : decide (V.bl i = V.bl j) = (i == j) := by
  rw [Bool.eq_iff_iff]
  simp
theorem dec_str {i j : Str} : decide (V.str i = V.str j) = (i == j) := by
  rw [Bool.eq_iff_iff]
  simp
theorem dec_byt {i j : Array UInt8} : decide (V.byt i = V.byt j) = (i.toList == j.toList) := by
  rw [Bool.eq_iff_iff]
  cases i
  cases j
  simp
section
variable {X : Cx} {a b c : Expr} {ta tb tc : TE} {pos : Pos}
theorem fin_bl {pins : List (Addr × Obj)} {σ : St} {H : Hp} {s : Shared} {Q : VK} {k k' : Bool} (I : Inv X pins σ H s) (q : Q (.bl k) H) (e : k = k') : EP X pins σ Q (.bool k') s := by
  subst e
  exact ⟨.bl k, H, I, rfl, q⟩
theorem op_eq : OpR X (compareOp .Eq) rEq := by
  intro pins s σ H x y v u Q I rx ry h
  obtain ⟨hs, q⟩ := h
  cases x with
  | non =>
    cases rx
    cases y with
    | non => cases ry; exact PySem.EqNone.eq_none_none (fin_bl I q (by simp))
    | bl j => cases ry; exact PySem.EqNone.eq_none_bool (fin_bl I q (by simp))
    | int j => obtain ⟨t', rfl⟩ := ry; exact PySem.EqNone.eq_none_int (fin_bl I q (by simp))
    | str j => obtain ⟨t', rfl⟩ := ry; exact PySem.EqNone.eq_none_str (fin_bl I q (by simp))
    | _ => exact absurd (show false = true from hs) Bool.false_ne_true
  | bl i =>
    cases rx
    cases y with
    | non => cases ry; exact PySem.EqNone.eq_bool_none (fin_bl I q (by simp))
    | bl j => cases ry; exact eq_bool (fin_bl I q dec_bl)
    | str j => obtain ⟨t', rfl⟩ := ry; exact PySem.EqMixed.eq_bool_str (fin_bl I q (by simp))
    | _ => exact absurd (show false = true from hs) Bool.false_ne_true
  | int i =>
    obtain ⟨t, rfl⟩ := rx
    cases y with
    | non => cases ry; exact PySem.EqNone.eq_int_none (fin_bl I q (by simp))
    | int j => obtain ⟨t', rfl⟩ := ry; exact eq_int (fin_bl I q dec_int)
    | str j => obtain ⟨t', rfl⟩ := ry; exact PySem.EqMixed.eq_int_str (fin_bl I q (by simp))
    | _ => exact absurd (show false = true from hs) Bool.false_ne_true
  | str i =>
    obtain ⟨t, rfl⟩ := rx
    cases y with
    | non => cases ry; exact PySem.EqNone.eq_str_none (fin_bl I q (by simp))
    | bl j => cases ry; exact PySem.EqMixed.eq_str_bool (fin_bl I q (by simp))
    | int j => obtain ⟨t', rfl⟩ := ry; exact PySem.EqMixed.eq_str_int (fin_bl I q (by simp))
    | str j => obtain ⟨t', rfl⟩ := ry; exact eq_str (fin_bl I q dec_str)
    | _ => exact absurd (show false = true from hs) Bool.false_ne_true
  | byt i =>
    obtain ⟨t, rfl⟩ := rx
    cases y with
    | byt j => obtain ⟨t', rfl⟩ := ry; exact PySem.W.eq_bytes (fin_bl I q dec_byt)
    | _ => exact absurd (show false = true from hs) Bool.false_ne_true
  | _ => cases y <;> exact absurd (show false = true from hs) Bool.false_ne_true
theorem op_ne : OpR X (compareOp .NotEq) rNe := by
  intro pins s σ H x y v u Q I rx ry h
  obtain ⟨hs, q⟩ := h
  cases x with
  | non =>
    cases rx
    cases y with
    | non => cases ry; exact PySem.EqNone.ne_none_none (fin_bl I q (by simp))
    | bl j => cases ry; exact PySem.EqNone.ne_none_bool (fin_bl I q (by simp))
    | int j => obtain ⟨t', rfl⟩ := ry; exact PySem.EqNone.ne_none_int (fin_bl I q (by simp))
    | str j => obtain ⟨t', rfl⟩ := ry; exact PySem.EqNone.ne_none_str (fin_bl I q (by simp))
    | _ => exact absurd (show false = true from hs) Bool.false_ne_true
  | bl i =>
    cases rx
    cases y with
    | non => cases ry; exact PySem.EqNone.ne_bool_none (fin_bl I q (by simp))
    | bl j => cases ry; exact ne_bool (fin_bl I q (congrArg not dec_bl))
    | str j => obtain ⟨t', rfl⟩ := ry; exact PySem.EqMixed.ne_bool_str (fin_bl I q (by simp))
    | _ => exact absurd (show false = true from hs) Bool.false_ne_true
  | int i =>
    obtain ⟨t, rfl⟩ := rx
    cases y with
    | non => cases ry; exact PySem.EqNone.ne_int_none (fin_bl I q (by simp))
    | int j => obtain ⟨t', rfl⟩ := ry; exact ne_int (fin_bl I q (congrArg not dec_int))
    | str j => obtain ⟨t', rfl⟩ := ry; exact PySem.EqMixed.ne_int_str (fin_bl I q (by simp))
    | _ => exact absurd (show false = true from hs) Bool.false_ne_true
  | str i =>
    obtain ⟨t, rfl⟩ := rx
    cases y with
    | non => cases ry; exact PySem.EqNone.ne_str_none (fin_bl I q (by simp))
    | bl j => cases ry; exact PySem.EqMixed.ne_str_bool (fin_bl I q (by simp))
    | int j => obtain ⟨t', rfl⟩ := ry; exact PySem.EqMixed.ne_str_int (fin_bl I q (by simp))
    | str j => obtain ⟨t', rfl⟩ := ry; exact ne_str (fin_bl I q (congrArg not dec_str))
    | _ => exact absurd (show false = true from hs) Bool.false_ne_true
  | byt i =>
    obtain ⟨t, rfl⟩ := rx
    cases y with
    | byt j => obtain ⟨t', rfl⟩ := ry; exact PySem.W.ne_bytes (fin_bl I q (congrArg not dec_byt))
    | _ => exact absurd (show false = true from hs) Bool.false_ne_true
  | _ => cases y <;> exact absurd (show false = true from hs) Bool.false_ne_true
theorem op_lt : OpR X (compareOp .Lt) (rI0 fun i j => .bl (decide (i < j))) := opB0 fun _ _ _ _ _ _ _ q => lt_int q
theorem op_le : OpR X (compareOp .LtE) (rI0 fun i j => .bl (decide (i ≤ j))) := opB0 fun _ _ _ _ _ _ _ q => le_int q
theorem op_gt : OpR X (compareOp .Gt) (rI0 fun i j => .bl (decide (j < i))) := opB0 fun _ _ _ _ _ _ _ q => gt_int q
theorem op_ge : OpR X (compareOp .GtE) (rI0 fun i j => .bl (decide (j ≤ i))) := opB0 fun _ _ _ _ _ _ _ q => ge_int q
theorem op_lt_str : OpR X (compareOp .Lt) (fun x y H Q => ∃ i j, x = .str i ∧ y = .str j ∧ Q (.bl (decide (i.cps.toList < j.cps.toList))) H) := by
  intro pins s σ H x y v u Q I rx ry h
  obtain ⟨i, j, rfl, rfl, q⟩ := h
  obtain ⟨t, rfl⟩ := rx
  obtain ⟨t', rfl⟩ := ry
  exact lt_str (fin_bl I q rfl)
theorem op_notN : OpR X (compareOp .IsNot) (fun x y H Q => y = .non ∧ Q (.bl (!decide (x = .non))) H) := by
  intro pins s σ H x y v u Q I rx ry h
  obtain ⟨rfl, q⟩ := h
  cases ry
  refine isnot_none_gen (fin_bl I q ?_)
  cases x <;> first
    | (cases rx; rfl)
    | (obtain ⟨t, rfl⟩ := rx; rfl)
theorem nomark (b : Expr) {op : CmpOp} (h : op ≠ .In := by decide) (h2 : op ≠ .NotIn := by decide) : behindInMarks op b = false := by
  have e1 : (op == CmpOp.In) = false := by cases op <;> first | rfl | exact absurd rfl h
  have e2 : (op == CmpOp.NotIn) = false := by cases op <;> first | rfl | exact absurd rfl h2
  cases b <;> simp [behindInMarks, e1, e2]
theorem pe_cmpR {op : CmpOp} {r : R2} (ho : OpR X (compareOp op) r) (ha : PE X a ta) (hb : PE X b tb) (hm : behindInMarks op b = false) : PE X (.Compare a [op] [b] pos) (tOp r ta tb) := by
  intro pins s σ H Q I h
  exact wpAny_Compare1 (binT ha hb I h fun v u s2 x y H2 I2 rx ry q => ho pins s2 σ H2 x y v u Q I2 rx ry q) hm
noncomputable def tTest (t : TE) : TT := fun σ H Q => t σ H fun x H' => ∃ k, x = .bl k ∧ Q k H'
theorem pt_cmpR {op : CmpOp} {r : R2} (ho : OpR X (compareOp op) r) (ha : PE X a ta) (hb : PE X b tb) (hm : behindInMarks op b = false) : PT X (.Compare a [op] [b] pos) (tTest (tOp r ta tb)) := by
  intro pins s σ H Q I h
  refine wpAny_isTrue_Compare1 (thn (ha pins s σ H _ I h) fun v s1 ⟨x, H1, I1, r1, q1⟩ => thn (hb pins s1 σ H1 _ I1 q1) fun u s2 ⟨y, H2, I2, r2, q2⟩ =>
    thn (ho pins s2 σ H2 x y v u _ I2 r1 r2 q2) fun c s3 ⟨z, H3, I3, r3, k, e, q3⟩ => ?_) hm
  subst e
  cases r3
  exact wpAny_truthy_bool ⟨H3, I3, q3⟩
noncomputable def tChain (r r' : R2) (ta tb tc : TE) : TE := fun σ H Q => ta σ H fun x H1 => tb σ H1 fun y H2 => r x y H2 fun z H3 => ∃ k, z = .bl k ∧
  (if k = true then tc σ H3 fun w' H4 => r' y w' H4 Q else Q (.bl false) H3)
theorem pe_chain {op op' : CmpOp} {r r' : R2} (ho : OpR X (compareOp op) r) (ho' : OpR X (compareOp op') r') (ha : PE X a ta) (hb : PE X b tb) (hc : PE X c tc)
    (hm : lastMarks [op, op'] [b, c] = false := by with_unfolding_all rfl) : PE X (.Compare a [op, op'] [b, c] pos) (tChain r r' ta tb tc) := by
  intro pins s σ H Q I h
  refine Compare_chain (thn (ha pins s σ H _ I h) fun v s1 ⟨x, H1, I1, r1, q1⟩ => chain_link (thn (hb pins s1 σ H1 _ I1 q1) fun u s2 ⟨y, H2, I2, r2, q2⟩ =>
    thn (ho pins s2 σ H2 x y v u _ I2 r1 r2 q2) fun d s3 ⟨z, H3, I3, r3, k, e, q3⟩ => ?_)) hm
  subst e
  cases r3
  refine wpAny_truthy_bool ?_
  cases k with
  | false => exact ite_ff ⟨.bl false, H3, I3, rfl, q3⟩
  | true => exact ite_tt (chain_last (thn (hc pins s3 σ H3 _ I3 q3) fun w' s4 ⟨z', H4, I4, r4, q4⟩ => ho' pins s4 σ H4 y z' u w' Q I4 r2 r4 q4))
theorem line63 : (sizeLine : Nat) < 2 ^ 63 := by rw [sizeLine_eq]; decide
theorem op_add_str : OpR X (binaryOp .Add) (fun x y H Q => ∃ i j, x = .str i ∧ y = .str j ∧ i.length + j.length ≤ sizeLine ∧ Q (.str (i ++ j)) H) := by
  intro pins s σ H x y v u Q I rx ry h
  obtain ⟨i, j, rfl, rfl, hz, q⟩ := h
  obtain ⟨t, rfl⟩ := rx
  obtain ⟨t', rfl⟩ := ry
  exact add_str (fun t' tk => ⟨.str (i ++ j), H, I.tok _, ⟨_, rfl⟩, q⟩) hz
theorem vals1 {x : V} {us : List Value} (r : Vals [x] us) : ∃ u, us = [u] ∧ RelV x u := by
  cases r with
  | cons r1 r2 => cases r2; exact ⟨_, rfl, r1⟩
theorem vals2 {x y : V} {us : List Value} (r : Vals [x, y] us) : ∃ u w', us = [u, w'] ∧ RelV x u ∧ RelV y w' := by
  cases r with
  | cons r1 r2 =>
    cases r2 with
    | cons r3 r4 => cases r4; exact ⟨_, _, rfl, r1, r3⟩
theorem call_abs : CallR X (.builtin "abs") (fun xs H Q => ∃ i, xs = [.int i] ∧ Q (.int (if i < 0 then -i else i)) H) := by
  intro pins s σ H xs us Q I r h
  obtain ⟨i, rfl, q⟩ := h
  obtain ⟨u, rfl, t, rfl⟩ := vals1 r
  exact call_abs_int fun u tk => ⟨.int (if i < 0 then -i else i), H, I.tok _, ⟨_, rfl⟩, q⟩
theorem call_min2 (hc : X.calm = true) : CallR X (.builtin "min") (fun xs H Q => ∃ i j, xs = [.int i, .int j] ∧ Q (.int (if j < i then j else i)) H) := by
  intro pins s σ H xs us Q I r h
  obtain ⟨i, j, rfl, q⟩ := h
  obtain ⟨u, w', rfl, ⟨t, rfl⟩, ⟨t', rfl⟩⟩ := vals2 r
  refine min_two_ints (I.ok.hd hc) fun h' tk k => ⟨_, H, I.kept k, ?_, q⟩
  by_cases hj : j < i
  · rw [if_pos hj, if_pos hj]; exact ⟨_, rfl⟩
  · rw [if_neg hj, if_neg hj]; exact ⟨_, rfl⟩
theorem call_int1 : CallR X (.type "int") (fun xs H Q => (∃ i, xs = [.int i] ∧ Q (.int i) H) ∨ ∃ k, xs = [.bl k] ∧ Q (.int (if k then 1 else 0)) H) := by
  intro pins s σ H xs us Q I r h
  rcases h with ⟨i, rfl, q⟩ | ⟨k, rfl, q⟩
  · obtain ⟨u, rfl, t, rfl⟩ := vals1 r
    exact call_int_int ⟨.int i, H, I, ⟨_, rfl⟩, q⟩
  · obtain ⟨u, rfl, r1⟩ := vals1 r
    cases r1
    exact call_int_bool ⟨.int (if k then 1 else 0), H, I.tok _, ⟨_, rfl⟩, q⟩
noncomputable def LenV (K : PySem.W.Frag) (x : V) (H : Hp) (n : Nat) : Prop :=
  match x with
  | .str y => y.length ≤ sizeLine ∧ n = y.length
  | .byt y => y.size ≤ sizeLine ∧ n = y.size
  | .ref p => (∃ xs, SqL K H p xs ∧ n = xs.length) ∨ ∃ xs, SqT K H p xs ∧ n = xs.length
  | _ => False
theorem call_len : CallR X (.builtin "len") (fun xs H Q => ∃ x n, xs = [x] ∧ LenV X.K x H n ∧ Q (.int n) H) := by
  intro pins s σ H xs us Q I r h
  obtain ⟨x, n, rfl, e, q⟩ := h
  obtain ⟨u, rfl, rx⟩ := vals1 r
  have hl := line63
  have hs : sizeLine = 16777216 := sizeLine_eq
  cases x with
  | str y =>
    obtain ⟨t, rfl⟩ := rx
    obtain ⟨hy, e'⟩ : y.length ≤ sizeLine ∧ n = y.length := e
    subst e'
    exact len_str (by omega) ⟨.int _, H, I.tok _, ⟨_, rfl⟩, q⟩
  | byt y =>
    obtain ⟨t, rfl⟩ := rx
    obtain ⟨hy, e'⟩ : y.size ≤ sizeLine ∧ n = y.size := e
    subst e'
    exact PySem.W.len_bytes (by omega) ⟨.int _, H, I.tok _, ⟨_, rfl⟩, q⟩
  | ref p =>
    cases rx
    have e' : (∃ xs, SqL X.K H p xs ∧ n = xs.length) ∨ ∃ xs, SqT X.K H p xs ∧ n = xs.length := e
    rcases e' with ⟨xs, hx, e'⟩ | ⟨xs, hx, e'⟩
    · subst e'
      obtain ⟨its, r', pl, hz⟩ := I.list hx
      have hlen := r'.length
      exact Calls.call_len_list pl.isList (by simp only [List.size_toArray]; omega) ⟨.int xs.length, H, I.tok _, ⟨_, by simp only [List.size_toArray]; rw [hlen]⟩, q⟩
    · subst e'
      obtain ⟨its, r', pl, hz⟩ := I.tuple hx
      have hlen := r'.length
      exact len_tuple pl (by simp only [List.size_toArray]; omega) ⟨.int xs.length, H, I.tok _, ⟨_, by simp only [List.size_toArray]; rw [hlen]⟩, q⟩
  | _ => exact (show False from e).elim
end
end L2
namespace L2
open PySem PySem.Spec PyProof.Rows
structure ObjM (h : Heap) (x dx C : Addr) (mA : Str → Option Value) : Prop where
  obj : h.get? x = some (PySem.W.instObj C dx)
  ns : h.Ns1 dx mA
  ne : dx ≠ x
theorem lookIn_ns {h : Heap} {dx : Addr} {mA : Str → Option Value} (n : h.Ns1 dx mA) : ∃ od, h.get? dx = some od ∧ ∀ name, PySem.W.lookIn name od = some (mA name) := by
  obtain ⟨o, es, ep, ho, hd, hk, _, hm⟩ := n
  refine ⟨o, ho, fun name => ?_⟩
  have e := hm name
  unfold nsFind findBy at e
  rw [← Array.find?_toList] at e
  unfold PySem.W.lookIn
  rw [hd]
  dsimp only
  split
  · rename_i y q
    rw [q] at e
    exact congrArg some e
  · rename_i q
    rw [q] at e
    have a : es.toList.any (·.refKey) = false := by
      rw [List.any_eq_false]
      intro y hy
      obtain ⟨z, t, hkey⟩ := hk y (Array.mem_toList_iff.mp hy)
      simp [DictEntry.refKey, hkey]
    have a' : ¬ es.toList.any (·.refKey) = true := by rw [a]; exact Bool.false_ne_true
    rw [if_neg a']
    exact congrArg some e
theorem ObjM.look {h : Heap} {x dx C : Addr} {mA : Str → Option Value} (I : ObjM h x dx C mA) : ∃ od, PySem.W.InstAt h x (PySem.W.instObj C dx) C (some od) ∧ ∀ name, PySem.W.lookIn name od = some (mA name) :=
  let ⟨od, ho, hl⟩ := lookIn_ns I.ns
  ⟨od, ⟨I.obj, rfl, rfl, ho⟩, hl⟩
theorem RelO.some_of {v : V} {o : Option Value} (r : RelO (some v) o) : ∃ u, o = some u ∧ RelV v u := by
  cases o with
  | none => exact (show False from r).elim
  | some u => exact ⟨u, rfl, r⟩
section
variable {P : Program} {w : World} {H H' : Hp} {h h' : Heap} {a C dx : Addr} {fs fs' : List (Str × V)}
theorem ins_get (hok : HOk P w H h) (e : H a = some (.ins C dx fs)) : ∃ mA, ObjM h a dx C mA ∧ (∀ f, RelO (fs.lookup f) (mA f)) ∧ PySem.Within mA (fs.map (·.1)) ∧ fs.length ≤ 1000 ∧ H dx = some (.own a) := by
  obtain ⟨d, z, ne, ob, mA, n, r, q⟩ := (show ObjOk P w H h a (.ins C dx fs) from hok a _ e)
  exact ⟨mA, ⟨ob, n, ne⟩, r, q, z, d⟩
end
structure Cls (K : PySem.W.Frag) (C : Addr) : Prop where
  pg : PySem.W.plainGet K C Str.empty = true
  hd : PySem.W.hasDictIn K C = true
  po : PySem.W.plainOver K C = true
  sa : PySem.W.findIn K (.ref C) "__setattr__" = some (some (.builtin "object.__setattr__"))
theorem Cls.get {K : PySem.W.Frag} {C : Addr} (c : Cls K C) (f : Str) : PySem.W.plainGet K C f = true := c.pg
section
variable {X : Cx} {pins : List (Addr × Obj)} {σ : St} {H : Hp} {s : Shared} {A : Around} {E : Value → Shared → Prop} {Q : Value → Shared → Prop} {c : Value} {b : Bool}
inductive TyOf (K : PySem.W.Frag) (H : Hp) : V → Value → Prop where
  | non : TyOf K H .non (.type "NoneType")
  | bl (x : Bool) : TyOf K H (.bl x) (.type "bool")
  | int (i : Int) : TyOf K H (.int i) (.type "int")
  | str (x : Str) : TyOf K H (.str x) (.type "str")
  | flt (x : UInt64) : TyOf K H (.flt x) (.type "float")
  | lst {a : Addr} {xs : List V} (e : H a = some (.lst xs)) : TyOf K H (.ref a) (.type "list")
  | frz {a : Addr} {o : Obj} {xs : List V} (e : H a = some (.frz o (.lst xs))) : TyOf K H (.ref a) (.type "list")
  | tup {a : Addr} {xs : List V} (e : H a = some (.tup xs)) : TyOf K H (.ref a) (.type "tuple")
  | dK {a : Addr} {kvs : List (Key × V)} (e : H a = some (.dK kvs)) : TyOf K H (.ref a) (.type "dict")
  | dT {a : Addr} {kvs : List (List Key × V)} (e : H a = some (.dT kvs)) : TyOf K H (.ref a) (.type "dict")
  | ins {a C dx : Addr} {fs : List (Str × V)} (e : H a = some (.ins C dx fs)) (cl : Cls K C) (ha : PySem.W.findIn K (.ref C) "__class__" = some (some (.builtin "object.__class__")))
      (hn : PySem.W.specialIn K (.builtin "object.__class__") "__get__" = some (some (.builtin "getset_descriptor.__get__"))) (htk : PySem.W.takesIn K (.builtin "object.__class__") = some true)
      (hm : PySem.W.mroIn K C (.type "object") = some true) : TyOf K H (.ref a) (.ref C)
theorem isinst_ok {x : V} {u t : Value} (I : Inv X pins σ H s) (rx : RelV x u) (ty : TyOf X.K H x t) (e : PySem.W.kitOne X.K t c = some b) (h : ∀ tk, Q (.bool b) { s with toks := tk }) :
    wpAny (model X.prog X.w) A (call (.builtin "isinstance") [u, c]) Q E s := by
  cases ty with
  | non => cases (show u = Value.none from rx); exact PySem.W.kia_one PySem.W.kitx_none I.kIn True.intro e (fun z => nomatch z) h
  | bl y => cases (show u = Value.bool y from rx); exact PySem.W.kia_one PySem.W.kitx_bool I.kIn True.intro e (fun z => nomatch z) h
  | int i => obtain ⟨t, q⟩ := (show ∃ t, u = Value.int i t from rx); cases q; exact PySem.W.kia_one PySem.W.kitx_int I.kIn True.intro e (fun z => nomatch z) h
  | str y => obtain ⟨t, q⟩ := (show ∃ t, u = Value.str y t from rx); cases q; exact PySem.W.kia_one PySem.W.kitx_str I.kIn True.intro e (fun z => nomatch z) h
  | flt y => obtain ⟨t, q⟩ := (show ∃ t, u = Value.float y t from rx); cases q; exact PySem.W.kia_one PySem.W.kitx_float I.kIn True.intro e (fun z => nomatch z) h
  | @lst a xs ea =>
    cases (show u = Value.ref a from rx)
    obtain ⟨_, _, n, _, h1⟩ := (show ObjOk X.prog X.w H s.heap a (.lst xs) from I.hok a _ ea)
    exact PySem.W.kia_one PySem.W.kitx_list I.kIn ⟨_, h1, rfl⟩ e (fun z => nomatch z) h
  | @frz a ob xs ea =>
    cases (show u = Value.ref a from rx)
    obtain ⟨_, _, _, n, _, h1⟩ := (show ObjOk X.prog X.w H s.heap a (.frz ob (.lst xs)) from I.hok a _ ea)
    exact PySem.W.kia_one PySem.W.kitx_list I.kIn ⟨_, h1, rfl⟩ e (fun z => nomatch z) h
  | @tup a xs ea =>
    cases (show u = Value.ref a from rx)
    obtain ⟨_, _, _, p⟩ := (show ObjOk X.prog X.w H s.heap a (.tup xs) from I.hok a _ ea)
    obtain ⟨o, h1, h2, _⟩ := p
    exact PySem.W.kia_one PySem.W.kitx_tuple I.kIn ⟨o, h1, h2⟩ e (fun z => nomatch z) h
  | @dK a kvs ea =>
    cases (show u = Value.ref a from rx)
    obtain ⟨_, _, vs, _, p⟩ := (show ObjOk X.prog X.w H s.heap a (.dK kvs) from I.hok a _ ea)
    obtain ⟨o, es, ep, h1, h2, _⟩ := p
    exact PySem.W.kia_one PySem.W.kitx_dict I.kIn ⟨o, h1, h2.1⟩ e (fun z => nomatch z) h
  | @dT a kvs ea =>
    cases (show u = Value.ref a from rx)
    obtain ⟨_, _, xs, _, o, es, ep, h1, h2, _⟩ := (show ObjOk X.prog X.w H s.heap a (.dT kvs) from I.hok a _ ea)
    exact PySem.W.kia_one PySem.W.kitx_dict I.kIn ⟨o, h1, h2.1⟩ e (fun z => nomatch z) h
  | @ins a C dx fs ea cl ha hn htk hm =>
    cases (show u = Value.ref a from rx)
    obtain ⟨mA, O, _⟩ := ins_get I.hok ea
    obtain ⟨od, J, _⟩ := O.look
    exact PySem.W.kia_one (PySem.W.kitx_own (cl.get _) cl.hd ha hn htk hm) I.kIn J e (fun z => nomatch z) h
end
end L2
namespace L2
open PySem PySem.Spec PyProof.Rows
structure Room (k : Nat) (A : Around) : Prop where
  hd : A.handled = none
  dp : A.depth + 3 * k + 5 < recursionLimit
  un : A.units + 16 * k + 200 < cLine
  gd : A.guards = some []
theorem Room.mono {j k : Nat} {A : Around} (r : Room k A) (h : j ≤ k) : Room j A := ⟨r.hd, by have := r.dp; omega, by have := r.un; omega, r.gd⟩
theorem Room.deeper {k : Nat} {A : Around} (r : Room (k + 1) A) (env : Env) : Room k (A.deeper env) :=
  ⟨r.hd, by have := r.dp; show A.depth + 1 + 3 * k + 5 < _; omega, by have := r.un; show A.units + 3 + 16 * k + 200 < _; omega, r.gd⟩
theorem Room.depth {k : Nat} {A : Around} (r : Room k A) : A.depth < recursionLimit := by have := r.dp; omega
theorem Room.units {k : Nat} {A : Around} (r : Room k A) : A.units + 64 < cLine := by have := r.un; omega
noncomputable def tNil : TA := fun _ H Q => Q [] H
noncomputable def tCons (ta : TE) (tr : TA) : TA := fun σ H Q => ta σ H fun x H1 => tr σ H1 fun xs H2 => Q (x :: xs) H2
section
variable {X : Cx} {e : Expr} {es : List Expr} {te : TE} {t : TA} {pos : Pos}
theorem pa_nil : PA X [] tNil := fun _ _ _ _ H Q I h => Calls.spliced_nil ⟨[], H, I, .nil, h⟩
theorem pa_cons (ha : PE X e te) (hr : PA X es t) (hs : starEach (e :: es) X.env = (false, eval e X.env) :: starEach es X.env := by rfl) : PA X (e :: es) (tCons te t) := by
  intro pos pins s σ H Q I h
  rw [hs]
  show wpAny _ _ (spliced ((false, eval e X.env) :: backTo pos (starEach es X.env))) _ _ s
  refine Calls.spliced_cons (thn (ha pins s σ H _ I h) fun u s1 ⟨x, H1, I1, r1, q1⟩ => ?_)
  exact thn (hr pos pins s1 σ H1 _ I1 q1) fun us s2 ⟨xs, H2, I2, r2, q2⟩ => ⟨x :: xs, H2, I2, .cons r1 r2, q2⟩
noncomputable def tTup (t : TA) : TE := fun σ H Q => t σ H fun xs H1 => xs.length ≤ sizeLine ∧ ∀ p, H1 p = none → Q (.ref p) (upd H1 p (.tup xs))
noncomputable def tLst (t : TA) : TE := fun σ H Q => t σ H fun xs H1 => xs.length ≤ sizeLine ∧ ∀ p, H1 p = none → Q (.ref p) (upd H1 p (.lst xs))
theorem pe_tup {x1} (h : PA X es t) : PE X (.Tuple es x1 pos) (tTup t) := by
  intro pins s σ H Q I hq
  refine wpAny_Tuple_spliced (thn (h pos pins s σ H _ I hq) fun us s1 ⟨xs, H1, I1, r, z, q⟩ => ⟨by rw [← r.length]; exact z, ?_⟩)
  have hf : H1 s1.heap.objs.size = none := I1.hok.fresh (Nat.le_refl _)
  refine ⟨.ref s1.heap.objs.size, upd H1 s1.heap.objs.size (.tup xs), I1.laid (t' := s1.toks) (fun b u e => Heap.get?_push_of_some _ e) (Nat.le_refl _) ?_, rfl, q _ hf⟩
  exact ⟨z, us, r, ⟨_, Heap.get?_push_size _ rfl, rfl, _, rfl, rfl⟩⟩
theorem pe_lst (h : PA X es t) : PE X (.List es pos) (tLst t) := by
  intro pins s σ H Q I hq
  refine wpAny_List_spliced (thn (h pos pins s σ H _ I hq) fun us s1 ⟨xs, H1, I1, r, z, q⟩ => ⟨by rw [← r.length]; exact z, ?_⟩)
  have hf : H1 s1.heap.objs.size = none := I1.hok.fresh (Nat.le_refl _)
  refine ⟨.ref s1.heap.objs.size, upd H1 s1.heap.objs.size (.lst xs), I1.laid (t' := s1.toks) (fun b u e => Heap.get?_push_of_some _ e) (Nat.le_refl _) ?_, rfl, q _ hf⟩
  exact ⟨z, us, 0, r, Heap.get?_push_size _ rfl⟩
end
noncomputable abbrev Sp := List V → Hp → VK → XK → Prop
noncomputable abbrev CXT := List Env → Hp → Shared → XK → Value → Shared → Prop
structure Env0 (P : Program) (w : World) (K : PySem.W.Frag) (mg : Str → Option Value) (base : Heap) (A : Around) (outer : List Env) (s : Shared) (H : Hp) : Prop where
  frames : A.frames = some outer
  mod : Mod K mg base
  bs : ∀ b o, base.get? b = some o → s.heap.get? b = some o ∧ H b = none
  bsz : base.objs.size ≤ s.heap.objs.size
  funs : s.heap.FunFrames base outer
  frf : ∀ b ∈ frs outer, H b = none
  hok : HOk P w H s.heap
  bare : AllBare s.gens
noncomputable def CE (outer : List Env) (P : Program) (w : World) (H : Hp) (s : Shared) (Q : VK) (u : Value) (s' : Shared) : Prop :=
  ∃ v H', s'.os = s.os ∧ AllBare s'.gens ∧ Un (frs outer) [] H H' s.heap s'.heap ∧ HOk P w H' s'.heap ∧ RelV v u ∧ Q v H'
noncomputable def CR (CX : CXT) (outer : List Env) (P : Program) (w : World) (H : Hp) (s : Shared) (Q : VK) (E : XK) (r : Result) (s' : Shared) : Prop :=
  match r with
  | .ok (.ret u) => CE outer P w H s Q u s'
  | .ok _ => False
  | .error e => CX outer H s E e s'
structure FnOk (P : Program) (w : World) (K : PySem.W.Frag) (mg : Str → Option Value) (base : Heap) (CX : CXT) (k : Nat) (f : Addr) (fd : FuncData) (ps : List Str) (sp : Sp) : Prop where
  len : ∀ vs H Q E, sp vs H Q E → vs.length = ps.length
  run : ∀ (A : Around) (outer : List Env) (s : Shared) (H : Hp) (args : Args) (us : List Value) (vs : List V) (Q : VK) (E : XK), Room k A → Env0 P w K mg base A outer s H → BindsTo s fd args (ps.zip us) → Vals vs us → sp vs H Q E →
    codeAny (model P w) A (.call (.ref f) args) (CR CX outer P w H s Q E) s
section
variable {X : Cx} {pins : List (Addr × Obj)} {σ : St} {H : Hp} {s s' : Shared}
theorem Inv.env0 (I : Inv X pins σ H s) : Env0 X.prog X.w X.K X.mg X.base X.A X.stack s H :=
  ⟨I.ok.frames, I.ok.mod, I.bs, Nat.le_trans I.ok.bsz I.sz, I.stack, I.stkFree, I.hok, I.bare⟩
theorem Inv.after {Q : VK} {u : Value} (I : Inv X pins σ H s) (h : CE X.stack X.prog X.w H s Q u s') : EP X pins σ Q u s' := by
  obtain ⟨v, H', os, bare, un, hok, r, q⟩ := h
  obtain ⟨hh, g, d, t, os'⟩ := s'
  obtain rfl : os' = s.os := os
  exact ⟨v, H', I.call (h' := hh) (g' := g) (d' := d) (t' := t) (ch := []) un hok bare (fun b z => absurd z (by simp)), r, q⟩
end
noncomputable def tCall (sp : Sp) (dvs : List V) (E : XK) (t : TA) : TE := fun σ H Q => t σ H fun vs H1 => sp (vs ++ dvs) H1 Q E
noncomputable def Binds (K : PySem.W.Frag) (fd : FuncData) (ps : List Str) (ds : List Value) : Prop :=
  ∀ (s : Shared) (us : List Value), K.In s.heap → (us ++ ds).length = ps.length → BindsTo s fd ⟨us, []⟩ (ps.zip (us ++ ds))
theorem Binds.all {K : PySem.W.Frag} {fd : FuncData} {ps : List Str} (h : ∀ us : List Value, us.length = ps.length → bindArgs fd ⟨us, []⟩ = pure (ps.zip us)) : Binds K fd ps [] := fun s us _ hl => by
  rw [List.append_nil] at hl ⊢
  exact .of_eq (h us hl)
noncomputable def Passes (CX : CXT) (X : Cx) (E : XK) : Prop := ∀ (pins : List (Addr × Obj)) (σ : St) (H : Hp) (s : Shared) (e : Value) (s' : Shared), Inv X pins σ H s → CX X.stack H s E e s' → X.xe e s'
section
variable {X : Cx} {CX : CXT} {k : Nat} {f C : Addr} {fd : FuncData} {ps : List Str} {sp : Sp} {dvs : List V} {ds : List Value} {E : XK} {x m : Str} {p pos apos : Pos} {e o : Expr} {es : List Expr} {ta : TE} {t : TA}
theorem run_fn {pins : List (Addr × Obj)} {σ : St} {H : Hp} {s : Shared} {Q : VK} {us : List Value} {vs : List V} (F : FnOk X.prog X.w X.K X.mg X.base CX k f fd ps sp) (hr : Room k X.A) (hb : Binds X.K fd ps ds) (hd : Vals dvs ds) (hx : Passes CX X E)
    (I : Inv X pins σ H s) (r : Vals vs us) (h : sp (vs ++ dvs) H Q E) : wpAny (model X.prog X.w) X.A (call (.ref f) us) (EP X pins σ Q) X.xe s := by
  have r2 : Vals (vs ++ dvs) (us ++ ds) := r.append hd
  have hl : (us ++ ds).length = ps.length := by rw [← r2.length]; exact F.len _ _ _ _ h
  refine wpAny_call (codeAny_mono (F.run X.A X.stack s H ⟨us, []⟩ (us ++ ds) (vs ++ dvs) Q E hr I.env0 (hb s us I.kIn hl) r2 h) fun r s' hq => ?_)
  cases r with
  | error e => exact hx pins σ H s e s' I hq
  | ok fl =>
    cases fl with
    | ret u => exact I.after hq
    | next => exact False.elim hq
    | brk => exact False.elim hq
    | cont => exact False.elim hq
theorem pe_call (F : FnOk X.prog X.w X.K X.mg X.base CX k f fd ps sp) (hr : Room k X.A) (hg : Gl X x) (hm : X.mg x = some (.ref f)) (hk : PySem.W.keepIn X.K (.ref f) = true) (hb : Binds X.K fd ps ds) (hd : Vals dvs ds) (hx : Passes CX X E)
    (ha : PA X (e :: es) t) (hdb : (x == ("__debug__" : Str)) = false := by decide) (he : starEach (e :: es) X.env = (false, eval e X.env) :: starEach es X.env := by rfl) (hpl : (backTo pos (starEach es X.env)).any (·.1) = false := by rfl) :
    PE X (.Call (.Name x p) (e :: es) [] pos) (tCall sp dvs E t) := by
  intro pins s σ H Q I h
  refine wpAny_Call_Name_kw (ld_glob I hg hm ?_ hdb)
  refine PySem.W.callWith_K (h₀ := X.base) I.ok.mod.kin hk (thn (ha pos pins s σ H _ I h) fun us s1 ⟨vs, H1, I1, r, q⟩ => ⟨I1.kIn, ?_⟩) he hpl
  exact run_fn F hr hb hd hx I1 r q
end
structure FnScope (N P : List Str) (sc : Scope) : Prop where
  kind : sc.kind = .function
  co : sc.isCoroutine = false
  gen : sc.isGenerator = false
  nd : N.Nodup
  pre : N.take P.length = P
  par : ∀ x ∈ P, sc.names.lookup x = some .local ∨ sc.names.lookup x = some .cell
  nofree : ∀ y ∈ sc.names, y.2 ≠ .free
theorem bindL_out {kindOf : Str → Option NameKind} {x : Str} : ∀ {binds : List (Str × Value)} {m : Str → Option Value}, (∀ v, (x, v) ∉ binds) → bindL kindOf binds m x = m x
  | [], _, _ => rfl
  | (n, v) :: r, m, h => by
    unfold bindL
    rw [bindL_out fun w hw => h w (List.mem_cons_of_mem _ hw)]
    split
    · have : x ≠ n := by rintro rfl; exact h v List.mem_cons_self
      simp [this]
    · rfl
theorem bindC_out {kindOf : Str → Option NameKind} {x : Str} : ∀ {binds : List (Str × Value)} {m : Str → Option Value}, (∀ v, (x, v) ∉ binds) → bindC kindOf binds m x = m x
  | [], _, _ => rfl
  | (n, v) :: r, m, h => by
    unfold bindC
    rw [bindC_out fun w hw => h w (List.mem_cons_of_mem _ hw)]
    split
    · rfl
    · have : x ≠ n := by rintro rfl; exact h v List.mem_cons_self
      simp [this]
theorem bindL_get {kindOf : Str → Option NameKind} {x : Str} {v : Value} : ∀ {P : List Str} {vs : List Value} {i : Nat} {m : Str → Option Value}, P.Nodup → P[i]? = some x → vs[i]? = some v → kindOf x = some .local →
    bindL kindOf (P.zip vs) m x = some v
  | [], _, _, _, _, h, _, _ => by simp at h
  | _ :: _, [], _, _, _, _, h, _ => by simp at h
  | p :: P, w :: vs, 0, m, nd, h1, h2, hk => by
    simp at h1 h2; subst h1; subst h2
    show bindL kindOf ((p, w) :: P.zip vs) m p = _
    unfold bindL
    rw [bindL_out fun v hv => (List.nodup_cons.mp nd).1 (List.of_mem_zip hv).1, if_pos hk]
    simp
  | p :: P, w :: vs, i + 1, m, nd, h1, h2, hk => by
    show bindL kindOf ((p, w) :: P.zip vs) m x = _
    unfold bindL
    exact bindL_get (i := i) (List.nodup_cons.mp nd).2 (by simpa using h1) (by simpa using h2) hk
theorem bindC_get {kindOf : Str → Option NameKind} {x : Str} {v : Value} : ∀ {P : List Str} {vs : List Value} {i : Nat} {m : Str → Option Value}, P.Nodup → P[i]? = some x → vs[i]? = some v → kindOf x ≠ some .local →
    bindC kindOf (P.zip vs) m x = some v
  | [], _, _, _, _, h, _, _ => by simp at h
  | _ :: _, [], _, _, _, _, h, _ => by simp at h
  | p :: P, w :: vs, 0, m, nd, h1, h2, hk => by
    simp at h1 h2; subst h1; subst h2
    show bindC kindOf ((p, w) :: P.zip vs) m p = _
    unfold bindC
    rw [bindC_out fun v hv => (List.nodup_cons.mp nd).1 (List.of_mem_zip hv).1, if_neg hk]
    simp
  | p :: P, w :: vs, i + 1, m, nd, h1, h2, hk => by
    show bindC kindOf ((p, w) :: P.zip vs) m x = _
    unfold bindC
    exact bindC_get (i := i) (List.nodup_cons.mp nd).2 (by simpa using h1) (by simpa using h2) hk
noncomputable def start (N : List Str) (vs : List V) : St := vs.map some ++ List.replicate (N.length - vs.length) none
noncomputable def cxOf (CX : CXT) (P : Program) (w : World) (K : PySem.W.Frag) (mg : Str → Option Value) (base : Heap) (N : List Str) (qual : Str) (scope : Scope) (f : Addr) (cd : Value) (A : Around) (outer : List Env) (s : Shared) (H : Hp) (E : XK) : Cx where
  prog := P
  w := w
  K := K
  mg := mg
  base := base
  A := A.deeper (envOfC qual scope s.heap.objs.size f cd)
  N := N
  s₀ := s
  H₀ := H
  env := envOfC qual scope s.heap.objs.size f cd
  outer := outer
  stack := envOfC qual scope s.heap.objs.size f cd :: outer
  ex := []
  calm := true
  fn := fun _ => true
  pn := []
  xe := fun e s' => wpAny (model P w) (A.deeper (envOfC qual scope s.heap.objs.size f cd)) (leaving (envOfC qual scope s.heap.objs.size f cd) e) (fun _ s'' => CX outer H s E e s'') (fun e' s'' => CX outer H s E e' s'') s'
theorem cell_has {sc : Scope} {n : Nat} {x : Str} (h : sc.names.lookup x = some .cell) : ∃ c, (cellsFrom n sc.names []).lookup x = some c := by
  have q := PySem.W.cellsFrom_some sc.names n [] (.inl h)
  exact Option.isSome_iff_exists.mp q
theorem inv_start {CX : CXT} {P : Program} {w : World} {K : PySem.W.Frag} {mg : Str → Option Value} {base : Heap} {N ps : List Str} {qual : Str} {scope : Scope} {f : Addr} {cd : Value} {A : Around} {outer : List Env} {s s1 : Shared} {H : Hp} {E : XK} {us : List Value} {vs : List V}
    (S : FnScope N ps scope) (hd : A.handled = none) (e0 : Env0 P w K mg base A outer s H) (hl : vs.length = ps.length) (r : Vals vs us)
    (x : InCallC s s.heap.objs.size (bindL (envOfC qual scope s.heap.objs.size f cd).kindOf (ps.zip us) fun _ => none) (cellsFrom (s.heap.objs.size + 1) scope.names []) (bindC (envOfC qual scope s.heap.objs.size f cd).kindOf (ps.zip us) fun _ => none) s1) :
    Inv (cxOf CX P w K mg base N qual scope f cd A outer s H E) [] (start N vs) H s1 := by
  have hpl : ps.length ≤ N.length := by have := congrArg List.length S.pre; rw [List.length_take] at this; omega
  obtain ⟨h1, tk, rfl, hk⟩ := x.done
  have noA : ∀ b : Addr, b ∉ (cxOf CX P w K mg base N qual scope f cd A outer s H E).ex := fun b z => absurd (show b ∈ ([] : List Addr) from z) (by simp)
  refine ⟨⟨e0.mod, S.kind, rfl, rfl, Nat.le_refl _, fun y z c h1 h2 => ?_, fun y hy => ?_, fun y c _ h => ?_, fun _ => hd, Around.frames_deeper e0.frames, .inr ⟨rfl, rfl⟩, fun b z => absurd z (noA b), e0.bs, e0.bsz, fun b _ _ => noA b, fun b z => absurd z (noA b), e0.funs, e0.frf⟩,
    rfl, e0.bare, Un.kept hk, ⟨_, x.toInCall.ns, fun i y v h1 h2 h3 => ?_⟩, fun y c h => ⟨_, x.cell y c h⟩, e0.hok.fresh (Nat.le_refl _), fun y c h => ?_, fun p hp => absurd (show p ∈ ([] : List (Addr × Obj)) from hp) (by simp), e0.hok.kept hk, ?_⟩
  · exact name_of_addr x.apart (PySem.mem_of_lookup h1) (PySem.mem_of_lookup h2)
  · have hy : scope.names.lookup y = some .cell ∨ scope.names.lookup y = some .free := hy
    rcases hy with hy | hy
    · exact cell_has hy
    · exact absurd rfl (S.nofree _ (PySem.mem_of_lookup hy))
  · exact Nat.le_of_lt (x.above y c (PySem.mem_of_lookup h))
  · have hi : i < vs.length := by
      unfold start at h2
      by_cases hi : i < vs.length
      · exact hi
      · rw [List.getElem?_append_right (by simpa using hi)] at h2
        rw [List.getElem?_replicate] at h2
        split at h2 <;> cases h2
    have ha : vs[i]? = some v := by
      unfold start at h2
      rw [List.getElem?_append_left (by simpa using hi), List.getElem?_map] at h2
      cases e : vs[i]? with
      | none => rw [e] at h2; cases h2
      | some a => rw [e] at h2; cases h2; rfl
    obtain ⟨u, hu, rv⟩ := r.get ha
    have hp : ps[i]? = some y := by
      rw [← S.pre, List.getElem?_take_of_lt (by omega)]; exact h1
    have ndP : ps.Nodup := by rw [← S.pre]; exact S.nd.sublist (List.take_sublist _ _)
    refine ⟨u, rv, ?_⟩
    rcases S.par y (List.mem_of_getElem? hp) with k | k
    · exact .inl ⟨k, bindL_get ndP hp hu k⟩
    · obtain ⟨c, e⟩ := cell_has (n := s.heap.objs.size + 1) k
      refine .inr ⟨.inl k, c, e, ?_⟩
      have q := x.cell y c e
      rw [bindC_get ndP hp hu (by show scope.names.lookup y ≠ _; rw [k]; decide)] at q
      exact q
  · exact e0.hok.fresh (Nat.le_of_lt (x.above y c (PySem.mem_of_lookup h)))
  · unfold start
    show _ = N.length
    rw [List.length_append, List.length_map, List.length_replicate]
    omega
theorem fn_of {CX : CXT} {P : Program} {w : World} {K : PySem.W.Frag} {mg : Str → Option Value} {base : Heap} {k : Nat} {f : Addr} {name qual : Str} {params : Arguments} {body : List Stmt} {scope : Scope} {dV kV doc pm cdv ct oc : Value} {an od : Option Addr}
    {osl : Array (Option Value)} {N ps : List Str} {sp : Sp} (lk : K.lookup f = some ⟨oc, od, .func (PySem.W.fnOf name qual params body scope dV kV doc pm an cdv ct), osl⟩) (hcd : PySem.W.codeIn K cdv qual = true) (S : FnScope N ps scope)
    (len : ∀ vs H Q E, sp vs H Q E → vs.length = ps.length)
    (hbody : ∀ (A : Around) (outer : List Env) (s : Shared) (H : Hp) (vs : List V) (Q : VK) (E : XK), Room k (A.deeper (envOfC qual scope s.heap.objs.size f cdv)) → sp vs H Q E →
      ∃ t, PSs (cxOf CX P w K mg base N qual scope f cdv A outer s H E) body t ∧ t { nx := fun _ H' => Q .non H', rt := Q } (start N vs) H) :
    FnOk P w K mg base CX (k + 1) f (PySem.W.fnOf name qual params body scope dV kV doc pm an cdv ct) ps sp := by
  refine ⟨len, fun A outer s H args us vs Q E hr e0 hb r hsp => ?_⟩
  have hl := len _ _ _ _ hsp
  have KX : K.In s.heap := e0.mod.kin.keeps fun b o e => (e0.bs b o e).1
  have lim : s.heap.NoLimit := e0.mod.nolimit.keeps fun b o e => (e0.bs b o e).1
  have hkind : ∀ y ∈ ps.zip us, scope.names.lookup y.1 = some .local ∨ (scope.names.lookup y.1 = some .cell ∧ ((cellsFrom (s.heap.objs.size + 1) scope.names []).lookup y.1).isSome = true) := fun ⟨n, v⟩ hy => by
    rcases S.par n (List.of_mem_zip hy).1 with q | q
    · exact .inl q
    · exact .inr ⟨q, PySem.W.cellsFrom_some _ _ _ (.inl q)⟩
  refine codeAny_call_function hr.depth (KX _ _ lk) rfl S.co S.gen rfl (PySem.W.codeRec_of KX hcd) (hb _ _ _ _ ?_)
  refine wpAny_newFunctionEnv_cells S.kind hkind fun env he s1 x => ?_
  subst he
  refine ⟨lim.keeps x.toInCall.keep, codeAny_func ?_⟩
  obtain ⟨t, ht, hq⟩ := hbody A outer s H vs Q E (hr.deeper _) hsp
  have I : Inv (cxOf CX P w K mg base N qual scope f cdv A outer s H E) [] (start N vs) H s1 := inv_start S hr.hd e0 hl r x
  refine wpAny_mono (ht [] s1 (start N vs) H _ I hq) (fun fl s' hs => ?_) fun e s' hs => hs
  have fin : ∀ {σ' : St} {H' : Hp} {v : V} {u : Value}, Inv (cxOf CX P w K mg base N qual scope f cdv A outer s H E) [] σ' H' s' → RelV v u → Q v H' → CE outer P w H s Q u s' :=
    fun {σ' H' v u} J rv q => ⟨v, H', J.os, J.bare, J.base, J.hok, rv, q⟩
  cases fl with
  | ret u =>
    obtain ⟨v, σ', H', J, rv, q⟩ := hs
    exact fin J rv q
  | next =>
    obtain ⟨σ', H', J, q⟩ := hs
    exact fin (v := V.non) (u := Value.none) J rfl q
  | brk =>
    obtain ⟨_, _, _, q⟩ := hs
    exact False.elim q
  | cont =>
    obtain ⟨_, _, _, q⟩ := hs
    exact False.elim q
end L2
namespace L2
open PySem PySem.Spec PyProof.Rows
section
variable {X : Cx} {x : Str} {p pos : Pos} {e : Expr} {es : List Expr} {t : TA} {id T : String} {r : List V → Hp → VK → Prop}
noncomputable def tCB (r : List V → Hp → VK → Prop) (t : TA) : TE := fun σ H Q => t σ H fun vs H1 => r vs H1 Q
theorem pe_callB (hc : CallR X (.builtin id) r) (hg : Gl X x) (hm : X.mg x = none) (hv : bootBuiltins x = some (.builtin id)) (ha : PA X (e :: es) t) (hn : x ≠ "__name__" := by decide) (hdb : (x == ("__debug__" : Str)) = false := by decide)
    (he : starEach (e :: es) X.env = (false, eval e X.env) :: starEach es X.env := by rfl) (hpl : (backTo pos (starEach es X.env)).any (·.1) = false := by rfl) : PE X (.Call (.Name x p) (e :: es) [] pos) (tCB r t) := by
  intro pins s σ H Q I h
  refine wpAny_Call_Name_kw (ld_blt I hg hm hv ?_ hn hdb)
  exact PyProof.Rows.callWith_builtin1 (thn (ha pos pins s σ H _ I h) fun us s1 ⟨vs, H1, I1, r1, q1⟩ => hc pins s1 σ H1 vs us Q I1 r1 q1) he hpl
theorem pe_callTy (hc : CallR X (.type T) r) (hg : Gl X x) (hm : X.mg x = none) (hv : bootBuiltins x = some (.type T)) (ha : PA X (e :: es) t) (hn : x ≠ "__name__" := by decide) (hdb : (x == ("__debug__" : Str)) = false := by decide)
    (he : starEach (e :: es) X.env = (false, eval e X.env) :: starEach es X.env := by rfl) (hpl : (backTo pos (starEach es X.env)).any (·.1) = false := by rfl) : PE X (.Call (.Name x p) (e :: es) [] pos) (tCB r t) := by
  intro pins s σ H Q I h
  refine wpAny_Call_Name_kw (ld_blt I hg hm hv ?_ hn hdb)
  exact PyProof.Rows.callWith_type1 (thn (ha pos pins s σ H _ I h) fun us s1 ⟨vs, H1, I1, r1, q1⟩ => hc pins s1 σ H1 vs us Q I1 r1 q1) he hpl
end
end L2
namespace HT
open PySem PyProof.Rows
section
open PySem.SeqAt
open PySem.AutoSeq1 (wpAny_loadPart')
open PySem.MeetsSeq PySem.MeetsSeq2 PySem.MeetsSeq3
end
section
variable {prog : Program} {w : World} {A : Around} {E : Value → Shared → Prop} {s : Shared}
noncomputable def sIx (n d : Nat) : Option Int → Nat
  | none => d
  | some v => if v < 0 then (v + (n : Int)).toNat else min v.toNat n
theorem sIx_none (n d : Nat) : sIx n d none = d := rfl
theorem sIx_nat (n d k : Nat) : sIx n d (some (k : Int)) = min k n := by
  show (if (k : Int) < 0 then ((k : Int) + (n : Int)).toNat else min (k : Int).toNat n) = min k n
  rw [if_neg (by omega), Int.toNat_natCast]
end
end HT
namespace L2
open PySem PySem.Spec PyProof.Rows
noncomputable abbrev TO := St → Hp → (Option Int → Hp → Prop) → Prop
noncomputable def PO (X : Cx) (e : Option Expr) (t : TO) : Prop :=
  ∀ (pins : List (Addr × Obj)) (s : Shared) (σ : St) (H : Hp) (Q : Option Int → Hp → Prop), Inv X pins σ H s → t σ H Q →
    wpAny (model X.prog X.w) X.A (evalPart e X.env) (fun u s' => ∃ o H', Inv X pins σ H' s' ∧ IsPart u o ∧ Q o H') X.xe s
noncomputable def tNoPart : TO := fun _ H Q => Q none H
noncomputable def tPart (t : TE) : TO := fun σ H Q => t σ H fun x H1 => ∃ i, x = .int i ∧ Q (some i) H1
section
variable {X : Cx} {e : Expr} {te : TE} {lo hi : Option Expr} {tl th : TO} {pos p2 : Pos}
theorem po_none : PO X none tNoPart := by
  intro pins s σ H Q I h
  rw [evalPart_none]
  exact wpAny_pure ⟨none, H, I, .none, h⟩
theorem po_some (h : PE X e te) : PO X (some e) (tPart te) := by
  intro pins s σ H Q I hw
  rw [evalPart_some]
  refine thn (h pins s σ H _ I hw) fun u s1 ⟨x, H1, I1, r1, q1⟩ => ?_
  obtain ⟨i, rfl, q⟩ := q1
  obtain ⟨t, rfl⟩ := r1
  exact ⟨some i, H1, I1, .int i t, q⟩
noncomputable def SlR (X : Cx) (r : V → Option Int → Option Int → Hp → VK → Prop) : Prop :=
  ∀ (pins : List (Addr × Obj)) (s : Shared) (σ : St) (H : Hp) (x : V) (v vl vu : Value) (lo hi : Option Int) (sl : Addr) (Q : VK), Inv X pins σ H s → RelV x v → s.heap.IsSliceOf sl vl vu .none → IsPart vl lo → IsPart vu hi → r x lo hi H Q →
    ∃ T id, typeLookup (.type T) "__getitem__" = pure (some (.builtin id)) ∧ s.TypeIs v T ∧ wpAny (model X.prog X.w) X.A (getItem v (.ref sl)) (EP X pins σ Q) X.xe s
noncomputable def tSl (r : V → Option Int → Option Int → Hp → VK → Prop) (te : TE) (tl th : TO) : TE := fun σ H Q => te σ H fun x H1 => tl σ H1 fun l H2 => th σ H2 fun u H3 => r x l u H3 Q
theorem pe_slice {r : V → Option Int → Option Int → Hp → VK → Prop} (hr : SlR X r) (he : PE X e te) (hl : PO X lo tl) (hu : PO X hi th) : PE X (.Subscript e (.Slice lo hi none p2) pos) (tSl r te tl th) := by
  intro pins s σ H Q I h
  refine Subscript_ (thn (he pins s σ H _ I h) fun v s1 ⟨x, H1, I1, r1, q1⟩ => ?_)
  refine wpAny_Slice (thn (hl pins s1 σ H1 _ I1 q1) fun vl s2 ⟨l, H2, I2, pl, q2⟩ => thn (hu pins s2 σ H2 _ I2 q2) fun vu s3 ⟨u, H3, I3, pu, q3⟩ => ?_)
  rw [evalPart_none]
  refine wpAny_pure ?_
  have I4 : Inv X pins σ H3 { s3 with heap := s3.heap.push { cls := .type "slice", data := .fields #[vl, vu, .none] } } := I3.kept (t' := s3.toks) fun b ob q => Heap.get?_push_of_some _ q
  obtain ⟨T, id, hT, ht, hg⟩ := hr pins { s3 with heap := s3.heap.push { cls := .type "slice", data := .fields #[vl, vu, .none] } } σ H3 x v vl vu l u s3.heap.objs.size Q I4 r1 (Heap.IsSliceOf.new ..) pl pu q3
  show wpAny (model X.prog X.w) X.A (subscriptTail e (.Slice lo hi none p2) v (.ref s3.heap.objs.size)) (EP X pins σ Q) X.xe { s3 with heap := s3.heap.push { cls := .type "slice", data := .fields #[vl, vu, .none] } }
  exact tail_any (ops := [.ref s3.heap.objs.size, v]) ht hT hg (by with_unfolding_all rfl)
noncomputable def cutV (xs : List V) (lo hi : Option Int) : List V := (xs.drop (HT.sIx xs.length 0 lo)).take (HT.sIx xs.length xs.length hi - HT.sIx xs.length 0 lo)
theorem cutV_length (xs : List V) (lo hi : Option Int) : (cutV xs lo hi).length ≤ xs.length := by
  unfold cutV
  rw [List.length_take, List.length_drop]
  omega
end
end L2
namespace L2
open PySem PySem.Spec PyProof.Rows
noncomputable def ixN (n : Nat) (i : Int) : Option Nat := if 0 ≤ i then (if i < n then some i.toNat else none) else if -(n : Int) ≤ i then some (i + n).toNat else none
noncomputable def atI {α : Type} (xs : List α) (i : Int) : Option α := (ixN xs.length i).bind fun j => xs[j]?
theorem ixN_seq {n : Nat} {i : Int} {j : Nat} (h : ixN n i = some j) : seqIndex? i n = some j ∧ j < n ∧ -(n : Int) ≤ i ∧ i < n := by
  unfold ixN at h
  by_cases h0 : 0 ≤ i
  · rw [if_pos h0] at h
    by_cases h1 : i < n
    · rw [if_pos h1] at h
      have e : i.toNat = j := Option.some.inj h
      exact ⟨by rw [seqIndex_of h0 h1, e], by omega, by omega, h1⟩
    · rw [if_neg h1] at h; cases h
  · rw [if_neg h0] at h
    by_cases h1 : -(n : Int) ≤ i
    · rw [if_pos h1] at h
      have e : (i + n).toNat = j := Option.some.inj h
      exact ⟨by rw [seqIndex_neg (by omega) h1, e], by omega, h1, by omega⟩
    · rw [if_neg h1] at h; cases h
theorem atI_get {α : Type} {xs : List α} {i : Int} {v : α} (h : atI xs i = some v) : ∃ j, seqIndex? i xs.length = some j ∧ xs[j]? = some v ∧ j < xs.length ∧ -(xs.length : Int) ≤ i ∧ i < xs.length := by
  unfold atI at h
  cases e : ixN xs.length i with
  | none => rw [e] at h; cases h
  | some j =>
    rw [e] at h
    obtain ⟨h1, h2, h3, h4⟩ := ixN_seq e
    exact ⟨j, h1, h, h2, h3, h4⟩
theorem atI_nat {α : Type} {xs : List α} {j : Nat} {v : α} (h : xs[j]? = some v) : atI xs (j : Int) = some v := by
  have hj : j < xs.length := (List.getElem?_eq_some_iff.mp h).1
  have e : ixN xs.length (j : Int) = some j := by
    unfold ixN
    rw [if_pos (by omega), if_pos (by omega)]; simp
  unfold atI; rw [e]; exact h
noncomputable def PlainIx (b : Expr) : Prop := ∀ o i, subscripted b false o i = operate [o, i] (getItem o i)
noncomputable def IxR (X : Cx) (r : R2) : Prop :=
  ∀ (value slice : Expr) (pins : List (Addr × Obj)) (s : Shared) (σ : St) (H : Hp) (x y : V) (v u : Value) (Q : VK), Inv X pins σ H s → RelV x v → RelV y u → r x y H Q →
    subscripted slice false v u = operate [v, u] (getItem v u) → wpAny (model X.prog X.w) X.A (subscriptTail value slice v u) (EP X pins σ Q) X.xe s
noncomputable def MtR (X : Cx) (id : String) (r : V → List V → Hp → VK → Prop) : Prop :=
  ∀ (pins : List (Addr × Obj)) (s : Shared) (σ : St) (H : Hp) (x : V) (xs : List V) (v : Value) (us : List Value) (Q : VK), Inv X pins σ H s → RelV x v → Vals xs us → r x xs H Q →
    wpAny (model X.prog X.w) X.A (call (.builtin id) (v :: us)) (EP X pins σ Q) X.xe s
section
variable {X : Cx} {a b : Expr} {ta tb : TE} {pos : Pos}
theorem pe_ix {r : R2} (hr : IxR X r) (ha : PE X a ta) (hb : PE X b tb) (hs : PlainIx b) : PE X (.Subscript a b pos) (tOp r ta tb) := by
  intro pins s σ H Q I h
  exact Subscript_ (binT ha hb I h fun v u s2 x y H2 I2 rx ry q => hr a b pins s2 σ H2 x y v u Q I2 rx ry q (hs _ _))
noncomputable def rIxL (K : PySem.W.Frag) : R2 := fun x y H Q => ∃ p xs i v, x = .ref p ∧ y = .int i ∧ SqL K H p xs ∧ atI xs i = some v ∧ Q v H
noncomputable def rIxT (K : PySem.W.Frag) : R2 := fun x y H Q => ∃ p xs i v, x = .ref p ∧ y = .int i ∧ SqT K H p xs ∧ atI xs i = some v ∧ Q v H
noncomputable def rIxS : R2 := fun x y H Q => ∃ z i c, x = .str z ∧ y = .int i ∧ z.length ≤ sizeLine ∧ atI z.cps.toList i = some c ∧ Q (.str ⟨#[c]⟩) H
theorem ix_list : IxR X (rIxL X.K) := by
  intro value slice pins s σ H x y v u Q I rx ry h hs
  obtain ⟨p, xs, i, z, rfl, rfl, hq, he, q⟩ := h
  cases rx
  obtain ⟨t, rfl⟩ := ry
  obtain ⟨its, r, pl, hz⟩ := I.list hq
  obtain ⟨j, h1, h2, h3, h4, h5⟩ := atI_get he
  obtain ⟨w, ew, rw'⟩ := r.get h2
  have hl := r.length
  have hn := line63
  have fin : EP X pins σ Q w s := ⟨z, H, I, rw', q⟩
  by_cases h0 : 0 ≤ i
  · have hj : i.toNat = j := by
      rw [seqIndex_of h0 h5] at h1
      exact Option.some.inj h1
    exact item_listR pl.isList h0 (by omega) (by rw [hj]; simpa using ew) fin hs
  · have hj : (i + (its.toArray.size : Int)).toNat = j := by
      rw [seqIndex_neg (by omega) h4] at h1
      rw [List.size_toArray, ← hl]
      exact Option.some.inj h1
    exact subscriptTail_builtinR (x := w) pl.isList.typeIs slot_list_getitem.lookup
      (wpAny_getItem_list_neg (Q := fun r s' => r = w ∧ EP X pins σ Q r s') pl.isList (by omega) (by rw [List.size_toArray] <;> omega) (by omega) (by rw [hj]; simpa using ew) ⟨rfl, fin⟩) hs
theorem ix_tup : IxR X (rIxT X.K) := by
  intro value slice pins s σ H x y v u Q I rx ry h hs
  obtain ⟨p, xs, i, z, rfl, rfl, hq, he, q⟩ := h
  cases rx
  obtain ⟨t, rfl⟩ := ry
  obtain ⟨its, r, pl, hz⟩ := I.tuple hq
  obtain ⟨j, h1, h2, h3, h4, h5⟩ := atI_get he
  obtain ⟨w, ew, rw'⟩ := r.get h2
  have hl := r.length
  have hn := line63
  have fin : EP X pins σ Q w s := ⟨z, H, I, rw', q⟩
  exact subscriptTail_builtinR (x := w) pl.typeIs slot_tuple_getitem.lookup
    (getItem_tuple (j := j) (Q := fun r s' => r = w ∧ EP X pins σ Q r s') pl (by omega) (by omega) (by rw [List.size_toArray, ← hl]; exact h1) (by simpa using ew) ⟨rfl, fin⟩) hs
theorem ix_str : IxR X rIxS := by
  intro value slice pins s σ H x y v u Q I rx ry h hs
  obtain ⟨z, i, c, rfl, rfl, hz, he, q⟩ := h
  obtain ⟨t, rfl⟩ := rx
  obtain ⟨t', rfl⟩ := ry
  obtain ⟨j, h1, h2, h3, h4, h5⟩ := atI_get he
  have hl : z.cps.toList.length = z.length := by simp [Str.length]
  rw [hl] at h1 h4 h5
  have hn := line63
  exact tail_any (typeIs_str s z t) slot_str_getitem.lookup (getItem_str (c := c) (by
    have e1 : decide (i < -(2 ^ 63 : Int)) = false := decide_eq_false (by omega)
    have e2 : decide (i ≥ 2 ^ 63) = false := decide_eq_false (by omega)
    rw [e1, e2, Bool.or_false]) (by rw [h1]; simpa using h2) ⟨.str ⟨#[c]⟩, H, I.tok _, ⟨_, rfl⟩, q⟩) hs
theorem mapSeq_set (its : List Value) (n j : Nat) (u : Value) : Obj.mapSeq (·.setIfInBounds j u) { cls := .type "list", data := .seq its.toArray n } = { cls := .type "list", data := .seq (its.set j u).toArray n } := by
  simp [Obj.mapSeq]
theorem Inv.lst {pins : List (Addr × Obj)} {σ : St} {H : Hp} {s : Shared} {p : Addr} {xs : List V} (I : Inv X pins σ H s) (h : H p = some (.lst xs)) :
    ∃ (its : List Value) (n : Nat), Vals xs its ∧ s.heap.get? p = some { cls := .type "list", data := .seq its.toArray n } ∧ xs.length ≤ sizeLine := by
  obtain ⟨z, its, n, r, e⟩ := I.hok p _ h
  exact ⟨its, n, r, e, z⟩
theorem Inv.lstUpd {pins : List (Addr × Obj)} {σ : St} {H : Hp} {s : Shared} {p : Addr} {xs ys : List V} {its its' : List Value} {n n' : Nat} {f : Obj → Obj} (I : Inv X pins σ H s) (h : H p = some (.lst xs))
    (ho : s.heap.get? p = some { cls := .type "list", data := .seq its.toArray n }) (hf : f { cls := .type "list", data := .seq its.toArray n } = { cls := .type "list", data := .seq its'.toArray n' }) (r : Vals ys its') (hz : ys.length ≤ sizeLine) (t : Nat) :
    Inv X pins σ (upd H p (.lst ys)) { s with heap := s.heap.update p f, toks := t } := by
  have e : (s.heap.update p f).get? p = some { cls := .type "list", data := .seq its'.toArray n' } := by
    rw [Heap.get?_update_self f ho (by rw [hf] <;> rfl), hf]
  refine I.write (x := p) (e := p) (by rw [h]; trivial) (.inl rfl) (fun b u hb q => (Heap.get?_update_other _ _ (Ne.symm hb)).trans q) ⟨_, e⟩ ?_
  exact ⟨hz, its', n', r, e⟩
noncomputable def rSetL : V → V → V → Hp → (Hp → Prop) → Prop := fun o i v H Q => ∃ p xs k j, o = .ref p ∧ i = .int k ∧ H p = some (.lst xs) ∧ ixN xs.length k = some j ∧ Q (upd H p (.lst (xs.set j v)))
theorem set_list : PSet X rSetL := by
  intro pins s σ H o i v ov iv u Q I ro ri rv h
  obtain ⟨p, xs, k, j, rfl, rfl, hp, hj, q⟩ := h
  cases ro
  obtain ⟨t, rfl⟩ := ri
  obtain ⟨its, n, r, ho, hz⟩ := I.lst hp
  obtain ⟨h1, h2, h3, h4⟩ := ixN_seq hj
  have hl := r.length
  have hn := line63
  have I' : Inv X pins σ (upd H p (.lst (xs.set j v))) { s with heap := s.heap.update p (Obj.mapSeq (·.setIfInBounds j u)) } :=
    I.lstUpd hp ho (mapSeq_set its n j u) (r.set rv j) (by rw [List.length_set]; exact hz) s.toks
  by_cases h0 : 0 ≤ k
  · have hk : k.toNat = j := by
      rw [seqIndex_of h0 h4] at h1
      exact Option.some.inj h1
    exact PySem.W.ki_setAt ho h0 (by omega) (by rw [List.size_toArray, ← hl]; exact h4) (by rw [hk]; exact ⟨_, I', q⟩)
  · have hk : (k + (its.toArray.size : Int)).toNat = j := by
      rw [seqIndex_neg (by omega) h3] at h1
      rw [List.size_toArray, ← hl]
      exact Option.some.inj h1
    exact PySem.W.ki_setBack ho (by omega) (by rw [List.size_toArray, ← hl]; exact h3) (by omega) (by rw [hk]; exact ⟨_, I', q⟩)
theorem slice_bounds (lo hi : Option Int) (n : Nat) : (sliceBounds lo hi none n).1 = ((HT.sIx n 0 lo : Nat) : Int) ∧ (sliceBounds lo hi none n).2.1 = ((HT.sIx n n hi : Nat) : Int) ∧ (sliceBounds lo hi none n).2.2 = 1 := by
  refine ⟨?_, ?_, rfl⟩
  · cases lo with
    | none => simp [sliceBounds, HT.sIx]
    | some i =>
      simp only [sliceBounds, HT.sIx, Option.getD_none, show (1 : Int) > 0 by decide, if_true]
      by_cases h : i < 0
      · simp only [h, if_true] <;> omega
      · simp only [h, if_false] <;> omega
  · cases hi with
    | none => simp [sliceBounds, HT.sIx]
    | some i =>
      simp only [sliceBounds, HT.sIx, Option.getD_none, show (1 : Int) > 0 by decide, if_true]
      by_cases h : i < 0
      · simp only [h, if_true] <;> omega
      · simp only [h, if_false] <;> omega
theorem slicePick_cut (its : List Value) (lo hi : Option Int) : slicePick its.toArray lo hi none = ((its.drop (HT.sIx its.length 0 lo)).take (HT.sIx its.length its.length hi - HT.sIx its.length 0 lo)).toArray := by
  obtain ⟨h1, h2, h3⟩ := slice_bounds lo hi its.toArray.size
  unfold slicePick
  rw [h1, h2, h3]
  simp only [sliceRange_one, pick_run, List.size_toArray] <;> rfl
noncomputable def rSlL (K : PySem.W.Frag) : V → Option Int → Option Int → Hp → VK → Prop := fun x lo hi H Q => ∃ a xs, x = .ref a ∧ SqL K H a xs ∧ ∀ p, H p = none → Q (.ref p) (upd H p (.lst (cutV xs lo hi)))
theorem sl_list : SlR X (rSlL X.K) := by
  intro pins s σ H x v vl vu lo hi sl Q I rx hs pl pu h
  obtain ⟨a, xs, rfl, hx, q⟩ := h
  cases rx
  obtain ⟨its, r, ht, hz⟩ := I.list hx
  have hlen := r.length
  refine ⟨"list", _, slot_list_getitem.lookup, ht.isList.typeIs, ?_⟩
  refine wpAny_getItem_list_slice ht.isList hs pl pu .none (by simp) ?_ (by rw [List.size_toArray] <;> omega)
  rw [slicePick_cut, ← hlen]
  refine ⟨.ref s.heap.objs.size, _, I.laid (t' := s.toks) (o := .lst (cutV xs lo hi)) (fun b ob q => Heap.get?_push_of_some _ q) (Nat.le_refl _) ?_, rfl, q _ (I.hok.fresh (Nat.le_refl _))⟩
  exact ⟨Nat.le_trans (cutV_length xs lo hi) hz, _, 0, (r.drop (HT.sIx xs.length 0 lo)).take (HT.sIx xs.length xs.length hi - HT.sIx xs.length 0 lo), Heap.get?_push_size _ rfl⟩
noncomputable def flatV : V → Bool
  | .non => true
  | .bl _ => true
  | .int _ => true
  | .str _ => true
  | _ => false
noncomputable def eqV : V → V → Bool
  | .non, .non => true
  | .bl a, .bl b => a == b
  | .bl a, .int b => (if a then 1 else 0) == b
  | .int a, .bl b => a == (if b then 1 else 0)
  | .int a, .int b => a == b
  | .str a, .str b => a == b
  | _, _ => false
theorem eqAt_V {A : Around} {s : Shared} {y x : V} {u v : Value} (ry : RelV y u) (rx : RelV x v) (fy : flatV y = true) (fx : flatV x = true) : SeqAt.EqAt A s u v (eqV y x) := by
  cases y with
  | non =>
    cases ry
    cases x with
    | non => cases rx; exact SeqAt.EqAt.same _
    | bl b => cases rx; exact SeqAt.EqAt.none_bool b
    | int b => obtain ⟨t, rfl⟩ := rx; exact SeqAt.EqAt.none_int b t
    | str b => obtain ⟨t, rfl⟩ := rx; exact SeqAt.EqAt.none_str b t
    | _ => exact absurd (show false = true from fx) Bool.false_ne_true
  | bl a =>
    cases ry
    cases x with
    | non => cases rx; exact SeqAt.EqAt.bool_none a
    | bl b => cases rx; exact SeqAt.EqAt.bool_bool a b
    | int b => obtain ⟨t, rfl⟩ := rx; exact SeqAt.EqAt.bool_int a b t
    | str b => obtain ⟨t, rfl⟩ := rx; exact SeqAt.EqAt.bool_str a b t
    | _ => exact absurd (show false = true from fx) Bool.false_ne_true
  | int a =>
    obtain ⟨t', rfl⟩ := ry
    cases x with
    | non => cases rx; exact SeqAt.EqAt.int_none a t'
    | bl b => cases rx; exact SeqAt.EqAt.int_bool a t' b
    | int b => obtain ⟨t, rfl⟩ := rx; exact SeqAt.EqAt.int_int a t' b t
    | str b => obtain ⟨t, rfl⟩ := rx; exact SeqAt.EqAt.int_str a t' b t
    | _ => exact absurd (show false = true from fx) Bool.false_ne_true
  | str a =>
    obtain ⟨t', rfl⟩ := ry
    cases x with
    | non => cases rx; exact SeqAt.EqAt.str_none a t'
    | bl b => cases rx; exact SeqAt.EqAt.str_bool a t' b
    | int b => obtain ⟨t, rfl⟩ := rx; exact SeqAt.EqAt.str_int a t' b t
    | str b => obtain ⟨t, rfl⟩ := rx; exact SeqAt.EqAt.str_str a t' b t
    | _ => exact absurd (show false = true from fx) Bool.false_ne_true
  | _ => exact absurd (show false = true from fy) Bool.false_ne_true
noncomputable def eqU (x : V) (u : Value) : Bool := match u with
  | .none => eqV .non x
  | .bool b => eqV (.bl b) x
  | .int i _ => eqV (.int i) x
  | .str z _ => eqV (.str z) x
  | _ => false
theorem eqU_of {x y : V} {u : Value} (r : RelV y u) (f : flatV y = true) : eqU x u = eqV y x := by
  cases y with
  | non => cases r; rfl
  | bl b => cases r; rfl
  | int i => obtain ⟨t, rfl⟩ := r; rfl
  | str z => obtain ⟨t, rfl⟩ := r; rfl
  | _ => exact absurd (show false = true from f) Bool.false_ne_true
theorem any_eqU {x : V} : ∀ {xs : List V} {us : List Value}, Vals xs us → xs.all flatV = true → us.any (eqU x) = xs.any fun y => eqV y x
  | _, _, .nil, _ => rfl
  | y :: xs, u :: us, .cons r t, f => by
    rw [List.all_cons, Bool.and_eq_true] at f
    rw [List.any_cons, List.any_cons, eqU_of r f.1, any_eqU t f.2]
theorem mem_eqAt {A : Around} {s : Shared} {x : V} {v : Value} (rx : RelV x v) (fx : flatV x = true) : ∀ {xs : List V} {us : List Value}, Vals xs us → xs.all flatV = true → ∀ u ∈ us, SeqAt.EqAt A s u v (eqU x u)
  | _, _, .nil, _ => fun u hu => by cases hu
  | y :: xs, u :: us, .cons r t, f => fun u' hu => by
    rw [List.all_cons, Bool.and_eq_true] at f
    rcases List.mem_cons.mp hu with rfl | hu
    · rw [eqU_of r f.1]; exact eqAt_V r rx f.1 fx
    · exact mem_eqAt rx fx t f.2 u' hu
noncomputable def inV (x : V) (xs : List V) : Bool := xs.any fun y => eqV y x
noncomputable def rIn (K : PySem.W.Frag) (neg : Bool) : R2 := fun x y H Q => ∃ p xs, y = .ref p ∧ (SqL K H p xs ∨ SqT K H p xs) ∧ flatV x = true ∧ xs.all flatV = true ∧ Q (.bl (if neg then !inV x xs else inV x xs)) H
theorem op_in_seq : OpR X (compareOp .In) (rIn X.K false) := by
  intro pins s σ H x y v u Q I rx ry h
  obtain ⟨p, xs, rfl, hq, fx, fs, q⟩ := h
  cases ry
  rcases hq with hq | hq
  · obtain ⟨its, r, pl, hz⟩ := I.list hq
    refine SeqAt.in_listAt (eqU x) pl.isList (fun w hw => mem_eqAt rx fx r fs w (by simpa using hw)) ⟨.bl _, H, I, rfl, ?_⟩
    rw [show its.toArray.any (eqU x) = its.any (eqU x) by simp, any_eqU r fs]
    exact q
  · obtain ⟨its, r, pl, hz⟩ := I.tuple hq
    refine SeqAt.in_tupleAt (eqU x) pl (fun w hw => mem_eqAt rx fx r fs w (by simpa using hw)) ⟨.bl _, H, I, rfl, ?_⟩
    rw [show its.toArray.any (eqU x) = its.any (eqU x) by simp, any_eqU r fs]
    exact q
theorem op_notIn_seq : OpR X (compareOp .NotIn) (rIn X.K true) := by
  intro pins s σ H x y v u Q I rx ry h
  obtain ⟨p, xs, rfl, hq, fx, fs, q⟩ := h
  cases ry
  rcases hq with hq | hq
  · obtain ⟨its, r, pl, hz⟩ := I.list hq
    refine SeqAt.notIn_listAt (eqU x) pl.isList (fun w hw => mem_eqAt rx fx r fs w (by simpa using hw)) ⟨.bl _, H, I, rfl, ?_⟩
    rw [show its.toArray.any (eqU x) = its.any (eqU x) by simp, any_eqU r fs]
    exact q
  · obtain ⟨its, r, pl, hz⟩ := I.tuple hq
    refine SeqAt.notIn_tupleAt (eqU x) pl (fun w hw => mem_eqAt rx fx r fs w (by simpa using hw)) ⟨.bl _, H, I, rfl, ?_⟩
    rw [show its.toArray.any (eqU x) = its.any (eqU x) by simp, any_eqU r fs]
    exact q
theorem call_tuple_of : CallR X (.type "tuple") (fun xs H Q => ∃ p ys, xs = [.ref p] ∧ ((SqL X.K H p ys ∧ ∀ l, H l = none → Q (.ref l) (upd H l (.tup ys))) ∨ (SqT X.K H p ys ∧ Q (.ref p) H))) := by
  intro pins s σ H xs us Q I r h
  obtain ⟨p, ys, rfl, h⟩ := h
  obtain ⟨u, rfl, rx⟩ := vals1 r
  cases rx
  rcases h with ⟨hq, q⟩ | ⟨hq, q⟩
  · obtain ⟨its, r', pl, hz⟩ := I.list hq
    have hlen := r'.length
    refine call_tuple_list pl.isList (fun h' kp => ?_) (by simp only [List.size_toArray] <;> omega)
    have I1 : Inv X pins σ H { s with heap := h' } := I.kept (t' := s.toks) kp
    have I2 : Inv X pins σ (upd H h'.objs.size (.tup ys)) { s with heap := h'.push { cls := .type "tuple", data := .seq its.toArray } } :=
      I1.laid (t' := s.toks) (fun b o e => Heap.get?_push_of_some _ e) (Nat.le_refl _) (show ObjOk X.prog X.w _ _ _ (.tup ys) from ⟨hz, its, r', TupN.new _ _⟩)
    exact ⟨.ref h'.objs.size, _, I2, rfl, q _ (I1.hok.fresh (Nat.le_refl _))⟩
  · obtain ⟨its, r', pl, hz⟩ := I.tuple hq
    exact call_tuple_same pl ⟨.ref p, H, I, rfl, q⟩
noncomputable def tyV (K : PySem.W.Frag) (T : String) (x : V) (H : Hp) : Prop := match x with
  | .str _ => T = "str"
  | .int _ => T = "int"
  | .ref p => (T = "list" ∧ ∃ xs, SqL K H p xs) ∨ (T = "tuple" ∧ ∃ o, K.lookup p = some o ∧ o.cls = .type "tuple" ∧ o.dict = none) ∨
      (T = "dict" ∧ ((∃ kvs, H p = some (.dK kvs)) ∨ ∃ kvs, H p = some (.dT kvs))) ∨ (T = "set" ∧ ∃ S n, H p = some (.set S n))
  | _ => False
theorem tyV_is {pins : List (Addr × Obj)} {σ : St} {H : Hp} {s : Shared} {T : String} {x : V} {v : Value} (I : Inv X pins σ H s) (r : RelV x v) (ty : tyV X.K T x H) :
    s.TypeIs v T ∧ ∀ a, v = .ref a → ∃ ob, s.heap.get? a = some ob ∧ ob.dict = none := by
  cases x with
  | str z =>
    obtain ⟨t, rfl⟩ := r
    cases (show T = "str" from ty)
    exact ⟨typeIs_str s z t, fun _ e => nomatch e⟩
  | int i =>
    obtain ⟨t, rfl⟩ := r
    cases (show T = "int" from ty)
    exact ⟨typeIs_int s i t, fun _ e => nomatch e⟩
  | ref p =>
    cases r
    rcases ty with ⟨rfl, xs, hq⟩ | ⟨rfl, o, hk, hc, hd⟩ | ⟨rfl, hk⟩ | ⟨rfl, S, n, hk⟩
    · obtain ⟨its, _, pl, _⟩ := I.list hq
      refine ⟨pl.isList.typeIs, fun a e => ?_⟩
      cases e
      obtain ⟨o, n, e, c, hd, _⟩ := pl
      exact ⟨o, e, hd⟩
    · refine ⟨⟨o, I.kIn p o hk, hc⟩, fun a e => ?_⟩
      cases e
      exact ⟨o, I.kIn _ o hk, hd⟩
    · have z : ∃ o, s.heap.get? p = some o ∧ o.ExactDict := by
        rcases hk with ⟨kvs, hk⟩ | ⟨kvs, hk⟩
        · obtain ⟨_, _, _, _, o, _, _, e, ex, _⟩ := I.hok p _ hk
          exact ⟨o, e, ex⟩
        · obtain ⟨_, _, _, _, o, _, _, e, ex, _⟩ := I.hok p _ hk
          exact ⟨o, e, ex⟩
      obtain ⟨o, e, ex⟩ := z
      refine ⟨⟨o, e, ex.1⟩, fun a e2 => ?_⟩
      cases e2
      exact ⟨o, e, ex.2.1⟩
    · obtain ⟨o, _, _, _, e, ex, _⟩ := I.hok p _ hk
      refine ⟨⟨o, e, ex.1⟩, fun a e2 => ?_⟩
      cases e2
      exact ⟨o, e, ex.2.1⟩
  | _ => exact False.elim ty
noncomputable def tBM (K : PySem.W.Frag) (T : String) (r : V → List V → Hp → VK → Prop) (to : TE) (t : TA) : TE := fun σ H Q => to σ H fun x H1 => tyV K T x H1 ∧ t σ H1 fun xs H2 => r x xs H2 Q
variable {o e : Expr} {es : List Expr} {to : TE} {t : TA} {name : Str} {apos cpos : Pos} {T id : String} {r : V → List V → Hp → VK → Prop}
theorem pe_bm (pa : PlainAttrs T) (slot : Slot T name id) (hty : typeOf (.builtin id) = pure (.type "method_descriptor")) (hm : MtR X id r) (ho : PE X o to) (ha : PA X (e :: es) t)
    (hbase : attributeBase o name X.env (eval o X.env) = eval o X.env := by rfl)
    (hfew : ((backTo cpos (starEach (e :: es) X.env)).all (fun x => !x.1) && (backToKw cpos (keywordEach [] X.env)).all (fun x => x.1.isSome)
      && decide ((e :: es).length + ([] : List Keyword).length + (if ([] : List Keyword).isEmpty then 0 else 1) < 30)) = true := by rfl)
    (hline : (apos.endLine == cpos.line) = true := by rfl) (hs : starEach (e :: es) X.env = (false, eval e X.env) :: starEach es X.env := by rfl) (hplain : (backTo cpos (starEach es X.env)).any (·.1) = false := by rfl) :
    PE X (.Call (.Attribute o name apos) (e :: es) [] cpos) (tBM X.K T r to t) := by
  intro pins s σ H Q I h
  refine wpAny_Call_method_late hbase hfew hline rfl (thn (ho pins s σ H _ I h) fun v s1 ⟨x, H1, I1, r1, ty, q1⟩ => ?_)
  obtain ⟨h1, h2⟩ := tyV_is I1 r1 ty
  refine ⟨T, id, pa, slot, hty, h1, h2, ?_⟩
  have hA := ha cpos pins s1 σ H1 _ I1 q1
  rw [hs] at hA ⊢
  refine Calls.callWith_builtin (by show (false || (backTo cpos (starEach es X.env)).any (·.1)) = false; rw [hplain] <;> rfl) (Calls.evalArgs_plain ?_)
  exact thn hA fun us s2 ⟨vs, H2, I2, r2, q2⟩ => hm pins s2 σ H2 x vs v us Q I2 r1 r2 q2
end
end L2
namespace L2
open PySem PySem.Spec PyProof.Rows
noncomputable def MtM (X : Cx) (id : String) (r : V → List V → Hp → VK → Prop) : Prop :=
  ∀ (pins : List (Addr × Obj)) (s : Shared) (σ : St) (H : Hp) (x : V) (xs : List V) (v : Value) (us : List Value) (Q : VK), Inv X pins σ H s → RelV x v → Vals xs us → r x xs H Q →
    wpAny (model X.prog X.w) X.A (call (.builtin id) (v :: us)) (EP X pins σ Q) X.xe s
theorem Vals.one : ∀ {x : V} {us : List Value}, Vals [x] us → ∃ u, us = [u] ∧ RelV x u
  | _, _, .cons r .nil => ⟨_, rfl, r⟩
section
variable {X : Cx} {pins : List (Addr × Obj)} {σ : St} {H : Hp} {s : Shared} {l b : Addr} {xs ys zs : List V}
theorem Inv.lset {its its' : List Value} {n : Nat} {f : Array Value → Array Value} {t' : Nat} (I : Inv X pins σ H s) (hH : H l = some (.lst xs))
    (e : s.heap.get? l = some { cls := .type "list", data := .seq its.toArray n }) (hf : f its.toArray = its'.toArray) (hv : Vals ys its') (hz : ys.length ≤ sizeLine) :
    Inv X pins σ (upd H l (.lst ys)) { s with heap := s.heap.update l (Obj.mapSeq f), toks := t' } := by
  have q := PySem.IsL.update e f
  rw [hf] at q
  refine I.write (x := l) (e := l) (by rw [hH]; exact trivial) (.inl rfl) (fun b' u hb hu => (Heap.get?_update_other s.heap (Obj.mapSeq f) (Ne.symm hb)).trans hu) ⟨_, q⟩ ?_
  exact ⟨hz, its', _, hv, q⟩
theorem Inv.lnew {its : List Value} {t' : Nat} (I : Inv X pins σ H s) (hv : Vals ys its) (hz : ys.length ≤ sizeLine) :
    Inv X pins σ (upd H s.heap.objs.size (.lst ys)) { s with heap := s.heap.push { cls := .type "list", data := .seq its.toArray }, toks := t' } :=
  I.laid (fun _ _ q => Heap.get?_push_of_some _ q) (Nat.le_refl _) ⟨hz, its, 0, hv, Heap.get?_push_size _ rfl⟩
theorem Inv.fresh (I : Inv X pins σ H s) : H s.heap.objs.size = none := I.hok.fresh (Nat.le_refl _)
theorem Inv.lstM (I : Inv X pins σ H s) (hH : H l = some (.lst xs)) : xs.length ≤ sizeLine ∧ ∃ (its : List Value) (n : Nat), Vals xs its ∧ xs.length = its.length ∧ s.heap.get? l = some { cls := .type "list", data := .seq its.toArray n } := by
  obtain ⟨z, its, n, r, e⟩ := I.hok l _ hH
  exact ⟨z, its, n, r, r.length, e⟩
end
section
variable {X : Cx}
noncomputable def rAppend : V → List V → Hp → VK → Prop := fun x vs H Q => ∃ l xs y, x = .ref l ∧ vs = [y] ∧ H l = some (.lst xs) ∧ xs.length < sizeLine ∧ Q .non (upd H l (.lst (xs ++ [y])))
theorem mt_append : MtM X "list.append" rAppend := by
  intro pins s σ H x vs v us Q I rx rv h
  obtain ⟨l, xs, y, rfl, rfl, hH, hz, q⟩ := h
  cases rx
  obtain ⟨u, rfl, ru⟩ := rv.one
  obtain ⟨z, its, n, r, hl, e⟩ := I.lstM hH
  refine call_meets F.slot_list_append ⟨_, e, rfl⟩ F.entry_list_append (F.args_list_append_2 _ _) (PySem.list_append l its.toArray n u (by rw [List.size_toArray]; omega)) ⟨e, ?_⟩
  refine ⟨.non, _, I.lset (its' := its ++ [u]) hH e (by simp) (r.append (.cons ru .nil)) ?_, rfl, q⟩
  rw [List.length_append, List.length_singleton]
  omega
noncomputable def rCat : R2 := fun x y H Q => ∃ l b xs zs, x = .ref l ∧ y = .ref b ∧ H l = some (.lst xs) ∧ H b = some (.lst zs) ∧ xs.length + zs.length ≤ sizeLine ∧ ∀ p, H p = none → Q (.ref p) (upd H p (.lst (xs ++ zs)))
theorem op_cat : OpR X (binaryOp .Add) rCat := by
  intro pins s σ H x y v u Q I rx ry h
  obtain ⟨l, b, xs, zs, rfl, rfl, hH, hB, hz, q⟩ := h
  cases rx
  cases ry
  obtain ⟨z, its, n, r, hl, e⟩ := I.lstM hH
  obtain ⟨z2, its2, n2, r2, hl2, e2⟩ := I.lstM hB
  refine PySem.P.add_list e e2 ?_ (by rw [List.size_toArray, List.size_toArray]; omega)
  have ea : its.toArray ++ its2.toArray = (its ++ its2).toArray := by simp
  rw [ea]
  exact ⟨.ref _, _, I.lnew (t' := s.toks) (r.append r2) (by rw [List.length_append]; omega), rfl, q _ I.fresh⟩
end
end L2
namespace L2
open PySem PySem.Spec PyProof.Rows
section
variable {κ : Type} [DecidableEq κ]
noncomputable def valV (kvs : List (κ × V)) (k : κ) : Option V := (kvs.find? fun kv => decide (kv.1 = k)).map (·.2)
noncomputable def putK (kvs : List (κ × V)) (k : κ) (v : V) : List (κ × V) :=
  if (kvs.any fun kv => decide (kv.1 = k)) = true then kvs.map (fun kv => if kv.1 = k then (kv.1, v) else kv) else kvs ++ [(k, v)]
theorem valV_nil {k : κ} : valV ([] : List (κ × V)) k = none := rfl
theorem valV_pos {p : κ × V} {r : List (κ × V)} {k : κ} (e : p.1 = k) : valV (p :: r) k = some p.2 := by simp [valV, List.find?_cons, e]
theorem valV_neg {p : κ × V} {r : List (κ × V)} {k : κ} (e : ¬ p.1 = k) : valV (p :: r) k = valV r k := by simp [valV, List.find?_cons, e]
theorem valV_any (k : κ) : ∀ kvs : List (κ × V), (kvs.any fun kv => decide (kv.1 = k)) = (valV kvs k).isSome
  | [] => rfl
  | p :: r => by
    rw [List.any_cons]
    by_cases e : p.1 = k
    · simp only [valV_pos e, decide_eq_true e, Bool.true_or, Option.isSome_some]
    · rw [valV_neg e, decide_eq_false e, Bool.false_or]; exact valV_any k r
theorem valV_map (k j : κ) (y : V) : ∀ kvs : List (κ × V), valV (kvs.map fun kv => if kv.1 = k then (kv.1, y) else kv) j = (valV kvs j).map fun x => if j = k then y else x
  | [] => rfl
  | p :: r => by
    have ih := valV_map k j y r
    rw [List.map_cons]
    by_cases h : p.1 = k
    · rw [if_pos h]
      by_cases e : p.1 = j
      · rw [valV_pos (p := (p.1, y)) e, valV_pos e, Option.map_some, if_pos (e.symm.trans h)]
      · rw [valV_neg (p := (p.1, y)) e, valV_neg e, ih]
    · rw [if_neg h]
      by_cases e : p.1 = j
      · rw [valV_pos (p := p) e, valV_pos e, Option.map_some, if_neg (fun z => h (e.trans z))]
      · rw [valV_neg (p := p) e, valV_neg e, ih]
theorem valV_snoc (k j : κ) (y : V) : ∀ kvs : List (κ × V), valV kvs k = none → valV (kvs ++ [(k, y)]) j = if j = k then some y else valV kvs j
  | [], _ => by
    by_cases e : k = j
    · rw [if_pos e.symm]; exact valV_pos (p := (k, y)) e
    · rw [if_neg (fun z => e z.symm)]; exact valV_neg (p := (k, y)) e
  | p :: r, hn => by
    rw [List.cons_append]
    have hk : ¬ p.1 = k := fun z => by rw [valV_pos z] at hn; cases hn
    rw [valV_neg hk] at hn
    have ih := valV_snoc k j y r hn
    by_cases e : p.1 = j
    · rw [valV_pos e, valV_pos e, if_neg (fun z => hk (e.trans z))]
    · rw [valV_neg e, valV_neg e, ih]
theorem valV_put (kvs : List (κ × V)) (k j : κ) (y : V) : valV (putK kvs k y) j = if j = k then some y else valV kvs j := by
  unfold putK
  by_cases a : (kvs.any fun kv => decide (kv.1 = k)) = true
  · rw [if_pos a, valV_map]
    rw [valV_any] at a
    by_cases e : j = k
    · obtain ⟨x, hx⟩ := Option.isSome_iff_exists.mp a
      rw [if_pos e, e, hx, Option.map_some, if_pos rfl]
    · rw [if_neg e]
      cases valV kvs j with
      | none => rfl
      | some x => rw [Option.map_some, if_neg e]
  · rw [if_neg a]
    refine valV_snoc k j y kvs ?_
    rw [valV_any] at a
    cases q : valV kvs k with
    | none => rfl
    | some x => rw [q] at a; exact (a rfl).elim
theorem length_putK (kvs : List (κ × V)) (k : κ) (v : V) : (putK kvs k v).length ≤ kvs.length + 1 := by
  unfold putK
  split
  · rw [List.length_map]; omega
  · rw [List.length_append, List.length_cons, List.length_nil]; omega
theorem putK_new {kvs : List (κ × V)} {k : κ} (v : V) (h : valV kvs k = none) : putK kvs k v = kvs ++ [(k, v)] := by
  unfold putK
  rw [valV_any, h]
  exact if_neg (by decide)
theorem RelO.isSome_eq {o : Option V} {u : Option Value} (r : RelO o u) : o.isSome = u.isSome := by
  cases o with
  | none => cases u with
    | none => rfl
    | some _ => exact (show False from r).elim
  | some _ => cases u with
    | none => exact (show False from r).elim
    | some _ => rfl
theorem KV.val {kvs : List (κ × V)} {vs : List (κ × Value)} (r : KV kvs vs) (k : κ) : RelO (valV kvs k) (valueAt vs k) := by
  unfold KV at r
  induction r with
  | nil => exact True.intro
  | @cons p q ps qs h t ih =>
    obtain ⟨h1, h2⟩ := h
    by_cases e : p.1 = k
    · have e' : q.1 = k := h1.symm.trans e
      have b : valueAt (q :: qs) k = some q.2 := by simp [valueAt, List.find?_cons, e']
      rw [valV_pos e, b]; exact h2
    · have e' : ¬ q.1 = k := fun z => e (h1.trans z)
      have b : valueAt (q :: qs) k = valueAt qs k := by simp [valueAt, List.find?_cons, e']
      rw [valV_neg e, b]; exact ih
theorem KV.any {kvs : List (κ × V)} {vs : List (κ × Value)} (r : KV kvs vs) (k : κ) : (kvs.any fun kv => decide (kv.1 = k)) = vs.any fun kv => decide (kv.1 = k) := by
  unfold KV at r
  induction r with
  | nil => rfl
  | cons h t ih => rw [List.any_cons, List.any_cons, ih, h.1]
theorem KV.repl {kvs : List (κ × V)} {vs : List (κ × Value)} (r : KV kvs vs) (k : κ) {y : V} {u : Value} (ry : RelV y u) :
    KV (kvs.map fun kv => if kv.1 = k then (kv.1, y) else kv) (vs.map fun kv => if kv.1 = k then (kv.1, u) else kv) := by
  unfold KV at r ⊢
  induction r with
  | nil => exact .nil
  | @cons p q ps qs h t ih =>
    rw [List.map_cons, List.map_cons]
    refine .cons ?_ ih
    obtain ⟨h1, h2⟩ := h
    by_cases e : p.1 = k
    · rw [if_pos e, if_pos (h1.symm.trans e)]; exact ⟨h1, ry⟩
    · rw [if_neg e, if_neg (fun z => e (h1.trans z))]; exact ⟨h1, h2⟩
theorem KV.put {kvs : List (κ × V)} {vs : List (κ × Value)} (r : KV kvs vs) (k : κ) {y : V} {u : Value} (ry : RelV y u) : KV (putK kvs k y) (stored vs k u) := by
  unfold putK stored
  rw [r.any k]
  by_cases e : (vs.any fun kv => decide (kv.1 = k)) = true
  · rw [if_pos e, if_pos e]; exact r.repl k ry
  · rw [if_neg e, if_neg e]; exact Paired.snoc r ⟨rfl, ry⟩
theorem KV.length {kvs : List (κ × V)} {vs : List (κ × Value)} (r : KV kvs vs) : kvs.length = vs.length := Paired.length r
end
theorem kV_is {P : Program} {w : World} {k : Key} {u : Value} (r : RelV (kV k) u) : (mixKind P w).is k u = true := by
  cases k with
  | inl i => obtain ⟨t, e⟩ := (show ∃ t, u = Value.int i t from r); subst e; exact mixKind_int P w i t
  | inr x => obtain ⟨t, e⟩ := (show ∃ t, u = Value.str x t from r); subst e; exact mixKind_str P w x t
theorem items_are {P : Program} {w : World} : ∀ {ks : List Key} {us : List Value}, Vals (ks.map kV) us → ItemsAre (mixKind P w) ks us
  | [], _, r => by rw [List.map_nil] at r; cases r; exact .nil
  | k :: ks, _, r => by
    rw [List.map_cons] at r
    cases r with
    | cons h t => exact .cons (kV_is h) (items_are t)
noncomputable abbrev KT (H : Hp) : List (List Key × V) → List (List Key × Addr × Value) → Prop := Paired fun p q => p.1 = q.1 ∧ H q.2.1 = some (.tup (p.1.map kV)) ∧ RelV p.2 q.2.2
theorem KT.val {H : Hp} {kvs : List (List Key × V)} {xs : List (List Key × Addr × Value)} (r : KT H kvs xs) (k : List Key) : RelO (valV kvs k) ((atKey xs k).map (·.2)) := by
  induction r with
  | nil => exact True.intro
  | @cons p q ps qs h t ih =>
    obtain ⟨h1, _, h2⟩ := h
    by_cases e : p.1 = k
    · have e' : q.1 = k := h1.symm.trans e
      have b : atKey (q :: qs) k = some q.2 := by simp [atKey, List.find?_cons, e']
      rw [valV_pos e, b]; exact h2
    · have e' : ¬ q.1 = k := fun z => e (h1.trans z)
      have b : atKey (q :: qs) k = atKey qs k := by simp [atKey, List.find?_cons, e']
      rw [valV_neg e, b]; exact ih
theorem KT.repl {H : Hp} {kvs : List (List Key × V)} {xs : List (List Key × Addr × Value)} (r : KT H kvs xs) (k : List Key) {y : V} {u : Value} (ry : RelV y u) :
    KT H (kvs.map fun kv => if kv.1 = k then (kv.1, y) else kv) (xs.map (putAt k u)) := by
  induction r with
  | nil => exact .nil
  | @cons p q ps qs h t ih =>
    rw [List.map_cons, List.map_cons]
    refine .cons ?_ ih
    obtain ⟨h1, h2, h3⟩ := h
    unfold putAt
    by_cases e : p.1 = k
    · rw [if_pos e, if_pos (h1.symm.trans e)]; exact ⟨h1, h2, ry⟩
    · rw [if_neg e, if_neg (fun z => e (h1.trans z))]; exact ⟨h1, h2, h3⟩
theorem KT.put {H : Hp} {kvs : List (List Key × V)} {xs : List (List Key × Addr × Value)} (r : KT H kvs xs) (k : List Key) {b : Addr} {y : V} {u : Value} (hb : H b = some (.tup (k.map kV))) (ry : RelV y u) :
    KT H (putK kvs k y) (storedH xs k b u) := by
  have e : (kvs.any fun kv => decide (kv.1 = k)) = (atKey xs k).isSome := by
    rw [valV_any, (r.val k).isSome_eq, Option.isSome_map]
  unfold putK storedH
  rw [e]
  by_cases q : (atKey xs k).isSome = true
  · rw [if_pos q, if_pos q]; exact r.repl k ry
  · rw [if_neg q, if_neg q]; exact Paired.snoc r ⟨rfl, hb, ry⟩
theorem KT.keeps {H H' : Hp} {kvs : List (List Key × V)} {xs : List (List Key × Addr × Value)} (r : KT H kvs xs) (ht : ∀ b ys, H b = some (.tup ys) → H' b = some (.tup ys)) : KT H' kvs xs :=
  Paired.mapP r fun _ _ z => ⟨z.1, ht _ _ z.2.1, z.2.2⟩
section
variable {P : Program} {w : World} {H : Hp} {h : Heap} {a : Addr}
theorem rd_of {u : HO} (ok : HOk P w H h) (e : Rd H a u) : ObjOk P w H h a u := e.ok ok
theorem dk_rd {kvs : List (Key × V)} (ok : HOk P w H h) (e : Rd H a (.dK kvs)) : kvs.length ≤ sizeLine ∧ (a == sysModules) = false ∧ ∃ vs, KV kvs vs ∧ h.DictOf (mixKind P w) a vs :=
  show ObjOk P w H h a (.dK kvs) from rd_of ok e
theorem dk_of {kvs : List (Key × V)} (ok : HOk P w H h) (e : H a = some (.dK kvs)) : kvs.length ≤ sizeLine ∧ (a == sysModules) = false ∧ ∃ vs, KV kvs vs ∧ h.DictOf (mixKind P w) a vs := dk_rd ok (.inl e)
theorem key_of {ks : List Key} (ok : HOk P w H h) (e : H a = some (.tup (ks.map kV))) : (tupleKind (mixKind P w)).is h ks a := by
  obtain ⟨_, its, r, o, h1, h2, n, h3, _⟩ := (show ObjOk P w H h a (.tup (ks.map kV)) from ok a _ e)
  exact ⟨o, its.toArray, n, h1, h2, h3, by simpa using items_are r⟩
theorem dt_rd {kvs : List (List Key × V)} (ok : HOk P w H h) (e : Rd H a (.dT kvs)) : kvs.length ≤ sizeLine ∧ (a == sysModules) = false ∧
    ∃ xs, KT H kvs xs ∧ h.DictOfH (tupleKind (mixKind P w)) a xs := by
  obtain ⟨z, y, xs, r, o, es, ep, h1, h2, h3, h4, h5⟩ := (show ObjOk P w H h a (.dT kvs) from rd_of ok e)
  refine ⟨z, y, xs, r, o, es, ep, h1, h2, h3, h4, fun x hx => ?_, h5⟩
  have all : ∀ {l : List (List Key × V)} {m : List (List Key × Addr × Value)}, KT H l m → ∀ x ∈ m, (tupleKind (mixKind P w)).is h x.1 x.2.1 := by
    intro l m q
    induction q with
    | nil => intro x hx; exact nomatch hx
    | @cons p q ps qs hq t ih =>
      intro x hx
      rcases List.mem_cons.mp hx with e | hx
      · subst e
        exact key_of ok (by rw [← hq.1]; exact hq.2.1)
      · exact ih x hx
  exact all r x hx
theorem dt_of {kvs : List (List Key × V)} (ok : HOk P w H h) (e : H a = some (.dT kvs)) : kvs.length ≤ sizeLine ∧ (a == sysModules) = false ∧
    ∃ xs, KT H kvs xs ∧ h.DictOfH (tupleKind (mixKind P w)) a xs := dt_rd ok (.inl e)
end
noncomputable def DGet (H : Hp) (a : Addr) (y : V) (r : Option V) : Prop :=
  (∃ kvs k, Rd H a (.dK kvs) ∧ y = kV k ∧ r = valV kvs k) ∨ ∃ kvs k b, Rd H a (.dT kvs) ∧ y = .ref b ∧ H b = some (.tup (k.map kV)) ∧ r = valV kvs k
noncomputable def DPut (H : Hp) (a : Addr) (y v : V) (H' : Hp) : Prop :=
  (∃ kvs k, H a = some (.dK kvs) ∧ y = kV k ∧ kvs.length < sizeLine ∧ H' = upd H a (.dK (putK kvs k v))) ∨
  ∃ kvs k b, H a = some (.dT kvs) ∧ y = .ref b ∧ H b = some (.tup (k.map kV)) ∧ kvs.length < sizeLine ∧ H' = upd H a (.dT (putK kvs k v))
theorem DGet.k {H : Hp} {a : Addr} {kvs : List (Key × V)} {k : Key} (e : H a = some (.dK kvs)) : DGet H a (kV k) (valV kvs k) := .inl ⟨kvs, k, .inl e, rfl, rfl⟩
theorem DGet.t {H : Hp} {a b : Addr} {kvs : List (List Key × V)} {k : List Key} (e : H a = some (.dT kvs)) (eb : H b = some (.tup (k.map kV))) : DGet H a (.ref b) (valV kvs k) := .inr ⟨kvs, k, b, .inl e, rfl, eb, rfl⟩
theorem DPut.k {H : Hp} {a : Addr} {kvs : List (Key × V)} {k : Key} {v : V} (e : H a = some (.dK kvs)) (hl : kvs.length < sizeLine) : DPut H a (kV k) v (upd H a (.dK (putK kvs k v))) := .inl ⟨kvs, k, e, rfl, hl, rfl⟩
theorem DPut.t {H : Hp} {a b : Addr} {kvs : List (List Key × V)} {k : List Key} {v : V} (e : H a = some (.dT kvs)) (eb : H b = some (.tup (k.map kV))) (hl : kvs.length < sizeLine) :
    DPut H a (.ref b) v (upd H a (.dT (putK kvs k v))) := .inr ⟨kvs, k, b, e, rfl, eb, hl, rfl⟩
section
variable {X : Cx} {pins : List (Addr × Obj)} {σ : St} {H : Hp} {s : Shared} {a : Addr} {y v : V} {u r : Value} {o : Option V} {A : Around} {E : Value → Shared → Prop}
theorem Inv.big (I : Inv X pins σ H s) : sysModules < s.heap.objs.size := by
  have h : mainGlobals < s.heap.objs.size := (I.mod.glob.keeps I.bk).lt
  exact Nat.lt_trans (by decide) h
theorem d_getItem {Q : Value → Shared → Prop} (hu : A.units + 1 < cLine) (I : Inv X pins σ H s) (g : DGet H a y (some v)) (ry : RelV y u) (h : ∀ w' s', Inv X pins σ H s' → RelV v w' → Q w' s') :
    wpAny (model X.prog X.w) A (getItem (.ref a) u) Q E s := by
  rcases g with ⟨kvs, k, e, ey, l⟩ | ⟨kvs, k, b, e, ey, eb, l⟩
  · subst ey
    obtain ⟨z, hd, vs, rel, dd⟩ := dk_rd I.hok e
    obtain ⟨w', hw, rw'⟩ := RelO.some_of (v := v) (o := valueAt vs k) (by rw [l]; exact rel.val k)
    exact wpAny_getItem_of (kV_is ry) dd.mapOf hw (h w' _ (I.tok _) rw')
  · subst ey
    cases (show u = Value.ref b from ry)
    obtain ⟨z, hd, xs, rel, dd⟩ := dt_rd I.hok e
    obtain ⟨w', hw, rw'⟩ := RelO.some_of (v := v) (o := (atKey xs k).map (·.2)) (by rw [l]; exact rel.val k)
    obtain ⟨p, hp, hp2⟩ := Option.map_eq_some_iff.mp hw
    refine wpAny_getItem_heap (tupleKind_room_in1 hu) (key_of I.hok eb) dd hp ?_
    rw [hp2]
    exact h w' _ (I.tok _) rw'
theorem d_in {Q : Value → Shared → Prop} (hu : A.units + 1 < cLine) (I : Inv X pins σ H s) (g : DGet H a y o) (ry : RelV y u) (h : ∀ s', Inv X pins σ H s' → Q (.bool o.isSome) s') :
    wpAny (model X.prog X.w) A (compareOp .In u (.ref a)) Q E s := by
  rcases g with ⟨kvs, k, e, ey, l⟩ | ⟨kvs, k, b, e, ey, eb, l⟩
  · subst ey
    obtain ⟨z, hd, vs, rel, dd⟩ := dk_rd I.hok e
    refine wpAny_in_of (kV_is ry) hd dd.mapOf ?_
    rw [← (rel.val k).isSome_eq, ← l]
    exact h _ (I.tok _)
  · subst ey
    cases (show u = Value.ref b from ry)
    obtain ⟨z, hd, xs, rel, dd⟩ := dt_rd I.hok e
    refine wpAny_in_heap (tupleKind_room_in1 hu) (key_of I.hok eb) hd dd ?_
    have q := (rel.val k).isSome_eq
    rw [Option.isSome_map] at q
    rw [← q, ← l]
    exact h _ (I.tok _)
theorem d_notIn {Q : Value → Shared → Prop} (hu : A.units + 1 < cLine) (I : Inv X pins σ H s) (g : DGet H a y o) (ry : RelV y u) (h : ∀ s', Inv X pins σ H s' → Q (.bool (!o.isSome)) s') :
    wpAny (model X.prog X.w) A (compareOp .NotIn u (.ref a)) Q E s := by
  rcases g with ⟨kvs, k, e, ey, l⟩ | ⟨kvs, k, b, e, ey, eb, l⟩
  · subst ey
    obtain ⟨z, hd, vs, rel, dd⟩ := dk_rd I.hok e
    refine wpAny_notIn_of (kV_is ry) hd dd.mapOf ?_
    rw [← (rel.val k).isSome_eq, ← l]
    exact h _ (I.tok _)
  · subst ey
    cases (show u = Value.ref b from ry)
    obtain ⟨z, hd, xs, rel, dd⟩ := dt_rd I.hok e
    refine wpAny_notIn_heap (tupleKind_room_in1 hu) (key_of I.hok eb) hd dd ?_
    have q := (rel.val k).isSome_eq
    rw [Option.isSome_map] at q
    rw [← q, ← l]
    exact h _ (I.tok _)
theorem d_write {h' : Heap} {t' : Nat} {ob : HO} (I : Inv X pins σ H s) (mu : Mut (H a)) (hs : Heap.SameBut a s.heap h') (he : ∃ q, h'.get? a = some q) (new : ObjOk X.prog X.w (upd H a ob) h' a ob) :
    Inv X pins σ (upd H a ob) { s with heap := h', toks := t' } :=
  I.write (x := a) (e := a) mu (.inl rfl) (fun b q hb z => (hs.2 b hb).trans z) he new
theorem dk_new {P : Program} {w : World} {H' : Hp} {h' : Heap} {kvs : List (Key × V)} {vs : List (Key × Value)} (z : kvs.length ≤ sizeLine) (hd : (a == sysModules) = false) (rel : KV kvs vs) (dd : h'.DictOf (mixKind P w) a vs) :
    ObjOk P w H' h' a (.dK kvs) := ⟨z, hd, vs, rel, dd⟩
theorem d_setItem {H' : Hp} {Q : Unit → Shared → Prop} (hu : A.units + 1 < cLine) (I : Inv X pins σ H s) (g : DPut H a y v H') (ry : RelV y u) (rv : RelV v r) (h : ∀ s', Inv X pins σ H' s' → Q () s') :
    wpAny (model X.prog X.w) A (setItem (.ref a) u r) Q E s := by
  rcases g with ⟨kvs, k, e, ey, l, eH⟩ | ⟨kvs, k, b, e, ey, eb, l, eH⟩
  · subst ey eH
    obtain ⟨z, hd, vs, rel, dd⟩ := dk_of I.hok e
    have hz : vs.length ≤ sizeLine := by rw [← rel.length]; exact z
    have hl : (putK kvs k v).length ≤ sizeLine := by have := length_putK kvs k v; omega
    refine wpAny_setItem_pairs (hsz := hz) (kV_is ry) dd fun h' dd' hs => h _ ?_
    have he : ∃ q, h'.get? a = some q := let ⟨q, _, _, hq, _⟩ := dd'; ⟨q, hq⟩
    exact d_write I (by rw [e]; exact True.intro) hs he (dk_new hl hd (rel.put k rv) dd')
  · subst ey eH
    cases (show u = Value.ref b from ry)
    obtain ⟨z, hd, xs, rel, dd⟩ := dt_of I.hok e
    have hz : xs.length ≤ sizeLine := by rw [← Paired.length rel]; exact z
    have hl : (putK kvs k v).length ≤ sizeLine := by have := length_putK kvs k v; omega
    refine wpAny_setItem_heap (hsz := hz) (tupleKind_room_in1 hu) (key_of I.hok eb) dd fun h' dd' hs => h _ ?_
    obtain ⟨q, es, ep, hq, h2, h3, h4, _, h5⟩ := dd'
    refine d_write I (by rw [e]; exact True.intro) hs ⟨q, hq⟩ ⟨hl, hd, _, (rel.put k eb rv).keeps fun c ys ec => ?_, q, es, ep, hq, h2, h3, h4, h5⟩
    rw [upd_ne (ne_of ec e (fun z => nomatch z))]
    exact ec
end
section
variable {X : Cx} {pins : List (Addr × Obj)} {σ : St} {H : Hp} {s : Shared} {a : Addr} {kvs : List (Key × V)} {k : Key} {u : Value} {A : Around} {E : Value → Shared → Prop}
theorem d_len {Q : Value → Shared → Prop} (I : Inv X pins σ H s) (e : Rd H a (.dK kvs)) (h : ∀ t s', Inv X pins σ H s' → Q (.int kvs.length t) s') : wpAny (model X.prog X.w) A (call (.builtin "len") [.ref a]) Q E s := by
  obtain ⟨z, hd, vs, rel, dd⟩ := dk_rd I.hok e
  refine call_len_dict hd dd (by rw [← rel.length]; rw [sizeLine_eq] at z; omega) ?_
  rw [← rel.length]
  exact h _ _ (I.tok _)
end
theorem dict_typeIs {X : Cx} {pins : List (Addr × Obj)} {σ : St} {H : Hp} {s : Shared} {a : Addr} {y : V} {o : Option V} (I : Inv X pins σ H s) (g : DGet H a y o) : s.TypeIs (.ref a) "dict" := by
  rcases g with ⟨kvs, k, e, _, _⟩ | ⟨kvs, k, b, e, _, _, _⟩
  · obtain ⟨_, _, vs, _, dd⟩ := dk_rd I.hok e
    exact dd.typeIs
  · obtain ⟨_, _, xs, _, dd⟩ := dt_rd I.hok e
    exact dd.typeIs
theorem dk_empty {P : Program} {w : World} {H : Hp} (h : Heap) (hb : sysModules < h.objs.size) : ObjOk P w H (h.push { cls := .type "dict", data := .dict #[] }) h.objs.size (.dK []) :=
  ⟨Nat.zero_le _, beq_eq_false_iff_ne.mpr (Ne.symm (Nat.ne_of_lt hb)), [], .nil, Heap.DictOf.new h⟩
theorem dt_empty {P : Program} {w : World} {H : Hp} (h : Heap) (hb : sysModules < h.objs.size) : ObjOk P w H (h.push { cls := .type "dict", data := .dict #[] }) h.objs.size (.dT []) :=
  ⟨Nat.zero_le _, beq_eq_false_iff_ne.mpr (Ne.symm (Nat.ne_of_lt hb)), [], .nil, _, #[], 0, Heap.get?_push_size _ rfl, ⟨rfl, rfl, rfl⟩, rfl, rfl, List.nodup_nil⟩
noncomputable def tDNewK : TE := fun _ H Q => ∀ p, H p = none → Q (.ref p) (upd H p (.dK []))
noncomputable def tDNewT : TE := fun _ H Q => ∀ p, H p = none → Q (.ref p) (upd H p (.dT []))
section
variable {X : Cx} {pos : Pos}
theorem pe_dnewK : PE X (.Dict [] [] pos) tDNewK := fun pins s σ H Q I h =>
  wpAny_Dict_empty ⟨.ref s.heap.objs.size, _, I.laid (a := s.heap.objs.size) (o := .dK []) (t' := s.toks) (fun _ _ q => Heap.get?_push_of_some _ q) (Nat.le_refl _) (dk_empty s.heap I.big), rfl, h _ (I.hok.fresh (Nat.le_refl _))⟩
theorem pe_dnewT : PE X (.Dict [] [] pos) tDNewT := fun pins s σ H Q I h =>
  wpAny_Dict_empty ⟨.ref s.heap.objs.size, _, I.laid (a := s.heap.objs.size) (o := .dT []) (t' := s.toks) (fun _ _ q => Heap.get?_push_of_some _ q) (Nat.le_refl _) (dt_empty s.heap I.big), rfl, h _ (I.hok.fresh (Nat.le_refl _))⟩
end
noncomputable def tPairs : List (TE × TE) → St → Hp → (List (V × V) → Hp → Prop) → Prop
  | [], _, H, Q => Q [] H
  | (tk, tv) :: r, σ, H, Q => tk σ H fun x H1 => tv σ H1 fun y H2 => tPairs r σ H2 fun ps H3 => Q ((x, y) :: ps) H3
noncomputable abbrev VV : List (V × V) → List (Value × Value) → Prop := Paired fun p q => RelV p.1 q.1 ∧ RelV p.2 q.2
noncomputable def PPs (X : Cx) (pos : Pos) (keys : List (Option Expr)) (values : List Expr) (trs : List (TE × TE)) : Prop :=
  ∀ (pins : List (Addr × Obj)) (s : Shared) (σ : St) (H : Hp) (Q : List (V × V) → Hp → Prop), Inv X pins σ H s → tPairs trs σ H Q →
    wpAny (model X.prog X.w) X.A (evalPairs (pairTrees keys values X.env pos)) (fun vs s' => ∃ ps H', Inv X pins σ H' s' ∧ VV ps vs ∧ Q ps H') X.xe s
theorem pps_nil {X : Cx} {pos : Pos} : PPs X pos [] [] [] := fun pins s σ H Q I h => pairTrees_nil_walk ⟨[], H, I, .nil, h⟩
theorem pps_cons {X : Cx} {pos : Pos} {k v : Expr} {ks : List (Option Expr)} {vs : List Expr} {tk tv : TE} {trs : List (TE × TE)} (hk : PE X k tk) (hv : PE X v tv) (hr : PPs X pos ks vs trs) :
    PPs X pos (some k :: ks) (v :: vs) ((tk, tv) :: trs) := fun pins s σ H Q I h =>
  pairTrees_cons_walk (thn (hk pins s σ H _ I h) fun u s1 ⟨x, H1, I1, rx, q1⟩ => thn (hv pins s1 σ H1 _ I1 q1) fun w2 s2 ⟨y, H2, I2, ry, q2⟩ =>
    thn (hr pins s2 σ H2 _ I2 q2) fun ws s3 ⟨ps, H3, I3, rel, q3⟩ => ⟨(x, y) :: ps, H3, I3, .cons ⟨rx, ry⟩ rel, q3⟩)
noncomputable def mergeK (kvs more : List (Key × V)) : List (Key × V) := more.foldl (fun acc kv => putK acc kv.1 kv.2) kvs
theorem KV.merge : ∀ {more : List (Key × V)} {rs : List (Key × Value)} {kvs : List (Key × V)} {vs : List (Key × Value)}, KV more rs → KV kvs vs → KV (mergeK kvs more) (merged vs rs) := by
  intro more rs kvs vs r
  unfold KV at r
  induction r generalizing kvs vs with
  | nil => intro q; exact q
  | @cons p q ps qs h t ih =>
    intro r0
    have e : KV (putK kvs p.1 p.2) (stored vs q.1 q.2) := by
      have := r0.put p.1 h.2
      rw [← h.1]; exact this
    exact ih e
theorem length_mergeK : ∀ (more kvs : List (Key × V)), (mergeK kvs more).length ≤ kvs.length + more.length
  | [], kvs => by show kvs.length ≤ kvs.length + 0; omega
  | p :: r, kvs => by
    have h1 := length_mergeK r (putK kvs p.1 p.2)
    have h2 := length_putK kvs p.1 p.2
    show (mergeK (putK kvs p.1 p.2) r).length ≤ _
    rw [List.length_cons]; omega
theorem carries_of {P : Program} {w : World} : ∀ {kvs : List (Key × V)} {ws : List (Value × Value)}, VV (kvs.map fun kv => (kV kv.1, kv.2)) ws → ∃ rs, Carries (mixKind P w) ws rs ∧ KV kvs rs
  | [], _, r => by rw [List.map_nil] at r; cases r; exact ⟨[], True.intro, .nil⟩
  | p :: kvs, _, r => by
    rw [List.map_cons] at r
    cases r with
    | @cons a b as bs h t =>
      obtain ⟨rs, c, q⟩ := carries_of (P := P) (w := w) t
      obtain ⟨b1, b2⟩ := b
      exact ⟨(p.1, b2) :: rs, ⟨kV_is h.1, rfl, c⟩, .cons ⟨rfl, h.2⟩ q⟩
noncomputable def tDisp (trs : List (TE × TE)) : TE := fun σ H Q => ∀ p, H p = none → tPairs trs σ (upd H p (.dK [])) fun ps H2 => H2 p = some (.dK []) ∧ ∃ kvs : List (Key × V), ps = kvs.map (fun kv => (kV kv.1, kv.2)) ∧ kvs.length ≤ 15 ∧ Q (.ref p) (upd H2 p (.dK (mergeK [] kvs)))
theorem pe_disp {X : Cx} {pos : Pos} {keys : List (Option Expr)} {values : List Expr} {trs : List (TE × TE)} (h : PPs X pos keys values trs) (hall : keys.all (·.isSome) = true) (hl : keys.length = values.length) (h0 : keys ≠ [])
    (h15 : keys.length ≤ 15) : PE X (.Dict keys values pos) (tDisp trs) := by
  intro pins s σ H Q I q
  have hn := I.hok.fresh (Nat.le_refl s.heap.objs.size)
  have I1 := I.laid (a := s.heap.objs.size) (o := .dK []) (h' := s.heap.push { cls := .type "dict", data := .dict #[] }) (t' := s.toks) (fun _ _ q => Heap.get?_push_of_some _ q) (Nat.le_refl _) (dk_empty s.heap I.big)
  refine wpAny_Dict_walk (knd := mixKind X.prog X.w) hall hl h0 h15 (thn (h pins _ σ _ _ I1 (q _ hn)) fun ws s2 ⟨ps, H2, I2, rel, e, kvs, ep, lk, q2⟩ => ?_)
  subst ep
  obtain ⟨rs, c, rk⟩ := carries_of (P := X.prog) (w := X.w) rel
  obtain ⟨z, hd, vs0, r0, dd⟩ := dk_of I2.hok e
  cases r0
  refine ⟨rs, c, dd, fun h' dd' hs => ⟨.ref s.heap.objs.size, _, ?_, rfl, q2⟩⟩
  have hz : (mergeK [] kvs).length ≤ sizeLine := by
    have h1 := length_mergeK kvs []
    rw [List.length_nil] at h1
    rw [sizeLine_eq]; omega
  have he : ∃ q, h'.get? s.heap.objs.size = some q := let ⟨q, _, _, hq, _⟩ := dd'; ⟨q, hq⟩
  exact d_write I2 (by rw [e]; exact True.intro) hs he (dk_new hz hd (rk.merge .nil) dd')
end L2
namespace Att
open PySem PySem.W PySem.Calls PyProof.Rows
theorem ints_of_wellAll {P : Params} {h : Heap} : ∀ (ns : List Int) (vs : List Value), WellAll P h vs (ns.map WData.int) → IntsAre vs ns := by
  intro ns
  induction ns with
  | nil =>
    intro vs w
    rw [List.map_nil] at w
    cases w
    exact .nil
  | cons n ns ih =>
    intro vs w
    rw [List.map_cons] at w
    cases w with
    | cons a b =>
      cases a
      exact .cons _ _ (ih _ b)
theorem script_of {l : OpenLaw} {n : Nat} (hn : l.most = some n) {P : Params} {h : Heap} {args : List WData} {vals : List Value}
    (hpre : l.row.toRowW.claim.pre args = true) (hwl : WellAll P h vals args) :
    ∃ a vs ns, vals = [Value.ref a] ∧ args = [WData.list (ns.map WData.int)] ∧ h.get? a = some { cls := .type "list", data := .seq vs.toArray } ∧ IntsAre vs ns ∧ ns.length ≤ n := by
  have hsh : WShape.hasAll [] args [.list .int] = true := (pre_splitW hpre).1
  have hc : l.pre.holds [] { args := args } = true := (pre_splitW hpre).2
  obtain ⟨d, r, rfl, h1, h2⟩ := hasAllW_cons hsh
  obtain rfl := hasAllW_nil h2
  obtain ⟨xs, rfl, h3⟩ := hasW_list h1
  obtain ⟨ns, rfl⟩ := items_int h3
  have hlen : ns.length ≤ n := by
    unfold OpenLaw.pre at hc
    have h4 : (WTm.not (.lt (.lit (.int (n : Int))) (.len (.arg 0)))).holds [] { args := [.list (ns.map .int)] } = true := by
      have h4 := (holds_andW hc).1
      rw [hn] at h4
      exact h4
    have h5 := condW_of h4 (w_not (w_lt w_lit (w_len_list (w_arg rfl))))
    rw [List.length_map] at h5
    refine Nat.le_of_not_lt fun q => ?_
    have q' : (n : Int) < ((ns.length : Nat) : Int) := by omega
    first
      | (rw [decide_eq_true q'] at h5; exact absurd h5 (by decide))
      | (simp at h5; omega)
  cases hwl with
  | cons w1 w2 =>
    cases w2
    cases w1 with
    | list ho hall => exact ⟨_, _, ns, rfl, rfl, ho, ints_of_wellAll ns _ hall, hlen⟩
theorem post_true (l : OpenLaw) (args : List WData) : l.row.toRowW.claim.post args (.bool true) args = true :=
  postW_of (r := l.row.toRowW) (X := (true == true))
    (show WShape.has [] (.bool true) .bool = true by first | rfl | decide | simp [WShape.has, WShape.arms, WShape.armsAll])
    (show (WTm.eq .res (.lit (.bool true))).value [] { args := args, res := some (.bool true), after := args } = some (.bool (true == true)) from w_eq_bool (w_res rfl) w_lit) rfl
theorem attach_call {l : OpenLaw} {n : Nat} {q : Program} {loose : List Str} {XP : (Str → Option Value) → Heap → Prop} {YP : World → Heap → Prop} {d : DefRec}
    (hn : l.most = some n) (hdf : d.params.defaults = [])
    (call : ∀ (w : World) (s₀ s₁ : Shared) (mg mb : Str → Option Value) (fa : Addr) (o : Obj) (pm cd doc : Value) (a : Addr) (vs : List Value) (ns : List Int),
      Ground q loose [] XP w s₀ mg mb s₁.heap → YP w s₁.heap →
      s₁.heap.get? fa = some o → o.data = .func (docDef d.name d.params d.body d.scope pm cd doc) → s₁.heap.CodeRec cd d.name → mg d.name = some (.ref fa) →
      s₁.heap.get? a = some { cls := .type "list", data := .seq vs.toArray } → IntsAre vs ns → ns.length ≤ n → s₁.gens = #[] →
      codeAny (model l.prog w) callerA (.call (.ref fa) ⟨[.ref a], []⟩) (fun r s' => r = .ok (.ret (.bool true)) ∧ OldK s₁.heap s'.heap ∧ s'.os = s₁.os ∧ AllBare s'.gens) s₁) :
    WalkO q loose XP YP l.row.toRowW d [] (fun f vs => PySem.call f vs) := by
  intro w s₀ s₁ mg mb G Y fa o pm cd doc dV kV ho hd hcd hD hmg hg args vals as hpre hlay hrd hwl hlo
  obtain rfl : dV = .none := Dflts.none hD hdf
  obtain rfl : kV = .none := Dflts.noKw hD
  obtain ⟨a, vs, ns, rfl, rfl, hobj, hints, hlen⟩ := script_of hn hpre hwl
  refine enter_call (codeAny_mono (call w s₀ s₁ mg mb fa o pm cd doc a vs ns G Y ho (fd_plain hd) hcd hmg hobj hints hlen hg) fun r s' hq => ?_)
  obtain ⟨rfl, h2, h3, h4⟩ := hq
  exact ⟨.inl ⟨.bool true, .bool true, [], rfl, fun _ => rfl, .bool true, post_true l _, fun _ => ⟨List.Pairwise.nil, fun _ hm => (nomatch hm)⟩⟩, h2, h3, h4⟩
end Att
namespace L2
open PySem PySem.Spec PyProof.Rows
theorem vals_ints : ∀ {vs : List Value} {ns : List Int}, IntsAre vs ns → Vals (ns.map V.int) vs
  | _, _, .nil => .nil
  | _, _, .cons n t h => .cons ⟨t, rfl⟩ (vals_ints h)
noncomputable def Only (H : Hp) : Prop := ∀ b, H b = none ∨ ∃ o xs, H b = some (.frz o (.lst xs))
theorem law_call {P : Program} {w : World} {K : PySem.W.Frag} {mg mb : Str → Option Value} {CX : CXT} {k : Nat} {fa a : Addr} {fd : FuncData} {x : Str} {sp : Sp} {s₁ : Shared} {vs : List Value} {ns : List Int}
    (KX : K.In s₁.heap) (hns : s₁.heap.Ns mainGlobals mg) (hb : s₁.heap.Ns builtinsNs mb) (hbb : ∀ x : Str, x ≠ "__name__" → mb x = bootBuiltins x) (hlim : s₁.heap.NoLimit) (hg : s₁.gens = #[])
    (ha : s₁.heap.get? a = some { cls := .type "list", data := .seq vs.toArray }) (hi : IntsAre vs ns) (hl : ns.length ≤ sizeLine) (hr : Room k callerA)
    (F : ∀ base : Heap, K.In base → base.Ns mainGlobals mg → FnOk P w K mg base CX k fa fd [x] sp) (hbind : ∀ (s : Shared) (u : Value), BindsTo s fd ⟨[u], []⟩ [(x, u)])
    (hsp : ∀ H : Hp, Only H → SqL K H a (ns.map V.int) → sp [.ref a] H (fun v _ => v = .bl true) fun _ _ _ => False)
    (hCX : ∀ H e s', CX [] H s₁ (fun _ _ _ => False) e s' → False) :
    codeAny (model P w) callerA (.call (.ref fa) ⟨[.ref a], []⟩) (fun r s' => r = .ok (.ret (.bool true)) ∧ OldK s₁.heap s'.heap ∧ s'.os = s₁.os ∧ AllBare s'.gens) s₁ := by
  have rv := vals_ints hi
  have lenV := hi.length
  have core : ∀ H : Hp, Only H → SqL K H a (ns.map V.int) → HOk P w H s₁.heap → (∀ b, H b ≠ none → b = a) → (H a ≠ none → K.lookup a = none) →
      codeAny (model P w) callerA (.call (.ref fa) ⟨[.ref a], []⟩) (fun r s' => r = .ok (.ret (.bool true)) ∧ OldK s₁.heap s'.heap ∧ s'.os = s₁.os ∧ AllBare s'.gens) s₁ := by
    intro H hO hS hok hA hK
    have base_of : ∀ {b : Addr} {o : Obj}, s₁.heap.get? b = some o → H b = none → (hidT s₁.heap H).get? b = some o := fun e n => hidT_get e n
    have noA : ∀ {b : Addr} {o : Obj} {es : Array DictEntry} {ep : Nat}, s₁.heap.get? b = some o → o.data = .dict es ep → H b = none := fun {b o es ep} e d => by
      cases q : H b with
      | none => rfl
      | some u =>
        have e' : b = a := hA b (by rw [q]; simp)
        subst e'
        rw [ha] at e; cases e
        have d' : Data.seq vs.toArray _ = Data.dict es ep := d
        cases d'
    have nsK : ∀ {b : Addr} {m : Str → Option Value}, s₁.heap.Ns b m → (hidT s₁.heap H).Ns b m := fun {b m} ⟨o, es, ep, e, d, r⟩ => ⟨o, es, ep, base_of e (noA e d), d, r⟩
    have hKb : K.In (hidT s₁.heap H) := fun b o e => base_of (KX b o e) (by
      cases q : H b with
      | none => rfl
      | some u =>
        have e' : b = a := hA b (by rw [q]; simp)
        subst e'
        rw [hK (by rw [q]; simp)] at e; cases e)
    have hM : Mod K mg (hidT s₁.heap H) := ⟨hKb, nsK hns, ⟨mb, nsK hb, hbb⟩, let ⟨mc, h1, h2⟩ := hlim; ⟨mc, nsK h1, h2⟩⟩
    have e0 : Env0 P w K mg (hidT s₁.heap H) callerA [] s₁ H := ⟨rfl, hM, fun b o e => of_hidT e, Nat.le_of_eq (hidT_size _ _), trivial, fun b hb => absurd (show b ∈ ([] : List Addr) from hb) (by simp), hok, .of_eq hg⟩
    refine codeAny_mono ((F _ hKb (nsK hns)).run callerA [] s₁ H ⟨[.ref a], []⟩ [.ref a] [.ref a] _ _ hr e0 (hbind s₁ (.ref a)) (.cons rfl .nil) (hsp H hO hS)) fun r s' h => ?_
    cases r with
    | error e => exact (hCX H e s' h).elim
    | ok fl =>
      cases fl with
      | next => exact False.elim h
      | brk => exact False.elim h
      | cont => exact False.elim h
      | ret u =>
        obtain ⟨v, H', os, bare, un, hok', r', q⟩ := h
        have q' : v = .bl true := q
        subst q'
        obtain rfl : u = Value.bool true := r'
        refine ⟨rfl, OldK.of_keep fun b o e => ?_, os, bare⟩
        cases q : H b with
        | none => exact un.keep b o e q (by intro z; exact absurd (show b ∈ ([] : List Addr) from z) (by simp)) (by simp)
        | some u =>
          rcases hO b with z | ⟨ob, xs, z⟩
          · rw [q] at z; cases z
          · have z2 := un.frzs b ob _ z
            obtain ⟨e1, _⟩ := hok b _ z
            obtain ⟨e2, _⟩ := hok' b _ z2
            rw [e] at e1; cases e1
            exact e2
  cases hk : K.lookup a with
  | some o =>
    have e := KX a o hk
    rw [ha] at e
    cases e
    refine core (fun _ => none) (fun _ => .inl rfl) (.inr ⟨_, vs.toArray, _, hk, rfl, rfl, rfl, by rw [List.size_toArray, lenV]; exact hl, by simpa using rv⟩) (fun b u z => by have z' : (none : Option HO) = some u := z; cases z') (fun b z => absurd rfl z) fun z => absurd rfl z
  | none =>
    refine core (fun b => if b = a then some (.frz { cls := .type "list", data := .seq vs.toArray } (.lst (ns.map V.int))) else none) (fun b => ?_) (.inl (.inr ⟨{ cls := .type "list", data := .seq vs.toArray }, if_pos rfl⟩)) (fun b u z => ?_) (fun b z => ?_) fun _ => hk
    · by_cases hb : b = a
      · exact .inr ⟨_, _, if_pos hb⟩
      · exact .inl (if_neg hb)
    · by_cases hb : b = a
      · have z' := (if_pos hb).symm.trans z
        cases z'
        subst hb
        exact ⟨ha, by rw [List.length_map]; exact hl, vs, _, rv, ha⟩
      · have z' := (if_neg hb).symm.trans z
        cases z'
    · by_cases hb : b = a
      · exact hb
      · exact absurd (if_neg hb) z
end L2
namespace L2
open PySem PySem.Spec PyProof.Rows
theorem walk_of {l : PySem.W.OpenLaw} {n k : Nat} {q : Program} {loose : List Str} {XP : (Str → Option Value) → Heap → Prop} {YP : World → Heap → Prop} {d : DefRec} {K : Params → PySem.W.Frag} {CX : World → CXT} {sp : World → Sp} {x : Str}
    (hn : l.most = some n) (hn2 : n ≤ sizeLine) (hdf : d.params.defaults = []) (hr : Room k callerA)
    (hY : ∀ (w : World) (h : Heap), YP w h → (K w.params).In h)
    (F : ∀ (w : World) (mg : Str → Option Value) (fa : Addr) (h : Heap), (K w.params).In h → h.Ns mainGlobals mg → mg d.name = some (.ref fa) →
      ∃ fd : FuncData, (∀ (s : Shared) (u : Value), BindsTo s fd ⟨[u], []⟩ [(x, u)]) ∧
        ∀ base : Heap, (K w.params).In base → base.Ns mainGlobals mg → FnOk l.prog w (K w.params) mg base (CX w) k fa fd [x] (sp w))
    (hsp : ∀ (w : World) (H : Hp) (a : Addr) (ns : List Int), ns.length ≤ n → Only H → SqL (K w.params) H a (ns.map V.int) → sp w [.ref a] H (fun v _ => v = .bl true) fun _ _ _ => False)
    (hCX : ∀ (w : World) (H : Hp) (s : Shared) (e : Value) (s' : Shared), CX w [] H s (fun _ _ _ => False) e s' → False) :
    PySem.W.WalkO q loose XP YP l.row.toRowW d [] (fun f vs => PySem.call f vs) := by
  refine Att.attach_call hn hdf fun w s₀ s₁ mg mb fa o pm cd doc a vs ns G Y ho hd hcd hmg hobj hints hlen hg => ?_
  have KX := hY w _ Y
  obtain ⟨fd, hb, hF⟩ := F w mg fa _ KX G.T.g hmg
  exact law_call KX G.T.g G.T.b G.T.builtins G.T.nolimit hg hobj hints (Nat.le_trans hlen hn2) hr hF hb (fun H hO hS => hsp w H a ns hlen hO hS) fun H e s' => hCX w H s₁ e s'
end L2
namespace L2
open PySem PySem.Spec PyProof.Rows
noncomputable def defArgs (s : Stmt) : Arguments := match s with
  | .FunctionDef _ a _ _ _ _ _ _ _ _ => a
  | _ => { posonlyargs := [], args := [], vararg := none, kwonlyargs := [], kw_defaults := [], kwarg := none, defaults := [] }
noncomputable def defBody (s : Stmt) : List Stmt := match s with
  | .FunctionDef _ _ b _ _ _ _ _ _ _ => b
  | _ => []
noncomputable def defScope (s : Stmt) : Scope := match s with
  | .FunctionDef _ _ _ _ _ _ sc _ _ _ => sc
  | _ => { kind := .function, names := [], isGenerator := false, isCoroutine := false }
noncomputable abbrev CX0 : CXT := fun _ _ _ _ _ _ => False
noncomputable abbrev E0 : XK := fun _ _ _ => False
theorem pass0 {X : Cx} : Passes CX0 X E0 := fun _ _ _ _ _ _ _ h => h.elim
structure Fun (K : PySem.W.Frag) (x qual : Str) (st : Stmt) (f : Addr) (fd : FuncData) : Prop where
  ex : ∃ (oc : Value) (od : Option Addr) (kV doc pm : Value) (an : Option Addr) (cdv ct : Value) (osl : Array (Option Value)),
    fd = PySem.W.fnOf x qual (defArgs st) (defBody st) (defScope st) .none kV doc pm an cdv ct ∧ K.lookup f = some ⟨oc, od, .func fd, osl⟩ ∧ PySem.W.codeIn K cdv qual = true
  kp : PySem.W.keepIn K (.ref f) = true
section
variable {P : Program} {w : World} {K : PySem.W.Frag} {mg : Str → Option Value} {base : Heap}
theorem Fun.ok {x qual : Str} {st : Stmt} {f : Addr} {fd : FuncData} {N ps : List Str} {k : Nat} {sp : Sp} (F : Fun K x qual st f fd) (S : FnScope N ps (defScope st)) (len : ∀ vs H Q E, sp vs H Q E → vs.length = ps.length)
    (hbody : ∀ (cdv : Value) (A : Around) (outer : List Env) (s : Shared) (H : Hp) (vs : List V) (Q : VK) (E : XK), Room k (A.deeper (envOfC qual (defScope st) s.heap.objs.size f cdv)) → sp vs H Q E →
      ∃ t, PSs (cxOf CX0 P w K mg base N qual (defScope st) f cdv A outer s H E).nox (defBody st) t ∧ t { nx := fun _ H' => Q .non H', rt := Q } (start N vs) H) : FnOk P w K mg base CX0 (k + 1) f fd ps sp := by
  obtain ⟨oc, od, kV, doc, pm, an, cdv, ct, osl, rfl, lk, hcd⟩ := F.ex
  refine fn_of lk hcd S len fun A outer s H vs Q E hr hsp => ?_
  obtain ⟨t, h, q⟩ := hbody cdv A outer s H vs Q E hr hsp
  exact ⟨t, h.nox, q⟩
theorem Fun.binds {x qual : Str} {st : Stmt} {f : Addr} {fd : FuncData} {ps : List Str} (F : Fun K x qual st f fd)
    (h : ∀ (kV doc pm : Value) (an : Option Addr) (cdv ct : Value) (us : List Value), us.length = ps.length → bindArgs (PySem.W.fnOf x qual (defArgs st) (defBody st) (defScope st) .none kV doc pm an cdv ct) ⟨us, []⟩ = pure (ps.zip us)) : Binds K fd ps [] := by
  obtain ⟨oc, od, kV, doc, pm, an, cdv, ct, osl, rfl, lk, hcd⟩ := F.ex
  exact .all (h kV doc pm an cdv ct)
theorem fun_mk {x qual : Str} {st : Stmt} {f : Addr} {oc : Value} {od an : Option Addr} {osl : Array (Option Value)} {kV doc pm cdv ct : Value} (l : K.lookup f = some ⟨oc, od, .func (PySem.W.fnOf x qual (defArgs st) (defBody st) (defScope st) .none kV doc pm an cdv ct), osl⟩)
    (c : PySem.W.codeIn K cdv qual = true) (k : PySem.W.keepIn K (.ref f) = true) : Fun K x qual st f (PySem.W.fnOf x qual (defArgs st) (defBody st) (defScope st) .none kV doc pm an cdv ct) := ⟨⟨oc, od, kV, doc, pm, an, cdv, ct, osl, rfl, l, c⟩, k⟩
end
theorem small1000 {n : Nat} (h : n ≤ 1000) : n < sizeLine := Nat.lt_of_le_of_lt h (by decide)
section
variable {X : Cx}
theorem pv (i : Nat) {x : Str} {pos : Pos} (hN : X.N[i]? = some x := by rfl) (hv : Vis X.env.scope x := by first | exact Or.inl rfl | exact Or.inr (Or.inl rfl) | exact Or.inr (Or.inr rfl)) (hd : (x == ("__debug__" : Str)) = false := by decide)
    (hcd : (x == ("__classdict__" : Str)) = false := by decide) : PE X (.Name x pos) (tVar i) := pe_var hN hv hd hcd
theorem call_lenD : CallR X (.builtin "len") (fun xs H Q => ∃ a kvs, xs = [V.ref a] ∧ H a = some (.dK kvs) ∧ Q (.int kvs.length) H) := by
  intro pins s σ H xs us Q I r h
  obtain ⟨a, kvs, rfl, ha, q⟩ := h
  obtain ⟨u, rfl, ru⟩ := vals1 r
  cases ru
  exact d_len I (.inl ha) fun t s' I' => ⟨.int kvs.length, H, I', ⟨t, rfl⟩, q⟩
end
theorem iteF {A B : Prop} (h : B) : if false = true then A else B := by
  rw [if_neg Bool.false_ne_true]
  exact h
theorem iteT {A B : Prop} (h : A) : if true = true then A else B := by
  rw [if_pos rfl]
  exact h
theorem ite2 {c A B : Prop} [Decidable c] (h1 : c → A) (h2 : ¬ c → B) : if c then A else B := by
  by_cases h : c
  · rw [if_pos h]
    exact h1 h
  · rw [if_neg h]
    exact h2 h
noncomputable def Same (H H' : Hp) : Prop := ∀ b o, H b = some o → H' b = some o
theorem Same.refl (H : Hp) : Same H H := fun _ _ h => h
theorem Same.trans {H H1 H2 : Hp} (a : Same H H1) (b : Same H1 H2) : Same H H2 := fun c o h => b c o (a c o h)
section
variable {κ : Type} [DecidableEq κ]
theorem valV_not {kvs : List (κ × V)} {k : κ} (h : valV kvs k = none) : ¬ k ∈ kvs.map (·.1) := by
  intro m
  obtain ⟨p, hp, e⟩ := List.mem_map.mp m
  have q : (kvs.any fun kv => decide (kv.1 = k)) = true := List.any_eq_true.mpr ⟨p, hp, decide_eq_true e⟩
  rw [valV_any, h] at q
  exact absurd q (by simp)
theorem valV_in {kvs : List (κ × V)} {k : κ} {v : V} (h : valV kvs k = some v) : k ∈ kvs.map (·.1) := by
  have q : (kvs.any fun kv => decide (kv.1 = k)) = true := by
    rw [valV_any, h]
    all_goals rfl
  obtain ⟨p, hp, e⟩ := List.any_eq_true.mp q
  exact List.mem_map.mpr ⟨p, hp, of_decide_eq_true e⟩
theorem nd_snoc : ∀ {l : List κ} {k : κ}, l.Nodup → ¬ k ∈ l → (l ++ [k]).Nodup
  | [], k, _, _ => by simp
  | a :: r, k, h, hk => by
    obtain ⟨h1, h2⟩ := List.nodup_cons.mp h
    show (a :: (r ++ [k])).Nodup
    refine List.nodup_cons.mpr ⟨fun m => ?_, nd_snoc h2 fun m => hk (List.mem_cons.mpr (Or.inr m))⟩
    rcases List.mem_append.mp m with q | q
    · exact h1 q
    · exact hk (List.mem_cons.mpr (Or.inl (List.mem_singleton.mp q).symm))
theorem nd_putK {kvs : List (κ × V)} {k : κ} (v : V) (hn : (kvs.map (·.1)).Nodup) (h : valV kvs k = none) : ((putK kvs k v).map (·.1)).Nodup := by
  rw [putK_new v h, List.map_append]
  exact nd_snoc hn (valV_not h)
end
end L2
set_option maxHeartbeats 4000000
namespace L2
open PySem PySem.Spec PyProof.Rows
theorem clos_go {env : Env} {f : Str × NameKind → List (Str × Addr) → Sem (ForInStep (List (Str × Addr)))}
    (f1 : ∀ n k r, k ≠ NameKind.free → f (n, k) r = pure (.yield r))
    (f2 : ∀ n c r, env.cells.lookup n = some c → f (n, NameKind.free) r = pure (.yield ((n, c) :: r))) :
    ∀ (names : List (Str × NameKind)) (acc : List (Str × Addr)),
    (∀ y ∈ names, y.2 = NameKind.free → ∃ c, env.cells.lookup y.1 = some c) →
    (∀ x c, acc.lookup x = some c → env.cells.lookup x = some c) →
    ∃ cl, forIn names acc f = (pure cl : Sem (List (Str × Addr))) ∧ (∀ x c, cl.lookup x = some c → env.cells.lookup x = some c) ∧
      (∀ x, (acc.lookup x).isSome = true → (cl.lookup x).isSome = true) ∧ ∀ y ∈ names, y.2 = NameKind.free → (cl.lookup y.1).isSome = true
  | [], acc, _, h => ⟨acc, by rw [List.forIn_nil], h, fun _ q => q, fun y hy => nomatch hy⟩
  | (n, k) :: r, acc, hn, h => by
    by_cases hk : k = NameKind.free
    · subst hk
      obtain ⟨c, hc⟩ := hn (n, .free) List.mem_cons_self rfl
      have hc' : env.cells.lookup n = some c := hc
      obtain ⟨cl, e, a, b, d⟩ := clos_go f1 f2 r ((n, c) :: acc) (fun y hy => hn y (List.mem_cons_of_mem _ hy)) (fun x c' q => by
        rw [List.lookup_cons] at q
        cases e : x == n with
        | true =>
          rw [e] at q
          cases q
          rw [show x = n from LawfulBEq.eq_of_beq e]
          exact hc'
        | false =>
          rw [e] at q
          exact h x c' q)
      refine ⟨cl, ?_, a, fun x q => b x ?_, fun y hy hf => ?_⟩
      · rw [List.forIn_cons, f2 n c acc hc', pure_bind]
        exact e
      · rw [List.lookup_cons]
        cases x == n with
        | true => rfl
        | false => exact q
      · rcases List.mem_cons.mp hy with rfl | hy
        · refine b _ ?_
          rw [List.lookup_cons]
          simp
        · exact d y hy hf
    · obtain ⟨cl, e, a, b, d⟩ := clos_go f1 f2 r acc (fun y hy => hn y (List.mem_cons_of_mem _ hy)) h
      refine ⟨cl, ?_, a, b, fun y hy hf => ?_⟩
      · rw [List.forIn_cons, f1 n k acc hk, pure_bind]
        exact e
      · rcases List.mem_cons.mp hy with rfl | hy
        · exact absurd hf hk
        · exact d y hy hf
theorem clos_ok {scope : Scope} {env : Env} (hf : ∀ y ∈ scope.names, y.2 = NameKind.free → ∃ c, env.cells.lookup y.1 = some c) :
    ∃ cl, closureFor scope env = pure cl ∧ (∀ x c, cl.lookup x = some c → env.cells.lookup x = some c) ∧
      ∀ y ∈ scope.names, y.2 = NameKind.free → ∃ c, cl.lookup y.1 = some c := by
  have go := clos_go (env := env) (f := fun (x : Str × NameKind) (r : List (Str × Addr)) => match x with
      | (name, kind) => if (kind == NameKind.free) = true then do let c ← cellOf env name; pure (ForInStep.yield ((name, c) :: r)) else pure (ForInStep.yield r))
    (fun n k r hk => by
      have z : (k == NameKind.free) = false := by simpa using hk
      simp only [z, Bool.false_eq_true, if_false])
    (fun n c r hc => by
      simp only [beq_self_eq_true, if_true, cellOf, hc, pure_bind])
    scope.names [] hf (fun x c q => by cases q)
  obtain ⟨cl, e, a, _, d⟩ := go
  refine ⟨cl, ?_, a, fun y hy z => Option.isSome_iff_exists.mp (d y hy z)⟩
  simp only [closureFor]
  first
    | exact e
    | (simp only [bind_pure]; exact e)
    | (refine Eq.trans ?_ e; simp only [bind_pure])
noncomputable def cxC (X : Cx) (scope : Scope) (N : List Str) (cl : List (Str × Addr)) (C : Addr) (s₀ : Shared) (H₀ : Hp) (ex : List Addr) : Cx where
  prog := X.prog
  w := X.w
  K := X.K
  mg := X.mg
  base := X.base
  A := X.A
  N := N
  s₀ := s₀
  H₀ := H₀
  env := compEnvC scope cl C X.env
  outer := X.stack
  stack := X.stack
  ex := ex
  fn := fun _ => false
  calm := X.calm
  pn := []
  xe := fun _ _ => False
noncomputable def inSt (k : Nat) (fr : List Nat) (σ : St) : St := List.replicate k none ++ fr.map fun i => (σ[i]?).join
noncomputable def frOk (osc scope : Scope) (NX : List Str) (fr : List Nat) : Bool := fr.all fun i => match NX[i]? with
  | some x => (decide (osc.names.lookup x = some .cell) || decide (osc.names.lookup x = some .free)) && decide (scope.names.lookup x = some .free)
  | none => false
structure CompSc (osc scope : Scope) (NX own : List Str) (fr : List Nat) (N : List Str) : Prop where
  kind : scope.kind = .function
  nocell : ∀ y ∈ scope.names, y.2 ≠ NameKind.cell
  loc : ∀ y ∈ scope.names, y.2 = NameKind.local → scope.names.lookup y.1 = some .local
  free : ∀ y ∈ scope.names, y.2 = NameKind.free → osc.names.lookup y.1 = some .cell ∨ osc.names.lookup y.1 = some .free
  names : N.map some = own.map some ++ fr.map fun i => NX[i]?
  outer : frOk osc scope NX fr = true
noncomputable def compOk (osc scope : Scope) (NX own : List Str) (fr : List Nat) (N : List Str) : Bool :=
  decide (scope.kind = .function) && (scope.names.all (fun y => decide (y.2 ≠ NameKind.cell)) && (scope.names.all (fun y => decide (y.2 = NameKind.local → scope.names.lookup y.1 = some .local)) &&
    (scope.names.all (fun y => decide (y.2 = NameKind.free → (osc.names.lookup y.1 = some .cell ∨ osc.names.lookup y.1 = some .free))) && (decide (N.map some = own.map some ++ fr.map fun i => NX[i]?) && frOk osc scope NX fr))))
theorem CompSc.of {osc scope : Scope} {NX own : List Str} {fr : List Nat} {N : List Str} (h : compOk osc scope NX own fr N = true) : CompSc osc scope NX own fr N := by
  unfold compOk at h
  simp only [Bool.and_eq_true, decide_eq_true_eq, List.all_eq_true] at h
  obtain ⟨h1, h2, h3, h4, h5, h6⟩ := h
  exact ⟨h1, h2, h3, h4, h5, h6⟩
theorem CompSc.len {osc scope : Scope} {NX own : List Str} {fr : List Nat} {N : List Str} (S : CompSc osc scope NX own fr N) : N.length = own.length + fr.length := by
  have h := congrArg List.length S.names
  simpa using h
theorem lookup_relabel_free {env : Env} : ∀ {names : List (Str × NameKind)} {x : Str}, names.lookup x = some .free →
    (names.map fun (n, k) => if (k == NameKind.free && env.scope.kind == .function && env.kindOf n == some .cell) then (n, NameKind.cell) else (n, k)).lookup x = some .cell ∨
    (names.map fun (n, k) => if (k == NameKind.free && env.scope.kind == .function && env.kindOf n == some .cell) then (n, NameKind.cell) else (n, k)).lookup x = some .free
  | [], _, h => by simp at h
  | (n, k) :: r, x, h => by
    have ih := @lookup_relabel_free env r x
    cases hx : x == n with
    | true =>
      simp only [List.lookup_cons, hx] at h
      cases h
      simp only [List.map_cons]
      split
      · left; simp [List.lookup_cons, hx]
      · right; simp [List.lookup_cons, hx]
    | false =>
      simp only [List.lookup_cons, hx] at h
      simp only [List.map_cons]
      split
      · simp only [List.lookup_cons, hx]; exact ih h
      · simp only [List.lookup_cons, hx]; exact ih h
theorem of_relabel {env : Env} : ∀ {names : List (Str × NameKind)} {x : Str} {k' : NameKind},
    (names.map fun (n, k) => if (k == NameKind.free && env.scope.kind == .function && env.kindOf n == some .cell) then (n, NameKind.cell) else (n, k)).lookup x = some k' →
    k' = .cell ∨ k' = .free → (∀ y ∈ names, y.2 ≠ NameKind.cell) → ∃ y ∈ names, y.1 = x ∧ y.2 = .free
  | [], _, _, h, _, _ => by simp at h
  | (n, k) :: r, x, k', h, hk, nc => by
    have ih := @of_relabel env r x k'
    simp only [List.map_cons] at h
    cases hx : x == n with
    | true =>
      have ex : x = n := LawfulBEq.eq_of_beq hx
      refine ⟨(n, k), List.mem_cons_self, ex.symm, ?_⟩
      have nck : k ≠ .cell := nc (n, k) List.mem_cons_self
      by_cases z : k = .free
      · exact z
      · have zb : (k == NameKind.free) = false := by simpa using z
        simp only [zb, Bool.false_and, Bool.false_eq_true, if_false, List.lookup_cons, hx] at h
        cases h
        rcases hk with q | q
        · exact absurd q nck
        · exact absurd q z
    | false =>
      have h' : (r.map fun (n, k) => if (k == NameKind.free && env.scope.kind == .function && env.kindOf n == some .cell) then (n, NameKind.cell) else (n, k)).lookup x = some k' := by
        split at h
        · simpa only [List.lookup_cons, hx] using h
        · simpa only [List.lookup_cons, hx] using h
      obtain ⟨y, hy, a, b⟩ := ih h' hk fun z hz => nc z (List.mem_cons_of_mem _ hz)
      exact ⟨y, List.mem_cons_of_mem _ hy, a, b⟩
section
variable {X : Cx} {pins : List (Addr × Obj)} {σ : St} {H : Hp} {s : Shared}
noncomputable def PTs (X : Cx) (ifs : List Expr) (t : TT) : Prop :=
  ∀ (pins : List (Addr × Obj)) (s : Shared) (σ : St) (H : Hp) (Q : Bool → Hp → Prop), Inv X pins σ H s → t σ H Q →
    wpAny (model X.prog X.w) X.A (forIn ifs true fun c r => if r = true then do let ok ← isTrue c X.env (eval c X.env); pure (ForInStep.yield ok) else pure (ForInStep.yield r)) (TP X pins σ Q) X.xe s
noncomputable def tYes : TT := fun _ H Q => Q true H
theorem pts_nil : PTs X [] tYes := fun _ _ _ H _ I h => wpAny_tests_nil ⟨H, I, h⟩
theorem pts_one {c : Expr} {t : TT} (h : PT X c t) : PTs X [c] t := fun pins s σ H Q I q => wpAny_tests_one (h pins s σ H Q I q)
theorem nx {α : Type} {t : Sem α} {Q Q' : α → Shared → Prop} {M : Model} {A : Around} {E : Value → Shared → Prop} {s : Shared} (h : wpAny M A t Q (fun _ _ => False) s) (hQ : ∀ a s, Q a s → Q' a s) : wpAny M A t Q' E s :=
  wpAny_mono h hQ fun _ _ f => f.elim
theorem inv_block {scope : Scope} {own : List Str} {fr : List Nat} {N : List Str} {cl : List (Str × Addr)} {s3 s4 : Shared} {H3 : Hp} {fp : List Addr} {m : Str → Option Value}
    (hc : X.calm = true) (S : CompSc X.env.scope scope X.N own fr N)
    (c1 : ∀ x c, cl.lookup x = some c → X.env.cells.lookup x = some c) (c2 : ∀ y ∈ scope.names, y.2 = NameKind.free → ∃ c, cl.lookup y.1 = some c)
    (I3 : Inv X pins σ H3 s3) (f3 : ∀ b ∈ fp, FpOk X pins H3 b ∧ b < s3.heap.objs.size)
    (hk : ∀ b o, s3.heap.get? b = some o → s4.heap.get? b = some o) (hn : s4.heap.Ns s3.heap.objs.size m) (ho : s4.os = s3.os) (hg : s4.gens = s3.gens) :
    Inv (cxC X scope N cl s3.heap.objs.size s3 H3 fp) [] (inSt own.length fr σ) H3 s4 := by
  have kindF : (compEnvC scope cl s3.heap.objs.size X.env).scope.kind = .function := by
    show (relabel scope X.env).kind = .function
    exact S.kind
  refine ⟨⟨I3.ok.mod, kindF, I3.ok.glob, I3.ok.blt, Nat.le_refl _, ?_, ?_, ?_, I3.ok.hd, I3.ok.frames, .inl rfl, ?_, ?_, ?_, ?_, ?_, I3.stack, I3.stkFree⟩, ho, ?_, Un.kept hk, ⟨m, hn, ?_⟩, ?_, ?_, ?_, ?_, I3.hok.kept hk, ?_⟩
  · exact fun x y c h1 h2 => I3.ok.inj x y c (c1 x c h1) (c1 y c h2)
  · intro x hx
    have hx' : (relabel scope X.env).names.lookup x = some .cell ∨ (relabel scope X.env).names.lookup x = some .free := hx
    obtain ⟨k', hk', hkk⟩ : ∃ k', (relabel scope X.env).names.lookup x = some k' ∧ (k' = NameKind.cell ∨ k' = NameKind.free) := by
      rcases hx' with q | q
      · exact ⟨_, q, .inl rfl⟩
      · exact ⟨_, q, .inr rfl⟩
    obtain ⟨y, hy, e, hf⟩ := of_relabel (env := X.env) hk' hkk S.nocell
    subst e
    exact c2 y hy hf
  · exact fun x c h => by cases h
  · intro b hb
    obtain ⟨f, hl⟩ := f3 b hb
    refine ⟨Nat.ne_of_lt hl, fun x c h => f.2.2.2.2.1 x c (c1 x c h)⟩
  · exact fun b o e => I3.bs b o e
  · exact Nat.le_trans I3.ok.bsz I3.sz
  · intro b o e hb
    obtain ⟨f, hl⟩ := f3 b hb
    rcases f.2.2.2.1 with z | z
    · exact I3.ok.noex b o e z
    · exact absurd (Nat.lt_of_lt_of_le (Heap.lt_size e) (Nat.le_trans I3.ok.bsz z)) (Nat.lt_irrefl _)
  · intro b hb
    obtain ⟨f, hl⟩ := f3 b hb
    show b ∉ frs X.stack
    intro z
    rcases List.mem_cons.mp (I3.stkSub b z) with q | q
    · exact f.2.1 q
    · exact f.2.2.1 q
  · rw [hg]; exact I3.bare
  · intro i x v h1 h2 h3
    have h1 : N[i]? = some x := h1
    obtain ⟨m0, hn0, hl0⟩ := I3.loc
    have hi : own.length ≤ i := by
      refine Nat.le_of_not_lt fun q => ?_
      unfold inSt at h2
      rw [List.getElem?_append_left (by simpa using q), List.getElem?_replicate] at h2
      split at h2 <;> cases h2
    obtain ⟨j, rfl⟩ := Nat.exists_eq_add_of_le hi
    have h2' : (fr.map fun i => (σ[i]?).join)[j]? = some (some v) := by
      unfold inSt at h2
      rw [List.getElem?_append_right (by simp)] at h2
      simpa using h2
    rw [List.getElem?_map] at h2'
    cases ej : fr[j]? with
    | none => rw [ej] at h2'; cases h2'
    | some k =>
      rw [ej] at h2'
      have e2 : (σ[k]?).join = some v := Option.some.inj h2'
      have eσ : σ[k]? = some (some v) := by
        cases q : σ[k]? with
        | none => rw [q] at e2; cases e2
        | some o => rw [q] at e2; exact congrArg some e2
      have eN : X.N[k]? = some x := by
        have q := congrArg (fun l => l[own.length + j]?) S.names
        simp only [List.getElem?_map, h1, List.getElem?_append_right (show (own.map some).length ≤ own.length + j by simp), List.length_map, Nat.add_sub_cancel_left, ej, Option.map_some] at q
        exact (Option.some.inj q).symm
      have ok := List.all_eq_true.mp S.outer k (List.mem_of_getElem? ej)
      rw [eN] at ok
      simp only [Bool.and_eq_true, Bool.or_eq_true, decide_eq_true_eq] at ok
      obtain ⟨ok1, ok2⟩ := ok
      have vis : Vis X.env.scope x := .inr ok1
      obtain ⟨u, r, l⟩ := hl0 k x v eN eσ vis
      refine ⟨u, r, ?_⟩
      rcases l with ⟨l, _⟩ | ⟨_, c, e, z⟩
      · have l : X.env.scope.names.lookup x = some .local := l
        rcases ok1 with q | q
        · rw [l] at q; cases q
        · rw [l] at q; cases q
      · obtain ⟨c', e'⟩ := c2 (x, .free) (PySem.mem_of_lookup ok2) rfl
        have e' : cl.lookup x = some c' := e'
        have ec : c' = c := Option.some.inj ((c1 x c' e').symm.trans e)
        subst ec
        refine .inr ⟨lookup_relabel_free (env := X.env) ok2, c', e', ?_⟩
        obtain ⟨o, h1, h2⟩ := z
        exact ⟨o, hk _ _ h1, h2⟩
  · intro x c e
    obtain ⟨v, o, h1, h2⟩ := I3.cell x c (c1 x c e)
    exact ⟨v, o, hk _ _ h1, h2⟩
  · exact I3.hok.fresh (Nat.le_refl _)
  · exact fun x c e => I3.freeC x c (c1 x c e)
  · intro p hp
    exact absurd hp (by simp [cxC])
  · show (inSt own.length fr σ).length = N.length
    rw [S.len]
    simp [inSt]
end
section
variable {prog : Program} {w : World} {A : Around} {R : Result → Shared → Prop} {s : Shared}
theorem comp_loop {elt tg iter : Expr} {ifs : List Expr} {scope : Scope} {pos : Pos} {it acc : Value} {env : Env} (J : Nat → Shared → Prop)
    (turn : ∀ k s, J k s → ∀ E : Value → Shared → Prop, wpAny (model prog w) A (pyNext it) (fun r s1 => match r with
      | none => R (.ok .next) s1
      | some v => wpAny (model prog w) A (letOwnedTupleGo tg it v) (fun _ s2 => wpAny (model prog w) A (assign tg env v) (fun _ s3 =>
          wpAny (model prog w) A (forIn ifs true fun c r => if r = true then do let ok ← isTrue c env (eval c env); pure (ForInStep.yield ok) else pure (ForInStep.yield r)) (fun ok s4 =>
            if ok = true then wpAny (model prog w) A (eval elt env) (fun x s5 => wpAny (model prog w) A (call (.builtin "list.append") [acc, x]) (fun _ s6 => ∃ m, m < k ∧ J m s6) E s5) E s4
            else ∃ m, m < k ∧ J m s4) E s3) E s2) E s1) E s)
    (k : Nat) (h : J k s) : codeAny (model prog w) A (.compLoop (.ListComp elt [⟨tg, iter, ifs, 0⟩] scope pos) 0 it acc env) R s := by
  refine codeAny_loop rfl J (fun k s hJ => ?_) k h
  show wpAny _ A ((compTurn (.ListComp elt [⟨tg, iter, ifs, 0⟩] scope pos) 0 it acc env).onRaise (fun e => do noteFrame e env; theTreesLotGoes e)) _ _ s
  refine wpAny_noted ?_
  rw [compTurn_list]
  refine wpAny_bind (wpAny_standAt (wpAny_bind (thn (turn k s hJ _) fun r s1 h1 => ?_)))
  cases r with
  | none => exact wpAny_pure h1
  | some v =>
    refine wpAny_bind (thn h1 fun _ s2 h2 => wpAny_bind (thn h2 fun _ s3 h3 => wpAny_bind (thn h3 fun ok s4 h4 => ?_)))
    cases ok with
    | false => exact wpAny_pure ⟨rfl, h4⟩
    | true => exact wpAny_bind (wpAny_bind (thn h4 fun x s5 h5 => wpAny_bind (thn h5 fun _ s6 h6 => wpAny_pure (wpAny_pure ⟨rfl, h6⟩))))
end
noncomputable def tCompW (k : Nat) (fr : List Nat) (g : TG) (tc : TT) (te : TE) (J : It) (σ : St) (H1 : Hp) (Q : VK) : Prop :=
  ∀ D, H1 D = none → ∃ W : Nat → Nat → List V → St → Hp → Prop, (∃ m, W 0 m [] (inSt k fr σ) (upd H1 D (.lst []))) ∧ ∀ i m acc σ' H', W i m acc σ' H' → H' D = some (.lst acc) →
    (J.stop i H' ∧ Q (.ref D) H') ∨ (J.go i H' ∧ ∃ N : List V → St → Hp → Prop, (∀ acc' σ2 H2, N acc' σ2 H2 → ∃ m', m' < m ∧ W (i + 1) m' acc' σ2 H2) ∧ ∀ x H2, J.yld i H' x H2 → g x σ' H2 fun σ2 H3 => tc σ2 H3 fun b H4 =>
      if b = true then te σ2 H4 fun y H5 => H5 D = some (.lst acc) ∧ acc.length < sizeLine ∧ N (acc ++ [y]) σ2 (upd H5 D (.lst (acc ++ [y])))
      else H4 D = some (.lst acc) ∧ N acc σ2 H4)
noncomputable def tComp (k : Nat) (fr : List Nat) (wi : TI) (g : TG) (tc : TT) (te : TE) : TE := fun σ H Q => wi σ H fun J H1 => tCompW k fr g tc te J σ H1 Q
section
variable {X : Cx} {pins : List (Addr × Obj)} {σ : St} {H : Hp} {s : Shared} {tg elt iter : Expr} {ifs : List Expr} {scope : Scope} {pos : Pos}
theorem comp_block {own : List Str} {fr : List Nat} {N : List Str} {cl : List (Str × Addr)} {H2 : Hp} {s2 : Shared} {fp : List Addr} {it : Addr} {J : It} {tn : Nat → Heap → Prop} {g : TG} {tc : TT} {te : TE} {Q : VK} {E : Value → Shared → Prop} {POST : Value → Addr → Result → Shared → Prop}
    (hc : X.calm = true) (S : CompSc X.env.scope scope X.N own fr N)
    (c1 : ∀ x c, cl.lookup x = some c → X.env.cells.lookup x = some c) (c2 : ∀ y ∈ scope.names, y.2 = NameKind.free → ∃ c, cl.lookup y.1 = some c)
    (hg : ∀ C s₀ H₀ ex, PG (cxC X scope N cl C s₀ H₀ ex) tg g) (ht : ∀ C s₀ H₀ ex, PTs (cxC X scope N cl C s₀ H₀ ex) ifs tc) (he : ∀ C s₀ H₀ ex, PE (cxC X scope N cl C s₀ H₀ ex) elt te)
    (I2 : Inv X pins σ H2 s2) (T : Turn X.prog X.w X.K tg J fp it tn) (t2 : tn 0 s2.heap) (f2 : ∀ b ∈ fp, FpOk X pins H2 b) (q : tCompW own.length fr g tc te J σ H2 Q)
    (fin : ∀ D C s' H' m, Inv X pins σ H' s' → FpOk X pins H' C → s'.heap.Ns C m → Q (.ref D) H' → POST (.ref D) C (.ok .next) s') :
    wpAny (model X.prog X.w) X.A (newList []) (fun acc s3 => wpAny (model X.prog X.w) X.A (newFunctionEnv scope X.env.globals cl [] X.env.qual none .none (some X.env)) (fun cenv s4 =>
      codeAny (model X.prog X.w) X.A (.compStart (.ListComp elt [⟨tg, iter, ifs, 0⟩] scope pos) 0 (.ref it) acc { cenv with scope := relabel scope X.env }) (POST acc cenv.locals) s4) E s3) E s2 := by
  refine wpAny_newObj_type (wpAny_newFunctionEnv S.nocell (by intro y hy; simp at hy) (fun h4 ns4 sb4 => ?_) S.kind)
  dsimp only at ns4 sb4 ⊢
  have hD : H2 s2.heap.objs.size = none := I2.hok.fresh (Nat.le_refl _)
  obtain ⟨W, ⟨m0, w0⟩, turn⟩ := q s2.heap.objs.size hD
  have I3 : Inv X pins σ (upd H2 s2.heap.objs.size (.lst [])) { s2 with heap := s2.heap.push { cls := .type "list", dict := none, data := .seq ([] : List Value).toArray }, toks := s2.toks } :=
    I2.laid (fun b u q => Heap.get?_push_of_some _ q) (Nat.le_refl _) ⟨Nat.zero_le _, [], _, .nil, Heap.get?_push_size _ rfl⟩
  generalize hh3 : s2.heap.push { cls := .type "list", dict := none, data := .seq ([] : List Value).toArray } = h3 at *
  have z3 : h3.objs.size = s2.heap.objs.size + 1 := by rw [← hh3, Heap.size_push]
  have k23 : ∀ b o, s2.heap.get? b = some o → h3.get? b = some o := fun b o e => by rw [← hh3]; exact Heap.get?_push_of_some _ e
  have k34 : ∀ b o, h3.get? b = some o → h4.get? b = some o := fun b o e => sb4.extBut b o (Nat.ne_of_lt (Heap.lt_size e)) (Heap.get?_push_of_some _ e)
  have fpl : ∀ b ∈ fp, b < s2.heap.objs.size := fun b hb => by
    obtain ⟨o, e, _⟩ := T.obj _ _ t2 b hb
    exact Heap.lt_size e
  have f3 : ∀ b ∈ fp, FpOk X pins (upd H2 s2.heap.objs.size (.lst [])) b ∧ b < h3.objs.size := fun b hb => by
    refine ⟨⟨?_, (f2 b hb).2⟩, by rw [z3]; exact Nat.lt_succ_of_lt (fpl b hb)⟩
    rw [upd_ne (Nat.ne_of_lt (fpl b hb))]
    exact (f2 b hb).1
  generalize hs3 : ({ s2 with heap := h3, toks := s2.toks } : Shared) = s3 at I3
  have es3 : s3.heap = h3 := by rw [← hs3]
  have hs3' : ({ s2 with heap := h3 } : Shared) = s3 := hs3
  have I4 := inv_block (s3 := s3) (s4 := { s3 with heap := h4, toks := s3.toks + ([] : List (Str × Value)).length }) hc S c1 c2 I3 (by rw [es3]; exact f3) (by rw [es3]; exact k34) (m := fun x => ([] : List (Str × Value)).reverse.lookup x) (by rw [es3]; exact ns4) rfl rfl
  rw [es3] at I4
  have stat : ∀ {H' : Hp} {s' : Shared} {σ' : St} {pl : List (Addr × Obj)}, Inv (cxC X scope N cl h3.objs.size s3 (upd H2 s2.heap.objs.size (.lst [])) fp) pl σ' H' s' → (∀ p ∈ pl, p.1 ∉ fp) → (∀ b ∈ fp, H' b = none) → ∀ b ∈ fp, FpOk (cxC X scope N cl h3.objs.size s3 (upd H2 s2.heap.objs.size (.lst [])) fp) pl H' b := fun {H' s' σ' pl} I' hpl hn b hb => by
    refine ⟨hn b hb, Nat.ne_of_lt (f3 b hb).2, I'.ok.exfs b hb, .inl hb, fun x c e => (f2 b hb).2.2.2.2.1 x c (c1 x c e), fun p hp => ?_⟩
    intro z
    exact hpl p (by simpa [cxC] using hp) (z ▸ hb)
  have loop : ∀ s4 : Shared, s4 = { s3 with heap := h4, toks := s3.toks + ([] : List (Str × Value)).length } →
      codeAny (model X.prog X.w) X.A (.compLoop (.ListComp elt [⟨tg, iter, ifs, 0⟩] scope pos) 0 (.ref it) (.ref s2.heap.objs.size) (compEnvC scope cl h3.objs.size X.env)) (POST (.ref s2.heap.objs.size) h3.objs.size) s4 := by
    rintro s4 rfl
    refine comp_loop (fun n s' => ∃ i acc σ' H', Inv (cxC X scope N cl h3.objs.size s3 (upd H2 s2.heap.objs.size (.lst [])) fp) [] σ' H' s' ∧ tn i s'.heap ∧ (∀ b ∈ fp, H' b = none) ∧ H' s2.heap.objs.size = some (.lst acc) ∧ W i n acc σ' H') ?_ m0
      ⟨0, [], _, _, I4, T.keep _ _ _ t2 fun b hb o e => k34 b o (k23 b o e), fun b hb => (f3 b hb).1.1, upd_same, w0⟩
    rintro n s5 ⟨i, acc, σ5, H5, I5, t5, fr5, d5, w5⟩ E'
    rcases turn i n acc σ5 H5 w5 d5 with ⟨stop, qn⟩ | ⟨go, NN, hNN, step⟩
    · refine thn (T.done (cxC X scope N cl h3.objs.size s3 (upd H2 s2.heap.objs.size (.lst [])) fp) rfl rfl rfl hc i [] s5 σ5 H5 E' I5 (stat I5 (by simp) fr5) t5 stop) fun r s6 ⟨hr, I6⟩ => ?_
      subst hr
      obtain ⟨m6, n6, _⟩ := id I6.loc
      have J6 : Inv X pins σ H5 s6 := I3.call' (ch := fp) I6.os I6.base I6.hok I6.bare fun b hb => ⟨(f2 b hb).2.2.2.1, (f2 b hb).2.1, (f2 b hb).2.2.2.2.1, (f2 b hb).2.2.2.2.2⟩
      exact fin _ _ s6 H5 m6 J6 (I2.fpOk (by rw [z3]; exact Nat.le_succ _) I6.free) n6 qn
    · refine thn (T.item (cxC X scope N cl h3.objs.size s3 (upd H2 s2.heap.objs.size (.lst [])) fp) rfl rfl rfl hc i [] s5 σ5 H5 E' I5 (stat I5 (by simp) fr5) t5 go) fun r s6 ⟨u, hr, h6⟩ => ?_
      subst hr
      refine thn h6 fun _ s7 ⟨x, H7, I7, r7, y7, t7, fr7⟩ => ?_
      have I7' := I7.pinned (stat I7 (by simp) fr7) (T.obj _ _ t7)
      have backTn : ∀ {s' : Shared} {H' : Hp} {σ' : St}, Inv (cxC X scope N cl h3.objs.size s3 (upd H2 s2.heap.objs.size (.lst [])) fp) ([] ++ pinsAt fp s7.heap) σ' H' s' → tn (i + 1) s'.heap ∧ ∀ b ∈ fp, H' b = none := fun {s' H' σ'} I' => by
        refine ⟨T.keep _ _ _ t7 fun b hb o e => (I'.pin (b, o) (List.mem_append_right _ (List.mem_append_right _ (mem_pinsAt hb e)))).1, fun b hb => ?_⟩
        obtain ⟨o, e, _⟩ := T.obj _ _ t7 b hb
        exact (I'.pin (b, o) (List.mem_append_right _ (List.mem_append_right _ (mem_pinsAt hb e)))).2.1
      refine nx (hg _ _ _ _ _ s7 σ5 H7 x u _ I7' r7 (step x H7 y7)) fun _ s8 ⟨σ8, H8, I8, q8⟩ => ?_
      refine nx (ht _ _ _ _ _ s8 σ8 H8 _ I8 q8) fun ok s9 ⟨H9, I9, q9⟩ => ?_
      cases ok with
      | false =>
        obtain ⟨d9, n9⟩ := q9
        obtain ⟨m', hm, w9⟩ := hNN _ _ _ n9
        obtain ⟨a1, a2⟩ := backTn I9
        exact ⟨m', hm, i + 1, acc, σ8, H9, I9.unpinned, a1, a2, d9, w9⟩
      | true =>
        rw [if_pos rfl]
        refine nx (he _ _ _ _ _ s9 σ8 H9 _ I9 q9) fun y s10 ⟨v, H10, I10, r10, d10, l10, n10⟩ => ?_
        obtain ⟨m', hm, w10⟩ := hNN _ _ _ n10
        refine nx (mt_append _ s10 σ8 H10 (.ref s2.heap.objs.size) [v] (.ref s2.heap.objs.size) [y] (fun _ H' => H' = upd H10 s2.heap.objs.size (.lst (acc ++ [v]))) I10 rfl (.cons r10 .nil) ⟨_, acc, v, rfl, rfl, d10, l10, rfl⟩) fun _ s11 ⟨_, H11, I11, _, e11⟩ => ?_
        subst e11
        obtain ⟨a1, a2⟩ := backTn I11
        exact ⟨m', hm, i + 1, _, σ8, _, I11.unpinned, a1, a2, upd_same, w10⟩
  exact codeAny_compStart_list (loop _ (by rw [← hs3])) (T.self _ 0 _ _ _ (T.keep _ _ _ t2 fun b hb o e => k34 b o (k23 b o e)) (loop _ (by rw [← hs3])))
theorem pe_comp (osc : Scope) (NX own : List Str) (fr : List Nat) (N : List Str) {wi : TI} {g : TG} {tc : TT} {te : TE} (hc : X.calm = true)
    (hi : PI X tg iter wi) (hg : ∀ cl C s₀ H₀ ex, PG (cxC X scope N cl C s₀ H₀ ex) tg g) (ht : ∀ cl C s₀ H₀ ex, PTs (cxC X scope N cl C s₀ H₀ ex) ifs tc) (he : ∀ cl C s₀ H₀ ex, PE (cxC X scope N cl C s₀ H₀ ex) elt te)
    (hs : ∀ x, foldedSetIterable iter X.env x = pure x := by intro _; rfl) (hosc : X.env.scope = osc := by rfl) (hNX : X.N = NX := by rfl) (hS : compOk osc scope NX own fr N = true := by decide +kernel) :
    PE X (.ListComp elt [⟨tg, iter, ifs, 0⟩] scope pos) (tComp own.length fr wi g tc te) := by
  intro pins s σ H Q I h
  have S : CompSc X.env.scope scope X.N own fr N := by rw [hosc, hNX]; exact CompSc.of hS
  obtain ⟨cl, ecl, c1, c2⟩ := clos_ok (scope := scope) (env := X.env) fun y hy hf => I.ok.has y.1 (S.free y hy hf)
  rw [eval_ListComp]
  refine wpAny_comprehension_free (use := none) rfl hs ecl S.kind S.loc (thn (hi pins s σ H _ I h) fun v s1 h1 => thn h1 fun itv s2 h2 => ?_)
  obtain ⟨it, fp, tn, J, H2, e, I2, T, t2, f2, q⟩ := h2
  subst e
  refine comp_block (POST := fun acc C => compPost (model X.prog X.w) X.A X.xe none (EP X pins σ Q) acc C) hc S c1 c2 (hg cl) (ht cl) (he cl) I2 T t2 f2 q fun D C s' H' m I' fC ns q' => ?_
  refine ⟨m, ns, fun h' sb => ⟨.ref D, H', ?_, rfl, q'⟩⟩
  obtain ⟨g0, g1, _, g3, g4, g5⟩ := fC
  exact I'.turned (t' := s'.toks) (fun b o hb e => (sb.2 b hb).trans e) g0 g1 g3 g4 g5
end
end L2
namespace L2
open PySem PySem.Spec PyProof.Rows
noncomputable def sgV (x : Str) (i : Nat) : Option V := (x.cps[i]?).map fun c => V.str ⟨#[c]⟩
noncomputable def Its (x : Str) : It := ⟨fun i _ => i < x.cps.size, fun i H v H' => H' = H ∧ sgV x i = some v, fun i _ => x.cps.size ≤ i⟩
theorem turn_signs {P : Program} {w : World} {K : PySem.W.Frag} {tg : Expr} (T : String) (it : Addr) (x : Str) (t : Tok)
    (hn : ["enumerate", "zip", "dict_itemiterator", "dict_reverseitemiterator", "odict_iterator", "itertools.zip_longest", "itertools.pairwise"].contains T = false)
    (W : ∀ A : Around, A.handled = none → Walks P w A it [it] [it] x.cps.size (SignAt x) (fun i h => h.IsStrIter it T x t i))
    (hs : ∀ (A : Around) (i : Nat) (s : Shared) (Q : Value → Shared → Prop) (E : Value → Shared → Prop), s.heap.IsStrIter it T x t i → Q (.ref it) s → wpAny (model P w) A (pyIter (.ref it)) Q E s) :
    Turn P w K tg (Its x) [it] it (fun i h => h.IsStrIter it T x t i ∧ i ≤ x.cps.size) where
  mem := by simp
  obj := fun i h st b hb => by
    have e : b = it := by simpa using hb
    subst e
    obtain ⟨o, e, c, d⟩ := st.1
    exact ⟨o, e, fun v z => by rw [d] at z; cases z⟩
  keep := fun i h h' st k => ⟨by
    obtain ⟨o, e, c⟩ := st.1
    exact ⟨o, k it (by simp) o e, c⟩, st.2⟩
  item := by
    intro X hP hw hK hc i pins s σ H E I hf st hg
    subst hP hw hK
    obtain ⟨f0, f1, f2, f3, f4, f5⟩ := hf it (by simp)
    refine (W X.A (I.ok.hd hc)).item i s _ _ hg st.1 fun v h' tk hv st' kk => ?_
    obtain ⟨c, u, hcp, rfl⟩ := hv
    have I1 : Inv X pins σ H { s with heap := h', toks := tk } := I.turned (fun b o hb e => kk b o (by simpa using hb) e) f0 f1 f3 f4 f5
    obtain ⟨o, e, cc, d⟩ := id st'
    refine ⟨_, rfl, go_of (s := { s with heap := h', toks := tk }) e cc d hn ⟨.str ⟨#[c]⟩, H, I1, ⟨u, rfl⟩, ⟨rfl, ?_⟩, ⟨st', ?_⟩, fun b hb => (hf b hb).1⟩⟩
    · unfold sgV; rw [hcp]; rfl
    · exact hg
  done := by
    intro X hP hw hK hc i pins s σ H E I hf st hg
    subst hP hw hK
    obtain ⟨f0, f1, f2, f3, f4, f5⟩ := hf it (by simp)
    have e : i = x.cps.size := Nat.le_antisymm st.2 hg
    subst e
    exact (W X.A (I.ok.hd hc)).done s _ _ st.1 fun h' tk kk => ⟨rfl, I.turned (fun b o hb e => kk b o (by simpa using hb) e) f0 f1 f3 f4 f5⟩
  self := fun A i s Q E st h => hs A i s Q E st.1 h
noncomputable def iStr (tl : TE) : TI := fun σ H R => tl σ H fun x H1 => ∃ z, x = .str z ∧ R (Its z) H1
theorem pi_str {X : Cx} {tg l : Expr} {tl : TE} (hl : PE X l tl) : PI X tg l (iStr tl) := by
  intro pins s σ H R I h
  refine thn (hl pins s σ H _ I h) fun v s1 ⟨x, H1, I1, r1, q1⟩ => ?_
  obtain ⟨z, e, q⟩ := q1
  subst e
  obtain ⟨t, rfl⟩ := r1
  have fin : ∀ (T : String), ["enumerate", "zip", "dict_itemiterator", "dict_reverseitemiterator", "odict_iterator", "itertools.zip_longest", "itertools.pairwise"].contains T = false →
      (∀ A : Around, A.handled = none → Walks X.prog X.w A s1.heap.objs.size [s1.heap.objs.size] [s1.heap.objs.size] z.cps.size (SignAt z) (fun i h => h.IsStrIter s1.heap.objs.size T z t i)) →
      (∀ (A : Around) (i : Nat) (s : Shared) (Q : Value → Shared → Prop) (E : Value → Shared → Prop), s.heap.IsStrIter s1.heap.objs.size T z t i → Q (.ref s1.heap.objs.size) s → wpAny (model X.prog X.w) A (pyIter (.ref s1.heap.objs.size)) Q E s) →
      PIE X pins σ tg R (.ref s1.heap.objs.size) { s1 with heap := s1.heap.push { cls := .type T, data := .fields #[.str z t, .int 0 0] } } := fun T hn W hs => by
    refine ⟨_, [s1.heap.objs.size], _, _, H1, rfl, I1.kept (t' := s1.toks) fun b o e => Heap.get?_push_of_some _ e, turn_signs T _ z t hn W hs, ⟨⟨_, Heap.get?_push_size _ rfl, rfl, rfl⟩, Nat.zero_le _⟩, fun b hb => ?_, q⟩
    have e : b = s1.heap.objs.size := by simpa using hb
    subst e
    exact I1.fpOk (Nat.le_refl _) (I1.hok.fresh (Nat.le_refl _))
  cases ha : z.cps.all (· < 128)
  · exact wpAny_pyIter_wide ha (fin "str_iterator" (by decide) (fun A hA => Walks.strWide hA _ z t) fun A i s Q E st h => wpAny_pyIter_striter_wide st h)
  · exact wpAny_pyIter_ascii ha (fin "str_ascii_iterator" (by decide) (fun A hA => Walks.strAscii hA _ z t) fun A i s Q E st h => wpAny_pyIter_striter_ascii st h)
noncomputable def Ite (K : PySem.W.Frag) (a : Addr) : It :=
  ⟨fun i H => ∃ xs x, SqL K H a xs ∧ xs[i]? = some x, fun i H v H' => ∃ p x, H p = none ∧ v = .ref p ∧ (∀ xs, SqL K H a xs → xs[i]? = some x) ∧ H' = upd H p (.tup [.int i, x]), fun i H => ∃ xs, SqL K H a xs ∧ xs.length ≤ i⟩
theorem turn_enum {P : Program} {w : World} {K : PySem.W.Frag} {elts : List Expr} {k : Nat} {tp : Pos} (a e it : Addr) (hne : e ≠ it) :
    Turn P w K (.Tuple elts k tp) (Ite K a) [e, it] e (fun i h => (∃ old, IsEnum h e it i old) ∧ h.IsListIter it a i) where
  mem := by simp
  obj := fun i h st b hb => by
    obtain ⟨⟨old, he⟩, hit⟩ := st
    have hb : b = e ∨ b = it := by simpa using hb
    rcases hb with z | z
    · subst z
      exact ⟨_, he, fun v z => by cases z⟩
    · subst z
      obtain ⟨o, e1, c, d⟩ := hit
      exact ⟨o, e1, fun v z => by rw [d] at z; cases z⟩
  keep := fun i h h' st kk => by
    obtain ⟨⟨old, he⟩, hit⟩ := st
    exact ⟨⟨old, kk e (by simp) _ he⟩, hit.at fun o q => kk it (by simp) o q⟩
  item := by
    intro X hP hw hK hc i pins s σ H E I hf st hg
    subst hP hw hK
    obtain ⟨⟨old, he⟩, hit⟩ := st
    obtain ⟨xs, x, hq, hx⟩ := hg
    obtain ⟨its, rv, p, hz⟩ := I.list hq
    obtain ⟨u, hu, ru⟩ := rv.get hx
    obtain ⟨f0, f1, f2, f3, f4, f5⟩ := hf e (by simp)
    obtain ⟨g0, g1, g2, g3, g4, g5⟩ := hf it (by simp)
    refine wpAny_pyNext_enum_item he hit p.isList (x := u) (by simpa using hu) hne fun h1 ho hit1 ht1 hz1 k1 => ?_
    have hel : e < s.heap.objs.size := Heap.lt_size he
    have hil : it < s.heap.objs.size := by obtain ⟨o, q, _⟩ := hit; exact Heap.lt_size q
    refine ⟨_, rfl, wpAny_letOwnedTupleGo_enum ho fun h2 he2 sb2 => ?_⟩
    have sb2 : Heap.SameBut e h1 h2 := sb2
    have T2 : h2.get? s.heap.objs.size = some { cls := .type "tuple", data := .seq #[.int i s.toks, u] } := (sb2.2 _ (Nat.ne_of_gt hel)).trans ht1
    have hp : H s.heap.objs.size = none := I.hok.fresh (Nat.le_refl _)
    have nit : ∀ b v, H b = some v → b ≠ e ∧ b ≠ it := fun b v q => ⟨fun z => (by rw [z, f0] at q; cases q), fun z => (by rw [z, g0] at q; cases q)⟩
    have kk : ∀ b o, b ≠ e → b ≠ it → s.heap.get? b = some o → h2.get? b = some o := fun b o n1 n2 q => (sb2.2 b n1).trans (k1 b o n1 n2 q)
    have up : ∀ b v, H b = some v → upd H s.heap.objs.size (.tup [.int i, x]) b = some v := fun b v q => by rw [upd_ne (ne_of_none q hp)]; exact q
    have I1 : Inv X pins σ (upd H s.heap.objs.size (.tup [.int i, x])) { s with heap := h2, gens := s.gens, drawn := s.drawn, toks := s.toks + 1 } := by
      refine I.step (g' := s.gens) (d' := s.drawn) (ch := [e, it]) (fun b hb => ?_) (fun b o _ _ hb q _ => kk b o (fun z => hb (by simp [z])) (fun z => hb (by simp [z])) q) (fun b o _ _ hb q _ => ⟨o.slots, kk b o (fun z => hb (by simp [z])) (fun z => hb (by simp [z])) q⟩) (fun b o _ q n => ?_)
        (fun b o hb q => ⟨o, kk b o (fun z => hb (by simp [z])) (fun z => hb (by simp [z])) q⟩) (fun b ys q => up b _ q) (fun b o v q => up b _ q) (fun b ps q => ⟨#[], by rw [up b _ q]; simp⟩) (fun m hm => ?_) (fun b v q => ?_) I.bare
      · have hb : b = e ∨ b = it := by simpa using hb
        rcases hb with z | z
        · subst z; exact ⟨f3, f1, f4, f5⟩
        · subst z; exact ⟨g3, g1, g4, g5⟩
      · rw [upd_ne (Nat.ne_of_lt (Heap.lt_size q))]; exact n
      · obtain ⟨o, es, ep, ho, r⟩ := hm
        exact ⟨o, es, ep, kk _ o (Ne.symm f1) (Ne.symm g1) ho, r⟩
      · by_cases hb : b = s.heap.objs.size
        · subst hb
          rw [upd_same] at q
          have q' : HO.tup [V.int i, x] = v := Option.some.inj q
          subst q'
          exact ⟨by show 2 ≤ sizeLine; decide, [.int i s.toks, u], .cons ⟨_, rfl⟩ (.cons ru .nil), ⟨_, T2, rfl, _, rfl, rfl⟩⟩
        · rw [upd_ne hb] at q
          refine (I.hok b v q).stay (fun c v' hc q' => ?_) (fun c q => up c _ q) fun c ys q => up c _ q
          rcases hc with z | z
          · rw [z] at q' ⊢; exact kk b v' (nit b v q).1 (nit b v q).2 q'
          · exact kk c v' (nit c _ z).1 (nit c _ z).2 q'
    refine ⟨.ref s.heap.objs.size, upd H s.heap.objs.size (.tup [.int i, x]), I1, rfl, ⟨_, x, hp, rfl, fun ys hy => by rw [I.list_inj hy hq]; exact hx, rfl⟩, ⟨⟨u, ?_⟩, ?_⟩, fun b hb => ?_⟩
    · exact (by simpa using he2)
    · exact hit1.at fun o q => (sb2.2 it (Ne.symm hne)).trans q
    · have hb : b = e ∨ b = it := by simpa using hb
      rcases hb with z | z
      · rw [z, upd_ne (Nat.ne_of_lt hel)]; exact f0
      · rw [z, upd_ne (Nat.ne_of_lt hil)]; exact g0
  done := by
    intro X hP hw hK hc i pins s σ H E I hf st hg
    subst hP hw hK
    obtain ⟨⟨old, he⟩, hit⟩ := st
    obtain ⟨xs, hq, hx⟩ := hg
    obtain ⟨its, rv, p, hz⟩ := I.list hq
    obtain ⟨g0, g1, g2, g3, g4, g5⟩ := hf it (by simp)
    have hl := rv.length
    exact wpAny_pyNext_enum_end (I.ok.hd hc) he hit p.isList (by simp; omega) fun h' eb => ⟨rfl, I.turned (t' := s.toks) (fun b o hb q => eb b o hb q) g0 g1 g3 g4 g5⟩
  self := fun _ _ _ _ _ st h => by
    obtain ⟨⟨old, he⟩, _⟩ := st
    exact wpAny_pyIter_enum he h
end L2
namespace L2
open PySem PySem.Spec PyProof.Rows
mutual
inductive Rep (H : Hp) : V → PyData → Prop
  | non : Rep H .non .none
  | bl (b : Bool) : Rep H (.bl b) (.bool b)
  | int (i : Int) : Rep H (.int i) (.int i)
  | str (x : Str) : Rep H (.str x) (.str x)
  | lst {a : Addr} {xs : List V} {ds : List PyData} : H a = some (.lst xs) → RepAll H xs ds → Rep H (.ref a) (.list ds)
  | tup {a : Addr} {xs : List V} {ds : List PyData} : H a = some (.tup xs) → RepAll H xs ds → Rep H (.ref a) (.tuple ds)
inductive RepAll (H : Hp) : List V → List PyData → Prop
  | nil : RepAll H [] []
  | cons {x : V} {xs : List V} {d : PyData} {ds : List PyData} : Rep H x d → RepAll H xs ds → RepAll H (x :: xs) (d :: ds)
end
mutual
theorem Rep.reads {P : Program} {w : World} {H : Hp} {h : Heap} (ok : HOk P w H h) : ∀ {v : V} {d : PyData} {u : Value}, Rep H v d → RelV v u → ∃ as, Reads h u d as
  | _, _, _, .non, r => by cases r; exact ⟨_, .none⟩
  | _, _, _, .bl b, r => by cases r; exact ⟨_, .bool b⟩
  | _, _, _, .int i, r => by obtain ⟨t, rfl⟩ := r; exact ⟨_, .int i t⟩
  | _, _, _, .str x, r => by obtain ⟨t, rfl⟩ := r; exact ⟨_, .str x t⟩
  | _, _, _, .lst (a := a) (xs := xs) e rs, r => by
    cases r
    obtain ⟨_, its, n, rv, eh⟩ := (show ObjOk P w H h a (.lst xs) from ok a _ e)
    obtain ⟨as, z⟩ := RepAll.reads ok rs rv
    exact ⟨_, .list eh rfl rfl (by simpa using z)⟩
  | _, _, _, .tup (a := a) (xs := xs) e rs, r => by
    cases r
    obtain ⟨_, its, rv, o, eh, hc, n, hd, _⟩ := (show ObjOk P w H h a (.tup xs) from ok a _ e)
    obtain ⟨as, z⟩ := RepAll.reads ok rs rv
    exact ⟨_, .tuple eh hc hd (by simpa using z)⟩
theorem RepAll.reads {P : Program} {w : World} {H : Hp} {h : Heap} (ok : HOk P w H h) : ∀ {vs : List V} {ds : List PyData} {us : List Value}, RepAll H vs ds → Vals vs us → ∃ as, ReadsAll h us ds as
  | _, _, _, .nil, r => by cases r; exact ⟨_, .nil⟩
  | _, _, _, .cons q qs, r => by
    cases r with
    | cons r1 r2 =>
      obtain ⟨as, z⟩ := Rep.reads ok q r1
      obtain ⟨bs, zs⟩ := RepAll.reads ok qs r2
      exact ⟨_, .cons z zs⟩
end
mutual
theorem Rep.same {H H' : Hp} (s : Same H H') : ∀ {v : V} {d : PyData}, Rep H v d → Rep H' v d
  | _, _, .non => .non
  | _, _, .bl b => .bl b
  | _, _, .int i => .int i
  | _, _, .str x => .str x
  | _, _, .lst e rs => .lst (s _ _ e) (rs.same s)
  | _, _, .tup e rs => .tup (s _ _ e) (rs.same s)
theorem RepAll.same {H H' : Hp} (s : Same H H') : ∀ {vs : List V} {ds : List PyData}, RepAll H vs ds → RepAll H' vs ds
  | _, _, .nil => .nil
  | _, _, .cons q qs => .cons (q.same s) (qs.same s)
end
section
variable {X : Cx}
noncomputable def shp (d : PyData) : Prop := SeqAt.shaped d = true
noncomputable def rEqD : R2 := fun x y H Q => ∃ da db, Rep H x da ∧ Rep H y db ∧ shp da ∧ shp db ∧ Q (.bl (PyData.eqv da db)) H
noncomputable def rNeD : R2 := fun x y H Q => ∃ da db, Rep H x da ∧ Rep H y db ∧ shp da ∧ shp db ∧ Q (.bl (!PyData.eqv da db)) H
theorem op_eqD (hu : X.A.units + 64 < cLine) : OpR X (compareOp .Eq) rEqD := by
  intro pins s σ H x y v u Q I rx ry h
  obtain ⟨da, db, ra, rb, sa, sb, q⟩ := h
  obtain ⟨as, za⟩ := ra.reads I.hok rx
  obtain ⟨bs, zb⟩ := rb.reads I.hok ry
  exact eq_dataH za zb sa sb hu ⟨.bl _, H, I, rfl, q⟩
theorem op_neD (hu : X.A.units + 64 < cLine) : OpR X (compareOp .NotEq) rNeD := by
  intro pins s σ H x y v u Q I rx ry h
  obtain ⟨da, db, ra, rb, sa, sb, q⟩ := h
  obtain ⟨as, za⟩ := ra.reads I.hok rx
  obtain ⟨bs, zb⟩ := rb.reads I.hok ry
  exact ne_dataH za zb sa sb hu ⟨.bl _, H, I, rfl, q⟩
theorem op_le_str : OpR X (compareOp .LtE) (fun x y H Q => ∃ i j, x = .str i ∧ y = .str j ∧ Q (.bl (!decide (j.cps.toList < i.cps.toList))) H) := by
  intro pins s σ H x y v u Q I rx ry h
  obtain ⟨i, j, rfl, rfl, q⟩ := h
  obtain ⟨t, rfl⟩ := rx
  obtain ⟨t', rfl⟩ := ry
  exact PySem.P.le_str (fin_bl I q (by simp))
theorem all_range (bs : List Bool) : ((List.range bs.length).all fun i => bs.getD i false) = bs.all id := by
  rw [Bool.eq_iff_iff, List.all_eq_true, List.all_eq_true]
  constructor
  · intro h b hb
    obtain ⟨i, hi, rfl⟩ := List.mem_iff_getElem.mp hb
    have := h i (by simpa using hi)
    simpa [List.getD_eq_getElem?_getD, hi] using this
  · intro h i hi
    have hi : i < bs.length := by simpa using hi
    have := h bs[i] (List.getElem_mem hi)
    simpa [List.getD_eq_getElem?_getD, hi] using this
theorem vals_bl {bs : List Bool} {its : List Value} (r : Vals (bs.map V.bl) its) {i : Nat} {v : Value} (e : its[i]? = some v) : v = .bool (bs.getD i false) := by
  have hl := r.length
  rw [List.length_map] at hl
  have hi : i < bs.length := by rw [hl]; exact (List.getElem?_eq_some_iff.mp e).1
  obtain ⟨u, hu, ru⟩ := r.get (i := i) (x := V.bl (bs.getD i false)) (by rw [List.getElem?_map]; simp [List.getD_eq_getElem?_getD, hi])
  rw [e] at hu
  cases hu
  exact ru
theorem call_all_bl (hc : X.calm = true) : CallR X (.builtin "all") (fun xs H Q => ∃ p bs, xs = [.ref p] ∧ H p = some (.lst (List.map V.bl bs)) ∧ Q (.bl (bs.all id)) H) := by
  intro pins s σ H xs us Q I r h
  obtain ⟨p, bs, rfl, e, q⟩ := h
  obtain ⟨u, rfl, ru⟩ := vals1 r
  cases ru
  obtain ⟨hz, its, n, rv, eh⟩ := (show ObjOk X.prog X.w H s.heap p (.lst (List.map V.bl bs)) from I.hok p _ e)
  have hl : s.heap.IsList p its.toArray := ⟨_, eh, rfl, n, rfl⟩
  have hlen : its.length = bs.length := by have := rv.length; rw [List.length_map] at this; exact this.symm
  have hpl : p < s.heap.objs.size := Heap.lt_size eh
  refine call_all_walk (wpAny_pyIter_list hl ?_)
  refine ⟨s.heap.objs.size, [s.heap.objs.size, p], [s.heap.objs.size], its.toArray.size, _, _, fun i => bs.getD i false, rfl,
    Walks.list (A := X.A.in1) (I.ok.hd hc) _ p (Nat.ne_of_lt hpl) its.toArray, ⟨⟨_, Heap.get?_push_size _ rfl, rfl, rfl⟩, ⟨_, Heap.get?_push_of_some _ eh, rfl, n, rfl⟩⟩, ?_, fun h' tk hk => ?_⟩
  · intro i v s' Q' E' hv hQ'
    have hv : its[i]? = some v := by simpa using hv
    rw [vals_bl rv hv]
    exact wpAny_pure hQ'
  · refine ⟨.bl _, H, I.kept fun b o eb => hk b o (by simpa using Nat.ne_of_lt (Heap.lt_size eb)) (Heap.get?_push_of_some _ eb), rfl, ?_⟩
    rw [List.size_toArray, hlen, all_range]
    exact q
theorem strs_of : ∀ {ys : List Str} {us : List Value}, Vals (ys.map V.str) us → StrsAre us ys
  | [], us, r => by cases r; exact .nil
  | y :: ys, us, r => by
    cases r with
    | cons r1 r2 =>
      obtain ⟨t, rfl⟩ := r1
      exact .cons y t (strs_of r2)
noncomputable def rJoin : V → List V → Hp → VK → Prop := fun x xs H Q => ∃ z p ys, x = .str z ∧ xs = [.ref p] ∧ H p = some (.lst (List.map V.str ys)) ∧ (ys.map (·.length)).sum + ys.length * z.length ≤ 16777216 ∧ Q (.str (Txt.join z ys)) H
theorem mt_join : MtR X "str.join" rJoin := by
  intro pins s σ H x xs v us Q I rx rv h
  obtain ⟨z, p, ys, rfl, rfl, e, hz, q⟩ := h
  obtain ⟨t, rfl⟩ := rx
  obtain ⟨u, rfl, ru⟩ := vals1 rv
  cases ru
  obtain ⟨_, its, n, rv, eh⟩ := (show ObjOk X.prog X.w H s.heap p (.lst (List.map V.str ys)) from I.hok p _ e)
  exact join_list (D := p) (items := its.toArray) ⟨_, eh, rfl, n, rfl⟩ (by simpa using strs_of rv) hz fun t' k => ⟨.str _, H, I.tok k, ⟨t', rfl⟩, q⟩
noncomputable def rSlS : V → Option Int → Option Int → Hp → VK → Prop := fun x lo hi H Q => ∃ z, x = .str z ∧ z.length ≤ sizeLine ∧ Q (.str (Txt.slice z lo hi)) H
theorem sl_str : SlR X rSlS := by
  intro pins s σ H x v vl vu lo hi sl Q I rx hs pl pu h
  obtain ⟨z, rfl, hz, q⟩ := h
  obtain ⟨t, rfl⟩ := rx
  refine ⟨"str", _, PySem.F.slot_str_getitem.lookup, typeIs_str _ _ _, ?_⟩
  obtain ⟨o, h1, h2, h3⟩ := hs
  have fin : ∀ t' k, EP X pins σ Q (.str (Txt.slice z lo hi) t') { s with toks := k } := fun t' k => ⟨.str _, H, I.tok k, ⟨t', rfl⟩, q⟩
  cases pl with
  | none => cases pu with
    | none => exact wpAny_getItem_str_slice (l := none) (u := none) (st := none) ⟨o, h1, h2, h3⟩ rfl (post_val_or_str ⟨Nat.le_trans (Txt.slice_le z _ _) hz, fin⟩)
    | int j tj => exact wpAny_getItem_str_slice (l := none) (u := some (j, tj)) (st := none) ⟨o, h1, h2, h3⟩ rfl (post_val_or_str ⟨Nat.le_trans (Txt.slice_le z _ _) hz, fin⟩)
  | int i ti => cases pu with
    | none => exact wpAny_getItem_str_slice (l := some (i, ti)) (u := none) (st := none) ⟨o, h1, h2, h3⟩ rfl (post_val_or_str ⟨Nat.le_trans (Txt.slice_le z _ _) hz, fin⟩)
    | int j tj => exact wpAny_getItem_str_slice (l := some (i, ti)) (u := some (j, tj)) (st := none) ⟨o, h1, h2, h3⟩ rfl (post_val_or_str ⟨Nat.le_trans (Txt.slice_le z _ _) hz, fin⟩)
noncomputable def rIsi (K : PySem.W.Frag) (c : String) : List V → Hp → VK → Prop := fun xs H Q => ∃ x t b, xs = [x, .ty c] ∧ TyOf K H x t ∧ PySem.W.kitOne K t (.type c) = some b ∧ Q (.bl b) H
theorem call_isi (c : String) : CallR X (.builtin "isinstance") (rIsi X.K c) := by
  intro pins s σ H xs us Q I r h
  obtain ⟨x, t, b, rfl, ty, e, q⟩ := h
  obtain ⟨u, w', rfl, ru, rw'⟩ := vals2 r
  cases rw'
  exact isinst_ok I ru ty e fun tk => ⟨.bl b, H, I.tok tk, rfl, q⟩
noncomputable def isFl : V → Bool
  | .non | .bl _ | .int _ | .str _ => true
  | _ => false
noncomputable def flD : V → PyData
  | .bl b => .bool b
  | .int i => .int i
  | .str x => .str x
  | _ => .none
theorem fl_reads {h : Heap} {v : V} {u : Value} (f : isFl v = true) (r : RelV v u) : Reads h u (flD v) [] := by
  cases v with
  | non => cases r; exact .none
  | bl b => cases r; exact .bool b
  | int i => obtain ⟨t, rfl⟩ := r; exact .int i t
  | str x => obtain ⟨t, rfl⟩ := r; exact .str x t
  | _ => cases f
theorem fl_pairs {P : Program} {w : World} {h : Heap} : ∀ {kvs : List (Key × V)} {vs : List (Key × Value)} {es : List DictEntry}, KV kvs vs → Pairs (mixKind P w) es vs → kvs.all (fun p => isFl p.2) = true →
    ReadsAll h (es.map (·.key)) ((kvs.map fun p => (flD (kV p.1), flD p.2)).map (·.1)) [] ∧ ReadsAll h (es.map (·.val)) ((kvs.map fun p => (flD (kV p.1), flD p.2)).map (·.2)) []
  | [], _, _, r, q, _ => by
    cases r
    cases q
    exact ⟨.nil, .nil⟩
  | p :: kvs, vs, es, r, q, f => by
    cases r with
    | @cons _ b _ vs' r1 r2 =>
      cases q with
      | cons qk qv q2 =>
        rw [List.all_cons, Bool.and_eq_true] at f
        obtain ⟨a1, a2⟩ := fl_pairs r2 q2 f.2
        rename_i en es'
        have k1 : Reads h en.key (flD (kV p.1)) [] := by
          have hk := qk
          rw [← r1.1] at hk
          rcases keyIs_shape hk with ⟨i, t, e1, e2⟩ | ⟨x, t, e1, e2⟩
          · rw [e1, e2]; exact .int i t
          · rw [e1, e2]; exact .str x t
        have v1 : Reads h en.val (flD p.2) [] := by
          rw [qv]
          exact fl_reads f.1 r1.2
        exact ⟨.cons k1 a1, .cons v1 a2⟩
noncomputable def dictD (kvs : List (Key × V)) : PyData := .dict (kvs.map fun p => (flD (kV p.1), flD p.2))
theorem any_readOf {P : Program} {w : World} {H : Hp} {h : Heap} (ok : HOk P w H h) {d : PyData} : ∀ {xs : List V} {ds : List PyData} {us : List Value}, RepAll H xs ds → Vals xs us → PyData.canLayAll0 ds = true → us.any (fun u => PyData.eqv (SeqAt.readOf h u) d) = ds.any fun e => PyData.eqv e d
  | _, _, _, .nil, r, _ => by cases r; rfl
  | _, _, _, .cons q qs, r, hl => by
    cases r with
    | cons r1 r2 =>
      have hl' := Bool.and_eq_true_iff.mp (show (PyData.canLay0 _ && PyData.canLayAll0 _) = true from hl)
      obtain ⟨as, z⟩ := q.reads ok r1
      rw [List.any_cons, List.any_cons, SeqAt.readOf_eq hl'.1 z, any_readOf ok qs r2 hl'.2]
theorem mem_readOf {P : Program} {w : World} {H : Hp} {A : Around} {s : Shared} (ok : HOk P w H s.heap) {d : PyData} {x : V} {v : Value} {bs : List Addr} (zx : Reads s.heap v d bs) (hd : d.canLay0 = true) (hu : A.units + d.depth < cLine) :
    ∀ {xs : List V} {ds : List PyData} {us : List Value}, RepAll H xs ds → Vals xs us → PyData.canLayAll0 ds = true → ∀ u ∈ us, SeqAt.EqAt A s u v (PyData.eqv (SeqAt.readOf s.heap u) d)
  | _, _, _, .nil, r, _ => by cases r; intro u hu; cases hu
  | _, _, _, .cons q qs, r, hl => by
    cases r with
    | cons r1 r2 =>
      have hl' := Bool.and_eq_true_iff.mp (show (PyData.canLay0 _ && PyData.canLayAll0 _) = true from hl)
      intro u hm
      rcases List.mem_cons.mp hm with rfl | hm
      · obtain ⟨as, z⟩ := q.reads ok r1
        rw [SeqAt.readOf_eq hl'.1 z]
        exact SeqAt.eqAt_reads _ _ _ _ _ _ _ _ z zx hl'.1 hd (Nat.lt_of_le_of_lt (Nat.add_le_add_left (Nat.min_le_right _ _) _) hu)
      · exact mem_readOf (x := x) ok zx hd hu qs r2 hl'.2 u hm
noncomputable def rInD (neg : Bool) : R2 := fun x y H Q => ∃ p xs ds d, y = .ref p ∧ H p = some (.lst xs) ∧ RepAll H xs ds ∧ Rep H x d ∧ PyData.canLayAll0 ds = true ∧ d.canLay0 = true ∧ d.depth ≤ 16 ∧
  Q (.bl (if neg then !(ds.any fun e => PyData.eqv e d) else ds.any fun e => PyData.eqv e d)) H
theorem op_inD (hu : X.A.units + 64 < cLine) : OpR X (compareOp .In) (rInD false) := by
  intro pins s σ H x y v u Q I rx ry h
  obtain ⟨p, xs, ds, d, rfl, e, rs, r, cs, c, dp, q⟩ := h
  cases ry
  obtain ⟨_, its, n, rv, eh⟩ := (show ObjOk X.prog X.w H s.heap p (.lst xs) from I.hok p _ e)
  obtain ⟨bs, zx⟩ := r.reads I.hok rx
  refine SeqAt.in_listAt (fun u => PyData.eqv (SeqAt.readOf s.heap u) d) ⟨_, eh, rfl, n, rfl⟩ (fun w hw => mem_readOf (x := x) I.hok zx c (by show X.A.units + 1 + d.depth < cLine; omega) rs rv cs w (by simpa using hw)) ⟨.bl _, H, I, rfl, ?_⟩
  rw [show its.toArray.any (fun u => PyData.eqv (SeqAt.readOf s.heap u) d) = its.any (fun u => PyData.eqv (SeqAt.readOf s.heap u) d) by simp, any_readOf I.hok rs rv cs]
  exact q
theorem op_notInD (hu : X.A.units + 64 < cLine) : OpR X (compareOp .NotIn) (rInD true) := by
  intro pins s σ H x y v u Q I rx ry h
  obtain ⟨p, xs, ds, d, rfl, e, rs, r, cs, c, dp, q⟩ := h
  cases ry
  obtain ⟨_, its, n, rv, eh⟩ := (show ObjOk X.prog X.w H s.heap p (.lst xs) from I.hok p _ e)
  obtain ⟨bs, zx⟩ := r.reads I.hok rx
  refine SeqAt.notIn_listAt (fun u => PyData.eqv (SeqAt.readOf s.heap u) d) ⟨_, eh, rfl, n, rfl⟩ (fun w hw => mem_readOf (x := x) I.hok zx c (by show X.A.units + 1 + d.depth < cLine; omega) rs rv cs w (by simpa using hw)) ⟨.bl _, H, I, rfl, ?_⟩
  rw [show its.toArray.any (fun u => PyData.eqv (SeqAt.readOf s.heap u) d) = its.any (fun u => PyData.eqv (SeqAt.readOf s.heap u) d) by simp, any_readOf I.hok rs rv cs]
  exact q
end
end L2
namespace L2
open PySem PySem.Spec PyProof.Rows
structure Cal (P : Program) (w : World) (K : PySem.W.Frag) (mg : Str → Option Value) (base : Heap) (k : Nat) (x : Str) (ps : List Str) (sp : Sp) : Prop where
  ex : ∃ (f : Addr) (fd : FuncData), FnOk P w K mg base CX0 k f fd ps sp ∧ mg x = some (.ref f) ∧ PySem.W.keepIn K (.ref f) = true ∧ Binds K fd ps []
section
variable {X : Cx} {x : Str} {ps : List Str} {sp : Sp} {k j : Nat} {p pos : Pos} {e : Expr} {es : List Expr} {t : TA}
theorem pe_cal (c : Cal X.prog X.w X.K X.mg X.base k x ps sp) (hr : Room k X.A) (hg : Gl X x) (ha : PA X (e :: es) t)
    (hs : starEach (e :: es) X.env = (false, eval e X.env) :: starEach es X.env := by rfl) (hpl : (backTo pos (starEach es X.env)).any (·.1) = false := by rfl) (hdb : (x == ("__debug__" : Str)) = false := by decide) :
    PE X (.Call (.Name x p) (e :: es) [] pos) (tCall sp [] E0 t) := by
  obtain ⟨f, fd, G, mf, kp, b⟩ := c.ex
  exact pe_call G hr hg mf kp b .nil pass0 ha (hdb := hdb) (he := hs) (hpl := hpl)
end
section
variable {X : Cx}
inductive AddR (H : Hp) : V → V → VK → Prop
  | int {i j : Int} {Q : VK} : Q (.int (i + j)) H → AddR H (.int i) (.int j) Q
  | str {i j : Str} {Q : VK} : i.length + j.length ≤ sizeLine → Q (.str (i ++ j)) H → AddR H (.str i) (.str j) Q
  | lst {l b : Addr} {xs zs : List V} {Q : VK} : H l = some (.lst xs) → H b = some (.lst zs) → xs.length + zs.length ≤ sizeLine → (∀ p, H p = none → Q (.ref p) (upd H p (.lst (xs ++ zs)))) → AddR H (.ref l) (.ref b) Q
theorem op_addX : OpR X (binaryOp .Add) (fun x y H Q => AddR H x y Q) := by
  intro pins s σ H x y v u Q I rx ry h
  cases h with
  | int q => exact op_add pins s σ H _ _ v u Q I rx ry ⟨_, _, rfl, rfl, q⟩
  | str hz q => exact op_add_str pins s σ H _ _ v u Q I rx ry ⟨_, _, rfl, rfl, hz, q⟩
  | lst h1 h2 hz q => exact op_cat pins s σ H _ _ v u Q I rx ry ⟨_, _, _, _, rfl, rfl, h1, h2, hz, q⟩
inductive EqR (neg : Bool) (H : Hp) : V → V → VK → Prop
  | sc {x y : V} {Q : VK} : scal x y = true → Q (.bl (if neg then !decide (x = y) else decide (x = y))) H → EqR neg H x y Q
  | tr {x y : V} {da db : PyData} {Q : VK} : Rep H x da → Rep H y db → shp da → shp db → Q (.bl (if neg then !PyData.eqv da db else PyData.eqv da db)) H → EqR neg H x y Q
theorem op_eqX (hu : X.A.units + 64 < cLine) : OpR X (compareOp .Eq) (fun x y H Q => EqR false H x y Q) := by
  intro pins s σ H x y v u Q I rx ry h
  cases h with
  | sc h q => exact op_eq pins s σ H _ _ v u Q I rx ry ⟨h, q⟩
  | tr ra rb sa sb q => exact op_eqD hu pins s σ H _ _ v u Q I rx ry ⟨_, _, ra, rb, sa, sb, q⟩
theorem op_neX (hu : X.A.units + 64 < cLine) : OpR X (compareOp .NotEq) (fun x y H Q => EqR true H x y Q) := by
  intro pins s σ H x y v u Q I rx ry h
  cases h with
  | sc h q => exact op_ne pins s σ H _ _ v u Q I rx ry ⟨h, q⟩
  | tr ra rb sa sb q => exact op_neD hu pins s σ H _ _ v u Q I rx ry ⟨_, _, ra, rb, sa, sb, q⟩
inductive SlX (K : PySem.W.Frag) (H : Hp) : V → Option Int → Option Int → VK → Prop
  | str {z : Str} {lo hi : Option Int} {Q : VK} : z.length ≤ sizeLine → Q (.str (Txt.slice z lo hi)) H → SlX K H (.str z) lo hi Q
  | lst {a : Addr} {xs : List V} {lo hi : Option Int} {Q : VK} : SqL K H a xs → (∀ p, H p = none → Q (.ref p) (upd H p (.lst (cutV xs lo hi)))) → SlX K H (.ref a) lo hi Q
theorem sl_X : SlR X (fun x lo hi H Q => SlX X.K H x lo hi Q) := by
  intro pins s σ H x v vl vu lo hi sl Q I rx hs pl pu h
  cases h with
  | str hz q => exact sl_str pins s σ H _ v vl vu lo hi sl Q I rx hs pl pu ⟨_, rfl, hz, q⟩
  | lst h1 q => exact sl_list pins s σ H _ v vl vu lo hi sl Q I rx hs pl pu ⟨_, _, rfl, h1, q⟩
end
section
variable {X : Cx}
inductive CmR (f : Int → Int → Bool) (g : Str → Str → Bool) (H : Hp) : V → V → VK → Prop
  | int {i j : Int} {Q : VK} : Q (.bl (f i j)) H → CmR f g H (.int i) (.int j) Q
  | str {i j : Str} {Q : VK} : Q (.bl (g i j)) H → CmR f g H (.str i) (.str j) Q
theorem op_leX : OpR X (compareOp .LtE) (fun x y H Q => CmR (fun i j => decide (i ≤ j)) (fun i j => !decide (j.cps.toList < i.cps.toList)) H x y Q) := by
  intro pins s σ H x y v u Q I rx ry h
  cases h with
  | int q => exact op_le pins s σ H _ _ v u Q I rx ry ⟨_, _, rfl, rfl, q⟩
  | str q => exact op_le_str pins s σ H _ _ v u Q I rx ry ⟨_, _, rfl, rfl, q⟩
theorem op_ltX : OpR X (compareOp .Lt) (fun x y H Q => CmR (fun i j => decide (i < j)) (fun i j => decide (i.cps.toList < j.cps.toList)) H x y Q) := by
  intro pins s σ H x y v u Q I rx ry h
  cases h with
  | int q => exact op_lt pins s σ H _ _ v u Q I rx ry ⟨_, _, rfl, rfl, q⟩
  | str q => exact op_lt_str pins s σ H _ _ v u Q I rx ry ⟨_, _, rfl, rfl, q⟩
inductive IsB (neg : Bool) (H : Hp) : V → V → VK → Prop
  | int {i : Int} {b : Bool} {Q : VK} : Q (.bl neg) H → IsB neg H (.int i) (.bl b) Q
  | bl {c b : Bool} {Q : VK} : Q (.bl (if neg then !decide (c = b) else decide (c = b))) H → IsB neg H (.bl c) (.bl b) Q
  | non {x : V} {Q : VK} : Q (.bl (if neg then !decide (x = .non) else decide (x = .non))) H → IsB neg H x .non Q
theorem op_isNotX : OpR X (compareOp .IsNot) (fun x y H Q => IsB true H x y Q) := by
  intro pins s σ H x y v u Q I rx ry h
  cases h with
  | int q =>
    obtain ⟨t, rfl⟩ := rx
    cases ry
    exact wpAny_isNot_other (by rfl) (by intro z; cases z) ⟨.bl _, H, I, rfl, q⟩
  | @bl c b _ q =>
    cases rx
    cases ry
    exact wpAny_isNot_plain (by rfl) (fin_bl I q (by cases c <;> cases b <;> rfl))
  | non q => exact op_notN pins s σ H _ _ v u Q I rx ry ⟨rfl, q⟩
theorem m_join (K : PySem.W.Frag) {o e : Expr} {to : TE} {t : TA} {apos cpos : Pos} (ho : PE X o to) (ha : PA X [e] t)
    (hbase : attributeBase o "join" X.env (eval o X.env) = eval o X.env := by rfl)
    (hfew : ((backTo cpos (starEach [e] X.env)).all (fun x => !x.1) && (backToKw cpos (keywordEach [] X.env)).all (fun x => x.1.isSome)
      && decide ([e].length + ([] : List Keyword).length + (if ([] : List Keyword).isEmpty then 0 else 1) < 30)) = true := by rfl)
    (hline : (apos.endLine == cpos.line) = true := by rfl) (hs : starEach [e] X.env = (false, eval e X.env) :: starEach [] X.env := by rfl) (hplain : (backTo cpos (starEach [] X.env)).any (·.1) = false := by rfl) (hK : X.K = K := by rfl) :
    PE X (.Call (.Attribute o "join" apos) [e] [] cpos) (tBM K "str" rJoin to t) := hK ▸ pe_bm PySem.F.plainAttrs_str PySem.F.slot_str_join PySem.F.type_str_join mt_join ho ha hbase hfew hline hs hplain
theorem m_append (K : PySem.W.Frag) {o e : Expr} {to : TE} {t : TA} {apos cpos : Pos} (ho : PE X o to) (ha : PA X [e] t)
    (hbase : attributeBase o "append" X.env (eval o X.env) = eval o X.env := by rfl)
    (hfew : ((backTo cpos (starEach [e] X.env)).all (fun x => !x.1) && (backToKw cpos (keywordEach [] X.env)).all (fun x => x.1.isSome)
      && decide ([e].length + ([] : List Keyword).length + (if ([] : List Keyword).isEmpty then 0 else 1) < 30)) = true := by rfl)
    (hline : (apos.endLine == cpos.line) = true := by rfl) (hs : starEach [e] X.env = (false, eval e X.env) :: starEach [] X.env := by rfl) (hplain : (backTo cpos (starEach [] X.env)).any (·.1) = false := by rfl) (hK : X.K = K := by rfl) :
    PE X (.Call (.Attribute o "append" apos) [e] [] cpos) (tBM K "list" rAppend to t) := hK ▸ pe_bm PySem.F.plainAttrs_list PySem.F.slot_list_append PySem.F.type_list_append mt_append ho ha hbase hfew hline hs hplain
theorem sl_K (K : PySem.W.Frag) (hK : X.K = K := by rfl) : SlR X (fun x lo hi H Q => SlX K H x lo hi Q) := hK ▸ sl_X
theorem pi_listK (K : PySem.W.Frag) {tg l : Expr} {tl : TE} (hl : PE X l tl) (hK : X.K = K := by rfl) : PI X tg l (iList K tl) := hK ▸ pi_list hl
theorem pi_tupK (K : PySem.W.Frag) {tg l : Expr} {tl : TE} (hl : PE X l tl) (hK : X.K = K := by rfl) : PI X tg l (iTup K tl) := hK ▸ pi_tup hl
end
theorem gYes {i : Nat} {v : V} {σ : St} {H : Hp} {A B : St → Hp → Prop} (h : A (σ.set i (some v)) H) : gName i v σ H fun σ2 H3 => tYes σ2 H3 fun b H4 => if b = true then A σ2 H4 else B σ2 H4 := by
  show (if true = true then A (σ.set i (some v)) H else B (σ.set i (some v)) H)
  rw [if_pos rfl]
  exact h
section
variable {K : PySem.W.Frag} {k : Nat} {fr : List Nat} {g : TG} {tc : TT} {te : TE} {σ : St} {H1 : Hp} {Q : VK}
theorem comp_items {J : It} (xs : List V) (Ok : Hp → Prop) (hgo : ∀ i H, Ok H → i < xs.length → J.go i H) (hyl : ∀ i H x H', Ok H → i < xs.length → J.yld i H x H' → H' = H ∧ xs[i]? = some x) (hst : ∀ H, Ok H → J.stop xs.length H)
    (Pv : Addr → Nat → List V → St → Hp → Prop)
    (h : ∀ D, H1 D = none → Pv D 0 [] (inSt k fr σ) (upd H1 D (.lst [])) ∧ (∀ i acc σ' H', i ≤ xs.length → Pv D i acc σ' H' → H' D = some (.lst acc) → Ok H') ∧
      (∀ i acc σ' H' x, xs[i]? = some x → Pv D i acc σ' H' → H' D = some (.lst acc) → g x σ' H' fun σ2 H3 => tc σ2 H3 fun b H4 =>
        if b = true then te σ2 H4 fun y H5 => H5 D = some (.lst acc) ∧ acc.length < sizeLine ∧ Pv D (i + 1) (acc ++ [y]) σ2 (upd H5 D (.lst (acc ++ [y]))) else H4 D = some (.lst acc) ∧ Pv D (i + 1) acc σ2 H4) ∧
      ∀ acc σ' H', Pv D xs.length acc σ' H' → H' D = some (.lst acc) → Q (.ref D) H') : tCompW k fr g tc te J σ H1 Q := by
  intro D hD
  obtain ⟨h0, hok, hs, hd⟩ := h D hD
  refine ⟨fun i m acc σ' H' => m = xs.length - i ∧ i ≤ xs.length ∧ Pv D i acc σ' H', ⟨xs.length, by simp, Nat.zero_le _, h0⟩, ?_⟩
  rintro i m acc σ' H' ⟨rfl, hi, p⟩ hacc
  have ok := hok i acc σ' H' hi p hacc
  by_cases hlt : i < xs.length
  · refine .inr ⟨hgo i H' ok hlt, Pv D (i + 1), fun acc' σ2 H2 p' => ⟨xs.length - (i + 1), by omega, rfl, hlt, p'⟩, fun x H2 y => ?_⟩
    obtain ⟨e, hx⟩ := hyl i H' x H2 ok hlt y
    subst e
    exact hs i acc σ' H2 x hx p hacc
  · have e : i = xs.length := by omega
    subst e
    exact .inl ⟨hst H' ok, hd acc σ' H' p hacc⟩
noncomputable def rngV (n : Nat) : List V := (List.range n).map fun i => V.int (0 + (i : Nat))
theorem comp_range {n : Nat} (Pv : Addr → Nat → List V → St → Hp → Prop)
    (h : ∀ D, H1 D = none → Pv D 0 [] (inSt k fr σ) (upd H1 D (.lst [])) ∧
      (∀ i acc σ' H', i < n → Pv D i acc σ' H' → H' D = some (.lst acc) → g (.int (0 + (i : Nat))) σ' H' fun σ2 H3 => tc σ2 H3 fun b H4 =>
        if b = true then te σ2 H4 fun y H5 => H5 D = some (.lst acc) ∧ acc.length < sizeLine ∧ Pv D (i + 1) (acc ++ [y]) σ2 (upd H5 D (.lst (acc ++ [y]))) else H4 D = some (.lst acc) ∧ Pv D (i + 1) acc σ2 H4) ∧
      ∀ acc σ' H', Pv D n acc σ' H' → H' D = some (.lst acc) → Q (.ref D) H') : tCompW k fr g tc te (Itr 0 n) σ H1 Q := by
  have hl : (rngV n).length = n := by simp [rngV]
  refine comp_items (rngV n) (fun _ => True) (fun i H _ hi => by rw [hl] at hi; exact hi) (fun i H x H' _ hi y => ⟨y.1, ?_⟩) (fun H _ => by show n ≤ (rngV n).length; rw [hl]; exact Nat.le_refl _) Pv fun D hD => ?_
  · rw [hl] at hi
    rw [y.2]
    simp [rngV, hi]
  · obtain ⟨a, b, c⟩ := h D hD
    refine ⟨a, fun _ _ _ _ _ _ _ => trivial, fun i acc σ' H' x hx p hacc => ?_, by rw [hl]; exact c⟩
    have hi : i < n := by rw [← hl]; exact (List.getElem?_eq_some_iff.mp hx).1
    have e : x = V.int (0 + (i : Nat)) := by
      simp [rngV, hi] at hx
      rw [← hx]; simp
    subst e
    exact b i acc σ' H' hi p hacc
theorem comp_list {a : Addr} (xs : List V) (Pv : Addr → Nat → List V → St → Hp → Prop)
    (h : ∀ D, H1 D = none → Pv D 0 [] (inSt k fr σ) (upd H1 D (.lst [])) ∧ (∀ i acc σ' H', i ≤ xs.length → Pv D i acc σ' H' → H' D = some (.lst acc) → SqL K H' a xs) ∧
      (∀ i acc σ' H' x, xs[i]? = some x → Pv D i acc σ' H' → H' D = some (.lst acc) → g x σ' H' fun σ2 H3 => tc σ2 H3 fun b H4 =>
        if b = true then te σ2 H4 fun y H5 => H5 D = some (.lst acc) ∧ acc.length < sizeLine ∧ Pv D (i + 1) (acc ++ [y]) σ2 (upd H5 D (.lst (acc ++ [y]))) else H4 D = some (.lst acc) ∧ Pv D (i + 1) acc σ2 H4) ∧
      ∀ acc σ' H', Pv D xs.length acc σ' H' → H' D = some (.lst acc) → Q (.ref D) H') : tCompW k fr g tc te (Itl K a) σ H1 Q :=
  comp_items xs (fun H => SqL K H a xs) (fun i H q hi => ⟨xs, xs[i], q, by simp [hi]⟩) (fun i H x H' q hi y => ⟨y.1, y.2 xs q⟩) (fun H q => ⟨xs, q, Nat.le_refl _⟩) Pv h
theorem comp_tup {a : Addr} (xs : List V) (Pv : Addr → Nat → List V → St → Hp → Prop)
    (h : ∀ D, H1 D = none → Pv D 0 [] (inSt k fr σ) (upd H1 D (.lst [])) ∧ (∀ i acc σ' H', i ≤ xs.length → Pv D i acc σ' H' → H' D = some (.lst acc) → SqT K H' a xs) ∧
      (∀ i acc σ' H' x, xs[i]? = some x → Pv D i acc σ' H' → H' D = some (.lst acc) → g x σ' H' fun σ2 H3 => tc σ2 H3 fun b H4 =>
        if b = true then te σ2 H4 fun y H5 => H5 D = some (.lst acc) ∧ acc.length < sizeLine ∧ Pv D (i + 1) (acc ++ [y]) σ2 (upd H5 D (.lst (acc ++ [y]))) else H4 D = some (.lst acc) ∧ Pv D (i + 1) acc σ2 H4) ∧
      ∀ acc σ' H', Pv D xs.length acc σ' H' → H' D = some (.lst acc) → Q (.ref D) H') : tCompW k fr g tc te (Itt K a) σ H1 Q :=
  comp_items xs (fun H => SqT K H a xs) (fun i H q hi => ⟨xs, xs[i], q, by simp [hi]⟩) (fun i H x H' q hi y => ⟨y.1, y.2 xs q⟩) (fun H q => ⟨xs, q, Nat.le_refl _⟩) Pv h
noncomputable def signsV (z : Str) : List V := z.cps.toList.map fun c => V.str ⟨#[c]⟩
theorem comp_str {z : Str} (Pv : Addr → Nat → List V → St → Hp → Prop)
    (h : ∀ D, H1 D = none → Pv D 0 [] (inSt k fr σ) (upd H1 D (.lst [])) ∧
      (∀ i acc σ' H' c, z.cps.toList[i]? = some c → Pv D i acc σ' H' → H' D = some (.lst acc) → g (.str ⟨#[c]⟩) σ' H' fun σ2 H3 => tc σ2 H3 fun b H4 =>
        if b = true then te σ2 H4 fun y H5 => H5 D = some (.lst acc) ∧ acc.length < sizeLine ∧ Pv D (i + 1) (acc ++ [y]) σ2 (upd H5 D (.lst (acc ++ [y]))) else H4 D = some (.lst acc) ∧ Pv D (i + 1) acc σ2 H4) ∧
      ∀ acc σ' H', Pv D z.cps.toList.length acc σ' H' → H' D = some (.lst acc) → Q (.ref D) H') : tCompW k fr g tc te (Its z) σ H1 Q := by
  have hl : (signsV z).length = z.cps.toList.length := by simp [signsV]
  refine comp_items (signsV z) (fun _ => True) (fun i H _ hi => by rw [hl] at hi; show i < z.cps.size; simpa using hi) (fun i H x H' _ hi y => ⟨y.1, ?_⟩) (fun H _ => by show z.cps.size ≤ (signsV z).length; rw [hl]; simp) Pv fun D hD => ?_
  · have y2 := y.2
    unfold sgV at y2
    simp only [signsV, List.getElem?_map, Array.getElem?_toList]
    exact y2
  · obtain ⟨a, b, c⟩ := h D hD
    refine ⟨a, fun _ _ _ _ _ _ _ => trivial, fun i acc σ' H' x hx p hacc => ?_, by rw [hl]; exact c⟩
    simp only [signsV, List.getElem?_map] at hx
    cases e : z.cps.toList[i]? with
    | none => rw [e] at hx; cases hx
    | some cc =>
      rw [e] at hx
      cases hx
      exact b i acc σ' H' cc e p hacc
end
noncomputable def But (p : Addr) (H H' : Hp) : Prop := ∀ b o, b ≠ p → H b = some o → H' b = some o
theorem But.refl (p : Addr) (H : Hp) : But p H H := fun _ _ _ h => h
theorem But.trans {p : Addr} {H H1 H2 : Hp} (a : But p H H1) (b : But p H1 H2) : But p H H2 := fun c o n h => b c o n (a c o n h)
theorem But.upd {p : Addr} {H : Hp} {o : HO} : But p H (upd H p o) := fun b o' n h => by rw [upd_ne n]; exact h
theorem But.of_same {p : Addr} {H H' : Hp} (s : Same H H') : But p H H' := fun b o _ h => s b o h
theorem Same.new {H : Hp} {p : Addr} {o : HO} (h : H p = none) : Same H (upd H p o) := fun b o' e => by rw [upd_ne (ne_of_none e h)]; exact e
theorem Rd.but {p : Addr} {H H' : Hp} (b : But p H H') {a : Addr} {u : HO} (n : a ≠ p) (h : Rd H a u) : Rd H' a u := by
  rcases h with h | ⟨o, h⟩
  · exact .inl (b _ _ n h)
  · exact .inr ⟨o, b _ _ n h⟩
theorem SqL.but {K : PySem.W.Frag} {p : Addr} {H H' : Hp} (b : But p H H') {a : Addr} {xs : List V} (n : a ≠ p) (h : SqL K H a xs) : SqL K H' a xs := by
  rcases h with h | h
  · exact .inl (h.but b n)
  · exact .inr h
structure Blt (mg : Str → Option Value) : Prop where
  len : mg "len" = none
  range : mg "range" = none
  abs : mg "abs" = none
  all : mg "all" = none
  repr : mg "repr" = none
  isinstance : mg "isinstance" = none
  str : mg "str" = none
  int : mg "int" = none
  bool : mg "bool" = none
  enumerate : mg "enumerate" = none
  list : mg "list" = none
  tuple : mg "tuple" = none
  dict : mg "dict" = none
  min : mg "min" = none
  max : mg "max" = none
section
variable {X : Cx} {p pos : Pos} {e f : Expr} {t : TA}
noncomputable def rLen (K : PySem.W.Frag) : List V → Hp → VK → Prop := fun xs H Q => ∃ x n, xs = [x] ∧ LenV K x H n ∧ Q (.int n) H
noncomputable def rAbs : List V → Hp → VK → Prop := fun xs H Q => ∃ i, xs = [.int i] ∧ Q (.int (if i < 0 then -i else i)) H
noncomputable def rAll : List V → Hp → VK → Prop := fun xs H Q => ∃ p bs, xs = [.ref p] ∧ H p = some (.lst (List.map V.bl bs)) ∧ Q (.bl (bs.all id)) H
theorem b_len (K : PySem.W.Frag) (B : Blt X.mg) (ha : PA X [e] t) (hg : Gl X "len" := by rfl) (he : starEach [e] X.env = (false, eval e X.env) :: starEach [] X.env := by rfl) (hpl : (backTo pos (starEach [] X.env)).any (·.1) = false := by rfl) (hK : X.K = K := by rfl) : PE X (.Call (.Name "len" p) [e] [] pos) (tCB (rLen K) t) :=
  hK ▸ pe_callB call_len hg B.len PySem.boot_len ha (by decide) (by decide) he hpl
theorem b_abs (B : Blt X.mg) (ha : PA X [e] t) (hg : Gl X "abs" := by rfl) (he : starEach [e] X.env = (false, eval e X.env) :: starEach [] X.env := by rfl) (hpl : (backTo pos (starEach [] X.env)).any (·.1) = false := by rfl) : PE X (.Call (.Name "abs" p) [e] [] pos) (tCB rAbs t) :=
  pe_callB call_abs hg B.abs boot_abs ha (by decide) (by decide) he hpl
theorem b_all (hc : X.calm = true) (B : Blt X.mg) (ha : PA X [e] t) (hg : Gl X "all" := by rfl) (he : starEach [e] X.env = (false, eval e X.env) :: starEach [] X.env := by rfl) (hpl : (backTo pos (starEach [] X.env)).any (·.1) = false := by rfl) : PE X (.Call (.Name "all" p) [e] [] pos) (tCB rAll t) :=
  pe_callB (call_all_bl hc) hg B.all boot_all ha (by decide) (by decide) he hpl
theorem b_isi (K : PySem.W.Frag) (c : String) (B : Blt X.mg) (ha : PA X [e, f] t) (hg : Gl X "isinstance" := by rfl) (he : starEach [e, f] X.env = (false, eval e X.env) :: starEach [f] X.env := by rfl) (hpl : (backTo pos (starEach [f] X.env)).any (·.1) = false := by rfl) (hK : X.K = K := by rfl) : PE X (.Call (.Name "isinstance" p) [e, f] [] pos) (tCB (rIsi K c) t) :=
  hK ▸ pe_callB (call_isi c) hg B.isinstance boot_isinstance ha (by decide) (by decide) he hpl
theorem g_str (B : Blt X.mg) (hg : Gl X "str" := by rfl) : PE X (.Name "str" p) (tC (.ty "str")) := pe_bltn hg B.str PyProof.Rows.boot_str rfl
theorem g_list (B : Blt X.mg) (hg : Gl X "list" := by rfl) : PE X (.Name "list" p) (tC (.ty "list")) := pe_bltn hg B.list (show bootBuiltins "list" = some (.type "list") by decide +kernel) rfl
end
end L2
namespace L2
open PySem PySem.Spec PyProof.Rows PySem.Builtin PySem.Builtin.Str
noncomputable def Asc (z : Str) : Prop := ∀ c ∈ z.cps.toList, c < 128
theorem len_app (x y : Str) : (x ++ y).length = x.length + y.length := by
  show (x.cps ++ y.cps).size = x.cps.size + y.cps.size
  rw [Array.size_append]
theorem sum_le {ys : List Str} {n : Nat} (h : ∀ y ∈ ys, y.length ≤ n) : (ys.map (·.length)).sum ≤ ys.length * n := by
  induction ys with
  | nil => simp
  | cons y r ih =>
    have h1 := h y (by simp)
    have h2 := ih fun z hz => h z (List.mem_cons_of_mem _ hz)
    simp only [List.map_cons, List.sum_cons, List.length_cons]
    rw [Nat.succ_mul]
    omega
theorem at_ok {α : Type} {xs : List α} {j : Int} (h0 : 0 ≤ j) (h1 : j < xs.length) : ∃ v, atI xs j = some v ∧ v ∈ xs := by
  obtain ⟨k, rfl⟩ := Int.eq_ofNat_of_zero_le h0
  have hk : k < xs.length := by omega
  exact ⟨xs[k], atI_nat (by simp [hk]), List.getElem_mem hk⟩
theorem at_int {ns : List Int} {j : Int} (h0 : 0 ≤ j) (h1 : j < (ns.map V.int).length) : ∃ c, atI (ns.map V.int) j = some (.int c) := by
  obtain ⟨v, e, m⟩ := at_ok h0 h1
  obtain ⟨c, _, rfl⟩ := List.mem_map.mp m
  exact ⟨c, e⟩
theorem fst_small (x : Int) : -(2 ^ 64) < x % 2147483647 ∧ x % 2147483647 < 2 ^ 64 := by
  have h1 := Int.emod_nonneg x (show (2147483647 : Int) ≠ 0 by decide)
  have h2 := Int.emod_lt_of_pos x (show (0 : Int) < 2147483647 by decide)
  omega
noncomputable def PenV (H : Hp) (p a : Addr) : Prop := ∃ (i n : Int), H p = some (.lst [.ref a, .int i, .int n]) ∧ 0 ≤ i ∧ 0 ≤ n
noncomputable def Pen (K : PySem.W.Frag) (H : Hp) (p a : Addr) : Prop := (∃ ns : List Int, ∀ H', But p H H' → SqL K H' a (ns.map V.int)) ∧ PenV H p a
theorem Pen.but {K : PySem.W.Frag} {H H' : Hp} {p a : Addr} (h : Pen K H p a) (b : But p H H') (v : PenV H' p a) : Pen K H' p a := ⟨let ⟨ns, q⟩ := h.1; ⟨ns, fun H2 b2 => q H2 (b.trans b2)⟩, v⟩
theorem Pen.new {K : PySem.W.Frag} {H : Hp} {p a : Addr} {ns : List Int} {o : HO} (h : SqL K H a (ns.map V.int)) (hp : H p = none) (v : PenV (upd H p o) p a) : Pen K (upd H p o) p a := by
  refine ⟨⟨ns, fun H' b => ?_⟩, v⟩
  rcases h with h | h
  · have n : a ≠ p := by
      rcases h with h | ⟨ob, h⟩
      · exact ne_of_none h hp
      · exact ne_of_none h hp
    have s : Same H (upd H p o) := Same.new hp
    exact SqL.but (fun c o' n' e => b c o' n' (s c o' e)) n (.inl h)
  · exact .inr h
theorem PenV.upd {H : Hp} {p a D : Addr} {o : HO} (h : PenV H p a) (n : p ≠ D) : PenV (L2.upd H D o) p a := let ⟨i, m, e, q⟩ := h; ⟨i, m, by rw [upd_ne n]; exact e, q⟩
theorem PenV.ne {H : Hp} {p a D : Addr} (h : PenV H p a) (e : H D = none) : p ≠ D := let ⟨_, _, q, _⟩ := h; ne_of_none q e
theorem But.at {p D : Addr} {H H' : Hp} {o : HO} (b : But p H H') (hD : H D = none) : But p H (L2.upd H' D o) := fun c o' n h => by rw [upd_ne (ne_of_none h hD)]; exact b c o' n h
theorem But.of_eq {p : Addr} {H H' : Hp} (h : ∀ b, b ≠ p → H' b = H b) : But p H H' := fun b o n e => (h b n).trans e
theorem But.free {p D : Addr} {H H' : Hp} (b : But p H H') (n : D ≠ p) (h : H' D = none) : H D = none := by
  cases e : H D with
  | none => rfl
  | some o => rw [b D o n e] at h; cases h
noncomputable def spDraw (K : PySem.W.Frag) : Sp := fun vs H Q _ => ∃ (p a : Addr) (m : Int), vs = [.ref p, .int m] ∧ Pen K H p a ∧ 0 < m ∧ m < 1073741824 ∧ ∀ r H', 0 ≤ r → r < m → PenV H' p a → (∀ b, b ≠ p → H' b = H b) → Q (.int r) H'
end L2
namespace L2
open PySem PySem.Spec PyProof.Rows
section
variable {X : Cx}
inductive InR (K : PySem.W.Frag) (neg : Bool) (H : Hp) : V → V → VK → Prop
  | dic {a : Addr} {y : V} {o : Option V} {Q : VK} : DGet H a y o → Q (.bl (if neg then !o.isSome else o.isSome)) H → InR K neg H y (.ref a) Q
  | seq {p : Addr} {x : V} {xs : List V} {Q : VK} : (SqL K H p xs ∨ SqT K H p xs) → flatV x = true → xs.all flatV = true → Q (.bl (if neg then !inV x xs else inV x xs)) H → InR K neg H x (.ref p) Q
  | tr {p : Addr} {x : V} {xs : List V} {ds : List PyData} {d : PyData} {Q : VK} : H p = some (.lst xs) → RepAll H xs ds → Rep H x d → PyData.canLayAll0 ds = true → d.canLay0 = true → d.depth ≤ 16 →
      Q (.bl (if neg then !(ds.any fun e => PyData.eqv e d) else ds.any fun e => PyData.eqv e d)) H → InR K neg H x (.ref p) Q
theorem op_inX (K : PySem.W.Frag) (hu : X.A.units + 64 < cLine) (hK : X.K = K := by rfl) : OpR X (compareOp .In) (fun x y H Q => InR K false H x y Q) := by
  subst hK
  intro pins s σ H x y v u Q I rx ry h
  cases h with
  | dic g q =>
    cases ry
    exact d_in (by omega) I g rx fun s' I' => ⟨.bl _, H, I', rfl, q⟩
  | seq hq fx fs q => exact op_in_seq pins s σ H _ _ v u Q I rx ry ⟨_, _, rfl, hq, fx, fs, q⟩
  | tr e rs r cs c dp q => exact op_inD hu pins s σ H _ _ v u Q I rx ry ⟨_, _, _, _, rfl, e, rs, r, cs, c, dp, q⟩
theorem op_notInX (K : PySem.W.Frag) (hu : X.A.units + 64 < cLine) (hK : X.K = K := by rfl) : OpR X (compareOp .NotIn) (fun x y H Q => InR K true H x y Q) := by
  subst hK
  intro pins s σ H x y v u Q I rx ry h
  cases h with
  | dic g q =>
    cases ry
    exact d_notIn (by omega) I g rx fun s' I' => ⟨.bl _, H, I', rfl, q⟩
  | seq hq fx fs q => exact op_notIn_seq pins s σ H _ _ v u Q I rx ry ⟨_, _, rfl, hq, fx, fs, q⟩
  | tr e rs r cs c dp q => exact op_notInD hu pins s σ H _ _ v u Q I rx ry ⟨_, _, _, _, rfl, e, rs, r, cs, c, dp, q⟩
inductive IxX (K : PySem.W.Frag) (H : Hp) : V → V → VK → Prop
  | lst {p : Addr} {xs : List V} {i : Int} {v : V} {Q : VK} : SqL K H p xs → atI xs i = some v → Q v H → IxX K H (.ref p) (.int i) Q
  | tup {p : Addr} {xs : List V} {i : Int} {v : V} {Q : VK} : SqT K H p xs → atI xs i = some v → Q v H → IxX K H (.ref p) (.int i) Q
  | str {z : Str} {i : Int} {c : Nat} {Q : VK} : z.length ≤ sizeLine → atI z.cps.toList i = some c → Q (.str ⟨#[c]⟩) H → IxX K H (.str z) (.int i) Q
  | dic {a : Addr} {y v : V} {Q : VK} : DGet H a y (some v) → Q v H → IxX K H (.ref a) y Q
theorem ix_X (K : PySem.W.Frag) (hu : X.A.units + 64 < cLine) (hK : X.K = K := by rfl) : IxR X (fun x y H Q => IxX K H x y Q) := by
  subst hK
  intro value slice pins s σ H x y v u Q I rx ry h hs
  cases h with
  | lst hq e q => exact ix_list value slice pins s σ H _ _ v u Q I rx ry ⟨_, _, _, _, rfl, rfl, hq, e, q⟩ hs
  | tup hq e q => exact ix_tup value slice pins s σ H _ _ v u Q I rx ry ⟨_, _, _, _, rfl, rfl, hq, e, q⟩ hs
  | str hz e q => exact ix_str value slice pins s σ H _ _ v u Q I rx ry ⟨_, _, _, rfl, rfl, hz, e, q⟩ hs
  | dic g q =>
    cases rx
    exact tail_any (dict_typeIs I g) PySem.F.slot_dict_getitem.lookup (d_getItem (by omega) I g ry fun w' s3 I3 rw' => ⟨_, H, I3, rw', q⟩) hs
inductive SetX (H : Hp) : V → V → V → (Hp → Prop) → Prop
  | lst {p : Addr} {xs : List V} {k : Int} {j : Nat} {v : V} {Q : Hp → Prop} : H p = some (.lst xs) → ixN xs.length k = some j → Q (upd H p (.lst (xs.set j v))) → SetX H (.ref p) (.int k) v Q
  | dic {a : Addr} {y v : V} {H' : Hp} {Q : Hp → Prop} : DPut H a y v H' → Q H' → SetX H (.ref a) y v Q
theorem set_X (hu : X.A.units + 64 < cLine) : PSet X (fun o i v H Q => SetX H o i v Q) := by
  intro pins s σ H o i v ov iv u Q I ro ri rv h
  cases h with
  | lst e ej q => exact set_list pins s σ H _ _ _ ov iv u Q I ro ri rv ⟨_, _, _, _, rfl, rfl, e, ej, q⟩
  | dic g q =>
    cases ro
    exact d_setItem (by omega) I g ri rv fun s4 I4 => ⟨_, I4, q⟩
theorem pg_tupK (K : PySem.W.Frag) {es : List Expr} {k : Nat} {pos : Pos} {t : TGs} {n : Nat} (hc : X.calm = true) (h : PGs X es t)
    (hn : (assignEach es X.env).length = n := by rfl) (hst : (assignEach es X.env).findIdx? (·.1) = none := by rfl) (hK : X.K = K := by rfl) : PG X (.Tuple es k pos) (gTup K n t) := hK ▸ pg_tup hc h hn hst
variable {p pos p2 pos2 : Pos} {e f : Expr} {t : TA}
end
end L2
namespace L2
open PySem PySem.Spec PyProof.Rows
section
variable {X : Cx} {p pos p2 pos2 : Pos} {e f : Expr} {t : TA}
noncomputable def rTupL (K : PySem.W.Frag) : List V → Hp → VK → Prop := fun xs H Q => ∃ a ys, xs = [.ref a] ∧ SqL K H a ys ∧ ∀ l, H l = none → Q (.ref l) (upd H l (.tup ys))
theorem b_tuple (K : PySem.W.Frag) (B : Blt X.mg) (ha : PA X [e] t) (hg : Gl X "tuple" := by rfl) (he : starEach [e] X.env = (false, eval e X.env) :: starEach [] X.env := by rfl) (hpl : (backTo pos (starEach [] X.env)).any (·.1) = false := by rfl) (hK : X.K = K := by rfl) :
    PE X (.Call (.Name "tuple" p) [e] [] pos) (tCB (rTupL K) t) := by
  subst hK
  refine pe_callTy (r := rTupL X.K) (fun pins s σ H xs us Q I r h => ?_) hg B.tuple (show bootBuiltins "tuple" = some (.type "tuple") by decide +kernel) ha (by decide) (by decide) he hpl
  obtain ⟨a, ys, rfl, hq, q⟩ := h
  exact call_tuple_of pins s σ H _ us Q I r ⟨a, ys, rfl, .inl ⟨hq, q⟩⟩
theorem b_min (hc : X.calm = true) (B : Blt X.mg) (ha : PA X [e, f] t) (hg : Gl X "min" := by rfl) (he : starEach [e, f] X.env = (false, eval e X.env) :: starEach [f] X.env := by rfl) (hpl : (backTo pos (starEach [f] X.env)).any (·.1) = false := by rfl) :
    PE X (.Call (.Name "min" p) [e, f] [] pos) (tCB (fun xs H Q => ∃ i j, xs = [.int i, .int j] ∧ Q (.int (if j < i then j else i)) H) t) :=
  pe_callB (call_min2 hc) hg B.min (show bootBuiltins "min" = some (.builtin "min") by decide +kernel) ha (by decide) (by decide) he hpl
end
end L2
namespace L2
open PySem PySem.Spec PyProof.Rows
noncomputable def Nm (s : Str) : Prop := 1 ≤ s.length ∧ s.length ≤ 8 ∧ ∀ c ∈ s.cps.toList, 97 ≤ c ∧ c ≤ 122
theorem Nm.asc {s : Str} (h : Nm s) : Asc s := fun c hc => by have := h.2.2 c hc; omega
noncomputable def pairD (e : Str × Str) : PyData := .tuple [.str e.1, .str e.2]
noncomputable def webD (ss : List Str) (ts : List (Str × Str)) : PyData := .tuple [.tuple (ss.map .str), .tuple (ts.map pairD)]
section
variable {H H' : Hp}
theorem Rep.tupI {v : V} {ds : List PyData} (h : Rep H v (.tuple ds)) : ∃ a xs, v = .ref a ∧ H a = some (.tup xs) ∧ RepAll H xs ds := by
  cases h with
  | tup e r => exact ⟨_, _, rfl, e, r⟩
theorem Rep.strI {v : V} {s : Str} (h : Rep H v (.str s)) : v = .str s := by cases h; rfl
theorem RepAll.nilI {xs : List V} (h : RepAll H xs []) : xs = [] := by cases h; rfl
theorem RepAll.consI {xs : List V} {d : PyData} {ds : List PyData} (h : RepAll H xs (d :: ds)) : ∃ y ys, xs = y :: ys ∧ Rep H y d ∧ RepAll H ys ds := by
  cases h with
  | cons a b => exact ⟨_, _, rfl, a, b⟩
theorem RepAll.of_strs : ∀ (ss : List Str), RepAll H (ss.map V.str) (ss.map PyData.str)
  | [] => .nil
  | s :: ss => .cons (.str s) (RepAll.of_strs ss)
theorem RepAll.len {xs : List V} {ds : List PyData} (h : RepAll H xs ds) : xs.length = ds.length := by
  induction ds generalizing xs with
  | nil => rw [h.nilI]; rfl
  | cons d ds ih =>
    obtain ⟨y, ys, rfl, a, b⟩ := h.consI
    simp [ih b]
theorem RepAll.get {xs : List V} {ds : List PyData} (h : RepAll H xs ds) {i : Nat} {x : V} (e : xs[i]? = some x) : ∃ d, ds[i]? = some d ∧ Rep H x d := by
  induction ds generalizing xs i with
  | nil => rw [h.nilI] at e; simp at e
  | cons d ds ih =>
    obtain ⟨y, ys, rfl, a, b⟩ := h.consI
    cases i with
    | zero => simp at e; subst e; exact ⟨d, rfl, a⟩
    | succ i => simpa using ih b (by simpa using e)
theorem RepAll.append {xs ys : List V} {ds es : List PyData} (h : RepAll H xs ds) (g : RepAll H ys es) : RepAll H (xs ++ ys) (ds ++ es) := by
  induction ds generalizing xs with
  | nil => rw [h.nilI]; exact g
  | cons d ds ih =>
    obtain ⟨y, zs, rfl, a, b⟩ := h.consI
    exact .cons a (ih b)
theorem pair_at {v : V} {e : Str × Str} (h : Rep H v (pairD e)) : ∃ a, v = .ref a ∧ H a = some (.tup [.str e.1, .str e.2]) := by
  obtain ⟨a, xs, rfl, ha, r⟩ := Rep.tupI h
  obtain ⟨y, ys, rfl, r1, r⟩ := r.consI
  obtain ⟨z, zs, rfl, r2, r⟩ := r.consI
  have e1 := RepAll.nilI r
  subst e1
  rw [r1.strI, r2.strI] at ha
  exact ⟨a, rfl, ha⟩
theorem pair_rep {a : Addr} {s t : Str} (h : H a = some (.tup [.str s, .str t])) : Rep H (.ref a) (pairD (s, t)) := .tup h (.cons (.str _) (.cons (.str _) .nil))
end
end L2
set_option autoImplicit false
namespace MG
variable {α : Type}
noncomputable def Walk (R : α → α → Prop) : Nat → α → α → Prop
  | 0, x, y => x = y
  | n + 1, x, y => ∃ z, Walk R n x z ∧ R z y
noncomputable def Dst (R : α → α → Prop) (x : α) (d : Nat) (y : α) : Prop := Walk R d x y ∧ ∀ k, k < d → ¬ Walk R k x y
variable {R : α → α → Prop} {x : α}
end MG
namespace MG
variable {α : Type} {R : α → α → Prop} {x : α}
end MG
namespace L2
open PySem PySem.Spec PyProof.Rows
theorem canLay_nm {s : Str} (h : Nm s) : PyData.canLay0 (.str s) = true := by
  show (s.cps.all (· < 0x110000)) = true
  rw [← Array.all_toList, List.all_eq_true]
  intro c hc
  have := h.2.2 c hc
  exact decide_eq_true (by omega)
theorem canLay_strs : ∀ ss : List Str, (∀ s ∈ ss, Nm s) → PyData.canLayAll0 (ss.map PyData.str) = true
  | [], _ => rfl
  | s :: ss, h => by
    show (PyData.canLay0 (.str s) && PyData.canLayAll0 (ss.map PyData.str)) = true
    rw [canLay_strs ss fun x hx => h x (List.mem_cons_of_mem _ hx), canLay_nm (h s (by simp))]
    rfl
theorem depth_strs : ∀ ss : List Str, PyData.depthAll (ss.map PyData.str) = 0
  | [] => rfl
  | s :: ss => by
    show max (PyData.depth (.str s)) (PyData.depthAll (ss.map PyData.str)) = 0
    rw [depth_strs ss]; rfl
theorem textFrom_le {n : Nat} : ∀ (ts : List Str) (k : Nat) (acc : Str), (∀ t ∈ ts, t.length ≤ n) → (textFrom k acc ts).length ≤ acc.length + ts.length * (n + 2)
  | [], k, acc, _ => by show acc.length ≤ acc.length + 0 * _; omega
  | t :: r, k, acc, h => by
    have h1 := textFrom_le r (k + 1) (acc ++ (if k > 0 then ", " else "" : String) ++ t) fun u hu => h u (List.mem_cons_of_mem _ hu)
    have h2 := h t (by simp)
    have e : (acc ++ (if k > 0 then ", " else "" : String) ++ t).length ≤ acc.length + 2 + t.length := by
      rw [len_app, len_app]
      have : (Str.ofString (if k > 0 then ", " else "" : String)).length ≤ 2 := by split <;> decide
      show acc.length + (Str.ofString (if k > 0 then ", " else "" : String)).length + t.length ≤ _
      omega
    show (textFrom (k + 1) (acc ++ (if k > 0 then ", " else "" : String) ++ t) r).length ≤ acc.length + (r.length + 1) * (n + 2)
    rw [Nat.succ_mul]
    omega
theorem Nm.repr {s : Str} (h : Nm s) : (reprText s).length ≤ 82 := by
  have := StrLaws.reprText_len s fun c hc => Nat.lt_trans (h.asc c hc) (by decide)
  have := h.2.1
  omega
theorem eqv_shp {d : PyData} (h : shp d) : PyData.eqv d d = true := SeqAt.eqv_refl d (SeqAt.canLay_of_shaped h)
theorem for_enum {K : PySem.W.Frag} {a : Addr} {xs : List V} {g : TG} {tb : TS} {D : Ends} {σ : St} {H : Hp} (Pv : Nat → St → Hp → Prop) (h0 : Pv 0 σ H) (hl : ∀ i σ H, i ≤ xs.length → Pv i σ H → SqL K H a xs)
    (hs : ∀ i x σ H p, xs[i]? = some x → Pv i σ H → H p = none → g (.ref p) σ (upd H p (.tup [.int i, x])) fun σ2 H2 => tb { D with nx := Pv (i + 1), ct := Pv (i + 1), bk := D.nx } σ2 H2) (hd : ∀ σ H, Pv xs.length σ H → D.nx σ H) :
    ∃ W : Nat → Nat → St → Hp → Prop, (∃ m, W 0 m σ H) ∧ ∀ i m σ H, W i m σ H →
      ((Ite K a).stop i H ∧ D.nx σ H) ∨ ((Ite K a).go i H ∧ ∃ N : St → Hp → Prop, (∀ σ' H', N σ' H' → ∃ m', m' < m ∧ W (i + 1) m' σ' H') ∧ ∀ x H', (Ite K a).yld i H x H' → g x σ H' fun σ2 H2 => tb { D with nx := N, ct := N, bk := D.nx } σ2 H2) := by
  refine ⟨fun i m σ H => m = xs.length - i ∧ i ≤ xs.length ∧ Pv i σ H, ⟨xs.length, by simp, Nat.zero_le _, h0⟩, ?_⟩
  rintro i m σ H ⟨rfl, hi, p⟩
  have q := hl i σ H hi p
  by_cases hlt : i < xs.length
  · refine .inr ⟨⟨xs, xs[i], q, by simp [hlt]⟩, Pv (i + 1), fun σ' H' p' => ⟨xs.length - (i + 1), by omega, rfl, hlt, p'⟩, fun x H' y => ?_⟩
    obtain ⟨r, z, hr, rfl, hz, rfl⟩ := y
    exact hs i z σ H r (hz xs q) p hr
  · have e : i = xs.length := by omega
    subst e
    exact .inl ⟨⟨xs, q, Nat.le_refl _⟩, hd σ H p⟩
end L2
namespace MG
variable {α : Type} {R : α → α → Prop} {x : α}
noncomputable def swp (es : List (Nat × Nat)) : List (Nat × Nat) := es.map fun e => (e.2, e.1)
noncomputable def Arr (es : List (Nat × Nat)) (a b : Nat) : Prop := (a, b) ∈ es
noncomputable def To (es : List (Nat × Nat)) (goal k a : Nat) : Prop := Dst (Arr (swp es)) goal k a
variable {es : List (Nat × Nat)} {goal : Nat}
end MG
namespace MG
variable {es : List (Nat × Nat)}
noncomputable def RingAt (es : List (Nat × Nat)) (e : Nat × Nat) : Prop := ∃ k, To es e.1 k e.2
end MG
namespace L2
open PySem PySem.Spec PyProof.Rows
theorem same_free {H H' : Hp} {b : Addr} (s : Same H H') (h : H' b = none) : H b = none := by
  cases q : H b with
  | none => rfl
  | some o => rw [s _ _ q] at h; cases h
theorem same_at {H H' : Hp} {b : Addr} {o : HO} (s : Same H H') (h : H b = none) : Same H (upd H' b o) := fun c o' hc => by
  rw [upd_ne (ne_of_none hc h)]; exact s _ _ hc
theorem penSame {H H' : Hp} {p a : Addr} (s : Same H H') (v : PenV H p a) : PenV H' p a := let ⟨i, m, e, q⟩ := v; ⟨i, m, s _ _ e, q⟩
end L2
namespace MG
section
variable {α : Type} [DecidableEq α]
noncomputable def ix : List α → α → Nat
  | [], _ => 0
  | a :: r, x => if a = x then 0 else ix r x + 1
end
variable {es : List (Nat × Nat)}
end MG
namespace L2
open PySem PySem.Spec PyProof.Rows
theorem canLay_prs : ∀ ts : List (Str × Str), (∀ e ∈ ts, Nm e.1 ∧ Nm e.2) → PyData.canLayAll0 (ts.map pairD) = true
  | [], _ => rfl
  | e :: ts, h => by
    show (PyData.canLay0 (pairD e) && PyData.canLayAll0 (ts.map pairD)) = true
    rw [canLay_prs ts fun x hx => h x (List.mem_cons_of_mem _ hx)]
    have := h e (by simp)
    show ((PyData.canLay0 (.str e.1) && (PyData.canLay0 (.str e.2) && true)) && true) = true
    rw [canLay_nm this.1, canLay_nm this.2]; rfl
end L2
namespace L2
open PySem PySem.Spec PyProof.Rows
open PySem.AutoSeq1 (wpAny_loadPart')
section
variable {prog : Program} {w : World} {A : Around} {E : Value → Shared → Prop} {s : Shared}
theorem nextT_item {jt tt : Addr} {i : Nat} {its : Array Value} {y : Value} {Q : Value → Shared → Prop} (hj : s.heap.IsTupleIter jt tt i) (htt : s.heap.IsTuple tt its) (hy : its[i]? = some y)
    (hQ : ∀ h', h'.IsTupleIter jt tt (i + 1) → Heap.SameBut jt s.heap h' → Q y { s with heap := h' }) : wpAny (model prog w) A (Builtin.SmallTypes.nextOf (.ref jt)) Q E s := by
  obtain ⟨oj, hoj, cj, dj⟩ := id hj
  obtain ⟨ot, hot, _, nt, dt⟩ := htt
  unfold Builtin.SmallTypes.nextOf
  refine wpAny_bind (wpAny_callSpecial?_slot (name := Str.ofString "__next__") hj.typeIs F.slot_tuple_iterator_next (wpAny_call_entry F.slot_tuple_iterator_next hj.typeIs F.entry_tuple_iterator_next ?_ (F.args_tuple_iterator_next_1 _)))
  show wpAny _ _ (field (.ref jt) 0 >>= _) _ _ s
  refine wpAny_bind (wpAny_field hoj dj (x := .ref tt) rfl ?_)
  show wpAny _ _ (if (Value.ref tt == Value.none) = true then _ else _) _ _ s
  rw [if_neg (show ¬ ((Value.ref tt == Value.none) = true) from Bool.false_ne_true)]
  show wpAny _ _ (field (.ref jt) 1 >>= _) _ _ s
  refine wpAny_bind (wpAny_field hoj dj (x := .int i 0) rfl (wpAny_bind (wpAny_seqItems hot dt ?_)))
  simp only [Int.toNat_natCast, hy]
  refine wpAny_bind (wpAny_setField hoj dj (by simp) (wpAny_pure ⟨y, rfl, wpAny_pure (hQ _ ?_ (Heap.SameBut.update ..))⟩))
  exact ⟨_, Heap.get?_update_self _ hoj (Obj.isFreed_of_fields (Obj.data_mapFields dj _)), (Obj.cls_mapFields ..).trans cj, by rw [Obj.data_mapFields dj]; simp [rawInt]⟩
theorem nextT_end {jt tt : Addr} {i : Nat} {its : Array Value} {Q : Value → Shared → Prop} (hh : A.handled = none) (hj : s.heap.IsTupleIter jt tt i) (htt : s.heap.IsTuple tt its) (hy : its[i]? = none)
    (hE : ∀ h' e, Heap.ExtBut jt s.heap h' → (∃ o, h'.get? e = some o ∧ o.cls = .type "StopIteration") → E (.ref e) { s with heap := h' }) : wpAny (model prog w) A (Builtin.SmallTypes.nextOf (.ref jt)) Q E s := by
  obtain ⟨oj, hoj, cj, dj⟩ := id hj
  obtain ⟨ot, hot, _, nt, dt⟩ := htt
  unfold Builtin.SmallTypes.nextOf
  refine wpAny_bind (wpAny_callSpecial?_slot (name := Str.ofString "__next__") hj.typeIs F.slot_tuple_iterator_next (wpAny_call_entry F.slot_tuple_iterator_next hj.typeIs F.entry_tuple_iterator_next ?_ (F.args_tuple_iterator_next_1 _)))
  show wpAny _ _ (field (.ref jt) 0 >>= _) _ _ s
  refine wpAny_bind (wpAny_field hoj dj (x := .ref tt) rfl ?_)
  show wpAny _ _ (if (Value.ref tt == Value.none) = true then _ else _) _ _ s
  rw [if_neg (show ¬ ((Value.ref tt == Value.none) = true) from Bool.false_ne_true)]
  show wpAny _ _ (field (.ref jt) 1 >>= _) _ _ s
  refine wpAny_bind (wpAny_field hoj dj (x := .int i 0) rfl (wpAny_bind (wpAny_seqItems hot dt ?_)))
  simp only [Int.toNat_natCast, hy]
  refine wpAny_bind (wpAny_rule (wpAny_bind (wpAny_setField hoj dj (by simp) ?_)))
  show wpAny _ _ (newExc (.type "StopIteration") [] >>= _) _ _ _
  refine wpAny_bind ?_
  simp only [newExc, newTuple]
  refine wpAny_bind (wpAny_newObj_type (wpAny_bind (m := firstArgMember _ _) (wpAny_of_eq (a := Value.none) (by first | rfl | (simp only [firstArgMember]; rfl)) ?_)) (by size_fits))
  refine wpAny_newObj_type ?_ (by size_fits)
  simp only [raiseNew]
  refine wpAny_bind (wpAny_handled ?_)
  first | rw [show A.in1.handled = none from hh] | rw [hh]
  refine wpAny_bind (wpAny_pure (wpAny_throw (hE _ _ (((Heap.SameBut.update ..).extBut.push _).push _) ⟨_, Heap.get?_push_size _ rfl, rfl⟩)))
theorem drawsT {prog : Program} {w : World} {A : Around} (hh : A.handled = none) (jt tt : Addr) (hne : tt ≠ jt) (its : Array Value) :
    Draws prog w A jt [jt, tt] its.size (fun i y => its[i]? = some y) (fun i h => h.IsTupleIter jt tt i ∧ h.IsTuple tt its) where
  live := fun i h st => let ⟨o, e, _⟩ := st.1; ⟨o, e⟩
  frame := fun i h h' st k => ⟨let ⟨o, e, r⟩ := st.1; ⟨o, k jt (by simp) o e, r⟩, let ⟨o, e, r⟩ := st.2; ⟨o, k tt (by simp) o e, r⟩⟩
  item := fun i s Q E hi st hQ => nextT_item st.1 st.2 (y := its[i]) (by simp [hi]) fun h' j' sb => hQ _ h' s.toks (by simp [hi]) ⟨j', st.2.extBut sb.extBut hne⟩ sb
  done := fun s Q E st hE => nextT_end hh st.1 st.2 (by simp) hE
set_option maxHeartbeats 1000000 in
theorem meets_enumT (l : Addr) (its : Array Value) (n : Nat) (dct : Option Addr) (sl : Array (Option Value)) :
    Meets (Builtin.«enumerate.__new__» ⟨[.type "enumerate", .ref l], []⟩) (fun _ R s => s.heap.get? l = some { cls := .type "tuple", dict := dct, data := .seq its n, slots := sl } ∧
      R (.ok (.ret (.ref (s.heap.push { cls := .type "tuple_iterator", data := .fields #[.ref l, .int 0 0] }).objs.size)))
        { s with heap := (s.heap.push { cls := .type "tuple_iterator", data := .fields #[.ref l, .int 0 0] }).push { cls := .type "enumerate", data := .fields #[.none, .bool false, .ref s.heap.objs.size, rawInt 0, .none, .none] } }) :=
  .of_wp fun prog w A R s h => by
    obtain ⟨h0, g0, d0, t0, os0⟩ := s
    obtain ⟨hl, h⟩ := h
    have hsub := sub_enumerate
    have hT : Heap.IsTuple (Shared.heap ⟨h0, g0, d0, t0, os0⟩) l its := ⟨_, hl, rfl, n, rfl⟩
    wp_walk using wpAny_loadPart' hl
    refine wpAny_stack_any fun st => wpAny_pure ?_
    split
    · rename_i c _ _ _ _ _
      cases (c == Value.type "enumerate")
      · wp_walk using wpAny_loadPart' hl, wpAny_pyIter_tuple hT
        exact ⟨_, rfl, h⟩
      · wp_walk using wpAny_loadPart' hl, wpAny_pyIter_tuple hT
        exact ⟨_, rfl, h⟩
    · wp_walk using wpAny_loadPart' hl, wpAny_pyIter_tuple hT
      exact ⟨_, rfl, h⟩
theorem call_enumT {l : Addr} {its : Array Value} {Q : Value → Shared → Prop} (hT : s.heap.IsTuple l its)
    (h : ∀ h', IsEnum h' (s.heap.objs.size + 1) s.heap.objs.size 0 .none → h'.IsTupleIter s.heap.objs.size l 0 → (∀ b o, s.heap.get? b = some o → h'.get? b = some o) → Q (.ref (s.heap.objs.size + 1)) { s with heap := h' }) :
    wpAny (model prog w) A (call (.type "enumerate") [.ref l]) Q E s := by
  obtain ⟨⟨c, dct, dt, sl⟩, hl, hc, n, hd⟩ := hT
  replace hc : c = .type "tuple" := hc
  replace hd : dt = .seq its n := hd
  subst hc hd
  refine callType_new F.called_enumerate (by decide) (F.typeCall_enumerate_1 _) (F.newCall_enumerate_1 _) (fun obj => F.args_object_init_2 obj _) F.entry_enumerate_new (meets_enumT l its n dct sl) ⟨hl, ?_⟩
  have hz : (s.heap.push { cls := .type "tuple_iterator", data := .fields #[.ref l, .int 0 0] }).objs.size = s.heap.objs.size + 1 := Heap.size_push ..
  show _ ∧ _
  rw [hz]
  have he : IsEnum ((s.heap.push { cls := .type "tuple_iterator", data := .fields #[.ref l, .int 0 0] }).push { cls := .type "enumerate", data := .fields #[.none, .bool false, .ref s.heap.objs.size, rawInt 0, .none, .none] }) (s.heap.objs.size + 1) s.heap.objs.size 0 .none := by
    have := Heap.get?_push_size (s.heap.push { cls := .type "tuple_iterator", data := .fields #[.ref l, .int 0 0] }) (o := { cls := .type "enumerate", data := .fields #[.none, .bool false, .ref s.heap.objs.size, rawInt 0, .none, .none] }) rfl
    rw [hz] at this; exact this
  exact ⟨⟨_, he, rfl⟩, h _ he ⟨_, Heap.get?_push_of_some _ (Heap.get?_push_size _ rfl), rfl, rfl⟩ fun b o x => Heap.get?_push_of_some _ (Heap.get?_push_of_some _ x)⟩
end
noncomputable def IteT (K : PySem.W.Frag) (a : Addr) : It :=
  ⟨fun i H => ∃ xs x, SqT K H a xs ∧ xs[i]? = some x, fun i H v H' => ∃ p x, H p = none ∧ v = .ref p ∧ (∀ xs, SqT K H a xs → xs[i]? = some x) ∧ H' = upd H p (.tup [.int i, x]), fun i H => ∃ xs, SqT K H a xs ∧ xs.length ≤ i⟩
theorem turn_enumT {P : Program} {w : World} {K : PySem.W.Frag} {elts : List Expr} {k : Nat} {tp : Pos} (a e it : Addr) (hne : e ≠ it) :
    Turn P w K (.Tuple elts k tp) (IteT K a) [e, it] e (fun i h => (∃ old, IsEnum h e it i old) ∧ h.IsTupleIter it a i) where
  mem := by simp
  obj := fun i h st b hb => by
    obtain ⟨⟨old, he⟩, hit⟩ := st
    have hb : b = e ∨ b = it := by simpa using hb
    rcases hb with z | z
    · subst z
      exact ⟨_, he, fun v z => by cases z⟩
    · subst z
      obtain ⟨o, e1, c, d⟩ := hit
      exact ⟨o, e1, fun v z => by rw [d] at z; cases z⟩
  keep := fun i h h' st kk => by
    obtain ⟨⟨old, he⟩, hit⟩ := st
    exact ⟨⟨old, kk e (by simp) _ he⟩, let ⟨o, q, r⟩ := hit; ⟨o, kk it (by simp) o q, r⟩⟩
  item := by
    intro X hP hw hK hc i pins s σ H E I hf st hg
    subst hP hw hK
    obtain ⟨⟨old, he⟩, hit⟩ := st
    obtain ⟨xs, x, hq, hx⟩ := hg
    obtain ⟨its, rv, p, hz⟩ := I.tuple hq
    obtain ⟨u, hu, ru⟩ := rv.get hx
    obtain ⟨f0, f1, f2, f3, f4, f5⟩ := hf e (by simp)
    obtain ⟨g0, g1, g2, g3, g4, g5⟩ := hf it (by simp)
    have hel : e < s.heap.objs.size := Heap.lt_size he
    have hil : it < s.heap.objs.size := by obtain ⟨o, q, _⟩ := hit; exact Heap.lt_size q
    have hae : a ≠ e := fun z => by
      obtain ⟨o, q, c, _⟩ := p
      rw [z, he] at q; cases q; simp at c
    have hai : a ≠ it := fun z => by
      obtain ⟨o, q, c, _⟩ := p
      obtain ⟨o', q', c', _⟩ := hit
      rw [z, q'] at q; cases q; rw [c] at c'; simp at c'
    have hul := (List.getElem?_eq_some_iff.mp hu).1
    refine wpAny_pyNext_enum_itemD (drawsT (A := X.A.in1) (show X.A.in1.handled = none from I.ok.hd hc) it a hai its.toArray) he ⟨hit, p⟩ (by simpa using hul) hne (by simp [hne, Ne.symm hae]) fun u' h1 tk hu' ho hit1 ht1 hz1 k1 => ?_
    have eu : u' = u := by
      have : its[i]? = some u' := by simpa using hu'
      rw [hu] at this
      exact (Option.some.inj this).symm
    subst eu
    refine ⟨_, rfl, wpAny_letOwnedTupleGo_enum ho fun h2 he2 sb2 => ?_⟩
    have sb2 : Heap.SameBut e h1 h2 := sb2
    have T2 : h2.get? s.heap.objs.size = some { cls := .type "tuple", data := .seq #[.int i tk, u'] } := (sb2.2 _ (Nat.ne_of_gt hel)).trans ht1
    have hp : H s.heap.objs.size = none := I.hok.fresh (Nat.le_refl _)
    have nit : ∀ b v, H b = some v → b ≠ e ∧ b ≠ it := fun b v q => ⟨fun z => (by rw [z, f0] at q; cases q), fun z => (by rw [z, g0] at q; cases q)⟩
    have kk : ∀ b o, b ≠ e → b ≠ it → s.heap.get? b = some o → h2.get? b = some o := fun b o n1 n2 q => (sb2.2 b n1).trans (k1 b o n1 n2 q)
    have up : ∀ b v, H b = some v → upd H s.heap.objs.size (.tup [.int i, x]) b = some v := fun b v q => by rw [upd_ne (ne_of_none q hp)]; exact q
    have I1 : Inv X pins σ (upd H s.heap.objs.size (.tup [.int i, x])) { s with heap := h2, gens := s.gens, drawn := s.drawn, toks := tk + 1 } := by
      refine I.step (g' := s.gens) (d' := s.drawn) (ch := [e, it]) (fun b hb => ?_) (fun b o _ _ hb q _ => kk b o (fun z => hb (by simp [z])) (fun z => hb (by simp [z])) q) (fun b o _ _ hb q _ => ⟨o.slots, kk b o (fun z => hb (by simp [z])) (fun z => hb (by simp [z])) q⟩) (fun b o _ q n => ?_)
        (fun b o hb q => ⟨o, kk b o (fun z => hb (by simp [z])) (fun z => hb (by simp [z])) q⟩) (fun b ys q => up b _ q) (fun b o v q => up b _ q) (fun b ps q => ⟨#[], by rw [up b _ q]; simp⟩) (fun m hm => ?_) (fun b v q => ?_) I.bare
      · have hb : b = e ∨ b = it := by simpa using hb
        rcases hb with z | z
        · subst z; exact ⟨f3, f1, f4, f5⟩
        · subst z; exact ⟨g3, g1, g4, g5⟩
      · rw [upd_ne (Nat.ne_of_lt (Heap.lt_size q))]; exact n
      · obtain ⟨o, es, ep, ho, r⟩ := hm
        exact ⟨o, es, ep, kk _ o (Ne.symm f1) (Ne.symm g1) ho, r⟩
      · by_cases hb : b = s.heap.objs.size
        · subst hb
          rw [upd_same] at q
          have q' : HO.tup [V.int i, x] = v := Option.some.inj q
          subst q'
          exact ⟨by show 2 ≤ sizeLine; decide, [.int i tk, u'], .cons ⟨_, rfl⟩ (.cons ru .nil), ⟨_, T2, rfl, _, rfl, rfl⟩⟩
        · rw [upd_ne hb] at q
          refine (I.hok b v q).stay (fun c v' hc q' => ?_) (fun c q => up c _ q) fun c ys q => up c _ q
          rcases hc with z | z
          · rw [z] at q' ⊢; exact kk b v' (nit b v q).1 (nit b v q).2 q'
          · exact kk c v' (nit c _ z).1 (nit c _ z).2 q'
    refine ⟨.ref s.heap.objs.size, upd H s.heap.objs.size (.tup [.int i, x]), I1, rfl, ⟨_, x, hp, rfl, fun ys hy => by rw [I.tuple_inj hy hq]; exact hx, rfl⟩, ⟨⟨u', ?_⟩, ?_⟩, fun b hb => ?_⟩
    · exact (by simpa using he2)
    · obtain ⟨o, q, r⟩ := hit1.1
      exact ⟨o, (sb2.2 it (Ne.symm hne)).trans q, r⟩
    · have hb : b = e ∨ b = it := by simpa using hb
      rcases hb with z | z
      · rw [z, upd_ne (Nat.ne_of_lt hel)]; exact f0
      · rw [z, upd_ne (Nat.ne_of_lt hil)]; exact g0
  done := by
    intro X hP hw hK hc i pins s σ H E I hf st hg
    subst hP hw hK
    obtain ⟨⟨old, he⟩, hit⟩ := st
    obtain ⟨xs, hq, hx⟩ := hg
    obtain ⟨its, rv, p, hz⟩ := I.tuple hq
    obtain ⟨g0, g1, g2, g3, g4, g5⟩ := hf it (by simp)
    have hl := rv.length
    have hT : s.TypeIs (.ref e) "enumerate" := ⟨_, he, rfl⟩
    unfold pyNext
    refine wpAny_bind (wpAny_attempt (wpAny_callSpecial?_slot (name := Str.ofString "__next__") hT F.slot_enumerate_next (wpAny_call_entry F.slot_enumerate_next hT F.entry_enumerate_next ?_ (F.args_enumerate_next_1 _))))
    show wpAny _ _ (field (.ref e) 2 >>= _) _ _ _
    refine wpAny_bind (wpAny_field he rfl (x := .ref it) rfl (wpAny_bind (nextT_end (I.ok.hd hc) hit p (by simp; omega) fun h' x he' hx' => ?_)))
    obtain ⟨o, ho, hc'⟩ := hx'
    refine wpAny_bind (wpAny_isInstance (T := "StopIteration") (b := true) ⟨o, ho, hc'⟩ isSubtype_stop ?_)
    exact wpAny_pure ⟨rfl, I.turned (t' := s.toks) (fun b o hb q => he' b o hb q) g0 g1 g3 g4 g5⟩
  self := fun _ _ _ _ _ st h => by
    obtain ⟨⟨old, he⟩, _⟩ := st
    exact wpAny_pyIter_enum he h
inductive EnmR (K : PySem.W.Frag) (H : Hp) : V → (It → Hp → Prop) → Prop
  | lst {a : Addr} {xs : List V} {R : It → Hp → Prop} : SqL K H a xs → R (Ite K a) H → EnmR K H (.ref a) R
  | tup {a : Addr} {xs : List V} {R : It → Hp → Prop} : SqT K H a xs → R (IteT K a) H → EnmR K H (.ref a) R
noncomputable def iEnumX (K : PySem.W.Frag) (ta : TA) : TI := fun σ H R => ta σ H fun vs H1 => ∃ x, vs = [x] ∧ EnmR K H1 x R
theorem pi_enumX (K : PySem.W.Frag) {X : Cx} {elts : List Expr} {k : Nat} {tp : Pos} {a : Expr} {ta : TA} {p pos : Pos} (hg : Gl X "enumerate") (hm : X.mg "enumerate" = none) (ha : PA X [a] ta) (hs : starEach [a] X.env = [(false, eval a X.env)] := by rfl) (hK : X.K = K := by rfl) :
    PI X (.Tuple elts k tp) (.Call (.Name "enumerate" p) [a] [] pos) (iEnumX K ta) := by
  subst hK
  intro pins s σ H R I h
  refine Call_ (ld_blt I hg hm boot_enumerate (PyProof.Rows.callWith_type1 (thn (ha pos pins s σ H _ I h) fun us s1 ⟨vs, H1, I1, r1, q1⟩ => ?_) hs rfl))
  obtain ⟨x, e, q⟩ := q1
  subst e
  obtain ⟨u, rfl, ru⟩ := vals1 r1
  have fin : ∀ b, b = s1.heap.objs.size + 1 ∨ b = s1.heap.objs.size → FpOk X pins H1 b := fun b hb => by
    rcases hb with z | z
    · subst z; exact I1.fpOk (Nat.le_succ _) (I1.hok.fresh (Nat.le_succ _))
    · subst z; exact I1.fpOk (Nat.le_refl _) (I1.hok.fresh (Nat.le_refl _))
  cases q with
  | lst hq q =>
    cases ru
    obtain ⟨its, rv, pl, hz⟩ := I1.list hq
    refine call_enumerate_list pl.isList fun h' he hit hz' k' => wpAny_pyIter_enum (s := { s1 with heap := h' }) he ?_
    exact ⟨_, [s1.heap.objs.size + 1, s1.heap.objs.size], _, _, H1, rfl, I1.kept (t' := s1.toks) k', turn_enum _ _ _ (Nat.succ_ne_self _), ⟨⟨_, he⟩, hit⟩, fun b hb => fin b (by simpa using hb), q⟩
  | tup hq q =>
    cases ru
    obtain ⟨its, rv, pl, hz⟩ := I1.tuple hq
    refine call_enumT pl fun h' he hit k' => wpAny_pyIter_enum (s := { s1 with heap := h' }) he ?_
    exact ⟨_, [s1.heap.objs.size + 1, s1.heap.objs.size], _, _, H1, rfl, I1.kept (t' := s1.toks) k', turn_enumT _ _ _ (Nat.succ_ne_self _), ⟨⟨_, he⟩, hit⟩, fun b hb => fin b (by simpa using hb), q⟩
theorem for_enumT {K : PySem.W.Frag} {a : Addr} {xs : List V} {g : TG} {tb : TS} {D : Ends} {σ : St} {H : Hp} (Pv : Nat → St → Hp → Prop) (h0 : Pv 0 σ H) (hl : ∀ i σ H, i ≤ xs.length → Pv i σ H → SqT K H a xs)
    (hs : ∀ i x σ H p, xs[i]? = some x → Pv i σ H → H p = none → g (.ref p) σ (upd H p (.tup [.int i, x])) fun σ2 H2 => tb { D with nx := Pv (i + 1), ct := Pv (i + 1), bk := D.nx } σ2 H2) (hd : ∀ σ H, Pv xs.length σ H → D.nx σ H) :
    ∃ W : Nat → Nat → St → Hp → Prop, (∃ m, W 0 m σ H) ∧ ∀ i m σ H, W i m σ H →
      ((IteT K a).stop i H ∧ D.nx σ H) ∨ ((IteT K a).go i H ∧ ∃ N : St → Hp → Prop, (∀ σ' H', N σ' H' → ∃ m', m' < m ∧ W (i + 1) m' σ' H') ∧ ∀ x H', (IteT K a).yld i H x H' → g x σ H' fun σ2 H2 => tb { D with nx := N, ct := N, bk := D.nx } σ2 H2) := by
  refine ⟨fun i m σ H => m = xs.length - i ∧ i ≤ xs.length ∧ Pv i σ H, ⟨xs.length, by simp, Nat.zero_le _, h0⟩, ?_⟩
  rintro i m σ H ⟨rfl, hi, p⟩
  have q := hl i σ H hi p
  by_cases hlt : i < xs.length
  · refine .inr ⟨⟨xs, xs[i], q, by simp [hlt]⟩, Pv (i + 1), fun σ' H' p' => ⟨xs.length - (i + 1), by omega, rfl, hlt, p'⟩, fun x H' y => ?_⟩
    obtain ⟨r, z, hr, rfl, hz, rfl⟩ := y
    exact hs i z σ H r (hz xs q) p hr
  · have e : i = xs.length := by omega
    subst e
    exact .inl ⟨⟨xs, q, Nat.le_refl _⟩, hd σ H p⟩
end L2
namespace L2
open PySem PySem.Spec PyProof.Rows
inductive Thg (H : Hp) : V → Prop
  | non : Thg H .non
  | bl (b : Bool) : Thg H (.bl b)
  | int (i : Int) : Thg H (.int i)
  | str {z : Str} : z.length ≤ sizeLine → Thg H (.str z)
  | lst {a : Addr} {xs : List V} : H a = some (.lst xs) → Thg H (.ref a)
  | tup {a : Addr} {xs : List V} : H a = some (.tup xs) → Thg H (.ref a)
  | dK {a : Addr} {kvs : List (Key × V)} : H a = some (.dK kvs) → Thg H (.ref a)
  | dT {a : Addr} {kvs : List (List Key × V)} : H a = some (.dT kvs) → Thg H (.ref a)
theorem Thg.same {H H' : Hp} {x : V} (h : Thg H x) (s : Same H H') : Thg H' x := by
  cases h with
  | non => exact .non
  | bl b => exact .bl b
  | int i => exact .int i
  | str z => exact .str z
  | lst e => exact .lst (s _ _ e)
  | tup e => exact .tup (s _ _ e)
  | dK e => exact .dK (s _ _ e)
  | dT e => exact .dT (s _ _ e)
noncomputable def isS : V → Bool
  | .str _ => true
  | _ => false
noncomputable def isI : V → Bool
  | .int _ | .bl _ => true
  | _ => false
noncomputable def isB : V → Bool
  | .bl _ => true
  | _ => false
noncomputable def isL (H : Hp) : V → Bool
  | .ref a => match H a with
    | some (.lst _) => true
    | _ => false
  | _ => false
noncomputable def isT (H : Hp) : V → Bool
  | .ref a => match H a with
    | some (.tup _) => true
    | _ => false
  | _ => false
theorem isL_of {H : Hp} {a : Addr} {xs : List V} (e : H a = some (.lst xs)) : isL H (.ref a) = true := by show (match H a with | some (.lst _) => true | _ => false) = true; rw [e]
theorem isT_of {H : Hp} {a : Addr} {xs : List V} (e : H a = some (.tup xs)) : isT H (.ref a) = true := by show (match H a with | some (.tup _) => true | _ => false) = true; rw [e]
theorem isL_not {H : Hp} {a : Addr} {o : HO} (e : H a = some o) (n : ∀ xs, o ≠ .lst xs) : isL H (.ref a) = false := by
  show (match H a with | some (.lst _) => true | _ => false) = false
  rw [e]; split
  · rename_i xs q; exact absurd (Option.some.inj q) (n xs)
  · rfl
theorem isT_not {H : Hp} {a : Addr} {o : HO} (e : H a = some o) (n : ∀ xs, o ≠ .tup xs) : isT H (.ref a) = false := by
  show (match H a with | some (.tup _) => true | _ => false) = false
  rw [e]; split
  · rename_i xs q; exact absurd (Option.some.inj q) (n xs)
  · rfl
theorem ty_thg {K : PySem.W.Frag} {H : Hp} {x : V} (h : Thg H x) : ∃ t, TyOf K H x t ∧ PySem.W.kitOne K t (.type "str") = some (isS x) ∧ PySem.W.kitOne K t (.type "int") = some (isI x) ∧ PySem.W.kitOne K t (.type "bool") = some (isB x) ∧
    PySem.W.kitOne K t (.type "list") = some (isL H x) ∧ PySem.W.kitOne K t (.type "tuple") = some (isT H x) := by
  cases h with
  | non => exact ⟨_, .non, by rfl, by rfl, by rfl, by rfl, by rfl⟩
  | bl b => exact ⟨_, .bl b, by rfl, by rfl, by rfl, by rfl, by rfl⟩
  | int i => exact ⟨_, .int i, by rfl, by rfl, by rfl, by rfl, by rfl⟩
  | str z => exact ⟨_, .str _, by rfl, by rfl, by rfl, by rfl, by rfl⟩
  | lst e => exact ⟨_, .lst e, by rfl, by rfl, by rfl, by rw [isL_of e]; rfl, by rw [isT_not e (fun _ z => by cases z)]; rfl⟩
  | tup e => exact ⟨_, .tup e, by rfl, by rfl, by rfl, by rw [isL_not e (fun _ z => by cases z)]; rfl, by rw [isT_of e]; rfl⟩
  | dK e => exact ⟨_, .dK e, by rfl, by rfl, by rfl, by rw [isL_not e (fun _ z => by cases z)]; rfl, by rw [isT_not e (fun _ z => by cases z)]; rfl⟩
  | dT e => exact ⟨_, .dT e, by rfl, by rfl, by rfl, by rw [isL_not e (fun _ z => by cases z)]; rfl, by rw [isT_not e (fun _ z => by cases z)]; rfl⟩
noncomputable def isLow (c : Nat) : Bool := decide (97 ≤ c) && decide (c ≤ 122)
noncomputable def isNm : V → Bool
  | .str z => decide (1 ≤ z.length) && (decide (z.length ≤ 8) && z.cps.toList.all isLow)
  | _ => false
theorem isNm_iff {z : Str} : isNm (.str z) = true ↔ Nm z := by
  show (decide (1 ≤ z.length) && (decide (z.length ≤ 8) && z.cps.toList.all isLow)) = true ↔ _
  rw [Bool.and_eq_true, Bool.and_eq_true, decide_eq_true_iff, decide_eq_true_iff, List.all_eq_true]
  unfold Nm
  constructor
  · rintro ⟨h1, h2, h3⟩
    refine ⟨h1, h2, fun c hc => ?_⟩
    have h := h3 c hc
    unfold isLow at h
    rw [Bool.and_eq_true, decide_eq_true_iff, decide_eq_true_iff] at h
    exact h
  · rintro ⟨h1, h2, h3⟩
    refine ⟨h1, h2, fun c hc => ?_⟩
    unfold isLow
    rw [Bool.and_eq_true, decide_eq_true_iff, decide_eq_true_iff]
    exact h3 c hc
theorem lt_one (c d : Nat) : decide ([c] < [d]) = decide (c < d) := by
  by_cases h : c < d
  · rw [decide_eq_true h]; exact decide_eq_true (List.Lex.rel h)
  · rw [decide_eq_false h]
    refine decide_eq_false fun z => ?_
    cases z with
    | rel z => exact h z
    | cons z => cases z
noncomputable def spIsName : Sp := fun vs H Q _ => ∃ x, vs = [x] ∧ Thg H x ∧ ∀ H', Same H H' → Q (.bl (isNm x)) H'
noncomputable def pK (e : Str × Str) : List Key := [.inr e.1, .inr e.2]
theorem pK_inj {e f : Str × Str} (h : pK e = pK f) : e = f := by
  unfold pK at h
  have h1 := List.cons.inj h
  have h2 := List.cons.inj h1.2
  exact Prod.ext (Sum.inr.inj h1.1) (Sum.inr.inj h2.1)
inductive PlR (H : Hp) : V → VK → Prop
  | nm {a : Addr} {xs : List Str} {Q : VK} : (H a = some (.lst (List.map V.str xs)) ∨ H a = some (.tup (List.map V.str xs))) → xs.length ≤ 1000 →
      (∀ d kvs H', Same H H' → H d = none → H' d = some (.dK kvs) → (∀ s, (valV kvs (.inr s)).isSome = true ↔ s ∈ xs) → (∀ s v, valV kvs (.inr s) = some v → ∃ j : Nat, v = .int j ∧ xs[j]? = some s) → (kvs.map (·.1)).Nodup → (∀ k ∈ kvs.map (·.1), ∃ s ∈ xs, k = Sum.inr s) → Q (.ref d) H') → PlR H (.ref a) Q
  | pr {a : Addr} {refs : List V} {ps : List (Str × Str)} {Q : VK} : (H a = some (.lst refs) ∨ H a = some (.tup refs)) → RepAll H refs (ps.map pairD) → ps.length ≤ 1000 →
      (∀ d kvs H', Same H H' → H d = none → H' d = some (.dT kvs) → (∀ e : Str × Str, (valV kvs (pK e)).isSome = true ↔ e ∈ ps) → Q (.ref d) H') → PlR H (.ref a) Q
noncomputable def spPlacesX : Sp := fun vs H Q _ => ∃ x, vs = [x] ∧ PlR H x Q
section
variable {X : Cx} {p pos p2 pos2 : Pos} {e f : Expr} {t : TA}
inductive IntR (H : Hp) : V → VK → Prop
  | int {i : Int} {Q : VK} : Q (.int i) H → IntR H (.int i) Q
  | bl {b : Bool} {Q : VK} : Q (.int (if b then 1 else 0)) H → IntR H (.bl b) Q
theorem b_int (B : Blt X.mg) (ha : PA X [e] t) (hg : Gl X "int" := by rfl) (he : starEach [e] X.env = (false, eval e X.env) :: starEach [] X.env := by rfl) (hpl : (backTo pos (starEach [] X.env)).any (·.1) = false := by rfl) :
    PE X (.Call (.Name "int" p) [e] [] pos) (tCB (fun xs H Q => ∃ x, xs = [x] ∧ IntR H x Q) t) := by
  refine pe_callTy (r := fun xs H Q => ∃ x, xs = [x] ∧ IntR H x Q) (fun pins s σ H xs us Q I r h => ?_) hg B.int PyProof.Rows.boot_int ha (by decide) (by decide) he hpl
  obtain ⟨x, rfl, h⟩ := h
  cases h with
  | int q => exact call_int1 pins s σ H _ us Q I r (.inl ⟨_, rfl, q⟩)
  | bl q => exact call_int1 pins s σ H _ us Q I r (.inr ⟨_, rfl, q⟩)
theorem g_tuple (B : Blt X.mg) (hg : Gl X "tuple" := by rfl) : PE X (.Name "tuple" p) (tC (.ty "tuple")) := pe_bltn hg B.tuple (show bootBuiltins "tuple" = some (.type "tuple") by decide +kernel) rfl
noncomputable def rIsi2 (K : PySem.W.Frag) (c d : String) : List V → Hp → VK → Prop := fun xs H Q => ∃ x a t b, xs = [x, .ref a] ∧ H a = some (.tup [.ty c, .ty d]) ∧ TyOf K H x t ∧ PySem.W.kitAny K t [.type c, .type d] = some b ∧ Q (.bl b) H
theorem isinst_tup {pins : List (Addr × Obj)} {σ : St} {H : Hp} {s : Shared} {A : Around} {E : Value → Shared → Prop} {Q : Value → Shared → Prop} {x : V} {u t : Value} {tp : Addr} {dd : Option Addr} {its : List Value} {n : Nat} {sl : Array (Option Value)} {b : Bool}
    (I : Inv X pins σ H s) (rx : RelV x u) (ty : TyOf X.K H x t) (htp : s.heap.get? tp = some ⟨.type "tuple", dd, .seq its.toArray n, sl⟩) (e : PySem.W.kitAny X.K t its = some b) (h : ∀ tk, Q (.bool b) { s with toks := tk }) :
    wpAny (model X.prog X.w) A (call (.builtin "isinstance") [u, .ref tp]) Q E s := by
  cases ty with
  | non => cases (show u = Value.none from rx); exact PySem.W.kia_tup PySem.W.kitx_none I.kIn True.intro htp e (fun z => nomatch z) h
  | bl y => cases (show u = Value.bool y from rx); exact PySem.W.kia_tup PySem.W.kitx_bool I.kIn True.intro htp e (fun z => nomatch z) h
  | int i => obtain ⟨t, q⟩ := (show ∃ t, u = Value.int i t from rx); cases q; exact PySem.W.kia_tup PySem.W.kitx_int I.kIn True.intro htp e (fun z => nomatch z) h
  | str y => obtain ⟨t, q⟩ := (show ∃ t, u = Value.str y t from rx); cases q; exact PySem.W.kia_tup PySem.W.kitx_str I.kIn True.intro htp e (fun z => nomatch z) h
  | flt y => obtain ⟨t, q⟩ := (show ∃ t, u = Value.float y t from rx); cases q; exact PySem.W.kia_tup PySem.W.kitx_float I.kIn True.intro htp e (fun z => nomatch z) h
  | @lst a xs ea =>
    cases (show u = Value.ref a from rx)
    obtain ⟨_, _, n, _, h1⟩ := (show ObjOk X.prog X.w H s.heap a (.lst xs) from I.hok a _ ea)
    exact PySem.W.kia_tup PySem.W.kitx_list I.kIn ⟨_, h1, rfl⟩ htp e (fun z => nomatch z) h
  | @frz a ob xs ea =>
    cases (show u = Value.ref a from rx)
    obtain ⟨_, _, _, n, _, h1⟩ := (show ObjOk X.prog X.w H s.heap a (.frz ob (.lst xs)) from I.hok a _ ea)
    exact PySem.W.kia_tup PySem.W.kitx_list I.kIn ⟨_, h1, rfl⟩ htp e (fun z => nomatch z) h
  | @tup a xs ea =>
    cases (show u = Value.ref a from rx)
    obtain ⟨_, _, _, p⟩ := (show ObjOk X.prog X.w H s.heap a (.tup xs) from I.hok a _ ea)
    obtain ⟨o, h1, h2, _⟩ := p
    exact PySem.W.kia_tup PySem.W.kitx_tuple I.kIn ⟨o, h1, h2⟩ htp e (fun z => nomatch z) h
  | @dK a kvs ea =>
    cases (show u = Value.ref a from rx)
    obtain ⟨_, _, vs, _, p⟩ := (show ObjOk X.prog X.w H s.heap a (.dK kvs) from I.hok a _ ea)
    obtain ⟨o, es, ep, h1, h2, _⟩ := p
    exact PySem.W.kia_tup PySem.W.kitx_dict I.kIn ⟨o, h1, h2.1⟩ htp e (fun z => nomatch z) h
  | @dT a kvs ea =>
    cases (show u = Value.ref a from rx)
    obtain ⟨_, _, xs, _, o, es, ep, h1, h2, _⟩ := (show ObjOk X.prog X.w H s.heap a (.dT kvs) from I.hok a _ ea)
    exact PySem.W.kia_tup PySem.W.kitx_dict I.kIn ⟨o, h1, h2.1⟩ htp e (fun z => nomatch z) h
  | @ins a C dx fs ea cl ha hn htk hm =>
    cases (show u = Value.ref a from rx)
    obtain ⟨mA, O, _⟩ := ins_get I.hok ea
    obtain ⟨od, J, _⟩ := O.look
    exact PySem.W.kia_tup (PySem.W.kitx_own (cl.get _) cl.hd ha hn htk hm) I.kIn J htp e (fun z => nomatch z) h
theorem call_isi2 (c d : String) : CallR X (.builtin "isinstance") (rIsi2 X.K c d) := by
  intro pins s σ H xs us Q I r h
  obtain ⟨x, a, t, b, rfl, ea, ty, e, q⟩ := h
  obtain ⟨u, w', rfl, ru, rw'⟩ := vals2 r
  cases rw'
  obtain ⟨_, its, rv, ⟨oc, od, odt, osl⟩, h1, h2, n, h3, _⟩ := (show ObjOk X.prog X.w H s.heap a (.tup [.ty c, .ty d]) from I.hok a _ ea)
  have h2 : oc = .type "tuple" := h2
  have h3 : odt = .seq its.toArray n := h3
  subst h2 h3
  obtain ⟨u1, u2, rfl, r1, r2⟩ := vals2 rv
  cases r1
  cases r2
  exact isinst_tup I ru ty h1 e fun tk => ⟨.bl b, H, I.tok tk, rfl, q⟩
theorem b_isi2 (K : PySem.W.Frag) (c d : String) (B : Blt X.mg) (ha : PA X [e, f] t) (hg : Gl X "isinstance" := by rfl) (he : starEach [e, f] X.env = (false, eval e X.env) :: starEach [f] X.env := by rfl) (hpl : (backTo pos (starEach [f] X.env)).any (·.1) = false := by rfl) (hK : X.K = K := by rfl) : PE X (.Call (.Name "isinstance" p) [e, f] [] pos) (tCB (rIsi2 K c d) t) :=
  hK ▸ pe_callB (call_isi2 c d) hg B.isinstance boot_isinstance ha (by decide) (by decide) he hpl
end
theorem kit_lt {K : PySem.W.Frag} {H : Hp} {x : V} {t : Value} (h1 : PySem.W.kitOne K t (.type "list") = some (isL H x)) (h2 : PySem.W.kitOne K t (.type "tuple") = some (isT H x)) : PySem.W.kitAny K t [.type "list", .type "tuple"] = some (isL H x || isT H x) := by
  unfold PySem.W.kitAny
  rw [h1]
  cases isL H x with
  | true => rfl
  | false =>
    show PySem.W.kitAny K t [.type "tuple"] = _
    unfold PySem.W.kitAny
    rw [h2]
    cases isT H x <;> rfl
end L2
namespace MG
variable {es : List (Nat × Nat)} {goal : Nat}
end MG
namespace L2
open PySem PySem.Spec PyProof.Rows
section
variable {X : Cx} {p pos : Pos} {e : Expr} {t : TA}
noncomputable def rLenD : List V → Hp → VK → Prop := fun xs H Q => ∃ a kvs, xs = [V.ref a] ∧ H a = some (.dK kvs) ∧ Q (.int kvs.length) H
theorem b_lenD (B : Blt X.mg) (ha : PA X [e] t) (hg : Gl X "len" := by rfl) (he : starEach [e] X.env = (false, eval e X.env) :: starEach [] X.env := by rfl) (hpl : (backTo pos (starEach [] X.env)).any (·.1) = false := by rfl) : PE X (.Call (.Name "len" p) [e] [] pos) (tCB rLenD t) :=
  pe_callB call_lenD hg B.len PySem.boot_len ha (by decide) (by decide) he hpl
end
theorem eqv_str (x y : Str) : PyData.eqv (.str x) (.str y) = decide (x = y) := by
  show (x == y) = _
  by_cases h : x = y
  · subst h; simp
  · rw [decide_eq_false h]; simpa using h
theorem twice_of {α : Type} [DecidableEq α] : ∀ {l : List α}, ¬ l.Nodup → ∃ l1 a l2, l = l1 ++ a :: l2 ∧ a ∈ l2
  | [], h => absurd List.nodup_nil h
  | x :: l, h => by
    by_cases q : x ∈ l
    · exact ⟨[], x, l, rfl, q⟩
    · have h : ¬ l.Nodup := fun z => h (List.nodup_cons.mpr ⟨q, z⟩)
      obtain ⟨l1, a, l2, e, m⟩ := twice_of h
      exact ⟨x :: l1, a, l2, by rw [e]; rfl, m⟩
theorem len_keys {α : Type} [DecidableEq α] {ks ws : List α} (nd : ks.Nodup) (h1 : ∀ k ∈ ks, k ∈ ws) (h2 : ∀ w ∈ ws, w ∈ ks) : ks.length = ws.length ↔ ws.Nodup := by
  constructor
  · intro hl
    refine Classical.byContradiction fun hn => ?_
    obtain ⟨l1, a, l2, e, m⟩ := twice_of hn
    have := nd.length_le_of_subset (l₂ := l1 ++ l2) fun k hk => by
      have := h1 k hk
      rw [e] at this
      rcases List.mem_append.mp this with q | q
      · exact List.mem_append_left _ q
      · rcases List.mem_cons.mp q with q | q
        · rw [q]; exact List.mem_append_right _ m
        · exact List.mem_append_right _ q
    rw [hl, e, List.length_append, List.length_append, List.length_cons] at this
    omega
  · intro hw
    exact Nat.le_antisymm (nd.length_le_of_subset h1) (hw.length_le_of_subset h2)
theorem len_kvs {kvs : List (Key × V)} {ws : List Str} (nd : (kvs.map (·.1)).Nodup) (ks : ∀ k ∈ kvs.map (·.1), ∃ s ∈ ws, k = Sum.inr s) (hin : ∀ s, (valV kvs (.inr s)).isSome = true ↔ s ∈ ws) : kvs.length = ws.length ↔ ws.Nodup := by
  have h := len_keys (ks := kvs.map (·.1)) (ws := ws.map (Sum.inr : Str → Key)) nd (fun k hk => by
      obtain ⟨s, hs, rfl⟩ := ks k hk
      exact List.mem_map.mpr ⟨s, hs, rfl⟩) (fun k hk => by
      obtain ⟨s, hs, rfl⟩ := List.mem_map.mp hk
      obtain ⟨v, hv⟩ := Option.isSome_iff_exists.mp ((hin s).mpr hs)
      exact valV_in hv)
  rw [List.length_map, List.length_map] at h
  rw [h]
  constructor
  · intro q
    exact List.Pairwise.of_map (Sum.inr : Str → Key) (fun a b n e => n (by rw [e])) q
  · intro q
    exact List.Pairwise.map _ (fun a b n e => n (Sum.inr.inj e)) q
end L2
namespace L2
open PySem PySem.Spec PyProof.Rows PySem.Builtin PySem.Builtin.Str
theorem idx_len (i j n : Nat) : (strSliceIndices (some (i : Int)) (some (j : Int)) 1 n).length ≤ j - i := by
  unfold strSliceIndices sliceRange
  simp only [show (1 : Int) > 0 by decide, if_true, List.length_map, List.length_range]
  split <;> (try simp only [Int.ediv_one]) <;> (repeat' split) <;> (try simp only [List.length_map, List.length_range, Int.ediv_one, List.length_nil]) <;> omega
theorem slice_len (z : Str) (i j : Nat) : (Txt.slice z (some (i : Int)) (some (j : Int))).length ≤ j - i := by
  unfold Txt.slice
  have h := idx_len i j z.length
  split
  · rename_i q
    have q : (strSliceIndices (some (i : Int)) (some (j : Int)) 1 z.length).length = z.length := by simpa using q
    omega
  · show (List.filterMap _ _).toArray.size ≤ _
    rw [List.size_toArray]
    exact Nat.le_trans (List.length_filterMap_le _ _) h
theorem slice_to {z : Str} {j : Nat} (h : j ≤ z.length) : (Txt.slice z none (some (j : Int))).length = j := by
  have e : Txt.slice z none (some (j : Int)) = StrLaws.sliceText z none (some (j : Int)) := rfl
  rw [e, StrLaws.sliceText_to ⟨by omega, by simp [Str.length] at h ⊢; omega⟩]
  show (List.take _ _).toArray.size = j
  rw [List.size_toArray]
  simp [Str.length] at h ⊢
  omega
theorem slice_toL (z : Str) (j : Nat) : (Txt.slice z none (some (j : Int))).length ≤ j := by
  by_cases h : j ≤ z.length
  · exact Nat.le_of_eq (slice_to h)
  · exact Nat.le_trans (Txt.slice_le z _ _) (by omega)
theorem mid_inj {x y : Str} {c d : Nat} (h : (x ++ ⟨#[c]⟩ ++ y : Str) = x ++ ⟨#[d]⟩ ++ y) : c = d := by
  have h : (x.cps ++ #[c] ++ y.cps).toList = (x.cps ++ #[d] ++ y.cps).toList := congrArg (fun s : Str => s.cps.toList) h
  simp only [Array.toList_append, List.append_assoc, List.append_cancel_left_eq] at h
  simpa using h
theorem mid2_inj {x y : Str} {c d c' d' : Nat} (h : (x ++ ⟨#[c]⟩ ++ ⟨#[d]⟩ ++ y : Str) = x ++ ⟨#[c']⟩ ++ ⟨#[d']⟩ ++ y) : c = c' ∧ d = d' := by
  have h : (x.cps ++ #[c] ++ #[d] ++ y.cps).toList = (x.cps ++ #[c'] ++ #[d'] ++ y.cps).toList := congrArg (fun s : Str => s.cps.toList) h
  simp only [Array.toList_append, List.append_assoc, List.append_cancel_left_eq] at h
  simpa using h
noncomputable def Lo (t : Str) : Prop := ∀ x ∈ t.cps.toList, 97 ≤ x ∧ x ≤ 122
theorem Lo.nil : Lo "" := fun c hc => by
  have hc : c ∈ ("" : Str).cps.toList := hc
  rw [show ("" : Str).cps.toList = [] by decide +kernel] at hc
  cases hc
theorem Lo.one {c : Nat} (h : 97 ≤ c ∧ c ≤ 122) : Lo ⟨#[c]⟩ := fun d hd => by
  have : d = c := by simpa using hd
  omega
theorem Lo.app {x y : Str} (hx : Lo x) (hy : Lo y) : Lo (x ++ y) := fun c hc => by
  have hc : c ∈ (x.cps ++ y.cps).toList := hc
  rw [Array.toList_append] at hc
  rcases List.mem_append.mp hc with h | h
  · exact hx c h
  · exact hy c h
theorem Lo.slice {x : Str} (h : Lo x) (l u : Option Int) : Lo (Txt.slice x l u) := by
  unfold Txt.slice
  split
  · exact h
  · intro c hc
    have hc : c ∈ (List.filterMap (x.cps[·]?) (strSliceIndices l u 1 x.length)).toArray.toList := hc
    rw [List.toList_toArray] at hc
    obtain ⟨i, _, e⟩ := List.mem_filterMap.mp hc
    exact h c (by simpa using Array.mem_of_getElem? e)
theorem Lo.joinS {sep : Str} (hs : Lo sep) : ∀ {ys : List Str}, (∀ y ∈ ys, Lo y) → Lo (Str.join sep ys)
  | [], _ => fun c hc => by
    have hc : c ∈ (#[] : Array Nat).toList := hc
    simp at hc
  | [y], h => h y (by simp)
  | y :: z :: r, h => by
    show Lo (y ++ sep ++ Str.join sep (z :: r))
    exact ((h y (by simp)).app hs).app (Lo.joinS hs fun x hx => h x (List.mem_cons_of_mem _ hx))
theorem Lo.join {sep : Str} {ys : List Str} (hs : Lo sep) (h : ∀ y ∈ ys, Lo y) : Lo (Txt.join sep ys) := by
  unfold Txt.join
  rw [StrLaws.glued_eq_join]
  exact Lo.joinS hs h
theorem Lo.nm {z : Str} (h : Lo z) (h1 : 1 ≤ z.length) (h2 : z.length ≤ 8) : Nm z := ⟨h1, h2, h⟩
noncomputable def abc (j : Int) : Str := ⟨#[97 + j.toNat]⟩
theorem abc_lo {j : Int} (h0 : 0 ≤ j) (h1 : j < 26) : Lo (abc j) := Lo.one (by omega)
theorem abc_len (j : Int) : (abc j).length = 1 := rfl
theorem abc_at {j : Int} (h0 : 0 ≤ j) (h1 : j < 26) : atI ("abcdefghijklmnopqrstuvwxyz" : Str).cps.toList j = some (97 + j.toNat) := by
  obtain ⟨k, rfl⟩ := Int.eq_ofNat_of_zero_le h0
  have hk : k < 26 := by omega
  exact (by decide +kernel : ∀ k : Nat, k < 26 → atI ("abcdefghijklmnopqrstuvwxyz" : Str).cps.toList (k : Int) = some (97 + (k : Int).toNat)) k hk
theorem join_len {ys : List Str} (h : ∀ y ∈ ys, y.length = 1) : (Txt.join "" ys).length = ys.length := by
  have e0 : ("" : Str).length = 0 := by decide +kernel
  unfold Txt.join
  rw [size_glued, e0, Nat.mul_zero, Nat.add_zero]
  induction ys with
  | nil => rfl
  | cons y r ih =>
    have h1 := h y (by simp)
    have h2 := ih fun z hz => h z (List.mem_cons_of_mem _ hz)
    simp only [List.map_cons, List.sum_cons, List.length_cons]
    omega
theorem nodup_by {α : Type} (f : Nat → α) (m : Nat) (h : ∀ i j, i < j → j < m → f i ≠ f j) : ((List.range m).map f).Nodup := by
  rw [List.nodup_iff_pairwise_ne, List.pairwise_map]
  refine List.Pairwise.imp_of_mem ?_ (List.pairwise_lt_range (n := m))
  intro a b ha hb hab
  exact h a b hab (List.mem_range.mp hb)
theorem range_snoc {α : Type} (f : Nat → α) (i : Nat) : (List.range (i + 1)).map f = (List.range i).map f ++ [f i] := by rw [List.range_succ, List.map_append]; rfl
theorem mem_by {α : Type} {f : Nat → α} {m : Nat} {x : α} (h : x ∈ (List.range m).map f) : ∃ i, i < m ∧ x = f i := by
  obtain ⟨i, hi, e⟩ := List.mem_map.mp h
  exact ⟨i, List.mem_range.mp hi, e.symm⟩
theorem words_nd (ws : List Str) (hw : ws.Nodup) {i j : Nat} (hi : i < ws.length) (hj : j < ws.length) (h : ws.getD i "" = ws.getD j "") : i = j := by
  rw [List.getD_eq_getElem?_getD, List.getD_eq_getElem?_getD, List.getElem?_eq_getElem hi, List.getElem?_eq_getElem hj] at h
  exact (List.getElem_inj hw).mp h
theorem step_inj {M st c i j : Nat} (hc : Nat.Coprime st M) (hij : i < j) (hj : j < M) : (c + i * st) % M ≠ (c + j * st) % M := by
  intro h
  have h2 : M ∣ (c + j * st) - (c + i * st) := Nat.dvd_of_mod_eq_zero (Nat.sub_mod_eq_zero_of_mod_eq h.symm)
  have h3 : (c + j * st) - (c + i * st) = (j - i) * st := by rw [Nat.sub_mul]; omega
  rw [h3] at h2
  have h4 : M ∣ j - i := (Nat.Coprime.symm hc).dvd_of_dvd_mul_right h2
  have := Nat.le_of_dvd (by omega) h4
  omega
theorem cop_steps : ∀ m : Nat, m < 61 → 0 < m → ∀ st ∈ [61, 67, 71, 73, 79, 83], Nat.Coprime st (m * m) := by decide +kernel
theorem div_mod_inj {m c d : Nat} (h1 : c / m = d / m) (h2 : c % m = d % m) : c = d := by
  rw [← Nat.div_add_mod c m, ← Nat.div_add_mod d m, h1, h2]
theorem star_c {c : Const} {j : Nat} {p : Pos} {es : List Expr} {env : Env} : starEach (.Constant c j p :: es) env = (false, eval (.Constant c j p) env) :: starEach es env := rfl
theorem star_n {x : Str} {p : Pos} {es : List Expr} {env : Env} : starEach (.Name x p :: es) env = (false, eval (.Name x p) env) :: starEach es env := rfl
theorem star_l {xs : List Expr} {p : Pos} {es : List Expr} {env : Env} : starEach (.List xs p :: es) env = (false, eval (.List xs p) env) :: starEach es env := rfl
theorem star_t {xs : List Expr} {k : Nat} {p : Pos} {es : List Expr} {env : Env} : starEach (.Tuple xs k p :: es) env = (false, eval (.Tuple xs k p) env) :: starEach es env := rfl
theorem star_b {x y : Expr} {o : Operator} {p : Pos} {es : List Expr} {env : Env} : starEach (.BinOp x o y p :: es) env = (false, eval (.BinOp x o y p) env) :: starEach es env := rfl
theorem star_u {x : Expr} {o : UnaryOp} {p : Pos} {es : List Expr} {env : Env} : starEach (.UnaryOp o x p :: es) env = (false, eval (.UnaryOp o x p) env) :: starEach es env := rfl
theorem star_d {xs : List (Option Expr)} {ys : List Expr} {p : Pos} {es : List Expr} {env : Env} : starEach (.Dict xs ys p :: es) env = (false, eval (.Dict xs ys p) env) :: starEach es env := rfl
end L2
namespace L2
open PySem PySem.Spec PyProof.Rows
noncomputable def SqA (H : Hp) (a : Addr) (xs : List V) : Prop := H a = some (.lst xs) ∨ H a = some (.tup xs)
theorem SqA.same {H H' : Hp} {a : Addr} {xs : List V} (h : SqA H a xs) (s : Same H H') : SqA H' a xs := by
  rcases h with h | h
  · exact .inl (s _ _ h)
  · exact .inr (s _ _ h)
theorem SqA.len {K : PySem.W.Frag} {H : Hp} {a : Addr} {xs : List V} (h : SqA H a xs) : LenV K (.ref a) H xs.length := by
  rcases h with h | h
  · exact .inl ⟨xs, .of h, rfl⟩
  · exact .inr ⟨xs, .of h, rfl⟩
theorem SqA.thg {H : Hp} {a : Addr} {xs : List V} (h : SqA H a xs) : Thg H (.ref a) := by
  rcases h with h | h
  · exact .lst h
  · exact .tup h
theorem SqA.lt {H : Hp} {a : Addr} {xs : List V} (h : SqA H a xs) : (isL H (.ref a) || isT H (.ref a)) = true := by
  rcases h with h | h
  · rw [isL_of h]; rfl
  · rw [isT_of h, Bool.or_true]
section
variable {X : Cx} {p pos p2 pos2 : Pos} {e f : Expr} {t : TA}
inductive TupR (K : PySem.W.Frag) (H : Hp) : V → VK → Prop
  | lst {a : Addr} {ys : List V} {Q : VK} : SqL K H a ys → (∀ l, H l = none → Q (.ref l) (upd H l (.tup ys))) → TupR K H (.ref a) Q
  | tup {a : Addr} {ys : List V} {Q : VK} : SqT K H a ys → Q (.ref a) H → TupR K H (.ref a) Q
theorem b_tupX (K : PySem.W.Frag) (B : Blt X.mg) (ha : PA X [e] t) (hg : Gl X "tuple" := by rfl) (he : starEach [e] X.env = (false, eval e X.env) :: starEach [] X.env := by rfl) (hpl : (backTo pos (starEach [] X.env)).any (·.1) = false := by rfl) (hK : X.K = K := by rfl) :
    PE X (.Call (.Name "tuple" p) [e] [] pos) (tCB (fun xs H Q => ∃ x, xs = [x] ∧ TupR K H x Q) t) := by
  subst hK
  refine pe_callTy (r := fun xs H Q => ∃ x, xs = [x] ∧ TupR X.K H x Q) (fun pins s σ H xs us Q I r h => ?_) hg B.tuple (show bootBuiltins "tuple" = some (.type "tuple") by decide +kernel) ha (by decide) (by decide) he hpl
  obtain ⟨x, rfl, h⟩ := h
  cases h with
  | lst h1 q => exact call_tuple_of pins s σ H _ us Q I r ⟨_, _, rfl, .inl ⟨h1, q⟩⟩
  | tup h1 q => exact call_tuple_of pins s σ H _ us Q I r ⟨_, _, rfl, .inr ⟨h1, q⟩⟩
end
end L2
namespace L2
open PySem PySem.Spec PyProof.Rows
theorem shownAll_map : ∀ ds : List PyData, PyData.shownAll ds = ds.map PyData.shown
  | [] => rfl
  | d :: ds => by
    show PyData.shown d :: PyData.shownAll ds = _
    rw [shownAll_map ds]; rfl
structure Sw (d : PyData) (n k : Nat) : Prop where
  lay : d.canLay0 = true
  sb : d.showable = true
  dp : d.depth ≤ k
  ln : d.shown.length ≤ n
theorem Sw.nm {s : Str} (h : Nm s) : Sw (.str s) 82 0 := ⟨canLay_nm h, rfl, Nat.le_refl 0, h.repr⟩
theorem join_le {n : Nat} : ∀ (ts : List Str), (∀ t ∈ ts, t.length ≤ n) → (Str.join ", " ts).length ≤ ts.length * (n + 2)
  | [], _ => Nat.zero_le _
  | [y], h => by
    have := h y (by simp)
    show y.length ≤ 1 * (n + 2)
    omega
  | y :: z :: r, h => by
    have h1 := join_le (z :: r) fun t ht => h t (List.mem_cons_of_mem _ ht)
    have h2 := h y (by simp)
    have h3 : (Str.ofString ", ").length = 2 := rfl
    show (y ++ ", " ++ Str.join ", " (z :: r)).length ≤ ((z :: r).length + 1) * (n + 2)
    rw [len_app, len_app, Nat.succ_mul]
    show y.length + (Str.ofString ", ").length + _ ≤ _
    omega
end L2
namespace L2
open PySem PySem.Spec PyProof.Rows
theorem cutV_from (xs : List V) (k : Nat) : cutV xs (some (k : Int)) none = xs.drop k := by
  unfold cutV
  rw [HT.sIx_nat, HT.sIx_none]
  by_cases h : k ≤ xs.length
  · rw [Nat.min_eq_left h, List.take_of_length_le (by rw [List.length_drop]; omega)]
  · rw [Nat.min_eq_right (by omega), List.drop_of_length_le (Nat.le_refl _), List.drop_of_length_le (by omega)]; simp
theorem cutV_to (xs : List V) (k : Nat) (h : k ≤ xs.length) : cutV xs none (some (k : Int)) = xs.take k := by
  unfold cutV
  rw [HT.sIx_nat, HT.sIx_none, Nat.min_eq_left h, List.drop_zero, Nat.sub_zero]
end L2
namespace MG
variable {α : Type}
end MG
namespace L2
open PySem PySem.Spec PyProof.Rows
namespace SP
open PySem.Builtin PySem.Builtin.Str PySem.StrLaws
noncomputable abbrev one (c : Nat) : Str := ⟨#[c]⟩
end SP
end L2
namespace MG
variable {es : List (Nat × Nat)} {goal : Nat}
end MG
set_option maxHeartbeats 400000
set_option maxHeartbeats 4000000
namespace L2
open PySem PySem.Spec PyProof.Rows
noncomputable def ButN (N : Addr → Prop) (H H' : Hp) : Prop := ∀ b o, N b → H b = some o → H' b = some o
theorem ButN.of_same {N : Addr → Prop} {H H' : Hp} (s : Same H H') : ButN N H H' := fun b o _ h => s b o h
noncomputable def Hd (N : Addr → Prop) (H : Hp) : Prop := ∀ l, H l = none → N l
noncomputable def Lg (G : Hp → V → Prop) (N : Addr → Prop) (n : Nat) (H : Hp) (x : V) : Prop := ∃ c xs, x = .ref c ∧ H c = some (.lst xs) ∧ N c ∧ xs.length ≤ n ∧ ∀ v ∈ xs, G H v
noncomputable def Tg (G : Hp → V → Prop) (N : Addr → Prop) (n : Nat) (H : Hp) (x : V) : Prop := ∃ c xs, x = .ref c ∧ H c = some (.tup xs) ∧ N c ∧ xs.length = n ∧ ∀ v ∈ xs, G H v
noncomputable def Bu (G : Hp → V → Prop) (σ : St) (H0 : Hp) (te : TE) : Prop := ∀ H, Same H0 H → ∀ Q : VK, (∀ x H', Same H H' → G H' x → Q x H') → te σ H Q
noncomputable def BuA (n : Nat) (G : Hp → V → Prop) (σ : St) (H0 : Hp) (ta : TA) : Prop := ∀ H, Same H0 H → ∀ Q : List V → Hp → Prop, (∀ xs H', Same H H' → xs.length = n → (∀ x ∈ xs, G H' x) → Q xs H') → ta σ H Q
noncomputable def Mono (G : Hp → V → Prop) : Prop := ∀ H H' x, Same H H' → G H x → G H' x
section
variable {G G' : Hp → V → Prop} {σ : St} {H0 H : Hp} {te ta tb : TE} {tr : TA} {N : Addr → Prop} {m n : Nat} {Q : VK} {K : PySem.W.Frag}
theorem Bu.imp (h : Bu G σ H0 te) (i : ∀ H x, G H x → G' H x) : Bu G' σ H0 te := fun H s Q k => h H s Q fun x H' s' g => k x H' s' (i _ _ g)
theorem bu_c {v : V} (h : ∀ H, G H v) : Bu G σ H0 (tC v) := fun H s Q k => k v H (Same.refl H) (h H)
theorem bua_nil : BuA 0 G σ H0 tNil := fun H s Q k => k [] H (Same.refl H) rfl (fun x hx => by cases hx)
theorem bua_cons (mo : Mono G) (h : Bu G σ H0 te) (hr : BuA n G σ H0 tr) : BuA (n + 1) G σ H0 (tCons te tr) := fun H s Q k =>
  h H s _ fun x H1 s1 g => hr H1 (s.trans s1) _ fun xs H2 s2 hl gs => k (x :: xs) H2 (s1.trans s2) (by rw [List.length_cons, hl]) fun y hy => by
    rcases List.mem_cons.mp hy with rfl | hy
    · exact mo _ _ _ s2 g
    · exact gs y hy
theorem bu_lst (mo : Mono G) (hp : Hd N H0) (h : BuA n G σ H0 tr) (hn : n ≤ 1000 := by decide) : Bu (Lg G N n) σ H0 (tLst tr) := fun H s Q k =>
  h H s _ fun xs H1 s1 hl gs => ⟨by rw [hl]; exact Nat.le_trans hn (by decide), fun l hl1 => by
    have sn := Same.new (o := .lst xs) hl1
    exact k _ _ (s1.trans sn) ⟨l, xs, rfl, upd_same, hp l (same_free (s.trans s1) hl1), by omega, fun v hv => mo _ _ _ sn (gs v hv)⟩⟩
theorem bu_tup (mo : Mono G) (hp : Hd N H0) (h : BuA n G σ H0 tr) (hn : n ≤ 1000 := by decide) : Bu (Tg G N n) σ H0 (tTup tr) := fun H s Q k =>
  h H s _ fun xs H1 s1 hl gs => ⟨by rw [hl]; exact Nat.le_trans hn (by decide), fun l hl1 => by
    have sn := Same.new (o := .tup xs) hl1
    exact k _ _ (s1.trans sn) ⟨l, xs, rfl, upd_same, hp l (same_free (s.trans s1) hl1), hl, fun v hv => mo _ _ _ sn (gs v hv)⟩⟩
end
end L2
namespace L2
open PySem PySem.Spec PyProof.Rows
theorem once {G T : Prop} (m : T → G) (t : T) : G := m t
end L2
namespace MG
noncomputable def mx : List Int → Int
  | [] => 0
  | x :: l => max x (mx l)
noncomputable def dp (es : List (Nat × Nat)) (W : Nat → Int) : Nat → Nat → Int
  | 0, _ => 0
  | k + 1, v => W v + mx ((es.filter fun e => decide (e.2 = v)).map fun e => dp es W k e.1)
end MG
namespace L2
open PySem
theorem len_shown {i : Int} {k : Nat} (hk : 0 < k) (h : i.natAbs < 10 ^ k) : (PyData.shown (.int i)).length ≤ k + 1 := by
  have e := (Nat.length_repr_le_iff (n := i.natAbs) hk).mpr h
  show (Str.ofString (toString i)).length ≤ k + 1
  rw [ofString_length]
  cases i with
  | ofNat m =>
    have e : m.repr.length ≤ k := e
    show m.repr.length ≤ k + 1
    omega
  | negSucc m =>
    have e : m.succ.repr.length ≤ k := e
    show ("-" ++ m.succ.repr).length ≤ k + 1
    rw [String.length_append]
    show 1 + m.succ.repr.length ≤ k + 1
    omega
theorem sw_int {i : Int} (h : i.natAbs < 10 ^ 40) : Sw (.int i) 41 0 := by
  refine ⟨rfl, ?_, Nat.le_refl 0, len_shown (by decide) h⟩
  show decide (i.natAbs.log2 < 1920) = true
  refine decide_eq_true ?_
  by_cases q : i.natAbs = 0
  · rw [q]; decide
  · rw [Nat.log2_lt q]
    exact Nat.lt_trans h (by decide +kernel)
end L2
namespace L2
open PySem PySem.Spec PyProof.Rows
noncomputable def XF (B : Heap) (l : List Env) (a : Addr) (c : Value) (dd : Option Addr) (fl : Value) (h : Heap) : Prop :=
  B.StaysIn h ∧ B.get? a = none ∧ h.FunFrames B l ∧ ∃ o vs T p ts, h.get? a = some o ∧ o.cls = c ∧ o.dict = dd ∧ o.data = .fields vs ∧ vs[1]? = some (.ref T) ∧ B.get? T = none ∧ T ≠ a ∧ h.get? T = some p ∧ p.data = .fields ts ∧ ts[3]? = some fl
theorem XF.there {B : Heap} {l : List Env} {a : Addr} {c fl : Value} {dd : Option Addr} {h : Heap} (x : XF B l a c dd fl h) : ∃ o, h.get? a = some o ∧ o.cls = c ∧ o.dict = dd := by
  obtain ⟨_, _, _, o, _, _, _, _, e, k1, k2, _⟩ := x
  exact ⟨o, e, k1, k2⟩
theorem XF.rec {B : Heap} {l : List Env} {a : Addr} {c fl : Value} {dd : Option Addr} {h : Heap} (x : XF B l a c dd fl h) : ∃ o vs, h.get? a = some o ∧ o.data = .fields vs := by
  obtain ⟨_, _, _, o, vs, _, _, _, e, _, _, k, _⟩ := x
  exact ⟨o, vs, e, k⟩
theorem XF.out {B : Heap} {e0 : Env} {l : List Env} {a : Addr} {c fl : Value} {dd : Option Addr} {h : Heap} (x : XF B (e0 :: l) a c dd fl h) : XF B l a c dd fl h := ⟨x.1, x.2.1, x.2.2.1.2.2, x.2.2.2⟩
theorem dict_map (f : Array Value → Array Value) (o : Obj) : (Obj.mapFields f o).dict = o.dict := by
  unfold Obj.mapFields
  split <;> rfl
section
variable {M : Model} {A : Around} {E : Value → Shared → Prop} {s : Shared} {B : Heap} {e0 : Env} {out : List Env} {a L : Addr} {Q : Unit → Shared → Prop}
theorem entryX {o : Obj} {vs : Array Value} {hd : Value} {b0 : Bool} (fr : A.frames = some (e0 :: out)) (ff : s.heap.FunFrames B (e0 :: out)) (fL : e0.frame = some L) (ea : s.heap.get? a = some o) (st : B.StaysIn s.heap) (na : B.get? a = none) (dv : o.data = .fields vs) (n1 : 1 < vs.size)
    (k : ∀ h', XF B (e0 :: out) a o.cls o.dict (rawInt L) h' → s.heap.UpToSlots h' → Q () { s with heap := h' }) :
    wpAny M A (do let f ← frameOf e0; let pl ← entryPlaceOf L b0; let b ← EntryCells.newEntry hd f .none (rawInt L) .none pl; setField (.ref a) 1 b) Q E s := by
  have nf : a ∉ (e0 :: out).filterMap (·.frame) := fun z => by
    obtain ⟨_, p, ep, q⟩ := ff.mem z
    exact q vs (Option.some.inj (ea.symm.trans ep) ▸ dv)
  refine wpAny_bind (wpAny_frameOf_fun fr ff fL fun g1 so => wpAny_bind (wpAny_entryPlaceOf fun pl ip => ?_))
  unfold EntryCells.newEntry newFields
  refine wpAny_bind (wpAny_newObj_type ?_ (ip.sizeOk5 _ _ _ _ _))
  generalize ep : ([hd, Value.ref L, Value.none, rawInt L, Value.none] ++ (if pl.isEmpty then List.replicate 6 Value.none else pl)).toArray = tv
  have t3 : tv[3]? = some (rawInt L) := by rw [← ep]; first | (simp; done) | (rcases ip with rfl | ⟨_, _, _, _, _, _, _, rfl⟩ <;> simp)
  have e1 : g1.get? a = some o := (so.2.1 a nf).trans ea
  have e2 := Heap.get?_push_of_some (h := g1) { cls := .type "traceback", dict := none, data := .fields tv } e1
  have nT : g1.objs.size ≠ a := Nat.ne_of_gt (Heap.lt_size e1)
  have dm := Obj.data_mapFields dv (·.setIfInBounds 1 (Value.ref g1.objs.size))
  have ot : ∀ b p, b ≠ a → g1.get? b = some p → ((g1.push { cls := .type "traceback", dict := none, data := .fields tv }).update a (Obj.mapFields (·.setIfInBounds 1 (Value.ref g1.objs.size)))).get? b = some p := fun b p nb eb => by
    rw [Heap.get?_update_other _ _ (Ne.symm nb)]
    exact Heap.get?_push_of_some _ eb
  have up : s.heap.UpToSlots ((g1.push { cls := .type "traceback", dict := none, data := .fields tv }).update a (Obj.mapFields (·.setIfInBounds 1 (Value.ref g1.objs.size)))) := fun b p eb q => by
    obtain ⟨sl, es⟩ := so.2.2 b p eb
    exact ⟨sl, ot b _ (fun z => q vs (Option.some.inj (ea.symm.trans (z ▸ eb)) ▸ dv)) es⟩
  refine wpAny_setField e2 dv n1 (k _ ?_ ?_)
  · have sg : B.StaysIn g1 := fun b p eb => (so.2.1 b fun z => by have := (ff.mem z).1; rw [eb] at this; cases this).trans (st b p eb)
    refine ⟨fun b p eb => ot b p (fun z => by rw [z, na] at eb; cases eb) (sg b p eb), na, ff.of_keeps fun b p eb q => ?_, _, _, g1.objs.size, { cls := .type "traceback", dict := none, data := .fields tv }, tv, Heap.get?_update_self _ e2 (Obj.isFreed_of_fields dm), Obj.cls_mapFields _ _, dict_map _ _, dm, by simp [n1], sg.fresh, nT, ?_, rfl, t3⟩
    · obtain ⟨sl, es⟩ := up b p eb q
      exact ⟨_, es, rfl⟩
    · rw [Heap.get?_update_other _ _ (Ne.symm nT)]
      exact Heap.get?_push_size g1 rfl
  · exact up
theorem flightX {c fl x : Value} {dd : Option Addr} {l : List Env} (X : XF B l a c dd fl s.heap) : ∃ T p ts, (∀ h', h' = s.heap.update T (Obj.mapFields (·.setIfInBounds 3 x)) → XF B l a c dd x h' ∧ s.heap.UpToSlots h') ∧
    s.heap.get? T = some p ∧ p.data = .fields ts ∧ ts[3]? = some fl ∧ ∃ o vs, s.heap.get? a = some o ∧ o.data = .fields vs ∧ vs[1]? = some (.ref T) := by
  obtain ⟨st, na, ff, o, vs, T, p, ts, ea, k1, k2, dv, v1, nT, ne, eT, dT, t3⟩ := X
  have l3 : 3 < ts.size := (Array.getElem?_eq_some_iff.mp t3).1
  refine ⟨T, p, ts, fun h' e => ?_, eT, dT, t3, o, vs, ea, dv, v1⟩
  have ot : ∀ b, b ≠ T → h'.get? b = s.heap.get? b := fun b nb => by rw [e]; exact Heap.get?_update_other _ _ (Ne.symm nb)
  have up : s.heap.UpToSlots h' := fun b u eb q => ⟨u.slots, (ot b fun z => q ts (Option.some.inj (eT.symm.trans (z ▸ eb)) ▸ dT)).trans eb⟩
  refine ⟨⟨fun b u eb => (ot b fun z => by rw [z, nT] at eb; cases eb).trans (st b u eb), na, ff.of_keeps fun b u eb q => ?_, o, vs, T, Obj.mapFields (·.setIfInBounds 3 x) p, ts.setIfInBounds 3 x, (ot a (Ne.symm ne)).trans ea, k1, k2, dv, v1, nT, ne, ?_, Obj.data_mapFields dT _, by simp [l3]⟩, up⟩
  · obtain ⟨sl, es⟩ := up b u eb q
    exact ⟨_, es, rfl⟩
  · rw [e]
    exact Heap.get?_update_self _ eT (Obj.isFreed_of_fields (Obj.data_mapFields dT _))
theorem landX {c fl : Value} {dd : Option Addr} {l : List Env} (X : XF B l a c dd fl s.heap) (k : ∀ h', XF B l a c dd .none h' → s.heap.UpToSlots h' → Q () { s with heap := h' }) : wpAny M A (setFlight (.ref a) none) Q E s := by
  obtain ⟨T, p, ts, z, eT, dT, t3, o, vs, ea, dv, v1⟩ := flightX (x := .none) X
  unfold setFlight
  refine wpAny_bind (wpAny_field ea dv v1 ?_)
  rw [if_pos (show (Value.ref T != Value.none) = true by simp)]
  obtain ⟨z1, z2⟩ := z _ rfl
  exact wpAny_setField eT dT (Array.getElem?_eq_some_iff.mp t3).1 (k _ z1 z2)
theorem noteX {c : Value} {dd : Option Addr} (fr : A.frames = some (e0 :: out)) (fL : e0.frame = some L) (X : XF B (e0 :: out) a c dd .none s.heap)
    (k : ∀ h', XF B (e0 :: out) a c dd (rawInt L) h' → s.heap.UpToSlots h' → Q () { s with heap := h' }) : wpAny M A (noteFrame (.ref a) e0) Q E s := by
  obtain ⟨T, p, ts, z, eT, dT, t3, o, vs, ea, dv, v1⟩ := flightX (x := .none) X
  unfold noteFrame
  simp only [fL]
  refine wpAny_bind (wpAny_field ea dv v1 ?_)
  rw [if_pos (show (Value.ref T != Value.none) = true by simp)]
  refine wpAny_bind (wpAny_field eT dT t3 ?_)
  rw [if_neg (show ¬ ((Value.none == rawInt L) = true) by simp [rawInt])]
  obtain ⟨z1, z2⟩ := z _ rfl
  refine wpAny_bind (wpAny_setField eT dT (Array.getElem?_eq_some_iff.mp t3).1 ?_)
  obtain ⟨q1, q2, q3, o', vs', T', p', ts', g1, g2, g3, g4, g5, _⟩ := z1
  subst g2 g3
  exact entryX (s := { s with heap := s.heap.update T (Obj.mapFields (·.setIfInBounds 3 Value.none)) }) fr q3 fL g1 q1 q2 g4 (Array.getElem?_eq_some_iff.mp g5).1 fun h' x y => k h' x (z2.trans y)
theorem leaveX0 {o : Obj} {vs : Array Value} (fr : A.frames = some (e0 :: out)) (ff : s.heap.FunFrames B (e0 :: out)) (fL : e0.frame = some L) (ea : s.heap.get? a = some o) (st : B.StaysIn s.heap) (na : B.get? a = none) (dv : o.data = .fields vs) (v1 : vs[1]? = some .none)
    (k : ∀ h', XF B out a o.cls o.dict .none h' → s.heap.UpToSlots h' → Q () { s with heap := h' }) : wpAny M A (leaving e0 (.ref a)) Q E s := by
  unfold leaving noteFrame
  simp only [fL]
  refine wpAny_bind (wpAny_bind (wpAny_field ea dv v1 ?_))
  rw [if_neg (by decide)]
  refine entryX fr ff fL ea st na dv (Array.getElem?_eq_some_iff.mp v1).1 fun h' x y => ?_
  exact landX (s := { s with heap := h' }) x fun h2 x2 y2 => k h2 x2.out (y.trans y2)
end
end L2
namespace L2
open PySem PySem.Spec PyProof.Rows
theorem ObjOk.obj {P : Program} {w : World} {H : Hp} {h : Heap} {a : Addr} {o : HO} (x : ObjOk P w H h a o) : ∃ ob, h.get? a = some ob := by
  cases o with
  | lst xs => obtain ⟨_, _, _, _, e⟩ := x; exact ⟨_, e⟩
  | tup xs => obtain ⟨_, _, _, ob, e, _⟩ := x; exact ⟨_, e⟩
  | dK kvs => obtain ⟨_, _, _, _, o, _, _, e, _⟩ := x; exact ⟨_, e⟩
  | dT kvs => obtain ⟨_, _, _, _, o, _, _, e, _⟩ := x; exact ⟨_, e⟩
  | set S n => obtain ⟨o, _, _, _, e, _⟩ := x; exact ⟨_, e⟩
  | ins C dx fs => obtain ⟨_, _, _, e, _⟩ := x; exact ⟨_, e⟩
  | own y => obtain ⟨_, e⟩ := x; exact ⟨_, e⟩
  | xd fs => obtain ⟨_, ⟨_, _, _, e, _⟩, _⟩ := x; exact ⟨_, e⟩
  | rng lo hi => obtain ⟨_, _, _, e⟩ := x; exact ⟨_, e⟩
  | frz ob u => obtain ⟨e, _⟩ := x; exact ⟨_, e⟩
  | tbl ps => exact ⟨_, (show h.get? a = some _ from x)⟩
  | met f y => exact ⟨_, (show h.get? a = some _ from x)⟩
  | ext φ => obtain ⟨_, e, _⟩ := x; exact e
noncomputable def CX1 (P : Program) (w : World) : CXT := fun outer H s E e s' =>
  ∃ (a : Addr) (cls : Value) (dd : Option Addr) (B : Heap) (H' : Hp), e = .ref a ∧ s'.os = s.os ∧ AllBare s'.gens ∧ Un (frs outer) [] H H' s.heap s'.heap ∧ HOk P w H' s'.heap ∧ XF B outer a cls dd .none s'.heap ∧ H' a = none ∧
    (∀ b u, H' b = some u → ∃ o, s'.heap.get? b = some o ∧ B.get? b = some o) ∧ (∀ b o, s.heap.get? b = some o → H b = none → b ∉ frs outer → B.get? b = some o) ∧ (∀ b o, s.heap.get? b = some o → b ∉ frs outer → ∃ o', B.get? b = some o') ∧ E cls dd H'
theorem raiseG {P : Program} {w : World} {K : PySem.W.Frag} {mg : Str → Option Value} {base : Heap} {N : List Str} {qual : Str} {scope : Scope} {f : Addr} {cd : Value} {A : Around} {outer : List Env} {s : Shared} {H : Hp} {E : XK} {pins : List (Addr × Obj)} {σ : St} {H1 : Hp} {s1 : Shared} {e : Addr} {oe : Obj} {vs : Array Value}
    (I : Inv (cxOf (CX1 P w) P w K mg base N qual scope f cd A outer s H E) pins σ H1 s1) (he : H1 e = none) (ge : s1.heap.get? e = some oe) (dv : oe.data = .fields vs) (v1 : vs[1]? = some .none) (new : s.heap.get? e = none) (q : E oe.cls oe.dict H1) :
    (cxOf (CX1 P w) P w K mg base N qual scope f cd A outer s H E).xe (.ref e) s1 := by
  show wpAny (model P w) (A.deeper (envOfC qual scope s.heap.objs.size f cd)) (leaving (envOfC qual scope s.heap.objs.size f cd) (.ref e)) (fun _ s'' => CX1 P w outer H s E (.ref e) s'') (fun e' s'' => CX1 P w outer H s E e' s'') s1
  have hin : ∀ env ∈ (envOfC qual scope s.heap.objs.size f cd :: outer), ∀ b, env.frame = some b → b ∈ e :: frs (envOfC qual scope s.heap.objs.size f cd :: outer) := fun env he b hb => List.mem_cons_of_mem _ (List.mem_filterMap.mpr ⟨env, he, hb⟩)
  refine leaveX0 (B := PySem.W.hideAll s1.heap (e :: frs (envOfC qual scope s.heap.objs.size f cd :: outer))) (out := outer) (L := s.heap.objs.size) I.ok.frames (PySem.W.funFrames_hide I.stack hin) rfl ge (fun b o z => PySem.W.of_hideAll _ z) (PySem.W.hideAll_none _ (.head _)) dv v1 fun h2 x1 x4 => ?_
  have trk : ∀ b u, H1 b = some u → ∃ o, s1.heap.get? b = some o ∧ (PySem.W.hideAll s1.heap (e :: frs (envOfC qual scope s.heap.objs.size f cd :: outer))).get? b = some o := fun b u eb => by
    obtain ⟨o, ho⟩ := ObjOk.obj (I.hok b u eb)
    refine ⟨o, ho, PySem.W.hideAll_get _ ho fun z => ?_⟩
    rcases List.mem_cons.mp z with z | z
    · rw [z, he] at eb; cases eb
    · have := I.stkFree b z
      rw [eb] at this; cases this
  have old : ∀ b o, s.heap.get? b = some o → H b = none → b ∉ frs outer → (PySem.W.hideAll s1.heap (e :: frs (envOfC qual scope s.heap.objs.size f cd :: outer))).get? b = some o := fun b o z n hb => by
    have e1 : s1.heap.get? b = some o := I.base.keep b o z n hb (by intro y; cases y)
    refine PySem.W.hideAll_get _ e1 fun y => ?_
    rcases List.mem_cons.mp y with y | y
    · rw [y, new] at z; cases z
    rcases List.mem_cons.mp (I.stkSub b y) with r | r
    · have r : b = s.heap.objs.size := r
      exact absurd (r ▸ Heap.lt_size z) (Nat.lt_irrefl _)
    · exact hb r
  have exi : ∀ b o, s.heap.get? b = some o → b ∉ frs outer → ∃ o', (PySem.W.hideAll s1.heap (e :: frs (envOfC qual scope s.heap.objs.size f cd :: outer))).get? b = some o' := fun b o z hb => by
    obtain ⟨o1, e1⟩ := I.base.there b o z (by intro y; cases y)
    refine ⟨o1, PySem.W.hideAll_get _ e1 fun y => ?_⟩
    rcases List.mem_cons.mp y with y | y
    · rw [y, new] at z; cases z
    rcases List.mem_cons.mp (I.stkSub b y) with r | r
    · have r : b = s.heap.objs.size := r
      exact absurd (r ▸ Heap.lt_size z) (Nat.lt_irrefl _)
    · exact hb r
  refine ⟨e, oe.cls, oe.dict, _, H1, rfl, I.os, I.bare, ?_, fun c o ec => (I.hok c o ec).stay (fun d u hd q' => ?_) (fun _ z => z) fun _ _ z => z, x1, he, fun b u eb => ?_, old, exi, q⟩
  · refine ⟨fun b o z n hb _ => x1.1 b o (old b o z n hb), fun b o z n hb hx' => ?_, fun b o z n hx' => I.base.free b o z n hx', fun b o z hx' => ?_, I.base.tups, I.base.frzs, I.base.tbls⟩
    · obtain ⟨sl, e1⟩ := I.base.slot b o z n hb hx'
      obtain ⟨_, o1, g1, g2⟩ := (I.ok.funs.mem hb)
      have : o1 = o := Option.some.inj (g1.symm.trans z)
      subst this
      obtain ⟨sl2, e2⟩ := x4 b _ e1 (by intro vs y; exact g2 vs y)
      exact ⟨sl2, e2⟩
    · by_cases hb : b ∈ frs outer
      · obtain ⟨_, o1, g1, _⟩ := x1.2.2.1.mem hb
        exact ⟨_, g1⟩
      · obtain ⟨o', e1⟩ := exi b o z hb
        exact ⟨o', x1.1 b o' e1⟩
  · have tr : ∃ z, H1 d = some z := by
      rcases hd with r | r
      · exact ⟨_, r ▸ ec⟩
      · exact ⟨_, r⟩
    obtain ⟨z, hz⟩ := tr
    obtain ⟨o1, e1, e2⟩ := trk d z hz
    have : u = o1 := Option.some.inj (q'.symm.trans e1)
    rw [this]
    exact x1.1 d o1 e2
  · obtain ⟨o1, e1, e2⟩ := trk b u eb
    exact ⟨o1, x1.1 b o1 e2, e2⟩
theorem raise1 {P : Program} {w : World} {K : PySem.W.Frag} {mg : Str → Option Value} {base : Heap} {N : List Str} {qual : Str} {scope : Scope} {f : Addr} {cd : Value} {A : Around} {outer : List Env} {s : Shared} {H : Hp} {E : XK} {pins : List (Addr × Obj)} {σ : St} {H1 : Hp} {s1 : Shared} {h' : Heap} {e : Addr} {cls : Value} {args : List Value}
    (I : Inv (cxOf (CX1 P w) P w K mg base N qual scope f cd A outer s H E) pins σ H1 s1) (hx : Heap.MadeExcOf s1.heap h' e cls args) (q : E cls none H1) :
    (cxOf (CX1 P w) P w K mg base N qual scope f cd A outer s H E).xe (.ref e) { s1 with heap := h' } := by
  obtain ⟨t, ge, _, _⟩ := hx.there
  refine raiseG (s1 := { s1 with heap := h' }) (I.kept (t' := s1.toks) hx.keeps) ?_ ge rfl rfl ?_ q
  · cases z : H1 e with
    | none => rfl
    | some u =>
      obtain ⟨o, ho⟩ := ObjOk.obj (I.hok e u z)
      rw [hx.new] at ho; cases ho
  · cases z : s.heap.get? e with
    | none => rfl
    | some o =>
      obtain ⟨o', e'⟩ := I.base.there e o z (by intro y; cases y)
      rw [hx.new] at e'; cases e'
end L2
namespace L2
open PySem PySem.Spec PyProof.Rows
noncomputable def tRaise (E : XK) (C : Addr) (ta : TA) : TS := fun _ σ H => ta σ H fun vs H1 => vs.length ≤ sizeLine ∧ E (.ref C) none H1
theorem ps_raise1 {P : Program} {w : World} {K : PySem.W.Frag} {mg : Str → Option Value} {base : Heap} {N : List Str} {qual : Str} {scope : Scope} {f : Addr} {cd : Value} {A : Around} {outer : List Env} {s : Shared} {H : Hp} {E : XK}
    {x : Str} {C : Addr} {bm bmN : List Value} {B Bn newId nid initId inN : String} {np cpos pos : Pos} {e₀ : Expr} {rest : List Expr} {ta : TA} (O : OwnCls x C bm newId mg base) (Fn : ExcBaseFacts Bn newId inN bmN) (hBn : bm.contains (.type Bn) = true) (FB : ExcBaseFacts B nid initId bm)
    (hg : Gl (cxOf (CX1 P w) P w K mg base N qual scope f cd A outer s H E) x) (ha : PA (cxOf (CX1 P w) P w K mg base N qual scope f cd A outer s H E) (e₀ :: rest) ta)
    (he : starEach (e₀ :: rest) (cxOf (CX1 P w) P w K mg base N qual scope f cd A outer s H E).env = (false, eval e₀ (cxOf (CX1 P w) P w K mg base N qual scope f cd A outer s H E).env) :: starEach rest (cxOf (CX1 P w) P w K mg base N qual scope f cd A outer s H E).env := by rfl)
    (hpl : (backTo cpos (starEach rest (cxOf (CX1 P w) P w K mg base N qual scope f cd A outer s H E).env)).any (·.1) = false := by rfl) (hdb : (x == ("__debug__" : Str)) = false := by decide) :
    PS (cxOf (CX1 P w) P w K mg base N qual scope f cd A outer s H E) (.Raise (some (.Call (.Name x np) (e₀ :: rest) [] cpos)) none pos) (tRaise E C ta) := by
  intro pins s1 σ H1 D I h
  obtain ⟨tl, Nn, nm, q, bs, hdct, sn, sub, ab, col, dd, k0, k1, k2, k3, k5, mN, hC, hN, hni, T⟩ := O.obj
  refine wpAny_Raise_call_subU (C := C) (nm := nm) (q := q) (N := Nn) (bs := bs) (bm := tl) (hdct := hdct) (sn := sn) (sub := sub) (ab := ab) (col := col) (dd := dd) (k0 := k0) (k1 := k1) (k2 := k2) (k3 := k3) (k5 := k5)
    Fn hBn FB (mN := mN) (T.hasType FB.hasBase) (I.ok.hd rfl) (by rw [he]; show (false || _) = false; rw [Bool.false_or]; exact hpl) hni (ld_glob I hg O.bound ?_ hdb)
  refine ⟨rfl, ?_⟩
  rw [he]
  have key := ha cpos pins s1 σ H1 _ I h
  rw [he] at key
  refine Calls.evalArgs_plain (thn key fun us s2 hh => ?_)
  obtain ⟨vs, H2, I2, r, hl, q2⟩ := hh
  have bk := I2.bk
  refine ⟨rfl, by rw [← r.length]; exact hl, bk _ _ hC, hN.keeps bk, T.keeps bk, fun h' e hm => raise1 I2 hm q2⟩
end L2
namespace L2
open PySem PySem.Spec PyProof.Rows
section
variable {M : Model} {A : Around} {E : Value → Shared → Prop} {nm q nm' q' : Str} {C N D N' : Addr} {bs bm bs' bm' : List Value} {hdct hdct' : Bool} {sn sn' : List Str} {sub sub' : List Value} {ab ab' : Bool} {col col' : Option Bool} {dd dd' : Option Addr} {k0 k1 k2 k3 k5 j0 j1 j2 j3 j5 : Option Value} {newId newId' : String}
theorem matches_own {h : Heap} {g : Array GenState} {d : Drawn} {t : Nat} {os : OsState} {e : Addr} {oe : Obj} {Q : Bool → Shared → Prop}
    (hC : h.get? C = some (excClassObj nm q C N bs bm hdct sn sub ab col dd k0 k1 k2 k3 k5 newId)) (he : h.get? e = some oe) (hcls : oe.cls = .ref C)
    (hD : h.get? D = some (excClassObj nm' q' D N' bs' bm' hdct' sn' sub' ab' col' dd' j0 j1 j2 j3 j5 newId')) (hb : bm'.contains (.type "BaseException") = true)
    (hin : (Value.ref C :: bm).contains (.ref D) = true) (hq : Q true ⟨h, g, d, t, os⟩) : wpAny M A (excMatches (.ref e) (.ref D)) Q E ⟨h, g, d, t, os⟩ := by
  have hcB : (Value.ref D :: bm').contains (.type "BaseException") = true := by rw [List.contains_cons, hb, Bool.or_true]
  have f := tc_notTuple
  unfold excMatches
  repeat first
    | (with_reducible refine wpAny_loadPart_at he ?_
       rw [hcls])
    | with_reducible refine wpAny_loadPart_at hD ?_
    | (with_reducible refine wpAny_isSubtype_exc hD ?_
       rw [hcB])
    | (with_reducible refine wpAny_isSubtype_exc hC ?_
       rw [hin])
    | wp_step
  exact hq
end
theorem inv_fly {X : Cx} {pins : List (Addr × Obj)} {σ : St} {H1 H' : Hp} {s1 s' : Shared} {B h5 : Heap} {a : Addr} {cls fz : Value} {dd : Option Addr} (I : Inv X pins σ H1 s1) (hst : X.stack = X.env :: X.outer) (hfr : X.env.frame = some X.env.locals)
    (os : s'.os = s1.os) (bare : AllBare s'.gens) (un : Un (frs X.stack) [] H1 H' s1.heap s'.heap) (hok : HOk X.prog X.w H' s'.heap) (fl : XF B X.stack a cls dd fz h5) (sm : s'.heap.UpToSlots h5)
    (TB : ∀ b u, H' b = some u → ∃ o, s'.heap.get? b = some o ∧ B.get? b = some o) (KB : ∀ b o, s1.heap.get? b = some o → H1 b = none → b ∉ frs X.stack → B.get? b = some o) (AB : ∀ b o, s1.heap.get? b = some o → b ∉ frs X.stack → ∃ o', B.get? b = some o') :
    Inv X pins σ H' { s' with heap := h5 } := by
  obtain ⟨hh, g, d, tk, os'⟩ := s'
  obtain rfl : os' = s1.os := os
  have efr : frs X.stack = X.env.locals :: X.fs := by rw [hst]; unfold frs; rw [List.filterMap_cons, hfr]; rfl
  have nin : ∀ b, b ≠ X.env.locals → b ∉ X.fs → b ∉ frs X.stack := fun b n1 n2 z => by
    rw [efr] at z
    rcases List.mem_cons.mp z with r | r
    · exact n1 r
    · exact n2 r
  have inn : ∀ b, b ∈ X.fs → b ∈ frs X.stack := fun b hb => by rw [efr]; exact List.mem_cons_of_mem _ hb
  have nof : ∀ {b : Addr} {o : Obj}, b ∈ frs X.stack → s1.heap.get? b = some o → ∀ vs, o.data ≠ .fields vs := fun hb e vs => by
    obtain ⟨_, o1, g1, g2⟩ := I.stack.mem hb
    have := Option.some.inj (g1.symm.trans e)
    exact this ▸ g2 vs
  have slot : ∀ b o, b ∈ frs X.stack → s1.heap.get? b = some o → H1 b = none → ∃ sl, h5.get? b = some { o with slots := sl } := fun b o hb e n => by
    obtain ⟨sl, e1⟩ := un.slot b o e n hb (by intro z; cases z)
    obtain ⟨sl2, e2⟩ := sm b _ e1 (fun vs z => nof hb e vs z)
    exact ⟨sl2, e2⟩
  show Inv X pins σ H' { s1 with heap := h5, gens := g, drawn := d, toks := tk }
  refine Inv.step (s := s1) (h' := h5) (g' := g) (d' := d) (t' := tk) (ch := []) I (fun b hb => by cases hb) (fun b o n1 n2 _ e n => fl.1 b o (KB b o e n (nin b n1 n2))) (fun b o _ hb _ e n => slot b o (inn b hb) e n) (fun b o _ e n => un.free b o e n (by intro z; cases z)) (fun b o _ e => ?_) un.tups un.frzs un.tbls (fun m hn => ?_) (fun c o ec => (hok c o ec).stay (fun d u hd q' => ?_) (fun _ z => z) fun _ _ z => z) bare
  · by_cases hb : b ∈ frs X.stack
    · obtain ⟨_, o1, g1, _⟩ := fl.2.2.1.mem hb
      exact ⟨_, g1⟩
    · obtain ⟨o', e1⟩ := AB b o e hb
      exact ⟨o', fl.1 b o' e1⟩
  · obtain ⟨o, es, ep, ho, hd, r⟩ := hn
    obtain ⟨sl, e1⟩ := slot X.env.locals o (by rw [efr]; simp) ho I.free
    exact ⟨_, es, ep, e1, hd, r⟩
  · have tr : ∃ z, H' d = some z := by
      rcases hd with r | r
      · exact ⟨_, r ▸ ec⟩
      · exact ⟨_, r⟩
    obtain ⟨z, hz⟩ := tr
    obtain ⟨o1, e1, e2⟩ := TB d z hz
    have : u = o1 := Option.some.inj (q'.symm.trans e1)
    rw [this]
    exact fl.1 d o1 e2
end L2
namespace L2
open PySem PySem.Spec PyProof.Rows
noncomputable abbrev Cx.mark (X : Cx) (e : Value) (E : Value → Shared → Prop) : Cx := { X with A := X.A.mark (some e), calm := false, xe := E }
section
variable {X : Cx} {pins : List (Addr × Obj)} {σ : St} {H : Hp} {s : Shared} {e : Value} {E : Value → Shared → Prop}
theorem Cx.Ok.mark (ok : X.Ok) : (X.mark e E).Ok :=
  ⟨ok.mod, ok.kind, ok.glob, ok.blt, ok.above, ok.inj, ok.has, ok.cab, fun z => (by cases z), ok.frames, ok.stk, ok.exf, ok.bs, ok.bsz, ok.noex, ok.exfs, ok.funs, ok.frf⟩
theorem Inv.mark (I : Inv X pins σ H s) : Inv (X.mark e E) pins σ H s := ⟨I.ok.mark, I.os, I.bare, I.base, I.loc, I.cell, I.free, I.freeC, I.pin, I.hok, I.len⟩
theorem Inv.unmark (ok : X.Ok) (I : Inv (X.mark e E) pins σ H s) : Inv X pins σ H s := ⟨ok, I.os, I.bare, I.base, I.loc, I.cell, I.free, I.freeC, I.pin, I.hok, I.len⟩
theorem unname {M : Model} {A : Around} {i : Nat} {n : Str} {pos : Pos} {Q : Unit → Shared → Prop} (I : Inv X pins σ H s) (hN : X.N.Nodup) (hi : X.N[i]? = some n) (hk : X.env.kindOf n = some .local)
    (h : ∀ s', Inv X pins (σ.set i none) H s' → Q () s') : wpAny M A (do bindName X.env n .none; unbindBehindTheSuite X.env n pos) Q E s := by
  obtain ⟨m, hn, hl⟩ := id I.loc
  have hcls : (X.env.scope.kind == .class || (X.env.scope.kind == .module && X.env.locals != X.env.globals)) = false := by rw [I.ok.kind]; rfl
  have hiσ : i < σ.length := by rw [I.len]; exact (List.getElem?_eq_some_iff.mp hi).1
  have cne := I.cne
  refine wpAny_nameGoes_keeps hk hn hcls fun h' v hn' hs => ?_
  obtain ⟨oL, _, _, hoL, _⟩ := id hn
  have tracked : HOk X.prog X.w H h' := fun b ob e => by
    refine (I.hok b ob e).stay (fun c w' hc q => (hs.2 c ?_).trans q) (fun _ q => q) fun _ _ q => q
    rintro rfl
    rcases hc with z | hc
    · have := I.free; rw [z] at this; rw [this] at e; cases e
    · rw [I.free] at hc; cases hc
  refine h _ ⟨I.ok, I.os, I.bare, ⟨fun b o e n hb hx => ?_, fun b o e n hb hx => ?_, I.base.free, fun b o e hx => ?_, I.base.tups, I.base.frzs, I.base.tbls⟩, ⟨_, hn', fun j y v' e1 e2 e3 => ?_⟩, fun y c e => ?_, I.free, I.freeC, fun p hp => ?_, tracked, by simpa using I.len⟩
  · exact (hs.2 b (Nat.ne_of_lt (Nat.lt_of_lt_of_le (Heap.lt_size e) I.ok.above))).trans (I.base.keep b o e n hb hx)
  · obtain ⟨sl, e1⟩ := I.base.slot b o e n hb hx
    exact ⟨sl, (hs.2 b (Nat.ne_of_lt (Nat.lt_of_lt_of_le (Heap.lt_size e) I.ok.above))).trans e1⟩
  · obtain ⟨o', e1⟩ := I.base.there b o e hx
    exact ⟨o', (hs.2 b (Nat.ne_of_lt (Nat.lt_of_lt_of_le (Heap.lt_size e) I.ok.above))).trans e1⟩
  · by_cases hj : j = i
    · subst hj
      rw [List.getElem?_set_self hiσ] at e2
      cases e2
    · rw [List.getElem?_set_ne (Ne.symm hj)] at e2
      obtain ⟨u', r', q⟩ := hl j y v' e1 e2 e3
      refine ⟨u', r', ?_⟩
      rcases q with ⟨k, e⟩ | ⟨k, c, e, z⟩
      · refine .inl ⟨k, ?_⟩
        have : y ≠ n := fun e => hj (nodup_ix hN e1 (e ▸ hi))
        simp [this, e]
      · exact .inr ⟨k, c, e, z.sameBut hs (cne y c e)⟩
  · obtain ⟨w', z⟩ := I.cell y c e
    exact ⟨w', z.sameBut hs (cne y c e)⟩
  · obtain ⟨e, n, ne, nf, d⟩ := I.pin p hp
    exact ⟨(hs.2 p.1 ne).trans e, n, ne, nf, d⟩
theorem Inv.track {σ1 : St} {H1 : Hp} {s1 : Shared} {a : Addr} {o : HO} (I1 : Inv X pins σ1 H1 s1) (I : Inv X pins σ H s) (hn : s1.heap.get? a = none) (ha : H a = none) (new : ObjOk X.prog X.w (upd H a o) s.heap a o) : Inv X pins σ (upd H a o) s := by
  have h0 : ∀ ob, X.s₀.heap.get? a = some ob → a ∈ X.ex := fun ob e => by
    by_cases hx : a ∈ X.ex
    · exact hx
    · obtain ⟨o', e'⟩ := I1.base.there a ob e hx
      rw [hn] at e'; cases e'
  have ne : ∀ {b : Addr} {u : HO}, H b = some u → b ≠ a := fun e z => by rw [z, ha] at e; cases e
  have dif : ∀ {b : Addr} {ob : Obj}, s1.heap.get? b = some ob → b ≠ a := fun e z => by rw [z, hn] at e; cases e
  obtain ⟨m1, hn1, _⟩ := id I1.loc
  obtain ⟨oL, _, _, hoL, _⟩ := hn1
  refine ⟨I.ok, I.os, I.bare, ⟨I.base.keep, I.base.slot, fun b ob e n hx => ?_, I.base.there, fun b xs e => ?_, fun b x y e => ?_, fun b ps e => ?_⟩, I.loc, I.cell, ?_, fun x c e => ?_, fun p hp => ?_, fun b u e => ?_, I.len⟩
  · have : b ≠ a := fun z => hx (z ▸ h0 ob (z ▸ e))
    rw [upd_ne this]; exact I.base.free b ob e n hx
  · have z := I.base.tups b xs e
    rw [upd_ne (ne z)]; exact z
  · have z := I.base.frzs b x y e
    rw [upd_ne (ne z)]; exact z
  · obtain ⟨more, z⟩ := I.base.tbls b ps e
    exact ⟨more, by rw [upd_ne (ne z)]; exact z⟩
  · rw [upd_ne (dif hoL)]; exact I.free
  · obtain ⟨v, oc, z, _⟩ := I1.cell x c e
    rw [upd_ne (dif z)]; exact I.freeC x c e
  · obtain ⟨e1, n1, r⟩ := I.pin p hp
    obtain ⟨e2, _⟩ := I1.pin p hp
    exact ⟨e1, by rw [upd_ne (dif e2)]; exact n1, r⟩
  · by_cases hb : b = a
    · subst hb; rw [upd_same] at e; cases e; exact new
    · rw [upd_ne hb] at e
      exact (I.hok b u e).stay (fun _ _ _ z => z) (fun c q => by rw [upd_ne (ne q)]; exact q) fun c xs q => by rw [upd_ne (ne q)]; exact q
end
noncomputable def XAt (h : Heap) (C : Addr) (bm : List Value) : Prop :=
  ∃ nm q N bs hdct sn sub ab col dd k0 k1 k2 k3 k5 newId, h.get? C = some (excClassObj nm q C N bs bm hdct sn sub ab col dd k0 k1 k2 k3 k5 newId)
noncomputable def xObj (a C : Addr) (dd : Option Addr) : HO := .ext fun h => ∃ o, h.get? a = some o ∧ o.cls = .ref C ∧ o.dict = dd ∧ PySem.W.notCls o = true
noncomputable def tTry1 (base : Heap) (sp : Sp) (dvs : List V) (t : TA) (Dc : Addr) (i : Nat) (tb : TS) : TS := fun D σ H => t σ H fun vs H1 => sp (vs ++ dvs) H1 (fun _ H2 => D.nx σ H2)
  fun cls dd H2 => ∃ C bm, cls = .ref C ∧ XAt base C bm ∧ (Value.ref C :: bm).contains (.ref Dc) = true ∧ ∀ a, H2 a = none →
    tb { nx := fun σ' H' => D.nx (σ'.set i none) H', rt := D.rt, bk := fun σ' H' => D.bk (σ'.set i none) H', ct := fun σ' H' => D.ct (σ'.set i none) H' } (σ.set i (some (.ref a))) (upd H2 a (xObj a C dd))
theorem call_wish {X : Cx} {pins : List (Addr × Obj)} {σ : St} {H : Hp} {s : Shared} {f : Addr} {cpos : Pos} {e : Expr} {es : List Expr} {t : TA} {Q0 : List V → Hp → Prop} {Q : Value → Shared → Prop} {E : Value → Shared → Prop}
    (ha : ∀ xe, PA (X.wish xe) (e :: es) t) (I : Inv X pins σ H s) (hk : PySem.W.keepIn X.K (.ref f) = true) (h : t σ H Q0) (k : ∀ us s1 vs H1, Inv X pins σ H1 s1 → Vals vs us → Q0 vs H1 → wpAny (model X.prog X.w) X.A (call (.ref f) us) Q E s1)
    (he : starEach (e :: es) X.env = (false, eval e X.env) :: starEach es X.env) (hpl : (backTo cpos (starEach es X.env)).any (·.1) = false) :
    wpAny (model X.prog X.w) X.A (callWith cpos (.ref f) [] (backTo cpos (starEach (e :: es) X.env)) (backToKw cpos (keywordEach [] X.env))) Q E s := by
  have key := ha E cpos pins s σ H Q0 (I.wish E) h
  refine PySem.W.callWith_K (h₀ := X.base) I.ok.mod.kin hk (wpAny_mono key (fun us s1 hh => ?_) fun _ _ z => z) he hpl
  obtain ⟨vs, H1, I1', r, q⟩ := hh
  exact ⟨I1'.kIn, k us s1 vs H1 I1'.unwish r q⟩
theorem ps_try1 {X : Cx} {k : Nat} {f Dc : Addr} {fd : FuncData} {ps : List Str} {sp : Sp} {dvs : List V} {ds : List Value} {bmD : List Value} {x Dn n : Str} {i : Nat} {p q cpos epos hpos tpos : Pos} {e : Expr} {es : List Expr} {t : TA} {b₀ : Stmt} {suite : List Stmt} {tb : TS}
    (F : FnOk X.prog X.w X.K X.mg X.base (CX1 X.prog X.w) k f fd ps sp) (hr : Room k X.A) (hg : Gl X x) (hm : X.mg x = some (.ref f)) (hk : PySem.W.keepIn X.K (.ref f) = true) (hb : Binds X.K fd ps ds) (hd : Vals dvs ds) (ha : ∀ xe, PA (X.wish xe) (e :: es) t)
    (hst : X.stack = X.env :: X.outer) (hfr : X.env.frame = some X.env.locals) (hgD : Gl X Dn) (hmD : X.mg Dn = some (.ref Dc)) (hD : XAt X.base Dc bmD) (hDb : bmD.contains (.type "BaseException") = true)
    (hN : X.N.Nodup) (hi : X.N[i]? = some n) (hl : X.env.scope.names.lookup n = some .local) (hs : ∀ a xe, PSs (X.mark (.ref a) xe) (b₀ :: suite) tb)
    (hdb : (x == ("__debug__" : Str)) = false := by decide) (hdD : (Dn == ("__debug__" : Str)) = false := by decide) (he : starEach (e :: es) X.env = (false, eval e X.env) :: starEach es X.env := by rfl) (hpl : (backTo cpos (starEach es X.env)).any (·.1) = false := by rfl)
    (hsw : swapsWith (.Call (.Name x p) (e :: es) [] cpos) none epos.line X.env = pure false := by rfl) :
    PS X (.Try [.Expr (.Call (.Name x p) (e :: es) [] cpos) epos] [.ExceptHandler (some (.Name Dn q)) (some n) (b₀ :: suite) hpos] [] [] tpos) (tTry1 X.base sp dvs t Dc i tb) := by
  intro pins s σ H D I h
  refine wpAny_Try_except (wpAny_execs_cons (wpAny_Expr_any (wpAny_Call_Name_kw (ld_glob I hg hm ?_ hdb)) I.quiet hsw))
  refine call_wish ha I hk h (fun us s1 vs H1 I1 r q => ?_) he hpl
  have r2 : Vals (vs ++ dvs) (us ++ ds) := r.append hd
  have hlen : (us ++ ds).length = ps.length := by rw [← r2.length]; exact F.len _ _ _ _ q
  refine wpAny_call (codeAny_mono (F.run X.A X.stack s1 H1 ⟨us, []⟩ (us ++ ds) (vs ++ dvs) _ _ hr I1.env0 (hb s1 us I1.kIn hlen) r2 q) fun r s' hq => ?_)
  cases r with
  | ok fl =>
    cases fl with
    | ret u =>
      obtain ⟨v, H2, I2, _, q2⟩ := I1.after hq
      exact wpAny_execs_nil (wpAny_execs_nil ⟨σ, H2, I2, q2⟩)
    | next => exact False.elim hq
    | brk => exact False.elim hq
    | cont => exact False.elim hq
  | error ev =>
    obtain ⟨a, cls, dq, B, H', rfl, os, bare, un, hok, fl, hna, TB, KB, AB, C, bm, rfl, hC, hin, hq2⟩ := hq
    have fl' : XF B (X.env :: X.outer) a (.ref C) dq .none s'.heap := hst ▸ fl
    have ne1 : s1.heap.get? a = none := by
      cases z : s1.heap.get? a with
      | none => rfl
      | some ob =>
        by_cases hb : a ∈ frs X.stack
        · obtain ⟨_, o1, g1, g2⟩ := fl.2.2.1.mem hb
          obtain ⟨oe, vs', he', hd'⟩ := fl.rec
          rw [g1] at he'; cases he'
          exact absurd hd' (g2 vs')
        · obtain ⟨o', e'⟩ := AB a ob z hb
          have := fl.2.1
          rw [e'] at this; cases this
    have hfrm : X.A.frames = some (X.env :: X.outer) := hst ▸ I.ok.frames
    refine noteX hfrm hfr fl' fun h4 f4 sm4 => ?_
    refine landX (s := { s' with heap := h4 }) f4 fun h5 f5 sm5 => ?_
    have I5 : Inv X pins σ H' { s' with heap := h5 } := inv_fly I1 hst hfr os bare un hok (hst ▸ f5) (sm4.trans sm5) TB KB AB
    refine wpAny_handleBy_cons (codeAny_handlers_test (ld_glob (X := X.mark (.ref a) (fun _ _ => False)) I5.mark hgD hmD ?_ hdD)) (by intro z; cases z)
    obtain ⟨oe, ge, gc, _⟩ := f5.there
    obtain ⟨nm, qq, NN, bs, hdct, sn, sub, ab, col, dd, k0, k1, k2, k3, k5, newId, gC⟩ := hC
    obtain ⟨nm', qq', NN', bs', hdct', sn', sub', ab', col', dd', j0, j1, j2, j3, j5, newId', gD⟩ := hD
    refine matches_own (I5.bk _ _ gC) ge gc (I5.bk _ _ gD) hDb hin (codeAny_handlers_suite_as (landX (s := { s' with heap := h5 }) f5 fun h6 f6 sm6 => ?_))
    have I6 : Inv X pins σ H' { s' with heap := h6 } := inv_fly I1 hst hfr os bare un hok (hst ▸ f6) ((sm4.trans sm5).trans sm6) TB KB AB
    obtain ⟨o6, g6, c6, d6⟩ := f6.there
    have n6 : PySem.W.notCls o6 = true := by
      obtain ⟨o7, vs7, g7, k7⟩ := f6.rec
      have z7 := Option.some.inj (g7.symm.trans g6)
      rw [← z7]
      unfold PySem.W.notCls
      rw [k7]
    have I7 : Inv X pins σ (upd H' a (xObj a C dq)) { s' with heap := h6 } := Inv.track I1 I6 ne1 hna ⟨⟨o6, g6, c6, d6, n6⟩, ⟨o6, g6⟩, fun h1 h2 ⟨o, e1, e2⟩ z => ⟨o, z o e1, e2⟩⟩
    refine store_ok (v := .ref a) I7 hN hi (.inl hl) rfl (fun s8 I8 => ?_) (.inr hl)
    refine wpAny_mono (hs a _ pins s8 _ _ _ I8.mark (hq2 a hna)) (fun fl s9 h9 => ?_) fun ev s9 h9 => h9
    cases fl with
    | next =>
      obtain ⟨σ', H9, I9, q9⟩ := h9
      exact unname (I9.unmark I.ok) hN hi hl fun s' I' => ⟨_, _, I', q9⟩
    | brk =>
      obtain ⟨σ', H9, I9, q9⟩ := h9
      exact unname (I9.unmark I.ok) hN hi hl fun s' I' => ⟨_, _, I', q9⟩
    | cont =>
      obtain ⟨σ', H9, I9, q9⟩ := h9
      exact unname (I9.unmark I.ok) hN hi hl fun s' I' => ⟨_, _, I', q9⟩
    | ret u =>
      obtain ⟨v, σ', H9, I9, r9, q9⟩ := h9
      exact unname (I9.unmark I.ok) hN hi hl fun s' I' => ⟨v, _, _, I', r9, q9⟩
end L2
namespace L2
open PySem PySem.Spec PyProof.Rows
section
open PySem.W PySem.Calls Builtin Builtin.ObjectAttr Builtin.Getset_descriptor
structure XFacts (K : Frag) (C : Addr) : Prop where
  ga : findIn K (.ref C) "__getattribute__" = some (some (.builtin "BaseException.__getattribute__"))
  gb : findIn K (.ref C) "__getattr__" = some none
  ha : findIn K (.ref C) "__class__" = some (some (.builtin "object.__class__"))
  hn : specialIn K (.builtin "object.__class__") "__get__" = some (some (.builtin "getset_descriptor.__get__"))
  ht : takesIn K (.builtin "object.__class__") = some true
  hm : mroIn K C (.type "object") = some true
  hb : mroIn K C (.type "BaseException") = some true
  cl : (clsIn K C).isSome = true
noncomputable def XIs (x C : Addr) (h : Heap) : Prop := ∃ o, h.get? x = some o ∧ o.cls = .ref C
variable {K : Frag} {x C : Addr} {h : Heap} {M : Model}
theorem XIs.type (p : XIs x C h) : Looks M h (typeOf (.ref x)) (.ref C) := by
  obtain ⟨o, e, c⟩ := p
  exact c ▸ (Looks.ld e).andThen .now
theorem XFacts.found (Z : XFacts K C) (X : K.In h) : Looks M h (find (.ref x) (.ref C) "__class__") (.bind (.builtin "getset_descriptor.__get__") (.builtin "object.__class__")) := by
  have l1 := looks_findIn (M := M) X Z.ha
  have l2 : Looks M h (getOf (some (.builtin "object.__class__"))) (some (.builtin "getset_descriptor.__get__")) := looks_specialIn X Z.hn
  have l3 : Looks M h (dataDescriptor? (some (.builtin "object.__class__")) (some (.builtin "getset_descriptor.__get__"))) (some (.builtin "getset_descriptor.__get__", .builtin "object.__class__")) := (looks_takesIn (M := M) X Z.ht).andThen .now
  exact l1.andThen (l2.andThen (l3.andThen (Looks.tag .now)))
variable {prog : Program} {w : World} {A : Around} {E : Value → Shared → Prop} {s : Shared}
theorem xe_get {R : Result → Shared → Prop} {tp : Value} (Z : XFacts K C) (X : K.In s.heap) (p : XIs x C s.heap) (h : R (.ok (.ret (.ref C))) s) :
    codeAny (model prog w) A (.call (.builtin "getset_descriptor.__get__") ⟨[.builtin "object.__class__", .ref x, tp], []⟩) R s := by
  have q1 := p.type (M := model prog w)
  have q2 := looks_mroIn (M := model prog w) X Z.hm
  obtain ⟨hh, g, dr, t, os⟩ := s
  refine codeAny_call_builtin KF.slot_gs.plain KF.entry_gs (KF.slot_gs.check _ _ _ _ _ _ _ _ KF.type_class (KF.args_gs _ _ _) ?_)
  simp only [Builtin.«getset_descriptor.__get__», descrGet, dga_obj]
  refine wpAny_bind (wpAny_pure ?_)
  simp only [descrGetter, descrCheckInstance, descrNameAndClass, isInstance, KF.owner_class]
  repeat lk
  refine ⟨Code.quiet_builtin _ (by decide +kernel), codeAny_builtin KF.entry_class ?_⟩
  simp only [Builtin.«object.__class__», shownTypeOf]
  repeat lk
  exact h
theorem xe_ga {tk : Tok} {R : Result → Shared → Prop} (Z : XFacts K C) (X : K.In s.heap) (p : XIs x C s.heap) (h : R (.ok (.ret (.ref C))) s) :
    codeAny (model prog w) A (.call (.builtin "BaseException.__getattribute__") ⟨[.ref x, .str "__class__" tk], []⟩) R s := by
  have q1 := p.type (M := model prog w)
  have q2 := looks_mroIn (M := model prog w) X Z.hb
  have q3 := Z.found (M := model prog w) (x := x) X
  have hk : builtinKind "BaseException.__getattribute__" = some .slot := by decide +kernel
  have hsp : splitId "BaseException.__getattribute__" = some ("BaseException", "__getattribute__") := by decide +kernel
  have ha := PySem.F.args_bexc_ga (.ref x) (.str "__class__" tk)
  obtain ⟨hh, g, dr, t, os⟩ := s
  refine codeAny_call_builtin PySem.F.attr_ValueError.ga.plain PySem.F.entry_bexc_ga ?_
  simp only [checkBuiltinCall, hk, hsp]
  refine wpAny_bind ?_
  unfold isInstance
  repeat lk
  show wpAny _ _ (run (.call (.builtin "getset_descriptor.__get__") ⟨[.builtin "object.__class__", .ref x, .ref C], []⟩) none) _ _ _
  refine wpAny_run (xe_get Z X p ?_)
  exact wpAny_pure (wpAny_pure h)
theorem xe_class {Q : Option Value → Shared → Prop} (Z : XFacts K C) (X : K.In s.heap) (p : XIs x C s.heap) (h : Q (some (.ref C)) { s with toks := s.toks + 1 }) : wpAny (model prog w) A (getAttr? (.ref x) "__class__") Q E s := by
  have q1 := p.type (M := model prog w)
  have q2 := looks_findIn (M := model prog w) X Z.ga
  have q4 := looks_findIn (M := model prog w) X Z.gb
  have f3 := PySem.F.attr_ValueError.ga.bind (.ref x)
  obtain ⟨hh, g, dr, t, os⟩ := s
  simp only [getAttr?, getAttrBy?, getAttrBy]
  refine wpAny_bind (wpAny_mkText (wpAny_bind (wpAny_attempt (wpAny_holding (wpAny_bind (q1.at (wpAny_bind (q2.at ?_))))))))
  show wpAny _ _ (getAttrByItsOwn _ _ _ _ _ _) _ _ _
  refine wpAny_bind ?_
  show wpAny _ _ (typeLookup (.ref C) "__getattr__") _ _ _
  refine q4.at (wpAny_bind (wpAny_attempt (wpAny_holding ?_)))
  show wpAny _ _ (boundAndCalled _ _ _) _ _ _
  unfold boundAndCalled
  rw [f3]
  refine wpAny_bind (wpAny_pure ?_)
  show wpAny _ _ (call (.builtin "BaseException.__getattribute__") [.ref x, .str "__class__" t]) _ _ _
  refine wpAny_call (xe_ga Z X p ?_)
  show wpAny _ _ (handedOut (Value.ref C)) _ _ _
  exact handed_on rfl (wpAny_pure h)
theorem kitx_exc (Z : XFacts K C) : KitX K (.ref x) (.ref C) (XIs x C) where
  ty := fun _ _ _ p => p.type
  it := fun M h X _ => by
    obtain ⟨cd, hc⟩ := Option.isSome_iff_exists.mp Z.cl
    unfold clsIn at hc
    split at hc
    · rename_i ho
      intro A' Q' E' s' k q
      unfold isType loadHead
      exact wpAny_bind (wpAny_loadPart (k _ _ (X _ _ ho)) (wpAny_pure q))
    · cases hc
  ne := fun h tp dd its n sl X htp => by
    obtain ⟨cd, hc⟩ := Option.isSome_iff_exists.mp Z.cl
    refine Bool.eq_false_iff.mpr fun q => ?_
    cases Value.ref.inj (beq_iff_eq.mp q)
    unfold clsIn at hc
    split at hc
    · rename_i ho
      cases (X _ _ ho).symm.trans htp
    · cases hc
  ca := fun X p k => xe_class Z X p k
end
section
variable {X : Cx} {pins : List (Addr × Obj)} {σ : St} {H : Hp} {s : Shared} {A : Around} {E : Value → Shared → Prop} {Q : Value → Shared → Prop} {e f : Expr} {t : TA} {p pos : Pos}
theorem xobj_is {a C : Addr} {dd : Option Addr} (I : Inv X pins σ H s) (h : H a = some (xObj a C dd)) : XIs a C s.heap := let ⟨o, e, c, _⟩ := (show ObjOk X.prog X.w H s.heap a (xObj a C dd) from I.hok a _ h).1; ⟨o, e, c⟩
noncomputable def rIsx (K : PySem.W.Frag) : List V → Hp → VK → Prop := fun xs H Q => ∃ a C dd c u b, xs = [.ref a, c] ∧ H a = some (xObj a C dd) ∧ XFacts K C ∧ (∀ v, RelV c v → v = u) ∧ PySem.W.kitOne K (.ref C) u = some b ∧ Q (.bl b) H
theorem call_isx : CallR X (.builtin "isinstance") (rIsx X.K) := by
  intro pins s σ H xs us Q I r h
  obtain ⟨a, C, dd, c, u, b, rfl, ea, Z, ru, e, q⟩ := h
  obtain ⟨v1, v2, rfl, r1, r2⟩ := vals2 r
  cases r1
  cases ru v2 r2
  exact PySem.W.kia_one (kitx_exc Z) I.kIn (xobj_is I ea) e (fun z => nomatch z) fun tk => ⟨.bl b, H, I.tok tk, rfl, q⟩
theorem b_isx (K : PySem.W.Frag) (B : Blt X.mg) (ha : PA X [e, f] t) (hg : Gl X "isinstance" := by rfl) (he : starEach [e, f] X.env = (false, eval e X.env) :: starEach [f] X.env := by rfl) (hpl : (backTo pos (starEach [f] X.env)).any (·.1) = false := by rfl) (hK : X.K = K := by rfl) :
    PE X (.Call (.Name "isinstance" p) [e, f] [] pos) (tCB (rIsx K) t) :=
  hK ▸ pe_callB call_isx hg B.isinstance boot_isinstance ha (by decide) (by decide) he hpl
noncomputable def rIsxT (K : PySem.W.Frag) : List V → Hp → VK → Prop := fun xs H Q => ∃ (a C : Addr) (dd : Option Addr) (tp : Addr) (cs : List Addr) (b : Bool), xs = [.ref a, .ref tp] ∧ H a = some (xObj a C dd) ∧ H tp = some (.tup (cs.map V.ref)) ∧ XFacts K C ∧ PySem.W.kitAny K (.ref C) (cs.map Value.ref) = some b ∧ Q (.bl b) H
theorem vals_refs : ∀ {cs : List Addr} {its : List Value}, Vals (cs.map V.ref) its → its = cs.map Value.ref
  | [], _, .nil => rfl
  | c :: cs, _, .cons r t => by
    cases r
    exact congrArg _ (vals_refs t)
theorem call_isxT : CallR X (.builtin "isinstance") (rIsxT X.K) := by
  intro pins s σ H xs us Q I r h
  obtain ⟨a, C, dd, tp, cs, b, rfl, ea, et, Z, e, q⟩ := h
  obtain ⟨v1, v2, rfl, r1, r2⟩ := vals2 r
  cases r1
  cases r2
  obtain ⟨_, its, rv, ⟨oc, od, odt, osl⟩, h1, h2, n, h3, _⟩ := (show ObjOk X.prog X.w H s.heap tp (.tup _) from I.hok tp _ et)
  have h2 : oc = .type "tuple" := h2
  have h3 : odt = .seq its.toArray n := h3
  subst h2 h3
  cases vals_refs rv
  exact PySem.W.kia_tup (kitx_exc Z) I.kIn (xobj_is I ea) h1 e (fun z => nomatch z) fun tk => ⟨.bl b, H, I.tok tk, rfl, q⟩
theorem b_isxT (K : PySem.W.Frag) (B : Blt X.mg) (ha : PA X [e, f] t) (hg : Gl X "isinstance" := by rfl) (he : starEach [e, f] X.env = (false, eval e X.env) :: starEach [f] X.env := by rfl) (hpl : (backTo pos (starEach [f] X.env)).any (·.1) = false := by rfl) (hK : X.K = K := by rfl) :
    PE X (.Call (.Name "isinstance" p) [e, f] [] pos) (tCB (rIsxT K) t) :=
  hK ▸ pe_callB call_isxT hg B.isinstance boot_isinstance ha (by decide) (by decide) he hpl
end
end L2
namespace L2
open PySem PySem.Spec PyProof.Rows
section
variable {P : Program} {w : World} {K : PySem.W.Frag} {mg : Str → Option Value} {base : Heap}
theorem Fun.okX {x qual : Str} {st : Stmt} {f : Addr} {fd : FuncData} {N ps : List Str} {k : Nat} {sp : Sp} (F : Fun K x qual st f fd) (S : FnScope N ps (defScope st)) (len : ∀ vs H Q E, sp vs H Q E → vs.length = ps.length)
    (hbody : ∀ (cdv : Value) (A : Around) (outer : List Env) (s : Shared) (H : Hp) (vs : List V) (Q : VK) (E : XK), Room k (A.deeper (envOfC qual (defScope st) s.heap.objs.size f cdv)) → sp vs H Q E →
      ∃ t, PSs (cxOf (CX1 P w) P w K mg base N qual (defScope st) f cdv A outer s H E) (defBody st) t ∧ t { nx := fun _ H' => Q .non H', rt := Q } (start N vs) H) : FnOk P w K mg base (CX1 P w) (k + 1) f fd ps sp := by
  obtain ⟨oc, od, kV, doc, pm, an, cdv, ct, osl, rfl, lk, hcd⟩ := F.ex
  exact fn_of lk hcd S len fun A outer s H vs Q E hr hsp => hbody cdv A outer s H vs Q E hr hsp
structure CalX (P : Program) (w : World) (K : PySem.W.Frag) (mg : Str → Option Value) (base : Heap) (k : Nat) (x : Str) (ps : List Str) (sp : Sp) : Prop where
  ex : ∃ (f : Addr) (fd : FuncData), FnOk P w K mg base (CX1 P w) k f fd ps sp ∧ mg x = some (.ref f) ∧ PySem.W.keepIn K (.ref f) = true ∧ Binds K fd ps []
variable {x : Str} {C N : Addr} {bmB bm bs : List Value} {newId : String} {nm q : Str} {hdct : Bool} {sn : List Str} {sub : List Value} {ab : Bool} {col : Option Bool} {dd : Option Addr} {k0 k1 k2 k3 k5 : Option Value} {h : Heap}
theorem own_mk (X : K.In h) (bound : mg x = some (.ref C)) (lk : K.lookup C = some (excClassObj nm q C N bs bm hdct sn sub ab col dd k0 k1 k2 k3 k5 newId)) (ok : PySem.W.nsOkIn K N = true) (ni : PySem.W.nsIn K N "__init__" = some none)
    (tl : PySem.W.tailIn K bmB bm = true) : OwnCls x C bmB newId mg h :=
  ⟨bound, bm, N, nm, q, bs, hdct, sn, sub, ab, col, dd, k0, k1, k2, k3, k5, _, X _ _ lk, .of_isNs (PySem.W.isNs_of_in X ok), PySem.W.nsMap_none_of_in X ok ni, PySem.W.tail_of_in X tl⟩
theorem xat_mk (X : K.In h) (lk : K.lookup C = some (excClassObj nm q C N bs bm hdct sn sub ab col dd k0 k1 k2 k3 k5 newId)) : XAt h C bm :=
  ⟨nm, q, N, bs, hdct, sn, sub, ab, col, dd, k0, k1, k2, k3, k5, newId, X _ _ lk⟩
end
end L2
namespace L2
open PySem PySem.Spec PyProof.Rows
theorem ps_tryC {X : Cx} {k : Nat} {Dc : Addr} {ps : List Str} {sp : Sp} {bmD : List Value} {x Dn n : Str} {i : Nat} {p q cpos epos hpos tpos : Pos} {e : Expr} {es : List Expr} {t : TA} {b₀ : Stmt} {suite : List Stmt} {tb : TS}
    (c : CalX X.prog X.w X.K X.mg X.base k x ps sp) (hr : Room k X.A) (hg : Gl X x) (ha : ∀ xe, PA (X.wish xe) (e :: es) t)
    (hst : X.stack = X.env :: X.outer) (hfr : X.env.frame = some X.env.locals) (hgD : Gl X Dn) (hmD : X.mg Dn = some (.ref Dc)) (hD : XAt X.base Dc bmD) (hDb : bmD.contains (.type "BaseException") = true)
    (hN : X.N.Nodup) (hi : X.N[i]? = some n) (hl : X.env.scope.names.lookup n = some .local) (hs : ∀ a xe, PSs (X.mark (.ref a) xe) (b₀ :: suite) tb)
    (hdb : (x == ("__debug__" : Str)) = false := by decide) (hdD : (Dn == ("__debug__" : Str)) = false := by decide) (he : starEach (e :: es) X.env = (false, eval e X.env) :: starEach es X.env := by rfl) (hpl : (backTo cpos (starEach es X.env)).any (·.1) = false := by rfl)
    (hsw : swapsWith (.Call (.Name x p) (e :: es) [] cpos) none epos.line X.env = pure false := by rfl) :
    PS X (.Try [.Expr (.Call (.Name x p) (e :: es) [] cpos) epos] [.ExceptHandler (some (.Name Dn q)) (some n) (b₀ :: suite) hpos] [] [] tpos) (tTry1 X.base sp [] t Dc i tb) := by
  obtain ⟨f, fd, G, mf, kp, b⟩ := c.ex
  exact ps_try1 G hr hg mf kp b .nil ha hst hfr hgD hmD hD hDb hN hi hl hs hdb hdD he hpl hsw
structure Errs (K : PySem.W.Frag) (mg : Str → Option Value) (base : Heap) (ec : Str → Addr) (l c : List Str) : Prop where
  b : ∀ x ∈ l, mg x = some (.ref (ec x))
  f : ∀ x ∈ c, XFacts K (ec x)
  ord : ("OrderError" : Str) ∈ c
  kit : ∀ x ∈ c, x ≠ "OrderError" → ∀ y ∈ l, PySem.W.kitOne K (.ref (ec x)) (.ref (ec y)) = some (y == x || y == ("OrderError" : Str))
  val : ∀ x ∈ c, PySem.W.kitOne K (.ref (ec x)) (.type "ValueError") = some true
  at_ : ∀ x ∈ c, ∃ bm, XAt base (ec x) bm ∧ bm.contains (.type "BaseException") = true ∧ (Value.ref (ec x) :: bm).contains (.ref (ec "OrderError")) = true
  nv : mg "ValueError" = none
  own : ∀ x ∈ c, x ∉ (["NoText", "Ring", "NoUnit"] : List Str) → OwnCls x (ec x) [.type "ValueError", .type "Exception", .type "BaseException", .type "object"] "ValueError.__new__" mg base
theorem kitAny_false {K : PySem.W.Frag} {t : Value} : ∀ {cs : List Value}, (∀ c ∈ cs, PySem.W.kitOne K t c = some false) → PySem.W.kitAny K t cs = some false
  | [], _ => rfl
  | c :: cs, h => by
    unfold PySem.W.kitAny
    rw [h c (List.mem_cons_self ..)]
    exact kitAny_false fun d hd => h d (List.mem_cons_of_mem _ hd)
section
variable {K : PySem.W.Frag} {mg : Str → Option Value} {base : Heap} {ec : Str → Addr} {l c : List Str}
theorem Errs.none_of (Er : Errs K mg base ec l c) {x : Str} (hx : x ∈ c) (hn : x ≠ "OrderError") {ys : List Str} (h : ∀ y ∈ ys, y ∈ l ∧ y ≠ x ∧ y ≠ "OrderError") : PySem.W.kitAny K (.ref (ec x)) ((ys.map ec).map Value.ref) = some false := by
  refine kitAny_false fun d hc => ?_
  rw [List.map_map] at hc
  obtain ⟨y, hy, rfl⟩ := List.mem_map.mp hc
  obtain ⟨h1, h2, h3⟩ := h y hy
  show PySem.W.kitOne K (.ref (ec x)) (.ref (ec y)) = some false
  rw [Er.kit x hx hn y h1]
  simp [h2, h3]
end
theorem ps_raiseV {P : Program} {w : World} {K : PySem.W.Frag} {mg : Str → Option Value} {base : Heap} {ec : Str → Addr} {l c : List Str} {N : List Str} {qual : Str} {scope : Scope} {f : Addr} {cd : Value} {A : Around} {outer : List Env} {s : Shared} {H : Hp} {E : XK}
    {x : Str} {np cpos pos : Pos} {e₀ : Expr} {rest : List Expr} {ta : TA} (Er : Errs K mg base ec l c) (hx : x ∈ c) (hi : x ∉ (["NoText", "Ring", "NoUnit"] : List Str))
    (hg : Gl (cxOf (CX1 P w) P w K mg base N qual scope f cd A outer s H E) x) (ha : PA (cxOf (CX1 P w) P w K mg base N qual scope f cd A outer s H E) (e₀ :: rest) ta)
    (he : starEach (e₀ :: rest) (cxOf (CX1 P w) P w K mg base N qual scope f cd A outer s H E).env = (false, eval e₀ (cxOf (CX1 P w) P w K mg base N qual scope f cd A outer s H E).env) :: starEach rest (cxOf (CX1 P w) P w K mg base N qual scope f cd A outer s H E).env := by rfl)
    (hpl : (backTo cpos (starEach rest (cxOf (CX1 P w) P w K mg base N qual scope f cd A outer s H E).env)).any (·.1) = false := by rfl) (hdb : (x == ("__debug__" : Str)) = false := by decide) :
    PS (cxOf (CX1 P w) P w K mg base N qual scope f cd A outer s H E) (.Raise (some (.Call (.Name x np) (e₀ :: rest) [] cpos)) none pos) (tRaise E (ec x) ta) :=
  ps_raise1 (Er.own x hx hi) PySem.F.excBase_ValueError (by decide) PySem.F.excBase_ValueError hg ha he hpl hdb
theorem b_ValueError : bootBuiltins "ValueError" = some (.type "ValueError") := by decide +kernel
end L2
namespace L2
open PySem PySem.Spec PyProof.Rows
section
open PySem.W Builtin Builtin.ObjectAttr
variable {prog : Program} {w : World} {A : Around} {E : Value → Shared → Prop} {s : Shared} {K : Frag} {x C t : Addr} {f : Str} {v : Value}
end
end L2
namespace L2
open PySem PySem.Spec PyProof.Rows
section
open PySem.W PySem.Calls Builtin Builtin.ObjectAttr
variable {K : Frag} {x C : Addr} {h : Heap} {M : Model} {prog : Program} {w : World} {A : Around} {E : Value → Shared → Prop} {s : Shared} {ox od : Obj} {f : Str} {u : Value}
end
end L2
namespace L2
open PySem PySem.Spec PyProof.Rows
noncomputable def ecOf (ps : List (Str × Addr)) (x : Str) : Addr := (ps.lookup x).getD 0
theorem ecOf_at : ∀ {ps : List (Str × Addr)}, (ps.map (·.1)).Nodup → ∀ p ∈ ps, ecOf ps p.1 = p.2
  | [], _, p, h => by cases h
  | q :: ps, nd, p, h => by
    rw [List.map_cons, List.nodup_cons] at nd
    unfold ecOf
    rcases List.mem_cons.mp h with rfl | h
    · rw [List.lookup_cons]; simp
    · have ne : p.1 ≠ q.1 := fun z => nd.1 (z ▸ List.mem_map.mpr ⟨p, h, rfl⟩)
      have : (p.1 == q.1) = false := by simpa using ne
      rw [List.lookup_cons, this]
      exact ecOf_at nd.2 p h
theorem fa_nil {α : Type} {P : α → Prop} : ∀ x ∈ ([] : List α), P x := fun x h => by cases h
theorem fa_cons {α : Type} {P : α → Prop} {a : α} {l : List α} (h : P a) (g : ∀ x ∈ l, P x) : ∀ x ∈ a :: l, P x := fun x hx => by
  rcases List.mem_cons.mp hx with rfl | hx
  · exact h
  · exact g x hx
variable {K : PySem.W.Frag} {mg : Str → Option Value} {base : Heap}
theorem errs_mk {ps cs : List (Str × Addr)} (nd : (ps.map (·.1)).Nodup) (sub : ∀ p ∈ cs, p ∈ ps) (b : ∀ p ∈ ps, mg p.1 = some (.ref p.2)) (f : ∀ p ∈ cs, XFacts K p.2) (ord : ("OrderError" : Str) ∈ cs.map (·.1))
    (kit : ∀ p ∈ cs, p.1 ≠ "OrderError" → ∀ q ∈ ps, PySem.W.kitOne K (.ref p.2) (.ref q.2) = some (q.1 == p.1 || q.1 == ("OrderError" : Str))) (val : ∀ p ∈ cs, PySem.W.kitOne K (.ref p.2) (.type "ValueError") = some true)
    (at_ : ∀ p ∈ cs, ∃ bm, XAt base p.2 bm ∧ bm.contains (.type "BaseException") = true ∧ (Value.ref p.2 :: bm).contains (.ref (ecOf ps "OrderError")) = true) (nv : mg "ValueError" = none)
    (own : ∀ p ∈ cs, p.1 ∉ (["NoText", "Ring", "NoUnit"] : List Str) → OwnCls p.1 p.2 [.type "ValueError", .type "Exception", .type "BaseException", .type "object"] "ValueError.__new__" mg base) : Errs K mg base (ecOf ps) (ps.map (·.1)) (cs.map (·.1)) := by
  have e := ecOf_at nd
  have q : ∀ {x : Str}, x ∈ ps.map (·.1) → ∃ p ∈ ps, p.1 = x := fun h => by obtain ⟨p, hp, rfl⟩ := List.mem_map.mp h; exact ⟨p, hp, rfl⟩
  have r : ∀ {x : Str}, x ∈ cs.map (·.1) → ∃ p ∈ cs, p.1 = x := fun h => by obtain ⟨p, hp, rfl⟩ := List.mem_map.mp h; exact ⟨p, hp, rfl⟩
  refine ⟨fun x hx => ?_, fun x hx => ?_, ord, fun x hx hn y hy => ?_, fun x hx => ?_, fun x hx => ?_, nv, fun x hx hn => ?_⟩
  · obtain ⟨p, hp, rfl⟩ := q hx
    rw [e p hp]; exact b p hp
  · obtain ⟨p, hp, rfl⟩ := r hx
    rw [e p (sub p hp)]; exact f p hp
  · obtain ⟨p, hp, rfl⟩ := r hx
    obtain ⟨p2, hp2, rfl⟩ := q hy
    rw [e p (sub p hp), e p2 hp2]; exact kit p hp hn p2 hp2
  · obtain ⟨p, hp, rfl⟩ := r hx
    rw [e p (sub p hp)]; exact val p hp
  · obtain ⟨p, hp, rfl⟩ := r hx
    rw [e p (sub p hp)]; exact at_ p hp
  · obtain ⟨p, hp, rfl⟩ := r hx
    rw [e p (sub p hp)]; exact own p hp hn
end L2
namespace MG
variable {es : List (Nat × Nat)} {goal : Nat}
noncomputable def NoR (es : List (Nat × Nat)) : Prop := ∀ e ∈ es, ¬ RingAt es e
end MG
namespace MG
variable {es : List (Nat × Nat)} {n : Nat} {ks ls : List Nat}
end MG
namespace L2
open PySem PySem.Spec PyProof.Rows
mutual
inductive RpD (H : Hp) : V → PyData → Prop
  | tr {x : V} {d : PyData} : Rep H x d → d.hasDict = false → RpD H x d
  | dc {a : Addr} {kvs : List (Key × V)} : H a = some (.dK kvs) → kvs.all (fun p => isFl p.2) = true → RpD H (.ref a) (dictD kvs)
  | lst {a : Addr} {xs : List V} {ds : List PyData} : H a = some (.lst xs) → RpDs H xs ds → RpD H (.ref a) (.list ds)
  | tup {a : Addr} {xs : List V} {ds : List PyData} : H a = some (.tup xs) → RpDs H xs ds → RpD H (.ref a) (.tuple ds)
inductive RpDs (H : Hp) : List V → List PyData → Prop
  | nil : RpDs H [] []
  | cons {x : V} {d : PyData} {xs : List V} {ds : List PyData} : RpD H x d → RpDs H xs ds → RpDs H (x :: xs) (d :: ds)
end
mutual
theorem RpD.same {H H' : Hp} (s : Same H H') : ∀ {x : V} {d : PyData}, RpD H x d → RpD H' x d
  | _, _, .tr a b => .tr (a.same s) b
  | _, _, .dc a b => .dc (s _ _ a) b
  | _, _, .lst a b => .lst (s _ _ a) (RpDs.same s b)
  | _, _, .tup a b => .tup (s _ _ a) (RpDs.same s b)
theorem RpDs.same {H H' : Hp} (s : Same H H') : ∀ {xs : List V} {ds : List PyData}, RpDs H xs ds → RpDs H' xs ds
  | _, _, .nil => .nil
  | _, _, .cons a b => .cons (RpD.same s a) (RpDs.same s b)
end
mutual
theorem RpD.ks {P : Program} {w : World} {H : Hp} {h : Heap} (ok : HOk P w H h) : ∀ {x : V} {d : PyData} {u : Value}, RpD H x d → RelV x u → d.showable = true → d.shown.length ≤ sizeLine → ∃ as bs, Reads h u d as ∧ ReadAtMost h d.depth bs ∧ ReprK P w bs h d.depth u d.shown
  | _, _, _, .tr rep hd, r, hs, hz => by
    obtain ⟨as, rd⟩ := rep.reads ok r
    obtain ⟨bs, h1, h2⟩ := ReprK.of_reads (prog := P) (w := w) rd hs (PyData.noDict_hsm hd) hz
    exact ⟨as, bs, rd, h1, h2⟩
  | _, _, _, .dc (a := a) (kvs := kvs) e f, r, hs, hz => by
    cases r
    obtain ⟨_, hsys, vs, rv, o, es, ep, h1, h2, h3, _, h5, _⟩ := (show ObjOk P w H h a (.dK kvs) from ok a _ e)
    obtain ⟨k1, k2⟩ := fl_pairs (h := h) rv h5 f
    have rd : Reads h (.ref a) (dictD kvs) (a :: [] ++ []) := .dict h1 h2.1 h3 k1 k2
    obtain ⟨bs, g1, g2⟩ := ReprK.of_reads (prog := P) (w := w) rd hs (fun _ hm => by
      have : sysModules = a := by simpa using hm
      rw [this] at hsys
      simp at hsys) hz
    exact ⟨_, bs, rd, g1, g2⟩
  | _, _, _, .lst (a := a) (xs := xs) (ds := ds) e rs, r, hs, hz => by
    cases r
    obtain ⟨_, its, n, rv, eh⟩ := (show ObjOk P w H h a (.lst xs) from ok a _ e)
    have lz : (listText (PyData.shownAll ds)).length ≤ sizeLine := hz
    obtain ⟨as, bs, ra, hb, hk⟩ := RpDs.ks ok rs rv hs fun t ht => Nat.le_trans (listText_mem_le ht) lz
    have rd : Reads h (.ref a) (.list ds) _ := .list eh rfl rfl (by simpa using ra)
    have dl : PyData.depthAll ds < PyData.depth (.list ds) := Nat.lt_succ_self _
    have out := not_mem_of_deeper rd dl hb
    refine ⟨_, a :: bs, rd, ReadAtMost.cons rd (Nat.le_refl _) (hb.mono (Nat.le_of_lt dl)), ?_⟩
    show ReprK P w (a :: bs) h (PyData.depthAll ds + 1) (.ref a) (listText (PyData.shownAll ds))
    cases its with
    | nil =>
      cases ra
      exact ReprK.listEmpty eh rfl rfl
    | cons y l => exact ReprK.list eh rfl rfl out (by simpa using hk.length_eq) fun i z ez => hk.item i z (by simpa using ez)
  | _, _, _, .tup (a := a) (xs := xs) (ds := ds) e rs, r, hs, hz => by
    cases r
    obtain ⟨_, its, rv, pt⟩ := (show ObjOk P w H h a (.tup xs) from ok a _ e)
    obtain ⟨o, eh, hc, n, hd⟩ := pt.tup
    have tz : (tupleText (PyData.shownAll ds)).length ≤ sizeLine := hz
    obtain ⟨as, bs, ra, hb, hk⟩ := RpDs.ks ok rs rv hs fun t ht => Nat.le_trans (tupleText_mem_le ht) tz
    have rd : Reads h (.ref a) (.tuple ds) _ := .tuple eh hc hd (by simpa using ra)
    have dl : PyData.depthAll ds < PyData.depth (.tuple ds) := Nat.lt_succ_self _
    have out := not_mem_of_deeper rd dl hb
    exact ⟨_, a :: bs, rd, ReadAtMost.cons rd (Nat.le_refl _) (hb.mono (Nat.le_of_lt dl)), ReprK.tuple eh hc hd out (by simpa using hk)⟩
theorem RpDs.ks {P : Program} {w : World} {H : Hp} {h : Heap} (ok : HOk P w H h) : ∀ {xs : List V} {ds : List PyData} {us : List Value}, RpDs H xs ds → Vals xs us → PyData.showableAll ds = true → (∀ t ∈ PyData.shownAll ds, t.length ≤ sizeLine) → ∃ as bs, ReadsAll h us ds as ∧ ReadAtMost h (PyData.depthAll ds) bs ∧ ReprAllK P w bs h (PyData.depthAll ds) us (PyData.shownAll ds)
  | _, _, _, .nil, .nil, _, _ => ⟨[], [], .nil, (fun _ q => nomatch q), .nil⟩
  | _, _, _, .cons (d := d) (ds := ds) i is, .cons r rs, hs, hz => by
    have hs : (d.showable && PyData.showableAll ds) = true := hs
    rw [Bool.and_eq_true] at hs
    obtain ⟨a1, b1, r1, g1, k1⟩ := RpD.ks ok i r hs.1 (hz _ (List.mem_cons_self ..))
    obtain ⟨a2, b2, r2, g2, k2⟩ := RpDs.ks ok is rs hs.2 fun t ht => hz t (List.mem_cons_of_mem _ ht)
    have l1 : d.depth ≤ PyData.depthAll (d :: ds) := Nat.le_max_left ..
    have l2 : PyData.depthAll ds ≤ PyData.depthAll (d :: ds) := Nat.le_max_right ..
    exact ⟨a1 ++ a2, b1 ++ b2, .cons r1 r2, (g1.mono l1).append (g2.mono l2), .cons ((k1.more fun b hb => List.mem_append_left _ hb).level_le l1) (k2.more_le (fun b hb => List.mem_append_right _ hb) l2)⟩
end
noncomputable def rReprD : List V → Hp → VK → Prop := fun vs H Q => ∃ (a : Addr) (d : PyData), vs = [.ref a] ∧ ((∃ xs ds, H a = some (.lst xs) ∧ RpDs H xs ds ∧ d = .list ds ∧ ds ≠ []) ∨ ∃ xs ds, H a = some (.tup xs) ∧ RpDs H xs ds ∧ d = .tuple ds) ∧ d.showable = true ∧ d.depth ≤ 16 ∧ d.shown.length ≤ sizeLine ∧ Q (.str d.shown) H
section
variable {X : Cx}
theorem call_reprD (hg : X.A.guards = some []) (hu : X.A.units + 64 < cLine) : CallR X (.builtin "repr") rReprD := by
  intro pins s σ H vs us Q I r h
  obtain ⟨a, d, rfl, hd, hs, hdp, hz, q⟩ := h
  obtain ⟨u, rfl, ru⟩ := vals1 r
  cases ru
  rcases hd with ⟨xs, ds, e, rs, rfl, ne⟩ | ⟨xs, ds, e, rs, rfl⟩
  · obtain ⟨_, its, n, rv, eh⟩ := (show ObjOk X.prog X.w H s.heap a (.lst xs) from I.hok a _ e)
    have lz : (listText (PyData.shownAll ds)).length ≤ sizeLine := hz
    have dp : PyData.depthAll ds + 1 ≤ 16 := hdp
    obtain ⟨as, bs, ra, hb, hk⟩ := RpDs.ks (P := X.prog) (w := X.w) I.hok rs rv hs fun t ht => Nat.le_trans (listText_mem_le ht) lz
    have rd : Reads s.heap (.ref a) (.list ds) _ := .list eh rfl rfl (by simpa using ra)
    have out := not_mem_of_deeper rd (Nat.lt_succ_self (PyData.depthAll ds)) hb
    cases its with
    | nil => cases ra; exact absurd rfl ne
    | cons y l =>
      refine call_repr_slot (by omega) ⟨_, eh, rfl⟩ F.slot_list_repr.toG ?_
      exact call_list_reprK eh rfl rfl out (by simpa using hk.length_eq) (fun i z ez => hk.item i z (by simpa using ez)) (show X.A.in1.guards = some [] from hg) (fun b _ => Clear.nil b) (by show X.A.units + 1 + (PyData.depthAll ds + 1) < cLine; omega) (fun _ _ z => z) (fun h' u' tk hk' => ⟨_, _, rfl, .str _, H, I.kept hk', ⟨u', rfl⟩, q⟩) lz
  · obtain ⟨_, its, rv, pt⟩ := (show ObjOk X.prog X.w H s.heap a (.tup xs) from I.hok a _ e)
    obtain ⟨o, eh, hc, n, hd⟩ := pt.tup
    have tz : (tupleText (PyData.shownAll ds)).length ≤ sizeLine := hz
    have dp : PyData.depthAll ds + 1 ≤ 16 := hdp
    obtain ⟨as, bs, ra, hb, hk⟩ := RpDs.ks (P := X.prog) (w := X.w) I.hok rs rv hs fun t ht => Nat.le_trans (tupleText_mem_le ht) tz
    have rd : Reads s.heap (.ref a) (.tuple ds) _ := .tuple eh hc hd (by simpa using ra)
    have out := not_mem_of_deeper rd (Nat.lt_succ_self (PyData.depthAll ds)) hb
    refine call_repr_slot (by omega) ⟨_, eh, hc⟩ F.slot_tuple_repr ?_
    exact call_tuple_reprK eh hc hd out (by simpa using hk) (show X.A.in1.guards = some [] from hg) (fun b _ => Clear.nil b) (by show X.A.units + 1 + (PyData.depthAll ds + 1) < cLine; omega) (fun _ _ z => z) (fun h' u' tk hk' => ⟨_, _, rfl, .str _, H, I.kept hk', ⟨u', rfl⟩, q⟩) tz
variable {p pos : Pos} {e : Expr} {t : TA}
theorem b_reprD (gd : X.A.guards = some []) (hu : X.A.units + 64 < cLine) (B : Blt X.mg) (ha : PA X [e] t) (hg : Gl X "repr" := by rfl) (he : starEach [e] X.env = (false, eval e X.env) :: starEach [] X.env := by rfl) (hpl : (backTo pos (starEach [] X.env)).any (·.1) = false := by rfl) : PE X (.Call (.Name "repr" p) [e] [] pos) (tCB rReprD t) :=
  pe_callB (call_reprD gd hu) hg B.repr boot_repr ha (by decide) (by decide) he hpl
end
structure Sv (d : PyData) (n k : Nat) : Prop where
  sb : d.showable = true
  dp : d.depth ≤ k
  ln : d.shown.length ≤ n
theorem Sw.sv {d : PyData} {n k : Nat} (h : Sw d n k) : Sv d n k := ⟨h.sb, h.dp, h.ln⟩
theorem Sv.mono {d : PyData} {n k n' k' : Nat} (h : Sv d n k) (hn : n ≤ n') (hk : k ≤ k') : Sv d n' k' := ⟨h.sb, Nat.le_trans h.dp hk, Nat.le_trans h.ln hn⟩
theorem Sv.all {n k : Nat} : ∀ {ds : List PyData}, (∀ d ∈ ds, Sv d n k) → PyData.showableAll ds = true ∧ PyData.depthAll ds ≤ k
  | [], _ => ⟨rfl, Nat.zero_le _⟩
  | d :: ds, h => by
    obtain ⟨b, c⟩ := Sv.all fun x hx => h x (List.mem_cons_of_mem _ hx)
    have q := h d (by simp)
    refine ⟨?_, Nat.max_le.mpr ⟨q.dp, c⟩⟩
    show (PyData.showable d && PyData.showableAll ds) = true
    rw [q.sb, b]; rfl
theorem Sv.list {n k m : Nat} {ds : List PyData} (h : ∀ d ∈ ds, Sv d n k) (hm : ds.length ≤ m) : Sv (.list ds) (2 + m * (n + 2)) (k + 1) := by
  obtain ⟨b, c⟩ := Sv.all h
  refine ⟨b, Nat.succ_le_succ c, ?_⟩
  have g := textFrom_le (n := n) (ds.map PyData.shown) 0 "[" fun t ht => by
    obtain ⟨e, he, rfl⟩ := List.mem_map.mp ht
    exact (h e he).ln
  rw [List.length_map] at g
  have mm := Nat.mul_le_mul_right (n + 2) hm
  have o1 : (Str.ofString "[").length = 1 := rfl
  have o2 : (Str.ofString "]").length = 1 := rfl
  have g : (textFrom 0 (Str.ofString "[") (ds.map PyData.shown)).length ≤ (Str.ofString "[").length + ds.length * (n + 2) := g
  show (textFrom 0 "[" (PyData.shownAll ds) ++ "]").length ≤ _
  rw [shownAll_map, len_app]
  show (textFrom 0 (Str.ofString "[") (ds.map PyData.shown)).length + (Str.ofString "]").length ≤ _
  omega
theorem Sv.tuple {n k m : Nat} {ds : List PyData} (h : ∀ d ∈ ds, Sv d n k) (hm : ds.length ≤ m) : Sv (.tuple ds) (3 + m * (n + 2)) (k + 1) := by
  obtain ⟨b, c⟩ := Sv.all h
  refine ⟨b, Nat.succ_le_succ c, ?_⟩
  have g := join_le (n := n) (ds.map PyData.shown) fun t ht => by
    obtain ⟨e, he, rfl⟩ := List.mem_map.mp ht
    exact (h e he).ln
  rw [List.length_map] at g
  have mm := Nat.mul_le_mul_right (n + 2) hm
  have o1 : (Str.ofString "(").length = 1 := rfl
  have o2 : ∀ b : Bool, (Str.ofString (if b then ",)" else ")" : String)).length ≤ 2 := by intro b; cases b <;> decide
  show (tupleText (PyData.shownAll ds)).length ≤ _
  rw [shownAll_map]
  show (("(" : Str) ++ Str.join ", " (ds.map PyData.shown) ++ (if (ds.map PyData.shown).length == 1 then ",)" else ")" : String)).length ≤ _
  rw [len_app, len_app]
  have o3 := o2 ((ds.map PyData.shown).length == 1)
  show (Str.ofString "(").length + _ + (Str.ofString (if (ds.map PyData.shown).length == 1 then ",)" else ")" : String)).length ≤ _
  omega
end L2
namespace L2
open PySem PySem.Spec PyProof.Rows PySem.W
theorem repr_asc {s : Str} {n : Nat} (h : ∀ c ∈ s.cps.toList, c < 128) (hn : s.length ≤ n) : (PyData.str s).shown.length ≤ 10 * n + 2 := by
  have := StrLaws.reprText_len s fun c hc => Nat.lt_trans (h c hc) (by decide)
  show (reprText s).length ≤ _
  omega
end L2
namespace L2
open PySem PySem.Calls PyProof.Rows
section
variable {X : Cx}
noncomputable def tFsI (a : Str) (te : TE) (b : Str) : TE := fun σ H Q => te σ H fun x H1 => ∃ i : Int, x = .int i ∧ i.natAbs.log2 < 1920 ∧ a.length ≤ sizeLine ∧ (a ++ (toString i : Str)).length ≤ sizeLine ∧ (a ++ (toString i : Str) ++ b).length ≤ sizeLine ∧ ∀ z : Str, Q (.str z) H1
theorem empty_app (a : Str) : Str.empty ++ a = a := by
  cases a with
  | mk d => exact congrArg Str.mk (Array.empty_append ..)
theorem pe_fsI {e : Expr} {te : TE} {a b : Str} {j1 j2} {p1 p2 p3 pos : Pos} (he : PE X e te) (ha : a.length ≤ sizeLine := by decide) : PE X (.JoinedStr [.Constant (.str a) j1 p1, .FormattedValue e (-1) none p2, .Constant (.str b) j2 p3] pos) (tFsI a te b) := by
  intro pins s σ H Q I h
  refine JoinedStr_many (joinParts_cons (Calls.Constant_str ⟨(by rw [empty_app]; exact ha), ?_⟩))
  rw [empty_app]
  refine joinParts_cons (FormattedValue_plain (wpAny_mono (he pins _ σ H _ (I.tok _) h) (fun v s1 hq => ?_) fun _ _ x => x))
  obtain ⟨x, H1, I1, r, i, rfl, hl, h1, h2, h3, q⟩ := hq
  obtain ⟨t, rfl⟩ := r
  refine formatField_int_small hl ⟨h2, ?_⟩
  exact joinParts_cons (Calls.Constant_str ⟨h3, joinParts_nil ⟨.str _, H1, (((I1.tok _).tok _).tok _).tok _, ⟨_, rfl⟩, q _⟩ h3⟩)
end
end L2
namespace K03
open PySem L2
noncomputable def top (i : Nat) : Stmt := PySem.Challenge.pw_orderkeep_k03_no_webs.main.body.getD i (.Pass ⟨0, 0, 0, 0⟩)
noncomputable abbrev sIsName : Stmt := top 23
noncomputable abbrev sWebOf : Stmt := top 27
noncomputable abbrev sPlaces : Stmt := top 28
noncomputable abbrev sAreThings : Stmt := top 29
noncomputable abbrev sUNm : Stmt := top 30
noncomputable abbrev sUnlike : Stmt := top 31
noncomputable abbrev sWrong : Stmt := top 32
noncomputable abbrev sAmong : Stmt := top 33
noncomputable abbrev sPen : Stmt := top 35
noncomputable abbrev sDraw : Stmt := top 36
noncomputable abbrev sNames : Stmt := top 37
noncomputable abbrev sThings : Stmt := top 38
noncomputable abbrev sTies : Stmt := top 39
noncomputable abbrev sNoRow : Stmt := top 40
noncomputable abbrev sNoName : Stmt := top 41
noncomputable abbrev sNoTie : Stmt := top 42
noncomputable abbrev sManyTies : Stmt := top 43
noncomputable abbrev sSpoiled : Stmt := top 44
noncomputable abbrev sAlone : Stmt := top 45
noncomputable abbrev sRefused : Stmt := top 46
noncomputable abbrev sLaw : Stmt := top 47
section
variable {P : Program} {w : World} {K : PySem.W.Frag} {mg : Str → Option Value} {base : Heap}
noncomputable def spNames (K : PySem.W.Frag) : Sp := fun vs H Q _ => ∃ (p a : Addr) (m : Nat), vs = [.ref p, .int (m : Int)] ∧ Pen K H p a ∧ m ≤ 61 ∧
  ∀ l ss H', ss.length = m → ss.Nodup → (∀ s ∈ ss, Nm s) → H' l = some (.lst (List.map V.str ss)) → H l = none → l ≠ p → PenV H' p a → But p H H' → Q (.ref l) H'
noncomputable def spPen (K : PySem.W.Frag) : Sp := fun vs H Q _ => ∃ (a : Addr) (ns : List Int), vs = [.ref a] ∧ SqL K H a (ns.map V.int) ∧ ∀ p H', Pen K H' p a → Q (.ref p) H'
theorem scPen : FnScope ["_law_script"] ["_law_script"] (defScope sPen) := ⟨rfl, rfl, rfl, by decide +kernel, rfl, by decide +kernel, by decide +kernel⟩
theorem ok_pen {f : Addr} {fd : FuncData} (F : Fun K "_law_pen" "_law_pen" sPen f fd) (B : Blt mg) : FnOk P w K mg base CX0 1 f fd ["_law_script"] (spPen K) := by
  refine F.ok scPen (fun vs H Q E h => ?_) (fun cdv A outer s H vs Q E hr h => ?_)
  · obtain ⟨a, ns, rfl, _⟩ := h
    rfl
  · obtain ⟨a, ns, rfl, hS, k⟩ := h
    have nd := scPen.nd
    refine ⟨_, (pss_one (ps_ret (pe_lst (pa_cons (pv 0) (pa_cons pe_int (pa_cons pe_int pa_nil)))))), ?_⟩
    refine ⟨_, rfl, (by show 3 ≤ sizeLine; decide), fun p hp => ?_⟩
    exact k p _ (Pen.new (ns := ns) hS hp ⟨0, 0, upd_same, by decide, by decide⟩)
theorem scDraw : FnScope ["_law_pen_here", "_law_most", "_law_found", "_law_place", "_law_cell", "_law_first", "_law_second"] ["_law_pen_here", "_law_most"] (defScope sDraw) := ⟨rfl, rfl, rfl, by decide +kernel, rfl, by decide +kernel, by decide +kernel⟩
theorem ok_draw {f : Addr} {fd : FuncData} (F : Fun K "_law_draw" "_law_draw" sDraw f fd) (B : Blt mg) : FnOk P w K mg base CX0 1 f fd ["_law_pen_here", "_law_most"] (spDraw K) := by
  refine F.ok scDraw (fun vs H Q E h => ?_) (fun cdv A outer s H vs Q E hr h => ?_)
  · obtain ⟨p, a, m, rfl, _⟩ := h
    rfl
  · obtain ⟨p, a, m, rfl, ⟨⟨ns, hS⟩, i, n, hp, hi, hn⟩, hm, hm2, k⟩ := h
    have ku : ∀ (H1 : Hp) (o : HO), (∀ b, b ≠ p → H1 b = H b) → ∀ b, b ≠ p → (upd H1 p o) b = H b := fun H1 o q b n => by rw [upd_ne n]; exact q b n
    have nd := scDraw.nd
    refine ⟨_, (pss_cons (ps_if (pt_cmpR op_gt (pe_ix (ix_X K hr.units) (pv 0) pe_int (fun _ _ => rfl)) pe_int (nomark _)) (pss_cons (ps_set (i := 2) nd rfl (Or.inl rfl) (pe_op op_mod (pe_ix (ix_X K hr.units) (pv 0) pe_int (fun _ _ => rfl)) (pv 1)))
      (pss_cons (ps_asg (pe_op op_fdiv (pe_ix (ix_X K hr.units) (pv 0) pe_int (fun _ _ => rfl)) (pv 1)) (pg_sub (pv 0) pe_int (set_X hr.units)))
      (pss_one (ps_ret (pv 2))))) pss_nil)
      (pss_cons (ps_set (i := 3) nd rfl (Or.inl rfl) (pe_ix (ix_X K hr.units) (pv 0) pe_int (fun _ _ => rfl)))
      (pss_cons (ps_asg (pe_op op_addX (pv 3) pe_int) (pg_sub (pv 0) pe_int (set_X hr.units)))
      (pss_cons (ps_set (i := 4) nd rfl (Or.inl rfl) pe_int)
      (pss_cons (ps_if (pt_cmpR op_gt (b_len K B (pa_cons (pe_ix (ix_X K hr.units) (pv 0) pe_int (fun _ _ => rfl)) pa_nil)) pe_int (nomark _)) (pss_one (ps_set (i := 4) nd rfl (Or.inl rfl) (pe_ix (ix_X K hr.units) (pe_ix (ix_X K hr.units) (pv 0) pe_int (fun _ _ => rfl)) (pe_op op_mod (pv 3) (b_len K B (pa_cons (pe_ix (ix_X K hr.units) (pv 0) pe_int (fun _ _ => rfl)) pa_nil))) (fun _ _ => rfl)))) pss_nil)
      (pss_cons (ps_if (PW.pt (pw_and (pt_cmpR op_ltX (pv 3) (b_len K B (pa_cons (pe_ix (ix_X K hr.units) (pv 0) pe_int (fun _ _ => rfl)) pa_nil)) (nomark _)) (pw_and1 (pt_cmpR op_ge (b_abs B (pa_cons (pv 4) pa_nil)) (pe_op op_pow pe_int pe_int) (nomark _))))) (pss_cons (ps_asg (pe_op op_fdiv (b_abs B (pa_cons (pv 4) pa_nil)) (pv 1)) (pg_sub (pv 0) pe_int (set_X hr.units)))
      (pss_one (ps_ret (pe_op op_mod (b_abs B (pa_cons (pv 4) pa_nil)) (pv 1))))) pss_nil)
      (pss_cons (ps_set (i := 5) nd rfl (Or.inl rfl) (pe_op op_mod (pe_op op_mul (pe_op op_addX (pe_op op_addX (pe_op op_mod (pv 4) pe_int) (pe_op op_mul pe_int (pv 3))) pe_int) pe_int) pe_int))
      (pss_cons (ps_set (i := 6) nd rfl (Or.inl rfl) (pe_op op_mod (pe_op op_addX (pe_op op_addX (pe_op op_mul (pv 5) (pv 5)) (pe_op op_mul pe_int (pv 3))) pe_int) pe_int))
      (pss_one (ps_ret (pe_op op_mod (pe_op op_fdiv (pv 6) pe_int) (pv 1)))))))))))), ?_⟩
    refine ⟨_, rfl, .lst (.of hp) rfl ⟨_, _, rfl, rfl, _, rfl, ?_⟩⟩
    refine ite2 (fun h => ?_) (fun h => ?_)
    · refine ⟨_, rfl, .lst (.of hp) rfl ⟨_, rfl, _, _, rfl, rfl, hm, ?_⟩⟩
      refine ⟨_, rfl, .lst (.of hp) rfl ⟨_, rfl, _, _, rfl, rfl, ⟨hm, hm2⟩, ?_⟩⟩
      refine ⟨_, rfl, .lst (j := 2) hp rfl ?_⟩
      refine ⟨_, rfl, ?_⟩
      exact k _ _ (Int.emod_nonneg _ (by omega)) (Int.emod_lt_of_pos _ hm) ⟨i, n / m, upd_same, hi, Int.ediv_nonneg hn (by omega)⟩ (ku H _ fun _ _ => rfl)
    · refine ⟨_, rfl, .lst (.of hp) rfl ?_⟩
      refine ⟨_, rfl, .int ?_⟩
      refine ⟨_, rfl, .lst (j := 1) hp rfl ?_⟩
      have hp1 : (upd H p (.lst ([V.ref a, V.int i, V.int n].set 1 (V.int (i + 1))))) p = some (.lst [.ref a, .int (i + 1), .int n]) := upd_same
      have hS1 : SqL K (upd H p (.lst ([V.ref a, V.int i, V.int n].set 1 (V.int (i + 1))))) a (ns.map V.int) := hS _ But.upd
      have b1 : ∀ b, b ≠ p → (upd H p (.lst ([V.ref a, V.int i, V.int n].set 1 (V.int (i + 1))))) b = H b := ku H _ fun _ _ => rfl
      generalize upd H p (.lst ([V.ref a, V.int i, V.int n].set 1 (V.int (i + 1)))) = H1 at hp1 hS1 b1 ⊢
      have fin : ∀ c : Int, 0 ≤ c → Q (.int (c % m)) H1 := fun c hc => k _ _ (Int.emod_nonneg _ (by omega)) (Int.emod_lt_of_pos _ hm) ⟨i + 1, n, hp1, by omega, hn⟩ b1
      refine ⟨_, rfl, .lst (.of hp1) rfl ⟨_, _, rfl, Or.inl ⟨_, hS1, rfl⟩, _, _, rfl, rfl, _, rfl, ?_⟩⟩
      refine ite2 (fun h => ?a) (fun h => ?b)
      case' a =>
        have hl : (0 : Int) < ((ns.map V.int).length : Nat) := of_decide_eq_true h
        obtain ⟨c, hc⟩ := at_int (ns := ns) (j := i % ((ns.map V.int).length : Nat)) (Int.emod_nonneg _ (by omega)) (Int.emod_lt_of_pos _ hl)
        refine ⟨_, rfl, .lst (.of hp1) rfl ⟨_, rfl, _, rfl, .lst (.of hp1) rfl ⟨_, _, rfl, Or.inl ⟨_, hS1, rfl⟩, _, _, rfl, rfl, hl, .lst hS1 hc ?_⟩⟩⟩
      all_goals
        refine ⟨_, rfl, _, rfl, .lst (.of hp1) rfl ⟨_, _, rfl, Or.inl ⟨_, hS1, rfl⟩, .int ⟨_, rfl, ?_⟩⟩⟩
        refine ite2 (fun h1 => ?_) (fun h1 => ?_)
        · refine ⟨_, rfl, _, rfl, _, _, rfl, rfl, ⟨by decide, by decide, by decide⟩, _, _, rfl, rfl, _, rfl, ?_⟩
          refine ite2 (fun h2 => ?_) (fun h2 => ?_)
          · refine ⟨_, rfl, _, rfl, _, rfl, _, _, rfl, rfl, ⟨hm, hm2⟩, ?_⟩
            refine ⟨_, rfl, .lst (j := 2) hp1 rfl ?_⟩
            refine ⟨_, rfl, _, rfl, _, rfl, _, _, rfl, rfl, hm, ?_⟩
            refine k _ _ (Int.emod_nonneg _ (by omega)) (Int.emod_lt_of_pos _ hm) ⟨i + 1, _, upd_same, by omega, Int.ediv_nonneg (by split <;> omega) (by omega)⟩ (ku H1 _ b1)
          · refine ⟨_, rfl, _, _, rfl, rfl, (by show (0 : Int) < _; decide), _, rfl, _, _, rfl, rfl, .inl ⟨by decide, by decide⟩, .int (.int ⟨_, _, rfl, rfl, .inr ⟨by decide, by decide⟩, _, _, rfl, rfl, (by show (0 : Int) < _; decide), ?_⟩)⟩
            refine ⟨_, rfl, _, rfl, _, _, rfl, rfl, .inl (fst_small _), _, rfl, _, _, rfl, rfl, .inl ⟨by decide, by decide⟩, .int (.int ⟨_, _, rfl, rfl, (by show (0 : Int) < _; decide), ?_⟩)⟩
            refine ⟨_, rfl, _, _, rfl, rfl, ⟨by decide, by decide⟩, _, rfl, _, _, rfl, rfl, hm, ?_⟩
            exact fin _ (Int.ediv_nonneg (Int.emod_nonneg _ (by decide)) (by decide))
        · refine ⟨_, rfl, _, _, rfl, rfl, (by show (0 : Int) < _; decide), _, rfl, _, _, rfl, rfl, .inl ⟨by decide, by decide⟩, .int (.int ⟨_, _, rfl, rfl, .inr ⟨by decide, by decide⟩, _, _, rfl, rfl, (by show (0 : Int) < _; decide), ?_⟩)⟩
          refine ⟨_, rfl, _, rfl, _, _, rfl, rfl, .inl (fst_small _), _, rfl, _, _, rfl, rfl, .inl ⟨by decide, by decide⟩, .int (.int ⟨_, _, rfl, rfl, (by show (0 : Int) < _; decide), ?_⟩)⟩
          refine ⟨_, rfl, _, _, rfl, rfl, ⟨by decide, by decide⟩, _, rfl, _, _, rfl, rfl, hm, ?_⟩
          exact fin _ (Int.ediv_nonneg (Int.emod_nonneg _ (by decide)) (by decide))
end
end K03
namespace K03
open PySem L2
section
variable {P : Program} {w : World} {K : PySem.W.Frag} {mg : Str → Option Value} {base : Heap}
noncomputable abbrev letters : Str := "abcdefghijklmnopqrstuvwxyz"
noncomputable def wordsA : List Str := ["things", "thing", "tie", "ties", "web", "one", "other", "order", "a", "aa", "z", "top"]
noncomputable def wordsB : List Str := ["line", "ring", "place", "text", "none"]
noncomputable def wordsL : List Str := wordsA ++ wordsB
theorem words_nm : ∀ s ∈ wordsL, isNm (.str s) = true := by decide +kernel
theorem words_nodup : wordsL.Nodup := by decide +kernel
theorem words_len : wordsL.length = 17 := by decide +kernel
noncomputable def aE : Stmt → Expr
  | .Assign _ e _ => e
  | _ => .Name "" ⟨0, 0, 0, 0⟩
noncomputable def withE : Stmt → Expr → Stmt
  | .Assign ts _ p, e => .Assign ts e p
  | s, _ => s
@[irreducible] noncomputable def bigE : Expr := aE ((defBody sNames).getD 1 (.Pass ⟨0, 0, 0, 0⟩))
theorem body_eq : defBody sNames = (defBody sNames).set 1 (withE ((defBody sNames).getD 1 (.Pass ⟨0, 0, 0, 0⟩)) bigE) := by unfold bigE; rfl
theorem big_sw {t : Option Expr} {l : Nat} {env : Env} : swapsWith bigE t l env = pure false := by unfold bigE; rfl
theorem pe_big {X : Cx} : PE X bigE (tLst (tCons (tC (.str "things")) (tCons (tC (.str "thing")) (tCons (tC (.str "tie")) (tCons (tC (.str "ties")) (tCons (tC (.str "web")) (tCons (tC (.str "one")) (tCons (tC (.str "other")) (tCons (tC (.str "order")) (tCons (tC (.str "a")) (tCons (tC (.str "aa")) (tCons (tC (.str "z")) (tCons (tC (.str "top")) tNil))))))))))))) := by
  have e : ∃ q q1 q2 q3 q4 q5 q6 q7 q8 q9 q10 q11 q12 j1 j2 j3 j4 j5 j6 j7 j8 j9 j10 j11 j12, bigE = .List [.Constant (.str "things") j1 q1, .Constant (.str "thing") j2 q2, .Constant (.str "tie") j3 q3, .Constant (.str "ties") j4 q4, .Constant (.str "web") j5 q5, .Constant (.str "one") j6 q6, .Constant (.str "other") j7 q7, .Constant (.str "order") j8 q8, .Constant (.str "a") j9 q9, .Constant (.str "aa") j10 q10, .Constant (.str "z") j11 q11, .Constant (.str "top") j12 q12] q := by
    unfold bigE
    exact ⟨_, _, _, _, _, _, _, _, _, _, _, _, _, _, _, _, _, _, _, _, _, _, _, _, _, rfl⟩
  obtain ⟨q, q1, q2, q3, q4, q5, q6, q7, q8, q9, q10, q11, q12, j1, j2, j3, j4, j5, j6, j7, j8, j9, j10, j11, j12, e⟩ := e
  rw [e]
  with_reducible exact pe_lst (pa_cons pe_str (pa_cons pe_str (pa_cons pe_str (pa_cons pe_str (pa_cons pe_str (pa_cons pe_str (pa_cons pe_str (pa_cons pe_str (pa_cons pe_str (pa_cons pe_str (pa_cons pe_str (pa_cons pe_str pa_nil star_c) star_c) star_c) star_c) star_c) star_c) star_c) star_c) star_c) star_c) star_c) star_c)
theorem str_at {ss : List Str} {i : Nat} (h : i < ss.length) : atI (List.map V.str ss) (i : Int) = some (.str (ss.getD i "")) := atI_nat (by simp [h, List.getD_eq_getElem?_getD])
theorem getD_by {f : Nat → Str} {m i : Nat} (h : i < m) : ((List.range m).map f).getD i "" = f i := by rw [List.getD_eq_getElem?_getD, List.getElem?_map, List.getElem?_range h]; rfl
theorem scNames : FnScope ["_law_pen_here", "_law_many", "_law_letters", "_law_words", "_law_base", "_law_size", "_law_at", "_law_turn", "_law_manner", "_law_signs", "_law_head", "_law_tail"] ["_law_pen_here", "_law_many"] (defScope sNames) := ⟨rfl, rfl, rfl, by decide +kernel, rfl, by decide +kernel, by decide +kernel⟩
theorem ok_names {f : Addr} {fd : FuncData} (F : Fun K "_law_names" "_law_names" sNames f fd) (B : Blt mg) (c_law_draw : Cal P w K mg base 1 "_law_draw" ["_law_pen_here", "_law_most"] (spDraw K)) : FnOk P w K mg base CX0 2 f fd ["_law_pen_here", "_law_many"] (spNames K) := by
  refine F.ok scNames (fun vs H Q E h => ?_) (fun cdv A outer s H vs Q E hr h => ?_)
  · obtain ⟨p, a, m, rfl, _⟩ := h
    rfl
  · obtain ⟨p, a, m, rfl, hP, hm, k⟩ := h
    have nd := scNames.nd
    have v0 := hP.2
    have lL : letters.length ≤ sizeLine := by decide +kernel
    rw [body_eq]
    refine ⟨_, (pss_cons (ps_set (i := 2) nd rfl (Or.inr rfl) pe_str)
      (pss_cons (ps_set (i := 3) nd rfl (Or.inr rfl) pe_big big_sw)
      (pss_cons (ps_set (i := 3) nd rfl (Or.inr rfl) (pe_op op_addX (pv 3) (pe_lst (pa_cons pe_str (pa_cons pe_str (pa_cons pe_str (pa_cons pe_str (pa_cons pe_str pa_nil star_c) star_c) star_c) star_c) star_c))))
      (pss_cons (ps_set (i := 4) nd rfl (Or.inr rfl) (m_join K pe_str (pa_cons (pe_comp (defScope sNames) ["_law_pen_here", "_law_many", "_law_letters", "_law_words", "_law_base", "_law_size", "_law_at", "_law_turn", "_law_manner", "_law_signs", "_law_head", "_law_tail"] ["_law_k"] [2, 0] ["_law_k", "_law_letters", "_law_pen_here"] rfl (pi_range1 rfl B.range (pa_cons pe_int pa_nil)) (fun _ _ _ _ _ => (pg_name (i := 0) (show (["_law_k", "_law_letters", "_law_pen_here"] : List Str).Nodup by decide) rfl (Or.inl rfl))) (fun _ _ _ _ _ => pts_nil) (fun _ _ _ _ _ => (pe_ix (ix_X K hr.units) (pv 1) (pe_cal c_law_draw (hr.mono (by decide)) rfl (pa_cons (pv 2) (pa_cons pe_int pa_nil))) (fun _ _ => rfl)))) pa_nil)))
      (pss_cons (ps_set (i := 5) nd rfl (Or.inr rfl) (pe_op op_addX pe_int (pe_cal c_law_draw (hr.mono (by decide)) rfl (pa_cons (pv 0) (pa_cons pe_int pa_nil)))))
      (pss_cons (ps_set (i := 6) nd rfl (Or.inr rfl) (pe_cal c_law_draw (hr.mono (by decide)) rfl (pa_cons (pv 0) (pa_cons (pv 5) pa_nil))))
      (pss_cons (ps_set (i := 7) nd rfl (Or.inr rfl) (pe_cal c_law_draw (hr.mono (by decide)) rfl (pa_cons (pv 0) (pa_cons pe_int pa_nil))))
      (pss_cons (ps_set (i := 8) nd rfl (Or.inl rfl) (pe_cal c_law_draw (hr.mono (by decide)) rfl (pa_cons (pv 0) (pa_cons pe_int pa_nil))))
      (pss_cons (ps_if (PW.pt (pw_and (pt_cmpR (op_eqX hr.units) (pv 8) pe_int (nomark _)) (pw_and1 (pt_cmpR op_ltX (pv 1) pe_int (nomark _))))) (pss_one (ps_ret (pe_comp (defScope sNames) ["_law_pen_here", "_law_many", "_law_letters", "_law_words", "_law_base", "_law_size", "_law_at", "_law_turn", "_law_manner", "_law_signs", "_law_head", "_law_tail"] ["_law_k"] [4, 7] ["_law_k", "_law_base", "_law_turn"] rfl (pi_range1 rfl B.range (pa_cons (pv 1) pa_nil)) (fun _ _ _ _ _ => (pg_name (i := 0) (show (["_law_k", "_law_base", "_law_turn"] : List Str).Nodup by decide) rfl (Or.inl rfl))) (fun _ _ _ _ _ => pts_nil) (fun _ _ _ _ _ => (pe_slice (sl_K K) (pv 1) po_none (po_some (pe_op op_addX (pe_op op_mod (pe_op op_addX (pv 2) (pe_op op_mul pe_int (pv 0))) pe_int) pe_int))))))) pss_nil)
      (pss_cons (ps_if (PW.pt (pw_and (pt_cmpR (op_eqX hr.units) (pv 8) pe_int (nomark _)) (pw_and1 (pt_cmpR op_ltX (pv 1) pe_int (nomark _))))) (pss_one (ps_ret (pe_comp (defScope sNames) ["_law_pen_here", "_law_many", "_law_letters", "_law_words", "_law_base", "_law_size", "_law_at", "_law_turn", "_law_manner", "_law_signs", "_law_head", "_law_tail"] ["_law_k"] [3, 7] ["_law_k", "_law_words", "_law_turn"] rfl (pi_range1 rfl B.range (pa_cons (pv 1) pa_nil)) (fun _ _ _ _ _ => (pg_name (i := 0) (show (["_law_k", "_law_words", "_law_turn"] : List Str).Nodup by decide) rfl (Or.inl rfl))) (fun _ _ _ _ _ => pts_nil) (fun _ _ _ _ _ => (pe_ix (ix_X K hr.units) (pv 1) (pe_op op_mod (pe_op op_addX (pv 2) (pv 0)) pe_int) (fun _ _ => rfl)))))) pss_nil)
      (pss_cons (ps_set (i := 9) nd rfl (Or.inr rfl) (pe_comp (defScope sNames) ["_law_pen_here", "_law_many", "_law_letters", "_law_words", "_law_base", "_law_size", "_law_at", "_law_turn", "_law_manner", "_law_signs", "_law_head", "_law_tail"] ["_law_k"] [2, 7] ["_law_k", "_law_letters", "_law_turn"] rfl (pi_range1 rfl B.range (pa_cons (pv 1) pa_nil)) (fun _ _ _ _ _ => (pg_name (i := 0) (show (["_law_k", "_law_letters", "_law_turn"] : List Str).Nodup by decide) rfl (Or.inl rfl))) (fun _ _ _ _ _ => pts_nil) (fun _ _ _ _ _ => (pe_ix (ix_X K hr.units) (pv 1) (pe_op op_mod (pe_op op_addX (pv 2) (pe_op op_mul pe_int (pv 0))) pe_int) (fun _ _ => rfl)))))
      (pss_cons (ps_if (pt_cmpR op_ltX (pv 1) pe_int (nomark _)) (pss_one (ps_ret (pe_comp (defScope sNames) ["_law_pen_here", "_law_many", "_law_letters", "_law_words", "_law_base", "_law_size", "_law_at", "_law_turn", "_law_manner", "_law_signs", "_law_head", "_law_tail"] ["_law_sign"] [4, 5, 6] ["_law_sign", "_law_base", "_law_size", "_law_at"] rfl (pi_listK K (pv 9)) (fun _ _ _ _ _ => (pg_name (i := 0) (show (["_law_sign", "_law_base", "_law_size", "_law_at"] : List Str).Nodup by decide) rfl (Or.inl rfl))) (fun _ _ _ _ _ => pts_nil) (fun _ _ _ _ _ => (pe_op op_addX (pe_op op_addX (pe_slice (sl_K K) (pv 1) po_none (po_some (pv 3))) (pv 0)) (pe_slice (sl_K K) (pv 1) (po_some (pe_op op_addX (pv 3) pe_int)) (po_some (pv 2)))))))) pss_nil)
      (pss_cons (ps_set (i := 10) nd rfl (Or.inr rfl) (pe_slice (sl_K K) (pv 4) po_none (po_some (pe_op op_mod (pv 6) pe_int))))
      (pss_cons (ps_set (i := 11) nd rfl (Or.inr rfl) (pe_slice (sl_K K) (pv 4) (po_some (pe_op op_mod (pv 6) pe_int)) (po_some (pe_op op_mod (pv 5) pe_int))))
      (pss_one (ps_ret (pe_comp (defScope sNames) ["_law_pen_here", "_law_many", "_law_letters", "_law_words", "_law_base", "_law_size", "_law_at", "_law_turn", "_law_manner", "_law_signs", "_law_head", "_law_tail"] ["_law_k"] [11, 10, 2, 9] ["_law_k", "_law_tail", "_law_head", "_law_letters", "_law_signs"] rfl (pi_range1 rfl B.range (pa_cons (pv 1) pa_nil)) (fun _ _ _ _ _ => (pg_name (i := 0) (show (["_law_k", "_law_tail", "_law_head", "_law_letters", "_law_signs"] : List Str).Nodup by decide) rfl (Or.inl rfl))) (fun _ _ _ _ _ => pts_nil) (fun _ _ _ _ _ => (pe_op op_addX (pe_op op_addX (pe_op op_addX (pv 2) (pe_ix (ix_X K hr.units) (pv 4) (pv 0) (fun _ _ => rfl))) (pe_ix (ix_X K hr.units) (pv 3) (pe_op op_fdiv (pv 0) pe_int) (fun _ _ => rfl))) (pv 1)))))))))))))))))))), ?_⟩
    refine ⟨(by show 12 ≤ sizeLine; decide), fun l1 hl1 => ?_⟩
    have n1 := v0.ne hl1
    have b1 := (But.refl p H).at (o := .lst (List.map V.str wordsA)) hl1
    have v1 := v0.upd (o := .lst (List.map V.str wordsA)) n1
    have e1 : upd H l1 (.lst (List.map V.str wordsA)) l1 = some (.lst (List.map V.str wordsA)) := upd_same
    show tSeq _ _ _ _ (upd H l1 (.lst (List.map V.str wordsA)))
    generalize upd H l1 (.lst (List.map V.str wordsA)) = H1 at b1 v1 e1 ⊢
    refine ⟨_, rfl, (by show 5 ≤ sizeLine; decide), fun l2 hl2 => ?_⟩
    have n2 := v1.ne hl2
    have b2 := b1.at (o := .lst ([V.str "line", V.str "ring", V.str "place", V.str "text", V.str "none"])) (b1.free (Ne.symm n2) hl2)
    have v2 := v1.upd (o := .lst ([V.str "line", V.str "ring", V.str "place", V.str "text", V.str "none"])) n2
    refine .lst (by rw [upd_ne (ne_of_none e1 hl2)]; exact e1) upd_same (by show 17 ≤ sizeLine; decide) fun lw hlw => ?_
    have n3 := v2.ne hlw
    have b3 := b2.at (o := .lst (List.map V.str wordsA ++ [V.str "line", V.str "ring", V.str "place", V.str "text", V.str "none"])) (b2.free (Ne.symm n3) hlw)
    have v3 := v2.upd (o := .lst (List.map V.str wordsA ++ [V.str "line", V.str "ring", V.str "place", V.str "text", V.str "none"])) n3
    have e3 : upd (upd H1 l2 (.lst ([V.str "line", V.str "ring", V.str "place", V.str "text", V.str "none"]))) lw (.lst (List.map V.str wordsA ++ [V.str "line", V.str "ring", V.str "place", V.str "text", V.str "none"])) lw = some (.lst (List.map V.str wordsL)) := by rw [upd_same]; rfl
    have hlwp : lw ≠ p := Ne.symm n3
    have hlw0 : H lw = none := b2.free (Ne.symm n3) hlw
    generalize upd (upd H1 l2 (.lst ([V.str "line", V.str "ring", V.str "place", V.str "text", V.str "none"]))) lw (.lst (List.map V.str wordsA ++ [V.str "line", V.str "ring", V.str "place", V.str "text", V.str "none"])) = H3 at b3 v3 e3 ⊢
    refine ⟨rfl, _, rfl, by decide, by decide, ?_⟩
    refine comp_range (fun D i acc σ' H' => ∃ o ys, σ' = [o, some (.str letters), some (.ref p)] ∧ acc = List.map V.str ys ∧ ys.length = i ∧ (∀ y ∈ ys, y.length = 1 ∧ Lo y) ∧ H' lw = some (.lst (List.map V.str wordsL)) ∧ PenV H' p a ∧ But p H H' ∧ H D = none ∧ p ≠ D ∧ lw ≠ D) fun D hD => ⟨?_, ?_, ?_⟩
    · have hDp := v3.ne hD
      have hD0 := b3.free (Ne.symm hDp) hD
      have hwD := ne_of_none e3 hD
      exact ⟨none, [], rfl, rfl, rfl, (fun y hy => by cases hy), by rw [upd_ne hwD]; exact e3, v3.upd hDp, b3.at hD0, hD0, hDp, hwD⟩
    · rintro i acc σ' H' hi ⟨o, ys, rfl, rfl, hl, hys, hw, v, b, hD0, hDp, hwD⟩ hacc
      refine gYes ?_
      refine ⟨_, rfl, _, rfl, p, a, 26, rfl, hP.but b v, by decide, by decide, fun r5 H5 h50 h51 v5 e5 => ?_⟩
      refine .str lL (abc_at h50 h51) ⟨(e5 D (Ne.symm hDp)).trans hacc, ?_, _, ys ++ [abc r5], rfl, by simp [abc], by simp [hl], ?_, ?_, v5.upd hDp, (b.trans (But.of_eq e5)).at hD0, hD0, hDp, hwD⟩
      · rw [List.length_map, hl]; exact small1000 (by simp at hi; omega)
      · intro y hy
        rcases List.mem_append.mp hy with hy | hy
        · exact hys y hy
        · have : y = abc r5 := by simpa using hy
          subst this
          exact ⟨rfl, abc_lo h50 h51⟩
      · rw [upd_ne hwD]; exact (e5 lw hlwp).trans hw
    · rintro acc σ' H5 ⟨o, ys, rfl, rfl, hl, hys, hw5, v5, b5, hD0, hDp, hwD⟩ hacc
      have hj : Lo (Txt.join "" ys) := Lo.join Lo.nil fun y hy => (hys y hy).2
      have hz8 : (Txt.join "" ys).length = 8 := by rw [join_len fun y hy => (hys y hy).1]; simpa using hl
      have e0 : ("" : Str).length = 0 := by decide +kernel
      have hsum := sum_le (n := 1) fun y hy => Nat.le_of_eq (hys y hy).1
      refine ⟨_, D, ys, rfl, rfl, hacc, by rw [e0]; have := hl; simp at this; omega, ?_⟩
      generalize Txt.join "" ys = z at hj hz8 ⊢
      have hz : z.length ≤ sizeLine := Nat.le_of_lt (small1000 (by omega))
      clear hacc hys hl hsum
      refine ⟨_, rfl, p, a, 8, rfl, hP.but b5 v5, by decide, by decide, fun r6 H6 h60 h61 v6 e6 => .int ?_⟩
      have b6 := b5.trans (But.of_eq e6)
      refine ⟨_, rfl, _, rfl, p, a, _, rfl, hP.but b6 v6, by omega, by omega, fun r7 H7 h70 h71 v7 e7 => ?_⟩
      have b7 := b6.trans (But.of_eq e7)
      refine ⟨_, rfl, p, a, 26, rfl, hP.but b7 v7, by decide, by decide, fun r8 H8 h80 h81 v8 e8 => ?_⟩
      have b8 := b7.trans (But.of_eq e8)
      refine ⟨_, rfl, p, a, 4, rfl, hP.but b8 v8, by decide, by decide, fun r9 H9 h90 h91 v9 e9 => ?_⟩
      have b9 := b8.trans (But.of_eq e9)
      have hw9 : H9 lw = some (.lst (List.map V.str wordsL)) := by rw [e9 lw hlwp, e8 lw hlwp, e7 lw hlwp, e6 lw hlwp]; exact hw5
      obtain ⟨sz, rfl⟩ := Int.eq_ofNat_of_zero_le h60
      obtain ⟨at_, rfl⟩ := Int.eq_ofNat_of_zero_le h70
      obtain ⟨tn, rfl⟩ := Int.eq_ofNat_of_zero_le h80
      clear e6 e7 e8 e9 v5 v6 v7 v8 b5 b6 b7 b8 hw5
      have fin : ∀ (D : Addr) (ss : List Str) (H' : Hp), H' D = some (.lst (List.map V.str ss)) → ss.length = m → ss.Nodup → (∀ s ∈ ss, Nm s) → H D = none → p ≠ D → PenV H' p a → But p H H' → Q (.ref D) H' := fun D ss H' h1 h2 h3 h4 h5 h6 h7 h8 => k D ss H' h2 h3 h4 h1 h5 (Ne.symm h6) h7 h8
      have wlen := words_len
      have rest : ∀ (H9 : Hp), PenV H9 p a → But p H H9 → ∀ σ : St, σ = [some (.ref p), some (.int (m : Int)), some (.str letters), some (.ref lw), some (.str z), some (.int (1 + (sz : Int))), some (.int (at_ : Int)), some (.int (tn : Int)), some (.int r9), none, none, none] → True := fun _ _ _ _ _ => trivial
      refine ⟨_, rfl, .sc rfl ⟨_, rfl, ?_⟩⟩
      refine ite2 (fun hm0 => ?a) (fun hm0 => ?b)
      case' a =>
        refine ⟨_, rfl, .int ⟨_, rfl, ?_⟩⟩
        refine ite2 (fun h9 => ?c) (fun h9 => ?d)
        case c =>
          have h9 : (m : Int) < 9 := of_decide_eq_true h9
          refine ⟨_, rfl, _, rfl, by omega, by omega, ?_⟩
          refine comp_range (fun D i acc σ' H' => ∃ o, σ' = [o, some (.str z), some (.int (tn : Int))] ∧ acc = List.map V.str ((List.range i).map fun k => Txt.slice z none (some (((tn + 3 * k) % 8 + 1 : Nat) : Int))) ∧ PenV H' p a ∧ But p H H' ∧ H D = none ∧ p ≠ D) fun D hD => ⟨?_, ?_, ?_⟩
          · have hDp := v9.ne hD
            have hD0 := b9.free (Ne.symm hDp) hD
            exact ⟨none, rfl, rfl, v9.upd hDp, b9.at hD0, hD0, hDp⟩
          · rintro i acc σ' H' hi ⟨o, rfl, rfl, v, b, hD0, hDp⟩ hacc
            refine gYes ?_
            refine ⟨_, rfl, _, rfl, _, rfl, _, _, rfl, rfl, .inl ⟨by decide, by decide⟩, .int ⟨_, _, rfl, rfl, (by show (0 : Int) < _; decide), .int ⟨_, rfl, .str hz ?_⟩⟩⟩
            rw [show ((tn : Int) + 3 * (0 + (i : Nat) : Int)) % 8 + 1 = (((tn + 3 * i) % 8 + 1 : Nat) : Int) by omega]
            refine ⟨hacc, ?_, _, rfl, ?_, v.upd hDp, b.at hD0, hD0, hDp⟩
            · rw [List.length_map, List.length_map, List.length_range]; exact small1000 (by simp at hi; omega)
            · rw [range_snoc, List.map_append]; rfl
          · rintro acc σ' H' ⟨o, rfl, rfl, v, b, hD0, hDp⟩ hacc
            have hmm : ((m : Int) - 0).toNat = m := by omega
            refine fin D _ H' hacc (by simp) (nodup_by _ _ fun i j hij hj e => ?_) (fun s hs => ?_) hD0 hDp v b
            · have e := congrArg Str.length e
              rw [slice_to (by omega), slice_to (by omega)] at e
              simp at hj
              omega
            · obtain ⟨i, hi, rfl⟩ := mem_by hs
              have hl := slice_to (z := z) (j := (tn + 3 * i) % 8 + 1) (by omega)
              exact (hj.slice _ _).nm (by rw [hl]; omega) (by rw [hl]; omega)
      all_goals
        refine ⟨_, rfl, .sc rfl ⟨_, rfl, ?_⟩⟩
        refine ite2 (fun hm1 => ?_) (fun hm1 => ?_)
        refine ⟨_, rfl, .int ⟨_, rfl, ?_⟩⟩
        refine ite2 (fun h18 => ?_) (fun h18 => ?_)
        ·   have h18 : (m : Int) < 18 := of_decide_eq_true h18
            refine ⟨_, rfl, _, rfl, by omega, by omega, ?_⟩
            refine comp_range (fun D i acc σ' H' => ∃ o, σ' = [o, some (.ref lw), some (.int (tn : Int))] ∧ acc = List.map V.str ((List.range i).map fun k => wordsL.getD ((tn + k) % 17) "") ∧ H' lw = some (.lst (List.map V.str wordsL)) ∧ PenV H' p a ∧ But p H H' ∧ H D = none ∧ p ≠ D ∧ lw ≠ D) fun D hD => ⟨?_, ?_, ?_⟩
            · have hDp := v9.ne hD
              have hD0 := b9.free (Ne.symm hDp) hD
              have hwD := ne_of_none hw9 hD
              exact ⟨none, rfl, rfl, by rw [upd_ne hwD]; exact hw9, v9.upd hDp, b9.at hD0, hD0, hDp, hwD⟩
            · rintro i acc σ' H' hi ⟨o, rfl, rfl, hw, v, b, hD0, hDp, hwD⟩ hacc
              refine gYes ?_
              refine ⟨_, rfl, _, rfl, _, rfl, .int ⟨_, _, rfl, rfl, (by show (0 : Int) < _; decide), ?_⟩⟩
              refine .lst (.of hw) (show atI _ (((tn : Int) + (0 + (i : Nat) : Int)) % 17) = some (.str (wordsL.getD ((tn + i) % 17) "")) from by
                rw [show ((tn : Int) + (0 + (i : Nat) : Int)) % 17 = (((tn + i) % 17 : Nat) : Int) by omega]
                exact str_at (by omega)) ⟨hacc, ?_, _, rfl, ?_, by rw [upd_ne hwD]; exact hw, v.upd hDp, b.at hD0, hD0, hDp, hwD⟩
              · rw [List.length_map, List.length_map, List.length_range]; exact small1000 (by simp at hi; omega)
              · rw [range_snoc, List.map_append]; rfl
            · rintro acc σ' H' ⟨o, rfl, rfl, hw, v, b, hD0, hDp, hwD⟩ hacc
              refine fin D _ H' hacc (by simp) (nodup_by _ _ fun i j hij hj e => ?_) (fun s hs => ?_) hD0 hDp v b
              · have e := words_nd wordsL words_nodup (by omega) (by omega) e
                simp at hj
                omega
              · obtain ⟨i, hi, rfl⟩ := mem_by hs
                have hlt : (tn + i) % 17 < wordsL.length := by omega
                have hmem : wordsL.getD ((tn + i) % 17) "" ∈ wordsL := by
                  rw [List.getD_eq_getElem?_getD, List.getElem?_eq_getElem hlt]
                  exact List.getElem_mem hlt
                exact isNm_iff.mp (words_nm _ hmem)
        all_goals
          refine ⟨_, rfl, _, rfl, by omega, by omega, ?_⟩
          refine comp_range (fun D i acc σ' H' => ∃ o, σ' = [o, some (.str letters), some (.int (tn : Int))] ∧ acc = List.map V.str ((List.range i).map fun k => abc (((tn + 5 * k) % 26 : Nat) : Int)) ∧ PenV H' p a ∧ But p H H' ∧ H D = none ∧ p ≠ D) fun D hD => ⟨?_, ?_, ?_⟩
          · have hDp := v9.ne hD
            have hD0 := b9.free (Ne.symm hDp) hD
            exact ⟨none, rfl, rfl, v9.upd hDp, b9.at hD0, hD0, hDp⟩
          · rintro i acc σ' H' hi ⟨o, rfl, rfl, v, b, hD0, hDp⟩ hacc
            refine gYes ?_
            refine ⟨_, rfl, _, rfl, _, rfl, _, _, rfl, rfl, .inl ⟨by decide, by decide⟩, .int ⟨_, _, rfl, rfl, (by show (0 : Int) < _; decide), ?_⟩⟩
            refine .str lL (show atI _ (((tn : Int) + 5 * (0 + (i : Nat) : Int)) % 26) = some (97 + (((tn + 5 * i) % 26 : Nat) : Int).toNat) from by
              rw [show ((tn : Int) + 5 * (0 + (i : Nat) : Int)) % 26 = (((tn + 5 * i) % 26 : Nat) : Int) by omega]
              exact abc_at (by omega) (by omega)) ⟨hacc, ?_, _, rfl, ?_, v.upd hDp, b.at hD0, hD0, hDp⟩
            · rw [List.length_map, List.length_map, List.length_range]; exact small1000 (by simp at hi; omega)
            · rw [range_snoc, List.map_append]; rfl
          · rintro acc σ' HA ⟨o, rfl, rfl, vA, bA, hDA, hpA⟩ hacc
            have hmm : ((m : Int) - 0).toNat = m := by omega
            have hacc : HA D = some (.lst (List.map V.str ((List.range m).map fun k => abc (((tn + 5 * k) % 26 : Nat) : Int)))) := by first | exact hacc | (rw [hmm] at hacc; exact hacc)
            refine ⟨_, rfl, .int ⟨_, rfl, ?_⟩⟩
            refine ite2 (fun h27 => ?_) (fun h27 => ?_)
            · have h27 : (m : Int) < 27 := of_decide_eq_true h27
              refine ⟨_, rfl, _, rfl, ⟨_, .of hacc⟩, ?_⟩
              refine comp_list (List.map V.str ((List.range m).map fun k => abc (((tn + 5 * k) % 26 : Nat) : Int))) (fun D i acc σ' H' => ∃ o, σ' = [o, some (.str z), some (.int (1 + (sz : Int))), some (.int (at_ : Int))] ∧ acc = List.map V.str ((List.range i).map fun k => Txt.slice z none (some (at_ : Int)) ++ abc (((tn + 5 * k) % 26 : Nat) : Int) ++ Txt.slice z (some ((at_ : Int) + 1)) (some (1 + (sz : Int)))) ∧ Same HA H' ∧ HA D = none) fun D hD => ⟨?_, ?_, ?_, ?_⟩
              · exact ⟨none, rfl, rfl, Same.new hD, hD⟩
              · rintro i acc σ' H' _ ⟨o, rfl, _, sm, _⟩ _
                exact .of (sm _ _ hacc)
              · rintro i acc σ' H' x hx ⟨o, rfl, rfl, sm, hD0⟩ hacc'
                rw [List.getElem?_map, List.getElem?_map] at hx
                have hil : i < m := by
                  by_cases q : i < m
                  · exact q
                  · rw [List.getElem?_eq_none (by rw [List.length_range]; omega)] at hx; cases hx
                rw [List.getElem?_range hil] at hx
                have hx : V.str (abc (((tn + 5 * i) % 26 : Nat) : Int)) = x := Option.some.inj hx
                subst hx
                refine gYes ?_
                have l1 := slice_toL z at_
                have l2 := slice_len z (at_ + 1) (1 + sz)
                rw [show ((at_ + 1 : Nat) : Int) = (at_ : Int) + 1 by omega, show ((1 + sz : Nat) : Int) = 1 + (sz : Int) by omega] at l2
                have sl8 : 8 ≤ sizeLine := by decide
                refine ⟨_, rfl, _, rfl, _, rfl, .str hz ⟨_, rfl, .str ?_ ⟨_, rfl, _, rfl, .int ⟨_, rfl, _, rfl, _, rfl, .str hz (.str ?_ ⟨hacc', ?_, _, rfl, ?_, ?_, hD0⟩)⟩⟩⟩⟩
                · rw [abc_len]; omega
                · rw [len_app, abc_len]; omega
                · rw [List.length_map, List.length_map, List.length_range]; exact small1000 (by omega)
                · rw [range_snoc, List.map_append]; rfl
                · exact same_at sm hD0
              · rintro acc σ' H' ⟨o, rfl, rfl, sm, hD0⟩ hacc'
                rw [List.length_map, List.length_map, List.length_range] at hacc'
                refine fin _ _ H' hacc' (by simp) (nodup_by _ _ fun i j hij hj e => ?_) (fun s hs => ?_) (bA.free (Ne.symm (vA.ne hD0)) hD0) (vA.ne hD0) (penSame sm vA) (bA.trans (But.of_same sm))
                · have e := mid_inj e
                  omega
                · obtain ⟨i, hi, rfl⟩ := mem_by hs
                  have l1 := slice_to (z := z) (j := at_) (by omega)
                  have l2 := slice_len z (at_ + 1) (1 + sz)
                  rw [show ((at_ + 1 : Nat) : Int) = (at_ : Int) + 1 by omega, show ((1 + sz : Nat) : Int) = 1 + (sz : Int) by omega] at l2
                  refine (((hj.slice _ _).app (abc_lo (by omega) (by omega))).app (hj.slice _ _)).nm ?_ ?_
                  · rw [len_app, len_app, abc_len]; omega
                  · rw [len_app, len_app, abc_len]; omega
            · have h27 : ¬ (m : Int) < 27 := fun q => h27 (decide_eq_true q)
              refine ⟨_, rfl, _, rfl, _, _, rfl, rfl, (by show (0 : Int) < _; decide), _, rfl, .str hz ?_⟩
              refine ⟨_, rfl, _, rfl, _, _, rfl, rfl, (by show (0 : Int) < _; decide), _, rfl, _, rfl, _, _, rfl, rfl, (by show (0 : Int) < _; decide), _, rfl, .str hz ?_⟩
              have t1 := slice_toL z (at_ % 6)
              have t2 := slice_len z (at_ % 6) ((1 + sz) % 7)
              rw [show ((at_ % 6 : Nat) : Int) = (at_ : Int) % 6 by omega] at t1 t2
              rw [show (((1 + sz) % 7 : Nat) : Int) = (1 + (sz : Int)) % 7 by omega] at t2
              have g1 := hj.slice none (some ((at_ : Int) % 6))
              have g2 := hj.slice (some ((at_ : Int) % 6)) (some ((1 + (sz : Int)) % 7))
              have ht : (Txt.slice z none (some ((at_ : Int) % 6))).length + (Txt.slice z (some ((at_ : Int) % 6)) (some ((1 + (sz : Int)) % 7))).length ≤ 6 := by omega
              have sl8 : 8 ≤ sizeLine := by decide
              refine ⟨_, rfl, _, rfl, by omega, by omega, ?_⟩
              generalize Txt.slice z none (some ((at_ : Int) % 6)) = hd at t1 g1 ht ⊢
              generalize Txt.slice z (some ((at_ : Int) % 6)) (some ((1 + (sz : Int)) % 7)) = tl at t2 g2 ht ⊢
              refine comp_range (fun D' i acc σ' H' => ∃ o, σ' = [o, some (.str tl), some (.str hd), some (.str letters), some (.ref D)] ∧ acc = List.map V.str ((List.range i).map fun k => hd ++ abc (((tn + 5 * k) % 26 : Nat) : Int) ++ abc ((k / 26 : Nat) : Int) ++ tl) ∧ Same HA H' ∧ HA D' = none) fun D' hD' => ⟨?_, ?_, ?_⟩
              · exact ⟨none, rfl, rfl, Same.new hD', hD'⟩
              · rintro i acc σ' H' hi ⟨o, rfl, rfl, sm, hD0'⟩ hacc'
                have hi : i < m := by simpa using hi
                refine gYes ?_
                refine ⟨_, rfl, _, rfl, _, rfl, .lst (.of (sm _ _ hacc)) (show atI _ (0 + (i : Nat) : Int) = some (.str (abc (((tn + 5 * i) % 26 : Nat) : Int))) from by
                  rw [Int.zero_add, str_at (by simpa using hi), getD_by hi]) (.str (by rw [abc_len]; omega) ⟨_, rfl, _, rfl, _, _, rfl, rfl, ⟨by decide, by decide⟩, .str lL (show atI _ ((0 + (i : Nat) : Int) / 26) = some (97 + ((i / 26 : Nat) : Int).toNat) from by
                  rw [show (0 + (i : Nat) : Int) / 26 = ((i / 26 : Nat) : Int) by omega]
                  exact abc_at (by omega) (by omega)) (.str ?_ ⟨_, rfl, .str ?_ ⟨hacc', ?_, _, rfl, ?_, ?_, hD0'⟩⟩)⟩)⟩
                · rw [len_app, abc_len]; show _ + 1 + 1 ≤ sizeLine; omega
                · rw [len_app, len_app, abc_len]; show _ + 1 + 1 + _ ≤ sizeLine; omega
                · rw [List.length_map, List.length_map, List.length_range]; exact small1000 (by omega)
                · rw [range_snoc, List.map_append]; rfl
                · exact same_at sm hD0'
              · rintro acc σ' H' ⟨o, rfl, rfl, sm, hD0'⟩ hacc'
                have hacc' : H' D' = some (.lst (List.map V.str ((List.range m).map fun k => hd ++ abc (((tn + 5 * k) % 26 : Nat) : Int) ++ abc ((k / 26 : Nat) : Int) ++ tl))) := by first | exact hacc' | (rw [hmm] at hacc'; exact hacc')
                refine fin D' _ H' hacc' (by simp) (nodup_by _ _ fun i j hij hj e => ?_) (fun s hs => ?_) (bA.free (Ne.symm (vA.ne hD0')) hD0') (vA.ne hD0') (penSame sm vA) (bA.trans (But.of_same sm))
                · obtain ⟨e1, e2⟩ := mid2_inj e
                  omega
                · obtain ⟨i, hi, rfl⟩ := mem_by hs
                  refine (((g1.app (abc_lo (by omega) (by omega))).app (abc_lo (by omega) (by omega))).app g2).nm ?_ ?_
                  · rw [len_app, len_app, len_app, abc_len]; omega
                  · rw [len_app, len_app, len_app, abc_len, abc_len]; omega
end
end K03
namespace K03
open PySem L2
section
variable {P : Program} {w : World} {K : PySem.W.Frag} {mg : Str → Option Value} {base : Heap}
theorem penAt {H : Hp} {p a : Addr} (v : PenV H p a) : ∃ ys, H p = some (.lst ys) := let ⟨_, _, e, _⟩ := v; ⟨_, e⟩
noncomputable def spThings (K : PySem.W.Frag) : Sp := fun vs H Q _ => ∃ (p a : Addr), vs = [.ref p] ∧ Pen K H p a ∧
  ∀ l ss H', ss.length ≤ 60 → ss.Nodup → (∀ s ∈ ss, Nm s) → H' l = some (.lst (List.map V.str ss)) → H l = none → l ≠ p → PenV H' p a → But p H H' → Q (.ref l) H'
theorem scThings : FnScope ["_law_pen_here", "_law_many"] ["_law_pen_here"] (defScope sThings) := ⟨rfl, rfl, rfl, by decide +kernel, rfl, by decide +kernel, by decide +kernel⟩
theorem ok_things {f : Addr} {fd : FuncData} (F : Fun K "_law_things" "_law_things" sThings f fd) (B : Blt mg) (c_law_draw : Cal P w K mg base 1 "_law_draw" ["_law_pen_here", "_law_most"] (spDraw K)) (c_law_names : Cal P w K mg base 2 "_law_names" ["_law_pen_here", "_law_many"] (spNames K)) : FnOk P w K mg base CX0 3 f fd ["_law_pen_here"] (spThings K) := by
  refine F.ok scThings (fun vs H Q E h => ?_) (fun cdv A outer s H vs Q E hr h => ?_)
  · obtain ⟨p, a, rfl, _⟩ := h
    rfl
  · obtain ⟨p, a, rfl, hP, k⟩ := h
    have nd := scThings.nd
    refine ⟨_, (pss_cons (ps_set (i := 1) nd rfl (Or.inl rfl) (pe_cal c_law_draw (hr.mono (by decide)) rfl (pa_cons (pv 0) (pa_cons pe_int pa_nil))))
      (pss_cons (ps_if (pt_cmpR (op_eqX hr.units) (pe_cal c_law_draw (hr.mono (by decide)) rfl (pa_cons (pv 0) (pa_cons pe_int pa_nil))) pe_int (nomark _)) (pss_one (ps_set (i := 1) nd rfl (Or.inl rfl) (pe_ix (ix_X K hr.units) (pe_lst (pa_cons (pe_cal c_law_draw (hr.mono (by decide)) rfl (pa_cons (pv 0) (pa_cons pe_int pa_nil))) (pa_cons pe_int pa_nil))) (pe_cal c_law_draw (hr.mono (by decide)) rfl (pa_cons (pv 0) (pa_cons pe_int pa_nil))) (fun _ _ => rfl)))) pss_nil)
      (pss_one (ps_ret (pe_cal c_law_names (hr.mono (by decide)) rfl (pa_cons (pv 0) (pa_cons (pv 1) pa_nil))))))), ?_⟩
    refine ⟨_, rfl, p, a, 9, rfl, hP, by decide, by decide, fun r1 H1 h10 h11 v1 e1 => ?_⟩
    have b1 := But.of_eq e1
    refine ⟨_, rfl, p, a, 5, rfl, hP.but b1 v1, by decide, by decide, fun r2 H2 h20 h21 v2 e2 => .sc rfl ⟨_, rfl, ?_⟩⟩
    have b2 := b1.trans (But.of_eq e2)
    have last : ∀ (n : Int) (H' : Hp), 0 ≤ n → n ≤ 60 → PenV H' p a → But p H H' → spNames K [.ref p, .int n] H' Q E := fun n H' h0 h1 v b => by
      obtain ⟨m, rfl⟩ := Int.eq_ofNat_of_zero_le h0
      exact ⟨p, a, m, rfl, hP.but b v, by omega, fun l ss H'' g1 g2 g3 g4 g5 g6 g7 g8 => k l ss H'' (by omega) g2 g3 g4 (b.free g6 g5) g6 g7 (b.trans g8)⟩
    refine ite2 (fun _ => ?_) (fun _ => ?_)
    · refine ⟨_, rfl, p, a, 61, rfl, hP.but b2 v2, by decide, by decide, fun r3 H3 h30 h31 v3 e3 => ⟨(by show 2 ≤ sizeLine; decide), fun l hl => ?_⟩⟩
      have b3 := b2.trans (But.of_eq e3)
      have hpl := v3.ne hl
      have v4 := v3.upd (o := .lst [V.int r3, V.int 60]) hpl
      have b4 := b3.at (o := .lst [V.int r3, V.int 60]) (b3.free (Ne.symm hpl) hl)
      refine ⟨_, rfl, p, a, 2, rfl, hP.but b4 v4, by decide, by decide, fun r4 H5 h40 h41 v5 e5 => ?_⟩
      have hl5 : H5 l = some (.lst [V.int r3, V.int 60]) := (e5 l (Ne.symm hpl)).trans upd_same
      have b5 := b4.trans (But.of_eq e5)
      have hr4 : r4 = 0 ∨ r4 = 1 := by omega
      rcases hr4 with rfl | rfl
      · exact .lst (.of hl5) rfl ⟨_, rfl, _, rfl, last _ _ h30 (by omega) v5 b5⟩
      · exact .lst (.of hl5) rfl ⟨_, rfl, _, rfl, last _ _ (by decide) (by decide) v5 b5⟩
    · exact ⟨_, rfl, _, rfl, last _ _ h10 (by omega) v2 b2⟩
end
end K03
namespace K03
open PySem L2
section
variable {P : Program} {w : World} {K : PySem.W.Frag} {mg : Str → Option Value} {base : Heap}
theorem eqv_pair (e f : Str × Str) : PyData.eqv (pairD e) (pairD f) = decide (e = f) := by
  show (PyData.eqv (.str e.1) (.str f.1) && (PyData.eqv (.str e.2) (.str f.2) && true)) = _
  rw [eqv_str, eqv_str, Bool.and_true, Bool.eq_iff_iff, Bool.and_eq_true, decide_eq_true_iff, decide_eq_true_iff, decide_eq_true_iff]
  exact ⟨fun ⟨a, b⟩ => Prod.ext a b, fun h => by rw [h]; exact ⟨rfl, rfl⟩⟩
theorem any_pair (ts : List (Str × Str)) (e : Str × Str) : ((ts.map pairD).any fun d => PyData.eqv d (pairD e)) = decide (e ∈ ts) := by
  rw [List.any_map, Bool.eq_iff_iff, List.any_eq_true, decide_eq_true_iff]
  constructor
  · rintro ⟨x, hx, h⟩
    have h : PyData.eqv (pairD x) (pairD e) = true := h
    rw [eqv_pair] at h
    rw [← of_decide_eq_true h]; exact hx
  · intro h
    refine ⟨e, h, ?_⟩
    show PyData.eqv (pairD e) (pairD e) = true
    rw [eqv_pair]; exact decide_eq_true rfl
theorem Rep.pairBut {H H' : Hp} {p : Addr} {ys : List V} (hp : H p = some (.lst ys)) (b : But p H H') {v : V} {e : Str × Str} (h : Rep H v (pairD e)) : Rep H' v (pairD e) := by
  obtain ⟨a, rfl, ha⟩ := pair_at h
  exact pair_rep (b a _ (ne_of ha hp (by intro z; cases z)) ha)
theorem RepAll.pairBut {H H' : Hp} {p : Addr} {ys : List V} (hp : H p = some (.lst ys)) (b : But p H H') : ∀ {es : List (Str × Str)} {xs : List V}, RepAll H xs (es.map pairD) → RepAll H' xs (es.map pairD)
  | [], xs, h => by rw [RepAll.nilI h]; exact .nil
  | e :: es, xs, h => by
    obtain ⟨y, ys', rfl, a, c⟩ := RepAll.consI h
    exact .cons (Rep.pairBut hp b a) (RepAll.pairBut hp b c)
theorem nodup_snoc {α : Type} {l : List α} {x : α} (h : l.Nodup) (hx : x ∉ l) : (l ++ [x]).Nodup := by
  rw [List.nodup_append]
  exact ⟨h, by simp, fun a ha b hb => by
    have : b = x := by simpa using hb
    subst this
    exact fun e => hx (e ▸ ha)⟩
theorem mem_getD {ss : List Str} {i : Nat} (h : i < ss.length) : ss.getD i "" ∈ ss := by
  rw [List.getD_eq_getElem?_getD, List.getElem?_eq_getElem h]
  exact List.getElem_mem h
noncomputable def tieAt (ss : List Str) (c : Nat) : Str × Str := (ss.getD (c / ss.length) "", ss.getD (c % ss.length) "")
theorem tieAt_inj {ss : List Str} (nd : ss.Nodup) {c d : Nat} (h0 : 0 < ss.length) (hc : c < ss.length * ss.length) (hd : d < ss.length * ss.length) (h : tieAt ss c = tieAt ss d) : c = d := by
  have h1 := (Prod.mk.inj h).1
  have h2 := (Prod.mk.inj h).2
  exact div_mod_inj (words_nd ss nd (Nat.div_lt_of_lt_mul hc) (Nat.div_lt_of_lt_mul hd) h1) (words_nd ss nd (Nat.mod_lt _ h0) (Nat.mod_lt _ h0) h2)
structure Tied (H : Hp) (t : Addr) (ss : List Str) (ts : List (Str × Str)) : Prop where
  at_ : ∃ refs, H t = some (.lst refs) ∧ RepAll H refs (ts.map pairD)
  few : ts.length ≤ 400
  nd : ts.Nodup
  inn : ∀ e ∈ ts, e.1 ∈ ss ∧ e.2 ∈ ss
noncomputable def spTies (K : PySem.W.Frag) : Sp := fun vs H Q _ => ∃ (p a n : Addr) (ss : List Str), vs = [.ref p, .ref n] ∧ Pen K H p a ∧ H n = some (.lst (List.map V.str ss)) ∧ n ≠ p ∧ ss.length ≤ 60 ∧ ss.Nodup ∧ (∀ s ∈ ss, Nm s) ∧
  ∀ t ts H', Tied H' t ss ts → H t = none → t ≠ p → PenV H' p a → But p H H' → Q (.ref t) H'
theorem scTies : FnScope ["_law_pen_here", "_law_things_here", "_law_many", "_law_found", "_law_code", "_law_step", "_law_k", "_law_tie"] ["_law_pen_here", "_law_things_here"] (defScope sTies) := ⟨rfl, rfl, rfl, by decide +kernel, rfl, by decide +kernel, by decide +kernel⟩
theorem ok_ties {f : Addr} {fd : FuncData} (F : Fun K "_law_ties" "_law_ties" sTies f fd) (B : Blt mg) (c_law_draw : Cal P w K mg base 1 "_law_draw" ["_law_pen_here", "_law_most"] (spDraw K)) : FnOk P w K mg base CX0 2 f fd ["_law_pen_here", "_law_things_here"] (spTies K) := by
  refine F.ok scTies (fun vs H Q E h => ?_) (fun cdv A outer s H vs Q E hr h => ?_)
  · obtain ⟨p, a, n, ss, rfl, _⟩ := h
    rfl
  · obtain ⟨p, a, n, ss, rfl, hP, hn, hnp, hlen, snd, snm, k⟩ := h
    have nd := scTies.nd
    have v0 := hP.2
    refine ⟨_, (pss_cons (ps_set (i := 2) nd rfl (Or.inl rfl) (b_len K B (pa_cons (pv 1) pa_nil)))
      (pss_cons (ps_set (i := 3) nd rfl (Or.inl rfl) (pe_lst pa_nil))
      (pss_cons (ps_if (PW.pt (pw_and (pt_cmpR op_gt (pv 2) pe_int (nomark _)) (pw_and1 (pt_cmpR (op_eqX hr.units) (pe_cal c_law_draw (hr.mono (by decide)) rfl (pa_cons (pv 0) (pa_cons pe_int pa_nil))) pe_int (nomark _))))) (pss_cons (ps_set (i := 4) nd rfl (Or.inl rfl) (pe_cal c_law_draw (hr.mono (by decide)) rfl (pa_cons (pv 0) (pa_cons (pe_op op_mul (pv 2) (pv 2)) pa_nil))))
      (pss_cons (ps_set (i := 5) nd rfl (Or.inl rfl) (pe_ix (ix_X K hr.units) (pe_lst (pa_cons pe_int (pa_cons pe_int (pa_cons pe_int (pa_cons pe_int (pa_cons pe_int (pa_cons pe_int pa_nil star_c) star_c) star_c) star_c) star_c) star_c)) (pe_cal c_law_draw (hr.mono (by decide)) rfl (pa_cons (pv 0) (pa_cons pe_int pa_nil))) (fun _ _ => rfl)))
      (pss_cons (ps_for PassesOwn.never rfl (pi_range1 rfl B.range (pa_cons (b_min rfl B (pa_cons (pe_op op_mul (pv 2) (pv 2)) (pa_cons (pe_ix (ix_X K hr.units) (pe_lst (pa_cons (pe_cal c_law_draw (hr.mono (by decide)) rfl (pa_cons (pv 0) (pa_cons pe_int pa_nil))) (pa_cons pe_int pa_nil))) (pe_cal c_law_draw (hr.mono (by decide)) rfl (pa_cons (pv 0) (pa_cons pe_int pa_nil))) (fun _ _ => rfl)) pa_nil))) pa_nil)) (pg_name (i := 6) nd rfl (Or.inl rfl)) (pss_cons (ps_expr (m_append K (pv 3) (pa_cons (pe_tup (pa_cons (pe_ix (ix_X K hr.units) (pv 1) (pe_op op_fdiv (pv 4) (pv 2)) (fun _ _ => rfl)) (pa_cons (pe_ix (ix_X K hr.units) (pv 1) (pe_op op_mod (pv 4) (pv 2)) (fun _ _ => rfl)) pa_nil))) pa_nil)))
      (pss_one (ps_set (i := 4) nd rfl (Or.inl rfl) (pe_op op_mod (pe_op op_addX (pv 4) (pv 5)) (pe_op op_mul (pv 2) (pv 2)))))))
      (pss_one (ps_ret (pv 3)))))) pss_nil)
      (pss_cons (ps_for PassesOwn.never rfl (pi_range1 rfl B.range (pa_cons (pe_ix (ix_X K hr.units) (pe_lst (pa_cons pe_int (pa_cons (pe_cal c_law_draw (hr.mono (by decide)) rfl (pa_cons (pv 0) (pa_cons pe_int pa_nil))) pa_nil))) (b_int B (pa_cons (pe_cmpR op_gt (pv 2) pe_int (nomark _)) pa_nil)) (fun _ _ => rfl)) pa_nil)) (pg_name (i := 6) nd rfl (Or.inl rfl)) (pss_cons (ps_set (i := 7) nd rfl (Or.inl rfl) (pe_tup (pa_cons (pe_ix (ix_X K hr.units) (pv 1) (pe_cal c_law_draw (hr.mono (by decide)) rfl (pa_cons (pv 0) (pa_cons (pv 2) pa_nil))) (fun _ _ => rfl)) (pa_cons (pe_ix (ix_X K hr.units) (pv 1) (pe_cal c_law_draw (hr.mono (by decide)) rfl (pa_cons (pv 0) (pa_cons (pv 2) pa_nil))) (fun _ _ => rfl)) pa_nil))))
      (pss_one (ps_if (pt_cmpR (op_notInX K hr.units) (pv 7) (pv 3) (by with_unfolding_all rfl)) (pss_one (ps_expr (m_append K (pv 3) (pa_cons (pv 7) pa_nil)))) pss_nil))))
      (pss_one (ps_ret (pv 3))))))), ?_⟩
    refine ⟨_, rfl, _, _, rfl, Or.inl ⟨_, .of hn, rfl⟩, (by show 0 ≤ sizeLine; decide), fun lf hlf => ?_⟩
    rw [List.length_map]
    have hpf := v0.ne hlf
    have hnf : n ≠ lf := ne_of_none hn hlf
    have v1 := v0.upd (o := .lst []) hpf
    have b1 := (But.refl p H).at (o := .lst []) hlf
    have hf1 : upd H lf (.lst []) lf = some (.lst []) := upd_same
    have hn1 : upd H lf (.lst []) n = some (.lst (List.map V.str ss)) := by rw [upd_ne hnf]; exact hn
    generalize upd H lf (.lst []) = H1 at v1 b1 hf1 hn1 ⊢
    have hm60 : ((ss.length : Nat) : Int) ≤ 60 := by omega
    have fin : ∀ (ts : List (Str × Str)) (refs : List V) (H' : Hp), H' lf = some (.lst refs) → RepAll H' refs (ts.map pairD) → ts.length ≤ 400 → ts.Nodup → (∀ e ∈ ts, e.1 ∈ ss ∧ e.2 ∈ ss) → PenV H' p a → But p H H' → Q (.ref lf) H' := fun ts refs H' h1 h2 h3 h4 h5 h6 h7 => k lf ts H' ⟨⟨refs, h1, h2⟩, h3, h4, h5⟩ hlf (Ne.symm hpf) h6 h7
    refine ⟨_, rfl, _, _, rfl, rfl, _, rfl, ?_⟩
    refine ite2 (fun h0 => ?_) (fun h0 => ?_)
    refine ⟨_, rfl, p, a, 6, rfl, hP.but b1 v1, by decide, by decide, fun r1 H2 h10 h11 v2 e2 => .sc rfl ⟨_, rfl, ?_⟩⟩
    have b2 := b1.trans (But.of_eq e2)
    have hf2 := (e2 lf (Ne.symm hpf)).trans hf1
    have hn2 := (e2 n hnp).trans hn1
    refine ite2 (fun _ => ?_) (fun _ => ?_)
    · have h0 : (0 : Int) < (ss.length : Nat) := of_decide_eq_true h0
      have h0' : 0 < ss.length := by omega
      have hMM : ss.length * ss.length ≤ 3600 := Nat.mul_le_mul hlen hlen
      have hM0 : 0 < ss.length * ss.length := Nat.mul_pos h0' h0'
      have eM : ((ss.length : Nat) : Int) * ((ss.length : Nat) : Int) = ((ss.length * ss.length : Nat) : Int) := by rw [Int.natCast_mul]
      refine ⟨_, rfl, _, rfl, _, rfl, _, _, rfl, rfl, .inl ⟨by omega, by omega⟩, p, a, _, rfl, hP.but b2 v2, by rw [eM]; omega, by rw [eM]; omega, fun r2 H3 h20 h21 v3 e3 => ?_⟩
      rw [eM] at h21
      obtain ⟨c0, rfl⟩ := Int.eq_ofNat_of_zero_le h20
      have hc0 : c0 < ss.length * ss.length := by omega
      have b3 := b2.trans (But.of_eq e3)
      have hf3 := (e3 lf (Ne.symm hpf)).trans hf2
      have hn3 := (e3 n hnp).trans hn2
      refine ⟨(by show 6 ≤ sizeLine; decide), fun l hl => ?_⟩
      have hpl := v3.ne hl
      have v4 := v3.upd (o := .lst [V.int 61, V.int 67, V.int 71, V.int 73, V.int 79, V.int 83]) hpl
      have b4 := b3.at (o := .lst [V.int 61, V.int 67, V.int 71, V.int 73, V.int 79, V.int 83]) (b3.free (Ne.symm hpl) hl)
      refine ⟨_, rfl, p, a, 6, rfl, hP.but b4 v4, by decide, by decide, fun r3 H5 h30 h31 v5 e5 => ?_⟩
      have hl5 : H5 l = some (.lst [V.int 61, V.int 67, V.int 71, V.int 73, V.int 79, V.int 83]) := (e5 l (Ne.symm hpl)).trans upd_same
      have b5 := b4.trans (But.of_eq e5)
      have hf5 : H5 lf = some (.lst []) := by rw [e5 lf (Ne.symm hpf), upd_ne (ne_of_none hf3 hl)]; exact hf3
      have hn5 : H5 n = some (.lst (List.map V.str ss)) := by rw [e5 n hnp, upd_ne (ne_of_none hn3 hl)]; exact hn3
      obtain ⟨st, est, hst⟩ : ∃ st : Nat, atI [V.int 61, V.int 67, V.int 71, V.int 73, V.int 79, V.int 83] r3 = some (.int (st : Int)) ∧ st ∈ [61, 67, 71, 73, 79, 83] := by
        have hr3 : r3 = 0 ∨ r3 = 1 ∨ r3 = 2 ∨ r3 = 3 ∨ r3 = 4 ∨ r3 = 5 := by omega
        rcases hr3 with rfl | rfl | rfl | rfl | rfl | rfl
        · exact ⟨61, rfl, by decide⟩
        · exact ⟨67, rfl, by decide⟩
        · exact ⟨71, rfl, by decide⟩
        · exact ⟨73, rfl, by decide⟩
        · exact ⟨79, rfl, by decide⟩
        · exact ⟨83, rfl, by decide⟩
      have cop := cop_steps ss.length (by omega) h0' st hst
      have hst83 : st ≤ 83 := by simp at hst; omega
      refine .lst (.of hl5) est ?_
      refine ⟨_, rfl, _, rfl, _, _, rfl, rfl, .inl ⟨by omega, by omega⟩, _, rfl, p, a, 401, rfl, hP.but b5 v5, by decide, by decide, fun r4 H6 h40 h41 v6 e6 => ⟨(by show 2 ≤ sizeLine; decide), fun l6 hl6 => ?_⟩⟩
      have b6 := b5.trans (But.of_eq e6)
      have hpl6 := v6.ne hl6
      have hf6 := (e6 lf (Ne.symm hpf)).trans hf5
      have hn6 := (e6 n hnp).trans hn5
      have v7 := v6.upd (o := .lst [V.int r4, V.int 400]) hpl6
      have b7 := b6.at (o := .lst [V.int r4, V.int 400]) (b6.free (Ne.symm hpl6) hl6)
      refine ⟨_, rfl, p, a, 2, rfl, hP.but b7 v7, by decide, by decide, fun r5 H8 h50 h51 v8 e8 => ?_⟩
      have hl8 : H8 l6 = some (.lst [V.int r4, V.int 400]) := (e8 l6 (Ne.symm hpl6)).trans upd_same
      have b8 := b7.trans (But.of_eq e8)
      have hf8 : H8 lf = some (.lst []) := by rw [e8 lf (Ne.symm hpf), upd_ne (ne_of_none hf6 hl6)]; exact hf6
      have hn8 : H8 n = some (.lst (List.map V.str ss)) := by rw [e8 n hnp, upd_ne (ne_of_none hn6 hl6)]; exact hn6
      obtain ⟨r6, er6, h60, h61⟩ : ∃ r6 : Int, atI [V.int r4, V.int 400] r5 = some (.int r6) ∧ 0 ≤ r6 ∧ r6 ≤ 400 := by
        have hr5 : r5 = 0 ∨ r5 = 1 := by omega
        rcases hr5 with rfl | rfl
        · exact ⟨r4, rfl, h40, by omega⟩
        · exact ⟨400, rfl, by decide, by decide⟩
      obtain ⟨cn, hcn, hcM, hc4⟩ : ∃ cn : Nat, (if r6 < ((ss.length : Nat) : Int) * ((ss.length : Nat) : Int) then r6 else ((ss.length : Nat) : Int) * ((ss.length : Nat) : Int)) = (cn : Int) ∧ cn ≤ ss.length * ss.length ∧ cn ≤ 400 := by
        rw [eM]
        by_cases q : r6 < ((ss.length * ss.length : Nat) : Int)
        · rw [if_pos q]; exact ⟨r6.toNat, by omega, by omega, by omega⟩
        · rw [if_neg q]; exact ⟨_, rfl, Nat.le_refl _, by omega⟩
      refine .lst (.of hl8) er6 ⟨_, _, rfl, _, rfl, ?_⟩
      rw [hcn]
      refine ⟨by omega, by omega, ?_⟩
      refine for_range (fun i σ H' => ∃ o6 o7 refs, σ = [some (.ref p), some (.ref n), some (.int ((ss.length : Nat) : Int)), some (.ref lf), some (.int (((c0 + i * st) % (ss.length * ss.length) : Nat) : Int)), some (.int (st : Int)), o6, o7] ∧ H' lf = some (.lst refs) ∧ RepAll H' refs (((List.range i).map fun k => tieAt ss ((c0 + k * st) % (ss.length * ss.length))).map pairD) ∧ H' n = some (.lst (List.map V.str ss)) ∧ PenV H' p a ∧ But p H H') ?_ ?_ ?_
      · refine ⟨none, none, [], ?_, hf8, .nil, hn8, v8, b8⟩
        rw [Nat.zero_mul, Nat.add_zero, Nat.mod_eq_of_lt hc0]; rfl
      · rintro i σ H9 hi ⟨o6, o7, refs, rfl, hf9, rp9, hn9, v9, b9⟩
        have hi : i < cn := by simpa using hi
        have hcl : (c0 + i * st) % (ss.length * ss.length) < ss.length * ss.length := Nat.mod_lt _ hM0
        have ecode : ((((c0 + i * st) % (ss.length * ss.length) : Nat) : Int) + (st : Int)) % (((ss.length : Nat) : Int) * ((ss.length : Nat) : Int)) = (((c0 + (i + 1) * st) % (ss.length * ss.length) : Nat) : Int) := by
          rw [eM, ← Int.natCast_add, ← Int.natCast_emod, Nat.mod_add_mod, Nat.succ_mul, Nat.add_assoc]
        have rlen := rp9.len
        rw [List.length_map, List.length_map, List.length_range] at rlen
        generalize hcd : (c0 + i * st) % (ss.length * ss.length) = cd at hcl ecode ⊢
        have at1 : atI (List.map V.str ss) ((cd : Int) / ((ss.length : Nat) : Int)) = some (.str (ss.getD (cd / ss.length) "")) := by
          rw [← Int.natCast_ediv]; exact str_at (Nat.div_lt_of_lt_mul hcl)
        have at2 : atI (List.map V.str ss) ((cd : Int) % ((ss.length : Nat) : Int)) = some (.str (ss.getD (cd % ss.length) "")) := by
          rw [← Int.natCast_emod]; exact str_at (Nat.mod_lt _ h0')
        refine ⟨_, rfl, .inl ⟨rfl, _, .of hf9⟩, _, rfl, _, rfl, _, rfl, _, _, rfl, rfl, ⟨by omega, by omega⟩, .lst (.of hn9) at1 ⟨_, rfl, _, rfl, _, rfl, _, _, rfl, rfl, by omega, .lst (.of hn9) at2 ⟨(by show 2 ≤ sizeLine; decide), fun tq htq => ?_⟩⟩⟩
        have sq := Same.new (o := .tup [V.str (ss.getD (cd / ss.length) ""), V.str (ss.getD (cd % ss.length) "")]) htq
        have hlq : lf ≠ tq := ne_of_none hf9 htq
        have hpq := v9.ne htq
        refine ⟨lf, _, _, rfl, rfl, sq _ _ hf9, by rw [← rlen] at hi; exact small1000 (by omega), ?_⟩
        refine ⟨_, rfl, _, rfl, .int ⟨_, rfl, _, rfl, _, _, rfl, rfl, .inl ⟨by omega, by omega⟩, _, _, rfl, rfl, by rw [eM]; omega, ?_⟩⟩
        refine ⟨_, _, refs ++ [.ref tq], (by rw [← ecode]; rfl), upd_same, ?_, ?_, ?_, ?_⟩
        · rw [range_snoc, List.map_append]
          refine RepAll.append (RepAll.pairBut (p := lf) (sq _ _ hf9) But.upd (rp9.same sq)) (.cons ?_ .nil)
          rw [hcd]
          refine pair_rep ?_
          rw [upd_ne (Ne.symm hlq)]; exact upd_same
        · rw [upd_ne hnf]; exact sq _ _ hn9
        · exact (v9.upd hpq).upd hpf
        · exact ((b9.at (b9.free (Ne.symm hpq) htq))).at hlf
      · rintro σ H9 ⟨o6, o7, refs, rfl, hf9, rp9, hn9, v9, b9⟩
        refine ⟨_, rfl, fin _ refs H9 hf9 rp9 (by simp; omega) (nodup_by _ _ fun i j hij hj e => ?_) (fun e he => ?_) v9 b9⟩
        · have hj : j < cn := by simpa using hj
          exact step_inj cop hij (by omega) (tieAt_inj snd h0' (Nat.mod_lt _ hM0) (Nat.mod_lt _ hM0) e)
        · obtain ⟨i, hi, rfl⟩ := mem_by he
          exact ⟨mem_getD (Nat.div_lt_of_lt_mul (Nat.mod_lt _ hM0)), mem_getD (Nat.mod_lt _ h0')⟩
    have v1 := v2
    have b1 := b2
    have hf1 := hf2
    have hn1 := hn2
    all_goals
      refine ⟨_, rfl, p, a, 13, rfl, hP.but b1 v1, by decide, by decide, fun r7 H3 h70 h71 v3 e3 => ⟨(by show 2 ≤ sizeLine; decide), fun l hl => ?_⟩⟩
      have b3 := b1.trans (But.of_eq e3)
      have hf3 := (e3 lf (Ne.symm hpf)).trans hf1
      have hn3 := (e3 n hnp).trans hn1
      have hpl := v3.ne hl
      have sl := Same.new (o := .lst [V.int 0, V.int r7]) hl
      have v4 := v3.upd (o := .lst [V.int 0, V.int r7]) hpl
      have b4 := b3.at (o := .lst [V.int 0, V.int r7]) (b3.free (Ne.symm hpl) hl)
      have hf4 := sl _ _ hf3
      have hn4 := sl _ _ hn3
      have hl4 : upd H3 l (.lst [V.int 0, V.int r7]) l = some (.lst [V.int 0, V.int r7]) := upd_same
      generalize upd H3 l (.lst [V.int 0, V.int r7]) = H4 at v4 b4 hf4 hn4 hl4 ⊢
      obtain ⟨cnt, ecnt, hcz, hc12⟩ : ∃ cnt : Nat, atI [V.int 0, V.int r7] (if decide ((0 : Int) < ((ss.length : Nat) : Int)) = true then 1 else 0) = some (.int (cnt : Int)) ∧ (0 < cnt → 0 < ss.length) ∧ cnt ≤ 12 := by
        by_cases q : (0 : Int) < ((ss.length : Nat) : Int)
        · rw [if_pos (decide_eq_true q)]
          exact ⟨r7.toNat, by show some (V.int r7) = _; rw [Int.toNat_of_nonneg h70], fun _ => by omega, by omega⟩
        · rw [if_neg (by simpa using q)]
          exact ⟨0, rfl, fun z => absurd z (by decide), by decide⟩
      refine ⟨_, rfl, _, _, rfl, rfl, _, rfl, .bl (.lst (.of hl4) ecnt ⟨_, rfl, by omega, by omega, ?_⟩)⟩
      refine for_range (fun i σ H' => ∃ (o6 o7 : Option V) (refs : List V) (ts : List (Str × Str)), σ = [some (.ref p), some (.ref n), some (.int ((ss.length : Nat) : Int)), some (.ref lf), none, none, o6, o7] ∧ H' lf = some (.lst refs) ∧ RepAll H' refs (ts.map pairD) ∧ ts.length ≤ i ∧ ts.Nodup ∧ (∀ e ∈ ts, e.1 ∈ ss ∧ e.2 ∈ ss) ∧ H' n = some (.lst (List.map V.str ss)) ∧ PenV H' p a ∧ But p H H') ?_ ?_ ?_
      · exact ⟨none, none, [], [], rfl, hf4, .nil, Nat.le_refl _, List.nodup_nil, (fun e he => by cases he), hn4, v4, b4⟩
      · rintro i σ H5 hi ⟨o6, o7, refs, ts, rfl, hf5, rp5, tl5, tn5, ti5, hn5, v5, b5⟩
        have hi : i < cnt := by simpa using hi
        have h0' := hcz (by omega)
        refine ⟨_, rfl, _, rfl, _, rfl, p, a, _, rfl, hP.but b5 v5, by omega, by omega, fun r8 H6 h80 h81 v6 e6 => ?_⟩
        obtain ⟨x, rfl⟩ := Int.eq_ofNat_of_zero_le h80
        have b6 := b5.trans (But.of_eq e6)
        have hf6 := (e6 lf (Ne.symm hpf)).trans hf5
        have hn6 := (e6 n hnp).trans hn5
        have rp6 : RepAll H6 refs (ts.map pairD) := by
          obtain ⟨_, hpv⟩ := penAt v5
          exact RepAll.pairBut hpv (But.of_eq e6) rp5
        refine .lst (.of hn6) (str_at (by omega)) ⟨_, rfl, _, rfl, _, rfl, p, a, _, rfl, hP.but b6 v6, by omega, by omega, fun r9 H7 h90 h91 v7 e7 => ?_⟩
        obtain ⟨y, rfl⟩ := Int.eq_ofNat_of_zero_le h90
        have b7 := b6.trans (But.of_eq e7)
        have hf7 := (e7 lf (Ne.symm hpf)).trans hf6
        have hn7 := (e7 n hnp).trans hn6
        have rp7 : RepAll H7 refs (ts.map pairD) := by
          obtain ⟨_, hpv⟩ := penAt v6
          exact RepAll.pairBut hpv (But.of_eq e7) rp6
        refine .lst (.of hn7) (str_at (by omega)) ⟨(by show 2 ≤ sizeLine; decide), fun tq htq => ?_⟩
        have sq := Same.new (o := .tup [V.str (ss.getD x ""), V.str (ss.getD y "")]) htq
        have hlq : lf ≠ tq := ne_of_none hf7 htq
        have hpq := v7.ne htq
        have v8 := v7.upd (o := .tup [V.str (ss.getD x ""), V.str (ss.getD y "")]) hpq
        have b8 := b7.at (o := .tup [V.str (ss.getD x ""), V.str (ss.getD y "")]) (b7.free (Ne.symm hpq) htq)
        have hf8 := sq _ _ hf7
        have hn8 := sq _ _ hn7
        have rp8 := rp7.same sq
        have hq8 : upd H7 tq (.tup [V.str (ss.getD x ""), V.str (ss.getD y "")]) tq = some (.tup [V.str (ss.getD x ""), V.str (ss.getD y "")]) := upd_same
        generalize upd H7 tq (.tup [V.str (ss.getD x ""), V.str (ss.getD y "")]) = H8 at v8 b8 hf8 hn8 rp8 hq8 ⊢
        have mx : ss.getD x "" ∈ ss := mem_getD (by omega)
        have my : ss.getD y "" ∈ ss := mem_getD (by omega)
        refine ⟨_, rfl, _, rfl, .tr hf8 rp8 (pair_rep hq8) (canLay_prs ts fun e he => ⟨snm _ (ti5 e he).1, snm _ (ti5 e he).2⟩) (canLay_prs [(ss.getD x "", ss.getD y "")] (fun e he => by
          rw [List.mem_singleton.mp he]; exact ⟨snm _ mx, snm _ my⟩) |> fun z => by simpa [PyData.canLayAll0] using z) (by show 1 ≤ 16; decide) ⟨_, rfl, ?_⟩⟩
        rw [any_pair]
        have rlen := rp8.len
        rw [List.length_map] at rlen
        refine ite2 (fun hnew => ?_) (fun hold => ?_)
        · have hnew : (ss.getD x "", ss.getD y "") ∉ ts := by simpa using hnew
          refine ⟨_, rfl, .inl ⟨rfl, _, .of hf8⟩, _, rfl, lf, _, _, rfl, rfl, hf8, small1000 (by omega), ?_⟩
          refine ⟨_, _, refs ++ [.ref tq], ts ++ [(ss.getD x "", ss.getD y "")], rfl, upd_same, ?_, ?_, nodup_snoc tn5 hnew, ?_, ?_, v8.upd hpf, b8.at hlf⟩
          · rw [List.map_append]
            refine RepAll.append (RepAll.pairBut (p := lf) hf8 But.upd rp8) (.cons (pair_rep ?_) .nil)
            rw [upd_ne (Ne.symm hlq)]; exact hq8
          · rw [List.length_append]; show _ + 1 ≤ _; omega
          · intro e he
            rcases List.mem_append.mp he with he | he
            · exact ti5 e he
            · rw [List.mem_singleton.mp he]; exact ⟨mx, my⟩
          · rw [upd_ne hnf]; exact hn8
        · exact ⟨_, _, refs, ts, rfl, hf8, rp8, by omega, tn5, ti5, hn8, v8, b8⟩
      · rintro σ H5 ⟨o6, o7, refs, ts, rfl, hf5, rp5, tl5, tn5, ti5, hn5, v5, b5⟩
        exact ⟨_, rfl, fin ts refs H5 hf5 rp5 (by simp at tl5; omega) tn5 ti5 v5 b5⟩
end
end K03
namespace K03
open PySem L2
section
variable {P : Program} {w : World} {K : PySem.W.Frag} {mg : Str → Option Value} {base : Heap}
theorem scPlaces : FnScope ["things", "places", "place", "thing"] ["things"] (defScope sPlaces) := ⟨rfl, rfl, rfl, by decide +kernel, rfl, by decide +kernel, by decide +kernel⟩
theorem pair_get {H : Hp} {refs : List V} {ps : List (Str × Str)} (rp : RepAll H refs (ps.map pairD)) {j : Nat} {x : V} (hx : refs[j]? = some x) : ∃ e ta, ps[j]? = some e ∧ x = .ref ta ∧ H ta = some (.tup [.str e.1, .str e.2]) := by
  obtain ⟨d, hd, rd⟩ := rp.get hx
  rw [List.getElem?_map] at hd
  cases q : ps[j]? with
  | none => rw [q] at hd; cases hd
  | some e =>
    rw [q] at hd
    have hd : pairD e = d := Option.some.inj hd
    rw [← hd] at rd
    obtain ⟨ta, h1, h2⟩ := pair_at rd
    exact ⟨e, ta, rfl, h1, h2⟩
theorem str_get {ss : List Str} {i : Nat} {x : V} (h : (List.map V.str ss)[i]? = some x) : ∃ s, ss[i]? = some s ∧ V.str s = x := by
  rw [List.getElem?_map] at h
  cases q : ss[i]? with
  | none => rw [q] at h; cases h
  | some e => rw [q] at h; exact ⟨e, rfl, Option.some.inj h⟩
structure PlN (H H' : Hp) (d : Addr) (xs : List Str) (i : Nat) (kvs : List (Key × V)) : Prop where
  sm : Same H H'
  at_ : H' d = some (.dK kvs)
  len : kvs.length ≤ i
  inn : ∀ s, (valV kvs (.inr s)).isSome = true ↔ s ∈ xs.take i
  ix : ∀ s v, valV kvs (.inr s) = some v → ∃ j : Nat, v = .int j ∧ xs[j]? = some s
  nd : (kvs.map (·.1)).Nodup
  ks : ∀ k ∈ kvs.map (·.1), ∃ s ∈ xs, k = Sum.inr s
theorem map_putK {kvs : List (Key × V)} {k : Key} {v : V} (h : (valV kvs k).isSome = true) : (putK kvs k v).map (·.1) = kvs.map (·.1) := by
  unfold putK
  rw [if_pos (by rw [valV_any]; exact h), List.map_map]
  refine List.map_congr_left fun p _ => ?_
  show (if p.1 = k then (p.1, v) else p).1 = p.1
  split <;> rfl
theorem PlN.step {H H' : Hp} {d p : Addr} {xs : List Str} {i : Nat} {kvs : List (Key × V)} {t : Str} {o : HO} (h : PlN H H' d xs i kvs) (hd : H d = none) (hp : H' p = none) (ht : xs[i]? = some t) :
    PlN H (upd (upd H' p o) d (.dK (putK kvs (.inr t) (.int (i : Nat))))) d xs (i + 1) (putK kvs (.inr t) (.int (i : Nat))) := by
  refine ⟨?_, upd_same, ?_, ?_, ?_, ?_, ?_⟩
  · intro b o hb
    rw [upd_ne (ne_of_none hb hd)]
    exact Same.new hp _ _ (h.sm _ _ hb)
  · have := length_putK kvs (.inr t) (V.int (i : Nat))
    have := h.len
    omega
  · intro s
    rw [valV_put, List.take_add_one, ht, List.mem_append]
    by_cases q : s = t
    · subst q
      simp
    · rw [if_neg (fun z => q (Sum.inr.inj z)), h.inn s]
      simp [q]
  · intro s v e
    rw [valV_put] at e
    by_cases q : s = t
    · subst q
      rw [if_pos rfl] at e
      exact ⟨i, (Option.some.inj e).symm, ht⟩
    · rw [if_neg (fun z => q (Sum.inr.inj z))] at e
      exact h.ix s v e
  · cases q : valV kvs (.inr t) with
    | none => exact nd_putK _ h.nd q
    | some v => rw [map_putK (by rw [q]; rfl)]; exact h.nd
  · intro k hk
    cases q : valV kvs (.inr t) with
    | none =>
      rw [putK_new _ q, List.map_append] at hk
      rcases List.mem_append.mp hk with hk | hk
      · exact h.ks k hk
      · have : k = Sum.inr t := by simpa using hk
        exact ⟨t, List.mem_of_getElem? ht, this⟩
    | some v => rw [map_putK (by rw [q]; rfl)] at hk; exact h.ks k hk
theorem ok_placesX {f : Addr} {fd : FuncData} (F : Fun K "places_of" "places_of" sPlaces f fd) (B : Blt mg) : FnOk P w K mg base CX0 1 f fd ["things"] spPlacesX := by
  refine F.ok scPlaces (fun vs H Q E h => ?_) (fun cdv A outer s H vs Q E hr h => ?_)
  · obtain ⟨x, rfl, _⟩ := h
    rfl
  · obtain ⟨x, rfl, h⟩ := h
    have nd := scPlaces.nd
    cases h with
    | @nm a xs _ ha hl k =>
      refine ⟨_, (pss_cons (ps_set (i := 1) nd rfl (Or.inl rfl) pe_dnewK)
      (pss_cons (ps_for PassesOwn.never rfl (pi_enumX K rfl B.enumerate (pa_cons (pv 0) pa_nil)) (pg_tupK (n := 2) K rfl (pgs_cons (pg_name (i := 2) nd rfl (Or.inl rfl)) (pgs_cons (pg_name (i := 3) nd rfl (Or.inl rfl)) pgs_nil))) (pss_one (ps_asg (pv 2) (pg_sub (pv 1) (pv 3) (set_X hr.units)))))
      (pss_one (ps_ret (pv 1))))), ?_⟩
      intro d hd
      have s0 := Same.new (o := .dK []) hd
      have start : PlN H (upd H d (.dK [])) d xs 0 [] := ⟨s0, upd_same, Nat.le_refl _, (fun s => by simp [valV_nil]), (fun s v e => by cases e), List.nodup_nil, (fun k hk => by cases hk)⟩
      rcases ha with ha | ha
      · refine ⟨_, rfl, _, rfl, .lst (.of (s0 _ _ ha)) ?_⟩
        refine for_enum (xs := List.map V.str xs) (fun i σ H' => ∃ o1 o2 kvs, σ = [some (.ref a), some (.ref d), o1, o2] ∧ PlN H H' d xs i kvs) ?_ ?_ ?_ ?_
        · exact ⟨none, none, [], rfl, start⟩
        · rintro i σ H' hi ⟨o1, o2, kvs, rfl, pl⟩
          exact .of (pl.sm _ _ ha)
        · rintro i x σ H' p hx ⟨o1, o2, kvs, rfl, pl⟩ hp
          obtain ⟨t, ht, rfl⟩ := str_get hx
          have hil := (List.getElem?_eq_some_iff.mp ht).1
          have hdp : d ≠ p := ne_of_none pl.at_ hp
          have := pl.len
          refine ⟨p, _, rfl, .of upd_same, rfl, _, _, rfl, _, _, rfl, rfl, ?_⟩
          exact ⟨_, rfl, _, rfl, _, rfl, .dic (DPut.k (k := .inr t) (by rw [upd_ne hdp]; exact pl.at_) (small1000 (by omega))) ⟨_, _, _, rfl, pl.step hd hp ht⟩⟩
        · rintro σ H' ⟨o1, o2, kvs, rfl, pl⟩
          have hin := pl.inn
          rw [List.length_map, List.take_of_length_le (Nat.le_refl _)] at hin
          exact ⟨_, rfl, k d kvs H' pl.sm hd pl.at_ hin pl.ix pl.nd pl.ks⟩
      · refine ⟨_, rfl, _, rfl, .tup (.of (s0 _ _ ha)) ?_⟩
        refine for_enumT (xs := List.map V.str xs) (fun i σ H' => ∃ o1 o2 kvs, σ = [some (.ref a), some (.ref d), o1, o2] ∧ PlN H H' d xs i kvs) ?_ ?_ ?_ ?_
        · exact ⟨none, none, [], rfl, start⟩
        · rintro i σ H' hi ⟨o1, o2, kvs, rfl, pl⟩
          exact .of (pl.sm _ _ ha)
        · rintro i x σ H' p hx ⟨o1, o2, kvs, rfl, pl⟩ hp
          obtain ⟨t, ht, rfl⟩ := str_get hx
          have hil := (List.getElem?_eq_some_iff.mp ht).1
          have hdp : d ≠ p := ne_of_none pl.at_ hp
          have := pl.len
          refine ⟨p, _, rfl, .of upd_same, rfl, _, _, rfl, _, _, rfl, rfl, ?_⟩
          exact ⟨_, rfl, _, rfl, _, rfl, .dic (DPut.k (k := .inr t) (by rw [upd_ne hdp]; exact pl.at_) (small1000 (by omega))) ⟨_, _, _, rfl, pl.step hd hp ht⟩⟩
        · rintro σ H' ⟨o1, o2, kvs, rfl, pl⟩
          have hin := pl.inn
          rw [List.length_map, List.take_of_length_le (Nat.le_refl _)] at hin
          exact ⟨_, rfl, k d kvs H' pl.sm hd pl.at_ hin pl.ix pl.nd pl.ks⟩
    | @pr a refs ps _ ha rp hl k =>
      refine ⟨_, (pss_cons (ps_set (i := 1) nd rfl (Or.inl rfl) pe_dnewT)
      (pss_cons (ps_for PassesOwn.never rfl (pi_enumX K rfl B.enumerate (pa_cons (pv 0) pa_nil)) (pg_tupK (n := 2) K rfl (pgs_cons (pg_name (i := 2) nd rfl (Or.inl rfl)) (pgs_cons (pg_name (i := 3) nd rfl (Or.inl rfl)) pgs_nil))) (pss_one (ps_asg (pv 2) (pg_sub (pv 1) (pv 3) (set_X hr.units)))))
      (pss_one (ps_ret (pv 1))))), ?_⟩
      have rlen := rp.len
      rw [List.length_map] at rlen
      intro d hd
      have s0 := Same.new (o := .dT []) hd
      have turn : ∀ (i : Nat) (e : Str × Str) (ta p : Addr) (H' : Hp) (kvs : List (List Key × V)), Same H H' → H' d = some (.dT kvs) → kvs.length ≤ i → i < ps.length → (∀ f : Str × Str, (valV kvs (pK f)).isSome = true ↔ f ∈ ps.take i) → ps[i]? = some e → H' p = none →
          Same H (upd (upd H' p (.tup [.int (i : Nat), .ref ta])) d (.dT (putK kvs (pK e) (.int (i : Nat))))) ∧ (putK kvs (pK e) (V.int (i : Nat))).length ≤ i + 1 ∧ ∀ f : Str × Str, (valV (putK kvs (pK e) (V.int (i : Nat))) (pK f)).isSome = true ↔ f ∈ ps.take (i + 1) := by
        intro i e ta p H' kvs sm hk hkl hi hin he hp
        refine ⟨?_, ?_, fun f => ?_⟩
        · intro b o hb
          rw [upd_ne (ne_of_none hb hd)]
          exact Same.new hp _ _ (sm _ _ hb)
        · have := length_putK kvs (pK e) (V.int (i : Nat))
          omega
        · rw [valV_put, List.take_add_one, he, List.mem_append]
          by_cases q : f = e
          · subst q; simp
          · rw [if_neg (fun z => q (pK_inj z)), hin f]
            simp [q]
      rcases ha with ha | ha
      · refine ⟨_, rfl, _, rfl, .lst (.of (s0 _ _ ha)) ?_⟩
        refine for_enum (xs := refs) (fun i σ H' => ∃ o1 o2 kvs, σ = [some (.ref a), some (.ref d), o1, o2] ∧ Same H H' ∧ H' d = some (.dT kvs) ∧ kvs.length ≤ i ∧ ∀ f : Str × Str, (valV kvs (pK f)).isSome = true ↔ f ∈ ps.take i) ?_ ?_ ?_ ?_
        · exact ⟨none, none, [], rfl, s0, upd_same, Nat.le_refl _, fun s => by simp [valV_nil]⟩
        · rintro i σ H' hi ⟨o1, o2, kvs, rfl, sm, _⟩
          exact .of (sm _ _ ha)
        · rintro i x σ H' p hx ⟨o1, o2, kvs, rfl, sm, hk, hkl, hin⟩ hp
          obtain ⟨e, ta, he, rfl, hta⟩ := pair_get (rp.same sm) hx
          have hil := (List.getElem?_eq_some_iff.mp he).1
          have hdp : d ≠ p := ne_of_none hk hp
          obtain ⟨g1, g2, g3⟩ := turn i e ta p H' kvs sm hk hkl hil hin he hp
          refine ⟨p, _, rfl, .of upd_same, rfl, _, _, rfl, _, _, rfl, rfl, ?_⟩
          exact ⟨_, rfl, _, rfl, _, rfl, .dic (DPut.t (k := pK e) (by rw [upd_ne hdp]; exact hk) (Same.new hp _ _ hta) (small1000 (by omega))) ⟨_, _, _, rfl, g1, upd_same, g2, g3⟩⟩
        · rintro σ H' ⟨o1, o2, kvs, rfl, sm, hk, hkl, hin⟩
          rw [rlen, List.take_of_length_le (Nat.le_refl _)] at hin
          exact ⟨_, rfl, k d kvs H' sm hd hk hin⟩
      · refine ⟨_, rfl, _, rfl, .tup (.of (s0 _ _ ha)) ?_⟩
        refine for_enumT (xs := refs) (fun i σ H' => ∃ o1 o2 kvs, σ = [some (.ref a), some (.ref d), o1, o2] ∧ Same H H' ∧ H' d = some (.dT kvs) ∧ kvs.length ≤ i ∧ ∀ f : Str × Str, (valV kvs (pK f)).isSome = true ↔ f ∈ ps.take i) ?_ ?_ ?_ ?_
        · exact ⟨none, none, [], rfl, s0, upd_same, Nat.le_refl _, fun s => by simp [valV_nil]⟩
        · rintro i σ H' hi ⟨o1, o2, kvs, rfl, sm, _⟩
          exact .of (sm _ _ ha)
        · rintro i x σ H' p hx ⟨o1, o2, kvs, rfl, sm, hk, hkl, hin⟩ hp
          obtain ⟨e, ta, he, rfl, hta⟩ := pair_get (rp.same sm) hx
          have hil := (List.getElem?_eq_some_iff.mp he).1
          have hdp : d ≠ p := ne_of_none hk hp
          obtain ⟨g1, g2, g3⟩ := turn i e ta p H' kvs sm hk hkl hil hin he hp
          refine ⟨p, _, rfl, .of upd_same, rfl, _, _, rfl, _, _, rfl, rfl, ?_⟩
          exact ⟨_, rfl, _, rfl, _, rfl, .dic (DPut.t (k := pK e) (by rw [upd_ne hdp]; exact hk) (Same.new hp _ _ hta) (small1000 (by omega))) ⟨_, _, _, rfl, g1, upd_same, g2, g3⟩⟩
        · rintro σ H' ⟨o1, o2, kvs, rfl, sm, hk, hkl, hin⟩
          rw [rlen, List.take_of_length_le (Nat.le_refl _)] at hin
          exact ⟨_, rfl, k d kvs H' sm hd hk hin⟩
end
end K03
namespace K03
open PySem L2
section
variable {P : Program} {w : World} {K : PySem.W.Frag} {mg : Str → Option Value} {base : Heap}
theorem scIsName : FnScope ["thing"] ["thing"] (defScope sIsName) := ⟨rfl, rfl, rfl, by decide +kernel, rfl, by decide +kernel, by decide +kernel⟩
theorem ok_isname {f : Addr} {fd : FuncData} {tk : Tok} (F : Fun K "is_name" "is_name" sIsName f fd) (B : Blt mg) (T : mg "MOST_SIGNS" = some (.int 8 tk)) : FnOk P w K mg base CX0 1 f fd ["thing"] spIsName := by
  refine F.ok scIsName (fun vs H Q E h => ?_) (fun cdv A outer s H vs Q E hr h => ?_)
  · obtain ⟨x, rfl, _⟩ := h
    rfl
  · obtain ⟨x, rfl, hx, k⟩ := h
    have nd := scIsName.nd
    obtain ⟨t, ty, t1, _⟩ := ty_thg (K := K) hx
    refine ⟨_, (pss_cons (ps_if (pt_not (pt_val (b_isi K "str" B (pa_cons (pv 0) (pa_cons (g_str B) pa_nil))))) (pss_one (ps_ret pe_bl)) pss_nil)
      (pss_cons (ps_if (PW.pt (pw_or (pt_cmpR op_ltX (b_len K B (pa_cons (pv 0) pa_nil)) pe_int (nomark _)) (pw_or1 (pt_cmpR op_gt (b_len K B (pa_cons (pv 0) pa_nil)) (pe_glob (v := .int 8) rfl T ⟨_, rfl⟩) (nomark _))))) (pss_one (ps_ret pe_bl)) pss_nil)
      (pss_one (ps_ret (b_all rfl B (pa_cons (pe_comp (defScope sIsName) ["thing"] ["sign"] [] ["sign"] rfl (pi_str (pv 0)) (fun _ _ _ _ _ => (pg_name (i := 0) (show (["sign"] : List Str).Nodup by decide) rfl (Or.inl rfl))) (fun _ _ _ _ _ => pts_nil) (fun _ _ _ _ _ => (pe_chain op_leX op_leX pe_str (pv 0) pe_str))) pa_nil)))))), ?_⟩
    refine ⟨_, rfl, x, t, _, rfl, ty, t1, _, rfl, ?_⟩
    refine ite2 (fun hn => ?_) (fun hn => ?_)
    · have e : isNm x = false := by cases x <;> first | rfl | (simp [isS] at hn)
      have q := k H (Same.refl H)
      rw [e] at q
      exact q
    · obtain ⟨z, rfl⟩ : ∃ z, x = .str z := by cases x <;> first | exact ⟨_, rfl⟩ | (simp [isS] at hn)
      have hzz : z.length ≤ sizeLine := by
        cases hx with
        | str h => exact h
      refine ⟨_, rfl, _, _, rfl, ⟨hzz, rfl⟩, .int ⟨_, rfl, ?_⟩⟩
      refine ite2 (fun h1 => ?_) (fun h1 => ?_)
      · refine iteT ?_
        have q := k H (Same.refl H)
        have h1 : (z.length : Int) < 1 := of_decide_eq_true h1
        have e : isNm (.str z) = false := by
          show (decide (1 ≤ z.length) && _) = false
          rw [decide_eq_false (by omega)]; rfl
        rw [e] at q
        exact q
      · have h1 : ¬ (z.length : Int) < 1 := of_decide_eq_false (by simpa using h1)
        refine ⟨_, rfl, _, _, rfl, ⟨hzz, rfl⟩, _, _, rfl, rfl, _, rfl, ?_⟩
        refine ite2 (fun h2 => ?_) (fun h2 => ?_)
        · have q := k H (Same.refl H)
          have h2 : (8 : Int) < z.length := of_decide_eq_true h2
          have e : isNm (.str z) = false := by
            show (decide (1 ≤ z.length) && (decide (z.length ≤ 8) && _)) = false
            rw [decide_eq_false (show ¬ z.length ≤ 8 by omega), Bool.false_and, Bool.and_false]
          rw [e] at q
          exact q
        · have h2 : ¬ (8 : Int) < z.length := of_decide_eq_false (by simpa using h2)
          have e : isNm (.str z) = z.cps.toList.all isLow := by
            show (decide (1 ≤ z.length) && (decide (z.length ≤ 8) && _)) = _
            rw [decide_eq_true (show 1 ≤ z.length by omega), decide_eq_true (show z.length ≤ 8 by omega), Bool.true_and, Bool.true_and]
          refine ⟨_, rfl, z, rfl, ?_⟩
          refine comp_str (fun D i acc σ' H' => ∃ o, σ' = [o] ∧ acc = (z.cps.toList.take i).map (fun c => V.bl (isLow c)) ∧ Same H H' ∧ H D = none) fun D hD => ⟨⟨none, rfl, rfl, Same.new hD, hD⟩, ?_, ?_⟩
          · rintro i acc σ' H' c hc ⟨o, rfl, rfl, sm, hD0⟩ hacc
            refine gYes ?_
            have sg : ∀ b : Bool, b = isLow c → (H' D = some (.lst ((z.cps.toList.take i).map (fun c => V.bl (isLow c)))) ∧ ((z.cps.toList.take i).map (fun c => V.bl (isLow c))).length < sizeLine ∧
                (∃ o, [some (V.str ⟨#[c]⟩)] = [o] ∧ (z.cps.toList.take i).map (fun c => V.bl (isLow c)) ++ [V.bl b] = (z.cps.toList.take (i + 1)).map (fun c => V.bl (isLow c)) ∧ Same H (upd H' D (.lst ((z.cps.toList.take i).map (fun c => V.bl (isLow c)) ++ [V.bl b]))) ∧ H D = none)) := fun b hb => by
              refine ⟨hacc, ?_, _, rfl, ?_, ?_, hD0⟩
              · rw [List.length_map]
                refine small1000 ?_
                have := List.length_take_le' i z.cps.toList
                have h2' : z.length ≤ 8 := by omega
                have hl : z.cps.toList.length = z.length := by simp [Str.length]
                omega
              · rw [List.take_add_one, hc, List.map_append, hb]; rfl
              · intro b' o' e'
                rw [upd_ne (ne_of_none e' hD0)]
                exact sm b' o' e'
            refine ⟨_, rfl, .str ⟨_, rfl, ?_⟩⟩
            have e1 : (!decide ((⟨#[c]⟩ : Str).cps.toList < ("a" : Str).cps.toList)) = decide (97 ≤ c) := by
              show (!decide ([c] < [97])) = _
              rw [lt_one]
              by_cases hh : c < 97
              · rw [decide_eq_true hh, decide_eq_false (by omega)]; rfl
              · rw [decide_eq_false hh, decide_eq_true (by omega)]; rfl
            have e2 : (!decide (("z" : Str).cps.toList < (⟨#[c]⟩ : Str).cps.toList)) = decide (c ≤ 122) := by
              show (!decide ([122] < [c])) = _
              rw [lt_one]
              by_cases hh : 122 < c
              · rw [decide_eq_true hh, decide_eq_false (by omega)]; rfl
              · rw [decide_eq_false hh, decide_eq_true (by omega)]; rfl
            rw [e1]
            refine ite2 (fun h3 => ?_) (fun h3 => ?_)
            · refine .str (sg _ ?_)
              rw [e2]
              unfold isLow
              rw [h3, Bool.true_and]
            · refine sg false ?_
              unfold isLow
              have h3 : decide (97 ≤ c) = false := by simpa using h3
              rw [h3, Bool.false_and]
          · rintro acc σ' H' ⟨o, rfl, rfl, sm, hD0⟩ hacc
            rw [List.take_of_length_le (Nat.le_refl _)] at hacc
            refine ⟨D, z.cps.toList.map isLow, rfl, by rw [List.map_map]; exact hacc, ?_⟩
            have q := k H' sm
            rw [e] at q
            have e4 : (z.cps.toList.map isLow).all id = z.cps.toList.all isLow := by rw [List.all_map]; rfl
            rw [e4]
            exact q
end
end K03
namespace K03
open PySem L2
section
variable {P : Program} {w : World} {K : PySem.W.Frag} {mg : Str → Option Value} {base : Heap}
noncomputable def spUnlike : Sp := fun vs H Q _ => ∃ (a : Addr) (ss : List Str), vs = [.ref a] ∧ SqA H a (List.map V.str ss) ∧ ss.length ≤ 1000 ∧ ∀ H', Same H H' → Q (.bl (decide ss.Nodup)) H'
theorem scUnlike : FnScope ["things"] ["things"] (defScope sUnlike) := ⟨rfl, rfl, rfl, by decide +kernel, rfl, by decide +kernel, by decide +kernel⟩
theorem ok_unlike {f : Addr} {fd : FuncData} (F : Fun K "are_unlike" "are_unlike" sUnlike f fd) (B : Blt mg) (cplaces_of : Cal P w K mg base 1 "places_of" ["things"] spPlacesX) : FnOk P w K mg base CX0 2 f fd ["things"] spUnlike := by
  refine F.ok scUnlike (fun vs H Q E h => ?_) (fun cdv A outer s H vs Q E hr h => ?_)
  · obtain ⟨a, ss, rfl, _⟩ := h
    rfl
  · obtain ⟨a, ss, rfl, ha, hlen, k⟩ := h
    have nd := scUnlike.nd
    refine ⟨_, (pss_one (ps_ret (pe_cmpR (op_eqX hr.units) (b_lenD B (pa_cons (pe_cal cplaces_of (hr.mono (by decide)) rfl (pa_cons (pv 0) pa_nil)) pa_nil)) (b_len K B (pa_cons (pv 0) pa_nil)) (nomark _)))), ?_⟩
    refine ⟨_, rfl, _, rfl, ?_⟩
    refine .nm ha hlen fun d kvs H1 s1 hd0 hd hin hat knd ks => ⟨d, kvs, rfl, hd, _, rfl, _, ss.length, rfl, ?_, .sc rfl ?_⟩
    · have := (SqA.same ha s1).len (K := K)
      rw [List.length_map] at this
      exact this
    · have e := len_kvs knd ks hin
      have e2 : decide (V.int (kvs.length : Nat) = V.int (ss.length : Nat)) = decide ss.Nodup := by
        rw [Bool.eq_iff_iff, decide_eq_true_iff, decide_eq_true_iff, ← e]
        exact ⟨fun z => Int.ofNat.inj (V.int.inj z), fun z => by rw [z]⟩
      show Q (.bl (decide (V.int (kvs.length : Nat) = V.int (ss.length : Nat)))) H1
      rw [e2]
      exact k H1 s1
end
end K03
namespace K03
open PySem L2
section
variable {P : Program} {w : World} {K : PySem.W.Frag} {mg : Str → Option Value} {base : Heap}
theorem nmS {s : Str} (h : Nm s) : s.length ≤ sizeLine := Nat.le_of_lt (small1000 (by have := h.2.1; omega))
noncomputable def spAmong : Sp := fun vs H Q _ => ∃ (d ta : Addr) (kvs : List (Key × V)) (e : Str × Str), vs = [.ref d, .ref ta] ∧ H d = some (.dK kvs) ∧ H ta = some (.tup [.str e.1, .str e.2]) ∧ Nm e.1 ∧ Nm e.2 ∧ (valV kvs (.inr e.1)).isSome = true ∧ (valV kvs (.inr e.2)).isSome = true ∧ ∀ H', Same H H' → Q (.bl true) H'
theorem scAmong : FnScope ["places", "tie"] ["places", "tie"] (defScope sAmong) := ⟨rfl, rfl, rfl, by decide +kernel, rfl, by decide +kernel, by decide +kernel⟩
theorem ok_among {f : Addr} {fd : FuncData} (F : Fun K "is_tie_among" "is_tie_among" sAmong f fd) (B : Blt mg) (cis_name : Cal P w K mg base 1 "is_name" ["thing"] spIsName) : FnOk P w K mg base CX0 2 f fd ["places", "tie"] spAmong := by
  refine F.ok scAmong (fun vs H Q E h => ?_) (fun cdv A outer s H vs Q E hr h => ?_)
  · obtain ⟨d, ta, kvs, e, rfl, _⟩ := h
    rfl
  · obtain ⟨d, ta, kvs, e, rfl, hd, hta, n1, n2, i1, i2, k⟩ := h
    have nd := scAmong.nd
    obtain ⟨t, ty, _, _, _, _, t5⟩ := ty_thg (K := K) (Thg.tup hta)
    rw [isT_of hta] at t5
    refine ⟨_, (pss_cons (ps_if (PW.pt (pw_or (pt_not (pt_val (b_isi K "tuple" B (pa_cons (pv 1) (pa_cons (g_tuple B) pa_nil))))) (pw_or1 (pt_cmpR (op_neX hr.units) (b_len K B (pa_cons (pv 1) pa_nil)) pe_int (nomark _))))) (pss_one (ps_ret pe_bl)) pss_nil)
      (pss_one (ps_ret (b_all rfl B (pa_cons (pe_comp (defScope sAmong) ["places", "tie"] ["end"] [0] ["end", "places"] rfl (pi_tupK K (pv 1)) (fun _ _ _ _ _ => (pg_name (i := 0) (show (["end", "places"] : List Str).Nodup by decide) rfl (Or.inl rfl))) (fun _ _ _ _ _ => pts_nil) (fun _ _ _ _ _ => (pe_and (pe_cal cis_name (hr.mono (by decide)) rfl (pa_cons (pv 0) pa_nil)) (pe_one (pe_cmpR (op_inX K hr.units) (pv 0) (pv 1) (by with_unfolding_all rfl)))))) pa_nil))))), ?_⟩
    refine ⟨_, rfl, _, t, _, rfl, ty, t5, _, rfl, ?_⟩
    refine ite2 (fun h => absurd h (by decide)) (fun _ => ?_)
    refine ⟨_, rfl, _, _, rfl, Or.inr ⟨_, .of hta, rfl⟩, .sc rfl ⟨_, rfl, ?_⟩⟩
    refine ite2 (fun h => absurd h (by show ¬ (!decide (V.int 2 = V.int 2)) = true; decide)) (fun _ => ?_)
    refine ⟨_, rfl, ta, rfl, ⟨_, .of hta⟩, ?_⟩
    refine comp_tup [V.str e.1, V.str e.2] (fun D i acc σ' H' => ∃ o, σ' = [o, some (.ref d)] ∧ acc = List.replicate i (V.bl true) ∧ Same H H' ∧ H D = none) fun D hD => ⟨?_, ?_, ?_, ?_⟩
    · exact ⟨none, rfl, rfl, Same.new hD, hD⟩
    · rintro i acc σ' H' _ ⟨o, rfl, _, sm, _⟩ _
      exact .of (sm _ _ hta)
    · rintro i acc σ' H' x hx ⟨o, rfl, rfl, sm, hD0⟩ hacc
      have hil := (List.getElem?_eq_some_iff.mp hx).1
      have hil : i < 2 := hil
      obtain ⟨z, rfl, nz, iz⟩ : ∃ z, x = .str z ∧ Nm z ∧ (valV kvs (.inr z)).isSome = true := by
        match i, hil, hx with
        | 0, _, hx => exact ⟨e.1, (Option.some.inj hx).symm, n1, i1⟩
        | 1, _, hx => exact ⟨e.2, (Option.some.inj hx).symm, n2, i2⟩
      refine gYes ?_
      refine ⟨_, rfl, _, rfl, .str (nmS nz), fun H2 s2 => ⟨_, rfl, ?_⟩⟩
      rw [isNm_iff.mpr nz]
      refine iteT ?_
      refine ⟨_, rfl, _, rfl, .dic (DGet.k (k := .inr z) (s2 _ _ (sm _ _ hd))) ?_⟩
      refine ⟨s2 _ _ hacc, by rw [List.length_replicate]; exact small1000 (by omega), _, rfl, ?_, same_at (sm.trans s2) hD0, hD0⟩
      show List.replicate i (V.bl true) ++ [V.bl (valV kvs (.inr z)).isSome] = _
      rw [iz, List.replicate_succ']
    · rintro acc σ' H2 ⟨o, rfl, rfl, s2, hD0⟩ hacc
      refine ⟨D, [true, true], rfl, hacc, ?_⟩
      exact k H2 s2
noncomputable def spUNm : Sp := fun vs H Q _ => ∃ (a : Addr) (ss : List Str), vs = [.ref a] ∧ SqA H a (List.map V.str ss) ∧ ss.length ≤ 60 ∧ ss.Nodup ∧ (∀ s ∈ ss, Nm s) ∧ ∀ H', Same H H' → Q (.bl true) H'
theorem scUNm : FnScope ["things"] ["things"] (defScope sUNm) := ⟨rfl, rfl, rfl, by decide +kernel, rfl, by decide +kernel, by decide +kernel⟩
theorem ok_unm {f : Addr} {fd : FuncData} (F : Fun K "are_unlike_names" "are_unlike_names" sUNm f fd) (B : Blt mg) (cis_name : Cal P w K mg base 1 "is_name" ["thing"] spIsName) (care_unlike : Cal P w K mg base 2 "are_unlike" ["things"] spUnlike) : FnOk P w K mg base CX0 3 f fd ["things"] spUNm := by
  refine F.ok scUNm (fun vs H Q E h => ?_) (fun cdv A outer s H vs Q E hr h => ?_)
  · obtain ⟨a, ss, rfl, _⟩ := h
    rfl
  · obtain ⟨a, ss, rfl, ha, hlen, snd, snm, k⟩ := h
    have nd := scUNm.nd
    have hl60 : ¬ (60 : Int) < ((List.map V.str ss).length : Nat) := by rw [List.length_map]; omega
    rcases ha with ha | ha
    · refine ⟨_, (pss_cons (ps_if (pt_not (pt_val (b_isi2 K "list" "tuple" B (pa_cons (pv 0) (pa_cons (pe_tup (pa_cons (g_list B) (pa_cons (g_tuple B) pa_nil))) pa_nil))))) (pss_one (ps_ret pe_bl)) pss_nil)
      (pss_one (ps_ret (pe_and (b_all rfl B (pa_cons (pe_comp (defScope sUNm) ["things"] ["thing"] [] ["thing"] rfl (pi_listK K (pv 0)) (fun _ _ _ _ _ => (pg_name (i := 0) (show (["thing"] : List Str).Nodup by decide) rfl (Or.inl rfl))) (fun _ _ _ _ _ => pts_nil) (fun _ _ _ _ _ => (pe_cal cis_name (hr.mono (by decide)) rfl (pa_cons (pv 0) pa_nil)))) pa_nil)) (pe_one (pe_cal care_unlike (hr.mono (by decide)) rfl (pa_cons (pv 0) pa_nil))))))), ?_⟩
      refine ⟨_, rfl, (by show 2 ≤ sizeLine; decide), fun tp htp => ?_⟩
      have s0 := Same.new (o := .tup [V.ty "list", V.ty "tuple"]) htp
      have A0 : SqA (upd H tp (.tup [V.ty "list", V.ty "tuple"])) a (List.map V.str ss) := (SqA.same (.inl ha) s0)
      obtain ⟨t, ty, _, _, _, t4, t5⟩ := ty_thg (K := K) A0.thg
      have kl := kit_lt t4 t5
      rw [A0.lt] at kl
      refine ⟨_, tp, t, _, rfl, upd_same, ty, kl, _, rfl, ?_⟩
      refine ite2 (fun h => absurd h (by decide)) (fun _ => ?_)
      have ha0 := s0 _ _ ha
      generalize upd H tp (.tup [V.ty "list", V.ty "tuple"]) = H0 at s0 ha0 ⊢
      refine ⟨_, rfl, a, rfl, ⟨_, .of ha0⟩, ?_⟩
      refine comp_list (List.map V.str ss) (fun D i acc σ' H' => ∃ o, σ' = [o] ∧ acc = List.replicate i (V.bl true) ∧ Same H0 H' ∧ H0 D = none) fun D hD => ⟨?_, ?_, ?_, ?_⟩
      · exact ⟨none, rfl, rfl, Same.new hD, hD⟩
      · rintro i acc σ' H' _ ⟨o, rfl, _, sm, _⟩ _
        exact .of (sm _ _ ha0)
      · rintro i acc σ' H' x hx ⟨o, rfl, rfl, sm, hD0⟩ hacc
        obtain ⟨z, hz, rfl⟩ := str_get hx
        have hil := (List.getElem?_eq_some_iff.mp hz).1
        have nz := snm z (List.mem_of_getElem? hz)
        refine gYes ?_
        refine ⟨_, rfl, _, rfl, .str (nmS nz), fun H2 s2 => ?_⟩
        rw [isNm_iff.mpr nz]
        exact ⟨s2 _ _ hacc, by rw [List.length_replicate]; exact small1000 (by omega), _, rfl, by rw [List.replicate_succ'], same_at (sm.trans s2) hD0, hD0⟩
      · rintro acc σ' H2 ⟨o, rfl, rfl, s2, hD0⟩ hacc
        refine ⟨D, List.replicate (List.map V.str ss).length true, rfl, by rw [List.map_replicate]; exact hacc, _, rfl, ?_⟩
        rw [show (List.replicate (List.map V.str ss).length true).all id = true from by simp]
        refine iteT ?_
        exact ⟨_, rfl, a, ss, rfl, (SqA.same (SqA.same (.inl ha) s0) s2), by omega, fun H3 s3 => by rw [decide_eq_true snd]; exact k H3 ((s0.trans s2).trans s3)⟩
    · refine ⟨_, (pss_cons (ps_if (pt_not (pt_val (b_isi2 K "list" "tuple" B (pa_cons (pv 0) (pa_cons (pe_tup (pa_cons (g_list B) (pa_cons (g_tuple B) pa_nil))) pa_nil))))) (pss_one (ps_ret pe_bl)) pss_nil)
      (pss_one (ps_ret (pe_and (b_all rfl B (pa_cons (pe_comp (defScope sUNm) ["things"] ["thing"] [] ["thing"] rfl (pi_tupK K (pv 0)) (fun _ _ _ _ _ => (pg_name (i := 0) (show (["thing"] : List Str).Nodup by decide) rfl (Or.inl rfl))) (fun _ _ _ _ _ => pts_nil) (fun _ _ _ _ _ => (pe_cal cis_name (hr.mono (by decide)) rfl (pa_cons (pv 0) pa_nil)))) pa_nil)) (pe_one (pe_cal care_unlike (hr.mono (by decide)) rfl (pa_cons (pv 0) pa_nil))))))), ?_⟩
      refine ⟨_, rfl, (by show 2 ≤ sizeLine; decide), fun tp htp => ?_⟩
      have s0 := Same.new (o := .tup [V.ty "list", V.ty "tuple"]) htp
      have A0 : SqA (upd H tp (.tup [V.ty "list", V.ty "tuple"])) a (List.map V.str ss) := (SqA.same (.inr ha) s0)
      obtain ⟨t, ty, _, _, _, t4, t5⟩ := ty_thg (K := K) A0.thg
      have kl := kit_lt t4 t5
      rw [A0.lt] at kl
      refine ⟨_, tp, t, _, rfl, upd_same, ty, kl, _, rfl, ?_⟩
      refine ite2 (fun h => absurd h (by decide)) (fun _ => ?_)
      have ha0 := s0 _ _ ha
      generalize upd H tp (.tup [V.ty "list", V.ty "tuple"]) = H0 at s0 ha0 ⊢
      refine ⟨_, rfl, a, rfl, ⟨_, .of ha0⟩, ?_⟩
      refine comp_tup (List.map V.str ss) (fun D i acc σ' H' => ∃ o, σ' = [o] ∧ acc = List.replicate i (V.bl true) ∧ Same H0 H' ∧ H0 D = none) fun D hD => ⟨?_, ?_, ?_, ?_⟩
      · exact ⟨none, rfl, rfl, Same.new hD, hD⟩
      · rintro i acc σ' H' _ ⟨o, rfl, _, sm, _⟩ _
        exact .of (sm _ _ ha0)
      · rintro i acc σ' H' x hx ⟨o, rfl, rfl, sm, hD0⟩ hacc
        obtain ⟨z, hz, rfl⟩ := str_get hx
        have hil := (List.getElem?_eq_some_iff.mp hz).1
        have nz := snm z (List.mem_of_getElem? hz)
        refine gYes ?_
        refine ⟨_, rfl, _, rfl, .str (nmS nz), fun H2 s2 => ?_⟩
        rw [isNm_iff.mpr nz]
        exact ⟨s2 _ _ hacc, by rw [List.length_replicate]; exact small1000 (by omega), _, rfl, by rw [List.replicate_succ'], same_at (sm.trans s2) hD0, hD0⟩
      · rintro acc σ' H2 ⟨o, rfl, rfl, s2, hD0⟩ hacc
        refine ⟨D, List.replicate (List.map V.str ss).length true, rfl, by rw [List.map_replicate]; exact hacc, _, rfl, ?_⟩
        rw [show (List.replicate (List.map V.str ss).length true).all id = true from by simp]
        refine iteT ?_
        exact ⟨_, rfl, a, ss, rfl, (SqA.same (SqA.same (.inr ha) s0) s2), by omega, fun H3 s3 => by rw [decide_eq_true snd]; exact k H3 ((s0.trans s2).trans s3)⟩
noncomputable def spAre : Sp := fun vs H Q _ => ∃ (a : Addr) (ss : List Str), vs = [.ref a] ∧ SqA H a (List.map V.str ss) ∧ ss.length ≤ 60 ∧ ss.Nodup ∧ (∀ s ∈ ss, Nm s) ∧ ∀ H', Same H H' → Q (.bl true) H'
theorem scAre : FnScope ["things"] ["things"] (defScope sAreThings) := ⟨rfl, rfl, rfl, by decide +kernel, rfl, by decide +kernel, by decide +kernel⟩
theorem ok_are {f : Addr} {fd : FuncData} {tk : Tok} (F : Fun K "are_things" "are_things" sAreThings f fd) (B : Blt mg) (TT : mg "MOST_THINGS" = some (.int 60 tk)) (care_unlike_names : Cal P w K mg base 3 "are_unlike_names" ["things"] spUNm) : FnOk P w K mg base CX0 4 f fd ["things"] spAre := by
  refine F.ok scAre (fun vs H Q E h => ?_) (fun cdv A outer s H vs Q E hr h => ?_)
  · obtain ⟨a, ss, rfl, _⟩ := h
    rfl
  · obtain ⟨a, ss, rfl, ha, hlen, snd, snm, k⟩ := h
    have nd := scAre.nd
    have hl60 : (((List.map V.str ss).length : Nat) : Int) ≤ 60 := by rw [List.length_map]; omega
    refine ⟨_, (pss_one (ps_ret (pe_and (pe_cal care_unlike_names (hr.mono (by decide)) rfl (pa_cons (pv 0) pa_nil)) (pe_one (pe_cmpR op_leX (b_len K B (pa_cons (pv 0) pa_nil)) (pe_glob (v := .int 60) rfl TT ⟨_, rfl⟩) (nomark _)))))), ?_⟩
    refine ⟨_, rfl, a, ss, rfl, ha, hlen, snd, snm, fun H1 s1 => ⟨_, rfl, iteT ?_⟩⟩
    refine ⟨_, rfl, _, _, rfl, (SqA.same ha s1).len, .int ?_⟩
    have z := k H1 s1
    rw [← decide_eq_true hl60] at z
    exact z
end
end K03
namespace K03
open PySem L2
section
variable {P : Program} {w : World} {K : PySem.W.Frag} {mg : Str → Option Value} {base : Heap}
theorem not_take {α : Type} {l : List α} (h : l.Nodup) {i : Nat} {x : α} (e : l[i]? = some x) : x ∉ l.take i := by
  intro hx
  obtain ⟨j, ej⟩ := List.mem_iff_getElem?.mp hx
  have hj := (List.getElem?_eq_some_iff.mp ej).1
  rw [List.length_take] at hj
  rw [List.getElem?_take_of_lt (by omega)] at ej
  have hi := (List.getElem?_eq_some_iff.mp e).1
  rw [List.getElem?_eq_getElem (by omega)] at ej
  rw [List.getElem?_eq_getElem hi] at e
  have : j = i := (List.getElem_inj h).mp ((Option.some.inj ej).trans (Option.some.inj e).symm)
  omega
noncomputable def spWrong : Sp := fun vs H Q _ => ∃ (a t : Addr) (ss : List Str) (ts : List (Str × Str)) (refs : List V), vs = [.ref a, .ref t] ∧ SqA H a (List.map V.str ss) ∧ ss.length ≤ 60 ∧ (∀ s ∈ ss, Nm s) ∧ SqA H t refs ∧ RepAll H refs (ts.map pairD) ∧ ts.length ≤ 400 ∧ ts.Nodup ∧ (∀ e ∈ ts, e.1 ∈ ss ∧ e.2 ∈ ss) ∧ ∀ H', Same H H' → Q .non H'
theorem scWrong : FnScope ["things", "ties", "places", "seen", "number", "tie"] ["things", "ties"] (defScope sWrong) := ⟨rfl, rfl, rfl, by decide +kernel, rfl, by decide +kernel, by decide +kernel⟩
theorem ok_wrong {f : Addr} {fd : FuncData} {tk : Tok} (F : Fun K "first_wrong_tie" "first_wrong_tie" sWrong f fd) (B : Blt mg) (TT : mg "MOST_TIES" = some (.int 400 tk)) (cplaces_of : Cal P w K mg base 1 "places_of" ["things"] spPlacesX) (cis_tie_among : Cal P w K mg base 2 "is_tie_among" ["places", "tie"] spAmong) : FnOk P w K mg base CX0 3 f fd ["things", "ties"] spWrong := by
  refine F.ok scWrong (fun vs H Q E h => ?_) (fun cdv A outer s H vs Q E hr h => ?_)
  · obtain ⟨a, t, ss, ts, refs, rfl, _⟩ := h
    rfl
  · obtain ⟨a, t, ss, ts, refs, rfl, hA, hlen, snm, hT, rp, few, tnd, inn, k⟩ := h
    have nd := scWrong.nd
    have rlen := rp.len
    rw [List.length_map] at rlen
    refine ⟨_, (pss_cons (ps_set (i := 2) nd rfl (Or.inl rfl) (pe_cal cplaces_of (hr.mono (by decide)) rfl (pa_cons (pv 0) pa_nil)))
      (pss_cons (ps_set (i := 3) nd rfl (Or.inl rfl) pe_dnewT)
      (pss_cons (ps_for PassesOwn.never rfl (pi_enumX K rfl B.enumerate (pa_cons (pv 1) pa_nil)) (pg_tupK (n := 2) K rfl (pgs_cons (pg_name (i := 4) nd rfl (Or.inl rfl)) (pgs_cons (pg_name (i := 5) nd rfl (Or.inl rfl)) pgs_nil))) (pss_cons (ps_if (PW.pt (pw_or (pt_cmpR (op_eqX hr.units) (pv 4) (pe_glob (v := .int 400) rfl TT ⟨_, rfl⟩) (nomark _)) (pw_or (pt_not (pt_val (pe_cal cis_tie_among (hr.mono (by decide)) rfl (pa_cons (pv 2) (pa_cons (pv 5) pa_nil))))) (pw_or1 (pt_cmpR (op_inX K hr.units) (pv 5) (pv 3) (by with_unfolding_all rfl)))))) (pss_one (ps_ret (pv 4))) pss_nil)
      (pss_one (ps_asg pe_bl (pg_sub (pv 3) (pv 5) (set_X hr.units))))))
      (pss_one (ps_ret pe_non))))), ?_⟩
    refine ⟨_, rfl, _, rfl, .nm hA (by omega) fun d kvs H1 s1 hd0 hd hin hat _ _ => ?_⟩
    intro dt hdt
    have s2 := s1.trans (Same.new (o := .dT []) hdt)
    rcases hT with ht | ht
    · refine ⟨_, rfl, _, rfl, .lst (.of (s2 _ _ ht)) ?_⟩
      refine for_enum (xs := refs) (fun i σ H' => ∃ (o4 o5 : Option V) (kt : List (List Key × V)), σ = [some (.ref a), some (.ref t), some (.ref d), some (.ref dt), o4, o5] ∧ Same H1 H' ∧ H' dt = some (.dT kt) ∧ kt.length ≤ i ∧ ∀ f : Str × Str, (valV kt (pK f)).isSome = true ↔ f ∈ ts.take i) ?_ ?_ ?_ ?_
      · exact ⟨none, none, [], rfl, Same.new hdt, upd_same, Nat.le_refl _, fun f => by simp [valV_nil]⟩
      · rintro i σ H' hi ⟨o4, o5, kt, rfl, sm, _⟩
        exact .of (sm _ _ (s1 _ _ ht))
      · rintro i x σ H' p hx ⟨o4, o5, kt, rfl, sm, hkt, hkl, hkin⟩ hp
        obtain ⟨e, ta, he, rfl, hta⟩ := pair_get ((rp.same s1).same sm) hx
        have hil := (List.getElem?_eq_some_iff.mp he).1
        have hin' := inn e (List.mem_of_getElem? he)
        have sp := Same.new (o := .tup [V.int (i : Nat), V.ref ta]) hp
        have hdtp : dt ≠ p := ne_of_none hkt hp
        refine ⟨p, _, rfl, .of upd_same, rfl, _, _, rfl, _, _, rfl, rfl, ?_⟩
        have sm2 := sm.trans sp
        have hkt2 := sp _ _ hkt
        have hta2 := sp _ _ hta
        generalize upd H' p (.tup [V.int (i : Nat), V.ref ta]) = H3 at sm2 hkt2 hta2 ⊢
        refine ⟨_, rfl, .sc rfl ⟨_, rfl, ?_⟩⟩
        refine ite2 (fun h => absurd (of_decide_eq_true h) (fun z => by have z : (i : Int) = 400 := V.int.inj z; omega)) (fun _ => ?_)
        refine ⟨_, rfl, _, rfl, d, ta, kvs, e, rfl, sm2 _ _ hd, hta2, snm _ hin'.1, snm _ hin'.2, (hin _).mpr hin'.1, (hin _).mpr hin'.2, fun H4 s4 => ⟨_, rfl, ?_⟩⟩
        refine ite2 (fun h => absurd h (by decide)) (fun _ => ?_)
        have hkt4 := s4 _ _ hkt2
        have hta4 := s4 _ _ hta2
        refine ⟨_, rfl, _, rfl, .dic (DGet.t (k := pK e) hkt4 hta4) ⟨_, rfl, ?_⟩⟩
        refine ite2 (fun h => absurd ((hkin e).mp h) (not_take tnd he)) (fun _ => ?_)
        refine ⟨_, rfl, _, rfl, .dic (DPut.t (k := pK e) hkt4 hta4 (small1000 (by omega))) ⟨_, _, _, rfl, ?_, upd_same, ?_, fun f => ?_⟩⟩
        · intro b o hb
          rw [upd_ne (ne_of_none hb hdt)]
          exact s4 _ _ (sm2 _ _ hb)
        · have := length_putK kt (pK e) (V.bl true)
          omega
        · rw [valV_put, List.take_add_one, he, List.mem_append]
          by_cases q : f = e
          · subst q; simp
          · rw [if_neg (fun z => q (pK_inj z)), hkin f]
            simp [q]
      · rintro σ H' ⟨o4, o5, kt, rfl, sm, _⟩
        exact k H' (s1.trans sm)
    · refine ⟨_, rfl, _, rfl, .tup (.of (s2 _ _ ht)) ?_⟩
      refine for_enumT (xs := refs) (fun i σ H' => ∃ (o4 o5 : Option V) (kt : List (List Key × V)), σ = [some (.ref a), some (.ref t), some (.ref d), some (.ref dt), o4, o5] ∧ Same H1 H' ∧ H' dt = some (.dT kt) ∧ kt.length ≤ i ∧ ∀ f : Str × Str, (valV kt (pK f)).isSome = true ↔ f ∈ ts.take i) ?_ ?_ ?_ ?_
      · exact ⟨none, none, [], rfl, Same.new hdt, upd_same, Nat.le_refl _, fun f => by simp [valV_nil]⟩
      · rintro i σ H' hi ⟨o4, o5, kt, rfl, sm, _⟩
        exact .of (sm _ _ (s1 _ _ ht))
      · rintro i x σ H' p hx ⟨o4, o5, kt, rfl, sm, hkt, hkl, hkin⟩ hp
        obtain ⟨e, ta, he, rfl, hta⟩ := pair_get ((rp.same s1).same sm) hx
        have hil := (List.getElem?_eq_some_iff.mp he).1
        have hin' := inn e (List.mem_of_getElem? he)
        have sp := Same.new (o := .tup [V.int (i : Nat), V.ref ta]) hp
        have hdtp : dt ≠ p := ne_of_none hkt hp
        refine ⟨p, _, rfl, .of upd_same, rfl, _, _, rfl, _, _, rfl, rfl, ?_⟩
        have sm2 := sm.trans sp
        have hkt2 := sp _ _ hkt
        have hta2 := sp _ _ hta
        generalize upd H' p (.tup [V.int (i : Nat), V.ref ta]) = H3 at sm2 hkt2 hta2 ⊢
        refine ⟨_, rfl, .sc rfl ⟨_, rfl, ?_⟩⟩
        refine ite2 (fun h => absurd (of_decide_eq_true h) (fun z => by have z : (i : Int) = 400 := V.int.inj z; omega)) (fun _ => ?_)
        refine ⟨_, rfl, _, rfl, d, ta, kvs, e, rfl, sm2 _ _ hd, hta2, snm _ hin'.1, snm _ hin'.2, (hin _).mpr hin'.1, (hin _).mpr hin'.2, fun H4 s4 => ⟨_, rfl, ?_⟩⟩
        refine ite2 (fun h => absurd h (by decide)) (fun _ => ?_)
        have hkt4 := s4 _ _ hkt2
        have hta4 := s4 _ _ hta2
        refine ⟨_, rfl, _, rfl, .dic (DGet.t (k := pK e) hkt4 hta4) ⟨_, rfl, ?_⟩⟩
        refine ite2 (fun h => absurd ((hkin e).mp h) (not_take tnd he)) (fun _ => ?_)
        refine ⟨_, rfl, _, rfl, .dic (DPut.t (k := pK e) hkt4 hta4 (small1000 (by omega))) ⟨_, _, _, rfl, ?_, upd_same, ?_, fun f => ?_⟩⟩
        · intro b o hb
          rw [upd_ne (ne_of_none hb hdt)]
          exact s4 _ _ (sm2 _ _ hb)
        · have := length_putK kt (pK e) (V.bl true)
          omega
        · rw [valV_put, List.take_add_one, he, List.mem_append]
          by_cases q : f = e
          · subst q; simp
          · rw [if_neg (fun z => q (pK_inj z)), hkin f]
            simp [q]
      · rintro σ H' ⟨o4, o5, kt, rfl, sm, _⟩
        exact k H' (s1.trans sm)
end
end K03
namespace K03
open PySem L2
section
variable {P : Program} {w : World} {K : PySem.W.Frag} {mg : Str → Option Value} {base : Heap}
noncomputable def spWebOf : Sp := fun vs H Q _ => ∃ (a t : Addr) (ss : List Str) (ts : List (Str × Str)) (refs : List V), vs = [.ref a, .ref t] ∧ SqA H a (List.map V.str ss) ∧ ss.length ≤ 60 ∧ ss.Nodup ∧ (∀ s ∈ ss, Nm s) ∧ SqA H t refs ∧ RepAll H refs (ts.map pairD) ∧ ts.length ≤ 400 ∧ ts.Nodup ∧ (∀ e ∈ ts, e.1 ∈ ss ∧ e.2 ∈ ss) ∧ ∀ q H', Same H H' → Rep H' (.ref q) (webD ss ts) → Q (.ref q) H'
theorem scWebOf : FnScope ["things", "ties", "wrong"] ["things", "ties"] (defScope sWebOf) := ⟨rfl, rfl, rfl, by decide +kernel, rfl, by decide +kernel, by decide +kernel⟩
theorem ok_web_of {f : Addr} {fd : FuncData} (F : Fun K "web_of" "web_of" sWebOf f fd) (B : Blt mg) (care_things : Cal P w K mg base 4 "are_things" ["things"] spAre) (cfirst_wrong_tie : Cal P w K mg base 3 "first_wrong_tie" ["things", "ties"] spWrong) : FnOk P w K mg base CX0 5 f fd ["things", "ties"] spWebOf := by
  refine F.ok scWebOf (fun vs H Q E h => ?_) (fun cdv A outer s H vs Q E hr h => ?_)
  · obtain ⟨a, t, ss, ts, refs, rfl, _⟩ := h
    rfl
  · obtain ⟨a, t, ss, ts, refs, rfl, hA, hlen, snd, snm, hT, rp, few, tnd, inn, k⟩ := h
    have nd := scWebOf.nd
    have rlen := rp.len
    rw [List.length_map] at rlen
    have tupThings : ∀ H3 : Hp, Same H H3 → ∀ R : VK, (∀ q1 H', Same H3 H' → H' q1 = some (.tup (List.map V.str ss)) → R (.ref q1) H') → TupR K H3 (.ref a) R := fun H3 s3 R f => by
      rcases hA with ha | ha
      · exact .lst (.of (s3 _ _ ha)) fun l hl => f l _ (Same.new hl) upd_same
      · exact .tup (.of (s3 _ _ ha)) (f a H3 (Same.refl H3) (s3 _ _ ha))
    rcases hT with ht | ht
    · refine ⟨_, (pss_cons (ps_if (pt_not (pt_val (pe_cal care_things (hr.mono (by decide)) rfl (pa_cons (pv 0) pa_nil)))) (pss_one ps_never) pss_nil)
      (pss_cons (ps_if (pt_not (pt_val (b_isi2 K "list" "tuple" B (pa_cons (pv 1) (pa_cons (pe_tup (pa_cons (g_list B) (pa_cons (g_tuple B) pa_nil))) pa_nil))))) (pss_one ps_never) pss_nil)
      (pss_cons (ps_set (i := 2) nd rfl (Or.inl rfl) (pe_cal cfirst_wrong_tie (hr.mono (by decide)) rfl (pa_cons (pv 0) (pa_cons (pv 1) pa_nil))))
      (pss_cons (ps_if (pt_cmpR op_isNotX (pv 2) pe_non (nomark _)) (pss_one ps_never) pss_nil)
      (pss_one (ps_ret (pe_tup (pa_cons (b_tupX K B (pa_cons (pv 0) pa_nil)) (pa_cons (b_tuple K B (pa_cons (pe_comp (defScope sWebOf) ["things", "ties", "wrong"] ["tie"] [] ["tie"] rfl (pi_listK K (pv 1)) (fun _ _ _ _ _ => (pg_name (i := 0) (show (["tie"] : List Str).Nodup by decide) rfl (Or.inl rfl))) (fun _ _ _ _ _ => pts_nil) (fun _ _ _ _ _ => (pe_tup (pa_cons (pe_ix (ix_X K hr.units) (pv 0) pe_int (fun _ _ => rfl)) (pa_cons (pe_ix (ix_X K hr.units) (pv 0) pe_int (fun _ _ => rfl)) pa_nil))))) pa_nil)) pa_nil))))))))), ?_⟩
      refine ⟨_, rfl, a, ss, rfl, hA, hlen, snd, snm, fun H1 s1 => ⟨_, rfl, ?_⟩⟩
      refine ite2 (fun h => absurd h (by decide)) (fun _ => ?_)
      refine ⟨_, rfl, (by show 2 ≤ sizeLine; decide), fun tp htp => ?_⟩
      have s2 := s1.trans (Same.new (o := .tup [V.ty "list", V.ty "tuple"]) htp)
      have A2 : SqA (upd H1 tp (.tup [V.ty "list", V.ty "tuple"])) t refs := SqA.same (.inl ht) s2
      obtain ⟨tt, ty, _, _, _, t4, t5⟩ := ty_thg (K := K) A2.thg
      have kl := kit_lt t4 t5
      rw [A2.lt] at kl
      refine ⟨_, tp, tt, _, rfl, upd_same, ty, kl, _, rfl, ?_⟩
      refine ite2 (fun h => absurd h (by decide)) (fun _ => ?_)
      generalize upd H1 tp (.tup [V.ty "list", V.ty "tuple"]) = H2 at s2 A2 ⊢
      refine ⟨_, rfl, _, rfl, a, t, ss, ts, refs, rfl, hA.same s2, hlen, snm, A2, rp.same s2, few, tnd, inn, fun H3 s3 => ?_⟩
      refine ⟨_, rfl, .non ⟨_, rfl, ?_⟩⟩
      refine ite2 (fun h => absurd h (by decide)) (fun _ => ?_)
      have s3 := s2.trans s3
      have ht3 := s3 _ _ ht
      refine ⟨_, rfl, _, rfl, tupThings H3 s3 _ fun q1 H4 s4 hq1 => ?_⟩
      have ht4 := s4 _ _ ht3
      have rp4 := (rp.same s3).same s4
      refine ⟨_, rfl, t, rfl, ⟨_, .of ht4⟩, ?_⟩
      refine comp_list refs (fun D i acc σ' H' => ∃ o, σ' = [o] ∧ RepAll H' acc ((ts.take i).map pairD) ∧ Same H4 H' ∧ H4 D = none) fun D hD => ⟨?_, ?_, ?_, ?_⟩
      · exact ⟨none, rfl, .nil, Same.new hD, hD⟩
      · rintro i acc σ' H' _ ⟨o, rfl, _, sm, _⟩ _
        exact .of (sm _ _ ht4)
      · rintro i acc σ' H' x hx ⟨o, rfl, rpa, sm, hD0⟩ hacc
        obtain ⟨e, ta, he, rfl, hta⟩ := pair_get (rp4.same sm) hx
        have hil := (List.getElem?_eq_some_iff.mp he).1
        have alen := rpa.len
        simp only [List.length_map, List.length_take] at alen
        refine gYes ?_
        refine ⟨_, rfl, .tup (.of hta) rfl ⟨_, rfl, .tup (.of hta) rfl ⟨(by show 2 ≤ sizeLine; decide), fun q hq => ?_⟩⟩⟩
        have sq := Same.new (o := .tup [V.str e.1, V.str e.2]) hq
        have hDq : D ≠ q := ne_of_none hacc hq
        refine ⟨sq _ _ hacc, small1000 (by omega), _, rfl, ?_, ?_, hD0⟩
        · rw [List.take_add_one, he, List.map_append]
          refine RepAll.append (RepAll.pairBut (p := D) (sq _ _ hacc) But.upd (rpa.same sq)) (.cons (pair_rep ?_) .nil)
          rw [upd_ne (Ne.symm hDq)]; exact upd_same
        · intro b o hb
          rw [upd_ne (ne_of_none hb hD0)]
          exact sq _ _ (sm _ _ hb)
      · rintro acc σ' H5 ⟨o, rfl, rpa, s5, hD0⟩ hacc
        rw [rlen, List.take_of_length_le (Nat.le_refl _)] at rpa
        refine ⟨D, _, rfl, .of hacc, fun l2 h2 => ⟨(by show 2 ≤ sizeLine; decide), fun q hq => ?_⟩⟩
        have s6 := Same.new (o := .tup acc) h2
        have s7 := Same.new (o := .tup [V.ref q1, V.ref l2]) hq
        exact k q _ ((s3.trans s4).trans (s5.trans (s6.trans s7))) (.tup upd_same (.cons (.tup ((s5.trans (s6.trans s7)) _ _ hq1) (RepAll.of_strs ss)) (.cons (.tup (s7 _ _ upd_same) (rpa.same (s6.trans s7))) .nil)))
    · refine ⟨_, (pss_cons (ps_if (pt_not (pt_val (pe_cal care_things (hr.mono (by decide)) rfl (pa_cons (pv 0) pa_nil)))) (pss_one ps_never) pss_nil)
      (pss_cons (ps_if (pt_not (pt_val (b_isi2 K "list" "tuple" B (pa_cons (pv 1) (pa_cons (pe_tup (pa_cons (g_list B) (pa_cons (g_tuple B) pa_nil))) pa_nil))))) (pss_one ps_never) pss_nil)
      (pss_cons (ps_set (i := 2) nd rfl (Or.inl rfl) (pe_cal cfirst_wrong_tie (hr.mono (by decide)) rfl (pa_cons (pv 0) (pa_cons (pv 1) pa_nil))))
      (pss_cons (ps_if (pt_cmpR op_isNotX (pv 2) pe_non (nomark _)) (pss_one ps_never) pss_nil)
      (pss_one (ps_ret (pe_tup (pa_cons (b_tupX K B (pa_cons (pv 0) pa_nil)) (pa_cons (b_tuple K B (pa_cons (pe_comp (defScope sWebOf) ["things", "ties", "wrong"] ["tie"] [] ["tie"] rfl (pi_tupK K (pv 1)) (fun _ _ _ _ _ => (pg_name (i := 0) (show (["tie"] : List Str).Nodup by decide) rfl (Or.inl rfl))) (fun _ _ _ _ _ => pts_nil) (fun _ _ _ _ _ => (pe_tup (pa_cons (pe_ix (ix_X K hr.units) (pv 0) pe_int (fun _ _ => rfl)) (pa_cons (pe_ix (ix_X K hr.units) (pv 0) pe_int (fun _ _ => rfl)) pa_nil))))) pa_nil)) pa_nil))))))))), ?_⟩
      refine ⟨_, rfl, a, ss, rfl, hA, hlen, snd, snm, fun H1 s1 => ⟨_, rfl, ?_⟩⟩
      refine ite2 (fun h => absurd h (by decide)) (fun _ => ?_)
      refine ⟨_, rfl, (by show 2 ≤ sizeLine; decide), fun tp htp => ?_⟩
      have s2 := s1.trans (Same.new (o := .tup [V.ty "list", V.ty "tuple"]) htp)
      have A2 : SqA (upd H1 tp (.tup [V.ty "list", V.ty "tuple"])) t refs := SqA.same (.inr ht) s2
      obtain ⟨tt, ty, _, _, _, t4, t5⟩ := ty_thg (K := K) A2.thg
      have kl := kit_lt t4 t5
      rw [A2.lt] at kl
      refine ⟨_, tp, tt, _, rfl, upd_same, ty, kl, _, rfl, ?_⟩
      refine ite2 (fun h => absurd h (by decide)) (fun _ => ?_)
      generalize upd H1 tp (.tup [V.ty "list", V.ty "tuple"]) = H2 at s2 A2 ⊢
      refine ⟨_, rfl, _, rfl, a, t, ss, ts, refs, rfl, hA.same s2, hlen, snm, A2, rp.same s2, few, tnd, inn, fun H3 s3 => ?_⟩
      refine ⟨_, rfl, .non ⟨_, rfl, ?_⟩⟩
      refine ite2 (fun h => absurd h (by decide)) (fun _ => ?_)
      have s3 := s2.trans s3
      have ht3 := s3 _ _ ht
      refine ⟨_, rfl, _, rfl, tupThings H3 s3 _ fun q1 H4 s4 hq1 => ?_⟩
      have ht4 := s4 _ _ ht3
      have rp4 := (rp.same s3).same s4
      refine ⟨_, rfl, t, rfl, ⟨_, .of ht4⟩, ?_⟩
      refine comp_tup refs (fun D i acc σ' H' => ∃ o, σ' = [o] ∧ RepAll H' acc ((ts.take i).map pairD) ∧ Same H4 H' ∧ H4 D = none) fun D hD => ⟨?_, ?_, ?_, ?_⟩
      · exact ⟨none, rfl, .nil, Same.new hD, hD⟩
      · rintro i acc σ' H' _ ⟨o, rfl, _, sm, _⟩ _
        exact .of (sm _ _ ht4)
      · rintro i acc σ' H' x hx ⟨o, rfl, rpa, sm, hD0⟩ hacc
        obtain ⟨e, ta, he, rfl, hta⟩ := pair_get (rp4.same sm) hx
        have hil := (List.getElem?_eq_some_iff.mp he).1
        have alen := rpa.len
        simp only [List.length_map, List.length_take] at alen
        refine gYes ?_
        refine ⟨_, rfl, .tup (.of hta) rfl ⟨_, rfl, .tup (.of hta) rfl ⟨(by show 2 ≤ sizeLine; decide), fun q hq => ?_⟩⟩⟩
        have sq := Same.new (o := .tup [V.str e.1, V.str e.2]) hq
        have hDq : D ≠ q := ne_of_none hacc hq
        refine ⟨sq _ _ hacc, small1000 (by omega), _, rfl, ?_, ?_, hD0⟩
        · rw [List.take_add_one, he, List.map_append]
          refine RepAll.append (RepAll.pairBut (p := D) (sq _ _ hacc) But.upd (rpa.same sq)) (.cons (pair_rep ?_) .nil)
          rw [upd_ne (Ne.symm hDq)]; exact upd_same
        · intro b o hb
          rw [upd_ne (ne_of_none hb hD0)]
          exact sq _ _ (sm _ _ hb)
      · rintro acc σ' H5 ⟨o, rfl, rpa, s5, hD0⟩ hacc
        rw [rlen, List.take_of_length_le (Nat.le_refl _)] at rpa
        refine ⟨D, _, rfl, .of hacc, fun l2 h2 => ⟨(by show 2 ≤ sizeLine; decide), fun q hq => ?_⟩⟩
        have s6 := Same.new (o := .tup acc) h2
        have s7 := Same.new (o := .tup [V.ref q1, V.ref l2]) hq
        exact k q _ ((s3.trans s4).trans (s5.trans (s6.trans s7))) (.tup upd_same (.cons (.tup ((s5.trans (s6.trans s7)) _ _ hq1) (RepAll.of_strs ss)) (.cons (.tup (s7 _ _ upd_same) (rpa.same (s6.trans s7))) .nil)))
end
end K03
namespace K03
open PySem L2
section
variable {P : Program} {w : World} {K : PySem.W.Frag} {mg : Str → Option Value} {base : Heap}
open Classical in
noncomputable def dec (P : Prop) : Bool := decide P
open Classical in
theorem dec_t {P : Prop} (h : P) : dec P = true := by unfold dec; exact decide_eq_true h
open Classical in
theorem dec_f {P : Prop} (h : ¬ P) : dec P = false := by unfold dec; exact decide_eq_false h
open Classical in
theorem dec_iff {P : Prop} : dec P = true ↔ P := by unfold dec; exact decide_eq_true_iff
theorem isL_get {H : Hp} {x : V} (h : isL H x = true) : ∃ a us, x = .ref a ∧ H a = some (.lst us) := by
  cases x with
  | ref a =>
    have h : (match H a with | some (.lst _) => true | _ => false) = true := h
    split at h
    · rename_i xs e; exact ⟨a, xs, rfl, e⟩
    · cases h
  | _ => cases h
theorem isT_get {H : Hp} {x : V} (h : isT H x = true) : ∃ a us, x = .ref a ∧ H a = some (.tup us) := by
  cases x with
  | ref a =>
    have h : (match H a with | some (.tup _) => true | _ => false) = true := h
    split at h
    · rename_i xs e; exact ⟨a, xs, rfl, e⟩
    · cases h
  | _ => cases h
theorem isL_keep {H H' : Hp} {x : V} (h : Thg H x) (s : Same H H') : isL H' x = isL H x ∧ isT H' x = isT H x := by
  cases h with
  | non => exact ⟨rfl, rfl⟩
  | bl b => exact ⟨rfl, rfl⟩
  | int i => exact ⟨rfl, rfl⟩
  | str z => exact ⟨rfl, rfl⟩
  | lst e => exact ⟨by rw [isL_of e, isL_of (s _ _ e)], by rw [isT_not e (fun _ z => by cases z), isT_not (s _ _ e) (fun _ z => by cases z)]⟩
  | tup e => exact ⟨by rw [isL_not e (fun _ z => by cases z), isL_not (s _ _ e) (fun _ z => by cases z)], by rw [isT_of e, isT_of (s _ _ e)]⟩
  | dK e => exact ⟨by rw [isL_not e (fun _ z => by cases z), isL_not (s _ _ e) (fun _ z => by cases z)], by rw [isT_not e (fun _ z => by cases z), isT_not (s _ _ e) (fun _ z => by cases z)]⟩
  | dT e => exact ⟨by rw [isL_not e (fun _ z => by cases z), isL_not (s _ _ e) (fun _ z => by cases z)], by rw [isT_not e (fun _ z => by cases z), isT_not (s _ _ e) (fun _ z => by cases z)]⟩
theorem thg_obj {H H' : Hp} {a : Addr} (h : Thg H (.ref a)) (s : Same H H') : H' a = H a := by
  cases h with
  | lst e => rw [e, s _ _ e]
  | tup e => rw [e, s _ _ e]
  | dK e => rw [e, s _ _ e]
  | dT e => rw [e, s _ _ e]
noncomputable def Rw (G : Hp → V → Prop) (H : Hp) (x : V) : Prop := Thg H x ∧ ∀ a ys, x = .ref a → SqA H a ys → ys.length ≤ 1000 ∧ ∀ y ∈ ys, G H y
theorem mono_thg : Mono Thg := fun _ _ _ s h => h.same s
theorem Rw.same {G : Hp → V → Prop} {H H' : Hp} {x : V} (mo : Mono G) (h : Rw G H x) (s : Same H H') : Rw G H' x := ⟨h.1.same s, fun a ys e q => by
  subst e
  unfold SqA at q
  rw [thg_obj h.1 s] at q
  obtain ⟨l, k⟩ := h.2 a ys rfl q
  exact ⟨l, fun y hy => mo _ _ _ s (k y hy)⟩⟩
theorem mono_rw {G : Hp → V → Prop} (mo : Mono G) : Mono (Rw G) := fun _ _ _ s h => h.same mo s
theorem Rw.imp {G G' : Hp → V → Prop} {H : Hp} {x : V} (h : Rw G H x) (i : ∀ y, G H y → G' H y) : Rw G' H x := ⟨h.1, fun a ys e q => ⟨(h.2 a ys e q).1, fun y hy => i y ((h.2 a ys e q).2 y hy)⟩⟩
theorem nms_of : ∀ {ys : List V}, ys.all isNm = true → ∃ ss : List Str, ys = List.map V.str ss ∧ ∀ s ∈ ss, Nm s
  | [], _ => ⟨[], rfl, fun _ h => by cases h⟩
  | y :: ys, h => by
    rw [List.all_cons, Bool.and_eq_true] at h
    obtain ⟨ss, rfl, k⟩ := nms_of h.2
    cases y with
    | str z => exact ⟨z :: ss, rfl, fun s hs => (List.mem_cons.mp hs).elim (fun e => by rw [e]; exact isNm_iff.mp h.1) (k s)⟩
    | _ => cases h.1
theorem strs_inj {xs ys : List Str} (h : List.map V.str xs = List.map V.str ys) : xs = ys := by
  induction xs generalizing ys with
  | nil => cases ys with
    | nil => rfl
    | cons y r => cases h
  | cons x r ih => cases ys with
    | nil => cases h
    | cons y q =>
      obtain ⟨a, b⟩ := List.cons.inj h
      rw [V.str.inj a, ih b]
theorem sq_uniq {H : Hp} {a : Addr} {xs ys : List V} (h : SqA H a xs) (k : SqA H a ys) : xs = ys := by
  rcases h with h | h <;> rcases k with k | k <;> rw [h] at k <;> cases k <;> rfl
noncomputable def Unm (H : Hp) (x : V) (ss : List Str) : Prop := ∃ a, x = .ref a ∧ SqA H a (List.map V.str ss) ∧ ss.Nodup ∧ ∀ s ∈ ss, Nm s
theorem Unm.same {H H' : Hp} {x : V} {ss : List Str} (h : Thg H x) (s : Same H H') : Unm H' x ss ↔ Unm H x ss := by
  constructor
  · rintro ⟨a, rfl, q, r⟩
    unfold SqA at q
    rw [thg_obj h s] at q
    exact ⟨a, rfl, q, r⟩
  · rintro ⟨a, rfl, q, r⟩
    exact ⟨a, rfl, q.same s, r⟩
noncomputable def spUNmG : Sp := fun vs H Q _ => ∃ x, vs = [x] ∧ Rw Thg H x ∧ ∀ H', Same H H' → Q (.bl (dec (∃ ss, Unm H x ss))) H'
theorem ok_unmG {f : Addr} {fd : FuncData} (F : Fun K "are_unlike_names" "are_unlike_names" sUNm f fd) (B : Blt mg) (cis_name : Cal P w K mg base 1 "is_name" ["thing"] spIsName) (care_unlike : Cal P w K mg base 2 "are_unlike" ["things"] spUnlike) : FnOk P w K mg base CX0 3 f fd ["things"] spUNmG := by
  refine F.ok scUNm (fun vs H Q E h => ?_) (fun cdv A outer s H vs Q E hr h => ?_)
  · obtain ⟨x, rfl, _⟩ := h
    rfl
  · obtain ⟨x, rfl, tx, k⟩ := h
    have nd := scUNm.nd
    by_cases hl : isL H x = true ∨ isT H x = true
    · obtain ⟨a, ys, rfl, ha⟩ : ∃ a ys, x = .ref a ∧ SqA H a ys := hl.elim (fun h => let ⟨a, ys, e, q⟩ := isL_get h; ⟨a, ys, e, .inl q⟩) (fun h => let ⟨a, ys, e, q⟩ := isT_get h; ⟨a, ys, e, .inr q⟩)
      obtain ⟨yl, yth⟩ := tx.2 a ys rfl ha
      have no : ys.all isNm = false → dec (∃ ss, Unm H (.ref a) ss) = false := fun h => dec_f fun ⟨ss, b, e, q, _, nm⟩ => by
        cases e
        rw [sq_uniq ha q, List.all_eq_true.mpr fun v hv => by
          obtain ⟨z, hz, rfl⟩ := List.mem_map.mp hv
          exact isNm_iff.mpr (nm z hz)] at h
        cases h
      have yes : ∀ ss, ys = List.map V.str ss → (∀ s ∈ ss, Nm s) → dec (∃ ss, Unm H (.ref a) ss) = decide ss.Nodup := fun ss e nm => by
        subst e
        rw [Bool.eq_iff_iff, dec_iff, decide_eq_true_iff]
        constructor
        · rintro ⟨ss', b, e, q, h, _⟩
          cases e
          rw [strs_inj (sq_uniq ha q)]; exact h
        · intro h
          exact ⟨ss, a, rfl, ha, h, nm⟩
      rcases ha with ha | ha
      · refine ⟨_, (pss_cons (ps_if (pt_not (pt_val (b_isi2 K "list" "tuple" B (pa_cons (pv 0) (pa_cons (pe_tup (pa_cons (g_list B) (pa_cons (g_tuple B) pa_nil))) pa_nil))))) (pss_one (ps_ret pe_bl)) pss_nil)
      (pss_one (ps_ret (pe_and (b_all rfl B (pa_cons (pe_comp (defScope sUNm) ["things"] ["thing"] [] ["thing"] rfl (pi_listK K (pv 0)) (fun _ _ _ _ _ => (pg_name (i := 0) (show (["thing"] : List Str).Nodup by decide) rfl (Or.inl rfl))) (fun _ _ _ _ _ => pts_nil) (fun _ _ _ _ _ => (pe_cal cis_name (hr.mono (by decide)) rfl (pa_cons (pv 0) pa_nil)))) pa_nil)) (pe_one (pe_cal care_unlike (hr.mono (by decide)) rfl (pa_cons (pv 0) pa_nil))))))), ?_⟩
        refine ⟨_, rfl, (by show 2 ≤ sizeLine; decide), fun tp htp => ?_⟩
        have s0 := Same.new (o := .tup [V.ty "list", V.ty "tuple"]) htp
        have A0 : SqA (upd H tp (.tup [V.ty "list", V.ty "tuple"])) a ys := SqA.same (.inl ha) s0
        obtain ⟨t, ty, _, _, _, t4, t5⟩ := ty_thg (K := K) A0.thg
        have kl := kit_lt t4 t5
        rw [A0.lt] at kl
        refine ⟨_, tp, t, _, rfl, upd_same, ty, kl, _, rfl, ?_⟩
        refine ite2 (fun h => absurd h (by decide)) (fun _ => ?_)
        have ha0 := s0 _ _ ha
        generalize upd H tp (.tup [V.ty "list", V.ty "tuple"]) = H0 at s0 ha0 ⊢
        refine ⟨_, rfl, a, rfl, ⟨_, .of ha0⟩, ?_⟩
        refine comp_list ys (fun D i acc σ' H' => ∃ o, σ' = [o] ∧ acc = List.map V.bl ((ys.take i).map isNm) ∧ Same H0 H' ∧ H0 D = none) fun D hD => ⟨?_, ?_, ?_, ?_⟩
        · exact ⟨none, rfl, rfl, Same.new hD, hD⟩
        · rintro i acc σ' H' _ ⟨o, rfl, _, sm, _⟩ _
          exact .of (sm _ _ ha0)
        · rintro i acc σ' H' x hx ⟨o, rfl, rfl, sm, hD0⟩ hacc
          have hil := (List.getElem?_eq_some_iff.mp hx).1
          refine gYes ?_
          refine ⟨_, rfl, _, rfl, ((yth x (List.mem_of_getElem? hx)).same s0).same sm, fun H2 s2 => ?_⟩
          exact ⟨s2 _ _ hacc, by rw [List.length_map, List.length_map, List.length_take]; exact small1000 (by omega), _, rfl, by rw [List.take_add_one, hx, List.map_append, List.map_append]; rfl, same_at (sm.trans s2) hD0, hD0⟩
        · rintro acc σ' H2 ⟨o, rfl, rfl, s2, hD0⟩ hacc
          rw [List.take_of_length_le (Nat.le_refl _)] at hacc
          refine ⟨D, ys.map isNm, rfl, hacc, _, rfl, ?_⟩
          have e : (ys.map isNm).all id = ys.all isNm := by rw [List.all_map]; rfl
          rw [e]
          refine ite2 (fun h => ?_) (fun h => ?_)
          · obtain ⟨ss, es, nm⟩ := nms_of h
            rw [yes ss es nm] at k
            subst es
            rw [List.length_map] at yl
            exact ⟨_, rfl, a, ss, rfl, (SqA.same (SqA.same (.inl ha) s0) s2), yl, fun H3 s3 => k H3 ((s0.trans s2).trans s3)⟩
          · have h : ys.all isNm = false := by simpa using h
            rw [no h] at k
            exact k _ (s0.trans s2)
      · refine ⟨_, (pss_cons (ps_if (pt_not (pt_val (b_isi2 K "list" "tuple" B (pa_cons (pv 0) (pa_cons (pe_tup (pa_cons (g_list B) (pa_cons (g_tuple B) pa_nil))) pa_nil))))) (pss_one (ps_ret pe_bl)) pss_nil)
      (pss_one (ps_ret (pe_and (b_all rfl B (pa_cons (pe_comp (defScope sUNm) ["things"] ["thing"] [] ["thing"] rfl (pi_tupK K (pv 0)) (fun _ _ _ _ _ => (pg_name (i := 0) (show (["thing"] : List Str).Nodup by decide) rfl (Or.inl rfl))) (fun _ _ _ _ _ => pts_nil) (fun _ _ _ _ _ => (pe_cal cis_name (hr.mono (by decide)) rfl (pa_cons (pv 0) pa_nil)))) pa_nil)) (pe_one (pe_cal care_unlike (hr.mono (by decide)) rfl (pa_cons (pv 0) pa_nil))))))), ?_⟩
        refine ⟨_, rfl, (by show 2 ≤ sizeLine; decide), fun tp htp => ?_⟩
        have s0 := Same.new (o := .tup [V.ty "list", V.ty "tuple"]) htp
        have A0 : SqA (upd H tp (.tup [V.ty "list", V.ty "tuple"])) a ys := SqA.same (.inr ha) s0
        obtain ⟨t, ty, _, _, _, t4, t5⟩ := ty_thg (K := K) A0.thg
        have kl := kit_lt t4 t5
        rw [A0.lt] at kl
        refine ⟨_, tp, t, _, rfl, upd_same, ty, kl, _, rfl, ?_⟩
        refine ite2 (fun h => absurd h (by decide)) (fun _ => ?_)
        have ha0 := s0 _ _ ha
        generalize upd H tp (.tup [V.ty "list", V.ty "tuple"]) = H0 at s0 ha0 ⊢
        refine ⟨_, rfl, a, rfl, ⟨_, .of ha0⟩, ?_⟩
        refine comp_tup ys (fun D i acc σ' H' => ∃ o, σ' = [o] ∧ acc = List.map V.bl ((ys.take i).map isNm) ∧ Same H0 H' ∧ H0 D = none) fun D hD => ⟨?_, ?_, ?_, ?_⟩
        · exact ⟨none, rfl, rfl, Same.new hD, hD⟩
        · rintro i acc σ' H' _ ⟨o, rfl, _, sm, _⟩ _
          exact .of (sm _ _ ha0)
        · rintro i acc σ' H' x hx ⟨o, rfl, rfl, sm, hD0⟩ hacc
          have hil := (List.getElem?_eq_some_iff.mp hx).1
          refine gYes ?_
          refine ⟨_, rfl, _, rfl, ((yth x (List.mem_of_getElem? hx)).same s0).same sm, fun H2 s2 => ?_⟩
          exact ⟨s2 _ _ hacc, by rw [List.length_map, List.length_map, List.length_take]; exact small1000 (by omega), _, rfl, by rw [List.take_add_one, hx, List.map_append, List.map_append]; rfl, same_at (sm.trans s2) hD0, hD0⟩
        · rintro acc σ' H2 ⟨o, rfl, rfl, s2, hD0⟩ hacc
          rw [List.take_of_length_le (Nat.le_refl _)] at hacc
          refine ⟨D, ys.map isNm, rfl, hacc, _, rfl, ?_⟩
          have e : (ys.map isNm).all id = ys.all isNm := by rw [List.all_map]; rfl
          rw [e]
          refine ite2 (fun h => ?_) (fun h => ?_)
          · obtain ⟨ss, es, nm⟩ := nms_of h
            rw [yes ss es nm] at k
            subst es
            rw [List.length_map] at yl
            exact ⟨_, rfl, a, ss, rfl, (SqA.same (SqA.same (.inr ha) s0) s2), yl, fun H3 s3 => k H3 ((s0.trans s2).trans s3)⟩
          · have h : ys.all isNm = false := by simpa using h
            rw [no h] at k
            exact k _ (s0.trans s2)
    · refine ⟨_, (pss_cons (ps_if (pt_not (pt_val (b_isi2 K "list" "tuple" B (pa_cons (pv 0) (pa_cons (pe_tup (pa_cons (g_list B) (pa_cons (g_tuple B) pa_nil))) pa_nil))))) (pss_one (ps_ret pe_bl)) pss_nil)
      (pss_one (ps_ret (pe_and (b_all rfl B (pa_cons (pe_comp (defScope sUNm) ["things"] ["thing"] [] ["thing"] rfl (pi_listK K (pv 0)) (fun _ _ _ _ _ => (pg_name (i := 0) (show (["thing"] : List Str).Nodup by decide) rfl (Or.inl rfl))) (fun _ _ _ _ _ => pts_nil) (fun _ _ _ _ _ => (pe_cal cis_name (hr.mono (by decide)) rfl (pa_cons (pv 0) pa_nil)))) pa_nil)) (pe_one (pe_cal care_unlike (hr.mono (by decide)) rfl (pa_cons (pv 0) pa_nil))))))), ?_⟩
      have h1 : isL H x = false := by cases c : isL H x with | true => exact absurd (.inl c) hl | false => rfl
      have h2 : isT H x = false := by cases c : isT H x with | true => exact absurd (.inr c) hl | false => rfl
      refine ⟨_, rfl, (by show 2 ≤ sizeLine; decide), fun tp htp => ?_⟩
      have s0 := Same.new (o := .tup [V.ty "list", V.ty "tuple"]) htp
      obtain ⟨t, ty, _, _, _, t4, t5⟩ := ty_thg (K := K) (tx.1.same s0)
      have kl := kit_lt t4 t5
      rw [(isL_keep tx.1 s0).1, (isL_keep tx.1 s0).2, h1, h2] at kl
      refine ⟨_, tp, t, _, rfl, upd_same, ty, kl, _, rfl, iteT ?_⟩
      have e : dec (∃ ss, Unm H x ss) = false := dec_f fun ⟨ss, a, e, q, _⟩ => by
        subst e
        rcases q with q | q
        · rw [isL_of q] at h1; cases h1
        · rw [isT_of q] at h2; cases h2
      rw [e] at k
      exact k _ s0
noncomputable def GTh (H : Hp) (x : V) (ss : List Str) : Prop := Unm H x ss ∧ ss.length ≤ 60
noncomputable def spAreG : Sp := fun vs H Q _ => ∃ x, vs = [x] ∧ Rw Thg H x ∧ ∀ H', Same H H' → Q (.bl (dec (∃ ss, GTh H x ss))) H'
theorem ok_areG {f : Addr} {fd : FuncData} {tk : Tok} (F : Fun K "are_things" "are_things" sAreThings f fd) (B : Blt mg) (TT : mg "MOST_THINGS" = some (.int 60 tk)) (care_unlike_names : Cal P w K mg base 3 "are_unlike_names" ["things"] spUNmG) : FnOk P w K mg base CX0 4 f fd ["things"] spAreG := by
  refine F.ok scAre (fun vs H Q E h => ?_) (fun cdv A outer s H vs Q E hr h => ?_)
  · obtain ⟨x, rfl, _⟩ := h
    rfl
  · obtain ⟨x, rfl, tx, k⟩ := h
    have nd := scAre.nd
    refine ⟨_, (pss_one (ps_ret (pe_and (pe_cal care_unlike_names (hr.mono (by decide)) rfl (pa_cons (pv 0) pa_nil)) (pe_one (pe_cmpR op_leX (b_len K B (pa_cons (pv 0) pa_nil)) (pe_glob (v := .int 60) rfl TT ⟨_, rfl⟩) (nomark _)))))), ?_⟩
    refine ⟨_, rfl, x, rfl, tx, fun H1 s1 => ⟨_, rfl, ite2 (fun h => ?_) (fun h => ?_)⟩⟩
    · obtain ⟨ss, a, rfl, hA, snd, snm⟩ := dec_iff.mp h
      refine ⟨_, rfl, _, _, rfl, (SqA.same hA s1).len, .int ?_⟩
      have e : dec (∃ ss, GTh H (.ref a) ss) = decide (((List.map V.str ss).length : Int) ≤ 60) := by
        rw [Bool.eq_iff_iff, dec_iff, decide_eq_true_iff, List.length_map]
        constructor
        · rintro ⟨ss', ⟨b, e, q, _⟩, l⟩
          cases e
          rw [strs_inj (sq_uniq hA q)]; omega
        · intro l
          exact ⟨ss, ⟨a, rfl, hA, snd, snm⟩, by omega⟩
      have z := k H1 s1
      rw [e] at z
      exact z
    · rw [dec_f fun ⟨ss, q, _⟩ => h (dec_t ⟨ss, q⟩)] at k
      exact k H1 s1
end
end K03
namespace K03
open PySem L2
section
variable {P : Program} {w : World} {K : PySem.W.Frag} {mg : Str → Option Value} {base : Heap}
noncomputable def inP (kvs : List (Key × V)) : V → Bool
  | .str z => (valV kvs (.inr z)).isSome
  | _ => false
noncomputable def TieIn (H : Hp) (kvs : List (Key × V)) (y : V) (e : Str × Str) : Prop := ∃ ta, y = .ref ta ∧ H ta = some (.tup [.str e.1, .str e.2]) ∧ Nm e.1 ∧ Nm e.2 ∧ (valV kvs (.inr e.1)).isSome = true ∧ (valV kvs (.inr e.2)).isSome = true
noncomputable def spAmongG : Sp := fun vs H Q _ => ∃ (d : Addr) (kvs : List (Key × V)) (y : V), vs = [.ref d, y] ∧ H d = some (.dK kvs) ∧ Rw Thg H y ∧ ∀ H', Same H H' → Q (.bl (dec (∃ e, TieIn H kvs y e))) H'
theorem two_of {us : List V} (h : us.length = 2) : ∃ x y, us = [x, y] := by
  match us, h with
  | [x, y], _ => exact ⟨x, y, rfl⟩
theorem nm_str {x : V} (h : isNm x = true) : ∃ z, x = .str z ∧ Nm z := by
  cases x with
  | str z => exact ⟨z, rfl, isNm_iff.mp h⟩
  | _ => cases h
theorem ok_amongG {f : Addr} {fd : FuncData} (F : Fun K "is_tie_among" "is_tie_among" sAmong f fd) (B : Blt mg) (cis_name : Cal P w K mg base 1 "is_name" ["thing"] spIsName) : FnOk P w K mg base CX0 2 f fd ["places", "tie"] spAmongG := by
  refine F.ok scAmong (fun vs H Q E h => ?_) (fun cdv A outer s H vs Q E hr h => ?_)
  · obtain ⟨d, kvs, y, rfl, _⟩ := h
    rfl
  · obtain ⟨d, kvs, y, rfl, hd, ty_, k⟩ := h
    have nd := scAmong.nd
    have no : (¬ ∃ e, TieIn H kvs y e) → ∀ H', Same H H' → Q (.bl false) H' := fun h => by rw [dec_f h] at k; exact k
    obtain ⟨t, ty, _, _, _, _, t5⟩ := ty_thg (K := K) ty_.1
    refine ⟨_, (pss_cons (ps_if (PW.pt (pw_or (pt_not (pt_val (b_isi K "tuple" B (pa_cons (pv 1) (pa_cons (g_tuple B) pa_nil))))) (pw_or1 (pt_cmpR (op_neX hr.units) (b_len K B (pa_cons (pv 1) pa_nil)) pe_int (nomark _))))) (pss_one (ps_ret pe_bl)) pss_nil)
      (pss_one (ps_ret (b_all rfl B (pa_cons (pe_comp (defScope sAmong) ["places", "tie"] ["end"] [0] ["end", "places"] rfl (pi_tupK K (pv 1)) (fun _ _ _ _ _ => (pg_name (i := 0) (show (["end", "places"] : List Str).Nodup by decide) rfl (Or.inl rfl))) (fun _ _ _ _ _ => pts_nil) (fun _ _ _ _ _ => (pe_and (pe_cal cis_name (hr.mono (by decide)) rfl (pa_cons (pv 0) pa_nil)) (pe_one (pe_cmpR (op_inX K hr.units) (pv 0) (pv 1) (by with_unfolding_all rfl)))))) pa_nil))))), ?_⟩
    refine ⟨_, rfl, _, t, _, rfl, ty, t5, _, rfl, ite2 (fun h => ?_) (fun h => ?_)⟩
    · refine no (fun ⟨e, ta, ey, q, _⟩ => ?_) _ (Same.refl H)
      subst ey
      rw [isT_of q] at h
      cases h
    obtain ⟨ta, us, rfl, hta⟩ := isT_get (x := y) (by simpa using h)
    refine ⟨_, rfl, _, _, rfl, Or.inr ⟨_, .of hta, rfl⟩, .sc rfl ⟨_, rfl, ite2 (fun h => ?_) (fun h => ?_)⟩⟩
    · refine no (fun ⟨e, tb, ey, q, _⟩ => ?_) _ (Same.refl H)
      cases ey
      rw [hta] at q
      cases q
      cases h
    obtain ⟨x1, x2, rfl⟩ := two_of (us := us) (by
      have h : decide (V.int (us.length : Int) = V.int 2) = true := by simpa using h
      have := V.int.inj (of_decide_eq_true h)
      omega)
    have th := (ty_.2 ta _ rfl (.inr hta)).2
    have g : V → Bool := fun x => isNm x && inP kvs x
    refine ⟨_, rfl, ta, rfl, ⟨_, .of hta⟩, ?_⟩
    refine comp_tup [x1, x2] (fun D i acc σ' H' => ∃ o, σ' = [o, some (.ref d)] ∧ acc = List.map V.bl (([x1, x2].take i).map fun x => isNm x && inP kvs x) ∧ Same H H' ∧ H D = none) fun D hD => ⟨?_, ?_, ?_, ?_⟩
    · exact ⟨none, rfl, rfl, Same.new hD, hD⟩
    · rintro i acc σ' H' _ ⟨o, rfl, _, sm, _⟩ _
      exact .of (sm _ _ hta)
    · rintro i acc σ' H' x hx ⟨o, rfl, rfl, sm, hD0⟩ hacc
      have hil := (List.getElem?_eq_some_iff.mp hx).1
      have hil : i < 2 := hil
      have sz : (List.map V.bl (([x1, x2].take i).map fun x => isNm x && inP kvs x)).length < sizeLine := by rw [List.length_map, List.length_map, List.length_take]; exact small1000 (by omega)
      have nx : List.map V.bl (([x1, x2].take i).map fun x => isNm x && inP kvs x) ++ [V.bl (isNm x && inP kvs x)] = List.map V.bl (([x1, x2].take (i + 1)).map fun x => isNm x && inP kvs x) := by rw [List.take_add_one, hx, List.map_append, List.map_append]; rfl
      refine gYes ?_
      refine ⟨_, rfl, _, rfl, (th x (List.mem_of_getElem? hx)).same sm, fun H2 s2 => ⟨_, rfl, ite2 (fun h => ?_) (fun h => ?_)⟩⟩
      · obtain ⟨z, rfl, nz⟩ := nm_str h
        refine ⟨_, rfl, _, rfl, .dic (DGet.k (k := .inr z) (s2 _ _ (sm _ _ hd))) ?_⟩
        refine ⟨s2 _ _ hacc, sz, _, rfl, ?_, same_at (sm.trans s2) hD0, hD0⟩
        rw [← nx, h, Bool.true_and]; rfl
      · have h : isNm x = false := by simpa using h
        refine ⟨s2 _ _ hacc, sz, _, rfl, ?_, same_at (sm.trans s2) hD0, hD0⟩
        rw [← nx, h, Bool.false_and]
    · rintro acc σ' H2 ⟨o, rfl, rfl, s2, hD0⟩ hacc
      refine ⟨D, [isNm x1 && inP kvs x1, isNm x2 && inP kvs x2], rfl, hacc, ?_⟩
      have e : ([isNm x1 && inP kvs x1, isNm x2 && inP kvs x2] : List Bool).all id = dec (∃ e, TieIn H kvs (.ref ta) e) := by
        rw [Bool.eq_iff_iff, dec_iff]
        constructor
        · intro h
          have h : ((isNm x1 && inP kvs x1) && ((isNm x2 && inP kvs x2) && true)) = true := h
          rw [Bool.and_true, Bool.and_eq_true, Bool.and_eq_true, Bool.and_eq_true] at h
          obtain ⟨z1, rfl, n1⟩ := nm_str h.1.1
          obtain ⟨z2, rfl, n2⟩ := nm_str h.2.1
          exact ⟨(z1, z2), ta, rfl, hta, n1, n2, h.1.2, h.2.2⟩
        · rintro ⟨e, tb, ey, q, n1, n2, i1, i2⟩
          cases ey
          rw [hta] at q
          cases q
          show ((isNm (.str e.1) && inP kvs (.str e.1)) && ((isNm (.str e.2) && inP kvs (.str e.2)) && true)) = true
          rw [isNm_iff.mpr n1, isNm_iff.mpr n2, show inP kvs (.str e.1) = true from i1, show inP kvs (.str e.2) = true from i2]; rfl
      rw [e]
      exact k H2 s2
noncomputable def GTi (H : Hp) (ss : List Str) (ys : List V) (ts : List (Str × Str)) : Prop := RepAll H ys (ts.map pairD) ∧ ts.length ≤ 400 ∧ ts.Nodup ∧ ∀ e ∈ ts, e.1 ∈ ss ∧ e.2 ∈ ss
noncomputable def spWrongF : Sp := fun vs H Q _ => ∃ (a t : Addr) (ss : List Str) (ys : List V), vs = [.ref a, .ref t] ∧ SqA H a (List.map V.str ss) ∧ ss.length ≤ 60 ∧ (∀ s ∈ ss, Nm s) ∧ SqA H t ys ∧ ys.length ≤ 1000 ∧ (∀ y ∈ ys, Rw Thg H y) ∧ (¬ ∃ ts, GTi H ss ys ts) ∧ ∀ (i : Nat) H', i ≤ 400 → Same H H' → Q (.int (i : Int)) H'
theorem ok_wrongF {f : Addr} {fd : FuncData} {tk : Tok} (F : Fun K "first_wrong_tie" "first_wrong_tie" sWrong f fd) (B : Blt mg) (TT : mg "MOST_TIES" = some (.int 400 tk)) (cplaces_of : Cal P w K mg base 1 "places_of" ["things"] spPlacesX) (cis_tie_among : Cal P w K mg base 2 "is_tie_among" ["places", "tie"] spAmongG) : FnOk P w K mg base CX0 3 f fd ["things", "ties"] spWrongF := by
  refine F.ok scWrong (fun vs H Q E h => ?_) (fun cdv A outer s H vs Q E hr h => ?_)
  · obtain ⟨a, t, ss, ys, rfl, _⟩ := h
    rfl
  · obtain ⟨a, t, ss, ys, rfl, hA, hlen, snm, hT, ylen, yth, bad, k⟩ := h
    have nd := scWrong.nd
    refine ⟨_, (pss_cons (ps_set (i := 2) nd rfl (Or.inl rfl) (pe_cal cplaces_of (hr.mono (by decide)) rfl (pa_cons (pv 0) pa_nil)))
      (pss_cons (ps_set (i := 3) nd rfl (Or.inl rfl) pe_dnewT)
      (pss_cons (ps_for PassesOwn.never rfl (pi_enumX K rfl B.enumerate (pa_cons (pv 1) pa_nil)) (pg_tupK (n := 2) K rfl (pgs_cons (pg_name (i := 4) nd rfl (Or.inl rfl)) (pgs_cons (pg_name (i := 5) nd rfl (Or.inl rfl)) pgs_nil))) (pss_cons (ps_if (PW.pt (pw_or (pt_cmpR (op_eqX hr.units) (pv 4) (pe_glob (v := .int 400) rfl TT ⟨_, rfl⟩) (nomark _)) (pw_or (pt_not (pt_val (pe_cal cis_tie_among (hr.mono (by decide)) rfl (pa_cons (pv 2) (pa_cons (pv 5) pa_nil))))) (pw_or1 (pt_cmpR (op_inX K hr.units) (pv 5) (pv 3) (by with_unfolding_all rfl)))))) (pss_one (ps_ret (pv 4))) pss_nil)
      (pss_one (ps_asg pe_bl (pg_sub (pv 3) (pv 5) (set_X hr.units))))))
      (pss_one (ps_ret pe_non))))), ?_⟩
    refine ⟨_, rfl, _, rfl, .nm hA (by omega) fun d kvs H1 s1 hd0 hd hin hat _ _ => ?_⟩
    intro dt hdt
    have s2 := s1.trans (Same.new (o := .dT []) hdt)
    rcases hT with ht | ht
    · refine ⟨_, rfl, _, rfl, .lst (.of (s2 _ _ ht)) ?_⟩
      refine for_enum (xs := ys) (fun i σ H' => ∃ (o4 o5 : Option V) (kt : List (List Key × V)) (ts : List (Str × Str)), σ = [some (.ref a), some (.ref t), some (.ref d), some (.ref dt), o4, o5] ∧ Same H1 H' ∧ H' dt = some (.dT kt) ∧ kt.length ≤ i ∧ i ≤ 400 ∧ ts.length = i ∧ RepAll H (ys.take i) (ts.map pairD) ∧ ts.Nodup ∧ (∀ e ∈ ts, e.1 ∈ ss ∧ e.2 ∈ ss) ∧ ∀ f : Str × Str, (valV kt (pK f)).isSome = true ↔ f ∈ ts) ?_ ?_ ?_ ?_
      · exact ⟨none, none, [], [], rfl, Same.new hdt, upd_same, Nat.le_refl _, Nat.zero_le _, rfl, .nil, List.nodup_nil, (fun e he => by cases he), fun f => by simp [valV_nil]⟩
      · rintro i σ H' hi ⟨o4, o5, kt, ts, rfl, sm, _⟩
        exact .of (sm _ _ (s1 _ _ ht))
      · rintro i y σ H' p hy ⟨o4, o5, kt, ts, rfl, sm, hkt, hkl, hi4, htl, rpt, tnd, inn, hkin⟩ hp
        have hil := (List.getElem?_eq_some_iff.mp hy).1
        have sp := Same.new (o := .tup [V.int (i : Nat), y]) hp
        refine ⟨p, _, rfl, .of upd_same, rfl, _, _, rfl, _, _, rfl, rfl, ?_⟩
        have sm2 := sm.trans sp
        have hkt2 := sp _ _ hkt
        have thy := yth y (List.mem_of_getElem? hy)
        have s12 := s1.trans sm2
        generalize upd H' p (.tup [V.int (i : Nat), y]) = H3 at sm2 hkt2 s12 ⊢
        refine ⟨_, rfl, .sc rfl ⟨_, rfl, ?_⟩⟩
        refine ite2 (fun h => by show (if true = true then _ else _); rw [if_pos rfl]; exact ⟨_, rfl, k i _ hi4 s12⟩) (fun h4 => ?_)
        have h4 : ¬ i = 400 := fun z => h4 (decide_eq_true (by rw [z]; rfl))
        refine ⟨_, rfl, _, rfl, d, kvs, y, rfl, sm2 _ _ hd, thy.same mono_thg s12, fun H4 s4 => ⟨_, rfl, ?_⟩⟩
        refine ite2 (fun h => by show (if true = true then _ else _); rw [if_pos rfl]; exact ⟨_, rfl, k i _ hi4 (s12.trans s4)⟩) (fun h5 => ?_)
        obtain ⟨e, ta, rfl, hta2, n1, n2, i1, i2⟩ := (dec_iff (P := ∃ e, TieIn H3 kvs y e)).mp (by simpa using h5)
        have hta : H ta = some (.tup [.str e.1, .str e.2]) := by rw [← thg_obj thy.1 s12]; exact hta2
        have hkt4 := s4 _ _ hkt2
        have hta4 := s4 _ _ hta2
        refine ⟨_, rfl, _, rfl, .dic (DGet.t (k := pK e) hkt4 hta4) ⟨_, rfl, ?_⟩⟩
        refine ite2 (fun h => ⟨_, rfl, k i _ hi4 (s12.trans s4)⟩) (fun h6 => ?_)
        have h6 : e ∉ ts := fun z => h6 ((hkin e).mpr z)
        refine ⟨_, rfl, _, rfl, .dic (DPut.t (k := pK e) hkt4 hta4 (small1000 (by omega))) ⟨_, _, _, ts ++ [e], rfl, ?_, upd_same, ?_, by omega, by rw [List.length_append, htl]; rfl, ?_, ?_, ?_, fun f => ?_⟩⟩
        · intro b o hb
          rw [upd_ne (ne_of_none hb hdt)]
          exact s4 _ _ (sm2 _ _ hb)
        · have := length_putK kt (pK e) (V.bl true)
          omega
        · rw [List.take_add_one, hy, List.map_append]
          exact RepAll.append rpt (.cons (pair_rep hta) .nil)
        · rw [List.nodup_append]
          exact ⟨tnd, by simp, fun x hx y hy => by rw [List.mem_singleton.mp hy]; exact fun z => h6 (z ▸ hx)⟩
        · intro f hf
          rcases List.mem_append.mp hf with q | q
          · exact inn f q
          · rw [List.mem_singleton.mp q]; exact ⟨(hin _).mp i1, (hin _).mp i2⟩
        · rw [valV_put, List.mem_append]
          by_cases q : f = e
          · subst q; simp
          · rw [if_neg (fun z => q (pK_inj z)), hkin f]
            simp [q]
      · rintro σ H' ⟨o4, o5, kt, ts, rfl, sm, _, _, hi4, htl, rpt, tnd, inn, _⟩
        rw [List.take_of_length_le (Nat.le_refl _)] at rpt
        exact absurd ⟨ts, rpt, by omega, tnd, inn⟩ bad
    · refine ⟨_, rfl, _, rfl, .tup (.of (s2 _ _ ht)) ?_⟩
      refine for_enumT (xs := ys) (fun i σ H' => ∃ (o4 o5 : Option V) (kt : List (List Key × V)) (ts : List (Str × Str)), σ = [some (.ref a), some (.ref t), some (.ref d), some (.ref dt), o4, o5] ∧ Same H1 H' ∧ H' dt = some (.dT kt) ∧ kt.length ≤ i ∧ i ≤ 400 ∧ ts.length = i ∧ RepAll H (ys.take i) (ts.map pairD) ∧ ts.Nodup ∧ (∀ e ∈ ts, e.1 ∈ ss ∧ e.2 ∈ ss) ∧ ∀ f : Str × Str, (valV kt (pK f)).isSome = true ↔ f ∈ ts) ?_ ?_ ?_ ?_
      · exact ⟨none, none, [], [], rfl, Same.new hdt, upd_same, Nat.le_refl _, Nat.zero_le _, rfl, .nil, List.nodup_nil, (fun e he => by cases he), fun f => by simp [valV_nil]⟩
      · rintro i σ H' hi ⟨o4, o5, kt, ts, rfl, sm, _⟩
        exact .of (sm _ _ (s1 _ _ ht))
      · rintro i y σ H' p hy ⟨o4, o5, kt, ts, rfl, sm, hkt, hkl, hi4, htl, rpt, tnd, inn, hkin⟩ hp
        have hil := (List.getElem?_eq_some_iff.mp hy).1
        have sp := Same.new (o := .tup [V.int (i : Nat), y]) hp
        refine ⟨p, _, rfl, .of upd_same, rfl, _, _, rfl, _, _, rfl, rfl, ?_⟩
        have sm2 := sm.trans sp
        have hkt2 := sp _ _ hkt
        have thy := yth y (List.mem_of_getElem? hy)
        have s12 := s1.trans sm2
        generalize upd H' p (.tup [V.int (i : Nat), y]) = H3 at sm2 hkt2 s12 ⊢
        refine ⟨_, rfl, .sc rfl ⟨_, rfl, ?_⟩⟩
        refine ite2 (fun h => by show (if true = true then _ else _); rw [if_pos rfl]; exact ⟨_, rfl, k i _ hi4 s12⟩) (fun h4 => ?_)
        have h4 : ¬ i = 400 := fun z => h4 (decide_eq_true (by rw [z]; rfl))
        refine ⟨_, rfl, _, rfl, d, kvs, y, rfl, sm2 _ _ hd, thy.same mono_thg s12, fun H4 s4 => ⟨_, rfl, ?_⟩⟩
        refine ite2 (fun h => by show (if true = true then _ else _); rw [if_pos rfl]; exact ⟨_, rfl, k i _ hi4 (s12.trans s4)⟩) (fun h5 => ?_)
        obtain ⟨e, ta, rfl, hta2, n1, n2, i1, i2⟩ := (dec_iff (P := ∃ e, TieIn H3 kvs y e)).mp (by simpa using h5)
        have hta : H ta = some (.tup [.str e.1, .str e.2]) := by rw [← thg_obj thy.1 s12]; exact hta2
        have hkt4 := s4 _ _ hkt2
        have hta4 := s4 _ _ hta2
        refine ⟨_, rfl, _, rfl, .dic (DGet.t (k := pK e) hkt4 hta4) ⟨_, rfl, ?_⟩⟩
        refine ite2 (fun h => ⟨_, rfl, k i _ hi4 (s12.trans s4)⟩) (fun h6 => ?_)
        have h6 : e ∉ ts := fun z => h6 ((hkin e).mpr z)
        refine ⟨_, rfl, _, rfl, .dic (DPut.t (k := pK e) hkt4 hta4 (small1000 (by omega))) ⟨_, _, _, ts ++ [e], rfl, ?_, upd_same, ?_, by omega, by rw [List.length_append, htl]; rfl, ?_, ?_, ?_, fun f => ?_⟩⟩
        · intro b o hb
          rw [upd_ne (ne_of_none hb hdt)]
          exact s4 _ _ (sm2 _ _ hb)
        · have := length_putK kt (pK e) (V.bl true)
          omega
        · rw [List.take_add_one, hy, List.map_append]
          exact RepAll.append rpt (.cons (pair_rep hta) .nil)
        · rw [List.nodup_append]
          exact ⟨tnd, by simp, fun x hx y hy => by rw [List.mem_singleton.mp hy]; exact fun z => h6 (z ▸ hx)⟩
        · intro f hf
          rcases List.mem_append.mp hf with q | q
          · exact inn f q
          · rw [List.mem_singleton.mp q]; exact ⟨(hin _).mp i1, (hin _).mp i2⟩
        · rw [valV_put, List.mem_append]
          by_cases q : f = e
          · subst q; simp
          · rw [if_neg (fun z => q (pK_inj z)), hkin f]
            simp [q]
      · rintro σ H' ⟨o4, o5, kt, ts, rfl, sm, _, _, hi4, htl, rpt, tnd, inn, _⟩
        rw [List.take_of_length_le (Nat.le_refl _)] at rpt
        exact absurd ⟨ts, rpt, by omega, tnd, inn⟩ bad
end
end K03
namespace K03
open PySem L2
section
variable {P : Program} {w : World} {K : PySem.W.Frag} {mg : Str → Option Value} {base : Heap}
noncomputable abbrev excL : List Str := ["OrderError", "NoWeb", "NoText", "Ring", "NoOrder", "NoWeights", "NoHouse", "NoDeed", "NoUnit", "Twice", "Within", "NoTie", "Full", "Apart", "NoWant", "TooMany", "NoUndo", "NoRedo", "Clash", "NoRow"]
noncomputable abbrev excC : List Str := ["OrderError", "NoWeb"]
noncomputable def GW (H : Hp) (x y : V) : Prop := ∃ ss t ys ts, GTh H x ss ∧ y = .ref t ∧ SqA H t ys ∧ GTi H ss ys ts
noncomputable def spWebX (ec : Str → Addr) : Sp := fun vs H _ E => ∃ x y, vs = [x, y] ∧ Rw Thg H x ∧ Rw (Rw Thg) H y ∧ ¬ GW H x y ∧ ∀ H', Same H H' → E (.ref (ec "NoWeb")) none H'
theorem rp_back {H H' : Hp} (s : Same H H') : ∀ {ys : List V} {ts : List (Str × Str)}, (∀ y ∈ ys, Thg H y) → RepAll H' ys (ts.map pairD) → RepAll H ys (ts.map pairD)
  | [], [], _, _ => .nil
  | [], _ :: _, _, h => by cases h
  | _ :: _, [], _, h => by cases h
  | y :: ys, e :: ts, th, h => by
    cases h with
    | cons a b =>
      obtain ⟨ta, ey, hta⟩ := pair_at a
      subst ey
      rw [thg_obj (th _ (by simp)) s] at hta
      exact .cons (pair_rep hta) (rp_back s (fun z hz => th z (List.mem_cons_of_mem _ hz)) b)
theorem fs_len {i : Nat} (h : i ≤ 400) : (toString (i : Int) : Str).length ≤ 3 ∧ ((i : Int)).natAbs.log2 < 1920 := by
  have key : ∀ i : Fin 401, (toString ((i : Nat) : Int) : Str).length ≤ 3 ∧ (((i : Nat) : Int)).natAbs.log2 < 1920 := by decide +kernel
  exact key ⟨i, by omega⟩
theorem ok_webX {f : Addr} {fd : FuncData} {ec : Str → Addr} (F : Fun K "web_of" "web_of" sWebOf f fd) (B : Blt mg) (Er : Errs K mg base ec excL excC) (care_things : Cal P w K mg base 4 "are_things" ["things"] spAreG) (cfirst_wrong_tie : Cal P w K mg base 3 "first_wrong_tie" ["things", "ties"] spWrongF) : FnOk P w K mg base (CX1 P w) 5 f fd ["things", "ties"] (spWebX ec) := by
  refine F.okX scWebOf (fun vs H Q E h => ?_) (fun cdv A outer s H vs Q E hr h => ?_)
  · obtain ⟨x, y, rfl, _⟩ := h
    rfl
  · obtain ⟨x, y, rfl, tx, ty_, bad, k⟩ := h
    have nd := scWebOf.nd
    refine ⟨_, (pss_cons (ps_if (pt_not (pt_val (pe_cal care_things (hr.mono (by decide)) rfl (pa_cons (pv 0) pa_nil)))) (pss_one (ps_raiseV Er (by decide) (by decide) rfl (pa_cons pe_str pa_nil))) pss_nil)
      (pss_cons (ps_if (pt_not (pt_val (b_isi2 K "list" "tuple" B (pa_cons (pv 1) (pa_cons (pe_tup (pa_cons (g_list B) (pa_cons (g_tuple B) pa_nil))) pa_nil))))) (pss_one (ps_raiseV Er (by decide) (by decide) rfl (pa_cons pe_str pa_nil))) pss_nil)
      (pss_cons (ps_set (i := 2) nd rfl (Or.inl rfl) (pe_cal cfirst_wrong_tie (hr.mono (by decide)) rfl (pa_cons (pv 0) (pa_cons (pv 1) pa_nil))))
      (pss_cons (ps_if (pt_cmpR op_isNotX (pv 2) pe_non (nomark _)) (pss_one (ps_raiseV Er (by decide) (by decide) rfl (pa_cons (pe_fsI (pv 2)) pa_nil))) pss_nil)
      pss_never)))), ?_⟩
    refine ⟨_, rfl, x, rfl, tx, fun H1 s1 => ⟨_, rfl, ite2 (fun h => ?_) (fun h => ?_)⟩⟩
    · exact ⟨by show 1 ≤ sizeLine; decide, k _ s1⟩
    obtain ⟨ss, ⟨a, rfl, hA, snd, snm⟩, hlen⟩ := (dec_iff (P := ∃ ss, GTh H x ss)).mp (by simpa using h)
    refine ⟨_, rfl, (by show 2 ≤ sizeLine; decide), fun tp htp => ?_⟩
    have s2 := s1.trans (Same.new (o := .tup [V.ty "list", V.ty "tuple"]) htp)
    obtain ⟨tt, ty, _, _, _, t4, t5⟩ := ty_thg (K := K) (ty_.1.same s2)
    have kl := kit_lt t4 t5
    rw [(isL_keep ty_.1 s2).1, (isL_keep ty_.1 s2).2] at kl
    refine ⟨_, tp, tt, _, rfl, upd_same, ty, kl, _, rfl, ite2 (fun h => ?_) (fun h => ?_)⟩
    · exact ⟨by show 1 ≤ sizeLine; decide, k _ s2⟩
    obtain ⟨t, ys, rfl, hT⟩ : ∃ t ys, y = .ref t ∧ SqA H t ys := by
      have h : (isL H y || isT H y) = true := by
        cases c : (isL H y || isT H y) with
        | true => rfl
        | false => rw [c] at h; exact absurd rfl h
      rw [Bool.or_eq_true] at h
      exact h.elim (fun h => let ⟨a, ys, e, q⟩ := isL_get h; ⟨a, ys, e, .inl q⟩) (fun h => let ⟨a, ys, e, q⟩ := isT_get h; ⟨a, ys, e, .inr q⟩)
    generalize upd H1 tp (.tup [V.ty "list", V.ty "tuple"]) = H2 at s2 ⊢
    obtain ⟨yl, yth⟩ := ty_.2 t ys rfl hT
    refine ⟨_, rfl, _, rfl, a, t, ss, ys, rfl, hA.same s2, hlen, snm, hT.same s2, yl, fun y hy => (yth y hy).same mono_thg s2, ?_, fun i H3 hi s3 => ?_⟩
    · rintro ⟨ts, rp, few, tnd, inn⟩
      refine bad ⟨ss, t, ys, ts, ⟨⟨a, rfl, hA, snd, snm⟩, hlen⟩, rfl, hT, ?_, few, tnd, inn⟩
      exact rp_back s2 (fun y hy => (yth y hy).1) rp
    · refine ⟨_, rfl, .non ⟨_, rfl, ite2 (fun _ => ?_) (fun h => absurd rfl h)⟩⟩
      have g := fs_len hi
      have o1 : ("the tie at " : Str).length = 11 := by decide +kernel
      have o2 : (" is no tie of two things, is there twice, or is one too many" : Str).length = 60 := by decide +kernel
      have o3 : 100 ≤ sizeLine := by decide
      refine ⟨_, rfl, i, rfl, g.2, by decide +kernel, ?_, ?_, fun z => ⟨by show 1 ≤ sizeLine; decide, k _ (s2.trans s3)⟩⟩
      · rw [len_app, o1]; omega
      · rw [len_app, len_app, o1, o2]; omega
end
end K03
namespace K03
open PySem L2
section
variable {P : Program} {w : World} {K : PySem.W.Frag} {mg : Str → Option Value} {base : Heap}
open Classical in
noncomputable def Mq (N : Addr → Prop) (H : Hp) : Hp := fun a => if N a then H a else none
theorem Mq.at {N : Addr → Prop} {b : Addr} {H : Hp} {o : HO} (h : H b = some o) (n : N b) : Mq N H b = some o := by unfold Mq; rw [if_pos n]; exact h
theorem Mq.of {N : Addr → Prop} {H : Hp} : Same (Mq N H) H := fun b o h => by
  unfold Mq at h
  split at h
  · exact h
  · cases h
theorem Mq.but {N : Addr → Prop} {H H' : Hp} (b : ButN N H H') : Same (Mq N H) (Mq N H') := fun c o h => by
  unfold Mq at h
  split at h
  · rename_i n; exact Mq.at (b c o n h) n
  · cases h
theorem Mq.same {N : Addr → Prop} {H H' : Hp} (s : Same H H') : Same (Mq N H) (Mq N H') := Mq.but (ButN.of_same s)
theorem Mq.ban {N : Addr → Prop} {H : Hp} {l : Addr} (h : H l = none) : Same (Mq N H) (Mq (fun c => N c ∧ c ≠ l) H) := fun c o e => by
  unfold Mq at e
  split at e
  · rename_i n; exact Mq.at e ⟨n, fun z => by rw [z, h] at e; cases e⟩
  · cases e
noncomputable def Sh (n k : Nat) (H : Hp) (x : V) : Prop := ∃ d, RpD H x d ∧ Sv d n k
theorem Sh.same {n k : Nat} {H H' : Hp} {x : V} (h : Sh n k H x) (s : Same H H') : Sh n k H' x := let ⟨d, a, b⟩ := h; ⟨d, a.same s, b⟩
theorem Sh.mono {n k n' k' : Nat} {H : Hp} {x : V} (h : Sh n k H x) (hn : n ≤ n' := by decide) (hk : k ≤ k' := by decide) : Sh n' k' H x := let ⟨d, a, b⟩ := h; ⟨d, a, b.mono hn hk⟩
theorem shs {n k : Nat} {H : Hp} : ∀ {xs : List V}, (∀ v ∈ xs, Sh n k H v) → ∃ ds, RpDs H xs ds ∧ ds.length = xs.length ∧ ∀ d ∈ ds, Sv d n k
  | [], _ => ⟨[], .nil, rfl, fun _ h => by cases h⟩
  | x :: xs, h => by
    obtain ⟨ds, r, l, sv⟩ := shs fun y hy => h y (List.mem_cons_of_mem _ hy)
    obtain ⟨d, rd, sd⟩ := h x (by simp)
    refine ⟨d :: ds, .cons rd r, by rw [List.length_cons, l]; rfl, fun e he => ?_⟩
    rcases List.mem_cons.mp he with rfl | he
    · exact sd
    · exact sv e he
theorem Sh.lst {n k m : Nat} {H : Hp} {a : Addr} {xs : List V} (h : H a = some (.lst xs)) (hm : xs.length ≤ m) (hx : ∀ v ∈ xs, Sh n k H v) : Sh (2 + m * (n + 2)) (k + 1) H (.ref a) := by
  obtain ⟨ds, r, l, sv⟩ := shs hx
  exact ⟨_, .lst h r, Sv.list sv (by omega)⟩
theorem Sh.tup {n k m : Nat} {H : Hp} {a : Addr} {xs : List V} (h : H a = some (.tup xs)) (hm : xs.length ≤ m) (hx : ∀ v ∈ xs, Sh n k H v) : Sh (3 + m * (n + 2)) (k + 1) H (.ref a) := by
  obtain ⟨ds, r, l, sv⟩ := shs hx
  exact ⟨_, .tup h r, Sv.tuple sv (by omega)⟩
noncomputable abbrev NP (p : Addr) : Addr → Prop := fun c => c ≠ p
noncomputable abbrev NQ (p l : Addr) : Addr → Prop := fun c => c ≠ p ∧ c ≠ l
theorem hdPen {H : Hp} {p a : Addr} (v : PenV H p a) : Hd (NP p) H := fun l e => Ne.symm (v.ne e)
theorem penKeep {H H' : Hp} {p a : Addr} (s : Same H H') (v : PenV H p a) : PenV H' p a := by
  obtain ⟨i, n, hp, r⟩ := v
  exact ⟨i, n, s _ _ hp, r⟩
noncomputable def Gi (N : Addr → Prop) (H : Hp) (x : V) : Prop := Rw Thg (Mq N H) x ∧ Sh 400 3 (Mq N H) x
noncomputable def NoR (H : Hp) (x : V) : Prop := ∀ a ys, x = .ref a → ¬ SqA H a ys
noncomputable def Gy (N : Addr → Prop) (H : Hp) (x : V) : Prop := (Gi N H x ∧ NoR (Mq N H) x) ∨ ∃ a ys, x = .ref a ∧ SqA (Mq N H) a ys ∧ ys.length ≤ 420 ∧ ∀ y ∈ ys, Gi N H y
theorem mono_rt : Mono (Rw Thg) := mono_rw mono_thg
section
variable {N N' : Addr → Prop} {H H' : Hp} {x : V}
theorem Gi.but (h : Gi N H x) (b : ButN N H H') : Gi N H' x := ⟨h.1.same mono_thg (Mq.but b), h.2.same (Mq.but b)⟩
theorem Gi.ban {l : Addr} (h : Gi N H x) (e : H l = none) : Gi (fun c => N c ∧ c ≠ l) H x := ⟨h.1.same mono_thg (Mq.ban e), h.2.same (Mq.ban e)⟩
theorem rw_no {G : Hp → V → Prop} (h : Thg H x) (n : NoR H x) : Rw G H x := ⟨h, fun a ys e q => absurd q (n a ys e)⟩
noncomputable def flt : V → Bool
  | .ref _ => false
  | _ => true
theorem nor_f (f : flt x = true) : NoR H x := fun a ys e _ => by rw [e] at f; cases f
theorem nor_dK {a : Addr} {kvs : List (Key × V)} (h : H a = some (.dK kvs)) : NoR H (.ref a) := fun b ys e q => by
  cases e
  rcases q with q | q <;> rw [h] at q <;> cases q
theorem nor_same (h : Thg H x) (s : Same H H') (n : NoR H x) : NoR H' x := fun a ys e q => by
  subst e
  unfold SqA at q
  rw [thg_obj h s] at q
  exact n a ys rfl q
theorem rw_sq {G : Hp → V → Prop} {a : Addr} {ys : List V} (h : SqA H a ys) (l : ys.length ≤ 1000) (k : ∀ y ∈ ys, G H y) : Rw G H (.ref a) := ⟨h.thg, fun b zs e q => by
  cases e
  rw [← sq_uniq h q]
  exact ⟨l, k⟩⟩
theorem Gy.but (h : Gy N H x) (b : ButN N H H') : Gy N H' x := by
  rcases h with ⟨g, n⟩ | ⟨a, ys, e, q, l, g⟩
  · exact .inl ⟨g.but b, nor_same g.1.1 (Mq.but b) n⟩
  · exact .inr ⟨a, ys, e, q.same (Mq.but b), l, fun y hy => (g y hy).but b⟩
theorem Gy.ban {l : Addr} (h : Gy N H x) (e : H l = none) : Gy (fun c => N c ∧ c ≠ l) H x := by
  rcases h with ⟨g, n⟩ | ⟨a, ys, z, q, m, g⟩
  · exact .inl ⟨g.ban e, nor_same g.1.1 (Mq.ban e) n⟩
  · exact .inr ⟨a, ys, z, q.same (Mq.ban e), m, fun y hy => (g y hy).ban e⟩
theorem gi_f {d : PyData} (t : ∀ H, Thg H x) (f : flt x = true) (r : ∀ H, Rep H x d) (nd : d.hasDict = false) (sv : Sv d 400 3) : Gi N H x := ⟨rw_no (t _) (nor_f f), d, .tr (r _) nd, sv⟩
theorem gi_non : Gi N H .non := gi_f (fun _ => .non) rfl (fun _ => .non) rfl ⟨rfl, by decide, by decide +kernel⟩
theorem gi_bl (b : Bool) : Gi N H (.bl b) := gi_f (fun _ => .bl b) rfl (fun _ => .bl b) rfl (by cases b <;> exact ⟨rfl, by decide, by decide +kernel⟩)
theorem gi_int {i : Int} (h : i.natAbs < 10 ^ 40) : Gi N H (.int i) := gi_f (fun _ => .int i) rfl (fun _ => .int i) rfl ((sw_int h).sv.mono (by decide) (by decide))
theorem gi_asc {z : Str} (h : ∀ c ∈ z.cps.toList, c < 128) (hn : z.length ≤ 20) : Gi N H (.str z) := gi_f (fun _ => .str (Nat.le_trans hn (by decide))) rfl (fun _ => .str z) rfl ⟨rfl, Nat.zero_le _, Nat.le_trans (repr_asc h hn) (by decide)⟩
theorem nm_asc {z : Str} (h : Nm z) : ∀ c ∈ z.cps.toList, c < 128 := fun c hc => by
  have := h.2.2 c hc
  omega
theorem gi_nm {z : Str} (h : Nm z) : Gi N H (.str z) := gi_asc (nm_asc h) (by have := h.2.1; omega)
theorem gy_sq {a : Addr} {ys : List V} (h : SqA (Mq N H) a ys) (l : ys.length ≤ 420) (k : ∀ y ∈ ys, Gi N H y) : Gy N H (.ref a) := .inr ⟨a, ys, rfl, h, l, k⟩
theorem gy_no (h : Gi N H x) (n : NoR (Mq N H) x) : Gy N H x := .inl ⟨h, n⟩
theorem Gy.rw (h : Gy N H x) : Rw (Rw Thg) (Mq N H) x := by
  rcases h with ⟨g, n⟩ | ⟨a, ys, rfl, q, l, g⟩
  · exact rw_no g.1.1 n
  · exact rw_sq q (by omega) fun y hy => (g y hy).1
theorem Gy.sh (h : Gy N H x) : Sh 400000 4 (Mq N H) x := by
  rcases h with ⟨g, n⟩ | ⟨a, ys, rfl, q, l, g⟩
  · exact g.2.mono
  · rcases q with q | q
    · exact (Sh.lst (m := 420) q l fun y hy => (g y hy).2).mono
    · exact (Sh.tup (m := 420) q l fun y hy => (g y hy).2).mono
noncomputable def Gs (N : Addr → Prop) (H : Hp) (x : V) : Prop := Thg (Mq N H) x ∧ Sh 120 2 (Mq N H) x
theorem Gs.but (h : Gs N H x) (b : ButN N H H') : Gs N H' x := ⟨h.1.same (Mq.but b), h.2.same (Mq.but b)⟩
theorem mono_gs : Mono (Gs N) := fun _ _ _ s h => h.but (ButN.of_same s)
theorem gs_nm {z : Str} (h : Nm z) : Gs N H (.str z) := ⟨.str (Nat.le_trans h.2.1 (by decide)), _, .tr (.str z) rfl, (Sw.nm h).sv.mono (by decide) (by decide)⟩
theorem gs_non : Gs N H .non := ⟨.non, _, .tr .non rfl, ⟨rfl, by decide, by decide +kernel⟩⟩
theorem gs_int {i : Int} (h : i.natAbs < 10 ^ 40) : Gs N H (.int i) := ⟨.int i, _, .tr (.int i) rfl, (sw_int h).sv.mono (by decide) (by decide)⟩
theorem gs_e : Gs N H (.str "") := ⟨.str (by decide), _, .tr (.str "") rfl, ⟨rfl, by decide, by decide +kernel⟩⟩
theorem gs_lst {a : Addr} {z : Str} (h : H a = some (.lst [.str z])) (n : N a) (hz : Nm z) : Gs N H (.ref a) := ⟨.lst (Mq.at h n), (Sh.lst (n := 82) (k := 0) (m := 1) (Mq.at h n) (Nat.le_refl _) fun v hv => by rw [List.mem_singleton.mp hv]; exact ⟨_, .tr (.str z) rfl, (Sw.nm hz).sv⟩).mono⟩
theorem gs_tup {a : Addr} {z : Str} (h : H a = some (.tup [.str z])) (n : N a) (hz : Nm z) : Gs N H (.ref a) := ⟨.tup (Mq.at h n), (Sh.tup (n := 82) (k := 0) (m := 1) (Mq.at h n) (Nat.le_refl _) fun v hv => by rw [List.mem_singleton.mp hv]; exact ⟨_, .tr (.str z) rfl, (Sw.nm hz).sv⟩).mono⟩
theorem gi_sq {a : Addr} {ys : List V} (h : SqA (Mq N H) a ys) (l : ys.length ≤ 3) (k : ∀ y ∈ ys, Gs N H y) : Gi N H (.ref a) := by
  refine ⟨rw_sq h (by omega) fun y hy => (k y hy).1, ?_⟩
  rcases h with h | h
  · exact (Sh.lst (m := 3) h l fun y hy => (k y hy).2).mono
  · exact (Sh.tup (m := 3) h l fun y hy => (k y hy).2).mono
theorem tg_gi {m : Nat} (hm : m ≤ 3 := by decide) : ∀ H x, Tg (Gs N) N m H x → Gi N H x := fun H x ⟨c, xs, e, hc, np, hl, gx⟩ => by
  subst e
  exact gi_sq (.inr (Mq.at hc np)) (by omega) gx
theorem lg_gi {m : Nat} (hm : m ≤ 3 := by decide) : ∀ H x, Lg (Gs N) N m H x → Gi N H x := fun H x ⟨c, xs, e, hc, np, hl, gx⟩ => by
  subst e
  exact gi_sq (.inl (Mq.at hc np)) (by omega) gx
theorem gi_dic {a : Addr} {kvs : List (Key × V)} (h : H a = some (.dK kvs)) (n : N a) (f : kvs.all (fun p => isFl p.2) = true) (sv : Sv (dictD kvs) 400 3) : Gi N H (.ref a) := ⟨rw_no (.dK (Mq.at h n)) (nor_dK (Mq.at h n)), _, .dc (Mq.at h n) f, sv⟩
end
theorem gw_back {H H' : Hp} {x y : V} (tx : Rw Thg H x) (ty : Rw (Rw Thg) H y) (s : Same H H') (h : GW H' x y) : GW H x y := by
  obtain ⟨ss, t, ys, ts, ⟨u, l⟩, rfl, hT, rp, few, tnd, inn⟩ := h
  unfold SqA at hT
  rw [thg_obj ty.1 s] at hT
  exact ⟨ss, t, ys, ts, ⟨(Unm.same tx.1 s).mp u, l⟩, rfl, hT, rp_back s (fun y hy => ((ty.2 t ys rfl hT).2 y hy).1) rp, few, tnd, inn⟩
noncomputable def Cv (M M' : Hp) (x x' : V) : Prop := x' = x ∨ ∃ a l ys, x = .ref a ∧ x' = .ref l ∧ SqA M a ys ∧ SqA M' l ys
theorem gw_conv {H H' : Hp} {x y x' y' : V} (tx : Rw Thg H x) (ty : Rw (Rw Thg) H y) (s : Same H H') (cx : Cv H H' x x') (cy : Cv H H' y y') (h : GW H' x' y') : GW H x y := by
  obtain ⟨ss, t, ys, ts, ⟨u, l⟩, rfl, hT, rp, few, tnd, inn⟩ := h
  have u' : Unm H x ss := by
    rcases cx with rfl | ⟨a, b, zs, rfl, rfl, q1, q2⟩
    · exact (Unm.same tx.1 s).mp u
    · obtain ⟨c, e, q, r⟩ := u
      cases e
      exact ⟨a, rfl, by rw [← sq_uniq q2 q]; exact q1, r⟩
  obtain ⟨t', hy, hT'⟩ : ∃ t', y = .ref t' ∧ SqA H t' ys := by
    rcases cy with e | ⟨a, b, zs, rfl, e, q1, q2⟩
    · subst e
      unfold SqA at hT
      rw [thg_obj ty.1 s] at hT
      exact ⟨t, rfl, hT⟩
    · cases e
      exact ⟨a, rfl, by rw [← sq_uniq q2 hT]; exact q1⟩
  exact ⟨ss, t', ys, ts, ⟨u', l⟩, hy, hT', rp_back s (fun y hy' => ((ty.2 t' ys hy hT').2 y hy').1) rp, few, tnd, inn⟩
section
variable {M : Hp} {x y : V} {a t : Addr} {ys : List V} {ss : List Str}
theorem bad0 (h : NoR M x) : ¬ GW M x y := fun ⟨_, _, _, _, ⟨⟨a, e, q, _⟩, _⟩, _⟩ => h a _ e q
theorem bad1 (h : NoR M y) : ¬ GW M x y := fun ⟨_, t, ys, _, _, e, q, _⟩ => h t ys e q
theorem bad2 {v : V} (h : SqA M a ys) (hv : v ∈ ys) (n : isNm v = false) : ¬ GW M (.ref a) y := fun ⟨_, _, _, _, ⟨⟨b, e, q, _, nm⟩, _⟩, _⟩ => by
  cases e
  rw [sq_uniq h q] at hv
  obtain ⟨z, hz, rfl⟩ := List.mem_map.mp hv
  rw [isNm_iff.mpr (nm z hz)] at n
  cases n
theorem bad3 (h : SqA M a ys) (n : ¬ ys.Nodup) : ¬ GW M (.ref a) y := fun ⟨ss, _, _, _, ⟨⟨b, e, q, nd, nm⟩, _⟩, _⟩ => by
  cases e
  rw [sq_uniq h q] at n
  exact n (List.Pairwise.map V.str (fun x y hxy z => hxy (V.str.inj z)) nd)
theorem bad4 (h : SqA M a ys) (n : 60 < ys.length) : ¬ GW M (.ref a) y := fun ⟨ss, _, _, _, ⟨⟨b, e, q, _⟩, l⟩, _⟩ => by
  cases e
  rw [sq_uniq h q, List.length_map] at n
  omega
theorem bad5 (h : SqA M t ys) (n : 400 < ys.length) : ¬ GW M x (.ref t) := fun ⟨ss, t', ys', ts, _, e, q, rp, few, _⟩ => by
  cases e
  have := rp.len
  rw [List.length_map, ← sq_uniq h q] at this
  omega
theorem bad6 (h : SqA M t ys) (n : ¬ ys.Nodup) : ¬ GW M x (.ref t) := fun ⟨ss, t', ys', ts, _, e, q, rp, few, tnd, inn⟩ => by
  cases e
  rw [← sq_uniq h q] at rp
  apply n
  clear q h n few inn
  induction ys generalizing ts with
  | nil => exact List.nodup_nil
  | cons v r ih =>
    cases ts with
    | nil => cases rp
    | cons e ts =>
      cases rp with
      | cons a b =>
        obtain ⟨te, tr⟩ := List.nodup_cons.mp tnd
        refine List.nodup_cons.mpr ⟨fun hv => ?_, ih ts b tr⟩
        obtain ⟨j, hj⟩ := List.mem_iff_getElem?.mp hv
        obtain ⟨e', ta, he, ev, hta⟩ := pair_get b hj
        obtain ⟨tb, ew, htb⟩ := pair_at a
        rw [ev] at ew
        cases ew
        rw [hta] at htb
        have h1 := List.cons.inj (HO.tup.inj (Option.some.inj htb))
        have h2 := List.cons.inj h1.2
        have ee : e' = e := Prod.ext (V.str.inj h1.1) (V.str.inj h2.1)
        rw [← ee] at te
        exact te (List.mem_of_getElem? he)
noncomputable def NoTi (M : Hp) (ss : List Str) (v : V) : Prop := ∀ ta (e : Str × Str), v = .ref ta → M ta = some (.tup [.str e.1, .str e.2]) → ¬ (e.1 ∈ ss ∧ e.2 ∈ ss)
theorem bad7 {v : V} (hx : SqA M a (List.map V.str ss)) (h : SqA M t ys) (hv : v ∈ ys) (n : NoTi M ss v) : ¬ GW M (.ref a) (.ref t) := fun ⟨ss', t', ys', ts, ⟨⟨b, e', q', _⟩, _⟩, e, q, rp, _, _, inn⟩ => by
  cases e
  cases e'
  rw [← sq_uniq h q] at rp
  have := strs_inj (sq_uniq hx q')
  subst this
  obtain ⟨j, hj⟩ := List.mem_iff_getElem?.mp hv
  obtain ⟨e', ta, he, ev, hta⟩ := pair_get rp hj
  exact n ta e' ev hta (inn e' (List.mem_of_getElem? he))
end
end
end K03
namespace K03
open PySem L2
section
variable {P : Program} {w : World} {K : PySem.W.Frag} {mg : Str → Option Value} {base : Heap}
noncomputable def GN (N : Addr → Prop) (H : Hp) (x : V) : Prop := Gi N H x ∧ NoR (Mq N H) x
theorem GN.but {N : Addr → Prop} {H H' : Hp} {x : V} (h : GN N H x) (b : ButN N H H') : GN N H' x := ⟨h.1.but b, nor_same h.1.1.1 (Mq.but b) h.2⟩
theorem mono_gn {N : Addr → Prop} : Mono (GN N) := fun _ _ _ s h => h.but (ButN.of_same s)
theorem gn_f {N : Addr → Prop} {H : Hp} {x : V} (h : Gi N H x) (f : flt x = true) : GN N H x := ⟨h, nor_f f⟩
theorem gn_d {N : Addr → Prop} {H : Hp} {a : Addr} {kvs : List (Key × V)} (h : H a = some (.dK kvs)) (n : N a) (f : kvs.all (fun p => isFl p.2) = true) (sv : Sv (dictD kvs) 400 3) : GN N H (.ref a) := ⟨gi_dic h n f sv, nor_dK (Mq.at h n)⟩
theorem bu_dn {N : Addr → Prop} {σ : St} {H0 : Hp} (hp : Hd N H0) : Bu (GN N) σ H0 tDNewK := fun H s Q k l hl => k _ _ (Same.new hl) (gn_d upd_same (hp l (same_free s hl)) rfl ⟨rfl, by decide, by decide +kernel⟩)
theorem same2 {H : Hp} {q : Addr} {o1 o2 : HO} (h : H q = none) : Same H (upd (upd H q o1) q o2) := fun b o hb => by rw [upd_ne (ne_of_none hb h), upd_ne (ne_of_none hb h)]; exact hb
theorem bu_dab {N : Addr → Prop} {σ : St} {H0 : Hp} (hp : Hd N H0) : Bu (GN N) σ H0 (tDisp [(tC (.str "a"), tC (.str "b"))]) := fun H s Q k q hq => ⟨upd_same, [(.inr "a", .str "b")], rfl, (by show 1 ≤ 15; decide), k _ _ (same2 hq) (gn_d upd_same (hp q (same_free s hq)) rfl ⟨rfl, by decide, by decide +kernel⟩)⟩
theorem bu_m1 {N : Addr → Prop} {σ : St} {H0 : Hp} : Bu (GN N) σ H0 (tUn (rU fun i => .int (-i)) (tC (.int 1))) := fun H s Q k => ⟨_, rfl, k _ _ (Same.refl _) (gn_f (gi_int (i := -1) (by decide)) rfl)⟩
theorem at_mem {xs : List V} {m : Nat} {r : Int} (hl : xs.length = m) (h0 : 0 ≤ r) (h1 : r < m) : ∃ x, atI xs r = some x ∧ x ∈ xs := by
  obtain ⟨j, rfl⟩ := Int.eq_ofNat_of_zero_le h0
  have hj : j < xs.length := by omega
  exact ⟨xs[j], atI_nat (List.getElem?_eq_getElem hj), List.getElem_mem hj⟩
theorem star_d {X : Cx} {ks : List (Option Expr)} {vs es : List Expr} {pos : Pos} : starEach (.Dict ks vs pos :: es) X.env = (false, eval (.Dict ks vs pos) X.env) :: starEach es X.env := rfl
theorem star_u {X : Cx} {o : _} {e : Expr} {es : List Expr} {pos : Pos} : starEach (.UnaryOp o e pos :: es) X.env = (false, eval (.UnaryOp o e pos) X.env) :: starEach es X.env := rfl
theorem star_t0 {X : Cx} {ts es : List Expr} {x1} {pos : Pos} : starEach (.Tuple ts x1 pos :: es) X.env = (false, eval (.Tuple ts x1 pos) X.env) :: starEach es X.env := star_t
theorem pe_dab {X : Cx} {j1 j2} {p1 p2 pos : Pos} : PE X (.Dict [some (.Constant (.str "a") j1 p1)] [.Constant (.str "b") j2 p2] pos) (tDisp [(tC (.str "a"), tC (.str "b"))]) := pe_disp (pps_cons pe_str pe_str pps_nil) rfl rfl (by simp) (by show 1 ≤ 15; decide)
theorem pe_d0 {X : Cx} {pos : Pos} : PE X (.Dict [] [] pos) tDNewK := pe_dnewK
theorem pe_m1 {X : Cx} {j} {p1 pos : Pos} : PE X (.UnaryOp .USub (.Constant (.int 1) j p1) pos) (tUn (rU fun i => .int (-i)) (tC (.int 1))) := pe_un un_neg pe_int
noncomputable def rE : Stmt → Expr
  | .Return (some (.Subscript e _ _)) _ => e
  | .Assign _ e _ => e
  | _ => .Name "" ⟨0, 0, 0, 0⟩
noncomputable def rW : Stmt → Expr → Stmt
  | .Return (some (.Subscript _ i p)) q, e => .Return (some (.Subscript e i p)) q
  | .Assign ts _ p, e => .Assign ts e p
  | s, _ => s
@[irreducible] noncomputable def rowE : Expr := rE ((defBody sNoRow).getD 0 (.Pass ⟨0, 0, 0, 0⟩))
theorem row_eq : defBody sNoRow = (defBody sNoRow).set 0 (rW ((defBody sNoRow).getD 0 (.Pass ⟨0, 0, 0, 0⟩)) rowE) := by unfold rowE; rfl
theorem pe_row {X : Cx} : PE X rowE (tLst (tCons (tC (.str "")) (tCons (tC (.str "ab")) (tCons (tC (.int 5)) (tCons (tC .non) (tCons (tC (.bl true)) (tCons (tC (.bl false)) (tCons tDNewK (tCons (tDisp [(tC (.str "a"), tC (.str "b"))]) (tCons (tUn (rU fun i => .int (-i)) (tC (.int 1))) tNil)))))))))) := by
  have e : ∃ j1 j2 j3 j4 j5 j6 j7 j8 j9 p1 p2 p3 p4 p5 p6 p7 p8 p9 p10 p11 p12 q, rowE = .List [.Constant (.str "") j1 p1, .Constant (.str "ab") j2 p2, .Constant (.int 5) j3 p3, .Constant .none j4 p4, .Constant (.bool true) j5 p5, .Constant (.bool false) j6 p6, .Dict [] [] p7, .Dict [some (.Constant (.str "a") j7 p8)] [.Constant (.str "b") j8 p9] p10, .UnaryOp .USub (.Constant (.int 1) j9 p11) p12] q := by
    unfold rowE
    exact ⟨_, _, _, _, _, _, _, _, _, _, _, _, _, _, _, _, _, _, _, _, _, _, rfl⟩
  obtain ⟨j1, j2, j3, j4, j5, j6, j7, j8, j9, p1, p2, p3, p4, p5, p6, p7, p8, p9, p10, p11, p12, q, e⟩ := e
  rw [e]
  with_reducible exact pe_lst (pa_cons pe_str (pa_cons pe_str (pa_cons pe_int (pa_cons pe_non (pa_cons pe_bl (pa_cons pe_bl (pa_cons pe_d0 (pa_cons pe_dab (pa_cons pe_m1 pa_nil star_u) star_d) star_d) star_c) star_c) star_c) star_c) star_c) star_c)
theorem ret_lst {ta : TA} {tb : TE} {r : V → V → Hp → VK → Prop} {D : Ends} {σ : St} {H : Hp} (h : ta σ H fun xs H1 => xs.length ≤ sizeLine ∧ ∀ l, H1 l = none → tb σ (upd H1 l (.lst xs)) fun y H2 => r (.ref l) y H2 D.rt) : tRet (tOp r (tLst ta) tb) D σ H := h
theorem seq_lst {ta : TA} {g : TG} {r : TS} {D : Ends} {σ : St} {H : Hp} (h : ta σ H fun xs H1 => xs.length ≤ sizeLine ∧ ∀ l, H1 l = none → g (.ref l) σ (upd H1 l (.lst xs)) (r D)) : tSeq (tAsg (tLst ta) g) r D σ H := h
noncomputable def spNoRow (K : PySem.W.Frag) : Sp := fun vs H Q _ => ∃ (p a : Addr), vs = [.ref p] ∧ Pen K H p a ∧ ∀ x H', GN (NP p) H' x → PenV H' p a → But p H H' → Q x H'
theorem scNoRow : FnScope ["_law_pen_here"] ["_law_pen_here"] (defScope sNoRow) := ⟨rfl, rfl, rfl, by decide +kernel, rfl, by decide +kernel, by decide +kernel⟩
theorem ok_norow {f : Addr} {fd : FuncData} (F : Fun K "_law_no_row" "_law_no_row" sNoRow f fd) (B : Blt mg) (c_law_draw : Cal P w K mg base 1 "_law_draw" ["_law_pen_here", "_law_most"] (spDraw K)) : FnOk P w K mg base CX0 2 f fd ["_law_pen_here"] (spNoRow K) := by
  refine F.ok scNoRow (fun vs H Q E h => ?_) (fun cdv A outer s H vs Q E hr h => ?_)
  · obtain ⟨p, a, rfl, _⟩ := h
    rfl
  · obtain ⟨p, a, rfl, hP, k⟩ := h
    have nd := scNoRow.nd
    have hd := hdPen hP.2
    have cs : ∀ {σ : St} (z : Str), (∀ c ∈ z.cps.toList, c < 128) → z.length ≤ 20 → Bu (GN (NP p)) σ H (tC (.str z)) := fun z h1 h2 => bu_c fun _ => gn_f (gi_asc h1 h2) rfl
    have bh : ∀ σ : St, BuA 9 (GN (NP p)) σ H (tCons (tC (.str "")) (tCons (tC (.str "ab")) (tCons (tC (.int 5)) (tCons (tC .non) (tCons (tC (.bl true)) (tCons (tC (.bl false)) (tCons tDNewK (tCons (tDisp [(tC (.str "a"), tC (.str "b"))]) (tCons (tUn (rU fun i => .int (-i)) (tC (.int 1))) tNil))))))))) := fun σ =>
      bua_cons mono_gn (cs _ (by decide +kernel) (by decide +kernel)) (bua_cons mono_gn (cs _ (by decide +kernel) (by decide +kernel)) (bua_cons mono_gn (bu_c fun _ => gn_f (gi_int (by decide)) rfl) (bua_cons mono_gn (bu_c fun _ => gn_f gi_non rfl) (bua_cons mono_gn (bu_c fun _ => gn_f (gi_bl _) rfl) (bua_cons mono_gn (bu_c fun _ => gn_f (gi_bl _) rfl) (bua_cons mono_gn (bu_dn hd) (bua_cons mono_gn (bu_dab hd) (bua_cons mono_gn bu_m1 bua_nil))))))))
    rw [row_eq]
    refine ⟨_, (pss_one (ps_ret (pe_ix (ix_X K hr.units) pe_row (pe_cal c_law_draw (hr.mono (by decide)) rfl (pa_cons (pv 0) (pa_cons pe_int pa_nil))) (fun _ _ => rfl)))), ?_⟩
    refine ret_lst ?_
    refine bh _ H (Same.refl _) _ fun hs H1 s1 hl gs => ?_
    refine ⟨by rw [hl]; decide, fun lz hlz => ?_⟩
    have s2 := Same.new (o := .lst hs) hlz
    have e2 : upd H1 lz (.lst hs) lz = some (.lst hs) := upd_same
    have v1 := penKeep s1 hP.2
    have nlz : lz ≠ p := Ne.symm (v1.ne hlz)
    generalize upd H1 lz (.lst hs) = H2 at s2 e2 ⊢
    have v2 := penKeep s2 v1
    have b2 : But p H H2 := But.of_same (s1.trans s2)
    refine ⟨_, rfl, p, a, 9, rfl, hP.but b2 v2, by decide, by decide, fun r H3 h0 h1 v3 e3 => ?_⟩
    obtain ⟨x, hx, mx⟩ := at_mem hl h0 h1
    refine .lst (.of ((e3 lz nlz).trans e2)) hx (k x H3 ?_ v3 (b2.trans (But.of_eq e3)))
    exact ((mono_gn _ _ _ s2 (gs x mx))).but fun c o n e => (e3 c n).trans e
end
end K03
namespace K03
open PySem L2
section
variable {P : Program} {w : World} {K : PySem.W.Frag} {mg : Str → Option Value} {base : Heap}
@[irreducible] noncomputable def nnmE : Expr := rE ((defBody sNoName).getD 0 (.Pass ⟨0, 0, 0, 0⟩))
theorem nnm_eq : defBody sNoName = (defBody sNoName).set 0 (rW ((defBody sNoName).getD 0 (.Pass ⟨0, 0, 0, 0⟩)) nnmE) := by unfold nnmE; rfl
theorem nnm_sw {t : Option Expr} {l : Nat} {env : Env} : swapsWith nnmE t l env = pure false := by unfold nnmE; rfl
theorem pe_ta {X : Cx} {j x1} {p pos : Pos} : PE X (.Tuple [.Constant (.str "a") j p] x1 pos) (tTup (tCons (tC (.str "a")) tNil)) := pe_tup (pa_cons pe_str pa_nil)
theorem pe_la {X : Cx} {j} {p pos : Pos} : PE X (.List [.Constant (.str "a") j p] pos) (tLst (tCons (tC (.str "a")) tNil)) := pe_lst (pa_cons pe_str pa_nil)
noncomputable abbrev nnmT : TA := tCons (tC (.str "")) (tCons (tC (.str "abcdefghi")) (tCons (tC (.str "Ab")) (tCons (tC (.str "a1")) (tCons (tC (.str "a b")) (tCons (tC (.str "-")) (tCons (tC (.str "a\n")) (tCons (tC (.str "aaaaaaaaaaaaaaaa")) (tCons (tC .non) (tCons (tC (.int 5)) (tCons (tC (.bl true)) (tCons (tTup (tCons (tC (.str "a")) tNil)) (tCons (tLst (tCons (tC (.str "a")) tNil)) (tCons tDNewK tNil)))))))))))))
theorem pe_nnm {X : Cx} : PE X nnmE (tLst nnmT) := by
  have e : ∃ j1 j2 j3 j4 j5 j6 j7 j8 j9 j10 j11 j12 j13 x1 p1 p2 p3 p4 p5 p6 p7 p8 p9 p10 p11 p12 p13 p14 p15 p16 q, nnmE = .List [.Constant (.str "") j1 p1, .Constant (.str "abcdefghi") j2 p2, .Constant (.str "Ab") j3 p3, .Constant (.str "a1") j4 p4, .Constant (.str "a b") j5 p5, .Constant (.str "-") j6 p6, .Constant (.str "a\n") j7 p7, .Constant (.str "aaaaaaaaaaaaaaaa") j8 p8, .Constant .none j9 p9, .Constant (.int 5) j10 p10, .Constant (.bool true) j11 p11, .Tuple [.Constant (.str "a") j12 p12] x1 p13, .List [.Constant (.str "a") j13 p14] p15, .Dict [] [] p16] q := by
    unfold nnmE
    exact ⟨_, _, _, _, _, _, _, _, _, _, _, _, _, _, _, _, _, _, _, _, _, _, _, _, _, _, _, _, _, _, _, rfl⟩
  obtain ⟨j1, j2, j3, j4, j5, j6, j7, j8, j9, j10, j11, j12, j13, x1, p1, p2, p3, p4, p5, p6, p7, p8, p9, p10, p11, p12, p13, p14, p15, p16, q, e⟩ := e
  rw [e]
  with_reducible exact pe_lst (pa_cons pe_str (pa_cons pe_str (pa_cons pe_str (pa_cons pe_str (pa_cons pe_str (pa_cons pe_str (pa_cons pe_str (pa_cons pe_str (pa_cons pe_non (pa_cons pe_int (pa_cons pe_bl (pa_cons pe_ta (pa_cons pe_la (pa_cons pe_d0 pa_nil star_d) star_l) star_t0) star_c) star_c) star_c) star_c) star_c) star_c) star_c) star_c) star_c) star_c) star_c)
noncomputable def GM (N : Addr → Prop) (H : Hp) (x : V) : Prop := Gi N H x ∧ isNm x = false
theorem GM.but {N : Addr → Prop} {H H' : Hp} {x : V} (h : GM N H x) (b : ButN N H H') : GM N H' x := ⟨h.1.but b, h.2⟩
theorem mono_gm {N : Addr → Prop} : Mono (GM N) := fun _ _ _ s h => h.but (ButN.of_same s)
theorem nm_a : Nm "a" := isNm_iff.mp (by decide +kernel)
theorem ref_nm {N : Addr → Prop} : ∀ H x, (∃ c : Addr, x = .ref c) ∧ Gi N H x → GM N H x := fun H x ⟨⟨c, e⟩, h⟩ => ⟨h, by rw [e]; rfl⟩
noncomputable def spNoName (K : PySem.W.Frag) : Sp := fun vs H Q _ => ∃ (p a : Addr), vs = [.ref p] ∧ Pen K H p a ∧ ∀ x H', GM (NP p) H' x → PenV H' p a → But p H H' → Q x H'
theorem scNoName : FnScope ["_law_pen_here", "_law_some"] ["_law_pen_here"] (defScope sNoName) := ⟨rfl, rfl, rfl, by decide +kernel, rfl, by decide +kernel, by decide +kernel⟩
theorem ok_noname {f : Addr} {fd : FuncData} (F : Fun K "_law_no_name" "_law_no_name" sNoName f fd) (B : Blt mg) (c_law_draw : Cal P w K mg base 1 "_law_draw" ["_law_pen_here", "_law_most"] (spDraw K)) : FnOk P w K mg base CX0 2 f fd ["_law_pen_here"] (spNoName K) := by
  refine F.ok scNoName (fun vs H Q E h => ?_) (fun cdv A outer s H vs Q E hr h => ?_)
  · obtain ⟨p, a, rfl, _⟩ := h
    rfl
  · obtain ⟨p, a, rfl, hP, k⟩ := h
    have nd := scNoName.nd
    have hd := hdPen hP.2
    have cs : ∀ {σ : St} (z : Str), (∀ c ∈ z.cps.toList, c < 128) → z.length ≤ 20 → isNm (.str z) = false → Bu (GM (NP p)) σ H (tC (.str z)) := fun z h1 h2 h3 => bu_c fun _ => ⟨gi_asc h1 h2, h3⟩
    have ca : ∀ {σ : St}, Bu (Gs (NP p)) σ H (tC (.str "a")) := bu_c fun _ => gs_nm nm_a
    have bh : ∀ σ : St, BuA 14 (GM (NP p)) σ H nnmT := fun σ =>
      bua_cons mono_gm (cs _ (by decide +kernel) (by decide +kernel) (by decide +kernel)) (bua_cons mono_gm (cs _ (by decide +kernel) (by decide +kernel) (by decide +kernel)) (bua_cons mono_gm (cs _ (by decide +kernel) (by decide +kernel) (by decide +kernel)) (bua_cons mono_gm (cs _ (by decide +kernel) (by decide +kernel) (by decide +kernel)) (bua_cons mono_gm (cs _ (by decide +kernel) (by decide +kernel) (by decide +kernel)) (bua_cons mono_gm (cs _ (by decide +kernel) (by decide +kernel) (by decide +kernel)) (bua_cons mono_gm (cs _ (by decide +kernel) (by decide +kernel) (by decide +kernel)) (bua_cons mono_gm (cs _ (by decide +kernel) (by decide +kernel) (by decide +kernel))
      (bua_cons mono_gm (bu_c fun _ => ⟨gi_non, rfl⟩) (bua_cons mono_gm (bu_c fun _ => ⟨gi_int (by decide), rfl⟩) (bua_cons mono_gm (bu_c fun _ => ⟨gi_bl _, rfl⟩) (bua_cons mono_gm ((bu_tup mono_gs hd (bua_cons mono_gs ca bua_nil)).imp fun H x h => ref_nm H x ⟨let ⟨c, _, e, _⟩ := h; ⟨c, e⟩, tg_gi (by decide) H x h⟩) (bua_cons mono_gm ((bu_lst mono_gs hd (bua_cons mono_gs ca bua_nil)).imp fun H x h => ref_nm H x ⟨let ⟨c, _, e, _⟩ := h; ⟨c, e⟩, lg_gi (by decide) H x h⟩)
      (bua_cons mono_gm (fun H s Q k l hl => k _ _ (Same.new hl) ⟨(gn_d upd_same (hd l (same_free s hl)) rfl ⟨rfl, by decide, by decide +kernel⟩).1, rfl⟩) bua_nil)))))))))))))
    rw [nnm_eq]
    refine ⟨_, (pss_cons (ps_set (i := 1) nd rfl (Or.inl rfl) pe_nnm nnm_sw)
      (pss_one (ps_ret (pe_ix (ix_X K hr.units) (pv 1) (pe_cal c_law_draw (hr.mono (by decide)) rfl (pa_cons (pv 0) (pa_cons pe_int pa_nil))) (fun _ _ => rfl))))), ?_⟩
    refine seq_lst ?_
    refine bh _ H (Same.refl _) _ fun hs H1 s1 hl gs => ?_
    refine ⟨by rw [hl]; decide, fun lz hlz => ?_⟩
    have s2 := Same.new (o := .lst hs) hlz
    have e2 : upd H1 lz (.lst hs) lz = some (.lst hs) := upd_same
    have v1 := penKeep s1 hP.2
    have nlz : lz ≠ p := Ne.symm (v1.ne hlz)
    generalize upd H1 lz (.lst hs) = H2 at s2 e2 ⊢
    have v2 := penKeep s2 v1
    have b2 : But p H H2 := But.of_same (s1.trans s2)
    refine ⟨_, rfl, _, rfl, p, a, 14, rfl, hP.but b2 v2, by decide, by decide, fun r H3 h0 h1 v3 e3 => ?_⟩
    obtain ⟨x, hx, mx⟩ := at_mem hl h0 h1
    refine .lst (.of ((e3 lz nlz).trans e2)) hx (k x H3 ?_ v3 (b2.trans (But.of_eq e3)))
    exact ((mono_gm _ _ _ s2 (gs x mx))).but fun c o n e => (e3 c n).trans e
end
end K03
namespace K03
open PySem L2
section
variable {P : Program} {w : World} {K : PySem.W.Frag} {mg : Str → Option Value} {base : Heap}
theorem sv_dictS {z y : Str} (h : Nm z) (hy : Nm y) : Sv (dictD [(.inr z, .str y)]) 400 3 := by
  have a := (Sw.nm h).sv
  have b := (Sw.nm hy).sv
  refine ⟨?_, ?_, ?_⟩
  · show (PyData.showable (.str z) && PyData.showable (.str y) && true) = true
    rw [b.sb]; rfl
  · show 1 ≤ 3
    decide
  · have o : (Str.ofString ": ").length = 2 := rfl
    have a2 := a.ln
    have b2 := b.ln
    have l1 : (PyData.shown (.str z) ++ (": " : Str) ++ PyData.shown (.str y)).length ≤ 166 := by
      rw [len_app, len_app]
      show (PyData.shown (.str z)).length + (Str.ofString ": ").length + (PyData.shown (.str y)).length ≤ 166
      omega
    have g := join_le (n := 166) [PyData.shown (.str z) ++ (": " : Str) ++ PyData.shown (.str y)] fun t ht => by rw [List.mem_singleton.mp ht]; exact l1
    have o1 : (Str.ofString "{").length = 1 := rfl
    have o2 : (Str.ofString "}").length = 1 := rfl
    show (("{" : Str) ++ Str.join ", " [PyData.shown (.str z) ++ (": " : Str) ++ PyData.shown (.str y)] ++ ("}" : Str)).length ≤ 400
    rw [len_app, len_app]
    show (Str.ofString "{").length + (Str.join ", " [PyData.shown (.str z) ++ (": " : Str) ++ PyData.shown (.str y)]).length + (Str.ofString "}").length ≤ 400
    have g : (Str.join ", " [PyData.shown (.str z) ++ (": " : Str) ++ PyData.shown (.str y)]).length ≤ 1 * (166 + 2) := g
    omega
noncomputable def GT (ss : List Str) (N : Addr → Prop) (H : Hp) (x : V) : Prop := Gi N H x ∧ NoTi (Mq N H) ss x
theorem noti_same {H H' : Hp} {ss : List Str} {x : V} (h : Thg H x) (s : Same H H') (n : NoTi H ss x) : NoTi H' ss x := fun ta e ev q => by
  subst ev
  rw [thg_obj h s] at q
  exact n ta e rfl q
theorem GT.but {ss : List Str} {N : Addr → Prop} {H H' : Hp} {x : V} (h : GT ss N H x) (b : ButN N H H') : GT ss N H' x := ⟨h.1.but b, noti_same h.1.1.1 (Mq.but b) h.2⟩
theorem mono_gt {ss : List Str} {N : Addr → Prop} : Mono (GT ss N) := fun _ _ _ s h => h.but (ButN.of_same s)
section
variable {N : Addr → Prop} {H : Hp} {ss : List Str} {x y : V}
theorem gt_tup {a : Addr} {ys : List V} (h : H a = some (.tup ys)) (n : N a) (l : ys.length ≤ 3) (k : ∀ y ∈ ys, Gs N H y) (no : ∀ e : Str × Str, ys = [.str e.1, .str e.2] → ¬ (e.1 ∈ ss ∧ e.2 ∈ ss)) : GT ss N H (.ref a) := ⟨gi_sq (.inr (Mq.at h n)) l k, fun ta e ev q => by
  cases ev
  rw [Mq.at h n] at q
  exact no e (HO.tup.inj (Option.some.inj q))⟩
theorem gt_lst {a : Addr} {ys : List V} (h : H a = some (.lst ys)) (n : N a) (l : ys.length ≤ 3) (k : ∀ y ∈ ys, Gs N H y) : GT ss N H (.ref a) := ⟨gi_sq (.inl (Mq.at h n)) l k, fun ta e ev q => by
  cases ev
  rw [Mq.at h n] at q
  cases q⟩
theorem gt_f (h : Gi N H x) (f : flt x = true) : GT ss N H x := ⟨h, fun ta e ev _ => by rw [ev] at f; cases f⟩
theorem gt_dic {a : Addr} {kvs : List (Key × V)} (h : H a = some (.dK kvs)) (n : N a) (f : kvs.all (fun p => isFl p.2) = true) (sv : Sv (dictD kvs) 400 3) : GT ss N H (.ref a) := ⟨gi_dic h n f sv, fun ta e ev q => by
  cases ev
  rw [Mq.at h n] at q
  cases q⟩
theorem all1 {P : V → Prop} (h : P x) : ∀ v ∈ [x], P v := fun v hv => by rw [List.mem_singleton.mp hv]; exact h
theorem all3 {P : V → Prop} {z : V} (h : P x) (k : P y) (l : P z) : ∀ v ∈ [x, y, z], P v := fun v hv => by
  rcases List.mem_cons.mp hv with rfl | hv
  · exact h
  · rcases List.mem_cons.mp hv with rfl | hv
    · exact k
    · rw [List.mem_singleton.mp hv]; exact l
theorem all2 {P : V → Prop} (h : P x) (k : P y) : ∀ v ∈ [x, y], P v := fun v hv => by
  rcases List.mem_cons.mp hv with rfl | hv
  · exact h
  · rw [List.mem_singleton.mp hv]; exact k
end
theorem flat_strs (xs : List Str) : (List.map V.str xs).all flatV = true := by
  rw [List.all_map, List.all_eq_true]
  intro x _; rfl
theorem in_strs (z : Str) (ws : List Str) : inV (V.str z) (List.map V.str ws) = decide (z ∈ ws) := by
  unfold inV
  rw [List.any_map, Bool.eq_iff_iff, List.any_eq_true, decide_eq_true_iff]
  constructor
  · rintro ⟨y, hy, h⟩
    have h : (y == z) = true := h
    rw [beq_iff_eq] at h
    rw [← h]; exact hy
  · intro h
    exact ⟨z, h, by show (z == z) = true; simp⟩
theorem seq_addl {i : Nat} {ta : TA} {g : TG} {r : TS} {D : Ends} {σ : St} {H : Hp} {v : V} (hv : σ[i]? = some (some v)) (h : ta σ H fun xs H1 => xs.length ≤ sizeLine ∧ ∀ l, H1 l = none → AddR (upd H1 l (.lst xs)) v (.ref l) fun x H2 => g x σ H2 (r D)) : tSeq (tAsg (tOp (fun x y H Q => AddR H x y Q) (tVar i) (tLst ta)) g) r D σ H := ⟨v, hv, h⟩
theorem name_go {i : Nat} {v : V} {σ : St} {H : Hp} {Q : St → Hp → Prop} (h : Q (σ.set i (some v)) H) : gName i v σ H Q := h
theorem nodup_subS : ∀ {l ws : List Str}, l.Nodup → (∀ x ∈ l, x ∈ ws) → l.length ≤ ws.length
  | [], _, _, _ => Nat.zero_le _
  | x :: l, ws, nd, h => by
    obtain ⟨h1, h2⟩ := List.nodup_cons.mp nd
    have hx := h x (by simp)
    have := nodup_subS (l := l) (ws := ws.erase x) h2 fun y hy => (List.mem_erase_of_ne (fun e => h1 (by rw [← e]; exact hy))).mpr (h y (List.mem_cons_of_mem _ hy))
    rw [List.length_erase_of_mem hx] at this
    have := List.length_pos_of_mem hx
    rw [List.length_cons]
    omega
theorem nil_ {σ : St} {H : Hp} {k : List V → Hp → Prop} (h : k [] H) : tNil σ H k := h
theorem two_no {ss : List Str} {x y : Str} (h : ¬ (x ∈ ss ∧ y ∈ ss)) : ∀ e : Str × Str, ([V.str x, V.str y] : List V) = [.str e.1, .str e.2] → ¬ (e.1 ∈ ss ∧ e.2 ∈ ss) := fun e he => by
  have h1 := List.cons.inj he
  have h2 := List.cons.inj h1.2
  rw [← V.str.inj h1.1, ← V.str.inj h2.1]
  exact h
noncomputable def spNoTie (K : PySem.W.Frag) : Sp := fun vs H Q _ => ∃ (p a n : Addr) (ss : List Str), vs = [.ref p, .ref n] ∧ Pen K H p a ∧ H n = some (.lst (List.map V.str ss)) ∧ n ≠ p ∧ ss.length ≤ 60 ∧ (∀ s ∈ ss, Nm s) ∧ ∀ x H', GT ss (NP p) H' x → PenV H' p a → But p H H' → Q x H'
theorem scNoTie : FnScope ["_law_pen_here", "_law_things_here", "_law_one", "_law_other", "_law_new", "_law_some"] ["_law_pen_here", "_law_things_here"] (defScope sNoTie) := ⟨rfl, rfl, rfl, by decide +kernel, rfl, by decide +kernel, by decide +kernel⟩
theorem nm_aa : Nm "aa" := isNm_iff.mp (by decide +kernel)
theorem ok_notie {f : Addr} {fd : FuncData} (F : Fun K "_law_no_tie" "_law_no_tie" sNoTie f fd) (B : Blt mg) (c_law_draw : Cal P w K mg base 1 "_law_draw" ["_law_pen_here", "_law_most"] (spDraw K)) (c_law_names : Cal P w K mg base 2 "_law_names" ["_law_pen_here", "_law_many"] (spNames K)) : FnOk P w K mg base CX0 3 f fd ["_law_pen_here", "_law_things_here"] (spNoTie K) := by
  refine F.ok scNoTie (fun vs H Q E h => ?_) (fun cdv A outer s H vs Q E hr h => ?_)
  · obtain ⟨p, a, n, ss, rfl, _⟩ := h
    rfl
  · obtain ⟨p, a, n, ss, rfl, hP, hn, nnp, h60, snm, k⟩ := h
    have nd := scNoTie.nd
    have sml : (List.map V.str ss).length = ss.length := List.length_map ..
    refine ⟨_, (pss_cons (ps_set (i := 2) nd rfl (Or.inl rfl) (pe_ix (ix_X K hr.units) (pe_op op_addX (pv 1) (pe_lst (pa_cons pe_str pa_nil))) (pe_cal c_law_draw (hr.mono (by decide)) rfl (pa_cons (pv 0) (pa_cons (pe_op op_addX (b_len K B (pa_cons (pv 1) pa_nil)) pe_int) pa_nil))) (fun _ _ => rfl)))
      (pss_cons (ps_set (i := 3) nd rfl (Or.inl rfl) (pe_ix (ix_X K hr.units) (pe_op op_addX (pv 1) (pe_lst (pa_cons pe_str pa_nil))) (pe_cal c_law_draw (hr.mono (by decide)) rfl (pa_cons (pv 0) (pa_cons (pe_op op_addX (b_len K B (pa_cons (pv 1) pa_nil)) pe_int) pa_nil))) (fun _ _ => rfl)))
      (pss_cons (ps_set (i := 4) nd rfl (Or.inl rfl) (pe_ix (ix_X K hr.units) (pe_comp (defScope sNoTie) ["_law_pen_here", "_law_things_here", "_law_one", "_law_other", "_law_new", "_law_some"] ["_law_name"] [1] ["_law_name", "_law_things_here"] rfl (pi_listK K (pe_cal c_law_names (hr.mono (by decide)) rfl (pa_cons (pv 0) (pa_cons pe_int pa_nil)))) (fun _ _ _ _ _ => (pg_name (i := 0) (show (["_law_name", "_law_things_here"] : List Str).Nodup by decide) rfl (Or.inl rfl))) (fun _ _ _ _ _ => (pts_one (pt_cmpR (op_notInX K hr.units) (pv 0) (pv 1) (by with_unfolding_all rfl)))) (fun _ _ _ _ _ => (pv 0))) pe_int (fun _ _ => rfl)))
      (pss_cons (ps_set (i := 5) nd rfl (Or.inl rfl) (pe_lst (pa_cons (pe_tup (pa_cons (pv 2) (pa_cons (pv 3) (pa_cons (pv 2) pa_nil)))) (pa_cons (pe_tup (pa_cons (pv 2) pa_nil)) (pa_cons (pe_lst (pa_cons (pv 2) (pa_cons (pv 3) pa_nil))) (pa_cons (pe_op op_addX (pv 2) (pv 3)) (pa_cons pe_non (pa_cons (pe_tup pa_nil) (pa_cons (pe_tup (pa_cons (pv 2) (pa_cons (pv 4) pa_nil))) (pa_cons (pe_tup (pa_cons (pv 4) (pa_cons (pv 3) pa_nil))) (pa_cons (pe_tup (pa_cons (pv 2) (pa_cons pe_int pa_nil))) pa_nil star_t) star_t) star_t) star_t) star_c) star_b) star_l) star_t) star_t)))
      (pss_cons (ps_set (i := 5) nd rfl (Or.inl rfl) (pe_op op_addX (pv 5) (pe_lst (pa_cons (pe_tup (pa_cons pe_non (pa_cons (pv 3) pa_nil))) (pa_cons (pe_tup (pa_cons (pe_tup (pa_cons (pv 2) pa_nil)) (pa_cons (pv 3) pa_nil))) (pa_cons (pe_disp (pps_cons (pv 2) (pv 3) pps_nil) rfl rfl (by simp) (by decide)) (pa_cons (pe_tup (pa_cons (pv 2) (pa_cons (pe_lst (pa_cons (pv 3) pa_nil)) pa_nil))) (pa_cons (pe_tup (pa_cons (pv 2) (pa_cons pe_str pa_nil))) (pa_cons (pe_tup (pa_cons (pv 4) (pa_cons (pv 4) pa_nil))) (pa_cons pe_int pa_nil star_c) star_t) star_t) star_t) star_d) star_t) star_t))))
      (pss_one (ps_ret (pe_ix (ix_X K hr.units) (pe_op op_addX (pv 5) (pe_lst (pa_cons (pe_tup (pa_cons (pe_lst (pa_cons (pv 2) pa_nil)) (pa_cons (pv 3) pa_nil))) pa_nil))) (pe_cal c_law_draw (hr.mono (by decide)) rfl (pa_cons (pv 0) (pa_cons pe_int pa_nil))) (fun _ _ => rfl))))))))), ?_⟩
    have pick : ∀ (σ : St) (H1 : Hp) (Qc : VK), σ[0]? = some (some (.ref p)) → σ[1]? = some (some (.ref n)) → PenV H1 p a → But p H H1 → (∀ z H2, Nm z → PenV H2 p a → But p H H2 → Qc (.str z) H2) →
        (tOp (fun x y H Q => IxX K H x y Q) (tOp (fun x y H Q => AddR H x y Q) (tVar 1) (tLst (tCons (tC (.str "aa")) tNil))) (tCall (spDraw K) [] E0 (tCons (tVar 0) (tCons (tOp (fun x y H Q => AddR H x y Q) (tCB (rLen K) (tCons (tVar 1) tNil)) (tC (.int 1))) tNil)))) σ H1 Qc := fun σ H1 Qc q0 q1 v1 b1 kk => by
      have n1 := b1 _ _ nnp hn
      refine ⟨_, q1, (by show 1 ≤ sizeLine; decide), fun l1 hl1 => ?_⟩
      have s2 := Same.new (o := .lst [.str "aa"]) hl1
      have e2 : upd H1 l1 (.lst [.str "aa"]) l1 = some (.lst [.str "aa"]) := upd_same
      generalize upd H1 l1 (.lst [.str "aa"]) = H2 at s2 e2 ⊢
      refine .lst (s2 _ _ n1) e2 (by rw [sml]; exact Nat.le_of_lt (small1000 (by show _ + 1 ≤ 1000; omega))) fun l3 hl3 => ?_
      have s3 := s2.trans (Same.new (o := .lst (List.map V.str ss ++ [.str "aa"])) hl3)
      have v2 := penKeep s2 v1
      have nl3 : l3 ≠ p := Ne.symm (v2.ne hl3)
      have e3 : upd H2 l3 (.lst (List.map V.str ss ++ [.str "aa"])) l3 = some (.lst (List.map V.str ss ++ [.str "aa"])) := upd_same
      generalize upd H2 l3 (.lst (List.map V.str ss ++ [.str "aa"])) = H3 at s3 e3 ⊢
      have v3 := penKeep s3 v1
      have b3 := b1.trans (But.of_same s3)
      refine ⟨_, q0, _, q1, _, _, rfl, Or.inl ⟨_, .of (s3 _ _ n1), rfl⟩, .int (nil_ ⟨p, a, _, rfl, hP.but b3 v3, by rw [sml]; omega, by rw [sml]; omega, fun r H4 h0 h1 v4 e4 => ?_⟩)⟩
      obtain ⟨x, hx, mx⟩ := at_mem (m := ss.length + 1) (r := r) (xs := List.map V.str ss ++ [.str "aa"]) (by rw [List.length_append, sml]; rfl) h0 (by rw [sml] at h1; omega)
      obtain ⟨z, rfl, nz⟩ : ∃ z, x = .str z ∧ Nm z := by
        rcases List.mem_append.mp mx with q | q
        · obtain ⟨z, hz, rfl⟩ := List.mem_map.mp q
          exact ⟨z, rfl, snm z hz⟩
        · exact ⟨_, List.mem_singleton.mp q, nm_aa⟩
      exact .lst (.of ((e4 l3 nl3).trans e3)) hx (kk z H4 nz v4 (b3.trans (But.of_eq e4)))
    refine pick _ H _ rfl rfl hP.2 (But.refl p H) fun one H1 n1 v1 b1 => ?_
    refine pick _ H1 _ rfl rfl v1 b1 fun other H2 n2 v2 b2 => ?_
    clear pick
    have hn2 := b2 _ _ nnp hn
    refine ⟨_, rfl, p, a, 61, rfl, hP.but b2 v2, by decide, fun ln ns H3 nl nnd nnm hln hln0 nlnp v3 b3 => ?_⟩
    have hn3 := b3 _ _ nnp hn2
    refine ⟨ln, rfl, ⟨_, .of hln⟩, ?_⟩
    refine comp_list (List.map V.str ns) (fun C i acc σ' H' => ∃ o, σ' = [o, some (.ref n)] ∧ acc = List.map V.str ((ns.take i).filter fun z => decide (z ∉ ss)) ∧ Same H3 H' ∧ H3 C = none) fun C hC => ⟨?_, ?_, ?_, ?_⟩
    · exact ⟨none, rfl, rfl, Same.new hC, hC⟩
    · rintro i acc σ' H' _ ⟨o, rfl, _, sm, _⟩ _
      exact .of (sm _ _ hln)
    · rintro i acc σ' H' x hx ⟨o, rfl, rfl, sm, hC0⟩ hacc
      obtain ⟨z, hz, rfl⟩ := str_get hx
      have hil := (List.getElem?_eq_some_iff.mp hz).1
      have nz := nnm z (List.mem_of_getElem? hz)
      refine ⟨_, rfl, _, rfl, .seq (.inl (.of (sm _ _ hn3))) rfl (flat_strs _) ⟨_, rfl, ?_⟩⟩
      rw [in_strs]
      have sz : (List.map V.str ((ns.take i).filter fun z => decide (z ∉ ss))).length < sizeLine := by
        rw [List.length_map]
        have := List.length_filter_le (fun z => decide (z ∉ ss)) (ns.take i)
        rw [List.length_take] at this
        exact small1000 (by omega)
      refine ite2 (fun h => ?_) (fun h => ?_)
      · have h : z ∉ ss := by simpa using h
        refine ⟨_, rfl, hacc, sz, _, rfl, ?_, same_at sm hC0, hC0⟩
        rw [List.take_add_one, hz, List.filter_append, List.map_append]
        simp [h]
      · have h : ¬ z ∉ ss := by simpa using h
        refine ⟨hacc, _, rfl, ?_, sm, hC0⟩
        rw [List.take_add_one, hz, List.filter_append, List.map_append]
        simp [h]
    rintro acc σ' H4 ⟨o, rfl, rfl, s4, hC0⟩ hacc
    rw [List.length_map, List.take_of_length_le (Nat.le_refl _)] at hacc
    obtain ⟨new, rest, hfil⟩ : ∃ new rest, (ns.filter fun z => decide (z ∉ ss)) = new :: rest := by
      cases c : ns.filter fun z => decide (z ∉ ss) with
      | cons x r => exact ⟨x, r, rfl⟩
      | nil =>
        exfalso
        have := nodup_subS nnd fun x hx => by
          have := List.filter_eq_nil_iff.mp c x hx
          simpa using this
        omega
    have hnew : new ∈ ns.filter fun z => decide (z ∉ ss) := by rw [hfil]; simp
    obtain ⟨m1, m2⟩ := List.mem_filter.mp hnew
    have nnew := nnm new m1
    have new0 : new ∉ ss := of_decide_eq_true m2
    rw [hfil] at hacc
    refine .lst (.of hacc) (atI_nat (j := 0) rfl) ?_
    have v4 := penKeep s4 v3
    have b4 := (b2.trans b3).trans (But.of_same s4)
    have hd4 := hdPen v4
    have e0 : ("" : Str) ∉ ss := fun z => by have := (snm _ z).1; revert this; decide +kernel
    clear hacc hC0 s4 hn3 hn2 hln hln0 v3 b3 v2 b2 v1 b1
    let σ4 : St := [some (.ref p), some (.ref n), some (.str one), some (.str other), some (.str new), none]
    have g1 : ∀ {H' : Hp}, Gs (NP p) H' (.str one) := gs_nm n1
    have g2 : ∀ {H' : Hp}, Gs (NP p) H' (.str other) := gs_nm n2
    have g3 : ∀ {H' : Hp}, Gs (NP p) H' (.str new) := gs_nm nnew
    have asc : ∀ c ∈ (one ++ other).cps.toList, c < 128 := fun c hc => by
      rw [show (one ++ other).cps.toList = one.cps.toList ++ other.cps.toList from by show ((one.cps ++ other.cps).toList) = _; exact Array.toList_append] at hc
      exact (List.mem_append.mp hc).elim (nm_asc n1 c) (nm_asc n2 c)
    have l8 : (one ++ other).length ≤ 20 := by rw [len_app]; have := n1.2.1; have := n2.2.1; omega
    have z2 : 2 ≤ sizeLine := by decide
    have bh : ∀ σ : St, σ[2]? = some (some (.str one)) → σ[3]? = some (some (.str other)) → σ[4]? = some (some (.str new)) → BuA 9 (GT ss (NP p)) σ H4 (tCons (tTup (tCons (tVar 2) (tCons (tVar 3) (tCons (tVar 2) tNil)))) (tCons (tTup (tCons (tVar 2) tNil)) (tCons (tLst (tCons (tVar 2) (tCons (tVar 3) tNil))) (tCons (tOp (fun x y H Q => AddR H x y Q) (tVar 2) (tVar 3)) (tCons (tC .non) (tCons (tTup tNil) (tCons (tTup (tCons (tVar 2) (tCons (tVar 4) tNil))) (tCons (tTup (tCons (tVar 4) (tCons (tVar 3) tNil))) (tCons (tTup (tCons (tVar 2) (tCons (tC (.int 5)) tNil))) tNil))))))))) := fun σ q2 q3 q4 =>
      bua_cons mono_gt (fun H s Q k => ⟨_, q2, _, q3, _, q2, nil_ ⟨(by show 3 ≤ sizeLine; decide), fun l hl => k _ _ (Same.new hl) (gt_tup upd_same (hd4 l (same_free s hl)) (Nat.le_of_ble_eq_true rfl) (all3 g1 g2 g1) (fun e he => by cases he))⟩⟩) (
      bua_cons mono_gt (fun H s Q k => ⟨_, q2, nil_ ⟨(by show 1 ≤ sizeLine; decide), fun l hl => k _ _ (Same.new hl) (gt_tup upd_same (hd4 l (same_free s hl)) (Nat.le_of_ble_eq_true rfl) (all1 g1) (fun e he => by cases he))⟩⟩) (
      bua_cons mono_gt (fun H s Q k => ⟨_, q2, _, q3, nil_ ⟨z2, fun l hl => k _ _ (Same.new hl) (gt_lst upd_same (hd4 l (same_free s hl)) (Nat.le_of_ble_eq_true rfl) (all2 g1 g2))⟩⟩) (
      bua_cons mono_gt (fun H s Q k => ⟨_, q2, _, q3, .str (by have := len_app one other; rw [← this]; exact Nat.le_trans l8 (by decide)) (k _ _ (Same.refl _) (gt_f (gi_asc asc l8) rfl))⟩) (
      bua_cons mono_gt (bu_c fun _ => gt_f gi_non rfl) (
      bua_cons mono_gt (fun H s Q k => nil_ ⟨(by show 0 ≤ sizeLine; decide), fun l hl => k _ _ (Same.new hl) (gt_tup upd_same (hd4 l (same_free s hl)) (Nat.le_of_ble_eq_true rfl) (fun v hv => by cases hv) (fun e he => by cases he))⟩) (
      bua_cons mono_gt (fun H s Q k => ⟨_, q2, _, q4, nil_ ⟨z2, fun l hl => k _ _ (Same.new hl) (gt_tup upd_same (hd4 l (same_free s hl)) (Nat.le_of_ble_eq_true rfl) (all2 g1 g3) (two_no fun h => new0 h.2))⟩⟩) (
      bua_cons mono_gt (fun H s Q k => ⟨_, q4, _, q3, nil_ ⟨z2, fun l hl => k _ _ (Same.new hl) (gt_tup upd_same (hd4 l (same_free s hl)) (Nat.le_of_ble_eq_true rfl) (all2 g3 g2) (two_no fun h => new0 h.1))⟩⟩) (
      bua_cons mono_gt (fun H s Q k => ⟨_, q2, z2, fun l hl => k _ _ (Same.new hl) (gt_tup upd_same (hd4 l (same_free s hl)) (Nat.le_of_ble_eq_true rfl) (all2 g1 (gs_int (by decide))) (fun e he => by have := (List.cons.inj (List.cons.inj he).2).1; cases this))⟩) bua_nil))))))))
    refine name_go ?_
    dsimp only
    refine seq_lst ?_
    refine bh _ rfl rfl rfl H4 (Same.refl _) _ fun hs H5 s5 hl5 gs5 => ?_
    clear bh
    refine ⟨by rw [hl5]; decide, fun l6 hl6 => ?_⟩
    have s6 := s5.trans (Same.new (o := .lst hs) hl6)
    have e6 : upd H5 l6 (.lst hs) l6 = some (.lst hs) := upd_same
    have gs6 : ∀ x ∈ hs, GT ss (NP p) (upd H5 l6 (.lst hs)) x := fun x hx => mono_gt _ _ _ (Same.new hl6) (gs5 x hx)
    generalize upd H5 l6 (.lst hs) = H6 at s6 e6 gs6 ⊢
    have v6 := penKeep s6 v4
    have hd6 := hdPen v6
    clear gs5 s5 hl6 hd4
    have bh : ∀ σ : St, σ[2]? = some (some (.str one)) → σ[3]? = some (some (.str other)) → σ[4]? = some (some (.str new)) → BuA 7 (GT ss (NP p)) σ H6 (tCons (tTup (tCons (tC .non) (tCons (tVar 3) tNil))) (tCons (tTup (tCons (tTup (tCons (tVar 2) tNil)) (tCons (tVar 3) tNil))) (tCons (tDisp [(tVar 2, tVar 3)]) (tCons (tTup (tCons (tVar 2) (tCons (tLst (tCons (tVar 3) tNil)) tNil))) (tCons (tTup (tCons (tVar 2) (tCons (tC (.str "")) tNil))) (tCons (tTup (tCons (tVar 4) (tCons (tVar 4) tNil))) (tCons (tC (.int 7)) tNil))))))) := fun σ q2 q3 q4 =>
      bua_cons mono_gt (fun H s Q k => ⟨_, q3, z2, fun l hl => k _ _ (Same.new hl) (gt_tup upd_same (hd6 l (same_free s hl)) (Nat.le_of_ble_eq_true rfl) (all2 gs_non g2) (fun e he => by have := (List.cons.inj he).1; cases this))⟩) (
      bua_cons mono_gt (fun H s Q k => ⟨_, q2, (by show 1 ≤ sizeLine; decide), fun l1 hl1 => ⟨_, q3, z2, fun l hl => k _ _ ((Same.new hl1).trans (Same.new hl)) (gt_tup upd_same (hd6 l (same_free (s.trans (Same.new hl1)) hl)) (Nat.le_of_ble_eq_true rfl) (all2 (mono_gs _ _ _ (Same.new hl) (gs_tup upd_same (hd6 l1 (same_free s hl1)) n1)) g2) (fun e he => by have := (List.cons.inj he).1; cases this))⟩⟩) (
      bua_cons mono_gt (fun H s Q k q hq => ⟨_, q2, _, q3, upd_same, [(.inr one, .str other)], rfl, (by show 1 ≤ 15; decide), k _ _ (same2 hq) (gt_dic upd_same (hd6 q (same_free s hq)) rfl (sv_dictS n1 n2))⟩) (
      bua_cons mono_gt (fun H s Q k => ⟨_, q2, _, q3, (by show 1 ≤ sizeLine; decide), fun l1 hl1 => ⟨z2, fun l hl => k _ _ ((Same.new hl1).trans (Same.new hl)) (gt_tup upd_same (hd6 l (same_free (s.trans (Same.new hl1)) hl)) (Nat.le_of_ble_eq_true rfl) (all2 g1 (mono_gs _ _ _ (Same.new hl) (gs_lst upd_same (hd6 l1 (same_free s hl1)) n2))) (fun e he => by have := (List.cons.inj (List.cons.inj he).2).1; cases this))⟩⟩) (
      bua_cons mono_gt (fun H s Q k => ⟨_, q2, z2, fun l hl => k _ _ (Same.new hl) (gt_tup upd_same (hd6 l (same_free s hl)) (Nat.le_of_ble_eq_true rfl) (all2 g1 gs_e) (two_no fun h => e0 h.2))⟩) (
      bua_cons mono_gt (fun H s Q k => ⟨_, q4, _, q4, nil_ ⟨z2, fun l hl => k _ _ (Same.new hl) (gt_tup upd_same (hd6 l (same_free s hl)) (Nat.le_of_ble_eq_true rfl) (all2 g3 g3) (two_no fun h => new0 h.1))⟩⟩) (
      bua_cons mono_gt (bu_c fun _ => gt_f (gi_int (by decide)) rfl) bua_nil))))))
    refine name_go ?_
    refine seq_addl rfl ?_
    refine bh _ rfl rfl rfl H6 (Same.refl _) _ fun hs2 H7 s7 hl7 gs7 => ?_
    clear bh
    refine ⟨by rw [hl7]; decide, fun l8' hl8 => ?_⟩
    have s8 := s7.trans (Same.new (o := .lst hs2) hl8)
    have e8 : upd H7 l8' (.lst hs2) l8' = some (.lst hs2) := upd_same
    have gs8 : ∀ x ∈ hs2, GT ss (NP p) (upd H7 l8' (.lst hs2)) x := fun x hx => mono_gt _ _ _ (Same.new hl8) (gs7 x hx)
    generalize upd H7 l8' (.lst hs2) = H8 at s8 e8 gs8 ⊢
    refine .lst (s8 _ _ e6) e8 (by rw [hl5, hl7]; decide) fun l9 hl9 => ?_
    have s9 := s8.trans (Same.new (o := .lst (hs ++ hs2)) hl9)
    have e9 : upd H8 l9 (.lst (hs ++ hs2)) l9 = some (.lst (hs ++ hs2)) := upd_same
    have gs9 : ∀ x ∈ hs ++ hs2, GT ss (NP p) (upd H8 l9 (.lst (hs ++ hs2))) x := fun x hx => (List.mem_append.mp hx).elim (fun q => mono_gt _ _ _ s9 (gs6 x q)) (fun q => mono_gt _ _ _ (Same.new hl9) (gs8 x q))
    generalize upd H8 l9 (.lst (hs ++ hs2)) = H9 at s9 e9 gs9 ⊢
    have v9 := penKeep s9 v6
    clear gs8 gs7 s8 s7 hl8 e8 hl9 gs6 e6
    refine ⟨_, rfl, _, rfl, (by show 1 ≤ sizeLine; decide), fun la hla => ⟨_, rfl, z2, fun lb hlb => ⟨(by show 1 ≤ sizeLine; decide), fun lc hlc => ?_⟩⟩⟩
    have sa := Same.new (o := .lst [.str one]) hla
    have va := penKeep sa v9
    have sb := Same.new (o := .tup [.ref la, .str other]) hlb
    have vb := penKeep sb va
    have gb : GT ss (NP p) (upd (upd H9 la (.lst [.str one])) lb (.tup [.ref la, .str other])) (.ref lb) := gt_tup upd_same (Ne.symm (va.ne hlb)) (Nat.le_of_ble_eq_true rfl) (all2 (mono_gs _ _ _ sb (gs_lst upd_same (Ne.symm (v9.ne hla)) n1)) g2) (fun e he => by have := (List.cons.inj he).1; cases this)
    have sc := Same.new (o := .lst [.ref lb]) hlc
    have vc := penKeep sc vb
    have ec : upd (upd (upd H9 la (.lst [.str one])) lb (.tup [.ref la, .str other])) lc (.lst [.ref lb]) lc = some (.lst [.ref lb]) := upd_same
    have gc := mono_gt _ _ _ sc gb
    have s9c := (sa.trans sb).trans sc
    generalize upd (upd (upd H9 la (.lst [.str one])) lb (.tup [.ref la, .str other])) lc (.lst [.ref lb]) = Hc at sc ec gc s9c vc ⊢
    refine .lst (s9c _ _ e9) ec (by rw [List.length_append, hl5, hl7]; show 17 ≤ sizeLine; decide) fun ld hld => ?_
    have sd := Same.new (o := .lst (hs ++ hs2 ++ [.ref lb])) hld
    have ed : upd Hc ld (.lst (hs ++ hs2 ++ [.ref lb])) ld = some (.lst (hs ++ hs2 ++ [.ref lb])) := upd_same
    have nld : ld ≠ p := Ne.symm (vc.ne hld)
    have gd : ∀ x ∈ hs ++ hs2 ++ [.ref lb], GT ss (NP p) (upd Hc ld (.lst (hs ++ hs2 ++ [.ref lb]))) x := fun x hx => (List.mem_append.mp hx).elim (fun q => mono_gt _ _ _ (s9c.trans sd) (gs9 x q)) (fun q => by rw [List.mem_singleton.mp q]; exact mono_gt _ _ _ sd gc)
    have s4d := ((s6.trans s9).trans s9c).trans sd
    generalize upd Hc ld (.lst (hs ++ hs2 ++ [.ref lb])) = Hd_ at sd ed gd s4d ⊢
    have vd := penKeep s4d v4
    have bd := b4.trans (But.of_same s4d)
    refine ⟨_, rfl, p, a, 17, rfl, hP.but bd vd, by decide, by decide, fun r He h0 h1 ve ee => ?_⟩
    obtain ⟨x, hx, mx⟩ := at_mem (m := 17) (xs := hs ++ hs2 ++ [.ref lb]) (by rw [List.length_append, List.length_append, hl5, hl7]; rfl) h0 h1
    exact .lst (.of ((ee ld nld).trans ed)) hx (k x He ((gd x mx).but fun c o n e => (ee c n).trans e) ve (bd.trans (But.of_eq ee)))
end
end K03
namespace K03
open PySem L2
section
variable {P : Program} {w : World} {K : PySem.W.Frag} {mg : Str → Option Value} {base : Heap}
theorem scManyT : FnScope ["_law_things_here", "_law_many", "_law_found", "_law_one", "_law_other"] ["_law_things_here", "_law_many"] (defScope sManyTies) := ⟨rfl, rfl, rfl, by decide +kernel, rfl, by decide +kernel, by decide +kernel⟩
noncomputable def Ti0 (H0 H : Hp) (y : V) : Prop := ∃ (ta : Addr) (e : Str × Str), y = .ref ta ∧ H ta = some (.tup [.str e.1, .str e.2]) ∧ Nm e.1 ∧ Nm e.2 ∧ H0 ta = none
noncomputable def spManyT : Sp := fun vs H Q _ => ∃ (n : Addr) (ss : List Str), vs = [.ref n, .int 401] ∧ H n = some (.lst (List.map V.str ss)) ∧ 21 ≤ ss.length ∧ ss.length ≤ 60 ∧ (∀ s ∈ ss, Nm s) ∧ ∀ l ys H', Same H H' → H' l = some (.lst ys) → H l = none → ys.length = 401 → (∀ y ∈ ys, Ti0 H H' y) → Q (.ref l) H'
theorem ok_manyT {f : Addr} {fd : FuncData} (F : Fun K "_law_many_ties" "_law_many_ties" sManyTies f fd) (B : Blt mg) : FnOk P w K mg base CX0 1 f fd ["_law_things_here", "_law_many"] spManyT := by
  refine F.ok scManyT (fun vs H Q E h => ?_) (fun cdv A outer s H vs Q E hr h => ?_)
  · obtain ⟨n, ss, rfl, _⟩ := h
    rfl
  · obtain ⟨n, ss, rfl, hn, l21, l60, snm, k⟩ := h
    have nd := scManyT.nd
    have sml : (List.map V.str ss).length = ss.length := List.length_map ..
    refine ⟨_, (pss_cons (ps_set (i := 2) nd rfl (Or.inl rfl) (pe_lst pa_nil))
      (pss_cons (ps_for PassesOwn.never rfl (pi_listK K (pv 0)) (pg_name (i := 3) nd rfl (Or.inl rfl)) (pss_one (ps_for PassesOwn.never rfl (pi_listK K (pv 0)) (pg_name (i := 4) nd rfl (Or.inl rfl)) (pss_one (ps_if (pt_cmpR op_ltX (b_len K B (pa_cons (pv 2) pa_nil)) (pv 1) (nomark _)) (pss_one (ps_expr (m_append K (pv 2) (pa_cons (pe_tup (pa_cons (pv 3) (pa_cons (pv 4) pa_nil))) pa_nil)))) pss_nil)))))
      (pss_one (ps_ret (pv 2))))), ?_⟩
    refine ⟨(by show 0 ≤ sizeLine; decide), fun l hl => ?_⟩
    refine ⟨_, rfl, n, rfl, ⟨_, .of (Same.new (o := .lst []) hl _ _ hn)⟩, ?_⟩
    refine for_list (xs := List.map V.str ss) (fun i σ H' => ∃ o3 o4 ys, σ = [some (.ref n), some (.int 401), some (.ref l), o3, o4] ∧ Same H H' ∧ H' l = some (.lst ys) ∧ ys.length = min 401 (i * ss.length) ∧ ∀ y ∈ ys, Ti0 H H' y) ?_ ?_ ?_ ?_
    · exact ⟨none, none, [], rfl, Same.new hl, upd_same, by simp, fun y hy => by cases hy⟩
    · rintro i σ H' _ ⟨o3, o4, ys, rfl, sm, _⟩
      exact .of (sm _ _ hn)
    · rintro i x σ H1 hx ⟨o3, o4, ys, rfl, s1, e1, yl, gy⟩
      obtain ⟨one, h1, rfl⟩ := str_get hx
      have n1 := snm one (List.mem_of_getElem? h1)
      refine ⟨_, rfl, n, rfl, ⟨_, .of (s1 _ _ hn)⟩, ?_⟩
      refine for_list (xs := List.map V.str ss) (fun j σ H' => ∃ o4 ys, σ = [some (.ref n), some (.int 401), some (.ref l), some (.str one), o4] ∧ Same H H' ∧ H' l = some (.lst ys) ∧ ys.length = min 401 (i * ss.length + j) ∧ ∀ y ∈ ys, Ti0 H H' y) ?_ ?_ ?_ ?_
      · exact ⟨o4, ys, rfl, s1, e1, yl, gy⟩
      · rintro j σ H' _ ⟨o4, ys, rfl, sm, _⟩
        exact .of (sm _ _ hn)
      · rintro j x σ H2 hx ⟨o4, ys, rfl, s2, e2, yl, gy⟩
        obtain ⟨other, h2, rfl⟩ := str_get hx
        have n2 := snm other (List.mem_of_getElem? h2)
        refine ⟨_, rfl, _, _, rfl, Or.inl ⟨_, .of e2, rfl⟩, _, rfl, .int ⟨_, rfl, ite2 (fun h => ?_) (fun h => ?_)⟩⟩
        · have h : (ys.length : Int) < 401 := of_decide_eq_true h
          have nl : l ≠ n := fun z => by rw [z, hn] at hl; cases hl
          refine ⟨_, rfl, .inl ⟨rfl, _, .of e2⟩, _, rfl, _, rfl, (by show 2 ≤ sizeLine; decide), fun ta hta => ?_⟩
          have st := Same.new (o := .tup [.str one, .str other]) hta
          have nlt : ta ≠ l := fun z => by rw [z, e2] at hta; cases hta
          have et : upd H2 ta (.tup [.str one, .str other]) ta = some (.tup [.str one, .str other]) := upd_same
          have h0 : H ta = none := same_free s2 hta
          generalize upd H2 ta (.tup [.str one, .str other]) = H3 at st et ⊢
          refine ⟨l, _, _, rfl, rfl, st _ _ e2, small1000 (by omega), ?_⟩
          refine ⟨_, ys ++ [.ref ta], rfl, ?_, upd_same, by rw [List.length_append]; show ys.length + 1 = _; omega, fun y hy => ?_⟩
          · intro b o hb
            rw [upd_ne (ne_of_none hb hl)]
            exact st _ _ (s2 _ _ hb)
          · rcases List.mem_append.mp hy with q | q
            · obtain ⟨tb, e, rfl, hb, m1, m2, hb0⟩ := gy y q
              refine ⟨tb, e, rfl, ?_, m1, m2, hb0⟩
              rw [upd_ne (fun z => by rw [z, e2] at hb; cases hb)]
              exact st _ _ hb
            · rw [List.mem_singleton.mp q]
              exact ⟨ta, (one, other), rfl, by rw [upd_ne nlt]; exact et, n1, n2, h0⟩
        · have h : ¬ (ys.length : Int) < 401 := fun z => h (decide_eq_true z)
          exact ⟨_, ys, rfl, s2, e2, by omega, gy⟩
      · rintro σ H2 ⟨o4, ys, rfl, s2, e2, yl, gy⟩
        rw [sml] at yl
        exact ⟨_, _, ys, rfl, s2, e2, by rw [yl, Nat.succ_mul], gy⟩
    · rintro σ H1 ⟨o3, o4, ys, rfl, s1, e1, yl, gy⟩
      rw [sml] at yl
      have : 441 ≤ ss.length * ss.length := Nat.le_trans (by decide) (Nat.mul_le_mul l21 l21)
      exact ⟨_, rfl, k l ys H1 s1 e1 hl (by omega) gy⟩
end
end K03
namespace K03
open PySem L2
section
variable {P : Program} {w : World} {K : PySem.W.Frag} {mg : Str → Option Value} {base : Heap}
theorem ins_go {P : Hp → V → Prop} {p a : Addr} {σ : St} {H : Hp} {vi vj : Nat} {c : Addr} {xs : List V} {j : Nat} {te : TE} {Qc : VK} (hi : σ[vi]? = some (some (.ref c))) (hj : σ[vj]? = some (some (.int (j : Int)))) (hc : H c = some (.lst xs)) (np : c ≠ p) (v : PenV H p a) (jl : j ≤ xs.length) (xl : xs.length ≤ 500) (mo : Mono P)
    (call : ∀ H1 (R : VK), Same H H1 → (∀ x H2, PenV H2 p a → But p H1 H2 → P H2 x → R x H2) → te σ H1 R)
    (k : ∀ l x H', H' l = some (.lst (xs.take j ++ [x] ++ xs.drop j)) → l ≠ p → P H' x → PenV H' p a → But p H H' → Qc (.ref l) H') :
    (tOp (fun x y H Q => AddR H x y Q) (tOp (fun x y H Q => AddR H x y Q) (tSl (fun x lo hi H Q => SlX K H x lo hi Q) (tVar vi) tNoPart (tPart (tVar vj))) (tLst (tCons te tNil))) (tSl (fun x lo hi H Q => SlX K H x lo hi Q) (tVar vi) (tPart (tVar vj)) tNoPart)) σ H Qc := by
  refine ⟨_, hi, _, hj, _, rfl, .lst (.of hc) fun l1 h1 => ?_⟩
  rw [cutV_to xs j jl]
  have s1 := Same.new (o := .lst (xs.take j)) h1
  have e1 : upd H l1 (.lst (xs.take j)) l1 = some (.lst (xs.take j)) := upd_same
  have n1 : l1 ≠ p := Ne.symm (v.ne h1)
  generalize upd H l1 (.lst (xs.take j)) = H1 at s1 e1 ⊢
  have v1 := penKeep s1 v
  refine call H1 _ s1 fun x H2 v2 b2 px => ?_
  refine ⟨(by show 1 ≤ sizeLine; decide), fun l2 h2 => ?_⟩
  have s3 := Same.new (o := .lst [x]) h2
  have e3 : upd H2 l2 (.lst [x]) l2 = some (.lst [x]) := upd_same
  have n2 : l2 ≠ p := Ne.symm (v2.ne h2)
  generalize upd H2 l2 (.lst [x]) = H3 at s3 e3 ⊢
  have v3 := penKeep s3 v2
  have tl : (xs.take j).length = j := by rw [List.length_take]; omega
  refine .lst (s3 _ _ (b2 _ _ n1 e1)) e3 (Nat.le_of_lt (small1000 (by show _ + 1 ≤ 1000; omega))) fun l4 h4 => ?_
  have s4 := Same.new (o := .lst (xs.take j ++ [x])) h4
  have e4 : upd H3 l4 (.lst (xs.take j ++ [x])) l4 = some (.lst (xs.take j ++ [x])) := upd_same
  generalize upd H3 l4 (.lst (xs.take j ++ [x])) = H4 at s4 e4 ⊢
  have v4 := penKeep s4 v3
  have s24 := s3.trans s4
  have hc4 := s24 _ _ (b2 _ _ np (s1 _ _ hc))
  refine ⟨_, hi, _, hj, _, rfl, .lst (.of hc4) fun l5 h5 => ?_⟩
  rw [cutV_from]
  have s5 := Same.new (o := .lst (xs.drop j)) h5
  have e5 : upd H4 l5 (.lst (xs.drop j)) l5 = some (.lst (xs.drop j)) := upd_same
  generalize upd H4 l5 (.lst (xs.drop j)) = H5 at s5 e5 ⊢
  have v5 := penKeep s5 v4
  refine .lst (s5 _ _ e4) e5 (by rw [List.length_append, List.length_drop]; exact Nat.le_of_lt (small1000 (by show _ + 1 + _ ≤ 1000; omega))) fun l6 h6 => ?_
  have s6 := Same.new (o := .lst (xs.take j ++ [x] ++ xs.drop j)) h6
  have s26 := (s24.trans s5).trans s6
  exact k l6 x _ upd_same (Ne.symm (v5.ne h6)) (mo _ _ _ s26 px) (penKeep s6 v5) ((But.of_same s1).trans (b2.trans (But.of_same s26)))
theorem next_go {D : Ends} {σ : St} {H : Hp} (h : D.nx σ H) : tNext D σ H := h
theorem seq_inv {s r : TS} {D : Ends} {σ : St} {H : Hp} (Inv : St → Hp → Prop) (fin : ∀ σ' H', Inv σ' H' → r D σ' H') (main : ∀ N : St → Hp → Prop, (∀ σ' H', Inv σ' H' → N σ' H') → s { D with nx := N } σ H) : tSeq s r D σ H := main _ fin
theorem ins_mem {xs : List V} {j : Nat} {x y : V} (h : y ∈ xs.take j ++ [x] ++ xs.drop j) : y = x ∨ y ∈ xs := by
  rcases List.mem_append.mp h with q | q
  · rcases List.mem_append.mp q with q | q
    · exact .inr (List.mem_of_mem_take q)
    · exact .inl (List.mem_singleton.mp q)
  · exact .inr (List.mem_of_mem_drop q)
theorem ins_in {xs : List V} {j : Nat} {x : V} : x ∈ xs.take j ++ [x] ++ xs.drop j := List.mem_append.mpr (.inl (List.mem_append.mpr (.inr (by simp))))
theorem ins_len {xs : List V} {j : Nat} {x : V} : (xs.take j ++ [x] ++ xs.drop j).length ≤ xs.length + 1 := by
  rw [List.length_append, List.length_append, List.length_take, List.length_drop]
  show min j xs.length + 1 + _ ≤ _
  omega
theorem ins_dup {xs : List V} {j : Nat} {x : V} (h : x ∈ xs) : ¬ (xs.take j ++ [x] ++ xs.drop j).Nodup := fun nd => by
  rw [← List.take_append_drop j xs] at h
  rw [List.nodup_append, List.nodup_append] at nd
  rcases List.mem_append.mp h with q | q
  · exact nd.1.2.2 x q x (by simp) rfl
  · exact nd.2.2 x (by simp) x q rfl
theorem scSpoiled : FnScope ["_law_pen_here", "_law_things_here", "_law_ties_here", "_law_kind", "_law_at", "_law_to", "_law_names_here"] ["_law_pen_here", "_law_things_here", "_law_ties_here"] (defScope sSpoiled) := ⟨rfl, rfl, rfl, by decide +kernel, rfl, by decide +kernel, by decide +kernel⟩
noncomputable def spSpoiled (K : PySem.W.Frag) : Sp := fun vs H Q _ => ∃ (p a n t : Addr) (ss : List Str) (ts : List (Str × Str)), vs = [.ref p, .ref n, .ref t] ∧ Pen K H p a ∧ H n = some (.lst (List.map V.str ss)) ∧ n ≠ p ∧ ss.length ≤ 60 ∧ ss.Nodup ∧ (∀ s ∈ ss, Nm s) ∧ Tied H t ss ts ∧ t ≠ p ∧
  ∀ lb x y H', H' lb = some (.lst [x, y]) → H lb = none → lb ≠ p → Gy (NQ p lb) H' x → Gy (NQ p lb) H' y → ¬ GW (Mq (NQ p lb) H') x y → PenV H' p a → But p H H' → Q (.ref lb) H'
theorem ok_spoiled {f : Addr} {fd : FuncData} (F : Fun K "_law_spoiled" "_law_spoiled" sSpoiled f fd) (B : Blt mg) (c_law_draw : Cal P w K mg base 1 "_law_draw" ["_law_pen_here", "_law_most"] (spDraw K)) (c_law_names : Cal P w K mg base 2 "_law_names" ["_law_pen_here", "_law_many"] (spNames K)) (c_law_no_row : Cal P w K mg base 2 "_law_no_row" ["_law_pen_here"] (spNoRow K)) (c_law_no_name : Cal P w K mg base 2 "_law_no_name" ["_law_pen_here"] (spNoName K)) (c_law_no_tie : Cal P w K mg base 3 "_law_no_tie" ["_law_pen_here", "_law_things_here"] (spNoTie K)) (c_law_many_ties : Cal P w K mg base 1 "_law_many_ties" ["_law_things_here", "_law_many"] spManyT) :
    FnOk P w K mg base CX0 4 f fd ["_law_pen_here", "_law_things_here", "_law_ties_here"] (spSpoiled K) := by
  refine F.ok scSpoiled (fun vs H Q E h => ?_) (fun cdv A outer s H vs Q E hr h => ?_)
  · obtain ⟨p, a, n, t, ss, ts, rfl, _⟩ := h
    rfl
  · obtain ⟨p, a, n, t, ss, ts, rfl, hP, hn, nnp, h60, snd, snm, hT, ntp, k⟩ := h
    have nd := scSpoiled.nd
    refine ⟨_, (pss_cons (ps_set (i := 3) nd rfl (Or.inl rfl) (pe_cal c_law_draw (hr.mono (by decide)) rfl (pa_cons (pv 0) (pa_cons pe_int pa_nil))))
      (pss_cons (ps_set (i := 4) nd rfl (Or.inl rfl) (pe_cal c_law_draw (hr.mono (by decide)) rfl (pa_cons (pv 0) (pa_cons (pe_op op_addX (b_len K B (pa_cons (pv 1) pa_nil)) pe_int) pa_nil))))
      (pss_cons (ps_set (i := 5) nd rfl (Or.inl rfl) (pe_cal c_law_draw (hr.mono (by decide)) rfl (pa_cons (pv 0) (pa_cons (pe_op op_addX (b_len K B (pa_cons (pv 2) pa_nil)) pe_int) pa_nil))))
      (pss_cons (ps_if (pt_cmpR (op_eqX hr.units) (pv 3) pe_int (nomark _)) (pss_one (ps_ret (pe_lst (pa_cons (pe_cal c_law_no_row (hr.mono (by decide)) rfl (pa_cons (pv 0) pa_nil)) (pa_cons (pv 2) pa_nil))))) pss_nil)
      (pss_cons (ps_if (pt_cmpR (op_eqX hr.units) (pv 3) pe_int (nomark _)) (pss_one (ps_ret (pe_lst (pa_cons (pv 1) (pa_cons (pe_cal c_law_no_row (hr.mono (by decide)) rfl (pa_cons (pv 0) pa_nil)) pa_nil))))) pss_nil)
      (pss_cons (ps_if (pt_cmpR (op_eqX hr.units) (pv 3) pe_int (nomark _)) (pss_one (ps_ret (pe_lst (pa_cons (pe_op op_addX (pe_op op_addX (pe_slice (sl_K K) (pv 1) po_none (po_some (pv 4))) (pe_lst (pa_cons (pe_cal c_law_no_name (hr.mono (by decide)) rfl (pa_cons (pv 0) pa_nil)) pa_nil))) (pe_slice (sl_K K) (pv 1) (po_some (pv 4)) po_none)) (pa_cons (pv 2) pa_nil))))) pss_nil)
      (pss_cons (ps_if (PW.pt (pw_and (pt_cmpR (op_eqX hr.units) (pv 3) pe_int (nomark _)) (pw_and1 (pt_cmpR op_gt (b_len K B (pa_cons (pv 1) pa_nil)) pe_int (nomark _))))) (pss_one (ps_ret (pe_lst (pa_cons (pe_op op_addX (pe_op op_addX (pe_slice (sl_K K) (pv 1) po_none (po_some (pv 4))) (pe_lst (pa_cons (pe_ix (ix_X K hr.units) (pv 1) (pe_cal c_law_draw (hr.mono (by decide)) rfl (pa_cons (pv 0) (pa_cons (b_len K B (pa_cons (pv 1) pa_nil)) pa_nil))) (fun _ _ => rfl)) pa_nil))) (pe_slice (sl_K K) (pv 1) (po_some (pv 4)) po_none)) (pa_cons (pv 2) pa_nil))))) pss_nil)
      (pss_cons (ps_if (pt_cmpR (op_eqX hr.units) (pv 3) pe_int (nomark _)) (pss_one (ps_ret (pe_lst (pa_cons (pe_cal c_law_names (hr.mono (by decide)) rfl (pa_cons (pv 0) (pa_cons pe_int pa_nil))) (pa_cons (pe_lst pa_nil) pa_nil))))) pss_nil)
      (pss_cons (ps_if (pt_cmpR (op_eqX hr.units) (pv 3) pe_int (nomark _)) (pss_cons (ps_set (i := 6) nd rfl (Or.inl rfl) (pe_cal c_law_names (hr.mono (by decide)) rfl (pa_cons (pv 0) (pa_cons (pe_op op_addX pe_int (pe_cal c_law_draw (hr.mono (by decide)) rfl (pa_cons (pv 0) (pa_cons pe_int pa_nil)))) pa_nil))))
      (pss_one (ps_ret (pe_lst (pa_cons (pv 6) (pa_cons (pe_cal c_law_many_ties (hr.mono (by decide)) rfl (pa_cons (pv 6) (pa_cons pe_int pa_nil))) pa_nil)))))) pss_nil)
      (pss_cons (ps_if (PW.pt (pw_and (pt_cmpR (op_eqX hr.units) (pv 3) pe_int (nomark _)) (pw_and1 (pt_cmpR op_gt (b_len K B (pa_cons (pv 2) pa_nil)) pe_int (nomark _))))) (pss_one (ps_ret (pe_lst (pa_cons (pv 1) (pa_cons (pe_op op_addX (pe_op op_addX (pe_slice (sl_K K) (pv 2) po_none (po_some (pv 5))) (pe_lst (pa_cons (pe_ix (ix_X K hr.units) (pv 2) (pe_cal c_law_draw (hr.mono (by decide)) rfl (pa_cons (pv 0) (pa_cons (b_len K B (pa_cons (pv 2) pa_nil)) pa_nil))) (fun _ _ => rfl)) pa_nil))) (pe_slice (sl_K K) (pv 2) (po_some (pv 5)) po_none)) pa_nil))))) pss_nil)
      (pss_one (ps_ret (pe_lst (pa_cons (pv 1) (pa_cons (pe_op op_addX (pe_op op_addX (pe_slice (sl_K K) (pv 2) po_none (po_some (pv 5))) (pe_lst (pa_cons (pe_cal c_law_no_tie (hr.mono (by decide)) rfl (pa_cons (pv 0) (pa_cons (pv 1) pa_nil))) pa_nil))) (pe_slice (sl_K K) (pv 2) (po_some (pv 5)) po_none)) pa_nil))))))))))))))), ?_⟩
    have sml : (List.map V.str ss).length = ss.length := List.length_map ..
    obtain ⟨ysP, hpP⟩ := penAt hP.2
    obtain ⟨refs, ht, rp⟩ := hT.at_
    have rlen := rp.len
    rw [List.length_map] at rlen
    have few := hT.few
    have fin : ∀ x y H1, PenV H1 p a → But p H H1 → Gy (NP p) H1 x → Gy (NP p) H1 y → ¬ GW (Mq (NP p) H1) x y → ([x, y].length ≤ sizeLine ∧ ∀ l, H1 l = none → Q (.ref l) (upd H1 l (.lst [x, y]))) := fun x y H1 v1 b1 gx gy bad => ⟨by show 2 ≤ sizeLine; decide, fun l hl => by
      have nl : l ≠ p := Ne.symm (v1.ne hl)
      have sn := Same.new (o := .lst [x, y]) hl
      have sb : Same (Mq (NP p) H1) (Mq (NQ p l) (upd H1 l (.lst [x, y]))) := (Mq.ban hl).trans (Mq.same sn)
      exact k l x y _ upd_same (b1.free nl hl) nl ((gx.ban hl).but (ButN.of_same sn)) ((gy.ban hl).but (ButN.of_same sn)) (fun z => bad (gw_back (gx.rw.imp fun _ q => q.1) gy.rw sb z)) (penKeep sn v1) (b1.trans (But.of_same sn))⟩
    have rowN : ∀ H1, But p H H1 → H1 n = some (.lst (List.map V.str ss)) ∧ SqA (Mq (NP p) H1) n (List.map V.str ss) ∧ Gy (NP p) H1 (.ref n) := fun H1 b1 => by
      have h1 := b1 _ _ nnp hn
      refine ⟨h1, .inl (Mq.at h1 nnp), gy_sq (.inl (Mq.at h1 nnp)) (by rw [sml]; omega) fun y hy => ?_⟩
      obtain ⟨z, hz, rfl⟩ := List.mem_map.mp hy
      exact gi_nm (snm z hz)
    have giT : ∀ H1, But p H H1 → ∀ y ∈ refs, Gi (NP p) H1 y := fun H1 b1 y hy => by
      obtain ⟨j, hj⟩ := List.mem_iff_getElem?.mp hy
      obtain ⟨e, ta, he, rfl, hta⟩ := pair_get rp hj
      have nta : ta ≠ p := fun z => by rw [z, hpP] at hta; cases hta
      have hi := hT.inn e (List.mem_of_getElem? he)
      exact gi_sq (.inr (Mq.at (b1 _ _ nta hta) nta)) (Nat.le_of_ble_eq_true rfl) (all2 (gs_nm (snm _ hi.1)) (gs_nm (snm _ hi.2)))
    have rowT : ∀ H1, But p H H1 → H1 t = some (.lst refs) ∧ SqA (Mq (NP p) H1) t refs ∧ Gy (NP p) H1 (.ref t) := fun H1 b1 => by
      have h1 := b1 _ _ ntp ht
      exact ⟨h1, .inl (Mq.at h1 ntp), gy_sq (.inl (Mq.at h1 ntp)) (by omega) (giT H1 b1)⟩
    refine ⟨_, rfl, p, a, 9, rfl, hP, by decide, by decide, fun kind H1 k0 k1 v1 e1 => ?_⟩
    have b1 : But p H H1 := But.of_eq e1
    refine ⟨_, rfl, _, rfl, _, _, rfl, Or.inl ⟨_, .of (rowN H1 b1).1, rfl⟩, .int (nil_ ⟨p, a, _, rfl, hP.but b1 v1, by rw [sml]; omega, by rw [sml]; omega, fun at_ H2 a0 a1 v2 e2 => ?_⟩)⟩
    have b2 := b1.trans (But.of_eq e2)
    refine ⟨_, rfl, _, rfl, _, _, rfl, Or.inl ⟨_, .of (rowT H2 b2).1, rfl⟩, .int (nil_ ⟨p, a, _, rfl, hP.but b2 v2, by omega, by omega, fun to_ H3 t0 t1 v3 e3 => ?_⟩)⟩
    have b3 := b2.trans (But.of_eq e3)
    obtain ⟨ja, rfl⟩ := Int.eq_ofNat_of_zero_le a0
    obtain ⟨jt, rfl⟩ := Int.eq_ofNat_of_zero_le t0
    have ja1 : ja ≤ ss.length := by rw [sml] at a1; omega
    have jt1 : jt ≤ refs.length := by omega
    clear a0 a1 t0 t1 v1 v2 e1 e2 e3 b1 b2
    have gyx : ∀ H4 l x, But p H H4 → H4 l = some (.lst ((List.map V.str ss).take ja ++ [x] ++ (List.map V.str ss).drop ja)) → l ≠ p → Gi (NP p) H4 x → SqA (Mq (NP p) H4) l ((List.map V.str ss).take ja ++ [x] ++ (List.map V.str ss).drop ja) ∧ Gy (NP p) H4 (.ref l) := fun H4 l x b4 hl nl gx => by
      refine ⟨.inl (Mq.at hl nl), gy_sq (.inl (Mq.at hl nl)) (Nat.le_trans ins_len (by rw [sml]; omega)) fun y hy => ?_⟩
      rcases ins_mem hy with rfl | q
      · exact gx
      · obtain ⟨z, hz, rfl⟩ := List.mem_map.mp q
        exact gi_nm (snm z hz)
    have gyt : ∀ H4 l x, But p H H4 → H4 l = some (.lst (refs.take jt ++ [x] ++ refs.drop jt)) → l ≠ p → Gi (NP p) H4 x → SqA (Mq (NP p) H4) l (refs.take jt ++ [x] ++ refs.drop jt) ∧ Gy (NP p) H4 (.ref l) := fun H4 l x b4 hl nl gx => by
      refine ⟨.inl (Mq.at hl nl), gy_sq (.inl (Mq.at hl nl)) (Nat.le_trans ins_len (by omega)) fun y hy => ?_⟩
      rcases ins_mem hy with rfl | q
      · exact gx
      · exact giT H4 b4 y q
    refine ⟨_, rfl, .sc rfl ⟨_, rfl, ite2 (fun _ => ?_) (fun _ => ?_)⟩⟩
    · refine ⟨_, rfl, nil_ ⟨p, a, rfl, hP.but b3 v3, fun x H4 gx v4 b4 => ?_⟩⟩
      have b := b3.trans b4
      exact ⟨_, rfl, nil_ (fin x (.ref t) H4 v4 b (gy_no gx.1 gx.2) (rowT H4 b).2.2 (bad0 gx.2))⟩
    refine ⟨_, rfl, .sc rfl ⟨_, rfl, ite2 (fun _ => ?_) (fun _ => ?_)⟩⟩
    · refine ⟨_, rfl, _, rfl, nil_ ⟨p, a, rfl, hP.but b3 v3, fun x H4 gx v4 b4 => nil_ ?_⟩⟩
      have b := b3.trans b4
      exact fin (.ref n) x H4 v4 b (rowN H4 b).2.2 (gy_no gx.1 gx.2) (bad1 gx.2)
    refine ⟨_, rfl, .sc rfl ⟨_, rfl, ite2 (fun _ => ?_) (fun _ => ?_)⟩⟩
    · refine ins_go (P := GM (NP p)) (vi := 1) (vj := 4) rfl rfl (rowN H3 b3).1 nnp v3 (by rw [sml]; exact ja1) (by rw [sml]; omega) mono_gm (fun H4 R s4 kk => ⟨_, rfl, nil_ ⟨p, a, rfl, hP.but (b3.trans (But.of_same s4)) (penKeep s4 v3), fun x H5 gx v5 b5 => kk x H5 v5 b5 gx⟩⟩) fun l x H4 hl nl gx v4 b4 => ?_
      have b := b3.trans b4
      obtain ⟨g1, g2⟩ := gyx H4 l x b hl nl gx.1
      exact ⟨_, rfl, nil_ (fin (.ref l) (.ref t) H4 v4 b g2 (rowT H4 b).2.2 (bad2 g1 ins_in gx.2))⟩
    refine next_go ?_
    dsimp only
    refine seq_inv (fun σ H' => σ = [some (.ref p), some (.ref n), some (.ref t), some (.int kind), some (.int (ja : Int)), some (.int (jt : Int)), none] ∧ H3 = H') ?rest fun N hN => ?_
    case rest =>
      rintro σ H' ⟨rfl, rfl⟩
      refine ⟨_, rfl, .sc rfl ⟨_, rfl, ite2 (fun _ => ?_) (fun _ => ?_)⟩⟩
      · refine ⟨_, rfl, p, a, 61, rfl, hP.but b3 v3, by decide, fun ln ns H4 nl nnd nnm hln hln0 nlnp v4 b4 => ?_⟩
        refine ⟨(by show 0 ≤ sizeLine; decide), fun le hle => nil_ ?_⟩
        have se := Same.new (o := .lst []) hle
        have nle : le ≠ p := Ne.symm (v4.ne hle)
        have ee : upd H4 le (.lst []) le = some (.lst []) := upd_same
        generalize upd H4 le (.lst []) = H5 at se ee ⊢
        have h5 := se _ _ hln
        have nsl : (List.map V.str ns).length = 61 := by rw [List.length_map]; exact nl
        refine fin (.ref ln) (.ref le) H5 (penKeep se v4) (b3.trans (b4.trans (But.of_same se))) (gy_sq (.inl (Mq.at h5 nlnp)) (by omega) fun y hy => ?_) (gy_sq (.inl (Mq.at ee nle)) (by show 0 ≤ 420; decide) fun y hy => by cases hy) (bad4 (.inl (Mq.at h5 nlnp)) (by omega))
        obtain ⟨z, hz, rfl⟩ := List.mem_map.mp hy
        exact gi_nm (nnm z hz)
      refine ⟨_, rfl, .sc rfl ⟨_, rfl, ite2 (fun _ => ?_) (fun _ => ?_)⟩⟩
      · refine ⟨_, rfl, _, rfl, p, a, 40, rfl, hP.but b3 v3, by decide, by decide, fun r H4 r0 r1 v4 e4 => ?_⟩
        obtain ⟨jr, rfl⟩ := Int.eq_ofNat_of_zero_le r0
        have b4 := b3.trans (But.of_eq e4)
        refine .int (nil_ ⟨p, a, 21 + jr, (by show [V.ref p, V.int (21 + (jr : Int))] = [V.ref p, V.int ((21 + jr : Nat) : Int)]; rw [Int.natCast_add]; rfl), hP.but b4 v4, by omega, fun ln ns H5 nl nnd nnm hln hln0 nlnp v5 b5 => ?_⟩)
        refine ⟨_, rfl, _, rfl, ln, ns, rfl, hln, by omega, by omega, nnm, fun l ys H6 s6 hl hl0 yl ti => nil_ ?_⟩
        have v6 := penKeep s6 v5
        have nl6 : l ≠ p := Ne.symm (v5.ne hl0)
        have h6 := s6 _ _ hln
        refine fin (.ref ln) (.ref l) H6 v6 (b4.trans (b5.trans (But.of_same s6))) (gy_sq (.inl (Mq.at h6 nlnp)) (by rw [List.length_map]; omega) fun y hy => ?_) (gy_sq (.inl (Mq.at hl nl6)) (by omega) fun y hy => ?_) (bad5 (.inl (Mq.at hl nl6)) (by omega))
        · obtain ⟨z, hz, rfl⟩ := List.mem_map.mp hy
          exact gi_nm (nnm z hz)
        · obtain ⟨ta, e, rfl, hta, m1, m2, h0⟩ := ti y hy
          exact gi_sq (.inr (Mq.at hta (Ne.symm (v5.ne h0)))) (Nat.le_of_ble_eq_true rfl) (all2 (gs_nm m1) (gs_nm m2))
      refine next_go ?_
      dsimp only
      refine seq_inv (fun σ H' => σ = [some (.ref p), some (.ref n), some (.ref t), some (.int kind), some (.int (ja : Int)), some (.int (jt : Int)), none] ∧ H3 = H') ?rest fun N hN => ?_
      case rest =>
        rintro σ H' ⟨rfl, rfl⟩
        refine ⟨_, rfl, ?_⟩
        refine ins_go (P := GT ss (NP p)) (vi := 2) (vj := 5) rfl rfl (rowT H3 b3).1 ntp v3 jt1 (by omega) mono_gt (fun H4 R s4 kk => ⟨_, rfl, _, rfl, nil_ ⟨p, a, n, ss, rfl, hP.but (b3.trans (But.of_same s4)) (penKeep s4 v3), (rowN H4 (b3.trans (But.of_same s4))).1, nnp, h60, snm, fun x H5 gx v5 b5 => kk x H5 v5 b5 gx⟩⟩) fun l x H4 hl nl gx v4 b4 => nil_ ?_
        have b := b3.trans b4
        obtain ⟨g1, g2⟩ := gyt H4 l x b hl nl gx.1
        exact fin (.ref n) (.ref l) H4 v4 b (rowN H4 b).2.2 g2 (bad7 (rowN H4 b).2.1 g1 ins_in gx.2)
      refine ⟨_, rfl, .sc rfl ⟨_, rfl, ite2 (fun _ => ?_) (fun _ => iteF (hN _ _ ⟨rfl, rfl⟩))⟩⟩
      refine ⟨_, rfl, _, _, rfl, Or.inl ⟨_, .of (rowT H3 b3).1, rfl⟩, _, _, rfl, rfl, _, rfl, ite2 (fun h => ?_) (fun _ => ?_)⟩
      · have h : (0 : Int) < (refs.length : Nat) := of_decide_eq_true h
        refine ⟨_, rfl, ?_⟩
        refine ins_go (P := fun _ x => x ∈ refs) (vi := 2) (vj := 5) rfl rfl (rowT H3 b3).1 ntp v3 jt1 (by omega) (fun _ _ _ _ q => q) (fun H4 R s4 kk => ?_) fun l x H4 hl nl gx v4 b4 => nil_ ?_
        · have b4 := b3.trans (But.of_same s4)
          refine ⟨_, rfl, _, rfl, _, rfl, _, _, rfl, Or.inl ⟨_, .of (rowT H4 b4).1, rfl⟩, nil_ ⟨p, a, _, rfl, hP.but b4 (penKeep s4 v3), by omega, by omega, fun r H5 r0 r1 v5 e5 => ?_⟩⟩
          obtain ⟨x, hx, mx⟩ := at_mem (m := refs.length) rfl r0 r1
          exact .lst (.of ((e5 t ntp).trans (rowT H4 b4).1)) hx (kk x H5 v5 (But.of_eq e5) mx)
        · have b := b3.trans b4
          obtain ⟨g1, g2⟩ := gyt H4 l x b hl nl (giT H4 b x gx)
          exact fin (.ref n) (.ref l) H4 v4 b (rowN H4 b).2.2 g2 (bad6 g1 (ins_dup gx))
      · exact hN _ _ ⟨rfl, rfl⟩
    refine ⟨_, rfl, .sc rfl ⟨_, rfl, ite2 (fun _ => ?_) (fun _ => iteF (hN _ _ ⟨rfl, rfl⟩))⟩⟩
    · refine ⟨_, rfl, _, _, rfl, Or.inl ⟨_, .of (rowN H3 b3).1, rfl⟩, _, _, rfl, rfl, _, rfl, ite2 (fun h => ?_) (fun _ => ?_)⟩
      · have h : (0 : Int) < ((List.map V.str ss).length : Nat) := of_decide_eq_true h
        rw [sml] at h
        refine ins_go (P := fun _ x => x ∈ List.map V.str ss) (vi := 1) (vj := 4) rfl rfl (rowN H3 b3).1 nnp v3 (by rw [sml]; exact ja1) (by rw [sml]; omega) (fun _ _ _ _ q => q) (fun H4 R s4 kk => ?_) fun l x H4 hl nl gx v4 b4 => ?_
        · have b4 := b3.trans (But.of_same s4)
          refine ⟨_, rfl, _, rfl, _, rfl, _, _, rfl, Or.inl ⟨_, .of (rowN H4 b4).1, rfl⟩, nil_ ⟨p, a, _, rfl, hP.but b4 (penKeep s4 v3), by rw [sml]; omega, by rw [sml]; omega, fun r H5 r0 r1 v5 e5 => ?_⟩⟩
          obtain ⟨x, hx, mx⟩ := at_mem (m := ss.length) sml r0 (by rw [sml] at r1; exact r1)
          exact .lst (.of ((e5 n nnp).trans (rowN H4 b4).1)) hx (kk x H5 v5 (But.of_eq e5) mx)
        · have b := b3.trans b4
          obtain ⟨z, hz, rfl⟩ := List.mem_map.mp gx
          obtain ⟨g1, g2⟩ := gyx H4 l _ b hl nl (gi_nm (snm z hz))
          exact ⟨_, rfl, nil_ (fin (.ref l) (.ref t) H4 v4 b g2 (rowT H4 b).2.2 (bad3 g1 (ins_dup gx)))⟩
      · exact hN _ _ ⟨rfl, rfl⟩
end
end K03
namespace K03
open PySem L2
section
variable {P : Program} {w : World} {K : PySem.W.Frag} {mg : Str → Option Value} {base : Heap}
noncomputable def spAlone (ec : Str → Addr) : Sp := fun vs H Q _ => ∃ (a : Addr) (dd : Option Addr), vs = [.ref a] ∧ H a = some (xObj a (ec "NoWeb") dd) ∧ ∀ H', Same H H' → Q (.bl true) H'
theorem scAlone : FnScope ["_law_caught"] ["_law_caught"] (defScope sAlone) := ⟨rfl, rfl, rfl, by decide +kernel, rfl, by decide +kernel, by decide +kernel⟩
theorem ok_alone {f : Addr} {fd : FuncData} {ec : Str → Addr} (F : Fun K "_law_alone" "_law_alone" sAlone f fd) (B : Blt mg) (Er : Errs K mg base ec excL excC) : FnOk P w K mg base CX0 1 f fd ["_law_caught"] (spAlone ec) := by
  refine F.ok scAlone (fun vs H Q E h => ?_) (fun cdv A outer s H vs Q E hr h => ?_)
  · obtain ⟨a, dd, rfl, _⟩ := h
    rfl
  · obtain ⟨a, dd, rfl, ha, k⟩ := h
    have nd := scAlone.nd
    refine ⟨_, (pss_cons (ps_if (PW.pt (pw_or (pt_not (pt_val (b_isx K B (pa_cons (pv 0) (pa_cons (pe_glob (v := .ref (ec "NoWeb")) rfl (Er.b "NoWeb" (by decide)) rfl) pa_nil))))) (pw_or1 (pt_not (pt_val (b_isx K B (pa_cons (pv 0) (pa_cons (pe_bltn (v := .ty "ValueError") rfl Er.nv b_ValueError rfl) pa_nil)))))))) (pss_one (ps_ret pe_bl)) pss_nil)
      (pss_cons (ps_if (pt_val (b_isxT K B (pa_cons (pv 0) (pa_cons (pe_tup (pa_cons (pe_glob (v := .ref (ec "Apart")) rfl (Er.b "Apart" (by decide)) rfl) (pa_cons (pe_glob (v := .ref (ec "Clash")) rfl (Er.b "Clash" (by decide)) rfl) (pa_cons (pe_glob (v := .ref (ec "Full")) rfl (Er.b "Full" (by decide)) rfl) (pa_cons (pe_glob (v := .ref (ec "NoDeed")) rfl (Er.b "NoDeed" (by decide)) rfl) (pa_cons (pe_glob (v := .ref (ec "NoHouse")) rfl (Er.b "NoHouse" (by decide)) rfl) (pa_cons (pe_glob (v := .ref (ec "NoOrder")) rfl (Er.b "NoOrder" (by decide)) rfl) (pa_cons (pe_glob (v := .ref (ec "NoRedo")) rfl (Er.b "NoRedo" (by decide)) rfl) (pa_cons (pe_glob (v := .ref (ec "NoRow")) rfl (Er.b "NoRow" (by decide)) rfl) (pa_cons (pe_glob (v := .ref (ec "NoText")) rfl (Er.b "NoText" (by decide)) rfl) (pa_cons (pe_glob (v := .ref (ec "NoTie")) rfl (Er.b "NoTie" (by decide)) rfl) pa_nil star_n) star_n) star_n) star_n) star_n) star_n) star_n) star_n) star_n) star_n)) pa_nil)))) (pss_one (ps_ret pe_bl)) pss_nil)
      (pss_one (ps_ret (pe_not (b_isxT K B (pa_cons (pv 0) (pa_cons (pe_tup (pa_cons (pe_glob (v := .ref (ec "NoUndo")) rfl (Er.b "NoUndo" (by decide)) rfl) (pa_cons (pe_glob (v := .ref (ec "NoUnit")) rfl (Er.b "NoUnit" (by decide)) rfl) (pa_cons (pe_glob (v := .ref (ec "NoWant")) rfl (Er.b "NoWant" (by decide)) rfl) (pa_cons (pe_glob (v := .ref (ec "NoWeights")) rfl (Er.b "NoWeights" (by decide)) rfl) (pa_cons (pe_glob (v := .ref (ec "Ring")) rfl (Er.b "Ring" (by decide)) rfl) (pa_cons (pe_glob (v := .ref (ec "TooMany")) rfl (Er.b "TooMany" (by decide)) rfl) (pa_cons (pe_glob (v := .ref (ec "Twice")) rfl (Er.b "Twice" (by decide)) rfl) (pa_cons (pe_glob (v := .ref (ec "Within")) rfl (Er.b "Within" (by decide)) rfl) pa_nil star_n) star_n) star_n) star_n) star_n) star_n) star_n) star_n)) pa_nil)))))))), ?_⟩
    have fN := Er.f "NoWeb" (by decide)
    refine ⟨_, rfl, a, ec "NoWeb", dd, _, .ref (ec "NoWeb"), true, rfl, ha, fN, fun v hv => hv, (Er.kit "NoWeb" (by decide) (by decide) "NoWeb" (by decide)).trans (by decide), ?_⟩
    refine ⟨true, rfl, ?_⟩
    refine ⟨_, rfl, a, ec "NoWeb", dd, _, .type "ValueError", true, rfl, ha, fN, fun v hv => hv, Er.val "NoWeb" (by decide), ?_⟩
    refine ⟨true, rfl, ?_⟩
    refine ⟨_, rfl, (by show 10 ≤ sizeLine; decide), fun t1 h1 => ?_⟩
    have s1 := Same.new (o := .tup ([ec "Apart", ec "Clash", ec "Full", ec "NoDeed", ec "NoHouse", ec "NoOrder", ec "NoRedo", ec "NoRow", ec "NoText", ec "NoTie"].map V.ref)) h1
    refine ⟨a, ec "NoWeb", dd, t1, (["Apart", "Clash", "Full", "NoDeed", "NoHouse", "NoOrder", "NoRedo", "NoRow", "NoText", "NoTie"] : List Str).map ec, false, rfl, s1 _ _ ha, upd_same, fN, Er.none_of (by decide) (by decide) (by decide), ?_⟩
    refine ⟨false, rfl, ?_⟩
    refine ⟨_, rfl, (by show 8 ≤ sizeLine; decide), fun t2 h2 => ?_⟩
    have s2 := Same.new (o := .tup ([ec "NoUndo", ec "NoUnit", ec "NoWant", ec "NoWeights", ec "Ring", ec "TooMany", ec "Twice", ec "Within"].map V.ref)) h2
    exact ⟨a, ec "NoWeb", dd, t2, (["NoUndo", "NoUnit", "NoWant", "NoWeights", "Ring", "TooMany", "Twice", "Within"] : List Str).map ec, false, rfl, s2 _ _ (s1 _ _ ha), upd_same, fN, Er.none_of (by decide) (by decide) (by decide), _, rfl, k _ fun b u e => s2 _ _ (s1 _ _ e)⟩
noncomputable def spRefused : Sp := fun vs H Q _ => ∃ x y, vs = [x, y] ∧ Rw Thg H x ∧ Rw (Rw Thg) H y ∧ Sh 400000 4 H x ∧ Sh 400000 4 H y ∧ ¬ GW H x y ∧ ∀ H', Same H H' → Q (.bl true) H'
theorem scRefused : FnScope ["_law_things_here", "_law_ties_here", "_law_kept", "_law_caught", "e"] ["_law_things_here", "_law_ties_here"] (defScope sRefused) := ⟨rfl, rfl, rfl, by decide +kernel, rfl, by decide +kernel, by decide +kernel⟩
theorem ok_refused {f : Addr} {fd : FuncData} {ec : Str → Addr} (F : Fun K "_law_refused" "_law_refused" sRefused f fd) (B : Blt mg) (Er : Errs K mg base ec excL excC) (c_law_alone : Cal P w K mg base 1 "_law_alone" ["_law_caught"] (spAlone ec)) (xweb_of : CalX P w K mg base 5 "web_of" ["things", "ties"] (spWebX ec)) : FnOk P w K mg base CX0 6 f fd ["_law_things_here", "_law_ties_here"] spRefused := by
  refine F.ok scRefused (fun vs H Q E h => ?_) (fun cdv A outer s H vs Q E hr h => ?_)
  · obtain ⟨x, y, rfl, _⟩ := h
    rfl
  · obtain ⟨x, y, rfl, rx, ry, ⟨d1, r1, sv1⟩, ⟨d2, r2, sv2⟩, bad, k⟩ := h
    have nd := scRefused.nd
    obtain ⟨bmD, xD, hDb, _⟩ := Er.at_ "OrderError" (by decide)
    obtain ⟨bmN, xN, _, hin⟩ := Er.at_ "NoWeb" (by decide)
    have SV : Sv (.list [d1, d2]) (2 + 2 * (400000 + 2)) 5 := Sv.list (n := 400000) (k := 4) (fun d hd => by
      rcases List.mem_cons.mp hd with rfl | hd
      · exact sv1
      · rw [List.mem_singleton.mp hd]; exact sv2) (Nat.le_refl 2)
    have ln : (PyData.list [d1, d2]).shown.length ≤ sizeLine := Nat.le_trans SV.ln (by decide)
    have dp : (PyData.list [d1, d2]).depth ≤ 16 := Nat.le_trans SV.dp (by decide)
    refine ⟨_, (pss_cons (ps_set (i := 2) nd rfl (Or.inl rfl) (b_reprD hr.gd hr.units B (pa_cons (pe_lst (pa_cons (pv 0) (pa_cons (pv 1) pa_nil))) pa_nil)))
      (pss_cons (ps_set (i := 3) nd rfl (Or.inl rfl) pe_non)
      (pss_cons (ps_tryC (i := 4) xweb_of (hr.mono (by decide)) rfl (fun _ => (pa_cons (pv 0) (pa_cons (pv 1) pa_nil))) rfl rfl rfl (Er.b "OrderError" (by decide)) xD hDb nd rfl rfl (fun _ _ => (pss_one (ps_set (i := 3) nd rfl (Or.inl rfl) (pv 4)))))
      (pss_one (ps_ret (pe_and (pe_cal c_law_alone (hr.mono (by decide)) rfl (pa_cons (pv 3) pa_nil)) (pe_one (pe_cmpR (op_eqX hr.units) (b_reprD hr.gd hr.units B (pa_cons (pe_lst (pa_cons (pv 0) (pa_cons (pv 1) pa_nil))) pa_nil)) (pv 2) (nomark _))))))))), ?_⟩
    refine ⟨_, rfl, _, rfl, (by show 2 ≤ sizeLine; decide), fun lk hlk => ?_⟩
    have s1 := Same.new (o := .lst [x, y]) hlk
    have e1 : upd H lk (.lst [x, y]) lk = some (.lst [x, y]) := upd_same
    generalize upd H lk (.lst [x, y]) = H1 at s1 e1 ⊢
    refine nil_ ⟨lk, .list [d1, d2], rfl, Or.inl ⟨_, [d1, d2], e1, .cons (r1.same s1) (.cons (r2.same s1) .nil), rfl, by simp⟩, SV.sb, dp, ln, ?_⟩
    refine ⟨_, rfl, _, rfl, x, y, rfl, rx.same mono_thg s1, ry.same mono_rt s1, fun z => bad (gw_back rx ry s1 z), fun H2 s2 => ⟨ec "NoWeb", bmN, rfl, xN, hin, fun a ha => ?_⟩⟩
    have s3 := s2.trans (Same.new (o := xObj a (ec "NoWeb") none) ha)
    refine ⟨_, rfl, ?_⟩
    refine ⟨_, rfl, a, none, rfl, upd_same, fun H4 s4 => ⟨_, rfl, ite2 (fun _ => ?_) (fun h => absurd rfl h)⟩⟩
    have s5 := (s1.trans s3).trans s4
    refine ⟨_, rfl, _, rfl, (by show 2 ≤ sizeLine; decide), fun lm hlm => ?_⟩
    have s6 := s5.trans (Same.new (o := .lst [x, y]) hlm)
    have e6 : upd H4 lm (.lst [x, y]) lm = some (.lst [x, y]) := upd_same
    generalize upd H4 lm (.lst [x, y]) = H6 at s6 e6 ⊢
    refine nil_ ⟨lm, .list [d1, d2], rfl, Or.inl ⟨_, [d1, d2], e6, .cons (r1.same s6) (.cons (r2.same s6) .nil), rfl, by simp⟩, SV.sb, dp, ln, ?_⟩
    refine ⟨_, rfl, .sc rfl ?_⟩
    show Q (.bl (decide (V.str (PyData.list [d1, d2]).shown = V.str (PyData.list [d1, d2]).shown))) _
    rw [decide_eq_true rfl]
    exact k _ s6
end
end K03
namespace K03
open PySem L2
section
variable {P : Program} {w : World} {K : PySem.W.Frag} {mg : Str → Option Value} {base : Heap}
theorem canLay_pairs : ∀ ts : List (Str × Str), (∀ e ∈ ts, Nm e.1 ∧ Nm e.2) → PyData.canLayAll0 (ts.map pairD) = true
  | [], _ => rfl
  | e :: ts, h => by
    show (PyData.canLay0 (pairD e) && PyData.canLayAll0 (ts.map pairD)) = true
    rw [canLay_pairs ts fun x hx => h x (List.mem_cons_of_mem _ hx)]
    have := h e (by simp)
    show ((PyData.canLay0 (.str e.1) && (PyData.canLay0 (.str e.2) && true)) && true) = true
    rw [canLay_nm this.1, canLay_nm this.2]; rfl
theorem depth_pairs : ∀ ts : List (Str × Str), PyData.depthAll (ts.map pairD) ≤ 1
  | [] => by decide
  | e :: es => by
    show max (PyData.depth (pairD e)) (PyData.depthAll (es.map pairD)) ≤ 1
    have h1 : PyData.depth (pairD e) = 1 := rfl
    have h2 := depth_pairs es
    omega
theorem shp_web {ss : List Str} {ts : List (Str × Str)} (h : ∀ s ∈ ss, Nm s) (g : ∀ e ∈ ts, Nm e.1 ∧ Nm e.2) : shp (webD ss ts) := by
  show ((PyData.canLayAll0 (ss.map PyData.str) && (PyData.canLayAll0 (ts.map pairD) && true)) && decide (max (PyData.depthAll (ss.map PyData.str) + 1) (max (PyData.depthAll (ts.map pairD) + 1) 0) + 1 ≤ 64)) = true
  have := depth_pairs ts
  rw [canLay_strs ss h, canLay_pairs ts g, depth_strs, decide_eq_true (by omega)]
  rfl
theorem thg_n {N : Addr → Prop} {H : Hp} {c : Addr} (h : Thg (Mq N H) (.ref c)) : N c := by
  have key : ∀ o, Mq N H c = some o → N c := fun o e => by
    unfold Mq at e
    split at e
    · assumption
    · cases e
  cases h with
  | lst e => exact key _ e
  | tup e => exact key _ e
  | dK e => exact key _ e
  | dT e => exact key _ e
theorem gy_items {N : Addr → Prop} {H : Hp} {c : Addr} {ys : List V} (h : Gy N H (.ref c)) (q : SqA (Mq N H) c ys) : ys.length ≤ 420 ∧ ∀ y ∈ ys, Gi N H y := by
  rcases h with ⟨_, n⟩ | ⟨a, zs, e, q', l, g⟩
  · exact absurd q (n c ys rfl)
  · cases e
    rw [sq_uniq q q']
    exact ⟨l, g⟩
noncomputable def spLaw (K : PySem.W.Frag) : Sp := fun vs H Q _ => ∃ (a : Addr) (ns : List Int), vs = [.ref a] ∧ SqL K H a (ns.map V.int) ∧ ∀ H', Q (.bl true) H'
theorem scLaw : FnScope ["_law_script", "_law_pen_here", "_law_things_here", "_law_ties_here", "_law_k", "_law_bad", "_law_j"] ["_law_script"] (defScope sLaw) := ⟨rfl, rfl, rfl, by decide +kernel, rfl, by decide +kernel, by decide +kernel⟩
theorem ok_law {f : Addr} {fd : FuncData} (F : Fun K "law" "law" sLaw f fd) (B : Blt mg) (c_law_pen : Cal P w K mg base 1 "_law_pen" ["_law_script"] (spPen K)) (c_law_draw : Cal P w K mg base 1 "_law_draw" ["_law_pen_here", "_law_most"] (spDraw K)) (c_law_things : Cal P w K mg base 3 "_law_things" ["_law_pen_here"] (spThings K)) (c_law_ties : Cal P w K mg base 2 "_law_ties" ["_law_pen_here", "_law_things_here"] (spTies K))
    (c_law_spoiled : Cal P w K mg base 4 "_law_spoiled" ["_law_pen_here", "_law_things_here", "_law_ties_here"] (spSpoiled K)) (c_law_refused : Cal P w K mg base 6 "_law_refused" ["_law_things_here", "_law_ties_here"] spRefused) (cweb_of : Cal P w K mg base 5 "web_of" ["things", "ties"] spWebOf) : FnOk P w K mg base CX0 7 f fd ["_law_script"] (spLaw K) := by
  refine F.ok scLaw (fun vs H Q E h => ?_) (fun cdv A outer s H vs Q E hr h => ?_)
  · obtain ⟨a, ns, rfl, _⟩ := h
    rfl
  · obtain ⟨a, ns, rfl, hS, k⟩ := h
    have nd := scLaw.nd
    refine ⟨_, (pss_cons (ps_set (i := 1) nd rfl (Or.inl rfl) (pe_cal c_law_pen (hr.mono (by decide)) rfl (pa_cons (pv 0) pa_nil)))
      (pss_cons (ps_set (i := 2) nd rfl (Or.inl rfl) (pe_cal c_law_things (hr.mono (by decide)) rfl (pa_cons (pv 1) pa_nil)))
      (pss_cons (ps_set (i := 3) nd rfl (Or.inl rfl) (pe_cal c_law_ties (hr.mono (by decide)) rfl (pa_cons (pv 1) (pa_cons (pv 2) pa_nil))))
      (pss_cons (ps_for PassesOwn.never rfl (pi_range1 rfl B.range (pa_cons pe_int pa_nil)) (pg_name (i := 4) nd rfl (Or.inl rfl)) (pss_cons (ps_set (i := 5) nd rfl (Or.inl rfl) (pe_cal c_law_spoiled (hr.mono (by decide)) rfl (pa_cons (pv 1) (pa_cons (pv 2) (pa_cons (pv 3) pa_nil)))))
      (pss_cons (ps_for PassesOwn.never rfl (pi_range1 rfl B.range (pa_cons pe_int pa_nil)) (pg_name (i := 6) nd rfl (Or.inl rfl)) (pss_one (ps_if (PW.pt (pw_and (pt_val (b_isi K "list" B (pa_cons (pe_ix (ix_X K hr.units) (pv 5) (pv 6) (fun _ _ => rfl)) (pa_cons (g_list B) pa_nil)))) (pw_and1 (pt_cmpR (op_eqX hr.units) (pe_cal c_law_draw (hr.mono (by decide)) rfl (pa_cons (pv 1) (pa_cons pe_int pa_nil))) pe_int (nomark _))))) (pss_one (ps_asg (b_tupX K B (pa_cons (pe_ix (ix_X K hr.units) (pv 5) (pv 6) (fun _ _ => rfl)) pa_nil)) (pg_sub (pv 5) (pv 6) (set_X hr.units)))) pss_nil)))
      (pss_cons (ps_if (pt_not (pt_val (pe_cal c_law_refused (hr.mono (by decide)) rfl (pa_cons (pe_ix (ix_X K hr.units) (pv 5) pe_int (fun _ _ => rfl)) (pa_cons (pe_ix (ix_X K hr.units) (pv 5) pe_int (fun _ _ => rfl)) pa_nil))))) (pss_one (ps_ret pe_bl)) pss_nil)
      (pss_one (ps_if (pt_cmpR (op_neX hr.units) (pe_cal cweb_of (hr.mono (by decide)) rfl (pa_cons (pv 2) (pa_cons (pv 3) pa_nil))) (pe_tup (pa_cons (b_tupX K B (pa_cons (pv 2) pa_nil)) (pa_cons (b_tupX K B (pa_cons (pv 3) pa_nil)) pa_nil))) (nomark _)) (pss_one (ps_ret pe_bl)) pss_nil))))))
      (pss_one (ps_ret pe_bl)))))), ?_⟩
    refine ⟨_, rfl, a, ns, rfl, hS, fun p H1 hP1 => ?_⟩
    refine ⟨_, rfl, p, a, rfl, hP1, fun n ss H2 h60 snd snm hn hn0 nnp v2 b2 => ?_⟩
    refine ⟨_, rfl, _, rfl, p, a, n, ss, rfl, hP1.but b2 v2, hn, nnp, h60, snd, snm, fun t ts H3 hT ht0 ntp v3 b3 => ?_⟩
    have hP3 := hP1.but (b2.trans b3) v3
    have hn3 := b3 _ _ nnp hn
    obtain ⟨ysP, hpP⟩ := penAt v3
    obtain ⟨refs, ht, rp⟩ := hT.at_
    clear hn hn0 ht0 v2 b2 b3 hS hP1
    have tied : ∀ H', But p H3 H' → Tied H' t ss ts := fun H' b => ⟨⟨refs, b _ _ ntp ht, RepAll.pairBut hpP b rp⟩, hT.few, hT.nd, hT.inn⟩
    refine ⟨_, rfl, by decide, by decide, ?_⟩
    refine for_range (fun i σ H' => ∃ o4 o5 o6, σ = [some (.ref a), some (.ref p), some (.ref n), some (.ref t), o4, o5, o6] ∧ PenV H' p a ∧ But p H3 H') ⟨none, none, none, rfl, v3, But.refl p H3⟩ ?_ ?_
    · rintro i σ H4 hi ⟨o4, o5, o6, rfl, v4, b4⟩
      refine ⟨_, rfl, _, rfl, _, rfl, p, a, n, t, ss, ts, rfl, hP3.but b4 v4, b4 _ _ nnp hn3, nnp, h60, snd, snm, tied H4 b4, ntp, fun lb x y H5 hlb hlb0 nlb gx gy bad v5 b5 => ?_⟩
      refine ⟨_, rfl, by decide, by decide, ?_⟩
      refine for_range (fun j σ H' => ∃ o6 x y, σ = [some (.ref a), some (.ref p), some (.ref n), some (.ref t), some (.int (0 + (i : Nat))), some (.ref lb), o6] ∧ H' lb = some (.lst [x, y]) ∧ Gy (NQ p lb) H' x ∧ Gy (NQ p lb) H' y ∧ ¬ GW (Mq (NQ p lb) H') x y ∧ PenV H' p a ∧ But p H4 H') ⟨o6, x, y, rfl, hlb, gx, gy, bad, v5, b5⟩ ?_ ?_
      · clear hlb gx gy bad v5 b5
        rintro j σ H5 hj ⟨o6, x, y, rfl, hlb, gx, gy, bad, v5, b5⟩
        have hj2 : j = 0 ∨ j = 1 := by omega
        rcases hj2 with rfl | rfl
        · refine ⟨_, rfl, _, rfl, .lst (.of hlb) (atI_nat (j := 0) rfl) ?_⟩
          have tz : Thg H5 x := gx.rw.1.same Mq.of
          obtain ⟨tt, ty, _, _, _, t4, _⟩ := ty_thg (K := K) tz
          refine ⟨_, tt, _, rfl, ty, t4, _, rfl, ite2 (fun hL => ?_) (fun _ => ?_)⟩
          · obtain ⟨c, ys, eZ, hc⟩ := isL_get hL
            refine ⟨_, rfl, p, a, 2, rfl, hP3.but (b4.trans b5) v5, by decide, by decide, fun r H6 r0 r1 v6 e6 => .sc rfl ⟨_, rfl, ite2 (fun _ => ?_) (fun _ => ?_)⟩⟩
            · have hlb6 := (e6 lb nlb).trans hlb
              have bN : ButN (NQ p lb) H5 H6 := fun c o n e => (e6 c n.1).trans e
              have nc : NQ p lb c := by rw [eZ] at gx; exact thg_n gx.rw.1
              have hM : SqA (Mq (NQ p lb) H5) c ys := .inl (Mq.at hc nc)
              obtain ⟨yl, gi⟩ : ys.length ≤ 420 ∧ ∀ y ∈ ys, Gi (NQ p lb) H5 y := by rw [eZ] at gx; exact gy_items gx hM
              refine ⟨_, rfl, _, rfl, .lst (.of hlb6) (atI_nat (j := 0) rfl) (nil_ ⟨_, rfl, ?_⟩)⟩
              rw [eZ]
              refine .lst (.of ((e6 c nc.1).trans hc)) fun l hl => ?_
              have nlp : l ≠ p := Ne.symm (v6.ne hl)
              have nll : l ≠ lb := fun z => by rw [z, hlb6] at hl; cases hl
              have b6 := b5.trans (But.of_eq e6)
              have hlb7 : upd H6 l (.tup ys) lb = some (.lst [x, y]) := by rw [upd_ne (Ne.symm nll)]; exact hlb6
              refine ⟨_, rfl, _, rfl, .lst (j := 0) hlb7 rfl ?_⟩
              have bN8 : ButN (NQ p lb) H5 (upd (upd H6 l (.tup ys)) lb (.lst ([x, y].set 0 (.ref l)))) := fun c o n e => by
                rw [upd_ne n.2, upd_ne (fun z => by rw [z, ← e6 l nlp, hl] at e; cases e)]
                exact bN c o n e
              have el : upd (upd H6 l (.tup ys)) lb (.lst ([x, y].set 0 (.ref l))) l = some (.tup ys) := by rw [upd_ne nll]; exact upd_same
              have gl : Gy (NQ p lb) (upd (upd H6 l (.tup ys)) lb (.lst ([x, y].set 0 (.ref l)))) (.ref l) := gy_sq (.inr (Mq.at el ⟨nlp, nll⟩)) yl fun z hz => (gi z hz).but bN8
              have cz : Cv (Mq (NQ p lb) H5) (Mq (NQ p lb) (upd (upd H6 l (.tup ys)) lb (.lst ([x, y].set 0 (.ref l))))) x (.ref l) := .inr ⟨c, l, ys, eZ, rfl, hM, .inr (Mq.at el ⟨nlp, nll⟩)⟩
              exact ⟨_, .ref l, y, rfl, upd_same, gl, gy.but bN8, fun z => bad (gw_conv (gx.rw.imp fun _ q => q.1) gy.rw (Mq.but bN8) cz (.inl rfl) z), (v6.upd (Ne.symm nlp)).upd (Ne.symm nlb), (b6.at (b6.free nlp hl)).at hlb0⟩
            · refine ⟨_, x, y, rfl, (e6 lb nlb).trans hlb, gx.but fun c o n e => (e6 c n.1).trans e, gy.but fun c o n e => (e6 c n.1).trans e, fun z => bad (gw_back (gx.rw.imp fun _ q => q.1) gy.rw (Mq.but fun c o n e => (e6 c n.1).trans e) z), v6, b5.trans (But.of_eq e6)⟩
          · exact ⟨_, x, y, rfl, hlb, gx, gy, bad, v5, b5⟩
        · refine ⟨_, rfl, _, rfl, .lst (.of hlb) (atI_nat (j := 1) rfl) ?_⟩
          have tz : Thg H5 y := gy.rw.1.same Mq.of
          obtain ⟨tt, ty, _, _, _, t4, _⟩ := ty_thg (K := K) tz
          refine ⟨_, tt, _, rfl, ty, t4, _, rfl, ite2 (fun hL => ?_) (fun _ => ?_)⟩
          · obtain ⟨c, ys, eZ, hc⟩ := isL_get hL
            refine ⟨_, rfl, p, a, 2, rfl, hP3.but (b4.trans b5) v5, by decide, by decide, fun r H6 r0 r1 v6 e6 => .sc rfl ⟨_, rfl, ite2 (fun _ => ?_) (fun _ => ?_)⟩⟩
            · have hlb6 := (e6 lb nlb).trans hlb
              have bN : ButN (NQ p lb) H5 H6 := fun c o n e => (e6 c n.1).trans e
              have nc : NQ p lb c := by rw [eZ] at gy; exact thg_n gy.rw.1
              have hM : SqA (Mq (NQ p lb) H5) c ys := .inl (Mq.at hc nc)
              obtain ⟨yl, gi⟩ : ys.length ≤ 420 ∧ ∀ y ∈ ys, Gi (NQ p lb) H5 y := by rw [eZ] at gy; exact gy_items gy hM
              refine ⟨_, rfl, _, rfl, .lst (.of hlb6) (atI_nat (j := 1) rfl) (nil_ ⟨_, rfl, ?_⟩)⟩
              rw [eZ]
              refine .lst (.of ((e6 c nc.1).trans hc)) fun l hl => ?_
              have nlp : l ≠ p := Ne.symm (v6.ne hl)
              have nll : l ≠ lb := fun z => by rw [z, hlb6] at hl; cases hl
              have b6 := b5.trans (But.of_eq e6)
              have hlb7 : upd H6 l (.tup ys) lb = some (.lst [x, y]) := by rw [upd_ne (Ne.symm nll)]; exact hlb6
              refine ⟨_, rfl, _, rfl, .lst (j := 1) hlb7 rfl ?_⟩
              have bN8 : ButN (NQ p lb) H5 (upd (upd H6 l (.tup ys)) lb (.lst ([x, y].set 1 (.ref l)))) := fun c o n e => by
                rw [upd_ne n.2, upd_ne (fun z => by rw [z, ← e6 l nlp, hl] at e; cases e)]
                exact bN c o n e
              have el : upd (upd H6 l (.tup ys)) lb (.lst ([x, y].set 1 (.ref l))) l = some (.tup ys) := by rw [upd_ne nll]; exact upd_same
              have gl : Gy (NQ p lb) (upd (upd H6 l (.tup ys)) lb (.lst ([x, y].set 1 (.ref l)))) (.ref l) := gy_sq (.inr (Mq.at el ⟨nlp, nll⟩)) yl fun z hz => (gi z hz).but bN8
              have cz : Cv (Mq (NQ p lb) H5) (Mq (NQ p lb) (upd (upd H6 l (.tup ys)) lb (.lst ([x, y].set 1 (.ref l))))) y (.ref l) := .inr ⟨c, l, ys, eZ, rfl, hM, .inr (Mq.at el ⟨nlp, nll⟩)⟩
              exact ⟨_, x, .ref l, rfl, upd_same, gx.but bN8, gl, fun z => bad (gw_conv (gx.rw.imp fun _ q => q.1) gy.rw (Mq.but bN8) (.inl rfl) cz z), (v6.upd (Ne.symm nlp)).upd (Ne.symm nlb), (b6.at (b6.free nlp hl)).at hlb0⟩
            · refine ⟨_, x, y, rfl, (e6 lb nlb).trans hlb, gx.but fun c o n e => (e6 c n.1).trans e, gy.but fun c o n e => (e6 c n.1).trans e, fun z => bad (gw_back (gx.rw.imp fun _ q => q.1) gy.rw (Mq.but fun c o n e => (e6 c n.1).trans e) z), v6, b5.trans (But.of_eq e6)⟩
          · exact ⟨_, x, y, rfl, hlb, gx, gy, bad, v5, b5⟩
      · clear hlb gx gy bad v5 b5
        rintro σ H5 ⟨o6, x, y, rfl, hlb, gx, gy, bad, v5, b5⟩
        have sM : Same (Mq (NQ p lb) H5) H5 := Mq.of
        refine ⟨_, rfl, .lst (.of hlb) (atI_nat (j := 0) rfl) ⟨_, rfl, .lst (.of hlb) (atI_nat (j := 1) rfl) (nil_ ?_)⟩⟩
        refine ⟨x, y, rfl, (gx.rw.imp fun _ q => q.1).same mono_thg sM, gy.rw.same mono_rt sM, gx.sh.same sM, gy.sh.same sM, fun z => bad (gw_back (gx.rw.imp fun _ q => q.1) gy.rw sM z), fun H6 s6 => ⟨_, rfl, iteF ?_⟩⟩
        have v6 := penKeep s6 v5
        have b6 := (b4.trans b5).trans (But.of_same s6)
        have T6 := tied H6 b6
        have n6 := b6 _ _ nnp hn3
        obtain ⟨refs6, ht6, rp6⟩ := T6.at_
        refine ⟨_, rfl, _, rfl, n, t, ss, ts, refs6, rfl, .inl n6, h60, snd, snm, .inl ht6, rp6, T6.few, T6.nd, T6.inn, fun q H7 s7 r7 => ?_⟩
        have n7 := s7 _ _ n6
        have t7 := s7 _ _ ht6
        refine ⟨_, rfl, nil_ ⟨_, rfl, .lst (.of n7) fun l1 h1 => ?_⟩⟩
        have s8 := Same.new (o := .tup (List.map V.str ss)) h1
        have e8 : upd H7 l1 (.tup (List.map V.str ss)) l1 = some (.tup (List.map V.str ss)) := upd_same
        generalize upd H7 l1 (.tup (List.map V.str ss)) = H8 at s8 e8 ⊢
        refine ⟨_, rfl, nil_ ⟨_, rfl, .lst (.of (s8 _ _ t7)) fun l2 h2 => nil_ ?_⟩⟩
        have s9 := Same.new (o := .tup refs6) h2
        have e9 : upd H8 l2 (.tup refs6) l2 = some (.tup refs6) := upd_same
        generalize upd H8 l2 (.tup refs6) = H9 at s9 e9 ⊢
        refine ⟨(by show 2 ≤ sizeLine; decide), fun l3 h3 => ?_⟩
        have s10 := Same.new (o := .tup [.ref l1, .ref l2]) h3
        have e10 : upd H9 l3 (.tup [.ref l1, .ref l2]) l3 = some (.tup [.ref l1, .ref l2]) := upd_same
        generalize upd H9 l3 (.tup [.ref l1, .ref l2]) = HA at s10 e10 ⊢
        have s7A := (s8.trans s9).trans s10
        have sh := shp_web snm fun e he => ⟨snm _ (T6.inn e he).1, snm _ (T6.inn e he).2⟩
        refine .tr (da := webD ss ts) (db := webD ss ts) (r7.same s7A) (.tup e10 (.cons (.tup ((s9.trans s10) _ _ e8) (RepAll.of_strs ss)) (.cons (.tup (s10 _ _ e9) ((rp6.same s7).same s7A)) .nil))) sh sh ⟨_, rfl, ?_⟩
        rw [eqv_shp sh]
        exact iteF ⟨_, _, _, rfl, penKeep (s7.trans s7A) v6, b6.trans (But.of_same (s7.trans s7A))⟩
    · rintro σ H4 ⟨o4, o5, o6, rfl, v4, b4⟩
      exact k _
end
end K03
namespace K03
open PySem L2
section
variable {P : Program} {w : World} {K : PySem.W.Frag} {mg : Str → Option Value} {base : Heap}
theorem ar1 {us : List Value} (h : us.length = 1) : ∃ a, us = [a] := List.length_eq_one_iff.mp h
theorem ar2 {us : List Value} (h : us.length = 2) : ∃ a1 a2, us = [a1, a2] := by
  obtain ⟨a1, t, rfl⟩ := List.exists_cons_of_length_eq_add_one h
  obtain ⟨a2, rfl⟩ := ar1 (Nat.succ.inj h)
  exact ⟨a1, a2, rfl⟩
theorem ar3 {us : List Value} (h : us.length = 3) : ∃ a1 a2 a3, us = [a1, a2, a3] := by
  obtain ⟨a1, t, rfl⟩ := List.exists_cons_of_length_eq_add_one h
  obtain ⟨a2, a3, rfl⟩ := ar2 (Nat.succ.inj h)
  exact ⟨a1, a2, a3, rfl⟩
theorem all_mk {l : PySem.W.OpenLaw} {w : World} {K : PySem.W.Frag} {h : Heap} {mg : Str → Option Value} {fa f1 f2 f3 f4 f5 f6 f7 f8 f9 f10 f11 f12 f13 f14 f15 f16 f17 f18 f19 f20 f21 : Addr} (X : K.In h) (G : h.Ns mainGlobals mg) (hfa : mg "law" = some (.ref fa))
    {od1 an1 od2 an2 od3 an3 od4 an4 od5 an5 od6 an6 od7 an7 od8 an8 od9 an9 od10 an10 od11 an11 od12 an12 od13 an13 od14 an14 od15 an15 od16 an16 od17 an17 od18 an18 od19 an19 od20 an20 od21 an21 : Option Addr} {sl1 sl2 sl3 sl4 sl5 sl6 sl7 sl8 sl9 sl10 sl11 sl12 sl13 sl14 sl15 sl16 sl17 sl18 sl19 sl20 sl21 : Array (Option Value)} {oc1 kV1 dc1 pm1 cd1 ct1 oc2 kV2 dc2 pm2 cd2 ct2 oc3 kV3 dc3 pm3 cd3 ct3 oc4 kV4 dc4 pm4 cd4 ct4 oc5 kV5 dc5 pm5 cd5 ct5 oc6 kV6 dc6 pm6 cd6 ct6 oc7 kV7 dc7 pm7 cd7 ct7 oc8 kV8 dc8 pm8 cd8 ct8 oc9 kV9 dc9 pm9 cd9 ct9 oc10 kV10 dc10 pm10 cd10 ct10 oc11 kV11 dc11 pm11 cd11 ct11 oc12 kV12 dc12 pm12 cd12 ct12 oc13 kV13 dc13 pm13 cd13 ct13 oc14 kV14 dc14 pm14 cd14 ct14 oc15 kV15 dc15 pm15 cd15 ct15 oc16 kV16 dc16 pm16 cd16 ct16 oc17 kV17 dc17 pm17 cd17 ct17 oc18 kV18 dc18 pm18 cd18 ct18 oc19 kV19 dc19 pm19 cd19 ct19 oc20 kV20 dc20 pm20 cd20 ct20 oc21 kV21 dc21 pm21 cd21 ct21 : Value}
    (a1 : PySem.W.nsIn K mainGlobals "is_name" = some (some (.ref f1))) (l1 : K.lookup f1 = some ⟨oc1, od1, .func (PySem.W.fnOf "is_name" "is_name" (defArgs sIsName) (defBody sIsName) (defScope sIsName) .none kV1 dc1 pm1 an1 cd1 ct1), sl1⟩) (c1 : PySem.W.codeIn K cd1 "is_name" = true) (k1 : PySem.W.keepIn K (.ref f1) = true)
    (a2 : PySem.W.nsIn K mainGlobals "web_of" = some (some (.ref f2))) (l2 : K.lookup f2 = some ⟨oc2, od2, .func (PySem.W.fnOf "web_of" "web_of" (defArgs sWebOf) (defBody sWebOf) (defScope sWebOf) .none kV2 dc2 pm2 an2 cd2 ct2), sl2⟩) (c2 : PySem.W.codeIn K cd2 "web_of" = true) (k2 : PySem.W.keepIn K (.ref f2) = true)
    (a3 : PySem.W.nsIn K mainGlobals "places_of" = some (some (.ref f3))) (l3 : K.lookup f3 = some ⟨oc3, od3, .func (PySem.W.fnOf "places_of" "places_of" (defArgs sPlaces) (defBody sPlaces) (defScope sPlaces) .none kV3 dc3 pm3 an3 cd3 ct3), sl3⟩) (c3 : PySem.W.codeIn K cd3 "places_of" = true) (k3 : PySem.W.keepIn K (.ref f3) = true)
    (a4 : PySem.W.nsIn K mainGlobals "are_things" = some (some (.ref f4))) (l4 : K.lookup f4 = some ⟨oc4, od4, .func (PySem.W.fnOf "are_things" "are_things" (defArgs sAreThings) (defBody sAreThings) (defScope sAreThings) .none kV4 dc4 pm4 an4 cd4 ct4), sl4⟩) (c4 : PySem.W.codeIn K cd4 "are_things" = true) (k4 : PySem.W.keepIn K (.ref f4) = true)
    (a5 : PySem.W.nsIn K mainGlobals "are_unlike_names" = some (some (.ref f5))) (l5 : K.lookup f5 = some ⟨oc5, od5, .func (PySem.W.fnOf "are_unlike_names" "are_unlike_names" (defArgs sUNm) (defBody sUNm) (defScope sUNm) .none kV5 dc5 pm5 an5 cd5 ct5), sl5⟩) (c5 : PySem.W.codeIn K cd5 "are_unlike_names" = true) (k5 : PySem.W.keepIn K (.ref f5) = true)
    (a6 : PySem.W.nsIn K mainGlobals "are_unlike" = some (some (.ref f6))) (l6 : K.lookup f6 = some ⟨oc6, od6, .func (PySem.W.fnOf "are_unlike" "are_unlike" (defArgs sUnlike) (defBody sUnlike) (defScope sUnlike) .none kV6 dc6 pm6 an6 cd6 ct6), sl6⟩) (c6 : PySem.W.codeIn K cd6 "are_unlike" = true) (k6 : PySem.W.keepIn K (.ref f6) = true)
    (a7 : PySem.W.nsIn K mainGlobals "first_wrong_tie" = some (some (.ref f7))) (l7 : K.lookup f7 = some ⟨oc7, od7, .func (PySem.W.fnOf "first_wrong_tie" "first_wrong_tie" (defArgs sWrong) (defBody sWrong) (defScope sWrong) .none kV7 dc7 pm7 an7 cd7 ct7), sl7⟩) (c7 : PySem.W.codeIn K cd7 "first_wrong_tie" = true) (k7 : PySem.W.keepIn K (.ref f7) = true)
    (a8 : PySem.W.nsIn K mainGlobals "is_tie_among" = some (some (.ref f8))) (l8 : K.lookup f8 = some ⟨oc8, od8, .func (PySem.W.fnOf "is_tie_among" "is_tie_among" (defArgs sAmong) (defBody sAmong) (defScope sAmong) .none kV8 dc8 pm8 an8 cd8 ct8), sl8⟩) (c8 : PySem.W.codeIn K cd8 "is_tie_among" = true) (k8 : PySem.W.keepIn K (.ref f8) = true)
    (a9 : PySem.W.nsIn K mainGlobals "_law_pen" = some (some (.ref f9))) (l9 : K.lookup f9 = some ⟨oc9, od9, .func (PySem.W.fnOf "_law_pen" "_law_pen" (defArgs sPen) (defBody sPen) (defScope sPen) .none kV9 dc9 pm9 an9 cd9 ct9), sl9⟩) (c9 : PySem.W.codeIn K cd9 "_law_pen" = true) (k9 : PySem.W.keepIn K (.ref f9) = true)
    (a10 : PySem.W.nsIn K mainGlobals "_law_draw" = some (some (.ref f10))) (l10 : K.lookup f10 = some ⟨oc10, od10, .func (PySem.W.fnOf "_law_draw" "_law_draw" (defArgs sDraw) (defBody sDraw) (defScope sDraw) .none kV10 dc10 pm10 an10 cd10 ct10), sl10⟩) (c10 : PySem.W.codeIn K cd10 "_law_draw" = true) (k10 : PySem.W.keepIn K (.ref f10) = true)
    (a11 : PySem.W.nsIn K mainGlobals "_law_names" = some (some (.ref f11))) (l11 : K.lookup f11 = some ⟨oc11, od11, .func (PySem.W.fnOf "_law_names" "_law_names" (defArgs sNames) (defBody sNames) (defScope sNames) .none kV11 dc11 pm11 an11 cd11 ct11), sl11⟩) (c11 : PySem.W.codeIn K cd11 "_law_names" = true) (k11 : PySem.W.keepIn K (.ref f11) = true)
    (a12 : PySem.W.nsIn K mainGlobals "_law_things" = some (some (.ref f12))) (l12 : K.lookup f12 = some ⟨oc12, od12, .func (PySem.W.fnOf "_law_things" "_law_things" (defArgs sThings) (defBody sThings) (defScope sThings) .none kV12 dc12 pm12 an12 cd12 ct12), sl12⟩) (c12 : PySem.W.codeIn K cd12 "_law_things" = true) (k12 : PySem.W.keepIn K (.ref f12) = true)
    (a13 : PySem.W.nsIn K mainGlobals "_law_ties" = some (some (.ref f13))) (l13 : K.lookup f13 = some ⟨oc13, od13, .func (PySem.W.fnOf "_law_ties" "_law_ties" (defArgs sTies) (defBody sTies) (defScope sTies) .none kV13 dc13 pm13 an13 cd13 ct13), sl13⟩) (c13 : PySem.W.codeIn K cd13 "_law_ties" = true) (k13 : PySem.W.keepIn K (.ref f13) = true)
    (a14 : PySem.W.nsIn K mainGlobals "_law_no_row" = some (some (.ref f14))) (l14 : K.lookup f14 = some ⟨oc14, od14, .func (PySem.W.fnOf "_law_no_row" "_law_no_row" (defArgs sNoRow) (defBody sNoRow) (defScope sNoRow) .none kV14 dc14 pm14 an14 cd14 ct14), sl14⟩) (c14 : PySem.W.codeIn K cd14 "_law_no_row" = true) (k14 : PySem.W.keepIn K (.ref f14) = true)
    (a15 : PySem.W.nsIn K mainGlobals "_law_no_name" = some (some (.ref f15))) (l15 : K.lookup f15 = some ⟨oc15, od15, .func (PySem.W.fnOf "_law_no_name" "_law_no_name" (defArgs sNoName) (defBody sNoName) (defScope sNoName) .none kV15 dc15 pm15 an15 cd15 ct15), sl15⟩) (c15 : PySem.W.codeIn K cd15 "_law_no_name" = true) (k15 : PySem.W.keepIn K (.ref f15) = true)
    (a16 : PySem.W.nsIn K mainGlobals "_law_no_tie" = some (some (.ref f16))) (l16 : K.lookup f16 = some ⟨oc16, od16, .func (PySem.W.fnOf "_law_no_tie" "_law_no_tie" (defArgs sNoTie) (defBody sNoTie) (defScope sNoTie) .none kV16 dc16 pm16 an16 cd16 ct16), sl16⟩) (c16 : PySem.W.codeIn K cd16 "_law_no_tie" = true) (k16 : PySem.W.keepIn K (.ref f16) = true)
    (a17 : PySem.W.nsIn K mainGlobals "_law_many_ties" = some (some (.ref f17))) (l17 : K.lookup f17 = some ⟨oc17, od17, .func (PySem.W.fnOf "_law_many_ties" "_law_many_ties" (defArgs sManyTies) (defBody sManyTies) (defScope sManyTies) .none kV17 dc17 pm17 an17 cd17 ct17), sl17⟩) (c17 : PySem.W.codeIn K cd17 "_law_many_ties" = true) (k17 : PySem.W.keepIn K (.ref f17) = true)
    (a18 : PySem.W.nsIn K mainGlobals "_law_spoiled" = some (some (.ref f18))) (l18 : K.lookup f18 = some ⟨oc18, od18, .func (PySem.W.fnOf "_law_spoiled" "_law_spoiled" (defArgs sSpoiled) (defBody sSpoiled) (defScope sSpoiled) .none kV18 dc18 pm18 an18 cd18 ct18), sl18⟩) (c18 : PySem.W.codeIn K cd18 "_law_spoiled" = true) (k18 : PySem.W.keepIn K (.ref f18) = true)
    (a19 : PySem.W.nsIn K mainGlobals "_law_alone" = some (some (.ref f19))) (l19 : K.lookup f19 = some ⟨oc19, od19, .func (PySem.W.fnOf "_law_alone" "_law_alone" (defArgs sAlone) (defBody sAlone) (defScope sAlone) .none kV19 dc19 pm19 an19 cd19 ct19), sl19⟩) (c19 : PySem.W.codeIn K cd19 "_law_alone" = true) (k19 : PySem.W.keepIn K (.ref f19) = true)
    (a20 : PySem.W.nsIn K mainGlobals "_law_refused" = some (some (.ref f20))) (l20 : K.lookup f20 = some ⟨oc20, od20, .func (PySem.W.fnOf "_law_refused" "_law_refused" (defArgs sRefused) (defBody sRefused) (defScope sRefused) .none kV20 dc20 pm20 an20 cd20 ct20), sl20⟩) (c20 : PySem.W.codeIn K cd20 "_law_refused" = true) (k20 : PySem.W.keepIn K (.ref f20) = true)
    (a21 : PySem.W.nsIn K mainGlobals "law" = some (some (.ref f21))) (l21 : K.lookup f21 = some ⟨oc21, od21, .func (PySem.W.fnOf "law" "law" (defArgs sLaw) (defBody sLaw) (defScope sLaw) .none kV21 dc21 pm21 an21 cd21 ct21), sl21⟩) (c21 : PySem.W.codeIn K cd21 "law" = true) (k21 : PySem.W.keepIn K (.ref f21) = true)
    (z1 : PySem.W.nsIn K mainGlobals "len" = some none) (z2 : PySem.W.nsIn K mainGlobals "range" = some none) (z3 : PySem.W.nsIn K mainGlobals "abs" = some none) (z4 : PySem.W.nsIn K mainGlobals "all" = some none) (z5 : PySem.W.nsIn K mainGlobals "repr" = some none) (z6 : PySem.W.nsIn K mainGlobals "isinstance" = some none) (z7 : PySem.W.nsIn K mainGlobals "str" = some none) (z8 : PySem.W.nsIn K mainGlobals "int" = some none) (z9 : PySem.W.nsIn K mainGlobals "bool" = some none) (z10 : PySem.W.nsIn K mainGlobals "enumerate" = some none) (z11 : PySem.W.nsIn K mainGlobals "list" = some none) (z12 : PySem.W.nsIn K mainGlobals "tuple" = some none) (z13 : PySem.W.nsIn K mainGlobals "dict" = some none) (z14 : PySem.W.nsIn K mainGlobals "min" = some none) (z15 : PySem.W.nsIn K mainGlobals "max" = some none)
    {tk1 : Tok} (y1 : PySem.W.nsIn K mainGlobals "MOST_SIGNS" = some (some (.int 8 tk1)))
    {tk2 : Tok} (y2 : PySem.W.nsIn K mainGlobals "MOST_THINGS" = some (some (.int 60 tk2)))
    {tk3 : Tok} (y3 : PySem.W.nsIn K mainGlobals "MOST_TIES" = some (some (.int 400 tk3)))
    {x1 x2 x3 x4 x5 x6 x7 x8 x9 x10 x11 x12 x13 x14 x15 x16 x17 x18 x19 x20 : Addr} (r1 : PySem.W.nsIn K mainGlobals "OrderError" = some (some (.ref x1))) (r2 : PySem.W.nsIn K mainGlobals "NoWeb" = some (some (.ref x2))) (r3 : PySem.W.nsIn K mainGlobals "NoText" = some (some (.ref x3))) (r4 : PySem.W.nsIn K mainGlobals "Ring" = some (some (.ref x4))) (r5 : PySem.W.nsIn K mainGlobals "NoOrder" = some (some (.ref x5))) (r6 : PySem.W.nsIn K mainGlobals "NoWeights" = some (some (.ref x6))) (r7 : PySem.W.nsIn K mainGlobals "NoHouse" = some (some (.ref x7))) (r8 : PySem.W.nsIn K mainGlobals "NoDeed" = some (some (.ref x8))) (r9 : PySem.W.nsIn K mainGlobals "NoUnit" = some (some (.ref x9))) (r10 : PySem.W.nsIn K mainGlobals "Twice" = some (some (.ref x10))) (r11 : PySem.W.nsIn K mainGlobals "Within" = some (some (.ref x11))) (r12 : PySem.W.nsIn K mainGlobals "NoTie" = some (some (.ref x12))) (r13 : PySem.W.nsIn K mainGlobals "Full" = some (some (.ref x13))) (r14 : PySem.W.nsIn K mainGlobals "Apart" = some (some (.ref x14))) (r15 : PySem.W.nsIn K mainGlobals "NoWant" = some (some (.ref x15))) (r16 : PySem.W.nsIn K mainGlobals "TooMany" = some (some (.ref x16))) (r17 : PySem.W.nsIn K mainGlobals "NoUndo" = some (some (.ref x17))) (r18 : PySem.W.nsIn K mainGlobals "NoRedo" = some (some (.ref x18))) (r19 : PySem.W.nsIn K mainGlobals "Clash" = some (some (.ref x19))) (r20 : PySem.W.nsIn K mainGlobals "NoRow" = some (some (.ref x20)))
    (en : PySem.W.specialIn K (.builtin "object.__class__") "__get__" = some (some (.builtin "getset_descriptor.__get__"))) (et : PySem.W.takesIn K (.builtin "object.__class__") = some true) (ev : PySem.W.nsIn K mainGlobals "ValueError" = some none)
    {N1 : Addr} {bs1 bm1 su1 : List Value} {nm1 q1 : Str} {hd1 ab1 : Bool} {sn1 : List Str} {co1 : Option Bool} {dd1 : Option Addr} {ka1 kb1 kc1 kd1 ke1 : Option Value}
    (o1 : K.lookup x1 = some (excClassObj nm1 q1 x1 N1 bs1 bm1 hd1 sn1 su1 ab1 co1 dd1 ka1 kb1 kc1 kd1 ke1 "ValueError.__new__"))
    (u1 : PySem.W.nsOkIn K N1 = true) (ni1 : PySem.W.nsIn K N1 "__init__" = some none) (tl1 : PySem.W.tailIn K [.type "ValueError", .type "Exception", .type "BaseException", .type "object"] bm1 = true)
    (ga1 : PySem.W.findIn K (.ref x1) "__getattribute__" = some (some (.builtin "BaseException.__getattribute__"))) (gb1 : PySem.W.findIn K (.ref x1) "__getattr__" = some none) (ha1 : PySem.W.findIn K (.ref x1) "__class__" = some (some (.builtin "object.__class__")))
    (hm1 : PySem.W.mroIn K x1 (.type "object") = some true) (hb1 : PySem.W.mroIn K x1 (.type "BaseException") = some true) (cl1 : (PySem.W.clsIn K x1).isSome = true)
    (p1 : bm1.contains (.type "BaseException") = true) (q_1 : (Value.ref x1 :: bm1).contains (.ref x1) = true) (w1 : PySem.W.kitOne K (.ref x1) (.type "ValueError") = some true)
    {N2 : Addr} {bs2 bm2 su2 : List Value} {nm2 q2 : Str} {hd2 ab2 : Bool} {sn2 : List Str} {co2 : Option Bool} {dd2 : Option Addr} {ka2 kb2 kc2 kd2 ke2 : Option Value}
    (o2 : K.lookup x2 = some (excClassObj nm2 q2 x2 N2 bs2 bm2 hd2 sn2 su2 ab2 co2 dd2 ka2 kb2 kc2 kd2 ke2 "ValueError.__new__"))
    (u2 : PySem.W.nsOkIn K N2 = true) (ni2 : PySem.W.nsIn K N2 "__init__" = some none) (tl2 : PySem.W.tailIn K [.type "ValueError", .type "Exception", .type "BaseException", .type "object"] bm2 = true)
    (ga2 : PySem.W.findIn K (.ref x2) "__getattribute__" = some (some (.builtin "BaseException.__getattribute__"))) (gb2 : PySem.W.findIn K (.ref x2) "__getattr__" = some none) (ha2 : PySem.W.findIn K (.ref x2) "__class__" = some (some (.builtin "object.__class__")))
    (hm2 : PySem.W.mroIn K x2 (.type "object") = some true) (hb2 : PySem.W.mroIn K x2 (.type "BaseException") = some true) (cl2 : (PySem.W.clsIn K x2).isSome = true)
    (p2 : bm2.contains (.type "BaseException") = true) (q_2 : (Value.ref x2 :: bm2).contains (.ref x1) = true) (w2 : PySem.W.kitOne K (.ref x2) (.type "ValueError") = some true)
    (g2_1 : PySem.W.kitOne K (.ref x2) (.ref x1) = some true) (g2_2 : PySem.W.kitOne K (.ref x2) (.ref x2) = some true) (g2_3 : PySem.W.kitOne K (.ref x2) (.ref x3) = some false) (g2_4 : PySem.W.kitOne K (.ref x2) (.ref x4) = some false) (g2_5 : PySem.W.kitOne K (.ref x2) (.ref x5) = some false) (g2_6 : PySem.W.kitOne K (.ref x2) (.ref x6) = some false) (g2_7 : PySem.W.kitOne K (.ref x2) (.ref x7) = some false) (g2_8 : PySem.W.kitOne K (.ref x2) (.ref x8) = some false) (g2_9 : PySem.W.kitOne K (.ref x2) (.ref x9) = some false) (g2_10 : PySem.W.kitOne K (.ref x2) (.ref x10) = some false) (g2_11 : PySem.W.kitOne K (.ref x2) (.ref x11) = some false) (g2_12 : PySem.W.kitOne K (.ref x2) (.ref x12) = some false) (g2_13 : PySem.W.kitOne K (.ref x2) (.ref x13) = some false) (g2_14 : PySem.W.kitOne K (.ref x2) (.ref x14) = some false) (g2_15 : PySem.W.kitOne K (.ref x2) (.ref x15) = some false) (g2_16 : PySem.W.kitOne K (.ref x2) (.ref x16) = some false) (g2_17 : PySem.W.kitOne K (.ref x2) (.ref x17) = some false) (g2_18 : PySem.W.kitOne K (.ref x2) (.ref x18) = some false) (g2_19 : PySem.W.kitOne K (.ref x2) (.ref x19) = some false) (g2_20 : PySem.W.kitOne K (.ref x2) (.ref x20) = some false)
    : ∃ fd : FuncData, (∀ (s : Shared) (v : Value), BindsTo s fd ⟨[v], []⟩ [("_law_script", v)]) ∧ ∀ base : Heap, K.In base → base.Ns mainGlobals mg → FnOk l.prog w K mg base CX0 7 fa fd ["_law_script"] (spLaw K) := by
  have e := hfa.symm.trans (PySem.W.mg_of X G a21)
  cases e
  have B : Blt mg := ⟨PySem.W.mg_none_of X G z1, PySem.W.mg_none_of X G z2, PySem.W.mg_none_of X G z3, PySem.W.mg_none_of X G z4, PySem.W.mg_none_of X G z5, PySem.W.mg_none_of X G z6, PySem.W.mg_none_of X G z7, PySem.W.mg_none_of X G z8, PySem.W.mg_none_of X G z9, PySem.W.mg_none_of X G z10, PySem.W.mg_none_of X G z11, PySem.W.mg_none_of X G z12, PySem.W.mg_none_of X G z13, PySem.W.mg_none_of X G z14, PySem.W.mg_none_of X G z15⟩
  have TMOST_SIGNS := PySem.W.mg_of X G y1
  have TMOST_THINGS := PySem.W.mg_of X G y2
  have TMOST_TIES := PySem.W.mg_of X G y3
  have F1 := fun_mk (st := sIsName) l1 c1 k1
  have F2 := fun_mk (st := sWebOf) l2 c2 k2
  have F3 := fun_mk (st := sPlaces) l3 c3 k3
  have F4 := fun_mk (st := sAreThings) l4 c4 k4
  have F5 := fun_mk (st := sUNm) l5 c5 k5
  have F6 := fun_mk (st := sUnlike) l6 c6 k6
  have F7 := fun_mk (st := sWrong) l7 c7 k7
  have F8 := fun_mk (st := sAmong) l8 c8 k8
  have F9 := fun_mk (st := sPen) l9 c9 k9
  have F10 := fun_mk (st := sDraw) l10 c10 k10
  have F11 := fun_mk (st := sNames) l11 c11 k11
  have F12 := fun_mk (st := sThings) l12 c12 k12
  have F13 := fun_mk (st := sTies) l13 c13 k13
  have F14 := fun_mk (st := sNoRow) l14 c14 k14
  have F15 := fun_mk (st := sNoName) l15 c15 k15
  have F16 := fun_mk (st := sNoTie) l16 c16 k16
  have F17 := fun_mk (st := sManyTies) l17 c17 k17
  have F18 := fun_mk (st := sSpoiled) l18 c18 k18
  have F19 := fun_mk (st := sAlone) l19 c19 k19
  have F20 := fun_mk (st := sRefused) l20 c20 k20
  have F21 := fun_mk (st := sLaw) l21 c21 k21
  have b1 := F1.binds (ps := ["thing"]) fun _ _ _ _ _ _ us hl => by obtain ⟨_, rfl⟩ := ar1 hl; rfl
  have b2 := F2.binds (ps := ["things", "ties"]) fun _ _ _ _ _ _ us hl => by obtain ⟨_, _, rfl⟩ := ar2 hl; rfl
  have b3 := F3.binds (ps := ["things"]) fun _ _ _ _ _ _ us hl => by obtain ⟨_, rfl⟩ := ar1 hl; rfl
  have b4 := F4.binds (ps := ["things"]) fun _ _ _ _ _ _ us hl => by obtain ⟨_, rfl⟩ := ar1 hl; rfl
  have b5 := F5.binds (ps := ["things"]) fun _ _ _ _ _ _ us hl => by obtain ⟨_, rfl⟩ := ar1 hl; rfl
  have b6 := F6.binds (ps := ["things"]) fun _ _ _ _ _ _ us hl => by obtain ⟨_, rfl⟩ := ar1 hl; rfl
  have b7 := F7.binds (ps := ["things", "ties"]) fun _ _ _ _ _ _ us hl => by obtain ⟨_, _, rfl⟩ := ar2 hl; rfl
  have b8 := F8.binds (ps := ["places", "tie"]) fun _ _ _ _ _ _ us hl => by obtain ⟨_, _, rfl⟩ := ar2 hl; rfl
  have b9 := F9.binds (ps := ["_law_script"]) fun _ _ _ _ _ _ us hl => by obtain ⟨_, rfl⟩ := ar1 hl; rfl
  have b10 := F10.binds (ps := ["_law_pen_here", "_law_most"]) fun _ _ _ _ _ _ us hl => by obtain ⟨_, _, rfl⟩ := ar2 hl; rfl
  have b11 := F11.binds (ps := ["_law_pen_here", "_law_many"]) fun _ _ _ _ _ _ us hl => by obtain ⟨_, _, rfl⟩ := ar2 hl; rfl
  have b12 := F12.binds (ps := ["_law_pen_here"]) fun _ _ _ _ _ _ us hl => by obtain ⟨_, rfl⟩ := ar1 hl; rfl
  have b13 := F13.binds (ps := ["_law_pen_here", "_law_things_here"]) fun _ _ _ _ _ _ us hl => by obtain ⟨_, _, rfl⟩ := ar2 hl; rfl
  have b14 := F14.binds (ps := ["_law_pen_here"]) fun _ _ _ _ _ _ us hl => by obtain ⟨_, rfl⟩ := ar1 hl; rfl
  have b15 := F15.binds (ps := ["_law_pen_here"]) fun _ _ _ _ _ _ us hl => by obtain ⟨_, rfl⟩ := ar1 hl; rfl
  have b16 := F16.binds (ps := ["_law_pen_here", "_law_things_here"]) fun _ _ _ _ _ _ us hl => by obtain ⟨_, _, rfl⟩ := ar2 hl; rfl
  have b17 := F17.binds (ps := ["_law_things_here", "_law_many"]) fun _ _ _ _ _ _ us hl => by obtain ⟨_, _, rfl⟩ := ar2 hl; rfl
  have b18 := F18.binds (ps := ["_law_pen_here", "_law_things_here", "_law_ties_here"]) fun _ _ _ _ _ _ us hl => by obtain ⟨_, _, _, rfl⟩ := ar3 hl; rfl
  have b19 := F19.binds (ps := ["_law_caught"]) fun _ _ _ _ _ _ us hl => by obtain ⟨_, rfl⟩ := ar1 hl; rfl
  have b20 := F20.binds (ps := ["_law_things_here", "_law_ties_here"]) fun _ _ _ _ _ _ us hl => by obtain ⟨_, _, rfl⟩ := ar2 hl; rfl
  refine ⟨PySem.W.fnOf "law" "law" (defArgs sLaw) (defBody sLaw) (defScope sLaw) .none kV21 dc21 pm21 an21 cd21 ct21, fun s v => .of_eq rfl, fun base XB GB => ?_⟩
  have eN : (["OrderError", "NoWeb", "NoText", "Ring", "NoOrder", "NoWeights", "NoHouse", "NoDeed", "NoUnit", "Twice", "Within", "NoTie", "Full", "Apart", "NoWant", "TooMany", "NoUndo", "NoRedo", "Clash", "NoRow"] : List Str).Nodup := by decide +kernel
  have eO : ecOf ([("OrderError", x1), ("NoWeb", x2), ("NoText", x3), ("Ring", x4), ("NoOrder", x5), ("NoWeights", x6), ("NoHouse", x7), ("NoDeed", x8), ("NoUnit", x9), ("Twice", x10), ("Within", x11), ("NoTie", x12), ("Full", x13), ("Apart", x14), ("NoWant", x15), ("TooMany", x16), ("NoUndo", x17), ("NoRedo", x18), ("Clash", x19), ("NoRow", x20)] : List (Str × Addr)) "OrderError" = x1 := ecOf_at (ps := [("OrderError", x1), ("NoWeb", x2), ("NoText", x3), ("Ring", x4), ("NoOrder", x5), ("NoWeights", x6), ("NoHouse", x7), ("NoDeed", x8), ("NoUnit", x9), ("Twice", x10), ("Within", x11), ("NoTie", x12), ("Full", x13), ("Apart", x14), ("NoWant", x15), ("TooMany", x16), ("NoUndo", x17), ("NoRedo", x18), ("Clash", x19), ("NoRow", x20)]) eN ("OrderError", x1) (.head _)
  have Er : Errs K mg base (ecOf ([("OrderError", x1), ("NoWeb", x2), ("NoText", x3), ("Ring", x4), ("NoOrder", x5), ("NoWeights", x6), ("NoHouse", x7), ("NoDeed", x8), ("NoUnit", x9), ("Twice", x10), ("Within", x11), ("NoTie", x12), ("Full", x13), ("Apart", x14), ("NoWant", x15), ("TooMany", x16), ("NoUndo", x17), ("NoRedo", x18), ("Clash", x19), ("NoRow", x20)] : List (Str × Addr))) excL excC := errs_mk (ps := [("OrderError", x1), ("NoWeb", x2), ("NoText", x3), ("Ring", x4), ("NoOrder", x5), ("NoWeights", x6), ("NoHouse", x7), ("NoDeed", x8), ("NoUnit", x9), ("Twice", x10), ("Within", x11), ("NoTie", x12), ("Full", x13), ("Apart", x14), ("NoWant", x15), ("TooMany", x16), ("NoUndo", x17), ("NoRedo", x18), ("Clash", x19), ("NoRow", x20)]) (cs := [("OrderError", x1), ("NoWeb", x2)]) eN (fa_cons (.head _) (fa_cons (.tail _ (.head _)) fa_nil)) (fa_cons (PySem.W.mg_of X G r1) (fa_cons (PySem.W.mg_of X G r2) (fa_cons (PySem.W.mg_of X G r3) (fa_cons (PySem.W.mg_of X G r4) (fa_cons (PySem.W.mg_of X G r5) (fa_cons (PySem.W.mg_of X G r6) (fa_cons (PySem.W.mg_of X G r7) (fa_cons (PySem.W.mg_of X G r8) (fa_cons (PySem.W.mg_of X G r9) (fa_cons (PySem.W.mg_of X G r10) (fa_cons (PySem.W.mg_of X G r11) (fa_cons (PySem.W.mg_of X G r12) (fa_cons (PySem.W.mg_of X G r13) (fa_cons (PySem.W.mg_of X G r14) (fa_cons (PySem.W.mg_of X G r15) (fa_cons (PySem.W.mg_of X G r16) (fa_cons (PySem.W.mg_of X G r17) (fa_cons (PySem.W.mg_of X G r18) (fa_cons (PySem.W.mg_of X G r19) (fa_cons (PySem.W.mg_of X G r20) fa_nil)))))))))))))))))))) (fa_cons ⟨ga1, gb1, ha1, en, et, hm1, hb1, cl1⟩ (fa_cons ⟨ga2, gb2, ha2, en, et, hm2, hb2, cl2⟩ fa_nil)) (show ("OrderError" : Str) ∈ excC by decide +kernel) (fa_cons (fun h => absurd rfl h) (fa_cons (fun _ => (fa_cons (g2_1.trans (congrArg some (show true = (("OrderError" : Str) == ("NoWeb" : Str) || ("OrderError" : Str) == ("OrderError" : Str)) by decide +kernel))) (fa_cons (g2_2.trans (congrArg some (show true = (("NoWeb" : Str) == ("NoWeb" : Str) || ("NoWeb" : Str) == ("OrderError" : Str)) by decide +kernel))) (fa_cons (g2_3.trans (congrArg some (show false = (("NoText" : Str) == ("NoWeb" : Str) || ("NoText" : Str) == ("OrderError" : Str)) by decide +kernel))) (fa_cons (g2_4.trans (congrArg some (show false = (("Ring" : Str) == ("NoWeb" : Str) || ("Ring" : Str) == ("OrderError" : Str)) by decide +kernel))) (fa_cons (g2_5.trans (congrArg some (show false = (("NoOrder" : Str) == ("NoWeb" : Str) || ("NoOrder" : Str) == ("OrderError" : Str)) by decide +kernel))) (fa_cons (g2_6.trans (congrArg some (show false = (("NoWeights" : Str) == ("NoWeb" : Str) || ("NoWeights" : Str) == ("OrderError" : Str)) by decide +kernel))) (fa_cons (g2_7.trans (congrArg some (show false = (("NoHouse" : Str) == ("NoWeb" : Str) || ("NoHouse" : Str) == ("OrderError" : Str)) by decide +kernel))) (fa_cons (g2_8.trans (congrArg some (show false = (("NoDeed" : Str) == ("NoWeb" : Str) || ("NoDeed" : Str) == ("OrderError" : Str)) by decide +kernel))) (fa_cons (g2_9.trans (congrArg some (show false = (("NoUnit" : Str) == ("NoWeb" : Str) || ("NoUnit" : Str) == ("OrderError" : Str)) by decide +kernel))) (fa_cons (g2_10.trans (congrArg some (show false = (("Twice" : Str) == ("NoWeb" : Str) || ("Twice" : Str) == ("OrderError" : Str)) by decide +kernel))) (fa_cons (g2_11.trans (congrArg some (show false = (("Within" : Str) == ("NoWeb" : Str) || ("Within" : Str) == ("OrderError" : Str)) by decide +kernel))) (fa_cons (g2_12.trans (congrArg some (show false = (("NoTie" : Str) == ("NoWeb" : Str) || ("NoTie" : Str) == ("OrderError" : Str)) by decide +kernel))) (fa_cons (g2_13.trans (congrArg some (show false = (("Full" : Str) == ("NoWeb" : Str) || ("Full" : Str) == ("OrderError" : Str)) by decide +kernel))) (fa_cons (g2_14.trans (congrArg some (show false = (("Apart" : Str) == ("NoWeb" : Str) || ("Apart" : Str) == ("OrderError" : Str)) by decide +kernel))) (fa_cons (g2_15.trans (congrArg some (show false = (("NoWant" : Str) == ("NoWeb" : Str) || ("NoWant" : Str) == ("OrderError" : Str)) by decide +kernel))) (fa_cons (g2_16.trans (congrArg some (show false = (("TooMany" : Str) == ("NoWeb" : Str) || ("TooMany" : Str) == ("OrderError" : Str)) by decide +kernel))) (fa_cons (g2_17.trans (congrArg some (show false = (("NoUndo" : Str) == ("NoWeb" : Str) || ("NoUndo" : Str) == ("OrderError" : Str)) by decide +kernel))) (fa_cons (g2_18.trans (congrArg some (show false = (("NoRedo" : Str) == ("NoWeb" : Str) || ("NoRedo" : Str) == ("OrderError" : Str)) by decide +kernel))) (fa_cons (g2_19.trans (congrArg some (show false = (("Clash" : Str) == ("NoWeb" : Str) || ("Clash" : Str) == ("OrderError" : Str)) by decide +kernel))) (fa_cons (g2_20.trans (congrArg some (show false = (("NoRow" : Str) == ("NoWeb" : Str) || ("NoRow" : Str) == ("OrderError" : Str)) by decide +kernel))) fa_nil))))))))))))))))))))) fa_nil)) (fa_cons w1 (fa_cons w2 fa_nil)) (fa_cons ⟨bm1, xat_mk XB o1, p1, (by rw [eO]; exact q_1)⟩ (fa_cons ⟨bm2, xat_mk XB o2, p2, (by rw [eO]; exact q_2)⟩ fa_nil)) (PySem.W.mg_none_of X G ev) (fa_cons (fun _ => own_mk XB (PySem.W.mg_of X G r1) o1 u1 ni1 tl1) (fa_cons (fun _ => own_mk XB (PySem.W.mg_of X G r2) o2 u2 ni2 tl2) fa_nil))
  have c__law_pen : Cal l.prog w K mg base 1 "_law_pen" ["_law_script"] (spPen K) := ⟨_, _, ok_pen F9 B, PySem.W.mg_of X G a9, k9, b9⟩
  have c__law_draw : Cal l.prog w K mg base 1 "_law_draw" ["_law_pen_here", "_law_most"] (spDraw K) := ⟨_, _, ok_draw F10 B, PySem.W.mg_of X G a10, k10, b10⟩
  have c__law_names : Cal l.prog w K mg base 2 "_law_names" ["_law_pen_here", "_law_many"] (spNames K) := ⟨_, _, ok_names F11 B c__law_draw, PySem.W.mg_of X G a11, k11, b11⟩
  have c__law_things : Cal l.prog w K mg base 3 "_law_things" ["_law_pen_here"] (spThings K) := ⟨_, _, ok_things F12 B c__law_draw c__law_names, PySem.W.mg_of X G a12, k12, b12⟩
  have c__law_ties : Cal l.prog w K mg base 2 "_law_ties" ["_law_pen_here", "_law_things_here"] (spTies K) := ⟨_, _, ok_ties F13 B c__law_draw, PySem.W.mg_of X G a13, k13, b13⟩
  have c_places_of : Cal l.prog w K mg base 1 "places_of" ["things"] spPlacesX := ⟨_, _, ok_placesX F3 B, PySem.W.mg_of X G a3, k3, b3⟩
  have c_is_name : Cal l.prog w K mg base 1 "is_name" ["thing"] spIsName := ⟨_, _, ok_isname F1 B TMOST_SIGNS, PySem.W.mg_of X G a1, k1, b1⟩
  have c_is_tie_among : Cal l.prog w K mg base 2 "is_tie_among" ["places", "tie"] spAmong := ⟨_, _, ok_among F8 B c_is_name, PySem.W.mg_of X G a8, k8, b8⟩
  have c_are_unlike : Cal l.prog w K mg base 2 "are_unlike" ["things"] spUnlike := ⟨_, _, ok_unlike F6 B c_places_of, PySem.W.mg_of X G a6, k6, b6⟩
  have c_are_unlike_names : Cal l.prog w K mg base 3 "are_unlike_names" ["things"] spUNm := ⟨_, _, ok_unm F5 B c_is_name c_are_unlike, PySem.W.mg_of X G a5, k5, b5⟩
  have c_are_things : Cal l.prog w K mg base 4 "are_things" ["things"] spAre := ⟨_, _, ok_are F4 B TMOST_THINGS c_are_unlike_names, PySem.W.mg_of X G a4, k4, b4⟩
  have c_first_wrong_tie : Cal l.prog w K mg base 3 "first_wrong_tie" ["things", "ties"] spWrong := ⟨_, _, ok_wrong F7 B TMOST_TIES c_places_of c_is_tie_among, PySem.W.mg_of X G a7, k7, b7⟩
  have c_web_of : Cal l.prog w K mg base 5 "web_of" ["things", "ties"] spWebOf := ⟨_, _, ok_web_of F2 B c_are_things c_first_wrong_tie, PySem.W.mg_of X G a2, k2, b2⟩
  have c_is_tie_amongG : Cal l.prog w K mg base 2 "is_tie_among" ["places", "tie"] spAmongG := ⟨_, _, ok_amongG F8 B c_is_name, PySem.W.mg_of X G a8, k8, b8⟩
  have c_are_unlike_namesG : Cal l.prog w K mg base 3 "are_unlike_names" ["things"] spUNmG := ⟨_, _, ok_unmG F5 B c_is_name c_are_unlike, PySem.W.mg_of X G a5, k5, b5⟩
  have c_are_thingsG : Cal l.prog w K mg base 4 "are_things" ["things"] spAreG := ⟨_, _, ok_areG F4 B TMOST_THINGS c_are_unlike_namesG, PySem.W.mg_of X G a4, k4, b4⟩
  have c_first_wrong_tieG : Cal l.prog w K mg base 3 "first_wrong_tie" ["things", "ties"] spWrongF := ⟨_, _, ok_wrongF F7 B TMOST_TIES c_places_of c_is_tie_amongG, PySem.W.mg_of X G a7, k7, b7⟩
  have c_web_ofX : CalX l.prog w K mg base 5 "web_of" ["things", "ties"] (spWebX _) := ⟨_, _, ok_webX F2 B Er c_are_thingsG c_first_wrong_tieG, PySem.W.mg_of X G a2, k2, b2⟩
  have c__law_no_row : Cal l.prog w K mg base 2 "_law_no_row" ["_law_pen_here"] (spNoRow K) := ⟨_, _, ok_norow F14 B c__law_draw, PySem.W.mg_of X G a14, k14, b14⟩
  have c__law_no_name : Cal l.prog w K mg base 2 "_law_no_name" ["_law_pen_here"] (spNoName K) := ⟨_, _, ok_noname F15 B c__law_draw, PySem.W.mg_of X G a15, k15, b15⟩
  have c__law_no_tie : Cal l.prog w K mg base 3 "_law_no_tie" ["_law_pen_here", "_law_things_here"] (spNoTie K) := ⟨_, _, ok_notie F16 B c__law_draw c__law_names, PySem.W.mg_of X G a16, k16, b16⟩
  have c__law_many_ties : Cal l.prog w K mg base 1 "_law_many_ties" ["_law_things_here", "_law_many"] spManyT := ⟨_, _, ok_manyT F17 B, PySem.W.mg_of X G a17, k17, b17⟩
  have c__law_spoiled : Cal l.prog w K mg base 4 "_law_spoiled" ["_law_pen_here", "_law_things_here", "_law_ties_here"] (spSpoiled K) := ⟨_, _, ok_spoiled F18 B c__law_draw c__law_names c__law_no_row c__law_no_name c__law_no_tie c__law_many_ties, PySem.W.mg_of X G a18, k18, b18⟩
  have c__law_alone : Cal l.prog w K mg base 1 "_law_alone" ["_law_caught"] (spAlone _) := ⟨_, _, ok_alone F19 B Er, PySem.W.mg_of X G a19, k19, b19⟩
  have c__law_refused : Cal l.prog w K mg base 6 "_law_refused" ["_law_things_here", "_law_ties_here"] spRefused := ⟨_, _, ok_refused F20 B Er c__law_alone c_web_ofX, PySem.W.mg_of X G a20, k20, b20⟩
  exact ok_law F21 B c__law_pen c__law_draw c__law_things c__law_ties c__law_spoiled c__law_refused c_web_of
theorem walk {l : PySem.W.OpenLaw} {q : Program} {loose : List Str} {XP : (Str → Option Value) → Heap → Prop} {YP : World → Heap → Prop} {d : DefRec} {K : Params → PySem.W.Frag} (hn : l.most = some 63) (hdf : d.params.defaults = [])
    (hY : ∀ (w : World) (h : Heap), YP w h → (K w.params).In h)
    (F : ∀ (w : World) (mg : Str → Option Value) (fa : Addr) (h : Heap), (K w.params).In h → h.Ns mainGlobals mg → mg d.name = some (.ref fa) →
      ∃ fd : FuncData, (∀ (s : Shared) (u : Value), BindsTo s fd ⟨[u], []⟩ [("_law_script", u)]) ∧ ∀ base : Heap, (K w.params).In base → base.Ns mainGlobals mg → FnOk l.prog w (K w.params) mg base CX0 7 fa fd ["_law_script"] (spLaw (K w.params))) :
    PySem.W.WalkO q loose XP YP l.row.toRowW d [] (fun f vs => PySem.call f vs) :=
  L2.walk_of (n := 63) (k := 7) (x := "_law_script") (CX := fun _ => CX0) (sp := fun w => spLaw (K w.params)) hn (by decide) hdf ⟨rfl, by decide, by decide, rfl⟩ hY F (fun _ _ a ns hl _ hS => ⟨a, ns, rfl, hS, fun _ => rfl⟩) fun _ _ _ _ _ z => z
end
end K03
open PySem PySem.W PyProof.Rows
set_option maxRecDepth 100000 in
set_option maxHeartbeats 0 in
theorem PySem.Challenge.cw_orderkeep_k03_no_webs_holds : PySem.Challenge.rw_orderkeep_k03_no_webs.Holds := by
  w_on; o_law; k_head; (case hw => w_witness2)
  k_fill
  refine K03.walk (l := PySem.Challenge.rw_orderkeep_k03_no_webs) rfl rfl (fun w h Y => PySem.W.kIn_of Y) ?F
  case F =>
    intro w mg fa h KX G hmg
    refine' K03.all_mk KX G hmg ?a1 ?l1 ?c1 ?k1 ?a2 ?l2 ?c2 ?k2 ?a3 ?l3 ?c3 ?k3 ?a4 ?l4 ?c4 ?k4 ?a5 ?l5 ?c5 ?k5 ?a6 ?l6 ?c6 ?k6 ?a7 ?l7 ?c7 ?k7 ?a8 ?l8 ?c8 ?k8 ?a9 ?l9 ?c9 ?k9 ?a10 ?l10 ?c10 ?k10 ?a11 ?l11 ?c11 ?k11 ?a12 ?l12 ?c12 ?k12 ?a13 ?l13 ?c13 ?k13 ?a14 ?l14 ?c14 ?k14 ?a15 ?l15 ?c15 ?k15 ?a16 ?l16 ?c16 ?k16 ?a17 ?l17 ?c17 ?k17 ?a18 ?l18 ?c18 ?k18 ?a19 ?l19 ?c19 ?k19 ?a20 ?l20 ?c20 ?k20 ?a21 ?l21 ?c21 ?k21 ?z1 ?z2 ?z3 ?z4 ?z5 ?z6 ?z7 ?z8 ?z9 ?z10 ?z11 ?z12 ?z13 ?z14 ?z15 ?y1 ?y2 ?y3 ?r1 ?r2 ?r3 ?r4 ?r5 ?r6 ?r7 ?r8 ?r9 ?r10 ?r11 ?r12 ?r13 ?r14 ?r15 ?r16 ?r17 ?r18 ?r19 ?r20 ?en ?et ?ev ?o1 ?u1 ?ni1 ?tl1 ?ga1 ?gb1 ?ha1 ?hm1 ?hb1 ?cl1 ?p1 ?q_1 ?w1 ?o2 ?u2 ?ni2 ?tl2 ?ga2 ?gb2 ?ha2 ?hm2 ?hb2 ?cl2 ?p2 ?q_2 ?w2 ?g2_1 ?g2_2 ?g2_3 ?g2_4 ?g2_5 ?g2_6 ?g2_7 ?g2_8 ?g2_9 ?g2_10 ?g2_11 ?g2_12 ?g2_13 ?g2_14 ?g2_15 ?g2_16 ?g2_17 ?g2_18 ?g2_19 ?g2_20
    (case a1 => k_is)
    (case l1 => k_is)
    (case c1 => k_is)
    (case k1 => k_is)
    (case a2 => k_is)
    (case l2 => k_is)
    (case c2 => k_is)
    (case k2 => k_is)
    (case a3 => k_is)
    (case l3 => k_is)
    (case c3 => k_is)
    (case k3 => k_is)
    (case a4 => k_is)
    (case l4 => k_is)
    (case c4 => k_is)
    (case k4 => k_is)
    (case a5 => k_is)
    (case l5 => k_is)
    (case c5 => k_is)
    (case k5 => k_is)
    (case a6 => k_is)
    (case l6 => k_is)
    (case c6 => k_is)
    (case k6 => k_is)
    (case a7 => k_is)
    (case l7 => k_is)
    (case c7 => k_is)
    (case k7 => k_is)
    (case a8 => k_is)
    (case l8 => k_is)
    (case c8 => k_is)
    (case k8 => k_is)
    (case a9 => k_is)
    (case l9 => k_is)
    (case c9 => k_is)
    (case k9 => k_is)
    (case a10 => k_is)
    (case l10 => k_is)
    (case c10 => k_is)
    (case k10 => k_is)
    (case a11 => k_is)
    (case l11 => k_is)
    (case c11 => k_is)
    (case k11 => k_is)
    (case a12 => k_is)
    (case l12 => k_is)
    (case c12 => k_is)
    (case k12 => k_is)
    (case a13 => k_is)
    (case l13 => k_is)
    (case c13 => k_is)
    (case k13 => k_is)
    (case a14 => k_is)
    (case l14 => k_is)
    (case c14 => k_is)
    (case k14 => k_is)
    (case a15 => k_is)
    (case l15 => k_is)
    (case c15 => k_is)
    (case k15 => k_is)
    (case a16 => k_is)
    (case l16 => k_is)
    (case c16 => k_is)
    (case k16 => k_is)
    (case a17 => k_is)
    (case l17 => k_is)
    (case c17 => k_is)
    (case k17 => k_is)
    (case a18 => k_is)
    (case l18 => k_is)
    (case c18 => k_is)
    (case k18 => k_is)
    (case a19 => k_is)
    (case l19 => k_is)
    (case c19 => k_is)
    (case k19 => k_is)
    (case a20 => k_is)
    (case l20 => k_is)
    (case c20 => k_is)
    (case k20 => k_is)
    (case a21 => k_is)
    (case l21 => k_is)
    (case c21 => k_is)
    (case k21 => k_is)
    (case z1 => k_is)
    (case z2 => k_is)
    (case z3 => k_is)
    (case z4 => k_is)
    (case z5 => k_is)
    (case z6 => k_is)
    (case z7 => k_is)
    (case z8 => k_is)
    (case z9 => k_is)
    (case z10 => k_is)
    (case z11 => k_is)
    (case z12 => k_is)
    (case z13 => k_is)
    (case z14 => k_is)
    (case z15 => k_is)
    (case y1 => k_is)
    (case y2 => k_is)
    (case y3 => k_is)
    (case r1 => k_is)
    (case r2 => k_is)
    (case r3 => k_is)
    (case r4 => k_is)
    (case r5 => k_is)
    (case r6 => k_is)
    (case r7 => k_is)
    (case r8 => k_is)
    (case r9 => k_is)
    (case r10 => k_is)
    (case r11 => k_is)
    (case r12 => k_is)
    (case r13 => k_is)
    (case r14 => k_is)
    (case r15 => k_is)
    (case r16 => k_is)
    (case r17 => k_is)
    (case r18 => k_is)
    (case r19 => k_is)
    (case r20 => k_is)
    (case en => k_is)
    (case et => k_is)
    (case ev => k_is)
    (case o1 => k_is)
    (case u1 => kernel_rfl)
    (case ni1 => k_is)
    (case tl1 => kernel_rfl)
    (case ga1 => k_is)
    (case gb1 => k_is)
    (case ha1 => k_is)
    (case hm1 => k_is)
    (case hb1 => k_is)
    (case cl1 => exact rfl)
    (case p1 => exact rfl)
    (case q_1 => exact rfl)
    (case w1 => exact rfl)
    (case o2 => k_is)
    (case u2 => kernel_rfl)
    (case ni2 => k_is)
    (case tl2 => kernel_rfl)
    (case ga2 => k_is)
    (case gb2 => k_is)
    (case ha2 => k_is)
    (case hm2 => k_is)
    (case hb2 => k_is)
    (case cl2 => exact rfl)
    (case p2 => exact rfl)
    (case q_2 => exact rfl)
    (case w2 => exact rfl)
    (case g2_1 => exact rfl)
    (case g2_2 => exact rfl)
    (case g2_3 => exact rfl)
    (case g2_4 => exact rfl)
    (case g2_5 => exact rfl)
    (case g2_6 => exact rfl)
    (case g2_7 => exact rfl)
    (case g2_8 => exact rfl)
    (case g2_9 => exact rfl)
    (case g2_10 => exact rfl)
    (case g2_11 => exact rfl)
    (case g2_12 => exact rfl)
    (case g2_13 => exact rfl)
    (case g2_14 => exact rfl)
    (case g2_15 => exact rfl)
    (case g2_16 => exact rfl)
    (case g2_17 => exact rfl)
    (case g2_18 => exact rfl)
    (case g2_19 => exact rfl)
    (case g2_20 => exact rfl)