import PyProof.Rows.All
import Wide.All
import OpenK.AllK
import Wide.FinOn
import Lean
import PyProof.EqAt
import PyProof.EqKinds
import PyProof.TupleCall
import PyProof.Rows.SumAny
import PyProof.StationsW
import PyProof.ExcClass3
import OpenK.KOwn
import KE.KTryDeep
import KE.KIsAll
import PyProof.ExcAttrAll.ValueError
import PyProof.ExcBaseAll.ValueError
import PyProof.InstStoreFacts
import PyProof.RulesTry
import PyProof.Rows.SortStr
import PyProof.TupleOfSeq
import KE.KxWritten
import PyProof.Conv_bool
import PyProof.AttrMissHeap
import KE.KDictOf
import PyProof.StrOps2
import PyProof.DictWalks
import KE.KDictList
import PyProof.Rows.ZipGen
import PySem.Challenge.RW_orderkeep_k25_what_shows_deepest
namespace PySem.W.Fast
def tw10971452860949193867:=0
def tw12965273465199524133:=0
def tw16632366345762222392:=0
def tw5250140308239193487:=0
def tw10971331710858937646:=0
def tw9141744150800186884:=0
def tw16896169498348867992:=0
def tw49105446000994977:=0
def tw5469670491508922102:=0
def tw11368225299681240173:=0
def tw2622313335344847619:=0
def tw14686718488289009040:=0
def tw443819420526944168:=0
def tw12128415432523215368:=0
def tw7813382938782411479:=0
def tw1296964068729906592:=0
def tw6251496448655262463:=0
def tw10249132969888967360:=0
def tw1426788872485141677:=0
def tw8631840438050352469:=0
def tw11219863818936896996:=0
def tw18122034918772075120:=0
def tw2611711592429992808:=0
def tw17905649831090978723:=0
def tw3469593491869249249:=0
def tw13080854282488121130:=0
def tw4560504869890342685:=0
def tw17523557993247331019:=0
def tw16420247501507560114:=0
def tw16944730333738234886:=0
def tw9848446093190045374:=0
def tw15708909103975112106:=0
def tw15894317254499635644:=0
def tw1312679845090182590:=0
def tw12726287908187563836:=0
def tw18021509176935231518:=0
def tw15567463705610045768:=0
def tw17179141007162509298:=0
def tw10791484904856269887:=0
def tw11655819396807904481:=0
def tw15929320885415073643:=0
def tw8382480859417662547:=0
def tw5297096235681623825:=0
def tw12358009700207226404:=0
def tw7236922496886474785:=0
def tw4307089314308013310:=0
def tw2545269858731888577:=0
def tw4873224193065127811:=0
def tw3658697988547228386:=0
def tw13177894984415528041:=0
def tw3686747128324464601:=0
def tw5066199393287098224:=0
def tw14239685810878010266:=0
def tw2216681891214330962:=0
def tw14968441534513235256:=0
def tw7615385571210758571:=0
def tw2731673484363433513:=0
def tw17934347224069810931:=0
def tw6494763147527406096:=0
def tw10064507373716473150:=0
def tw3351428656953708089:=0
def tw121706086244084751:=0
def tw12202646406151957563:=0
def tw17730243216544135800:=0
def tw2920071703347522843:=0
def tw11742216601951783106:=0
def tw4556781188488049956:=0
def tw16212158691510139668:=0
def tw14860298184627753595:=0
def tw9374223217844916575:=0
def tw1587323142221535349:=0
def tw10024552979307994173:=0
def tw8452360953268055605:=0
def tw17076540222058043458:=0
def tw7778451630385116725:=0
def tw6967951970037429279:=0
def tw5937151942131436703:=0
def tw18103921296713418450:=0
def tw7660820599143059520:=0
def tw15216306270504050925:=0
def tw4373858827457327303:=0
def tw15506287490209036154:=0
def tw13399269905513842278:=0
def tw6093665206894632880:=0
def tw13350454972184926161:=0
def tw16521156851635507012:=0
def tw14218069321618355317:=0
def tw11569775401906715184:=0
def tw16359590179035709394:=0
def tw11905616768854934270:=0
def tw9255153949931649809:=0
def tw9084824647013566666:=0
def tw7615262216343309649:=0
def tw1586089873686835337:=0
def tw8582267353219026863:=0
def tw5758747952074788441:=0
def tw506273829648119678:=0
def tw10003425605239716847:=0
def tw13165709560166681669:=0
def tw14580174775522096439:=0
def tw13801253774038532362:=0
def tw7279569706985799077:=0
def tw12002804875675657368:=0
def tw17425268651559179494:=0
def tw1604888788503606036:=0
def tw11771579113444517368:=0
def tw6950710115625242606:=0
def tw10334452915756629389:=0
def tw10329300858124554148:=0
def tw8075686937548247576:=0
def tw5079111438494897333:=0
def tw5448393545634737725:=0
def tw5942478097716746294:=0
def tw7671188126773103171:=0
def tw11717232661651159588:=0
def tw10010160928265336803:=0
def tw1992030603464895022:=0
def tw9996127325730520362:=0
def tw18367460516273388720:=0
def tw18184350471319900387:=0
def tw16658482752610553329:=0
def tw7305623407532115634:=0
def tw16578800052288933857:=0
def tw6106358262511567329:=0
def tw7252209641273066994:=0
def tw11237242448410003102:=0
def tw16571574998786036067:=0
def tw7154486864038927892:=0
def tw17789799844169956080:=0
def tw10218599532890113049:=0
def tw10515795723128845837:=0
def tw12594697396319250316:=0
def tw16866821793721384175:=0
def tw3163971026713659110:=0
def tw17159343433844489585:=0
def tw1505516967637387592:=0
def tw8427679254003951037:=0
def tw18023309360313409958:=0
def tw10191846857868469731:=0
def tw16485158442998571975:=0
def tw4646971696927904007:=0
def tw12385679299593061101:=0
def tw16277910274876714938:=0
def tw13932306316045025273:=0
def tw10820168288926788827:=0
def tw9055787422497493633:=0
def tw14659163713213567760:=0
def tw14649193278426346544:=0
def tw13770693185976416703:=0
def tw1828313482543059623:=0
def tw9066183918466319651:=0
def tw730114019045581686:=0
def tw16531293502517164329:=0
def tw904805834161300949:=0
def tw13418495387009675794:=0
def tw1186102110225708965:=0
def tw16420482393357842709:=0
def tw14957521174560232782:=0
def tw11374766050756265747:=0
def tw5320833382325045678:=0
def tw15709141020038426094:=0
def tw12621564695432351723:=0
def tw8653109758002977348:=0
def tw2166535371850806133:=0
def tw16101276335429816715:=0
def tw952002640555083561:=0
def tw12431563852305987628:=0
def tw17106657779088220633:=0
def tw4961027353153769540:=0
def tw2773329627449309128:=0
def tw10642074572179792012:=0
def tw17313589946825173719:=0
def tw16481371629216448956:=0
def tw12778544952463552912:=0
def tw13898257277148326634:=0
def tw1307057549314244995:=0
def tw7688344322894646800:=0
def tw6070064179450865865:=0
def tw17777524297449405024:=0
def tw7506310999588067836:=0
def tw10645958429674065134:=0
def tw16997274007038238019:=0
def tw10286902052875271776:=0
def tw10543523501392413298:=0
def tw12855338533176966158:=0
def tw13026359895244996880:=0
def tw357857209487849110:=0
def tw6284853644151588070:=0
def tw2977596956939957750:=0
def tw14785686640886614384:=0
def tw7095156839000375194:=0
def tw2494790876726350259:=0
def tw14928389703818683454:=0
def tw1121520098692758287:=0
def tw11224952569575874791:=0
def tw3818295289623723663:=0
def tw4576678136888750805:=0
def tw18123253381606091780:=0
def tw17165055059563081337:=0
def tw11692668106659083121:=0
def tw1860393706354590749:=0
def tw15295586944761577829:=0
def tw4868730271605335954:=0
def tw4016134693657615813:=0
def tw8904489965239900515:=0
def tw9603243162585133616:=0
def tw6830414520971924709:=0
def tw1355116726832977159:=0
def tw13367602196244393291:=0
def tw7374601149067334133:=0
def tw12562651020551212330:=0
def tw11263787614503044313:=0
def tw2693644471622504661:=0
def tw9185149120547036481:=0
def tw6030406672191408508:=0
def tw7656489133504052729:=0
def tw1284459839169982739:=0
def tw13519151761056469278:=0
def tw14141299639323106838:=0
def tw16407944378019466061:=0
def tw12260880734825684944:=0
def tw3784219662268000863:=0
def tw938887813222323704:=0
def tw4836414813031475502:=0
def tw2335029071621134873:=0
def tw659787252711235206:=0
def tw2417694231298028642:=0
def tw6706471774366737158:=0
def tw7846927064527041669:=0
def tw11884313050693267838:=0
def tw13427086527575073239:=0
def tw18269509456163328657:=0
def tw16219897567353921067:=0
def tw14258847213700929521:=0
def tw17833807638601967283:=0
def tw301071216407058981:=0
def tw13500002124858825527:=0
def tw3144195566383708789:=0
def tw1555596547283384177:=0
def tw4579821159907681400:=0
def tw11422839891998657060:=0
def tw13272296541057034596:=0
def tw17692382884482830179:=0
def tw14965415625545089051:=0
def tw12671450461227850928:=0
def tw18290284739336079400:=0
def tw14153406063093582149:=0
end PySem.W.Fast
set_option Elab.async false
set_option linter.all false
set_option maxRecDepth 100000
namespace L2
open PySem PySem.Spec PyProof.Rows
noncomputable abbrev Key := Sum Int Str
noncomputable def keyIs : Key → Value → Bool
  | .inl k, v => Value.isInt k v
  | .inr x, v => Value.isStrOf x v
noncomputable def keyH (w : World) : Key → Int
  | .inl k => hashInt k
  | .inr x => hashStr w x
theorem keyIs_shape : ∀ {k : Key} {v : Value}, keyIs k v = true → (∃ i t, k = Sum.inl i ∧ v = Value.int i t) ∨ (∃ x t, k = Sum.inr x ∧ v = Value.str x t)
  | .inl i, v, h => by
    obtain ⟨t, e⟩ := Value.isInt_shape (k := i) (v := v) h
    exact .inl ⟨i, t, rfl, e⟩
  | .inr x, v, h => by
    obtain ⟨t, e⟩ := Value.isStrOf_shape (x := x) (v := v) h
    exact .inr ⟨x, t, rfl, e⟩
theorem keyIs_int (i : Int) (t : Tok) : keyIs (.inl i) (.int i t) = true := by simp [keyIs, Value.isInt]
theorem keyIs_str (x : Str) (t : Tok) : keyIs (.inr x) (.str x t) = true := by simp [keyIs, Value.isStrOf]
theorem key_ll (a b : Int) : decide ((Sum.inl a : Key) = Sum.inl b) = (a == b) := by
  by_cases e : a = b
  · subst e; simp
  · have h : ¬ (Sum.inl a : Key) = Sum.inl b := fun q => e (Sum.inl.inj q)
    rw [decide_eq_false h]
    exact (beq_eq_false_iff_ne.mpr e).symm
theorem key_rr (a b : Str) : decide ((Sum.inr a : Key) = Sum.inr b) = decide (a = b) := by
  by_cases e : a = b
  · subst e; simp
  · have h : ¬ (Sum.inr a : Key) = Sum.inr b := fun q => e (Sum.inr.inj q)
    rw [decide_eq_false h, decide_eq_false e]
theorem key_lr (a : Int) (b : Str) : decide ((Sum.inl a : Key) = Sum.inr b) = false := decide_eq_false (fun q => nomatch q)
theorem key_rl (a : Str) (b : Int) : decide ((Sum.inr a : Key) = Sum.inl b) = false := decide_eq_false (fun q => nomatch q)
noncomputable def mixKind (prog : Program) (w : World) : PySem.KeyKind prog w Key where
  is := keyIs
  hash := keyH w
  inj := fun v a b ha hb => by
    rcases keyIs_shape ha with ⟨i, t, rfl, rfl⟩ | ⟨x, t, rfl, rfl⟩
    · rcases keyIs_shape hb with ⟨j, u, rfl, e⟩ | ⟨y, u, rfl, e⟩
      · injection e with e1 _; rw [e1]
      · exact nomatch e
    · rcases keyIs_shape hb with ⟨j, u, rfl, e⟩ | ⟨y, u, rfl, e⟩
      · exact nomatch e
      · injection e with e1 _; rw [e1]
  byValue := fun k v h => by
    rcases keyIs_shape h with ⟨i, t, rfl, rfl⟩ | ⟨x, t, rfl, rfl⟩ <;> rfl
  pyHash := fun hv h => by
    rcases keyIs_shape hv with ⟨i, t, rfl, rfl⟩ | ⟨x, t, rfl, rfl⟩
    · exact wpAny_pyHash_int h
    · exact wpAny_pyHash_str h
  eqBool := fun hu hv h => by
    rcases keyIs_shape hu with ⟨i, t, rfl, rfl⟩ | ⟨x, t, rfl, rfl⟩
    · rcases keyIs_shape hv with ⟨j, u, rfl, rfl⟩ | ⟨y, u, rfl, rfl⟩
      · rw [key_ll] at h; exact wpAny_eqBool_int h
      · rw [key_lr] at h; exact SeqAt.EqAt.int_str i t y u _ _ _ _ h
    · rcases keyIs_shape hv with ⟨j, u, rfl, rfl⟩ | ⟨y, u, rfl, rfl⟩
      · rw [key_rl] at h; exact SeqAt.EqAt.str_int x t j u _ _ _ _ h
      · rw [key_rr] at h; exact wpAny_eqBool_str h
  «strs» := fun k x t v h => by
    rcases keyIs_shape h with ⟨i, u, rfl, e⟩ | ⟨y, u, rfl, e⟩
    · exact nomatch e
    · injection e with e1 _
      subst e1
      cases v <;> rfl
theorem mixKind_int (prog : Program) (w : World) (i : Int) (t : Tok) : (mixKind prog w).is (.inl i) (.int i t) = true := keyIs_int i t
theorem mixKind_str (prog : Program) (w : World) (x : Str) (t : Tok) : (mixKind prog w).is (.inr x) (.str x t) = true := keyIs_str x t
end L2
namespace L2
open PySem PySem.Spec PyProof.Rows
inductive V where
  | non | bl (b : Bool) | int (i : Int) | str (x : Str) | byt (b : Array UInt8) | flt (b : UInt64) | ref (a : Addr) | ty (n : String)
  deriving DecidableEq
noncomputable def RelV : V → Value → Prop
  | .non, u => u = Value.none
  | .bl b, u => u = Value.bool b
  | .int i, u => ∃ t, u = Value.int i t
  | .str x, u => ∃ t, u = Value.str x t
  | .byt b, u => ∃ t, u = Value.bytes b t
  | .flt b, u => ∃ t, u = Value.float b t
  | .ref a, u => u = Value.ref a
  | .ty n, u => u = Value.type n
noncomputable abbrev Vals : List V → List Value → Prop := Paired RelV
theorem Vals.length {xs : List V} {us : List Value} (r : Vals xs us) : xs.length = us.length := Paired.length r
theorem Vals.get : ∀ {xs : List V} {us : List Value} {i : Nat} {x : V}, Vals xs us → xs[i]? = some x → ∃ u, us[i]? = some u ∧ RelV x u
  | _, _, _, _, .nil, e => by simp at e
  | _, _, 0, _, .cons r _, e => by simp at e; subst e; exact ⟨_, rfl, r⟩
  | _, _, i + 1, x, .cons _ t, e => by
    obtain ⟨u, h1, h2⟩ := Vals.get (i := i) (x := x) t (by simpa using e)
    exact ⟨u, by simpa using h1, h2⟩
theorem Vals.set {x : V} {u : Value} (r : RelV x u) : ∀ {xs : List V} {us : List Value} (i : Nat), Vals xs us → Vals (xs.set i x) (us.set i u)
  | _, _, _, .nil => .nil
  | _, _, 0, .cons _ t => .cons r t
  | _, _, i + 1, .cons q t => .cons q (Vals.set r i t)
theorem Vals.append : ∀ {xs ys : List V} {us ws : List Value}, Vals xs us → Vals ys ws → Vals (xs ++ ys) (us ++ ws)
  | _, _, _, _, .nil, s => s
  | _, _, _, _, .cons r t, s => .cons r (Vals.append t s)
theorem Vals.take : ∀ {xs : List V} {us : List Value} (n : Nat), Vals xs us → Vals (xs.take n) (us.take n)
  | _, _, 0, _ => .nil
  | _, _, _ + 1, .nil => .nil
  | _, _, n + 1, .cons r t => .cons r (Vals.take n t)
theorem Vals.drop : ∀ {xs : List V} {us : List Value} (n : Nat), Vals xs us → Vals (xs.drop n) (us.drop n)
  | _, _, 0, r => r
  | _, _, _ + 1, .nil => .nil
  | _, _, n + 1, .cons _ t => Vals.drop n t
noncomputable def RelO : Option V → Option Value → Prop
  | some v, some u => RelV v u
  | none, none => True
  | _, _ => False
noncomputable def KV {κ : Type} : List (κ × V) → List (κ × Value) → Prop := Paired fun (p : κ × V) (q : κ × Value) => p.1 = q.1 ∧ RelV p.2 q.2
noncomputable def kV : Key → V
  | .inl i => .int i
  | .inr x => .str x
inductive HO where
  /-- a list -/
  | lst (xs : List V)
  /-- a tuple (never changes) -/
  | tup (xs : List V)
  /-- a dict whose keys are ints and texts; one whose keys are tuples of ints and texts (the empty one is both) -/
  | dK (kvs : List (Key × V)) | dT (kvs : List (List Key × V))
  /-- a set of ints: its members, its size -/
  | set (S : Int → Bool) (n : Nat)
  /-- an instance of the class at C, its dict at dx, its attributes -/
  | ins (C dx : Addr) (fs : List (Str × V))
  /-- the dict of the instance at x -/
  | own (x : Addr)
  /-- the dict of an exception -/
  | xd (fs : List (Str × V))
  /-- a bound method, f of x -/
  | met (f x : Addr)
  /-- a range object lo, lo + 1, .. below hi -/
  | rng (lo hi : Int)
  /-- a thing that is known to the object (the script; a dict while a loop walks it): read, never written while it is so -/
  | frz (o : Obj) (u : HO)
  /-- a code object's table -/
  | tbl (ps : Array Value)
  /-- any other thing, by what is true of its one object (a def of one's own: SetO a S n := HO.ext fun h => ..) -/
  | ext (φ : Heap → Prop)
noncomputable abbrev Hp := Addr → Option HO
noncomputable def upd (H : Hp) (a : Addr) (o : HO) : Hp := fun b => if b = a then some o else H b
theorem upd_same {H : Hp} {a : Addr} {o : HO} : upd H a o a = some o := by unfold upd; rw [if_pos rfl]
theorem upd_ne {H : Hp} {a b : Addr} {o : HO} (h : b ≠ a) : upd H a o b = H b := by unfold upd; rw [if_neg h]
theorem ne_of {H : Hp} {a b : Addr} {o u : HO} (h : H a = some o) (h' : H b = some u) (d : o ≠ u) : a ≠ b := by
  intro e; subst e; rw [h] at h'; exact d (Option.some.inj h')
theorem ne_of_none {H : Hp} {a b : Addr} {o : HO} (h : H a = some o) (h' : H b = none) : a ≠ b := by
  intro e; subst e; rw [h] at h'; cases h'
noncomputable def TupN (h : Heap) (a : Addr) (items : Array Value) : Prop := ∃ o, h.get? a = some o ∧ o.cls = .type "tuple" ∧ ∃ n, o.data = .seq items n ∧ o.dict = none
theorem TupN.tup {h : Heap} {a : Addr} {items : Array Value} (x : TupN h a items) : IsTup h a items := let ⟨o, e, c, n, d, _⟩ := x; ⟨o, e, c, n, d⟩
theorem TupN.new (h : Heap) (items : Array Value) : TupN (h.push { cls := .type "tuple", data := .seq items }) h.objs.size items := ⟨_, Heap.get?_push_size _ rfl, rfl, _, rfl, rfl⟩
section
variable (P : Program) (w : World)
noncomputable def ObjOk (H : Hp) (h : Heap) (a : Addr) : HO → Prop
  | .lst xs => xs.length ≤ sizeLine ∧ ∃ (its : List Value) (n : Nat), Vals xs its ∧ h.get? a = some { cls := .type "list", data := .seq its.toArray n }
  | .tup xs => xs.length ≤ sizeLine ∧ ∃ its : List Value, Vals xs its ∧ TupN h a its.toArray
  | .dK kvs => kvs.length ≤ sizeLine ∧ (a == sysModules) = false ∧ ∃ vs, KV kvs vs ∧ h.DictOf (mixKind P w) a vs
  | .dT kvs => kvs.length ≤ sizeLine ∧ (a == sysModules) = false ∧ ∃ xs : List (List Key × Addr × Value),
      Paired (fun (p : List Key × V) (q : List Key × Addr × Value) => p.1 = q.1 ∧ H q.2.1 = some (.tup (p.1.map kV)) ∧ RelV p.2 q.2.2) kvs xs ∧
      ∃ o es ep, h.get? a = some o ∧ o.ExactDict ∧ o.data = .dict es ep ∧ es.toList = xs.map (entryOfKey (tupleKind (mixKind P w))) ∧ (xs.map (·.1)).Nodup
  | .set S n => h.SetOf (intKind P w) a S n
  | .ins C dx fs => H dx = some (.own a) ∧ fs.length ≤ 1000 ∧ dx ≠ a ∧ h.get? a = some (PySem.W.instObj C dx) ∧
      ∃ mA, h.Ns1 dx mA ∧ (∀ f, RelO (fs.lookup f) (mA f)) ∧ PySem.Within mA (fs.map (·.1))
  | .own _ => ∃ o, h.get? a = some o
  | .xd fs => ∃ mA, h.Ns1 a mA ∧ ∀ f, RelO (fs.lookup f) (mA f)
  | .rng lo hi => ∃ t u v, h.get? a = some { cls := .type "range", data := .fields #[.int lo t, .int hi u, .int 1 v] }
  | .frz o u => h.get? a = some o ∧ ObjOk H h a u
  | .tbl ps => h.get? a = some { cls := .none, data := .fields ps }
  | .met f x => h.get? a = some (PySem.W.methodObj (.ref f) (.ref x))
  | .ext φ => φ h ∧ (∃ o, h.get? a = some o) ∧ ∀ h1 h2 : Heap, φ h1 → (∀ o, h1.get? a = some o → h2.get? a = some o) → φ h2
noncomputable def HOk (H : Hp) (h : Heap) : Prop := ∀ a o, H a = some o → ObjOk P w H h a o
end
section
variable {P : Program} {w : World} {H H' : Hp} {h h' : Heap} {a : Addr} {o : HO}
theorem ObjOk.lt (x : ObjOk P w H h a o) : a < h.objs.size := by
  cases o with
  | lst xs => obtain ⟨_, _, _, _, e⟩ := x; exact Heap.lt_size e
  | tup xs => obtain ⟨_, _, _, p⟩ := x; exact p.tup.lt
  | dK kvs => obtain ⟨_, _, _, _, o, _, _, e, _⟩ := x; exact Heap.lt_size e
  | dT kvs => obtain ⟨_, _, _, _, o, _, _, e, _⟩ := x; exact Heap.lt_size e
  | set S n => obtain ⟨o, _, _, _, e, _⟩ := x; exact Heap.lt_size e
  | ins C dx fs => obtain ⟨_, _, _, e, _⟩ := x; exact Heap.lt_size e
  | own y => obtain ⟨_, e⟩ := x; exact Heap.lt_size e
  | xd fs => obtain ⟨_, ⟨_, _, _, e, _⟩, _⟩ := x; exact Heap.lt_size e
  | rng lo hi => obtain ⟨_, _, _, e⟩ := x; exact Heap.lt_size e
  | frz ob u => obtain ⟨e, _⟩ := x; exact Heap.lt_size e
  | tbl ps => exact Heap.lt_size (show h.get? a = some _ from x)
  | met f y => exact Heap.lt_size (show h.get? a = some _ from x)
  | ext φ => obtain ⟨_, ⟨_, e⟩, _⟩ := x; exact Heap.lt_size e
theorem Paired.mapP {α β : Type} {F G : α → β → Prop} : ∀ {l₁ : List α} {l₂ : List β}, Paired F l₁ l₂ → (∀ a b, F a b → G a b) → Paired G l₁ l₂
  | _, _, .nil, _ => .nil
  | _, _, .cons r t, f => .cons (f _ _ r) (Paired.mapP t f)
theorem ObjOk.stay (x : ObjOk P w H h a o) (k : ∀ b u, (b = a ∨ H b = some (.own a)) → h.get? b = some u → h'.get? b = some u)
    (ho : ∀ b, H b = some (.own a) → H' b = some (.own a)) (ht : ∀ b xs, H b = some (.tup xs) → H' b = some (.tup xs)) : ObjOk P w H' h' a o := by
  induction o with
  | lst xs => obtain ⟨z, its, n, r, e⟩ := x; exact ⟨z, its, n, r, k _ _ (.inl rfl) e⟩
  | tup xs => obtain ⟨z, its, r, ob, e, c⟩ := x; exact ⟨z, its, r, ob, k _ _ (.inl rfl) e, c⟩
  | dK kvs => obtain ⟨z, y, vs, r, ob, es, ep, e, c⟩ := x; exact ⟨z, y, vs, r, ob, es, ep, k _ _ (.inl rfl) e, c⟩
  | dT kvs =>
    obtain ⟨z, y, xs, r, ob, es, ep, e, c⟩ := x
    exact ⟨z, y, xs, Paired.mapP r fun p q z => ⟨z.1, ht _ _ z.2.1, z.2.2⟩, ob, es, ep, k _ _ (.inl rfl) e, c⟩
  | set S n => obtain ⟨ob, es, ep, t, e, c⟩ := x; exact ⟨ob, es, ep, t, k _ _ (.inl rfl) e, c⟩
  | ins C dx fs =>
    obtain ⟨d, z, ne, e, mA, ⟨od, es, ep, e2, c⟩, r⟩ := x
    exact ⟨ho _ d, z, ne, k _ _ (.inl rfl) e, mA, ⟨od, es, ep, k _ _ (.inr d) e2, c⟩, r⟩
  | own y => obtain ⟨ob, e⟩ := x; exact ⟨ob, k _ _ (.inl rfl) e⟩
  | xd fs => obtain ⟨mA, ⟨od, es, ep, e, c⟩, r⟩ := x; exact ⟨mA, ⟨od, es, ep, k _ _ (.inl rfl) e, c⟩, r⟩
  | rng lo hi => obtain ⟨t, u, v, e⟩ := x; exact ⟨t, u, v, k _ _ (.inl rfl) e⟩
  | frz ob u ih => obtain ⟨e, q⟩ := x; exact ⟨k _ _ (.inl rfl) e, ih q⟩
  | tbl ps =>
    have e : h.get? a = some { cls := .none, data := .fields ps } := x
    show h'.get? a = some { cls := .none, data := .fields ps }
    exact k a _ (.inl rfl) e
  | met f y =>
    have e : h.get? a = some (PySem.W.methodObj (.ref f) (.ref y)) := x
    show h'.get? a = some (PySem.W.methodObj (.ref f) (.ref y))
    exact k a _ (.inl rfl) e
  | ext φ => obtain ⟨p, ⟨o, e⟩, st⟩ := x; exact ⟨st _ _ p fun o q => k _ _ (.inl rfl) q, ⟨o, k _ _ (.inl rfl) e⟩, st⟩
theorem HOk.lt (x : HOk P w H h) (e : H a = some o) : a < h.objs.size := (x a o e).lt
theorem HOk.fresh (x : HOk P w H h) (e : h.objs.size ≤ a) : H a = none := by
  cases q : H a with
  | none => rfl
  | some u => exact absurd (Nat.lt_of_lt_of_le (x.lt q) e) (Nat.lt_irrefl _)
theorem HOk.kept (x : HOk P w H h) (k : ∀ b u, h.get? b = some u → h'.get? b = some u) : HOk P w H h' := fun a o e =>
  (x a o e).stay (fun b u _ q => k b u q) (fun _ q => q) fun _ _ q => q
theorem HOk.laid (x : HOk P w H h) (k : ∀ b u, h.get? b = some u → h'.get? b = some u) (hp : h.objs.size ≤ a) (new : ObjOk P w (upd H a o) h' a o) : HOk P w (upd H a o) h' := fun b u e => by
  have hn := x.fresh hp
  by_cases hb : b = a
  · subst hb; rw [upd_same] at e; cases e; exact new
  · rw [upd_ne hb] at e
    exact (x b u e).stay (fun c v _ q => k c v q) (fun c q => by rw [upd_ne (ne_of_none q hn)]; exact q) fun c xs q => by rw [upd_ne (ne_of_none q hn)]; exact q
end
noncomputable def Rd (H : Hp) (a : Addr) (u : HO) : Prop := H a = some u ∨ ∃ o, H a = some (.frz o u)
theorem Rd.ok {P : Program} {w : World} {H : Hp} {h : Heap} {a : Addr} {u : HO} (r : Rd H a u) (x : HOk P w H h) : ObjOk P w H h a u := by
  rcases r with r | ⟨o, r⟩
  · exact x a u r
  · obtain ⟨_, q⟩ := x a _ r
    exact q
noncomputable def Mut : Option HO → Prop
  | some (.lst _) => True
  | some (.dK _) => True
  | some (.dT _) => True
  | some (.set _ _) => True
  | some (.ins _ _ _) => True
  | some (.ext _) => True
  | _ => False
section
variable {P : Program} {w : World} {H : Hp} {h h' : Heap} {x e : Addr} {o' : HO}
theorem HOk.write (ok : HOk P w H h) (mu : Mut (H x)) (he : e = x ∨ H e = some (.own x)) (k : ∀ b u, b ≠ e → h.get? b = some u → h'.get? b = some u) (heo : ∃ u, h'.get? e = some u)
    (new : ObjOk P w (upd H x o') h' x o') : HOk P w (upd H x o') h' := fun b u q => by
  have nown : ∀ c y, H c = some (.own y) → c ≠ x := fun c y r z => by subst z; rw [r] at mu; exact mu
  have ntup : ∀ c xs, H c = some (.tup xs) → c ≠ x := fun c xs r z => by subst z; rw [r] at mu; exact mu
  by_cases hb : b = x
  · subst hb; rw [upd_same] at q; cases q; exact new
  · rw [upd_ne hb] at q
    by_cases hbe : b = e
    · have q' : H b = some (.own x) := by
        rcases he with z | z
        · exact absurd (hbe.trans z) hb
        · rw [hbe]; exact z
      rw [q] at q'; cases q'
      obtain ⟨v, hv⟩ := heo
      exact ⟨v, by rw [hbe]; exact hv⟩
    · refine (ok b u q).stay (fun c v hc r => k c v ?_ r) (fun c r => by rw [upd_ne (nown c b r)]; exact r) fun c xs r => by rw [upd_ne (ntup c xs r)]; exact r
      rcases hc with rfl | hc
      · exact hbe
      · rintro rfl
        rcases he with z | z
        · exact nown c b hc z
        · rw [hc] at z; cases z; exact hb rfl
end
structure Un (fs ex : List Addr) (H H' : Hp) (h h' : Heap) : Prop where
  keep : ∀ b o, h.get? b = some o → H b = none → b ∉ fs → b ∉ ex → h'.get? b = some o
  slot : ∀ b o, h.get? b = some o → H b = none → b ∈ fs → b ∉ ex → ∃ sl, h'.get? b = some { o with slots := sl }
  free : ∀ b o, h.get? b = some o → H b = none → b ∉ ex → H' b = none
  there : ∀ b o, h.get? b = some o → b ∉ ex → ∃ o', h'.get? b = some o'
  tups : ∀ b xs, H b = some (.tup xs) → H' b = some (.tup xs)
  frzs : ∀ b o u, H b = some (.frz o u) → H' b = some (.frz o u)
  tbls : ∀ b ps, H b = some (.tbl ps) → ∃ more, H' b = some (.tbl (ps ++ more))
section
variable {fs fs' ex ex' : List Addr} {H H1 H2 : Hp} {h h1 h2 h' : Heap} {a x e : Addr} {o : HO}
theorem Un.any (u : Un fs ex H H1 h h1) {b : Addr} {ob : Obj} (q : h.get? b = some ob) (n : H b = none) (hx : b ∉ ex) : ∃ sl, h1.get? b = some { ob with slots := sl } := by
  by_cases hb : b ∈ fs
  · exact u.slot b ob q n hb hx
  · exact ⟨ob.slots, u.keep b ob q n hb hx⟩
theorem Un.kept (k : ∀ b u, h.get? b = some u → h'.get? b = some u) : Un fs ex H H h h' :=
  ⟨fun b ob q _ _ _ => k b ob q, fun b ob q _ _ _ => ⟨ob.slots, k b ob q⟩, fun _ _ _ n _ => n, fun b ob q _ => ⟨ob, k b ob q⟩, fun _ _ q => q, fun _ _ _ q => q, fun _ ps q => ⟨#[], by rw [q]; simp⟩⟩
theorem Un.refl : Un fs ex H H h h := Un.kept fun _ _ q => q
theorem Un.laid (k : ∀ b u, h.get? b = some u → h'.get? b = some u) (hp : h.objs.size ≤ a) (hn : H a = none) : Un fs ex H (upd H a o) h h' where
  keep := fun b u q _ _ _ => k b u q
  slot := fun b u q _ _ _ => ⟨u.slots, k b u q⟩
  free := fun b u q n _ => by rw [upd_ne (Nat.ne_of_lt (Nat.lt_of_lt_of_le (Heap.lt_size q) hp))]; exact n
  there := fun b u q _ => ⟨u, k b u q⟩
  tups := fun b xs q => by rw [upd_ne (ne_of_none q hn)]; exact q
  frzs := fun b u xs q => by rw [upd_ne (ne_of_none q hn)]; exact q
  tbls := fun b ps q => ⟨#[], by rw [upd_ne (ne_of_none q hn), q]; simp⟩
theorem Un.write (mu : Mut (H x)) (he : e = x ∨ H e = some (.own x)) (k : ∀ b u, b ≠ e → h.get? b = some u → h'.get? b = some u) (heo : ∃ u, h'.get? e = some u) : Un fs ex H (upd H x o) h h' := by
  have hx : ∀ b, H b = none → b ≠ x := fun b n z => by subst z; rw [n] at mu; exact mu
  have hb : ∀ b, H b = none → b ≠ e := fun b n z => by
    subst z
    rcases he with r | r
    · exact hx b n r
    · rw [n] at r; cases r
  have hm : ∀ b u, H b = some u → ¬ Mut (some u) → b ≠ x := fun b u q nm z => by subst z; rw [q] at mu; exact nm mu
  refine ⟨fun b u q n _ _ => k b u (hb b n) q, fun b u q n _ _ => ⟨u.slots, k b u (hb b n) q⟩, fun b u q n _ => by rw [upd_ne (hx b n)]; exact n, fun b u q _ => ?_,
    fun b xs q => by rw [upd_ne (hm b _ q fun z => z)]; exact q, fun b u xs q => by rw [upd_ne (hm b _ q fun z => z)]; exact q, fun b ps q => ⟨#[], by rw [upd_ne (hm b _ q fun z => z), q]; simp⟩⟩
  by_cases hbe : b = e
  · subst hbe; exact heo
  · exact ⟨u, k b u hbe q⟩
end
noncomputable def trk (h : Heap) (H : Hp) : List Addr := (List.range h.objs.size).filter fun a => (H a).isSome
noncomputable def hidT (h : Heap) (H : Hp) : Heap := PySem.W.hideAll h (trk h H)
theorem hidT_size (h : Heap) (H : Hp) : (hidT h H).objs.size = h.objs.size := PySem.W.hideAll_size _ _
theorem hidT_get {h : Heap} {H : Hp} {b : Addr} {o : Obj} (e : h.get? b = some o) (n : H b = none) : (hidT h H).get? b = some o :=
  PySem.W.hideAll_get _ e fun hm => by
    have q : (H b).isSome = true := (List.mem_filter.mp hm).2
    rw [n] at q; simp at q
theorem of_hidT {h : Heap} {H : Hp} {b : Addr} {o : Obj} (e : (hidT h H).get? b = some o) : h.get? b = some o ∧ H b = none := by
  have e' : h.get? b = some o := PySem.W.of_hideAll (trk h H) e
  refine ⟨e', ?_⟩
  cases q : H b with
  | none => rfl
  | some x =>
    have hm : b ∈ trk h H := List.mem_filter.mpr ⟨List.mem_range.mpr (Heap.lt_size e'), by simp [q]⟩
    have z : (hidT h H).get? b = none := PySem.W.hideAll_none (trk h H) hm
    rw [z] at e; cases e
noncomputable def allNews (g h : Heap) (L : Addr) : List (Addr × Obj) := (List.range h.objs.size).filterMap fun a => if a = L ∨ (g.get? a).isSome = true then none else (h.get? a).map fun o => (a, o)
noncomputable def rest (g h : Heap) (L d : Addr) : List (Addr × Obj) := (allNews g h L).filter fun p => decide (p.1 ≠ d)
end L2
namespace L2
open PySem PySem.Spec PyProof.Rows
structure Mod (K : PySem.W.Frag) (mg : Str → Option Value) (base : Heap) : Prop where
  kin : K.In base
  glob : base.Ns mainGlobals mg
  blt : ∃ mb, base.Ns builtinsNs mb ∧ ∀ x : Str, x ≠ "__name__" → mb x = bootBuiltins x
  nolimit : base.NoLimit
structure Cx where
  prog : Program
  w : World
  K : PySem.W.Frag
  mg : Str → Option Value
  base : Heap
  A : Around
  N : List Str
  s₀ : Shared
  H₀ : Hp
  env : Env
  outer : List Env
  stack : List Env
  ex : List Addr
  fn : Str → Bool
  calm : Bool
  pn : List (Addr × Obj)
  xe : Value → Shared → Prop
noncomputable def frs (l : List Env) : List Addr := l.filterMap (·.frame)
noncomputable abbrev Cx.fs (X : Cx) : List Addr := frs X.outer
noncomputable def Vis (sc : Scope) (x : Str) : Prop := sc.names.lookup x = some .local ∨ sc.names.lookup x = some .cell ∨ sc.names.lookup x = some .free
noncomputable def Loc (sc : Scope) (x : Str) : Prop := sc.names.lookup x = some .local ∨ sc.names.lookup x = some .cell
noncomputable def Look (env : Env) (h : Heap) (m : Str → Option Value) (x : Str) (u : Value) : Prop :=
  (env.kindOf x = some .local ∧ m x = some u) ∨ ((env.kindOf x = some .cell ∨ env.kindOf x = some .free) ∧ ∃ c, env.cells.lookup x = some c ∧ h.IsCell c (some u))
structure Cx.Ok (X : Cx) : Prop where
  mod : Mod X.K X.mg X.base
  kind : X.env.scope.kind = .function
  glob : X.env.globals = mainGlobals
  blt : X.env.builtins = builtinsNs
  above : X.s₀.heap.objs.size ≤ X.env.locals
  inj : ∀ x y c, X.env.cells.lookup x = some c → X.env.cells.lookup y = some c → x = y
  has : ∀ x, (X.env.kindOf x = some .cell ∨ X.env.kindOf x = some .free) → ∃ c, X.env.cells.lookup x = some c
  cab : ∀ x c, X.fn x = true → X.env.cells.lookup x = some c → X.s₀.heap.objs.size ≤ c
  hd : X.calm = true → X.A.handled = none
  frames : X.A.frames = some X.stack
  stk : X.stack = X.outer ∨ (X.stack = X.env :: X.outer ∧ X.env.frame = some X.env.locals)
  exf : ∀ b ∈ X.ex, b ≠ X.env.locals ∧ ∀ x c, X.env.cells.lookup x = some c → c ≠ b
  bs : ∀ b o, X.base.get? b = some o → X.s₀.heap.get? b = some o ∧ X.H₀ b = none
  bsz : X.base.objs.size ≤ X.s₀.heap.objs.size
  noex : ∀ b o, X.base.get? b = some o → b ∉ X.ex
  exfs : ∀ b ∈ X.ex, b ∉ X.fs
  funs : X.s₀.heap.FunFrames X.base X.outer
  frf : ∀ b ∈ X.fs, X.H₀ b = none
structure Inv (X : Cx) (pins : List (Addr × Obj)) (σ : List (Option V)) (H : Hp) (s : Shared) : Prop where
  ok : X.Ok
  os : s.os = X.s₀.os
  bare : AllBare s.gens
  base : Un X.fs X.ex X.H₀ H X.s₀.heap s.heap
  loc : ∃ m, s.heap.Ns X.env.locals m ∧ ∀ (i : Nat) (x : Str) (v : V), X.N[i]? = some x → σ[i]? = some (some v) → Vis X.env.scope x → ∃ u, RelV v u ∧ Look X.env s.heap m x u
  cell : ∀ x c, X.env.cells.lookup x = some c → ∃ v, s.heap.IsCell c v
  free : H X.env.locals = none
  freeC : ∀ x c, X.env.cells.lookup x = some c → H c = none
  pin : ∀ p ∈ X.pn ++ pins, s.heap.get? p.1 = some p.2 ∧ H p.1 = none ∧ p.1 ≠ X.env.locals ∧ p.1 ∉ X.fs ∧ ∀ v, p.2.data ≠ .cell v
  hok : HOk X.prog X.w H s.heap
  len : σ.length = X.N.length
section
variable {X : Cx} {pins : List (Addr × Obj)} {σ : List (Option V)} {H H' : Hp} {s : Shared} {h' : Heap}
theorem Cx.Ok.nofr (ok : X.Ok) {b : Addr} {o : Obj} (e : X.base.get? b = some o) : b ∉ X.fs := fun hb => by
  have := (ok.funs.mem hb).1
  rw [e] at this; cases this
theorem Inv.bs (I : Inv X pins σ H s) : ∀ b o, X.base.get? b = some o → s.heap.get? b = some o ∧ H b = none := fun b o e =>
  ⟨I.base.keep b o (I.ok.bs b o e).1 (I.ok.bs b o e).2 (I.ok.nofr e) (I.ok.noex b o e), I.base.free b o (I.ok.bs b o e).1 (I.ok.bs b o e).2 (I.ok.noex b o e)⟩
theorem Inv.bk (I : Inv X pins σ H s) : ∀ b o, X.base.get? b = some o → s.heap.get? b = some o := fun b o e => (I.bs b o e).1
theorem Inv.mod (I : Inv X pins σ H s) : Mod X.K X.mg X.base := I.ok.mod
theorem Inv.kIn (I : Inv X pins σ H s) : X.K.In s.heap := I.ok.mod.kin.keeps I.bk
theorem Inv.lt (I : Inv X pins σ H s) : X.env.locals < s.heap.objs.size := let ⟨_, hn, _⟩ := I.loc; hn.lt
theorem Inv.sz (I : Inv X pins σ H s) : X.s₀.heap.objs.size ≤ s.heap.objs.size := Nat.le_trans I.ok.above (Nat.le_of_lt I.lt)
theorem Inv.nofs (I : Inv X pins σ H s) {a : Addr} (h : s.heap.objs.size ≤ a) : a ∉ X.fs := fun hb => by
  obtain ⟨_, o, ho, _⟩ := I.ok.funs.mem hb
  exact absurd (Nat.lt_of_lt_of_le (Heap.lt_size ho) (Nat.le_trans I.sz h)) (Nat.lt_irrefl _)
theorem Inv.cne (I : Inv X pins σ H s) : ∀ x c, X.env.cells.lookup x = some c → c ≠ X.env.locals := fun x c e z => by
  obtain ⟨v, o, ho, hd⟩ := I.cell x c e
  obtain ⟨m, ⟨o', es, ep, ho', hd', _⟩, _⟩ := I.loc
  rw [z, ho'] at ho; cases ho; rw [hd'] at hd; cases hd
theorem Inv.funs (I : Inv X pins σ H s) : s.heap.FunFrames X.base X.outer := by
  have all : ∀ (l : List Env), (∀ b ∈ frs l, b ∈ X.fs) → X.s₀.heap.FunFrames X.base l → s.heap.FunFrames X.base l := by
    intro l
    induction l with
    | nil => intro _ _; trivial
    | cons env r ih =>
      intro hs hl
      obtain ⟨hk, ⟨L, o, hf, hn, ho, hd⟩, hr⟩ := hl
      have hL : L ∈ X.fs := hs L (by unfold frs; rw [List.filterMap_cons, hf]; exact List.mem_cons_self)
      obtain ⟨sl, e⟩ := I.base.slot L o ho (I.ok.frf L hL) hL fun z => I.ok.exfs L z hL
      exact ⟨hk, ⟨L, _, hf, hn, e, hd⟩, ih (fun b hb => hs b (by unfold frs; rw [List.filterMap_cons, hf]; exact List.mem_cons_of_mem _ hb)) hr⟩
  exact all X.outer (fun _ hb => hb) I.ok.funs
theorem Inv.stack (I : Inv X pins σ H s) : s.heap.FunFrames X.base X.stack := by
  rcases I.ok.stk with e | ⟨e, hf⟩
  · rw [e]; exact I.funs
  · rw [e]
    obtain ⟨m, hn, _⟩ := I.loc
    refine .cons (by rw [I.ok.kind]; decide) hf hn ?_ I.funs
    exact Heap.get?_none_of_le (Nat.le_trans I.ok.bsz I.ok.above)
theorem Inv.stkSub (I : Inv X pins σ H s) : ∀ b ∈ frs X.stack, b ∈ X.env.locals :: X.fs := fun b hb => by
  rcases I.ok.stk with e | ⟨e, hf⟩
  · rw [e] at hb; exact List.mem_cons_of_mem _ hb
  · rw [e] at hb
    unfold frs at hb
    rw [List.filterMap_cons, hf] at hb
    exact hb
theorem Inv.stkFree (I : Inv X pins σ H s) : ∀ b ∈ frs X.stack, H b = none := fun b hb => by
  rcases List.mem_cons.mp (I.stkSub b hb) with e | hb
  · rw [e]; exact I.free
  · obtain ⟨_, o, ho, _⟩ := I.ok.funs.mem hb
    exact I.base.free b o ho (I.ok.frf b hb) fun z => I.ok.exfs b z hb
theorem Inv.step {g' : Array GenState} {t' : Nat} {d' : Drawn} {ch : List Addr} (I : Inv X pins σ H s)
    (hch : ∀ b ∈ ch, (b ∈ X.ex ∨ X.s₀.heap.objs.size ≤ b) ∧ b ≠ X.env.locals ∧ (∀ x c, X.env.cells.lookup x = some c → c ≠ b) ∧ ∀ p ∈ X.pn ++ pins, p.1 ≠ b)
    (keep : ∀ b o, b ≠ X.env.locals → b ∉ X.fs → b ∉ ch → s.heap.get? b = some o → H b = none → h'.get? b = some o)
    (slot : ∀ b o, b ≠ X.env.locals → b ∈ X.fs → b ∉ ch → s.heap.get? b = some o → H b = none → ∃ sl, h'.get? b = some { o with slots := sl }) (free : ∀ b o, b ∉ ch → s.heap.get? b = some o → H b = none → H' b = none)
    (there : ∀ b o, b ∉ ch → s.heap.get? b = some o → ∃ o', h'.get? b = some o')
    (tups : ∀ b xs, H b = some (.tup xs) → H' b = some (.tup xs)) (frzs : ∀ b o u, H b = some (.frz o u) → H' b = some (.frz o u)) (tbls : ∀ b ps, H b = some (.tbl ps) → ∃ more, H' b = some (.tbl (ps ++ more)))
    (ns : ∀ m, s.heap.Ns X.env.locals m → h'.Ns X.env.locals m) (hok : HOk X.prog X.w H' h') (hg : AllBare g') :
    Inv X pins σ H' { s with heap := h', gens := g', drawn := d', toks := t' } := by
  have neL : ∀ b o, X.s₀.heap.get? b = some o → b ≠ X.env.locals := fun b o e => Nat.ne_of_lt (Nat.lt_of_lt_of_le (Heap.lt_size e) I.ok.above)
  have neC : ∀ b o, X.s₀.heap.get? b = some o → b ∉ X.ex → b ∉ ch := fun b o e hx hb => by
    rcases (hch b hb).1 with z | z
    · exact hx z
    · exact absurd (Nat.lt_of_lt_of_le (Heap.lt_size e) z) (Nat.lt_irrefl _)
  have cellK : ∀ x c, X.env.cells.lookup x = some c → ∀ v, s.heap.IsCell c v → h'.IsCell c v := fun x c e v ⟨o, ho, hd⟩ => by
    have nch : c ∉ ch := fun z => (hch c z).2.2.1 x c e rfl
    by_cases hc : c ∈ X.fs
    · obtain ⟨sl, q⟩ := slot c o (I.cne x c e) hc nch ho (I.freeC x c e)
      exact ⟨_, q, hd⟩
    · exact ⟨o, keep c o (I.cne x c e) hc nch ho (I.freeC x c e), hd⟩
  refine ⟨I.ok, I.os, hg, ⟨fun b o e n hb hx => ?_, fun b o e n hb hx => ?_, fun b o e n hx => ?_, fun b o e hx => ?_, fun b xs e => tups b xs (I.base.tups b xs e), fun b o xs e => frzs b o xs (I.base.frzs b o xs e), fun b ps e => ?_⟩, ?_, fun x c e => ?_, ?_, fun x c e => ?_, fun p hp => ?_, hok, I.len⟩
  · exact keep b o (neL b o e) hb (neC b o e hx) (I.base.keep b o e n hb hx) (I.base.free b o e n hx)
  · obtain ⟨sl, e1⟩ := I.base.slot b o e n hb hx
    obtain ⟨sl', e2⟩ := slot b _ (neL b o e) hb (neC b o e hx) e1 (I.base.free b o e n hx)
    exact ⟨sl', e2⟩
  · obtain ⟨o', e1⟩ := I.base.there b o e hx
    exact free b o' (neC b o e hx) e1 (I.base.free b o e n hx)
  · obtain ⟨o', e1⟩ := I.base.there b o e hx
    exact there b o' (neC b o e hx) e1
  · obtain ⟨m1, e1⟩ := I.base.tbls b ps e
    obtain ⟨m2, e2⟩ := tbls b _ e1
    exact ⟨m1 ++ m2, by rw [e2, Array.append_assoc]⟩
  · obtain ⟨m, hn, hl⟩ := I.loc
    refine ⟨m, ns m hn, fun i x v e1 e2 e3 => ?_⟩
    obtain ⟨u, r, l⟩ := hl i x v e1 e2 e3
    refine ⟨u, r, ?_⟩
    rcases l with l | ⟨k, c, e, z⟩
    · exact .inl l
    · exact .inr ⟨k, c, e, cellK x c e _ z⟩
  · obtain ⟨v, z⟩ := I.cell x c e
    exact ⟨v, cellK x c e v z⟩
  · obtain ⟨m, ⟨o, _, _, ho, _⟩, _⟩ := I.loc
    exact free _ o (fun z => (hch _ z).2.1 rfl) ho I.free
  · obtain ⟨v, o, ho, hd⟩ := I.cell x c e
    exact free c o (fun z => (hch c z).2.2.1 x c e rfl) ho (I.freeC x c e)
  · obtain ⟨e, n, ne, nf, d⟩ := I.pin p hp
    have nch : p.1 ∉ ch := fun z => (hch p.1 z).2.2.2 p hp rfl
    exact ⟨keep p.1 p.2 ne nf nch e n, free p.1 p.2 nch e n, ne, nf, d⟩
theorem Inv.un {t' : Nat} (I : Inv X pins σ H s) (u : Un X.fs [] H H' s.heap h') (hok : HOk X.prog X.w H' h') : Inv X pins σ H' { s with heap := h', toks := t' } := by
  obtain ⟨m, ⟨o, es, ep, ho, r⟩, _⟩ := id I.loc
  obtain ⟨sl, hL⟩ := u.any ho I.free (by simp)
  exact I.step (g' := s.gens) (d' := s.drawn) (ch := []) (fun _ z => nomatch z) (fun b o _ hb _ e n => u.keep b o e n hb (by simp)) (fun b o _ hb _ e n => u.slot b o e n hb (by simp)) (fun b o _ e n => u.free b o e n (by simp)) (fun b o _ e => u.there b o e (by simp)) u.tups u.frzs u.tbls (fun m' hm => by
    obtain ⟨o', es', ep', ho', r'⟩ := hm
    rw [ho] at ho'; cases ho'
    exact ⟨_, es', ep', hL, r'⟩) hok I.bare
theorem Inv.call {g' : Array GenState} {t' : Nat} {d' : Drawn} {ch : List Addr} (I : Inv X pins σ H s) (u : Un (frs X.stack) ch H H' s.heap h') (hok : HOk X.prog X.w H' h') (hg : AllBare g')
    (hch : ∀ b ∈ ch, (b ∈ X.ex ∨ X.s₀.heap.objs.size ≤ b) ∧ b ≠ X.env.locals ∧ (∀ x c, X.env.cells.lookup x = some c → c ≠ b) ∧ ∀ p ∈ X.pn ++ pins, p.1 ≠ b) :
    Inv X pins σ H' { s with heap := h', gens := g', drawn := d', toks := t' } := by
  obtain ⟨m, ⟨o, es, ep, ho, r⟩, _⟩ := id I.loc
  obtain ⟨sl, hL⟩ := u.any ho I.free fun z => (hch _ z).2.1 rfl
  exact I.step (ch := ch) hch (fun b o hL hb hc e n => u.keep b o e n (fun z => (List.mem_cons.mp (I.stkSub b z)).elim hL hb) hc) (fun b o _ _ hc e n => u.any e n hc) (fun b o hc e n => u.free b o e n hc) (fun b o hc e => u.there b o e hc) u.tups u.frzs u.tbls (fun m' hm => by
    obtain ⟨o', es', ep', ho', r'⟩ := hm
    rw [ho] at ho'; cases ho'
    exact ⟨_, es', ep', hL, r'⟩) hok hg
theorem Inv.turned {t' : Nat} {it : Addr} (I : Inv X pins σ H s) (k : ∀ b o, b ≠ it → s.heap.get? b = some o → h'.get? b = some o) (hn : H it = none) (hL : it ≠ X.env.locals)
    (h1 : it ∈ X.ex ∨ X.s₀.heap.objs.size ≤ it) (h2 : ∀ x c, X.env.cells.lookup x = some c → c ≠ it) (h3 : ∀ p ∈ X.pn ++ pins, p.1 ≠ it) : Inv X pins σ H { s with heap := h', toks := t' } := by
  have nit : ∀ b u, H b = some u → b ≠ it := fun b u e z => by rw [z, hn] at e; cases e
  refine I.step (g' := s.gens) (d' := s.drawn) (ch := [it]) (fun b hb => ?_) (fun b o _ _ hc e _ => k b o (fun z => hc (by simp [z])) e) (fun b o _ _ hc e _ => ⟨o.slots, k b o (fun z => hc (by simp [z])) e⟩) (fun _ _ _ _ n => n)
    (fun b o hc e => ⟨o, k b o (fun z => hc (by simp [z])) e⟩) (fun _ _ e => e) (fun _ _ _ e => e) (fun b ps e => ⟨#[], by rw [e]; simp⟩) (fun m hm => ?_) (fun b u e => ?_) I.bare
  · have e : b = it := by simpa using hb
    subst e
    exact ⟨h1, hL, h2, h3⟩
  · obtain ⟨o, es, ep, ho, r⟩ := hm
    exact ⟨o, es, ep, k _ o (Ne.symm hL) ho, r⟩
  · refine (I.hok b u e).stay (fun c v hc q => k c v ?_ q) (fun _ q => q) fun _ _ q => q
    rcases hc with z | z
    · rw [z]; exact nit b u e
    · exact nit c _ z
theorem Inv.tok (I : Inv X pins σ H s) (t : Nat) : Inv X pins σ H { s with toks := t } := I.un (h' := s.heap) (t' := t) Un.refl I.hok
theorem Inv.kept {t' : Nat} (I : Inv X pins σ H s) (k : ∀ b u, s.heap.get? b = some u → h'.get? b = some u) : Inv X pins σ H { s with heap := h', toks := t' } := I.un (Un.kept k) (I.hok.kept k)
theorem Inv.laid {a : Addr} {o : HO} {t' : Nat} (I : Inv X pins σ H s) (k : ∀ b u, s.heap.get? b = some u → h'.get? b = some u) (hp : s.heap.objs.size ≤ a) (new : ObjOk X.prog X.w (upd H a o) h' a o) :
    Inv X pins σ (upd H a o) { s with heap := h', toks := t' } := I.un (Un.laid k hp (I.hok.fresh hp)) (I.hok.laid k hp new)
theorem Inv.write {x e : Addr} {o : HO} {t' : Nat} (I : Inv X pins σ H s) (mu : Mut (H x)) (he : e = x ∨ H e = some (.own x)) (k : ∀ b u, b ≠ e → s.heap.get? b = some u → h'.get? b = some u) (heo : ∃ u, h'.get? e = some u)
    (new : ObjOk X.prog X.w (upd H x o) h' x o) : Inv X pins σ (upd H x o) { s with heap := h', toks := t' } := I.un (Un.write mu he k heo) (I.hok.write mu he k heo new)
theorem Inv.pins_of {pins' : List (Addr × Obj)} (I : Inv X pins σ H s) (h : ∀ p ∈ pins', s.heap.get? p.1 = some p.2 ∧ H p.1 = none ∧ p.1 ≠ X.env.locals ∧ p.1 ∉ X.fs ∧ ∀ v, p.2.data ≠ .cell v) : Inv X pins' σ H s :=
  ⟨I.ok, I.os, I.bare, I.base, I.loc, I.cell, I.free, I.freeC, fun p hp => (List.mem_append.mp hp).elim (fun z => I.pin p (List.mem_append_left _ z)) (h p), I.hok, I.len⟩
theorem nodup_ix {N : List Str} (hN : N.Nodup) {i j : Nat} {x : Str} (a : N[i]? = some x) (b : N[j]? = some x) : i = j := by
  obtain ⟨h1, e1⟩ := List.getElem?_eq_some_iff.mp a
  obtain ⟨h2, e2⟩ := List.getElem?_eq_some_iff.mp b
  exact (List.getElem_inj hN).mp (e1.trans e2.symm)
theorem store_ok2 {M : Model} {A : Around} {E : Value → Shared → Prop} {i : Nat} {x : Str} {v : V} {u : Value} {Q : Unit → Shared → Prop} (I : Inv X pins σ H s) (hN : X.N.Nodup) (hi : X.N[i]? = some x) (hx : Loc X.env.scope x) (r : RelV v u)
    (h : ∀ s', Inv X pins (σ.set i (some v)) H s' → (∃ a, Heap.SameBut a s.heap s'.heap ∧ (a = X.env.locals ∨ X.env.cells.lookup x = some a)) → Q () s') (hf : X.fn x = true ∨ X.env.scope.names.lookup x = some .local := by first | exact .inl rfl | exact .inr rfl | assumption) : wpAny M A (storeName X.env x u) Q E s := by
  obtain ⟨m, hn, hl⟩ := id I.loc
  have hcls : (X.env.scope.kind == .class || (X.env.scope.kind == .module && X.env.locals != X.env.globals)) = false := by rw [I.ok.kind]; rfl
  have hiσ : i < σ.length := by rw [I.len]; exact (List.getElem?_eq_some_iff.mp hi).1
  have cne := I.cne
  have tracked : ∀ {a : Addr} {h' : Heap}, (∃ o, s.heap.get? a = some o ∧ H a = none) → Heap.SameBut a s.heap h' → HOk X.prog X.w H h' := fun {a h'} ha hs b ob e => by
    obtain ⟨_, _, hfree⟩ := ha
    refine (I.hok b ob e).stay (fun c w' hc q => (hs.2 c ?_).trans q) (fun _ q => q) fun _ _ q => q
    rintro rfl
    rcases hc with rfl | hc
    · rw [hfree] at e; cases e
    · rw [hfree] at hc; cases hc
  rcases hx with hk | hk
  · refine wpAny_storeName_local hk hn (fun h' hn' hs => ?_) hcls
    obtain ⟨oL, _, _, hoL, _⟩ := id hn
    refine h _ ⟨I.ok, I.os, I.bare, ⟨fun b o e n hb hx => ?_, fun b o e n hb hx => ?_, I.base.free, fun b o e hx => ?_, I.base.tups, I.base.frzs, I.base.tbls⟩, ⟨_, hn', fun j y v' e1 e2 e3 => ?_⟩, fun y c e => ?_, I.free, I.freeC, fun p hp => ?_, tracked ⟨oL, hoL, I.free⟩ hs, by simpa using I.len⟩ ⟨_, hs, .inl rfl⟩
    · exact (hs.2 b (Nat.ne_of_lt (Nat.lt_of_lt_of_le (Heap.lt_size e) I.ok.above))).trans (I.base.keep b o e n hb hx)
    · obtain ⟨sl, e1⟩ := I.base.slot b o e n hb hx
      exact ⟨sl, (hs.2 b (Nat.ne_of_lt (Nat.lt_of_lt_of_le (Heap.lt_size e) I.ok.above))).trans e1⟩
    · obtain ⟨o', e1⟩ := I.base.there b o e hx
      exact ⟨o', (hs.2 b (Nat.ne_of_lt (Nat.lt_of_lt_of_le (Heap.lt_size e) I.ok.above))).trans e1⟩
    · by_cases hj : j = i
      · subst hj
        rw [hi] at e1; cases e1
        rw [List.getElem?_set_self hiσ] at e2
        cases e2
        exact ⟨u, r, .inl ⟨hk, by simp⟩⟩
      · rw [List.getElem?_set_ne (Ne.symm hj)] at e2
        obtain ⟨u', r', q⟩ := hl j y v' e1 e2 e3
        refine ⟨u', r', ?_⟩
        rcases q with ⟨k, e⟩ | ⟨k, c, e, z⟩
        · refine .inl ⟨k, ?_⟩
          have : y ≠ x := fun e => hj (nodup_ix hN e1 (e ▸ hi))
          simp [this, e]
        · exact .inr ⟨k, c, e, z.sameBut hs (cne y c e)⟩
    · obtain ⟨w', z⟩ := I.cell y c e
      exact ⟨w', z.sameBut hs (cne y c e)⟩
    · obtain ⟨e, n, ne, nf, d⟩ := I.pin p hp
      exact ⟨(hs.2 p.1 ne).trans e, n, ne, nf, d⟩
  · have hfn : X.fn x = true := by
      rcases hf with z | z
      · exact z
      · rw [z] at hk; cases hk
    obtain ⟨c, hc⟩ := I.ok.has x (.inl hk)
    obtain ⟨w', z⟩ := I.cell x c hc
    refine wpAny_storeName_cell I.ok.kind hk hc z (fun h' hc' hs => ?_)
    obtain ⟨oc, hoc, hocd⟩ := id z
    refine h { s with heap := h' } ⟨I.ok, I.os, I.bare, ⟨fun b o e n hb hx => ?_, fun b o e n hb hx => ?_, I.base.free, fun b o e hx => ?_, I.base.tups, I.base.frzs, I.base.tbls⟩, ⟨m, hn.sameBut hs (Ne.symm (cne x c hc)), fun j y v' e1 e2 e3 => ?_⟩, fun y c' e => ?_, I.free, I.freeC, fun p hp => ?_, tracked ⟨oc, hoc, I.freeC x c hc⟩ hs, by simpa using I.len⟩ ⟨c, hs, .inr hc⟩
    · exact (hs.2 b (Nat.ne_of_lt (Nat.lt_of_lt_of_le (Heap.lt_size e) (I.ok.cab x c hfn hc)))).trans (I.base.keep b o e n hb hx)
    · obtain ⟨sl, e1⟩ := I.base.slot b o e n hb hx
      exact ⟨sl, (hs.2 b (Nat.ne_of_lt (Nat.lt_of_lt_of_le (Heap.lt_size e) (I.ok.cab x c hfn hc)))).trans e1⟩
    · obtain ⟨o', e1⟩ := I.base.there b o e hx
      exact ⟨o', (hs.2 b (Nat.ne_of_lt (Nat.lt_of_lt_of_le (Heap.lt_size e) (I.ok.cab x c hfn hc)))).trans e1⟩
    · by_cases hj : j = i
      · subst hj
        rw [hi] at e1; cases e1
        rw [List.getElem?_set_self hiσ] at e2
        cases e2
        exact ⟨u, r, .inr ⟨.inl hk, c, hc, hc'⟩⟩
      · rw [List.getElem?_set_ne (Ne.symm hj)] at e2
        obtain ⟨u', r', q⟩ := hl j y v' e1 e2 e3
        refine ⟨u', r', ?_⟩
        rcases q with q | ⟨k, c', e, z'⟩
        · exact .inl q
        · refine .inr ⟨k, c', e, z'.sameBut hs ?_⟩
          rintro rfl
          exact hj (nodup_ix hN e1 (I.ok.inj _ _ _ e hc ▸ hi))
    · by_cases hcc : c' = c
      · subst hcc; exact ⟨_, hc'⟩
      · obtain ⟨w2, z2⟩ := I.cell y c' e
        exact ⟨w2, z2.sameBut hs hcc⟩
    · obtain ⟨e, n, ne, nf, d⟩ := I.pin p hp
      refine ⟨(hs.2 p.1 ?_).trans e, n, ne, nf, d⟩
      intro q
      rw [q, hoc] at e
      have q' : oc = p.2 := Option.some.inj e
      exact d w' (by rw [← q']; exact hocd)
theorem store_ok {M : Model} {A : Around} {E : Value → Shared → Prop} {i : Nat} {x : Str} {v : V} {u : Value} {Q : Unit → Shared → Prop} (I : Inv X pins σ H s) (hN : X.N.Nodup) (hi : X.N[i]? = some x) (hx : Loc X.env.scope x) (r : RelV v u)
    (h : ∀ s', Inv X pins (σ.set i (some v)) H s' → Q () s') (hf : X.fn x = true ∨ X.env.scope.names.lookup x = some .local := by first | exact .inl rfl | exact .inr rfl | assumption) : wpAny M A (storeName X.env x u) Q E s :=
  store_ok2 I hN hi hx r (fun s' I' _ => h s' I') hf
theorem Inv.call' {s' : Shared} {ch : List Addr} (I : Inv X pins σ H s) (ho : s'.os = s.os) (u : Un (frs X.stack) ch H H' s.heap s'.heap) (hok : HOk X.prog X.w H' s'.heap) (hg : AllBare s'.gens)
    (hch : ∀ b ∈ ch, (b ∈ X.ex ∨ X.s₀.heap.objs.size ≤ b) ∧ b ≠ X.env.locals ∧ (∀ x c, X.env.cells.lookup x = some c → c ≠ b) ∧ ∀ p ∈ X.pn ++ pins, p.1 ≠ b) : Inv X pins σ H' s' := by
  obtain ⟨h', g', d', t', o'⟩ := s'
  have e : o' = s.os := ho
  subst e
  exact I.call (g' := g') (t' := t') (d' := d') u hok hg hch
end
noncomputable abbrev XK := Value → Option Addr → Hp → Prop
noncomputable abbrev St := List (Option V)
noncomputable abbrev VK := V → Hp → Prop
noncomputable abbrev TE := St → Hp → VK → Prop
noncomputable abbrev TT := St → Hp → (Bool → Hp → Prop) → Prop
noncomputable abbrev TA := St → Hp → (List V → Hp → Prop) → Prop
structure Ends where
  nx : St → Hp → Prop
  rt : VK
  bk : St → Hp → Prop := fun _ _ => False
  ct : St → Hp → Prop := fun _ _ => False
noncomputable abbrev TS := Ends → St → Hp → Prop
noncomputable def EP (X : Cx) (pins : List (Addr × Obj)) (σ : St) (Q : VK) (u : Value) (s' : Shared) : Prop := ∃ v H', Inv X pins σ H' s' ∧ RelV v u ∧ Q v H'
noncomputable def TP (X : Cx) (pins : List (Addr × Obj)) (σ : St) (Q : Bool → Hp → Prop) (b : Bool) (s' : Shared) : Prop := ∃ H', Inv X pins σ H' s' ∧ Q b H'
noncomputable def AP (X : Cx) (pins : List (Addr × Obj)) (σ : St) (Q : List V → Hp → Prop) (us : List Value) (s' : Shared) : Prop := ∃ vs H', Inv X pins σ H' s' ∧ Vals vs us ∧ Q vs H'
noncomputable def SP (X : Cx) (pins : List (Addr × Obj)) (D : Ends) (f : Flow) (s' : Shared) : Prop :=
  match f with
  | .next => ∃ σ' H', Inv X pins σ' H' s' ∧ D.nx σ' H'
  | .brk => ∃ σ' H', Inv X pins σ' H' s' ∧ D.bk σ' H'
  | .cont => ∃ σ' H', Inv X pins σ' H' s' ∧ D.ct σ' H'
  | .ret u => ∃ v σ' H', Inv X pins σ' H' s' ∧ RelV v u ∧ D.rt v H'
noncomputable def PE (X : Cx) (e : Expr) (t : TE) : Prop :=
  ∀ (pins : List (Addr × Obj)) (s : Shared) (σ : St) (H : Hp) (Q : VK), Inv X pins σ H s → t σ H Q → wpAny (model X.prog X.w) X.A (eval e X.env) (EP X pins σ Q) X.xe s
noncomputable def PT (X : Cx) (e : Expr) (t : TT) : Prop :=
  ∀ (pins : List (Addr × Obj)) (s : Shared) (σ : St) (H : Hp) (Q : Bool → Hp → Prop), Inv X pins σ H s → t σ H Q → wpAny (model X.prog X.w) X.A (isTrue e X.env (eval e X.env)) (TP X pins σ Q) X.xe s
noncomputable def PW (X : Cx) (e : Expr) (t : TT) : Prop :=
  ∀ (whole : Sem Value) (pins : List (Addr × Obj)) (s : Shared) (σ : St) (H : Hp) (Q : Bool → Hp → Prop), Inv X pins σ H s → t σ H Q → wpAny (model X.prog X.w) X.A (isTrue e X.env whole) (TP X pins σ Q) X.xe s
theorem PW.pt {X : Cx} {e : Expr} {t : TT} (h : PW X e t) : PT X e t := h _
noncomputable def PA (X : Cx) (es : List Expr) (t : TA) : Prop :=
  ∀ (pos : Pos) (pins : List (Addr × Obj)) (s : Shared) (σ : St) (H : Hp) (Q : List V → Hp → Prop), Inv X pins σ H s → t σ H Q → wpAny (model X.prog X.w) X.A (spliced (backTo pos (starEach es X.env))) (AP X pins σ Q) X.xe s
noncomputable def PS (X : Cx) (st : Stmt) (t : TS) : Prop :=
  ∀ (pins : List (Addr × Obj)) (s : Shared) (σ : St) (H : Hp) (D : Ends), Inv X pins σ H s → t D σ H → wpAny (model X.prog X.w) X.A (exec st X.env) (SP X pins D) X.xe s
noncomputable def PSs (X : Cx) (st : List Stmt) (t : TS) : Prop :=
  ∀ (pins : List (Addr × Obj)) (s : Shared) (σ : St) (H : Hp) (D : Ends), Inv X pins σ H s → t D σ H → wpAny (model X.prog X.w) X.A (execs st X.env) (SP X pins D) X.xe s
theorem thn {α : Type} {t : Sem α} {Q Q' : α → Shared → Prop} {M : Model} {A : Around} {E : Value → Shared → Prop} {s : Shared} (h : wpAny M A t Q E s) (hQ : ∀ a s, Q a s → Q' a s) : wpAny M A t Q' E s := wpAny_mono h hQ fun _ _ x => x
end L2
namespace L2
open PySem PySem.Spec PyProof.Rows
section
variable {X : Cx}
noncomputable def tVar (i : Nat) : TE := fun σ H Q => ∃ v, σ[i]? = some (some v) ∧ Q v H
noncomputable def tC (v : V) : TE := fun _ H Q => Q v H
theorem pe_var {i : Nat} {x : Str} {pos : Pos} (hN : X.N[i]? = some x) (hv : Vis X.env.scope x) (hd : (x == ("__debug__" : Str)) = false := by decide) (hcd : (x == ("__classdict__" : Str)) = false := by decide) : PE X (.Name x pos) (tVar i) := by
  intro pins s σ H Q I h
  obtain ⟨v, e, h⟩ := h
  obtain ⟨m, hn, hl⟩ := I.loc
  obtain ⟨u, r, l⟩ := hl i x v hN e hv
  have fin : EP X pins σ Q u s := ⟨v, H, I, r, h⟩
  rcases l with ⟨hk, hm⟩ | ⟨hk, c, hc, hcell⟩
  · exact wpAny_Name (wpAny_loadName_local I.ok.kind hk hn hm fin) hd
  · rcases hk with hk | hk
    · exact wpAny_Name (wpAny_loadName_cell I.ok.kind hk hc hcell fin) hd
    · exact wpAny_Name (wpAny_loadName_free I.ok.kind hk hc hcell fin hcd) hd
theorem pe_int {i j pos} : PE X (.Constant (.int i) j pos) (tC (.int i)) := fun _ _ _ H _ I h => wpAny_Constant_int ⟨.int i, H, I.tok _, ⟨_, rfl⟩, h⟩
theorem pe_bl {b j pos} : PE X (.Constant (.bool b) j pos) (tC (.bl b)) := fun _ _ _ H _ I h => Constant_bool ⟨.bl b, H, I, rfl, h⟩
theorem pe_non {j pos} : PE X (.Constant .none j pos) (tC .non) := fun _ _ _ H _ I h => Constant_none ⟨.non, H, I, rfl, h⟩
theorem pe_str {x j pos} : PE X (.Constant (.str x) j pos) (tC (.str x)) := fun _ _ _ H _ I h => Calls.Constant_str ⟨.str x, H, I.tok _, ⟨_, rfl⟩, h⟩
noncomputable def Gl (X : Cx) (x : Str) : Prop := X.env.kindOf x = some .globalImplicit
theorem ld_glob {E : Value → Shared → Prop} {pins : List (Addr × Obj)} {s : Shared} {σ : St} {H : Hp} {x : Str} {u : Value} {pos : Pos} {Q : Value → Shared → Prop} (I : Inv X pins σ H s) (hg : Gl X x) (hm : X.mg x = some u) (h : Q u s)
    (hd : (x == ("__debug__" : Str)) = false := by decide) : wpAny (model X.prog X.w) X.A (eval (.Name x pos) X.env) Q E s :=
  Calls.Name_function_global I.ok.kind hg (Calls.loadGlobal_global (by rw [I.ok.glob]; exact I.mod.glob.keeps I.bk) hm h) hd
theorem ld_blt {E : Value → Shared → Prop} {pins : List (Addr × Obj)} {s : Shared} {σ : St} {H : Hp} {x : Str} {u : Value} {pos : Pos} {Q : Value → Shared → Prop} (I : Inv X pins σ H s) (hg : Gl X x) (hm : X.mg x = none) (hv : bootBuiltins x = some u) (h : Q u s)
    (hn : x ≠ "__name__" := by decide) (hd : (x == ("__debug__" : Str)) = false := by decide) : wpAny (model X.prog X.w) X.A (eval (.Name x pos) X.env) Q E s := by
  obtain ⟨mb, h1, h2⟩ := I.mod.blt
  exact Calls.Name_function_global I.ok.kind hg (Calls.loadGlobal_builtin (by rw [I.ok.glob]; exact I.mod.glob.keeps I.bk) hm (by rw [I.ok.blt]; exact h1.keeps I.bk) ((h2 x hn).trans hv) h) hd
theorem pe_glob {x : Str} {v : V} {u : Value} {pos : Pos} (hg : Gl X x) (hm : X.mg x = some u) (r : RelV v u) (hd : (x == ("__debug__" : Str)) = false := by decide) : PE X (.Name x pos) (tC v) :=
  fun _ _ _ H _ I h => ld_glob I hg hm ⟨v, H, I, r, h⟩ hd
theorem pe_bltn {x : Str} {v : V} {u : Value} {pos : Pos} (hg : Gl X x) (hm : X.mg x = none) (hv : bootBuiltins x = some u) (r : RelV v u) (hn : x ≠ "__name__" := by decide) (hd : (x == ("__debug__" : Str)) = false := by decide) : PE X (.Name x pos) (tC v) :=
  fun _ _ _ H _ I h => ld_blt I hg hm hv ⟨v, H, I, r, h⟩ hn hd
variable {a b : Expr} {ta tb : TE} {pos : Pos}
noncomputable def tB (t : TE) : TT := fun σ H Q => t σ H fun x H1 => ∃ c, x = .bl c ∧ Q c H1
theorem pt_val {e : Expr} {t : TE} (h : PE X e t) (he : ∀ whole, isTrue e X.env whole = (do let v ← whole; standAt e.pos; holding [v] (truthy v)) := by intro _; rfl) : PT X e (tB t) := by
  intro pins s σ H Q I hw
  refine isTrue_plain (thn (h pins s σ H _ I hw) fun v s1 ⟨x, H1, I1, r1, q1⟩ => ?_) (he _)
  obtain ⟨d, rfl, q⟩ := q1
  cases r1
  exact wpAny_truthy_bool ⟨H1, I1, q⟩
variable {tA tB' : TT} {rest : List Expr}
noncomputable def tAnd (t u : TT) : TT := fun σ H Q => t σ H fun c H1 => if c = true then u σ H1 Q else Q false H1
noncomputable def tOr (t u : TT) : TT := fun σ H Q => t σ H fun c H1 => if c = true then Q true H1 else u σ H1 Q
noncomputable def tNot (t : TT) : TT := fun σ H Q => t σ H fun c H1 => Q (!c) H1
theorem pw_and1 (ha : PT X a tA) : PW X (.BoolOp .And [a] pos) tA := by
  intro wh pins s σ H Q I h
  refine isTrue_and (thn (ha pins s σ H Q I h) fun c s1 e => ?_)
  cases c with
  | true => exact isTrue_and_nil e
  | false => exact e
theorem pw_or1 (ha : PT X a tA) : PW X (.BoolOp .Or [a] pos) tA := by
  intro wh pins s σ H Q I h
  refine isTrue_or (thn (ha pins s σ H Q I h) fun c s1 e => ?_)
  cases c with
  | false => exact isTrue_or_nil e
  | true => exact e
theorem pw_and (ha : PT X a tA) (hb : PW X (.BoolOp .And (b :: rest) pos) tB') : PW X (.BoolOp .And (a :: b :: rest) pos) (tAnd tA tB') := by
  intro wh pins s σ H Q I h
  refine isTrue_and (thn (ha pins s σ H _ I h) fun c s1 ⟨H1, I1, q1⟩ => ?_)
  cases c with
  | true => exact hb wh pins s1 σ H1 Q I1 q1
  | false => exact ⟨H1, I1, q1⟩
theorem pw_or (ha : PT X a tA) (hb : PW X (.BoolOp .Or (b :: rest) pos) tB') : PW X (.BoolOp .Or (a :: b :: rest) pos) (tOr tA tB') := by
  intro wh pins s σ H Q I h
  refine isTrue_or (thn (ha pins s σ H _ I h) fun c s1 ⟨H1, I1, q1⟩ => ?_)
  cases c with
  | true => exact ⟨H1, I1, q1⟩
  | false => exact hb wh pins s1 σ H1 Q I1 q1
theorem pt_not (ha : PT X a tA) : PT X (.UnaryOp .Not a pos) (tNot tA) := by
  intro pins s σ H Q I h
  exact isTrue_not (ha pins s σ H (fun c H1 => Q (!c) H1) I h)
noncomputable def tAndV (ta tb : TE) : TE := fun σ H Q => ta σ H fun x H1 => ∃ c, x = .bl c ∧ if c = true then tb σ H1 Q else Q (.bl false) H1
noncomputable def tNotV (ta : TE) : TE := fun σ H Q => ta σ H fun x H1 => ∃ c, x = .bl c ∧ Q (.bl (!c)) H1
theorem pe_one {op} {t : TE} (h : PE X a t) : PE X (.BoolOp op [a] pos) t := fun pins s σ H Q I hw => BoolOp_one (h pins s σ H Q I hw)
theorem pe_and (ha : PE X a ta) (hb : PE X (.BoolOp .And (b :: rest) pos) tb) : PE X (.BoolOp .And (a :: b :: rest) pos) (tAndV ta tb) := by
  intro pins s σ H Q I h
  refine BoolOp_and (thn (ha pins s σ H _ I h) fun v s1 ⟨x, H1, I1, r1, q1⟩ => ?_)
  obtain ⟨c, rfl, q1⟩ := q1
  cases r1
  refine wpAny_truthy_bool ?_
  cases c with
  | true => exact hb pins s1 σ H1 Q I1 q1
  | false => exact ⟨.bl false, H1, I1, rfl, q1⟩
theorem pe_not (ha : PE X a ta) : PE X (.UnaryOp .Not a pos) (tNotV ta) := by
  intro pins s σ H Q I h
  refine UnaryOp_ (thn (ha pins s σ H _ I h) fun v s1 ⟨x, H1, I1, r1, q1⟩ => ?_)
  obtain ⟨c, rfl, q1⟩ := q1
  cases r1
  exact not_of (wpAny_truthy_bool ⟨.bl (!c), H1, I1, rfl, q1⟩)
end
end L2
namespace L2
open PySem PySem.Spec PyProof.Rows
noncomputable def SqL (K : PySem.W.Frag) (H : Hp) (a : Addr) (xs : List V) : Prop :=
  Rd H a (.lst xs) ∨
    ∃ (o : Obj) (its : Array Value) (n : Nat), K.lookup a = some o ∧ o.cls = .type "list" ∧ o.dict = none ∧ o.data = .seq its n ∧ its.size ≤ sizeLine ∧ Vals xs its.toList
noncomputable def SqT (K : PySem.W.Frag) (H : Hp) (a : Addr) (xs : List V) : Prop :=
  Rd H a (.tup xs) ∨
    ∃ (o : Obj) (its : Array Value) (n : Nat), K.lookup a = some o ∧ o.cls = .type "tuple" ∧ o.data = .seq its n ∧ its.size ≤ sizeLine ∧ Vals xs its.toList
noncomputable def absV : Value → Option V
  | .none => some .non
  | .bool b => some (.bl b)
  | .int i _ => some (.int i)
  | .str x _ => some (.str x)
  | .bytes b _ => some (.byt b)
  | .float b _ => some (.flt b)
  | .ref a => some (.ref a)
  | .type n => some (.ty n)
  | _ => none
theorem RelV.abs {x : V} {u : Value} (r : RelV x u) : absV u = some x := by
  cases x with
  | non => cases r; rfl
  | bl _ => cases r; rfl
  | int _ => obtain ⟨t, rfl⟩ := r; rfl
  | str _ => obtain ⟨t, rfl⟩ := r; rfl
  | byt _ => obtain ⟨t, rfl⟩ := r; rfl
  | flt _ => obtain ⟨t, rfl⟩ := r; rfl
  | ref _ => cases r; rfl
  | ty _ => cases r; rfl
theorem RelV.inj {x y : V} {u : Value} (r : RelV x u) (q : RelV y u) : x = y := Option.some.inj (r.abs.symm.trans q.abs)
theorem Vals.inj : ∀ {xs ys : List V} {us : List Value}, Vals xs us → Vals ys us → xs = ys
  | _, _, _, .nil, .nil => rfl
  | _, _, _, .cons r t, .cons r' t' => by rw [r.inj r', Vals.inj t t']
section
variable {X : Cx} {pins : List (Addr × Obj)} {σ : St} {H : Hp} {s : Shared} {a : Addr} {xs ys : List V}
theorem SqL.of {K : PySem.W.Frag} (h : H a = some (.lst xs)) : SqL K H a xs := .inl (.inl h)
theorem SqT.of {K : PySem.W.Frag} (h : H a = some (.tup xs)) : SqT K H a xs := .inl (.inl h)
theorem Inv.list (I : Inv X pins σ H s) (h : SqL X.K H a xs) : ∃ its : List Value, Vals xs its ∧ PlainL s.heap a its.toArray ∧ xs.length ≤ sizeLine := by
  rcases h with h | ⟨o, its, n, hk, hc, hd, hs, hz, r⟩
  · obtain ⟨z, its, n, r, e⟩ := h.ok I.hok
    exact ⟨its, r, ⟨_, n, e, rfl, rfl, rfl⟩, z⟩
  · refine ⟨its.toList, r, ⟨o, n, I.kIn a o hk, hc, hd, by simpa using hs⟩, ?_⟩
    have e := r.length
    simp only [Array.length_toList] at e
    omega
theorem Inv.tuple (I : Inv X pins σ H s) (h : SqT X.K H a xs) : ∃ its : List Value, Vals xs its ∧ IsTup s.heap a its.toArray ∧ xs.length ≤ sizeLine := by
  rcases h with h | ⟨o, its, n, hk, hc, hs, hz, r⟩
  · obtain ⟨z, its, r, p⟩ := h.ok I.hok
    exact ⟨its, r, p.tup, z⟩
  · refine ⟨its.toList, r, ⟨o, I.kIn a o hk, hc, n, by simpa using hs⟩, ?_⟩
    have e := r.length
    simp only [Array.length_toList] at e
    omega
theorem Inv.list_inj (I : Inv X pins σ H s) (h : SqL X.K H a xs) (h' : SqL X.K H a ys) : xs = ys := by
  obtain ⟨its, r, ⟨o, n, e, _, _, d⟩, _⟩ := I.list h
  obtain ⟨its', r', ⟨o', n', e', _, _, d'⟩, _⟩ := I.list h'
  rw [e] at e'; cases e'
  rw [d] at d'
  injection d' with d1 _
  have : its = its' := by simpa using congrArg Array.toList d1
  subst this
  exact r.inj r'
theorem Inv.tuple_inj (I : Inv X pins σ H s) (h : SqT X.K H a xs) (h' : SqT X.K H a ys) : xs = ys := by
  obtain ⟨its, r, ⟨o, e, _, n, d⟩, _⟩ := I.tuple h
  obtain ⟨its', r', ⟨o', e', _, n', d'⟩, _⟩ := I.tuple h'
  rw [e] at e'; cases e'
  rw [d] at d'
  injection d' with d1 _
  have : its = its' := by simpa using congrArg Array.toList d1
  subst this
  exact r.inj r'
end
noncomputable abbrev Cx.wish (X : Cx) (E : Value → Shared → Prop) : Cx := { X with xe := E }
noncomputable abbrev Cx.nox (X : Cx) : Cx := X.wish fun _ _ => False
theorem Cx.Ok.wish {X : Cx} (ok : X.Ok) (E : Value → Shared → Prop) : (X.wish E).Ok :=
  ⟨ok.mod, ok.kind, ok.glob, ok.blt, ok.above, ok.inj, ok.has, ok.cab, ok.hd, ok.frames, ok.stk, ok.exf, ok.bs, ok.bsz, ok.noex, ok.exfs, ok.funs, ok.frf⟩
theorem Cx.Ok.unwish {X : Cx} {E : Value → Shared → Prop} (ok : (X.wish E).Ok) : X.Ok :=
  ⟨ok.mod, ok.kind, ok.glob, ok.blt, ok.above, ok.inj, ok.has, ok.cab, ok.hd, ok.frames, ok.stk, ok.exf, ok.bs, ok.bsz, ok.noex, ok.exfs, ok.funs, ok.frf⟩
section
variable {X : Cx} {pins : List (Addr × Obj)} {σ : St} {H : Hp} {s : Shared} {E : Value → Shared → Prop}
theorem Inv.wish (I : Inv X pins σ H s) (E : Value → Shared → Prop) : Inv (X.wish E) pins σ H s := ⟨I.ok.wish E, I.os, I.bare, I.base, I.loc, I.cell, I.free, I.freeC, I.pin, I.hok, I.len⟩
theorem Inv.unwish (I : Inv (X.wish E) pins σ H s) : Inv X pins σ H s := ⟨I.ok.unwish, I.os, I.bare, I.base, I.loc, I.cell, I.free, I.freeC, I.pin, I.hok, I.len⟩
theorem SP.unwish {D : Ends} {f : Flow} {s' : Shared} (h : SP (X.wish E) pins D f s') : SP X pins D f s' := by
  cases f with
  | next => obtain ⟨σ', H', I, q⟩ := h; exact ⟨σ', H', I.unwish, q⟩
  | brk => obtain ⟨σ', H', I, q⟩ := h; exact ⟨σ', H', I.unwish, q⟩
  | cont => obtain ⟨σ', H', I, q⟩ := h; exact ⟨σ', H', I.unwish, q⟩
  | ret u => obtain ⟨v, σ', H', I, r, q⟩ := h; exact ⟨v, σ', H', I.unwish, r, q⟩
theorem PSs.nox {st : List Stmt} {t : TS} (h : PSs X.nox st t) : PSs X st t := fun pins s σ H D I hw =>
  wpAny_mono (h pins s σ H D (I.wish _) hw) (fun _ _ q => q.unwish) fun _ _ z => False.elim z
end
section
variable {X : Cx} {st : Stmt} {rest : List Stmt} {t u : TS} {e : Expr} {te : TE} {pos : Pos}
noncomputable def tNext : TS := fun D σ H => D.nx σ H
noncomputable def tSeq (t u : TS) : TS := fun D σ H => t { D with nx := u D } σ H
theorem pss_nil : PSs X [] tNext := fun _ _ σ H _ I h => wpAny_execs_nil ⟨σ, H, I, h⟩
theorem pss_cons (h1 : PS X st t) (h2 : PSs X rest u) : PSs X (st :: rest) (tSeq t u) := by
  intro pins s σ H D I h
  refine wpAny_execs_cons (thn (h1 pins s σ H { D with nx := u D } I h) fun f s1 q => ?_)
  cases f with
  | next =>
    obtain ⟨σ', H', I', q⟩ := q
    exact h2 pins s1 σ' H' D I' q
  | ret v => exact q
  | brk => exact q
  | cont => exact q
theorem pss_one (h1 : PS X st t) : PSs X [st] t := by
  intro pins s σ H D I h
  refine wpAny_execs_cons (thn (h1 pins s σ H D I h) fun f s1 q => ?_)
  cases f with
  | next => exact wpAny_execs_nil q
  | ret v => exact q
  | brk => exact q
  | cont => exact q
theorem Inv.quiet {pins : List (Addr × Obj)} {σ : St} {H : Hp} {s : Shared} (I : Inv X pins σ H s) : interactive X.env = false := by simp [interactive, I.ok.kind]
noncomputable def tDrop (te : TE) : TS := fun D σ H => te σ H fun _ H1 => D.nx σ H1
theorem ps_expr (he : PE X e te) (hs : swapsWith e none pos.line X.env = pure false := by rfl) : PS X (.Expr e pos) (tDrop te) := by
  intro pins s σ H D I h
  exact wpAny_Expr_any (thn (he pins s σ H _ I h) fun v s1 ⟨x, H1, I1, r1, q1⟩ => ⟨σ, H1, I1, q1⟩) I.quiet hs
noncomputable def tRet (te : TE) : TS := fun D σ H => te σ H D.rt
theorem ps_ret (he : PE X e te) : PS X (.Return (some e) pos) (tRet te) := by
  intro pins s σ H D I h
  exact wpAny_Return_some (thn (he pins s σ H _ I h) fun v s1 ⟨x, H1, I1, r1, q1⟩ => ⟨x, σ, H1, I1, r1, q1⟩)
noncomputable def tIfS (c : TT) (t u : TS) : TS := fun D σ H => c σ H fun b H1 => if b = true then t D σ H1 else u D σ H1
theorem ps_if {c : Expr} {a b : List Stmt} {tc : TT} (hc : PT X c tc) (ha : PSs X a t) (hb : PSs X b u) : PS X (.If c a b pos) (tIfS tc t u) := by
  intro pins s σ H D I h
  refine wpAny_If (thn (hc pins s σ H _ I h) fun d s1 ⟨H1, I1, q1⟩ => ?_)
  cases d with
  | true => exact ha pins s1 σ H1 D I1 q1
  | false => exact hb pins s1 σ H1 D I1 q1
noncomputable def tNever : TS := fun _ _ _ => False
theorem ps_never : PS X st tNever := fun _ _ _ _ _ _ h => h.elim
end
noncomputable abbrev TG := V → St → Hp → (St → Hp → Prop) → Prop
noncomputable abbrev TGs := List V → St → Hp → (St → Hp → Prop) → Prop
noncomputable def PG (X : Cx) (target : Expr) (t : TG) : Prop :=
  ∀ (pins : List (Addr × Obj)) (s : Shared) (σ : St) (H : Hp) (v : V) (u : Value) (Q : St → Hp → Prop), Inv X pins σ H s → RelV v u → t v σ H Q →
    wpAny (model X.prog X.w) X.A (assign target X.env u) (fun _ s' => ∃ σ' H', Inv X pins σ' H' s' ∧ Q σ' H') X.xe s
noncomputable def PGs (X : Cx) (ts : List Expr) (t : TGs) : Prop :=
  ∀ (pins : List (Addr × Obj)) (s : Shared) (σ : St) (H : Hp) (vs : List V) (us : List Value) (Q : St → Hp → Prop), Inv X pins σ H s → Vals vs us → t vs σ H Q →
    wpAny (model X.prog X.w) X.A (assignInOrder ((assignEach ts X.env).map (·.2)) us) (fun _ s' => ∃ σ' H', Inv X pins σ' H' s' ∧ Q σ' H') X.xe s
noncomputable abbrev TSet := V → V → V → Hp → (Hp → Prop) → Prop
noncomputable def PSet (X : Cx) (t : TSet) : Prop :=
  ∀ (pins : List (Addr × Obj)) (s : Shared) (σ : St) (H : Hp) (o i v : V) (ov iv u : Value) (Q : Hp → Prop), Inv X pins σ H s → RelV o ov → RelV i iv → RelV v u → t o i v H Q →
    wpAny (model X.prog X.w) X.A (setItem ov iv u) (fun _ s' => ∃ H', Inv X pins σ H' s' ∧ Q H') X.xe s
section
variable {X : Cx} {pos : Pos}
noncomputable def gName (i : Nat) : TG := fun v σ H Q => Q (σ.set i (some v)) H
theorem pg_name {i : Nat} {x : Str} (hN : X.N.Nodup) (hi : X.N[i]? = some x) (hx : Loc X.env.scope x) (hf : X.fn x = true ∨ X.env.scope.names.lookup x = some .local := by first | exact .inl rfl | exact .inr rfl | assumption) : PG X (.Name x pos) (gName i) := by
  intro pins s σ H v u Q I r h
  exact wpAny_assign_Name (store_ok I hN hi hx r (fun s' I' => ⟨_, H, I', h⟩) hf)
noncomputable def gNil : TGs := fun vs σ H Q => vs = [] ∧ Q σ H
noncomputable def gCons (t : TG) (u : TGs) : TGs := fun vs σ H Q => ∃ v r, vs = v :: r ∧ t v σ H fun σ' H' => u r σ' H' Q
theorem pgs_nil : PGs X [] gNil := by
  intro pins s σ H vs us Q I r h
  obtain ⟨e, h⟩ := h
  subst e
  cases r
  exact assignInOrder_nil ⟨σ, H, I, h⟩
theorem pgs_cons {e : Expr} {es : List Expr} {t : TG} {u : TGs} (h1 : PG X e t) (h2 : PGs X es u)
    (hs : (assignEach (e :: es) X.env).map (·.2) = assign e X.env :: (assignEach es X.env).map (·.2) := by rfl) : PGs X (e :: es) (gCons t u) := by
  intro pins s σ H vs us Q I r h
  obtain ⟨v, vr, e1, h⟩ := h
  subst e1
  cases r with
  | cons r rr =>
    rw [hs]
    refine assignInOrder_cons (thn (h1 pins s σ H _ _ _ I r h) fun _ s1 ⟨σ1, H1, I1, q1⟩ => ?_)
    exact h2 pins s1 σ1 H1 _ _ Q I1 rr q1
noncomputable def gTup (K : PySem.W.Frag) (n : Nat) (t : TGs) : TG := fun v σ H Q => ∃ a xs, v = .ref a ∧ SqT K H a xs ∧ xs.length = n ∧ t xs σ H Q
theorem pg_tup {es : List Expr} {k : Nat} {t : TGs} {n : Nat} (hc : X.calm = true) (h : PGs X es t)
    (hn : (assignEach es X.env).length = n := by rfl) (hst : (assignEach es X.env).findIdx? (·.1) = none := by rfl) : PG X (.Tuple es k pos) (gTup X.K n t) := by
  intro pins s σ H v u Q I r hw
  obtain ⟨a, xs, e1, hq, hl, hw⟩ := hw
  subst e1
  cases r
  obtain ⟨its, rv, ht, hz⟩ := I.tuple hq
  refine assign_Tuple_tuple (I.ok.hd hc) ht (by simp [hn, ← hl, rv.length]) hst fun h' hx => ?_
  have I1 : Inv X pins σ H { s with heap := h' } := I.kept (t' := s.toks) fun b o e => hx b o (Nat.ne_of_lt (Heap.lt_size e)) e
  exact h pins _ σ H xs _ Q I1 (by simpa using rv) hw
noncomputable def gSub (to ti : TE) (t : TSet) : TG := fun v σ H Q => to σ H fun o H1 => ti σ H1 fun i H2 => t o i v H2 fun H3 => Q σ H3
theorem pg_sub {o i : Expr} {to ti : TE} {t : TSet} (ho : PE X o to) (hi : PE X i ti) (hs : PSet X t)
    (ha : ∀ v, assign (.Subscript o i pos) X.env v = (do
      let ov ← holding [v] (eval o X.env)
      let iv ← holding [v, ov] (eval i X.env)
      standAt pos
      holding [v, ov, iv] (setItem ov iv v)
      release [v, ov, iv] []) := by intro _; rfl) : PG X (.Subscript o i pos) (gSub to ti t) := by
  intro pins s σ H v u Q I r h
  rw [ha]
  refine wpAny_bind (wpAny_holding (thn (ho pins s σ H _ I h) fun ov s1 ⟨x, H1, I1, r1, q1⟩ => ?_))
  refine wpAny_bind (wpAny_holding (thn (hi pins s1 σ H1 _ I1 q1) fun iv s2 ⟨y, H2, I2, r2, q2⟩ => ?_))
  refine wpAny_bind (wpAny_standAt (wpAny_bind (wpAny_holding (thn (hs pins s2 σ H2 x y v ov iv u _ I2 r1 r2 r q2) fun _ s3 ⟨H3, I3, q3⟩ => ?_))))
  exact wpAny_release ⟨σ, H3, I3, q3⟩
noncomputable def tAsg (te : TE) (g : TG) : TS := fun D σ H => te σ H fun x H1 => g x σ H1 D.nx
theorem ps_asg {tg e : Expr} {te : TE} {g : TG} (he : PE X e te) (hg : PG X tg g) (hs : swapsWithSole [tg] e pos.line X.env = pure false := by rfl) (hw : swappedStores [tg] e X.env = pure none := by rfl)
    (h1 : (assignEach [tg] X.env).map (·.2) = [assign tg X.env] := by rfl) : PS X (.Assign [tg] e pos) (tAsg te g) := by
  intro pins s σ H D I h
  refine wpAny_Assign_stores (thn (he pins s σ H _ I h) fun v s1 ⟨x, H1, I1, r1, q1⟩ => ?_) hs hw
  rw [h1]
  exact thn (hg pins s1 σ H1 x v _ I1 r1 q1) fun _ s2 q => q
theorem ps_set {i : Nat} {x : Str} {e : Expr} {te : TE} {pos' : Pos} (hN : X.N.Nodup) (hi : X.N[i]? = some x) (hx : Loc X.env.scope x) (he : PE X e te) (hs : swapsWith e (some (.Name x pos')) pos.line X.env = pure false := by rfl) (hf : X.fn x = true ∨ X.env.scope.names.lookup x = some .local := by first | exact .inl rfl | exact .inr rfl | assumption) :
    PS X (.Assign [.Name x pos'] e pos) (tAsg te (gName i)) := by
  intro pins s σ H D I h
  refine wpAny_Assign_Name (thn (he pins s σ H _ I h) fun v s1 ⟨y, H1, I1, r1, q1⟩ => ?_) hs
  exact store_ok I1 hN hi hx r1 (fun s2 I2 => ⟨_, H1, I2, q1⟩) hf
end
section
variable {X : Cx} {pos : Pos}
noncomputable def tWhile (c : TT) (tb : TS) : TS := fun D σ H => ∃ W : Nat → St → Hp → Prop, (∃ m, W m σ H) ∧ ∀ m σ H, W m σ H →
  c σ H fun b H1 => if b = true then ∃ N : St → Hp → Prop, (∀ σ' H', N σ' H' → ∃ m', m' < m ∧ W m' σ' H') ∧ tb { D with nx := N, ct := N, bk := D.nx } σ H1 else D.nx σ H1
theorem ps_while {c : Expr} {body : List Stmt} {tc : TT} {tb : TS} (hp : PassesOwn (model X.prog X.w) X.A X.env X.xe) (hc : PT X c tc) (hb : PSs X body tb) : PS X (.While c body [] pos) (tWhile tc tb) := by
  intro pins s σ H D I h
  obtain ⟨W, ⟨m0, w0⟩, turn⟩ := h
  refine wpAny_While (codeAny_whileLoop (fun n s' => ∃ σ' H', Inv X pins σ' H' s' ∧ W n σ' H') ?_ m0 ⟨σ, H, I, w0⟩)
  rintro n s1 ⟨σ1, H1, I1, w1⟩
  refine wpAny_passesOwn hp (thn (hc pins s1 σ1 H1 _ I1 (turn n σ1 H1 w1)) fun b s2 ⟨H2, I2, q2⟩ => ?_)
  cases b with
  | true =>
    obtain ⟨N, hN, q2⟩ := q2
    rw [if_pos rfl]
    refine wpAny_passesOwn hp (thn (hb pins s2 σ1 H2 _ I2 q2) fun f s3 q3 => ?_)
    cases f with
    | next =>
      obtain ⟨σ3, H3, I3, n3⟩ := q3
      obtain ⟨m', hm, w3⟩ := hN σ3 H3 n3
      exact ⟨m', hm, σ3, H3, I3, w3⟩
    | cont =>
      obtain ⟨σ3, H3, I3, n3⟩ := q3
      obtain ⟨m', hm, w3⟩ := hN σ3 H3 n3
      exact ⟨m', hm, σ3, H3, I3, w3⟩
    | brk => exact q3
    | ret v => exact q3
  | false =>
    rw [if_neg Bool.false_ne_true]
    exact wpAny_execs_nil ⟨σ1, H2, I2, q2⟩
end
structure It where
  go : Nat → Hp → Prop
  yld : Nat → Hp → V → Hp → Prop
  stop : Nat → Hp → Prop
noncomputable def FpOk (X : Cx) (pins : List (Addr × Obj)) (H : Hp) (b : Addr) : Prop :=
  H b = none ∧ b ≠ X.env.locals ∧ b ∉ X.fs ∧ (b ∈ X.ex ∨ X.s₀.heap.objs.size ≤ b) ∧ (∀ x c, X.env.cells.lookup x = some c → c ≠ b) ∧ ∀ p ∈ X.pn ++ pins, p.1 ≠ b
theorem Inv.fpOk {X : Cx} {pins : List (Addr × Obj)} {σ : St} {H H' : Hp} {s : Shared} {b : Addr} (I : Inv X pins σ H s) (hb : s.heap.objs.size ≤ b) (hn : H' b = none) : FpOk X pins H' b := by
  refine ⟨hn, Nat.ne_of_gt (Nat.lt_of_lt_of_le I.lt hb), I.nofs hb, .inr (Nat.le_trans I.sz hb), fun x c e z => ?_, fun p hp z => ?_⟩
  · obtain ⟨v, q⟩ := I.cell x c e
    exact absurd (Nat.lt_of_lt_of_le q.lt (by rw [z]; exact hb)) (Nat.lt_irrefl _)
  · exact absurd (Nat.lt_of_lt_of_le (Heap.lt_size (I.pin p hp).1) (by rw [z]; exact hb)) (Nat.lt_irrefl _)
structure Turn (P : Program) (w : World) (K : PySem.W.Frag) (tg : Expr) (J : It) (fp : List Addr) (it : Addr) (tn : Nat → Heap → Prop) : Prop where
  mem : it ∈ fp
  obj : ∀ i h, tn i h → ∀ b ∈ fp, ∃ o, h.get? b = some o ∧ ∀ v, o.data ≠ .cell v
  keep : ∀ i h h', tn i h → (∀ b ∈ fp, ∀ o, h.get? b = some o → h'.get? b = some o) → tn i h'
  item : ∀ (X : Cx), X.prog = P → X.w = w → X.K = K → X.calm = true → ∀ (i : Nat) (pins : List (Addr × Obj)) (s : Shared) (σ : St) (H : Hp) (E : Value → Shared → Prop), Inv X pins σ H s → (∀ b ∈ fp, FpOk X pins H b) → tn i s.heap → J.go i H →
    wpAny (model P w) X.A (pyNext (.ref it)) (fun r s1 => ∃ u, r = some u ∧
      wpAny (model P w) X.A (letOwnedTupleGo tg (.ref it) u) (fun _ s2 => ∃ x H', Inv X pins σ H' s2 ∧ RelV x u ∧ J.yld i H x H' ∧ tn (i + 1) s2.heap ∧ ∀ b ∈ fp, H' b = none) E s1) E s
  done : ∀ (X : Cx), X.prog = P → X.w = w → X.K = K → X.calm = true → ∀ (i : Nat) (pins : List (Addr × Obj)) (s : Shared) (σ : St) (H : Hp) (E : Value → Shared → Prop), Inv X pins σ H s → (∀ b ∈ fp, FpOk X pins H b) → tn i s.heap → J.stop i H →
    wpAny (model P w) X.A (pyNext (.ref it)) (fun r s1 => r = none ∧ Inv X pins σ H s1) E s
  self : ∀ (A : Around) (i : Nat) (s : Shared) (Q : Value → Shared → Prop) (E : Value → Shared → Prop), tn i s.heap → Q (.ref it) s → wpAny (model P w) A (pyIter (.ref it)) Q E s
noncomputable abbrev TI := St → Hp → (It → Hp → Prop) → Prop
noncomputable def PIE (X : Cx) (pins : List (Addr × Obj)) (σ : St) (tg : Expr) (R : It → Hp → Prop) (itv : Value) (s2 : Shared) : Prop :=
  ∃ (it : Addr) (fp : List Addr) (tn : Nat → Heap → Prop) (J : It) (H' : Hp), itv = .ref it ∧ Inv X pins σ H' s2 ∧ Turn X.prog X.w X.K tg J fp it tn ∧ tn 0 s2.heap ∧ (∀ b ∈ fp, FpOk X pins H' b) ∧ R J H'
noncomputable def PI (X : Cx) (tg iter : Expr) (wi : TI) : Prop :=
  ∀ (pins : List (Addr × Obj)) (s : Shared) (σ : St) (H : Hp) (R : It → Hp → Prop), Inv X pins σ H s → wi σ H R →
    wpAny (model X.prog X.w) X.A (eval iter X.env) (fun v s1 => wpAny (model X.prog X.w) X.A (pyIter v) (PIE X pins σ tg R) X.xe s1) X.xe s
theorem go_of {M : Model} {A : Around} {E : Value → Shared → Prop} {s : Shared} {tg : Expr} {it : Addr} {u : Value} {o : Obj} {n : String} {vs : Array Value} {Q : Unit → Shared → Prop} (ho : s.heap.get? it = some o) (hc : o.cls = .type n) (hd : o.data = .fields vs)
    (hn : ["enumerate", "zip", "dict_itemiterator", "dict_reverseitemiterator", "odict_iterator", "itertools.zip_longest", "itertools.pairwise"].contains n = false) (hQ : Q () s) : wpAny M A (letOwnedTupleGo tg (.ref it) u) Q E s := by
  unfold letOwnedTupleGo
  cases tg <;> first
    | exact wpAny_pure hQ
    | (cases u <;> first
        | exact wpAny_pure hQ
        | (refine wpAny_bind (wpAny_load ho ?_)
           rw [hc, hd]
           show wpAny M A (if (["enumerate", "zip", "dict_itemiterator", "dict_reverseitemiterator", "odict_iterator", "itertools.zip_longest", "itertools.pairwise"].contains n && vs[0]? == some (rawInt _)) = true then _ else _) Q E s
           rw [if_neg (by intro h; rw [hn, Bool.false_and] at h; cases h)]
           exact wpAny_pure hQ))
noncomputable def Itl (K : PySem.W.Frag) (a : Addr) : It :=
  ⟨fun i H => ∃ xs x, SqL K H a xs ∧ xs[i]? = some x, fun i H x H' => H' = H ∧ ∀ xs, SqL K H a xs → xs[i]? = some x, fun i H => ∃ xs, SqL K H a xs ∧ xs.length ≤ i⟩
noncomputable def Itt (K : PySem.W.Frag) (a : Addr) : It :=
  ⟨fun i H => ∃ xs x, SqT K H a xs ∧ xs[i]? = some x, fun i H x H' => H' = H ∧ ∀ xs, SqT K H a xs → xs[i]? = some x, fun i H => ∃ xs, SqT K H a xs ∧ xs.length ≤ i⟩
noncomputable def Itr (lo : Int) (n : Nat) : It := ⟨fun i _ => i < n, fun i H x H' => H' = H ∧ x = .int (lo + i), fun i _ => n ≤ i⟩
theorem turn_list {P : Program} {w : World} {K : PySem.W.Frag} {tg : Expr} (a it : Addr) : Turn P w K tg (Itl K a) [it] it (fun i h => h.IsListIter it a i) where
  mem := by simp
  obj := fun i h st b hb => by
    have e : b = it := by simpa using hb
    subst e
    obtain ⟨o, e, c, d⟩ := st
    exact ⟨o, e, fun v z => by rw [d] at z; cases z⟩
  keep := fun i h h' st k => st.at fun o e => k it (by simp) o e
  item := by
    intro X hP hw hK hc i pins s σ H E I hf st hg
    subst hP hw hK
    obtain ⟨xs, x, hq, hx⟩ := hg
    obtain ⟨its, rv, p, hz⟩ := I.list hq
    obtain ⟨u, hu, ru⟩ := rv.get hx
    obtain ⟨f0, f1, f2, f3, f4, f5⟩ := hf it (by simp)
    refine wpAny_pyNext_list_item st p.isList (x := u) (by simpa using hu) fun h' st' sb => ?_
    have I1 : Inv X pins σ H { s with heap := h' } := I.turned (t' := s.toks) (fun b o hb e => (sb.2 b hb).trans e) f0 f1 f3 f4 f5
    obtain ⟨o, e, c, d⟩ := id st'
    exact ⟨u, rfl, go_of (s := { s with heap := h' }) e c d (by decide) ⟨x, H, I1, ru, ⟨rfl, fun ys hy => by rw [I.list_inj hy hq]; exact hx⟩, st', fun b hb => (hf b hb).1⟩⟩
  done := by
    intro X hP hw hK hc i pins s σ H E I hf st hg
    subst hP hw hK
    obtain ⟨xs, hq, hx⟩ := hg
    obtain ⟨its, rv, p, hz⟩ := I.list hq
    obtain ⟨f0, f1, f2, f3, f4, f5⟩ := hf it (by simp)
    have hl := rv.length
    exact wpAny_pyNext_list_end (I.ok.hd hc) st p.isList (by simp; omega) fun h' eb => ⟨rfl, I.turned (t' := s.toks) (fun b o hb e => eb b o hb e) f0 f1 f3 f4 f5⟩
  self := fun _ _ _ _ _ st h => wpAny_pyIter_listiter st h
theorem turn_tuple {P : Program} {w : World} {K : PySem.W.Frag} {tg : Expr} (a it : Addr) : Turn P w K tg (Itt K a) [it] it (fun i h => h.IsTupleIter it a i) where
  mem := by simp
  obj := fun i h st b hb => by
    have e : b = it := by simpa using hb
    subst e
    obtain ⟨o, e, c, d⟩ := st
    exact ⟨o, e, fun v z => by rw [d] at z; cases z⟩
  keep := fun i h h' st k => st.at fun o e => k it (by simp) o e
  item := by
    intro X hP hw hK hc i pins s σ H E I hf st hg
    subst hP hw hK
    obtain ⟨xs, x, hq, hx⟩ := hg
    obtain ⟨its, rv, p, hz⟩ := I.tuple hq
    obtain ⟨u, hu, ru⟩ := rv.get hx
    obtain ⟨f0, f1, f2, f3, f4, f5⟩ := hf it (by simp)
    refine wpAny_pyNext_tuple_item st (show s.heap.IsTuple a its.toArray from p) (x := u) (by simpa using hu) fun h' st' sb => ?_
    have I1 : Inv X pins σ H { s with heap := h' } := I.turned (t' := s.toks) (fun b o hb e => (sb.2 b hb).trans e) f0 f1 f3 f4 f5
    obtain ⟨o, e, c, d⟩ := id st'
    exact ⟨u, rfl, go_of (s := { s with heap := h' }) e c d (by decide) ⟨x, H, I1, ru, ⟨rfl, fun ys hy => by rw [I.tuple_inj hy hq]; exact hx⟩, st', fun b hb => (hf b hb).1⟩⟩
  done := by
    intro X hP hw hK hc i pins s σ H E I hf st hg
    subst hP hw hK
    obtain ⟨xs, hq, hx⟩ := hg
    obtain ⟨its, rv, p, hz⟩ := I.tuple hq
    obtain ⟨f0, f1, f2, f3, f4, f5⟩ := hf it (by simp)
    have hl := rv.length
    exact wpAny_pyNext_tuple_end (I.ok.hd hc) st (show s.heap.IsTuple a its.toArray from p) (by simp; omega) fun h' eb => ⟨rfl, I.turned (t' := s.toks) (fun b o hb e => eb b o hb e) f0 f1 f3 f4 f5⟩
  self := fun _ _ _ _ _ st h => wpAny_pyIter_tupleiter st h
theorem turn_range {P : Program} {w : World} {K : PySem.W.Frag} {tg : Expr} (it : Addr) (lo : Int) (n : Nat) : Turn P w K tg (Itr lo n) [it] it (fun i h => IsRangeIter h it (lo + (i : Nat) * 1) ((n : Int) - (i : Nat)) 1) where
  mem := by simp
  obj := fun i h st b hb => by
    have e : b = it := by simpa using hb
    subst e
    exact ⟨_, st, fun v z => by
      have z' : Data.fields _ = Data.cell v := z
      cases z'⟩
  keep := fun i h h' st k => k it (by simp) _ st
  item := by
    intro X hP hw hK hc i pins s σ H E I hf st hg
    subst hP hw hK
    obtain ⟨f0, f1, f2, f3, f4, f5⟩ := hf it (by simp)
    have W := Walks.range (prog := X.prog) (w := X.w) (I.ok.hd hc) it lo 1 n
    refine W.item i s _ _ hg st fun v h' tk hv st' kk => ?_
    obtain ⟨t, rfl⟩ := hv
    have I1 : Inv X pins σ H { s with heap := h', toks := tk } := I.turned (fun b o hb e => kk b o (by simpa using hb) e) f0 f1 f3 f4 f5
    refine ⟨_, rfl, go_of (s := { s with heap := h', toks := tk }) (n := "range_iterator") st' rfl rfl (by decide) ⟨.int (lo + i), H, I1, ⟨t, ?_⟩, ⟨rfl, rfl⟩, st', fun b hb => (hf b hb).1⟩⟩
    rw [Int.mul_one]
  done := by
    intro X hP hw hK hc i pins s σ H E I hf st hg
    subst hP hw hK
    obtain ⟨f0, f1, f2, f3, f4, f5⟩ := hf it (by simp)
    exact wpAny_pyNext_range_end (I.ok.hd hc) st (by have : n ≤ i := hg; omega) fun h' eb => ⟨rfl, I.turned (t' := s.toks) (fun b o hb e => eb b o hb e) f0 f1 f3 f4 f5⟩
  self := fun _ _ _ _ _ st h => wpAny_pyIter_rangeiter st h
end L2
namespace L2
open PySem PySem.Spec PyProof.Rows
section
variable {X : Cx} {tg : Expr}
noncomputable def iList (K : PySem.W.Frag) (tl : TE) : TI := fun σ H R => tl σ H fun x H1 => ∃ a, x = .ref a ∧ (∃ xs, SqL K H1 a xs) ∧ R (Itl K a) H1
noncomputable def iTup (K : PySem.W.Frag) (tl : TE) : TI := fun σ H R => tl σ H fun x H1 => ∃ a, x = .ref a ∧ (∃ xs, SqT K H1 a xs) ∧ R (Itt K a) H1
theorem pi_list {l : Expr} {tl : TE} (hl : PE X l tl) : PI X tg l (iList X.K tl) := by
  intro pins s σ H R I h
  refine thn (hl pins s σ H _ I h) fun v s1 ⟨x, H1, I1, r1, q1⟩ => ?_
  obtain ⟨a, e, ⟨xs, hq⟩, q⟩ := q1
  subst e
  cases r1
  obtain ⟨its, rv, p, hz⟩ := I1.list hq
  refine wpAny_pyIter_list p.isList ?_
  refine ⟨s1.heap.objs.size, [s1.heap.objs.size], _, _, H1, rfl, I1.kept (t' := s1.toks) fun b o e => Heap.get?_push_of_some _ e, turn_list a _, ⟨_, Heap.get?_push_size _ rfl, rfl, rfl⟩, fun b hb => ?_, q⟩
  have e : b = s1.heap.objs.size := by simpa using hb
  subst e
  exact I1.fpOk (Nat.le_refl _) (I1.hok.fresh (Nat.le_refl _))
theorem pi_tup {l : Expr} {tl : TE} (hl : PE X l tl) : PI X tg l (iTup X.K tl) := by
  intro pins s σ H R I h
  refine thn (hl pins s σ H _ I h) fun v s1 ⟨x, H1, I1, r1, q1⟩ => ?_
  obtain ⟨a, e, ⟨xs, hq⟩, q⟩ := q1
  subst e
  cases r1
  obtain ⟨its, rv, p, hz⟩ := I1.tuple hq
  refine wpAny_pyIter_tuple (show s1.heap.IsTuple a its.toArray from p) ?_
  refine ⟨s1.heap.objs.size, [s1.heap.objs.size], _, _, H1, rfl, I1.kept (t' := s1.toks) fun b o e => Heap.get?_push_of_some _ e, turn_tuple a _, ⟨_, Heap.get?_push_size _ rfl, rfl, rfl⟩, fun b hb => ?_, q⟩
  have e : b = s1.heap.objs.size := by simpa using hb
  subst e
  exact I1.fpOk (Nat.le_refl _) (I1.hok.fresh (Nat.le_refl _))
theorem range_it {pins : List (Addr × Obj)} {σ : St} {H : Hp} {s : Shared} {R : It → Hp → Prop} {E : Value → Shared → Prop} {lo hi : Int} {t u v : Tok} {tk : Nat} (I : Inv X pins σ H s) (h1 : -(2 ^ 62) ≤ lo) (h2 : lo < 2 ^ 62) (h3 : -(2 ^ 62) ≤ hi) (h4 : hi < 2 ^ 62)
    (q : R (Itr lo (hi - lo).toNat) H) : wpAny (model X.prog X.w) X.A (pyIter (.ref s.heap.objs.size)) (PIE X pins σ tg R) E { s with heap := s.heap.push { cls := .type "range", data := .fields #[.int lo t, .int hi u, .int 1 v] }, toks := tk } := by
  refine wpAny_pyIter_range (IsRange.new ..) (small_one h1 h2 h3 h4) ?_
  have I1 : Inv X pins σ H { s with heap := s.heap.push { cls := .type "range", data := .fields #[.int lo t, .int hi u, .int 1 v] }, toks := tk } := I.kept fun b o e => Heap.get?_push_of_some _ e
  refine ⟨(s.heap.push { cls := .type "range", data := .fields #[.int lo t, .int hi u, .int 1 v] }).objs.size, [(s.heap.push { cls := .type "range", data := .fields #[.int lo t, .int hi u, .int 1 v] }).objs.size], _, _, H, rfl,
    I1.kept (t' := tk) fun b o e => Heap.get?_push_of_some _ e, turn_range _ lo (hi - lo).toNat, ?_, fun b hb => ?_, q⟩
  · have e1 : lo + ((0 : Nat) : Int) * 1 = lo := by simp
    have e2 : (((hi - lo).toNat : Nat) : Int) - ((0 : Nat) : Int) = Builtin.Range.rangeSize lo hi 1 := by rw [rangeSize_one]; split <;> omega
    show IsRangeIter _ _ (lo + ((0 : Nat) : Int) * 1) ((((hi - lo).toNat : Nat) : Int) - ((0 : Nat) : Int)) 1
    rw [e1, e2]
    exact Heap.get?_push_size _ rfl
  · have e : b = (s.heap.push { cls := .type "range", data := .fields #[.int lo t, .int hi u, .int 1 v] }).objs.size := by simpa using hb
    subst e
    exact I1.fpOk (Nat.le_refl _) (I1.hok.fresh (Nat.le_refl _))
noncomputable def iRng1 (ta : TA) : TI := fun σ H R => ta σ H fun vs H1 => ∃ j : Int, vs = [.int j] ∧ -(2 ^ 62) ≤ j ∧ j < 2 ^ 62 ∧ R (Itr 0 j.toNat) H1
theorem pi_range1 {a : Expr} {ta : TA} {p pos : Pos} (hg : Gl X "range") (hm : X.mg "range" = none) (ha : PA X [a] ta) (hs : starEach [a] X.env = [(false, eval a X.env)] := by rfl) : PI X tg (.Call (.Name "range" p) [a] [] pos) (iRng1 ta) := by
  intro pins s σ H R I h
  refine Call_ (ld_blt I hg hm boot_range (PyProof.Rows.callWith_type1 (thn (ha pos pins s σ H _ I h) fun us s1 ⟨vs, H1, I1, r1, q1⟩ => ?_) hs rfl))
  obtain ⟨j, e, q1, q2, q⟩ := q1
  subst e
  cases r1 with
  | cons r rr =>
    cases rr
    obtain ⟨t, rfl⟩ := r
    exact call_range_1 (range_it I1 (by omega) (by omega) q1 q2 (by simpa using q))
noncomputable def tFor (wi : TI) (g : TG) (tb : TS) : TS := fun D σ H => wi σ H fun J H1 => ∃ W : Nat → Nat → St → Hp → Prop, (∃ m, W 0 m σ H1) ∧ ∀ i m σ H, W i m σ H →
  (J.stop i H ∧ D.nx σ H) ∨ (J.go i H ∧ ∃ N : St → Hp → Prop, (∀ σ' H', N σ' H' → ∃ m', m' < m ∧ W (i + 1) m' σ' H') ∧ ∀ x H', J.yld i H x H' → g x σ H' fun σ2 H2 => tb { D with nx := N, ct := N, bk := D.nx } σ2 H2)
noncomputable def pinsAt (fp : List Addr) (h : Heap) : List (Addr × Obj) := fp.filterMap fun b => (h.get? b).map fun o => (b, o)
theorem mem_pinsAt {fp : List Addr} {h : Heap} {b : Addr} {o : Obj} (hb : b ∈ fp) (e : h.get? b = some o) : (b, o) ∈ pinsAt fp h := List.mem_filterMap.mpr ⟨b, hb, by rw [e]; rfl⟩
theorem of_pinsAt {fp : List Addr} {h : Heap} {p : Addr × Obj} (hp : p ∈ pinsAt fp h) : p.1 ∈ fp ∧ h.get? p.1 = some p.2 := by
  obtain ⟨b, hb, e⟩ := List.mem_filterMap.mp hp
  cases q : h.get? b with
  | none => rw [q] at e; cases e
  | some o =>
    rw [q] at e
    have e' : (b, o) = p := Option.some.inj e
    subst e'
    exact ⟨hb, q⟩
theorem Inv.pinned {pins : List (Addr × Obj)} {σ : St} {H : Hp} {s : Shared} {fp : List Addr} (I : Inv X pins σ H s) (hf : ∀ b ∈ fp, FpOk X pins H b) (ho : ∀ b ∈ fp, ∃ o, s.heap.get? b = some o ∧ ∀ v, o.data ≠ .cell v) : Inv X (pins ++ pinsAt fp s.heap) σ H s :=
  I.pins_of fun p hp => (List.mem_append.mp hp).elim (fun z => I.pin p (List.mem_append_right _ z)) fun z => by
    obtain ⟨hb, e⟩ := of_pinsAt z
    obtain ⟨f0, f1, f2, _⟩ := hf p.1 hb
    obtain ⟨o, e', d⟩ := ho p.1 hb
    rw [e] at e'; cases e'
    exact ⟨e, f0, f1, f2, d⟩
theorem Inv.unpinned {pins pl : List (Addr × Obj)} {σ : St} {H : Hp} {s : Shared} (I : Inv X (pins ++ pl) σ H s) : Inv X pins σ H s := I.pins_of fun p hp => I.pin p (List.mem_append_right _ (List.mem_append_left _ hp))
theorem ps_for {iter : Expr} {body : List Stmt} {wi : TI} {g : TG} {tb : TS} {pos : Pos} (hp : PassesOwn (model X.prog X.w) X.A X.env X.xe) (hc : X.calm = true) (hi : PI X tg iter wi) (hg : PG X tg g) (hb : PSs X body tb)
    (hs : ∀ x, foldedSetIterable iter X.env x = pure x := by intro _; rfl) : PS X (.For tg iter body [] pos) (tFor wi g tb) := by
  intro pins s σ H D I h
  refine wpAny_For (thn (hi pins s σ H _ I h) fun v s1 h1 => thn h1 fun itv s2 h2 => ?_) hs
  obtain ⟨it, fp, tn, J, H2, e, I2, T, st2, f2, W, ⟨m0, w0⟩, turn⟩ := h2
  subst e
  have stat : ∀ {H' : Hp}, (∀ b ∈ fp, H' b = none) → ∀ b ∈ fp, FpOk X pins H' b := fun hn b hb => ⟨hn b hb, (f2 b hb).2⟩
  refine codeAny_forLoop_any (fun n s' => ∃ i σ' H', Inv X pins σ' H' s' ∧ tn i s'.heap ∧ (∀ b ∈ fp, H' b = none) ∧ W i n σ' H') ?_ m0 ⟨0, σ, H2, I2, st2, fun b hb => (f2 b hb).1, w0⟩
  rintro n s3 ⟨i, σ3, H3, I3, st3, fr3, w3⟩
  rcases turn i n σ3 H3 w3 with ⟨stop, qn⟩ | ⟨go, N, hN, step⟩
  · refine wpAny_passesOwn hp (thn (T.done X rfl rfl rfl hc i pins s3 σ3 H3 X.xe I3 (stat fr3) st3 stop) fun r s4 ⟨hr, I4⟩ => ?_)
    subst hr
    exact wpAny_execs_nil ⟨σ3, H3, I4, qn⟩
  · refine wpAny_passesOwn hp (thn (T.item X rfl rfl rfl hc i pins s3 σ3 H3 X.xe I3 (stat fr3) st3 go) fun r s4 ⟨u, hr, h4⟩ => ?_)
    subst hr
    refine wpAny_passesOwn hp (thn h4 fun _ s5 ⟨x, H5, I5, r5, y5, st5, fr5⟩ => ?_)
    have I5' := I5.pinned (stat fr5) (T.obj _ _ st5)
    refine wpAny_passesOwn hp (thn (hg _ s5 σ3 H5 x u _ I5' r5 (step x H5 y5)) fun _ s6 ⟨σ6, H6, I6, q6⟩ => ?_)
    refine wpAny_passesOwn hp (thn (hb _ s6 σ6 H6 _ I6 q6) fun f s7 q7 => ?_)
    have again : ∀ {σ7 : St} {H7 : Hp}, Inv X (pins ++ pinsAt fp s5.heap) σ7 H7 s7 → N σ7 H7 → ∃ m, m < n ∧ ∃ i σ' H', Inv X pins σ' H' s7 ∧ tn i s7.heap ∧ (∀ b ∈ fp, H' b = none) ∧ W i m σ' H' := fun {σ7 H7} I7 n7 => by
      obtain ⟨m', hm, w7⟩ := hN σ7 H7 n7
      refine ⟨m', hm, i + 1, σ7, H7, I7.unpinned, T.keep _ _ _ st5 fun b hb o e => (I7.pin (b, o) (List.mem_append_right _ (List.mem_append_right _ (mem_pinsAt hb e)))).1, fun b hb => ?_, w7⟩
      obtain ⟨o, e, d⟩ := T.obj _ _ st5 b hb
      exact (I7.pin (b, o) (List.mem_append_right _ (List.mem_append_right _ (mem_pinsAt hb e)))).2.1
    cases f with
    | next => obtain ⟨σ7, H7, I7, n7⟩ := q7; exact again I7 n7
    | cont => obtain ⟨σ7, H7, I7, n7⟩ := q7; exact again I7 n7
    | brk => obtain ⟨σ7, H7, I7, q7⟩ := q7; exact ⟨σ7, H7, I7.unpinned, q7⟩
    | ret v => obtain ⟨x7, σ7, H7, I7, r7, q7⟩ := q7; exact ⟨x7, σ7, H7, I7.unpinned, r7, q7⟩
end
theorem for_list {K : PySem.W.Frag} {a : Addr} {xs : List V} {g : TG} {tb : TS} {D : Ends} {σ : St} {H : Hp} (Pv : Nat → St → Hp → Prop) (h0 : Pv 0 σ H) (hl : ∀ i σ H, i ≤ xs.length → Pv i σ H → SqL K H a xs)
    (hs : ∀ i x σ H, xs[i]? = some x → Pv i σ H → g x σ H fun σ2 H2 => tb { D with nx := Pv (i + 1), ct := Pv (i + 1), bk := D.nx } σ2 H2) (hd : ∀ σ H, Pv xs.length σ H → D.nx σ H) :
    ∃ W : Nat → Nat → St → Hp → Prop, (∃ m, W 0 m σ H) ∧ ∀ i m σ H, W i m σ H →
      ((Itl K a).stop i H ∧ D.nx σ H) ∨ ((Itl K a).go i H ∧ ∃ N : St → Hp → Prop, (∀ σ' H', N σ' H' → ∃ m', m' < m ∧ W (i + 1) m' σ' H') ∧ ∀ x H', (Itl K a).yld i H x H' → g x σ H' fun σ2 H2 => tb { D with nx := N, ct := N, bk := D.nx } σ2 H2) := by
  refine ⟨fun i m σ H => m = xs.length - i ∧ i ≤ xs.length ∧ Pv i σ H, ⟨xs.length, by simp, Nat.zero_le _, h0⟩, ?_⟩
  rintro i m σ H ⟨rfl, hi, p⟩
  have q := hl i σ H hi p
  by_cases hlt : i < xs.length
  · refine .inr ⟨⟨xs, xs[i], q, by simp [hlt]⟩, Pv (i + 1), fun σ' H' p' => ⟨xs.length - (i + 1), by omega, rfl, hlt, p'⟩, fun x H' y => ?_⟩
    obtain ⟨e, y⟩ := y
    subst e
    exact hs i x σ _ (y xs q) p
  · have e : i = xs.length := by omega
    subst e
    exact .inl ⟨⟨xs, q, Nat.le_refl _⟩, hd σ H p⟩
theorem for_tup {K : PySem.W.Frag} {a : Addr} {xs : List V} {g : TG} {tb : TS} {D : Ends} {σ : St} {H : Hp} (Pv : Nat → St → Hp → Prop) (h0 : Pv 0 σ H) (hl : ∀ i σ H, i ≤ xs.length → Pv i σ H → SqT K H a xs)
    (hs : ∀ i x σ H, xs[i]? = some x → Pv i σ H → g x σ H fun σ2 H2 => tb { D with nx := Pv (i + 1), ct := Pv (i + 1), bk := D.nx } σ2 H2) (hd : ∀ σ H, Pv xs.length σ H → D.nx σ H) :
    ∃ W : Nat → Nat → St → Hp → Prop, (∃ m, W 0 m σ H) ∧ ∀ i m σ H, W i m σ H →
      ((Itt K a).stop i H ∧ D.nx σ H) ∨ ((Itt K a).go i H ∧ ∃ N : St → Hp → Prop, (∀ σ' H', N σ' H' → ∃ m', m' < m ∧ W (i + 1) m' σ' H') ∧ ∀ x H', (Itt K a).yld i H x H' → g x σ H' fun σ2 H2 => tb { D with nx := N, ct := N, bk := D.nx } σ2 H2) := by
  refine ⟨fun i m σ H => m = xs.length - i ∧ i ≤ xs.length ∧ Pv i σ H, ⟨xs.length, by simp, Nat.zero_le _, h0⟩, ?_⟩
  rintro i m σ H ⟨rfl, hi, p⟩
  have q := hl i σ H hi p
  by_cases hlt : i < xs.length
  · refine .inr ⟨⟨xs, xs[i], q, by simp [hlt]⟩, Pv (i + 1), fun σ' H' p' => ⟨xs.length - (i + 1), by omega, rfl, hlt, p'⟩, fun x H' y => ?_⟩
    obtain ⟨e, y⟩ := y
    subst e
    exact hs i x σ _ (y xs q) p
  · have e : i = xs.length := by omega
    subst e
    exact .inl ⟨⟨xs, q, Nat.le_refl _⟩, hd σ H p⟩
theorem for_range {lo : Int} {n : Nat} {g : TG} {tb : TS} {D : Ends} {σ : St} {H : Hp} (Pv : Nat → St → Hp → Prop) (h0 : Pv 0 σ H)
    (hs : ∀ i σ H, i < n → Pv i σ H → g (.int (lo + i)) σ H fun σ2 H2 => tb { D with nx := Pv (i + 1), ct := Pv (i + 1), bk := D.nx } σ2 H2) (hd : ∀ σ H, Pv n σ H → D.nx σ H) :
    ∃ W : Nat → Nat → St → Hp → Prop, (∃ m, W 0 m σ H) ∧ ∀ i m σ H, W i m σ H →
      ((Itr lo n).stop i H ∧ D.nx σ H) ∨ ((Itr lo n).go i H ∧ ∃ N : St → Hp → Prop, (∀ σ' H', N σ' H' → ∃ m', m' < m ∧ W (i + 1) m' σ' H') ∧ ∀ x H', (Itr lo n).yld i H x H' → g x σ H' fun σ2 H2 => tb { D with nx := N, ct := N, bk := D.nx } σ2 H2) := by
  refine ⟨fun i m σ H => m = n - i ∧ i ≤ n ∧ Pv i σ H, ⟨n, by simp, Nat.zero_le _, h0⟩, ?_⟩
  rintro i m σ H ⟨rfl, hi, p⟩
  by_cases hlt : i < n
  · refine .inr ⟨hlt, Pv (i + 1), fun σ' H' p' => ⟨n - (i + 1), by omega, rfl, hlt, p'⟩, fun x H' y => ?_⟩
    obtain ⟨e, y⟩ := y
    subst e y
    exact hs i σ _ hlt p
  · have e : i = n := by omega
    subst e
    exact .inl ⟨Nat.le_refl _, hd σ H p⟩
end L2
namespace L2
open PySem PySem.Spec PyProof.Rows
noncomputable abbrev R2 := V → V → Hp → VK → Prop
noncomputable def OpR (X : Cx) (f : Value → Value → Sem Value) (r : R2) : Prop :=
  ∀ (pins : List (Addr × Obj)) (s : Shared) (σ : St) (H : Hp) (x y : V) (v u : Value) (Q : VK), Inv X pins σ H s → RelV x v → RelV y u → r x y H Q →
    wpAny (model X.prog X.w) X.A (f v u) (EP X pins σ Q) X.xe s
noncomputable def UnR (X : Cx) (f : Value → Sem Value) (r : V → Hp → VK → Prop) : Prop :=
  ∀ (pins : List (Addr × Obj)) (s : Shared) (σ : St) (H : Hp) (x : V) (v : Value) (Q : VK), Inv X pins σ H s → RelV x v → r x H Q →
    wpAny (model X.prog X.w) X.A (f v) (EP X pins σ Q) X.xe s
noncomputable def CallR (X : Cx) (f : Value) (r : List V → Hp → VK → Prop) : Prop :=
  ∀ (pins : List (Addr × Obj)) (s : Shared) (σ : St) (H : Hp) (xs : List V) (us : List Value) (Q : VK), Inv X pins σ H s → Vals xs us → r xs H Q →
    wpAny (model X.prog X.w) X.A (call f us) (EP X pins σ Q) X.xe s
noncomputable def tOp (r : R2) (ta tb : TE) : TE := fun σ H Q => ta σ H fun x H1 => tb σ H1 fun y H2 => r x y H2 Q
noncomputable def tUn (r : V → Hp → VK → Prop) (ta : TE) : TE := fun σ H Q => ta σ H fun x H1 => r x H1 Q
noncomputable def rI (C : Int → Int → Prop) (g : Int → Int → V) : R2 := fun x y H Q => ∃ i j, x = .int i ∧ y = .int j ∧ C i j ∧ Q (g i j) H
noncomputable def rI0 (g : Int → Int → V) : R2 := fun x y H Q => ∃ i j, x = .int i ∧ y = .int j ∧ Q (g i j) H
noncomputable def rU (g : Int → V) : V → Hp → VK → Prop := fun x H Q => ∃ i, x = .int i ∧ Q (g i) H
section
variable {X : Cx} {a b c : Expr} {ta tb tc : TE} {pos : Pos}
theorem binT (ha : PE X a ta) (hb : PE X b tb) {pins : List (Addr × Obj)} {s : Shared} {σ : St} {H : Hp} {R : V → V → Hp → Prop} (I : Inv X pins σ H s)
    (h : ta σ H fun x H1 => tb σ H1 fun y H2 => R x y H2) {Q : Value → Shared → Prop} {f : Value → Value → Sem Value}
    (hf : ∀ v u s2 x y H2, Inv X pins σ H2 s2 → RelV x v → RelV y u → R x y H2 → wpAny (model X.prog X.w) X.A (f v u) Q X.xe s2) :
    wpAny (model X.prog X.w) X.A (eval a X.env) (fun v s₁ => wpAny (model X.prog X.w) X.A (eval b X.env) (fun u s₂ => wpAny (model X.prog X.w) X.A (f v u) Q X.xe s₂) X.xe s₁) X.xe s := by
  refine thn (ha pins s σ H _ I h) fun v s1 ⟨x, H1, I1, r1, q1⟩ => ?_
  refine thn (hb pins s1 σ H1 _ I1 q1) fun u s2 ⟨y, H2, I2, r2, q2⟩ => ?_
  exact hf v u s2 x y H2 I2 r1 r2 q2
theorem pe_op {op : Operator} {r : R2} (ho : OpR X (binaryOp op) r) (ha : PE X a ta) (hb : PE X b tb) : PE X (.BinOp a op b pos) (tOp r ta tb) := by
  intro pins s σ H Q I h
  exact wpAny_BinOp (binT ha hb I h fun v u s2 x y H2 I2 rx ry q => ho pins s2 σ H2 x y v u Q I2 rx ry q)
theorem pe_un {op : UnaryOp} {r : V → Hp → VK → Prop} (ho : UnR X (unaryOp op) r) (ha : PE X a ta) : PE X (.UnaryOp op a pos) (tUn r ta) := by
  intro pins s σ H Q I h
  exact UnaryOp_ (thn (ha pins s σ H _ I h) fun v s1 ⟨x, H1, I1, r1, q1⟩ => ho pins s1 σ H1 x v Q I1 r1 q1)
theorem opI {f : Value → Value → Sem Value} {C : Int → Int → Prop} {g : Int → Int → Int}
    (rule : ∀ (i j : Int) (t u : Tok) (s : Shared) (Q : Value → Shared → Prop) (E : Value → Shared → Prop), C i j → Q (.int (g i j) s.toks) { s with toks := s.toks + 1 } → wpAny (model X.prog X.w) X.A (f (.int i t) (.int j u)) Q E s) :
    OpR X f (rI C fun i j => .int (g i j)) := by
  intro pins s σ H x y v u Q I rx ry h
  obtain ⟨i, j, rfl, rfl, hc, q⟩ := h
  obtain ⟨t, rfl⟩ := rx
  obtain ⟨t', rfl⟩ := ry
  exact rule i j t t' s _ _ hc ⟨.int (g i j), H, I.tok _, ⟨_, rfl⟩, q⟩
theorem opI0 {f : Value → Value → Sem Value} {g : Int → Int → Int}
    (rule : ∀ (i j : Int) (t u : Tok) (s : Shared) (Q : Value → Shared → Prop) (E : Value → Shared → Prop), Q (.int (g i j) s.toks) { s with toks := s.toks + 1 } → wpAny (model X.prog X.w) X.A (f (.int i t) (.int j u)) Q E s) :
    OpR X f (rI0 fun i j => .int (g i j)) := by
  intro pins s σ H x y v u Q I rx ry h
  obtain ⟨i, j, rfl, rfl, q⟩ := h
  obtain ⟨t, rfl⟩ := rx
  obtain ⟨t', rfl⟩ := ry
  exact rule i j t t' s _ _ ⟨.int (g i j), H, I.tok _, ⟨_, rfl⟩, q⟩
theorem opB0 {f : Value → Value → Sem Value} {g : Int → Int → Bool}
    (rule : ∀ (i j : Int) (t u : Tok) (s : Shared) (Q : Value → Shared → Prop) (E : Value → Shared → Prop), Q (.bool (g i j)) s → wpAny (model X.prog X.w) X.A (f (.int i t) (.int j u)) Q E s) :
    OpR X f (rI0 fun i j => .bl (g i j)) := by
  intro pins s σ H x y v u Q I rx ry h
  obtain ⟨i, j, rfl, rfl, q⟩ := h
  obtain ⟨t, rfl⟩ := rx
  obtain ⟨t', rfl⟩ := ry
  exact rule i j t t' s _ _ ⟨.bl (g i j), H, I, rfl, q⟩
noncomputable def CDiv (i j : Int) : Prop := 0 < j ∧ j < 1073741824
noncomputable def CPow (i j : Int) : Prop := 0 ≤ j ∧ j ≤ 1000000 ∧ i.natAbs < 2 ^ 64
noncomputable def CMul (i j : Int) : Prop := (-(2 ^ 64) < i ∧ i < 2 ^ 64) ∨ (-(2 ^ 64) < j ∧ j < 2 ^ 64)
theorem CMul.ok {i j : Int} (h : CMul i j) : IntMulOk i j := by
  rcases h with ⟨h1, h2⟩ | ⟨h1, h2⟩
  · exact .of_left (intBits_le_64 h1 h2)
  · exact .of_right (intBits_le_64 h1 h2)
theorem op_add : OpR X (binaryOp .Add) (rI0 fun i j => .int (i + j)) := opI0 fun _ _ _ _ _ _ _ q => add_int q
theorem op_sub : OpR X (binaryOp .Sub) (rI0 fun i j => .int (i - j)) := opI0 fun _ _ _ _ _ _ _ q => sub_int q
theorem op_mul : OpR X (binaryOp .Mult) (rI CMul fun i j => .int (i * j)) := opI fun _ _ _ _ _ _ _ hc q => mul_int q hc.ok
theorem op_fdiv : OpR X (binaryOp .FloorDiv) (rI CDiv fun i j => .int (i / j)) := opI fun i j _ _ _ _ _ hc q => by
  have h1 : (0 : Int) < j := hc.1
  have h2 : j < 1073741824 := hc.2
  exact floordiv_int (by omega) (by rw [Int.fdiv_eq_ediv_of_nonneg i (by omega)]; exact q) (.inl (PyProof.noPylong_small (by omega)))
theorem op_mod : OpR X (binaryOp .Mod) (rI (fun _ j => 0 < j) fun i j => .int (i % j)) := opI fun i j _ _ _ _ _ hc q => by
  have h1 : (0 : Int) < j := hc
  exact mod_int' (by omega) (by rw [Int.fmod_eq_emod_of_nonneg i (by omega)]; exact q)
theorem op_pow : OpR X (binaryOp .Pow) (rI CPow fun i j => .int (i ^ j.toNat)) := opI fun _ _ _ _ _ _ _ hc q => pow_int_small hc.1 hc.2.1 hc.2.2 q
theorem unI {f : Value → Sem Value} {g : Int → Int}
    (rule : ∀ (i : Int) (t : Tok) (s : Shared) (Q : Value → Shared → Prop) (E : Value → Shared → Prop), Q (.int (g i) s.toks) { s with toks := s.toks + 1 } → wpAny (model X.prog X.w) X.A (f (.int i t)) Q E s) :
    UnR X f (rU fun i => .int (g i)) := by
  intro pins s σ H x v Q I rx h
  obtain ⟨i, rfl, q⟩ := h
  obtain ⟨t, rfl⟩ := rx
  exact rule i t s _ _ ⟨.int (g i), H, I.tok _, ⟨_, rfl⟩, q⟩
theorem un_neg : UnR X (unaryOp .USub) (rU fun i => .int (-i)) := unI fun _ _ _ _ _ q => neg_int q
end
noncomputable def scal : V → V → Bool
  | .non, .non => true | .non, .int _ => true | .int _, .non => true | .non, .bl _ => true | .bl _, .non => true | .non, .str _ => true | .str _, .non => true
  | .int _, .int _ => true | .bl _, .bl _ => true | .str _, .str _ => true | .byt _, .byt _ => true
  | .int _, .str _ => true | .str _, .int _ => true | .bl _, .str _ => true | .str _, .bl _ => true
  | _, _ => false
noncomputable def rEq : R2 := fun x y H Q => scal x y = true ∧ Q (.bl (decide (x = y))) H
noncomputable def rNe : R2 := fun x y H Q => scal x y = true ∧ Q (.bl (!decide (x = y))) H
theorem dec_int {i j : Int} : decide (V.int i = V.int j) = (i == j) := by
  rw [Bool.eq_iff_iff]
  simp
theorem dec_bl {i j : Bool} : decide (V.bl i = V.bl j) = (i == j) := by
  rw [Bool.eq_iff_iff]
  simp
theorem dec_str {i j : Str} : decide (V.str i = V.str j) = (i == j) := by
  rw [Bool.eq_iff_iff]
  simp
theorem dec_byt {i j : Array UInt8} : decide (V.byt i = V.byt j) = (i.toList == j.toList) := by
  rw [Bool.eq_iff_iff]
  cases i
  cases j
  simp
section
variable {X : Cx} {a b c : Expr} {ta tb tc : TE} {pos : Pos}
theorem fin_bl {pins : List (Addr × Obj)} {σ : St} {H : Hp} {s : Shared} {Q : VK} {k k' : Bool} (I : Inv X pins σ H s) (q : Q (.bl k) H) (e : k = k') : EP X pins σ Q (.bool k') s := by
  subst e
  exact ⟨.bl k, H, I, rfl, q⟩
theorem op_eq : OpR X (compareOp .Eq) rEq := by
  intro pins s σ H x y v u Q I rx ry h
  obtain ⟨hs, q⟩ := h
  cases x with
  | non =>
    cases rx
    cases y with
    | non => cases ry; exact PySem.EqNone.eq_none_none (fin_bl I q (by simp))
    | bl j => cases ry; exact PySem.EqNone.eq_none_bool (fin_bl I q (by simp))
    | int j => obtain ⟨t', rfl⟩ := ry; exact PySem.EqNone.eq_none_int (fin_bl I q (by simp))
    | str j => obtain ⟨t', rfl⟩ := ry; exact PySem.EqNone.eq_none_str (fin_bl I q (by simp))
    | _ => exact absurd (show false = true from hs) Bool.false_ne_true
  | bl i =>
    cases rx
    cases y with
    | non => cases ry; exact PySem.EqNone.eq_bool_none (fin_bl I q (by simp))
    | bl j => cases ry; exact eq_bool (fin_bl I q dec_bl)
    | str j => obtain ⟨t', rfl⟩ := ry; exact PySem.EqMixed.eq_bool_str (fin_bl I q (by simp))
    | _ => exact absurd (show false = true from hs) Bool.false_ne_true
  | int i =>
    obtain ⟨t, rfl⟩ := rx
    cases y with
    | non => cases ry; exact PySem.EqNone.eq_int_none (fin_bl I q (by simp))
    | int j => obtain ⟨t', rfl⟩ := ry; exact eq_int (fin_bl I q dec_int)
    | str j => obtain ⟨t', rfl⟩ := ry; exact PySem.EqMixed.eq_int_str (fin_bl I q (by simp))
    | _ => exact absurd (show false = true from hs) Bool.false_ne_true
  | str i =>
    obtain ⟨t, rfl⟩ := rx
    cases y with
    | non => cases ry; exact PySem.EqNone.eq_str_none (fin_bl I q (by simp))
    | bl j => cases ry; exact PySem.EqMixed.eq_str_bool (fin_bl I q (by simp))
    | int j => obtain ⟨t', rfl⟩ := ry; exact PySem.EqMixed.eq_str_int (fin_bl I q (by simp))
    | str j => obtain ⟨t', rfl⟩ := ry; exact eq_str (fin_bl I q dec_str)
    | _ => exact absurd (show false = true from hs) Bool.false_ne_true
  | byt i =>
    obtain ⟨t, rfl⟩ := rx
    cases y with
    | byt j => obtain ⟨t', rfl⟩ := ry; exact PySem.W.eq_bytes (fin_bl I q dec_byt)
    | _ => exact absurd (show false = true from hs) Bool.false_ne_true
  | _ => cases y <;> exact absurd (show false = true from hs) Bool.false_ne_true
theorem op_ne : OpR X (compareOp .NotEq) rNe := by
  intro pins s σ H x y v u Q I rx ry h
  obtain ⟨hs, q⟩ := h
  cases x with
  | non =>
    cases rx
    cases y with
    | non => cases ry; exact PySem.EqNone.ne_none_none (fin_bl I q (by simp))
    | bl j => cases ry; exact PySem.EqNone.ne_none_bool (fin_bl I q (by simp))
    | int j => obtain ⟨t', rfl⟩ := ry; exact PySem.EqNone.ne_none_int (fin_bl I q (by simp))
    | str j => obtain ⟨t', rfl⟩ := ry; exact PySem.EqNone.ne_none_str (fin_bl I q (by simp))
    | _ => exact absurd (show false = true from hs) Bool.false_ne_true
  | bl i =>
    cases rx
    cases y with
    | non => cases ry; exact PySem.EqNone.ne_bool_none (fin_bl I q (by simp))
    | bl j => cases ry; exact ne_bool (fin_bl I q (congrArg not dec_bl))
    | str j => obtain ⟨t', rfl⟩ := ry; exact PySem.EqMixed.ne_bool_str (fin_bl I q (by simp))
    | _ => exact absurd (show false = true from hs) Bool.false_ne_true
  | int i =>
    obtain ⟨t, rfl⟩ := rx
    cases y with
    | non => cases ry; exact PySem.EqNone.ne_int_none (fin_bl I q (by simp))
    | int j => obtain ⟨t', rfl⟩ := ry; exact ne_int (fin_bl I q (congrArg not dec_int))
    | str j => obtain ⟨t', rfl⟩ := ry; exact PySem.EqMixed.ne_int_str (fin_bl I q (by simp))
    | _ => exact absurd (show false = true from hs) Bool.false_ne_true
  | str i =>
    obtain ⟨t, rfl⟩ := rx
    cases y with
    | non => cases ry; exact PySem.EqNone.ne_str_none (fin_bl I q (by simp))
    | bl j => cases ry; exact PySem.EqMixed.ne_str_bool (fin_bl I q (by simp))
    | int j => obtain ⟨t', rfl⟩ := ry; exact PySem.EqMixed.ne_str_int (fin_bl I q (by simp))
    | str j => obtain ⟨t', rfl⟩ := ry; exact ne_str (fin_bl I q (congrArg not dec_str))
    | _ => exact absurd (show false = true from hs) Bool.false_ne_true
  | byt i =>
    obtain ⟨t, rfl⟩ := rx
    cases y with
    | byt j => obtain ⟨t', rfl⟩ := ry; exact PySem.W.ne_bytes (fin_bl I q (congrArg not dec_byt))
    | _ => exact absurd (show false = true from hs) Bool.false_ne_true
  | _ => cases y <;> exact absurd (show false = true from hs) Bool.false_ne_true
theorem op_lt : OpR X (compareOp .Lt) (rI0 fun i j => .bl (decide (i < j))) := opB0 fun _ _ _ _ _ _ _ q => lt_int q
theorem op_le : OpR X (compareOp .LtE) (rI0 fun i j => .bl (decide (i ≤ j))) := opB0 fun _ _ _ _ _ _ _ q => le_int q
theorem op_gt : OpR X (compareOp .Gt) (rI0 fun i j => .bl (decide (j < i))) := opB0 fun _ _ _ _ _ _ _ q => gt_int q
theorem op_ge : OpR X (compareOp .GtE) (rI0 fun i j => .bl (decide (j ≤ i))) := opB0 fun _ _ _ _ _ _ _ q => ge_int q
theorem op_lt_str : OpR X (compareOp .Lt) (fun x y H Q => ∃ i j, x = .str i ∧ y = .str j ∧ Q (.bl (decide (i.cps.toList < j.cps.toList))) H) := by
  intro pins s σ H x y v u Q I rx ry h
  obtain ⟨i, j, rfl, rfl, q⟩ := h
  obtain ⟨t, rfl⟩ := rx
  obtain ⟨t', rfl⟩ := ry
  exact lt_str (fin_bl I q rfl)
theorem op_isN : OpR X (compareOp .Is) (fun x y H Q => y = .non ∧ Q (.bl (decide (x = .non))) H) := by
  intro pins s σ H x y v u Q I rx ry h
  obtain ⟨rfl, q⟩ := h
  cases ry
  refine is_none_gen (fin_bl I q ?_)
  cases x <;> first
    | (cases rx; rfl)
    | (obtain ⟨t, rfl⟩ := rx; rfl)
theorem op_notN : OpR X (compareOp .IsNot) (fun x y H Q => y = .non ∧ Q (.bl (!decide (x = .non))) H) := by
  intro pins s σ H x y v u Q I rx ry h
  obtain ⟨rfl, q⟩ := h
  cases ry
  refine isnot_none_gen (fin_bl I q ?_)
  cases x <;> first
    | (cases rx; rfl)
    | (obtain ⟨t, rfl⟩ := rx; rfl)
theorem nomark (b : Expr) {op : CmpOp} (h : op ≠ .In := by decide) (h2 : op ≠ .NotIn := by decide) : behindInMarks op b = false := by
  have e1 : (op == CmpOp.In) = false := by cases op <;> first | rfl | exact absurd rfl h
  have e2 : (op == CmpOp.NotIn) = false := by cases op <;> first | rfl | exact absurd rfl h2
  cases b <;> simp [behindInMarks, e1, e2]
theorem pe_cmpR {op : CmpOp} {r : R2} (ho : OpR X (compareOp op) r) (ha : PE X a ta) (hb : PE X b tb) (hm : behindInMarks op b = false) : PE X (.Compare a [op] [b] pos) (tOp r ta tb) := by
  intro pins s σ H Q I h
  exact wpAny_Compare1 (binT ha hb I h fun v u s2 x y H2 I2 rx ry q => ho pins s2 σ H2 x y v u Q I2 rx ry q) hm
noncomputable def tTest (t : TE) : TT := fun σ H Q => t σ H fun x H' => ∃ k, x = .bl k ∧ Q k H'
theorem pt_cmpR {op : CmpOp} {r : R2} (ho : OpR X (compareOp op) r) (ha : PE X a ta) (hb : PE X b tb) (hm : behindInMarks op b = false) : PT X (.Compare a [op] [b] pos) (tTest (tOp r ta tb)) := by
  intro pins s σ H Q I h
  refine wpAny_isTrue_Compare1 (thn (ha pins s σ H _ I h) fun v s1 ⟨x, H1, I1, r1, q1⟩ => thn (hb pins s1 σ H1 _ I1 q1) fun u s2 ⟨y, H2, I2, r2, q2⟩ =>
    thn (ho pins s2 σ H2 x y v u _ I2 r1 r2 q2) fun c s3 ⟨z, H3, I3, r3, k, e, q3⟩ => ?_) hm
  subst e
  cases r3
  exact wpAny_truthy_bool ⟨H3, I3, q3⟩
noncomputable def tChain (r r' : R2) (ta tb tc : TE) : TE := fun σ H Q => ta σ H fun x H1 => tb σ H1 fun y H2 => r x y H2 fun z H3 => ∃ k, z = .bl k ∧
  (if k = true then tc σ H3 fun w' H4 => r' y w' H4 Q else Q (.bl false) H3)
theorem pe_chain {op op' : CmpOp} {r r' : R2} (ho : OpR X (compareOp op) r) (ho' : OpR X (compareOp op') r') (ha : PE X a ta) (hb : PE X b tb) (hc : PE X c tc)
    (hm : lastMarks [op, op'] [b, c] = false := by with_unfolding_all rfl) : PE X (.Compare a [op, op'] [b, c] pos) (tChain r r' ta tb tc) := by
  intro pins s σ H Q I h
  refine Compare_chain (thn (ha pins s σ H _ I h) fun v s1 ⟨x, H1, I1, r1, q1⟩ => chain_link (thn (hb pins s1 σ H1 _ I1 q1) fun u s2 ⟨y, H2, I2, r2, q2⟩ =>
    thn (ho pins s2 σ H2 x y v u _ I2 r1 r2 q2) fun d s3 ⟨z, H3, I3, r3, k, e, q3⟩ => ?_)) hm
  subst e
  cases r3
  refine wpAny_truthy_bool ?_
  cases k with
  | false => exact ite_ff ⟨.bl false, H3, I3, rfl, q3⟩
  | true => exact ite_tt (chain_last (thn (hc pins s3 σ H3 _ I3 q3) fun w' s4 ⟨z', H4, I4, r4, q4⟩ => ho' pins s4 σ H4 y z' u w' Q I4 r2 r4 q4))
theorem line63 : (sizeLine : Nat) < 2 ^ 63 := by rw [sizeLine_eq]; decide
theorem op_add_str : OpR X (binaryOp .Add) (fun x y H Q => ∃ i j, x = .str i ∧ y = .str j ∧ i.length + j.length ≤ sizeLine ∧ Q (.str (i ++ j)) H) := by
  intro pins s σ H x y v u Q I rx ry h
  obtain ⟨i, j, rfl, rfl, hz, q⟩ := h
  obtain ⟨t, rfl⟩ := rx
  obtain ⟨t', rfl⟩ := ry
  exact add_str (fun t' tk => ⟨.str (i ++ j), H, I.tok _, ⟨_, rfl⟩, q⟩) hz
theorem vals1 {x : V} {us : List Value} (r : Vals [x] us) : ∃ u, us = [u] ∧ RelV x u := by
  cases r with
  | cons r1 r2 => cases r2; exact ⟨_, rfl, r1⟩
theorem vals2 {x y : V} {us : List Value} (r : Vals [x, y] us) : ∃ u w', us = [u, w'] ∧ RelV x u ∧ RelV y w' := by
  cases r with
  | cons r1 r2 =>
    cases r2 with
    | cons r3 r4 => cases r4; exact ⟨_, _, rfl, r1, r3⟩
theorem call_abs : CallR X (.builtin "abs") (fun xs H Q => ∃ i, xs = [.int i] ∧ Q (.int (if i < 0 then -i else i)) H) := by
  intro pins s σ H xs us Q I r h
  obtain ⟨i, rfl, q⟩ := h
  obtain ⟨u, rfl, t, rfl⟩ := vals1 r
  exact call_abs_int fun u tk => ⟨.int (if i < 0 then -i else i), H, I.tok _, ⟨_, rfl⟩, q⟩
theorem call_max2 (hc : X.calm = true) : CallR X (.builtin "max") (fun xs H Q => ∃ i j, xs = [.int i, .int j] ∧ Q (.int (if j > i then j else i)) H) := by
  intro pins s σ H xs us Q I r h
  obtain ⟨i, j, rfl, q⟩ := h
  obtain ⟨u, w', rfl, ⟨t, rfl⟩, ⟨t', rfl⟩⟩ := vals2 r
  refine max_two_ints (I.ok.hd hc) fun h' tk k => ⟨_, H, I.kept k, ?_, q⟩
  by_cases hj : j > i
  · rw [if_pos hj, if_pos hj]; exact ⟨_, rfl⟩
  · rw [if_neg hj, if_neg hj]; exact ⟨_, rfl⟩
theorem call_min2 (hc : X.calm = true) : CallR X (.builtin "min") (fun xs H Q => ∃ i j, xs = [.int i, .int j] ∧ Q (.int (if j < i then j else i)) H) := by
  intro pins s σ H xs us Q I r h
  obtain ⟨i, j, rfl, q⟩ := h
  obtain ⟨u, w', rfl, ⟨t, rfl⟩, ⟨t', rfl⟩⟩ := vals2 r
  refine min_two_ints (I.ok.hd hc) fun h' tk k => ⟨_, H, I.kept k, ?_, q⟩
  by_cases hj : j < i
  · rw [if_pos hj, if_pos hj]; exact ⟨_, rfl⟩
  · rw [if_neg hj, if_neg hj]; exact ⟨_, rfl⟩
noncomputable def LenV (K : PySem.W.Frag) (x : V) (H : Hp) (n : Nat) : Prop :=
  match x with
  | .str y => y.length ≤ sizeLine ∧ n = y.length
  | .byt y => y.size ≤ sizeLine ∧ n = y.size
  | .ref p => (∃ xs, SqL K H p xs ∧ n = xs.length) ∨ ∃ xs, SqT K H p xs ∧ n = xs.length
  | _ => False
theorem call_len : CallR X (.builtin "len") (fun xs H Q => ∃ x n, xs = [x] ∧ LenV X.K x H n ∧ Q (.int n) H) := by
  intro pins s σ H xs us Q I r h
  obtain ⟨x, n, rfl, e, q⟩ := h
  obtain ⟨u, rfl, rx⟩ := vals1 r
  have hl := line63
  have hs : sizeLine = 16777216 := sizeLine_eq
  cases x with
  | str y =>
    obtain ⟨t, rfl⟩ := rx
    obtain ⟨hy, e'⟩ : y.length ≤ sizeLine ∧ n = y.length := e
    subst e'
    exact len_str (by omega) ⟨.int _, H, I.tok _, ⟨_, rfl⟩, q⟩
  | byt y =>
    obtain ⟨t, rfl⟩ := rx
    obtain ⟨hy, e'⟩ : y.size ≤ sizeLine ∧ n = y.size := e
    subst e'
    exact PySem.W.len_bytes (by omega) ⟨.int _, H, I.tok _, ⟨_, rfl⟩, q⟩
  | ref p =>
    cases rx
    have e' : (∃ xs, SqL X.K H p xs ∧ n = xs.length) ∨ ∃ xs, SqT X.K H p xs ∧ n = xs.length := e
    rcases e' with ⟨xs, hx, e'⟩ | ⟨xs, hx, e'⟩
    · subst e'
      obtain ⟨its, r', pl, hz⟩ := I.list hx
      have hlen := r'.length
      exact Calls.call_len_list pl.isList (by simp only [List.size_toArray]; omega) ⟨.int xs.length, H, I.tok _, ⟨_, by simp only [List.size_toArray]; rw [hlen]⟩, q⟩
    · subst e'
      obtain ⟨its, r', pl, hz⟩ := I.tuple hx
      have hlen := r'.length
      exact len_tuple pl (by simp only [List.size_toArray]; omega) ⟨.int xs.length, H, I.tok _, ⟨_, by simp only [List.size_toArray]; rw [hlen]⟩, q⟩
  | _ => exact (show False from e).elim
end
end L2
namespace L2
open PySem PySem.Spec PyProof.Rows
structure ObjM (h : Heap) (x dx C : Addr) (mA : Str → Option Value) : Prop where
  obj : h.get? x = some (PySem.W.instObj C dx)
  ns : h.Ns1 dx mA
  ne : dx ≠ x
theorem lookIn_ns {h : Heap} {dx : Addr} {mA : Str → Option Value} (n : h.Ns1 dx mA) : ∃ od, h.get? dx = some od ∧ ∀ name, PySem.W.lookIn name od = some (mA name) := by
  obtain ⟨o, es, ep, ho, hd, hk, _, hm⟩ := n
  refine ⟨o, ho, fun name => ?_⟩
  have e := hm name
  unfold nsFind findBy at e
  rw [← Array.find?_toList] at e
  unfold PySem.W.lookIn
  rw [hd]
  dsimp only
  split
  · rename_i y q
    rw [q] at e
    exact congrArg some e
  · rename_i q
    rw [q] at e
    have a : es.toList.any (·.refKey) = false := by
      rw [List.any_eq_false]
      intro y hy
      obtain ⟨z, t, hkey⟩ := hk y (Array.mem_toList_iff.mp hy)
      simp [DictEntry.refKey, hkey]
    have a' : ¬ es.toList.any (·.refKey) = true := by rw [a]; exact Bool.false_ne_true
    rw [if_neg a']
    exact congrArg some e
theorem ObjM.look {h : Heap} {x dx C : Addr} {mA : Str → Option Value} (I : ObjM h x dx C mA) : ∃ od, PySem.W.InstAt h x (PySem.W.instObj C dx) C (some od) ∧ ∀ name, PySem.W.lookIn name od = some (mA name) :=
  let ⟨od, ho, hl⟩ := lookIn_ns I.ns
  ⟨od, ⟨I.obj, rfl, rfl, ho⟩, hl⟩
theorem RelO.some_of {v : V} {o : Option Value} (r : RelO (some v) o) : ∃ u, o = some u ∧ RelV v u := by
  cases o with
  | none => exact (show False from r).elim
  | some u => exact ⟨u, rfl, r⟩
section
variable {P : Program} {w : World} {H H' : Hp} {h h' : Heap} {a C dx : Addr} {fs fs' : List (Str × V)}
theorem ins_get (hok : HOk P w H h) (e : H a = some (.ins C dx fs)) : ∃ mA, ObjM h a dx C mA ∧ (∀ f, RelO (fs.lookup f) (mA f)) ∧ PySem.Within mA (fs.map (·.1)) ∧ fs.length ≤ 1000 ∧ H dx = some (.own a) := by
  obtain ⟨d, z, ne, ob, mA, n, r, q⟩ := (show ObjOk P w H h a (.ins C dx fs) from hok a _ e)
  exact ⟨mA, ⟨ob, n, ne⟩, r, q, z, d⟩
end
structure Cls (K : PySem.W.Frag) (C : Addr) : Prop where
  pg : PySem.W.plainGet K C Str.empty = true
  hd : PySem.W.hasDictIn K C = true
  po : PySem.W.plainOver K C = true
  sa : PySem.W.findIn K (.ref C) "__setattr__" = some (some (.builtin "object.__setattr__"))
theorem Cls.get {K : PySem.W.Frag} {C : Addr} (c : Cls K C) (f : Str) : PySem.W.plainGet K C f = true := c.pg
section
variable {X : Cx} {pins : List (Addr × Obj)} {σ : St} {H : Hp} {s : Shared} {A : Around} {E : Value → Shared → Prop} {Q : Value → Shared → Prop} {c : Value} {b : Bool}
inductive TyOf (K : PySem.W.Frag) (H : Hp) : V → Value → Prop where
  | non : TyOf K H .non (.type "NoneType")
  | bl (x : Bool) : TyOf K H (.bl x) (.type "bool")
  | int (i : Int) : TyOf K H (.int i) (.type "int")
  | str (x : Str) : TyOf K H (.str x) (.type "str")
  | flt (x : UInt64) : TyOf K H (.flt x) (.type "float")
  | lst {a : Addr} {xs : List V} (e : H a = some (.lst xs)) : TyOf K H (.ref a) (.type "list")
  | frz {a : Addr} {o : Obj} {xs : List V} (e : H a = some (.frz o (.lst xs))) : TyOf K H (.ref a) (.type "list")
  | tup {a : Addr} {xs : List V} (e : H a = some (.tup xs)) : TyOf K H (.ref a) (.type "tuple")
  | dK {a : Addr} {kvs : List (Key × V)} (e : H a = some (.dK kvs)) : TyOf K H (.ref a) (.type "dict")
  | dT {a : Addr} {kvs : List (List Key × V)} (e : H a = some (.dT kvs)) : TyOf K H (.ref a) (.type "dict")
  | ins {a C dx : Addr} {fs : List (Str × V)} (e : H a = some (.ins C dx fs)) (cl : Cls K C) (ha : PySem.W.findIn K (.ref C) "__class__" = some (some (.builtin "object.__class__")))
      (hn : PySem.W.specialIn K (.builtin "object.__class__") "__get__" = some (some (.builtin "getset_descriptor.__get__"))) (htk : PySem.W.takesIn K (.builtin "object.__class__") = some true)
      (hm : PySem.W.mroIn K C (.type "object") = some true) : TyOf K H (.ref a) (.ref C)
theorem isinst_ok {x : V} {u t : Value} (I : Inv X pins σ H s) (rx : RelV x u) (ty : TyOf X.K H x t) (e : PySem.W.kitOne X.K t c = some b) (h : ∀ tk, Q (.bool b) { s with toks := tk }) :
    wpAny (model X.prog X.w) A (call (.builtin "isinstance") [u, c]) Q E s := by
  cases ty with
  | non => cases (show u = Value.none from rx); exact PySem.W.kia_one PySem.W.kitx_none I.kIn True.intro e (fun z => nomatch z) h
  | bl y => cases (show u = Value.bool y from rx); exact PySem.W.kia_one PySem.W.kitx_bool I.kIn True.intro e (fun z => nomatch z) h
  | int i => obtain ⟨t, q⟩ := (show ∃ t, u = Value.int i t from rx); cases q; exact PySem.W.kia_one PySem.W.kitx_int I.kIn True.intro e (fun z => nomatch z) h
  | str y => obtain ⟨t, q⟩ := (show ∃ t, u = Value.str y t from rx); cases q; exact PySem.W.kia_one PySem.W.kitx_str I.kIn True.intro e (fun z => nomatch z) h
  | flt y => obtain ⟨t, q⟩ := (show ∃ t, u = Value.float y t from rx); cases q; exact PySem.W.kia_one PySem.W.kitx_float I.kIn True.intro e (fun z => nomatch z) h
  | @lst a xs ea =>
    cases (show u = Value.ref a from rx)
    obtain ⟨_, _, n, _, h1⟩ := (show ObjOk X.prog X.w H s.heap a (.lst xs) from I.hok a _ ea)
    exact PySem.W.kia_one PySem.W.kitx_list I.kIn ⟨_, h1, rfl⟩ e (fun z => nomatch z) h
  | @frz a ob xs ea =>
    cases (show u = Value.ref a from rx)
    obtain ⟨_, _, _, n, _, h1⟩ := (show ObjOk X.prog X.w H s.heap a (.frz ob (.lst xs)) from I.hok a _ ea)
    exact PySem.W.kia_one PySem.W.kitx_list I.kIn ⟨_, h1, rfl⟩ e (fun z => nomatch z) h
  | @tup a xs ea =>
    cases (show u = Value.ref a from rx)
    obtain ⟨_, _, _, p⟩ := (show ObjOk X.prog X.w H s.heap a (.tup xs) from I.hok a _ ea)
    obtain ⟨o, h1, h2, _⟩ := p
    exact PySem.W.kia_one PySem.W.kitx_tuple I.kIn ⟨o, h1, h2⟩ e (fun z => nomatch z) h
  | @dK a kvs ea =>
    cases (show u = Value.ref a from rx)
    obtain ⟨_, _, vs, _, p⟩ := (show ObjOk X.prog X.w H s.heap a (.dK kvs) from I.hok a _ ea)
    obtain ⟨o, es, ep, h1, h2, _⟩ := p
    exact PySem.W.kia_one PySem.W.kitx_dict I.kIn ⟨o, h1, h2.1⟩ e (fun z => nomatch z) h
  | @dT a kvs ea =>
    cases (show u = Value.ref a from rx)
    obtain ⟨_, _, xs, _, o, es, ep, h1, h2, _⟩ := (show ObjOk X.prog X.w H s.heap a (.dT kvs) from I.hok a _ ea)
    exact PySem.W.kia_one PySem.W.kitx_dict I.kIn ⟨o, h1, h2.1⟩ e (fun z => nomatch z) h
  | @ins a C dx fs ea cl ha hn htk hm =>
    cases (show u = Value.ref a from rx)
    obtain ⟨mA, O, _⟩ := ins_get I.hok ea
    obtain ⟨od, J, _⟩ := O.look
    exact PySem.W.kia_one (PySem.W.kitx_own (cl.get _) cl.hd ha hn htk hm) I.kIn J e (fun z => nomatch z) h
end
end L2
namespace L2
open PySem PySem.Spec PyProof.Rows
structure Room (k : Nat) (A : Around) : Prop where
  hd : A.handled = none
  dp : A.depth + 3 * k + 5 < recursionLimit
  un : A.units + 16 * k + 200 < cLine
  gd : A.guards = some []
theorem Room.mono {j k : Nat} {A : Around} (r : Room k A) (h : j ≤ k) : Room j A := ⟨r.hd, by have := r.dp; omega, by have := r.un; omega, r.gd⟩
theorem Room.deeper {k : Nat} {A : Around} (r : Room (k + 1) A) (env : Env) : Room k (A.deeper env) :=
  ⟨r.hd, by have := r.dp; show A.depth + 1 + 3 * k + 5 < _; omega, by have := r.un; show A.units + 3 + 16 * k + 200 < _; omega, r.gd⟩
theorem Room.depth {k : Nat} {A : Around} (r : Room k A) : A.depth < recursionLimit := by have := r.dp; omega
theorem Room.units {k : Nat} {A : Around} (r : Room k A) : A.units + 64 < cLine := by have := r.un; omega
noncomputable def tNil : TA := fun _ H Q => Q [] H
noncomputable def tCons (ta : TE) (tr : TA) : TA := fun σ H Q => ta σ H fun x H1 => tr σ H1 fun xs H2 => Q (x :: xs) H2
section
variable {X : Cx} {e : Expr} {es : List Expr} {te : TE} {t : TA} {pos : Pos}
theorem pa_nil : PA X [] tNil := fun _ _ _ _ H Q I h => Calls.spliced_nil ⟨[], H, I, .nil, h⟩
theorem pa_cons (ha : PE X e te) (hr : PA X es t) (hs : starEach (e :: es) X.env = (false, eval e X.env) :: starEach es X.env := by rfl) : PA X (e :: es) (tCons te t) := by
  intro pos pins s σ H Q I h
  rw [hs]
  show wpAny _ _ (spliced ((false, eval e X.env) :: backTo pos (starEach es X.env))) _ _ s
  refine Calls.spliced_cons (thn (ha pins s σ H _ I h) fun u s1 ⟨x, H1, I1, r1, q1⟩ => ?_)
  exact thn (hr pos pins s1 σ H1 _ I1 q1) fun us s2 ⟨xs, H2, I2, r2, q2⟩ => ⟨x :: xs, H2, I2, .cons r1 r2, q2⟩
noncomputable def tTup (t : TA) : TE := fun σ H Q => t σ H fun xs H1 => xs.length ≤ sizeLine ∧ ∀ p, H1 p = none → Q (.ref p) (upd H1 p (.tup xs))
noncomputable def tLst (t : TA) : TE := fun σ H Q => t σ H fun xs H1 => xs.length ≤ sizeLine ∧ ∀ p, H1 p = none → Q (.ref p) (upd H1 p (.lst xs))
theorem pe_tup {x1} (h : PA X es t) : PE X (.Tuple es x1 pos) (tTup t) := by
  intro pins s σ H Q I hq
  refine wpAny_Tuple_spliced (thn (h pos pins s σ H _ I hq) fun us s1 ⟨xs, H1, I1, r, z, q⟩ => ⟨by rw [← r.length]; exact z, ?_⟩)
  have hf : H1 s1.heap.objs.size = none := I1.hok.fresh (Nat.le_refl _)
  refine ⟨.ref s1.heap.objs.size, upd H1 s1.heap.objs.size (.tup xs), I1.laid (t' := s1.toks) (fun b u e => Heap.get?_push_of_some _ e) (Nat.le_refl _) ?_, rfl, q _ hf⟩
  exact ⟨z, us, r, ⟨_, Heap.get?_push_size _ rfl, rfl, _, rfl, rfl⟩⟩
theorem pe_lst (h : PA X es t) : PE X (.List es pos) (tLst t) := by
  intro pins s σ H Q I hq
  refine wpAny_List_spliced (thn (h pos pins s σ H _ I hq) fun us s1 ⟨xs, H1, I1, r, z, q⟩ => ⟨by rw [← r.length]; exact z, ?_⟩)
  have hf : H1 s1.heap.objs.size = none := I1.hok.fresh (Nat.le_refl _)
  refine ⟨.ref s1.heap.objs.size, upd H1 s1.heap.objs.size (.lst xs), I1.laid (t' := s1.toks) (fun b u e => Heap.get?_push_of_some _ e) (Nat.le_refl _) ?_, rfl, q _ hf⟩
  exact ⟨z, us, 0, r, Heap.get?_push_size _ rfl⟩
end
noncomputable abbrev Sp := List V → Hp → VK → XK → Prop
noncomputable abbrev CXT := List Env → Hp → Shared → XK → Value → Shared → Prop
structure Env0 (P : Program) (w : World) (K : PySem.W.Frag) (mg : Str → Option Value) (base : Heap) (A : Around) (outer : List Env) (s : Shared) (H : Hp) : Prop where
  frames : A.frames = some outer
  mod : Mod K mg base
  bs : ∀ b o, base.get? b = some o → s.heap.get? b = some o ∧ H b = none
  bsz : base.objs.size ≤ s.heap.objs.size
  funs : s.heap.FunFrames base outer
  frf : ∀ b ∈ frs outer, H b = none
  hok : HOk P w H s.heap
  bare : AllBare s.gens
noncomputable def CE (outer : List Env) (P : Program) (w : World) (H : Hp) (s : Shared) (Q : VK) (u : Value) (s' : Shared) : Prop :=
  ∃ v H', s'.os = s.os ∧ AllBare s'.gens ∧ Un (frs outer) [] H H' s.heap s'.heap ∧ HOk P w H' s'.heap ∧ RelV v u ∧ Q v H'
noncomputable def CR (CX : CXT) (outer : List Env) (P : Program) (w : World) (H : Hp) (s : Shared) (Q : VK) (E : XK) (r : Result) (s' : Shared) : Prop :=
  match r with
  | .ok (.ret u) => CE outer P w H s Q u s'
  | .ok _ => False
  | .error e => CX outer H s E e s'
structure FnOk (P : Program) (w : World) (K : PySem.W.Frag) (mg : Str → Option Value) (base : Heap) (CX : CXT) (k : Nat) (f : Addr) (fd : FuncData) (ps : List Str) (sp : Sp) : Prop where
  len : ∀ vs H Q E, sp vs H Q E → vs.length = ps.length
  run : ∀ (A : Around) (outer : List Env) (s : Shared) (H : Hp) (args : Args) (us : List Value) (vs : List V) (Q : VK) (E : XK), Room k A → Env0 P w K mg base A outer s H → BindsTo s fd args (ps.zip us) → Vals vs us → sp vs H Q E →
    codeAny (model P w) A (.call (.ref f) args) (CR CX outer P w H s Q E) s
theorem FnOk.imp {P : Program} {w : World} {K : PySem.W.Frag} {mg : Str → Option Value} {base : Heap} {CX : CXT} {k : Nat} {f : Addr} {fd : FuncData} {ps : List Str} {sp sp' : Sp} (F : FnOk P w K mg base CX k f fd ps sp)
    (h : ∀ vs H Q E, sp' vs H Q E → sp vs H Q E) : FnOk P w K mg base CX k f fd ps sp' :=
  ⟨fun vs H Q E q => F.len vs H Q E (h _ _ _ _ q), fun A outer s H args us vs Q E hr he hb hv hs => F.run A outer s H args us vs Q E hr he hb hv (h _ _ _ _ hs)⟩
section
variable {X : Cx} {pins : List (Addr × Obj)} {σ : St} {H : Hp} {s s' : Shared}
theorem Inv.env0 (I : Inv X pins σ H s) : Env0 X.prog X.w X.K X.mg X.base X.A X.stack s H :=
  ⟨I.ok.frames, I.ok.mod, I.bs, Nat.le_trans I.ok.bsz I.sz, I.stack, I.stkFree, I.hok, I.bare⟩
theorem Inv.after {Q : VK} {u : Value} (I : Inv X pins σ H s) (h : CE X.stack X.prog X.w H s Q u s') : EP X pins σ Q u s' := by
  obtain ⟨v, H', os, bare, un, hok, r, q⟩ := h
  obtain ⟨hh, g, d, t, os'⟩ := s'
  obtain rfl : os' = s.os := os
  exact ⟨v, H', I.call (h' := hh) (g' := g) (d' := d) (t' := t) (ch := []) un hok bare (fun b z => absurd z (by simp)), r, q⟩
end
noncomputable def tCall (sp : Sp) (dvs : List V) (E : XK) (t : TA) : TE := fun σ H Q => t σ H fun vs H1 => sp (vs ++ dvs) H1 Q E
noncomputable def Binds (K : PySem.W.Frag) (fd : FuncData) (ps : List Str) (ds : List Value) : Prop :=
  ∀ (s : Shared) (us : List Value), K.In s.heap → (us ++ ds).length = ps.length → BindsTo s fd ⟨us, []⟩ (ps.zip (us ++ ds))
theorem Binds.all {K : PySem.W.Frag} {fd : FuncData} {ps : List Str} (h : ∀ us : List Value, us.length = ps.length → bindArgs fd ⟨us, []⟩ = pure (ps.zip us)) : Binds K fd ps [] := fun s us _ hl => by
  rw [List.append_nil] at hl ⊢
  exact .of_eq (h us hl)
noncomputable def Passes (CX : CXT) (X : Cx) (E : XK) : Prop := ∀ (pins : List (Addr × Obj)) (σ : St) (H : Hp) (s : Shared) (e : Value) (s' : Shared), Inv X pins σ H s → CX X.stack H s E e s' → X.xe e s'
section
variable {X : Cx} {CX : CXT} {k : Nat} {f C : Addr} {fd : FuncData} {ps : List Str} {sp : Sp} {dvs : List V} {ds : List Value} {E : XK} {x m : Str} {p pos apos : Pos} {e o : Expr} {es : List Expr} {ta : TE} {t : TA}
theorem run_fn {pins : List (Addr × Obj)} {σ : St} {H : Hp} {s : Shared} {Q : VK} {us : List Value} {vs : List V} (F : FnOk X.prog X.w X.K X.mg X.base CX k f fd ps sp) (hr : Room k X.A) (hb : Binds X.K fd ps ds) (hd : Vals dvs ds) (hx : Passes CX X E)
    (I : Inv X pins σ H s) (r : Vals vs us) (h : sp (vs ++ dvs) H Q E) : wpAny (model X.prog X.w) X.A (call (.ref f) us) (EP X pins σ Q) X.xe s := by
  have r2 : Vals (vs ++ dvs) (us ++ ds) := r.append hd
  have hl : (us ++ ds).length = ps.length := by rw [← r2.length]; exact F.len _ _ _ _ h
  refine wpAny_call (codeAny_mono (F.run X.A X.stack s H ⟨us, []⟩ (us ++ ds) (vs ++ dvs) Q E hr I.env0 (hb s us I.kIn hl) r2 h) fun r s' hq => ?_)
  cases r with
  | error e => exact hx pins σ H s e s' I hq
  | ok fl =>
    cases fl with
    | ret u => exact I.after hq
    | next => exact False.elim hq
    | brk => exact False.elim hq
    | cont => exact False.elim hq
theorem pe_call (F : FnOk X.prog X.w X.K X.mg X.base CX k f fd ps sp) (hr : Room k X.A) (hg : Gl X x) (hm : X.mg x = some (.ref f)) (hk : PySem.W.keepIn X.K (.ref f) = true) (hb : Binds X.K fd ps ds) (hd : Vals dvs ds) (hx : Passes CX X E)
    (ha : PA X (e :: es) t) (hdb : (x == ("__debug__" : Str)) = false := by decide) (he : starEach (e :: es) X.env = (false, eval e X.env) :: starEach es X.env := by rfl) (hpl : (backTo pos (starEach es X.env)).any (·.1) = false := by rfl) :
    PE X (.Call (.Name x p) (e :: es) [] pos) (tCall sp dvs E t) := by
  intro pins s σ H Q I h
  refine wpAny_Call_Name_kw (ld_glob I hg hm ?_ hdb)
  refine PySem.W.callWith_K (h₀ := X.base) I.ok.mod.kin hk (thn (ha pos pins s σ H _ I h) fun us s1 ⟨vs, H1, I1, r, q⟩ => ⟨I1.kIn, ?_⟩) he hpl
  exact run_fn F hr hb hd hx I1 r q
end
structure FnScope (N P : List Str) (sc : Scope) : Prop where
  kind : sc.kind = .function
  co : sc.isCoroutine = false
  gen : sc.isGenerator = false
  nd : N.Nodup
  pre : N.take P.length = P
  par : ∀ x ∈ P, sc.names.lookup x = some .local ∨ sc.names.lookup x = some .cell
  nofree : ∀ y ∈ sc.names, y.2 ≠ .free
theorem bindL_out {kindOf : Str → Option NameKind} {x : Str} : ∀ {binds : List (Str × Value)} {m : Str → Option Value}, (∀ v, (x, v) ∉ binds) → bindL kindOf binds m x = m x
  | [], _, _ => rfl
  | (n, v) :: r, m, h => by
    unfold bindL
    rw [bindL_out fun w hw => h w (List.mem_cons_of_mem _ hw)]
    split
    · have : x ≠ n := by rintro rfl; exact h v List.mem_cons_self
      simp [this]
    · rfl
theorem bindC_out {kindOf : Str → Option NameKind} {x : Str} : ∀ {binds : List (Str × Value)} {m : Str → Option Value}, (∀ v, (x, v) ∉ binds) → bindC kindOf binds m x = m x
  | [], _, _ => rfl
  | (n, v) :: r, m, h => by
    unfold bindC
    rw [bindC_out fun w hw => h w (List.mem_cons_of_mem _ hw)]
    split
    · rfl
    · have : x ≠ n := by rintro rfl; exact h v List.mem_cons_self
      simp [this]
theorem bindL_get {kindOf : Str → Option NameKind} {x : Str} {v : Value} : ∀ {P : List Str} {vs : List Value} {i : Nat} {m : Str → Option Value}, P.Nodup → P[i]? = some x → vs[i]? = some v → kindOf x = some .local →
    bindL kindOf (P.zip vs) m x = some v
  | [], _, _, _, _, h, _, _ => by simp at h
  | _ :: _, [], _, _, _, _, h, _ => by simp at h
  | p :: P, w :: vs, 0, m, nd, h1, h2, hk => by
    simp at h1 h2; subst h1; subst h2
    show bindL kindOf ((p, w) :: P.zip vs) m p = _
    unfold bindL
    rw [bindL_out fun v hv => (List.nodup_cons.mp nd).1 (List.of_mem_zip hv).1, if_pos hk]
    simp
  | p :: P, w :: vs, i + 1, m, nd, h1, h2, hk => by
    show bindL kindOf ((p, w) :: P.zip vs) m x = _
    unfold bindL
    exact bindL_get (i := i) (List.nodup_cons.mp nd).2 (by simpa using h1) (by simpa using h2) hk
theorem bindC_get {kindOf : Str → Option NameKind} {x : Str} {v : Value} : ∀ {P : List Str} {vs : List Value} {i : Nat} {m : Str → Option Value}, P.Nodup → P[i]? = some x → vs[i]? = some v → kindOf x ≠ some .local →
    bindC kindOf (P.zip vs) m x = some v
  | [], _, _, _, _, h, _, _ => by simp at h
  | _ :: _, [], _, _, _, _, h, _ => by simp at h
  | p :: P, w :: vs, 0, m, nd, h1, h2, hk => by
    simp at h1 h2; subst h1; subst h2
    show bindC kindOf ((p, w) :: P.zip vs) m p = _
    unfold bindC
    rw [bindC_out fun v hv => (List.nodup_cons.mp nd).1 (List.of_mem_zip hv).1, if_neg hk]
    simp
  | p :: P, w :: vs, i + 1, m, nd, h1, h2, hk => by
    show bindC kindOf ((p, w) :: P.zip vs) m x = _
    unfold bindC
    exact bindC_get (i := i) (List.nodup_cons.mp nd).2 (by simpa using h1) (by simpa using h2) hk
noncomputable def start (N : List Str) (vs : List V) : St := vs.map some ++ List.replicate (N.length - vs.length) none
noncomputable def cxOf (CX : CXT) (P : Program) (w : World) (K : PySem.W.Frag) (mg : Str → Option Value) (base : Heap) (N : List Str) (qual : Str) (scope : Scope) (f : Addr) (cd : Value) (A : Around) (outer : List Env) (s : Shared) (H : Hp) (E : XK) : Cx where
  prog := P
  w := w
  K := K
  mg := mg
  base := base
  A := A.deeper (envOfC qual scope s.heap.objs.size f cd)
  N := N
  s₀ := s
  H₀ := H
  env := envOfC qual scope s.heap.objs.size f cd
  outer := outer
  stack := envOfC qual scope s.heap.objs.size f cd :: outer
  ex := []
  calm := true
  fn := fun _ => true
  pn := []
  xe := fun e s' => wpAny (model P w) (A.deeper (envOfC qual scope s.heap.objs.size f cd)) (leaving (envOfC qual scope s.heap.objs.size f cd) e) (fun _ s'' => CX outer H s E e s'') (fun e' s'' => CX outer H s E e' s'') s'
theorem cell_has {sc : Scope} {n : Nat} {x : Str} (h : sc.names.lookup x = some .cell) : ∃ c, (cellsFrom n sc.names []).lookup x = some c := by
  have q := PySem.W.cellsFrom_some sc.names n [] (.inl h)
  exact Option.isSome_iff_exists.mp q
theorem inv_start {CX : CXT} {P : Program} {w : World} {K : PySem.W.Frag} {mg : Str → Option Value} {base : Heap} {N ps : List Str} {qual : Str} {scope : Scope} {f : Addr} {cd : Value} {A : Around} {outer : List Env} {s s1 : Shared} {H : Hp} {E : XK} {us : List Value} {vs : List V}
    (S : FnScope N ps scope) (hd : A.handled = none) (e0 : Env0 P w K mg base A outer s H) (hl : vs.length = ps.length) (r : Vals vs us)
    (x : InCallC s s.heap.objs.size (bindL (envOfC qual scope s.heap.objs.size f cd).kindOf (ps.zip us) fun _ => none) (cellsFrom (s.heap.objs.size + 1) scope.names []) (bindC (envOfC qual scope s.heap.objs.size f cd).kindOf (ps.zip us) fun _ => none) s1) :
    Inv (cxOf CX P w K mg base N qual scope f cd A outer s H E) [] (start N vs) H s1 := by
  have hpl : ps.length ≤ N.length := by have := congrArg List.length S.pre; rw [List.length_take] at this; omega
  obtain ⟨h1, tk, rfl, hk⟩ := x.done
  have noA : ∀ b : Addr, b ∉ (cxOf CX P w K mg base N qual scope f cd A outer s H E).ex := fun b z => absurd (show b ∈ ([] : List Addr) from z) (by simp)
  refine ⟨⟨e0.mod, S.kind, rfl, rfl, Nat.le_refl _, fun y z c h1 h2 => ?_, fun y hy => ?_, fun y c _ h => ?_, fun _ => hd, Around.frames_deeper e0.frames, .inr ⟨rfl, rfl⟩, fun b z => absurd z (noA b), e0.bs, e0.bsz, fun b _ _ => noA b, fun b z => absurd z (noA b), e0.funs, e0.frf⟩,
    rfl, e0.bare, Un.kept hk, ⟨_, x.toInCall.ns, fun i y v h1 h2 h3 => ?_⟩, fun y c h => ⟨_, x.cell y c h⟩, e0.hok.fresh (Nat.le_refl _), fun y c h => ?_, fun p hp => absurd (show p ∈ ([] : List (Addr × Obj)) from hp) (by simp), e0.hok.kept hk, ?_⟩
  · exact name_of_addr x.apart (PySem.mem_of_lookup h1) (PySem.mem_of_lookup h2)
  · have hy : scope.names.lookup y = some .cell ∨ scope.names.lookup y = some .free := hy
    rcases hy with hy | hy
    · exact cell_has hy
    · exact absurd rfl (S.nofree _ (PySem.mem_of_lookup hy))
  · exact Nat.le_of_lt (x.above y c (PySem.mem_of_lookup h))
  · have hi : i < vs.length := by
      unfold start at h2
      by_cases hi : i < vs.length
      · exact hi
      · rw [List.getElem?_append_right (by simpa using hi)] at h2
        rw [List.getElem?_replicate] at h2
        split at h2 <;> cases h2
    have ha : vs[i]? = some v := by
      unfold start at h2
      rw [List.getElem?_append_left (by simpa using hi), List.getElem?_map] at h2
      cases e : vs[i]? with
      | none => rw [e] at h2; cases h2
      | some a => rw [e] at h2; cases h2; rfl
    obtain ⟨u, hu, rv⟩ := r.get ha
    have hp : ps[i]? = some y := by
      rw [← S.pre, List.getElem?_take_of_lt (by omega)]; exact h1
    have ndP : ps.Nodup := by rw [← S.pre]; exact S.nd.sublist (List.take_sublist _ _)
    refine ⟨u, rv, ?_⟩
    rcases S.par y (List.mem_of_getElem? hp) with k | k
    · exact .inl ⟨k, bindL_get ndP hp hu k⟩
    · obtain ⟨c, e⟩ := cell_has (n := s.heap.objs.size + 1) k
      refine .inr ⟨.inl k, c, e, ?_⟩
      have q := x.cell y c e
      rw [bindC_get ndP hp hu (by show scope.names.lookup y ≠ _; rw [k]; decide)] at q
      exact q
  · exact e0.hok.fresh (Nat.le_of_lt (x.above y c (PySem.mem_of_lookup h)))
  · unfold start
    show _ = N.length
    rw [List.length_append, List.length_map, List.length_replicate]
    omega
theorem fn_of {CX : CXT} {P : Program} {w : World} {K : PySem.W.Frag} {mg : Str → Option Value} {base : Heap} {k : Nat} {f : Addr} {name qual : Str} {params : Arguments} {body : List Stmt} {scope : Scope} {dV kV doc pm cdv ct oc : Value} {an od : Option Addr}
    {osl : Array (Option Value)} {N ps : List Str} {sp : Sp} (lk : K.lookup f = some ⟨oc, od, .func (PySem.W.fnOf name qual params body scope dV kV doc pm an cdv ct), osl⟩) (hcd : PySem.W.codeIn K cdv qual = true) (S : FnScope N ps scope)
    (len : ∀ vs H Q E, sp vs H Q E → vs.length = ps.length)
    (hbody : ∀ (A : Around) (outer : List Env) (s : Shared) (H : Hp) (vs : List V) (Q : VK) (E : XK), Room k (A.deeper (envOfC qual scope s.heap.objs.size f cdv)) → sp vs H Q E →
      ∃ t, PSs (cxOf CX P w K mg base N qual scope f cdv A outer s H E) body t ∧ t { nx := fun _ H' => Q .non H', rt := Q } (start N vs) H) :
    FnOk P w K mg base CX (k + 1) f (PySem.W.fnOf name qual params body scope dV kV doc pm an cdv ct) ps sp := by
  refine ⟨len, fun A outer s H args us vs Q E hr e0 hb r hsp => ?_⟩
  have hl := len _ _ _ _ hsp
  have KX : K.In s.heap := e0.mod.kin.keeps fun b o e => (e0.bs b o e).1
  have lim : s.heap.NoLimit := e0.mod.nolimit.keeps fun b o e => (e0.bs b o e).1
  have hkind : ∀ y ∈ ps.zip us, scope.names.lookup y.1 = some .local ∨ (scope.names.lookup y.1 = some .cell ∧ ((cellsFrom (s.heap.objs.size + 1) scope.names []).lookup y.1).isSome = true) := fun ⟨n, v⟩ hy => by
    rcases S.par n (List.of_mem_zip hy).1 with q | q
    · exact .inl q
    · exact .inr ⟨q, PySem.W.cellsFrom_some _ _ _ (.inl q)⟩
  refine codeAny_call_function hr.depth (KX _ _ lk) rfl S.co S.gen rfl (PySem.W.codeRec_of KX hcd) (hb _ _ _ _ ?_)
  refine wpAny_newFunctionEnv_cells S.kind hkind fun env he s1 x => ?_
  subst he
  refine ⟨lim.keeps x.toInCall.keep, codeAny_func ?_⟩
  obtain ⟨t, ht, hq⟩ := hbody A outer s H vs Q E (hr.deeper _) hsp
  have I : Inv (cxOf CX P w K mg base N qual scope f cdv A outer s H E) [] (start N vs) H s1 := inv_start S hr.hd e0 hl r x
  refine wpAny_mono (ht [] s1 (start N vs) H _ I hq) (fun fl s' hs => ?_) fun e s' hs => hs
  have fin : ∀ {σ' : St} {H' : Hp} {v : V} {u : Value}, Inv (cxOf CX P w K mg base N qual scope f cdv A outer s H E) [] σ' H' s' → RelV v u → Q v H' → CE outer P w H s Q u s' :=
    fun {σ' H' v u} J rv q => ⟨v, H', J.os, J.bare, J.base, J.hok, rv, q⟩
  cases fl with
  | ret u =>
    obtain ⟨v, σ', H', J, rv, q⟩ := hs
    exact fin J rv q
  | next =>
    obtain ⟨σ', H', J, q⟩ := hs
    exact fin (v := V.non) (u := Value.none) J rfl q
  | brk =>
    obtain ⟨_, _, _, q⟩ := hs
    exact False.elim q
  | cont =>
    obtain ⟨_, _, _, q⟩ := hs
    exact False.elim q
end L2
namespace L2
open PySem PySem.Spec PyProof.Rows
section
variable {X : Cx} {x : Str} {p pos : Pos} {e : Expr} {es : List Expr} {t : TA} {id T : String} {r : List V → Hp → VK → Prop}
noncomputable def tCB (r : List V → Hp → VK → Prop) (t : TA) : TE := fun σ H Q => t σ H fun vs H1 => r vs H1 Q
theorem pe_callB (hc : CallR X (.builtin id) r) (hg : Gl X x) (hm : X.mg x = none) (hv : bootBuiltins x = some (.builtin id)) (ha : PA X (e :: es) t) (hn : x ≠ "__name__" := by decide) (hdb : (x == ("__debug__" : Str)) = false := by decide)
    (he : starEach (e :: es) X.env = (false, eval e X.env) :: starEach es X.env := by rfl) (hpl : (backTo pos (starEach es X.env)).any (·.1) = false := by rfl) : PE X (.Call (.Name x p) (e :: es) [] pos) (tCB r t) := by
  intro pins s σ H Q I h
  refine wpAny_Call_Name_kw (ld_blt I hg hm hv ?_ hn hdb)
  exact PyProof.Rows.callWith_builtin1 (thn (ha pos pins s σ H _ I h) fun us s1 ⟨vs, H1, I1, r1, q1⟩ => hc pins s1 σ H1 vs us Q I1 r1 q1) he hpl
theorem pe_callTy (hc : CallR X (.type T) r) (hg : Gl X x) (hm : X.mg x = none) (hv : bootBuiltins x = some (.type T)) (ha : PA X (e :: es) t) (hn : x ≠ "__name__" := by decide) (hdb : (x == ("__debug__" : Str)) = false := by decide)
    (he : starEach (e :: es) X.env = (false, eval e X.env) :: starEach es X.env := by rfl) (hpl : (backTo pos (starEach es X.env)).any (·.1) = false := by rfl) : PE X (.Call (.Name x p) (e :: es) [] pos) (tCB r t) := by
  intro pins s σ H Q I h
  refine wpAny_Call_Name_kw (ld_blt I hg hm hv ?_ hn hdb)
  exact PyProof.Rows.callWith_type1 (thn (ha pos pins s σ H _ I h) fun us s1 ⟨vs, H1, I1, r1, q1⟩ => hc pins s1 σ H1 vs us Q I1 r1 q1) he hpl
end
end L2
namespace HT
open PySem PyProof.Rows
section
open PySem.SeqAt
open PySem.AutoSeq1 (wpAny_loadPart')
open PySem.MeetsSeq PySem.MeetsSeq2 PySem.MeetsSeq3
end
section
variable {prog : Program} {w : World} {A : Around} {E : Value → Shared → Prop} {s : Shared}
theorem cat_tup {t b : Addr} {vs ws : List Value} {Q : Value → Shared → Prop} (ht : IsTup s.heap t vs.toArray) (hb : IsTup s.heap b ws.toArray) (hv : vs ≠ [])
    (h1 : ws = [] → Q (.ref t) s) (h2 : ws ≠ [] → Q (.ref s.heap.objs.size) { s with heap := s.heap.push { cls := .type "tuple", data := .seq (vs ++ ws).toArray } })
    (hsz : vs.length + ws.length ≤ sizeLine) : wpAny (model prog w) A (binaryOp .Add (.ref t) (.ref b)) Q E s := by
  obtain ⟨⟨cls, dd, data, sl⟩, ho, hc, n, hd⟩ := id ht
  obtain ⟨⟨cls2, dd2, data2, sl2⟩, ho2, hc2, n2, hd2⟩ := id hb
  simp only at hc hd hc2 hd2
  subst hc hd hc2 hd2
  have e : vs.toArray ++ ws.toArray = (vs ++ ws).toArray := by simp
  by_cases hw : ws = []
  · exact concat_meets ⟨_, ho, rfl⟩ ⟨_, ho2, rfl⟩ noFill_tuple_add seq_tuple_add PySem.F.slot_tuple_add PySem.F.entry_tuple_add (PySem.F.args_tuple_add_2 _ _)
      (tuple_addW1 t b vs.toArray ws.toArray n n2 dd dd2 sl sl2 (by simpa using hv) (by simp [hw])) ⟨ho, ho2, h1 hw⟩
  · refine concat_meets ⟨_, ho, rfl⟩ ⟨_, ho2, rfl⟩ noFill_tuple_add seq_tuple_add PySem.F.slot_tuple_add PySem.F.entry_tuple_add (PySem.F.args_tuple_add_2 _ _)
      (tuple_addW2 t b vs.toArray ws.toArray n n2 dd dd2 sl sl2 (by simpa using hv) (by simpa using hw) (by rw [List.size_toArray, List.size_toArray]; exact hsz)) ⟨ho, ho2, ?_⟩
    rw [e]
    exact h2 hw
noncomputable def sIx (n d : Nat) : Option Int → Nat
  | none => d
  | some v => if v < 0 then (v + (n : Int)).toNat else min v.toNat n
theorem sIx_none (n d : Nat) : sIx n d none = d := rfl
theorem sIx_nat (n d k : Nat) : sIx n d (some (k : Int)) = min k n := by
  show (if (k : Int) < 0 then ((k : Int) + (n : Int)).toNat else min (k : Int).toNat n) = min k n
  rw [if_neg (by omega), Int.toNat_natCast]
theorem sIx_le (n d : Nat) (hd : d ≤ n) (o : Option Int) : sIx n d o ≤ n := by
  cases o with
  | none => exact hd
  | some v =>
    show (if v < 0 then (v + (n : Int)).toNat else min v.toNat n) ≤ n
    by_cases hv : v < 0
    · rw [if_pos hv]; omega
    · rw [if_neg hv]; exact Nat.min_le_right _ _
theorem clip_eq (v : Int) (n d : Nat) : (if v < 0 then max (v + (n : Int)) 0 else min v (n : Int)) = ((sIx n d (some v) : Nat) : Int) := by
  show (if v < 0 then max (v + (n : Int)) 0 else min v (n : Int)) = (((if v < 0 then (v + (n : Int)).toNat else min v.toNat n) : Nat) : Int)
  by_cases hv : v < 0
  · simp only [if_pos hv]; omega
  · simp only [if_neg hv]; omega
theorem adjust_gen (lo hi : Option Int) (n : Nat) : Builtin.Slice.sliceAdjust lo hi 1 (n : Int) = (((sIx n 0 lo : Nat) : Int), ((sIx n n hi : Nat) : Int)) := by
  have h1 : ¬ ((1 : Int) < 0) := by omega
  unfold Builtin.Slice.sliceAdjust
  simp only [h1, if_false]
  refine Prod.ext ?_ ?_
  · cases lo with
    | none => rfl
    | some v => exact clip_eq v n 0
  · cases hi with
    | none => rfl
    | some v => exact clip_eq v n n
theorem places_gen (i j : Nat) : Builtin.Slice.slicePlaces (i : Int) (j : Int) 1 = j - i := by
  unfold Builtin.Slice.slicePlaces
  have h1 : (1 : Int) > 0 := by omega
  simp only [h1, if_true, Int.ediv_one]
  split <;> omega
theorem slicePart_ {v : Value} {o : Option Int} {Q : Option Int → Shared → Prop} (p : IsPart v o) (h : Q o s) : wpAny (model prog w) A (Builtin.Slice.slicePartIndex v) Q E s := by
  cases p with
  | none => exact slicePart_none h
  | int i t => exact slicePart_int h
theorem sliceApplied_gen {sl : Addr} {vl vu : Value} {lo hi : Option Int} {n : Nat} {Q : Int × Int × Nat → Shared → Prop} (hs : s.heap.IsSliceOf sl vl vu .none) (pl : IsPart vl lo) (pu : IsPart vu hi)
    (h : Q (((sIx n 0 lo : Nat) : Int), 1, sIx n n hi - sIx n 0 lo) s) : wpAny (model prog w) A (Builtin.Slice.sliceApplied (.ref sl) (pure (n : Int))) Q E s := by
  obtain ⟨os, hos, hcs, hds⟩ := id hs
  unfold Builtin.Slice.sliceApplied Builtin.Slice.sliceFields
  refine wpAny_bind (wpAny_bind (wpAny_field hos hds (x := vl) rfl (wpAny_bind (wpAny_field hos hds (x := vu) rfl (wpAny_bind (wpAny_field hos hds (x := .none) rfl (wpAny_pure ?_)))))))
  refine wpAny_bind (slicePart_none ?_)
  show wpAny _ _ (if ((1 : Int) == 0) = true then _ else _) _ _ s
  rw [if_neg (by decide)]
  refine wpAny_bind (slicePart_ pl (wpAny_bind (slicePart_ pu (wpAny_bind (wpAny_pure ?_)))))
  show wpAny _ _ (match Builtin.Slice.sliceAdjust lo hi 1 (n : Int) with | (lo, hi) => pure (lo, (1 : Int), Builtin.Slice.slicePlaces lo hi 1)) _ _ s
  rw [adjust_gen lo hi n]
  show wpAny _ _ (pure (((sIx n 0 lo : Nat) : Int), (1 : Int), Builtin.Slice.slicePlaces ((sIx n 0 lo : Nat) : Int) ((sIx n n hi : Nat) : Int) 1)) _ _ s
  rw [places_gen]
  exact wpAny_pure h
theorem pick_gen (xs : Array Value) (i k : Nat) : ((List.range k).filterMap fun (m : Nat) => xs[((i : Int) + (m : Int) * 1).toNat]?).toArray = ((xs.toList.drop i).take k).toArray := by
  have e : (fun (m : Nat) => xs[((i : Int) + (m : Int) * 1).toNat]?) = fun m => xs[i + m]? := by
    funext m
    have : ((i : Int) + (m : Int) * 1).toNat = i + m := by omega
    rw [this]
  rw [e]
  have := pick_run xs i k
  rw [List.filterMap_map] at this
  have e2 : ((fun x => xs[x]?) ∘ fun x => i + x) = fun m => xs[i + m]? := rfl
  rw [e2] at this
  rw [this]
theorem getItem_tuple_cut {t sl : Addr} {items : Array Value} {vl vu : Value} {lo hi : Option Int} {Q : Value → Shared → Prop} (ht : IsTup s.heap t items) (hs : s.heap.IsSliceOf sl vl vu .none) (pl : IsPart vl lo) (pu : IsPart vu hi)
    (hw : ¬ (sIx items.size 0 lo = 0 ∧ sIx items.size items.size hi = items.size))
    (h : Q (.ref s.heap.objs.size) { s with heap := s.heap.push { cls := .type "tuple", data := .seq ((items.toList.drop (sIx items.size 0 lo)).take (sIx items.size items.size hi - sIx items.size 0 lo)).toArray } })
    (hsz : items.size ≤ sizeLine) : wpAny (model prog w) A (getItem (.ref t) (.ref sl)) Q E s := by
  have htake : sizeOk (.seq ((items.toList.drop (sIx items.size 0 lo)).take (sIx items.size items.size hi - sIx items.size 0 lo)).toArray) := by
    show ((items.toList.drop (sIx items.size 0 lo)).take (sIx items.size items.size hi - sIx items.size 0 lo)).toArray.size ≤ sizeLine
    rw [List.size_toArray, List.length_take, List.length_drop, Array.length_toList]
    omega
  have hj : sIx items.size items.size hi ≤ items.size := sIx_le _ _ (Nat.le_refl _) hi
  obtain ⟨os, hos, hcs, hds⟩ := id hs
  have hTs : s.TypeIs (.ref sl) "slice" := ⟨os, hos, hcs⟩
  unfold getItem
  try with_reducible refine wpAny_holding ?_
  first | refine wpAny_bind (wpAny_pure ?_) | skip
  refine wpAny_bind (wpAny_sequenceKey ht.typeIs (by decide) ?_)
  refine wpAny_bind (wpAny_callSpecial?_slot (name := Str.ofString "__getitem__") ht.typeIs PyProof.Rows.slot_tuple_getitem
    (wpAny_call_entry PyProof.Rows.slot_tuple_getitem ht.typeIs entry_tuple_getitem ?_ (args_tuple_getitem _ _)))
  show wpAny _ _ (Builtin.Tuple.tupleItemsOf (.ref t) >>= _) _ _ s
  refine wpAny_bind (tupleItemsOf_ ht ?_)
  refine wpAny_bind (wpAny_typeOf hTs ?_)
  rw [if_pos (by decide)]
  refine wpAny_bind (sliceApplied_gen hs pl pu ?_)
  have hno : ¬ ((((sIx items.size 0 lo : Nat) : Int) == 0 && (1 : Int) == 1 && (sIx items.size items.size hi - sIx items.size 0 lo) == items.size) = true) := by
    intro q
    rw [Bool.and_eq_true, Bool.and_eq_true] at q
    have q1 : ((sIx items.size 0 lo : Nat) : Int) = 0 := eq_of_beq q.1.1
    have q2 : sIx items.size items.size hi - sIx items.size 0 lo = items.size := eq_of_beq q.2
    exact hw ⟨by omega, by omega⟩
  show wpAny _ _ (if (((sIx items.size 0 lo : Nat) : Int) == 0 && (1 : Int) == 1 && (sIx items.size items.size hi - sIx items.size 0 lo) == items.size) = true then _ else _) _ _ s
  rw [if_neg hno, pick_gen]
  first
    | exact wpAny_bind (m := Builtin.Tuple.tupleExact _) (wpAny_newObj_type (wpAny_pure ⟨_, rfl, wpAny_pure h⟩) htake)
    | exact wpAny_bind (m := Builtin.Tuple.tupleExact _) (wpAny_newObj_type (wpAny_bind (wpAny_pure (wpAny_pure ⟨_, rfl, wpAny_pure h⟩))) htake)
    | exact wpAny_bind (wpAny_bind (m := Builtin.Tuple.tupleExact _) (wpAny_newObj_type (wpAny_pure (wpAny_pure ⟨_, rfl, wpAny_pure h⟩)) htake))
    | exact wpAny_bind (wpAny_bind (m := Builtin.Tuple.tupleExact _) (wpAny_newObj_type (wpAny_pure ⟨_, rfl, wpAny_pure h⟩) htake))
end
end HT
namespace L2
open PySem PySem.Spec PyProof.Rows
noncomputable abbrev TO := St → Hp → (Option Int → Hp → Prop) → Prop
noncomputable def PO (X : Cx) (e : Option Expr) (t : TO) : Prop :=
  ∀ (pins : List (Addr × Obj)) (s : Shared) (σ : St) (H : Hp) (Q : Option Int → Hp → Prop), Inv X pins σ H s → t σ H Q →
    wpAny (model X.prog X.w) X.A (evalPart e X.env) (fun u s' => ∃ o H', Inv X pins σ H' s' ∧ IsPart u o ∧ Q o H') X.xe s
noncomputable def tNoPart : TO := fun _ H Q => Q none H
noncomputable def tPart (t : TE) : TO := fun σ H Q => t σ H fun x H1 => ∃ i, x = .int i ∧ Q (some i) H1
theorem intsAre_of {ns : List Int} : ∀ {us : List Value}, Vals (ns.map V.int) us → IntsAre us ns := by
  induction ns with
  | nil => intro us r; rw [List.map_nil] at r; cases r; exact .nil
  | cons n ns ih =>
    intro us r
    rw [List.map_cons] at r
    cases r with
    | cons r1 r2 =>
      obtain ⟨t, e⟩ := r1
      subst e
      exact .cons n t (ih r2)
section
variable {X : Cx} {e : Expr} {te : TE} {lo hi : Option Expr} {tl th : TO} {pos p2 : Pos}
theorem po_none : PO X none tNoPart := by
  intro pins s σ H Q I h
  rw [evalPart_none]
  exact wpAny_pure ⟨none, H, I, .none, h⟩
theorem po_some (h : PE X e te) : PO X (some e) (tPart te) := by
  intro pins s σ H Q I hw
  rw [evalPart_some]
  refine thn (h pins s σ H _ I hw) fun u s1 ⟨x, H1, I1, r1, q1⟩ => ?_
  obtain ⟨i, rfl, q⟩ := q1
  obtain ⟨t, rfl⟩ := r1
  exact ⟨some i, H1, I1, .int i t, q⟩
noncomputable def SlR (X : Cx) (r : V → Option Int → Option Int → Hp → VK → Prop) : Prop :=
  ∀ (pins : List (Addr × Obj)) (s : Shared) (σ : St) (H : Hp) (x : V) (v vl vu : Value) (lo hi : Option Int) (sl : Addr) (Q : VK), Inv X pins σ H s → RelV x v → s.heap.IsSliceOf sl vl vu .none → IsPart vl lo → IsPart vu hi → r x lo hi H Q →
    ∃ T id, typeLookup (.type T) "__getitem__" = pure (some (.builtin id)) ∧ s.TypeIs v T ∧ wpAny (model X.prog X.w) X.A (getItem v (.ref sl)) (EP X pins σ Q) X.xe s
noncomputable def tSl (r : V → Option Int → Option Int → Hp → VK → Prop) (te : TE) (tl th : TO) : TE := fun σ H Q => te σ H fun x H1 => tl σ H1 fun l H2 => th σ H2 fun u H3 => r x l u H3 Q
theorem pe_slice {r : V → Option Int → Option Int → Hp → VK → Prop} (hr : SlR X r) (he : PE X e te) (hl : PO X lo tl) (hu : PO X hi th) : PE X (.Subscript e (.Slice lo hi none p2) pos) (tSl r te tl th) := by
  intro pins s σ H Q I h
  refine Subscript_ (thn (he pins s σ H _ I h) fun v s1 ⟨x, H1, I1, r1, q1⟩ => ?_)
  refine wpAny_Slice (thn (hl pins s1 σ H1 _ I1 q1) fun vl s2 ⟨l, H2, I2, pl, q2⟩ => thn (hu pins s2 σ H2 _ I2 q2) fun vu s3 ⟨u, H3, I3, pu, q3⟩ => ?_)
  rw [evalPart_none]
  refine wpAny_pure ?_
  have I4 : Inv X pins σ H3 { s3 with heap := s3.heap.push { cls := .type "slice", data := .fields #[vl, vu, .none] } } := I3.kept (t' := s3.toks) fun b ob q => Heap.get?_push_of_some _ q
  obtain ⟨T, id, hT, ht, hg⟩ := hr pins { s3 with heap := s3.heap.push { cls := .type "slice", data := .fields #[vl, vu, .none] } } σ H3 x v vl vu l u s3.heap.objs.size Q I4 r1 (Heap.IsSliceOf.new ..) pl pu q3
  show wpAny (model X.prog X.w) X.A (subscriptTail e (.Slice lo hi none p2) v (.ref s3.heap.objs.size)) (EP X pins σ Q) X.xe { s3 with heap := s3.heap.push { cls := .type "slice", data := .fields #[vl, vu, .none] } }
  exact tail_any (ops := [.ref s3.heap.objs.size, v]) ht hT hg (by with_unfolding_all rfl)
noncomputable def cutV (xs : List V) (lo hi : Option Int) : List V := (xs.drop (HT.sIx xs.length 0 lo)).take (HT.sIx xs.length xs.length hi - HT.sIx xs.length 0 lo)
theorem cutV_length (xs : List V) (lo hi : Option Int) : (cutV xs lo hi).length ≤ xs.length := by
  unfold cutV
  rw [List.length_take, List.length_drop]
  omega
noncomputable def rSlT (K : PySem.W.Frag) : V → Option Int → Option Int → Hp → VK → Prop := fun x lo hi H Q => ∃ a xs, x = .ref a ∧ SqT K H a xs ∧
  ¬ (HT.sIx xs.length 0 lo = 0 ∧ HT.sIx xs.length xs.length hi = xs.length) ∧ ∀ p, H p = none → Q (.ref p) (upd H p (.tup (cutV xs lo hi)))
theorem sl_tup : SlR X (rSlT X.K) := by
  intro pins s σ H x v vl vu lo hi sl Q I rx hs pl pu h
  obtain ⟨a, xs, rfl, hx, hw, q⟩ := h
  cases rx
  obtain ⟨its, r, ht, hz⟩ := I.tuple hx
  have hlen : its.toArray.size = xs.length := by rw [List.size_toArray]; exact r.length.symm
  refine ⟨"tuple", _, PyProof.Rows.slot_tuple_getitem.lookup, ht.typeIs, ?_⟩
  refine HT.getItem_tuple_cut ht hs pl pu (by rw [hlen]; exact hw) ?_ (by rw [hlen]; exact hz)
  rw [hlen]
  refine ⟨.ref s.heap.objs.size, _, I.laid (t' := s.toks) (o := .tup (cutV xs lo hi)) (fun b ob q => Heap.get?_push_of_some _ q) (Nat.le_refl _) ?_, rfl, q _ (I.hok.fresh (Nat.le_refl _))⟩
  exact ⟨Nat.le_trans (cutV_length xs lo hi) hz, _, (r.drop (HT.sIx xs.length 0 lo)).take (HT.sIx xs.length xs.length hi - HT.sIx xs.length 0 lo), TupN.new _ _⟩
noncomputable def rCatT (K : PySem.W.Frag) : R2 := fun x y H Q => ∃ a b xs ys, x = .ref a ∧ y = .ref b ∧ SqT K H a xs ∧ SqT K H b ys ∧ xs ≠ [] ∧ xs.length + ys.length ≤ sizeLine ∧
  (ys = [] → Q (.ref a) H) ∧ (ys ≠ [] → ∀ p, H p = none → Q (.ref p) (upd H p (.tup (xs ++ ys))))
theorem Vals.nil_iff {xs : List V} {us : List Value} (r : Vals xs us) : us = [] ↔ xs = [] := by
  cases r with
  | nil => simp
  | cons _ _ => simp
theorem op_catT : OpR X (binaryOp .Add) (rCatT X.K) := by
  intro pins s σ H x y v u Q I rx ry h
  obtain ⟨a, b, xs, ys, rfl, rfl, ha, hb, hx, hz, q1, q2⟩ := h
  cases rx
  cases ry
  obtain ⟨its, r1, p1, _⟩ := I.tuple ha
  obtain ⟨its2, r2, p2, _⟩ := I.tuple hb
  refine HT.cat_tup p1 p2 (fun z => hx (r1.nil_iff.mp z)) (fun z => ⟨.ref a, H, I, rfl, q1 (r2.nil_iff.mp z)⟩) (fun z => ?_) (by rw [← r1.length, ← r2.length]; exact hz)
  refine ⟨.ref s.heap.objs.size, _, I.laid (t' := s.toks) (o := .tup (xs ++ ys)) (fun b ob q => Heap.get?_push_of_some _ q) (Nat.le_refl _) ?_, rfl, q2 (fun w => z (r2.nil_iff.mpr w)) _ (I.hok.fresh (Nat.le_refl _))⟩
  exact ⟨by rw [List.length_append]; exact hz, _, r1.append r2, TupN.new _ _⟩
end
end L2
namespace L2
open PySem PySem.Spec PyProof.Rows
noncomputable def ixN (n : Nat) (i : Int) : Option Nat := if 0 ≤ i then (if i < n then some i.toNat else none) else if -(n : Int) ≤ i then some (i + n).toNat else none
noncomputable def atI {α : Type} (xs : List α) (i : Int) : Option α := (ixN xs.length i).bind fun j => xs[j]?
theorem ixN_seq {n : Nat} {i : Int} {j : Nat} (h : ixN n i = some j) : seqIndex? i n = some j ∧ j < n ∧ -(n : Int) ≤ i ∧ i < n := by
  unfold ixN at h
  by_cases h0 : 0 ≤ i
  · rw [if_pos h0] at h
    by_cases h1 : i < n
    · rw [if_pos h1] at h
      have e : i.toNat = j := Option.some.inj h
      exact ⟨by rw [seqIndex_of h0 h1, e], by omega, by omega, h1⟩
    · rw [if_neg h1] at h; cases h
  · rw [if_neg h0] at h
    by_cases h1 : -(n : Int) ≤ i
    · rw [if_pos h1] at h
      have e : (i + n).toNat = j := Option.some.inj h
      exact ⟨by rw [seqIndex_neg (by omega) h1, e], by omega, h1, by omega⟩
    · rw [if_neg h1] at h; cases h
theorem atI_get {α : Type} {xs : List α} {i : Int} {v : α} (h : atI xs i = some v) : ∃ j, seqIndex? i xs.length = some j ∧ xs[j]? = some v ∧ j < xs.length ∧ -(xs.length : Int) ≤ i ∧ i < xs.length := by
  unfold atI at h
  cases e : ixN xs.length i with
  | none => rw [e] at h; cases h
  | some j =>
    rw [e] at h
    obtain ⟨h1, h2, h3, h4⟩ := ixN_seq e
    exact ⟨j, h1, h, h2, h3, h4⟩
theorem atI_nat {α : Type} {xs : List α} {j : Nat} {v : α} (h : xs[j]? = some v) : atI xs (j : Int) = some v := by
  have hj : j < xs.length := (List.getElem?_eq_some_iff.mp h).1
  have e : ixN xs.length (j : Int) = some j := by
    unfold ixN
    rw [if_pos (by omega), if_pos (by omega)]; simp
  unfold atI; rw [e]; exact h
theorem atI_last {α : Type} (xs : List α) (v : α) : atI (xs ++ [v]) (-1) = some v := by
  have hl : (xs ++ [v]).length = xs.length + 1 := by simp
  have e : ixN (xs ++ [v]).length (-1) = some xs.length := by
    unfold ixN
    rw [hl, if_neg (by decide), if_pos (by omega)]
    congr 1
    omega
  unfold atI
  rw [e]
  show (xs ++ [v])[xs.length]? = some v
  simp
noncomputable def PlainIx (b : Expr) : Prop := ∀ o i, subscripted b false o i = operate [o, i] (getItem o i)
noncomputable def IxR (X : Cx) (r : R2) : Prop :=
  ∀ (value slice : Expr) (pins : List (Addr × Obj)) (s : Shared) (σ : St) (H : Hp) (x y : V) (v u : Value) (Q : VK), Inv X pins σ H s → RelV x v → RelV y u → r x y H Q →
    subscripted slice false v u = operate [v, u] (getItem v u) → wpAny (model X.prog X.w) X.A (subscriptTail value slice v u) (EP X pins σ Q) X.xe s
noncomputable def MtR (X : Cx) (id : String) (r : V → List V → Hp → VK → Prop) : Prop :=
  ∀ (pins : List (Addr × Obj)) (s : Shared) (σ : St) (H : Hp) (x : V) (xs : List V) (v : Value) (us : List Value) (Q : VK), Inv X pins σ H s → RelV x v → Vals xs us → r x xs H Q →
    wpAny (model X.prog X.w) X.A (call (.builtin id) (v :: us)) (EP X pins σ Q) X.xe s
section
variable {X : Cx} {a b : Expr} {ta tb : TE} {pos : Pos}
theorem pe_ix {r : R2} (hr : IxR X r) (ha : PE X a ta) (hb : PE X b tb) (hs : PlainIx b) : PE X (.Subscript a b pos) (tOp r ta tb) := by
  intro pins s σ H Q I h
  exact Subscript_ (binT ha hb I h fun v u s2 x y H2 I2 rx ry q => hr a b pins s2 σ H2 x y v u Q I2 rx ry q (hs _ _))
noncomputable def rIxL (K : PySem.W.Frag) : R2 := fun x y H Q => ∃ p xs i v, x = .ref p ∧ y = .int i ∧ SqL K H p xs ∧ atI xs i = some v ∧ Q v H
noncomputable def rIxT (K : PySem.W.Frag) : R2 := fun x y H Q => ∃ p xs i v, x = .ref p ∧ y = .int i ∧ SqT K H p xs ∧ atI xs i = some v ∧ Q v H
noncomputable def rIxS : R2 := fun x y H Q => ∃ z i c, x = .str z ∧ y = .int i ∧ z.length ≤ sizeLine ∧ atI z.cps.toList i = some c ∧ Q (.str ⟨#[c]⟩) H
theorem ix_list : IxR X (rIxL X.K) := by
  intro value slice pins s σ H x y v u Q I rx ry h hs
  obtain ⟨p, xs, i, z, rfl, rfl, hq, he, q⟩ := h
  cases rx
  obtain ⟨t, rfl⟩ := ry
  obtain ⟨its, r, pl, hz⟩ := I.list hq
  obtain ⟨j, h1, h2, h3, h4, h5⟩ := atI_get he
  obtain ⟨w, ew, rw'⟩ := r.get h2
  have hl := r.length
  have hn := line63
  have fin : EP X pins σ Q w s := ⟨z, H, I, rw', q⟩
  by_cases h0 : 0 ≤ i
  · have hj : i.toNat = j := by
      rw [seqIndex_of h0 h5] at h1
      exact Option.some.inj h1
    exact item_listR pl.isList h0 (by omega) (by rw [hj]; simpa using ew) fin hs
  · have hj : (i + (its.toArray.size : Int)).toNat = j := by
      rw [seqIndex_neg (by omega) h4] at h1
      rw [List.size_toArray, ← hl]
      exact Option.some.inj h1
    exact subscriptTail_builtinR (x := w) pl.isList.typeIs slot_list_getitem.lookup
      (wpAny_getItem_list_neg (Q := fun r s' => r = w ∧ EP X pins σ Q r s') pl.isList (by omega) (by rw [List.size_toArray] <;> omega) (by omega) (by rw [hj]; simpa using ew) ⟨rfl, fin⟩) hs
theorem ix_tup : IxR X (rIxT X.K) := by
  intro value slice pins s σ H x y v u Q I rx ry h hs
  obtain ⟨p, xs, i, z, rfl, rfl, hq, he, q⟩ := h
  cases rx
  obtain ⟨t, rfl⟩ := ry
  obtain ⟨its, r, pl, hz⟩ := I.tuple hq
  obtain ⟨j, h1, h2, h3, h4, h5⟩ := atI_get he
  obtain ⟨w, ew, rw'⟩ := r.get h2
  have hl := r.length
  have hn := line63
  have fin : EP X pins σ Q w s := ⟨z, H, I, rw', q⟩
  exact subscriptTail_builtinR (x := w) pl.typeIs slot_tuple_getitem.lookup
    (getItem_tuple (j := j) (Q := fun r s' => r = w ∧ EP X pins σ Q r s') pl (by omega) (by omega) (by rw [List.size_toArray, ← hl]; exact h1) (by simpa using ew) ⟨rfl, fin⟩) hs
theorem ix_str : IxR X rIxS := by
  intro value slice pins s σ H x y v u Q I rx ry h hs
  obtain ⟨z, i, c, rfl, rfl, hz, he, q⟩ := h
  obtain ⟨t, rfl⟩ := rx
  obtain ⟨t', rfl⟩ := ry
  obtain ⟨j, h1, h2, h3, h4, h5⟩ := atI_get he
  have hl : z.cps.toList.length = z.length := by simp [Str.length]
  rw [hl] at h1 h4 h5
  have hn := line63
  exact tail_any (typeIs_str s z t) slot_str_getitem.lookup (getItem_str (c := c) (by
    have e1 : decide (i < -(2 ^ 63 : Int)) = false := decide_eq_false (by omega)
    have e2 : decide (i ≥ 2 ^ 63) = false := decide_eq_false (by omega)
    rw [e1, e2, Bool.or_false]) (by rw [h1]; simpa using h2) ⟨.str ⟨#[c]⟩, H, I.tok _, ⟨_, rfl⟩, q⟩) hs
theorem mapSeq_set (its : List Value) (n j : Nat) (u : Value) : Obj.mapSeq (·.setIfInBounds j u) { cls := .type "list", data := .seq its.toArray n } = { cls := .type "list", data := .seq (its.set j u).toArray n } := by
  simp [Obj.mapSeq]
theorem Inv.lst {pins : List (Addr × Obj)} {σ : St} {H : Hp} {s : Shared} {p : Addr} {xs : List V} (I : Inv X pins σ H s) (h : H p = some (.lst xs)) :
    ∃ (its : List Value) (n : Nat), Vals xs its ∧ s.heap.get? p = some { cls := .type "list", data := .seq its.toArray n } ∧ xs.length ≤ sizeLine := by
  obtain ⟨z, its, n, r, e⟩ := I.hok p _ h
  exact ⟨its, n, r, e, z⟩
theorem Inv.lstUpd {pins : List (Addr × Obj)} {σ : St} {H : Hp} {s : Shared} {p : Addr} {xs ys : List V} {its its' : List Value} {n n' : Nat} {f : Obj → Obj} (I : Inv X pins σ H s) (h : H p = some (.lst xs))
    (ho : s.heap.get? p = some { cls := .type "list", data := .seq its.toArray n }) (hf : f { cls := .type "list", data := .seq its.toArray n } = { cls := .type "list", data := .seq its'.toArray n' }) (r : Vals ys its') (hz : ys.length ≤ sizeLine) (t : Nat) :
    Inv X pins σ (upd H p (.lst ys)) { s with heap := s.heap.update p f, toks := t } := by
  have e : (s.heap.update p f).get? p = some { cls := .type "list", data := .seq its'.toArray n' } := by
    rw [Heap.get?_update_self f ho (by rw [hf] <;> rfl), hf]
  refine I.write (x := p) (e := p) (by rw [h]; trivial) (.inl rfl) (fun b u hb q => (Heap.get?_update_other _ _ (Ne.symm hb)).trans q) ⟨_, e⟩ ?_
  exact ⟨hz, its', n', r, e⟩
noncomputable def rSetL : V → V → V → Hp → (Hp → Prop) → Prop := fun o i v H Q => ∃ p xs k j, o = .ref p ∧ i = .int k ∧ H p = some (.lst xs) ∧ ixN xs.length k = some j ∧ Q (upd H p (.lst (xs.set j v)))
theorem set_list : PSet X rSetL := by
  intro pins s σ H o i v ov iv u Q I ro ri rv h
  obtain ⟨p, xs, k, j, rfl, rfl, hp, hj, q⟩ := h
  cases ro
  obtain ⟨t, rfl⟩ := ri
  obtain ⟨its, n, r, ho, hz⟩ := I.lst hp
  obtain ⟨h1, h2, h3, h4⟩ := ixN_seq hj
  have hl := r.length
  have hn := line63
  have I' : Inv X pins σ (upd H p (.lst (xs.set j v))) { s with heap := s.heap.update p (Obj.mapSeq (·.setIfInBounds j u)) } :=
    I.lstUpd hp ho (mapSeq_set its n j u) (r.set rv j) (by rw [List.length_set]; exact hz) s.toks
  by_cases h0 : 0 ≤ k
  · have hk : k.toNat = j := by
      rw [seqIndex_of h0 h4] at h1
      exact Option.some.inj h1
    exact PySem.W.ki_setAt ho h0 (by omega) (by rw [List.size_toArray, ← hl]; exact h4) (by rw [hk]; exact ⟨_, I', q⟩)
  · have hk : (k + (its.toArray.size : Int)).toNat = j := by
      rw [seqIndex_neg (by omega) h3] at h1
      rw [List.size_toArray, ← hl]
      exact Option.some.inj h1
    exact PySem.W.ki_setBack ho (by omega) (by rw [List.size_toArray, ← hl]; exact h3) (by omega) (by rw [hk]; exact ⟨_, I', q⟩)
theorem slice_bounds (lo hi : Option Int) (n : Nat) : (sliceBounds lo hi none n).1 = ((HT.sIx n 0 lo : Nat) : Int) ∧ (sliceBounds lo hi none n).2.1 = ((HT.sIx n n hi : Nat) : Int) ∧ (sliceBounds lo hi none n).2.2 = 1 := by
  refine ⟨?_, ?_, rfl⟩
  · cases lo with
    | none => simp [sliceBounds, HT.sIx]
    | some i =>
      simp only [sliceBounds, HT.sIx, Option.getD_none, show (1 : Int) > 0 by decide, if_true]
      by_cases h : i < 0
      · simp only [h, if_true] <;> omega
      · simp only [h, if_false] <;> omega
  · cases hi with
    | none => simp [sliceBounds, HT.sIx]
    | some i =>
      simp only [sliceBounds, HT.sIx, Option.getD_none, show (1 : Int) > 0 by decide, if_true]
      by_cases h : i < 0
      · simp only [h, if_true] <;> omega
      · simp only [h, if_false] <;> omega
theorem slicePick_cut (its : List Value) (lo hi : Option Int) : slicePick its.toArray lo hi none = ((its.drop (HT.sIx its.length 0 lo)).take (HT.sIx its.length its.length hi - HT.sIx its.length 0 lo)).toArray := by
  obtain ⟨h1, h2, h3⟩ := slice_bounds lo hi its.toArray.size
  unfold slicePick
  rw [h1, h2, h3]
  simp only [sliceRange_one, pick_run, List.size_toArray] <;> rfl
noncomputable def rSlL (K : PySem.W.Frag) : V → Option Int → Option Int → Hp → VK → Prop := fun x lo hi H Q => ∃ a xs, x = .ref a ∧ SqL K H a xs ∧ ∀ p, H p = none → Q (.ref p) (upd H p (.lst (cutV xs lo hi)))
theorem sl_list : SlR X (rSlL X.K) := by
  intro pins s σ H x v vl vu lo hi sl Q I rx hs pl pu h
  obtain ⟨a, xs, rfl, hx, q⟩ := h
  cases rx
  obtain ⟨its, r, ht, hz⟩ := I.list hx
  have hlen := r.length
  refine ⟨"list", _, slot_list_getitem.lookup, ht.isList.typeIs, ?_⟩
  refine wpAny_getItem_list_slice ht.isList hs pl pu .none (by simp) ?_ (by rw [List.size_toArray] <;> omega)
  rw [slicePick_cut, ← hlen]
  refine ⟨.ref s.heap.objs.size, _, I.laid (t' := s.toks) (o := .lst (cutV xs lo hi)) (fun b ob q => Heap.get?_push_of_some _ q) (Nat.le_refl _) ?_, rfl, q _ (I.hok.fresh (Nat.le_refl _))⟩
  exact ⟨Nat.le_trans (cutV_length xs lo hi) hz, _, 0, (r.drop (HT.sIx xs.length 0 lo)).take (HT.sIx xs.length xs.length hi - HT.sIx xs.length 0 lo), Heap.get?_push_size _ rfl⟩
noncomputable def flatV : V → Bool
  | .non => true
  | .bl _ => true
  | .int _ => true
  | .str _ => true
  | _ => false
noncomputable def eqV : V → V → Bool
  | .non, .non => true
  | .bl a, .bl b => a == b
  | .bl a, .int b => (if a then 1 else 0) == b
  | .int a, .bl b => a == (if b then 1 else 0)
  | .int a, .int b => a == b
  | .str a, .str b => a == b
  | _, _ => false
theorem eqAt_V {A : Around} {s : Shared} {y x : V} {u v : Value} (ry : RelV y u) (rx : RelV x v) (fy : flatV y = true) (fx : flatV x = true) : SeqAt.EqAt A s u v (eqV y x) := by
  cases y with
  | non =>
    cases ry
    cases x with
    | non => cases rx; exact SeqAt.EqAt.same _
    | bl b => cases rx; exact SeqAt.EqAt.none_bool b
    | int b => obtain ⟨t, rfl⟩ := rx; exact SeqAt.EqAt.none_int b t
    | str b => obtain ⟨t, rfl⟩ := rx; exact SeqAt.EqAt.none_str b t
    | _ => exact absurd (show false = true from fx) Bool.false_ne_true
  | bl a =>
    cases ry
    cases x with
    | non => cases rx; exact SeqAt.EqAt.bool_none a
    | bl b => cases rx; exact SeqAt.EqAt.bool_bool a b
    | int b => obtain ⟨t, rfl⟩ := rx; exact SeqAt.EqAt.bool_int a b t
    | str b => obtain ⟨t, rfl⟩ := rx; exact SeqAt.EqAt.bool_str a b t
    | _ => exact absurd (show false = true from fx) Bool.false_ne_true
  | int a =>
    obtain ⟨t', rfl⟩ := ry
    cases x with
    | non => cases rx; exact SeqAt.EqAt.int_none a t'
    | bl b => cases rx; exact SeqAt.EqAt.int_bool a t' b
    | int b => obtain ⟨t, rfl⟩ := rx; exact SeqAt.EqAt.int_int a t' b t
    | str b => obtain ⟨t, rfl⟩ := rx; exact SeqAt.EqAt.int_str a t' b t
    | _ => exact absurd (show false = true from fx) Bool.false_ne_true
  | str a =>
    obtain ⟨t', rfl⟩ := ry
    cases x with
    | non => cases rx; exact SeqAt.EqAt.str_none a t'
    | bl b => cases rx; exact SeqAt.EqAt.str_bool a t' b
    | int b => obtain ⟨t, rfl⟩ := rx; exact SeqAt.EqAt.str_int a t' b t
    | str b => obtain ⟨t, rfl⟩ := rx; exact SeqAt.EqAt.str_str a t' b t
    | _ => exact absurd (show false = true from fx) Bool.false_ne_true
  | _ => exact absurd (show false = true from fy) Bool.false_ne_true
noncomputable def eqU (x : V) (u : Value) : Bool := match u with
  | .none => eqV .non x
  | .bool b => eqV (.bl b) x
  | .int i _ => eqV (.int i) x
  | .str z _ => eqV (.str z) x
  | _ => false
theorem eqU_of {x y : V} {u : Value} (r : RelV y u) (f : flatV y = true) : eqU x u = eqV y x := by
  cases y with
  | non => cases r; rfl
  | bl b => cases r; rfl
  | int i => obtain ⟨t, rfl⟩ := r; rfl
  | str z => obtain ⟨t, rfl⟩ := r; rfl
  | _ => exact absurd (show false = true from f) Bool.false_ne_true
theorem any_eqU {x : V} : ∀ {xs : List V} {us : List Value}, Vals xs us → xs.all flatV = true → us.any (eqU x) = xs.any fun y => eqV y x
  | _, _, .nil, _ => rfl
  | y :: xs, u :: us, .cons r t, f => by
    rw [List.all_cons, Bool.and_eq_true] at f
    rw [List.any_cons, List.any_cons, eqU_of r f.1, any_eqU t f.2]
theorem mem_eqAt {A : Around} {s : Shared} {x : V} {v : Value} (rx : RelV x v) (fx : flatV x = true) : ∀ {xs : List V} {us : List Value}, Vals xs us → xs.all flatV = true → ∀ u ∈ us, SeqAt.EqAt A s u v (eqU x u)
  | _, _, .nil, _ => fun u hu => by cases hu
  | y :: xs, u :: us, .cons r t, f => fun u' hu => by
    rw [List.all_cons, Bool.and_eq_true] at f
    rcases List.mem_cons.mp hu with rfl | hu
    · rw [eqU_of r f.1]; exact eqAt_V r rx f.1 fx
    · exact mem_eqAt rx fx t f.2 u' hu
noncomputable def inV (x : V) (xs : List V) : Bool := xs.any fun y => eqV y x
noncomputable def rIn (K : PySem.W.Frag) (neg : Bool) : R2 := fun x y H Q => ∃ p xs, y = .ref p ∧ (SqL K H p xs ∨ SqT K H p xs) ∧ flatV x = true ∧ xs.all flatV = true ∧ Q (.bl (if neg then !inV x xs else inV x xs)) H
theorem op_in_seq : OpR X (compareOp .In) (rIn X.K false) := by
  intro pins s σ H x y v u Q I rx ry h
  obtain ⟨p, xs, rfl, hq, fx, fs, q⟩ := h
  cases ry
  rcases hq with hq | hq
  · obtain ⟨its, r, pl, hz⟩ := I.list hq
    refine SeqAt.in_listAt (eqU x) pl.isList (fun w hw => mem_eqAt rx fx r fs w (by simpa using hw)) ⟨.bl _, H, I, rfl, ?_⟩
    rw [show its.toArray.any (eqU x) = its.any (eqU x) by simp, any_eqU r fs]
    exact q
  · obtain ⟨its, r, pl, hz⟩ := I.tuple hq
    refine SeqAt.in_tupleAt (eqU x) pl (fun w hw => mem_eqAt rx fx r fs w (by simpa using hw)) ⟨.bl _, H, I, rfl, ?_⟩
    rw [show its.toArray.any (eqU x) = its.any (eqU x) by simp, any_eqU r fs]
    exact q
theorem op_notIn_seq : OpR X (compareOp .NotIn) (rIn X.K true) := by
  intro pins s σ H x y v u Q I rx ry h
  obtain ⟨p, xs, rfl, hq, fx, fs, q⟩ := h
  cases ry
  rcases hq with hq | hq
  · obtain ⟨its, r, pl, hz⟩ := I.list hq
    refine SeqAt.notIn_listAt (eqU x) pl.isList (fun w hw => mem_eqAt rx fx r fs w (by simpa using hw)) ⟨.bl _, H, I, rfl, ?_⟩
    rw [show its.toArray.any (eqU x) = its.any (eqU x) by simp, any_eqU r fs]
    exact q
  · obtain ⟨its, r, pl, hz⟩ := I.tuple hq
    refine SeqAt.notIn_tupleAt (eqU x) pl (fun w hw => mem_eqAt rx fx r fs w (by simpa using hw)) ⟨.bl _, H, I, rfl, ?_⟩
    rw [show its.toArray.any (eqU x) = its.any (eqU x) by simp, any_eqU r fs]
    exact q
theorem call_list_of : CallR X (.type "list") (fun xs H Q => ∃ p ys, xs = [.ref p] ∧ (SqL X.K H p ys ∨ SqT X.K H p ys) ∧ ∀ l, H l = none → Q (.ref l) (upd H l (.lst ys))) := by
  intro pins s σ H xs us Q I r h
  obtain ⟨p, ys, rfl, hq, q⟩ := h
  obtain ⟨u, rfl, rx⟩ := vals1 r
  cases rx
  have fin : ∀ (its : List Value), Vals ys its → ys.length ≤ sizeLine → ∀ (h' : Heap) (c' : Nat), (∀ b o', s.heap.get? b = some o' → h'.get? b = some o') →
      h'.get? s.heap.objs.size = some { cls := .type "list", dict := none, data := .seq its.toArray c', slots := #[] } → EP X pins σ Q (.ref s.heap.objs.size) { s with heap := h' } := fun its r' hz h' c' kp e =>
    ⟨.ref s.heap.objs.size, _, I.laid (t' := s.toks) kp (Nat.le_refl _) (show ObjOk X.prog X.w _ h' _ (.lst ys) from ⟨hz, its, c', r', e⟩), rfl, q _ (I.hok.fresh (Nat.le_refl _))⟩
  rcases hq with hq | hq
  · obtain ⟨its, r', pl, hz⟩ := I.list hq
    have hlen := r'.length
    obtain ⟨o, ho, hc, n, hd⟩ := pl.isList
    exact call_list_seq p (.inl rfl) ho hc hd (fun h' c' kp e => fin its r' hz h' c' kp e) (by simp only [List.size_toArray] <;> omega)
  · obtain ⟨its, r', pl, hz⟩ := I.tuple hq
    have hlen := r'.length
    obtain ⟨o, ho, hc, n, hd⟩ := pl
    exact call_list_seq p (.inr rfl) ho hc hd (fun h' c' kp e => fin its r' hz h' c' kp e) (by simp only [List.size_toArray] <;> omega)
theorem call_tuple_of : CallR X (.type "tuple") (fun xs H Q => ∃ p ys, xs = [.ref p] ∧ ((SqL X.K H p ys ∧ ∀ l, H l = none → Q (.ref l) (upd H l (.tup ys))) ∨ (SqT X.K H p ys ∧ Q (.ref p) H))) := by
  intro pins s σ H xs us Q I r h
  obtain ⟨p, ys, rfl, h⟩ := h
  obtain ⟨u, rfl, rx⟩ := vals1 r
  cases rx
  rcases h with ⟨hq, q⟩ | ⟨hq, q⟩
  · obtain ⟨its, r', pl, hz⟩ := I.list hq
    have hlen := r'.length
    refine call_tuple_list pl.isList (fun h' kp => ?_) (by simp only [List.size_toArray] <;> omega)
    have I1 : Inv X pins σ H { s with heap := h' } := I.kept (t' := s.toks) kp
    have I2 : Inv X pins σ (upd H h'.objs.size (.tup ys)) { s with heap := h'.push { cls := .type "tuple", data := .seq its.toArray } } :=
      I1.laid (t' := s.toks) (fun b o e => Heap.get?_push_of_some _ e) (Nat.le_refl _) (show ObjOk X.prog X.w _ _ _ (.tup ys) from ⟨hz, its, r', TupN.new _ _⟩)
    exact ⟨.ref h'.objs.size, _, I2, rfl, q _ (I1.hok.fresh (Nat.le_refl _))⟩
  · obtain ⟨its, r', pl, hz⟩ := I.tuple hq
    exact call_tuple_same pl ⟨.ref p, H, I, rfl, q⟩
noncomputable def tyV (K : PySem.W.Frag) (T : String) (x : V) (H : Hp) : Prop := match x with
  | .str _ => T = "str"
  | .int _ => T = "int"
  | .ref p => (T = "list" ∧ ∃ xs, SqL K H p xs) ∨ (T = "tuple" ∧ ∃ o, K.lookup p = some o ∧ o.cls = .type "tuple" ∧ o.dict = none) ∨
      (T = "dict" ∧ ((∃ kvs, H p = some (.dK kvs)) ∨ ∃ kvs, H p = some (.dT kvs))) ∨ (T = "set" ∧ ∃ S n, H p = some (.set S n))
  | _ => False
theorem tyV_is {pins : List (Addr × Obj)} {σ : St} {H : Hp} {s : Shared} {T : String} {x : V} {v : Value} (I : Inv X pins σ H s) (r : RelV x v) (ty : tyV X.K T x H) :
    s.TypeIs v T ∧ ∀ a, v = .ref a → ∃ ob, s.heap.get? a = some ob ∧ ob.dict = none := by
  cases x with
  | str z =>
    obtain ⟨t, rfl⟩ := r
    cases (show T = "str" from ty)
    exact ⟨typeIs_str s z t, fun _ e => nomatch e⟩
  | int i =>
    obtain ⟨t, rfl⟩ := r
    cases (show T = "int" from ty)
    exact ⟨typeIs_int s i t, fun _ e => nomatch e⟩
  | ref p =>
    cases r
    rcases ty with ⟨rfl, xs, hq⟩ | ⟨rfl, o, hk, hc, hd⟩ | ⟨rfl, hk⟩ | ⟨rfl, S, n, hk⟩
    · obtain ⟨its, _, pl, _⟩ := I.list hq
      refine ⟨pl.isList.typeIs, fun a e => ?_⟩
      cases e
      obtain ⟨o, n, e, c, hd, _⟩ := pl
      exact ⟨o, e, hd⟩
    · refine ⟨⟨o, I.kIn p o hk, hc⟩, fun a e => ?_⟩
      cases e
      exact ⟨o, I.kIn _ o hk, hd⟩
    · have z : ∃ o, s.heap.get? p = some o ∧ o.ExactDict := by
        rcases hk with ⟨kvs, hk⟩ | ⟨kvs, hk⟩
        · obtain ⟨_, _, _, _, o, _, _, e, ex, _⟩ := I.hok p _ hk
          exact ⟨o, e, ex⟩
        · obtain ⟨_, _, _, _, o, _, _, e, ex, _⟩ := I.hok p _ hk
          exact ⟨o, e, ex⟩
      obtain ⟨o, e, ex⟩ := z
      refine ⟨⟨o, e, ex.1⟩, fun a e2 => ?_⟩
      cases e2
      exact ⟨o, e, ex.2.1⟩
    · obtain ⟨o, _, _, _, e, ex, _⟩ := I.hok p _ hk
      refine ⟨⟨o, e, ex.1⟩, fun a e2 => ?_⟩
      cases e2
      exact ⟨o, e, ex.2.1⟩
  | _ => exact False.elim ty
noncomputable def tBM (K : PySem.W.Frag) (T : String) (r : V → List V → Hp → VK → Prop) (to : TE) (t : TA) : TE := fun σ H Q => to σ H fun x H1 => tyV K T x H1 ∧ t σ H1 fun xs H2 => r x xs H2 Q
variable {o e : Expr} {es : List Expr} {to : TE} {t : TA} {name : Str} {apos cpos : Pos} {T id : String} {r : V → List V → Hp → VK → Prop}
theorem pe_bm (pa : PlainAttrs T) (slot : Slot T name id) (hty : typeOf (.builtin id) = pure (.type "method_descriptor")) (hm : MtR X id r) (ho : PE X o to) (ha : PA X (e :: es) t)
    (hbase : attributeBase o name X.env (eval o X.env) = eval o X.env := by rfl)
    (hfew : ((backTo cpos (starEach (e :: es) X.env)).all (fun x => !x.1) && (backToKw cpos (keywordEach [] X.env)).all (fun x => x.1.isSome)
      && decide ((e :: es).length + ([] : List Keyword).length + (if ([] : List Keyword).isEmpty then 0 else 1) < 30)) = true := by rfl)
    (hline : (apos.endLine == cpos.line) = true := by rfl) (hs : starEach (e :: es) X.env = (false, eval e X.env) :: starEach es X.env := by rfl) (hplain : (backTo cpos (starEach es X.env)).any (·.1) = false := by rfl) :
    PE X (.Call (.Attribute o name apos) (e :: es) [] cpos) (tBM X.K T r to t) := by
  intro pins s σ H Q I h
  refine wpAny_Call_method_late hbase hfew hline rfl (thn (ho pins s σ H _ I h) fun v s1 ⟨x, H1, I1, r1, ty, q1⟩ => ?_)
  obtain ⟨h1, h2⟩ := tyV_is I1 r1 ty
  refine ⟨T, id, pa, slot, hty, h1, h2, ?_⟩
  have hA := ha cpos pins s1 σ H1 _ I1 q1
  rw [hs] at hA ⊢
  refine Calls.callWith_builtin (by show (false || (backTo cpos (starEach es X.env)).any (·.1)) = false; rw [hplain] <;> rfl) (Calls.evalArgs_plain ?_)
  exact thn hA fun us s2 ⟨vs, H2, I2, r2, q2⟩ => hm pins s2 σ H2 x vs v us Q I2 r1 r2 q2
end
end L2
namespace L2
open PySem PySem.Spec PyProof.Rows
noncomputable def MtM (X : Cx) (id : String) (r : V → List V → Hp → VK → Prop) : Prop :=
  ∀ (pins : List (Addr × Obj)) (s : Shared) (σ : St) (H : Hp) (x : V) (xs : List V) (v : Value) (us : List Value) (Q : VK), Inv X pins σ H s → RelV x v → Vals xs us → r x xs H Q →
    wpAny (model X.prog X.w) X.A (call (.builtin id) (v :: us)) (EP X pins σ Q) X.xe s
theorem Vals.one : ∀ {x : V} {us : List Value}, Vals [x] us → ∃ u, us = [u] ∧ RelV x u
  | _, _, .cons r .nil => ⟨_, rfl, r⟩
theorem Vals.reverse {xs : List V} {us : List Value} (h : Vals xs us) : Vals xs.reverse us.reverse := by
  induction h with
  | nil => exact .nil
  | cons r t ih => rw [List.reverse_cons, List.reverse_cons]; exact Vals.append ih (.cons r .nil)
theorem Vals.rep {xs : List V} {us : List Value} (h : Vals xs us) : ∀ k : Nat, Vals (List.replicate k xs).flatten (List.replicate k us).flatten
  | 0 => .nil
  | k + 1 => by
    rw [List.replicate_succ, List.replicate_succ, List.flatten_cons, List.flatten_cons]
    exact Vals.append h (Vals.rep h k)
theorem foldl_rep (its : List Value) : ∀ (k : Nat) (acc : List Value),
    List.foldl (fun x1 x2 => x1 ++ x2) acc.toArray (List.replicate k its.toArray) = (acc ++ (List.replicate k its).flatten).toArray
  | 0, acc => by simp
  | k + 1, acc => by
    have e : acc.toArray ++ its.toArray = (acc ++ its).toArray := by simp
    have e2 : (acc ++ its) ++ (List.replicate k its).flatten = acc ++ (List.replicate (k + 1) its).flatten := by
      rw [List.replicate_succ, List.flatten_cons, List.append_assoc]
    rw [← e2, ← foldl_rep its k (acc ++ its), ← e, List.replicate_succ, List.foldl_cons]
section
variable {X : Cx} {pins : List (Addr × Obj)} {σ : St} {H : Hp} {s : Shared} {l b : Addr} {xs ys zs : List V}
theorem Inv.lset {its its' : List Value} {n : Nat} {f : Array Value → Array Value} {t' : Nat} (I : Inv X pins σ H s) (hH : H l = some (.lst xs))
    (e : s.heap.get? l = some { cls := .type "list", data := .seq its.toArray n }) (hf : f its.toArray = its'.toArray) (hv : Vals ys its') (hz : ys.length ≤ sizeLine) :
    Inv X pins σ (upd H l (.lst ys)) { s with heap := s.heap.update l (Obj.mapSeq f), toks := t' } := by
  have q := PySem.IsL.update e f
  rw [hf] at q
  refine I.write (x := l) (e := l) (by rw [hH]; exact trivial) (.inl rfl) (fun b' u hb hu => (Heap.get?_update_other s.heap (Obj.mapSeq f) (Ne.symm hb)).trans hu) ⟨_, q⟩ ?_
  exact ⟨hz, its', _, hv, q⟩
theorem Inv.lnew {its : List Value} {t' : Nat} (I : Inv X pins σ H s) (hv : Vals ys its) (hz : ys.length ≤ sizeLine) :
    Inv X pins σ (upd H s.heap.objs.size (.lst ys)) { s with heap := s.heap.push { cls := .type "list", data := .seq its.toArray }, toks := t' } :=
  I.laid (fun _ _ q => Heap.get?_push_of_some _ q) (Nat.le_refl _) ⟨hz, its, 0, hv, Heap.get?_push_size _ rfl⟩
theorem Inv.fresh (I : Inv X pins σ H s) : H s.heap.objs.size = none := I.hok.fresh (Nat.le_refl _)
theorem Inv.lstM (I : Inv X pins σ H s) (hH : H l = some (.lst xs)) : xs.length ≤ sizeLine ∧ ∃ (its : List Value) (n : Nat), Vals xs its ∧ xs.length = its.length ∧ s.heap.get? l = some { cls := .type "list", data := .seq its.toArray n } := by
  obtain ⟨z, its, n, r, e⟩ := I.hok l _ hH
  exact ⟨z, its, n, r, r.length, e⟩
theorem notLongL {n : Nat} (h : n ≤ sizeLine) : Builtin.List.listTooLong n = false := by
  unfold Builtin.List.listTooLong
  exact decide_eq_false (by omega)
end
section
variable {X : Cx}
noncomputable def rAppend : V → List V → Hp → VK → Prop := fun x vs H Q => ∃ l xs y, x = .ref l ∧ vs = [y] ∧ H l = some (.lst xs) ∧ xs.length < sizeLine ∧ Q .non (upd H l (.lst (xs ++ [y])))
theorem mt_append : MtM X "list.append" rAppend := by
  intro pins s σ H x vs v us Q I rx rv h
  obtain ⟨l, xs, y, rfl, rfl, hH, hz, q⟩ := h
  cases rx
  obtain ⟨u, rfl, ru⟩ := rv.one
  obtain ⟨z, its, n, r, hl, e⟩ := I.lstM hH
  refine call_meets F.slot_list_append ⟨_, e, rfl⟩ F.entry_list_append (F.args_list_append_2 _ _) (PySem.list_append l its.toArray n u (by rw [List.size_toArray]; omega)) ⟨e, ?_⟩
  refine ⟨.non, _, I.lset (its' := its ++ [u]) hH e (by simp) (r.append (.cons ru .nil)) ?_, rfl, q⟩
  rw [List.length_append, List.length_singleton]
  omega
noncomputable def rCat : R2 := fun x y H Q => ∃ l b xs zs, x = .ref l ∧ y = .ref b ∧ H l = some (.lst xs) ∧ H b = some (.lst zs) ∧ xs.length + zs.length ≤ sizeLine ∧ ∀ p, H p = none → Q (.ref p) (upd H p (.lst (xs ++ zs)))
theorem op_cat : OpR X (binaryOp .Add) rCat := by
  intro pins s σ H x y v u Q I rx ry h
  obtain ⟨l, b, xs, zs, rfl, rfl, hH, hB, hz, q⟩ := h
  cases rx
  cases ry
  obtain ⟨z, its, n, r, hl, e⟩ := I.lstM hH
  obtain ⟨z2, its2, n2, r2, hl2, e2⟩ := I.lstM hB
  refine PySem.P.add_list e e2 ?_ (by rw [List.size_toArray, List.size_toArray]; omega)
  have ea : its.toArray ++ its2.toArray = (its ++ its2).toArray := by simp
  rw [ea]
  exact ⟨.ref _, _, I.lnew (t' := s.toks) (r.append r2) (by rw [List.length_append]; omega), rfl, q _ I.fresh⟩
noncomputable def rRep : R2 := fun x y H Q => ∃ l k xs, x = .ref l ∧ y = .int k ∧ H l = some (.lst xs) ∧ -(2 ^ 63) ≤ k ∧ k < 2 ^ 63 ∧ xs.length * k.toNat ≤ sizeLine ∧
  ∀ p, H p = none → Q (.ref p) (upd H p (.lst (List.replicate k.toNat xs).flatten))
theorem len_rep {α : Type} (xs : List α) (k : Nat) : (List.replicate k xs).flatten.length = k * xs.length := by
  induction k with
  | zero => simp
  | succ k ih => rw [List.replicate_succ, List.flatten_cons, List.length_append, ih, Nat.succ_mul, Nat.add_comm]
theorem op_rep : OpR X (binaryOp .Mult) rRep := by
  intro pins s σ H x y v u Q I rx ry h
  obtain ⟨l, k, xs, rfl, rfl, hH, h1, h2, hz, q⟩ := h
  cases rx
  obtain ⟨t, rfl⟩ := ry
  obtain ⟨z, its, n, r, hl, e⟩ := I.lstM hH
  have hlen : its.toArray.size * k.toNat ≤ sizeLine := by rw [List.size_toArray, ← hl]; exact hz
  have hcap : ¬ its.toArray.size * k.toNat > (2 ^ 63 - 1) / 8 := by
    have : (sizeLine : Nat) ≤ (2 ^ 63 - 1) / 8 := by decide
    omega
  have hfit : ¬ (!Builtin.List.listFitsIndex k) = true := by
    rw [fitsIndex_both h1 h2]
    exact Bool.false_ne_true
  have hlong : ¬ Builtin.List.listTooLong (its.toArray.size * k.toNat) = true := by
    rw [notLongL hlen]
    exact Bool.false_ne_true
  have hnew : List.foldl (fun x1 x2 => x1 ++ x2) #[] (List.replicate (if its.toArray.isEmpty = true then 0 else k.toNat) its.toArray) = (List.replicate k.toNat its).flatten.toArray := by
    have f0 : ∀ m : Nat, List.foldl (fun x1 x2 => x1 ++ x2) #[] (List.replicate m its.toArray) = (List.replicate m its).flatten.toArray := fun m => by
      have := foldl_rep its m []
      rw [List.nil_append] at this
      exact this
    rw [f0]
    cases its with
    | nil => simp
    | cons a r' => rw [if_neg (by simp)]
  refine wpAny_binaryOp_repeat_ref (T := "list") (U := "int") (by decide) ⟨_, e, rfl⟩ (fun s' => typeIs_int s' k t) noFill_list_mul F.fills_int_mul F.slot_int_rmul repeat_list F.slot_int_index.lookup
    (call_meets F.slot_int_rmul (typeIs_int s k t) F.entry_int_rmul (F.args_int_rmul_2 _ _) (int___rmul___int_list k t l its.toArray n)
      ⟨e, rfl, ⟨_, e, rfl⟩, call_meets F.slot_list_mul ⟨_, e, rfl⟩ F.entry_list_mul (F.args_list_mul_2 _ _) (AutoListH.list___mul___list_int_3 l its.toArray n k t hfit hcap hlong) ⟨e, ?_⟩⟩)
  rw [hnew]
  exact ⟨.ref _, _, I.lnew (t' := s.toks) (r.rep k.toNat) (by rw [len_rep, Nat.mul_comm]; exact hz), rfl, q _ I.fresh⟩
end
end L2
namespace L2
open PySem PySem.Spec PyProof.Rows
section
variable {κ : Type} [DecidableEq κ]
noncomputable def valV (kvs : List (κ × V)) (k : κ) : Option V := (kvs.find? fun kv => decide (kv.1 = k)).map (·.2)
noncomputable def putK (kvs : List (κ × V)) (k : κ) (v : V) : List (κ × V) :=
  if (kvs.any fun kv => decide (kv.1 = k)) = true then kvs.map (fun kv => if kv.1 = k then (kv.1, v) else kv) else kvs ++ [(k, v)]
theorem valV_nil {k : κ} : valV ([] : List (κ × V)) k = none := rfl
theorem valV_pos {p : κ × V} {r : List (κ × V)} {k : κ} (e : p.1 = k) : valV (p :: r) k = some p.2 := by simp [valV, List.find?_cons, e]
theorem valV_neg {p : κ × V} {r : List (κ × V)} {k : κ} (e : ¬ p.1 = k) : valV (p :: r) k = valV r k := by simp [valV, List.find?_cons, e]
theorem valV_any (k : κ) : ∀ kvs : List (κ × V), (kvs.any fun kv => decide (kv.1 = k)) = (valV kvs k).isSome
  | [] => rfl
  | p :: r => by
    rw [List.any_cons]
    by_cases e : p.1 = k
    · simp only [valV_pos e, decide_eq_true e, Bool.true_or, Option.isSome_some]
    · rw [valV_neg e, decide_eq_false e, Bool.false_or]; exact valV_any k r
theorem valV_map (k j : κ) (y : V) : ∀ kvs : List (κ × V), valV (kvs.map fun kv => if kv.1 = k then (kv.1, y) else kv) j = (valV kvs j).map fun x => if j = k then y else x
  | [] => rfl
  | p :: r => by
    have ih := valV_map k j y r
    rw [List.map_cons]
    by_cases h : p.1 = k
    · rw [if_pos h]
      by_cases e : p.1 = j
      · rw [valV_pos (p := (p.1, y)) e, valV_pos e, Option.map_some, if_pos (e.symm.trans h)]
      · rw [valV_neg (p := (p.1, y)) e, valV_neg e, ih]
    · rw [if_neg h]
      by_cases e : p.1 = j
      · rw [valV_pos (p := p) e, valV_pos e, Option.map_some, if_neg (fun z => h (e.trans z))]
      · rw [valV_neg (p := p) e, valV_neg e, ih]
theorem valV_snoc (k j : κ) (y : V) : ∀ kvs : List (κ × V), valV kvs k = none → valV (kvs ++ [(k, y)]) j = if j = k then some y else valV kvs j
  | [], _ => by
    by_cases e : k = j
    · rw [if_pos e.symm]; exact valV_pos (p := (k, y)) e
    · rw [if_neg (fun z => e z.symm)]; exact valV_neg (p := (k, y)) e
  | p :: r, hn => by
    rw [List.cons_append]
    have hk : ¬ p.1 = k := fun z => by rw [valV_pos z] at hn; cases hn
    rw [valV_neg hk] at hn
    have ih := valV_snoc k j y r hn
    by_cases e : p.1 = j
    · rw [valV_pos e, valV_pos e, if_neg (fun z => hk (e.trans z))]
    · rw [valV_neg e, valV_neg e, ih]
theorem valV_put (kvs : List (κ × V)) (k j : κ) (y : V) : valV (putK kvs k y) j = if j = k then some y else valV kvs j := by
  unfold putK
  by_cases a : (kvs.any fun kv => decide (kv.1 = k)) = true
  · rw [if_pos a, valV_map]
    rw [valV_any] at a
    by_cases e : j = k
    · obtain ⟨x, hx⟩ := Option.isSome_iff_exists.mp a
      rw [if_pos e, e, hx, Option.map_some, if_pos rfl]
    · rw [if_neg e]
      cases valV kvs j with
      | none => rfl
      | some x => rw [Option.map_some, if_neg e]
  · rw [if_neg a]
    refine valV_snoc k j y kvs ?_
    rw [valV_any] at a
    cases q : valV kvs k with
    | none => rfl
    | some x => rw [q] at a; exact (a rfl).elim
theorem length_putK (kvs : List (κ × V)) (k : κ) (v : V) : (putK kvs k v).length ≤ kvs.length + 1 := by
  unfold putK
  split
  · rw [List.length_map]; omega
  · rw [List.length_append, List.length_cons, List.length_nil]; omega
theorem putK_new {kvs : List (κ × V)} {k : κ} (v : V) (h : valV kvs k = none) : putK kvs k v = kvs ++ [(k, v)] := by
  unfold putK
  rw [valV_any, h]
  exact if_neg (by decide)
theorem RelO.isSome_eq {o : Option V} {u : Option Value} (r : RelO o u) : o.isSome = u.isSome := by
  cases o with
  | none => cases u with
    | none => rfl
    | some _ => exact (show False from r).elim
  | some _ => cases u with
    | none => exact (show False from r).elim
    | some _ => rfl
theorem KV.val {kvs : List (κ × V)} {vs : List (κ × Value)} (r : KV kvs vs) (k : κ) : RelO (valV kvs k) (valueAt vs k) := by
  unfold KV at r
  induction r with
  | nil => exact True.intro
  | @cons p q ps qs h t ih =>
    obtain ⟨h1, h2⟩ := h
    by_cases e : p.1 = k
    · have e' : q.1 = k := h1.symm.trans e
      have b : valueAt (q :: qs) k = some q.2 := by simp [valueAt, List.find?_cons, e']
      rw [valV_pos e, b]; exact h2
    · have e' : ¬ q.1 = k := fun z => e (h1.trans z)
      have b : valueAt (q :: qs) k = valueAt qs k := by simp [valueAt, List.find?_cons, e']
      rw [valV_neg e, b]; exact ih
theorem KV.any {kvs : List (κ × V)} {vs : List (κ × Value)} (r : KV kvs vs) (k : κ) : (kvs.any fun kv => decide (kv.1 = k)) = vs.any fun kv => decide (kv.1 = k) := by
  unfold KV at r
  induction r with
  | nil => rfl
  | cons h t ih => rw [List.any_cons, List.any_cons, ih, h.1]
theorem KV.repl {kvs : List (κ × V)} {vs : List (κ × Value)} (r : KV kvs vs) (k : κ) {y : V} {u : Value} (ry : RelV y u) :
    KV (kvs.map fun kv => if kv.1 = k then (kv.1, y) else kv) (vs.map fun kv => if kv.1 = k then (kv.1, u) else kv) := by
  unfold KV at r ⊢
  induction r with
  | nil => exact .nil
  | @cons p q ps qs h t ih =>
    rw [List.map_cons, List.map_cons]
    refine .cons ?_ ih
    obtain ⟨h1, h2⟩ := h
    by_cases e : p.1 = k
    · rw [if_pos e, if_pos (h1.symm.trans e)]; exact ⟨h1, ry⟩
    · rw [if_neg e, if_neg (fun z => e (h1.trans z))]; exact ⟨h1, h2⟩
theorem KV.put {kvs : List (κ × V)} {vs : List (κ × Value)} (r : KV kvs vs) (k : κ) {y : V} {u : Value} (ry : RelV y u) : KV (putK kvs k y) (stored vs k u) := by
  unfold putK stored
  rw [r.any k]
  by_cases e : (vs.any fun kv => decide (kv.1 = k)) = true
  · rw [if_pos e, if_pos e]; exact r.repl k ry
  · rw [if_neg e, if_neg e]; exact Paired.snoc r ⟨rfl, ry⟩
theorem KV.length {kvs : List (κ × V)} {vs : List (κ × Value)} (r : KV kvs vs) : kvs.length = vs.length := Paired.length r
end
theorem kV_is {P : Program} {w : World} {k : Key} {u : Value} (r : RelV (kV k) u) : (mixKind P w).is k u = true := by
  cases k with
  | inl i => obtain ⟨t, e⟩ := (show ∃ t, u = Value.int i t from r); subst e; exact mixKind_int P w i t
  | inr x => obtain ⟨t, e⟩ := (show ∃ t, u = Value.str x t from r); subst e; exact mixKind_str P w x t
theorem items_are {P : Program} {w : World} : ∀ {ks : List Key} {us : List Value}, Vals (ks.map kV) us → ItemsAre (mixKind P w) ks us
  | [], _, r => by rw [List.map_nil] at r; cases r; exact .nil
  | k :: ks, _, r => by
    rw [List.map_cons] at r
    cases r with
    | cons h t => exact .cons (kV_is h) (items_are t)
noncomputable abbrev KT (H : Hp) : List (List Key × V) → List (List Key × Addr × Value) → Prop := Paired fun p q => p.1 = q.1 ∧ H q.2.1 = some (.tup (p.1.map kV)) ∧ RelV p.2 q.2.2
theorem KT.val {H : Hp} {kvs : List (List Key × V)} {xs : List (List Key × Addr × Value)} (r : KT H kvs xs) (k : List Key) : RelO (valV kvs k) ((atKey xs k).map (·.2)) := by
  induction r with
  | nil => exact True.intro
  | @cons p q ps qs h t ih =>
    obtain ⟨h1, _, h2⟩ := h
    by_cases e : p.1 = k
    · have e' : q.1 = k := h1.symm.trans e
      have b : atKey (q :: qs) k = some q.2 := by simp [atKey, List.find?_cons, e']
      rw [valV_pos e, b]; exact h2
    · have e' : ¬ q.1 = k := fun z => e (h1.trans z)
      have b : atKey (q :: qs) k = atKey qs k := by simp [atKey, List.find?_cons, e']
      rw [valV_neg e, b]; exact ih
theorem KT.repl {H : Hp} {kvs : List (List Key × V)} {xs : List (List Key × Addr × Value)} (r : KT H kvs xs) (k : List Key) {y : V} {u : Value} (ry : RelV y u) :
    KT H (kvs.map fun kv => if kv.1 = k then (kv.1, y) else kv) (xs.map (putAt k u)) := by
  induction r with
  | nil => exact .nil
  | @cons p q ps qs h t ih =>
    rw [List.map_cons, List.map_cons]
    refine .cons ?_ ih
    obtain ⟨h1, h2, h3⟩ := h
    unfold putAt
    by_cases e : p.1 = k
    · rw [if_pos e, if_pos (h1.symm.trans e)]; exact ⟨h1, h2, ry⟩
    · rw [if_neg e, if_neg (fun z => e (h1.trans z))]; exact ⟨h1, h2, h3⟩
theorem KT.put {H : Hp} {kvs : List (List Key × V)} {xs : List (List Key × Addr × Value)} (r : KT H kvs xs) (k : List Key) {b : Addr} {y : V} {u : Value} (hb : H b = some (.tup (k.map kV))) (ry : RelV y u) :
    KT H (putK kvs k y) (storedH xs k b u) := by
  have e : (kvs.any fun kv => decide (kv.1 = k)) = (atKey xs k).isSome := by
    rw [valV_any, (r.val k).isSome_eq, Option.isSome_map]
  unfold putK storedH
  rw [e]
  by_cases q : (atKey xs k).isSome = true
  · rw [if_pos q, if_pos q]; exact r.repl k ry
  · rw [if_neg q, if_neg q]; exact Paired.snoc r ⟨rfl, hb, ry⟩
theorem KT.keeps {H H' : Hp} {kvs : List (List Key × V)} {xs : List (List Key × Addr × Value)} (r : KT H kvs xs) (ht : ∀ b ys, H b = some (.tup ys) → H' b = some (.tup ys)) : KT H' kvs xs :=
  Paired.mapP r fun _ _ z => ⟨z.1, ht _ _ z.2.1, z.2.2⟩
section
variable {P : Program} {w : World} {H : Hp} {h : Heap} {a : Addr}
theorem rd_of {u : HO} (ok : HOk P w H h) (e : Rd H a u) : ObjOk P w H h a u := e.ok ok
theorem dk_rd {kvs : List (Key × V)} (ok : HOk P w H h) (e : Rd H a (.dK kvs)) : kvs.length ≤ sizeLine ∧ (a == sysModules) = false ∧ ∃ vs, KV kvs vs ∧ h.DictOf (mixKind P w) a vs :=
  show ObjOk P w H h a (.dK kvs) from rd_of ok e
theorem dk_of {kvs : List (Key × V)} (ok : HOk P w H h) (e : H a = some (.dK kvs)) : kvs.length ≤ sizeLine ∧ (a == sysModules) = false ∧ ∃ vs, KV kvs vs ∧ h.DictOf (mixKind P w) a vs := dk_rd ok (.inl e)
theorem key_of {ks : List Key} (ok : HOk P w H h) (e : H a = some (.tup (ks.map kV))) : (tupleKind (mixKind P w)).is h ks a := by
  obtain ⟨_, its, r, o, h1, h2, n, h3, _⟩ := (show ObjOk P w H h a (.tup (ks.map kV)) from ok a _ e)
  exact ⟨o, its.toArray, n, h1, h2, h3, by simpa using items_are r⟩
theorem dt_rd {kvs : List (List Key × V)} (ok : HOk P w H h) (e : Rd H a (.dT kvs)) : kvs.length ≤ sizeLine ∧ (a == sysModules) = false ∧
    ∃ xs, KT H kvs xs ∧ h.DictOfH (tupleKind (mixKind P w)) a xs := by
  obtain ⟨z, y, xs, r, o, es, ep, h1, h2, h3, h4, h5⟩ := (show ObjOk P w H h a (.dT kvs) from rd_of ok e)
  refine ⟨z, y, xs, r, o, es, ep, h1, h2, h3, h4, fun x hx => ?_, h5⟩
  have all : ∀ {l : List (List Key × V)} {m : List (List Key × Addr × Value)}, KT H l m → ∀ x ∈ m, (tupleKind (mixKind P w)).is h x.1 x.2.1 := by
    intro l m q
    induction q with
    | nil => intro x hx; exact nomatch hx
    | @cons p q ps qs hq t ih =>
      intro x hx
      rcases List.mem_cons.mp hx with e | hx
      · subst e
        exact key_of ok (by rw [← hq.1]; exact hq.2.1)
      · exact ih x hx
  exact all r x hx
theorem dt_of {kvs : List (List Key × V)} (ok : HOk P w H h) (e : H a = some (.dT kvs)) : kvs.length ≤ sizeLine ∧ (a == sysModules) = false ∧
    ∃ xs, KT H kvs xs ∧ h.DictOfH (tupleKind (mixKind P w)) a xs := dt_rd ok (.inl e)
end
noncomputable def DGet (H : Hp) (a : Addr) (y : V) (r : Option V) : Prop :=
  (∃ kvs k, Rd H a (.dK kvs) ∧ y = kV k ∧ r = valV kvs k) ∨ ∃ kvs k b, Rd H a (.dT kvs) ∧ y = .ref b ∧ H b = some (.tup (k.map kV)) ∧ r = valV kvs k
noncomputable def DPut (H : Hp) (a : Addr) (y v : V) (H' : Hp) : Prop :=
  (∃ kvs k, H a = some (.dK kvs) ∧ y = kV k ∧ kvs.length < sizeLine ∧ H' = upd H a (.dK (putK kvs k v))) ∨
  ∃ kvs k b, H a = some (.dT kvs) ∧ y = .ref b ∧ H b = some (.tup (k.map kV)) ∧ kvs.length < sizeLine ∧ H' = upd H a (.dT (putK kvs k v))
theorem DGet.k {H : Hp} {a : Addr} {kvs : List (Key × V)} {k : Key} (e : H a = some (.dK kvs)) : DGet H a (kV k) (valV kvs k) := .inl ⟨kvs, k, .inl e, rfl, rfl⟩
theorem DGet.t {H : Hp} {a b : Addr} {kvs : List (List Key × V)} {k : List Key} (e : H a = some (.dT kvs)) (eb : H b = some (.tup (k.map kV))) : DGet H a (.ref b) (valV kvs k) := .inr ⟨kvs, k, b, .inl e, rfl, eb, rfl⟩
theorem DPut.k {H : Hp} {a : Addr} {kvs : List (Key × V)} {k : Key} {v : V} (e : H a = some (.dK kvs)) (hl : kvs.length < sizeLine) : DPut H a (kV k) v (upd H a (.dK (putK kvs k v))) := .inl ⟨kvs, k, e, rfl, hl, rfl⟩
theorem DPut.t {H : Hp} {a b : Addr} {kvs : List (List Key × V)} {k : List Key} {v : V} (e : H a = some (.dT kvs)) (eb : H b = some (.tup (k.map kV))) (hl : kvs.length < sizeLine) :
    DPut H a (.ref b) v (upd H a (.dT (putK kvs k v))) := .inr ⟨kvs, k, b, e, rfl, eb, hl, rfl⟩
section
variable {X : Cx} {pins : List (Addr × Obj)} {σ : St} {H : Hp} {s : Shared} {a : Addr} {y v : V} {u r : Value} {o : Option V} {A : Around} {E : Value → Shared → Prop}
theorem Inv.big (I : Inv X pins σ H s) : sysModules < s.heap.objs.size := by
  have h : mainGlobals < s.heap.objs.size := (I.mod.glob.keeps I.bk).lt
  exact Nat.lt_trans (by decide) h
theorem d_getItem {Q : Value → Shared → Prop} (hu : A.units + 1 < cLine) (I : Inv X pins σ H s) (g : DGet H a y (some v)) (ry : RelV y u) (h : ∀ w' s', Inv X pins σ H s' → RelV v w' → Q w' s') :
    wpAny (model X.prog X.w) A (getItem (.ref a) u) Q E s := by
  rcases g with ⟨kvs, k, e, ey, l⟩ | ⟨kvs, k, b, e, ey, eb, l⟩
  · subst ey
    obtain ⟨z, hd, vs, rel, dd⟩ := dk_rd I.hok e
    obtain ⟨w', hw, rw'⟩ := RelO.some_of (v := v) (o := valueAt vs k) (by rw [l]; exact rel.val k)
    exact wpAny_getItem_of (kV_is ry) dd.mapOf hw (h w' _ (I.tok _) rw')
  · subst ey
    cases (show u = Value.ref b from ry)
    obtain ⟨z, hd, xs, rel, dd⟩ := dt_rd I.hok e
    obtain ⟨w', hw, rw'⟩ := RelO.some_of (v := v) (o := (atKey xs k).map (·.2)) (by rw [l]; exact rel.val k)
    obtain ⟨p, hp, hp2⟩ := Option.map_eq_some_iff.mp hw
    refine wpAny_getItem_heap (tupleKind_room_in1 hu) (key_of I.hok eb) dd hp ?_
    rw [hp2]
    exact h w' _ (I.tok _) rw'
theorem d_in {Q : Value → Shared → Prop} (hu : A.units + 1 < cLine) (I : Inv X pins σ H s) (g : DGet H a y o) (ry : RelV y u) (h : ∀ s', Inv X pins σ H s' → Q (.bool o.isSome) s') :
    wpAny (model X.prog X.w) A (compareOp .In u (.ref a)) Q E s := by
  rcases g with ⟨kvs, k, e, ey, l⟩ | ⟨kvs, k, b, e, ey, eb, l⟩
  · subst ey
    obtain ⟨z, hd, vs, rel, dd⟩ := dk_rd I.hok e
    refine wpAny_in_of (kV_is ry) hd dd.mapOf ?_
    rw [← (rel.val k).isSome_eq, ← l]
    exact h _ (I.tok _)
  · subst ey
    cases (show u = Value.ref b from ry)
    obtain ⟨z, hd, xs, rel, dd⟩ := dt_rd I.hok e
    refine wpAny_in_heap (tupleKind_room_in1 hu) (key_of I.hok eb) hd dd ?_
    have q := (rel.val k).isSome_eq
    rw [Option.isSome_map] at q
    rw [← q, ← l]
    exact h _ (I.tok _)
theorem d_notIn {Q : Value → Shared → Prop} (hu : A.units + 1 < cLine) (I : Inv X pins σ H s) (g : DGet H a y o) (ry : RelV y u) (h : ∀ s', Inv X pins σ H s' → Q (.bool (!o.isSome)) s') :
    wpAny (model X.prog X.w) A (compareOp .NotIn u (.ref a)) Q E s := by
  rcases g with ⟨kvs, k, e, ey, l⟩ | ⟨kvs, k, b, e, ey, eb, l⟩
  · subst ey
    obtain ⟨z, hd, vs, rel, dd⟩ := dk_rd I.hok e
    refine wpAny_notIn_of (kV_is ry) hd dd.mapOf ?_
    rw [← (rel.val k).isSome_eq, ← l]
    exact h _ (I.tok _)
  · subst ey
    cases (show u = Value.ref b from ry)
    obtain ⟨z, hd, xs, rel, dd⟩ := dt_rd I.hok e
    refine wpAny_notIn_heap (tupleKind_room_in1 hu) (key_of I.hok eb) hd dd ?_
    have q := (rel.val k).isSome_eq
    rw [Option.isSome_map] at q
    rw [← q, ← l]
    exact h _ (I.tok _)
theorem d_write {h' : Heap} {t' : Nat} {ob : HO} (I : Inv X pins σ H s) (mu : Mut (H a)) (hs : Heap.SameBut a s.heap h') (he : ∃ q, h'.get? a = some q) (new : ObjOk X.prog X.w (upd H a ob) h' a ob) :
    Inv X pins σ (upd H a ob) { s with heap := h', toks := t' } :=
  I.write (x := a) (e := a) mu (.inl rfl) (fun b q hb z => (hs.2 b hb).trans z) he new
theorem dk_new {P : Program} {w : World} {H' : Hp} {h' : Heap} {kvs : List (Key × V)} {vs : List (Key × Value)} (z : kvs.length ≤ sizeLine) (hd : (a == sysModules) = false) (rel : KV kvs vs) (dd : h'.DictOf (mixKind P w) a vs) :
    ObjOk P w H' h' a (.dK kvs) := ⟨z, hd, vs, rel, dd⟩
theorem d_setItem {H' : Hp} {Q : Unit → Shared → Prop} (hu : A.units + 1 < cLine) (I : Inv X pins σ H s) (g : DPut H a y v H') (ry : RelV y u) (rv : RelV v r) (h : ∀ s', Inv X pins σ H' s' → Q () s') :
    wpAny (model X.prog X.w) A (setItem (.ref a) u r) Q E s := by
  rcases g with ⟨kvs, k, e, ey, l, eH⟩ | ⟨kvs, k, b, e, ey, eb, l, eH⟩
  · subst ey eH
    obtain ⟨z, hd, vs, rel, dd⟩ := dk_of I.hok e
    have hz : vs.length ≤ sizeLine := by rw [← rel.length]; exact z
    have hl : (putK kvs k v).length ≤ sizeLine := by have := length_putK kvs k v; omega
    refine wpAny_setItem_pairs (hsz := hz) (kV_is ry) dd fun h' dd' hs => h _ ?_
    have he : ∃ q, h'.get? a = some q := let ⟨q, _, _, hq, _⟩ := dd'; ⟨q, hq⟩
    exact d_write I (by rw [e]; exact True.intro) hs he (dk_new hl hd (rel.put k rv) dd')
  · subst ey eH
    cases (show u = Value.ref b from ry)
    obtain ⟨z, hd, xs, rel, dd⟩ := dt_of I.hok e
    have hz : xs.length ≤ sizeLine := by rw [← Paired.length rel]; exact z
    have hl : (putK kvs k v).length ≤ sizeLine := by have := length_putK kvs k v; omega
    refine wpAny_setItem_heap (hsz := hz) (tupleKind_room_in1 hu) (key_of I.hok eb) dd fun h' dd' hs => h _ ?_
    obtain ⟨q, es, ep, hq, h2, h3, h4, _, h5⟩ := dd'
    refine d_write I (by rw [e]; exact True.intro) hs ⟨q, hq⟩ ⟨hl, hd, _, (rel.put k eb rv).keeps fun c ys ec => ?_, q, es, ep, hq, h2, h3, h4, h5⟩
    rw [upd_ne (ne_of ec e (fun z => nomatch z))]
    exact ec
end
section
variable {X : Cx} {pins : List (Addr × Obj)} {σ : St} {H : Hp} {s : Shared} {a : Addr} {kvs : List (Key × V)} {k : Key} {u : Value} {A : Around} {E : Value → Shared → Prop}
theorem d_len {Q : Value → Shared → Prop} (I : Inv X pins σ H s) (e : Rd H a (.dK kvs)) (h : ∀ t s', Inv X pins σ H s' → Q (.int kvs.length t) s') : wpAny (model X.prog X.w) A (call (.builtin "len") [.ref a]) Q E s := by
  obtain ⟨z, hd, vs, rel, dd⟩ := dk_rd I.hok e
  refine call_len_dict hd dd (by rw [← rel.length]; rw [sizeLine_eq] at z; omega) ?_
  rw [← rel.length]
  exact h _ _ (I.tok _)
end
theorem dict_typeIs {X : Cx} {pins : List (Addr × Obj)} {σ : St} {H : Hp} {s : Shared} {a : Addr} {y : V} {o : Option V} (I : Inv X pins σ H s) (g : DGet H a y o) : s.TypeIs (.ref a) "dict" := by
  rcases g with ⟨kvs, k, e, _, _⟩ | ⟨kvs, k, b, e, _, _, _⟩
  · obtain ⟨_, _, vs, _, dd⟩ := dk_rd I.hok e
    exact dd.typeIs
  · obtain ⟨_, _, xs, _, dd⟩ := dt_rd I.hok e
    exact dd.typeIs
theorem dk_empty {P : Program} {w : World} {H : Hp} (h : Heap) (hb : sysModules < h.objs.size) : ObjOk P w H (h.push { cls := .type "dict", data := .dict #[] }) h.objs.size (.dK []) :=
  ⟨Nat.zero_le _, beq_eq_false_iff_ne.mpr (Ne.symm (Nat.ne_of_lt hb)), [], .nil, Heap.DictOf.new h⟩
theorem dt_empty {P : Program} {w : World} {H : Hp} (h : Heap) (hb : sysModules < h.objs.size) : ObjOk P w H (h.push { cls := .type "dict", data := .dict #[] }) h.objs.size (.dT []) :=
  ⟨Nat.zero_le _, beq_eq_false_iff_ne.mpr (Ne.symm (Nat.ne_of_lt hb)), [], .nil, _, #[], 0, Heap.get?_push_size _ rfl, ⟨rfl, rfl, rfl⟩, rfl, rfl, List.nodup_nil⟩
noncomputable def tDNewK : TE := fun _ H Q => ∀ p, H p = none → Q (.ref p) (upd H p (.dK []))
noncomputable def tDNewT : TE := fun _ H Q => ∀ p, H p = none → Q (.ref p) (upd H p (.dT []))
section
variable {X : Cx} {pos : Pos}
theorem pe_dnewK : PE X (.Dict [] [] pos) tDNewK := fun pins s σ H Q I h =>
  wpAny_Dict_empty ⟨.ref s.heap.objs.size, _, I.laid (a := s.heap.objs.size) (o := .dK []) (t' := s.toks) (fun _ _ q => Heap.get?_push_of_some _ q) (Nat.le_refl _) (dk_empty s.heap I.big), rfl, h _ (I.hok.fresh (Nat.le_refl _))⟩
theorem pe_dnewT : PE X (.Dict [] [] pos) tDNewT := fun pins s σ H Q I h =>
  wpAny_Dict_empty ⟨.ref s.heap.objs.size, _, I.laid (a := s.heap.objs.size) (o := .dT []) (t' := s.toks) (fun _ _ q => Heap.get?_push_of_some _ q) (Nat.le_refl _) (dt_empty s.heap I.big), rfl, h _ (I.hok.fresh (Nat.le_refl _))⟩
end
noncomputable def tPairs : List (TE × TE) → St → Hp → (List (V × V) → Hp → Prop) → Prop
  | [], _, H, Q => Q [] H
  | (tk, tv) :: r, σ, H, Q => tk σ H fun x H1 => tv σ H1 fun y H2 => tPairs r σ H2 fun ps H3 => Q ((x, y) :: ps) H3
noncomputable abbrev VV : List (V × V) → List (Value × Value) → Prop := Paired fun p q => RelV p.1 q.1 ∧ RelV p.2 q.2
noncomputable def PPs (X : Cx) (pos : Pos) (keys : List (Option Expr)) (values : List Expr) (trs : List (TE × TE)) : Prop :=
  ∀ (pins : List (Addr × Obj)) (s : Shared) (σ : St) (H : Hp) (Q : List (V × V) → Hp → Prop), Inv X pins σ H s → tPairs trs σ H Q →
    wpAny (model X.prog X.w) X.A (evalPairs (pairTrees keys values X.env pos)) (fun vs s' => ∃ ps H', Inv X pins σ H' s' ∧ VV ps vs ∧ Q ps H') X.xe s
theorem pps_nil {X : Cx} {pos : Pos} : PPs X pos [] [] [] := fun pins s σ H Q I h => pairTrees_nil_walk ⟨[], H, I, .nil, h⟩
theorem pps_cons {X : Cx} {pos : Pos} {k v : Expr} {ks : List (Option Expr)} {vs : List Expr} {tk tv : TE} {trs : List (TE × TE)} (hk : PE X k tk) (hv : PE X v tv) (hr : PPs X pos ks vs trs) :
    PPs X pos (some k :: ks) (v :: vs) ((tk, tv) :: trs) := fun pins s σ H Q I h =>
  pairTrees_cons_walk (thn (hk pins s σ H _ I h) fun u s1 ⟨x, H1, I1, rx, q1⟩ => thn (hv pins s1 σ H1 _ I1 q1) fun w2 s2 ⟨y, H2, I2, ry, q2⟩ =>
    thn (hr pins s2 σ H2 _ I2 q2) fun ws s3 ⟨ps, H3, I3, rel, q3⟩ => ⟨(x, y) :: ps, H3, I3, .cons ⟨rx, ry⟩ rel, q3⟩)
noncomputable def mergeK (kvs more : List (Key × V)) : List (Key × V) := more.foldl (fun acc kv => putK acc kv.1 kv.2) kvs
theorem KV.merge : ∀ {more : List (Key × V)} {rs : List (Key × Value)} {kvs : List (Key × V)} {vs : List (Key × Value)}, KV more rs → KV kvs vs → KV (mergeK kvs more) (merged vs rs) := by
  intro more rs kvs vs r
  unfold KV at r
  induction r generalizing kvs vs with
  | nil => intro q; exact q
  | @cons p q ps qs h t ih =>
    intro r0
    have e : KV (putK kvs p.1 p.2) (stored vs q.1 q.2) := by
      have := r0.put p.1 h.2
      rw [← h.1]; exact this
    exact ih e
theorem length_mergeK : ∀ (more kvs : List (Key × V)), (mergeK kvs more).length ≤ kvs.length + more.length
  | [], kvs => by show kvs.length ≤ kvs.length + 0; omega
  | p :: r, kvs => by
    have h1 := length_mergeK r (putK kvs p.1 p.2)
    have h2 := length_putK kvs p.1 p.2
    show (mergeK (putK kvs p.1 p.2) r).length ≤ _
    rw [List.length_cons]; omega
theorem carries_of {P : Program} {w : World} : ∀ {kvs : List (Key × V)} {ws : List (Value × Value)}, VV (kvs.map fun kv => (kV kv.1, kv.2)) ws → ∃ rs, Carries (mixKind P w) ws rs ∧ KV kvs rs
  | [], _, r => by rw [List.map_nil] at r; cases r; exact ⟨[], True.intro, .nil⟩
  | p :: kvs, _, r => by
    rw [List.map_cons] at r
    cases r with
    | @cons a b as bs h t =>
      obtain ⟨rs, c, q⟩ := carries_of (P := P) (w := w) t
      obtain ⟨b1, b2⟩ := b
      exact ⟨(p.1, b2) :: rs, ⟨kV_is h.1, rfl, c⟩, .cons ⟨rfl, h.2⟩ q⟩
noncomputable def tDisp (trs : List (TE × TE)) : TE := fun σ H Q => ∀ p, H p = none → tPairs trs σ (upd H p (.dK [])) fun ps H2 => H2 p = some (.dK []) ∧ ∃ kvs : List (Key × V), ps = kvs.map (fun kv => (kV kv.1, kv.2)) ∧ kvs.length ≤ 15 ∧ Q (.ref p) (upd H2 p (.dK (mergeK [] kvs)))
theorem pe_disp {X : Cx} {pos : Pos} {keys : List (Option Expr)} {values : List Expr} {trs : List (TE × TE)} (h : PPs X pos keys values trs) (hall : keys.all (·.isSome) = true) (hl : keys.length = values.length) (h0 : keys ≠ [])
    (h15 : keys.length ≤ 15) : PE X (.Dict keys values pos) (tDisp trs) := by
  intro pins s σ H Q I q
  have hn := I.hok.fresh (Nat.le_refl s.heap.objs.size)
  have I1 := I.laid (a := s.heap.objs.size) (o := .dK []) (h' := s.heap.push { cls := .type "dict", data := .dict #[] }) (t' := s.toks) (fun _ _ q => Heap.get?_push_of_some _ q) (Nat.le_refl _) (dk_empty s.heap I.big)
  refine wpAny_Dict_walk (knd := mixKind X.prog X.w) hall hl h0 h15 (thn (h pins _ σ _ _ I1 (q _ hn)) fun ws s2 ⟨ps, H2, I2, rel, e, kvs, ep, lk, q2⟩ => ?_)
  subst ep
  obtain ⟨rs, c, rk⟩ := carries_of (P := X.prog) (w := X.w) rel
  obtain ⟨z, hd, vs0, r0, dd⟩ := dk_of I2.hok e
  cases r0
  refine ⟨rs, c, dd, fun h' dd' hs => ⟨.ref s.heap.objs.size, _, ?_, rfl, q2⟩⟩
  have hz : (mergeK [] kvs).length ≤ sizeLine := by
    have h1 := length_mergeK kvs []
    rw [List.length_nil] at h1
    rw [sizeLine_eq]; omega
  have he : ∃ q, h'.get? s.heap.objs.size = some q := let ⟨q, _, _, hq, _⟩ := dd'; ⟨q, hq⟩
  exact d_write I2 (by rw [e]; exact True.intro) hs he (dk_new hz hd (rk.merge .nil) dd')
noncomputable def IsD (H : Hp) (a : Addr) : Prop := (∃ kvs, Rd H a (.dK kvs)) ∨ ∃ kvs, Rd H a (.dT kvs)
end L2
namespace Att
open PySem PySem.W PySem.Calls PyProof.Rows
theorem ints_of_wellAll {P : Params} {h : Heap} : ∀ (ns : List Int) (vs : List Value), WellAll P h vs (ns.map WData.int) → IntsAre vs ns := by
  intro ns
  induction ns with
  | nil =>
    intro vs w
    rw [List.map_nil] at w
    cases w
    exact .nil
  | cons n ns ih =>
    intro vs w
    rw [List.map_cons] at w
    cases w with
    | cons a b =>
      cases a
      exact .cons _ _ (ih _ b)
theorem script_of {l : OpenLaw} {n : Nat} (hn : l.most = some n) {P : Params} {h : Heap} {args : List WData} {vals : List Value}
    (hpre : l.row.toRowW.claim.pre args = true) (hwl : WellAll P h vals args) :
    ∃ a vs ns, vals = [Value.ref a] ∧ args = [WData.list (ns.map WData.int)] ∧ h.get? a = some { cls := .type "list", data := .seq vs.toArray } ∧ IntsAre vs ns ∧ ns.length ≤ n := by
  have hsh : WShape.hasAll [] args [.list .int] = true := (pre_splitW hpre).1
  have hc : l.pre.holds [] { args := args } = true := (pre_splitW hpre).2
  obtain ⟨d, r, rfl, h1, h2⟩ := hasAllW_cons hsh
  obtain rfl := hasAllW_nil h2
  obtain ⟨xs, rfl, h3⟩ := hasW_list h1
  obtain ⟨ns, rfl⟩ := items_int h3
  have hlen : ns.length ≤ n := by
    unfold OpenLaw.pre at hc
    have h4 : (WTm.not (.lt (.lit (.int (n : Int))) (.len (.arg 0)))).holds [] { args := [.list (ns.map .int)] } = true := by
      have h4 := (holds_andW hc).1
      rw [hn] at h4
      exact h4
    have h5 := condW_of h4 (w_not (w_lt w_lit (w_len_list (w_arg rfl))))
    rw [List.length_map] at h5
    refine Nat.le_of_not_lt fun q => ?_
    have q' : (n : Int) < ((ns.length : Nat) : Int) := by omega
    first
      | (rw [decide_eq_true q'] at h5; exact absurd h5 (by decide))
      | (simp at h5; omega)
  cases hwl with
  | cons w1 w2 =>
    cases w2
    cases w1 with
    | list ho hall => exact ⟨_, _, ns, rfl, rfl, ho, ints_of_wellAll ns _ hall, hlen⟩
theorem post_true (l : OpenLaw) (args : List WData) : l.row.toRowW.claim.post args (.bool true) args = true :=
  postW_of (r := l.row.toRowW) (X := (true == true))
    (show WShape.has [] (.bool true) .bool = true by first | rfl | decide | simp [WShape.has, WShape.arms, WShape.armsAll])
    (show (WTm.eq .res (.lit (.bool true))).value [] { args := args, res := some (.bool true), after := args } = some (.bool (true == true)) from w_eq_bool (w_res rfl) w_lit) rfl
theorem attach_call {l : OpenLaw} {n : Nat} {q : Program} {loose : List Str} {XP : (Str → Option Value) → Heap → Prop} {YP : World → Heap → Prop} {d : DefRec}
    (hn : l.most = some n) (hdf : d.params.defaults = [])
    (call : ∀ (w : World) (s₀ s₁ : Shared) (mg mb : Str → Option Value) (fa : Addr) (o : Obj) (pm cd doc : Value) (a : Addr) (vs : List Value) (ns : List Int),
      Ground q loose [] XP w s₀ mg mb s₁.heap → YP w s₁.heap →
      s₁.heap.get? fa = some o → o.data = .func (docDef d.name d.params d.body d.scope pm cd doc) → s₁.heap.CodeRec cd d.name → mg d.name = some (.ref fa) →
      s₁.heap.get? a = some { cls := .type "list", data := .seq vs.toArray } → IntsAre vs ns → ns.length ≤ n → s₁.gens = #[] →
      codeAny (model l.prog w) callerA (.call (.ref fa) ⟨[.ref a], []⟩) (fun r s' => r = .ok (.ret (.bool true)) ∧ OldK s₁.heap s'.heap ∧ s'.os = s₁.os ∧ AllBare s'.gens) s₁) :
    WalkO q loose XP YP l.row.toRowW d [] (fun f vs => PySem.call f vs) := by
  intro w s₀ s₁ mg mb G Y fa o pm cd doc dV kV ho hd hcd hD hmg hg args vals as hpre hlay hrd hwl hlo
  obtain rfl : dV = .none := Dflts.none hD hdf
  obtain rfl : kV = .none := Dflts.noKw hD
  obtain ⟨a, vs, ns, rfl, rfl, hobj, hints, hlen⟩ := script_of hn hpre hwl
  refine enter_call (codeAny_mono (call w s₀ s₁ mg mb fa o pm cd doc a vs ns G Y ho (fd_plain hd) hcd hmg hobj hints hlen hg) fun r s' hq => ?_)
  obtain ⟨rfl, h2, h3, h4⟩ := hq
  exact ⟨.inl ⟨.bool true, .bool true, [], rfl, fun _ => rfl, .bool true, post_true l _, fun _ => ⟨List.Pairwise.nil, fun _ hm => (nomatch hm)⟩⟩, h2, h3, h4⟩
end Att
namespace L2
open PySem PySem.Spec PyProof.Rows
theorem vals_ints : ∀ {vs : List Value} {ns : List Int}, IntsAre vs ns → Vals (ns.map V.int) vs
  | _, _, .nil => .nil
  | _, _, .cons n t h => .cons ⟨t, rfl⟩ (vals_ints h)
noncomputable def Only (H : Hp) : Prop := ∀ b, H b = none ∨ ∃ o xs, H b = some (.frz o (.lst xs))
theorem law_call {P : Program} {w : World} {K : PySem.W.Frag} {mg mb : Str → Option Value} {CX : CXT} {k : Nat} {fa a : Addr} {fd : FuncData} {x : Str} {sp : Sp} {s₁ : Shared} {vs : List Value} {ns : List Int}
    (KX : K.In s₁.heap) (hns : s₁.heap.Ns mainGlobals mg) (hb : s₁.heap.Ns builtinsNs mb) (hbb : ∀ x : Str, x ≠ "__name__" → mb x = bootBuiltins x) (hlim : s₁.heap.NoLimit) (hg : s₁.gens = #[])
    (ha : s₁.heap.get? a = some { cls := .type "list", data := .seq vs.toArray }) (hi : IntsAre vs ns) (hl : ns.length ≤ sizeLine) (hr : Room k callerA)
    (F : ∀ base : Heap, K.In base → base.Ns mainGlobals mg → FnOk P w K mg base CX k fa fd [x] sp) (hbind : ∀ (s : Shared) (u : Value), BindsTo s fd ⟨[u], []⟩ [(x, u)])
    (hsp : ∀ H : Hp, Only H → SqL K H a (ns.map V.int) → sp [.ref a] H (fun v _ => v = .bl true) fun _ _ _ => False)
    (hCX : ∀ H e s', CX [] H s₁ (fun _ _ _ => False) e s' → False) :
    codeAny (model P w) callerA (.call (.ref fa) ⟨[.ref a], []⟩) (fun r s' => r = .ok (.ret (.bool true)) ∧ OldK s₁.heap s'.heap ∧ s'.os = s₁.os ∧ AllBare s'.gens) s₁ := by
  have rv := vals_ints hi
  have lenV := hi.length
  have core : ∀ H : Hp, Only H → SqL K H a (ns.map V.int) → HOk P w H s₁.heap → (∀ b, H b ≠ none → b = a) → (H a ≠ none → K.lookup a = none) →
      codeAny (model P w) callerA (.call (.ref fa) ⟨[.ref a], []⟩) (fun r s' => r = .ok (.ret (.bool true)) ∧ OldK s₁.heap s'.heap ∧ s'.os = s₁.os ∧ AllBare s'.gens) s₁ := by
    intro H hO hS hok hA hK
    have base_of : ∀ {b : Addr} {o : Obj}, s₁.heap.get? b = some o → H b = none → (hidT s₁.heap H).get? b = some o := fun e n => hidT_get e n
    have noA : ∀ {b : Addr} {o : Obj} {es : Array DictEntry} {ep : Nat}, s₁.heap.get? b = some o → o.data = .dict es ep → H b = none := fun {b o es ep} e d => by
      cases q : H b with
      | none => rfl
      | some u =>
        have e' : b = a := hA b (by rw [q]; simp)
        subst e'
        rw [ha] at e; cases e
        have d' : Data.seq vs.toArray _ = Data.dict es ep := d
        cases d'
    have nsK : ∀ {b : Addr} {m : Str → Option Value}, s₁.heap.Ns b m → (hidT s₁.heap H).Ns b m := fun {b m} ⟨o, es, ep, e, d, r⟩ => ⟨o, es, ep, base_of e (noA e d), d, r⟩
    have hKb : K.In (hidT s₁.heap H) := fun b o e => base_of (KX b o e) (by
      cases q : H b with
      | none => rfl
      | some u =>
        have e' : b = a := hA b (by rw [q]; simp)
        subst e'
        rw [hK (by rw [q]; simp)] at e; cases e)
    have hM : Mod K mg (hidT s₁.heap H) := ⟨hKb, nsK hns, ⟨mb, nsK hb, hbb⟩, let ⟨mc, h1, h2⟩ := hlim; ⟨mc, nsK h1, h2⟩⟩
    have e0 : Env0 P w K mg (hidT s₁.heap H) callerA [] s₁ H := ⟨rfl, hM, fun b o e => of_hidT e, Nat.le_of_eq (hidT_size _ _), trivial, fun b hb => absurd (show b ∈ ([] : List Addr) from hb) (by simp), hok, .of_eq hg⟩
    refine codeAny_mono ((F _ hKb (nsK hns)).run callerA [] s₁ H ⟨[.ref a], []⟩ [.ref a] [.ref a] _ _ hr e0 (hbind s₁ (.ref a)) (.cons rfl .nil) (hsp H hO hS)) fun r s' h => ?_
    cases r with
    | error e => exact (hCX H e s' h).elim
    | ok fl =>
      cases fl with
      | next => exact False.elim h
      | brk => exact False.elim h
      | cont => exact False.elim h
      | ret u =>
        obtain ⟨v, H', os, bare, un, hok', r', q⟩ := h
        have q' : v = .bl true := q
        subst q'
        obtain rfl : u = Value.bool true := r'
        refine ⟨rfl, OldK.of_keep fun b o e => ?_, os, bare⟩
        cases q : H b with
        | none => exact un.keep b o e q (by intro z; exact absurd (show b ∈ ([] : List Addr) from z) (by simp)) (by simp)
        | some u =>
          rcases hO b with z | ⟨ob, xs, z⟩
          · rw [q] at z; cases z
          · have z2 := un.frzs b ob _ z
            obtain ⟨e1, _⟩ := hok b _ z
            obtain ⟨e2, _⟩ := hok' b _ z2
            rw [e] at e1; cases e1
            exact e2
  cases hk : K.lookup a with
  | some o =>
    have e := KX a o hk
    rw [ha] at e
    cases e
    refine core (fun _ => none) (fun _ => .inl rfl) (.inr ⟨_, vs.toArray, _, hk, rfl, rfl, rfl, by rw [List.size_toArray, lenV]; exact hl, by simpa using rv⟩) (fun b u z => by have z' : (none : Option HO) = some u := z; cases z') (fun b z => absurd rfl z) fun z => absurd rfl z
  | none =>
    refine core (fun b => if b = a then some (.frz { cls := .type "list", data := .seq vs.toArray } (.lst (ns.map V.int))) else none) (fun b => ?_) (.inl (.inr ⟨{ cls := .type "list", data := .seq vs.toArray }, if_pos rfl⟩)) (fun b u z => ?_) (fun b z => ?_) fun _ => hk
    · by_cases hb : b = a
      · exact .inr ⟨_, _, if_pos hb⟩
      · exact .inl (if_neg hb)
    · by_cases hb : b = a
      · have z' := (if_pos hb).symm.trans z
        cases z'
        subst hb
        exact ⟨ha, by rw [List.length_map]; exact hl, vs, _, rv, ha⟩
      · have z' := (if_neg hb).symm.trans z
        cases z'
    · by_cases hb : b = a
      · exact hb
      · exact absurd (if_neg hb) z
end L2
namespace L2
open PySem PySem.Spec PyProof.Rows
theorem walk_of {l : PySem.W.OpenLaw} {n k : Nat} {q : Program} {loose : List Str} {XP : (Str → Option Value) → Heap → Prop} {YP : World → Heap → Prop} {d : DefRec} {K : Params → PySem.W.Frag} {CX : World → CXT} {sp : World → Sp} {x : Str}
    (hn : l.most = some n) (hn2 : n ≤ sizeLine) (hdf : d.params.defaults = []) (hr : Room k callerA)
    (hY : ∀ (w : World) (h : Heap), YP w h → (K w.params).In h)
    (F : ∀ (w : World) (mg : Str → Option Value) (fa : Addr) (h : Heap), (K w.params).In h → h.Ns mainGlobals mg → mg d.name = some (.ref fa) →
      ∃ fd : FuncData, (∀ (s : Shared) (u : Value), BindsTo s fd ⟨[u], []⟩ [(x, u)]) ∧
        ∀ base : Heap, (K w.params).In base → base.Ns mainGlobals mg → FnOk l.prog w (K w.params) mg base (CX w) k fa fd [x] (sp w))
    (hsp : ∀ (w : World) (H : Hp) (a : Addr) (ns : List Int), ns.length ≤ n → Only H → SqL (K w.params) H a (ns.map V.int) → sp w [.ref a] H (fun v _ => v = .bl true) fun _ _ _ => False)
    (hCX : ∀ (w : World) (H : Hp) (s : Shared) (e : Value) (s' : Shared), CX w [] H s (fun _ _ _ => False) e s' → False) :
    PySem.W.WalkO q loose XP YP l.row.toRowW d [] (fun f vs => PySem.call f vs) := by
  refine Att.attach_call hn hdf fun w s₀ s₁ mg mb fa o pm cd doc a vs ns G Y ho hd hcd hmg hobj hints hlen hg => ?_
  have KX := hY w _ Y
  obtain ⟨fd, hb, hF⟩ := F w mg fa _ KX G.T.g hmg
  exact law_call KX G.T.g G.T.b G.T.builtins G.T.nolimit hg hobj hints (Nat.le_trans hlen hn2) hr hF hb (fun H hO hS => hsp w H a ns hlen hO hS) fun H e s' => hCX w H s₁ e s'
end L2
namespace L2
open PySem PySem.Spec PyProof.Rows
noncomputable def defArgs (s : Stmt) : Arguments := match s with
  | .FunctionDef _ a _ _ _ _ _ _ _ _ => a
  | _ => { posonlyargs := [], args := [], vararg := none, kwonlyargs := [], kw_defaults := [], kwarg := none, defaults := [] }
noncomputable def defBody (s : Stmt) : List Stmt := match s with
  | .FunctionDef _ _ b _ _ _ _ _ _ _ => b
  | _ => []
noncomputable def defScope (s : Stmt) : Scope := match s with
  | .FunctionDef _ _ _ _ _ _ sc _ _ _ => sc
  | _ => { kind := .function, names := [], isGenerator := false, isCoroutine := false }
noncomputable abbrev CX0 : CXT := fun _ _ _ _ _ _ => False
noncomputable abbrev E0 : XK := fun _ _ _ => False
theorem pass0 {X : Cx} : Passes CX0 X E0 := fun _ _ _ _ _ _ _ h => h.elim
structure Fun (K : PySem.W.Frag) (x qual : Str) (st : Stmt) (f : Addr) (fd : FuncData) : Prop where
  ex : ∃ (oc : Value) (od : Option Addr) (kV doc pm : Value) (an : Option Addr) (cdv ct : Value) (osl : Array (Option Value)),
    fd = PySem.W.fnOf x qual (defArgs st) (defBody st) (defScope st) .none kV doc pm an cdv ct ∧ K.lookup f = some ⟨oc, od, .func fd, osl⟩ ∧ PySem.W.codeIn K cdv qual = true
  kp : PySem.W.keepIn K (.ref f) = true
section
variable {P : Program} {w : World} {K : PySem.W.Frag} {mg : Str → Option Value} {base : Heap}
theorem Fun.ok {x qual : Str} {st : Stmt} {f : Addr} {fd : FuncData} {N ps : List Str} {k : Nat} {sp : Sp} (F : Fun K x qual st f fd) (S : FnScope N ps (defScope st)) (len : ∀ vs H Q E, sp vs H Q E → vs.length = ps.length)
    (hbody : ∀ (cdv : Value) (A : Around) (outer : List Env) (s : Shared) (H : Hp) (vs : List V) (Q : VK) (E : XK), Room k (A.deeper (envOfC qual (defScope st) s.heap.objs.size f cdv)) → sp vs H Q E →
      ∃ t, PSs (cxOf CX0 P w K mg base N qual (defScope st) f cdv A outer s H E).nox (defBody st) t ∧ t { nx := fun _ H' => Q .non H', rt := Q } (start N vs) H) : FnOk P w K mg base CX0 (k + 1) f fd ps sp := by
  obtain ⟨oc, od, kV, doc, pm, an, cdv, ct, osl, rfl, lk, hcd⟩ := F.ex
  refine fn_of lk hcd S len fun A outer s H vs Q E hr hsp => ?_
  obtain ⟨t, h, q⟩ := hbody cdv A outer s H vs Q E hr hsp
  exact ⟨t, h.nox, q⟩
theorem Fun.binds {x qual : Str} {st : Stmt} {f : Addr} {fd : FuncData} {ps : List Str} (F : Fun K x qual st f fd)
    (h : ∀ (kV doc pm : Value) (an : Option Addr) (cdv ct : Value) (us : List Value), us.length = ps.length → bindArgs (PySem.W.fnOf x qual (defArgs st) (defBody st) (defScope st) .none kV doc pm an cdv ct) ⟨us, []⟩ = pure (ps.zip us)) : Binds K fd ps [] := by
  obtain ⟨oc, od, kV, doc, pm, an, cdv, ct, osl, rfl, lk, hcd⟩ := F.ex
  exact .all (h kV doc pm an cdv ct)
theorem fun_mk {x qual : Str} {st : Stmt} {f : Addr} {oc : Value} {od an : Option Addr} {osl : Array (Option Value)} {kV doc pm cdv ct : Value} (l : K.lookup f = some ⟨oc, od, .func (PySem.W.fnOf x qual (defArgs st) (defBody st) (defScope st) .none kV doc pm an cdv ct), osl⟩)
    (c : PySem.W.codeIn K cdv qual = true) (k : PySem.W.keepIn K (.ref f) = true) : Fun K x qual st f (PySem.W.fnOf x qual (defArgs st) (defBody st) (defScope st) .none kV doc pm an cdv ct) := ⟨⟨oc, od, kV, doc, pm, an, cdv, ct, osl, rfl, l, c⟩, k⟩
end
theorem small1000 {n : Nat} (h : n ≤ 1000) : n < sizeLine := Nat.lt_of_le_of_lt h (by decide)
section
variable {X : Cx}
theorem pv (i : Nat) {x : Str} {pos : Pos} (hN : X.N[i]? = some x := by rfl) (hv : Vis X.env.scope x := by first | exact Or.inl rfl | exact Or.inr (Or.inl rfl) | exact Or.inr (Or.inr rfl)) (hd : (x == ("__debug__" : Str)) = false := by decide)
    (hcd : (x == ("__classdict__" : Str)) = false := by decide) : PE X (.Name x pos) (tVar i) := pe_var hN hv hd hcd
theorem call_lenD : CallR X (.builtin "len") (fun xs H Q => ∃ a kvs, xs = [V.ref a] ∧ H a = some (.dK kvs) ∧ Q (.int kvs.length) H) := by
  intro pins s σ H xs us Q I r h
  obtain ⟨a, kvs, rfl, ha, q⟩ := h
  obtain ⟨u, rfl, ru⟩ := vals1 r
  cases ru
  exact d_len I (.inl ha) fun t s' I' => ⟨.int kvs.length, H, I', ⟨t, rfl⟩, q⟩
end
theorem iteF {A B : Prop} (h : B) : if false = true then A else B := by
  rw [if_neg Bool.false_ne_true]
  exact h
theorem iteT {A B : Prop} (h : A) : if true = true then A else B := by
  rw [if_pos rfl]
  exact h
theorem ite2 {c A B : Prop} [Decidable c] (h1 : c → A) (h2 : ¬ c → B) : if c then A else B := by
  by_cases h : c
  · rw [if_pos h]
    exact h1 h
  · rw [if_neg h]
    exact h2 h
noncomputable def Same (H H' : Hp) : Prop := ∀ b o, H b = some o → H' b = some o
theorem Same.refl (H : Hp) : Same H H := fun _ _ h => h
theorem Same.trans {H H1 H2 : Hp} (a : Same H H1) (b : Same H1 H2) : Same H H2 := fun c o h => b c o (a c o h)
theorem Same.free {H H' : Hp} (e : Same H H') {l : Addr} (h : H' l = Option.none) : H l = Option.none := by
  cases q : H l with
  | none => rfl
  | some o =>
    rw [e l o q] at h
    cases h
section
variable {κ : Type} [DecidableEq κ]
theorem valV_not {kvs : List (κ × V)} {k : κ} (h : valV kvs k = none) : ¬ k ∈ kvs.map (·.1) := by
  intro m
  obtain ⟨p, hp, e⟩ := List.mem_map.mp m
  have q : (kvs.any fun kv => decide (kv.1 = k)) = true := List.any_eq_true.mpr ⟨p, hp, decide_eq_true e⟩
  rw [valV_any, h] at q
  exact absurd q (by simp)
theorem nd_snoc : ∀ {l : List κ} {k : κ}, l.Nodup → ¬ k ∈ l → (l ++ [k]).Nodup
  | [], k, _, _ => by simp
  | a :: r, k, h, hk => by
    obtain ⟨h1, h2⟩ := List.nodup_cons.mp h
    show (a :: (r ++ [k])).Nodup
    refine List.nodup_cons.mpr ⟨fun m => ?_, nd_snoc h2 fun m => hk (List.mem_cons.mpr (Or.inr m))⟩
    rcases List.mem_append.mp m with q | q
    · exact h1 q
    · exact hk (List.mem_cons.mpr (Or.inl (List.mem_singleton.mp q).symm))
theorem nd_putK {kvs : List (κ × V)} {k : κ} (v : V) (hn : (kvs.map (·.1)).Nodup) (h : valV kvs k = none) : ((putK kvs k v).map (·.1)).Nodup := by
  rw [putK_new v h, List.map_append]
  exact nd_snoc hn (valV_not h)
end
end L2
set_option maxHeartbeats 4000000
namespace L2
open PySem PySem.Spec PyProof.Rows
theorem clos_go {env : Env} {f : Str × NameKind → List (Str × Addr) → Sem (ForInStep (List (Str × Addr)))}
    (f1 : ∀ n k r, k ≠ NameKind.free → f (n, k) r = pure (.yield r))
    (f2 : ∀ n c r, env.cells.lookup n = some c → f (n, NameKind.free) r = pure (.yield ((n, c) :: r))) :
    ∀ (names : List (Str × NameKind)) (acc : List (Str × Addr)),
    (∀ y ∈ names, y.2 = NameKind.free → ∃ c, env.cells.lookup y.1 = some c) →
    (∀ x c, acc.lookup x = some c → env.cells.lookup x = some c) →
    ∃ cl, forIn names acc f = (pure cl : Sem (List (Str × Addr))) ∧ (∀ x c, cl.lookup x = some c → env.cells.lookup x = some c) ∧
      (∀ x, (acc.lookup x).isSome = true → (cl.lookup x).isSome = true) ∧ ∀ y ∈ names, y.2 = NameKind.free → (cl.lookup y.1).isSome = true
  | [], acc, _, h => ⟨acc, by rw [List.forIn_nil], h, fun _ q => q, fun y hy => nomatch hy⟩
  | (n, k) :: r, acc, hn, h => by
    by_cases hk : k = NameKind.free
    · subst hk
      obtain ⟨c, hc⟩ := hn (n, .free) List.mem_cons_self rfl
      have hc' : env.cells.lookup n = some c := hc
      obtain ⟨cl, e, a, b, d⟩ := clos_go f1 f2 r ((n, c) :: acc) (fun y hy => hn y (List.mem_cons_of_mem _ hy)) (fun x c' q => by
        rw [List.lookup_cons] at q
        cases e : x == n with
        | true =>
          rw [e] at q
          cases q
          rw [show x = n from LawfulBEq.eq_of_beq e]
          exact hc'
        | false =>
          rw [e] at q
          exact h x c' q)
      refine ⟨cl, ?_, a, fun x q => b x ?_, fun y hy hf => ?_⟩
      · rw [List.forIn_cons, f2 n c acc hc', pure_bind]
        exact e
      · rw [List.lookup_cons]
        cases x == n with
        | true => rfl
        | false => exact q
      · rcases List.mem_cons.mp hy with rfl | hy
        · refine b _ ?_
          rw [List.lookup_cons]
          simp
        · exact d y hy hf
    · obtain ⟨cl, e, a, b, d⟩ := clos_go f1 f2 r acc (fun y hy => hn y (List.mem_cons_of_mem _ hy)) h
      refine ⟨cl, ?_, a, b, fun y hy hf => ?_⟩
      · rw [List.forIn_cons, f1 n k acc hk, pure_bind]
        exact e
      · rcases List.mem_cons.mp hy with rfl | hy
        · exact absurd hf hk
        · exact d y hy hf
theorem clos_ok {scope : Scope} {env : Env} (hf : ∀ y ∈ scope.names, y.2 = NameKind.free → ∃ c, env.cells.lookup y.1 = some c) :
    ∃ cl, closureFor scope env = pure cl ∧ (∀ x c, cl.lookup x = some c → env.cells.lookup x = some c) ∧
      ∀ y ∈ scope.names, y.2 = NameKind.free → ∃ c, cl.lookup y.1 = some c := by
  have go := clos_go (env := env) (f := fun (x : Str × NameKind) (r : List (Str × Addr)) => match x with
      | (name, kind) => if (kind == NameKind.free) = true then do let c ← cellOf env name; pure (ForInStep.yield ((name, c) :: r)) else pure (ForInStep.yield r))
    (fun n k r hk => by
      have z : (k == NameKind.free) = false := by simpa using hk
      simp only [z, Bool.false_eq_true, if_false])
    (fun n c r hc => by
      simp only [beq_self_eq_true, if_true, cellOf, hc, pure_bind])
    scope.names [] hf (fun x c q => by cases q)
  obtain ⟨cl, e, a, _, d⟩ := go
  refine ⟨cl, ?_, a, fun y hy z => Option.isSome_iff_exists.mp (d y hy z)⟩
  simp only [closureFor]
  first
    | exact e
    | (simp only [bind_pure]; exact e)
    | (refine Eq.trans ?_ e; simp only [bind_pure])
noncomputable def cxC (X : Cx) (scope : Scope) (N : List Str) (cl : List (Str × Addr)) (C : Addr) (s₀ : Shared) (H₀ : Hp) (ex : List Addr) : Cx where
  prog := X.prog
  w := X.w
  K := X.K
  mg := X.mg
  base := X.base
  A := X.A
  N := N
  s₀ := s₀
  H₀ := H₀
  env := compEnvC scope cl C X.env
  outer := X.stack
  stack := X.stack
  ex := ex
  fn := fun _ => false
  calm := X.calm
  pn := []
  xe := fun _ _ => False
noncomputable def inSt (k : Nat) (fr : List Nat) (σ : St) : St := List.replicate k none ++ fr.map fun i => (σ[i]?).join
noncomputable def frOk (osc scope : Scope) (NX : List Str) (fr : List Nat) : Bool := fr.all fun i => match NX[i]? with
  | some x => (decide (osc.names.lookup x = some .cell) || decide (osc.names.lookup x = some .free)) && decide (scope.names.lookup x = some .free)
  | none => false
structure CompSc (osc scope : Scope) (NX own : List Str) (fr : List Nat) (N : List Str) : Prop where
  kind : scope.kind = .function
  nocell : ∀ y ∈ scope.names, y.2 ≠ NameKind.cell
  loc : ∀ y ∈ scope.names, y.2 = NameKind.local → scope.names.lookup y.1 = some .local
  free : ∀ y ∈ scope.names, y.2 = NameKind.free → osc.names.lookup y.1 = some .cell ∨ osc.names.lookup y.1 = some .free
  names : N.map some = own.map some ++ fr.map fun i => NX[i]?
  outer : frOk osc scope NX fr = true
noncomputable def compOk (osc scope : Scope) (NX own : List Str) (fr : List Nat) (N : List Str) : Bool :=
  decide (scope.kind = .function) && (scope.names.all (fun y => decide (y.2 ≠ NameKind.cell)) && (scope.names.all (fun y => decide (y.2 = NameKind.local → scope.names.lookup y.1 = some .local)) &&
    (scope.names.all (fun y => decide (y.2 = NameKind.free → (osc.names.lookup y.1 = some .cell ∨ osc.names.lookup y.1 = some .free))) && (decide (N.map some = own.map some ++ fr.map fun i => NX[i]?) && frOk osc scope NX fr))))
theorem CompSc.of {osc scope : Scope} {NX own : List Str} {fr : List Nat} {N : List Str} (h : compOk osc scope NX own fr N = true) : CompSc osc scope NX own fr N := by
  unfold compOk at h
  simp only [Bool.and_eq_true, decide_eq_true_eq, List.all_eq_true] at h
  obtain ⟨h1, h2, h3, h4, h5, h6⟩ := h
  exact ⟨h1, h2, h3, h4, h5, h6⟩
theorem CompSc.len {osc scope : Scope} {NX own : List Str} {fr : List Nat} {N : List Str} (S : CompSc osc scope NX own fr N) : N.length = own.length + fr.length := by
  have h := congrArg List.length S.names
  simpa using h
theorem lookup_relabel_free {env : Env} : ∀ {names : List (Str × NameKind)} {x : Str}, names.lookup x = some .free →
    (names.map fun (n, k) => if (k == NameKind.free && env.scope.kind == .function && env.kindOf n == some .cell) then (n, NameKind.cell) else (n, k)).lookup x = some .cell ∨
    (names.map fun (n, k) => if (k == NameKind.free && env.scope.kind == .function && env.kindOf n == some .cell) then (n, NameKind.cell) else (n, k)).lookup x = some .free
  | [], _, h => by simp at h
  | (n, k) :: r, x, h => by
    have ih := @lookup_relabel_free env r x
    cases hx : x == n with
    | true =>
      simp only [List.lookup_cons, hx] at h
      cases h
      simp only [List.map_cons]
      split
      · left; simp [List.lookup_cons, hx]
      · right; simp [List.lookup_cons, hx]
    | false =>
      simp only [List.lookup_cons, hx] at h
      simp only [List.map_cons]
      split
      · simp only [List.lookup_cons, hx]; exact ih h
      · simp only [List.lookup_cons, hx]; exact ih h
theorem of_relabel {env : Env} : ∀ {names : List (Str × NameKind)} {x : Str} {k' : NameKind},
    (names.map fun (n, k) => if (k == NameKind.free && env.scope.kind == .function && env.kindOf n == some .cell) then (n, NameKind.cell) else (n, k)).lookup x = some k' →
    k' = .cell ∨ k' = .free → (∀ y ∈ names, y.2 ≠ NameKind.cell) → ∃ y ∈ names, y.1 = x ∧ y.2 = .free
  | [], _, _, h, _, _ => by simp at h
  | (n, k) :: r, x, k', h, hk, nc => by
    have ih := @of_relabel env r x k'
    simp only [List.map_cons] at h
    cases hx : x == n with
    | true =>
      have ex : x = n := LawfulBEq.eq_of_beq hx
      refine ⟨(n, k), List.mem_cons_self, ex.symm, ?_⟩
      have nck : k ≠ .cell := nc (n, k) List.mem_cons_self
      by_cases z : k = .free
      · exact z
      · have zb : (k == NameKind.free) = false := by simpa using z
        simp only [zb, Bool.false_and, Bool.false_eq_true, if_false, List.lookup_cons, hx] at h
        cases h
        rcases hk with q | q
        · exact absurd q nck
        · exact absurd q z
    | false =>
      have h' : (r.map fun (n, k) => if (k == NameKind.free && env.scope.kind == .function && env.kindOf n == some .cell) then (n, NameKind.cell) else (n, k)).lookup x = some k' := by
        split at h
        · simpa only [List.lookup_cons, hx] using h
        · simpa only [List.lookup_cons, hx] using h
      obtain ⟨y, hy, a, b⟩ := ih h' hk fun z hz => nc z (List.mem_cons_of_mem _ hz)
      exact ⟨y, List.mem_cons_of_mem _ hy, a, b⟩
section
variable {X : Cx} {pins : List (Addr × Obj)} {σ : St} {H : Hp} {s : Shared}
noncomputable def PTs (X : Cx) (ifs : List Expr) (t : TT) : Prop :=
  ∀ (pins : List (Addr × Obj)) (s : Shared) (σ : St) (H : Hp) (Q : Bool → Hp → Prop), Inv X pins σ H s → t σ H Q →
    wpAny (model X.prog X.w) X.A (forIn ifs true fun c r => if r = true then do let ok ← isTrue c X.env (eval c X.env); pure (ForInStep.yield ok) else pure (ForInStep.yield r)) (TP X pins σ Q) X.xe s
noncomputable def tYes : TT := fun _ H Q => Q true H
theorem pts_nil : PTs X [] tYes := fun _ _ _ H _ I h => wpAny_tests_nil ⟨H, I, h⟩
theorem pts_one {c : Expr} {t : TT} (h : PT X c t) : PTs X [c] t := fun pins s σ H Q I q => wpAny_tests_one (h pins s σ H Q I q)
theorem nx {α : Type} {t : Sem α} {Q Q' : α → Shared → Prop} {M : Model} {A : Around} {E : Value → Shared → Prop} {s : Shared} (h : wpAny M A t Q (fun _ _ => False) s) (hQ : ∀ a s, Q a s → Q' a s) : wpAny M A t Q' E s :=
  wpAny_mono h hQ fun _ _ f => f.elim
theorem inv_block {scope : Scope} {own : List Str} {fr : List Nat} {N : List Str} {cl : List (Str × Addr)} {s3 s4 : Shared} {H3 : Hp} {fp : List Addr} {m : Str → Option Value}
    (hc : X.calm = true) (S : CompSc X.env.scope scope X.N own fr N)
    (c1 : ∀ x c, cl.lookup x = some c → X.env.cells.lookup x = some c) (c2 : ∀ y ∈ scope.names, y.2 = NameKind.free → ∃ c, cl.lookup y.1 = some c)
    (I3 : Inv X pins σ H3 s3) (f3 : ∀ b ∈ fp, FpOk X pins H3 b ∧ b < s3.heap.objs.size)
    (hk : ∀ b o, s3.heap.get? b = some o → s4.heap.get? b = some o) (hn : s4.heap.Ns s3.heap.objs.size m) (ho : s4.os = s3.os) (hg : s4.gens = s3.gens) :
    Inv (cxC X scope N cl s3.heap.objs.size s3 H3 fp) [] (inSt own.length fr σ) H3 s4 := by
  have kindF : (compEnvC scope cl s3.heap.objs.size X.env).scope.kind = .function := by
    show (relabel scope X.env).kind = .function
    exact S.kind
  refine ⟨⟨I3.ok.mod, kindF, I3.ok.glob, I3.ok.blt, Nat.le_refl _, ?_, ?_, ?_, I3.ok.hd, I3.ok.frames, .inl rfl, ?_, ?_, ?_, ?_, ?_, I3.stack, I3.stkFree⟩, ho, ?_, Un.kept hk, ⟨m, hn, ?_⟩, ?_, ?_, ?_, ?_, I3.hok.kept hk, ?_⟩
  · exact fun x y c h1 h2 => I3.ok.inj x y c (c1 x c h1) (c1 y c h2)
  · intro x hx
    have hx' : (relabel scope X.env).names.lookup x = some .cell ∨ (relabel scope X.env).names.lookup x = some .free := hx
    obtain ⟨k', hk', hkk⟩ : ∃ k', (relabel scope X.env).names.lookup x = some k' ∧ (k' = NameKind.cell ∨ k' = NameKind.free) := by
      rcases hx' with q | q
      · exact ⟨_, q, .inl rfl⟩
      · exact ⟨_, q, .inr rfl⟩
    obtain ⟨y, hy, e, hf⟩ := of_relabel (env := X.env) hk' hkk S.nocell
    subst e
    exact c2 y hy hf
  · exact fun x c h => by cases h
  · intro b hb
    obtain ⟨f, hl⟩ := f3 b hb
    refine ⟨Nat.ne_of_lt hl, fun x c h => f.2.2.2.2.1 x c (c1 x c h)⟩
  · exact fun b o e => I3.bs b o e
  · exact Nat.le_trans I3.ok.bsz I3.sz
  · intro b o e hb
    obtain ⟨f, hl⟩ := f3 b hb
    rcases f.2.2.2.1 with z | z
    · exact I3.ok.noex b o e z
    · exact absurd (Nat.lt_of_lt_of_le (Heap.lt_size e) (Nat.le_trans I3.ok.bsz z)) (Nat.lt_irrefl _)
  · intro b hb
    obtain ⟨f, hl⟩ := f3 b hb
    show b ∉ frs X.stack
    intro z
    rcases List.mem_cons.mp (I3.stkSub b z) with q | q
    · exact f.2.1 q
    · exact f.2.2.1 q
  · rw [hg]; exact I3.bare
  · intro i x v h1 h2 h3
    have h1 : N[i]? = some x := h1
    obtain ⟨m0, hn0, hl0⟩ := I3.loc
    have hi : own.length ≤ i := by
      refine Nat.le_of_not_lt fun q => ?_
      unfold inSt at h2
      rw [List.getElem?_append_left (by simpa using q), List.getElem?_replicate] at h2
      split at h2 <;> cases h2
    obtain ⟨j, rfl⟩ := Nat.exists_eq_add_of_le hi
    have h2' : (fr.map fun i => (σ[i]?).join)[j]? = some (some v) := by
      unfold inSt at h2
      rw [List.getElem?_append_right (by simp)] at h2
      simpa using h2
    rw [List.getElem?_map] at h2'
    cases ej : fr[j]? with
    | none => rw [ej] at h2'; cases h2'
    | some k =>
      rw [ej] at h2'
      have e2 : (σ[k]?).join = some v := Option.some.inj h2'
      have eσ : σ[k]? = some (some v) := by
        cases q : σ[k]? with
        | none => rw [q] at e2; cases e2
        | some o => rw [q] at e2; exact congrArg some e2
      have eN : X.N[k]? = some x := by
        have q := congrArg (fun l => l[own.length + j]?) S.names
        simp only [List.getElem?_map, h1, List.getElem?_append_right (show (own.map some).length ≤ own.length + j by simp), List.length_map, Nat.add_sub_cancel_left, ej, Option.map_some] at q
        exact (Option.some.inj q).symm
      have ok := List.all_eq_true.mp S.outer k (List.mem_of_getElem? ej)
      rw [eN] at ok
      simp only [Bool.and_eq_true, Bool.or_eq_true, decide_eq_true_eq] at ok
      obtain ⟨ok1, ok2⟩ := ok
      have vis : Vis X.env.scope x := .inr ok1
      obtain ⟨u, r, l⟩ := hl0 k x v eN eσ vis
      refine ⟨u, r, ?_⟩
      rcases l with ⟨l, _⟩ | ⟨_, c, e, z⟩
      · have l : X.env.scope.names.lookup x = some .local := l
        rcases ok1 with q | q
        · rw [l] at q; cases q
        · rw [l] at q; cases q
      · obtain ⟨c', e'⟩ := c2 (x, .free) (PySem.mem_of_lookup ok2) rfl
        have e' : cl.lookup x = some c' := e'
        have ec : c' = c := Option.some.inj ((c1 x c' e').symm.trans e)
        subst ec
        refine .inr ⟨lookup_relabel_free (env := X.env) ok2, c', e', ?_⟩
        obtain ⟨o, h1, h2⟩ := z
        exact ⟨o, hk _ _ h1, h2⟩
  · intro x c e
    obtain ⟨v, o, h1, h2⟩ := I3.cell x c (c1 x c e)
    exact ⟨v, o, hk _ _ h1, h2⟩
  · exact I3.hok.fresh (Nat.le_refl _)
  · exact fun x c e => I3.freeC x c (c1 x c e)
  · intro p hp
    exact absurd hp (by simp [cxC])
  · show (inSt own.length fr σ).length = N.length
    rw [S.len]
    simp [inSt]
end
section
variable {prog : Program} {w : World} {A : Around} {R : Result → Shared → Prop} {s : Shared}
theorem comp_loop {elt tg iter : Expr} {ifs : List Expr} {scope : Scope} {pos : Pos} {it acc : Value} {env : Env} (J : Nat → Shared → Prop)
    (turn : ∀ k s, J k s → ∀ E : Value → Shared → Prop, wpAny (model prog w) A (pyNext it) (fun r s1 => match r with
      | none => R (.ok .next) s1
      | some v => wpAny (model prog w) A (letOwnedTupleGo tg it v) (fun _ s2 => wpAny (model prog w) A (assign tg env v) (fun _ s3 =>
          wpAny (model prog w) A (forIn ifs true fun c r => if r = true then do let ok ← isTrue c env (eval c env); pure (ForInStep.yield ok) else pure (ForInStep.yield r)) (fun ok s4 =>
            if ok = true then wpAny (model prog w) A (eval elt env) (fun x s5 => wpAny (model prog w) A (call (.builtin "list.append") [acc, x]) (fun _ s6 => ∃ m, m < k ∧ J m s6) E s5) E s4
            else ∃ m, m < k ∧ J m s4) E s3) E s2) E s1) E s)
    (k : Nat) (h : J k s) : codeAny (model prog w) A (.compLoop (.ListComp elt [⟨tg, iter, ifs, 0⟩] scope pos) 0 it acc env) R s := by
  refine codeAny_loop rfl J (fun k s hJ => ?_) k h
  show wpAny _ A ((compTurn (.ListComp elt [⟨tg, iter, ifs, 0⟩] scope pos) 0 it acc env).onRaise (fun e => do noteFrame e env; theTreesLotGoes e)) _ _ s
  refine wpAny_noted ?_
  rw [compTurn_list]
  refine wpAny_bind (wpAny_standAt (wpAny_bind (thn (turn k s hJ _) fun r s1 h1 => ?_)))
  cases r with
  | none => exact wpAny_pure h1
  | some v =>
    refine wpAny_bind (thn h1 fun _ s2 h2 => wpAny_bind (thn h2 fun _ s3 h3 => wpAny_bind (thn h3 fun ok s4 h4 => ?_)))
    cases ok with
    | false => exact wpAny_pure ⟨rfl, h4⟩
    | true => exact wpAny_bind (wpAny_bind (thn h4 fun x s5 h5 => wpAny_bind (thn h5 fun _ s6 h6 => wpAny_pure (wpAny_pure ⟨rfl, h6⟩))))
end
noncomputable def tCompW (k : Nat) (fr : List Nat) (g : TG) (tc : TT) (te : TE) (J : It) (σ : St) (H1 : Hp) (Q : VK) : Prop :=
  ∀ D, H1 D = none → ∃ W : Nat → Nat → List V → St → Hp → Prop, (∃ m, W 0 m [] (inSt k fr σ) (upd H1 D (.lst []))) ∧ ∀ i m acc σ' H', W i m acc σ' H' → H' D = some (.lst acc) →
    (J.stop i H' ∧ Q (.ref D) H') ∨ (J.go i H' ∧ ∃ N : List V → St → Hp → Prop, (∀ acc' σ2 H2, N acc' σ2 H2 → ∃ m', m' < m ∧ W (i + 1) m' acc' σ2 H2) ∧ ∀ x H2, J.yld i H' x H2 → g x σ' H2 fun σ2 H3 => tc σ2 H3 fun b H4 =>
      if b = true then te σ2 H4 fun y H5 => H5 D = some (.lst acc) ∧ acc.length < sizeLine ∧ N (acc ++ [y]) σ2 (upd H5 D (.lst (acc ++ [y])))
      else H4 D = some (.lst acc) ∧ N acc σ2 H4)
noncomputable def tComp (k : Nat) (fr : List Nat) (wi : TI) (g : TG) (tc : TT) (te : TE) : TE := fun σ H Q => wi σ H fun J H1 => tCompW k fr g tc te J σ H1 Q
section
variable {X : Cx} {pins : List (Addr × Obj)} {σ : St} {H : Hp} {s : Shared} {tg elt iter : Expr} {ifs : List Expr} {scope : Scope} {pos : Pos}
theorem comp_block {own : List Str} {fr : List Nat} {N : List Str} {cl : List (Str × Addr)} {H2 : Hp} {s2 : Shared} {fp : List Addr} {it : Addr} {J : It} {tn : Nat → Heap → Prop} {g : TG} {tc : TT} {te : TE} {Q : VK} {E : Value → Shared → Prop} {POST : Value → Addr → Result → Shared → Prop}
    (hc : X.calm = true) (S : CompSc X.env.scope scope X.N own fr N)
    (c1 : ∀ x c, cl.lookup x = some c → X.env.cells.lookup x = some c) (c2 : ∀ y ∈ scope.names, y.2 = NameKind.free → ∃ c, cl.lookup y.1 = some c)
    (hg : ∀ C s₀ H₀ ex, PG (cxC X scope N cl C s₀ H₀ ex) tg g) (ht : ∀ C s₀ H₀ ex, PTs (cxC X scope N cl C s₀ H₀ ex) ifs tc) (he : ∀ C s₀ H₀ ex, PE (cxC X scope N cl C s₀ H₀ ex) elt te)
    (I2 : Inv X pins σ H2 s2) (T : Turn X.prog X.w X.K tg J fp it tn) (t2 : tn 0 s2.heap) (f2 : ∀ b ∈ fp, FpOk X pins H2 b) (q : tCompW own.length fr g tc te J σ H2 Q)
    (fin : ∀ D C s' H' m, Inv X pins σ H' s' → FpOk X pins H' C → s'.heap.Ns C m → Q (.ref D) H' → POST (.ref D) C (.ok .next) s') :
    wpAny (model X.prog X.w) X.A (newList []) (fun acc s3 => wpAny (model X.prog X.w) X.A (newFunctionEnv scope X.env.globals cl [] X.env.qual none .none (some X.env)) (fun cenv s4 =>
      codeAny (model X.prog X.w) X.A (.compStart (.ListComp elt [⟨tg, iter, ifs, 0⟩] scope pos) 0 (.ref it) acc { cenv with scope := relabel scope X.env }) (POST acc cenv.locals) s4) E s3) E s2 := by
  refine wpAny_newObj_type (wpAny_newFunctionEnv S.nocell (by intro y hy; simp at hy) (fun h4 ns4 sb4 => ?_) S.kind)
  dsimp only at ns4 sb4 ⊢
  have hD : H2 s2.heap.objs.size = none := I2.hok.fresh (Nat.le_refl _)
  obtain ⟨W, ⟨m0, w0⟩, turn⟩ := q s2.heap.objs.size hD
  have I3 : Inv X pins σ (upd H2 s2.heap.objs.size (.lst [])) { s2 with heap := s2.heap.push { cls := .type "list", dict := none, data := .seq ([] : List Value).toArray }, toks := s2.toks } :=
    I2.laid (fun b u q => Heap.get?_push_of_some _ q) (Nat.le_refl _) ⟨Nat.zero_le _, [], _, .nil, Heap.get?_push_size _ rfl⟩
  generalize hh3 : s2.heap.push { cls := .type "list", dict := none, data := .seq ([] : List Value).toArray } = h3 at *
  have z3 : h3.objs.size = s2.heap.objs.size + 1 := by rw [← hh3, Heap.size_push]
  have k23 : ∀ b o, s2.heap.get? b = some o → h3.get? b = some o := fun b o e => by rw [← hh3]; exact Heap.get?_push_of_some _ e
  have k34 : ∀ b o, h3.get? b = some o → h4.get? b = some o := fun b o e => sb4.extBut b o (Nat.ne_of_lt (Heap.lt_size e)) (Heap.get?_push_of_some _ e)
  have fpl : ∀ b ∈ fp, b < s2.heap.objs.size := fun b hb => by
    obtain ⟨o, e, _⟩ := T.obj _ _ t2 b hb
    exact Heap.lt_size e
  have f3 : ∀ b ∈ fp, FpOk X pins (upd H2 s2.heap.objs.size (.lst [])) b ∧ b < h3.objs.size := fun b hb => by
    refine ⟨⟨?_, (f2 b hb).2⟩, by rw [z3]; exact Nat.lt_succ_of_lt (fpl b hb)⟩
    rw [upd_ne (Nat.ne_of_lt (fpl b hb))]
    exact (f2 b hb).1
  generalize hs3 : ({ s2 with heap := h3, toks := s2.toks } : Shared) = s3 at I3
  have es3 : s3.heap = h3 := by rw [← hs3]
  have hs3' : ({ s2 with heap := h3 } : Shared) = s3 := hs3
  have I4 := inv_block (s3 := s3) (s4 := { s3 with heap := h4, toks := s3.toks + ([] : List (Str × Value)).length }) hc S c1 c2 I3 (by rw [es3]; exact f3) (by rw [es3]; exact k34) (m := fun x => ([] : List (Str × Value)).reverse.lookup x) (by rw [es3]; exact ns4) rfl rfl
  rw [es3] at I4
  have stat : ∀ {H' : Hp} {s' : Shared} {σ' : St} {pl : List (Addr × Obj)}, Inv (cxC X scope N cl h3.objs.size s3 (upd H2 s2.heap.objs.size (.lst [])) fp) pl σ' H' s' → (∀ p ∈ pl, p.1 ∉ fp) → (∀ b ∈ fp, H' b = none) → ∀ b ∈ fp, FpOk (cxC X scope N cl h3.objs.size s3 (upd H2 s2.heap.objs.size (.lst [])) fp) pl H' b := fun {H' s' σ' pl} I' hpl hn b hb => by
    refine ⟨hn b hb, Nat.ne_of_lt (f3 b hb).2, I'.ok.exfs b hb, .inl hb, fun x c e => (f2 b hb).2.2.2.2.1 x c (c1 x c e), fun p hp => ?_⟩
    intro z
    exact hpl p (by simpa [cxC] using hp) (z ▸ hb)
  have loop : ∀ s4 : Shared, s4 = { s3 with heap := h4, toks := s3.toks + ([] : List (Str × Value)).length } →
      codeAny (model X.prog X.w) X.A (.compLoop (.ListComp elt [⟨tg, iter, ifs, 0⟩] scope pos) 0 (.ref it) (.ref s2.heap.objs.size) (compEnvC scope cl h3.objs.size X.env)) (POST (.ref s2.heap.objs.size) h3.objs.size) s4 := by
    rintro s4 rfl
    refine comp_loop (fun n s' => ∃ i acc σ' H', Inv (cxC X scope N cl h3.objs.size s3 (upd H2 s2.heap.objs.size (.lst [])) fp) [] σ' H' s' ∧ tn i s'.heap ∧ (∀ b ∈ fp, H' b = none) ∧ H' s2.heap.objs.size = some (.lst acc) ∧ W i n acc σ' H') ?_ m0
      ⟨0, [], _, _, I4, T.keep _ _ _ t2 fun b hb o e => k34 b o (k23 b o e), fun b hb => (f3 b hb).1.1, upd_same, w0⟩
    rintro n s5 ⟨i, acc, σ5, H5, I5, t5, fr5, d5, w5⟩ E'
    rcases turn i n acc σ5 H5 w5 d5 with ⟨stop, qn⟩ | ⟨go, NN, hNN, step⟩
    · refine thn (T.done (cxC X scope N cl h3.objs.size s3 (upd H2 s2.heap.objs.size (.lst [])) fp) rfl rfl rfl hc i [] s5 σ5 H5 E' I5 (stat I5 (by simp) fr5) t5 stop) fun r s6 ⟨hr, I6⟩ => ?_
      subst hr
      obtain ⟨m6, n6, _⟩ := id I6.loc
      have J6 : Inv X pins σ H5 s6 := I3.call' (ch := fp) I6.os I6.base I6.hok I6.bare fun b hb => ⟨(f2 b hb).2.2.2.1, (f2 b hb).2.1, (f2 b hb).2.2.2.2.1, (f2 b hb).2.2.2.2.2⟩
      exact fin _ _ s6 H5 m6 J6 (I2.fpOk (by rw [z3]; exact Nat.le_succ _) I6.free) n6 qn
    · refine thn (T.item (cxC X scope N cl h3.objs.size s3 (upd H2 s2.heap.objs.size (.lst [])) fp) rfl rfl rfl hc i [] s5 σ5 H5 E' I5 (stat I5 (by simp) fr5) t5 go) fun r s6 ⟨u, hr, h6⟩ => ?_
      subst hr
      refine thn h6 fun _ s7 ⟨x, H7, I7, r7, y7, t7, fr7⟩ => ?_
      have I7' := I7.pinned (stat I7 (by simp) fr7) (T.obj _ _ t7)
      have backTn : ∀ {s' : Shared} {H' : Hp} {σ' : St}, Inv (cxC X scope N cl h3.objs.size s3 (upd H2 s2.heap.objs.size (.lst [])) fp) ([] ++ pinsAt fp s7.heap) σ' H' s' → tn (i + 1) s'.heap ∧ ∀ b ∈ fp, H' b = none := fun {s' H' σ'} I' => by
        refine ⟨T.keep _ _ _ t7 fun b hb o e => (I'.pin (b, o) (List.mem_append_right _ (List.mem_append_right _ (mem_pinsAt hb e)))).1, fun b hb => ?_⟩
        obtain ⟨o, e, _⟩ := T.obj _ _ t7 b hb
        exact (I'.pin (b, o) (List.mem_append_right _ (List.mem_append_right _ (mem_pinsAt hb e)))).2.1
      refine nx (hg _ _ _ _ _ s7 σ5 H7 x u _ I7' r7 (step x H7 y7)) fun _ s8 ⟨σ8, H8, I8, q8⟩ => ?_
      refine nx (ht _ _ _ _ _ s8 σ8 H8 _ I8 q8) fun ok s9 ⟨H9, I9, q9⟩ => ?_
      cases ok with
      | false =>
        obtain ⟨d9, n9⟩ := q9
        obtain ⟨m', hm, w9⟩ := hNN _ _ _ n9
        obtain ⟨a1, a2⟩ := backTn I9
        exact ⟨m', hm, i + 1, acc, σ8, H9, I9.unpinned, a1, a2, d9, w9⟩
      | true =>
        rw [if_pos rfl]
        refine nx (he _ _ _ _ _ s9 σ8 H9 _ I9 q9) fun y s10 ⟨v, H10, I10, r10, d10, l10, n10⟩ => ?_
        obtain ⟨m', hm, w10⟩ := hNN _ _ _ n10
        refine nx (mt_append _ s10 σ8 H10 (.ref s2.heap.objs.size) [v] (.ref s2.heap.objs.size) [y] (fun _ H' => H' = upd H10 s2.heap.objs.size (.lst (acc ++ [v]))) I10 rfl (.cons r10 .nil) ⟨_, acc, v, rfl, rfl, d10, l10, rfl⟩) fun _ s11 ⟨_, H11, I11, _, e11⟩ => ?_
        subst e11
        obtain ⟨a1, a2⟩ := backTn I11
        exact ⟨m', hm, i + 1, _, σ8, _, I11.unpinned, a1, a2, upd_same, w10⟩
  exact codeAny_compStart_list (loop _ (by rw [← hs3])) (T.self _ 0 _ _ _ (T.keep _ _ _ t2 fun b hb o e => k34 b o (k23 b o e)) (loop _ (by rw [← hs3])))
theorem pe_comp (osc : Scope) (NX own : List Str) (fr : List Nat) (N : List Str) {wi : TI} {g : TG} {tc : TT} {te : TE} (hc : X.calm = true)
    (hi : PI X tg iter wi) (hg : ∀ cl C s₀ H₀ ex, PG (cxC X scope N cl C s₀ H₀ ex) tg g) (ht : ∀ cl C s₀ H₀ ex, PTs (cxC X scope N cl C s₀ H₀ ex) ifs tc) (he : ∀ cl C s₀ H₀ ex, PE (cxC X scope N cl C s₀ H₀ ex) elt te)
    (hs : ∀ x, foldedSetIterable iter X.env x = pure x := by intro _; rfl) (hosc : X.env.scope = osc := by rfl) (hNX : X.N = NX := by rfl) (hS : compOk osc scope NX own fr N = true := by decide +kernel) :
    PE X (.ListComp elt [⟨tg, iter, ifs, 0⟩] scope pos) (tComp own.length fr wi g tc te) := by
  intro pins s σ H Q I h
  have S : CompSc X.env.scope scope X.N own fr N := by rw [hosc, hNX]; exact CompSc.of hS
  obtain ⟨cl, ecl, c1, c2⟩ := clos_ok (scope := scope) (env := X.env) fun y hy hf => I.ok.has y.1 (S.free y hy hf)
  rw [eval_ListComp]
  refine wpAny_comprehension_free (use := none) rfl hs ecl S.kind S.loc (thn (hi pins s σ H _ I h) fun v s1 h1 => thn h1 fun itv s2 h2 => ?_)
  obtain ⟨it, fp, tn, J, H2, e, I2, T, t2, f2, q⟩ := h2
  subst e
  refine comp_block (POST := fun acc C => compPost (model X.prog X.w) X.A X.xe none (EP X pins σ Q) acc C) hc S c1 c2 (hg cl) (ht cl) (he cl) I2 T t2 f2 q fun D C s' H' m I' fC ns q' => ?_
  refine ⟨m, ns, fun h' sb => ⟨.ref D, H', ?_, rfl, q'⟩⟩
  obtain ⟨g0, g1, _, g3, g4, g5⟩ := fC
  exact I'.turned (t' := s'.toks) (fun b o hb e => (sb.2 b hb).trans e) g0 g1 g3 g4 g5
theorem ps_setC {wi : TI} {g : TG} {tc : TT} {te : TE} {i : Nat} {x : Str} {px spos : Pos} (hN : X.N.Nodup) (hi' : X.N[i]? = some x) (hx : X.env.scope.names.lookup x = some .local)
    (hsw : swapsWith (.ListComp elt [⟨tg, iter, ifs, 0⟩] scope pos) (some (.Name x px)) spos.line X.env = pure true)
    (osc : Scope) (NX own : List Str) (fr : List Nat) (N : List Str) (hc : X.calm = true)
    (hi : PI X tg iter wi) (hg : ∀ cl C s₀ H₀ ex, PG (cxC X scope N cl C s₀ H₀ ex) tg g) (ht : ∀ cl C s₀ H₀ ex, PTs (cxC X scope N cl C s₀ H₀ ex) ifs tc) (he : ∀ cl C s₀ H₀ ex, PE (cxC X scope N cl C s₀ H₀ ex) elt te)
    (hs : ∀ x, foldedSetIterable iter X.env x = pure x := by intro _; rfl) (hosc : X.env.scope = osc := by rfl) (hNX : X.N = NX := by rfl) (hS : compOk osc scope NX own fr N = true := by decide +kernel) :
    PS X (.Assign [.Name x px] (.ListComp elt [⟨tg, iter, ifs, 0⟩] scope pos) spos) (tAsg (tComp own.length fr wi g tc te) (gName i)) := by
  intro pins s σ H D I h
  have S : CompSc X.env.scope scope X.N own fr N := by rw [hosc, hNX]; exact CompSc.of hS
  obtain ⟨cl, ecl, c1, c2⟩ := clos_ok (scope := scope) (env := X.env) fun y hy hf => I.ok.has y.1 (S.free y hy hf)
  rw [exec_Assign_Name_used _ _ _ _ hsw]
  refine wpAny_bind (wpAny_standAt (wpAny_bind ?_))
  show wpAny _ X.A (do let _ ← comprehension (.ListComp elt [⟨tg, iter, ifs, 0⟩] scope pos) scope X.env _ (newList []) false (eval iter X.env) (some (assign (.Name x px) X.env))) _ _ s
  refine wpAny_bind (thn (wpAny_comprehension_free (use := some (assign (.Name x px) X.env)) (Q := fun _ s' => SP X pins D .next s') rfl hs ecl S.kind S.loc (thn (hi pins s σ H _ I h) fun v s1 h1 => thn h1 fun itv s2 h2 => ?_)) fun _ s' hq => wpAny_pure (wpAny_pure hq))
  obtain ⟨it, fp, tn, J, H2, e, I2, T, t2, f2, q⟩ := h2
  subst e
  refine comp_block (POST := fun acc C => compPost (model X.prog X.w) X.A X.xe (some (assign (.Name x px) X.env)) (fun _ s' => SP X pins D .next s') acc C) hc S c1 c2 (hg cl) (ht cl) (he cl) I2 T t2 f2 q fun D' C s' H' m I' fC ns q' => ?_
  show wpAny _ X.A (assign (.Name x px) X.env (.ref D')) _ _ s'
  refine wpAny_assign_Name (store_ok2 I' hN hi' (.inl hx) (show RelV (.ref D') (.ref D') from rfl) (fun s3 I3 sb => ?_) (.inr hx))
  obtain ⟨a, sb, ha⟩ := sb
  obtain ⟨g0, g1, g2, g3, g4, g5⟩ := fC
  have aC : C ≠ a := by
    rcases ha with z | z
    · rw [z]; exact g1
    · exact fun w => g4 x a z w.symm
  refine ⟨m, ns.sameBut sb aC, fun h' sb' => ⟨_, H', ?_, q'⟩⟩
  exact I3.turned (t' := s3.toks) (fun b o hb e => (sb'.2 b hb).trans e) g0 g1 g3 g4 g5
end
end L2
namespace L2
open PySem PySem.Spec PyProof.Rows
noncomputable def sgV (x : Str) (i : Nat) : Option V := (x.cps[i]?).map fun c => V.str ⟨#[c]⟩
noncomputable def Its (x : Str) : It := ⟨fun i _ => i < x.cps.size, fun i H v H' => H' = H ∧ sgV x i = some v, fun i _ => x.cps.size ≤ i⟩
theorem turn_signs {P : Program} {w : World} {K : PySem.W.Frag} {tg : Expr} (T : String) (it : Addr) (x : Str) (t : Tok)
    (hn : ["enumerate", "zip", "dict_itemiterator", "dict_reverseitemiterator", "odict_iterator", "itertools.zip_longest", "itertools.pairwise"].contains T = false)
    (W : ∀ A : Around, A.handled = none → Walks P w A it [it] [it] x.cps.size (SignAt x) (fun i h => h.IsStrIter it T x t i))
    (hs : ∀ (A : Around) (i : Nat) (s : Shared) (Q : Value → Shared → Prop) (E : Value → Shared → Prop), s.heap.IsStrIter it T x t i → Q (.ref it) s → wpAny (model P w) A (pyIter (.ref it)) Q E s) :
    Turn P w K tg (Its x) [it] it (fun i h => h.IsStrIter it T x t i ∧ i ≤ x.cps.size) where
  mem := by simp
  obj := fun i h st b hb => by
    have e : b = it := by simpa using hb
    subst e
    obtain ⟨o, e, c, d⟩ := st.1
    exact ⟨o, e, fun v z => by rw [d] at z; cases z⟩
  keep := fun i h h' st k => ⟨by
    obtain ⟨o, e, c⟩ := st.1
    exact ⟨o, k it (by simp) o e, c⟩, st.2⟩
  item := by
    intro X hP hw hK hc i pins s σ H E I hf st hg
    subst hP hw hK
    obtain ⟨f0, f1, f2, f3, f4, f5⟩ := hf it (by simp)
    refine (W X.A (I.ok.hd hc)).item i s _ _ hg st.1 fun v h' tk hv st' kk => ?_
    obtain ⟨c, u, hcp, rfl⟩ := hv
    have I1 : Inv X pins σ H { s with heap := h', toks := tk } := I.turned (fun b o hb e => kk b o (by simpa using hb) e) f0 f1 f3 f4 f5
    obtain ⟨o, e, cc, d⟩ := id st'
    refine ⟨_, rfl, go_of (s := { s with heap := h', toks := tk }) e cc d hn ⟨.str ⟨#[c]⟩, H, I1, ⟨u, rfl⟩, ⟨rfl, ?_⟩, ⟨st', ?_⟩, fun b hb => (hf b hb).1⟩⟩
    · unfold sgV; rw [hcp]; rfl
    · exact hg
  done := by
    intro X hP hw hK hc i pins s σ H E I hf st hg
    subst hP hw hK
    obtain ⟨f0, f1, f2, f3, f4, f5⟩ := hf it (by simp)
    have e : i = x.cps.size := Nat.le_antisymm st.2 hg
    subst e
    exact (W X.A (I.ok.hd hc)).done s _ _ st.1 fun h' tk kk => ⟨rfl, I.turned (fun b o hb e => kk b o (by simpa using hb) e) f0 f1 f3 f4 f5⟩
  self := fun A i s Q E st h => hs A i s Q E st.1 h
noncomputable def iStr (tl : TE) : TI := fun σ H R => tl σ H fun x H1 => ∃ z, x = .str z ∧ R (Its z) H1
theorem pi_str {X : Cx} {tg l : Expr} {tl : TE} (hl : PE X l tl) : PI X tg l (iStr tl) := by
  intro pins s σ H R I h
  refine thn (hl pins s σ H _ I h) fun v s1 ⟨x, H1, I1, r1, q1⟩ => ?_
  obtain ⟨z, e, q⟩ := q1
  subst e
  obtain ⟨t, rfl⟩ := r1
  have fin : ∀ (T : String), ["enumerate", "zip", "dict_itemiterator", "dict_reverseitemiterator", "odict_iterator", "itertools.zip_longest", "itertools.pairwise"].contains T = false →
      (∀ A : Around, A.handled = none → Walks X.prog X.w A s1.heap.objs.size [s1.heap.objs.size] [s1.heap.objs.size] z.cps.size (SignAt z) (fun i h => h.IsStrIter s1.heap.objs.size T z t i)) →
      (∀ (A : Around) (i : Nat) (s : Shared) (Q : Value → Shared → Prop) (E : Value → Shared → Prop), s.heap.IsStrIter s1.heap.objs.size T z t i → Q (.ref s1.heap.objs.size) s → wpAny (model X.prog X.w) A (pyIter (.ref s1.heap.objs.size)) Q E s) →
      PIE X pins σ tg R (.ref s1.heap.objs.size) { s1 with heap := s1.heap.push { cls := .type T, data := .fields #[.str z t, .int 0 0] } } := fun T hn W hs => by
    refine ⟨_, [s1.heap.objs.size], _, _, H1, rfl, I1.kept (t' := s1.toks) fun b o e => Heap.get?_push_of_some _ e, turn_signs T _ z t hn W hs, ⟨⟨_, Heap.get?_push_size _ rfl, rfl, rfl⟩, Nat.zero_le _⟩, fun b hb => ?_, q⟩
    have e : b = s1.heap.objs.size := by simpa using hb
    subst e
    exact I1.fpOk (Nat.le_refl _) (I1.hok.fresh (Nat.le_refl _))
  cases ha : z.cps.all (· < 128)
  · exact wpAny_pyIter_wide ha (fin "str_iterator" (by decide) (fun A hA => Walks.strWide hA _ z t) fun A i s Q E st h => wpAny_pyIter_striter_wide st h)
  · exact wpAny_pyIter_ascii ha (fin "str_ascii_iterator" (by decide) (fun A hA => Walks.strAscii hA _ z t) fun A i s Q E st h => wpAny_pyIter_striter_ascii st h)
noncomputable def Ite (K : PySem.W.Frag) (a : Addr) : It :=
  ⟨fun i H => ∃ xs x, SqL K H a xs ∧ xs[i]? = some x, fun i H v H' => ∃ p x, H p = none ∧ v = .ref p ∧ (∀ xs, SqL K H a xs → xs[i]? = some x) ∧ H' = upd H p (.tup [.int i, x]), fun i H => ∃ xs, SqL K H a xs ∧ xs.length ≤ i⟩
theorem turn_enum {P : Program} {w : World} {K : PySem.W.Frag} {elts : List Expr} {k : Nat} {tp : Pos} (a e it : Addr) (hne : e ≠ it) :
    Turn P w K (.Tuple elts k tp) (Ite K a) [e, it] e (fun i h => (∃ old, IsEnum h e it i old) ∧ h.IsListIter it a i) where
  mem := by simp
  obj := fun i h st b hb => by
    obtain ⟨⟨old, he⟩, hit⟩ := st
    have hb : b = e ∨ b = it := by simpa using hb
    rcases hb with z | z
    · subst z
      exact ⟨_, he, fun v z => by cases z⟩
    · subst z
      obtain ⟨o, e1, c, d⟩ := hit
      exact ⟨o, e1, fun v z => by rw [d] at z; cases z⟩
  keep := fun i h h' st kk => by
    obtain ⟨⟨old, he⟩, hit⟩ := st
    exact ⟨⟨old, kk e (by simp) _ he⟩, hit.at fun o q => kk it (by simp) o q⟩
  item := by
    intro X hP hw hK hc i pins s σ H E I hf st hg
    subst hP hw hK
    obtain ⟨⟨old, he⟩, hit⟩ := st
    obtain ⟨xs, x, hq, hx⟩ := hg
    obtain ⟨its, rv, p, hz⟩ := I.list hq
    obtain ⟨u, hu, ru⟩ := rv.get hx
    obtain ⟨f0, f1, f2, f3, f4, f5⟩ := hf e (by simp)
    obtain ⟨g0, g1, g2, g3, g4, g5⟩ := hf it (by simp)
    refine wpAny_pyNext_enum_item he hit p.isList (x := u) (by simpa using hu) hne fun h1 ho hit1 ht1 hz1 k1 => ?_
    have hel : e < s.heap.objs.size := Heap.lt_size he
    have hil : it < s.heap.objs.size := by obtain ⟨o, q, _⟩ := hit; exact Heap.lt_size q
    refine ⟨_, rfl, wpAny_letOwnedTupleGo_enum ho fun h2 he2 sb2 => ?_⟩
    have sb2 : Heap.SameBut e h1 h2 := sb2
    have T2 : h2.get? s.heap.objs.size = some { cls := .type "tuple", data := .seq #[.int i s.toks, u] } := (sb2.2 _ (Nat.ne_of_gt hel)).trans ht1
    have hp : H s.heap.objs.size = none := I.hok.fresh (Nat.le_refl _)
    have nit : ∀ b v, H b = some v → b ≠ e ∧ b ≠ it := fun b v q => ⟨fun z => (by rw [z, f0] at q; cases q), fun z => (by rw [z, g0] at q; cases q)⟩
    have kk : ∀ b o, b ≠ e → b ≠ it → s.heap.get? b = some o → h2.get? b = some o := fun b o n1 n2 q => (sb2.2 b n1).trans (k1 b o n1 n2 q)
    have up : ∀ b v, H b = some v → upd H s.heap.objs.size (.tup [.int i, x]) b = some v := fun b v q => by rw [upd_ne (ne_of_none q hp)]; exact q
    have I1 : Inv X pins σ (upd H s.heap.objs.size (.tup [.int i, x])) { s with heap := h2, gens := s.gens, drawn := s.drawn, toks := s.toks + 1 } := by
      refine I.step (g' := s.gens) (d' := s.drawn) (ch := [e, it]) (fun b hb => ?_) (fun b o _ _ hb q _ => kk b o (fun z => hb (by simp [z])) (fun z => hb (by simp [z])) q) (fun b o _ _ hb q _ => ⟨o.slots, kk b o (fun z => hb (by simp [z])) (fun z => hb (by simp [z])) q⟩) (fun b o _ q n => ?_)
        (fun b o hb q => ⟨o, kk b o (fun z => hb (by simp [z])) (fun z => hb (by simp [z])) q⟩) (fun b ys q => up b _ q) (fun b o v q => up b _ q) (fun b ps q => ⟨#[], by rw [up b _ q]; simp⟩) (fun m hm => ?_) (fun b v q => ?_) I.bare
      · have hb : b = e ∨ b = it := by simpa using hb
        rcases hb with z | z
        · subst z; exact ⟨f3, f1, f4, f5⟩
        · subst z; exact ⟨g3, g1, g4, g5⟩
      · rw [upd_ne (Nat.ne_of_lt (Heap.lt_size q))]; exact n
      · obtain ⟨o, es, ep, ho, r⟩ := hm
        exact ⟨o, es, ep, kk _ o (Ne.symm f1) (Ne.symm g1) ho, r⟩
      · by_cases hb : b = s.heap.objs.size
        · subst hb
          rw [upd_same] at q
          have q' : HO.tup [V.int i, x] = v := Option.some.inj q
          subst q'
          exact ⟨by show 2 ≤ sizeLine; decide, [.int i s.toks, u], .cons ⟨_, rfl⟩ (.cons ru .nil), ⟨_, T2, rfl, _, rfl, rfl⟩⟩
        · rw [upd_ne hb] at q
          refine (I.hok b v q).stay (fun c v' hc q' => ?_) (fun c q => up c _ q) fun c ys q => up c _ q
          rcases hc with z | z
          · rw [z] at q' ⊢; exact kk b v' (nit b v q).1 (nit b v q).2 q'
          · exact kk c v' (nit c _ z).1 (nit c _ z).2 q'
    refine ⟨.ref s.heap.objs.size, upd H s.heap.objs.size (.tup [.int i, x]), I1, rfl, ⟨_, x, hp, rfl, fun ys hy => by rw [I.list_inj hy hq]; exact hx, rfl⟩, ⟨⟨u, ?_⟩, ?_⟩, fun b hb => ?_⟩
    · exact (by simpa using he2)
    · exact hit1.at fun o q => (sb2.2 it (Ne.symm hne)).trans q
    · have hb : b = e ∨ b = it := by simpa using hb
      rcases hb with z | z
      · rw [z, upd_ne (Nat.ne_of_lt hel)]; exact f0
      · rw [z, upd_ne (Nat.ne_of_lt hil)]; exact g0
  done := by
    intro X hP hw hK hc i pins s σ H E I hf st hg
    subst hP hw hK
    obtain ⟨⟨old, he⟩, hit⟩ := st
    obtain ⟨xs, hq, hx⟩ := hg
    obtain ⟨its, rv, p, hz⟩ := I.list hq
    obtain ⟨g0, g1, g2, g3, g4, g5⟩ := hf it (by simp)
    have hl := rv.length
    exact wpAny_pyNext_enum_end (I.ok.hd hc) he hit p.isList (by simp; omega) fun h' eb => ⟨rfl, I.turned (t' := s.toks) (fun b o hb q => eb b o hb q) g0 g1 g3 g4 g5⟩
  self := fun _ _ _ _ _ st h => by
    obtain ⟨⟨old, he⟩, _⟩ := st
    exact wpAny_pyIter_enum he h
end L2
namespace L2
open PySem PySem.Spec PyProof.Rows
mutual
inductive Rep (H : Hp) : V → PyData → Prop
  | non : Rep H .non .none
  | bl (b : Bool) : Rep H (.bl b) (.bool b)
  | int (i : Int) : Rep H (.int i) (.int i)
  | str (x : Str) : Rep H (.str x) (.str x)
  | lst {a : Addr} {xs : List V} {ds : List PyData} : H a = some (.lst xs) → RepAll H xs ds → Rep H (.ref a) (.list ds)
  | tup {a : Addr} {xs : List V} {ds : List PyData} : H a = some (.tup xs) → RepAll H xs ds → Rep H (.ref a) (.tuple ds)
inductive RepAll (H : Hp) : List V → List PyData → Prop
  | nil : RepAll H [] []
  | cons {x : V} {xs : List V} {d : PyData} {ds : List PyData} : Rep H x d → RepAll H xs ds → RepAll H (x :: xs) (d :: ds)
end
mutual
theorem Rep.reads {P : Program} {w : World} {H : Hp} {h : Heap} (ok : HOk P w H h) : ∀ {v : V} {d : PyData} {u : Value}, Rep H v d → RelV v u → ∃ as, Reads h u d as
  | _, _, _, .non, r => by cases r; exact ⟨_, .none⟩
  | _, _, _, .bl b, r => by cases r; exact ⟨_, .bool b⟩
  | _, _, _, .int i, r => by obtain ⟨t, rfl⟩ := r; exact ⟨_, .int i t⟩
  | _, _, _, .str x, r => by obtain ⟨t, rfl⟩ := r; exact ⟨_, .str x t⟩
  | _, _, _, .lst (a := a) (xs := xs) e rs, r => by
    cases r
    obtain ⟨_, its, n, rv, eh⟩ := (show ObjOk P w H h a (.lst xs) from ok a _ e)
    obtain ⟨as, z⟩ := RepAll.reads ok rs rv
    exact ⟨_, .list eh rfl rfl (by simpa using z)⟩
  | _, _, _, .tup (a := a) (xs := xs) e rs, r => by
    cases r
    obtain ⟨_, its, rv, o, eh, hc, n, hd, _⟩ := (show ObjOk P w H h a (.tup xs) from ok a _ e)
    obtain ⟨as, z⟩ := RepAll.reads ok rs rv
    exact ⟨_, .tuple eh hc hd (by simpa using z)⟩
theorem RepAll.reads {P : Program} {w : World} {H : Hp} {h : Heap} (ok : HOk P w H h) : ∀ {vs : List V} {ds : List PyData} {us : List Value}, RepAll H vs ds → Vals vs us → ∃ as, ReadsAll h us ds as
  | _, _, _, .nil, r => by cases r; exact ⟨_, .nil⟩
  | _, _, _, .cons q qs, r => by
    cases r with
    | cons r1 r2 =>
      obtain ⟨as, z⟩ := Rep.reads ok q r1
      obtain ⟨bs, zs⟩ := RepAll.reads ok qs r2
      exact ⟨_, .cons z zs⟩
end
mutual
theorem Rep.same {H H' : Hp} (s : Same H H') : ∀ {v : V} {d : PyData}, Rep H v d → Rep H' v d
  | _, _, .non => .non
  | _, _, .bl b => .bl b
  | _, _, .int i => .int i
  | _, _, .str x => .str x
  | _, _, .lst e rs => .lst (s _ _ e) (rs.same s)
  | _, _, .tup e rs => .tup (s _ _ e) (rs.same s)
theorem RepAll.same {H H' : Hp} (s : Same H H') : ∀ {vs : List V} {ds : List PyData}, RepAll H vs ds → RepAll H' vs ds
  | _, _, .nil => .nil
  | _, _, .cons q qs => .cons (q.same s) (qs.same s)
end
section
variable {X : Cx}
noncomputable def shp (d : PyData) : Prop := SeqAt.shaped d = true
noncomputable def rEqD : R2 := fun x y H Q => ∃ da db, Rep H x da ∧ Rep H y db ∧ shp da ∧ shp db ∧ Q (.bl (PyData.eqv da db)) H
noncomputable def rNeD : R2 := fun x y H Q => ∃ da db, Rep H x da ∧ Rep H y db ∧ shp da ∧ shp db ∧ Q (.bl (!PyData.eqv da db)) H
theorem op_eqD (hu : X.A.units + 64 < cLine) : OpR X (compareOp .Eq) rEqD := by
  intro pins s σ H x y v u Q I rx ry h
  obtain ⟨da, db, ra, rb, sa, sb, q⟩ := h
  obtain ⟨as, za⟩ := ra.reads I.hok rx
  obtain ⟨bs, zb⟩ := rb.reads I.hok ry
  exact eq_dataH za zb sa sb hu ⟨.bl _, H, I, rfl, q⟩
theorem op_neD (hu : X.A.units + 64 < cLine) : OpR X (compareOp .NotEq) rNeD := by
  intro pins s σ H x y v u Q I rx ry h
  obtain ⟨da, db, ra, rb, sa, sb, q⟩ := h
  obtain ⟨as, za⟩ := ra.reads I.hok rx
  obtain ⟨bs, zb⟩ := rb.reads I.hok ry
  exact ne_dataH za zb sa sb hu ⟨.bl _, H, I, rfl, q⟩
theorem op_le_str : OpR X (compareOp .LtE) (fun x y H Q => ∃ i j, x = .str i ∧ y = .str j ∧ Q (.bl (!decide (j.cps.toList < i.cps.toList))) H) := by
  intro pins s σ H x y v u Q I rx ry h
  obtain ⟨i, j, rfl, rfl, q⟩ := h
  obtain ⟨t, rfl⟩ := rx
  obtain ⟨t', rfl⟩ := ry
  exact PySem.P.le_str (fin_bl I q (by simp))
theorem all_range (bs : List Bool) : ((List.range bs.length).all fun i => bs.getD i false) = bs.all id := by
  rw [Bool.eq_iff_iff, List.all_eq_true, List.all_eq_true]
  constructor
  · intro h b hb
    obtain ⟨i, hi, rfl⟩ := List.mem_iff_getElem.mp hb
    have := h i (by simpa using hi)
    simpa [List.getD_eq_getElem?_getD, hi] using this
  · intro h i hi
    have hi : i < bs.length := by simpa using hi
    have := h bs[i] (List.getElem_mem hi)
    simpa [List.getD_eq_getElem?_getD, hi] using this
theorem vals_bl {bs : List Bool} {its : List Value} (r : Vals (bs.map V.bl) its) {i : Nat} {v : Value} (e : its[i]? = some v) : v = .bool (bs.getD i false) := by
  have hl := r.length
  rw [List.length_map] at hl
  have hi : i < bs.length := by rw [hl]; exact (List.getElem?_eq_some_iff.mp e).1
  obtain ⟨u, hu, ru⟩ := r.get (i := i) (x := V.bl (bs.getD i false)) (by rw [List.getElem?_map]; simp [List.getD_eq_getElem?_getD, hi])
  rw [e] at hu
  cases hu
  exact ru
theorem call_all_bl (hc : X.calm = true) : CallR X (.builtin "all") (fun xs H Q => ∃ p bs, xs = [.ref p] ∧ H p = some (.lst (List.map V.bl bs)) ∧ Q (.bl (bs.all id)) H) := by
  intro pins s σ H xs us Q I r h
  obtain ⟨p, bs, rfl, e, q⟩ := h
  obtain ⟨u, rfl, ru⟩ := vals1 r
  cases ru
  obtain ⟨hz, its, n, rv, eh⟩ := (show ObjOk X.prog X.w H s.heap p (.lst (List.map V.bl bs)) from I.hok p _ e)
  have hl : s.heap.IsList p its.toArray := ⟨_, eh, rfl, n, rfl⟩
  have hlen : its.length = bs.length := by have := rv.length; rw [List.length_map] at this; exact this.symm
  have hpl : p < s.heap.objs.size := Heap.lt_size eh
  refine call_all_walk (wpAny_pyIter_list hl ?_)
  refine ⟨s.heap.objs.size, [s.heap.objs.size, p], [s.heap.objs.size], its.toArray.size, _, _, fun i => bs.getD i false, rfl,
    Walks.list (A := X.A.in1) (I.ok.hd hc) _ p (Nat.ne_of_lt hpl) its.toArray, ⟨⟨_, Heap.get?_push_size _ rfl, rfl, rfl⟩, ⟨_, Heap.get?_push_of_some _ eh, rfl, n, rfl⟩⟩, ?_, fun h' tk hk => ?_⟩
  · intro i v s' Q' E' hv hQ'
    have hv : its[i]? = some v := by simpa using hv
    rw [vals_bl rv hv]
    exact wpAny_pure hQ'
  · refine ⟨.bl _, H, I.kept fun b o eb => hk b o (by simpa using Nat.ne_of_lt (Heap.lt_size eb)) (Heap.get?_push_of_some _ eb), rfl, ?_⟩
    rw [List.size_toArray, hlen, all_range]
    exact q
theorem strs_of : ∀ {ys : List Str} {us : List Value}, Vals (ys.map V.str) us → StrsAre us ys
  | [], us, r => by cases r; exact .nil
  | y :: ys, us, r => by
    cases r with
    | cons r1 r2 =>
      obtain ⟨t, rfl⟩ := r1
      exact .cons y t (strs_of r2)
noncomputable def rJoin : V → List V → Hp → VK → Prop := fun x xs H Q => ∃ z p ys, x = .str z ∧ xs = [.ref p] ∧ H p = some (.lst (List.map V.str ys)) ∧ (ys.map (·.length)).sum + ys.length * z.length ≤ 16777216 ∧ Q (.str (Txt.join z ys)) H
theorem mt_join : MtR X "str.join" rJoin := by
  intro pins s σ H x xs v us Q I rx rv h
  obtain ⟨z, p, ys, rfl, rfl, e, hz, q⟩ := h
  obtain ⟨t, rfl⟩ := rx
  obtain ⟨u, rfl, ru⟩ := vals1 rv
  cases ru
  obtain ⟨_, its, n, rv, eh⟩ := (show ObjOk X.prog X.w H s.heap p (.lst (List.map V.str ys)) from I.hok p _ e)
  exact join_list (D := p) (items := its.toArray) ⟨_, eh, rfl, n, rfl⟩ (by simpa using strs_of rv) hz fun t' k => ⟨.str _, H, I.tok k, ⟨t', rfl⟩, q⟩
noncomputable def rSlS : V → Option Int → Option Int → Hp → VK → Prop := fun x lo hi H Q => ∃ z, x = .str z ∧ z.length ≤ sizeLine ∧ Q (.str (Txt.slice z lo hi)) H
theorem sl_str : SlR X rSlS := by
  intro pins s σ H x v vl vu lo hi sl Q I rx hs pl pu h
  obtain ⟨z, rfl, hz, q⟩ := h
  obtain ⟨t, rfl⟩ := rx
  refine ⟨"str", _, PySem.F.slot_str_getitem.lookup, typeIs_str _ _ _, ?_⟩
  obtain ⟨o, h1, h2, h3⟩ := hs
  have fin : ∀ t' k, EP X pins σ Q (.str (Txt.slice z lo hi) t') { s with toks := k } := fun t' k => ⟨.str _, H, I.tok k, ⟨t', rfl⟩, q⟩
  cases pl with
  | none => cases pu with
    | none => exact wpAny_getItem_str_slice (l := none) (u := none) (st := none) ⟨o, h1, h2, h3⟩ rfl (post_val_or_str ⟨Nat.le_trans (Txt.slice_le z _ _) hz, fin⟩)
    | int j tj => exact wpAny_getItem_str_slice (l := none) (u := some (j, tj)) (st := none) ⟨o, h1, h2, h3⟩ rfl (post_val_or_str ⟨Nat.le_trans (Txt.slice_le z _ _) hz, fin⟩)
  | int i ti => cases pu with
    | none => exact wpAny_getItem_str_slice (l := some (i, ti)) (u := none) (st := none) ⟨o, h1, h2, h3⟩ rfl (post_val_or_str ⟨Nat.le_trans (Txt.slice_le z _ _) hz, fin⟩)
    | int j tj => exact wpAny_getItem_str_slice (l := some (i, ti)) (u := some (j, tj)) (st := none) ⟨o, h1, h2, h3⟩ rfl (post_val_or_str ⟨Nat.le_trans (Txt.slice_le z _ _) hz, fin⟩)
noncomputable def rIsi (K : PySem.W.Frag) (c : String) : List V → Hp → VK → Prop := fun xs H Q => ∃ x t b, xs = [x, .ty c] ∧ TyOf K H x t ∧ PySem.W.kitOne K t (.type c) = some b ∧ Q (.bl b) H
theorem call_isi (c : String) : CallR X (.builtin "isinstance") (rIsi X.K c) := by
  intro pins s σ H xs us Q I r h
  obtain ⟨x, t, b, rfl, ty, e, q⟩ := h
  obtain ⟨u, w', rfl, ru, rw'⟩ := vals2 r
  cases rw'
  exact isinst_ok I ru ty e fun tk => ⟨.bl b, H, I.tok tk, rfl, q⟩
noncomputable def isFl : V → Bool
  | .non | .bl _ | .int _ | .str _ => true
  | _ => false
noncomputable def flD : V → PyData
  | .bl b => .bool b
  | .int i => .int i
  | .str x => .str x
  | _ => .none
theorem fl_reads {h : Heap} {v : V} {u : Value} (f : isFl v = true) (r : RelV v u) : Reads h u (flD v) [] := by
  cases v with
  | non => cases r; exact .none
  | bl b => cases r; exact .bool b
  | int i => obtain ⟨t, rfl⟩ := r; exact .int i t
  | str x => obtain ⟨t, rfl⟩ := r; exact .str x t
  | _ => cases f
theorem fl_pairs {P : Program} {w : World} {h : Heap} : ∀ {kvs : List (Key × V)} {vs : List (Key × Value)} {es : List DictEntry}, KV kvs vs → Pairs (mixKind P w) es vs → kvs.all (fun p => isFl p.2) = true →
    ReadsAll h (es.map (·.key)) ((kvs.map fun p => (flD (kV p.1), flD p.2)).map (·.1)) [] ∧ ReadsAll h (es.map (·.val)) ((kvs.map fun p => (flD (kV p.1), flD p.2)).map (·.2)) []
  | [], _, _, r, q, _ => by
    cases r
    cases q
    exact ⟨.nil, .nil⟩
  | p :: kvs, vs, es, r, q, f => by
    cases r with
    | @cons _ b _ vs' r1 r2 =>
      cases q with
      | cons qk qv q2 =>
        rw [List.all_cons, Bool.and_eq_true] at f
        obtain ⟨a1, a2⟩ := fl_pairs r2 q2 f.2
        rename_i en es'
        have k1 : Reads h en.key (flD (kV p.1)) [] := by
          have hk := qk
          rw [← r1.1] at hk
          rcases keyIs_shape hk with ⟨i, t, e1, e2⟩ | ⟨x, t, e1, e2⟩
          · rw [e1, e2]; exact .int i t
          · rw [e1, e2]; exact .str x t
        have v1 : Reads h en.val (flD p.2) [] := by
          rw [qv]
          exact fl_reads f.1 r1.2
        exact ⟨.cons k1 a1, .cons v1 a2⟩
noncomputable def dictD (kvs : List (Key × V)) : PyData := .dict (kvs.map fun p => (flD (kV p.1), flD p.2))
theorem any_readOf {P : Program} {w : World} {H : Hp} {h : Heap} (ok : HOk P w H h) {d : PyData} : ∀ {xs : List V} {ds : List PyData} {us : List Value}, RepAll H xs ds → Vals xs us → PyData.canLayAll0 ds = true → us.any (fun u => PyData.eqv (SeqAt.readOf h u) d) = ds.any fun e => PyData.eqv e d
  | _, _, _, .nil, r, _ => by cases r; rfl
  | _, _, _, .cons q qs, r, hl => by
    cases r with
    | cons r1 r2 =>
      have hl' := Bool.and_eq_true_iff.mp (show (PyData.canLay0 _ && PyData.canLayAll0 _) = true from hl)
      obtain ⟨as, z⟩ := q.reads ok r1
      rw [List.any_cons, List.any_cons, SeqAt.readOf_eq hl'.1 z, any_readOf ok qs r2 hl'.2]
theorem mem_readOf {P : Program} {w : World} {H : Hp} {A : Around} {s : Shared} (ok : HOk P w H s.heap) {d : PyData} {x : V} {v : Value} {bs : List Addr} (zx : Reads s.heap v d bs) (hd : d.canLay0 = true) (hu : A.units + d.depth < cLine) :
    ∀ {xs : List V} {ds : List PyData} {us : List Value}, RepAll H xs ds → Vals xs us → PyData.canLayAll0 ds = true → ∀ u ∈ us, SeqAt.EqAt A s u v (PyData.eqv (SeqAt.readOf s.heap u) d)
  | _, _, _, .nil, r, _ => by cases r; intro u hu; cases hu
  | _, _, _, .cons q qs, r, hl => by
    cases r with
    | cons r1 r2 =>
      have hl' := Bool.and_eq_true_iff.mp (show (PyData.canLay0 _ && PyData.canLayAll0 _) = true from hl)
      intro u hm
      rcases List.mem_cons.mp hm with rfl | hm
      · obtain ⟨as, z⟩ := q.reads ok r1
        rw [SeqAt.readOf_eq hl'.1 z]
        exact SeqAt.eqAt_reads _ _ _ _ _ _ _ _ z zx hl'.1 hd (Nat.lt_of_le_of_lt (Nat.add_le_add_left (Nat.min_le_right _ _) _) hu)
      · exact mem_readOf (x := x) ok zx hd hu qs r2 hl'.2 u hm
noncomputable def rInD (neg : Bool) : R2 := fun x y H Q => ∃ p xs ds d, y = .ref p ∧ H p = some (.lst xs) ∧ RepAll H xs ds ∧ Rep H x d ∧ PyData.canLayAll0 ds = true ∧ d.canLay0 = true ∧ d.depth ≤ 16 ∧
  Q (.bl (if neg then !(ds.any fun e => PyData.eqv e d) else ds.any fun e => PyData.eqv e d)) H
theorem op_inD (hu : X.A.units + 64 < cLine) : OpR X (compareOp .In) (rInD false) := by
  intro pins s σ H x y v u Q I rx ry h
  obtain ⟨p, xs, ds, d, rfl, e, rs, r, cs, c, dp, q⟩ := h
  cases ry
  obtain ⟨_, its, n, rv, eh⟩ := (show ObjOk X.prog X.w H s.heap p (.lst xs) from I.hok p _ e)
  obtain ⟨bs, zx⟩ := r.reads I.hok rx
  refine SeqAt.in_listAt (fun u => PyData.eqv (SeqAt.readOf s.heap u) d) ⟨_, eh, rfl, n, rfl⟩ (fun w hw => mem_readOf (x := x) I.hok zx c (by show X.A.units + 1 + d.depth < cLine; omega) rs rv cs w (by simpa using hw)) ⟨.bl _, H, I, rfl, ?_⟩
  rw [show its.toArray.any (fun u => PyData.eqv (SeqAt.readOf s.heap u) d) = its.any (fun u => PyData.eqv (SeqAt.readOf s.heap u) d) by simp, any_readOf I.hok rs rv cs]
  exact q
theorem op_notInD (hu : X.A.units + 64 < cLine) : OpR X (compareOp .NotIn) (rInD true) := by
  intro pins s σ H x y v u Q I rx ry h
  obtain ⟨p, xs, ds, d, rfl, e, rs, r, cs, c, dp, q⟩ := h
  cases ry
  obtain ⟨_, its, n, rv, eh⟩ := (show ObjOk X.prog X.w H s.heap p (.lst xs) from I.hok p _ e)
  obtain ⟨bs, zx⟩ := r.reads I.hok rx
  refine SeqAt.notIn_listAt (fun u => PyData.eqv (SeqAt.readOf s.heap u) d) ⟨_, eh, rfl, n, rfl⟩ (fun w hw => mem_readOf (x := x) I.hok zx c (by show X.A.units + 1 + d.depth < cLine; omega) rs rv cs w (by simpa using hw)) ⟨.bl _, H, I, rfl, ?_⟩
  rw [show its.toArray.any (fun u => PyData.eqv (SeqAt.readOf s.heap u) d) = its.any (fun u => PyData.eqv (SeqAt.readOf s.heap u) d) by simp, any_readOf I.hok rs rv cs]
  exact q
end
end L2
namespace L2
open PySem PySem.Spec PyProof.Rows
structure Cal (P : Program) (w : World) (K : PySem.W.Frag) (mg : Str → Option Value) (base : Heap) (k : Nat) (x : Str) (ps : List Str) (sp : Sp) : Prop where
  ex : ∃ (f : Addr) (fd : FuncData), FnOk P w K mg base CX0 k f fd ps sp ∧ mg x = some (.ref f) ∧ PySem.W.keepIn K (.ref f) = true ∧ Binds K fd ps []
section
variable {X : Cx} {x : Str} {ps : List Str} {sp : Sp} {k j : Nat} {p pos : Pos} {e : Expr} {es : List Expr} {t : TA}
theorem pe_cal (c : Cal X.prog X.w X.K X.mg X.base k x ps sp) (hr : Room k X.A) (hg : Gl X x) (ha : PA X (e :: es) t)
    (hs : starEach (e :: es) X.env = (false, eval e X.env) :: starEach es X.env := by rfl) (hpl : (backTo pos (starEach es X.env)).any (·.1) = false := by rfl) (hdb : (x == ("__debug__" : Str)) = false := by decide) :
    PE X (.Call (.Name x p) (e :: es) [] pos) (tCall sp [] E0 t) := by
  obtain ⟨f, fd, G, mf, kp, b⟩ := c.ex
  exact pe_call G hr hg mf kp b .nil pass0 ha (hdb := hdb) (he := hs) (hpl := hpl)
end
section
variable {X : Cx}
inductive AddR (H : Hp) : V → V → VK → Prop
  | int {i j : Int} {Q : VK} : Q (.int (i + j)) H → AddR H (.int i) (.int j) Q
  | str {i j : Str} {Q : VK} : i.length + j.length ≤ sizeLine → Q (.str (i ++ j)) H → AddR H (.str i) (.str j) Q
  | lst {l b : Addr} {xs zs : List V} {Q : VK} : H l = some (.lst xs) → H b = some (.lst zs) → xs.length + zs.length ≤ sizeLine → (∀ p, H p = none → Q (.ref p) (upd H p (.lst (xs ++ zs)))) → AddR H (.ref l) (.ref b) Q
theorem op_addX : OpR X (binaryOp .Add) (fun x y H Q => AddR H x y Q) := by
  intro pins s σ H x y v u Q I rx ry h
  cases h with
  | int q => exact op_add pins s σ H _ _ v u Q I rx ry ⟨_, _, rfl, rfl, q⟩
  | str hz q => exact op_add_str pins s σ H _ _ v u Q I rx ry ⟨_, _, rfl, rfl, hz, q⟩
  | lst h1 h2 hz q => exact op_cat pins s σ H _ _ v u Q I rx ry ⟨_, _, _, _, rfl, rfl, h1, h2, hz, q⟩
inductive EqR (neg : Bool) (H : Hp) : V → V → VK → Prop
  | sc {x y : V} {Q : VK} : scal x y = true → Q (.bl (if neg then !decide (x = y) else decide (x = y))) H → EqR neg H x y Q
  | tr {x y : V} {da db : PyData} {Q : VK} : Rep H x da → Rep H y db → shp da → shp db → Q (.bl (if neg then !PyData.eqv da db else PyData.eqv da db)) H → EqR neg H x y Q
theorem op_eqX (hu : X.A.units + 64 < cLine) : OpR X (compareOp .Eq) (fun x y H Q => EqR false H x y Q) := by
  intro pins s σ H x y v u Q I rx ry h
  cases h with
  | sc h q => exact op_eq pins s σ H _ _ v u Q I rx ry ⟨h, q⟩
  | tr ra rb sa sb q => exact op_eqD hu pins s σ H _ _ v u Q I rx ry ⟨_, _, ra, rb, sa, sb, q⟩
theorem op_neX (hu : X.A.units + 64 < cLine) : OpR X (compareOp .NotEq) (fun x y H Q => EqR true H x y Q) := by
  intro pins s σ H x y v u Q I rx ry h
  cases h with
  | sc h q => exact op_ne pins s σ H _ _ v u Q I rx ry ⟨h, q⟩
  | tr ra rb sa sb q => exact op_neD hu pins s σ H _ _ v u Q I rx ry ⟨_, _, ra, rb, sa, sb, q⟩
inductive SlX (K : PySem.W.Frag) (H : Hp) : V → Option Int → Option Int → VK → Prop
  | str {z : Str} {lo hi : Option Int} {Q : VK} : z.length ≤ sizeLine → Q (.str (Txt.slice z lo hi)) H → SlX K H (.str z) lo hi Q
  | lst {a : Addr} {xs : List V} {lo hi : Option Int} {Q : VK} : SqL K H a xs → (∀ p, H p = none → Q (.ref p) (upd H p (.lst (cutV xs lo hi)))) → SlX K H (.ref a) lo hi Q
theorem sl_X : SlR X (fun x lo hi H Q => SlX X.K H x lo hi Q) := by
  intro pins s σ H x v vl vu lo hi sl Q I rx hs pl pu h
  cases h with
  | str hz q => exact sl_str pins s σ H _ v vl vu lo hi sl Q I rx hs pl pu ⟨_, rfl, hz, q⟩
  | lst h1 q => exact sl_list pins s σ H _ v vl vu lo hi sl Q I rx hs pl pu ⟨_, _, rfl, h1, q⟩
end
section
variable {X : Cx}
inductive CmR (f : Int → Int → Bool) (g : Str → Str → Bool) (H : Hp) : V → V → VK → Prop
  | int {i j : Int} {Q : VK} : Q (.bl (f i j)) H → CmR f g H (.int i) (.int j) Q
  | str {i j : Str} {Q : VK} : Q (.bl (g i j)) H → CmR f g H (.str i) (.str j) Q
theorem op_leX : OpR X (compareOp .LtE) (fun x y H Q => CmR (fun i j => decide (i ≤ j)) (fun i j => !decide (j.cps.toList < i.cps.toList)) H x y Q) := by
  intro pins s σ H x y v u Q I rx ry h
  cases h with
  | int q => exact op_le pins s σ H _ _ v u Q I rx ry ⟨_, _, rfl, rfl, q⟩
  | str q => exact op_le_str pins s σ H _ _ v u Q I rx ry ⟨_, _, rfl, rfl, q⟩
theorem op_ltX : OpR X (compareOp .Lt) (fun x y H Q => CmR (fun i j => decide (i < j)) (fun i j => decide (i.cps.toList < j.cps.toList)) H x y Q) := by
  intro pins s σ H x y v u Q I rx ry h
  cases h with
  | int q => exact op_lt pins s σ H _ _ v u Q I rx ry ⟨_, _, rfl, rfl, q⟩
  | str q => exact op_lt_str pins s σ H _ _ v u Q I rx ry ⟨_, _, rfl, rfl, q⟩
inductive IsB (neg : Bool) (H : Hp) : V → V → VK → Prop
  | int {i : Int} {b : Bool} {Q : VK} : Q (.bl neg) H → IsB neg H (.int i) (.bl b) Q
  | bl {c b : Bool} {Q : VK} : Q (.bl (if neg then !decide (c = b) else decide (c = b))) H → IsB neg H (.bl c) (.bl b) Q
  | non {x : V} {Q : VK} : Q (.bl (if neg then !decide (x = .non) else decide (x = .non))) H → IsB neg H x .non Q
theorem op_isNotX : OpR X (compareOp .IsNot) (fun x y H Q => IsB true H x y Q) := by
  intro pins s σ H x y v u Q I rx ry h
  cases h with
  | int q =>
    obtain ⟨t, rfl⟩ := rx
    cases ry
    exact wpAny_isNot_other (by rfl) (by intro z; cases z) ⟨.bl _, H, I, rfl, q⟩
  | @bl c b _ q =>
    cases rx
    cases ry
    exact wpAny_isNot_plain (by rfl) (fin_bl I q (by cases c <;> cases b <;> rfl))
  | non q => exact op_notN pins s σ H _ _ v u Q I rx ry ⟨rfl, q⟩
theorem op_isX : OpR X (compareOp .Is) (fun x y H Q => IsB false H x y Q) := by
  intro pins s σ H x y v u Q I rx ry h
  cases h with
  | int q =>
    obtain ⟨t, rfl⟩ := rx
    cases ry
    exact wpAny_is_other (by rfl) (by intro z; cases z) ⟨.bl _, H, I, rfl, q⟩
  | @bl c b _ q =>
    cases rx
    cases ry
    exact wpAny_is_plain (by rfl) (fin_bl I q (by cases c <;> cases b <;> rfl))
  | non q => exact op_isN pins s σ H _ _ v u Q I rx ry ⟨rfl, q⟩
theorem m_join (K : PySem.W.Frag) {o e : Expr} {to : TE} {t : TA} {apos cpos : Pos} (ho : PE X o to) (ha : PA X [e] t)
    (hbase : attributeBase o "join" X.env (eval o X.env) = eval o X.env := by rfl)
    (hfew : ((backTo cpos (starEach [e] X.env)).all (fun x => !x.1) && (backToKw cpos (keywordEach [] X.env)).all (fun x => x.1.isSome)
      && decide ([e].length + ([] : List Keyword).length + (if ([] : List Keyword).isEmpty then 0 else 1) < 30)) = true := by rfl)
    (hline : (apos.endLine == cpos.line) = true := by rfl) (hs : starEach [e] X.env = (false, eval e X.env) :: starEach [] X.env := by rfl) (hplain : (backTo cpos (starEach [] X.env)).any (·.1) = false := by rfl) (hK : X.K = K := by rfl) :
    PE X (.Call (.Attribute o "join" apos) [e] [] cpos) (tBM K "str" rJoin to t) := hK ▸ pe_bm PySem.F.plainAttrs_str PySem.F.slot_str_join PySem.F.type_str_join mt_join ho ha hbase hfew hline hs hplain
theorem m_append (K : PySem.W.Frag) {o e : Expr} {to : TE} {t : TA} {apos cpos : Pos} (ho : PE X o to) (ha : PA X [e] t)
    (hbase : attributeBase o "append" X.env (eval o X.env) = eval o X.env := by rfl)
    (hfew : ((backTo cpos (starEach [e] X.env)).all (fun x => !x.1) && (backToKw cpos (keywordEach [] X.env)).all (fun x => x.1.isSome)
      && decide ([e].length + ([] : List Keyword).length + (if ([] : List Keyword).isEmpty then 0 else 1) < 30)) = true := by rfl)
    (hline : (apos.endLine == cpos.line) = true := by rfl) (hs : starEach [e] X.env = (false, eval e X.env) :: starEach [] X.env := by rfl) (hplain : (backTo cpos (starEach [] X.env)).any (·.1) = false := by rfl) (hK : X.K = K := by rfl) :
    PE X (.Call (.Attribute o "append" apos) [e] [] cpos) (tBM K "list" rAppend to t) := hK ▸ pe_bm PySem.F.plainAttrs_list PySem.F.slot_list_append PySem.F.type_list_append mt_append ho ha hbase hfew hline hs hplain
theorem sl_K (K : PySem.W.Frag) (hK : X.K = K := by rfl) : SlR X (fun x lo hi H Q => SlX K H x lo hi Q) := hK ▸ sl_X
theorem pi_listK (K : PySem.W.Frag) {tg l : Expr} {tl : TE} (hl : PE X l tl) (hK : X.K = K := by rfl) : PI X tg l (iList K tl) := hK ▸ pi_list hl
theorem pi_tupK (K : PySem.W.Frag) {tg l : Expr} {tl : TE} (hl : PE X l tl) (hK : X.K = K := by rfl) : PI X tg l (iTup K tl) := hK ▸ pi_tup hl
end
theorem gYes {i : Nat} {v : V} {σ : St} {H : Hp} {A B : St → Hp → Prop} (h : A (σ.set i (some v)) H) : gName i v σ H fun σ2 H3 => tYes σ2 H3 fun b H4 => if b = true then A σ2 H4 else B σ2 H4 := by
  show (if true = true then A (σ.set i (some v)) H else B (σ.set i (some v)) H)
  rw [if_pos rfl]
  exact h
section
variable {K : PySem.W.Frag} {k : Nat} {fr : List Nat} {g : TG} {tc : TT} {te : TE} {σ : St} {H1 : Hp} {Q : VK}
theorem comp_items {J : It} (xs : List V) (Ok : Hp → Prop) (hgo : ∀ i H, Ok H → i < xs.length → J.go i H) (hyl : ∀ i H x H', Ok H → i < xs.length → J.yld i H x H' → H' = H ∧ xs[i]? = some x) (hst : ∀ H, Ok H → J.stop xs.length H)
    (Pv : Addr → Nat → List V → St → Hp → Prop)
    (h : ∀ D, H1 D = none → Pv D 0 [] (inSt k fr σ) (upd H1 D (.lst [])) ∧ (∀ i acc σ' H', i ≤ xs.length → Pv D i acc σ' H' → H' D = some (.lst acc) → Ok H') ∧
      (∀ i acc σ' H' x, xs[i]? = some x → Pv D i acc σ' H' → H' D = some (.lst acc) → g x σ' H' fun σ2 H3 => tc σ2 H3 fun b H4 =>
        if b = true then te σ2 H4 fun y H5 => H5 D = some (.lst acc) ∧ acc.length < sizeLine ∧ Pv D (i + 1) (acc ++ [y]) σ2 (upd H5 D (.lst (acc ++ [y]))) else H4 D = some (.lst acc) ∧ Pv D (i + 1) acc σ2 H4) ∧
      ∀ acc σ' H', Pv D xs.length acc σ' H' → H' D = some (.lst acc) → Q (.ref D) H') : tCompW k fr g tc te J σ H1 Q := by
  intro D hD
  obtain ⟨h0, hok, hs, hd⟩ := h D hD
  refine ⟨fun i m acc σ' H' => m = xs.length - i ∧ i ≤ xs.length ∧ Pv D i acc σ' H', ⟨xs.length, by simp, Nat.zero_le _, h0⟩, ?_⟩
  rintro i m acc σ' H' ⟨rfl, hi, p⟩ hacc
  have ok := hok i acc σ' H' hi p hacc
  by_cases hlt : i < xs.length
  · refine .inr ⟨hgo i H' ok hlt, Pv D (i + 1), fun acc' σ2 H2 p' => ⟨xs.length - (i + 1), by omega, rfl, hlt, p'⟩, fun x H2 y => ?_⟩
    obtain ⟨e, hx⟩ := hyl i H' x H2 ok hlt y
    subst e
    exact hs i acc σ' H2 x hx p hacc
  · have e : i = xs.length := by omega
    subst e
    exact .inl ⟨hst H' ok, hd acc σ' H' p hacc⟩
noncomputable def rngV (n : Nat) : List V := (List.range n).map fun i => V.int (0 + (i : Nat))
theorem comp_range {n : Nat} (Pv : Addr → Nat → List V → St → Hp → Prop)
    (h : ∀ D, H1 D = none → Pv D 0 [] (inSt k fr σ) (upd H1 D (.lst [])) ∧
      (∀ i acc σ' H', i < n → Pv D i acc σ' H' → H' D = some (.lst acc) → g (.int (0 + (i : Nat))) σ' H' fun σ2 H3 => tc σ2 H3 fun b H4 =>
        if b = true then te σ2 H4 fun y H5 => H5 D = some (.lst acc) ∧ acc.length < sizeLine ∧ Pv D (i + 1) (acc ++ [y]) σ2 (upd H5 D (.lst (acc ++ [y]))) else H4 D = some (.lst acc) ∧ Pv D (i + 1) acc σ2 H4) ∧
      ∀ acc σ' H', Pv D n acc σ' H' → H' D = some (.lst acc) → Q (.ref D) H') : tCompW k fr g tc te (Itr 0 n) σ H1 Q := by
  have hl : (rngV n).length = n := by simp [rngV]
  refine comp_items (rngV n) (fun _ => True) (fun i H _ hi => by rw [hl] at hi; exact hi) (fun i H x H' _ hi y => ⟨y.1, ?_⟩) (fun H _ => by show n ≤ (rngV n).length; rw [hl]; exact Nat.le_refl _) Pv fun D hD => ?_
  · rw [hl] at hi
    rw [y.2]
    simp [rngV, hi]
  · obtain ⟨a, b, c⟩ := h D hD
    refine ⟨a, fun _ _ _ _ _ _ _ => trivial, fun i acc σ' H' x hx p hacc => ?_, by rw [hl]; exact c⟩
    have hi : i < n := by rw [← hl]; exact (List.getElem?_eq_some_iff.mp hx).1
    have e : x = V.int (0 + (i : Nat)) := by
      simp [rngV, hi] at hx
      rw [← hx]; simp
    subst e
    exact b i acc σ' H' hi p hacc
theorem comp_list {a : Addr} (xs : List V) (Pv : Addr → Nat → List V → St → Hp → Prop)
    (h : ∀ D, H1 D = none → Pv D 0 [] (inSt k fr σ) (upd H1 D (.lst [])) ∧ (∀ i acc σ' H', i ≤ xs.length → Pv D i acc σ' H' → H' D = some (.lst acc) → SqL K H' a xs) ∧
      (∀ i acc σ' H' x, xs[i]? = some x → Pv D i acc σ' H' → H' D = some (.lst acc) → g x σ' H' fun σ2 H3 => tc σ2 H3 fun b H4 =>
        if b = true then te σ2 H4 fun y H5 => H5 D = some (.lst acc) ∧ acc.length < sizeLine ∧ Pv D (i + 1) (acc ++ [y]) σ2 (upd H5 D (.lst (acc ++ [y]))) else H4 D = some (.lst acc) ∧ Pv D (i + 1) acc σ2 H4) ∧
      ∀ acc σ' H', Pv D xs.length acc σ' H' → H' D = some (.lst acc) → Q (.ref D) H') : tCompW k fr g tc te (Itl K a) σ H1 Q :=
  comp_items xs (fun H => SqL K H a xs) (fun i H q hi => ⟨xs, xs[i], q, by simp [hi]⟩) (fun i H x H' q hi y => ⟨y.1, y.2 xs q⟩) (fun H q => ⟨xs, q, Nat.le_refl _⟩) Pv h
theorem comp_tup {a : Addr} (xs : List V) (Pv : Addr → Nat → List V → St → Hp → Prop)
    (h : ∀ D, H1 D = none → Pv D 0 [] (inSt k fr σ) (upd H1 D (.lst [])) ∧ (∀ i acc σ' H', i ≤ xs.length → Pv D i acc σ' H' → H' D = some (.lst acc) → SqT K H' a xs) ∧
      (∀ i acc σ' H' x, xs[i]? = some x → Pv D i acc σ' H' → H' D = some (.lst acc) → g x σ' H' fun σ2 H3 => tc σ2 H3 fun b H4 =>
        if b = true then te σ2 H4 fun y H5 => H5 D = some (.lst acc) ∧ acc.length < sizeLine ∧ Pv D (i + 1) (acc ++ [y]) σ2 (upd H5 D (.lst (acc ++ [y]))) else H4 D = some (.lst acc) ∧ Pv D (i + 1) acc σ2 H4) ∧
      ∀ acc σ' H', Pv D xs.length acc σ' H' → H' D = some (.lst acc) → Q (.ref D) H') : tCompW k fr g tc te (Itt K a) σ H1 Q :=
  comp_items xs (fun H => SqT K H a xs) (fun i H q hi => ⟨xs, xs[i], q, by simp [hi]⟩) (fun i H x H' q hi y => ⟨y.1, y.2 xs q⟩) (fun H q => ⟨xs, q, Nat.le_refl _⟩) Pv h
noncomputable def signsV (z : Str) : List V := z.cps.toList.map fun c => V.str ⟨#[c]⟩
theorem comp_str {z : Str} (Pv : Addr → Nat → List V → St → Hp → Prop)
    (h : ∀ D, H1 D = none → Pv D 0 [] (inSt k fr σ) (upd H1 D (.lst [])) ∧
      (∀ i acc σ' H' c, z.cps.toList[i]? = some c → Pv D i acc σ' H' → H' D = some (.lst acc) → g (.str ⟨#[c]⟩) σ' H' fun σ2 H3 => tc σ2 H3 fun b H4 =>
        if b = true then te σ2 H4 fun y H5 => H5 D = some (.lst acc) ∧ acc.length < sizeLine ∧ Pv D (i + 1) (acc ++ [y]) σ2 (upd H5 D (.lst (acc ++ [y]))) else H4 D = some (.lst acc) ∧ Pv D (i + 1) acc σ2 H4) ∧
      ∀ acc σ' H', Pv D z.cps.toList.length acc σ' H' → H' D = some (.lst acc) → Q (.ref D) H') : tCompW k fr g tc te (Its z) σ H1 Q := by
  have hl : (signsV z).length = z.cps.toList.length := by simp [signsV]
  refine comp_items (signsV z) (fun _ => True) (fun i H _ hi => by rw [hl] at hi; show i < z.cps.size; simpa using hi) (fun i H x H' _ hi y => ⟨y.1, ?_⟩) (fun H _ => by show z.cps.size ≤ (signsV z).length; rw [hl]; simp) Pv fun D hD => ?_
  · have y2 := y.2
    unfold sgV at y2
    simp only [signsV, List.getElem?_map, Array.getElem?_toList]
    exact y2
  · obtain ⟨a, b, c⟩ := h D hD
    refine ⟨a, fun _ _ _ _ _ _ _ => trivial, fun i acc σ' H' x hx p hacc => ?_, by rw [hl]; exact c⟩
    simp only [signsV, List.getElem?_map] at hx
    cases e : z.cps.toList[i]? with
    | none => rw [e] at hx; cases hx
    | some cc =>
      rw [e] at hx
      cases hx
      exact b i acc σ' H' cc e p hacc
end
noncomputable def But (p : Addr) (H H' : Hp) : Prop := ∀ b o, b ≠ p → H b = some o → H' b = some o
theorem But.refl (p : Addr) (H : Hp) : But p H H := fun _ _ _ h => h
theorem But.trans {p : Addr} {H H1 H2 : Hp} (a : But p H H1) (b : But p H1 H2) : But p H H2 := fun c o n h => b c o n (a c o n h)
theorem But.upd {p : Addr} {H : Hp} {o : HO} : But p H (upd H p o) := fun b o' n h => by rw [upd_ne n]; exact h
theorem But.of_same {p : Addr} {H H' : Hp} (s : Same H H') : But p H H' := fun b o _ h => s b o h
theorem Same.new {H : Hp} {p : Addr} {o : HO} (h : H p = none) : Same H (upd H p o) := fun b o' e => by rw [upd_ne (ne_of_none e h)]; exact e
theorem Rd.but {p : Addr} {H H' : Hp} (b : But p H H') {a : Addr} {u : HO} (n : a ≠ p) (h : Rd H a u) : Rd H' a u := by
  rcases h with h | ⟨o, h⟩
  · exact .inl (b _ _ n h)
  · exact .inr ⟨o, b _ _ n h⟩
theorem SqL.but {K : PySem.W.Frag} {p : Addr} {H H' : Hp} (b : But p H H') {a : Addr} {xs : List V} (n : a ≠ p) (h : SqL K H a xs) : SqL K H' a xs := by
  rcases h with h | h
  · exact .inl (h.but b n)
  · exact .inr h
structure Blt (mg : Str → Option Value) : Prop where
  len : mg "len" = none
  range : mg "range" = none
  abs : mg "abs" = none
  all : mg "all" = none
  repr : mg "repr" = none
  isinstance : mg "isinstance" = none
  str : mg "str" = none
  int : mg "int" = none
  bool : mg "bool" = none
  enumerate : mg "enumerate" = none
  list : mg "list" = none
  tuple : mg "tuple" = none
  dict : mg "dict" = none
  min : mg "min" = none
  max : mg "max" = none
section
variable {X : Cx} {p pos : Pos} {e f : Expr} {t : TA}
noncomputable def rLen (K : PySem.W.Frag) : List V → Hp → VK → Prop := fun xs H Q => ∃ x n, xs = [x] ∧ LenV K x H n ∧ Q (.int n) H
noncomputable def rAbs : List V → Hp → VK → Prop := fun xs H Q => ∃ i, xs = [.int i] ∧ Q (.int (if i < 0 then -i else i)) H
noncomputable def rAll : List V → Hp → VK → Prop := fun xs H Q => ∃ p bs, xs = [.ref p] ∧ H p = some (.lst (List.map V.bl bs)) ∧ Q (.bl (bs.all id)) H
theorem b_len (K : PySem.W.Frag) (B : Blt X.mg) (ha : PA X [e] t) (hg : Gl X "len" := by rfl) (he : starEach [e] X.env = (false, eval e X.env) :: starEach [] X.env := by rfl) (hpl : (backTo pos (starEach [] X.env)).any (·.1) = false := by rfl) (hK : X.K = K := by rfl) : PE X (.Call (.Name "len" p) [e] [] pos) (tCB (rLen K) t) :=
  hK ▸ pe_callB call_len hg B.len PySem.boot_len ha (by decide) (by decide) he hpl
theorem b_abs (B : Blt X.mg) (ha : PA X [e] t) (hg : Gl X "abs" := by rfl) (he : starEach [e] X.env = (false, eval e X.env) :: starEach [] X.env := by rfl) (hpl : (backTo pos (starEach [] X.env)).any (·.1) = false := by rfl) : PE X (.Call (.Name "abs" p) [e] [] pos) (tCB rAbs t) :=
  pe_callB call_abs hg B.abs boot_abs ha (by decide) (by decide) he hpl
theorem b_all (hc : X.calm = true) (B : Blt X.mg) (ha : PA X [e] t) (hg : Gl X "all" := by rfl) (he : starEach [e] X.env = (false, eval e X.env) :: starEach [] X.env := by rfl) (hpl : (backTo pos (starEach [] X.env)).any (·.1) = false := by rfl) : PE X (.Call (.Name "all" p) [e] [] pos) (tCB rAll t) :=
  pe_callB (call_all_bl hc) hg B.all boot_all ha (by decide) (by decide) he hpl
theorem b_isi (K : PySem.W.Frag) (c : String) (B : Blt X.mg) (ha : PA X [e, f] t) (hg : Gl X "isinstance" := by rfl) (he : starEach [e, f] X.env = (false, eval e X.env) :: starEach [f] X.env := by rfl) (hpl : (backTo pos (starEach [f] X.env)).any (·.1) = false := by rfl) (hK : X.K = K := by rfl) : PE X (.Call (.Name "isinstance" p) [e, f] [] pos) (tCB (rIsi K c) t) :=
  hK ▸ pe_callB (call_isi c) hg B.isinstance boot_isinstance ha (by decide) (by decide) he hpl
theorem g_str (B : Blt X.mg) (hg : Gl X "str" := by rfl) : PE X (.Name "str" p) (tC (.ty "str")) := pe_bltn hg B.str PyProof.Rows.boot_str rfl
theorem g_int (B : Blt X.mg) (hg : Gl X "int" := by rfl) : PE X (.Name "int" p) (tC (.ty "int")) := pe_bltn hg B.int PyProof.Rows.boot_int rfl
theorem g_bool (B : Blt X.mg) (hg : Gl X "bool" := by rfl) : PE X (.Name "bool" p) (tC (.ty "bool")) := pe_bltn hg B.bool PyProof.Rows.boot_bool rfl
theorem g_list (B : Blt X.mg) (hg : Gl X "list" := by rfl) : PE X (.Name "list" p) (tC (.ty "list")) := pe_bltn hg B.list (show bootBuiltins "list" = some (.type "list") by decide +kernel) rfl
end
end L2
namespace L2
open PySem PySem.Spec PyProof.Rows PySem.Builtin PySem.Builtin.Str
noncomputable def Asc (z : Str) : Prop := ∀ c ∈ z.cps.toList, c < 128
theorem len_app (x y : Str) : (x ++ y).length = x.length + y.length := by
  show (x.cps ++ y.cps).size = x.cps.size + y.cps.size
  rw [Array.size_append]
theorem len_join (sep : Str) (ys : List Str) : (Txt.join sep ys).length ≤ (ys.map (·.length)).sum + ys.length * sep.length := by
  unfold Txt.join
  rw [size_glued]
  exact Nat.add_le_add_left (Nat.mul_le_mul_right _ (Nat.sub_le _ _)) _
theorem sum_le {ys : List Str} {n : Nat} (h : ∀ y ∈ ys, y.length ≤ n) : (ys.map (·.length)).sum ≤ ys.length * n := by
  induction ys with
  | nil => simp
  | cons y r ih =>
    have h1 := h y (by simp)
    have h2 := ih fun z hz => h z (List.mem_cons_of_mem _ hz)
    simp only [List.map_cons, List.sum_cons, List.length_cons]
    rw [Nat.succ_mul]
    omega
theorem at_ok {α : Type} {xs : List α} {j : Int} (h0 : 0 ≤ j) (h1 : j < xs.length) : ∃ v, atI xs j = some v ∧ v ∈ xs := by
  obtain ⟨k, rfl⟩ := Int.eq_ofNat_of_zero_le h0
  have hk : k < xs.length := by omega
  exact ⟨xs[k], atI_nat (by simp [hk]), List.getElem_mem hk⟩
theorem at_int {ns : List Int} {j : Int} (h0 : 0 ≤ j) (h1 : j < (ns.map V.int).length) : ∃ c, atI (ns.map V.int) j = some (.int c) := by
  obtain ⟨v, e, m⟩ := at_ok h0 h1
  obtain ⟨c, _, rfl⟩ := List.mem_map.mp m
  exact ⟨c, e⟩
theorem fst_small (x : Int) : -(2 ^ 64) < x % 2147483647 ∧ x % 2147483647 < 2 ^ 64 := by
  have h1 := Int.emod_nonneg x (show (2147483647 : Int) ≠ 0 by decide)
  have h2 := Int.emod_lt_of_pos x (show (0 : Int) < 2147483647 by decide)
  omega
noncomputable def PenV (H : Hp) (p a : Addr) : Prop := ∃ (i n : Int), H p = some (.lst [.ref a, .int i, .int n]) ∧ 0 ≤ i ∧ 0 ≤ n
noncomputable def Pen (K : PySem.W.Frag) (H : Hp) (p a : Addr) : Prop := (∃ ns : List Int, ∀ H', But p H H' → SqL K H' a (ns.map V.int)) ∧ PenV H p a
theorem Pen.but {K : PySem.W.Frag} {H H' : Hp} {p a : Addr} (h : Pen K H p a) (b : But p H H') (v : PenV H' p a) : Pen K H' p a := ⟨let ⟨ns, q⟩ := h.1; ⟨ns, fun H2 b2 => q H2 (b.trans b2)⟩, v⟩
theorem Pen.new {K : PySem.W.Frag} {H : Hp} {p a : Addr} {ns : List Int} {o : HO} (h : SqL K H a (ns.map V.int)) (hp : H p = none) (v : PenV (upd H p o) p a) : Pen K (upd H p o) p a := by
  refine ⟨⟨ns, fun H' b => ?_⟩, v⟩
  rcases h with h | h
  · have n : a ≠ p := by
      rcases h with h | ⟨ob, h⟩
      · exact ne_of_none h hp
      · exact ne_of_none h hp
    have s : Same H (upd H p o) := Same.new hp
    exact SqL.but (fun c o' n' e => b c o' n' (s c o' e)) n (.inl h)
  · exact .inr h
theorem PenV.upd {H : Hp} {p a D : Addr} {o : HO} (h : PenV H p a) (n : p ≠ D) : PenV (L2.upd H D o) p a := let ⟨i, m, e, q⟩ := h; ⟨i, m, by rw [upd_ne n]; exact e, q⟩
theorem PenV.ne {H : Hp} {p a D : Addr} (h : PenV H p a) (e : H D = none) : p ≠ D := let ⟨_, _, q, _⟩ := h; ne_of_none q e
theorem But.at {p D : Addr} {H H' : Hp} {o : HO} (b : But p H H') (hD : H D = none) : But p H (L2.upd H' D o) := fun c o' n h => by rw [upd_ne (ne_of_none h hD)]; exact b c o' n h
theorem But.of_eq {p : Addr} {H H' : Hp} (h : ∀ b, b ≠ p → H' b = H b) : But p H H' := fun b o n e => (h b n).trans e
theorem But.free {p D : Addr} {H H' : Hp} (b : But p H H') (n : D ≠ p) (h : H' D = none) : H D = none := by
  cases e : H D with
  | none => rfl
  | some o => rw [b D o n e] at h; cases h
noncomputable def spDraw (K : PySem.W.Frag) : Sp := fun vs H Q _ => ∃ (p a : Addr) (m : Int), vs = [.ref p, .int m] ∧ Pen K H p a ∧ 0 < m ∧ m < 1073741824 ∧ ∀ r H', 0 ≤ r → r < m → PenV H' p a → (∀ b, b ≠ p → H' b = H b) → Q (.int r) H'
end L2
namespace L2
open PySem PySem.Spec PyProof.Rows
section
variable {X : Cx}
inductive InR (K : PySem.W.Frag) (neg : Bool) (H : Hp) : V → V → VK → Prop
  | dic {a : Addr} {y : V} {o : Option V} {Q : VK} : DGet H a y o → Q (.bl (if neg then !o.isSome else o.isSome)) H → InR K neg H y (.ref a) Q
  | seq {p : Addr} {x : V} {xs : List V} {Q : VK} : (SqL K H p xs ∨ SqT K H p xs) → flatV x = true → xs.all flatV = true → Q (.bl (if neg then !inV x xs else inV x xs)) H → InR K neg H x (.ref p) Q
  | tr {p : Addr} {x : V} {xs : List V} {ds : List PyData} {d : PyData} {Q : VK} : H p = some (.lst xs) → RepAll H xs ds → Rep H x d → PyData.canLayAll0 ds = true → d.canLay0 = true → d.depth ≤ 16 →
      Q (.bl (if neg then !(ds.any fun e => PyData.eqv e d) else ds.any fun e => PyData.eqv e d)) H → InR K neg H x (.ref p) Q
theorem op_inX (K : PySem.W.Frag) (hu : X.A.units + 64 < cLine) (hK : X.K = K := by rfl) : OpR X (compareOp .In) (fun x y H Q => InR K false H x y Q) := by
  subst hK
  intro pins s σ H x y v u Q I rx ry h
  cases h with
  | dic g q =>
    cases ry
    exact d_in (by omega) I g rx fun s' I' => ⟨.bl _, H, I', rfl, q⟩
  | seq hq fx fs q => exact op_in_seq pins s σ H _ _ v u Q I rx ry ⟨_, _, rfl, hq, fx, fs, q⟩
  | tr e rs r cs c dp q => exact op_inD hu pins s σ H _ _ v u Q I rx ry ⟨_, _, _, _, rfl, e, rs, r, cs, c, dp, q⟩
theorem op_notInX (K : PySem.W.Frag) (hu : X.A.units + 64 < cLine) (hK : X.K = K := by rfl) : OpR X (compareOp .NotIn) (fun x y H Q => InR K true H x y Q) := by
  subst hK
  intro pins s σ H x y v u Q I rx ry h
  cases h with
  | dic g q =>
    cases ry
    exact d_notIn (by omega) I g rx fun s' I' => ⟨.bl _, H, I', rfl, q⟩
  | seq hq fx fs q => exact op_notIn_seq pins s σ H _ _ v u Q I rx ry ⟨_, _, rfl, hq, fx, fs, q⟩
  | tr e rs r cs c dp q => exact op_notInD hu pins s σ H _ _ v u Q I rx ry ⟨_, _, _, _, rfl, e, rs, r, cs, c, dp, q⟩
inductive IxX (K : PySem.W.Frag) (H : Hp) : V → V → VK → Prop
  | lst {p : Addr} {xs : List V} {i : Int} {v : V} {Q : VK} : SqL K H p xs → atI xs i = some v → Q v H → IxX K H (.ref p) (.int i) Q
  | tup {p : Addr} {xs : List V} {i : Int} {v : V} {Q : VK} : SqT K H p xs → atI xs i = some v → Q v H → IxX K H (.ref p) (.int i) Q
  | str {z : Str} {i : Int} {c : Nat} {Q : VK} : z.length ≤ sizeLine → atI z.cps.toList i = some c → Q (.str ⟨#[c]⟩) H → IxX K H (.str z) (.int i) Q
  | dic {a : Addr} {y v : V} {Q : VK} : DGet H a y (some v) → Q v H → IxX K H (.ref a) y Q
theorem ix_X (K : PySem.W.Frag) (hu : X.A.units + 64 < cLine) (hK : X.K = K := by rfl) : IxR X (fun x y H Q => IxX K H x y Q) := by
  subst hK
  intro value slice pins s σ H x y v u Q I rx ry h hs
  cases h with
  | lst hq e q => exact ix_list value slice pins s σ H _ _ v u Q I rx ry ⟨_, _, _, _, rfl, rfl, hq, e, q⟩ hs
  | tup hq e q => exact ix_tup value slice pins s σ H _ _ v u Q I rx ry ⟨_, _, _, _, rfl, rfl, hq, e, q⟩ hs
  | str hz e q => exact ix_str value slice pins s σ H _ _ v u Q I rx ry ⟨_, _, _, rfl, rfl, hz, e, q⟩ hs
  | dic g q =>
    cases rx
    exact tail_any (dict_typeIs I g) PySem.F.slot_dict_getitem.lookup (d_getItem (by omega) I g ry fun w' s3 I3 rw' => ⟨_, H, I3, rw', q⟩) hs
inductive SetX (H : Hp) : V → V → V → (Hp → Prop) → Prop
  | lst {p : Addr} {xs : List V} {k : Int} {j : Nat} {v : V} {Q : Hp → Prop} : H p = some (.lst xs) → ixN xs.length k = some j → Q (upd H p (.lst (xs.set j v))) → SetX H (.ref p) (.int k) v Q
  | dic {a : Addr} {y v : V} {H' : Hp} {Q : Hp → Prop} : DPut H a y v H' → Q H' → SetX H (.ref a) y v Q
theorem set_X (hu : X.A.units + 64 < cLine) : PSet X (fun o i v H Q => SetX H o i v Q) := by
  intro pins s σ H o i v ov iv u Q I ro ri rv h
  cases h with
  | lst e ej q => exact set_list pins s σ H _ _ _ ov iv u Q I ro ri rv ⟨_, _, _, _, rfl, rfl, e, ej, q⟩
  | dic g q =>
    cases ro
    exact d_setItem (by omega) I g ri rv fun s4 I4 => ⟨_, I4, q⟩
theorem pg_tupK (K : PySem.W.Frag) {es : List Expr} {k : Nat} {pos : Pos} {t : TGs} {n : Nat} (hc : X.calm = true) (h : PGs X es t)
    (hn : (assignEach es X.env).length = n := by rfl) (hst : (assignEach es X.env).findIdx? (·.1) = none := by rfl) (hK : X.K = K := by rfl) : PG X (.Tuple es k pos) (gTup K n t) := hK ▸ pg_tup hc h hn hst
variable {p pos p2 pos2 : Pos} {e f : Expr} {t : TA}
end
end L2
namespace L2
open PySem PySem.Spec PyProof.Rows
section
variable {X : Cx} {p pos p2 pos2 : Pos} {e f : Expr} {t : TA}
noncomputable def rTupL (K : PySem.W.Frag) : List V → Hp → VK → Prop := fun xs H Q => ∃ a ys, xs = [.ref a] ∧ SqL K H a ys ∧ ∀ l, H l = none → Q (.ref l) (upd H l (.tup ys))
theorem b_tuple (K : PySem.W.Frag) (B : Blt X.mg) (ha : PA X [e] t) (hg : Gl X "tuple" := by rfl) (he : starEach [e] X.env = (false, eval e X.env) :: starEach [] X.env := by rfl) (hpl : (backTo pos (starEach [] X.env)).any (·.1) = false := by rfl) (hK : X.K = K := by rfl) :
    PE X (.Call (.Name "tuple" p) [e] [] pos) (tCB (rTupL K) t) := by
  subst hK
  refine pe_callTy (r := rTupL X.K) (fun pins s σ H xs us Q I r h => ?_) hg B.tuple (show bootBuiltins "tuple" = some (.type "tuple") by decide +kernel) ha (by decide) (by decide) he hpl
  obtain ⟨a, ys, rfl, hq, q⟩ := h
  exact call_tuple_of pins s σ H _ us Q I r ⟨a, ys, rfl, .inl ⟨hq, q⟩⟩
inductive LstR (K : PySem.W.Frag) (H : Hp) : V → VK → Prop
  | seq {a : Addr} {ys : List V} {Q : VK} : (SqL K H a ys ∨ SqT K H a ys) → (∀ l, H l = none → Q (.ref l) (upd H l (.lst ys))) → LstR K H (.ref a) Q
  | rng {a : Addr} {n : Nat} {Q : VK} : H a = some (.rng 0 (n : Int)) → n ≤ 1000 → (∀ l, H l = none → Q (.ref l) (upd H l (.lst (rngV n)))) → LstR K H (.ref a) Q
noncomputable def rLst (K : PySem.W.Frag) : List V → Hp → VK → Prop := fun xs H Q => ∃ x, xs = [x] ∧ LstR K H x Q
theorem vals_rng {n : Nat} {its : List Value} (hl : its.length = n) (h : ∀ i v, its[i]? = some v → ∃ t, v = Value.int (0 + (i : Nat) * 1) t) : Vals (rngV n) its := by
  subst hl
  have key : ∀ (its : List Value) (k : Nat), (∀ i v, its[i]? = some v → ∃ t, v = Value.int (0 + ((k + i : Nat) : Int)) t) → Vals ((List.range' k its.length).map fun i => V.int (0 + (i : Nat))) its := by
    intro its
    induction its with
    | nil => intro k _; exact .nil
    | cons u r ih =>
      intro k h
      rw [List.length_cons, List.range'_succ, List.map_cons]
      refine .cons ?_ (ih (k + 1) fun i v e => ?_)
      · obtain ⟨t, e⟩ := h 0 u rfl
        exact ⟨t, by rw [e, Nat.add_zero]⟩
      · obtain ⟨t, e'⟩ := h (i + 1) v (by simpa using e)
        exact ⟨t, by rw [e', show ((k + (i + 1) : Nat) : Int) = ((k + 1 + i : Nat) : Int) by omega]⟩
  have := key its 0 fun i v e => by
    obtain ⟨t, e'⟩ := h i v e
    exact ⟨t, by rw [e', Int.mul_one, Nat.zero_add]⟩
  rw [rngV, List.range_eq_range']
  exact this
theorem b_list (K : PySem.W.Frag) (hc : X.calm = true) (B : Blt X.mg) (ha : PA X [e] t) (hg : Gl X "list" := by rfl) (he : starEach [e] X.env = (false, eval e X.env) :: starEach [] X.env := by rfl) (hpl : (backTo pos (starEach [] X.env)).any (·.1) = false := by rfl) (hK : X.K = K := by rfl) :
    PE X (.Call (.Name "list" p) [e] [] pos) (tCB (rLst K) t) := by
  subst hK
  refine pe_callTy (r := rLst X.K) (fun pins s σ H xs us Q I r h => ?_) hg B.list (show bootBuiltins "list" = some (.type "list") by decide +kernel) ha (by decide) (by decide) he hpl
  obtain ⟨x, rfl, h⟩ := h
  cases h with
  | seq hq q => exact call_list_of pins s σ H _ us Q I r ⟨_, _, rfl, hq, q⟩
  | @rng a n _ ea hn q =>
    obtain ⟨u, rfl, ru⟩ := vals1 r
    cases ru
    obtain ⟨t1, t2, t3, eh⟩ := (show ObjOk X.prog X.w H s.heap a (.rng 0 (n : Int)) from I.hok a _ ea)
    refine call_list_range (n := n) (I.ok.hd hc) eh (small_one (by decide) (by decide) (by omega) (by omega)) (by rw [rangeSize_one]; split <;> omega) (by omega) fun h' tk acc' c' hk hl hi => ?_
    have hv : Vals (rngV n) acc'.toList := vals_rng (by simpa using hi.1) fun i v e => hi.2 i v (by simpa using e)
    refine ⟨.ref _, _, I.laid (o := .lst (rngV n)) hk (Nat.le_refl _) ⟨?_, acc'.toList, c', hv, by simpa using hl⟩, rfl, q _ (I.hok.fresh (Nat.le_refl _))⟩
    have : (rngV n).length = n := by simp [rngV]
    rw [this]
    exact Nat.le_of_lt (small1000 hn)
theorem b_min (hc : X.calm = true) (B : Blt X.mg) (ha : PA X [e, f] t) (hg : Gl X "min" := by rfl) (he : starEach [e, f] X.env = (false, eval e X.env) :: starEach [f] X.env := by rfl) (hpl : (backTo pos (starEach [f] X.env)).any (·.1) = false := by rfl) :
    PE X (.Call (.Name "min" p) [e, f] [] pos) (tCB (fun xs H Q => ∃ i j, xs = [.int i, .int j] ∧ Q (.int (if j < i then j else i)) H) t) :=
  pe_callB (call_min2 hc) hg B.min (show bootBuiltins "min" = some (.builtin "min") by decide +kernel) ha (by decide) (by decide) he hpl
theorem b_max (hc : X.calm = true) (B : Blt X.mg) (ha : PA X [e, f] t) (hg : Gl X "max" := by rfl) (he : starEach [e, f] X.env = (false, eval e X.env) :: starEach [f] X.env := by rfl) (hpl : (backTo pos (starEach [f] X.env)).any (·.1) = false := by rfl) :
    PE X (.Call (.Name "max" p) [e, f] [] pos) (tCB (fun xs H Q => ∃ i j, xs = [.int i, .int j] ∧ Q (.int (if j > i then j else i)) H) t) :=
  pe_callB (call_max2 hc) hg B.max (show bootBuiltins "max" = some (.builtin "max") by decide +kernel) ha (by decide) (by decide) he hpl
theorem ins_at {its : List Value} {u : Value} {k : Nat} {x : Int} (hx : x = (k : Int)) (hk : k ≤ its.length) :
    (fun xs : Array Value => have k := if x < 0 then (x + (xs.size : Int)).toNat else min x.toNat xs.size; (xs.extract 0 k).push u ++ xs.extract k) its.toArray = (its.take k ++ u :: its.drop k).toArray := by
  subst hx
  simp only [List.size_toArray]
  rw [if_neg (by omega), Int.toNat_natCast, Nat.min_eq_left hk]
  simp [List.extract_eq_drop_take]
  exact List.take_of_length_le (by rw [List.length_drop]; omega)
noncomputable def rInsert : V → List V → Hp → VK → Prop := fun x vs H Q => ∃ l xs i k y, x = .ref l ∧ vs = [.int i, y] ∧ i = ((k : Nat) : Int) ∧ H l = some (.lst xs) ∧ k ≤ xs.length ∧ xs.length < sizeLine ∧ Q .non (upd H l (.lst (xs.take k ++ y :: xs.drop k)))
theorem mt_insert : MtR X "list.insert" rInsert := by
  intro pins s σ H x vs v us Q I rx rv h
  obtain ⟨l, xs, i, k, y, rfl, rfl, hi, hH, hk, hz, q⟩ := h
  cases rx
  obtain ⟨u1, u2, rfl, r1, r2⟩ := vals2 rv
  obtain ⟨t, rfl⟩ := r1
  obtain ⟨z, its, n, r, hl, e⟩ := I.lstM hH
  have hs : its.length ≤ sizeLine := by omega
  have hfit : Builtin.List.listFitsIndex i = true := by
    have h1 : i < 2 ^ 63 := by have := line63; omega
    exact fitsIndex_both (by omega) h1
  have ME := PySem.AutoSeq1.list_insert_list_int_val_1 l its.toArray n i t u2 (by simp [hfit]) (by rw [List.size_toArray]; exact hs)
  refine call_meets F.slot_list_insert ⟨_, e, rfl⟩ F.entry_list_insert (F.args_list_insert_3 _ _ _) ME ⟨e, ?_⟩
  refine ⟨.non, _, I.lset (its' := its.take k ++ u2 :: its.drop k) hH e (ins_at hi (by omega)) (Vals.append (r.take k) (.cons r2 (r.drop k))) ?_, rfl, q⟩
  simp only [List.length_append, List.length_cons, List.length_take, List.length_drop]
  omega
theorem m_insert (K : PySem.W.Frag) {o e f : Expr} {to : TE} {t : TA} {apos cpos : Pos} (ho : PE X o to) (ha : PA X [e, f] t)
    (hbase : attributeBase o "insert" X.env (eval o X.env) = eval o X.env := by rfl)
    (hfew : ((backTo cpos (starEach [e, f] X.env)).all (fun x => !x.1) && (backToKw cpos (keywordEach [] X.env)).all (fun x => x.1.isSome)
      && decide ([e, f].length + ([] : List Keyword).length + (if ([] : List Keyword).isEmpty then 0 else 1) < 30)) = true := by rfl)
    (hline : (apos.endLine == cpos.line) = true := by rfl) (hs : starEach [e, f] X.env = (false, eval e X.env) :: starEach [f] X.env := by rfl) (hplain : (backTo cpos (starEach [f] X.env)).any (·.1) = false := by rfl) (hK : X.K = K := by rfl) :
    PE X (.Call (.Attribute o "insert" apos) [e, f] [] cpos) (tBM K "list" rInsert to t) := hK ▸ pe_bm PySem.F.plainAttrs_list PySem.F.slot_list_insert PySem.F.type_list_insert mt_insert ho ha hbase hfew hline hs hplain
end
end L2
namespace L2
open PySem PySem.Spec PyProof.Rows
noncomputable def Nm (s : Str) : Prop := 1 ≤ s.length ∧ s.length ≤ 8 ∧ ∀ c ∈ s.cps.toList, 97 ≤ c ∧ c ≤ 122
theorem Nm.asc {s : Str} (h : Nm s) : Asc s := fun c hc => by have := h.2.2 c hc; omega
noncomputable def tieD (e : Nat × Nat) : PyData := .tuple [.int e.1, .int e.2]
noncomputable def pairD (e : Str × Str) : PyData := .tuple [.str e.1, .str e.2]
noncomputable def webD (ss : List Str) (ts : List (Str × Str)) : PyData := .tuple [.tuple (ss.map .str), .tuple (ts.map pairD)]
section
variable {H H' : Hp}
theorem Rep.tupI {v : V} {ds : List PyData} (h : Rep H v (.tuple ds)) : ∃ a xs, v = .ref a ∧ H a = some (.tup xs) ∧ RepAll H xs ds := by
  cases h with
  | tup e r => exact ⟨_, _, rfl, e, r⟩
theorem Rep.strI {v : V} {s : Str} (h : Rep H v (.str s)) : v = .str s := by cases h; rfl
theorem Rep.intI {v : V} {i : Int} (h : Rep H v (.int i)) : v = .int i := by cases h; rfl
theorem RepAll.nilI {xs : List V} (h : RepAll H xs []) : xs = [] := by cases h; rfl
theorem RepAll.consI {xs : List V} {d : PyData} {ds : List PyData} (h : RepAll H xs (d :: ds)) : ∃ y ys, xs = y :: ys ∧ Rep H y d ∧ RepAll H ys ds := by
  cases h with
  | cons a b => exact ⟨_, _, rfl, a, b⟩
theorem RepAll.strs : ∀ {xs : List V} {ss : List Str}, RepAll H xs (ss.map PyData.str) → xs = ss.map V.str
  | _, [], h => by rw [h.nilI]; rfl
  | _, s :: ss, h => by
    obtain ⟨y, ys, rfl, a, b⟩ := RepAll.consI h
    rw [a.strI, RepAll.strs b]; rfl
theorem RepAll.of_strs : ∀ (ss : List Str), RepAll H (ss.map V.str) (ss.map PyData.str)
  | [] => .nil
  | s :: ss => .cons (.str s) (RepAll.of_strs ss)
theorem RepAll.len {xs : List V} {ds : List PyData} (h : RepAll H xs ds) : xs.length = ds.length := by
  induction ds generalizing xs with
  | nil => rw [h.nilI]; rfl
  | cons d ds ih =>
    obtain ⟨y, ys, rfl, a, b⟩ := h.consI
    simp [ih b]
theorem RepAll.get {xs : List V} {ds : List PyData} (h : RepAll H xs ds) {i : Nat} {x : V} (e : xs[i]? = some x) : ∃ d, ds[i]? = some d ∧ Rep H x d := by
  induction ds generalizing xs i with
  | nil => rw [h.nilI] at e; simp at e
  | cons d ds ih =>
    obtain ⟨y, ys, rfl, a, b⟩ := h.consI
    cases i with
    | zero => simp at e; subst e; exact ⟨d, rfl, a⟩
    | succ i => simpa using ih b (by simpa using e)
theorem RepAll.append {xs ys : List V} {ds es : List PyData} (h : RepAll H xs ds) (g : RepAll H ys es) : RepAll H (xs ++ ys) (ds ++ es) := by
  induction ds generalizing xs with
  | nil => rw [h.nilI]; exact g
  | cons d ds ih =>
    obtain ⟨y, zs, rfl, a, b⟩ := h.consI
    exact .cons a (ih b)
theorem tie_at {v : V} {e : Nat × Nat} (h : Rep H v (tieD e)) : ∃ a, v = .ref a ∧ H a = some (.tup [.int e.1, .int e.2]) := by
  obtain ⟨a, xs, rfl, ha, r⟩ := Rep.tupI h
  obtain ⟨y, ys, rfl, r1, r⟩ := r.consI
  obtain ⟨z, zs, rfl, r2, r⟩ := r.consI
  have e1 := RepAll.nilI r
  subst e1
  rw [r1.intI, r2.intI] at ha
  exact ⟨a, rfl, ha⟩
theorem pair_at {v : V} {e : Str × Str} (h : Rep H v (pairD e)) : ∃ a, v = .ref a ∧ H a = some (.tup [.str e.1, .str e.2]) := by
  obtain ⟨a, xs, rfl, ha, r⟩ := Rep.tupI h
  obtain ⟨y, ys, rfl, r1, r⟩ := r.consI
  obtain ⟨z, zs, rfl, r2, r⟩ := r.consI
  have e1 := RepAll.nilI r
  subst e1
  rw [r1.strI, r2.strI] at ha
  exact ⟨a, rfl, ha⟩
theorem tie_rep {a : Addr} {i j : Nat} (h : H a = some (.tup [.int i, .int j])) : Rep H (.ref a) (tieD (i, j)) := .tup h (.cons (.int _) (.cons (.int _) .nil))
theorem pair_rep {a : Addr} {s t : Str} (h : H a = some (.tup [.str s, .str t])) : Rep H (.ref a) (pairD (s, t)) := .tup h (.cons (.str _) (.cons (.str _) .nil))
theorem web_at {v : V} {ss : List Str} {ts : List (Str × Str)} (h : Rep H v (webD ss ts)) : ∃ q a b xs, v = .ref q ∧ H q = some (.tup [.ref a, .ref b]) ∧ H a = some (.tup (ss.map V.str)) ∧ H b = some (.tup xs) ∧ RepAll H xs (ts.map pairD) := by
  obtain ⟨q, ws, rfl, hq, r0⟩ := Rep.tupI h
  obtain ⟨y, ys, rfl, r1, r3⟩ := r0.consI
  obtain ⟨z, zs, rfl, r2, r4⟩ := r3.consI
  obtain ⟨a, xa, rfl, ha, ra⟩ := Rep.tupI r1
  obtain ⟨b, xb, rfl, hb, rb⟩ := Rep.tupI r2
  have e1 := RepAll.nilI r4
  subst e1
  have e2 := RepAll.strs ra
  subst e2
  exact ⟨q, a, b, xb, rfl, hq, ha, hb, rb⟩
end
theorem canLay_ties : ∀ es : List (Nat × Nat), PyData.canLayAll0 (es.map tieD) = true
  | [] => rfl
  | e :: es => by
    show (PyData.canLay0 (tieD e) && PyData.canLayAll0 (es.map tieD)) = true
    rw [canLay_ties es]
    rfl
end L2
set_option autoImplicit false
namespace MG
variable {α : Type}
noncomputable def Walk (R : α → α → Prop) : Nat → α → α → Prop
  | 0, x, y => x = y
  | n + 1, x, y => ∃ z, Walk R n x z ∧ R z y
noncomputable def Rch (R : α → α → Prop) (x y : α) : Prop := ∃ n, Walk R n x y
noncomputable def Dst (R : α → α → Prop) (x : α) (d : Nat) (y : α) : Prop := Walk R d x y ∧ ∀ k, k < d → ¬ Walk R k x y
variable {R : α → α → Prop} {x : α}
theorem Dst.uniq {d e : Nat} {y : α} (a : Dst R x d y) (b : Dst R x e y) : d = e := by
  rcases Nat.lt_trichotomy d e with h | h | h
  · exact absurd a.1 (b.2 d h)
  · exact h
  · exact absurd b.1 (a.2 e h)
theorem Rch.dst {y : α} (h : Rch R x y) : ∃ d, Dst R x d y := by
  obtain ⟨n, h⟩ := h
  induction n using Nat.strongRecOn generalizing y with
  | _ n ih =>
    by_cases e : ∃ k, k < n ∧ Walk R k x y
    · obtain ⟨k, hk, w⟩ := e
      exact ih k hk w
    · exact ⟨n, h, fun k hk w => e ⟨k, hk, w⟩⟩
theorem Dst.rch {d : Nat} {y : α} (h : Dst R x d y) : Rch R x y := ⟨d, h.1⟩
theorem Dst.pred {d : Nat} {y : α} (h : Dst R x (d + 1) y) : ∃ z, Dst R x d z ∧ R z y := by
  obtain ⟨⟨z, w, r⟩, m⟩ := h
  exact ⟨z, ⟨w, fun k hk w' => m (k + 1) (by omega) ⟨z, w', r⟩⟩, r⟩
theorem Dst.zero : Dst R x 0 x := ⟨rfl, fun k hk => by omega⟩
theorem Dst.of_zero {y : α} (h : Dst R x 0 y) : y = x := h.1.symm
theorem Dst.below {d : Nat} {y : α} (h : Dst R x d y) : ∀ e, e ≤ d → ∃ z, Dst R x e z := by
  induction d generalizing y with
  | zero => intro e he; have : e = 0 := by omega
            subst this; exact ⟨y, h⟩
  | succ d ih =>
    intro e he
    by_cases q : e = d + 1
    · subst q; exact ⟨y, h⟩
    · obtain ⟨z, hz, _⟩ := h.pred
      exact ih hz e (by omega)
theorem Rch.closed {S : α → Prop} (h0 : S x) (hs : ∀ y z, S y → R y z → S z) {y : α} (h : Rch R x y) : S y := by
  obtain ⟨n, w⟩ := h
  induction n generalizing y with
  | zero => have : x = y := w
            subst this; exact h0
  | succ n ih =>
    obtain ⟨z, w, r⟩ := w
    exact hs z y (ih w) r
structure Lev (R : α → α → Prop) (x : α) (L : Nat) (look : α → Option Nat) (edge : List α) : Prop where
  snd : ∀ y k, look y = some k → Dst R x k y ∧ k ≤ L
  cmp : ∀ y k, k ≤ L → Dst R x k y → look y = some k
  edg : ∀ y, y ∈ edge ↔ Dst R x L y
structure Mid (R : α → α → Prop) (x : α) (L : Nat) (look : α → Option Nat) (further : List α) (done : α → α → Prop) : Prop where
  snd : ∀ y k, look y = some k → (Dst R x k y ∧ k ≤ L) ∨ (k = L + 1 ∧ y ∈ further)
  cmp : ∀ y k, k ≤ L → Dst R x k y → look y = some k
  fur : ∀ y, y ∈ further → Dst R x (L + 1) y ∧ look y = some (L + 1)
  dn : ∀ z y, done z y → (look y).isSome = true
theorem Lev.start [DecidableEq α] {look : α → Option Nat} (h : ∀ y, look y = if y = x then some 0 else none) : Lev R x 0 look [x] := by
  refine ⟨fun y k e => ?_, fun y k hk d => ?_, fun y => ?_⟩
  · rw [h] at e
    split at e
    · rename_i q; subst q; cases e; exact ⟨Dst.zero, Nat.le_refl _⟩
    · cases e
  · have : k = 0 := by omega
    subst this
    rw [h, if_pos d.of_zero]
  · rw [List.mem_singleton]
    exact ⟨fun e => e ▸ Dst.zero, fun d => d.of_zero⟩
theorem Lev.mid {L : Nat} {look : α → Option Nat} {edge : List α} (h : Lev R x L look edge) : Mid R x L look [] (fun _ _ => False) :=
  ⟨fun y k e => .inl (h.snd y k e), h.cmp, fun y hy => (nomatch hy), fun _ _ f => f.elim⟩
theorem Mid.skip {L : Nat} {look : α → Option Nat} {further : List α} {done : α → α → Prop} (h : Mid R x L look further done) {z y : α} (e : (look y).isSome = true) : Mid R x L look further (fun a b => done a b ∨ (a = z ∧ b = y)) :=
  ⟨h.snd, h.cmp, h.fur, fun a b d => by
    rcases d with d | ⟨_, q⟩
    · exact h.dn a b d
    · rw [q]; exact e⟩
theorem Mid.add {L : Nat} {look look' : α → Option Nat} {further : List α} {done : α → α → Prop} (h : Mid R x L look further done) {z y : α} (hz : Dst R x L z) (r : R z y) (e : look y = none)
    [DecidableEq α] (hl : ∀ a, look' a = if a = y then some (L + 1) else look a) : Mid R x L look' (further ++ [y]) (fun a b => done a b ∨ (a = z ∧ b = y)) := by
  have dy : Dst R x (L + 1) y := by
    refine ⟨⟨z, hz.1, r⟩, fun k hk w => ?_⟩
    obtain ⟨d, dd⟩ := Rch.dst ⟨k, w⟩
    have hd : d ≤ k := Nat.le_of_not_lt fun q => dd.2 k q w
    rw [h.cmp y d (by omega) dd] at e
    cases e
  refine ⟨fun a k q => ?_, fun a k hk d => ?_, fun a ha => ?_, fun a b d => ?_⟩
  · rw [hl] at q
    split at q
    · rename_i ea; cases q; subst ea; exact .inr ⟨rfl, by simp⟩
    · rcases h.snd a k q with q' | ⟨q1, q2⟩
      · exact .inl q'
      · exact .inr ⟨q1, by simp [q2]⟩
  · rw [hl]
    split
    · rename_i ea; subst ea; have := d.uniq dy; omega
    · exact h.cmp a k hk d
  · rcases List.mem_append.mp ha with q | q
    · refine ⟨(h.fur a q).1, ?_⟩
      rw [hl]
      split
      · rfl
      · exact (h.fur a q).2
    · have : a = y := by simpa using q
      subst this
      exact ⟨dy, by rw [hl, if_pos rfl]⟩
  · rw [hl]
    split
    · rfl
    · rename_i nb
      rcases d with d | ⟨_, q⟩
      · exact h.dn a b d
      · exact absurd q nb
theorem Mid.wk {L : Nat} {look : α → Option Nat} {further : List α} {done done' : α → α → Prop} (h : Mid R x L look further done) (w : ∀ a b, done' a b → done a b) : Mid R x L look further done' :=
  ⟨h.snd, h.cmp, h.fur, fun a b d => h.dn a b (w a b d)⟩
theorem Mid.next {L : Nat} {look : α → Option Nat} {further edge : List α} {done : α → α → Prop} (h : Mid R x L look further done) (he : ∀ y, y ∈ edge ↔ Dst R x L y) (hd : ∀ z y, z ∈ edge → R z y → done z y) : Lev R x (L + 1) look further := by
  have key : ∀ y, Dst R x (L + 1) y → y ∈ further ∧ look y = some (L + 1) := fun y d => by
    obtain ⟨z, dz, r⟩ := d.pred
    have s := h.dn z y (hd z y ((he z).mpr dz) r)
    obtain ⟨k, e⟩ := Option.isSome_iff_exists.mp s
    rcases h.snd y k e with ⟨q, hk⟩ | ⟨q1, q2⟩
    · have := q.uniq d; omega
    · subst q1; exact ⟨q2, e⟩
  refine ⟨fun y k e => ?_, fun y k hk d => ?_, fun y => ⟨fun q => (h.fur y q).1, fun d => (key y d).1⟩⟩
  · rcases h.snd y k e with ⟨q, hk⟩ | ⟨q1, q2⟩
    · exact ⟨q, by omega⟩
    · subst q1; exact ⟨(h.fur y q2).1, Nat.le_refl _⟩
  · by_cases q : k = L + 1
    · subst q; exact (key y d).2
    · exact h.cmp y k (by omega) d
theorem Lev.done {L : Nat} {look : α → Option Nat} (h : Lev R x L look []) : ∀ y k, look y = some k ↔ Dst R x k y := fun y k => by
  refine ⟨fun e => (h.snd y k e).1, fun d => ?_⟩
  by_cases q : k ≤ L
  · exact h.cmp y k q d
  · obtain ⟨z, hz⟩ := d.below L (by omega)
    exact (nomatch (h.edg z).mpr hz)
end MG
namespace MG
variable {α : Type} {R : α → α → Prop} {x : α}
theorem Dst.lt {ss : List α} (hin : ∀ y, Rch R x y → y ∈ ss) {L : Nat} {y : α} (d : Dst R x L y) : L < ss.length := by
  have key : ∀ n, n ≤ L + 1 → ∃ zs : List α, zs.length = n ∧ zs.Nodup ∧ ∀ z ∈ zs, ∃ e, e < n ∧ Dst R x e z := by
    intro n
    induction n with
    | zero => intro _; exact ⟨[], rfl, List.nodup_nil, fun z hz => by cases hz⟩
    | succ n ih =>
      intro hn
      obtain ⟨zs, hl, hnd, hz⟩ := ih (by omega)
      obtain ⟨z, dz⟩ := d.below n (by omega)
      refine ⟨z :: zs, by simp [hl], List.nodup_cons.mpr ⟨fun hm => ?_, hnd⟩, fun w hw => ?_⟩
      · obtain ⟨e, he, de⟩ := hz z hm
        have := de.uniq dz
        omega
      · rcases List.mem_cons.mp hw with rfl | hw
        · exact ⟨n, by omega, dz⟩
        · obtain ⟨e, he, de⟩ := hz w hw
          exact ⟨e, by omega, de⟩
  obtain ⟨zs, hl, hnd, hz⟩ := key (L + 1) (Nat.le_refl _)
  have := hnd.length_le_of_subset (l₂ := ss) fun z hm => by
    obtain ⟨e, _, de⟩ := hz z hm
    exact hin z de.rch
  omega
end MG
namespace L2
open PySem PySem.Spec PyProof.Rows
noncomputable def namesD (ss : List Str) : PyData := .list (ss.map .str)
theorem names_rep {H : Hp} {a : Addr} {ss : List Str} (h : H a = some (.lst (ss.map V.str))) : Rep H (.ref a) (namesD ss) := .lst h (RepAll.of_strs ss)
theorem canLay_nm {s : Str} (h : Nm s) : PyData.canLay0 (.str s) = true := by
  show (s.cps.all (· < 0x110000)) = true
  rw [← Array.all_toList, List.all_eq_true]
  intro c hc
  have := h.2.2 c hc
  exact decide_eq_true (by omega)
theorem canLay_strs : ∀ ss : List Str, (∀ s ∈ ss, Nm s) → PyData.canLayAll0 (ss.map PyData.str) = true
  | [], _ => rfl
  | s :: ss, h => by
    show (PyData.canLay0 (.str s) && PyData.canLayAll0 (ss.map PyData.str)) = true
    rw [canLay_strs ss fun x hx => h x (List.mem_cons_of_mem _ hx), canLay_nm (h s (by simp))]
    rfl
theorem depth_strs : ∀ ss : List Str, PyData.depthAll (ss.map PyData.str) = 0
  | [] => rfl
  | s :: ss => by
    show max (PyData.depth (.str s)) (PyData.depthAll (ss.map PyData.str)) = 0
    rw [depth_strs ss]; rfl
theorem shp_names {ss : List Str} (h : ∀ s ∈ ss, Nm s) : shp (namesD ss) := by
  show (PyData.canLayAll0 (ss.map PyData.str) && decide (PyData.depthAll (ss.map PyData.str) + 1 ≤ 64)) = true
  rw [canLay_strs ss h, depth_strs]; rfl
theorem textFrom_le {n : Nat} : ∀ (ts : List Str) (k : Nat) (acc : Str), (∀ t ∈ ts, t.length ≤ n) → (textFrom k acc ts).length ≤ acc.length + ts.length * (n + 2)
  | [], k, acc, _ => by show acc.length ≤ acc.length + 0 * _; omega
  | t :: r, k, acc, h => by
    have h1 := textFrom_le r (k + 1) (acc ++ (if k > 0 then ", " else "" : String) ++ t) fun u hu => h u (List.mem_cons_of_mem _ hu)
    have h2 := h t (by simp)
    have e : (acc ++ (if k > 0 then ", " else "" : String) ++ t).length ≤ acc.length + 2 + t.length := by
      rw [len_app, len_app]
      have : (Str.ofString (if k > 0 then ", " else "" : String)).length ≤ 2 := by split <;> decide
      show acc.length + (Str.ofString (if k > 0 then ", " else "" : String)).length + t.length ≤ _
      omega
    show (textFrom (k + 1) (acc ++ (if k > 0 then ", " else "" : String) ++ t) r).length ≤ acc.length + (r.length + 1) * (n + 2)
    rw [Nat.succ_mul]
    omega
theorem Nm.repr {s : Str} (h : Nm s) : (reprText s).length ≤ 82 := by
  have := StrLaws.reprText_len s fun c hc => Nat.lt_trans (h.asc c hc) (by decide)
  have := h.2.1
  omega
theorem eqv_shp {d : PyData} (h : shp d) : PyData.eqv d d = true := SeqAt.eqv_refl d (SeqAt.canLay_of_shaped h)
theorem for_enum {K : PySem.W.Frag} {a : Addr} {xs : List V} {g : TG} {tb : TS} {D : Ends} {σ : St} {H : Hp} (Pv : Nat → St → Hp → Prop) (h0 : Pv 0 σ H) (hl : ∀ i σ H, i ≤ xs.length → Pv i σ H → SqL K H a xs)
    (hs : ∀ i x σ H p, xs[i]? = some x → Pv i σ H → H p = none → g (.ref p) σ (upd H p (.tup [.int i, x])) fun σ2 H2 => tb { D with nx := Pv (i + 1), ct := Pv (i + 1), bk := D.nx } σ2 H2) (hd : ∀ σ H, Pv xs.length σ H → D.nx σ H) :
    ∃ W : Nat → Nat → St → Hp → Prop, (∃ m, W 0 m σ H) ∧ ∀ i m σ H, W i m σ H →
      ((Ite K a).stop i H ∧ D.nx σ H) ∨ ((Ite K a).go i H ∧ ∃ N : St → Hp → Prop, (∀ σ' H', N σ' H' → ∃ m', m' < m ∧ W (i + 1) m' σ' H') ∧ ∀ x H', (Ite K a).yld i H x H' → g x σ H' fun σ2 H2 => tb { D with nx := N, ct := N, bk := D.nx } σ2 H2) := by
  refine ⟨fun i m σ H => m = xs.length - i ∧ i ≤ xs.length ∧ Pv i σ H, ⟨xs.length, by simp, Nat.zero_le _, h0⟩, ?_⟩
  rintro i m σ H ⟨rfl, hi, p⟩
  have q := hl i σ H hi p
  by_cases hlt : i < xs.length
  · refine .inr ⟨⟨xs, xs[i], q, by simp [hlt]⟩, Pv (i + 1), fun σ' H' p' => ⟨xs.length - (i + 1), by omega, rfl, hlt, p'⟩, fun x H' y => ?_⟩
    obtain ⟨r, z, hr, rfl, hz, rfl⟩ := y
    exact hs i z σ H r (hz xs q) p hr
  · have e : i = xs.length := by omega
    subst e
    exact .inl ⟨⟨xs, q, Nat.le_refl _⟩, hd σ H p⟩
noncomputable def spPlaces : Sp := fun vs H Q _ => ∃ a xs, vs = [.ref a] ∧ H a = some (.lst (List.map V.str xs)) ∧ xs.length ≤ 1000 ∧
  ∀ d kvs H', Same H H' → H d = none → H' d = some (.dK kvs) → (∀ s, (valV kvs (.inr s)).isSome = true ↔ s ∈ xs) → (∀ s v, valV kvs (.inr s) = some v → ∃ j : Nat, v = .int j ∧ xs[j]? = some s) → Q (.ref d) H'
structure Web (H : Hp) (v : V) (ss : List Str) (ts : List (Str × Str)) : Prop where
  rep : Rep H v (webD ss ts)
  nd : ss.Nodup
  nm : ∀ s ∈ ss, Nm s
  len : ss.length ≤ 60
  few : ts.length ≤ 401
  inn : ∀ e ∈ ts, e.1 ∈ ss ∧ e.2 ∈ ss
theorem Web.same {H H' : Hp} {v : V} {ss : List Str} {ts : List (Str × Str)} (h : Web H v ss ts) (s : Same H H') : Web H' v ss ts := ⟨h.rep.same s, h.nd, h.nm, h.len, h.few, h.inn⟩
noncomputable def nxtL (ss : List Str) (ts : List (Str × Str)) (s : Str) : List Str := ss.filter fun t => decide ((s, t) ∈ ts)
noncomputable def flipE (ts : List (Str × Str)) : List (Str × Str) := ts.map fun e => (e.2, e.1)
noncomputable def spNexts (rev : Bool) : Sp := fun vs H Q _ => ∃ q ss ts s, vs = [q, .str s] ∧ Web H q ss ts ∧
  ∀ l H', Same H H' → H l = none → H' l = some (.lst (List.map V.str (nxtL ss (if rev then flipE ts else ts) s))) → Q (.ref l) H'
noncomputable def Tab (H : Hp) (d : Addr) (ss : List Str) (f : Str → List Str) : Prop := ∃ kvs, H d = some (.dK kvs) ∧ ∀ s ∈ ss, ∃ l, valV kvs (.inr s) = some (.ref l) ∧ H l = some (.lst (List.map V.str (f s)))
theorem Tab.same {H H' : Hp} {d : Addr} {ss : List Str} {f : Str → List Str} (h : Tab H d ss f) (s : Same H H') : Tab H' d ss f := let ⟨kvs, a, b⟩ := h; ⟨kvs, s _ _ a, fun x hx => let ⟨l, c, e⟩ := b x hx; ⟨l, c, s _ _ e⟩⟩
noncomputable def spNextsAll (rev : Bool) : Sp := fun vs H Q _ => ∃ q ss ts, vs = [q] ∧ Web H q ss ts ∧
  ∀ d H', Same H H' → H d = none → Tab H' d ss (nxtL ss (if rev then flipE ts else ts)) → Q (.ref d) H'
noncomputable def Ner (ss : List Str) (f : Str → List Str) (a b : Str) : Prop := a ∈ ss ∧ b ∈ f a
noncomputable def Tie (ts : List (Str × Str)) (a b : Str) : Prop := (a, b) ∈ ts
end L2
namespace MG
variable {α : Type} {R : α → α → Prop} {x : α}
theorem Walk.map {β : Type} {S : β → β → Prop} (f : α → β) (h : ∀ a b, R a b → S (f a) (f b)) {n : Nat} {y : α} (w : Walk R n x y) : Walk S n (f x) (f y) := by
  induction n generalizing y with
  | zero =>
    have w : x = y := w
    subst w
    exact rfl
  | succ n ih =>
    obtain ⟨z, w, r⟩ := w
    exact ⟨f z, ih w, h z y r⟩
theorem Walk.back {β : Type} {S : β → β → Prop} (f : α → β) (h : ∀ a c, S (f a) c → ∃ b, c = f b ∧ R a b) {n : Nat} {c : β} (w : Walk S n (f x) c) : ∃ y, c = f y ∧ Walk R n x y := by
  induction n generalizing c with
  | zero =>
    have w : f x = c := w
    exact ⟨x, w.symm, rfl⟩
  | succ n ih =>
    obtain ⟨z, w, r⟩ := w
    obtain ⟨y, rfl, wy⟩ := ih w
    obtain ⟨b, rfl, rb⟩ := h y c r
    exact ⟨b, rfl, y, wy, rb⟩
noncomputable def swp (es : List (Nat × Nat)) : List (Nat × Nat) := es.map fun e => (e.2, e.1)
theorem mem_swp {es : List (Nat × Nat)} {a b : Nat} : (a, b) ∈ swp es ↔ (b, a) ∈ es := by
  unfold swp
  rw [List.mem_map]
  constructor
  · rintro ⟨⟨x, y⟩, h, e⟩
    cases e; exact h
  · intro h; exact ⟨(b, a), h, rfl⟩
noncomputable def Arr (es : List (Nat × Nat)) (a b : Nat) : Prop := (a, b) ∈ es
noncomputable def To (es : List (Nat × Nat)) (goal k a : Nat) : Prop := Dst (Arr (swp es)) goal k a
variable {es : List (Nat × Nat)} {goal : Nat}
end MG
namespace MG
variable {es : List (Nat × Nat)}
theorem Walk.cons {α : Type} {R : α → α → Prop} {x y z : α} {n : Nat} (r : R x y) (w : Walk R n y z) : Walk R (n + 1) x z := by
  induction n generalizing z with
  | zero =>
    have w : y = z := w
    subst w
    exact ⟨x, rfl, r⟩
  | succ n ih =>
    obtain ⟨v, w, q⟩ := w
    exact ⟨v, ih w, q⟩
theorem walk_swp {n a b : Nat} (w : Walk (Arr es) n a b) : Walk (Arr (swp es)) n b a := by
  induction n generalizing b with
  | zero =>
    have w : a = b := w
    exact w.symm
  | succ n ih =>
    obtain ⟨z, w, r⟩ := w
    exact Walk.cons (mem_swp.mpr r) (ih w)
theorem swp_swp (es : List (Nat × Nat)) : swp (swp es) = es := by
  unfold swp
  rw [List.map_map]
  exact List.map_id'' (fun e => rfl) es
theorem rch_to {a goal : Nat} : Rch (Arr es) a goal ↔ ∃ k, To es goal k a := by
  constructor
  · rintro ⟨n, w⟩
    exact Rch.dst ⟨n, walk_swp w⟩
  · rintro ⟨k, h⟩
    have := walk_swp h.1
    rw [swp_swp] at this
    exact ⟨k, this⟩
noncomputable def RingAt (es : List (Nat × Nat)) (e : Nat × Nat) : Prop := ∃ k, To es e.1 k e.2
end MG
namespace L2
open PySem PySem.Spec PyProof.Rows
theorem same_free {H H' : Hp} {b : Addr} (s : Same H H') (h : H' b = none) : H b = none := by
  cases q : H b with
  | none => rfl
  | some o => rw [s _ _ q] at h; cases h
theorem same_at {H H' : Hp} {b : Addr} {o : HO} (s : Same H H') (h : H b = none) : Same H (upd H' b o) := fun c o' hc => by
  rw [upd_ne (ne_of_none hc h)]; exact s _ _ hc
end L2
namespace MG
section
variable {α : Type} [DecidableEq α]
noncomputable def ix : List α → α → Nat
  | [], _ => 0
  | a :: r, x => if a = x then 0 else ix r x + 1
end
variable {es : List (Nat × Nat)}
end MG
namespace L2
open PySem PySem.Spec PyProof.Rows
theorem canLay_prs : ∀ ts : List (Str × Str), (∀ e ∈ ts, Nm e.1 ∧ Nm e.2) → PyData.canLayAll0 (ts.map pairD) = true
  | [], _ => rfl
  | e :: ts, h => by
    show (PyData.canLay0 (pairD e) && PyData.canLayAll0 (ts.map pairD)) = true
    rw [canLay_prs ts fun x hx => h x (List.mem_cons_of_mem _ hx)]
    have := h e (by simp)
    show ((PyData.canLay0 (.str e.1) && (PyData.canLay0 (.str e.2) && true)) && true) = true
    rw [canLay_nm this.1, canLay_nm this.2]; rfl
end L2
namespace L2
open PySem PySem.Spec PyProof.Rows
open PySem.AutoSeq1 (wpAny_loadPart')
section
variable {prog : Program} {w : World} {A : Around} {E : Value → Shared → Prop} {s : Shared}
theorem nextT_item {jt tt : Addr} {i : Nat} {its : Array Value} {y : Value} {Q : Value → Shared → Prop} (hj : s.heap.IsTupleIter jt tt i) (htt : s.heap.IsTuple tt its) (hy : its[i]? = some y)
    (hQ : ∀ h', h'.IsTupleIter jt tt (i + 1) → Heap.SameBut jt s.heap h' → Q y { s with heap := h' }) : wpAny (model prog w) A (Builtin.SmallTypes.nextOf (.ref jt)) Q E s := by
  obtain ⟨oj, hoj, cj, dj⟩ := id hj
  obtain ⟨ot, hot, _, nt, dt⟩ := htt
  unfold Builtin.SmallTypes.nextOf
  refine wpAny_bind (wpAny_callSpecial?_slot (name := Str.ofString "__next__") hj.typeIs F.slot_tuple_iterator_next (wpAny_call_entry F.slot_tuple_iterator_next hj.typeIs F.entry_tuple_iterator_next ?_ (F.args_tuple_iterator_next_1 _)))
  show wpAny _ _ (field (.ref jt) 0 >>= _) _ _ s
  refine wpAny_bind (wpAny_field hoj dj (x := .ref tt) rfl ?_)
  show wpAny _ _ (if (Value.ref tt == Value.none) = true then _ else _) _ _ s
  rw [if_neg (show ¬ ((Value.ref tt == Value.none) = true) from Bool.false_ne_true)]
  show wpAny _ _ (field (.ref jt) 1 >>= _) _ _ s
  refine wpAny_bind (wpAny_field hoj dj (x := .int i 0) rfl (wpAny_bind (wpAny_seqItems hot dt ?_)))
  simp only [Int.toNat_natCast, hy]
  refine wpAny_bind (wpAny_setField hoj dj (by simp) (wpAny_pure ⟨y, rfl, wpAny_pure (hQ _ ?_ (Heap.SameBut.update ..))⟩))
  exact ⟨_, Heap.get?_update_self _ hoj (Obj.isFreed_of_fields (Obj.data_mapFields dj _)), (Obj.cls_mapFields ..).trans cj, by rw [Obj.data_mapFields dj]; simp [rawInt]⟩
theorem nextT_end {jt tt : Addr} {i : Nat} {its : Array Value} {Q : Value → Shared → Prop} (hh : A.handled = none) (hj : s.heap.IsTupleIter jt tt i) (htt : s.heap.IsTuple tt its) (hy : its[i]? = none)
    (hE : ∀ h' e, Heap.ExtBut jt s.heap h' → (∃ o, h'.get? e = some o ∧ o.cls = .type "StopIteration") → E (.ref e) { s with heap := h' }) : wpAny (model prog w) A (Builtin.SmallTypes.nextOf (.ref jt)) Q E s := by
  obtain ⟨oj, hoj, cj, dj⟩ := id hj
  obtain ⟨ot, hot, _, nt, dt⟩ := htt
  unfold Builtin.SmallTypes.nextOf
  refine wpAny_bind (wpAny_callSpecial?_slot (name := Str.ofString "__next__") hj.typeIs F.slot_tuple_iterator_next (wpAny_call_entry F.slot_tuple_iterator_next hj.typeIs F.entry_tuple_iterator_next ?_ (F.args_tuple_iterator_next_1 _)))
  show wpAny _ _ (field (.ref jt) 0 >>= _) _ _ s
  refine wpAny_bind (wpAny_field hoj dj (x := .ref tt) rfl ?_)
  show wpAny _ _ (if (Value.ref tt == Value.none) = true then _ else _) _ _ s
  rw [if_neg (show ¬ ((Value.ref tt == Value.none) = true) from Bool.false_ne_true)]
  show wpAny _ _ (field (.ref jt) 1 >>= _) _ _ s
  refine wpAny_bind (wpAny_field hoj dj (x := .int i 0) rfl (wpAny_bind (wpAny_seqItems hot dt ?_)))
  simp only [Int.toNat_natCast, hy]
  refine wpAny_bind (wpAny_rule (wpAny_bind (wpAny_setField hoj dj (by simp) ?_)))
  show wpAny _ _ (newExc (.type "StopIteration") [] >>= _) _ _ _
  refine wpAny_bind ?_
  simp only [newExc, newTuple]
  refine wpAny_bind (wpAny_newObj_type (wpAny_bind (m := firstArgMember _ _) (wpAny_of_eq (a := Value.none) (by first | rfl | (simp only [firstArgMember]; rfl)) ?_)) (by size_fits))
  refine wpAny_newObj_type ?_ (by size_fits)
  simp only [raiseNew]
  refine wpAny_bind (wpAny_handled ?_)
  first | rw [show A.in1.handled = none from hh] | rw [hh]
  refine wpAny_bind (wpAny_pure (wpAny_throw (hE _ _ (((Heap.SameBut.update ..).extBut.push _).push _) ⟨_, Heap.get?_push_size _ rfl, rfl⟩)))
theorem drawsT {prog : Program} {w : World} {A : Around} (hh : A.handled = none) (jt tt : Addr) (hne : tt ≠ jt) (its : Array Value) :
    Draws prog w A jt [jt, tt] its.size (fun i y => its[i]? = some y) (fun i h => h.IsTupleIter jt tt i ∧ h.IsTuple tt its) where
  live := fun i h st => let ⟨o, e, _⟩ := st.1; ⟨o, e⟩
  frame := fun i h h' st k => ⟨let ⟨o, e, r⟩ := st.1; ⟨o, k jt (by simp) o e, r⟩, let ⟨o, e, r⟩ := st.2; ⟨o, k tt (by simp) o e, r⟩⟩
  item := fun i s Q E hi st hQ => nextT_item st.1 st.2 (y := its[i]) (by simp [hi]) fun h' j' sb => hQ _ h' s.toks (by simp [hi]) ⟨j', st.2.extBut sb.extBut hne⟩ sb
  done := fun s Q E st hE => nextT_end hh st.1 st.2 (by simp) hE
set_option maxHeartbeats 1000000 in
theorem meets_enumT (l : Addr) (its : Array Value) (n : Nat) (dct : Option Addr) (sl : Array (Option Value)) :
    Meets (Builtin.«enumerate.__new__» ⟨[.type "enumerate", .ref l], []⟩) (fun _ R s => s.heap.get? l = some { cls := .type "tuple", dict := dct, data := .seq its n, slots := sl } ∧
      R (.ok (.ret (.ref (s.heap.push { cls := .type "tuple_iterator", data := .fields #[.ref l, .int 0 0] }).objs.size)))
        { s with heap := (s.heap.push { cls := .type "tuple_iterator", data := .fields #[.ref l, .int 0 0] }).push { cls := .type "enumerate", data := .fields #[.none, .bool false, .ref s.heap.objs.size, rawInt 0, .none, .none] } }) :=
  .of_wp fun prog w A R s h => by
    obtain ⟨h0, g0, d0, t0, os0⟩ := s
    obtain ⟨hl, h⟩ := h
    have hsub := sub_enumerate
    have hT : Heap.IsTuple (Shared.heap ⟨h0, g0, d0, t0, os0⟩) l its := ⟨_, hl, rfl, n, rfl⟩
    wp_walk using wpAny_loadPart' hl
    refine wpAny_stack_any fun st => wpAny_pure ?_
    split
    · rename_i c _ _ _ _ _
      cases (c == Value.type "enumerate")
      · wp_walk using wpAny_loadPart' hl, wpAny_pyIter_tuple hT
        exact ⟨_, rfl, h⟩
      · wp_walk using wpAny_loadPart' hl, wpAny_pyIter_tuple hT
        exact ⟨_, rfl, h⟩
    · wp_walk using wpAny_loadPart' hl, wpAny_pyIter_tuple hT
      exact ⟨_, rfl, h⟩
theorem call_enumT {l : Addr} {its : Array Value} {Q : Value → Shared → Prop} (hT : s.heap.IsTuple l its)
    (h : ∀ h', IsEnum h' (s.heap.objs.size + 1) s.heap.objs.size 0 .none → h'.IsTupleIter s.heap.objs.size l 0 → (∀ b o, s.heap.get? b = some o → h'.get? b = some o) → Q (.ref (s.heap.objs.size + 1)) { s with heap := h' }) :
    wpAny (model prog w) A (call (.type "enumerate") [.ref l]) Q E s := by
  obtain ⟨⟨c, dct, dt, sl⟩, hl, hc, n, hd⟩ := hT
  replace hc : c = .type "tuple" := hc
  replace hd : dt = .seq its n := hd
  subst hc hd
  refine callType_new F.called_enumerate (by decide) (F.typeCall_enumerate_1 _) (F.newCall_enumerate_1 _) (fun obj => F.args_object_init_2 obj _) F.entry_enumerate_new (meets_enumT l its n dct sl) ⟨hl, ?_⟩
  have hz : (s.heap.push { cls := .type "tuple_iterator", data := .fields #[.ref l, .int 0 0] }).objs.size = s.heap.objs.size + 1 := Heap.size_push ..
  show _ ∧ _
  rw [hz]
  have he : IsEnum ((s.heap.push { cls := .type "tuple_iterator", data := .fields #[.ref l, .int 0 0] }).push { cls := .type "enumerate", data := .fields #[.none, .bool false, .ref s.heap.objs.size, rawInt 0, .none, .none] }) (s.heap.objs.size + 1) s.heap.objs.size 0 .none := by
    have := Heap.get?_push_size (s.heap.push { cls := .type "tuple_iterator", data := .fields #[.ref l, .int 0 0] }) (o := { cls := .type "enumerate", data := .fields #[.none, .bool false, .ref s.heap.objs.size, rawInt 0, .none, .none] }) rfl
    rw [hz] at this; exact this
  exact ⟨⟨_, he, rfl⟩, h _ he ⟨_, Heap.get?_push_of_some _ (Heap.get?_push_size _ rfl), rfl, rfl⟩ fun b o x => Heap.get?_push_of_some _ (Heap.get?_push_of_some _ x)⟩
end
noncomputable def IteT (K : PySem.W.Frag) (a : Addr) : It :=
  ⟨fun i H => ∃ xs x, SqT K H a xs ∧ xs[i]? = some x, fun i H v H' => ∃ p x, H p = none ∧ v = .ref p ∧ (∀ xs, SqT K H a xs → xs[i]? = some x) ∧ H' = upd H p (.tup [.int i, x]), fun i H => ∃ xs, SqT K H a xs ∧ xs.length ≤ i⟩
theorem turn_enumT {P : Program} {w : World} {K : PySem.W.Frag} {elts : List Expr} {k : Nat} {tp : Pos} (a e it : Addr) (hne : e ≠ it) :
    Turn P w K (.Tuple elts k tp) (IteT K a) [e, it] e (fun i h => (∃ old, IsEnum h e it i old) ∧ h.IsTupleIter it a i) where
  mem := by simp
  obj := fun i h st b hb => by
    obtain ⟨⟨old, he⟩, hit⟩ := st
    have hb : b = e ∨ b = it := by simpa using hb
    rcases hb with z | z
    · subst z
      exact ⟨_, he, fun v z => by cases z⟩
    · subst z
      obtain ⟨o, e1, c, d⟩ := hit
      exact ⟨o, e1, fun v z => by rw [d] at z; cases z⟩
  keep := fun i h h' st kk => by
    obtain ⟨⟨old, he⟩, hit⟩ := st
    exact ⟨⟨old, kk e (by simp) _ he⟩, let ⟨o, q, r⟩ := hit; ⟨o, kk it (by simp) o q, r⟩⟩
  item := by
    intro X hP hw hK hc i pins s σ H E I hf st hg
    subst hP hw hK
    obtain ⟨⟨old, he⟩, hit⟩ := st
    obtain ⟨xs, x, hq, hx⟩ := hg
    obtain ⟨its, rv, p, hz⟩ := I.tuple hq
    obtain ⟨u, hu, ru⟩ := rv.get hx
    obtain ⟨f0, f1, f2, f3, f4, f5⟩ := hf e (by simp)
    obtain ⟨g0, g1, g2, g3, g4, g5⟩ := hf it (by simp)
    have hel : e < s.heap.objs.size := Heap.lt_size he
    have hil : it < s.heap.objs.size := by obtain ⟨o, q, _⟩ := hit; exact Heap.lt_size q
    have hae : a ≠ e := fun z => by
      obtain ⟨o, q, c, _⟩ := p
      rw [z, he] at q; cases q; simp at c
    have hai : a ≠ it := fun z => by
      obtain ⟨o, q, c, _⟩ := p
      obtain ⟨o', q', c', _⟩ := hit
      rw [z, q'] at q; cases q; rw [c] at c'; simp at c'
    have hul := (List.getElem?_eq_some_iff.mp hu).1
    refine wpAny_pyNext_enum_itemD (drawsT (A := X.A.in1) (show X.A.in1.handled = none from I.ok.hd hc) it a hai its.toArray) he ⟨hit, p⟩ (by simpa using hul) hne (by simp [hne, Ne.symm hae]) fun u' h1 tk hu' ho hit1 ht1 hz1 k1 => ?_
    have eu : u' = u := by
      have : its[i]? = some u' := by simpa using hu'
      rw [hu] at this
      exact (Option.some.inj this).symm
    subst eu
    refine ⟨_, rfl, wpAny_letOwnedTupleGo_enum ho fun h2 he2 sb2 => ?_⟩
    have sb2 : Heap.SameBut e h1 h2 := sb2
    have T2 : h2.get? s.heap.objs.size = some { cls := .type "tuple", data := .seq #[.int i tk, u'] } := (sb2.2 _ (Nat.ne_of_gt hel)).trans ht1
    have hp : H s.heap.objs.size = none := I.hok.fresh (Nat.le_refl _)
    have nit : ∀ b v, H b = some v → b ≠ e ∧ b ≠ it := fun b v q => ⟨fun z => (by rw [z, f0] at q; cases q), fun z => (by rw [z, g0] at q; cases q)⟩
    have kk : ∀ b o, b ≠ e → b ≠ it → s.heap.get? b = some o → h2.get? b = some o := fun b o n1 n2 q => (sb2.2 b n1).trans (k1 b o n1 n2 q)
    have up : ∀ b v, H b = some v → upd H s.heap.objs.size (.tup [.int i, x]) b = some v := fun b v q => by rw [upd_ne (ne_of_none q hp)]; exact q
    have I1 : Inv X pins σ (upd H s.heap.objs.size (.tup [.int i, x])) { s with heap := h2, gens := s.gens, drawn := s.drawn, toks := tk + 1 } := by
      refine I.step (g' := s.gens) (d' := s.drawn) (ch := [e, it]) (fun b hb => ?_) (fun b o _ _ hb q _ => kk b o (fun z => hb (by simp [z])) (fun z => hb (by simp [z])) q) (fun b o _ _ hb q _ => ⟨o.slots, kk b o (fun z => hb (by simp [z])) (fun z => hb (by simp [z])) q⟩) (fun b o _ q n => ?_)
        (fun b o hb q => ⟨o, kk b o (fun z => hb (by simp [z])) (fun z => hb (by simp [z])) q⟩) (fun b ys q => up b _ q) (fun b o v q => up b _ q) (fun b ps q => ⟨#[], by rw [up b _ q]; simp⟩) (fun m hm => ?_) (fun b v q => ?_) I.bare
      · have hb : b = e ∨ b = it := by simpa using hb
        rcases hb with z | z
        · subst z; exact ⟨f3, f1, f4, f5⟩
        · subst z; exact ⟨g3, g1, g4, g5⟩
      · rw [upd_ne (Nat.ne_of_lt (Heap.lt_size q))]; exact n
      · obtain ⟨o, es, ep, ho, r⟩ := hm
        exact ⟨o, es, ep, kk _ o (Ne.symm f1) (Ne.symm g1) ho, r⟩
      · by_cases hb : b = s.heap.objs.size
        · subst hb
          rw [upd_same] at q
          have q' : HO.tup [V.int i, x] = v := Option.some.inj q
          subst q'
          exact ⟨by show 2 ≤ sizeLine; decide, [.int i tk, u'], .cons ⟨_, rfl⟩ (.cons ru .nil), ⟨_, T2, rfl, _, rfl, rfl⟩⟩
        · rw [upd_ne hb] at q
          refine (I.hok b v q).stay (fun c v' hc q' => ?_) (fun c q => up c _ q) fun c ys q => up c _ q
          rcases hc with z | z
          · rw [z] at q' ⊢; exact kk b v' (nit b v q).1 (nit b v q).2 q'
          · exact kk c v' (nit c _ z).1 (nit c _ z).2 q'
    refine ⟨.ref s.heap.objs.size, upd H s.heap.objs.size (.tup [.int i, x]), I1, rfl, ⟨_, x, hp, rfl, fun ys hy => by rw [I.tuple_inj hy hq]; exact hx, rfl⟩, ⟨⟨u', ?_⟩, ?_⟩, fun b hb => ?_⟩
    · exact (by simpa using he2)
    · obtain ⟨o, q, r⟩ := hit1.1
      exact ⟨o, (sb2.2 it (Ne.symm hne)).trans q, r⟩
    · have hb : b = e ∨ b = it := by simpa using hb
      rcases hb with z | z
      · rw [z, upd_ne (Nat.ne_of_lt hel)]; exact f0
      · rw [z, upd_ne (Nat.ne_of_lt hil)]; exact g0
  done := by
    intro X hP hw hK hc i pins s σ H E I hf st hg
    subst hP hw hK
    obtain ⟨⟨old, he⟩, hit⟩ := st
    obtain ⟨xs, hq, hx⟩ := hg
    obtain ⟨its, rv, p, hz⟩ := I.tuple hq
    obtain ⟨g0, g1, g2, g3, g4, g5⟩ := hf it (by simp)
    have hl := rv.length
    have hT : s.TypeIs (.ref e) "enumerate" := ⟨_, he, rfl⟩
    unfold pyNext
    refine wpAny_bind (wpAny_attempt (wpAny_callSpecial?_slot (name := Str.ofString "__next__") hT F.slot_enumerate_next (wpAny_call_entry F.slot_enumerate_next hT F.entry_enumerate_next ?_ (F.args_enumerate_next_1 _))))
    show wpAny _ _ (field (.ref e) 2 >>= _) _ _ _
    refine wpAny_bind (wpAny_field he rfl (x := .ref it) rfl (wpAny_bind (nextT_end (I.ok.hd hc) hit p (by simp; omega) fun h' x he' hx' => ?_)))
    obtain ⟨o, ho, hc'⟩ := hx'
    refine wpAny_bind (wpAny_isInstance (T := "StopIteration") (b := true) ⟨o, ho, hc'⟩ isSubtype_stop ?_)
    exact wpAny_pure ⟨rfl, I.turned (t' := s.toks) (fun b o hb q => he' b o hb q) g0 g1 g3 g4 g5⟩
  self := fun _ _ _ _ _ st h => by
    obtain ⟨⟨old, he⟩, _⟩ := st
    exact wpAny_pyIter_enum he h
inductive EnmR (K : PySem.W.Frag) (H : Hp) : V → (It → Hp → Prop) → Prop
  | lst {a : Addr} {xs : List V} {R : It → Hp → Prop} : SqL K H a xs → R (Ite K a) H → EnmR K H (.ref a) R
  | tup {a : Addr} {xs : List V} {R : It → Hp → Prop} : SqT K H a xs → R (IteT K a) H → EnmR K H (.ref a) R
noncomputable def iEnumX (K : PySem.W.Frag) (ta : TA) : TI := fun σ H R => ta σ H fun vs H1 => ∃ x, vs = [x] ∧ EnmR K H1 x R
theorem pi_enumX (K : PySem.W.Frag) {X : Cx} {elts : List Expr} {k : Nat} {tp : Pos} {a : Expr} {ta : TA} {p pos : Pos} (hg : Gl X "enumerate") (hm : X.mg "enumerate" = none) (ha : PA X [a] ta) (hs : starEach [a] X.env = [(false, eval a X.env)] := by rfl) (hK : X.K = K := by rfl) :
    PI X (.Tuple elts k tp) (.Call (.Name "enumerate" p) [a] [] pos) (iEnumX K ta) := by
  subst hK
  intro pins s σ H R I h
  refine Call_ (ld_blt I hg hm boot_enumerate (PyProof.Rows.callWith_type1 (thn (ha pos pins s σ H _ I h) fun us s1 ⟨vs, H1, I1, r1, q1⟩ => ?_) hs rfl))
  obtain ⟨x, e, q⟩ := q1
  subst e
  obtain ⟨u, rfl, ru⟩ := vals1 r1
  have fin : ∀ b, b = s1.heap.objs.size + 1 ∨ b = s1.heap.objs.size → FpOk X pins H1 b := fun b hb => by
    rcases hb with z | z
    · subst z; exact I1.fpOk (Nat.le_succ _) (I1.hok.fresh (Nat.le_succ _))
    · subst z; exact I1.fpOk (Nat.le_refl _) (I1.hok.fresh (Nat.le_refl _))
  cases q with
  | lst hq q =>
    cases ru
    obtain ⟨its, rv, pl, hz⟩ := I1.list hq
    refine call_enumerate_list pl.isList fun h' he hit hz' k' => wpAny_pyIter_enum (s := { s1 with heap := h' }) he ?_
    exact ⟨_, [s1.heap.objs.size + 1, s1.heap.objs.size], _, _, H1, rfl, I1.kept (t' := s1.toks) k', turn_enum _ _ _ (Nat.succ_ne_self _), ⟨⟨_, he⟩, hit⟩, fun b hb => fin b (by simpa using hb), q⟩
  | tup hq q =>
    cases ru
    obtain ⟨its, rv, pl, hz⟩ := I1.tuple hq
    refine call_enumT pl fun h' he hit k' => wpAny_pyIter_enum (s := { s1 with heap := h' }) he ?_
    exact ⟨_, [s1.heap.objs.size + 1, s1.heap.objs.size], _, _, H1, rfl, I1.kept (t' := s1.toks) k', turn_enumT _ _ _ (Nat.succ_ne_self _), ⟨⟨_, he⟩, hit⟩, fun b hb => fin b (by simpa using hb), q⟩
theorem for_enumT {K : PySem.W.Frag} {a : Addr} {xs : List V} {g : TG} {tb : TS} {D : Ends} {σ : St} {H : Hp} (Pv : Nat → St → Hp → Prop) (h0 : Pv 0 σ H) (hl : ∀ i σ H, i ≤ xs.length → Pv i σ H → SqT K H a xs)
    (hs : ∀ i x σ H p, xs[i]? = some x → Pv i σ H → H p = none → g (.ref p) σ (upd H p (.tup [.int i, x])) fun σ2 H2 => tb { D with nx := Pv (i + 1), ct := Pv (i + 1), bk := D.nx } σ2 H2) (hd : ∀ σ H, Pv xs.length σ H → D.nx σ H) :
    ∃ W : Nat → Nat → St → Hp → Prop, (∃ m, W 0 m σ H) ∧ ∀ i m σ H, W i m σ H →
      ((IteT K a).stop i H ∧ D.nx σ H) ∨ ((IteT K a).go i H ∧ ∃ N : St → Hp → Prop, (∀ σ' H', N σ' H' → ∃ m', m' < m ∧ W (i + 1) m' σ' H') ∧ ∀ x H', (IteT K a).yld i H x H' → g x σ H' fun σ2 H2 => tb { D with nx := N, ct := N, bk := D.nx } σ2 H2) := by
  refine ⟨fun i m σ H => m = xs.length - i ∧ i ≤ xs.length ∧ Pv i σ H, ⟨xs.length, by simp, Nat.zero_le _, h0⟩, ?_⟩
  rintro i m σ H ⟨rfl, hi, p⟩
  have q := hl i σ H hi p
  by_cases hlt : i < xs.length
  · refine .inr ⟨⟨xs, xs[i], q, by simp [hlt]⟩, Pv (i + 1), fun σ' H' p' => ⟨xs.length - (i + 1), by omega, rfl, hlt, p'⟩, fun x H' y => ?_⟩
    obtain ⟨r, z, hr, rfl, hz, rfl⟩ := y
    exact hs i z σ H r (hz xs q) p hr
  · have e : i = xs.length := by omega
    subst e
    exact .inl ⟨⟨xs, q, Nat.le_refl _⟩, hd σ H p⟩
end L2
namespace L2
open PySem PySem.Spec PyProof.Rows
noncomputable abbrev Zp (h : Heap) (z TI TO : Addr) (f0 : Value) (f1 : Bool) : Prop := h.get? z = some { cls := .type "zip", dict := none, data := .fields #[f0, .bool f1, .bool false, .ref TI, .ref TO], slots := #[] }
noncomputable def F0 (f0 : Value) : Prop := f0 = .none ∨ ∃ T : Nat, f0 = rawInt (T : Int)
section
variable {prog : Program} {w : World} {A : Around} {E : Value → Shared → Prop} {s : Shared}
theorem alive_any {a : Addr} {Q : Option Obj → Shared → Prop} (h : Q (s.heap.get? a) s) : wpAny (model prog w) A (loadIfAlive a) Q E s := fun _ _ _ => h
theorem zp_free {z TI TO : Addr} {f0 : Value} {f1 : Bool} (hf : F0 f0) (hz : Zp s.heap z TI TO f0 f1) {Q : Bool → Shared → Prop} (h : ∀ b f1' h', Zp h' z TI TO f0 f1' → Heap.SameBut z s.heap h' → Q b { s with heap := h' }) :
    wpAny (model prog w) A (Builtin.SmallTypes.ownedTupleIsFree (.ref z)) Q E s := by
  unfold Builtin.SmallTypes.ownedTupleIsFree
  rcases hf with rfl | ⟨T, rfl⟩
  · exact wpAny_bind (wpAny_field hz rfl (x := .none) rfl (wpAny_pure (h true f1 s.heap hz (Heap.SameBut.refl ..))))
  · refine wpAny_bind (wpAny_field hz rfl (x := rawInt (T : Int)) rfl ?_)
    refine wpAny_bind (alive_any ?_)
    cases s.heap.get? (T : Int).toNat with
    | none => exact wpAny_pure (h true f1 s.heap hz (Heap.SameBut.refl ..))
    | some o =>
      show wpAny _ _ (field (.ref z) 1 >>= _) _ _ _
      refine wpAny_bind (wpAny_field hz rfl (x := .bool f1) rfl ?_)
      cases f1 with
      | true => exact wpAny_pure (h false true s.heap hz (Heap.SameBut.refl ..))
      | false =>
        show wpAny _ _ (setField (.ref z) 1 (.bool true) >>= _) _ _ _
        exact wpAny_bind (wpAny_setField_rec hz (by simp) fun h1 hz1 sb => wpAny_pure (h false true h1 hz1 sb))
theorem zpn_item {z TI TO i1 i2 l1 l2 : Addr} {k1 k2 : Nat} {f0 : Value} {f1 : Bool} {xs ys : Array Value} {x y a b : Value} {Q : Value → Shared → Prop} (D : ZipApart z TI TO i1 i2 l1 l2) (hf : F0 f0)
    (hz : Zp s.heap z TI TO f0 f1) (hTI : IsPair s.heap TI (.ref i1) (.ref i2)) (hTO : IsPair s.heap TO a b)
    (h1 : s.heap.IsListIter i1 l1 k1) (h2 : s.heap.IsListIter i2 l2 k2) (hl1 : s.heap.IsList l1 xs) (hl2 : s.heap.IsList l2 ys) (hx : xs[k1]? = some x) (hy : ys[k2]? = some y)
    (hQ : ∀ h' f0' f1', F0 f0' → Zp h' z TI TO f0' f1' → (∃ a b, IsPair h' TO a b) → h'.IsListIter i1 l1 (k1 + 1) → h'.IsListIter i2 l2 (k2 + 1) → IsPair h' s.heap.objs.size x y →
      (∀ c o, c ≠ z → c ≠ TO → c ≠ i1 → c ≠ i2 → s.heap.get? c = some o → h'.get? c = some o) → Q (.ref s.heap.objs.size) { s with heap := h' }) :
    wpAny (model prog w) A (Builtin.«zip.__next__» ⟨[.ref z], []⟩) (fun fin s' => ∃ v, fin = .done (.ret v) ∧ Q v s') E s := by
  show wpAny _ _ (field (.ref z) 2 >>= _) _ _ _
  refine wpAny_bind (wpAny_field hz rfl (x := .bool false) rfl ?_)
  show wpAny _ _ (field (.ref z) 3 >>= _) _ _ _
  refine wpAny_bind (wpAny_field hz rfl (x := .ref TI) rfl (wpAny_bind (wpAny_seqItems hTI rfl ?_)))
  refine wpAny_bind (zp_free hf hz fun own f1' g0 hz0 sb0 => ?_)
  have sz0 : g0.objs.size = s.heap.objs.size := sb0.1
  cases own with
  | true =>
    simp only [if_true]
    refine wpAny_bind (wpAny_rule ?_)
    refine wpAny_bind (wpAny_field (s := { s with heap := g0 }) hz0 rfl (x := .ref TO) rfl ?_)
    refine wpAny_bind (wpAny_setField_rec (s := { s with heap := g0 }) hz0 (by simp) fun g1 hz1 sb1 => ?_)
    replace hz1 : Zp g1 z TI TO .ellipsis f1' := hz1
    refine wpAny_bind ?_
    simp only [List.zipIdx_cons, List.zipIdx_nil, List.forIn_cons, List.forIn_nil]
    refine wpAny_bind (wpAny_bind (wpAny_onRaise ?_))
    show wpAny _ _ (Builtin.SmallTypes.nextOf (.ref i1) >>= _) _ _ _
    have up1 : ∀ c o, c ≠ z → s.heap.get? c = some o → g1.get? c = some o := fun c o n e => sb1.extBut _ _ n (sb0.extBut _ _ n e)
    refine wpAny_bind (wpAny_nextOf_list_item (h1.at fun o e => up1 _ o D.i1z e) (hl1.at fun o e => up1 _ o D.l1z e) hx fun g2 j1 sb2 => wpAny_pure ?_)
    have hTO2 : IsPair g2 TO a b := sb2.extBut _ _ D.TOi1 (up1 _ _ D.TOz hTO)
    refine wpAny_bind (wpAny_seqItems hTO2 rfl (wpAny_bind (wpAny_updateSeq_pair hTO2 fun g3 hTO3 sb3 => ?_)))
    replace hTO3 : IsPair g3 TO x b := hTO3
    refine wpAny_bind (wpAny_letGo (wpAny_pure (wpAny_bind (wpAny_bind (wpAny_onRaise ?_)))))
    show wpAny _ _ (Builtin.SmallTypes.nextOf (.ref i2) >>= _) _ _ _
    have up3 : ∀ c o, c ≠ z → c ≠ i1 → c ≠ TO → s.heap.get? c = some o → g3.get? c = some o := fun c o n1 n2 n3 e => sb3.extBut _ _ n3 (sb2.extBut _ _ n2 (up1 _ _ n1 e))
    refine wpAny_bind (wpAny_nextOf_list_item (h2.at fun o e => up3 _ o D.i2z D.i12.symm D.TOi2.symm e) (hl2.at fun o e => up3 _ o D.l2z D.l2i1 D.l2TO e) hy fun g4 j2 sb4 => wpAny_pure ?_)
    have hTO4 : IsPair g4 TO x b := sb4.extBut _ _ D.TOi2 hTO3
    refine wpAny_bind (wpAny_seqItems hTO4 rfl (wpAny_bind (wpAny_updateSeq_pair hTO4 fun g5 hTO5 sb5 => ?_)))
    replace hTO5 : IsPair g5 TO x y := hTO5
    refine wpAny_bind (wpAny_letGo (wpAny_pure (wpAny_pure ?_)))
    refine wpAny_bind (wpAny_seqItems hTO5 rfl (wpAny_bind (wpAny_newTuple ?_)))
    have hsz : g5.objs.size = s.heap.objs.size := by rw [sb5.1, sb4.1, sb3.1, sb2.1, sb1.1, sz0]
    have hz5 : Zp g5 z TI TO .ellipsis f1' := sb5.extBut _ _ D.TOz.symm (sb4.extBut _ _ D.i2z.symm (sb3.extBut _ _ D.TOz.symm (sb2.extBut _ _ D.i1z.symm hz1)))
    have j15 : g5.IsListIter i1 l1 (k1 + 1) := j1.at fun o e => sb5.extBut _ _ D.TOi1.symm (sb4.extBut _ _ D.i12 (sb3.extBut _ _ D.TOi1.symm e))
    have j25 : g5.IsListIter i2 l2 (k2 + 1) := j2.at fun o e => sb5.extBut _ _ D.TOi2.symm e
    have hk5 : ∀ c o, c ≠ z → c ≠ TO → c ≠ i1 → c ≠ i2 → s.heap.get? c = some o → g5.get? c = some o := fun c o c1 c2 c3 c4 e => sb5.extBut _ _ c2 (sb4.extBut _ _ c4 (up3 _ _ c1 c3 c2 e))
    have hzlt : z < g5.objs.size := Heap.lt_size hz5
    show wpAny _ _ (Builtin.SmallTypes.ownedTupleHandOut (.ref z) (.ref g5.objs.size) >>= _) _ _ _
    refine wpAny_bind ?_
    unfold Builtin.SmallTypes.ownedTupleHandOut
    have hz6 : Zp (g5.push { cls := .type "tuple", data := .seq #[x, y] }) z TI TO .ellipsis f1' := Heap.get?_push_of_some _ hz5
    refine wpAny_bind (wpAny_setField_rec hz6 (by simp) fun g7 hz7 sb7 => ?_)
    replace hz7 : Zp g7 z TI TO (rawInt g5.objs.size) f1' := hz7
    refine wpAny_setField_rec hz7 (by simp) fun g8 hz8 sb8 => ?_
    replace hz8 : Zp g8 z TI TO (rawInt g5.objs.size) false := hz8
    have up : ∀ c o, c ≠ z → g5.get? c = some o → g8.get? c = some o := fun c o c1 e => sb8.extBut _ _ c1 (sb7.extBut _ _ c1 (Heap.get?_push_of_some _ e))
    have hT8 : IsPair g8 g5.objs.size x y := sb8.extBut _ _ (Nat.ne_of_gt hzlt) (sb7.extBut _ _ (Nat.ne_of_gt hzlt) (Heap.get?_push_size _ rfl))
    refine wpAny_pure ⟨_, rfl, ?_⟩
    show Q (.ref g5.objs.size) _
    rw [hsz] at hz8 hT8 ⊢
    exact hQ g8 _ _ (.inr ⟨_, rfl⟩) hz8 ⟨x, y, up _ _ D.TOz hTO5⟩ (j15.at fun o e => up _ o D.i1z e) (j25.at fun o e => up _ o D.i2z e) hT8 fun c o c1 c2 c3 c4 e => up c o c1 (hk5 c o c1 c2 c3 c4 e)
  | false =>
    simp only [Bool.false_eq_true, if_false]
    refine wpAny_bind ?_
    rw [← Array.forIn_toList]
    simp only [List.forIn_cons, List.forIn_nil]
    refine wpAny_bind (wpAny_bind (wpAny_holding ?_))
    show wpAny _ _ (Builtin.SmallTypes.nextOf (.ref i1) >>= _) _ _ _
    have up1 : ∀ c o, c ≠ z → s.heap.get? c = some o → g0.get? c = some o := fun c o n e => sb0.extBut _ _ n e
    refine wpAny_bind (wpAny_nextOf_list_item (s := { s with heap := g0 }) (h1.at fun o e => up1 _ o D.i1z e) (hl1.at fun o e => up1 _ o D.l1z e) hx fun g2 j1 sb2 => wpAny_pure ?_)
    replace sb2 : Heap.SameBut i1 g0 g2 := sb2
    refine wpAny_pure (wpAny_bind (wpAny_bind (wpAny_holding ?_)))
    show wpAny _ _ (Builtin.SmallTypes.nextOf (.ref i2) >>= _) _ _ _
    have up2 : ∀ c o, c ≠ z → c ≠ i1 → s.heap.get? c = some o → g2.get? c = some o := fun c o n1 n2 e => sb2.extBut _ _ n2 (up1 _ _ n1 e)
    refine wpAny_bind (wpAny_nextOf_list_item (h2.at fun o e => up2 _ o D.i2z D.i12.symm e) (hl2.at fun o e => up2 _ o D.l2z D.l2i1 e) hy fun g4 j2 sb4 => wpAny_pure ?_)
    replace sb4 : Heap.SameBut i2 g2 g4 := sb4
    refine wpAny_pure (wpAny_pure ?_)
    show wpAny _ _ (newTuple [x, y] >>= _) _ _ _
    refine wpAny_bind (wpAny_newTuple (wpAny_pure ⟨_, rfl, ?_⟩))
    have hsz : g4.objs.size = s.heap.objs.size := by rw [sb4.1, sb2.1, sz0]
    show Q (.ref g4.objs.size) _
    have pu : ∀ c o, g4.get? c = some o → (g4.push { cls := .type "tuple", data := .seq #[x, y] }).get? c = some o := fun c o e => Heap.get?_push_of_some _ e
    have hT8 : IsPair (g4.push { cls := .type "tuple", data := .seq #[x, y] }) g4.objs.size x y := Heap.get?_push_size _ rfl
    rw [hsz] at hT8 ⊢
    exact hQ _ _ _ hf (pu _ _ (sb4.extBut _ _ D.i2z.symm (sb2.extBut _ _ D.i1z.symm hz0))) ⟨a, b, pu _ _ (sb4.extBut _ _ D.TOi2 (up2 _ _ D.TOz D.TOi1 hTO))⟩ (j1.at fun o e => pu _ o (sb4.extBut _ _ D.i12 e)) (j2.at fun o e => pu _ o e) hT8 fun c o c1 c2 c3 c4 e => pu _ _ (sb4.extBut _ _ c4 (up2 _ _ c1 c3 e))
theorem zpn_end {z TI TO i1 i2 l1 l2 : Addr} {k1 k2 : Nat} {f0 : Value} {f1 : Bool} {xs ys : Array Value} {a b : Value} {Q : Fin → Shared → Prop} (hh : A.handled = none) (D : ZipApart z TI TO i1 i2 l1 l2) (hf : F0 f0)
    (hz : Zp s.heap z TI TO f0 f1) (hTI : IsPair s.heap TI (.ref i1) (.ref i2)) (hTO : IsPair s.heap TO a b)
    (h1 : s.heap.IsListIter i1 l1 k1) (h2 : s.heap.IsListIter i2 l2 k2) (hl1 : s.heap.IsList l1 xs) (hl2 : s.heap.IsList l2 ys) (hend : xs[k1]? = none ∨ ys[k2]? = none)
    (hE : ∀ h' e, (∀ c o, c ≠ z → c ≠ TO → c ≠ i1 → c ≠ i2 → s.heap.get? c = some o → h'.get? c = some o) → (∃ o, h'.get? e = some o ∧ o.cls = .type "StopIteration") → E (.ref e) { s with heap := h' }) :
    wpAny (model prog w) A (Builtin.«zip.__next__» ⟨[.ref z], []⟩) Q E s := by
  show wpAny _ _ (field (.ref z) 2 >>= _) _ _ _
  refine wpAny_bind (wpAny_field hz rfl (x := .bool false) rfl ?_)
  show wpAny _ _ (field (.ref z) 3 >>= _) _ _ _
  refine wpAny_bind (wpAny_field hz rfl (x := .ref TI) rfl (wpAny_bind (wpAny_seqItems hTI rfl ?_)))
  refine wpAny_bind (zp_free hf hz fun own f1' g0 hz0 sb0 => ?_)
  cases own with
  | true =>
    simp only [if_true]
    refine wpAny_bind (wpAny_rule ?_)
    refine wpAny_bind (wpAny_field (s := { s with heap := g0 }) hz0 rfl (x := .ref TO) rfl ?_)
    refine wpAny_bind (wpAny_setField_rec (s := { s with heap := g0 }) hz0 (by simp) fun g1 hz1 sb1 => ?_)
    replace hz1 : Zp g1 z TI TO .ellipsis f1' := hz1
    refine wpAny_bind ?_
    simp only [List.zipIdx_cons, List.zipIdx_nil, List.forIn_cons, List.forIn_nil]
    refine wpAny_bind (wpAny_bind (wpAny_onRaise ?_))
    show wpAny _ _ (Builtin.SmallTypes.nextOf (.ref i1) >>= _) _ _ _
    have up1 : ∀ c o, c ≠ z → s.heap.get? c = some o → g1.get? c = some o := fun c o n e => sb1.extBut _ _ n (sb0.extBut _ _ n e)
    cases hx : xs[k1]? with
    | none =>
      refine wpAny_bind (wpAny_nextOf_list_end hh (h1.at fun o e => up1 _ o D.i1z e) (hl1.at fun o e => up1 _ o D.l1z e) hx fun g2 e sb2 he => ?_)
      obtain ⟨oe, hoe, hce⟩ := he
      have hz2 : Zp g2 z TI TO .ellipsis f1' := sb2 _ _ D.i1z.symm hz1
      have hez : e ≠ z := fun q => by subst q; rw [hz2] at hoe; cases hoe; simp at hce
      exact wpAny_setField_rec hz2 (by simp) fun g3 _ sb3 => hE g3 e (fun c o c1 _ c3 _ q => sb3.extBut _ _ c1 (sb2 _ _ c3 (up1 _ _ c1 q))) ⟨oe, sb3.extBut _ _ hez hoe, hce⟩
    | some x =>
      have hy : ys[k2]? = none := by rcases hend with q | q; rw [hx] at q; cases q; exact q
      refine wpAny_bind (wpAny_nextOf_list_item (h1.at fun o e => up1 _ o D.i1z e) (hl1.at fun o e => up1 _ o D.l1z e) hx fun g2 j1 sb2 => wpAny_pure ?_)
      have hTO2 : IsPair g2 TO a b := sb2.extBut _ _ D.TOi1 (up1 _ _ D.TOz hTO)
      refine wpAny_bind (wpAny_seqItems hTO2 rfl (wpAny_bind (wpAny_updateSeq_pair hTO2 fun g3 hTO3 sb3 => ?_)))
      refine wpAny_bind (wpAny_letGo (wpAny_pure (wpAny_bind (wpAny_bind (wpAny_onRaise ?_)))))
      show wpAny _ _ (Builtin.SmallTypes.nextOf (.ref i2) >>= _) _ _ _
      have up3 : ∀ c o, c ≠ z → c ≠ i1 → c ≠ TO → s.heap.get? c = some o → g3.get? c = some o := fun c o n1 n2 n3 e => sb3.extBut _ _ n3 (sb2.extBut _ _ n2 (up1 _ _ n1 e))
      refine wpAny_bind (wpAny_nextOf_list_end hh (h2.at fun o e => up3 _ o D.i2z D.i12.symm D.TOi2.symm e) (hl2.at fun o e => up3 _ o D.l2z D.l2i1 D.l2TO e) hy fun g4 e sb4 he => ?_)
      obtain ⟨oe, hoe, hce⟩ := he
      have hz4 : Zp g4 z TI TO .ellipsis f1' := sb4 _ _ D.i2z.symm (sb3.extBut _ _ D.TOz.symm (sb2.extBut _ _ D.i1z.symm hz1))
      have hez : e ≠ z := fun q => by subst q; rw [hz4] at hoe; cases hoe; simp at hce
      exact wpAny_setField_rec hz4 (by simp) fun g5 _ sb5 => hE g5 e (fun c o c1 c2 c3 c4 q => sb5.extBut _ _ c1 (sb4 _ _ c4 (up3 _ _ c1 c3 c2 q))) ⟨oe, sb5.extBut _ _ hez hoe, hce⟩
  | false =>
    simp only [Bool.false_eq_true, if_false]
    refine wpAny_bind ?_
    rw [← Array.forIn_toList]
    simp only [List.forIn_cons, List.forIn_nil]
    refine wpAny_bind (wpAny_bind (wpAny_holding ?_))
    show wpAny _ _ (Builtin.SmallTypes.nextOf (.ref i1) >>= _) _ _ _
    have up1 : ∀ c o, c ≠ z → s.heap.get? c = some o → g0.get? c = some o := fun c o n e => sb0.extBut _ _ n e
    cases hx : xs[k1]? with
    | none =>
      refine wpAny_bind (wpAny_nextOf_list_end (s := { s with heap := g0 }) hh (h1.at fun o e => up1 _ o D.i1z e) (hl1.at fun o e => up1 _ o D.l1z e) hx fun g2 e sb2 he => ?_)
      exact hE g2 e (fun c o c1 _ c3 _ q => sb2 _ _ c3 (up1 _ _ c1 q)) he
    | some x =>
      have hy : ys[k2]? = none := by rcases hend with q | q; rw [hx] at q; cases q; exact q
      refine wpAny_bind (wpAny_nextOf_list_item (s := { s with heap := g0 }) (h1.at fun o e => up1 _ o D.i1z e) (hl1.at fun o e => up1 _ o D.l1z e) hx fun g2 j1 sb2 => wpAny_pure ?_)
      replace sb2 : Heap.SameBut i1 g0 g2 := sb2
      refine wpAny_pure (wpAny_bind (wpAny_bind (wpAny_holding ?_)))
      show wpAny _ _ (Builtin.SmallTypes.nextOf (.ref i2) >>= _) _ _ _
      have up2 : ∀ c o, c ≠ z → c ≠ i1 → s.heap.get? c = some o → g2.get? c = some o := fun c o n1 n2 e => sb2.extBut _ _ n2 (up1 _ _ n1 e)
      refine wpAny_bind (wpAny_nextOf_list_end hh (h2.at fun o e => up2 _ o D.i2z D.i12.symm e) (hl2.at fun o e => up2 _ o D.l2z D.l2i1 e) hy fun g4 e sb4 he => ?_)
      exact hE g4 e (fun c o c1 c2 c3 c4 q => sb4 _ _ c4 (up2 _ _ c1 c3 q)) he
end
end L2
namespace L2
open PySem PySem.Spec PyProof.Rows
theorem zip_next_typed {prog : Program} {w : World} {A : Around} {E : Value → Shared → Prop} {s : Shared} {z : Addr} {Q : Option Value → Shared → Prop} (hT : s.TypeIs (.ref z) "zip")
    (h : wpAny (model prog w) A.in1 (Builtin.«zip.__next__» ⟨[.ref z], []⟩) (fun fin s' => ∃ v, fin = .done (.ret v) ∧ Q (some v) s') (fun e s' => (∃ o, s'.heap.get? (match e with | .ref a => a | _ => 0) = some o ∧ o.cls = .type "StopIteration") ∧ (∃ a, e = .ref a) ∧ Q none s') s) :
    wpAny (model prog w) A (pyNext (.ref z)) Q E s := by
  unfold pyNext
  refine wpAny_bind (wpAny_attempt (wpAny_callSpecial?_slot (name := Str.ofString "__next__") hT F.slot_zip_next (wpAny_call_entry F.slot_zip_next hT F.entry_zip_next (wpAny_mono h (fun fin s' ⟨v, e, q⟩ => ⟨v, e, wpAny_pure q⟩) fun e s' q => ?_) (F.args_zip_next_1 _))))
  obtain ⟨⟨o, ho, hc⟩, ⟨a, rfl⟩, q⟩ := q
  exact wpAny_bind (wpAny_isInstance (T := "StopIteration") (b := true) ⟨o, ho, hc⟩ isSubtype_stop (wpAny_pure q))
noncomputable def Itz (K : PySem.W.Frag) (a b : Addr) : It :=
  ⟨fun i H => ∃ xs ys x y, SqL K H a xs ∧ SqL K H b ys ∧ xs[i]? = some x ∧ ys[i]? = some y,
   fun i H v H' => ∃ p x y, H p = none ∧ v = .ref p ∧ (∀ xs, SqL K H a xs → xs[i]? = some x) ∧ (∀ ys, SqL K H b ys → ys[i]? = some y) ∧ H' = upd H p (.tup [x, y]),
   fun i H => ∃ xs ys, SqL K H a xs ∧ SqL K H b ys ∧ (xs.length ≤ i ∨ ys.length ≤ i)⟩
theorem turn_zip {P : Program} {w : World} {K : PySem.W.Frag} {nm : Str} {tp : Pos} (a b z TI TO i1 i2 : Addr) (D : ZipApart z TI TO i1 i2 a b) :
    Turn P w K (.Name nm tp) (Itz K a b) [z, TI, TO, i1, i2] z (fun i h => (∃ f0 f1, F0 f0 ∧ Zp h z TI TO f0 f1) ∧ IsPair h TI (.ref i1) (.ref i2) ∧ (∃ c d, IsPair h TO c d) ∧ h.IsListIter i1 a i ∧ h.IsListIter i2 b i) where
  mem := by simp
  obj := fun i h st c hc => by
    obtain ⟨⟨f0, f1, _, hz⟩, hTI, ⟨u, v, hTO⟩, ⟨o1, e1, _, d1⟩, ⟨o2, e2, _, d2⟩⟩ := st
    have hc : c = z ∨ c = TI ∨ c = TO ∨ c = i1 ∨ c = i2 := by simpa using hc
    rcases hc with rfl | rfl | rfl | rfl | rfl
    · exact ⟨_, hz, fun v q => by cases q⟩
    · exact ⟨_, hTI, fun v q => by cases q⟩
    · exact ⟨_, hTO, fun v q => by cases q⟩
    · exact ⟨_, e1, fun v q => by rw [d1] at q; cases q⟩
    · exact ⟨_, e2, fun v q => by rw [d2] at q; cases q⟩
  keep := fun i h h' st k => by
    obtain ⟨⟨f0, f1, hf, hz⟩, hTI, ⟨u, v, hTO⟩, h1, h2⟩ := st
    exact ⟨⟨f0, f1, hf, k z (by simp) _ hz⟩, k TI (by simp) _ hTI, ⟨u, v, k TO (by simp) _ hTO⟩, h1.at fun o e => k i1 (by simp) o e, h2.at fun o e => k i2 (by simp) o e⟩
  item := by
    intro X hP hw hK hc i pins s σ H E I hf st hg
    subst hP hw hK
    obtain ⟨⟨f0, f1, hf0, hz⟩, hTI, ⟨ta, tb, hTO⟩, h1, h2⟩ := st
    obtain ⟨xs, ys, x, y, hqa, hqb, hx, hy⟩ := hg
    obtain ⟨its, rv, pa, _⟩ := I.list hqa
    obtain ⟨jts, rw', pb, _⟩ := I.list hqb
    obtain ⟨u, hu, ru⟩ := rv.get hx
    obtain ⟨v, hv, rv'⟩ := rw'.get hy
    refine zip_next_typed ⟨_, hz, rfl⟩ (zpn_item D hf0 hz hTI hTO h1 h2 pa.isList pb.isList (x := u) (y := v) (by simpa using hu) (by simpa using hv) fun h' f0' f1' hf' hz' hTO' j1 j2 hpr k => ⟨_, rfl, ?_⟩)
    refine wpAny_pure (s := { s with heap := h' }) ?_
    have hp : H s.heap.objs.size = none := I.hok.fresh (Nat.le_refl _)
    have fr : ∀ c ∈ [z, TI, TO, i1, i2], H c = none := fun c hc => (hf c hc).1
    have nit : ∀ c o, H c = some o → c ≠ z ∧ c ≠ TO ∧ c ≠ i1 ∧ c ≠ i2 := fun c o q => by
      refine ⟨?_, ?_, ?_, ?_⟩ <;> (intro e; rw [e, fr _ (by simp)] at q; cases q)
    have up : ∀ c o, H c = some o → upd H s.heap.objs.size (.tup [x, y]) c = some o := fun c o q => by rw [upd_ne (ne_of_none q hp)]; exact q
    have kk : ∀ c o, c ∉ [z, TO, i1, i2] → s.heap.get? c = some o → h'.get? c = some o := fun c o n q => k c o (fun e => n (by simp [e])) (fun e => n (by simp [e])) (fun e => n (by simp [e])) (fun e => n (by simp [e])) q
    have mem5 : ∀ c ∈ [z, TO, i1, i2], c ∈ [z, TI, TO, i1, i2] := fun c hc => by simp at hc ⊢; rcases hc with e | e | e | e <;> simp [e]
    have hlt : ∀ c ∈ [z, TI, TO, i1, i2], c < s.heap.objs.size := fun c hc => by
      have hc : c = z ∨ c = TI ∨ c = TO ∨ c = i1 ∨ c = i2 := by simpa using hc
      rcases hc with rfl | rfl | rfl | rfl | rfl
      · exact Heap.lt_size hz
      · exact Heap.lt_size hTI
      · exact Heap.lt_size hTO
      · obtain ⟨o, e, _⟩ := h1; exact Heap.lt_size e
      · obtain ⟨o, e, _⟩ := h2; exact Heap.lt_size e
    have I1 : Inv X pins σ (upd H s.heap.objs.size (.tup [x, y])) { s with heap := h', gens := s.gens, drawn := s.drawn, toks := s.toks } := by
      refine I.step (g' := s.gens) (d' := s.drawn) (ch := [z, TO, i1, i2]) (fun c hc => ?_) (fun c o _ _ n q _ => kk c o n q) (fun c o _ _ n q _ => ⟨o.slots, kk c o n q⟩) (fun c o _ q n => ?_) (fun c o n q => ⟨o, kk c o n q⟩) (fun c ys q => up c _ q) (fun c o v q => up c _ q) (fun c ps q => ⟨#[], by rw [up c _ q]; simp⟩) (fun m hm => ?_) (fun c o q => ?_) I.bare
      · obtain ⟨_, g1, _, g3, g4, g5⟩ := hf c (mem5 c hc)
        exact ⟨g3, g1, g4, g5⟩
      · rw [upd_ne (Nat.ne_of_lt (Heap.lt_size q))]; exact n
      · obtain ⟨o, es, ep, ho, r⟩ := hm
        refine ⟨o, es, ep, kk _ o (fun n => ?_) ho, r⟩
        exact (hf _ (mem5 _ n)).2.1 rfl
      · by_cases hb : c = s.heap.objs.size
        · subst hb
          rw [upd_same] at q
          have q' : HO.tup [x, y] = o := Option.some.inj q
          subst q'
          exact ⟨by show 2 ≤ sizeLine; decide, [u, v], .cons ru (.cons rv' .nil), ⟨_, hpr, rfl, _, rfl, rfl⟩⟩
        · rw [upd_ne hb] at q
          refine (I.hok c o q).stay (fun d o' hd q' => ?_) (fun d q => up d _ q) fun d ys q => up d _ q
          rcases hd with e | e
          · rw [e] at q' ⊢; obtain ⟨n1, n2, n3, n4⟩ := nit c o q; exact k c o' n1 n2 n3 n4 q'
          · obtain ⟨n1, n2, n3, n4⟩ := nit d _ e; exact k d o' n1 n2 n3 n4 q'
    refine ⟨.ref s.heap.objs.size, upd H s.heap.objs.size (.tup [x, y]), I1, rfl, ⟨_, x, y, hp, rfl, fun zs hz => by rw [I.list_inj hz hqa]; exact hx, fun zs hz => by rw [I.list_inj hz hqb]; exact hy, rfl⟩, ⟨⟨f0', f1', hf', hz'⟩, ?_, hTO', j1, j2⟩, fun c hc => ?_⟩
    · exact k TI _ D.TIz D.TITO D.TIi1 D.TIi2 hTI
    · rw [upd_ne (Nat.ne_of_lt (hlt c hc))]; exact fr c hc
  done := by
    intro X hP hw hK hc i pins s σ H E I hf st hg
    subst hP hw hK
    obtain ⟨⟨f0, f1, hf0, hz⟩, hTI, ⟨ta, tb, hTO⟩, h1, h2⟩ := st
    obtain ⟨xs, ys, hqa, hqb, hxy⟩ := hg
    obtain ⟨its, rv, pa, _⟩ := I.list hqa
    obtain ⟨jts, rw', pb, _⟩ := I.list hqb
    have l1 := rv.length
    have l2 := rw'.length
    have hend : its.toArray[i]? = none ∨ jts.toArray[i]? = none := by
      rcases hxy with q | q
      · exact .inl (by simp; omega)
      · exact .inr (by simp; omega)
    refine zip_next_typed ⟨_, hz, rfl⟩ (zpn_end (A := X.A.in1) (show X.A.in1.handled = none from I.ok.hd hc) D hf0 hz hTI hTO h1 h2 pa.isList pb.isList hend fun h' e k he => ⟨he, ⟨e, rfl⟩, rfl, ?_⟩)
    have fr : ∀ c ∈ [z, TI, TO, i1, i2], H c = none := fun c hc => (hf c hc).1
    have nit : ∀ c o, H c = some o → c ≠ z ∧ c ≠ TO ∧ c ≠ i1 ∧ c ≠ i2 := fun c o q => by
      refine ⟨?_, ?_, ?_, ?_⟩ <;> (intro e; rw [e, fr _ (by simp)] at q; cases q)
    have kk : ∀ c o, c ∉ [z, TO, i1, i2] → s.heap.get? c = some o → h'.get? c = some o := fun c o n q => k c o (fun e => n (by simp [e])) (fun e => n (by simp [e])) (fun e => n (by simp [e])) (fun e => n (by simp [e])) q
    have mem5 : ∀ c ∈ [z, TO, i1, i2], c ∈ [z, TI, TO, i1, i2] := fun c hc => by simp at hc ⊢; rcases hc with e | e | e | e <;> simp [e]
    refine I.step (h' := h') (g' := s.gens) (d' := s.drawn) (t' := s.toks) (ch := [z, TO, i1, i2]) (fun c hc => ?_) (fun c o _ _ n q _ => kk c o n q) (fun c o _ _ n q _ => ⟨o.slots, kk c o n q⟩) (fun c o _ q n => n) (fun c o n q => ⟨o, kk c o n q⟩) (fun c ys q => q) (fun c o v q => q) (fun c ps q => ⟨#[], by rw [q]; simp⟩) (fun m hm => ?_) (fun c o q => ?_) I.bare
    · obtain ⟨_, g1, _, g3, g4, g5⟩ := hf c (mem5 c hc)
      exact ⟨g3, g1, g4, g5⟩
    · obtain ⟨o, es, ep, ho, r⟩ := hm
      refine ⟨o, es, ep, kk _ o (fun n => ?_) ho, r⟩
      exact (hf _ (mem5 _ n)).2.1 rfl
    · refine (I.hok c o q).stay (fun d o' hd q' => ?_) (fun d q => q) fun d ys q => q
      rcases hd with e | e
      · rw [e] at q' ⊢; obtain ⟨n1, n2, n3, n4⟩ := nit c o q; exact k c o' n1 n2 n3 n4 q'
      · obtain ⟨n1, n2, n3, n4⟩ := nit d _ e; exact k d o' n1 n2 n3 n4 q'
  self := fun A i s Q E st h => by
    obtain ⟨⟨f0, f1, hf0, hz⟩, _⟩ := st
    have hT : s.TypeIs (.ref z) "zip" := ⟨_, hz, rfl⟩
    refine wpAny_pyIter_slot hT F.slot_zip_iter (wpAny_call_entry F.slot_zip_iter hT F.entry_zip_iter ?_ (F.args_zip_iter_1 _))
    show wpAny _ _ (ret (.ref z)) _ _ s
    exact wpAny_pure ⟨_, rfl, "zip", _, hT, F.slot_zip_next.lookup, h⟩
noncomputable def iZip (K : PySem.W.Frag) (ta : TA) : TI := fun σ H R => ta σ H fun vs H1 => ∃ a b xs ys, vs = [.ref a, .ref b] ∧ SqL K H1 a xs ∧ SqL K H1 b ys ∧ R (Itz K a b) H1
theorem pi_zip (K : PySem.W.Frag) {X : Cx} {nm : Str} {tp : Pos} {a b : Expr} {ta : TA} {p pos : Pos} (hg : Gl X "zip") (hm : X.mg "zip" = none) (ha : PA X [a, b] ta) (hs : starEach [a, b] X.env = (false, eval a X.env) :: starEach [b] X.env := by rfl) (hpl : (backTo pos (starEach [b] X.env)).any (·.1) = false := by rfl) (hK : X.K = K := by rfl) :
    PI X (.Name nm tp) (.Call (.Name "zip" p) [a, b] [] pos) (iZip K ta) := by
  subst hK
  intro pins s σ H R I h
  refine Call_ (ld_blt I hg hm (show bootBuiltins "zip" = some (.type "zip") by decide +kernel) (PyProof.Rows.callWith_type1 (thn (ha pos pins s σ H _ I h) fun us s1 ⟨vs, H1, I1, r1, q1⟩ => ?_) hs hpl))
  obtain ⟨l1, l2, xs, ys, e, hqa, hqb, q⟩ := q1
  subst e
  obtain ⟨u1, u2, rfl, r1, r2⟩ := vals2 r1
  cases r1
  cases r2
  obtain ⟨its, rv, pa, _⟩ := I1.list hqa
  obtain ⟨jts, rw', pb, _⟩ := I1.list hqb
  have a1 : l1 < s1.heap.objs.size := by obtain ⟨_, e, _⟩ := pa.isList; exact Heap.lt_size e
  have a2 : l2 < s1.heap.objs.size := by obtain ⟨_, e, _⟩ := pb.isList; exact Heap.lt_size e
  refine call_zip_2 pa.isList pb.isList fun h' hz hTI hTO hi1 hi2 _ hk => ?_
  have T := turn_zip (P := X.prog) (w := X.w) (K := X.K) (nm := nm) (tp := tp) l1 l2 _ _ _ _ _ (zipApart_new a1 a2)
  have t0 : (∃ f0 f1, F0 f0 ∧ Zp h' (s1.heap.objs.size + 4) (s1.heap.objs.size + 2) (s1.heap.objs.size + 3) f0 f1) ∧ IsPair h' (s1.heap.objs.size + 2) (.ref s1.heap.objs.size) (.ref (s1.heap.objs.size + 1)) ∧ (∃ c d, IsPair h' (s1.heap.objs.size + 3) c d) ∧ h'.IsListIter s1.heap.objs.size l1 0 ∧ h'.IsListIter (s1.heap.objs.size + 1) l2 0 := ⟨⟨_, _, .inl rfl, hz⟩, hTI, ⟨_, _, hTO⟩, hi1, hi2⟩
  refine T.self X.A 0 { s1 with heap := h' } _ _ t0 ?_
  refine ⟨_, _, _, _, H1, rfl, I1.kept (t' := s1.toks) hk, T, t0, fun b hb => ?_, q⟩
  have hb : b = s1.heap.objs.size + 4 ∨ b = s1.heap.objs.size + 2 ∨ b = s1.heap.objs.size + 3 ∨ b = s1.heap.objs.size ∨ b = s1.heap.objs.size + 1 := by simpa using hb
  have hle : s1.heap.objs.size ≤ b := by rcases hb with e | e | e | e | e <;> rw [e] <;> first | exact Nat.le_refl _ | exact Nat.le_add_right _ _
  exact I1.fpOk hle (I1.hok.fresh hle)
theorem comp_zip {K : PySem.W.Frag} {k : Nat} {fr : List Nat} {g : TG} {tc : TT} {te : TE} {σ : St} {H1 : Hp} {Q : VK} {a b : Addr} (xs ys : List V) (Pv : Addr → Nat → List V → St → Hp → Prop)
    (h : ∀ D, H1 D = none → Pv D 0 [] (inSt k fr σ) (upd H1 D (.lst [])) ∧ (∀ i acc σ' H', i ≤ (xs.zip ys).length → Pv D i acc σ' H' → H' D = some (.lst acc) → SqL K H' a xs ∧ SqL K H' b ys) ∧
      (∀ i acc σ' H' x y p, (xs.zip ys)[i]? = some (x, y) → Pv D i acc σ' H' → H' D = some (.lst acc) → H' p = none → g (.ref p) σ' (upd H' p (.tup [x, y])) fun σ2 H3 => tc σ2 H3 fun b H4 =>
        if b = true then te σ2 H4 fun y H5 => H5 D = some (.lst acc) ∧ acc.length < sizeLine ∧ Pv D (i + 1) (acc ++ [y]) σ2 (upd H5 D (.lst (acc ++ [y]))) else H4 D = some (.lst acc) ∧ Pv D (i + 1) acc σ2 H4) ∧
      ∀ acc σ' H', Pv D (xs.zip ys).length acc σ' H' → H' D = some (.lst acc) → Q (.ref D) H') : tCompW k fr g tc te (Itz K a b) σ H1 Q := by
  intro D hD
  obtain ⟨h0, hok, hs, hd⟩ := h D hD
  refine ⟨fun i m acc σ' H' => m = (xs.zip ys).length - i ∧ i ≤ (xs.zip ys).length ∧ Pv D i acc σ' H', ⟨(xs.zip ys).length, by simp, Nat.zero_le _, h0⟩, ?_⟩
  rintro i m acc σ' H' ⟨rfl, hi, p⟩ hacc
  obtain ⟨oka, okb⟩ := hok i acc σ' H' hi p hacc
  have hl : (xs.zip ys).length = min xs.length ys.length := List.length_zip
  by_cases hlt : i < (xs.zip ys).length
  · refine .inr ⟨⟨xs, ys, xs[i]'(by omega), ys[i]'(by omega), oka, okb, by simp, by simp⟩, Pv D (i + 1), fun acc' σ2 H2 p' => ⟨(xs.zip ys).length - (i + 1), by omega, rfl, hlt, p'⟩, fun v H2 yl => ?_⟩
    obtain ⟨q, x, y, hq, rfl, hx, hy, rfl⟩ := yl
    refine hs i acc σ' H' x y q ?_ p hacc hq
    rw [List.getElem?_zip_eq_some]
    exact ⟨hx xs oka, hy ys okb⟩
  · have e : i = (xs.zip ys).length := by omega
    subst e
    exact .inl ⟨⟨xs, ys, oka, okb, by omega⟩, hd acc σ' H' p hacc⟩
end L2
namespace L2
open PySem PySem.Spec PyProof.Rows
inductive Thg (H : Hp) : V → Prop
  | non : Thg H .non
  | bl (b : Bool) : Thg H (.bl b)
  | int (i : Int) : Thg H (.int i)
  | str {z : Str} : z.length ≤ sizeLine → Thg H (.str z)
  | lst {a : Addr} {xs : List V} : H a = some (.lst xs) → Thg H (.ref a)
  | tup {a : Addr} {xs : List V} : H a = some (.tup xs) → Thg H (.ref a)
  | dK {a : Addr} {kvs : List (Key × V)} : H a = some (.dK kvs) → Thg H (.ref a)
  | dT {a : Addr} {kvs : List (List Key × V)} : H a = some (.dT kvs) → Thg H (.ref a)
theorem Thg.same {H H' : Hp} {x : V} (h : Thg H x) (s : Same H H') : Thg H' x := by
  cases h with
  | non => exact .non
  | bl b => exact .bl b
  | int i => exact .int i
  | str z => exact .str z
  | lst e => exact .lst (s _ _ e)
  | tup e => exact .tup (s _ _ e)
  | dK e => exact .dK (s _ _ e)
  | dT e => exact .dT (s _ _ e)
noncomputable def isS : V → Bool
  | .str _ => true
  | _ => false
noncomputable def isI : V → Bool
  | .int _ | .bl _ => true
  | _ => false
noncomputable def isB : V → Bool
  | .bl _ => true
  | _ => false
noncomputable def isL (H : Hp) : V → Bool
  | .ref a => match H a with
    | some (.lst _) => true
    | _ => false
  | _ => false
noncomputable def isT (H : Hp) : V → Bool
  | .ref a => match H a with
    | some (.tup _) => true
    | _ => false
  | _ => false
theorem isL_of {H : Hp} {a : Addr} {xs : List V} (e : H a = some (.lst xs)) : isL H (.ref a) = true := by show (match H a with | some (.lst _) => true | _ => false) = true; rw [e]
theorem isT_of {H : Hp} {a : Addr} {xs : List V} (e : H a = some (.tup xs)) : isT H (.ref a) = true := by show (match H a with | some (.tup _) => true | _ => false) = true; rw [e]
theorem isL_inv {H : Hp} {x : V} (h : isL H x = true) : ∃ a xs, x = .ref a ∧ H a = some (.lst xs) := by
  cases x with
  | ref a =>
    have h : (match H a with | some (.lst _) => true | _ => false) = true := h
    split at h
    · rename_i xs e; exact ⟨a, xs, rfl, e⟩
    · cases h
  | _ => cases h
theorem isL_not {H : Hp} {a : Addr} {o : HO} (e : H a = some o) (n : ∀ xs, o ≠ .lst xs) : isL H (.ref a) = false := by
  show (match H a with | some (.lst _) => true | _ => false) = false
  rw [e]; split
  · rename_i xs q; exact absurd (Option.some.inj q) (n xs)
  · rfl
theorem isT_not {H : Hp} {a : Addr} {o : HO} (e : H a = some o) (n : ∀ xs, o ≠ .tup xs) : isT H (.ref a) = false := by
  show (match H a with | some (.tup _) => true | _ => false) = false
  rw [e]; split
  · rename_i xs q; exact absurd (Option.some.inj q) (n xs)
  · rfl
theorem ty_thg {K : PySem.W.Frag} {H : Hp} {x : V} (h : Thg H x) : ∃ t, TyOf K H x t ∧ PySem.W.kitOne K t (.type "str") = some (isS x) ∧ PySem.W.kitOne K t (.type "int") = some (isI x) ∧ PySem.W.kitOne K t (.type "bool") = some (isB x) ∧
    PySem.W.kitOne K t (.type "list") = some (isL H x) ∧ PySem.W.kitOne K t (.type "tuple") = some (isT H x) := by
  cases h with
  | non => exact ⟨_, .non, by rfl, by rfl, by rfl, by rfl, by rfl⟩
  | bl b => exact ⟨_, .bl b, by rfl, by rfl, by rfl, by rfl, by rfl⟩
  | int i => exact ⟨_, .int i, by rfl, by rfl, by rfl, by rfl, by rfl⟩
  | str z => exact ⟨_, .str _, by rfl, by rfl, by rfl, by rfl, by rfl⟩
  | lst e => exact ⟨_, .lst e, by rfl, by rfl, by rfl, by rw [isL_of e]; rfl, by rw [isT_not e (fun _ z => by cases z)]; rfl⟩
  | tup e => exact ⟨_, .tup e, by rfl, by rfl, by rfl, by rw [isL_not e (fun _ z => by cases z)]; rfl, by rw [isT_of e]; rfl⟩
  | dK e => exact ⟨_, .dK e, by rfl, by rfl, by rfl, by rw [isL_not e (fun _ z => by cases z)]; rfl, by rw [isT_not e (fun _ z => by cases z)]; rfl⟩
  | dT e => exact ⟨_, .dT e, by rfl, by rfl, by rfl, by rw [isL_not e (fun _ z => by cases z)]; rfl, by rw [isT_not e (fun _ z => by cases z)]; rfl⟩
noncomputable def isLow (c : Nat) : Bool := decide (97 ≤ c) && decide (c ≤ 122)
noncomputable def isNm : V → Bool
  | .str z => decide (1 ≤ z.length) && (decide (z.length ≤ 8) && z.cps.toList.all isLow)
  | _ => false
theorem isNm_iff {z : Str} : isNm (.str z) = true ↔ Nm z := by
  show (decide (1 ≤ z.length) && (decide (z.length ≤ 8) && z.cps.toList.all isLow)) = true ↔ _
  rw [Bool.and_eq_true, Bool.and_eq_true, decide_eq_true_iff, decide_eq_true_iff, List.all_eq_true]
  unfold Nm
  constructor
  · rintro ⟨h1, h2, h3⟩
    refine ⟨h1, h2, fun c hc => ?_⟩
    have h := h3 c hc
    unfold isLow at h
    rw [Bool.and_eq_true, decide_eq_true_iff, decide_eq_true_iff] at h
    exact h
  · rintro ⟨h1, h2, h3⟩
    refine ⟨h1, h2, fun c hc => ?_⟩
    unfold isLow
    rw [Bool.and_eq_true, decide_eq_true_iff, decide_eq_true_iff]
    exact h3 c hc
theorem lt_one (c d : Nat) : decide ([c] < [d]) = decide (c < d) := by
  by_cases h : c < d
  · rw [decide_eq_true h]; exact decide_eq_true (List.Lex.rel h)
  · rw [decide_eq_false h]
    refine decide_eq_false fun z => ?_
    cases z with
    | rel z => exact h z
    | cons z => cases z
noncomputable def spIsName : Sp := fun vs H Q _ => ∃ x, vs = [x] ∧ Thg H x ∧ ∀ H', Same H H' → Q (.bl (isNm x)) H'
noncomputable def pK (e : Str × Str) : List Key := [.inr e.1, .inr e.2]
theorem pK_inj {e f : Str × Str} (h : pK e = pK f) : e = f := by
  unfold pK at h
  have h1 := List.cons.inj h
  have h2 := List.cons.inj h1.2
  exact Prod.ext (Sum.inr.inj h1.1) (Sum.inr.inj h2.1)
inductive PlR (H : Hp) : V → VK → Prop
  | nm {a : Addr} {xs : List Str} {Q : VK} : (H a = some (.lst (List.map V.str xs)) ∨ H a = some (.tup (List.map V.str xs))) → xs.length ≤ 1000 →
      (∀ d kvs H', Same H H' → H d = none → H' d = some (.dK kvs) → (∀ s, (valV kvs (.inr s)).isSome = true ↔ s ∈ xs) → (∀ s v, valV kvs (.inr s) = some v → ∃ j : Nat, v = .int j ∧ xs[j]? = some s) → (kvs.map (·.1)).Nodup → (∀ k ∈ kvs.map (·.1), ∃ s ∈ xs, k = Sum.inr s) → Q (.ref d) H') → PlR H (.ref a) Q
  | pr {a : Addr} {refs : List V} {ps : List (Str × Str)} {Q : VK} : (H a = some (.lst refs) ∨ H a = some (.tup refs)) → RepAll H refs (ps.map pairD) → ps.length ≤ 1000 →
      (∀ d kvs H', Same H H' → H d = none → H' d = some (.dT kvs) → (∀ e : Str × Str, (valV kvs (pK e)).isSome = true ↔ e ∈ ps) → Q (.ref d) H') → PlR H (.ref a) Q
noncomputable def spPlacesX : Sp := fun vs H Q _ => ∃ x, vs = [x] ∧ PlR H x Q
section
variable {X : Cx} {p pos p2 pos2 : Pos} {e f : Expr} {t : TA}
theorem g_tuple (B : Blt X.mg) (hg : Gl X "tuple" := by rfl) : PE X (.Name "tuple" p) (tC (.ty "tuple")) := pe_bltn hg B.tuple (show bootBuiltins "tuple" = some (.type "tuple") by decide +kernel) rfl
noncomputable def rIsi2 (K : PySem.W.Frag) (c d : String) : List V → Hp → VK → Prop := fun xs H Q => ∃ x a t b, xs = [x, .ref a] ∧ H a = some (.tup [.ty c, .ty d]) ∧ TyOf K H x t ∧ PySem.W.kitAny K t [.type c, .type d] = some b ∧ Q (.bl b) H
theorem isinst_tup {pins : List (Addr × Obj)} {σ : St} {H : Hp} {s : Shared} {A : Around} {E : Value → Shared → Prop} {Q : Value → Shared → Prop} {x : V} {u t : Value} {tp : Addr} {dd : Option Addr} {its : List Value} {n : Nat} {sl : Array (Option Value)} {b : Bool}
    (I : Inv X pins σ H s) (rx : RelV x u) (ty : TyOf X.K H x t) (htp : s.heap.get? tp = some ⟨.type "tuple", dd, .seq its.toArray n, sl⟩) (e : PySem.W.kitAny X.K t its = some b) (h : ∀ tk, Q (.bool b) { s with toks := tk }) :
    wpAny (model X.prog X.w) A (call (.builtin "isinstance") [u, .ref tp]) Q E s := by
  cases ty with
  | non => cases (show u = Value.none from rx); exact PySem.W.kia_tup PySem.W.kitx_none I.kIn True.intro htp e (fun z => nomatch z) h
  | bl y => cases (show u = Value.bool y from rx); exact PySem.W.kia_tup PySem.W.kitx_bool I.kIn True.intro htp e (fun z => nomatch z) h
  | int i => obtain ⟨t, q⟩ := (show ∃ t, u = Value.int i t from rx); cases q; exact PySem.W.kia_tup PySem.W.kitx_int I.kIn True.intro htp e (fun z => nomatch z) h
  | str y => obtain ⟨t, q⟩ := (show ∃ t, u = Value.str y t from rx); cases q; exact PySem.W.kia_tup PySem.W.kitx_str I.kIn True.intro htp e (fun z => nomatch z) h
  | flt y => obtain ⟨t, q⟩ := (show ∃ t, u = Value.float y t from rx); cases q; exact PySem.W.kia_tup PySem.W.kitx_float I.kIn True.intro htp e (fun z => nomatch z) h
  | @lst a xs ea =>
    cases (show u = Value.ref a from rx)
    obtain ⟨_, _, n, _, h1⟩ := (show ObjOk X.prog X.w H s.heap a (.lst xs) from I.hok a _ ea)
    exact PySem.W.kia_tup PySem.W.kitx_list I.kIn ⟨_, h1, rfl⟩ htp e (fun z => nomatch z) h
  | @frz a ob xs ea =>
    cases (show u = Value.ref a from rx)
    obtain ⟨_, _, _, n, _, h1⟩ := (show ObjOk X.prog X.w H s.heap a (.frz ob (.lst xs)) from I.hok a _ ea)
    exact PySem.W.kia_tup PySem.W.kitx_list I.kIn ⟨_, h1, rfl⟩ htp e (fun z => nomatch z) h
  | @tup a xs ea =>
    cases (show u = Value.ref a from rx)
    obtain ⟨_, _, _, p⟩ := (show ObjOk X.prog X.w H s.heap a (.tup xs) from I.hok a _ ea)
    obtain ⟨o, h1, h2, _⟩ := p
    exact PySem.W.kia_tup PySem.W.kitx_tuple I.kIn ⟨o, h1, h2⟩ htp e (fun z => nomatch z) h
  | @dK a kvs ea =>
    cases (show u = Value.ref a from rx)
    obtain ⟨_, _, vs, _, p⟩ := (show ObjOk X.prog X.w H s.heap a (.dK kvs) from I.hok a _ ea)
    obtain ⟨o, es, ep, h1, h2, _⟩ := p
    exact PySem.W.kia_tup PySem.W.kitx_dict I.kIn ⟨o, h1, h2.1⟩ htp e (fun z => nomatch z) h
  | @dT a kvs ea =>
    cases (show u = Value.ref a from rx)
    obtain ⟨_, _, xs, _, o, es, ep, h1, h2, _⟩ := (show ObjOk X.prog X.w H s.heap a (.dT kvs) from I.hok a _ ea)
    exact PySem.W.kia_tup PySem.W.kitx_dict I.kIn ⟨o, h1, h2.1⟩ htp e (fun z => nomatch z) h
  | @ins a C dx fs ea cl ha hn htk hm =>
    cases (show u = Value.ref a from rx)
    obtain ⟨mA, O, _⟩ := ins_get I.hok ea
    obtain ⟨od, J, _⟩ := O.look
    exact PySem.W.kia_tup (PySem.W.kitx_own (cl.get _) cl.hd ha hn htk hm) I.kIn J htp e (fun z => nomatch z) h
theorem call_isi2 (c d : String) : CallR X (.builtin "isinstance") (rIsi2 X.K c d) := by
  intro pins s σ H xs us Q I r h
  obtain ⟨x, a, t, b, rfl, ea, ty, e, q⟩ := h
  obtain ⟨u, w', rfl, ru, rw'⟩ := vals2 r
  cases rw'
  obtain ⟨_, its, rv, ⟨oc, od, odt, osl⟩, h1, h2, n, h3, _⟩ := (show ObjOk X.prog X.w H s.heap a (.tup [.ty c, .ty d]) from I.hok a _ ea)
  have h2 : oc = .type "tuple" := h2
  have h3 : odt = .seq its.toArray n := h3
  subst h2 h3
  obtain ⟨u1, u2, rfl, r1, r2⟩ := vals2 rv
  cases r1
  cases r2
  exact isinst_tup I ru ty h1 e fun tk => ⟨.bl b, H, I.tok tk, rfl, q⟩
theorem b_isi2 (K : PySem.W.Frag) (c d : String) (B : Blt X.mg) (ha : PA X [e, f] t) (hg : Gl X "isinstance" := by rfl) (he : starEach [e, f] X.env = (false, eval e X.env) :: starEach [f] X.env := by rfl) (hpl : (backTo pos (starEach [f] X.env)).any (·.1) = false := by rfl) (hK : X.K = K := by rfl) : PE X (.Call (.Name "isinstance" p) [e, f] [] pos) (tCB (rIsi2 K c d) t) :=
  hK ▸ pe_callB (call_isi2 c d) hg B.isinstance boot_isinstance ha (by decide) (by decide) he hpl
end
theorem kit_lt {K : PySem.W.Frag} {H : Hp} {x : V} {t : Value} (h1 : PySem.W.kitOne K t (.type "list") = some (isL H x)) (h2 : PySem.W.kitOne K t (.type "tuple") = some (isT H x)) : PySem.W.kitAny K t [.type "list", .type "tuple"] = some (isL H x || isT H x) := by
  unfold PySem.W.kitAny
  rw [h1]
  cases isL H x with
  | true => rfl
  | false =>
    show PySem.W.kitAny K t [.type "tuple"] = _
    unfold PySem.W.kitAny
    rw [h2]
    cases isT H x <;> rfl
end L2
namespace MG
variable {es : List (Nat × Nat)} {goal : Nat}
end MG
namespace L2
open PySem PySem.Spec PyProof.Rows
section
variable {X : Cx} {p pos : Pos} {e : Expr} {t : TA}
noncomputable def rLenD : List V → Hp → VK → Prop := fun xs H Q => ∃ a kvs, xs = [V.ref a] ∧ H a = some (.dK kvs) ∧ Q (.int kvs.length) H
theorem b_lenD (B : Blt X.mg) (ha : PA X [e] t) (hg : Gl X "len" := by rfl) (he : starEach [e] X.env = (false, eval e X.env) :: starEach [] X.env := by rfl) (hpl : (backTo pos (starEach [] X.env)).any (·.1) = false := by rfl) : PE X (.Call (.Name "len" p) [e] [] pos) (tCB rLenD t) :=
  pe_callB call_lenD hg B.len PySem.boot_len ha (by decide) (by decide) he hpl
end
theorem eqv_str (x y : Str) : PyData.eqv (.str x) (.str y) = decide (x = y) := by
  show (x == y) = _
  by_cases h : x = y
  · subst h; simp
  · rw [decide_eq_false h]; simpa using h
theorem eqv_names : ∀ xs ys : List Str, PyData.eqv (namesD xs) (namesD ys) = decide (xs = ys)
  | [], [] => rfl
  | [], _ :: _ => rfl
  | _ :: _, [] => rfl
  | x :: xs, y :: ys => by
    have ih := eqv_names xs ys
    show (PyData.eqv (.str x) (.str y) && PyData.eqv (namesD xs) (namesD ys)) = _
    rw [eqv_str, ih, Bool.eq_iff_iff, Bool.and_eq_true, decide_eq_true_iff, decide_eq_true_iff, decide_eq_true_iff]
    exact ⟨fun ⟨a, b⟩ => by rw [a, b], fun h => ⟨(List.cons.inj h).1, (List.cons.inj h).2⟩⟩
noncomputable def inSS (ss : List Str) : V → Bool
  | .str s => decide (s ∈ ss)
  | _ => false
noncomputable def lstB (H : Hp) (ss : List Str) : V → Bool
  | .ref a => match H a with
    | some (.lst xs) => xs.all (inSS ss)
    | _ => false
  | _ => false
theorem lstB_lst {H : Hp} {ss : List Str} {a : Addr} {xs : List V} (e : H a = some (.lst xs)) : lstB H ss (.ref a) = xs.all (inSS ss) := by
  show (match H a with | some (.lst xs) => xs.all (inSS ss) | _ => false) = _
  rw [e]
theorem lstB_not {H : Hp} {ss : List Str} {x : V} (h : isL H x = false) : lstB H ss x = false := by
  cases x with
  | ref a =>
    show (match H a with | some (.lst xs) => xs.all (inSS ss) | _ => false) = false
    split
    · rename_i xs e; rw [isL_of e] at h; cases h
    · rfl
  | _ => rfl
theorem inSS_all {ss : List Str} {ws : List Str} (h : ∀ w ∈ ws, w ∈ ss) : (List.map V.str ws).all (inSS ss) = true := by
  rw [List.all_map, List.all_eq_true]
  intro w hw
  exact decide_eq_true (h w hw)
noncomputable def wayB (ts : List (Str × Str)) (one other : Str) (ws : List Str) : Bool :=
  if one = other then decide (ws = [one]) else decide (2 ≤ ws.length) && (decide (ws[0]? = some one) && (decide (ws.getLast? = some other) && (ws.zip (ws.drop 1)).all fun e => decide (e ∈ ts)))
end L2
namespace L2
open PySem PySem.Spec PyProof.Rows PySem.Builtin PySem.Builtin.Str
theorem star_c {c : Const} {j : Nat} {p : Pos} {es : List Expr} {env : Env} : starEach (.Constant c j p :: es) env = (false, eval (.Constant c j p) env) :: starEach es env := rfl
theorem star_n {x : Str} {p : Pos} {es : List Expr} {env : Env} : starEach (.Name x p :: es) env = (false, eval (.Name x p) env) :: starEach es env := rfl
theorem star_l {xs : List Expr} {p : Pos} {es : List Expr} {env : Env} : starEach (.List xs p :: es) env = (false, eval (.List xs p) env) :: starEach es env := rfl
theorem star_t {xs : List Expr} {k : Nat} {p : Pos} {es : List Expr} {env : Env} : starEach (.Tuple xs k p :: es) env = (false, eval (.Tuple xs k p) env) :: starEach es env := rfl
theorem star_s {x y : Expr} {p : Pos} {es : List Expr} {env : Env} : starEach (.Subscript x y p :: es) env = (false, eval (.Subscript x y p) env) :: starEach es env := rfl
theorem star_b {x y : Expr} {o : Operator} {p : Pos} {es : List Expr} {env : Env} : starEach (.BinOp x o y p :: es) env = (false, eval (.BinOp x o y p) env) :: starEach es env := rfl
theorem star_f {x : Expr} {xs : List Expr} {ks : List Keyword} {p : Pos} {es : List Expr} {env : Env} : starEach (.Call x xs ks p :: es) env = (false, eval (.Call x xs ks p) env) :: starEach es env := rfl
theorem star_d {xs : List (Option Expr)} {ys : List Expr} {p : Pos} {es : List Expr} {env : Env} : starEach (.Dict xs ys p :: es) env = (false, eval (.Dict xs ys p) env) :: starEach es env := rfl
end L2
namespace L2
open PySem PySem.Spec PyProof.Rows
noncomputable def SqA (H : Hp) (a : Addr) (xs : List V) : Prop := H a = some (.lst xs) ∨ H a = some (.tup xs)
theorem SqA.same {H H' : Hp} {a : Addr} {xs : List V} (h : SqA H a xs) (s : Same H H') : SqA H' a xs := by
  rcases h with h | h
  · exact .inl (s _ _ h)
  · exact .inr (s _ _ h)
theorem SqA.len {K : PySem.W.Frag} {H : Hp} {a : Addr} {xs : List V} (h : SqA H a xs) : LenV K (.ref a) H xs.length := by
  rcases h with h | h
  · exact .inl ⟨xs, .of h, rfl⟩
  · exact .inr ⟨xs, .of h, rfl⟩
theorem SqA.thg {H : Hp} {a : Addr} {xs : List V} (h : SqA H a xs) : Thg H (.ref a) := by
  rcases h with h | h
  · exact .lst h
  · exact .tup h
theorem SqA.lt {H : Hp} {a : Addr} {xs : List V} (h : SqA H a xs) : (isL H (.ref a) || isT H (.ref a)) = true := by
  rcases h with h | h
  · rw [isL_of h]; rfl
  · rw [isT_of h, Bool.or_true]
end L2
namespace L2
open PySem PySem.Spec PyProof.Rows
theorem shownAll_map : ∀ ds : List PyData, PyData.shownAll ds = ds.map PyData.shown
  | [] => rfl
  | d :: ds => by
    show PyData.shown d :: PyData.shownAll ds = _
    rw [shownAll_map ds]; rfl
structure Sw (d : PyData) (n k : Nat) : Prop where
  lay : d.canLay0 = true
  sb : d.showable = true
  dp : d.depth ≤ k
  ln : d.shown.length ≤ n
theorem Sw.nm {s : Str} (h : Nm s) : Sw (.str s) 82 0 := ⟨canLay_nm h, rfl, Nat.le_refl 0, h.repr⟩
theorem join_le {n : Nat} : ∀ (ts : List Str), (∀ t ∈ ts, t.length ≤ n) → (Str.join ", " ts).length ≤ ts.length * (n + 2)
  | [], _ => Nat.zero_le _
  | [y], h => by
    have := h y (by simp)
    show y.length ≤ 1 * (n + 2)
    omega
  | y :: z :: r, h => by
    have h1 := join_le (z :: r) fun t ht => h t (List.mem_cons_of_mem _ ht)
    have h2 := h y (by simp)
    have h3 : (Str.ofString ", ").length = 2 := rfl
    show (y ++ ", " ++ Str.join ", " (z :: r)).length ≤ ((z :: r).length + 1) * (n + 2)
    rw [len_app, len_app, Nat.succ_mul]
    show y.length + (Str.ofString ", ").length + _ ≤ _
    omega
end L2
namespace MG
variable {α : Type}
end MG
namespace L2
open PySem PySem.Spec PyProof.Rows
theorem wpAny_flat {α : Type} {M : Model} {A : Around} {E : Value → Shared → Prop} {s : Shared} {m : Sem (Option α)} {P : α → Shared → Prop}
    (h : wpAny M A m (fun r s1 => ∃ u, r = some u ∧ wpAny M A (pure () : Sem Unit) (fun _ s2 => P u s2) E s1) E s) : wpAny M A m (fun r s1 => ∃ u, r = some u ∧ P u s1) E s := by
  intro Γ p hΓ
  exact Sem.wp_mono M Γ m (fun r p' s1 ⟨u, e, q⟩ => ⟨u, e, q Γ p' hΓ⟩) (fun _ _ _ z => z) p s (h Γ p hΓ)
theorem Inv.atA {X : Cx} {pins : List (Addr × Obj)} {σ : St} {H : Hp} {s : Shared} (I : Inv X pins σ H s) (A' : Around) (h1 : A'.handled = X.A.handled) (h2 : A'.frames = X.A.frames) : Inv { X with A := A' } pins σ H s :=
  ⟨⟨I.ok.mod, I.ok.kind, I.ok.glob, I.ok.blt, I.ok.above, I.ok.inj, I.ok.has, I.ok.cab, fun c => h1.trans (I.ok.hd c), h2.trans I.ok.frames, I.ok.stk, I.ok.exf, I.ok.bs, I.ok.bsz, I.ok.noex, I.ok.exfs, I.ok.funs, I.ok.frf⟩,
    I.os, I.bare, I.base, I.loc, I.cell, I.free, I.freeC, I.pin, I.hok, I.len⟩
theorem Inv.ofA {X : Cx} {pins : List (Addr × Obj)} {σ : St} {H : Hp} {s : Shared} {A' : Around} (ok : X.Ok) (I : Inv { X with A := A' } pins σ H s) : Inv X pins σ H s :=
  ⟨ok, I.os, I.bare, I.base, I.loc, I.cell, I.free, I.freeC, I.pin, I.hok, I.len⟩
theorem keys_miss_zip : typeLookup (.type "zip") "keys" = pure none := am_miss_of_fast (by decide +kernel)
end L2
namespace L2
open PySem PySem.Spec PyProof.Rows
namespace DU
theorem entry_loop : entryFor table "dict.update.loop" = some Builtin.«dict.update.loop» := entryFor_of_fast (by kernel_rfl)
theorem plain_loop : plainId "dict.update.loop" = true := by decide +kernel
end DU
section
variable {X : Cx} {pins : List (Addr × Obj)} {σ : St} {H : Hp} {s : Shared} {a : Addr} {y v : V} {u r : Value} {A : Around} {E : Value → Shared → Prop}
theorem d_dictSet {H' : Hp} {Q : Unit → Shared → Prop} (hu : A.units < cLine) (I : Inv X pins σ H s) (g : DPut H a y v H') (ry : RelV y u) (rv : RelV v r) (h : ∀ s', Inv X pins σ H' s' → (∀ b o, b ≠ a → s.heap.get? b = some o → s'.heap.get? b = some o) → Q () s') :
    wpAny (model X.prog X.w) A (dictSet a u r) Q E s := by
  rcases g with ⟨kvs, k, e, ey, l, eH⟩ | ⟨kvs, k, b, e, ey, eb, l, eH⟩
  · subst ey eH
    obtain ⟨z, hd, vs, rel, dd⟩ := dk_of I.hok e
    have hz : vs.length ≤ sizeLine := by rw [← rel.length]; exact z
    have hl : (putK kvs k v).length ≤ sizeLine := by have := length_putK kvs k v; omega
    refine wpAny_dictSet_pairs (hsz := hz) (kV_is ry) dd fun h' dd' hs => h _ ?_ fun b o n q => hs.extBut _ _ n q
    have he : ∃ q, h'.get? a = some q := let ⟨q, _, _, hq, _⟩ := dd'; ⟨q, hq⟩
    exact d_write I (by rw [e]; exact True.intro) hs he (dk_new hl hd (rel.put k rv) dd')
  · subst ey eH
    cases (show u = Value.ref b from ry)
    obtain ⟨z, hd, xs, rel, dd⟩ := dt_of I.hok e
    have hz : xs.length ≤ sizeLine := by rw [← Paired.length rel]; exact z
    have hl : (putK kvs k v).length ≤ sizeLine := by have := length_putK kvs k v; omega
    refine wpAny_dictSet_heap (hsz := hz) hu (key_of I.hok eb) dd fun h' dd' hs => h _ ?_ fun b o n q => hs.extBut _ _ n q
    obtain ⟨q, es, ep, hq, h2, h3, h4, _, h5⟩ := dd'
    refine d_write I (by rw [e]; exact True.intro) hs ⟨q, hq⟩ ⟨hl, hd, _, (rel.put k eb rv).keeps fun c ys ec => ?_, q, es, ep, hq, h2, h3, h4, h5⟩
    rw [upd_ne (ne_of ec e (fun z => nomatch z))]
    exact ec
theorem DPut.at_ {H' : Hp} (g : DPut H a y v H') : (∃ o, H a = some o) ∧ ∀ b, b ≠ a → H' b = H b := by
  rcases g with ⟨kvs, k, e, ey, l, eH⟩ | ⟨kvs, k, b, e, ey, eb, l, eH⟩
  · exact ⟨⟨_, e⟩, fun b n => by rw [eH, upd_ne n]⟩
  · exact ⟨⟨_, e⟩, fun b n => by rw [eH, upd_ne n]⟩
end
theorem dict_loop {X : Cx} {pins : List (Addr × Obj)} {σ : St} {nm : Str} {tp : Pos} {J : It} {fp : List Addr} {it : Addr} {tn : Nat → Heap → Prop} (T : Turn X.prog X.w X.K (.Name nm tp) J fp it tn) (hc : X.calm = true) (hu : X.A.units + 64 < cLine) (d : Addr) (n : Nat) (Dv : Nat → Hp → Prop)
    (go : ∀ i H, i < n → Dv i H → J.go i H ∧ ∀ x H1, J.yld i H x H1 → ∃ b k v H2, x = .ref b ∧ SqT X.K H1 b [k, v] ∧ DPut H1 d k v H2 ∧ Dv (i + 1) H2)
    (stop : ∀ H, Dv n H → J.stop n H) {R : Result → Shared → Prop} : ∀ (k i : Nat) (j : Int) (s : Shared) (H : Hp), n - i = k → i ≤ n → Inv X pins σ H s → (∀ b ∈ fp, FpOk X pins H b) → tn i s.heap → Dv i H →
      (∀ H' s', Inv X pins σ H' s' → Dv n H' → R (.ok (.ret .none)) s') → codeAny (model X.prog X.w) X.A.in1 (.builtin "dict.update.loop" ⟨[.ref d, .ref it, rawInt j, .none], []⟩) R s := by
  intro k
  induction k with
  | zero =>
    intro i j s H hk hi I hf ht hd hR
    have hin : i = n := by omega
    subst hin
    refine codeAny_builtin DU.entry_loop ?_
    rw [Around.under_plainId DU.plain_loop _]
    show wpAny _ X.A.in1.in1 (pyNext (.ref it) >>= _) _ _ s
    refine wpAny_bind (wpAny_mono (T.done { X with A := X.A.in1.in1 } rfl rfl rfl hc i pins s σ H _ (I.atA _ rfl rfl) hf ht (stop H hd)) (fun r s1 ⟨e, I1⟩ => ?_) fun _ _ z => z)
    subst e
    show wpAny _ _ (Builtin.Dict.addKeywords d [] >>= _) _ _ _
    exact wpAny_bind (wpAny_pure (wpAny_pure (hR H s1 (Inv.ofA I.ok I1) hd)))
  | succ k ih =>
    intro i j s H hk hi I hf ht hd hR
    have hlt : i < n := by omega
    obtain ⟨hg, hy⟩ := go i H hlt hd
    refine codeAny_builtin DU.entry_loop ?_
    rw [Around.under_plainId DU.plain_loop _]
    show wpAny _ X.A.in1.in1 (pyNext (.ref it) >>= _) _ _ s
    refine wpAny_bind (wpAny_mono (wpAny_flat (T.item { X with A := X.A.in1.in1 } rfl rfl rfl hc i pins s σ H _ (I.atA _ rfl rfl) hf ht hg)) (fun r s1 ⟨u, e, x, H1, I1, rx, yl, t1, fn⟩ => ?_) fun _ _ z => z)
    subst e
    replace I1 := Inv.ofA I.ok I1
    obtain ⟨b, kk, v, H2, ex, sq, dp, dv⟩ := hy x H1 yl
    subst ex
    cases (show u = Value.ref b from rx)
    obtain ⟨its, rv, pt, hz⟩ := I1.tuple sq
    obtain ⟨u1, u2, e2, r1, r2⟩ := vals2 rv
    subst e2
    obtain ⟨o, ho, hcl, m, hdt⟩ := pt
    show wpAny _ _ (holding [Value.ref b] _ >>= _) _ _ _
    refine wpAny_bind (wpAny_holding ?_)
    show wpAny _ _ (Sem.tryCatch (Builtin.Dict.pairItems (Value.ref b)) _ >>= _) _ _ _
    refine wpAny_bind (wpAny_tryCatch ?_)
    unfold Builtin.Dict.pairItems
    refine wpAny_bind (wpAny_typeOf (T := "tuple") ⟨o, ho, hcl⟩ ?_)
    simp only [show ((Value.type "tuple" == Value.type "list") || (Value.type "tuple" == Value.type "tuple")) = true from rfl, if_true]
    unfold seqItems?
    refine wpAny_bind (wpAny_bind (wpAny_load ho ?_))
    rw [hdt]
    refine wpAny_pure (wpAny_pure ?_)
    show wpAny _ _ (holding [u1, u2] (dictSet d u1 u2)) _ _ _
    have hu' : X.A.in1.in1.units < cLine := by show X.A.units + 1 + 1 < cLine; omega
    refine wpAny_holding (d_dictSet hu' I1 dp r1 r2 fun s2 I2 hk2 => ?_)
    have dn : ∀ b ∈ fp, b ≠ d := fun b hb q => by
      obtain ⟨o, eo⟩ := dp.at_.1
      rw [← q, fn b hb] at eo
      cases eo
    refine wpAny_pure ⟨plainId_quiet DU.plain_loop _, ih (i + 1) (j + 1) s2 H2 (by omega) hlt I2 (fun b hb => ?_) (T.keep _ _ _ t1 fun b hb o q => hk2 b o (dn b hb) q) dv hR⟩
    obtain ⟨_, f1, f2, f3, f4, f5⟩ := hf b hb
    exact ⟨(dp.at_.2 b (dn b hb)).trans (fn b hb), f1, f2, f3, f4, f5⟩
theorem foldK_le {κ : Type} [DecidableEq κ] : ∀ (ps : List (κ × V)) (m : List (κ × V)), (ps.foldl (fun m q => putK m q.1 q.2) m).length ≤ m.length + ps.length := by
  intro ps
  induction ps with
  | nil => intro m; exact Nat.le_refl _
  | cons q r ih =>
    intro m
    have h1 := ih (putK m q.1 q.2)
    have h2 := length_putK m q.1 q.2
    rw [List.foldl_cons, List.length_cons]
    omega
noncomputable def mkK {κ : Type} [DecidableEq κ] (ps : List (κ × V)) : List (κ × V) := ps.foldl (fun m q => putK m q.1 q.2) []
theorem mkK_le {κ : Type} [DecidableEq κ] (ps : List (κ × V)) : (mkK ps).length ≤ ps.length := by
  have := foldK_le ps []
  rw [List.length_nil, Nat.zero_add] at this
  exact this
theorem mkK_take {κ : Type} [DecidableEq κ] (ps : List (κ × V)) (i : Nat) (q : κ × V) (h : ps[i]? = some q) : mkK (ps.take (i + 1)) = putK (mkK (ps.take i)) q.1 q.2 := by
  unfold mkK
  rw [List.take_add_one, h, List.foldl_append]
  rfl
end L2
namespace L2
open PySem PySem.Spec PyProof.Rows
namespace SP
open PySem.Builtin PySem.Builtin.Str PySem.StrLaws
noncomputable abbrev one (c : Nat) : Str := ⟨#[c]⟩
end SP
end L2
namespace L2
open PySem PySem.Spec PyProof.Rows
section
variable {X : Cx}
theorem slicePick_rev (its : List Value) : slicePick its.toArray none none (some (-1)) = its.reverse.toArray := by
  unfold slicePick
  have hb : sliceBounds none none (some (-1)) its.toArray.size = ((its.length : Int) - 1, -1, -1) := by
    simp [sliceBounds]
  rw [hb]
  show (List.filterMap _ (sliceRange ((its.length : Int) - 1) (-1) (-1))).toArray = _
  have hr : sliceRange ((its.length : Int) - 1) (-1) (-1) = (List.range its.length).map fun k => its.length - 1 - k := by
    unfold sliceRange
    have hc : (if (-1 : Int) > 0 then (if (its.length : Int) - 1 < -1 then (-1 - ((its.length : Int) - 1) + -1 - 1) / -1 else 0) else (if (its.length : Int) - 1 > -1 then ((its.length : Int) - 1 - -1 - -1 - 1) / (-(-1)) else 0)) = (its.length : Int) := by
      rw [if_neg (by decide)]
      by_cases h : (its.length : Int) - 1 > -1
      · rw [if_pos h]
        show ((its.length : Int) - 1 - -1 - -1 - 1) / 1 = _
        rw [Int.ediv_one]
        omega
      · rw [if_neg h]
        omega
    show List.map _ (List.range (Int.toNat _)) = _
    rw [hc, Int.toNat_natCast]
    refine List.map_congr_left fun k hk => ?_
    have := List.mem_range.mp hk
    omega
  rw [hr]
  congr 1
  apply List.ext_getElem?
  intro j
  have hfm : ∀ ks : List Nat, (∀ k ∈ ks, k < its.length) → List.filterMap (fun x => its.toArray[x]?) (ks.map fun k => its.length - 1 - k) = ks.map fun k => its.getD (its.length - 1 - k) .none := by
    intro ks
    induction ks with
    | nil => intro _; rfl
    | cons k r ih =>
      intro h
      have hk := h k (by simp)
      rw [List.map_cons, List.map_cons, List.filterMap_cons]
      have e : its.toArray[its.length - 1 - k]? = some (its.getD (its.length - 1 - k) .none) := by
        rw [List.getD_eq_getElem?_getD, List.getElem?_toArray, List.getElem?_eq_getElem (by omega)]
        rfl
      rw [e, ih fun x hx => h x (List.mem_cons_of_mem _ hx)]
  have hfm := hfm (List.range its.length) fun k hk => List.mem_range.mp hk
  rw [hfm, List.getElem?_map]
  by_cases hj : j < its.length
  · rw [List.getElem?_range hj, List.getElem?_reverse hj, List.getElem?_eq_getElem (by omega)]
    show some (its.getD (its.length - 1 - j) .none) = _
    rw [List.getD_eq_getElem?_getD, List.getElem?_eq_getElem (by omega)]
    rfl
  · rw [List.getElem?_eq_none (by simpa using hj), List.getElem?_eq_none (by rw [List.length_reverse]; omega)]
    rfl
noncomputable def rRev (K : PySem.W.Frag) (te : TE) (ts : TO) : TE := fun σ H Q => te σ H fun x H1 => ts σ H1 fun i H2 => ∃ a xs, i = some (-1) ∧ x = .ref a ∧ SqL K H2 a xs ∧ ∀ l, H2 l = none → Q (.ref l) (upd H2 l (.lst xs.reverse))
theorem pe_rev (K : PySem.W.Frag) {e st : Expr} {te : TE} {ts : TO} {p3 pos : Pos} (he : PE X e te) (hst : PO X (some st) ts) (hK : X.K = K := by rfl) : PE X (.Subscript e (.Slice none none (some st) p3) pos) (rRev K te ts) := by
  subst hK
  intro pins s σ H Q I h
  refine Subscript_ (thn (he pins s σ H _ I h) fun v s1 ⟨x, H1, I1, r1, q1⟩ => ?_)
  refine wpAny_Slice ?_
  rw [evalPart_none]
  refine wpAny_pure (wpAny_pure ?_)
  refine thn (hst pins s1 σ H1 _ I1 q1) fun vs s2 ⟨i, H2, I2, pi, q2⟩ => ?_
  obtain ⟨a, xs, rfl, rfl, hx, q⟩ := q2
  cases r1
  have I4 : Inv X pins σ H2 { s2 with heap := s2.heap.push { cls := .type "slice", data := .fields #[.none, .none, vs] } } := I2.kept (t' := s2.toks) fun b ob q => Heap.get?_push_of_some _ q
  obtain ⟨its, r, ht, hz⟩ := I4.list hx
  have hlen := r.length
  show wpAny (model X.prog X.w) X.A (subscriptTail e (.Slice none none (some st) p3) (.ref a) (.ref s2.heap.objs.size)) (EP X pins σ Q) X.xe { s2 with heap := s2.heap.push { cls := .type "slice", data := .fields #[.none, .none, vs] } }
  refine tail_any (ops := [.ref a, .ref s2.heap.objs.size]) ht.isList.typeIs slot_list_getitem.lookup ?_ (by with_unfolding_all rfl)
  refine wpAny_getItem_list_slice ht.isList (Heap.IsSliceOf.new ..) .none .none pi (by simp) ?_ (by rw [List.size_toArray] <;> omega)
  rw [slicePick_rev]
  refine ⟨.ref _, _, I4.laid (t' := s2.toks) (o := .lst xs.reverse) (fun b ob q => Heap.get?_push_of_some _ q) (Nat.le_refl _) ?_, rfl, q _ (I4.hok.fresh (Nat.le_refl _))⟩
  exact ⟨by rw [List.length_reverse]; exact hz, _, 0, r.reverse, Heap.get?_push_size _ rfl⟩
variable {p pos : Pos} {e : Expr} {t : TA}
end
end L2
namespace MG
variable {es : List (Nat × Nat)} {goal : Nat}
end MG
namespace L2
open PySem PySem.Spec PyProof.Rows
section
variable {X : Cx} {p pos : Pos} {e : Expr} {t : TA}
noncomputable def rMaxL (K : PySem.W.Frag) : List V → Hp → VK → Prop := fun xs H Q => ∃ a ns, xs = [.ref a] ∧ SqL K H a (List.map V.int ns) ∧ 0 < ns.length ∧ ∀ M, M ∈ ns → (∀ b, b ∈ ns → b ≤ M) → Q (.int M) H
theorem call_maxL (hc : X.calm = true) : CallR X (.builtin "max") (rMaxL X.K) := by
  intro pins s σ H xs us Q I r h
  obtain ⟨a, ns, rfl, hq, hne, q⟩ := h
  obtain ⟨u, rfl, ru⟩ := vals1 r
  cases ru
  obtain ⟨its, rv, pl, hz⟩ := I.list hq
  have hi := intsAre_of rv
  obtain ⟨xs, e⟩ := hi.allInts.items
  have hns : ns = xs.toList.map (·.1) := by
    rw [← hi.numsOf, ← nums_intItems, ← e]
  have hsz : 0 < xs.size := by
    have h3 := hne; rw [hns, List.length_map, Array.length_toList] at h3; exact h3
  have hl := pl.isList
  rw [e] at hl
  refine max_intList (I.ok.hd hc) hl hsz fun v h' tk hv hk => ?_
  obtain ⟨t, rfl⟩ := intItems_at hv
  obtain ⟨h1, h2⟩ := argBest_gt (numAt xs) (xs.size - 1)
  refine ⟨.int _, H, I.kept hk, ⟨_, rfl⟩, q _ ?_ fun b hb => ?_⟩
  · rw [hns, numAt_eq]; exact getD_mem (by rw [List.length_map, Array.length_toList]; omega)
  · rw [hns] at hb
    obtain ⟨j, hj, rfl⟩ := mem_getD hb
    rw [List.length_map, Array.length_toList] at hj
    rw [← numAt_eq]; exact h2 j (by omega)
theorem b_maxL (K : PySem.W.Frag) (hc : X.calm = true) (B : Blt X.mg) (ha : PA X [e] t) (hg : Gl X "max" := by rfl) (he : starEach [e] X.env = (false, eval e X.env) :: starEach [] X.env := by rfl) (hpl : (backTo pos (starEach [] X.env)).any (·.1) = false := by rfl) (hK : X.K = K := by rfl) :
    PE X (.Call (.Name "max" p) [e] [] pos) (tCB (rMaxL K) t) := hK ▸ pe_callB (call_maxL hc) hg B.max (show bootBuiltins "max" = some (.builtin "max") by decide +kernel) ha (by decide) (by decide) he hpl
end
end L2
namespace L2
open PySem PySem.Spec PyProof.Rows
theorem str_declines_dict (b : Str) (u : Tok) (l : Addr) (c : Value) (es : Array DictEntry) (ep : Nat) (dd : Option Addr) (sl : Array (Option Value)) : Meets (Builtin.«str.__eq__» { pos := [Value.str b u, Value.ref l] }) fun _ R s => s.heap.get? l = some { cls := c, dict := dd, data := .dict es ep, slots := sl } ∧ R (Except.ok (Flow.ret Value.notImplemented)) s := Meets.of_wp fun prog w A R s h => by
  obtain ⟨hl, h⟩ := h
  obtain ⟨hp, g, d, tk, os⟩ := s
  unfold Builtin.«str.__eq__» Builtin.Str.strCompare
  refine wpAny_bind ?_
  unfold Builtin.Str.strSlot
  refine wpAny_bind ?_
  unfold slotArgs
  refine wpAny_ite_false (Eq.refl (decide ((!({ pos := [Value.str b u, Value.ref l] } : Args).kw.isEmpty) = true))) (wpAny_ite_false (Eq.refl (decide (([Value.ref l].length != 1) = true))) (wpAny_pure ?_))
  refine wpAny_bind ?_
  unfold Builtin.Str.textOf
  refine wpAny_bind ?_
  unfold asStr?
  refine wpAny_pure (wpAny_pure (wpAny_pure (wpAny_bind ?_)))
  refine wpAny_bind (wpAny_load hl (wpAny_pure ?_))
  exact wpAny_bind (wpAny_rule (wpAny_pure ⟨Value.notImplemented, rfl, h⟩))
theorem dict_declines_str (l : Addr) (b : Str) (u : Tok) : Meets (Builtin.«dict.__eq__» { pos := [Value.ref l, Value.str b u] }) fun _ R s => R (Except.ok (Flow.ret Value.notImplemented)) s := Meets.of_wp fun prog w A R s h => by
  obtain ⟨hp, g, d, tk, os⟩ := s
  have f1 := F.sub_str_dict
  unfold Builtin.«dict.__eq__»
  refine wpAny_bind ?_
  unfold Builtin.Dict.dictSlotArgs
  refine wpAny_bind ?_
  unfold Builtin.Dict.notOrdered
  refine wpAny_ite_false (by decide) (wpAny_pure ?_)
  refine wpAny_bind ?_
  unfold slotArgs
  refine wpAny_ite_false (Eq.refl (decide ((!({ pos := [Value.ref l, Value.str b u] } : Args).kw.isEmpty) = true))) (wpAny_ite_false (Eq.refl (decide (([Value.str b u].length != 1) = true))) (wpAny_pure ?_))
  refine wpAny_pure ?_
  refine wpAny_bind ?_
  unfold isInstance
  refine wpAny_bind ?_
  refine wpAny_pure (wpAny_of_eq f1 ?_)
  refine wpAny_ite_true (Eq.refl (decide ((!false) = true))) ?_
  exact wpAny_bind (wpAny_rule (wpAny_pure ⟨Value.notImplemented, rfl, h⟩))
theorem rc_str_dict {A : Around} {s : Shared} {l : Addr} (b : Str) (u : Tok) {o : Obj} {es : Array DictEntry} {ep : Nat} (ho : s.heap.get? l = some o) (hc : o.cls = .type "dict") (hd : o.data = .dict es ep) (hu : A.units < cLine) : SeqAt.RcAt A s (Value.str b u) (Value.ref l) false := by
  intro prog w E Q h
  obtain ⟨cls, dd, data, sl⟩ := o
  have hc : cls = .type "dict" := hc
  have hd : data = .dict es ep := hd
  subst hc
  subst hd
  refine SeqAt.rc_eq_decline_or (typeIs_str s b u) ⟨_, ho, rfl⟩ (by decide) F.sub_dict_str F.slot_str_eq F.slot_dict_eq_refl
    (fun Q' hq => call_meets F.slot_str_eq (typeIs_str s b u) F.entry_str_eq (F.args_str_eq_2 _ _) (str_declines_dict b u l _ es ep dd sl) ⟨ho, hq⟩)
    (fun Q' hq => call_meets F.slot_dict_eq_refl ⟨_, ho, rfl⟩ F.entry_dict_eq (F.args_dict_eq_2 _ _) (dict_declines_str l b u) hq)
    (fun Q' hq => wpAny_of_eq rfl hq) (Or.inr hu) h
theorem eq_str_dict {A : Around} {s : Shared} {l : Addr} (b : Str) (u : Tok) {o : Obj} {es : Array DictEntry} {ep : Nat} (ho : s.heap.get? l = some o) (hc : o.cls = .type "dict") (hd : o.data = .dict es ep) (hu : A.units < cLine) : SeqAt.EqAt A s (Value.str b u) (Value.ref l) false := by
  intro prog w E Q h
  unfold eqBool
  exact wpAny_holding (wpAny_ite_split (fun hab => absurd (eq_of_beq hab) fun a => nomatch a) fun _ => wpAny_bind (rc_str_dict b u ho hc hd hu prog w E (fun a s' => wpAny (model prog w) A (truthOfDropped a) Q E s') (wpAny_truthy_bool h)))
noncomputable def eqSV (x : V) : Value → Bool
  | .str z _ => inSS [z] x
  | _ => false
theorem eqSV_at {X : Cx} {pins : List (Addr × Obj)} {σ : St} {H : Hp} {s : Shared} {A : Around} {x : V} {v : Value} (I : Inv X pins σ H s) (tx : Thg H x) (rx : RelV x v) (hu : A.units < cLine) (z : Str) (u : Tok) : SeqAt.EqAt A s (Value.str z u) v (inSS [z] x) := by
  have flat : flatV x = true → SeqAt.EqAt A s (Value.str z u) v (eqV (.str z) x) := fun f => eqAt_V (show RelV (.str z) (Value.str z u) from ⟨u, rfl⟩) rx rfl f
  cases tx with
  | non => exact flat rfl
  | bl b => exact flat rfl
  | int i => exact flat rfl
  | @str w h =>
    have := flat rfl
    have e : eqV (.str z) (.str w) = inSS [z] (.str w) := by
      show (z == w) = decide (w ∈ [z])
      rw [Bool.eq_iff_iff, beq_iff_eq, decide_eq_true_iff, List.mem_singleton]
      exact ⟨Eq.symm, Eq.symm⟩
    rw [e] at this
    exact this
  | @lst a xs e =>
    cases rx
    obtain ⟨_, its, n, rv, eh⟩ := (show ObjOk X.prog X.w H s.heap a (.lst xs) from I.hok a _ e)
    exact SeqAt.EqAt.str_list (items := its.toArray) z u ⟨_, eh, rfl, n, rfl⟩ hu
  | @tup a xs e =>
    cases rx
    obtain ⟨its, rv, pl, _⟩ := I.tuple (a := a) (xs := xs) (.of e)
    exact SeqAt.EqAt.str_tuple z u pl hu
  | @dK a kvs e =>
    cases rx
    obtain ⟨_, _, vs, _, p⟩ := (show ObjOk X.prog X.w H s.heap a (.dK kvs) from I.hok a _ e)
    obtain ⟨o, es, ep, h1, h2, h3, _⟩ := p
    exact eq_str_dict z u h1 h2.1 h3 hu
  | @dT a kvs e =>
    cases rx
    obtain ⟨_, _, xs, _, o, es, ep, h1, h2, h3, _⟩ := (show ObjOk X.prog X.w H s.heap a (.dT kvs) from I.hok a _ e)
    exact eq_str_dict z u h1 h2.1 h3 hu
theorem vals_strs : ∀ {ss : List Str} {us : List Value}, Vals (List.map V.str ss) us → ∀ u ∈ us, ∃ z t, u = Value.str z t
  | [], _, .nil, u, h => by cases h
  | s :: ss, _ :: us, .cons r t, u, h => by
    rcases List.mem_cons.mp h with rfl | h
    · obtain ⟨t, rfl⟩ := r
      exact ⟨s, t, rfl⟩
    · exact vals_strs t u h
theorem any_eqSV {x : V} : ∀ {ss : List Str} {us : List Value}, Vals (List.map V.str ss) us → us.any (eqSV x) = inSS ss x
  | [], _, .nil => by cases x <;> rfl
  | s :: ss, u :: us, .cons r t => by
    have ih := any_eqSV (x := x) t
    obtain ⟨tk, rfl⟩ := r
    rw [List.any_cons, ih]
    cases x with
    | str w =>
      show (decide (w ∈ [s]) || decide (w ∈ ss)) = decide (w ∈ s :: ss)
      rw [Bool.eq_iff_iff, Bool.or_eq_true, decide_eq_true_iff, decide_eq_true_iff, decide_eq_true_iff, List.mem_singleton, List.mem_cons]
    | _ => rfl
section
variable {X : Cx}
noncomputable def rInT (K : PySem.W.Frag) (neg : Bool) : V → V → Hp → VK → Prop := fun x y H Q => ∃ p ss, y = .ref p ∧ (SqL K H p (List.map V.str ss) ∨ SqT K H p (List.map V.str ss)) ∧ Thg H x ∧ Q (.bl (if neg then !inSS ss x else inSS ss x)) H
theorem op_notInT (K : PySem.W.Frag) (hu : X.A.units + 64 < cLine) (hK : X.K = K := by rfl) : OpR X (compareOp .NotIn) (rInT K true) := by
  subst hK
  intro pins s σ H x y v u Q I rx ry h
  obtain ⟨p, ss, rfl, hq, tx, q⟩ := h
  cases ry
  have eqs : ∀ {its : List Value}, Vals (List.map V.str ss) its → ∀ w ∈ its.toArray, SeqAt.EqAt X.A.in1 s w v (eqSV x w) := fun r w hw => by
    obtain ⟨z, t, rfl⟩ := vals_strs r w (by simpa using hw)
    exact eqSV_at I tx rx (by show X.A.units + 1 < cLine; omega) z t
  rcases hq with hq | hq
  · obtain ⟨its, r, pl, hz⟩ := I.list hq
    refine SeqAt.notIn_listAt (eqSV x) pl.isList (eqs r) ⟨.bl _, H, I, rfl, ?_⟩
    rw [show its.toArray.any (eqSV x) = its.any (eqSV x) by simp, any_eqSV r]
    exact q
  · obtain ⟨its, r, pl, hz⟩ := I.tuple hq
    refine SeqAt.notIn_tupleAt (eqSV x) pl (eqs r) ⟨.bl _, H, I, rfl, ?_⟩
    rw [show its.toArray.any (eqSV x) = its.any (eqSV x) by simp, any_eqSV r]
    exact q
end
end L2
set_option maxHeartbeats 400000
namespace L2
open PySem PySem.Spec PyProof.Rows
theorem ne_list_lengths {prog : Program} {w : World} {A : Around} {E : Value → Shared → Prop} {s : Shared} {l b : Addr} {items items2 : Array Value} {Q : Value → Shared → Prop} (hl : s.heap.IsList l items) (hb : s.heap.IsList b items2) (hsz : (items.size != items2.size) = true) (hu : A.units < cLine) (h : Q (Value.bool true) s) : wpAny (model prog w) A (compareOp CmpOp.NotEq (Value.ref l) (Value.ref b)) Q E s := by
  obtain ⟨⟨cls, dd, data, sl⟩, ho, hc, n, hd⟩ := id hl
  obtain ⟨⟨cls2, dd2, data2, sl2⟩, ho2, hc2, n2, hd2⟩ := id hb
  have hc : cls = .type "list" := hc
  have hd : data = .seq items n := hd
  have hc2 : cls2 = .type "list" := hc2
  have hd2 : data2 = .seq items2 n2 := hd2
  subst hc hd hc2 hd2
  show wpAny (model prog w) A (richCompare CmpOp.NotEq (Value.ref l) (Value.ref b)) Q E s
  refine richCompare_meets_room ⟨_, ho, rfl⟩ ⟨_, ho2, rfl⟩ F.slot_list_ne F.entry_list_ne (F.args_list_ne_2 _ _) (SeqAt.list_ne_lengthsAt l b items items2 n n2 dd dd2 sl sl2 hsz) ⟨ho, ho2, ?_⟩ hu
  exact ⟨(fun x => nomatch x), h⟩
section
variable {X : Cx}
noncomputable def rInDT (neg : Bool) : V → V → Hp → VK → Prop := fun x y H Q => ∃ p xs ds d, y = .ref p ∧ H p = some (.tup xs) ∧ RepAll H xs ds ∧ Rep H x d ∧ PyData.canLayAll0 ds = true ∧ d.canLay0 = true ∧ d.depth ≤ 16 ∧ Q (.bl (if neg then !(ds.any fun e => PyData.eqv e d) else ds.any fun e => PyData.eqv e d)) H
theorem op_notInDT (hu : X.A.units + 64 < cLine) : OpR X (compareOp .NotIn) (rInDT true) := by
  intro pins s σ H x y v u Q I rx ry h
  obtain ⟨p, xs, ds, d, rfl, e, rs, r, cs, c, dp, q⟩ := h
  cases ry
  obtain ⟨its, rv, pl, _⟩ := I.tuple (a := p) (xs := xs) (.of e)
  obtain ⟨bs, zx⟩ := r.reads I.hok rx
  refine SeqAt.notIn_tupleAt (fun u => PyData.eqv (SeqAt.readOf s.heap u) d) pl (fun w hw => mem_readOf (x := x) I.hok zx c (by show X.A.units + 1 + d.depth < cLine; omega) rs rv cs w (by simpa using hw)) ⟨.bl _, H, I, rfl, ?_⟩
  rw [show its.toArray.any (fun u => PyData.eqv (SeqAt.readOf s.heap u) d) = its.any (fun u => PyData.eqv (SeqAt.readOf s.heap u) d) by simp, any_readOf I.hok rs rv cs]
  exact q
noncomputable def rLens (neg : Bool) : V → V → Hp → VK → Prop := fun x y H Q => ∃ a b xs ys, x = .ref a ∧ y = .ref b ∧ H a = some (.lst xs) ∧ H b = some (.lst ys) ∧ xs.length ≠ ys.length ∧ Q (.bl neg) H
theorem op_eqLens (hu : X.A.units + 64 < cLine) : OpR X (compareOp .Eq) (rLens false) := by
  intro pins s σ H x y v u Q I rx ry h
  obtain ⟨a, b, xs, ys, rfl, rfl, ha, hb, hne, q⟩ := h
  cases rx
  cases ry
  obtain ⟨_, its, n, rv, eh⟩ := (show ObjOk X.prog X.w H s.heap a (.lst xs) from I.hok a _ ha)
  obtain ⟨_, its2, n2, rv2, eh2⟩ := (show ObjOk X.prog X.w H s.heap b (.lst ys) from I.hok b _ hb)
  have l1 := rv.length
  have l2 := rv2.length
  refine SeqAt.eq_list_lengthsAt (items := its.toArray) (items2 := its2.toArray) ⟨_, eh, rfl, n, rfl⟩ ⟨_, eh2, rfl, n2, rfl⟩ ?_ (by omega) ⟨.bl _, H, I, rfl, q⟩
  rw [bne_iff_ne, List.size_toArray, List.size_toArray]
  omega
theorem op_neLens (hu : X.A.units + 64 < cLine) : OpR X (compareOp .NotEq) (rLens true) := by
  intro pins s σ H x y v u Q I rx ry h
  obtain ⟨a, b, xs, ys, rfl, rfl, ha, hb, hne, q⟩ := h
  cases rx
  cases ry
  obtain ⟨_, its, n, rv, eh⟩ := (show ObjOk X.prog X.w H s.heap a (.lst xs) from I.hok a _ ha)
  obtain ⟨_, its2, n2, rv2, eh2⟩ := (show ObjOk X.prog X.w H s.heap b (.lst ys) from I.hok b _ hb)
  have l1 := rv.length
  have l2 := rv2.length
  have hsz : (its.toArray.size != its2.toArray.size) = true := by
    rw [bne_iff_ne, List.size_toArray, List.size_toArray]
    omega
  have hq : EP X pins σ Q (Value.bool true) s := ⟨.bl true, H, I, rfl, q⟩
  exact ne_list_lengths ⟨_, eh, rfl, n, rfl⟩ ⟨_, eh2, rfl, n2, rfl⟩ hsz (by omega) hq
theorem op_eqY (hu : X.A.units + 64 < cLine) : OpR X (compareOp .Eq) (fun x y H Q => EqR false H x y Q ∨ rLens false x y H Q) := by
  intro pins s σ H x y v u Q I rx ry h
  rcases h with h | h
  · exact op_eqX hu pins s σ H x y v u Q I rx ry h
  · exact op_eqLens hu pins s σ H x y v u Q I rx ry h
theorem op_neY (hu : X.A.units + 64 < cLine) : OpR X (compareOp .NotEq) (fun x y H Q => EqR true H x y Q ∨ rLens true x y H Q) := by
  intro pins s σ H x y v u Q I rx ry h
  rcases h with h | h
  · exact op_neX hu pins s σ H x y v u Q I rx ry h
  · exact op_neLens hu pins s σ H x y v u Q I rx ry h
end
end L2
set_option maxHeartbeats 4000000
namespace L2
open PySem PySem.Spec PyProof.Rows
noncomputable def ButN (N : Addr → Prop) (H H' : Hp) : Prop := ∀ b o, N b → H b = some o → H' b = some o
theorem ButN.of_same {N : Addr → Prop} {H H' : Hp} (s : Same H H') : ButN N H H' := fun b o _ h => s b o h
theorem ButN.trans {N : Addr → Prop} {H H1 H2 : Hp} (a : ButN N H H1) (b : ButN N H1 H2) : ButN N H H2 := fun c o n h => b c o n (a c o n h)
noncomputable def Hd (N : Addr → Prop) (H : Hp) : Prop := ∀ l, H l = none → N l
noncomputable def Lg (G : Hp → V → Prop) (N : Addr → Prop) (n : Nat) (H : Hp) (x : V) : Prop := ∃ c xs, x = .ref c ∧ H c = some (.lst xs) ∧ N c ∧ xs.length ≤ n ∧ ∀ v ∈ xs, G H v
noncomputable def Tg (G : Hp → V → Prop) (N : Addr → Prop) (n : Nat) (H : Hp) (x : V) : Prop := ∃ c xs, x = .ref c ∧ H c = some (.tup xs) ∧ N c ∧ xs.length = n ∧ ∀ v ∈ xs, G H v
noncomputable def Bu (G : Hp → V → Prop) (σ : St) (H0 : Hp) (te : TE) : Prop := ∀ H, Same H0 H → ∀ Q : VK, (∀ x H', Same H H' → G H' x → Q x H') → te σ H Q
noncomputable def BuA (n : Nat) (G : Hp → V → Prop) (σ : St) (H0 : Hp) (ta : TA) : Prop := ∀ H, Same H0 H → ∀ Q : List V → Hp → Prop, (∀ xs H', Same H H' → xs.length = n → (∀ x ∈ xs, G H' x) → Q xs H') → ta σ H Q
noncomputable def BuO (σ : St) (H0 : Hp) (to : TO) : Prop := ∀ H, Same H0 H → ∀ Q : Option Int → Hp → Prop, (∀ o, Q o H) → to σ H Q
noncomputable def Mono (G : Hp → V → Prop) : Prop := ∀ H H' x, Same H H' → G H x → G H' x
theorem mono_lg {G : Hp → V → Prop} {N : Addr → Prop} {n : Nat} (mo : Mono G) : Mono (Lg G N n) := fun _ _ _ s ⟨c, xs, e, hc, np, hl, k⟩ => ⟨c, xs, e, s _ _ hc, np, hl, fun v hv => mo _ _ _ s (k v hv)⟩
section
variable {G G' : Hp → V → Prop} {σ : St} {H0 H : Hp} {te ta tb : TE} {tr : TA} {N : Addr → Prop} {m n : Nat} {Q : VK} {K : PySem.W.Frag}
theorem Bu.go (h : Bu G σ H0 te) (s : Same H0 H) (k : ∀ x H', Same H H' → G H' x → Q x H') : te σ H Q := h H s Q k
theorem Bu.imp (h : Bu G σ H0 te) (i : ∀ H x, G H x → G' H x) : Bu G' σ H0 te := fun H s Q k => h H s Q fun x H' s' g => k x H' s' (i _ _ g)
theorem bu_c {v : V} (h : ∀ H, G H v) : Bu G σ H0 (tC v) := fun H s Q k => k v H (Same.refl H) (h H)
theorem bu_var {i : Nat} {v : V} (hv : σ[i]? = some (some v)) (mo : Mono G) (h : G H0 v) : Bu G σ H0 (tVar i) := fun H s Q k => ⟨v, hv, k v H (Same.refl H) (mo _ _ _ s h)⟩
theorem bua_nil : BuA 0 G σ H0 tNil := fun H s Q k => k [] H (Same.refl H) rfl (fun x hx => by cases hx)
theorem bua_cons (mo : Mono G) (h : Bu G σ H0 te) (hr : BuA n G σ H0 tr) : BuA (n + 1) G σ H0 (tCons te tr) := fun H s Q k =>
  h H s _ fun x H1 s1 g => hr H1 (s.trans s1) _ fun xs H2 s2 hl gs => k (x :: xs) H2 (s1.trans s2) (by rw [List.length_cons, hl]) fun y hy => by
    rcases List.mem_cons.mp hy with rfl | hy
    · exact mo _ _ _ s2 g
    · exact gs y hy
theorem bu_lst (mo : Mono G) (hp : Hd N H0) (h : BuA n G σ H0 tr) (hn : n ≤ 1000 := by decide) : Bu (Lg G N n) σ H0 (tLst tr) := fun H s Q k =>
  h H s _ fun xs H1 s1 hl gs => ⟨by rw [hl]; exact Nat.le_trans hn (by decide), fun l hl1 => by
    have sn := Same.new (o := .lst xs) hl1
    exact k _ _ (s1.trans sn) ⟨l, xs, rfl, upd_same, hp l (same_free (s.trans s1) hl1), by omega, fun v hv => mo _ _ _ sn (gs v hv)⟩⟩
theorem bu_tup (mo : Mono G) (hp : Hd N H0) (h : BuA n G σ H0 tr) (hn : n ≤ 1000 := by decide) : Bu (Tg G N n) σ H0 (tTup tr) := fun H s Q k =>
  h H s _ fun xs H1 s1 hl gs => ⟨by rw [hl]; exact Nat.le_trans hn (by decide), fun l hl1 => by
    have sn := Same.new (o := .tup xs) hl1
    exact k _ _ (s1.trans sn) ⟨l, xs, rfl, upd_same, hp l (same_free (s.trans s1) hl1), hl, fun v hv => mo _ _ _ sn (gs v hv)⟩⟩
theorem bu_add (mo : Mono G) (hp : Hd N H0) (ha : Bu (Lg G N m) σ H0 ta) (hb : Bu (Lg G N n) σ H0 tb) (hm : m ≤ 1000 := by decide) (hn : n ≤ 1000 := by decide) : Bu (Lg G N (m + n)) σ H0 (tOp (fun x y H Q => AddR H x y Q) ta tb) := fun H s Q k =>
  ha H s _ fun x H1 s1 g => hb H1 (s.trans s1) _ fun y H2 s2 g2 => by
    obtain ⟨c, xs, rfl, hc, np, hl, gx⟩ := mono_lg mo _ _ _ s2 g
    obtain ⟨d, ys, rfl, hd, np2, hl2, gy⟩ := g2
    refine .lst hc hd (Nat.le_trans (show xs.length + ys.length ≤ 2000 by omega) (by decide)) fun l h1 => ?_
    have sn := Same.new (o := .lst (xs ++ ys)) h1
    refine k _ _ ((s1.trans s2).trans sn) ⟨l, xs ++ ys, rfl, upd_same, hp l (same_free ((s.trans s1).trans s2) h1), by rw [List.length_append]; omega, fun v hv => ?_⟩
    rcases List.mem_append.mp hv with q | q
    · exact mo _ _ _ sn (gx v q)
    · exact mo _ _ _ sn (gy v q)
theorem mem_cutV {xs : List V} {lo hi : Option Int} {v : V} (h : v ∈ cutV xs lo hi) : v ∈ xs := List.mem_of_mem_drop (List.mem_of_mem_take h)
theorem bu_cut {tl th : TO} (mo : Mono G) (hp : Hd N H0) (ha : Bu (Lg G N m) σ H0 ta) (hl : BuO σ H0 tl) (hh : BuO σ H0 th) : Bu (Lg G N m) σ H0 (tSl (fun x lo hi H Q => SlX K H x lo hi Q) ta tl th) := fun H s Q k =>
  ha H s _ fun x H1 s1 g => hl H1 (s.trans s1) _ fun o => hh H1 (s.trans s1) _ fun o2 => by
    obtain ⟨c, xs, rfl, hc, np, hm, gx⟩ := g
    refine .lst (.of hc) fun l h1 => ?_
    have sn := Same.new (o := .lst (cutV xs o o2)) h1
    refine k _ _ (s1.trans sn) ⟨l, _, rfl, upd_same, hp l (same_free (s.trans s1) h1), Nat.le_trans (cutV_length xs o o2) hm, fun v hv => mo _ _ _ sn (gx v (mem_cutV hv))⟩
theorem bu_rev (mo : Mono G) (hp : Hd N H0) (ha : Bu (Lg G N m) σ H0 ta) : Bu (Lg G N m) σ H0 (rRev K ta (tPart (tUn (rU fun i => .int (-i)) (tC (.int 1))))) := fun H s Q k =>
  ha H s _ fun x H1 s1 g => by
    obtain ⟨c, xs, rfl, hc, np, hm, gx⟩ := g
    refine ⟨_, rfl, _, rfl, c, xs, rfl, rfl, .of hc, fun l h1 => ?_⟩
    have sn := Same.new (o := .lst xs.reverse) h1
    refine k _ _ (s1.trans sn) ⟨l, _, rfl, upd_same, hp l (same_free (s.trans s1) h1), by rw [List.length_reverse]; exact hm, fun v hv => mo _ _ _ sn (gx v (List.mem_reverse.mp hv))⟩
theorem buo_none : BuO σ H0 tNoPart := fun H s Q k => k none
theorem buo_c {i : Int} : BuO σ H0 (tPart (tC (.int i))) := fun H s Q k => ⟨i, rfl, k _⟩
theorem buo_v {j : Nat} {i : Int} (hv : σ[j]? = some (some (.int i))) : BuO σ H0 (tPart (tVar j)) := fun H s Q k => ⟨_, hv, i, rfl, k _⟩
theorem buo_v1 {j : Nat} {i k : Int} (hv : σ[j]? = some (some (.int i))) : BuO σ H0 (tPart (tOp (fun x y H Q => AddR H x y Q) (tVar j) (tC (.int k)))) := fun H s Q q => ⟨_, hv, .int ⟨_, rfl, q _⟩⟩
theorem buo_neg {i : Int} : BuO σ H0 (tPart (tUn (rU fun i => .int (-i)) (tC (.int i)))) := fun H s Q k => ⟨_, rfl, _, rfl, k _⟩
end
end L2
namespace L2
open PySem PySem.Spec PyProof.Rows
section
variable {prog : Program} {w : World} {A : Around} {E : Value → Shared → Prop} {s : Shared}
theorem zpt_item {z TI TO i1 i2 l1 l2 : Addr} {k1 k2 : Nat} {f0 : Value} {f1 : Bool} {xs ys : Array Value} {x y a b : Value} {Q : Value → Shared → Prop} (D : ZipApart z TI TO i1 i2 l1 l2) (hf : F0 f0)
    (hz : Zp s.heap z TI TO f0 f1) (hTI : IsPair s.heap TI (.ref i1) (.ref i2)) (hTO : IsPair s.heap TO a b)
    (h1 : s.heap.IsTupleIter i1 l1 k1) (h2 : s.heap.IsListIter i2 l2 k2) (hl1 : s.heap.IsTuple l1 xs) (hl2 : s.heap.IsList l2 ys) (hx : xs[k1]? = some x) (hy : ys[k2]? = some y)
    (hQ : ∀ h' f0' f1', F0 f0' → Zp h' z TI TO f0' f1' → (∃ a b, IsPair h' TO a b) → h'.IsTupleIter i1 l1 (k1 + 1) → h'.IsListIter i2 l2 (k2 + 1) → IsPair h' s.heap.objs.size x y →
      (∀ c o, c ≠ z → c ≠ TO → c ≠ i1 → c ≠ i2 → s.heap.get? c = some o → h'.get? c = some o) → Q (.ref s.heap.objs.size) { s with heap := h' }) :
    wpAny (model prog w) A (Builtin.«zip.__next__» ⟨[.ref z], []⟩) (fun fin s' => ∃ v, fin = .done (.ret v) ∧ Q v s') E s := by
  show wpAny _ _ (field (.ref z) 2 >>= _) _ _ _
  refine wpAny_bind (wpAny_field hz rfl (x := .bool false) rfl ?_)
  show wpAny _ _ (field (.ref z) 3 >>= _) _ _ _
  refine wpAny_bind (wpAny_field hz rfl (x := .ref TI) rfl (wpAny_bind (wpAny_seqItems hTI rfl ?_)))
  refine wpAny_bind (zp_free hf hz fun own f1' g0 hz0 sb0 => ?_)
  have sz0 : g0.objs.size = s.heap.objs.size := sb0.1
  cases own with
  | true =>
    simp only [if_true]
    refine wpAny_bind (wpAny_rule ?_)
    refine wpAny_bind (wpAny_field (s := { s with heap := g0 }) hz0 rfl (x := .ref TO) rfl ?_)
    refine wpAny_bind (wpAny_setField_rec (s := { s with heap := g0 }) hz0 (by simp) fun g1 hz1 sb1 => ?_)
    replace hz1 : Zp g1 z TI TO .ellipsis f1' := hz1
    refine wpAny_bind ?_
    simp only [List.zipIdx_cons, List.zipIdx_nil, List.forIn_cons, List.forIn_nil]
    refine wpAny_bind (wpAny_bind (wpAny_onRaise ?_))
    show wpAny _ _ (Builtin.SmallTypes.nextOf (.ref i1) >>= _) _ _ _
    have up1 : ∀ c o, c ≠ z → s.heap.get? c = some o → g1.get? c = some o := fun c o n e => sb1.extBut _ _ n (sb0.extBut _ _ n e)
    refine wpAny_bind (nextT_item (h1.at fun o e => up1 _ o D.i1z e) (hl1.at fun o e => up1 _ o D.l1z e) hx fun g2 j1 sb2 => wpAny_pure ?_)
    have hTO2 : IsPair g2 TO a b := sb2.extBut _ _ D.TOi1 (up1 _ _ D.TOz hTO)
    refine wpAny_bind (wpAny_seqItems hTO2 rfl (wpAny_bind (wpAny_updateSeq_pair hTO2 fun g3 hTO3 sb3 => ?_)))
    replace hTO3 : IsPair g3 TO x b := hTO3
    refine wpAny_bind (wpAny_letGo (wpAny_pure (wpAny_bind (wpAny_bind (wpAny_onRaise ?_)))))
    show wpAny _ _ (Builtin.SmallTypes.nextOf (.ref i2) >>= _) _ _ _
    have up3 : ∀ c o, c ≠ z → c ≠ i1 → c ≠ TO → s.heap.get? c = some o → g3.get? c = some o := fun c o n1 n2 n3 e => sb3.extBut _ _ n3 (sb2.extBut _ _ n2 (up1 _ _ n1 e))
    refine wpAny_bind (wpAny_nextOf_list_item (h2.at fun o e => up3 _ o D.i2z D.i12.symm D.TOi2.symm e) (hl2.at fun o e => up3 _ o D.l2z D.l2i1 D.l2TO e) hy fun g4 j2 sb4 => wpAny_pure ?_)
    have hTO4 : IsPair g4 TO x b := sb4.extBut _ _ D.TOi2 hTO3
    refine wpAny_bind (wpAny_seqItems hTO4 rfl (wpAny_bind (wpAny_updateSeq_pair hTO4 fun g5 hTO5 sb5 => ?_)))
    replace hTO5 : IsPair g5 TO x y := hTO5
    refine wpAny_bind (wpAny_letGo (wpAny_pure (wpAny_pure ?_)))
    refine wpAny_bind (wpAny_seqItems hTO5 rfl (wpAny_bind (wpAny_newTuple ?_)))
    have hsz : g5.objs.size = s.heap.objs.size := by rw [sb5.1, sb4.1, sb3.1, sb2.1, sb1.1, sz0]
    have hz5 : Zp g5 z TI TO .ellipsis f1' := sb5.extBut _ _ D.TOz.symm (sb4.extBut _ _ D.i2z.symm (sb3.extBut _ _ D.TOz.symm (sb2.extBut _ _ D.i1z.symm hz1)))
    have j15 : g5.IsTupleIter i1 l1 (k1 + 1) := j1.at fun o e => sb5.extBut _ _ D.TOi1.symm (sb4.extBut _ _ D.i12 (sb3.extBut _ _ D.TOi1.symm e))
    have j25 : g5.IsListIter i2 l2 (k2 + 1) := j2.at fun o e => sb5.extBut _ _ D.TOi2.symm e
    have hk5 : ∀ c o, c ≠ z → c ≠ TO → c ≠ i1 → c ≠ i2 → s.heap.get? c = some o → g5.get? c = some o := fun c o c1 c2 c3 c4 e => sb5.extBut _ _ c2 (sb4.extBut _ _ c4 (up3 _ _ c1 c3 c2 e))
    have hzlt : z < g5.objs.size := Heap.lt_size hz5
    show wpAny _ _ (Builtin.SmallTypes.ownedTupleHandOut (.ref z) (.ref g5.objs.size) >>= _) _ _ _
    refine wpAny_bind ?_
    unfold Builtin.SmallTypes.ownedTupleHandOut
    have hz6 : Zp (g5.push { cls := .type "tuple", data := .seq #[x, y] }) z TI TO .ellipsis f1' := Heap.get?_push_of_some _ hz5
    refine wpAny_bind (wpAny_setField_rec hz6 (by simp) fun g7 hz7 sb7 => ?_)
    replace hz7 : Zp g7 z TI TO (rawInt g5.objs.size) f1' := hz7
    refine wpAny_setField_rec hz7 (by simp) fun g8 hz8 sb8 => ?_
    replace hz8 : Zp g8 z TI TO (rawInt g5.objs.size) false := hz8
    have up : ∀ c o, c ≠ z → g5.get? c = some o → g8.get? c = some o := fun c o c1 e => sb8.extBut _ _ c1 (sb7.extBut _ _ c1 (Heap.get?_push_of_some _ e))
    have hT8 : IsPair g8 g5.objs.size x y := sb8.extBut _ _ (Nat.ne_of_gt hzlt) (sb7.extBut _ _ (Nat.ne_of_gt hzlt) (Heap.get?_push_size _ rfl))
    refine wpAny_pure ⟨_, rfl, ?_⟩
    show Q (.ref g5.objs.size) _
    rw [hsz] at hz8 hT8 ⊢
    exact hQ g8 _ _ (.inr ⟨_, rfl⟩) hz8 ⟨x, y, up _ _ D.TOz hTO5⟩ (j15.at fun o e => up _ o D.i1z e) (j25.at fun o e => up _ o D.i2z e) hT8 fun c o c1 c2 c3 c4 e => up c o c1 (hk5 c o c1 c2 c3 c4 e)
  | false =>
    simp only [Bool.false_eq_true, if_false]
    refine wpAny_bind ?_
    rw [← Array.forIn_toList]
    simp only [List.forIn_cons, List.forIn_nil]
    refine wpAny_bind (wpAny_bind (wpAny_holding ?_))
    show wpAny _ _ (Builtin.SmallTypes.nextOf (.ref i1) >>= _) _ _ _
    have up1 : ∀ c o, c ≠ z → s.heap.get? c = some o → g0.get? c = some o := fun c o n e => sb0.extBut _ _ n e
    refine wpAny_bind (nextT_item (s := { s with heap := g0 }) (h1.at fun o e => up1 _ o D.i1z e) (hl1.at fun o e => up1 _ o D.l1z e) hx fun g2 j1 sb2 => wpAny_pure ?_)
    replace sb2 : Heap.SameBut i1 g0 g2 := sb2
    refine wpAny_pure (wpAny_bind (wpAny_bind (wpAny_holding ?_)))
    show wpAny _ _ (Builtin.SmallTypes.nextOf (.ref i2) >>= _) _ _ _
    have up2 : ∀ c o, c ≠ z → c ≠ i1 → s.heap.get? c = some o → g2.get? c = some o := fun c o n1 n2 e => sb2.extBut _ _ n2 (up1 _ _ n1 e)
    refine wpAny_bind (wpAny_nextOf_list_item (h2.at fun o e => up2 _ o D.i2z D.i12.symm e) (hl2.at fun o e => up2 _ o D.l2z D.l2i1 e) hy fun g4 j2 sb4 => wpAny_pure ?_)
    replace sb4 : Heap.SameBut i2 g2 g4 := sb4
    refine wpAny_pure (wpAny_pure ?_)
    show wpAny _ _ (newTuple [x, y] >>= _) _ _ _
    refine wpAny_bind (wpAny_newTuple (wpAny_pure ⟨_, rfl, ?_⟩))
    have hsz : g4.objs.size = s.heap.objs.size := by rw [sb4.1, sb2.1, sz0]
    show Q (.ref g4.objs.size) _
    have pu : ∀ c o, g4.get? c = some o → (g4.push { cls := .type "tuple", data := .seq #[x, y] }).get? c = some o := fun c o e => Heap.get?_push_of_some _ e
    have hT8 : IsPair (g4.push { cls := .type "tuple", data := .seq #[x, y] }) g4.objs.size x y := Heap.get?_push_size _ rfl
    rw [hsz] at hT8 ⊢
    exact hQ _ _ _ hf (pu _ _ (sb4.extBut _ _ D.i2z.symm (sb2.extBut _ _ D.i1z.symm hz0))) ⟨a, b, pu _ _ (sb4.extBut _ _ D.TOi2 (up2 _ _ D.TOz D.TOi1 hTO))⟩ (j1.at fun o e => pu _ o (sb4.extBut _ _ D.i12 e)) (j2.at fun o e => pu _ o e) hT8 fun c o c1 c2 c3 c4 e => pu _ _ (sb4.extBut _ _ c4 (up2 _ _ c1 c3 e))
theorem zpt_end {z TI TO i1 i2 l1 l2 : Addr} {k1 k2 : Nat} {f0 : Value} {f1 : Bool} {xs ys : Array Value} {a b : Value} {Q : Fin → Shared → Prop} (hh : A.handled = none) (D : ZipApart z TI TO i1 i2 l1 l2) (hf : F0 f0)
    (hz : Zp s.heap z TI TO f0 f1) (hTI : IsPair s.heap TI (.ref i1) (.ref i2)) (hTO : IsPair s.heap TO a b)
    (h1 : s.heap.IsTupleIter i1 l1 k1) (h2 : s.heap.IsListIter i2 l2 k2) (hl1 : s.heap.IsTuple l1 xs) (hl2 : s.heap.IsList l2 ys) (hend : xs[k1]? = none ∨ ys[k2]? = none)
    (hE : ∀ h' e, (∀ c o, c ≠ z → c ≠ TO → c ≠ i1 → c ≠ i2 → s.heap.get? c = some o → h'.get? c = some o) → (∃ o, h'.get? e = some o ∧ o.cls = .type "StopIteration") → E (.ref e) { s with heap := h' }) :
    wpAny (model prog w) A (Builtin.«zip.__next__» ⟨[.ref z], []⟩) Q E s := by
  show wpAny _ _ (field (.ref z) 2 >>= _) _ _ _
  refine wpAny_bind (wpAny_field hz rfl (x := .bool false) rfl ?_)
  show wpAny _ _ (field (.ref z) 3 >>= _) _ _ _
  refine wpAny_bind (wpAny_field hz rfl (x := .ref TI) rfl (wpAny_bind (wpAny_seqItems hTI rfl ?_)))
  refine wpAny_bind (zp_free hf hz fun own f1' g0 hz0 sb0 => ?_)
  cases own with
  | true =>
    simp only [if_true]
    refine wpAny_bind (wpAny_rule ?_)
    refine wpAny_bind (wpAny_field (s := { s with heap := g0 }) hz0 rfl (x := .ref TO) rfl ?_)
    refine wpAny_bind (wpAny_setField_rec (s := { s with heap := g0 }) hz0 (by simp) fun g1 hz1 sb1 => ?_)
    replace hz1 : Zp g1 z TI TO .ellipsis f1' := hz1
    refine wpAny_bind ?_
    simp only [List.zipIdx_cons, List.zipIdx_nil, List.forIn_cons, List.forIn_nil]
    refine wpAny_bind (wpAny_bind (wpAny_onRaise ?_))
    show wpAny _ _ (Builtin.SmallTypes.nextOf (.ref i1) >>= _) _ _ _
    have up1 : ∀ c o, c ≠ z → s.heap.get? c = some o → g1.get? c = some o := fun c o n e => sb1.extBut _ _ n (sb0.extBut _ _ n e)
    cases hx : xs[k1]? with
    | none =>
      refine wpAny_bind (nextT_end hh (h1.at fun o e => up1 _ o D.i1z e) (hl1.at fun o e => up1 _ o D.l1z e) hx fun g2 e sb2 he => ?_)
      obtain ⟨oe, hoe, hce⟩ := he
      have hz2 : Zp g2 z TI TO .ellipsis f1' := sb2 _ _ D.i1z.symm hz1
      have hez : e ≠ z := fun q => by subst q; rw [hz2] at hoe; cases hoe; simp at hce
      exact wpAny_setField_rec hz2 (by simp) fun g3 _ sb3 => hE g3 e (fun c o c1 _ c3 _ q => sb3.extBut _ _ c1 (sb2 _ _ c3 (up1 _ _ c1 q))) ⟨oe, sb3.extBut _ _ hez hoe, hce⟩
    | some x =>
      have hy : ys[k2]? = none := by rcases hend with q | q; rw [hx] at q; cases q; exact q
      refine wpAny_bind (nextT_item (h1.at fun o e => up1 _ o D.i1z e) (hl1.at fun o e => up1 _ o D.l1z e) hx fun g2 j1 sb2 => wpAny_pure ?_)
      have hTO2 : IsPair g2 TO a b := sb2.extBut _ _ D.TOi1 (up1 _ _ D.TOz hTO)
      refine wpAny_bind (wpAny_seqItems hTO2 rfl (wpAny_bind (wpAny_updateSeq_pair hTO2 fun g3 hTO3 sb3 => ?_)))
      refine wpAny_bind (wpAny_letGo (wpAny_pure (wpAny_bind (wpAny_bind (wpAny_onRaise ?_)))))
      show wpAny _ _ (Builtin.SmallTypes.nextOf (.ref i2) >>= _) _ _ _
      have up3 : ∀ c o, c ≠ z → c ≠ i1 → c ≠ TO → s.heap.get? c = some o → g3.get? c = some o := fun c o n1 n2 n3 e => sb3.extBut _ _ n3 (sb2.extBut _ _ n2 (up1 _ _ n1 e))
      refine wpAny_bind (wpAny_nextOf_list_end hh (h2.at fun o e => up3 _ o D.i2z D.i12.symm D.TOi2.symm e) (hl2.at fun o e => up3 _ o D.l2z D.l2i1 D.l2TO e) hy fun g4 e sb4 he => ?_)
      obtain ⟨oe, hoe, hce⟩ := he
      have hz4 : Zp g4 z TI TO .ellipsis f1' := sb4 _ _ D.i2z.symm (sb3.extBut _ _ D.TOz.symm (sb2.extBut _ _ D.i1z.symm hz1))
      have hez : e ≠ z := fun q => by subst q; rw [hz4] at hoe; cases hoe; simp at hce
      exact wpAny_setField_rec hz4 (by simp) fun g5 _ sb5 => hE g5 e (fun c o c1 c2 c3 c4 q => sb5.extBut _ _ c1 (sb4 _ _ c4 (up3 _ _ c1 c3 c2 q))) ⟨oe, sb5.extBut _ _ hez hoe, hce⟩
  | false =>
    simp only [Bool.false_eq_true, if_false]
    refine wpAny_bind ?_
    rw [← Array.forIn_toList]
    simp only [List.forIn_cons, List.forIn_nil]
    refine wpAny_bind (wpAny_bind (wpAny_holding ?_))
    show wpAny _ _ (Builtin.SmallTypes.nextOf (.ref i1) >>= _) _ _ _
    have up1 : ∀ c o, c ≠ z → s.heap.get? c = some o → g0.get? c = some o := fun c o n e => sb0.extBut _ _ n e
    cases hx : xs[k1]? with
    | none =>
      refine wpAny_bind (nextT_end (s := { s with heap := g0 }) hh (h1.at fun o e => up1 _ o D.i1z e) (hl1.at fun o e => up1 _ o D.l1z e) hx fun g2 e sb2 he => ?_)
      exact hE g2 e (fun c o c1 _ c3 _ q => sb2 _ _ c3 (up1 _ _ c1 q)) he
    | some x =>
      have hy : ys[k2]? = none := by rcases hend with q | q; rw [hx] at q; cases q; exact q
      refine wpAny_bind (nextT_item (s := { s with heap := g0 }) (h1.at fun o e => up1 _ o D.i1z e) (hl1.at fun o e => up1 _ o D.l1z e) hx fun g2 j1 sb2 => wpAny_pure ?_)
      replace sb2 : Heap.SameBut i1 g0 g2 := sb2
      refine wpAny_pure (wpAny_bind (wpAny_bind (wpAny_holding ?_)))
      show wpAny _ _ (Builtin.SmallTypes.nextOf (.ref i2) >>= _) _ _ _
      have up2 : ∀ c o, c ≠ z → c ≠ i1 → s.heap.get? c = some o → g2.get? c = some o := fun c o n1 n2 e => sb2.extBut _ _ n2 (up1 _ _ n1 e)
      refine wpAny_bind (wpAny_nextOf_list_end hh (h2.at fun o e => up2 _ o D.i2z D.i12.symm e) (hl2.at fun o e => up2 _ o D.l2z D.l2i1 e) hy fun g4 e sb4 he => ?_)
      exact hE g4 e (fun c o c1 c2 c3 c4 q => sb4 _ _ c4 (up2 _ _ c1 c3 q)) he
noncomputable abbrev zq1 (h : Heap) (l : Addr) : Heap := h.push { cls := .type "tuple_iterator", data := .fields #[.ref l, .int 0 0] }
noncomputable abbrev zq2 (h : Heap) (l m : Addr) : Heap := (zq1 h l).push { cls := .type "list_iterator", data := .fields #[.ref m, .int 0 0] }
noncomputable abbrev zq3 (h : Heap) (l m : Addr) : Heap := (zq2 h l m).push { cls := .type "tuple", data := .seq #[.ref h.objs.size, .ref (zq1 h l).objs.size] }
noncomputable abbrev zq4 (h : Heap) (l m : Addr) : Heap := (zq3 h l m).push { cls := .type "tuple", data := .seq #[.none, .none] }
noncomputable abbrev zq5 (h : Heap) (l m : Addr) : Heap := (zq4 h l m).push { cls := .type "zip", data := .fields #[.none, .bool false, .bool false, .ref (zq2 h l m).objs.size, .ref (zq3 h l m).objs.size] }
theorem meets_zipT (l m : Addr) (xs ys : Array Value) : Meets (Builtin.«zip.__new__» ⟨[.type "zip", .ref l, .ref m], []⟩) (fun _ R s => s.heap.IsTuple l xs ∧ s.heap.IsList m ys ∧ R (.ok (.ret (.ref (zq4 s.heap l m).objs.size))) { s with heap := zq5 s.heap l m }) :=
  .of_wp fun prog w A R s h => by
    obtain ⟨h0, g0, d0, t0, os0⟩ := s
    obtain ⟨hl, hm, h⟩ := h
    have hsub := sub_zip
    have e1 : Heap.IsTuple (Shared.heap ⟨h0, g0, d0, t0, os0⟩) l xs := hl
    have e2 : Heap.IsList (Shared.heap ⟨zq1 h0 l, g0, d0, t0, os0⟩) m ys := Heap.IsList.push hm _
    wp_walk using wpAny_pyIter_tuple e1, wpAny_pyIter_list e2
    exact ⟨_, rfl, h⟩
theorem call_zipT {l m : Addr} {xs ys : Array Value} {Q : Value → Shared → Prop} (hl : s.heap.IsTuple l xs) (hm : s.heap.IsList m ys)
    (h : ∀ h', Zp h' (s.heap.objs.size + 4) (s.heap.objs.size + 2) (s.heap.objs.size + 3) .none false → IsPair h' (s.heap.objs.size + 2) (.ref s.heap.objs.size) (.ref (s.heap.objs.size + 1)) → IsPair h' (s.heap.objs.size + 3) .none .none →
      h'.IsTupleIter s.heap.objs.size l 0 → h'.IsListIter (s.heap.objs.size + 1) m 0 → (∀ c o, s.heap.get? c = some o → h'.get? c = some o) → Q (.ref (s.heap.objs.size + 4)) { s with heap := h' }) :
    wpAny (model prog w) A (call (.type "zip") [.ref l, .ref m]) Q E s := by
  have a1 : (zq1 s.heap l).objs.size = s.heap.objs.size + 1 := Heap.size_push ..
  have a2 : (zq2 s.heap l m).objs.size = s.heap.objs.size + 2 := (Heap.size_push ..).trans (by rw [a1])
  have a3 : (zq3 s.heap l m).objs.size = s.heap.objs.size + 3 := (Heap.size_push ..).trans (by rw [a2])
  have a4 : (zq4 s.heap l m).objs.size = s.heap.objs.size + 4 := (Heap.size_push ..).trans (by rw [a3])
  have k5 : ∀ {c : Addr} {o : Obj}, (zq4 s.heap l m).get? c = some o → (zq5 s.heap l m).get? c = some o := fun q => Heap.get?_push_of_some _ q
  have k4 : ∀ {c : Addr} {o : Obj}, (zq3 s.heap l m).get? c = some o → (zq5 s.heap l m).get? c = some o := fun q => k5 (Heap.get?_push_of_some _ q)
  have k3 : ∀ {c : Addr} {o : Obj}, (zq2 s.heap l m).get? c = some o → (zq5 s.heap l m).get? c = some o := fun q => k4 (Heap.get?_push_of_some _ q)
  have k2 : ∀ {c : Addr} {o : Obj}, (zq1 s.heap l).get? c = some o → (zq5 s.heap l m).get? c = some o := fun q => k3 (Heap.get?_push_of_some _ q)
  have b5 : (zq5 s.heap l m).get? (zq4 s.heap l m).objs.size = some { cls := .type "zip", data := .fields #[.none, .bool false, .bool false, .ref (zq2 s.heap l m).objs.size, .ref (zq3 s.heap l m).objs.size] } := Heap.get?_push_size _ rfl
  have b4 := k5 (Heap.get?_push_size (zq3 s.heap l m) (o := { cls := .type "tuple", data := .seq #[.none, .none] }) rfl)
  have b3 := k4 (Heap.get?_push_size (zq2 s.heap l m) (o := { cls := .type "tuple", data := .seq #[.ref s.heap.objs.size, .ref (zq1 s.heap l).objs.size] }) rfl)
  have b2 := k3 (Heap.get?_push_size (zq1 s.heap l) (o := { cls := .type "list_iterator", data := .fields #[.ref m, .int 0 0] }) rfl)
  have b1 := k2 (Heap.get?_push_size s.heap (o := { cls := .type "tuple_iterator", data := .fields #[.ref l, .int 0 0] }) rfl)
  rw [a2, a3, a4] at b5
  rw [a3] at b4
  rw [a1, a2] at b3
  rw [a1] at b2
  refine callType_new F.called_zip (by decide) (F.typeCall_zip_2 _ _) (F.newCall_zip_2 _ _) (fun ob => F.args_object_init_3 ob _ _) F.entry_zip_new (meets_zipT l m xs ys) ⟨hl, hm, ?_⟩
  show _ ∧ _
  rw [a4]
  exact ⟨⟨_, b5, rfl⟩, h _ b5 b3 b4 ⟨_, b1, rfl, rfl⟩ ⟨_, b2, rfl, rfl⟩ fun c o q => k2 (Heap.get?_push_of_some _ q)⟩
theorem zip_getattr_none : typeLookup (.type "zip") "__getattr__" = pure none := by rw [typeLookup_type, builtinLookup_eq_fast]; kernel_rfl
theorem entry_zip_getattribute : entryFor table "zip.__getattribute__" = some Builtin.«object.__getattribute__» :=
  entryFor_alias (id' := "object.__getattribute__") (by kernel_rfl) (by decide +kernel) (by decide +kernel) (by kernel_rfl)
theorem meets_miss_zip (a : Addr) (fs : Array Value) (sl : Array (Option Value)) (u : Tok) :
    Meets (Builtin.«object.__getattribute__» ⟨[.ref a, .str "keys" u], []⟩) (fun A R s => s.heap.get? a = some { cls := .type "zip", dict := none, data := .fields fs, slots := sl } ∧ raisesAttr (.ref a) "keys" A R s) :=
  Meets.of_wp fun prog w A R s hs => by
    obtain ⟨h0, g0, d0, t0, os0⟩ := s
    obtain ⟨hx, hs⟩ := hs
    have hT : (⟨h0, g0, d0, t0, os0⟩ : Shared).TypeIs (.ref a) "zip" := ⟨_, hx, rfl⟩
    have hmiss := keys_miss_zip
    have hname : (["__module__", "__name__", "__qualname__", "__doc__", "__annotations__"] : List Str).contains ("keys" : Str) = false := by decide +kernel
    unfold Builtin.«object.__getattribute__»
    repeat any_goals first | assumption | wp_step
    exact wpAny_raiseAttrError hs.1 hs.2 (attrMsg_fits (name := "keys") (by decide +kernel) (by size_fits))
theorem nokeys_zip {a : Addr} {o : Obj} {fs : Array Value} {Q : Option Value → Shared → Prop}
    (hx : s.heap.get? a = some o) (hc : o.cls = .type "zip") (hdat : o.data = .fields fs) (hd : o.dict = none) (hA : A.handled = none)
    (h : ∀ h' tk, (∀ b ob, s.heap.get? b = some ob → h'.get? b = some ob) → Q none { s with heap := h', toks := tk }) :
    wpAny (model prog w) A (getAttr? (.ref a) "keys") Q E s := by
  obtain ⟨c, dct, dat, sl⟩ := o
  simp only at hc hdat hd
  subst hc hdat hd
  obtain ⟨h0, g0, d0, t0, os0⟩ := s
  have hT : ∀ tk', (⟨h0, g0, d0, tk', os0⟩ : Shared).TypeIs (.ref a) "zip" := fun _ => ⟨_, hx, rfl⟩
  have f1 := sub_AttributeError
  have f3 := F.slot_zip_getattribute.lookup
  have f4 := F.slot_zip_getattribute.bind (.ref a)
  have f5 := zip_getattr_none
  unfold getAttr? getAttrBy? getAttrBy
  repeat (any_goals (first | assumption | exact hT _ | ((with_reducible show wpAny _ _ (call (Value.builtin "zip.__getattribute__") _ _) _ _ _); refine call_meets F.slot_zip_getattribute (hT _) entry_zip_getattribute (F.args_zip_getattribute_2 _ _) (meets_miss_zip a fs sl _) ⟨hx, hA, fun h' tk' e hx' => ?_⟩) | wp_step))
  obtain ⟨t', u', he⟩ := hx'.there
  show wpAny _ _ (getattributeRaised _ _ _ _ _ _ _) _ _ _
  unfold getattributeRaised
  repeat (any_goals (first | assumption | wp_step))
  exact h _ _ hx'.keeps
end
noncomputable def Itzt (K : PySem.W.Frag) (a b : Addr) : It :=
  ⟨fun i H => ∃ xs ys x y, SqT K H a xs ∧ SqL K H b ys ∧ xs[i]? = some x ∧ ys[i]? = some y,
   fun i H v H' => ∃ p x y, H p = none ∧ v = .ref p ∧ (∀ xs, SqT K H a xs → xs[i]? = some x) ∧ (∀ ys, SqL K H b ys → ys[i]? = some y) ∧ H' = upd H p (.tup [x, y]),
   fun i H => ∃ xs ys, SqT K H a xs ∧ SqL K H b ys ∧ (xs.length ≤ i ∨ ys.length ≤ i)⟩
theorem turn_zipT {P : Program} {w : World} {K : PySem.W.Frag} {nm : Str} {tp : Pos} (a b z TI TO i1 i2 : Addr) (D : ZipApart z TI TO i1 i2 a b) :
    Turn P w K (.Name nm tp) (Itzt K a b) [z, TI, TO, i1, i2] z (fun i h => (∃ f0 f1, F0 f0 ∧ Zp h z TI TO f0 f1) ∧ IsPair h TI (.ref i1) (.ref i2) ∧ (∃ c d, IsPair h TO c d) ∧ h.IsTupleIter i1 a i ∧ h.IsListIter i2 b i) where
  mem := by simp
  obj := fun i h st c hc => by
    obtain ⟨⟨f0, f1, _, hz⟩, hTI, ⟨u, v, hTO⟩, ⟨o1, e1, _, d1⟩, ⟨o2, e2, _, d2⟩⟩ := st
    have hc : c = z ∨ c = TI ∨ c = TO ∨ c = i1 ∨ c = i2 := by simpa using hc
    rcases hc with rfl | rfl | rfl | rfl | rfl
    · exact ⟨_, hz, fun v q => by cases q⟩
    · exact ⟨_, hTI, fun v q => by cases q⟩
    · exact ⟨_, hTO, fun v q => by cases q⟩
    · exact ⟨_, e1, fun v q => by rw [d1] at q; cases q⟩
    · exact ⟨_, e2, fun v q => by rw [d2] at q; cases q⟩
  keep := fun i h h' st k => by
    obtain ⟨⟨f0, f1, hf, hz⟩, hTI, ⟨u, v, hTO⟩, h1, h2⟩ := st
    exact ⟨⟨f0, f1, hf, k z (by simp) _ hz⟩, k TI (by simp) _ hTI, ⟨u, v, k TO (by simp) _ hTO⟩, h1.at fun o e => k i1 (by simp) o e, h2.at fun o e => k i2 (by simp) o e⟩
  item := by
    intro X hP hw hK hc i pins s σ H E I hf st hg
    subst hP hw hK
    obtain ⟨⟨f0, f1, hf0, hz⟩, hTI, ⟨ta, tb, hTO⟩, h1, h2⟩ := st
    obtain ⟨xs, ys, x, y, hqa, hqb, hx, hy⟩ := hg
    obtain ⟨its, rv, pa, _⟩ := I.tuple hqa
    obtain ⟨jts, rw', pb, _⟩ := I.list hqb
    obtain ⟨u, hu, ru⟩ := rv.get hx
    obtain ⟨v, hv, rv'⟩ := rw'.get hy
    refine zip_next_typed ⟨_, hz, rfl⟩ (zpt_item D hf0 hz hTI hTO h1 h2 (show s.heap.IsTuple a its.toArray from pa) pb.isList (x := u) (y := v) (by simpa using hu) (by simpa using hv) fun h' f0' f1' hf' hz' hTO' j1 j2 hpr k => ⟨_, rfl, ?_⟩)
    refine wpAny_pure (s := { s with heap := h' }) ?_
    have hp : H s.heap.objs.size = none := I.hok.fresh (Nat.le_refl _)
    have fr : ∀ c ∈ [z, TI, TO, i1, i2], H c = none := fun c hc => (hf c hc).1
    have nit : ∀ c o, H c = some o → c ≠ z ∧ c ≠ TO ∧ c ≠ i1 ∧ c ≠ i2 := fun c o q => by
      refine ⟨?_, ?_, ?_, ?_⟩ <;> (intro e; rw [e, fr _ (by simp)] at q; cases q)
    have up : ∀ c o, H c = some o → upd H s.heap.objs.size (.tup [x, y]) c = some o := fun c o q => by rw [upd_ne (ne_of_none q hp)]; exact q
    have kk : ∀ c o, c ∉ [z, TO, i1, i2] → s.heap.get? c = some o → h'.get? c = some o := fun c o n q => k c o (fun e => n (by simp [e])) (fun e => n (by simp [e])) (fun e => n (by simp [e])) (fun e => n (by simp [e])) q
    have mem5 : ∀ c ∈ [z, TO, i1, i2], c ∈ [z, TI, TO, i1, i2] := fun c hc => by simp at hc ⊢; rcases hc with e | e | e | e <;> simp [e]
    have hlt : ∀ c ∈ [z, TI, TO, i1, i2], c < s.heap.objs.size := fun c hc => by
      have hc : c = z ∨ c = TI ∨ c = TO ∨ c = i1 ∨ c = i2 := by simpa using hc
      rcases hc with rfl | rfl | rfl | rfl | rfl
      · exact Heap.lt_size hz
      · exact Heap.lt_size hTI
      · exact Heap.lt_size hTO
      · obtain ⟨o, e, _⟩ := h1; exact Heap.lt_size e
      · obtain ⟨o, e, _⟩ := h2; exact Heap.lt_size e
    have I1 : Inv X pins σ (upd H s.heap.objs.size (.tup [x, y])) { s with heap := h', gens := s.gens, drawn := s.drawn, toks := s.toks } := by
      refine I.step (g' := s.gens) (d' := s.drawn) (ch := [z, TO, i1, i2]) (fun c hc => ?_) (fun c o _ _ n q _ => kk c o n q) (fun c o _ _ n q _ => ⟨o.slots, kk c o n q⟩) (fun c o _ q n => ?_) (fun c o n q => ⟨o, kk c o n q⟩) (fun c ys q => up c _ q) (fun c o v q => up c _ q) (fun c ps q => ⟨#[], by rw [up c _ q]; simp⟩) (fun m hm => ?_) (fun c o q => ?_) I.bare
      · obtain ⟨_, g1, _, g3, g4, g5⟩ := hf c (mem5 c hc)
        exact ⟨g3, g1, g4, g5⟩
      · rw [upd_ne (Nat.ne_of_lt (Heap.lt_size q))]; exact n
      · obtain ⟨o, es, ep, ho, r⟩ := hm
        refine ⟨o, es, ep, kk _ o (fun n => ?_) ho, r⟩
        exact (hf _ (mem5 _ n)).2.1 rfl
      · by_cases hb : c = s.heap.objs.size
        · subst hb
          rw [upd_same] at q
          have q' : HO.tup [x, y] = o := Option.some.inj q
          subst q'
          exact ⟨by show 2 ≤ sizeLine; decide, [u, v], .cons ru (.cons rv' .nil), ⟨_, hpr, rfl, _, rfl, rfl⟩⟩
        · rw [upd_ne hb] at q
          refine (I.hok c o q).stay (fun d o' hd q' => ?_) (fun d q => up d _ q) fun d ys q => up d _ q
          rcases hd with e | e
          · rw [e] at q' ⊢; obtain ⟨n1, n2, n3, n4⟩ := nit c o q; exact k c o' n1 n2 n3 n4 q'
          · obtain ⟨n1, n2, n3, n4⟩ := nit d _ e; exact k d o' n1 n2 n3 n4 q'
    refine ⟨.ref s.heap.objs.size, upd H s.heap.objs.size (.tup [x, y]), I1, rfl, ⟨_, x, y, hp, rfl, fun zs hz => by rw [I.tuple_inj hz hqa]; exact hx, fun zs hz => by rw [I.list_inj hz hqb]; exact hy, rfl⟩, ⟨⟨f0', f1', hf', hz'⟩, ?_, hTO', j1, j2⟩, fun c hc => ?_⟩
    · exact k TI _ D.TIz D.TITO D.TIi1 D.TIi2 hTI
    · rw [upd_ne (Nat.ne_of_lt (hlt c hc))]; exact fr c hc
  done := by
    intro X hP hw hK hc i pins s σ H E I hf st hg
    subst hP hw hK
    obtain ⟨⟨f0, f1, hf0, hz⟩, hTI, ⟨ta, tb, hTO⟩, h1, h2⟩ := st
    obtain ⟨xs, ys, hqa, hqb, hxy⟩ := hg
    obtain ⟨its, rv, pa, _⟩ := I.tuple hqa
    obtain ⟨jts, rw', pb, _⟩ := I.list hqb
    have l1 := rv.length
    have l2 := rw'.length
    have hend : its.toArray[i]? = none ∨ jts.toArray[i]? = none := by
      rcases hxy with q | q
      · exact .inl (by simp; omega)
      · exact .inr (by simp; omega)
    refine zip_next_typed ⟨_, hz, rfl⟩ (zpt_end (A := X.A.in1) (show X.A.in1.handled = none from I.ok.hd hc) D hf0 hz hTI hTO h1 h2 (show s.heap.IsTuple a its.toArray from pa) pb.isList hend fun h' e k he => ⟨he, ⟨e, rfl⟩, rfl, ?_⟩)
    have fr : ∀ c ∈ [z, TI, TO, i1, i2], H c = none := fun c hc => (hf c hc).1
    have nit : ∀ c o, H c = some o → c ≠ z ∧ c ≠ TO ∧ c ≠ i1 ∧ c ≠ i2 := fun c o q => by
      refine ⟨?_, ?_, ?_, ?_⟩ <;> (intro e; rw [e, fr _ (by simp)] at q; cases q)
    have kk : ∀ c o, c ∉ [z, TO, i1, i2] → s.heap.get? c = some o → h'.get? c = some o := fun c o n q => k c o (fun e => n (by simp [e])) (fun e => n (by simp [e])) (fun e => n (by simp [e])) (fun e => n (by simp [e])) q
    have mem5 : ∀ c ∈ [z, TO, i1, i2], c ∈ [z, TI, TO, i1, i2] := fun c hc => by simp at hc ⊢; rcases hc with e | e | e | e <;> simp [e]
    refine I.step (h' := h') (g' := s.gens) (d' := s.drawn) (t' := s.toks) (ch := [z, TO, i1, i2]) (fun c hc => ?_) (fun c o _ _ n q _ => kk c o n q) (fun c o _ _ n q _ => ⟨o.slots, kk c o n q⟩) (fun c o _ q n => n) (fun c o n q => ⟨o, kk c o n q⟩) (fun c ys q => q) (fun c o v q => q) (fun c ps q => ⟨#[], by rw [q]; simp⟩) (fun m hm => ?_) (fun c o q => ?_) I.bare
    · obtain ⟨_, g1, _, g3, g4, g5⟩ := hf c (mem5 c hc)
      exact ⟨g3, g1, g4, g5⟩
    · obtain ⟨o, es, ep, ho, r⟩ := hm
      refine ⟨o, es, ep, kk _ o (fun n => ?_) ho, r⟩
      exact (hf _ (mem5 _ n)).2.1 rfl
    · refine (I.hok c o q).stay (fun d o' hd q' => ?_) (fun d q => q) fun d ys q => q
      rcases hd with e | e
      · rw [e] at q' ⊢; obtain ⟨n1, n2, n3, n4⟩ := nit c o q; exact k c o' n1 n2 n3 n4 q'
      · obtain ⟨n1, n2, n3, n4⟩ := nit d _ e; exact k d o' n1 n2 n3 n4 q'
  self := fun A i s Q E st h => by
    obtain ⟨⟨f0, f1, hf0, hz⟩, _⟩ := st
    have hT : s.TypeIs (.ref z) "zip" := ⟨_, hz, rfl⟩
    refine wpAny_pyIter_slot hT F.slot_zip_iter (wpAny_call_entry F.slot_zip_iter hT F.entry_zip_iter ?_ (F.args_zip_iter_1 _))
    show wpAny _ _ (ret (.ref z)) _ _ s
    exact wpAny_pure ⟨_, rfl, "zip", _, hT, F.slot_zip_next.lookup, h⟩
end L2
namespace L2
open PySem PySem.Spec PyProof.Rows
theorem Rd.same' {H H' : Hp} {a : Addr} {u : HO} (r : Rd H a u) (s : Same H H') : Rd H' a u := by
  rcases r with r | ⟨o, r⟩
  · exact .inl (s _ _ r)
  · exact .inr ⟨o, s _ _ r⟩
theorem SqT.same' {K : PySem.W.Frag} {H H' : Hp} {a : Addr} {xs : List V} (r : SqT K H a xs) (s : Same H H') : SqT K H' a xs := by
  rcases r with r | r
  · exact .inl (r.same' s)
  · exact .inr r
theorem SqL.same' {K : PySem.W.Frag} {H H' : Hp} {a : Addr} {xs : List V} (r : SqL K H a xs) (s : Same H H') : SqL K H' a xs := by
  rcases r with r | r
  · exact .inl (r.same' s)
  · exact .inr r
noncomputable def zipK (ks : List Str) (ys : List V) : List (Key × V) := (ks.map Sum.inr).zip ys
theorem call_dictZ {X : Cx} (hc : X.calm = true) (hu : X.A.units + 64 < cLine) {pins : List (Addr × Obj)} {s : Shared} {σ : St} {H : Hp} {a b z TI TO i1 i2 : Addr} {ks : List Str} {ys : List V} {Q : VK} (I : Inv X pins σ H s) (D : ZipApart z TI TO i1 i2 a b)
    (t0 : (∃ f0 f1, F0 f0 ∧ Zp s.heap z TI TO f0 f1) ∧ IsPair s.heap TI (.ref i1) (.ref i2) ∧ (∃ c d, IsPair s.heap TO c d) ∧ s.heap.IsTupleIter i1 a 0 ∧ s.heap.IsListIter i2 b 0) (hf : ∀ c ∈ [z, TI, TO, i1, i2], FpOk X pins H c)
    (hqa : SqT X.K H a (List.map V.str ks)) (hqb : SqL X.K H b ys) (hl : ks.length = ys.length) (hn : ks.length ≤ 1000) (q : ∀ l H2, H l = none → Same H H2 → H2 l = some (.dK (mkK (zipK ks ys))) → Q (.ref l) H2) :
    wpAny (model X.prog X.w) X.A (call (.type "dict") [.ref z]) (EP X pins σ Q) X.xe s := by
  have T := turn_zipT (P := X.prog) (w := X.w) (K := X.K) (nm := "x") (tp := default) a b z TI TO i1 i2 D
  have hlt : ∀ c ∈ [z, TI, TO, i1, i2], c < s.heap.objs.size := fun c hc => by
    obtain ⟨o, e, _⟩ := T.obj 0 s.heap t0 c hc
    exact Heap.lt_size e
  have zl : (zipK ks ys).length = ks.length := by unfold zipK; rw [List.length_zip, List.length_map]; omega
  refine callType_codes (Q₁ := fun ob s1 => ob = .ref s.heap.objs.size ∧ s1 = { s with heap := s.heap.push { cls := .type "dict", data := .dict #[] } }) F.kt_called_dict (F.kt_typeCall_dict_1 _) F.entry_dict_init (kt_code_dict_new _ ⟨rfl, rfl⟩) ?_
  rintro ob s1 ⟨rfl, rfl⟩
  have hfree : H s.heap.objs.size = none := I.hok.fresh (Nat.le_refl _)
  have I1 : Inv X pins σ (upd H s.heap.objs.size (.dK [])) { s with heap := s.heap.push { cls := .type "dict", data := .dict #[] } } :=
    I.laid (a := s.heap.objs.size) (o := .dK []) (t' := s.toks) (fun _ _ q => Heap.get?_push_of_some _ q) (Nat.le_refl _) (dk_empty s.heap I.big)
  have hnew : (⟨s.heap.push { cls := .type "dict", data := .dict #[] }, s.gens, s.drawn, s.toks, s.os⟩ : Shared).TypeIs (.ref s.heap.objs.size) "dict" := ⟨_, Heap.get?_push_size _ rfl, rfl⟩
  refine ⟨hnew, F.args_dict_init_2 _ _, ?_⟩
  unfold Builtin.«dict.__init__»
  refine wpAny_bind ?_
  unfold Builtin.Dict.selfAndRest
  refine wpAny_bind (wpAny_notOrdered_dict hnew ?_)
  show wpAny _ _ (pure (s.heap.objs.size, [Value.ref z])) _ _ _
  refine wpAny_pure ?_
  show wpAny _ _ (Builtin.Dict.updateFrom "dict.__init__" s.heap.objs.size (.ref z) [] .none) _ _ _
  unfold Builtin.Dict.updateFrom
  have hA : X.A.in1.in1.handled = none := I.ok.hd hc
  have t1 := T.keep 0 s.heap (s.heap.push { cls := .type "dict", data := .dict #[] }) t0 fun c _ o e => Heap.get?_push_of_some _ e
  obtain ⟨⟨f0, f1, hf0, hz⟩, _⟩ := id t1
  refine wpAny_bind (wpAny_typeOf (T := "zip") ⟨_, hz, rfl⟩ ?_)
  rw [if_pos (by decide)]
  refine wpAny_bind (nokeys_zip hz rfl rfl rfl hA fun h' tk kp => ?_)
  have I2 := I1.kept (h' := h') (t' := tk) kp
  have t2 := T.keep 0 _ h' t1 fun c _ o e => kp c o e
  refine wpAny_bind (wpAny_rule (wpAny_bind ?_))
  refine T.self X.A.in1.in1 0 { s with heap := h', toks := tk } _ _ t2 ?_
  refine wpAny_pure ⟨plainId_quiet DU.plain_loop _, ?_⟩
  refine dict_loop (nm := "x") (tp := default) T hc hu s.heap.objs.size ks.length (fun i H' => Same H H' ∧ H' s.heap.objs.size = some (.dK (mkK ((zipK ks ys).take i)))) (fun i H' hi e => ?_) (fun H' e => ?_) _ 0 0 _ _ rfl (Nat.zero_le _) I2 (fun c hc => ?_) t2 ?_ ?_
  · obtain ⟨sm, hd⟩ := e
    have hx : (List.map V.str ks)[i]? = some (V.str ks[i]) := by simp [hi]
    have hy : ys[i]? = some (ys[i]'(by omega)) := List.getElem?_eq_getElem (by omega)
    refine ⟨⟨_, _, _, _, hqa.same' sm, hqb.same' sm, hx, hy⟩, fun x H1 yl => ?_⟩
    obtain ⟨p, u, v, hp, rfl, hu1, hv1, rfl⟩ := yl
    have e1 : V.str ks[i] = u := Option.some.inj (hx.symm.trans (hu1 _ (hqa.same' sm)))
    have e2 : ys[i]'(by omega) = v := Option.some.inj (hy.symm.trans (hv1 _ (hqb.same' sm)))
    subst e1 e2
    have npl : s.heap.objs.size ≠ p := ne_of_none hd hp
    have hzk : (zipK ks ys)[i]? = some (.inr ks[i], ys[i]'(by omega)) := by
      unfold zipK
      rw [List.getElem?_zip_eq_some]
      exact ⟨by simp [hi], hy⟩
    have hkl : (mkK ((zipK ks ys).take i)).length < sizeLine := by
      have := mkK_le ((zipK ks ys).take i)
      rw [List.length_take] at this
      exact small1000 (by omega)
    refine ⟨p, V.str ks[i], _, _, rfl, .of upd_same, DPut.k (k := .inr ks[i]) (by rw [upd_ne npl]; exact hd) hkl, fun c o hc => ?_, ?_⟩
    · have h1 := sm c o hc
      rw [upd_ne (ne_of_none hc hfree), upd_ne (ne_of_none h1 hp)]
      exact h1
    · rw [upd_same, mkK_take _ i _ hzk]
  · obtain ⟨sm, hd⟩ := e
    exact ⟨_, _, hqa.same' sm, hqb.same' sm, .inl (by rw [List.length_map]; exact Nat.le_refl _)⟩
  · obtain ⟨g0, g1, g2, g3, g4, g5⟩ := hf c hc
    exact ⟨by rw [upd_ne (Nat.ne_of_lt (hlt c hc))]; exact g0, g1, g2, g3, g4, g5⟩
  · exact ⟨Same.new hfree, by rw [upd_same]; rfl⟩
  · intro H' s' I' e
    obtain ⟨sm, hd⟩ := e
    rw [← zl, List.take_of_length_le (Nat.le_refl _)] at hd
    exact ⟨rfl, .ref _, _, I', rfl, q _ _ hfree sm hd⟩
noncomputable def tDZip (K : PySem.W.Frag) (ta : TA) : TE := fun σ H Q => ta σ H fun vs H1 => ∃ a b ks ys, vs = [.ref a, .ref b] ∧ SqT K H1 a (List.map V.str ks) ∧ SqL K H1 b ys ∧ ks.length = ys.length ∧ ks.length ≤ 1000 ∧ ∀ l H2, H1 l = none → Same H1 H2 → H2 l = some (.dK (mkK (zipK ks ys))) → Q (.ref l) H2
theorem pe_dzip (K : PySem.W.Frag) {X : Cx} {a b : Expr} {ta : TA} {p p2 pos pos2 : Pos} (hc : X.calm = true) (hu : X.A.units + 64 < cLine) (B : Blt X.mg) (hm : X.mg "zip" = none) (ha : PA X [a, b] ta) (hgd : Gl X "dict" := by rfl) (hgz : Gl X "zip" := by rfl)
    (he : starEach [.Call (.Name "zip" p2) [a, b] [] pos2] X.env = (false, eval (.Call (.Name "zip" p2) [a, b] [] pos2) X.env) :: starEach [] X.env := by rfl) (hpl : (backTo pos (starEach [] X.env)).any (·.1) = false := by rfl)
    (hs : starEach [a, b] X.env = (false, eval a X.env) :: starEach [b] X.env := by rfl) (hp2 : (backTo pos2 (starEach [b] X.env)).any (·.1) = false := by rfl) (hK : X.K = K := by rfl) :
    PE X (.Call (.Name "dict" p) [.Call (.Name "zip" p2) [a, b] [] pos2] [] pos) (tDZip K ta) := by
  subst hK
  intro pins s σ H Q I h
  refine wpAny_Call_Name_kw (ld_blt I hgd B.dict (show bootBuiltins "dict" = some (.type "dict") by decide +kernel) ?_ (by decide) (by decide))
  refine PyProof.Rows.callWith_type1 ?_ he hpl
  rw [he]
  show wpAny _ _ (spliced ((false, eval (.Call (.Name "zip" p2) [a, b] [] pos2) X.env) :: backTo pos (starEach [] X.env))) _ _ s
  refine Calls.spliced_cons ?_
  refine Call_ (ld_blt I hgz hm (show bootBuiltins "zip" = some (.type "zip") by decide +kernel) (PyProof.Rows.callWith_type1 (thn (ha pos2 pins s σ H _ I h) fun us s1 ⟨vs, H1, I1, r1, q1⟩ => ?_) hs hp2))
  obtain ⟨l, m, ks, ys, rfl, hqa, hqb, hl, hn, q⟩ := q1
  obtain ⟨u1, u2, rfl, r1, r2⟩ := vals2 r1
  cases r1
  cases r2
  obtain ⟨its, rv, pa, _⟩ := I1.tuple hqa
  obtain ⟨jts, rw', pb, _⟩ := I1.list hqb
  have a1 : l < s1.heap.objs.size := by obtain ⟨_, e, _⟩ := pa; exact Heap.lt_size e
  have a2 : m < s1.heap.objs.size := by obtain ⟨_, e, _⟩ := pb.isList; exact Heap.lt_size e
  refine call_zipT (show s1.heap.IsTuple l its.toArray from pa) pb.isList fun h' hz hTI hTO hi1 hi2 hk => ?_
  refine Calls.spliced_nil ?_
  have I2 := I1.kept (t' := s1.toks) hk
  refine call_dictZ hc hu I2 (zipApart_new a1 a2) ⟨⟨_, _, .inl rfl, hz⟩, hTI, ⟨_, _, hTO⟩, hi1, hi2⟩ (fun c hc => ?_) hqa hqb hl hn q
  have hb : c = s1.heap.objs.size + 4 ∨ c = s1.heap.objs.size + 2 ∨ c = s1.heap.objs.size + 3 ∨ c = s1.heap.objs.size ∨ c = s1.heap.objs.size + 1 := by simpa using hc
  have hle : s1.heap.objs.size ≤ c := by rcases hb with e | e | e | e | e <;> rw [e] <;> first | exact Nat.le_refl _ | exact Nat.le_add_right _ _
  exact I1.fpOk hle (I1.hok.fresh hle)
end L2
namespace MG
noncomputable def Ris (es : List (Nat × Nat)) : Prop := ∃ r : Nat → Nat, ∀ e ∈ es, r e.1 < r e.2
theorem Ris.noring {es : List (Nat × Nat)} (h : Ris es) : ∀ e ∈ es, ¬ RingAt es e := by
  obtain ⟨r, hr⟩ := h
  have key : ∀ k x y, Walk (Arr (swp es)) k x y → r y ≤ r x := by
    intro k
    induction k with
    | zero => intro x y w; have e : y = x := by first | exact w | exact w.symm
              rw [e]; exact Nat.le_refl _
    | succ k ih =>
      intro x y w
      obtain ⟨z, w1, w2⟩ := w
      first
        | (have h1 := ih x z w1
           have h2 := hr (y, z) (mem_swp.mp w2)
           have h2 : r y < r z := h2
           omega)
        | (have h1 := ih z y w2
           have h2 := hr (z, x) (mem_swp.mp w1)
           have h2 : r z < r x := h2
           omega)
  intro e he ⟨k, d⟩
  have h1 := key k e.1 e.2 d.1
  have h2 := hr e he
  omega
structure IsL (es : List (Nat × Nat)) (n : Nat) (L : Nat → Nat) : Prop where
  up : ∀ e ∈ es, L e.1 + 1 ≤ L e.2
  eq : ∀ v, v < n → L v = 0 ∨ ∃ u, (u, v) ∈ es ∧ L v = L u + 1
theorem nodup_le {l : List Nat} {n : Nat} (nd : l.Nodup) (h : ∀ x ∈ l, x < n) : l.length ≤ n := by
  have key : ∀ (l ws : List Nat), l.Nodup → (∀ x ∈ l, x ∈ ws) → l.length ≤ ws.length := by
    intro l
    induction l with
    | nil => intro ws _ _; exact Nat.zero_le _
    | cons s r ih =>
      intro ws nd hm
      obtain ⟨h1, h2⟩ := List.nodup_cons.mp nd
      have p := (List.perm_cons_erase (hm s (by simp))).length_eq
      rw [List.length_cons] at p ⊢
      have := ih (ws.erase s) h2 fun x hx => (List.mem_erase_of_ne (fun z : x = s => h1 (z ▸ hx))).mpr (hm x (List.mem_cons_of_mem _ hx))
      omega
  have := key l (List.range n) nd fun x hx => List.mem_range.mpr (h x hx)
  rwa [List.length_range] at this
theorem IsL.lt {es : List (Nat × Nat)} {n : Nat} {L : Nat → Nat} (h : IsL es n L) (val : ∀ e ∈ es, e.1 < n ∧ e.2 < n) : ∀ v, v < n → L v < n := by
  have key : ∀ k v, v < n → L v = k → ∃ f : Nat → Nat, ∀ j, j ≤ k → f j < n ∧ L (f j) = j := by
    intro k
    induction k with
    | zero => intro v hv e; exact ⟨fun _ => v, fun j hj => ⟨hv, by rw [e]; omega⟩⟩
    | succ k ih =>
      intro v hv e
      rcases h.eq v hv with q | ⟨u, hu, q⟩
      · omega
      · obtain ⟨f, hf⟩ := ih u (val _ hu).1 (by omega)
        refine ⟨fun j => if j = k + 1 then v else f j, fun j hj => ?_⟩
        by_cases q : j = k + 1
        · simp only [if_pos q]; exact ⟨hv, by rw [e, q]⟩
        · simp only [if_neg q]; exact hf j (by omega)
  intro v hv
  obtain ⟨f, hf⟩ := key (L v) v hv rfl
  have nd : ((List.range (L v + 1)).map f).Nodup := by
    rw [List.Nodup, List.pairwise_map]
    refine List.Pairwise.imp_of_mem (fun {a b} ha hb hab z => hab ?_) (List.nodup_range (n := L v + 1))
    have h1 := (hf a (by have := List.mem_range.mp ha; omega)).2
    have h2 := (hf b (by have := List.mem_range.mp hb; omega)).2
    rw [← h1, ← h2, z]
  have := nodup_le nd fun x hx => by
    obtain ⟨j, hj, rfl⟩ := List.mem_map.mp hx
    exact (hf j (by have := List.mem_range.mp hj; omega)).1
  rw [List.length_map, List.length_range] at this
  omega
end MG
namespace L2
open PySem PySem.Spec PyProof.Rows
theorem putK_snoc {kvs : List (Key × V)} {k : Key} {v : V} (h : k ∉ kvs.map (·.1)) : putK kvs k v = kvs ++ [(k, v)] := by
  unfold putK
  rw [if_neg]
  intro z
  obtain ⟨kv, hm, e⟩ := List.any_eq_true.mp z
  exact h (List.mem_map.mpr ⟨kv, hm, of_decide_eq_true e⟩)
theorem mkK_zip : ∀ (ks : List Str) (ys : List V), ks.Nodup → mkK (zipK ks ys) = zipK ks ys := by
  have key : ∀ (ks : List Str) (ys : List V) (m : List (Key × V)), ks.Nodup → (∀ k ∈ ks, (Sum.inr k : Key) ∉ m.map (·.1)) → (zipK ks ys).foldl (fun m q => putK m q.1 q.2) m = m ++ zipK ks ys := by
    intro ks
    induction ks with
    | nil => intro ys m _ _; unfold zipK; simp
    | cons k ks ih =>
      intro ys m nd hm
      cases ys with
      | nil => unfold zipK; simp
      | cons y ys =>
        obtain ⟨h1, h2⟩ := List.nodup_cons.mp nd
        have e : zipK (k :: ks) (y :: ys) = (.inr k, y) :: zipK ks ys := rfl
        rw [e, List.foldl_cons]
        show List.foldl _ (putK m (.inr k) y) _ = _
        rw [putK_snoc (hm k (by simp)), ih ys _ h2 (fun x hx => ?_)]
        · simp
        · rw [List.map_append, List.mem_append]
          rintro (z | z)
          · exact hm x (List.mem_cons_of_mem _ hx) z
          · have : (Sum.inr x : Key) = Sum.inr k := by simpa using z
            exact h1 (Sum.inr.inj this ▸ hx)
  intro ks ys nd
  unfold mkK
  rw [key ks ys [] nd (fun k _ h => by cases h)]
  rfl
theorem valV_zip : ∀ {ks : List Str} {ys : List V} {i : Nat} {k : Str} {y : V}, ks.Nodup → ks[i]? = some k → ys[i]? = some y → valV (zipK ks ys) (.inr k) = some y
  | [], _, _, _, _, _, h, _ => by simp at h
  | k :: ks, [], _, _, _, _, _, h => by simp at h
  | k :: ks, y :: ys, 0, k', y', nd, h1, h2 => by
    have e1 : k = k' := by simpa using h1
    have e2 : y = y' := by simpa using h2
    subst e1 e2
    exact valV_pos (p := (Sum.inr k, y)) rfl
  | k :: ks, y :: ys, i + 1, k', y', nd, h1, h2 => by
    obtain ⟨n1, n2⟩ := List.nodup_cons.mp nd
    have h1 : ks[i]? = some k' := by simpa using h1
    have h2 : ys[i]? = some y' := by simpa using h2
    have ne : ¬ (Sum.inr k : Key) = Sum.inr k' := fun z => n1 (by rw [Sum.inr.inj z]; exact List.mem_of_getElem? h1)
    show valV ((Sum.inr k, y) :: zipK ks ys) _ = _
    rw [valV_neg ne]
    exact valV_zip n2 h1 h2
theorem once {G T : Prop} (m : T → G) (t : T) : G := m t
end L2
namespace MG
structure IsD (es : List (Nat × Nat)) (W D : Nat → Int) : Prop where
  ge : ∀ v, W v ≤ D v
  up : ∀ e ∈ es, D e.1 + W e.2 ≤ D e.2
  eq : ∀ v, D v = W v ∨ ∃ u, (u, v) ∈ es ∧ D v = D u + W v
noncomputable def mx : List Int → Int
  | [] => 0
  | x :: l => max x (mx l)
theorem mx_nn : ∀ l, 0 ≤ mx l
  | [] => Int.le_refl 0
  | x :: l => by have := mx_nn l; show 0 ≤ max x (mx l); omega
theorem mx_up : ∀ {l : List Int} {x : Int}, x ∈ l → x ≤ mx l
  | y :: l, x, h => by
    show x ≤ max y (mx l)
    rcases List.mem_cons.mp h with rfl | h
    · omega
    · have := mx_up h; omega
theorem mx_eq : ∀ l : List Int, mx l = 0 ∨ mx l ∈ l
  | [] => .inl rfl
  | y :: l => by
    show max y (mx l) = 0 ∨ max y (mx l) ∈ y :: l
    by_cases q : mx l ≤ y
    · rw [show max y (mx l) = y by omega]; exact .inr (by simp)
    · rw [show max y (mx l) = mx l by omega]
      rcases mx_eq l with h | h
      · exact .inl h
      · exact .inr (List.mem_cons_of_mem _ h)
noncomputable def dp (es : List (Nat × Nat)) (W : Nat → Int) : Nat → Nat → Int
  | 0, _ => 0
  | k + 1, v => W v + mx ((es.filter fun e => decide (e.2 = v)).map fun e => dp es W k e.1)
theorem dp_st {es : List (Nat × Nat)} {W : Nat → Int} {r : Nat → Nat} (hr : ∀ e ∈ es, r e.1 < r e.2) : ∀ k m v, r v < k → r v < m → dp es W k v = dp es W m v := by
  intro k
  induction k with
  | zero => intro m v h; omega
  | succ k ih =>
    intro m v h1 h2
    cases m with
    | zero => omega
    | succ m =>
      show W v + mx _ = W v + mx _
      congr 2
      refine List.map_congr_left fun e he => ?_
      obtain ⟨a, b⟩ := List.mem_filter.mp he
      have b : e.2 = v := of_decide_eq_true b
      have := hr e a
      rw [b] at this
      exact ih m e.1 (by omega) (by omega)
theorem depth_ex {es : List (Nat × Nat)} (h : Ris es) (W : Nat → Int) : ∃ D, IsD es W D := by
  obtain ⟨r, hr⟩ := h
  have e : ∀ v, dp es W (r v + 1) v = W v + mx ((es.filter fun e => decide (e.2 = v)).map fun e => dp es W (r e.1 + 1) e.1) := by
    intro v
    show W v + mx _ = W v + mx _
    congr 2
    refine List.map_congr_left fun e he => ?_
    obtain ⟨a, b⟩ := List.mem_filter.mp he
    have b : e.2 = v := of_decide_eq_true b
    have := hr e a
    rw [b] at this
    exact dp_st hr _ _ e.1 (by omega) (by omega)
  refine ⟨fun v => dp es W (r v + 1) v, fun v => ?_, fun a ha => ?_, fun v => ?_⟩
  · rw [e v]; have := mx_nn ((es.filter fun e => decide (e.2 = v)).map fun e => dp es W (r e.1 + 1) e.1); omega
  · rw [e a.2]
    have := mx_up (l := (es.filter fun e => decide (e.2 = a.2)).map fun e => dp es W (r e.1 + 1) e.1) (List.mem_map.mpr ⟨a, List.mem_filter.mpr ⟨ha, decide_eq_true rfl⟩, rfl⟩)
    omega
  · rcases mx_eq ((es.filter fun e => decide (e.2 = v)).map fun e => dp es W (r e.1 + 1) e.1) with q | q
    · exact .inl (by rw [e v, q]; omega)
    · obtain ⟨a, ha, q⟩ := List.mem_map.mp q
      obtain ⟨a1, a2⟩ := List.mem_filter.mp ha
      have a2 : a.2 = v := of_decide_eq_true a2
      refine .inr ⟨a.1, a2 ▸ a1, ?_⟩
      show dp es W (r v + 1) v = dp es W (r a.1 + 1) a.1 + W v
      have q : dp es W (r a.1 + 1) a.1 = _ := q
      rw [e v, ← q]
      omega
theorem IsD.lay {es : List (Nat × Nat)} {n : Nat} {W D : Nat → Int} (h : IsD es W D) (val : ∀ e ∈ es, e.1 < n ∧ e.2 < n) (hW : ∀ v, v < n → W v = 1) : IsL es n fun v => (D v - 1).toNat := by
  have g : ∀ v, v < n → (1 : Int) ≤ D v := fun v hv => by have := h.ge v; rw [hW v hv] at this; exact this
  refine ⟨fun e he => ?_, fun v hv => ?_⟩
  · have h1 := h.up e he
    rw [hW _ (val e he).2] at h1
    have := g e.1 (val e he).1
    show (D e.1 - 1).toNat + 1 ≤ (D e.2 - 1).toNat
    omega
  · rcases h.eq v with e | ⟨u, hu, e⟩
    · rw [hW v hv] at e
      exact .inl (by show (D v - 1).toNat = 0; omega)
    · rw [hW v hv] at e
      have := g u (val _ hu).1
      exact .inr ⟨u, hu, by show (D v - 1).toNat = (D u - 1).toNat + 1; omega⟩
noncomputable def relaxW (W : Nat → Int) (F : List Int) (e : Nat × Nat) : List Int := F.set e.2 (max (F.getD e.2 0) (F.getD e.1 0 + W e.2))
theorem relaxW_len (W : Nat → Int) (F : List Int) (e : Nat × Nat) : (relaxW W F e).length = F.length := List.length_set ..
theorem relaxW_get (W : Nat → Int) (F : List Int) (e : Nat × Nat) (v : Nat) (hv : e.2 < F.length) : (relaxW W F e).getD v 0 = if v = e.2 then max (F.getD e.2 0) (F.getD e.1 0 + W e.2) else F.getD v 0 := by
  unfold relaxW
  rw [List.getD_eq_getElem?_getD, List.getElem?_set]
  by_cases q : v = e.2
  · subst q
    rw [if_pos rfl, if_pos rfl, if_pos hv]; rfl
  · rw [if_neg (Ne.symm q), if_neg q, List.getD_eq_getElem?_getD]
structure LayD (es : List (Nat × Nat)) (n : Nat) (W D : Nat → Int) (L : Nat → Nat) (r j : Nat) (F : List Int) : Prop where
  len : F.length = n
  le : ∀ v, v < n → F.getD v 0 ≤ D v
  ge : ∀ v, v < n → W v ≤ F.getD v 0
  low : ∀ v, v < n → L v ≤ r → F.getD v 0 = D v
  mid : ∀ i e, i < j → es[i]? = some e → L e.1 ≤ r → D e.1 + W e.2 ≤ F.getD e.2 0
theorem LayD.start {es : List (Nat × Nat)} {n : Nat} {W D : Nat → Int} {L : Nat → Nat} (hD : IsD es W D) (hL : IsL es n L) : LayD es n W D L 0 0 ((List.range n).map W) := by
  have g : ∀ v, v < n → ((List.range n).map W).getD v 0 = W v := fun v hv => by
    rw [List.getD_eq_getElem?_getD, List.getElem?_map, List.getElem?_range hv]; rfl
  refine ⟨by rw [List.length_map, List.length_range], fun v hv => by rw [g v hv]; exact hD.ge v, fun v hv => by rw [g v hv]; exact Int.le_refl _, fun v hv h0 => ?_, fun i e hi => by omega⟩
  rw [g v hv]
  rcases hD.eq v with e | ⟨u, hu, _⟩
  · exact e.symm
  · have : L u + 1 ≤ L v := hL.up _ hu
    omega
theorem LayD.step {es : List (Nat × Nat)} {n : Nat} {W D : Nat → Int} {L : Nat → Nat} {r j : Nat} {F : List Int} {e : Nat × Nat} (h : LayD es n W D L r j F) (hD : IsD es W D) (val : ∀ e ∈ es, e.1 < n ∧ e.2 < n) (he : es[j]? = some e) : LayD es n W D L r (j + 1) (relaxW W F e) := by
  have hm := List.mem_of_getElem? he
  obtain ⟨v1, v2⟩ := val e hm
  have hl : e.2 < F.length := by rw [h.len]; exact v2
  have mono : ∀ v, F.getD v 0 ≤ (relaxW W F e).getD v 0 := fun v => by
    rw [relaxW_get W F e v hl]
    by_cases q : v = e.2
    · subst q; rw [if_pos rfl]; omega
    · rw [if_neg q]; omega
  have le : ∀ v, v < n → (relaxW W F e).getD v 0 ≤ D v := fun v hv => by
    rw [relaxW_get W F e v hl]
    by_cases q : v = e.2
    · subst q; rw [if_pos rfl]
      have a := h.le e.2 v2
      have b := h.le e.1 v1
      have c := hD.up e hm
      omega
    · rw [if_neg q]; exact h.le v hv
  refine ⟨by rw [relaxW_len, h.len], le, fun v hv => Int.le_trans (h.ge v hv) (mono v), fun v hv hr => ?_, fun i f hi hf hr => ?_⟩
  · have a := h.low v hv hr
    have b := mono v
    have c := le v hv
    omega
  · by_cases hij : i < j
    · exact Int.le_trans (h.mid i f hij hf hr) (mono f.2)
    · have hi : i = j := by omega
      subst hi
      have ef : f = e := Option.some.inj (hf.symm.trans he)
      subst ef
      rw [relaxW_get W F f f.2 hl, if_pos rfl]
      have a := h.low f.1 v1 hr
      omega
theorem LayD.round {es : List (Nat × Nat)} {n : Nat} {W D : Nat → Int} {L : Nat → Nat} {r : Nat} {F : List Int} (h : LayD es n W D L r es.length F) (hD : IsD es W D) (hL : IsL es n L) : LayD es n W D L (r + 1) 0 F := by
  refine ⟨h.len, h.le, h.ge, fun v hv hr => ?_, fun i e hi => by omega⟩
  have a := h.le v hv
  have b := h.ge v hv
  rcases hD.eq v with e | ⟨u, hu, e⟩
  · omega
  · obtain ⟨i, hi⟩ := List.getElem?_of_mem hu
    have hil := (List.getElem?_eq_some_iff.mp hi).1
    have hlu : L u + 1 ≤ L v := hL.up _ hu
    have := h.mid i (u, v) hil hi (by show L u ≤ r; omega)
    have : D u + W v ≤ F.getD v 0 := this
    omega
theorem LayD.all {es : List (Nat × Nat)} {n : Nat} {W D : Nat → Int} {L : Nat → Nat} {F : List Int} (h : LayD es n W D L n 0 F) (hL : IsL es n L) (val : ∀ e ∈ es, e.1 < n ∧ e.2 < n) : F = (List.range n).map D := by
  apply List.ext_getElem
  · rw [h.len, List.length_map, List.length_range]
  · intro i h1 h2
    rw [List.getElem_map, List.getElem_range]
    have hi : i < n := by rw [← h.len]; exact h1
    have := h.low i hi (Nat.le_of_lt (hL.lt val i hi))
    rw [List.getD_eq_getElem?_getD, List.getElem?_eq_getElem h1] at this
    exact this
end MG
namespace L2
open PySem PySem.Spec PyProof.Rows
section
variable {X : Cx} {p pos : Pos} {e : Expr} {t : TA}
noncomputable def rSumL (K : PySem.W.Frag) : List V → Hp → VK → Prop := fun xs H Q => ∃ a ns, xs = [.ref a] ∧ SqL K H a (List.map V.int ns) ∧ Q (.int ns.sum) H
theorem call_sumL (hc : X.calm = true) : CallR X (.builtin "sum") (rSumL X.K) := by
  intro pins s σ H xs us Q I r h
  obtain ⟨a, ns, rfl, hq, q⟩ := h
  obtain ⟨u, rfl, ru⟩ := vals1 r
  cases ru
  obtain ⟨its, rv, pl, hz⟩ := I.list hq
  have hi := intsAre_of rv
  obtain ⟨xs, e⟩ := hi.allInts.items
  have hns : ns = xs.toList.map (·.1) := by
    rw [← hi.numsOf, ← nums_intItems, ← e]
  have hl := pl.isList
  rw [e] at hl
  refine sum_intListG (I.ok.hd hc) hl fun h' tk t' hk => ?_
  refine ⟨.int _, H, I.kept hk, ⟨_, rfl⟩, ?_⟩
  rw [preSum_eq, List.take_of_length_le (by simp), ← hns]
  exact q
theorem b_sumL (K : PySem.W.Frag) (hc : X.calm = true) (Zs : X.mg "sum" = none) (ha : PA X [e] t) (hg : Gl X "sum" := by rfl) (he : starEach [e] X.env = (false, eval e X.env) :: starEach [] X.env := by rfl) (hpl : (backTo pos (starEach [] X.env)).any (·.1) = false := by rfl) (hK : X.K = K := by rfl) :
    PE X (.Call (.Name "sum" p) [e] [] pos) (tCB (rSumL K) t) := hK ▸ pe_callB (call_sumL hc) hg Zs (show bootBuiltins "sum" = some (.builtin "sum") by decide +kernel) ha (by decide) (by decide) he hpl
end
end L2
namespace L2
open PySem
theorem len_shown {i : Int} {k : Nat} (hk : 0 < k) (h : i.natAbs < 10 ^ k) : (PyData.shown (.int i)).length ≤ k + 1 := by
  have e := (Nat.length_repr_le_iff (n := i.natAbs) hk).mpr h
  show (Str.ofString (toString i)).length ≤ k + 1
  rw [ofString_length]
  cases i with
  | ofNat m =>
    have e : m.repr.length ≤ k := e
    show m.repr.length ≤ k + 1
    omega
  | negSucc m =>
    have e : m.succ.repr.length ≤ k := e
    show ("-" ++ m.succ.repr).length ≤ k + 1
    rw [String.length_append]
    show 1 + m.succ.repr.length ≤ k + 1
    omega
theorem sw_int {i : Int} (h : i.natAbs < 10 ^ 40) : Sw (.int i) 41 0 := by
  refine ⟨rfl, ?_, Nat.le_refl 0, len_shown (by decide) h⟩
  show decide (i.natAbs.log2 < 1920) = true
  refine decide_eq_true ?_
  by_cases q : i.natAbs = 0
  · rw [q]; decide
  · rw [Nat.log2_lt q]
    exact Nat.lt_trans h (by decide +kernel)
end L2
namespace L2
open PySem PySem.Spec PyProof.Rows
section
variable {X : Cx}
noncomputable def rCatTA (K : PySem.W.Frag) : R2 := fun x y H Q => ∃ a b xs ys, x = .ref a ∧ y = .ref b ∧ SqT K H a xs ∧ SqT K H b ys ∧ xs.length + ys.length ≤ sizeLine ∧
  (xs = [] → Q (.ref b) H) ∧ (xs ≠ [] → ys = [] → Q (.ref a) H) ∧ (xs ≠ [] → ys ≠ [] → ∀ p, H p = none → Q (.ref p) (upd H p (.tup (xs ++ ys))))
theorem op_catTA (K : PySem.W.Frag) (hK : X.K = K := by rfl) : OpR X (binaryOp .Add) (rCatTA K) := by
  subst hK
  intro pins s σ H x y v u Q I rx ry h
  obtain ⟨a, b, xs, ys, rfl, rfl, ha, hb, hz, q0, q1, q2⟩ := h
  by_cases hx : xs = []
  · cases rx
    cases ry
    obtain ⟨its, r1, p1, _⟩ := I.tuple ha
    obtain ⟨its2, r2, p2, _⟩ := I.tuple hb
    have e1 : its = [] := r1.nil_iff.mpr hx
    obtain ⟨⟨cls, dd, data, sl⟩, ho, hc, n, hd⟩ := id p1
    obtain ⟨⟨cls2, dd2, data2, sl2⟩, ho2, hc2, n2, hd2⟩ := id p2
    simp only at hc hd hc2 hd2
    subst hc hd hc2 hd2
    exact concat_meets ⟨_, ho, rfl⟩ ⟨_, ho2, rfl⟩ noFill_tuple_add seq_tuple_add F.slot_tuple_add F.entry_tuple_add (F.args_tuple_add_2 _ _) (tuple_addW0 a b its.toArray its2.toArray n n2 dd dd2 sl sl2 (by simp [e1])) ⟨ho, ho2, ⟨.ref b, H, I, rfl, q0 hx⟩⟩
  · exact op_catT pins s σ H _ _ v u Q I rx ry ⟨a, b, xs, ys, rfl, rfl, ha, hb, hx, hz, q1 hx, q2 hx⟩
end
end L2
namespace L2
open PySem
theorem atIdx {os : List Str} {s : Str} (hm : s ∈ os) : os[os.idxOf s]? = some s := by
  have hi := List.idxOf_lt_length_of_mem hm
  rw [List.getElem?_eq_getElem hi, List.getElem_idxOf]
theorem getDIdx {os : List Str} {s : Str} (hm : s ∈ os) : os.getD (os.idxOf s) "" = s := by rw [List.getD_eq_getElem?_getD, atIdx hm]; rfl
end L2
namespace L2
open PySem PySem.Spec PyProof.Rows
section
open PySem.W PySem.Calls Builtin Builtin.ObjectAttr Builtin.Getset_descriptor
variable {K : Frag} {x C : Addr} {h : Heap} {M : Model}
variable {prog : Program} {w : World} {A : Around} {E : Value → Shared → Prop} {s : Shared}
end
end L2
namespace L2
open PySem PySem.Spec PyProof.Rows
section
open PySem.W Builtin Builtin.ObjectAttr
variable {prog : Program} {w : World} {A : Around} {E : Value → Shared → Prop} {s : Shared} {K : Frag} {x C t : Addr} {f : Str} {v : Value}
end
end L2
namespace L2
open PySem PySem.Spec PyProof.Rows
section
open PySem.W PySem.Calls Builtin Builtin.ObjectAttr
variable {K : Frag} {x C : Addr} {h : Heap} {M : Model} {prog : Program} {w : World} {A : Around} {E : Value → Shared → Prop} {s : Shared} {ox od : Obj} {f : Str} {u : Value}
end
end L2
namespace L2
open PySem PySem.Spec PyProof.Rows
variable {K : PySem.W.Frag} {mg : Str → Option Value} {base : Heap}
end L2
namespace MG
variable {es : List (Nat × Nat)} {goal : Nat}
end MG
namespace MG
variable {es : List (Nat × Nat)} {n : Nat} {ks ls : List Nat}
end MG
namespace L2
open PySem PySem.Spec PyProof.Rows
section
variable {X : Cx} {p pos : Pos} {e : Expr} {t : TA}
noncomputable def hpC (h : Heap) (xs : Array Value) : Heap := (h.push { cls := .type "list", data := .seq ([] : List Value).toArray }).update h.objs.size (Obj.mapSeq (· ++ xs))
end
end L2
namespace L2
open PySem PySem.Spec PyProof.Rows
mutual
inductive RpD (H : Hp) : V → PyData → Prop
  | tr {x : V} {d : PyData} : Rep H x d → d.hasDict = false → RpD H x d
  | dc {a : Addr} {kvs : List (Key × V)} : H a = some (.dK kvs) → kvs.all (fun p => isFl p.2) = true → RpD H (.ref a) (dictD kvs)
  | lst {a : Addr} {xs : List V} {ds : List PyData} : H a = some (.lst xs) → RpDs H xs ds → RpD H (.ref a) (.list ds)
  | tup {a : Addr} {xs : List V} {ds : List PyData} : H a = some (.tup xs) → RpDs H xs ds → RpD H (.ref a) (.tuple ds)
inductive RpDs (H : Hp) : List V → List PyData → Prop
  | nil : RpDs H [] []
  | cons {x : V} {d : PyData} {xs : List V} {ds : List PyData} : RpD H x d → RpDs H xs ds → RpDs H (x :: xs) (d :: ds)
end
mutual
theorem RpD.same {H H' : Hp} (s : Same H H') : ∀ {x : V} {d : PyData}, RpD H x d → RpD H' x d
  | _, _, .tr a b => .tr (a.same s) b
  | _, _, .dc a b => .dc (s _ _ a) b
  | _, _, .lst a b => .lst (s _ _ a) (RpDs.same s b)
  | _, _, .tup a b => .tup (s _ _ a) (RpDs.same s b)
theorem RpDs.same {H H' : Hp} (s : Same H H') : ∀ {xs : List V} {ds : List PyData}, RpDs H xs ds → RpDs H' xs ds
  | _, _, .nil => .nil
  | _, _, .cons a b => .cons (RpD.same s a) (RpDs.same s b)
end
mutual
theorem RpD.ks {P : Program} {w : World} {H : Hp} {h : Heap} (ok : HOk P w H h) : ∀ {x : V} {d : PyData} {u : Value}, RpD H x d → RelV x u → d.showable = true → d.shown.length ≤ sizeLine → ∃ as bs, Reads h u d as ∧ ReadAtMost h d.depth bs ∧ ReprK P w bs h d.depth u d.shown
  | _, _, _, .tr rep hd, r, hs, hz => by
    obtain ⟨as, rd⟩ := rep.reads ok r
    obtain ⟨bs, h1, h2⟩ := ReprK.of_reads (prog := P) (w := w) rd hs (PyData.noDict_hsm hd) hz
    exact ⟨as, bs, rd, h1, h2⟩
  | _, _, _, .dc (a := a) (kvs := kvs) e f, r, hs, hz => by
    cases r
    obtain ⟨_, hsys, vs, rv, o, es, ep, h1, h2, h3, _, h5, _⟩ := (show ObjOk P w H h a (.dK kvs) from ok a _ e)
    obtain ⟨k1, k2⟩ := fl_pairs (h := h) rv h5 f
    have rd : Reads h (.ref a) (dictD kvs) (a :: [] ++ []) := .dict h1 h2.1 h3 k1 k2
    obtain ⟨bs, g1, g2⟩ := ReprK.of_reads (prog := P) (w := w) rd hs (fun _ hm => by
      have : sysModules = a := by simpa using hm
      rw [this] at hsys
      simp at hsys) hz
    exact ⟨_, bs, rd, g1, g2⟩
  | _, _, _, .lst (a := a) (xs := xs) (ds := ds) e rs, r, hs, hz => by
    cases r
    obtain ⟨_, its, n, rv, eh⟩ := (show ObjOk P w H h a (.lst xs) from ok a _ e)
    have lz : (listText (PyData.shownAll ds)).length ≤ sizeLine := hz
    obtain ⟨as, bs, ra, hb, hk⟩ := RpDs.ks ok rs rv hs fun t ht => Nat.le_trans (listText_mem_le ht) lz
    have rd : Reads h (.ref a) (.list ds) _ := .list eh rfl rfl (by simpa using ra)
    have dl : PyData.depthAll ds < PyData.depth (.list ds) := Nat.lt_succ_self _
    have out := not_mem_of_deeper rd dl hb
    refine ⟨_, a :: bs, rd, ReadAtMost.cons rd (Nat.le_refl _) (hb.mono (Nat.le_of_lt dl)), ?_⟩
    show ReprK P w (a :: bs) h (PyData.depthAll ds + 1) (.ref a) (listText (PyData.shownAll ds))
    cases its with
    | nil =>
      cases ra
      exact ReprK.listEmpty eh rfl rfl
    | cons y l => exact ReprK.list eh rfl rfl out (by simpa using hk.length_eq) fun i z ez => hk.item i z (by simpa using ez)
  | _, _, _, .tup (a := a) (xs := xs) (ds := ds) e rs, r, hs, hz => by
    cases r
    obtain ⟨_, its, rv, pt⟩ := (show ObjOk P w H h a (.tup xs) from ok a _ e)
    obtain ⟨o, eh, hc, n, hd⟩ := pt.tup
    have tz : (tupleText (PyData.shownAll ds)).length ≤ sizeLine := hz
    obtain ⟨as, bs, ra, hb, hk⟩ := RpDs.ks ok rs rv hs fun t ht => Nat.le_trans (tupleText_mem_le ht) tz
    have rd : Reads h (.ref a) (.tuple ds) _ := .tuple eh hc hd (by simpa using ra)
    have dl : PyData.depthAll ds < PyData.depth (.tuple ds) := Nat.lt_succ_self _
    have out := not_mem_of_deeper rd dl hb
    exact ⟨_, a :: bs, rd, ReadAtMost.cons rd (Nat.le_refl _) (hb.mono (Nat.le_of_lt dl)), ReprK.tuple eh hc hd out (by simpa using hk)⟩
theorem RpDs.ks {P : Program} {w : World} {H : Hp} {h : Heap} (ok : HOk P w H h) : ∀ {xs : List V} {ds : List PyData} {us : List Value}, RpDs H xs ds → Vals xs us → PyData.showableAll ds = true → (∀ t ∈ PyData.shownAll ds, t.length ≤ sizeLine) → ∃ as bs, ReadsAll h us ds as ∧ ReadAtMost h (PyData.depthAll ds) bs ∧ ReprAllK P w bs h (PyData.depthAll ds) us (PyData.shownAll ds)
  | _, _, _, .nil, .nil, _, _ => ⟨[], [], .nil, (fun _ q => nomatch q), .nil⟩
  | _, _, _, .cons (d := d) (ds := ds) i is, .cons r rs, hs, hz => by
    have hs : (d.showable && PyData.showableAll ds) = true := hs
    rw [Bool.and_eq_true] at hs
    obtain ⟨a1, b1, r1, g1, k1⟩ := RpD.ks ok i r hs.1 (hz _ (List.mem_cons_self ..))
    obtain ⟨a2, b2, r2, g2, k2⟩ := RpDs.ks ok is rs hs.2 fun t ht => hz t (List.mem_cons_of_mem _ ht)
    have l1 : d.depth ≤ PyData.depthAll (d :: ds) := Nat.le_max_left ..
    have l2 : PyData.depthAll ds ≤ PyData.depthAll (d :: ds) := Nat.le_max_right ..
    exact ⟨a1 ++ a2, b1 ++ b2, .cons r1 r2, (g1.mono l1).append (g2.mono l2), .cons ((k1.more fun b hb => List.mem_append_left _ hb).level_le l1) (k2.more_le (fun b hb => List.mem_append_right _ hb) l2)⟩
end
noncomputable def rReprD : List V → Hp → VK → Prop := fun vs H Q => ∃ (a : Addr) (d : PyData), vs = [.ref a] ∧ ((∃ xs ds, H a = some (.lst xs) ∧ RpDs H xs ds ∧ d = .list ds ∧ ds ≠ []) ∨ ∃ xs ds, H a = some (.tup xs) ∧ RpDs H xs ds ∧ d = .tuple ds) ∧ d.showable = true ∧ d.depth ≤ 16 ∧ d.shown.length ≤ sizeLine ∧ Q (.str d.shown) H
section
variable {X : Cx}
theorem call_reprD (hg : X.A.guards = some []) (hu : X.A.units + 64 < cLine) : CallR X (.builtin "repr") rReprD := by
  intro pins s σ H vs us Q I r h
  obtain ⟨a, d, rfl, hd, hs, hdp, hz, q⟩ := h
  obtain ⟨u, rfl, ru⟩ := vals1 r
  cases ru
  rcases hd with ⟨xs, ds, e, rs, rfl, ne⟩ | ⟨xs, ds, e, rs, rfl⟩
  · obtain ⟨_, its, n, rv, eh⟩ := (show ObjOk X.prog X.w H s.heap a (.lst xs) from I.hok a _ e)
    have lz : (listText (PyData.shownAll ds)).length ≤ sizeLine := hz
    have dp : PyData.depthAll ds + 1 ≤ 16 := hdp
    obtain ⟨as, bs, ra, hb, hk⟩ := RpDs.ks (P := X.prog) (w := X.w) I.hok rs rv hs fun t ht => Nat.le_trans (listText_mem_le ht) lz
    have rd : Reads s.heap (.ref a) (.list ds) _ := .list eh rfl rfl (by simpa using ra)
    have out := not_mem_of_deeper rd (Nat.lt_succ_self (PyData.depthAll ds)) hb
    cases its with
    | nil => cases ra; exact absurd rfl ne
    | cons y l =>
      refine call_repr_slot (by omega) ⟨_, eh, rfl⟩ F.slot_list_repr.toG ?_
      exact call_list_reprK eh rfl rfl out (by simpa using hk.length_eq) (fun i z ez => hk.item i z (by simpa using ez)) (show X.A.in1.guards = some [] from hg) (fun b _ => Clear.nil b) (by show X.A.units + 1 + (PyData.depthAll ds + 1) < cLine; omega) (fun _ _ z => z) (fun h' u' tk hk' => ⟨_, _, rfl, .str _, H, I.kept hk', ⟨u', rfl⟩, q⟩) lz
  · obtain ⟨_, its, rv, pt⟩ := (show ObjOk X.prog X.w H s.heap a (.tup xs) from I.hok a _ e)
    obtain ⟨o, eh, hc, n, hd⟩ := pt.tup
    have tz : (tupleText (PyData.shownAll ds)).length ≤ sizeLine := hz
    have dp : PyData.depthAll ds + 1 ≤ 16 := hdp
    obtain ⟨as, bs, ra, hb, hk⟩ := RpDs.ks (P := X.prog) (w := X.w) I.hok rs rv hs fun t ht => Nat.le_trans (tupleText_mem_le ht) tz
    have rd : Reads s.heap (.ref a) (.tuple ds) _ := .tuple eh hc hd (by simpa using ra)
    have out := not_mem_of_deeper rd (Nat.lt_succ_self (PyData.depthAll ds)) hb
    refine call_repr_slot (by omega) ⟨_, eh, hc⟩ F.slot_tuple_repr ?_
    exact call_tuple_reprK eh hc hd out (by simpa using hk) (show X.A.in1.guards = some [] from hg) (fun b _ => Clear.nil b) (by show X.A.units + 1 + (PyData.depthAll ds + 1) < cLine; omega) (fun _ _ z => z) (fun h' u' tk hk' => ⟨_, _, rfl, .str _, H, I.kept hk', ⟨u', rfl⟩, q⟩) tz
variable {p pos : Pos} {e : Expr} {t : TA}
theorem b_reprD (gd : X.A.guards = some []) (hu : X.A.units + 64 < cLine) (B : Blt X.mg) (ha : PA X [e] t) (hg : Gl X "repr" := by rfl) (he : starEach [e] X.env = (false, eval e X.env) :: starEach [] X.env := by rfl) (hpl : (backTo pos (starEach [] X.env)).any (·.1) = false := by rfl) : PE X (.Call (.Name "repr" p) [e] [] pos) (tCB rReprD t) :=
  pe_callB (call_reprD gd hu) hg B.repr boot_repr ha (by decide) (by decide) he hpl
end
structure Sv (d : PyData) (n k : Nat) : Prop where
  sb : d.showable = true
  dp : d.depth ≤ k
  ln : d.shown.length ≤ n
theorem Sw.sv {d : PyData} {n k : Nat} (h : Sw d n k) : Sv d n k := ⟨h.sb, h.dp, h.ln⟩
theorem Sv.mono {d : PyData} {n k n' k' : Nat} (h : Sv d n k) (hn : n ≤ n') (hk : k ≤ k') : Sv d n' k' := ⟨h.sb, Nat.le_trans h.dp hk, Nat.le_trans h.ln hn⟩
theorem Sv.all {n k : Nat} : ∀ {ds : List PyData}, (∀ d ∈ ds, Sv d n k) → PyData.showableAll ds = true ∧ PyData.depthAll ds ≤ k
  | [], _ => ⟨rfl, Nat.zero_le _⟩
  | d :: ds, h => by
    obtain ⟨b, c⟩ := Sv.all fun x hx => h x (List.mem_cons_of_mem _ hx)
    have q := h d (by simp)
    refine ⟨?_, Nat.max_le.mpr ⟨q.dp, c⟩⟩
    show (PyData.showable d && PyData.showableAll ds) = true
    rw [q.sb, b]; rfl
theorem Sv.list {n k m : Nat} {ds : List PyData} (h : ∀ d ∈ ds, Sv d n k) (hm : ds.length ≤ m) : Sv (.list ds) (2 + m * (n + 2)) (k + 1) := by
  obtain ⟨b, c⟩ := Sv.all h
  refine ⟨b, Nat.succ_le_succ c, ?_⟩
  have g := textFrom_le (n := n) (ds.map PyData.shown) 0 "[" fun t ht => by
    obtain ⟨e, he, rfl⟩ := List.mem_map.mp ht
    exact (h e he).ln
  rw [List.length_map] at g
  have mm := Nat.mul_le_mul_right (n + 2) hm
  have o1 : (Str.ofString "[").length = 1 := rfl
  have o2 : (Str.ofString "]").length = 1 := rfl
  have g : (textFrom 0 (Str.ofString "[") (ds.map PyData.shown)).length ≤ (Str.ofString "[").length + ds.length * (n + 2) := g
  show (textFrom 0 "[" (PyData.shownAll ds) ++ "]").length ≤ _
  rw [shownAll_map, len_app]
  show (textFrom 0 (Str.ofString "[") (ds.map PyData.shown)).length + (Str.ofString "]").length ≤ _
  omega
theorem Sv.tuple {n k m : Nat} {ds : List PyData} (h : ∀ d ∈ ds, Sv d n k) (hm : ds.length ≤ m) : Sv (.tuple ds) (3 + m * (n + 2)) (k + 1) := by
  obtain ⟨b, c⟩ := Sv.all h
  refine ⟨b, Nat.succ_le_succ c, ?_⟩
  have g := join_le (n := n) (ds.map PyData.shown) fun t ht => by
    obtain ⟨e, he, rfl⟩ := List.mem_map.mp ht
    exact (h e he).ln
  rw [List.length_map] at g
  have mm := Nat.mul_le_mul_right (n + 2) hm
  have o1 : (Str.ofString "(").length = 1 := rfl
  have o2 : ∀ b : Bool, (Str.ofString (if b then ",)" else ")" : String)).length ≤ 2 := by intro b; cases b <;> decide
  show (tupleText (PyData.shownAll ds)).length ≤ _
  rw [shownAll_map]
  show (("(" : Str) ++ Str.join ", " (ds.map PyData.shown) ++ (if (ds.map PyData.shown).length == 1 then ",)" else ")" : String)).length ≤ _
  rw [len_app, len_app]
  have o3 := o2 ((ds.map PyData.shown).length == 1)
  show (Str.ofString "(").length + _ + (Str.ofString (if (ds.map PyData.shown).length == 1 then ",)" else ")" : String)).length ≤ _
  omega
end L2
namespace L2
open PySem PySem.Spec PyProof.Rows
section
variable {X : Cx} {p pos : Pos} {e : Expr} {t : TA}
theorem sl_tupK (K : PySem.W.Frag) (hK : X.K = K := by rfl) : SlR X (rSlT K) := hK ▸ sl_tup
end
end L2
namespace L2
open PySem PySem.Spec PyProof.Rows PySem.W
noncomputable def up1 (c : Nat) : Nat := if 97 ≤ c ∧ c ≤ 122 then c - 32 else c
end L2
namespace K25
open PySem L2
noncomputable def top (i : Nat) : Stmt := PySem.Challenge.pw_orderkeep_k25_what_shows_deepest.main.body.getD i (.Pass ⟨0, 0, 0, 0⟩)
noncomputable abbrev sIsName : Stmt := top 6
noncomputable abbrev sIsWhole : Stmt := top 7
noncomputable abbrev sNexts : Stmt := top 9
noncomputable abbrev sPlaces : Stmt := top 11
noncomputable abbrev sLists : Stmt := top 12
noncomputable abbrev sNextsAll : Stmt := top 16
noncomputable abbrev sSteps : Stmt := top 18
noncomputable abbrev sIsWay : Stmt := top 20
noncomputable abbrev sRingBy : Stmt := top 22
noncomputable abbrev sRingOf : Stmt := top 23
noncomputable abbrev sRefuse : Stmt := top 24
noncomputable abbrev sShowsD : Stmt := top 26
noncomputable abbrev sWeigh : Stmt := top 27
noncomputable abbrev sWholes : Stmt := top 28
noncomputable abbrev sWayW : Stmt := top 29
noncomputable abbrev sBounds : Stmt := top 30
noncomputable abbrev sTake : Stmt := top 32
noncomputable abbrev sNames : Stmt := top 33
noncomputable abbrev sTies : Stmt := top 34
noncomputable abbrev sBuilt : Stmt := top 35
noncomputable abbrev sWeb : Stmt := top 36
noncomputable abbrev sWts : Stmt := top 38
noncomputable abbrev sLDepths : Stmt := top 39
noncomputable abbrev sLWay : Stmt := top 40
noncomputable abbrev sLatest : Stmt := top 41
noncomputable abbrev sLWhole : Stmt := top 42
noncomputable abbrev sLShows : Stmt := top 43
noncomputable abbrev sBent : Stmt := top 44
noncomputable abbrev sLaw : Stmt := top 45
section
variable {P : Program} {w : World} {K : PySem.W.Frag} {mg : Str → Option Value} {base : Heap}
noncomputable def spNames (K : PySem.W.Frag) : Sp := fun vs H Q _ => ∃ (p a : Addr) (m : Nat), vs = [.ref p, .int (m : Int)] ∧ Pen K H p a ∧ m ≤ 60 ∧
  ∀ l ss H', ss.length = m → ss.Nodup → (∀ s ∈ ss, Nm s) → H' l = some (.lst (List.map V.str ss)) → l ≠ p → PenV H' p a → But p H H' → Q (.ref l) H'
theorem scTake : FnScope ["_law_pen", "_law_many", "_law_digit", "_law_at", "_law_cell", "_law_one", "_law_two"] ["_law_pen", "_law_many"] (defScope sTake) := ⟨rfl, rfl, rfl, by decide +kernel, rfl, by decide +kernel, by decide +kernel⟩
theorem two_small (x : Int) : -(2 ^ 64) < x % 2147483587 ∧ x % 2147483587 < 2 ^ 64 := by
  have h1 := Int.emod_nonneg x (show (2147483587 : Int) ≠ 0 by decide)
  have h2 := Int.emod_lt_of_pos x (show (0 : Int) < 2147483587 by decide)
  omega
theorem cell_small (x : Int) : -(2 ^ 64) < x % 2147483629 + 1 ∧ x % 2147483629 + 1 < 2 ^ 64 := by
  have h1 := Int.emod_nonneg x (show (2147483629 : Int) ≠ 0 by decide)
  have h2 := Int.emod_lt_of_pos x (show (0 : Int) < 2147483629 by decide)
  omega
theorem ok_take {f : Addr} {fd : FuncData} (F : Fun K "_law_take" "_law_take" sTake f fd) (B : Blt mg) : FnOk P w K mg base CX0 1 f fd ["_law_pen", "_law_many"] (spDraw K) := by
  refine F.ok scTake (fun vs H Q E h => ?_) (fun cdv A outer s H vs Q E hr h => ?_)
  · obtain ⟨p, a, m, rfl, _⟩ := h
    rfl
  · obtain ⟨p, a, m, rfl, ⟨⟨ns, hS⟩, i, n, hp, hi, hn⟩, hm, hm2, k⟩ := h
    have ku : ∀ (H1 : Hp) (o : HO), (∀ b, b ≠ p → H1 b = H b) → ∀ b, b ≠ p → (upd H1 p o) b = H b := fun H1 o q b n => by rw [upd_ne n]; exact q b n
    have nd := scTake.nd
    refine ⟨_, (pss_cons (ps_if (pt_cmpR op_gt (pe_ix (ix_X K hr.units) (pv 0) pe_int (fun _ _ => rfl)) pe_int (nomark _)) (pss_cons (ps_set (i := 2) nd rfl (Or.inl rfl) (pe_op op_mod (pe_ix (ix_X K hr.units) (pv 0) pe_int (fun _ _ => rfl)) (pv 1)))
      (pss_cons (ps_asg (pe_op op_fdiv (pe_ix (ix_X K hr.units) (pv 0) pe_int (fun _ _ => rfl)) (pv 1)) (pg_sub (pv 0) pe_int (set_X hr.units)))
      (pss_one (ps_ret (pv 2))))) pss_nil)
      (pss_cons (ps_set (i := 3) nd rfl (Or.inl rfl) (pe_ix (ix_X K hr.units) (pv 0) pe_int (fun _ _ => rfl)))
      (pss_cons (ps_asg (pe_op op_addX (pv 3) pe_int) (pg_sub (pv 0) pe_int (set_X hr.units)))
      (pss_cons (ps_set (i := 4) nd rfl (Or.inl rfl) pe_int)
      (pss_cons (ps_if (pt_cmpR op_gt (b_len K B (pa_cons (pe_ix (ix_X K hr.units) (pv 0) pe_int (fun _ _ => rfl)) pa_nil)) pe_int (nomark _)) (pss_one (ps_set (i := 4) nd rfl (Or.inl rfl) (pe_ix (ix_X K hr.units) (pe_ix (ix_X K hr.units) (pv 0) pe_int (fun _ _ => rfl)) (pe_op op_mod (pv 3) (b_len K B (pa_cons (pe_ix (ix_X K hr.units) (pv 0) pe_int (fun _ _ => rfl)) pa_nil))) (fun _ _ => rfl)))) pss_nil)
      (pss_cons (ps_if (PW.pt (pw_and (pt_cmpR op_ltX (pv 3) (b_len K B (pa_cons (pe_ix (ix_X K hr.units) (pv 0) pe_int (fun _ _ => rfl)) pa_nil)) (nomark _)) (pw_and1 (pt_cmpR op_ge (b_abs B (pa_cons (pv 4) pa_nil)) (pe_op op_pow pe_int pe_int) (nomark _))))) (pss_cons (ps_asg (pe_op op_fdiv (b_abs B (pa_cons (pv 4) pa_nil)) (pv 1)) (pg_sub (pv 0) pe_int (set_X hr.units)))
      (pss_one (ps_ret (pe_op op_mod (b_abs B (pa_cons (pv 4) pa_nil)) (pv 1))))) pss_nil)
      (pss_cons (ps_set (i := 5) nd rfl (Or.inl rfl) (pe_op op_mod (pe_op op_mul (pe_op op_addX (pe_op op_mod (pv 4) pe_int) pe_int) (pe_op op_addX (pe_op op_mul pe_int (pv 3)) pe_int)) pe_int))
      (pss_cons (ps_set (i := 6) nd rfl (Or.inl rfl) (pe_op op_mod (pe_op op_addX (pe_op op_addX (pe_op op_mul (pv 5) (pv 5)) (pe_op op_mul pe_int (pv 3))) pe_int) pe_int))
      (pss_one (ps_ret (pe_op op_mod (pe_op op_fdiv (pe_op op_mod (pe_op op_mul (pv 6) (pe_op op_addX (pe_op op_mod (pv 6) pe_int) pe_int)) pe_int) pe_int) (pv 1)))))))))))), ?_⟩
    refine ⟨_, rfl, .lst (.of hp) rfl ⟨_, _, rfl, rfl, _, rfl, ?_⟩⟩
    refine ite2 (fun h => ?_) (fun h => ?_)
    · refine ⟨_, rfl, .lst (.of hp) rfl ⟨_, rfl, _, _, rfl, rfl, hm, ?_⟩⟩
      refine ⟨_, rfl, .lst (.of hp) rfl ⟨_, rfl, _, _, rfl, rfl, ⟨hm, hm2⟩, ?_⟩⟩
      refine ⟨_, rfl, .lst (j := 2) hp rfl ?_⟩
      refine ⟨_, rfl, ?_⟩
      exact k _ _ (Int.emod_nonneg _ (by omega)) (Int.emod_lt_of_pos _ hm) ⟨i, n / m, upd_same, hi, Int.ediv_nonneg hn (by omega)⟩ (ku H _ fun _ _ => rfl)
    · refine ⟨_, rfl, .lst (.of hp) rfl ?_⟩
      refine ⟨_, rfl, .int ?_⟩
      refine ⟨_, rfl, .lst (j := 1) hp rfl ?_⟩
      have hp1 : (upd H p (.lst ([V.ref a, V.int i, V.int n].set 1 (V.int (i + 1))))) p = some (.lst [.ref a, .int (i + 1), .int n]) := upd_same
      have hS1 : SqL K (upd H p (.lst ([V.ref a, V.int i, V.int n].set 1 (V.int (i + 1))))) a (ns.map V.int) := hS _ But.upd
      have b1 : ∀ b, b ≠ p → (upd H p (.lst ([V.ref a, V.int i, V.int n].set 1 (V.int (i + 1))))) b = H b := ku H _ fun _ _ => rfl
      generalize upd H p (.lst ([V.ref a, V.int i, V.int n].set 1 (V.int (i + 1)))) = H1 at hp1 hS1 b1 ⊢
      have fin : ∀ c : Int, 0 ≤ c → Q (.int (c % m)) H1 := fun c hc => k _ _ (Int.emod_nonneg _ (by omega)) (Int.emod_lt_of_pos _ hm) ⟨i + 1, n, hp1, by omega, hn⟩ b1
      refine ⟨_, rfl, .lst (.of hp1) rfl ⟨_, _, rfl, Or.inl ⟨_, hS1, rfl⟩, _, _, rfl, rfl, _, rfl, ?_⟩⟩
      refine ite2 (fun h => ?a) (fun h => ?b)
      case' a =>
        have hl : (0 : Int) < ((ns.map V.int).length : Nat) := of_decide_eq_true h
        obtain ⟨c, hc⟩ := at_int (ns := ns) (j := i % ((ns.map V.int).length : Nat)) (Int.emod_nonneg _ (by omega)) (Int.emod_lt_of_pos _ hl)
        refine ⟨_, rfl, .lst (.of hp1) rfl ⟨_, rfl, _, rfl, .lst (.of hp1) rfl ⟨_, _, rfl, Or.inl ⟨_, hS1, rfl⟩, _, _, rfl, rfl, hl, .lst hS1 hc ?_⟩⟩⟩
      all_goals
        refine ⟨_, rfl, _, rfl, .lst (.of hp1) rfl ⟨_, _, rfl, Or.inl ⟨_, hS1, rfl⟩, .int ⟨_, rfl, ?_⟩⟩⟩
        refine ite2 (fun h1 => ?_) (fun h1 => ?_)
        · refine ⟨_, rfl, _, rfl, _, _, rfl, rfl, ⟨by decide, by decide, by decide⟩, _, _, rfl, rfl, _, rfl, ?_⟩
          refine ite2 (fun h2 => ?_) (fun h2 => ?_)
          · refine ⟨_, rfl, _, rfl, _, rfl, _, _, rfl, rfl, ⟨hm, hm2⟩, ?_⟩
            refine ⟨_, rfl, .lst (j := 2) hp1 rfl ?_⟩
            refine ⟨_, rfl, _, rfl, _, rfl, _, _, rfl, rfl, hm, ?_⟩
            refine k _ _ (Int.emod_nonneg _ (by omega)) (Int.emod_lt_of_pos _ hm) ⟨i + 1, _, upd_same, by omega, Int.ediv_nonneg (by split <;> omega) (by omega)⟩ (ku H1 _ b1)
          · refine ⟨_, rfl, _, _, rfl, rfl, (by show (0 : Int) < _; decide), .int ⟨_, rfl, _, _, rfl, rfl, .inl ⟨by decide, by decide⟩, .int ⟨_, _, rfl, rfl, .inl (cell_small _), _, _, rfl, rfl, (by show (0 : Int) < _; decide), ?_⟩⟩⟩
            refine ⟨_, rfl, _, rfl, _, _, rfl, rfl, .inl (fst_small _), _, rfl, _, _, rfl, rfl, .inl ⟨by decide, by decide⟩, .int (.int ⟨_, _, rfl, rfl, (by show (0 : Int) < _; decide), ?_⟩)⟩
            refine ⟨_, rfl, _, rfl, _, _, rfl, rfl, (by show (0 : Int) < _; decide), .int ⟨_, _, rfl, rfl, .inl (two_small _), _, _, rfl, rfl, (by show (0 : Int) < _; decide), _, _, rfl, rfl, ⟨by decide, by decide⟩, _, rfl, _, _, rfl, rfl, hm, ?_⟩⟩
            exact fin _ (Int.ediv_nonneg (Int.emod_nonneg _ (by decide)) (by decide))
        · refine ⟨_, rfl, _, _, rfl, rfl, (by show (0 : Int) < _; decide), .int ⟨_, rfl, _, _, rfl, rfl, .inl ⟨by decide, by decide⟩, .int ⟨_, _, rfl, rfl, .inl (cell_small _), _, _, rfl, rfl, (by show (0 : Int) < _; decide), ?_⟩⟩⟩
          refine ⟨_, rfl, _, rfl, _, _, rfl, rfl, .inl (fst_small _), _, rfl, _, _, rfl, rfl, .inl ⟨by decide, by decide⟩, .int (.int ⟨_, _, rfl, rfl, (by show (0 : Int) < _; decide), ?_⟩)⟩
          refine ⟨_, rfl, _, rfl, _, _, rfl, rfl, (by show (0 : Int) < _; decide), .int ⟨_, _, rfl, rfl, .inl (two_small _), _, _, rfl, rfl, (by show (0 : Int) < _; decide), _, _, rfl, rfl, ⟨by decide, by decide⟩, _, rfl, _, _, rfl, rfl, hm, ?_⟩⟩
          exact fin _ (Int.ediv_nonneg (Int.emod_nonneg _ (by decide)) (by decide))
end
end K25
namespace K25
open PySem L2
section
variable {P : Program} {w : World} {K : PySem.W.Frag} {mg : Str → Option Value} {base : Heap}
theorem let_at {j : Int} (h0 : 0 ≤ j) (h1 : j < 26) : atI ("abcdefghijklmnopqrstuvwxyz" : Str).cps.toList j = some (97 + j.toNat) := by
  obtain ⟨k, rfl⟩ := Int.eq_ofNat_of_zero_le h0
  have hk : k < 26 := by omega
  exact (by decide +kernel : ∀ k : Nat, k < 26 → atI ("abcdefghijklmnopqrstuvwxyz" : Str).cps.toList (k : Int) = some (97 + (k : Int).toNat)) k hk
theorem one_nm {c : Nat} (h : 97 ≤ c) (h2 : c ≤ 122) : Nm ⟨#[c]⟩ := ⟨Nat.le_refl 1, by show 1 ≤ 8; decide, fun d hd => by
  have : d = c := by simpa using hd
  omega⟩
theorem two_nm {c d : Nat} {t : Str} (hc : 97 ≤ c ∧ c ≤ 122) (hd : 97 ≤ d ∧ d ≤ 122) (ht : t.length ≤ 6) (ha : ∀ x ∈ t.cps.toList, 97 ≤ x ∧ x ≤ 122) : Nm (⟨#[c]⟩ ++ ⟨#[d]⟩ ++ t) := by
  refine ⟨?_, ?_, fun x hx => ?_⟩
  · rw [len_app, len_app]; show 1 ≤ 1 + 1 + _; omega
  · rw [len_app, len_app]; show 1 + 1 + t.length ≤ 8; omega
  · have hx : x ∈ (#[c] ++ #[d] ++ t.cps).toList := hx
    simp only [Array.toList_append, List.mem_append] at hx
    rcases hx with (hx | hx) | hx
    · have : x = c := by simpa using hx
      omega
    · have : x = d := by simpa using hx
      omega
    · exact ha x hx
theorem two_inj {c d c' d' : Nat} {t t' : Str} (h : (⟨#[c]⟩ ++ ⟨#[d]⟩ ++ t : Str) = ⟨#[c']⟩ ++ ⟨#[d']⟩ ++ t') : c = c' ∧ d = d' := by
  have h : (#[c] ++ #[d] ++ t.cps).toList = (#[c'] ++ #[d'] ++ t'.cps).toList := congrArg (fun s : Str => s.cps.toList) h
  simp only [Array.toList_append, List.cons_append, List.nil_append, List.cons.injEq] at h
  exact ⟨h.1, h.2.1⟩
noncomputable def Low (t : Str) : Prop := ∀ x ∈ t.cps.toList, 97 ≤ x ∧ x ≤ 122
theorem Low.app {x y : Str} (hx : Low x) (hy : Low y) : Low (x ++ y) := fun c hc => by
  have hc : c ∈ (x.cps ++ y.cps).toList := hc
  rw [Array.toList_append] at hc
  rcases List.mem_append.mp hc with h | h
  · exact hx c h
  · exact hy c h
theorem Low.slice {x : Str} (h : Low x) (l u : Option Int) : Low (Txt.slice x l u) := by
  unfold Txt.slice
  split
  · exact h
  · intro c hc
    have hc : c ∈ (List.filterMap (x.cps[·]?) (Builtin.Str.strSliceIndices l u 1 x.length)).toArray.toList := hc
    rw [List.toList_toArray] at hc
    obtain ⟨i, _, e⟩ := List.mem_filterMap.mp hc
    exact h c (by simpa using Array.mem_of_getElem? e)
theorem Low.joinS {sep : Str} (hs : Low sep) : ∀ {ys : List Str}, (∀ y ∈ ys, Low y) → Low (Str.join sep ys)
  | [], _ => fun c hc => by
    have hc : c ∈ (#[] : Array Nat).toList := hc
    simp at hc
  | [y], h => h y (by simp)
  | y :: z :: r, h => by
    show Low (y ++ sep ++ Str.join sep (z :: r))
    exact ((h y (by simp)).app hs).app (Low.joinS hs fun x hx => h x (List.mem_cons_of_mem _ hx))
theorem Low.join {sep : Str} {ys : List Str} (hs : Low sep) (h : ∀ y ∈ ys, Low y) : Low (Txt.join sep ys) := by
  unfold Txt.join
  rw [StrLaws.glued_eq_join]
  exact Low.joinS hs h
theorem nodup_snoc {α : Type} {l : List α} {x : α} (h : l.Nodup) (hx : x ∉ l) : (l ++ [x]).Nodup := by
  rw [List.nodup_append]
  exact ⟨h, by simp, fun a ha b hb => by
    have : b = x := by simpa using hb
    subst this
    exact fun e => hx (e ▸ ha)⟩
theorem num_inj {r st : Int} {i j : Nat} (hst : st = 1 ∨ st = 675 ∨ st = 27 ∨ st = 211 ∨ st = 79) (hj : j < i) (hi : i < 60) : (r + st * (j : Int)) % 676 ≠ (r + st * (0 + (i : Nat) : Int)) % 676 := by
  rcases hst with rfl | rfl | rfl | rfl | rfl <;> omega
theorem scNames : FnScope ["_law_pen", "_law_many", "_law_letters", "_law_begin", "_law_step", "_law_tail", "_law_found", "_law_k", "_law_number", "_law_cut"] ["_law_pen", "_law_many"] (defScope sNames) := ⟨rfl, rfl, rfl, by decide +kernel, rfl, by decide +kernel, by decide +kernel⟩
theorem ok_names {f : Addr} {fd : FuncData} (F : Fun K "_law_names" "_law_names" sNames f fd) (B : Blt mg) (c_law_take : Cal P w K mg base 1 "_law_take" ["_law_pen", "_law_many"] (spDraw K)) : FnOk P w K mg base CX0 2 f fd ["_law_pen", "_law_many"] (spNames K) := by
  refine F.ok scNames (fun vs H Q E h => ?_) (fun cdv A outer s H vs Q E hr h => ?_)
  · obtain ⟨p, a, m, rfl, _⟩ := h
    rfl
  · obtain ⟨p, a, m, rfl, hP, hm, k⟩ := h
    have nd := scNames.nd
    refine ⟨_, (pss_cons (ps_set (i := 2) nd rfl (Or.inr rfl) pe_str)
      (pss_cons (ps_set (i := 3) nd rfl (Or.inr rfl) (pe_cal c_law_take (hr.mono (by decide)) rfl (pa_cons (pv 0) (pa_cons pe_int pa_nil))))
      (pss_cons (ps_if (PW.pt (pw_and (pt_cmpR op_ltX (pv 1) pe_int (nomark _)) (pw_and1 (pt_cmpR (op_eqX hr.units) (pe_cal c_law_take (hr.mono (by decide)) rfl (pa_cons (pv 0) (pa_cons pe_int pa_nil))) pe_int (nomark _))))) (pss_one (ps_ret (pe_comp (defScope sNames) ["_law_pen", "_law_many", "_law_letters", "_law_begin", "_law_step", "_law_tail", "_law_found", "_law_k", "_law_number", "_law_cut"] ["_law_k"] [2, 3] ["_law_k", "_law_letters", "_law_begin"] rfl (pi_range1 rfl B.range (pa_cons (pv 1) pa_nil)) (fun _ _ _ _ _ => (pg_name (i := 0) (show (["_law_k", "_law_letters", "_law_begin"] : List Str).Nodup by decide) rfl (Or.inl rfl))) (fun _ _ _ _ _ => pts_nil) (fun _ _ _ _ _ => (pe_ix (ix_X K hr.units) (pv 1) (pe_op op_mod (pe_op op_addX (pv 2) (pe_op op_mul pe_int (pv 0))) pe_int) (fun _ _ => rfl)))))) pss_nil)
      (pss_cons (ps_set (i := 4) nd rfl (Or.inl rfl) (pe_ix (ix_X K hr.units) (pe_lst (pa_cons pe_int (pa_cons pe_int (pa_cons pe_int (pa_cons pe_int (pa_cons pe_int pa_nil star_c) star_c) star_c) star_c) star_c)) (pe_cal c_law_take (hr.mono (by decide)) rfl (pa_cons (pv 0) (pa_cons pe_int pa_nil))) (fun _ _ => rfl)))
      (pss_cons (ps_set (i := 5) nd rfl (Or.inl rfl) (m_join K pe_str (pa_cons (pe_comp (defScope sNames) ["_law_pen", "_law_many", "_law_letters", "_law_begin", "_law_step", "_law_tail", "_law_found", "_law_k", "_law_number", "_law_cut"] ["_law_k"] [2, 0] ["_law_k", "_law_letters", "_law_pen"] rfl (pi_range1 rfl B.range (pa_cons (pe_cal c_law_take (hr.mono (by decide)) rfl (pa_cons (pv 0) (pa_cons pe_int pa_nil))) pa_nil)) (fun _ _ _ _ _ => (pg_name (i := 0) (show (["_law_k", "_law_letters", "_law_pen"] : List Str).Nodup by decide) rfl (Or.inl rfl))) (fun _ _ _ _ _ => pts_nil) (fun _ _ _ _ _ => (pe_ix (ix_X K hr.units) (pv 1) (pe_cal c_law_take (hr.mono (by decide)) rfl (pa_cons (pv 2) (pa_cons pe_int pa_nil))) (fun _ _ => rfl)))) pa_nil)))
      (pss_cons (ps_set (i := 6) nd rfl (Or.inl rfl) (pe_lst pa_nil))
      (pss_cons (ps_for PassesOwn.never rfl (pi_range1 rfl B.range (pa_cons (pv 1) pa_nil)) (pg_name (i := 7) nd rfl (Or.inl rfl)) (pss_cons (ps_set (i := 8) nd rfl (Or.inl rfl) (pe_op op_mod (pe_op op_addX (pv 3) (pe_op op_mul (pv 4) (pv 7))) pe_int))
      (pss_cons (ps_set (i := 9) nd rfl (Or.inl rfl) (pe_cal c_law_take (hr.mono (by decide)) rfl (pa_cons (pv 0) (pa_cons (pe_op op_addX (b_len K B (pa_cons (pv 5) pa_nil)) pe_int) pa_nil))))
      (pss_one (ps_expr (m_append K (pv 6) (pa_cons (pe_op op_addX (pe_op op_addX (pe_ix (ix_X K hr.units) (pv 2) (pe_op op_fdiv (pv 8) pe_int) (fun _ _ => rfl)) (pe_ix (ix_X K hr.units) (pv 2) (pe_op op_mod (pv 8) pe_int) (fun _ _ => rfl))) (pe_slice (sl_K K) (pv 5) po_none (po_some (pv 9)))) pa_nil)))))))
      (pss_one (ps_ret (pv 6)))))))))), ?_⟩
    refine ⟨_, rfl, p, a, 676, rfl, hP, by decide, by decide, fun r1 H1 h10 h11 v1 e1 => ?_⟩
    have b1 := But.of_eq e1
    refine ⟨_, rfl, .int ⟨_, rfl, ?_⟩⟩
    have lL : ("abcdefghijklmnopqrstuvwxyz" : Str).length ≤ sizeLine := by decide +kernel
    refine ite2 (fun h1 => ?a) (fun h1 => ?b)
    case' a =>
      refine ⟨_, rfl, p, a, 4, rfl, hP.but b1 v1, by decide, by decide, fun r2 H2 h20 h21 v2 e2 => .sc rfl ⟨_, rfl, ?_⟩⟩
      have b2 := b1.trans (But.of_eq e2)
      have h1 : (m : Int) < 27 := of_decide_eq_true h1
      refine ite2 (fun _ => ?c) (fun _ => ?d)
      case c =>
        refine ⟨_, rfl, _, rfl, by omega, by omega, ?_⟩
        refine comp_range (fun D i acc σ' H' => ∃ o ss, σ' = [o, some (.str "abcdefghijklmnopqrstuvwxyz"), some (.int r1)] ∧ acc = List.map V.str ss ∧ ss.length = i ∧ (∀ (j : Nat) (s : Str), ss[j]? = some s → ∃ c : Nat, s = ⟨#[c]⟩ ∧ (c : Int) = 97 + (r1 + 7 * (j : Int)) % 26) ∧ ss.Nodup ∧ PenV H' p a ∧ But p H H' ∧ H D = none ∧ p ≠ D) fun D hD => ⟨?_, ?_, ?_⟩
        · have hDp := v2.ne hD
          have hD0 := b2.free (Ne.symm hDp) hD
          exact ⟨none, [], rfl, rfl, rfl, (fun j s e => by simp at e), List.nodup_nil, v2.upd hDp, b2.at hD0, hD0, hDp⟩
        · rintro i acc σ' H' hi ⟨o, ss, rfl, rfl, hl, hj, hnd, v, b, hD0, hDp⟩ hacc
          refine gYes ?_
          refine ⟨_, rfl, _, rfl, _, rfl, _, _, rfl, rfl, .inl ⟨by decide, by decide⟩, .int ⟨_, _, rfl, rfl, (by show (0 : Int) < _; decide), ?_⟩⟩
          have g0 := Int.emod_nonneg (r1 + 7 * (0 + (i : Nat) : Int)) (show (26 : Int) ≠ 0 by decide)
          have g1 := Int.emod_lt_of_pos (r1 + 7 * (0 + (i : Nat) : Int)) (show (0 : Int) < 26 by decide)
          refine .str lL (let_at g0 g1) ⟨hacc, ?_, _, ss ++ [⟨#[97 + ((r1 + 7 * (0 + (i : Nat) : Int)) % 26).toNat]⟩], rfl, by simp, by simp [hl], ?_, ?_, v.upd hDp, b.at hD0, hD0, hDp⟩
          · rw [List.length_map, hl]; exact small1000 (by omega)
          · intro j s e
            by_cases q : j < ss.length
            · rw [List.getElem?_append_left q] at e
              exact hj j s e
            · rw [List.getElem?_append_right (by omega)] at e
              have : j = i := by
                have := (List.getElem?_eq_some_iff.mp e).1
                simp at this
                omega
              subst this
              rw [hl, Nat.sub_self] at e
              cases e
              exact ⟨_, rfl, by omega⟩
          · refine nodup_snoc hnd fun hm => ?_
            obtain ⟨j, hjl, e⟩ := List.mem_iff_getElem.mp hm
            obtain ⟨c, ec, hc⟩ := hj j _ (List.getElem?_eq_getElem hjl)
            rw [e] at ec
            have ec : [97 + ((r1 + 7 * (0 + (i : Nat) : Int)) % 26).toNat] = [c] := congrArg (fun s : Str => s.cps.toList) ec
            have ec : 97 + ((r1 + 7 * (0 + (i : Nat) : Int)) % 26).toNat = c := by simpa using ec
            omega
        · rintro acc σ' H' ⟨o, ss, rfl, rfl, hl, hj, hnd, v, b, hD0, hDp⟩ hacc
          refine k D ss H' (by simpa using hl) hnd (fun s hs => ?_) hacc (Ne.symm hDp) v b
          obtain ⟨j, hjl, e⟩ := List.mem_iff_getElem.mp hs
          obtain ⟨c, ec, hc⟩ := hj j _ (List.getElem?_eq_getElem hjl)
          rw [e] at ec
          subst ec
          exact one_nm (by omega) (by omega)
      have v1 := v2
      have b1 := b2
    all_goals
      refine ⟨(by show 5 ≤ sizeLine; decide), fun l hl => ?_⟩
      have hpl := v1.ne hl
      have b1 := b1.at (o := .lst [V.int 1, V.int 675, V.int 27, V.int 211, V.int 79]) (b1.free (Ne.symm hpl) hl)
      refine ⟨_, rfl, p, a, 5, rfl, hP.but b1 (v1.upd hpl), by decide, by decide, fun r3 H3 h30 h31 v3 e3 => ?_⟩
      have hl3 : H3 l = some (.lst [V.int 1, V.int 675, V.int 27, V.int 211, V.int 79]) := (e3 l (Ne.symm hpl)).trans upd_same
      have b3 := b1.trans (But.of_eq e3)
      obtain ⟨st, est, hst⟩ : ∃ st, atI [V.int 1, V.int 675, V.int 27, V.int 211, V.int 79] r3 = some (.int st) ∧ (st = 1 ∨ st = 675 ∨ st = 27 ∨ st = 211 ∨ st = 79) := by
        have hr3 : r3 = 0 ∨ r3 = 1 ∨ r3 = 2 ∨ r3 = 3 ∨ r3 = 4 := by omega
        rcases hr3 with rfl | rfl | rfl | rfl | rfl
        · exact ⟨_, rfl, by omega⟩
        · exact ⟨_, rfl, by omega⟩
        · exact ⟨_, rfl, by omega⟩
        · exact ⟨_, rfl, by omega⟩
        · exact ⟨_, rfl, by omega⟩
      refine .lst (.of hl3) est ?_
      clear hl3 e3
      refine ⟨rfl, ?_⟩
      refine ⟨_, rfl, p, a, 7, rfl, hP.but b3 v3, by decide, by decide, fun r4 H4 h40 h41 v4 e4 => ⟨r4, rfl, by omega, by omega, ?_⟩⟩
      have b4 := b3.trans (But.of_eq e4)
      refine comp_range (fun D i acc σ' H' => ∃ o ys, σ' = [o, some (.str "abcdefghijklmnopqrstuvwxyz"), some (.ref p)] ∧ acc = List.map V.str ys ∧ ys.length = i ∧ (∀ y ∈ ys, y.length = 1 ∧ Low y) ∧ PenV H' p a ∧ But p H H' ∧ H D = none ∧ p ≠ D) fun D hD => ⟨?_, ?_, ?_⟩
      · have hDp := v4.ne hD
        have hD0 := b4.free (Ne.symm hDp) hD
        exact ⟨none, [], rfl, rfl, rfl, (fun y hy => by cases hy), v4.upd hDp, b4.at hD0, hD0, hDp⟩
      · rintro i acc σ' H' hi ⟨o, ys, rfl, rfl, hl, hys, v, b, hD0, hDp⟩ hacc
        refine gYes ?_
        refine ⟨_, rfl, _, rfl, p, a, 26, rfl, hP.but b v, by decide, by decide, fun r5 H5 h50 h51 v5 e5 => ?_⟩
        refine .str lL (let_at h50 h51) ⟨(e5 D (Ne.symm hDp)).trans hacc, ?_, _, ys ++ [⟨#[97 + r5.toNat]⟩], rfl, by simp, by simp [hl], ?_, v5.upd hDp, (b.trans (But.of_eq e5)).at hD0, hD0, hDp⟩
        · rw [List.length_map, hl]; exact small1000 (by omega)
        · intro y hy
          rcases List.mem_append.mp hy with hy | hy
          · exact hys y hy
          · have : y = ⟨#[97 + r5.toNat]⟩ := by simpa using hy
            subst this
            exact ⟨rfl, (one_nm (by omega) (by omega)).2.2⟩
      · rintro acc σ' H5 ⟨o, ys, rfl, rfl, hl, hys, v5, b5, hD0, hDp⟩ hacc
        have hsum := sum_le (n := 1) fun y hy => Nat.le_of_eq (hys y hy).1
        have hlj := len_join "" ys
        have e0 : ("" : Str).length = 0 := by decide +kernel
        have hj : Low (Txt.join "" ys) := Low.join (fun c hc => by
          have hc : c ∈ ("" : Str).cps.toList := hc
          rw [show ("" : Str).cps.toList = [] by decide +kernel] at hc
          cases hc) fun y hy => (hys y hy).2
        rw [e0] at hlj
        refine ⟨_, D, ys, rfl, rfl, hacc, by rw [e0]; omega, ?_⟩
        have htl : (Txt.join "" ys).length ≤ 6 := by omega
        generalize Txt.join "" ys = z at hj htl ⊢
        have hz : z.length ≤ sizeLine := Nat.le_of_lt (small1000 (by omega))
        refine ⟨(by show 0 ≤ sizeLine; decide), fun fl hfl => ?_⟩
        have hpf := v5.ne hfl
        have hf0 := b5.free (Ne.symm hpf) hfl
        refine ⟨_, rfl, _, rfl, by omega, by omega, ?_⟩
        refine for_range (fun i σ H' => ∃ o7 o8 o9 ss, σ = [some (.ref p), some (.int (m : Int)), some (.str "abcdefghijklmnopqrstuvwxyz"), some (.int r1), some (.int st), some (.str z), some (.ref fl), o7, o8, o9] ∧ H' fl = some (.lst (List.map V.str ss)) ∧ ss.length = i ∧
            (∀ (j : Nat) (s : Str), ss[j]? = some s → ∃ (c d : Nat) (x : Str), s = ⟨#[c]⟩ ++ ⟨#[d]⟩ ++ x ∧ (c : Int) = 97 + (r1 + st * (j : Int)) % 676 / 26 ∧ (d : Int) = 97 + (r1 + st * (j : Int)) % 676 % 26) ∧ (∀ s ∈ ss, Nm s) ∧ ss.Nodup ∧ PenV H' p a ∧ But p H H')
          ⟨none, none, none, [], rfl, upd_same, rfl, (fun j s e => by simp at e), (fun s hs => by cases hs), List.nodup_nil, v5.upd hpf, b5.at hf0⟩ ?_ ?_
        · rintro i σ H6 hi ⟨o7, o8, o9, ss, rfl, hf, hl6, hj6, hnm, hnd6, v6, b6⟩
          refine ⟨_, rfl, _, rfl, _, rfl, _, _, rfl, rfl, .inl ⟨by omega, by omega⟩, .int ⟨_, _, rfl, rfl, (by show (0 : Int) < _; decide), ?_⟩⟩
          have n0 := Int.emod_nonneg (r1 + st * (0 + (i : Nat) : Int)) (show (676 : Int) ≠ 0 by decide)
          have n1 := Int.emod_lt_of_pos (r1 + st * (0 + (i : Nat) : Int)) (show (0 : Int) < 676 by decide)
          have hnew : ∀ j : Nat, j < i → (r1 + st * (j : Int)) % 676 ≠ (r1 + st * (0 + (i : Nat) : Int)) % 676 := fun j hj => num_inj hst hj (by omega)
          have hnum : (r1 + st * (0 + (i : Nat) : Int)) % 676 = (r1 + st * (i : Int)) % 676 := by rw [Int.zero_add]
          refine ⟨_, rfl, _, rfl, _, _, rfl, ⟨hz, rfl⟩, .int ⟨p, a, _, rfl, hP.but b6 v6, by omega, by omega, fun r7 H7 h70 h71 v7 e7 => ?_⟩⟩
          have hf7 : H7 fl = some (.lst (List.map V.str ss)) := (e7 fl (Ne.symm hpf)).trans hf
          have b7 := b6.trans (But.of_eq e7)
          have sl := Txt.slice_le z none (some r7)
          have q0 : 0 ≤ ((r1 + st * (0 + (i : Nat) : Int)) % 676) / 26 ∧ ((r1 + st * (0 + (i : Nat) : Int)) % 676) / 26 < 26 := by omega
          have q1 : 0 ≤ ((r1 + st * (0 + (i : Nat) : Int)) % 676) % 26 ∧ ((r1 + st * (0 + (i : Nat) : Int)) % 676) % 26 < 26 := by omega
          refine ⟨_, rfl, .inl ⟨rfl, _, .of hf7⟩, ?_⟩
          refine ⟨_, rfl, _, rfl, _, _, rfl, rfl, ⟨by decide, by decide⟩, .str lL (let_at q0.1 q0.2) ⟨_, rfl, _, rfl, _, _, rfl, rfl, (by show (0 : Int) < _; decide), .str lL (let_at q1.1 q1.2) (.str (by show 1 + 1 ≤ sizeLine; decide) ⟨_, rfl, _, rfl, _, rfl, .str hz (.str ?_ ⟨fl, _, _, rfl, rfl, hf7, ?_, ?_⟩)⟩)⟩⟩
          · rw [len_app]
            have := small1000 (n := 8) (by omega)
            show 1 + 1 + _ ≤ sizeLine
            omega
          · rw [List.length_map, hl6]; exact small1000 (by omega)
          · refine ⟨_, _, _, ss ++ [⟨#[97 + (((r1 + st * (0 + (i : Nat) : Int)) % 676) / 26).toNat]⟩ ++ ⟨#[97 + (((r1 + st * (0 + (i : Nat) : Int)) % 676) % 26).toNat]⟩ ++ Txt.slice z none (some r7)], rfl, ?_, by simp [hl6], ?_, ?_, ?_, v7.upd hpf, b7.at hf0⟩
            · rw [upd_same]; simp
            · intro j s e
              by_cases q : j < ss.length
              · rw [List.getElem?_append_left q] at e
                exact hj6 j s e
              · rw [List.getElem?_append_right (by omega)] at e
                have : j = i := by
                  have := (List.getElem?_eq_some_iff.mp e).1
                  simp at this
                  omega
                subst this
                rw [hl6, Nat.sub_self] at e
                cases e
                exact ⟨_, _, _, rfl, by omega, by omega⟩
            · intro s hs
              rcases List.mem_append.mp hs with hs | hs
              · exact hnm s hs
              · rw [List.mem_singleton.mp hs]
                exact two_nm (by omega) (by omega) (by omega) (hj.slice _ _)
            · refine nodup_snoc hnd6 fun hm => ?_
              obtain ⟨j, hjl, e⟩ := List.mem_iff_getElem.mp hm
              obtain ⟨c, d, x, ec, hc, hd⟩ := hj6 j _ (List.getElem?_eq_getElem hjl)
              rw [e] at ec
              obtain ⟨e1, e2⟩ := two_inj ec
              refine hnew j (by omega) ?_
              omega
        · rintro σ H6 ⟨o7, o8, o9, ss, rfl, hf, hl6, hj6, hnm, hnd6, v6, b6⟩
          exact ⟨_, rfl, k fl ss H6 (by simpa using hl6) hnd6 hnm hf (Ne.symm hpf) v6 b6⟩
end
end K25
namespace K25
open PySem L2
section
variable {P : Program} {w : World} {K : PySem.W.Frag} {mg : Str → Option Value} {base : Heap}
noncomputable def natV (xs : List Nat) : List V := xs.map fun x : Nat => V.int (x : Int)
theorem Rep.tieBut {H H' : Hp} {p : Addr} {ys : List V} (hp : H p = some (.lst ys)) (b : But p H H') {v : V} {e : Nat × Nat} (h : Rep H v (tieD e)) : Rep H' v (tieD e) := by
  obtain ⟨a, rfl, ha⟩ := tie_at h
  exact tie_rep (b a _ (ne_of ha hp (by intro z; cases z)) ha)
theorem RepAll.tieBut {H H' : Hp} {p : Addr} {ys : List V} (hp : H p = some (.lst ys)) (b : But p H H') : ∀ {es : List (Nat × Nat)} {xs : List V}, RepAll H xs (es.map tieD) → RepAll H' xs (es.map tieD)
  | [], xs, h => by rw [RepAll.nilI h]; exact .nil
  | e :: es, xs, h => by
    obtain ⟨y, ys', rfl, a, c⟩ := RepAll.consI h
    exact .cons (Rep.tieBut hp b a) (RepAll.tieBut hp b c)
theorem penAt {H : Hp} {p a : Addr} (v : PenV H p a) : ∃ ys, H p = some (.lst ys) := let ⟨_, _, e, _⟩ := v; ⟨_, e⟩
theorem nat_at {xs : List Nat} {i : Nat} (h : i < xs.length) : atI (natV xs) (i : Int) = some (.int ((xs[i] : Nat) : Int)) := atI_nat (by simp [natV, h])
end
end K25
namespace K25
open PySem L2
section
variable {P : Program} {w : World} {K : PySem.W.Frag} {mg : Str → Option Value} {base : Heap}
open Classical in
theorem pos_ex {xs : List Nat} (nd : xs.Nodup) : ∃ r : Nat → Nat, ∀ i v, xs[i]? = some v → r v = i := by
  refine ⟨fun v => if h : ∃ i, xs[i]? = some v then h.choose else 0, fun i v hv => ?_⟩
  have h : ∃ i, xs[i]? = some v := ⟨i, hv⟩
  simp only [dif_pos h]
  have h1 := h.choose_spec
  have hl := (List.getElem?_eq_some_iff.mp h1).1
  exact (List.getElem?_inj hl nd).mp (h1.trans hv.symm)
theorem perm_ins (xs : List Nat) (j i : Nat) : (xs.take j ++ i :: xs.drop j).Perm (i :: xs) := by
  have := (List.perm_middle (a := i) (l₁ := xs.take j) (l₂ := xs.drop j))
  rwa [List.take_append_drop] at this
noncomputable def spTies (K : PySem.W.Frag) : Sp := fun vs H Q _ => ∃ (p a : Addr) (n c : Nat), vs = [.ref p, .int (n : Int), .int (c : Int)] ∧ Pen K H p a ∧ n ≤ 60 ∧ c ≤ 400 ∧ (n = 0 → c = 0) ∧
  ∀ lt refs es H', H' lt = some (.lst refs) → RepAll H' refs (es.map tieD) → (∀ e ∈ es, e.1 < n ∧ e.2 < n) → MG.Ris es → es.length ≤ c → lt ≠ p → PenV H' p a → But p H H' → Q (.ref lt) H'
theorem scTies : FnScope ["_law_pen", "_law_size", "_law_count", "_law_order", "_law_k", "_law_found", "_law_one", "_law_other", "_law_pair"] ["_law_pen", "_law_size", "_law_count"] (defScope sTies) := ⟨rfl, rfl, rfl, by decide +kernel, rfl, by decide +kernel, by decide +kernel⟩
theorem ok_ties {f : Addr} {fd : FuncData} (F : Fun K "_law_ties" "_law_ties" sTies f fd) (B : Blt mg) (c_law_take : Cal P w K mg base 1 "_law_take" ["_law_pen", "_law_many"] (spDraw K)) : FnOk P w K mg base CX0 2 f fd ["_law_pen", "_law_size", "_law_count"] (spTies K) := by
  refine F.ok scTies (fun vs H Q E h => ?_) (fun cdv A outer s H vs Q E hr h => ?_)
  · obtain ⟨p, a, n, c, rfl, _⟩ := h
    rfl
  · obtain ⟨p, a, n, c, rfl, hP, hn, hc, hn0, k⟩ := h
    have nd := scTies.nd
    have v0 := hP.2
    refine ⟨_, (pss_cons (ps_set (i := 3) nd rfl (Or.inl rfl) (pe_lst pa_nil))
      (pss_cons (ps_for PassesOwn.never rfl (pi_range1 rfl B.range (pa_cons (pv 1) pa_nil)) (pg_name (i := 4) nd rfl (Or.inl rfl)) (pss_one (ps_expr (m_insert K (pv 3) (pa_cons (pe_cal c_law_take (hr.mono (by decide)) rfl (pa_cons (pv 0) (pa_cons (pe_op op_addX (pv 4) pe_int) pa_nil))) (pa_cons (pv 4) pa_nil))))))
      (pss_cons (ps_set (i := 5) nd rfl (Or.inl rfl) (pe_lst pa_nil))
      (pss_cons (ps_for PassesOwn.never rfl (pi_range1 rfl B.range (pa_cons (pv 2) pa_nil)) (pg_name (i := 4) nd rfl (Or.inl rfl)) (pss_cons (ps_set (i := 6) nd rfl (Or.inl rfl) (pe_cal c_law_take (hr.mono (by decide)) rfl (pa_cons (pv 0) (pa_cons (pv 1) pa_nil))))
      (pss_cons (ps_set (i := 7) nd rfl (Or.inl rfl) (pe_cal c_law_take (hr.mono (by decide)) rfl (pa_cons (pv 0) (pa_cons (pv 1) pa_nil))))
      (pss_cons (ps_if (pt_cmpR (op_eqX hr.units) (pe_cal c_law_take (hr.mono (by decide)) rfl (pa_cons (pv 0) (pa_cons pe_int pa_nil))) pe_int (nomark _)) (pss_one (ps_set (i := 7) nd rfl (Or.inl rfl) (pe_op op_mod (pe_op op_addX (pv 6) pe_int) (pv 1)))) pss_nil)
      (pss_cons (ps_set (i := 8) nd rfl (Or.inl rfl) (pe_tup (pa_cons (pe_ix (ix_X K hr.units) (pv 3) (b_min rfl B (pa_cons (pv 6) (pa_cons (pv 7) pa_nil))) (fun _ _ => rfl)) (pa_cons (pe_ix (ix_X K hr.units) (pv 3) (b_max rfl B (pa_cons (pv 6) (pa_cons (pv 7) pa_nil))) (fun _ _ => rfl)) pa_nil))))
      (pss_one (ps_if (PW.pt (pw_and (pt_cmpR (op_neX hr.units) (pv 6) (pv 7) (nomark _)) (pw_and1 (pt_cmpR (op_notInX K hr.units) (pv 8) (pv 5) (by with_unfolding_all rfl))))) (pss_one (ps_expr (m_append K (pv 5) (pa_cons (pv 8) pa_nil)))) pss_nil)))))))
      (pss_one (ps_ret (pv 5))))))), ?_⟩
    refine ⟨(by show 0 ≤ sizeLine; decide), fun lo hlo => ?_⟩
    have hpo := v0.ne hlo
    refine ⟨_, rfl, _, rfl, by omega, by omega, ?_⟩
    refine for_range (fun i σ H' => ∃ o4 xs, σ = [some (.ref p), some (.int (n : Int)), some (.int (c : Int)), some (.ref lo), o4, none, none, none, none] ∧ H' lo = some (.lst (natV xs)) ∧ xs.Perm (List.range i) ∧ PenV H' p a ∧ But p H H')
      ⟨none, [], rfl, upd_same, List.Perm.refl _, v0.upd hpo, (But.refl p H).at hlo⟩ ?_ ?_
    · rintro i σ H1 hi ⟨o4, xs, rfl, ho1, hpm, v1, b1⟩
      have hi : i < n := by simpa using hi
      have hl1 := hpm.length_eq
      rw [List.length_range] at hl1
      refine ⟨_, rfl, .inl ⟨rfl, _, .of ho1⟩, _, rfl, _, rfl, .int ⟨p, a, _, rfl, hP.but b1 v1, by omega, by omega, fun r H2 h0 h1 v2 e2 => ?_⟩⟩
      obtain ⟨j, rfl⟩ := Int.eq_ofNat_of_zero_le h0
      have ho2 : H2 lo = some (.lst (natV xs)) := (e2 lo (Ne.symm hpo)).trans ho1
      have hln : (natV xs).length = i := by simp [natV, hl1]
      refine ⟨_, rfl, lo, _, _, j, _, rfl, rfl, rfl, ho2, by omega, by rw [hln]; exact small1000 (by omega), ?_⟩
      refine ⟨_, xs.take j ++ i :: xs.drop j, rfl, ?_, ?_, v2.upd hpo, (b1.trans (But.of_eq e2)).at hlo⟩
      · rw [upd_same]
        simp [natV, List.map_take, List.map_drop]
      · rw [List.range_succ]
        exact (perm_ins xs j i).trans ((List.Perm.cons i hpm).trans (List.perm_append_singleton i (List.range i)).symm)
    · rintro σ H1 ⟨o4, xs, rfl, ho1, hpm, v1, b1⟩
      have hpm : xs.Perm (List.range n) := by simpa using hpm
      have hl1 := hpm.length_eq
      rw [List.length_range] at hl1
      have xnd : xs.Nodup := hpm.nodup_iff.mpr List.nodup_range
      have xlt : ∀ x ∈ xs, x < n := fun x hx => List.mem_range.mp (hpm.mem_iff.mp hx)
      obtain ⟨ρ, hρ⟩ := pos_ex xnd
      refine ⟨(by show 0 ≤ sizeLine; decide), fun lf hlf => ?_⟩
      have hpf := v1.ne hlf
      have hf0 := b1.free (Ne.symm hpf) hlf
      have hof : lo ≠ lf := ne_of_none ho1 hlf
      refine ⟨_, rfl, _, rfl, by omega, by omega, ?_⟩
      refine for_range (fun i σ H' => ∃ o4 o6 o7 o8 refs es, σ = [some (.ref p), some (.int (n : Int)), some (.int (c : Int)), some (.ref lo), o4, some (.ref lf), o6, o7, o8] ∧ H' lo = some (.lst (natV xs)) ∧ H' lf = some (.lst refs) ∧ RepAll H' refs (es.map tieD) ∧ (∀ e ∈ es, e.1 < n ∧ e.2 < n) ∧ (∀ e ∈ es, ρ e.1 < ρ e.2) ∧ es.length ≤ i ∧ PenV H' p a ∧ But p H H')
        ⟨_, none, none, none, [], [], rfl, by rw [upd_ne hof]; exact ho1, upd_same, .nil, (fun e he => by cases he), (fun e he => by cases he), Nat.le_refl _, v1.upd hpf, b1.at hf0⟩ ?_ ?_
      · rintro i σ H2 hi ⟨o4, o6, o7, o8, refs, es, rfl, ho2, hf2, rp2, he2, hr2, hl2, v2, b2⟩
        have hi : i < c := by simpa using hi
        have hnp : 0 < n := by
          by_cases q : n = 0
          · have := hn0 q; omega
          · omega
        refine ⟨_, rfl, _, rfl, p, a, _, rfl, hP.but b2 v2, by omega, by omega, fun r1 H3 h10 h11 v3 e3 => ?_⟩
        refine ⟨_, rfl, _, rfl, p, a, _, rfl, hP.but (b2.trans (But.of_eq e3)) v3, by omega, by omega, fun r2 H4 h20 h21 v4 e4 => ?_⟩
        obtain ⟨x, rfl⟩ := Int.eq_ofNat_of_zero_le h10
        obtain ⟨y0, rfl⟩ := Int.eq_ofNat_of_zero_le h20
        have hx : x < n := by omega
        have hy0 : y0 < n := by omega
        clear h10 h11 h20 h21
        have b4 := (b2.trans (But.of_eq e3)).trans (But.of_eq e4)
        refine ⟨_, rfl, p, a, 2, rfl, hP.but b4 v4, by decide, by decide, fun r5 H5 _ _ v5 e5 => .sc rfl ⟨_, rfl, ?_⟩⟩
        have b5 := b4.trans (But.of_eq e5)
        obtain ⟨_, hpv⟩ := penAt v2
        have bb := ((But.of_eq e3).trans (But.of_eq e4)).trans (But.of_eq e5)
        have ho5 := bb lo _ (Ne.symm hpo) ho2
        have hf5 := bb lf _ (Ne.symm hpf) hf2
        have rp5 := RepAll.tieBut hpv bb rp2
        refine ite2 (fun _ => ?_) (fun _ => ?_)
        · refine ⟨_, rfl, .int ⟨_, rfl, _, _, rfl, rfl, (by show (0 : Int) < (n : Int); omega), ?_⟩⟩
          have g0 := Int.emod_nonneg ((x : Int) + 1) (show (n : Int) ≠ 0 by omega)
          have g1 := Int.emod_lt_of_pos ((x : Int) + 1) (show (0 : Int) < (n : Int) by omega)
          obtain ⟨y, ey⟩ := Int.eq_ofNat_of_zero_le g0
          have hy : y < n := by omega
          dsimp only
          rw [ey]
          clear ey g0 g1
          have em : (if (y : Int) < (x : Int) then (y : Int) else (x : Int)) = ((min x y : Nat) : Int) := by split <;> omega
          have eM : (if (y : Int) > (x : Int) then (y : Int) else (x : Int)) = ((max x y : Nat) : Int) := by split <;> omega
          have hm : min x y < xs.length := by omega
          have hM : max x y < xs.length := by omega
          refine ⟨_, rfl, _, rfl, _, rfl, _, _, rfl, ?_⟩
          try dsimp only
          rw [em]
          refine .lst (.of ho5) (nat_at hm) ⟨_, rfl, _, rfl, _, rfl, _, _, rfl, ?_⟩
          try dsimp only
          rw [eM]
          refine .lst (.of ho5) (nat_at hM) ⟨(by show 2 ≤ sizeLine; decide), fun tq htq => ?_⟩
          have sq := Same.new (o := .tup [V.int ((xs[min x y] : Nat) : Int), V.int ((xs[max x y] : Nat) : Int)]) htq
          have hpq := v5.ne htq
          have htq6 : upd H5 tq (.tup [V.int ((xs[min x y] : Nat) : Int), V.int ((xs[max x y] : Nat) : Int)]) tq = some (.tup [V.int ((xs[min x y] : Nat) : Int), V.int ((xs[max x y] : Nat) : Int)]) := upd_same
          have ho6 := sq _ _ ho5
          have hf6 := sq _ _ hf5
          have rp6 := rp5.same sq
          have v6 : PenV _ p a := v5.upd (o := .tup [V.int ((xs[min x y] : Nat) : Int), V.int ((xs[max x y] : Nat) : Int)]) hpq
          have b6 := b5.at (o := .tup [V.int ((xs[min x y] : Nat) : Int), V.int ((xs[max x y] : Nat) : Int)]) (b5.free (Ne.symm hpq) htq)
          have hfq : lf ≠ tq := ne_of_none hf5 htq
          generalize upd H5 tq (.tup [V.int ((xs[min x y] : Nat) : Int), V.int ((xs[max x y] : Nat) : Int)]) = H6 at htq6 ho6 hf6 rp6 v6 b6 ⊢
          have no : ∃ (o4 o6 o7 o8 : Option V) (refs : List V) (es : List (Nat × Nat)), [some (V.ref p), some (V.int (n : Int)), some (V.int (c : Int)), some (V.ref lo), some (V.int (0 + (i : Nat) : Int)), some (V.ref lf), some (V.int (x : Int)), some (V.int (y : Int)), some (V.ref tq)] = [some (.ref p), some (.int (n : Int)), some (.int (c : Int)), some (.ref lo), o4, some (.ref lf), o6, o7, o8] ∧ H6 lo = some (.lst (natV xs)) ∧ H6 lf = some (.lst refs) ∧ RepAll H6 refs (es.map tieD) ∧ (∀ e ∈ es, e.1 < n ∧ e.2 < n) ∧ (∀ e ∈ es, ρ e.1 < ρ e.2) ∧ es.length ≤ i + 1 ∧ PenV H6 p a ∧ But p H H6 := ⟨_, _, _, _, refs, es, rfl, ho6, hf6, rp6, he2, hr2, by omega, v6, b6⟩
          refine ⟨_, rfl, _, rfl, .sc rfl ⟨_, rfl, ite2 (fun hne => ?_) (fun _ => iteF no)⟩⟩
          have hne : (!decide (V.int (x : Int) = V.int (y : Int))) = true := hne
          have hxy : x ≠ y := fun z => by rw [z] at hne; simp at hne
          refine ⟨_, rfl, _, rfl, .tr hf6 rp6 (tie_rep (i := xs[min x y]) (j := xs[max x y]) htq6) (canLay_ties es) rfl (by show 1 ≤ 16; decide) ⟨_, rfl, ite2 (fun _ => ?_) (fun _ => no)⟩⟩
          have rlen := rp6.len
          rw [List.length_map] at rlen
          refine ⟨_, rfl, .inl ⟨rfl, _, .of hf6⟩, _, rfl, lf, _, _, rfl, rfl, hf6, by rw [rlen]; exact small1000 (by omega), ?_⟩
          refine ⟨_, _, _, _, refs ++ [.ref tq], es ++ [(xs[min x y], xs[max x y])], rfl, ?_, upd_same, ?_, ?_, ?_, ?_, v6.upd hpf, b6.at hf0⟩
          · rw [upd_ne hof]; exact ho6
          · rw [List.map_append]
            refine RepAll.append (RepAll.tieBut (p := lf) hf6 But.upd rp6) (.cons (tie_rep ?_) .nil)
            rw [upd_ne (Ne.symm hfq)]; exact htq6
          · intro e he
            rcases List.mem_append.mp he with g | g
            · exact he2 e g
            · rw [List.mem_singleton.mp g]; exact ⟨xlt _ (List.getElem_mem hm), xlt _ (List.getElem_mem hM)⟩
          · intro e he
            rcases List.mem_append.mp he with g | g
            · exact hr2 e g
            · rw [List.mem_singleton.mp g]
              have r1 := hρ (min x y) _ (List.getElem?_eq_getElem hm)
              have r2 := hρ (max x y) _ (List.getElem?_eq_getElem hM)
              show ρ xs[min x y] < ρ xs[max x y]
              omega
          · rw [List.length_append]; show es.length + 1 ≤ i + 1; omega
        · obtain ⟨y, ey⟩ : ∃ y, y = y0 := ⟨_, rfl⟩
          have hy : y < n := by omega
          rw [← ey]
          clear ey
          have em : (if (y : Int) < (x : Int) then (y : Int) else (x : Int)) = ((min x y : Nat) : Int) := by split <;> omega
          have eM : (if (y : Int) > (x : Int) then (y : Int) else (x : Int)) = ((max x y : Nat) : Int) := by split <;> omega
          have hm : min x y < xs.length := by omega
          have hM : max x y < xs.length := by omega
          refine ⟨_, rfl, _, rfl, _, rfl, _, _, rfl, ?_⟩
          try dsimp only
          rw [em]
          refine .lst (.of ho5) (nat_at hm) ⟨_, rfl, _, rfl, _, rfl, _, _, rfl, ?_⟩
          try dsimp only
          rw [eM]
          refine .lst (.of ho5) (nat_at hM) ⟨(by show 2 ≤ sizeLine; decide), fun tq htq => ?_⟩
          have sq := Same.new (o := .tup [V.int ((xs[min x y] : Nat) : Int), V.int ((xs[max x y] : Nat) : Int)]) htq
          have hpq := v5.ne htq
          have htq6 : upd H5 tq (.tup [V.int ((xs[min x y] : Nat) : Int), V.int ((xs[max x y] : Nat) : Int)]) tq = some (.tup [V.int ((xs[min x y] : Nat) : Int), V.int ((xs[max x y] : Nat) : Int)]) := upd_same
          have ho6 := sq _ _ ho5
          have hf6 := sq _ _ hf5
          have rp6 := rp5.same sq
          have v6 : PenV _ p a := v5.upd (o := .tup [V.int ((xs[min x y] : Nat) : Int), V.int ((xs[max x y] : Nat) : Int)]) hpq
          have b6 := b5.at (o := .tup [V.int ((xs[min x y] : Nat) : Int), V.int ((xs[max x y] : Nat) : Int)]) (b5.free (Ne.symm hpq) htq)
          have hfq : lf ≠ tq := ne_of_none hf5 htq
          generalize upd H5 tq (.tup [V.int ((xs[min x y] : Nat) : Int), V.int ((xs[max x y] : Nat) : Int)]) = H6 at htq6 ho6 hf6 rp6 v6 b6 ⊢
          have no : ∃ (o4 o6 o7 o8 : Option V) (refs : List V) (es : List (Nat × Nat)), [some (V.ref p), some (V.int (n : Int)), some (V.int (c : Int)), some (V.ref lo), some (V.int (0 + (i : Nat) : Int)), some (V.ref lf), some (V.int (x : Int)), some (V.int (y : Int)), some (V.ref tq)] = [some (.ref p), some (.int (n : Int)), some (.int (c : Int)), some (.ref lo), o4, some (.ref lf), o6, o7, o8] ∧ H6 lo = some (.lst (natV xs)) ∧ H6 lf = some (.lst refs) ∧ RepAll H6 refs (es.map tieD) ∧ (∀ e ∈ es, e.1 < n ∧ e.2 < n) ∧ (∀ e ∈ es, ρ e.1 < ρ e.2) ∧ es.length ≤ i + 1 ∧ PenV H6 p a ∧ But p H H6 := ⟨_, _, _, _, refs, es, rfl, ho6, hf6, rp6, he2, hr2, by omega, v6, b6⟩
          refine ⟨_, rfl, _, rfl, .sc rfl ⟨_, rfl, ite2 (fun hne => ?_) (fun _ => iteF no)⟩⟩
          have hne : (!decide (V.int (x : Int) = V.int (y : Int))) = true := hne
          have hxy : x ≠ y := fun z => by rw [z] at hne; simp at hne
          refine ⟨_, rfl, _, rfl, .tr hf6 rp6 (tie_rep (i := xs[min x y]) (j := xs[max x y]) htq6) (canLay_ties es) rfl (by show 1 ≤ 16; decide) ⟨_, rfl, ite2 (fun _ => ?_) (fun _ => no)⟩⟩
          have rlen := rp6.len
          rw [List.length_map] at rlen
          refine ⟨_, rfl, .inl ⟨rfl, _, .of hf6⟩, _, rfl, lf, _, _, rfl, rfl, hf6, by rw [rlen]; exact small1000 (by omega), ?_⟩
          refine ⟨_, _, _, _, refs ++ [.ref tq], es ++ [(xs[min x y], xs[max x y])], rfl, ?_, upd_same, ?_, ?_, ?_, ?_, v6.upd hpf, b6.at hf0⟩
          · rw [upd_ne hof]; exact ho6
          · rw [List.map_append]
            refine RepAll.append (RepAll.tieBut (p := lf) hf6 But.upd rp6) (.cons (tie_rep ?_) .nil)
            rw [upd_ne (Ne.symm hfq)]; exact htq6
          · intro e he
            rcases List.mem_append.mp he with g | g
            · exact he2 e g
            · rw [List.mem_singleton.mp g]; exact ⟨xlt _ (List.getElem_mem hm), xlt _ (List.getElem_mem hM)⟩
          · intro e he
            rcases List.mem_append.mp he with g | g
            · exact hr2 e g
            · rw [List.mem_singleton.mp g]
              have r1 := hρ (min x y) _ (List.getElem?_eq_getElem hm)
              have r2 := hρ (max x y) _ (List.getElem?_eq_getElem hM)
              show ρ xs[min x y] < ρ xs[max x y]
              omega
          · rw [List.length_append]; show es.length + 1 ≤ i + 1; omega
      · rintro σ H2 ⟨o4, o6, o7, o8, refs, es, rfl, ho2, hf2, rp2, he2, hr2, hl2, v2, b2⟩
        have hl2 : es.length ≤ c := by simpa using hl2
        exact ⟨_, rfl, k lf refs es H2 hf2 rp2 he2 ⟨ρ, hr2⟩ hl2 (Ne.symm hpf) v2 b2⟩
end
end K25
namespace K25
open PySem L2
section
variable {P : Program} {w : World} {K : PySem.W.Frag} {mg : Str → Option Value} {base : Heap}
structure Built (H : Hp) (n t : Addr) (ss : List Str) (es : List (Nat × Nat)) : Prop where
  nm : H n = some (.lst (List.map V.str ss))
  nd : ss.Nodup
  ok : ∀ s ∈ ss, Nm s
  len : ss.length ≤ 60
  ti : ∃ refs, H t = some (.lst refs) ∧ RepAll H refs (es.map tieD)
  val : ∀ e ∈ es, e.1 < ss.length ∧ e.2 < ss.length
  few : es.length ≤ 401
theorem Built.same {H H' : Hp} {n t : Addr} {ss : List Str} {es : List (Nat × Nat)} (h : Built H n t ss es) (s : Same H H') : Built H' n t ss es :=
  ⟨s _ _ h.nm, h.nd, h.ok, h.len, let ⟨refs, a, b⟩ := h.ti; ⟨refs, s _ _ a, b.same s⟩, h.val, h.few⟩
theorem Built.but {H H' : Hp} {p n t : Addr} {ss : List Str} {es : List (Nat × Nat)} (h : Built H n t ss es) {ys : List V} (hp : H p = some (.lst ys)) (b : But p H H') (hn : n ≠ p) (ht : t ≠ p) : Built H' n t ss es :=
  ⟨b _ _ hn h.nm, h.nd, h.ok, h.len, let ⟨refs, a, c⟩ := h.ti; ⟨refs, b _ _ ht a, RepAll.tieBut hp b c⟩, h.val, h.few⟩
noncomputable def nmP (ss : List Str) (e : Nat × Nat) : Str × Str := (ss.getD e.1 "", ss.getD e.2 "")
theorem str_at {ss : List Str} {i : Nat} (h : i < ss.length) : atI (List.map V.str ss) (i : Int) = some (.str (ss.getD i "")) := atI_nat (by simp [h, List.getD_eq_getElem?_getD])
theorem Rep.pairBut {H H' : Hp} {p : Addr} {ys : List V} (hp : H p = some (.lst ys)) (b : But p H H') {v : V} {e : Str × Str} (h : Rep H v (pairD e)) : Rep H' v (pairD e) := by
  obtain ⟨a, rfl, ha⟩ := pair_at h
  exact pair_rep (b a _ (ne_of ha hp (by intro z; cases z)) ha)
theorem RepAll.pairBut {H H' : Hp} {p : Addr} {ys : List V} (hp : H p = some (.lst ys)) (b : But p H H') : ∀ {es : List (Str × Str)} {xs : List V}, RepAll H xs (es.map pairD) → RepAll H' xs (es.map pairD)
  | [], xs, h => by rw [RepAll.nilI h]; exact .nil
  | e :: es, xs, h => by
    obtain ⟨y, ys', rfl, a, c⟩ := RepAll.consI h
    exact .cons (Rep.pairBut hp b a) (RepAll.pairBut hp b c)
theorem gYes2 {x : V} {q : Addr} {u v : V} {σ : St} {H : Hp} {A B : St → Hp → Prop} (hx : x = .ref q) (hq : SqT K H q [u, v]) (h : A ((σ.set 0 (some u)).set 1 (some v)) H) :
    gTup K 2 (gCons (gName 0) (gCons (gName 1) gNil)) x σ H fun σ2 H3 => tYes σ2 H3 fun b H4 => if b = true then A σ2 H4 else B σ2 H4 := by
  subst hx
  refine ⟨q, _, rfl, hq, rfl, _, _, rfl, _, _, rfl, rfl, ?_⟩
  show (if true = true then A ((σ.set 0 (some u)).set 1 (some v)) H else B ((σ.set 0 (some u)).set 1 (some v)) H)
  rw [if_pos rfl]
  exact h
noncomputable def spWeb : Sp := fun vs H Q _ => ∃ n t ss es, vs = [.ref n, .ref t] ∧ Built H n t ss es ∧ ∀ q H', Same H H' → Rep H' (.ref q) (webD ss (es.map (nmP ss))) → Q (.ref q) H'
theorem scWeb : FnScope ["_law_names_here", "_law_ties_here"] ["_law_names_here", "_law_ties_here"] (defScope sWeb) := ⟨rfl, rfl, rfl, by decide +kernel, rfl, by decide +kernel, by decide +kernel⟩
theorem ok_web {f : Addr} {fd : FuncData} (F : Fun K "_law_web" "_law_web" sWeb f fd) (B : Blt mg) : FnOk P w K mg base CX0 1 f fd ["_law_names_here", "_law_ties_here"] spWeb := by
  refine F.ok scWeb (fun vs H Q E h => ?_) (fun cdv A outer s H vs Q E hr h => ?_)
  · obtain ⟨n, t, ss, es, rfl, _⟩ := h
    rfl
  · obtain ⟨n, t, ss, es, rfl, hB, k⟩ := h
    have nd := scWeb.nd
    refine ⟨_, (pss_one (ps_ret (pe_tup (pa_cons (b_tuple K B (pa_cons (pv 0) pa_nil)) (pa_cons (b_tuple K B (pa_cons (pe_comp (defScope sWeb) ["_law_names_here", "_law_ties_here"] ["_law_one", "_law_other"] [0] ["_law_one", "_law_other", "_law_names_here"] rfl (pi_listK K (pv 1)) (fun _ _ _ _ _ => (pg_tupK (n := 2) K rfl (pgs_cons (pg_name (i := 0) (show (["_law_one", "_law_other", "_law_names_here"] : List Str).Nodup by decide) rfl (Or.inl rfl)) (pgs_cons (pg_name (i := 1) (show (["_law_one", "_law_other", "_law_names_here"] : List Str).Nodup by decide) rfl (Or.inl rfl)) pgs_nil)))) (fun _ _ _ _ _ => pts_nil) (fun _ _ _ _ _ => (pe_tup (pa_cons (pe_ix (ix_X K hr.units) (pv 2) (pv 0) (fun _ _ => rfl)) (pa_cons (pe_ix (ix_X K hr.units) (pv 2) (pv 1) (fun _ _ => rfl)) pa_nil))))) pa_nil)) pa_nil))))), ?_⟩
    refine ⟨_, rfl, n, _, rfl, .of hB.nm, fun l1 h1 => ?_⟩
    have s1 := Same.new (o := .tup (List.map V.str ss)) h1
    have e1 : upd H l1 (.tup (List.map V.str ss)) l1 = some (.tup (List.map V.str ss)) := upd_same
    have hB1 := hB.same s1
    generalize upd H l1 (.tup (List.map V.str ss)) = H1 at s1 e1 hB1 ⊢
    obtain ⟨refs, ht, rp⟩ := hB1.ti
    have rlen := rp.len
    rw [List.length_map] at rlen
    refine ⟨_, rfl, t, rfl, ⟨_, .of ht⟩, ?_⟩
    refine comp_list refs (fun D i acc σ' H' => ∃ o1 o2, σ' = [o1, o2, some (.ref n)] ∧ RepAll H' acc (((es.take i).map (nmP ss)).map pairD) ∧ Same H1 H' ∧ H1 D = none) fun D hD => ⟨?_, ?_, ?_, ?_⟩
    · exact ⟨none, none, rfl, .nil, Same.new hD, hD⟩
    · rintro i acc σ' H' _ ⟨o1, o2, rfl, _, sm, _⟩ _
      exact .of (sm _ _ ht)
    · rintro i acc σ' H' x hx ⟨o1, o2, rfl, rpa, sm, hD0⟩ hacc
      obtain ⟨d, hd, rd⟩ := (rp.same sm).get hx
      rw [List.getElem?_map] at hd
      obtain ⟨e, he, rfl⟩ : ∃ e, es[i]? = some e ∧ tieD e = d := by
        cases q : es[i]? with
        | none => rw [q] at hd; cases hd
        | some e => rw [q] at hd; exact ⟨e, rfl, Option.some.inj hd⟩
      obtain ⟨ta, eta, hta⟩ := tie_at rd
      have hev := hB1.val e (List.mem_of_getElem? he)
      have hn' := sm _ _ hB1.nm
      have alen := rpa.len
      simp only [List.length_map, List.length_take] at alen
      have hil := (List.getElem?_eq_some_iff.mp he).1
      refine gYes2 eta (.of hta) ?_
      refine ⟨_, rfl, _, rfl, .lst (.of hn') (str_at hev.1) ⟨_, rfl, _, rfl, .lst (.of hn') (str_at hev.2) ⟨(by show 2 ≤ sizeLine; decide), fun q hq => ?_⟩⟩⟩
      have sq := Same.new (o := .tup [V.str (ss.getD e.1 ""), V.str (ss.getD e.2 "")]) hq
      have hDq : D ≠ q := ne_of_none hacc hq
      refine ⟨sq _ _ hacc, small1000 (by have := hB1.few; omega), _, _, rfl, ?_, ?_, hD0⟩
      · rw [List.take_add_one, he, List.map_append, List.map_append]
        refine RepAll.append (RepAll.pairBut (p := D) (sq _ _ hacc) But.upd (rpa.same sq)) (.cons ?_ .nil)
        refine pair_rep ?_
        rw [upd_ne (Ne.symm hDq)]; exact upd_same
      · intro b o hb
        rw [upd_ne (ne_of_none hb hD0)]
        exact sq _ _ (sm _ _ hb)
    · rintro acc σ' H' ⟨o1, o2, rfl, rpa, sm, hD0⟩ hacc
      rw [rlen, List.take_of_length_le (Nat.le_refl _)] at rpa
      refine ⟨D, _, rfl, .of hacc, fun l2 h2 => ⟨(by show 2 ≤ sizeLine; decide), fun q hq => ?_⟩⟩
      have s2 := Same.new (o := .tup acc) h2
      have s3 := Same.new (o := .tup [V.ref l1, V.ref l2]) hq
      refine k q _ ((s1.trans sm).trans (s2.trans s3)) (.tup upd_same (.cons (.tup ((sm.trans (s2.trans s3)) _ _ e1) (RepAll.of_strs ss)) (.cons (.tup (s3 _ _ upd_same) (rpa.same (s2.trans s3))) .nil)))
end
end K25
namespace K25
open PySem L2
section
variable {P : Program} {w : World} {K : PySem.W.Frag} {mg : Str → Option Value} {base : Heap}
theorem scPlaces : FnScope ["things", "places", "place", "thing"] ["things"] (defScope sPlaces) := ⟨rfl, rfl, rfl, by decide +kernel, rfl, by decide +kernel, by decide +kernel⟩
theorem pair_get {H : Hp} {refs : List V} {ps : List (Str × Str)} (rp : RepAll H refs (ps.map pairD)) {j : Nat} {x : V} (hx : refs[j]? = some x) : ∃ e ta, ps[j]? = some e ∧ x = .ref ta ∧ H ta = some (.tup [.str e.1, .str e.2]) := by
  obtain ⟨d, hd, rd⟩ := rp.get hx
  rw [List.getElem?_map] at hd
  cases q : ps[j]? with
  | none => rw [q] at hd; cases hd
  | some e =>
    rw [q] at hd
    have hd : pairD e = d := Option.some.inj hd
    rw [← hd] at rd
    obtain ⟨ta, h1, h2⟩ := pair_at rd
    exact ⟨e, ta, rfl, h1, h2⟩
theorem str_get {ss : List Str} {i : Nat} {x : V} (h : (List.map V.str ss)[i]? = some x) : ∃ s, ss[i]? = some s ∧ V.str s = x := by
  rw [List.getElem?_map] at h
  cases q : ss[i]? with
  | none => rw [q] at h; cases h
  | some e => rw [q] at h; exact ⟨e, rfl, Option.some.inj h⟩
structure PlN (H H' : Hp) (d : Addr) (xs : List Str) (i : Nat) (kvs : List (Key × V)) : Prop where
  sm : Same H H'
  at_ : H' d = some (.dK kvs)
  len : kvs.length ≤ i
  inn : ∀ s, (valV kvs (.inr s)).isSome = true ↔ s ∈ xs.take i
  ix : ∀ s v, valV kvs (.inr s) = some v → ∃ j : Nat, v = .int j ∧ xs[j]? = some s
  nd : (kvs.map (·.1)).Nodup
  ks : ∀ k ∈ kvs.map (·.1), ∃ s ∈ xs, k = Sum.inr s
theorem map_putK {kvs : List (Key × V)} {k : Key} {v : V} (h : (valV kvs k).isSome = true) : (putK kvs k v).map (·.1) = kvs.map (·.1) := by
  unfold putK
  rw [if_pos (by rw [valV_any]; exact h), List.map_map]
  refine List.map_congr_left fun p _ => ?_
  show (if p.1 = k then (p.1, v) else p).1 = p.1
  split <;> rfl
theorem PlN.step {H H' : Hp} {d p : Addr} {xs : List Str} {i : Nat} {kvs : List (Key × V)} {t : Str} {o : HO} (h : PlN H H' d xs i kvs) (hd : H d = none) (hp : H' p = none) (ht : xs[i]? = some t) :
    PlN H (upd (upd H' p o) d (.dK (putK kvs (.inr t) (.int (i : Nat))))) d xs (i + 1) (putK kvs (.inr t) (.int (i : Nat))) := by
  refine ⟨?_, upd_same, ?_, ?_, ?_, ?_, ?_⟩
  · intro b o hb
    rw [upd_ne (ne_of_none hb hd)]
    exact Same.new hp _ _ (h.sm _ _ hb)
  · have := length_putK kvs (.inr t) (V.int (i : Nat))
    have := h.len
    omega
  · intro s
    rw [valV_put, List.take_add_one, ht, List.mem_append]
    by_cases q : s = t
    · subst q
      simp
    · rw [if_neg (fun z => q (Sum.inr.inj z)), h.inn s]
      simp [q]
  · intro s v e
    rw [valV_put] at e
    by_cases q : s = t
    · subst q
      rw [if_pos rfl] at e
      exact ⟨i, (Option.some.inj e).symm, ht⟩
    · rw [if_neg (fun z => q (Sum.inr.inj z))] at e
      exact h.ix s v e
  · cases q : valV kvs (.inr t) with
    | none => exact nd_putK _ h.nd q
    | some v => rw [map_putK (by rw [q]; rfl)]; exact h.nd
  · intro k hk
    cases q : valV kvs (.inr t) with
    | none =>
      rw [putK_new _ q, List.map_append] at hk
      rcases List.mem_append.mp hk with hk | hk
      · exact h.ks k hk
      · have : k = Sum.inr t := by simpa using hk
        exact ⟨t, List.mem_of_getElem? ht, this⟩
    | some v => rw [map_putK (by rw [q]; rfl)] at hk; exact h.ks k hk
theorem ok_placesX {f : Addr} {fd : FuncData} (F : Fun K "places_of" "places_of" sPlaces f fd) (B : Blt mg) : FnOk P w K mg base CX0 1 f fd ["things"] spPlacesX := by
  refine F.ok scPlaces (fun vs H Q E h => ?_) (fun cdv A outer s H vs Q E hr h => ?_)
  · obtain ⟨x, rfl, _⟩ := h
    rfl
  · obtain ⟨x, rfl, h⟩ := h
    have nd := scPlaces.nd
    cases h with
    | @nm a xs _ ha hl k =>
      refine ⟨_, (pss_cons (ps_set (i := 1) nd rfl (Or.inl rfl) pe_dnewK)
      (pss_cons (ps_for PassesOwn.never rfl (pi_enumX K rfl B.enumerate (pa_cons (pv 0) pa_nil)) (pg_tupK (n := 2) K rfl (pgs_cons (pg_name (i := 2) nd rfl (Or.inl rfl)) (pgs_cons (pg_name (i := 3) nd rfl (Or.inl rfl)) pgs_nil))) (pss_one (ps_asg (pv 2) (pg_sub (pv 1) (pv 3) (set_X hr.units)))))
      (pss_one (ps_ret (pv 1))))), ?_⟩
      intro d hd
      have s0 := Same.new (o := .dK []) hd
      have start : PlN H (upd H d (.dK [])) d xs 0 [] := ⟨s0, upd_same, Nat.le_refl _, (fun s => by simp [valV_nil]), (fun s v e => by cases e), List.nodup_nil, (fun k hk => by cases hk)⟩
      rcases ha with ha | ha
      · refine ⟨_, rfl, _, rfl, .lst (.of (s0 _ _ ha)) ?_⟩
        refine for_enum (xs := List.map V.str xs) (fun i σ H' => ∃ o1 o2 kvs, σ = [some (.ref a), some (.ref d), o1, o2] ∧ PlN H H' d xs i kvs) ?_ ?_ ?_ ?_
        · exact ⟨none, none, [], rfl, start⟩
        · rintro i σ H' hi ⟨o1, o2, kvs, rfl, pl⟩
          exact .of (pl.sm _ _ ha)
        · rintro i x σ H' p hx ⟨o1, o2, kvs, rfl, pl⟩ hp
          obtain ⟨t, ht, rfl⟩ := str_get hx
          have hil := (List.getElem?_eq_some_iff.mp ht).1
          have hdp : d ≠ p := ne_of_none pl.at_ hp
          have := pl.len
          refine ⟨p, _, rfl, .of upd_same, rfl, _, _, rfl, _, _, rfl, rfl, ?_⟩
          exact ⟨_, rfl, _, rfl, _, rfl, .dic (DPut.k (k := .inr t) (by rw [upd_ne hdp]; exact pl.at_) (small1000 (by omega))) ⟨_, _, _, rfl, pl.step hd hp ht⟩⟩
        · rintro σ H' ⟨o1, o2, kvs, rfl, pl⟩
          have hin := pl.inn
          rw [List.length_map, List.take_of_length_le (Nat.le_refl _)] at hin
          exact ⟨_, rfl, k d kvs H' pl.sm hd pl.at_ hin pl.ix pl.nd pl.ks⟩
      · refine ⟨_, rfl, _, rfl, .tup (.of (s0 _ _ ha)) ?_⟩
        refine for_enumT (xs := List.map V.str xs) (fun i σ H' => ∃ o1 o2 kvs, σ = [some (.ref a), some (.ref d), o1, o2] ∧ PlN H H' d xs i kvs) ?_ ?_ ?_ ?_
        · exact ⟨none, none, [], rfl, start⟩
        · rintro i σ H' hi ⟨o1, o2, kvs, rfl, pl⟩
          exact .of (pl.sm _ _ ha)
        · rintro i x σ H' p hx ⟨o1, o2, kvs, rfl, pl⟩ hp
          obtain ⟨t, ht, rfl⟩ := str_get hx
          have hil := (List.getElem?_eq_some_iff.mp ht).1
          have hdp : d ≠ p := ne_of_none pl.at_ hp
          have := pl.len
          refine ⟨p, _, rfl, .of upd_same, rfl, _, _, rfl, _, _, rfl, rfl, ?_⟩
          exact ⟨_, rfl, _, rfl, _, rfl, .dic (DPut.k (k := .inr t) (by rw [upd_ne hdp]; exact pl.at_) (small1000 (by omega))) ⟨_, _, _, rfl, pl.step hd hp ht⟩⟩
        · rintro σ H' ⟨o1, o2, kvs, rfl, pl⟩
          have hin := pl.inn
          rw [List.length_map, List.take_of_length_le (Nat.le_refl _)] at hin
          exact ⟨_, rfl, k d kvs H' pl.sm hd pl.at_ hin pl.ix pl.nd pl.ks⟩
    | @pr a refs ps _ ha rp hl k =>
      refine ⟨_, (pss_cons (ps_set (i := 1) nd rfl (Or.inl rfl) pe_dnewT)
      (pss_cons (ps_for PassesOwn.never rfl (pi_enumX K rfl B.enumerate (pa_cons (pv 0) pa_nil)) (pg_tupK (n := 2) K rfl (pgs_cons (pg_name (i := 2) nd rfl (Or.inl rfl)) (pgs_cons (pg_name (i := 3) nd rfl (Or.inl rfl)) pgs_nil))) (pss_one (ps_asg (pv 2) (pg_sub (pv 1) (pv 3) (set_X hr.units)))))
      (pss_one (ps_ret (pv 1))))), ?_⟩
      have rlen := rp.len
      rw [List.length_map] at rlen
      intro d hd
      have s0 := Same.new (o := .dT []) hd
      have turn : ∀ (i : Nat) (e : Str × Str) (ta p : Addr) (H' : Hp) (kvs : List (List Key × V)), Same H H' → H' d = some (.dT kvs) → kvs.length ≤ i → i < ps.length → (∀ f : Str × Str, (valV kvs (pK f)).isSome = true ↔ f ∈ ps.take i) → ps[i]? = some e → H' p = none →
          Same H (upd (upd H' p (.tup [.int (i : Nat), .ref ta])) d (.dT (putK kvs (pK e) (.int (i : Nat))))) ∧ (putK kvs (pK e) (V.int (i : Nat))).length ≤ i + 1 ∧ ∀ f : Str × Str, (valV (putK kvs (pK e) (V.int (i : Nat))) (pK f)).isSome = true ↔ f ∈ ps.take (i + 1) := by
        intro i e ta p H' kvs sm hk hkl hi hin he hp
        refine ⟨?_, ?_, fun f => ?_⟩
        · intro b o hb
          rw [upd_ne (ne_of_none hb hd)]
          exact Same.new hp _ _ (sm _ _ hb)
        · have := length_putK kvs (pK e) (V.int (i : Nat))
          omega
        · rw [valV_put, List.take_add_one, he, List.mem_append]
          by_cases q : f = e
          · subst q; simp
          · rw [if_neg (fun z => q (pK_inj z)), hin f]
            simp [q]
      rcases ha with ha | ha
      · refine ⟨_, rfl, _, rfl, .lst (.of (s0 _ _ ha)) ?_⟩
        refine for_enum (xs := refs) (fun i σ H' => ∃ o1 o2 kvs, σ = [some (.ref a), some (.ref d), o1, o2] ∧ Same H H' ∧ H' d = some (.dT kvs) ∧ kvs.length ≤ i ∧ ∀ f : Str × Str, (valV kvs (pK f)).isSome = true ↔ f ∈ ps.take i) ?_ ?_ ?_ ?_
        · exact ⟨none, none, [], rfl, s0, upd_same, Nat.le_refl _, fun s => by simp [valV_nil]⟩
        · rintro i σ H' hi ⟨o1, o2, kvs, rfl, sm, _⟩
          exact .of (sm _ _ ha)
        · rintro i x σ H' p hx ⟨o1, o2, kvs, rfl, sm, hk, hkl, hin⟩ hp
          obtain ⟨e, ta, he, rfl, hta⟩ := pair_get (rp.same sm) hx
          have hil := (List.getElem?_eq_some_iff.mp he).1
          have hdp : d ≠ p := ne_of_none hk hp
          obtain ⟨g1, g2, g3⟩ := turn i e ta p H' kvs sm hk hkl hil hin he hp
          refine ⟨p, _, rfl, .of upd_same, rfl, _, _, rfl, _, _, rfl, rfl, ?_⟩
          exact ⟨_, rfl, _, rfl, _, rfl, .dic (DPut.t (k := pK e) (by rw [upd_ne hdp]; exact hk) (Same.new hp _ _ hta) (small1000 (by omega))) ⟨_, _, _, rfl, g1, upd_same, g2, g3⟩⟩
        · rintro σ H' ⟨o1, o2, kvs, rfl, sm, hk, hkl, hin⟩
          rw [rlen, List.take_of_length_le (Nat.le_refl _)] at hin
          exact ⟨_, rfl, k d kvs H' sm hd hk hin⟩
      · refine ⟨_, rfl, _, rfl, .tup (.of (s0 _ _ ha)) ?_⟩
        refine for_enumT (xs := refs) (fun i σ H' => ∃ o1 o2 kvs, σ = [some (.ref a), some (.ref d), o1, o2] ∧ Same H H' ∧ H' d = some (.dT kvs) ∧ kvs.length ≤ i ∧ ∀ f : Str × Str, (valV kvs (pK f)).isSome = true ↔ f ∈ ps.take i) ?_ ?_ ?_ ?_
        · exact ⟨none, none, [], rfl, s0, upd_same, Nat.le_refl _, fun s => by simp [valV_nil]⟩
        · rintro i σ H' hi ⟨o1, o2, kvs, rfl, sm, _⟩
          exact .of (sm _ _ ha)
        · rintro i x σ H' p hx ⟨o1, o2, kvs, rfl, sm, hk, hkl, hin⟩ hp
          obtain ⟨e, ta, he, rfl, hta⟩ := pair_get (rp.same sm) hx
          have hil := (List.getElem?_eq_some_iff.mp he).1
          have hdp : d ≠ p := ne_of_none hk hp
          obtain ⟨g1, g2, g3⟩ := turn i e ta p H' kvs sm hk hkl hil hin he hp
          refine ⟨p, _, rfl, .of upd_same, rfl, _, _, rfl, _, _, rfl, rfl, ?_⟩
          exact ⟨_, rfl, _, rfl, _, rfl, .dic (DPut.t (k := pK e) (by rw [upd_ne hdp]; exact hk) (Same.new hp _ _ hta) (small1000 (by omega))) ⟨_, _, _, rfl, g1, upd_same, g2, g3⟩⟩
        · rintro σ H' ⟨o1, o2, kvs, rfl, sm, hk, hkl, hin⟩
          rw [rlen, List.take_of_length_le (Nat.le_refl _)] at hin
          exact ⟨_, rfl, k d kvs H' sm hd hk hin⟩
theorem placesX_of (vs : List V) (H : Hp) (Q : VK) (E : XK) (h : spPlaces vs H Q E) : spPlacesX vs H Q E := by
  obtain ⟨a, xs, rfl, ha, hl, k⟩ := h
  exact ⟨_, rfl, .nm (.inl ha) hl fun d kvs H' s h0 h1 h2 h3 _ _ => k d kvs H' s h0 h1 h2 h3⟩
end
end K25
namespace K25
open PySem L2
section
variable {P : Program} {w : World} {K : PySem.W.Frag} {mg : Str → Option Value} {base : Heap}
theorem scIsName : FnScope ["thing"] ["thing"] (defScope sIsName) := ⟨rfl, rfl, rfl, by decide +kernel, rfl, by decide +kernel, by decide +kernel⟩
theorem ok_isname {f : Addr} {fd : FuncData} {tk : Tok} (F : Fun K "is_name" "is_name" sIsName f fd) (B : Blt mg) (T : mg "MOST_SIGNS" = some (.int 8 tk)) : FnOk P w K mg base CX0 1 f fd ["thing"] spIsName := by
  refine F.ok scIsName (fun vs H Q E h => ?_) (fun cdv A outer s H vs Q E hr h => ?_)
  · obtain ⟨x, rfl, _⟩ := h
    rfl
  · obtain ⟨x, rfl, hx, k⟩ := h
    have nd := scIsName.nd
    obtain ⟨t, ty, t1, _⟩ := ty_thg (K := K) hx
    refine ⟨_, (pss_cons (ps_if (pt_not (pt_val (b_isi K "str" B (pa_cons (pv 0) (pa_cons (g_str B) pa_nil))))) (pss_one (ps_ret pe_bl)) pss_nil)
      (pss_cons (ps_if (PW.pt (pw_or (pt_cmpR op_ltX (b_len K B (pa_cons (pv 0) pa_nil)) pe_int (nomark _)) (pw_or1 (pt_cmpR op_gt (b_len K B (pa_cons (pv 0) pa_nil)) (pe_glob (v := .int 8) rfl T ⟨_, rfl⟩) (nomark _))))) (pss_one (ps_ret pe_bl)) pss_nil)
      (pss_one (ps_ret (b_all rfl B (pa_cons (pe_comp (defScope sIsName) ["thing"] ["sign"] [] ["sign"] rfl (pi_str (pv 0)) (fun _ _ _ _ _ => (pg_name (i := 0) (show (["sign"] : List Str).Nodup by decide) rfl (Or.inl rfl))) (fun _ _ _ _ _ => pts_nil) (fun _ _ _ _ _ => (pe_chain op_leX op_leX pe_str (pv 0) pe_str))) pa_nil)))))), ?_⟩
    refine ⟨_, rfl, x, t, _, rfl, ty, t1, _, rfl, ?_⟩
    refine ite2 (fun hn => ?_) (fun hn => ?_)
    · have e : isNm x = false := by cases x <;> first | rfl | (simp [isS] at hn)
      have q := k H (Same.refl H)
      rw [e] at q
      exact q
    · obtain ⟨z, rfl⟩ : ∃ z, x = .str z := by cases x <;> first | exact ⟨_, rfl⟩ | (simp [isS] at hn)
      have hzz : z.length ≤ sizeLine := by
        cases hx with
        | str h => exact h
      refine ⟨_, rfl, _, _, rfl, ⟨hzz, rfl⟩, .int ⟨_, rfl, ?_⟩⟩
      refine ite2 (fun h1 => ?_) (fun h1 => ?_)
      · refine iteT ?_
        have q := k H (Same.refl H)
        have h1 : (z.length : Int) < 1 := of_decide_eq_true h1
        have e : isNm (.str z) = false := by
          show (decide (1 ≤ z.length) && _) = false
          rw [decide_eq_false (by omega)]; rfl
        rw [e] at q
        exact q
      · have h1 : ¬ (z.length : Int) < 1 := of_decide_eq_false (by simpa using h1)
        refine ⟨_, rfl, _, _, rfl, ⟨hzz, rfl⟩, _, _, rfl, rfl, _, rfl, ?_⟩
        refine ite2 (fun h2 => ?_) (fun h2 => ?_)
        · have q := k H (Same.refl H)
          have h2 : (8 : Int) < z.length := of_decide_eq_true h2
          have e : isNm (.str z) = false := by
            show (decide (1 ≤ z.length) && (decide (z.length ≤ 8) && _)) = false
            rw [decide_eq_false (show ¬ z.length ≤ 8 by omega), Bool.false_and, Bool.and_false]
          rw [e] at q
          exact q
        · have h2 : ¬ (8 : Int) < z.length := of_decide_eq_false (by simpa using h2)
          have e : isNm (.str z) = z.cps.toList.all isLow := by
            show (decide (1 ≤ z.length) && (decide (z.length ≤ 8) && _)) = _
            rw [decide_eq_true (show 1 ≤ z.length by omega), decide_eq_true (show z.length ≤ 8 by omega), Bool.true_and, Bool.true_and]
          refine ⟨_, rfl, z, rfl, ?_⟩
          refine comp_str (fun D i acc σ' H' => ∃ o, σ' = [o] ∧ acc = (z.cps.toList.take i).map (fun c => V.bl (isLow c)) ∧ Same H H' ∧ H D = none) fun D hD => ⟨⟨none, rfl, rfl, Same.new hD, hD⟩, ?_, ?_⟩
          · rintro i acc σ' H' c hc ⟨o, rfl, rfl, sm, hD0⟩ hacc
            refine gYes ?_
            have sg : ∀ b : Bool, b = isLow c → (H' D = some (.lst ((z.cps.toList.take i).map (fun c => V.bl (isLow c)))) ∧ ((z.cps.toList.take i).map (fun c => V.bl (isLow c))).length < sizeLine ∧
                (∃ o, [some (V.str ⟨#[c]⟩)] = [o] ∧ (z.cps.toList.take i).map (fun c => V.bl (isLow c)) ++ [V.bl b] = (z.cps.toList.take (i + 1)).map (fun c => V.bl (isLow c)) ∧ Same H (upd H' D (.lst ((z.cps.toList.take i).map (fun c => V.bl (isLow c)) ++ [V.bl b]))) ∧ H D = none)) := fun b hb => by
              refine ⟨hacc, ?_, _, rfl, ?_, ?_, hD0⟩
              · rw [List.length_map]
                refine small1000 ?_
                have := List.length_take_le' i z.cps.toList
                have h2' : z.length ≤ 8 := by omega
                have hl : z.cps.toList.length = z.length := by simp [Str.length]
                omega
              · rw [List.take_add_one, hc, List.map_append, hb]; rfl
              · intro b' o' e'
                rw [upd_ne (ne_of_none e' hD0)]
                exact sm b' o' e'
            refine ⟨_, rfl, .str ⟨_, rfl, ?_⟩⟩
            have e1 : (!decide ((⟨#[c]⟩ : Str).cps.toList < ("a" : Str).cps.toList)) = decide (97 ≤ c) := by
              show (!decide ([c] < [97])) = _
              rw [lt_one]
              by_cases hh : c < 97
              · rw [decide_eq_true hh, decide_eq_false (by omega)]; rfl
              · rw [decide_eq_false hh, decide_eq_true (by omega)]; rfl
            have e2 : (!decide (("z" : Str).cps.toList < (⟨#[c]⟩ : Str).cps.toList)) = decide (c ≤ 122) := by
              show (!decide ([122] < [c])) = _
              rw [lt_one]
              by_cases hh : 122 < c
              · rw [decide_eq_true hh, decide_eq_false (by omega)]; rfl
              · rw [decide_eq_false hh, decide_eq_true (by omega)]; rfl
            rw [e1]
            refine ite2 (fun h3 => ?_) (fun h3 => ?_)
            · refine .str (sg _ ?_)
              rw [e2]
              unfold isLow
              rw [h3, Bool.true_and]
            · refine sg false ?_
              unfold isLow
              have h3 : decide (97 ≤ c) = false := by simpa using h3
              rw [h3, Bool.false_and]
          · rintro acc σ' H' ⟨o, rfl, rfl, sm, hD0⟩ hacc
            rw [List.take_of_length_le (Nat.le_refl _)] at hacc
            refine ⟨D, z.cps.toList.map isLow, rfl, by rw [List.map_map]; exact hacc, ?_⟩
            have q := k H' sm
            rw [e] at q
            have e4 : (z.cps.toList.map isLow).all id = z.cps.toList.all isLow := by rw [List.all_map]; rfl
            rw [e4]
            exact q
end
end K25
namespace K25
open PySem L2
section
variable {P : Program} {w : World} {K : PySem.W.Frag} {mg : Str → Option Value} {base : Heap}
noncomputable def spLists : Sp := fun vs H Q _ => ∃ q ss ts x, vs = [q, x] ∧ Web H q ss ts ∧ Thg H x ∧ (∀ a xs, x = .ref a → H a = some (.lst xs) → xs.length ≤ 1000 ∧ ∀ v ∈ xs, Thg H v) ∧ ∀ H', Same H H' → Q (.bl (lstB H ss x)) H'
theorem scLists : FnScope ["web", "thing", "places"] ["web", "thing"] (defScope sLists) := ⟨rfl, rfl, rfl, by decide +kernel, rfl, by decide +kernel, by decide +kernel⟩
theorem ok_lists {f : Addr} {fd : FuncData} (F : Fun K "lists_things" "lists_things" sLists f fd) (B : Blt mg) (cplaces_of : Cal P w K mg base 1 "places_of" ["things"] spPlacesX) (cis_name : Cal P w K mg base 1 "is_name" ["thing"] spIsName) : FnOk P w K mg base CX0 2 f fd ["web", "thing"] spLists := by
  refine F.ok scLists (fun vs H Q E h => ?_) (fun cdv A outer s H vs Q E hr h => ?_)
  · obtain ⟨q, ss, ts, x, rfl, _⟩ := h
    rfl
  · obtain ⟨q, ss, ts, x, rfl, W, tx, hxs, k⟩ := h
    have nd := scLists.nd
    obtain ⟨t, ty, _, _, _, t4, _⟩ := ty_thg (K := K) tx
    refine ⟨_, (pss_cons (ps_if (pt_not (pt_val (b_isi K "list" B (pa_cons (pv 1) (pa_cons (g_list B) pa_nil))))) (pss_one (ps_ret pe_bl)) pss_nil)
      (pss_cons (ps_set (i := 2) nd rfl (Or.inr rfl) (pe_cal cplaces_of (hr.mono (by decide)) rfl (pa_cons (pe_ix (ix_X K hr.units) (pv 0) pe_int (fun _ _ => rfl)) pa_nil)))
      (pss_one (ps_ret (b_all rfl B (pa_cons (pe_comp (defScope sLists) ["web", "thing", "places"] ["part"] [2] ["part", "places"] rfl (pi_listK K (pv 1)) (fun _ _ _ _ _ => (pg_name (i := 0) (show (["part", "places"] : List Str).Nodup by decide) rfl (Or.inl rfl))) (fun _ _ _ _ _ => pts_nil) (fun _ _ _ _ _ => (pe_and (pe_cal cis_name (hr.mono (by decide)) rfl (pa_cons (pv 0) pa_nil)) (pe_one (pe_cmpR (op_inX K hr.units) (pv 0) (pv 1) (by with_unfolding_all rfl)))))) pa_nil)))))), ?_⟩
    refine ⟨_, rfl, x, t, _, rfl, ty, t4, _, rfl, ?_⟩
    refine ite2 (fun hn => ?_) (fun hn => ?_)
    · have hn : isL H x = false := by simpa using hn
      have q := k H (Same.refl H)
      rw [lstB_not hn] at q
      exact q
    · have hn : isL H x = true := by simpa using hn
      obtain ⟨b, xs, rfl, hb⟩ := isL_inv hn
      obtain ⟨hxl, hxt⟩ := hxs b xs rfl hb
      rw [lstB_lst hb] at k
      obtain ⟨q, a, c, ws, rfl, hq, ha, hc, rp⟩ := web_at W.rep
      have h60 := W.len
      refine ⟨_, rfl, .tup (.of hq) rfl ⟨_, rfl, .nm (.inr ha) (by omega) fun d kvs H1 s1 hd0 hd hin hat _ _ => ?_⟩⟩
      refine ⟨_, rfl, b, rfl, ⟨_, .of (s1 _ _ hb)⟩, ?_⟩
      refine comp_list xs (fun D i acc σ' H' => ∃ o, σ' = [o, some (.ref d)] ∧ acc = (xs.take i).map (fun v => V.bl (inSS ss v)) ∧ Same H1 H' ∧ H1 D = none) fun D hD => ⟨?_, ?_, ?_, ?_⟩
      · exact ⟨none, rfl, rfl, Same.new hD, hD⟩
      · rintro i acc σ' H' _ ⟨o, rfl, _, sm, _⟩ _
        exact .of (sm _ _ (s1 _ _ hb))
      · rintro i acc σ' H' x hx ⟨o, rfl, rfl, sm, hD0⟩ hacc
        have hil := (List.getElem?_eq_some_iff.mp hx).1
        have tx := ((hxt x (List.mem_of_getElem? hx)).same s1).same sm
        refine gYes ?_
        refine ⟨_, rfl, x, rfl, tx, fun H2 s2 => ⟨_, rfl, ?_⟩⟩
        have fin : ∀ b : Bool, b = inSS ss x → H2 D = some (.lst ((xs.take i).map fun v => V.bl (inSS ss v))) ∧ ((xs.take i).map fun v => V.bl (inSS ss v)).length < sizeLine ∧
            ∃ o, [some x, some (V.ref d)] = [o, some (.ref d)] ∧ ((xs.take i).map fun v => V.bl (inSS ss v)) ++ [V.bl b] = (xs.take (i + 1)).map (fun v => V.bl (inSS ss v)) ∧ Same H1 (upd H2 D (.lst (((xs.take i).map fun v => V.bl (inSS ss v)) ++ [V.bl b]))) ∧ H1 D = none := fun b hb => by
          refine ⟨s2 _ _ hacc, ?_, _, rfl, ?_, same_at (sm.trans s2) hD0, hD0⟩
          · rw [List.length_map, List.length_take]; exact small1000 (by omega)
          · rw [List.take_add_one, hx, List.map_append, hb]; rfl
        refine ite2 (fun h1 => ?_) (fun h1 => ?_)
        · cases x with
          | str z =>
            refine ⟨_, rfl, _, rfl, .dic (DGet.k (k := .inr z) (s2 _ _ (sm _ _ hd))) ?_⟩
            refine fin _ ?_
            show (valV kvs (.inr z)).isSome = decide (z ∈ ss)
            rw [Bool.eq_iff_iff, hin z, decide_eq_true_iff]
          | _ => cases h1
        · refine fin false ?_
          cases x with
          | str z =>
            show false = decide (z ∈ ss)
            rw [decide_eq_false]
            intro hz
            exact h1 (isNm_iff.mpr (W.nm z hz))
          | _ => rfl
      · rintro acc σ' H2 ⟨o, rfl, rfl, s2, hD0⟩ hacc
        rw [List.take_of_length_le (Nat.le_refl _)] at hacc
        refine ⟨D, xs.map (inSS ss), rfl, by rw [List.map_map]; exact hacc, ?_⟩
        have e4 : (xs.map (inSS ss)).all id = xs.all (inSS ss) := by rw [List.all_map]; rfl
        rw [e4]
        exact k H2 (s1.trans s2)
end
end K25
namespace K25
open PySem L2
section
variable {P : Program} {w : World} {K : PySem.W.Frag} {mg : Str → Option Value} {base : Heap}
theorem last_at (xs : List Str) (h : xs ≠ []) : atI (List.map V.str xs) (-1) = some (.str (xs.getLast h)) := by
  conv => lhs; rw [← List.dropLast_concat_getLast h]
  rw [List.map_append]
  exact atI_last _ _
theorem cut_from (xs : List V) (k : Nat) : cutV xs (some (k : Int)) none = xs.drop k := by
  unfold cutV
  rw [HT.sIx_nat, HT.sIx_none]
  by_cases h : k ≤ xs.length
  · rw [Nat.min_eq_left h, List.take_of_length_le (by rw [List.length_drop]; omega)]
  · rw [Nat.min_eq_right (by omega), List.drop_of_length_le (Nat.le_refl _), List.drop_of_length_le (by omega)]; simp
noncomputable def spIsWay : Sp := fun vs H Q _ => ∃ q ss ts one other a ws, vs = [q, .str one, .str other, .ref a] ∧ Web H q ss ts ∧ Nm one ∧ H a = some (.lst (List.map V.str ws)) ∧ (∀ w ∈ ws, w ∈ ss) ∧ ws.length ≤ 1000 ∧ ∀ H', Same H H' → Q (.bl (wayB ts one other ws)) H'
theorem scIsWay : FnScope ["web", "one", "other", "things", "ties"] ["web", "one", "other", "things"] (defScope sIsWay) := ⟨rfl, rfl, rfl, by decide +kernel, rfl, by decide +kernel, by decide +kernel⟩
theorem ok_is_way {f : Addr} {fd : FuncData} (F : Fun K "is_way" "is_way" sIsWay f fd) (B : Blt mg) (Zz : mg "zip" = none) (cplaces_of : Cal P w K mg base 1 "places_of" ["things"] spPlacesX) : FnOk P w K mg base CX0 2 f fd ["web", "one", "other", "things"] spIsWay := by
  refine F.ok scIsWay (fun vs H Q E h => ?_) (fun cdv A outer s H vs Q E hr h => ?_)
  · obtain ⟨q, ss, ts, one, other, a, ws, rfl, _⟩ := h
    rfl
  · obtain ⟨q, ss, ts, one, other, a, ws, rfl, W, nm1, ha, hws, hwl, k⟩ := h
    have nd := scIsWay.nd
    have wnm : ∀ w ∈ ws, Nm w := fun w hw => W.nm w (hws w hw)
    have h0 := k H (Same.refl H)
    refine ⟨_, (pss_cons (ps_if (pt_cmpR (op_eqX hr.units) (pv 1) (pv 2) (nomark _)) (pss_one (ps_ret (pe_cmpR (op_eqX hr.units) (pv 3) (pe_lst (pa_cons (pv 1) pa_nil)) (nomark _)))) pss_nil)
      (pss_cons (ps_if (PW.pt (pw_or (pt_cmpR op_ltX (b_len K B (pa_cons (pv 3) pa_nil)) pe_int (nomark _)) (pw_or (pt_cmpR (op_neX hr.units) (pe_ix (ix_X K hr.units) (pv 3) pe_int (fun _ _ => rfl)) (pv 1) (nomark _)) (pw_or1 (pt_cmpR (op_neX hr.units) (pe_ix (ix_X K hr.units) (pv 3) (pe_un un_neg pe_int) (fun _ _ => rfl)) (pv 2) (nomark _)))))) (pss_one (ps_ret pe_bl)) pss_nil)
      (pss_cons (ps_set (i := 4) nd rfl (Or.inr rfl) (pe_cal cplaces_of (hr.mono (by decide)) rfl (pa_cons (pe_ix (ix_X K hr.units) (pv 0) pe_int (fun _ _ => rfl)) pa_nil)))
      (pss_one (ps_ret (b_all rfl B (pa_cons (pe_comp (defScope sIsWay) ["web", "one", "other", "things", "ties"] ["pair"] [4] ["pair", "ties"] rfl (pi_zip K rfl Zz (pa_cons (pv 3) (pa_cons (pe_slice (sl_K K) (pv 3) (po_some pe_int) po_none) pa_nil))) (fun _ _ _ _ _ => (pg_name (i := 0) (show (["pair", "ties"] : List Str).Nodup by decide) rfl (Or.inl rfl))) (fun _ _ _ _ _ => pts_nil) (fun _ _ _ _ _ => (pe_cmpR (op_inX K hr.units) (pv 0) (pv 1) (by with_unfolding_all rfl)))) pa_nil))))))), ?_⟩
    refine ⟨_, rfl, _, rfl, .sc rfl ⟨_, rfl, ?_⟩⟩
    refine ite2 (fun h1 => ?_) (fun h1 => ?_)
    · have h1 : one = other := V.str.inj (of_decide_eq_true h1)
      refine ⟨_, rfl, _, rfl, (by show 1 ≤ sizeLine; decide), fun l hl => ?_⟩
      have sl := Same.new (o := .lst [V.str one]) hl
      refine .tr (names_rep (sl _ _ ha)) (names_rep (ss := [one]) upd_same) (shp_names wnm) (shp_names fun s hs => by rw [List.mem_singleton.mp hs]; exact nm1) ?_
      have q := k _ sl
      unfold wayB at q
      rw [if_pos h1] at q
      show Q (.bl (PyData.eqv (namesD ws) (namesD [one]))) _
      rw [eqv_names]
      exact q
    · have h1 : one ≠ other := fun z => h1 (decide_eq_true (by rw [z]))
      have no : ∀ b : Bool, b = wayB ts one other ws → Q (.bl b) H := fun b e => by rw [e]; exact h0
      have bad : ¬ (2 ≤ ws.length ∧ ws[0]? = some one ∧ ws.getLast? = some other) → false = wayB ts one other ws := fun h => by
        unfold wayB
        rw [if_neg h1]
        symm
        rw [Bool.and_eq_false_iff]
        by_cases q1 : 2 ≤ ws.length
        · right
          rw [Bool.and_eq_false_iff]
          by_cases q2 : ws[0]? = some one
          · right
            rw [Bool.and_eq_false_iff]
            exact .inl (decide_eq_false fun q3 => h ⟨q1, q2, q3⟩)
          · exact .inl (decide_eq_false q2)
        · exact .inl (decide_eq_false q1)
      have hln : (List.map V.str ws).length = ws.length := List.length_map ..
      refine ⟨_, rfl, _, _, rfl, Or.inl ⟨_, .of ha, rfl⟩, .int ⟨_, rfl, ?_⟩⟩
      refine ite2 (fun h2 => ?_) (fun h2 => ?_)
      · have h2 : (((List.map V.str ws).length : Nat) : Int) < 2 := of_decide_eq_true h2
        exact iteT (no false (bad fun z => by have := z.1; omega))
      · have h2 : ¬ (((List.map V.str ws).length : Nat) : Int) < 2 := fun z => h2 (decide_eq_true z)
        have h2 : 2 ≤ ws.length := by omega
        have hne : ws ≠ [] := fun z => by rw [z] at h2; simp at h2
        obtain ⟨w0, hw0⟩ : ∃ w0, ws[0]? = some w0 := ⟨_, List.getElem?_eq_getElem (by omega)⟩
        have hat0 : atI (List.map V.str ws) 0 = some (.str w0) := atI_nat (j := 0) (by rw [List.getElem?_map, hw0]; rfl)
        refine ⟨_, rfl, .lst (.of ha) hat0 ⟨_, rfl, .sc rfl ⟨_, rfl, ?_⟩⟩⟩
        refine ite2 (fun h3 => ?_) (fun h3 => ?_)
        · have h3 : (!decide (V.str w0 = V.str one)) = true := h3
          refine iteT (no false (bad fun z => ?_))
          rw [hw0] at z
          rw [decide_eq_true (by rw [Option.some.inj z.2.1])] at h3
          cases h3
        · have h3 : ¬ (!decide (V.str w0 = V.str one)) = true := h3
          have e0 : w0 = one := Classical.byContradiction fun z => h3 (by rw [decide_eq_false (fun y => z (V.str.inj y))]; rfl)
          refine ⟨_, rfl, _, rfl, .lst (.of ha) (last_at ws hne) ⟨_, rfl, .sc rfl ⟨_, rfl, ?_⟩⟩⟩
          refine ite2 (fun h4 => ?_) (fun h4 => ?_)
          · have h4 : (!decide (V.str (ws.getLast hne) = V.str other)) = true := h4
            refine no false (bad fun z => ?_)
            have z3 := z.2.2
            rw [List.getLast?_eq_some_getLast hne] at z3
            rw [decide_eq_true (by rw [Option.some.inj z3])] at h4
            cases h4
          · have h4 : ¬ (!decide (V.str (ws.getLast hne) = V.str other)) = true := h4
            have el : ws.getLast hne = other := Classical.byContradiction fun z => h4 (by rw [decide_eq_false (fun y => z (V.str.inj y))]; rfl)
            obtain ⟨q, c, d, xs, rfl, hq, hc, hd, rp⟩ := web_at W.rep
            refine ⟨_, rfl, .tup (.of hq) rfl ⟨_, rfl, .pr (.inr hd) rp (by have := W.few; omega) fun dd kvs H1 s1 hd0 hdd hin => ?_⟩⟩
            refine ⟨_, rfl, _, rfl, _, rfl, .lst (.of (s1 _ _ ha)) fun l2 hl2 => ?_⟩
            rw [show (1 : Int) = ((1 : Nat) : Int) from rfl, cut_from, ← List.map_drop]
            have s2 := Same.new (o := .lst (List.map V.str (ws.drop 1))) hl2
            have e2 : upd H1 l2 (.lst (List.map V.str (ws.drop 1))) l2 = some (.lst (List.map V.str (ws.drop 1))) := upd_same
            have ha2 := s2 _ _ (s1 _ _ ha)
            have hdd2 := s2 _ _ hdd
            have s12 := s1.trans s2
            generalize upd H1 l2 (.lst (List.map V.str (ws.drop 1))) = H2 at e2 ha2 hdd2 s12 ⊢
            refine ⟨a, l2, _, _, rfl, .of ha2, .of e2, ?_⟩
            have zl : ((List.map V.str ws).zip (List.map V.str (ws.drop 1))).length = (ws.zip (ws.drop 1)).length := by simp
            have zlen : (ws.zip (ws.drop 1)).length ≤ 1000 := by rw [List.length_zip]; omega
            refine comp_zip (List.map V.str ws) (List.map V.str (ws.drop 1)) (fun D i acc σ' H' => ∃ o, σ' = [o, some (.ref dd)] ∧ acc = ((ws.zip (ws.drop 1)).take i).map (fun e => V.bl (decide (e ∈ ts))) ∧ Same H2 H' ∧ H2 D = none) fun D hD => ⟨?_, ?_, ?_, ?_⟩
            · exact ⟨none, rfl, rfl, Same.new hD, hD⟩
            · rintro i acc σ' H' _ ⟨o, rfl, _, sm, _⟩ _
              exact ⟨.of (sm _ _ ha2), .of (sm _ _ e2)⟩
            · rintro i acc σ' H' x y p hxy ⟨o, rfl, rfl, sm, hD0⟩ hacc hp
              rw [List.getElem?_zip_eq_some, List.getElem?_map, List.getElem?_map] at hxy
              obtain ⟨u, hu, rfl⟩ : ∃ u, ws[i]? = some u ∧ V.str u = x := by
                cases z : ws[i]? with
                | none => rw [z] at hxy; cases hxy.1
                | some u => rw [z] at hxy; exact ⟨u, rfl, Option.some.inj hxy.1⟩
              obtain ⟨v, hv, rfl⟩ : ∃ v, (ws.drop 1)[i]? = some v ∧ V.str v = y := by
                cases z : (ws.drop 1)[i]? with
                | none => rw [z] at hxy; cases hxy.2
                | some v => rw [z] at hxy; exact ⟨v, rfl, Option.some.inj hxy.2⟩
              have he : (ws.zip (ws.drop 1))[i]? = some (u, v) := by rw [List.getElem?_zip_eq_some]; exact ⟨hu, hv⟩
              have hil := (List.getElem?_eq_some_iff.mp he).1
              have sp := Same.new (o := .tup [V.str u, V.str v]) hp
              refine gYes ?_
              refine ⟨_, rfl, _, rfl, .dic (DGet.t (k := pK (u, v)) (sp _ _ (sm _ _ hdd2)) upd_same) ⟨sp _ _ hacc, ?_, _, rfl, ?_, same_at (sm.trans sp) hD0, hD0⟩⟩
              · rw [List.length_map, List.length_take]; exact small1000 (by omega)
              · rw [List.take_add_one, he, List.map_append]
                have : (valV kvs (pK (u, v))).isSome = decide ((u, v) ∈ ts) := by rw [Bool.eq_iff_iff, hin (u, v), decide_eq_true_iff]
                show _ ++ [V.bl (valV kvs (pK (u, v))).isSome] = _
                rw [this]; rfl
            · rintro acc σ' H3 ⟨o, rfl, rfl, s3, hD0⟩ hacc
              rw [zl, List.take_of_length_le (Nat.le_refl _)] at hacc
              refine ⟨D, (ws.zip (ws.drop 1)).map (fun e => decide (e ∈ ts)), rfl, by rw [List.map_map]; exact hacc, ?_⟩
              have e4 : ((ws.zip (ws.drop 1)).map (fun e => decide (e ∈ ts))).all id = wayB ts one other ws := by
                unfold wayB
                rw [if_neg h1, decide_eq_true h2, hw0, e0, decide_eq_true rfl, List.getLast?_eq_some_getLast hne, el, decide_eq_true rfl, Bool.true_and, Bool.true_and, Bool.true_and, List.all_map]; rfl
              rw [e4]
              exact k H3 (s12.trans s3)
end
end K25
namespace K25
open PySem L2
section
variable {P : Program} {w : World} {K : PySem.W.Frag} {mg : Str → Option Value} {base : Heap}
theorem mem_endsfalse {ts : List (Str × Str)} {s t : Str} : t ∈ (ts.filter fun e => decide (e.1 = s)).map (fun e => e.2) ↔ (s, t) ∈ (if false then flipE ts else ts) := by
  rw [List.mem_map]
  constructor
  · rintro ⟨⟨x, y⟩, h, rfl⟩
    have h := List.mem_filter.mp h
    have h2 := of_decide_eq_true h.2
    subst h2
    first
      | exact h.1
      | exact mem_flip.mpr h.1
  · intro h
    first
      | exact ⟨(s, t), List.mem_filter.mpr ⟨h, decide_eq_true rfl⟩, rfl⟩
      | exact ⟨(t, s), List.mem_filter.mpr ⟨mem_flip.mp h, decide_eq_true rfl⟩, rfl⟩
theorem scNexts : FnScope ["web", "one", "found"] ["web", "one"] (defScope sNexts) := ⟨rfl, rfl, rfl, by decide +kernel, rfl, by decide +kernel, by decide +kernel⟩
theorem ok_nexts {f : Addr} {fd : FuncData} (F : Fun K "nexts" "nexts" sNexts f fd) (B : Blt mg) (cplaces_of : Cal P w K mg base 1 "places_of" ["things"] spPlaces) : FnOk P w K mg base CX0 2 f fd ["web", "one"] (spNexts false) := by
  refine F.ok scNexts (fun vs H Q E h => ?_) (fun cdv A outer s H vs Q E hr h => ?_)
  · obtain ⟨q, ss, ts, s, rfl, _⟩ := h
    rfl
  · obtain ⟨q, ss, ts, s, rfl, W, k⟩ := h
    have nd := scNexts.nd
    refine ⟨_, (pss_cons (ps_set (i := 2) nd rfl (Or.inr rfl) (pe_cal cplaces_of (hr.mono (by decide)) rfl (pa_cons (pe_comp (defScope sNexts) ["web", "one", "found"] ["tie"] [1] ["tie", "one"] rfl (pi_tupK K (pe_ix (ix_X K hr.units) (pv 0) pe_int (fun _ _ => rfl))) (fun _ _ _ _ _ => (pg_name (i := 0) (show (["tie", "one"] : List Str).Nodup by decide) rfl (Or.inl rfl))) (fun _ _ _ _ _ => (pts_one (pt_cmpR (op_eqX hr.units) (pe_ix (ix_X K hr.units) (pv 0) pe_int (fun _ _ => rfl)) (pv 1) (nomark _)))) (fun _ _ _ _ _ => (pe_ix (ix_X K hr.units) (pv 0) pe_int (fun _ _ => rfl)))) pa_nil)))
      (pss_one (ps_ret (pe_comp (defScope sNexts) ["web", "one", "found"] ["thing"] [2] ["thing", "found"] rfl (pi_tupK K (pe_ix (ix_X K hr.units) (pv 0) pe_int (fun _ _ => rfl))) (fun _ _ _ _ _ => (pg_name (i := 0) (show (["thing", "found"] : List Str).Nodup by decide) rfl (Or.inl rfl))) (fun _ _ _ _ _ => (pts_one (pt_cmpR (op_inX K hr.units) (pv 0) (pv 1) (by with_unfolding_all rfl)))) (fun _ _ _ _ _ => (pv 0)))))), ?_⟩
    obtain ⟨q, a, b, xs, rfl, hq, ha, hb, rp⟩ := web_at W.rep
    have rlen := rp.len
    rw [List.length_map] at rlen
    refine ⟨_, rfl, .tup (.of hq) rfl ⟨_, rfl, ⟨_, .of hb⟩, ?_⟩⟩
    refine comp_tup xs (fun D i acc σ' H' => ∃ o, σ' = [o, some (.str s)] ∧ acc = ((ts.take i).filter fun e => decide (e.1 = s)).map (fun e => V.str e.2) ∧ Same H H' ∧ H D = none) fun D hD => ⟨?_, ?_, ?_, ?_⟩
    · exact ⟨none, rfl, rfl, Same.new hD, hD⟩
    · rintro i acc σ' H' _ ⟨o, rfl, _, sm, _⟩ _
      exact .of (sm _ _ hb)
    · rintro i acc σ' H' x hx ⟨o, rfl, hacc0, sm, hD0⟩ hacc
      obtain ⟨d, hd, rd⟩ := (rp.same sm).get hx
      rw [List.getElem?_map] at hd
      obtain ⟨e, he, rfl⟩ : ∃ e, ts[i]? = some e ∧ pairD e = d := by
        cases q : ts[i]? with
        | none => rw [q] at hd; cases hd
        | some e => rw [q] at hd; exact ⟨e, rfl, Option.some.inj hd⟩
      obtain ⟨ta, rfl, hta⟩ := pair_at rd
      have hil := (List.getElem?_eq_some_iff.mp he).1
      refine ⟨_, rfl, .tup (.of hta) rfl ⟨_, rfl, .sc rfl ⟨_, rfl, ?_⟩⟩⟩
      refine ite2 (fun h1 => ?_) (fun h1 => ?_)
      · have h1 : e.1 = s := V.str.inj (of_decide_eq_true h1)
        refine ⟨_, rfl, .tup (.of hta) rfl ⟨hacc, ?_, _, rfl, ?_, ?_, hD0⟩⟩
        · rw [hacc0, List.length_map]
          have h2 := List.length_filter_le (fun e : Str × Str => decide (e.1 = s)) (ts.take i)
          rw [List.length_take] at h2
          have := W.few
          exact small1000 (by omega)
        · rw [List.take_add_one, he, hacc0, List.filter_append, List.map_append]
          simp [h1]
        · intro c o hc
          rw [upd_ne (ne_of_none hc hD0)]
          exact sm _ _ hc
      · have h1 : ¬ e.1 = s := fun z => h1 (decide_eq_true (congrArg V.str z))
        refine ⟨hacc, _, rfl, ?_, sm, hD0⟩
        rw [List.take_add_one, he, hacc0, List.filter_append, List.map_append]
        simp [h1]
    · rintro acc σ' H1 ⟨o, rfl, hacc0, s1, hD0⟩ hacc
      rw [rlen, List.take_of_length_le (Nat.le_refl _)] at hacc0
      have ea : acc = List.map V.str ((ts.filter fun e => decide (e.1 = s)).map (fun e => e.2)) := by rw [hacc0, List.map_map]; rfl
      refine ⟨D, _, rfl, by rw [← ea]; exact hacc, ?_, ?_⟩
      · rw [List.length_map]
        have h2 := List.length_filter_le (fun e : Str × Str => decide (e.1 = s)) ts
        have := W.few
        omega
      · intro d kvs H2 s2 hd2 hk hin hat
        have s12 := s1.trans s2
        refine ⟨_, rfl, .tup (.of (s12 _ _ hq)) rfl ⟨_, rfl, ⟨_, .of (s12 _ _ ha)⟩, ?_⟩⟩
        refine comp_tup (List.map V.str ss) (fun D i acc σ' H' => ∃ o, σ' = [o, some (.ref d)] ∧ acc = List.map V.str ((ss.take i).filter fun t => (valV kvs (.inr t)).isSome) ∧ Same H2 H' ∧ H2 D = none) fun D' hD' => ⟨?_, ?_, ?_, ?_⟩
        · exact ⟨none, rfl, rfl, Same.new hD', hD'⟩
        · rintro i acc σ' H' _ ⟨o, rfl, _, sm, _⟩ _
          exact .of (sm _ _ (s12 _ _ ha))
        · rintro i acc σ' H' x hx ⟨o, rfl, hacc0, sm, hD0⟩ hacc
          rw [List.getElem?_map] at hx
          obtain ⟨t, ht, rfl⟩ : ∃ t, ss[i]? = some t ∧ V.str t = x := by
            cases q : ss[i]? with
            | none => rw [q] at hx; cases hx
            | some e => rw [q] at hx; exact ⟨e, rfl, Option.some.inj hx⟩
          have hil := (List.getElem?_eq_some_iff.mp ht).1
          refine ⟨_, rfl, _, rfl, .dic (DGet.k (k := .inr t) (sm _ _ hk)) ⟨_, rfl, ?_⟩⟩
          refine ite2 (fun h1 => ?_) (fun h1 => ?_)
          · refine ⟨_, rfl, hacc, ?_, _, rfl, ?_, ?_, hD0⟩
            · rw [hacc0, List.length_map]
              have h2 := List.length_filter_le (fun t : Str => (valV kvs (.inr t)).isSome) (ss.take i)
              rw [List.length_take] at h2
              have := W.len
              exact small1000 (by omega)
            · have h1 : (valV kvs (.inr t)).isSome = true := h1
              rw [List.take_add_one, ht, hacc0, List.filter_append, List.map_append]
              simp [h1]
            · intro c o hc
              rw [upd_ne (ne_of_none hc hD0)]
              exact sm _ _ hc
          · have h1 : ¬ (valV kvs (.inr t)).isSome = true := h1
            refine ⟨hacc, _, rfl, ?_, sm, hD0⟩
            rw [List.take_add_one, ht, hacc0, List.filter_append, List.map_append]
            simp [h1]
        · rintro acc σ' H' ⟨o, rfl, hacc0, sm, hD0⟩ hacc
          rw [List.length_map, List.take_of_length_le (Nat.le_refl _)] at hacc0
          refine k _ _ (s12.trans sm) ?_ ?_
          · cases e : H D' with
            | none => rfl
            | some o => rw [s12 _ _ e] at hD0; cases hD0
          · rw [hacc, hacc0]
            have : (ss.filter fun t => (valV kvs (.inr t)).isSome) = nxtL ss (if false then flipE ts else ts) s := by
              unfold nxtL
              refine List.filter_congr fun t _ => ?_
              rw [Bool.eq_iff_iff, hin t, mem_endsfalse, decide_eq_true_iff]
            rw [this]
end
end K25
namespace K25
open PySem L2
section
variable {P : Program} {w : World} {K : PySem.W.Frag} {mg : Str → Option Value} {base : Heap}
theorem scNextsAll : FnScope ["web", "table", "thing"] ["web"] (defScope sNextsAll) := ⟨rfl, rfl, rfl, by decide +kernel, rfl, by decide +kernel, by decide +kernel⟩
theorem ok_nexts_of_all {f : Addr} {fd : FuncData} (F : Fun K "nexts_of_all" "nexts_of_all" sNextsAll f fd) (B : Blt mg) (cnexts : Cal P w K mg base 2 "nexts" ["web", "one"] (spNexts false)) : FnOk P w K mg base CX0 3 f fd ["web"] (spNextsAll false) := by
  refine F.ok scNextsAll (fun vs H Q E h => ?_) (fun cdv A outer s H vs Q E hr h => ?_)
  · obtain ⟨q, ss, ts, rfl, _⟩ := h
    rfl
  · obtain ⟨q, ss, ts, rfl, W, k⟩ := h
    have nd := scNextsAll.nd
    refine ⟨_, (pss_cons (ps_set (i := 1) nd rfl (Or.inl rfl) pe_dnewK)
      (pss_cons (ps_for PassesOwn.never rfl (pi_tupK K (pe_ix (ix_X K hr.units) (pv 0) pe_int (fun _ _ => rfl))) (pg_name (i := 2) nd rfl (Or.inl rfl)) (pss_one (ps_asg (pe_cal cnexts (hr.mono (by decide)) rfl (pa_cons (pv 0) (pa_cons (pv 2) pa_nil))) (pg_sub (pv 1) (pv 2) (set_X hr.units)))))
      (pss_one (ps_ret (pv 1))))), ?_⟩
    intro d hd
    have W1 := W.same (Same.new (o := .dK []) hd)
    obtain ⟨q, a, b, xs, rfl, hq, ha, hb, rp⟩ := web_at W.rep
    have s0 := Same.new (o := .dK []) hd
    refine ⟨_, rfl, .tup (.of (s0 _ _ hq)) rfl ⟨_, rfl, ⟨_, .of (s0 _ _ ha)⟩, ?_⟩⟩
    refine for_tup (xs := List.map V.str ss) (fun i σ H' => ∃ o1 kvs, σ = [some (.ref q), some (.ref d), o1] ∧ Same H H' ∧ H' d = some (.dK kvs) ∧ kvs.length ≤ i ∧ ∀ s ∈ ss.take i, ∃ l, valV kvs (.inr s) = some (.ref l) ∧ H' l = some (.lst (List.map V.str (nxtL ss (if false then flipE ts else ts) s)))) ?_ ?_ ?_ ?_
    · exact ⟨none, [], rfl, s0, upd_same, Nat.le_refl _, fun s hs => by simp at hs⟩
    · rintro i σ H' hi ⟨o1, kvs, rfl, sm, _⟩
      exact .of (sm _ _ ha)
    · rintro i x σ H' hx ⟨o1, kvs, rfl, sm, hk, hkl, hall⟩
      rw [List.getElem?_map] at hx
      obtain ⟨t, ht, rfl⟩ : ∃ t, ss[i]? = some t ∧ V.str t = x := by
        cases q : ss[i]? with
        | none => rw [q] at hx; cases hx
        | some e => rw [q] at hx; exact ⟨e, rfl, Option.some.inj hx⟩
      have hil := (List.getElem?_eq_some_iff.mp ht).1
      refine ⟨_, rfl, _, rfl, .ref q, ss, ts, t, rfl, W.same sm, fun l H2 s2 hl hl2 => ?_⟩
      have hk2 := s2 _ _ hk
      have := W.len
      refine ⟨_, rfl, _, rfl, .dic (DPut.k (k := .inr t) hk2 (small1000 (by omega))) ⟨_, _, rfl, ?_, upd_same, ?_, ?_⟩⟩
      · intro c o hc
        rw [upd_ne (ne_of_none hc hd)]
        exact s2 _ _ (sm _ _ hc)
      · have := length_putK kvs (.inr t) (V.ref l)
        omega
      · intro s hs
        rw [List.take_add_one, ht, List.mem_append] at hs
        by_cases q : s = t
        · subst q
          refine ⟨l, by rw [valV_put, if_pos rfl], ?_⟩
          rw [upd_ne (ne_of hl2 hk2 (by intro z; cases z))]
          exact hl2
        · rcases hs with hs | hs
          · obtain ⟨l', e1, e2⟩ := hall s hs
            refine ⟨l', by rw [valV_put, if_neg (fun z => q (Sum.inr.inj z))]; exact e1, ?_⟩
            rw [upd_ne (ne_of (s2 _ _ e2) hk2 (by intro z; cases z))]
            exact s2 _ _ e2
          · exact absurd (by simpa using hs) q
    · rintro σ H' ⟨o1, kvs, rfl, sm, hk, _, hall⟩
      rw [List.length_map, List.take_of_length_le (Nat.le_refl _)] at hall
      exact ⟨_, rfl, k d H' sm hd ⟨kvs, hk, hall⟩⟩
end
end K25
namespace K25
open PySem L2
section
variable {P : Program} {w : World} {K : PySem.W.Frag} {mg : Str → Option Value} {base : Heap}
structure Stp (H H' : Hp) (ss : List Str) (e : Addr) (look : Str → Option Nat) (kvs : List (Key × V)) : Prop where
  sm : Same H H'
  at_ : H' e = some (.dK kvs)
  lk : ∀ t, valV kvs (.inr t) = (look t).map fun k : Nat => V.int (k : Int)
  nd : (kvs.map (·.1)).Nodup
  ks : ∀ k ∈ kvs.map (·.1), ∃ t ∈ ss, k = Sum.inr t
theorem Stp.len {H H' : Hp} {ss : List Str} {e : Addr} {look : Str → Option Nat} {kvs : List (Key × V)} (h : Stp H H' ss e look kvs) : kvs.length ≤ ss.length := by
  have := h.nd.length_le_of_subset (l₂ := ss.map (Sum.inr : Str → Key)) fun k hk => by
    obtain ⟨t, ht, rfl⟩ := h.ks k hk
    exact List.mem_map.mpr ⟨t, ht, rfl⟩
  simpa using this
theorem Stp.oth {H H' : Hp} {ss : List Str} {e b : Addr} {look : Str → Option Nat} {kvs : List (Key × V)} {o : HO} (h : Stp H H' ss e look kvs) (hb : H b = none) (n : e ≠ b) : Stp H (upd H' b o) ss e look kvs :=
  ⟨fun c o' hc => by rw [upd_ne (ne_of_none hc hb)]; exact h.sm _ _ hc, by rw [upd_ne n]; exact h.at_, h.lk, h.nd, h.ks⟩
theorem Stp.put {H H' : Hp} {ss : List Str} {e : Addr} {look : Str → Option Nat} {kvs : List (Key × V)} (h : Stp H H' ss e look kvs) (he : H e = none) {t : Str} (ht : t ∈ ss) (hn : look t = none) (k : Nat) :
    Stp H (upd H' e (.dK (putK kvs (.inr t) (.int (k : Int))))) ss e (fun a => if a = t then some k else look a) (putK kvs (.inr t) (.int (k : Int))) := by
  have hv : valV kvs (.inr t) = none := by rw [h.lk, hn]; rfl
  refine ⟨fun c o' hc => by rw [upd_ne (ne_of_none hc he)]; exact h.sm _ _ hc, upd_same, fun u => ?_, nd_putK _ h.nd hv, fun q hq => ?_⟩
  · rw [valV_put]
    by_cases q : u = t
    · subst q; rw [if_pos rfl]; simp
    · rw [if_neg (fun z => q (Sum.inr.inj z)), h.lk u]; simp [q]
  · rw [putK_new _ hv, List.map_append] at hq
    rcases List.mem_append.mp hq with hq | hq
    · exact h.ks q hq
    · have : q = Sum.inr t := by simpa using hq
      exact ⟨t, ht, this⟩
noncomputable def spStepsL : Sp := fun vs H Q _ => ∃ d st s ss f, vs = [.ref d, .ref st] ∧ H st = some (.lst [V.str s]) ∧ Tab H d ss f ∧ s ∈ ss ∧ ss.length ≤ 60 ∧ (∀ t ∈ ss, ∀ u ∈ f t, u ∈ ss) ∧
  ∀ e kvs H', Same H H' → H e = none → H' e = some (.dK kvs) → (∀ t v, valV kvs (.inr t) = some v ↔ ∃ k : Nat, v = .int k ∧ MG.Dst (Ner ss f) s k t) → Q (.ref e) H'
theorem scSteps : FnScope ["table", "starts", "steps", "start", "edge", "further", "thing", "near"] ["table", "starts"] (defScope sSteps) := ⟨rfl, rfl, rfl, by decide +kernel, rfl, by decide +kernel, by decide +kernel⟩
theorem ok_steps {f : Addr} {fd : FuncData} (F : Fun K "steps_from" "steps_from" sSteps f fd) (B : Blt mg) : FnOk P w K mg base CX0 1 f fd ["table", "starts"] spStepsL := by
  refine F.ok scSteps (fun vs H Q E h => ?_) (fun cdv A outer s H vs Q E hr h => ?_)
  · obtain ⟨d, st, s, ss, f, rfl, _⟩ := h
    rfl
  · obtain ⟨d, st, s, ss, fn, rfl, hst, T, hs, hlen, hcl, k⟩ := h
    have nd := scSteps.nd
    refine ⟨_, (pss_cons (ps_set (i := 2) nd rfl (Or.inl rfl) pe_dnewK)
      (pss_cons (ps_for PassesOwn.never rfl (pi_listK K (pv 1)) (pg_name (i := 3) nd rfl (Or.inl rfl)) (pss_one (ps_asg pe_int (pg_sub (pv 2) (pv 3) (set_X hr.units)))))
      (pss_cons (ps_set (i := 4) nd rfl (Or.inl rfl) (b_list K rfl B (pa_cons (pv 1) pa_nil)))
      (pss_cons (ps_while PassesOwn.never (pt_cmpR op_gt (b_len K B (pa_cons (pv 4) pa_nil)) pe_int (nomark _)) (pss_cons (ps_set (i := 5) nd rfl (Or.inl rfl) (pe_lst pa_nil))
      (pss_cons (ps_for PassesOwn.never rfl (pi_listK K (pv 4)) (pg_name (i := 6) nd rfl (Or.inl rfl)) (pss_one (ps_for PassesOwn.never rfl (pi_listK K (pe_ix (ix_X K hr.units) (pv 0) (pv 6) (fun _ _ => rfl))) (pg_name (i := 7) nd rfl (Or.inl rfl)) (pss_one (ps_if (pt_cmpR (op_notInX K hr.units) (pv 7) (pv 2) (by with_unfolding_all rfl)) (pss_cons (ps_asg (pe_op op_addX (pe_ix (ix_X K hr.units) (pv 2) (pv 6) (fun _ _ => rfl)) pe_int) (pg_sub (pv 2) (pv 7) (set_X hr.units)))
      (pss_one (ps_expr (m_append K (pv 5) (pa_cons (pv 7) pa_nil))))) pss_nil)))))
      (pss_one (ps_set (i := 4) nd rfl (Or.inl rfl) (pv 5))))))
      (pss_one (ps_ret (pv 2))))))), ?_⟩
    have hin : ∀ y, MG.Rch (Ner ss fn) s y → y ∈ ss := fun y r => MG.Rch.closed (S := fun y => y ∈ ss) hs (fun a b ha r => hcl a ha b r.2) r
    intro e he
    have hste : st ≠ e := ne_of_none hst he
    refine ⟨_, rfl, st, rfl, ⟨_, .of (by rw [upd_ne hste]; exact hst)⟩, ?_⟩
    refine for_list (xs := [V.str s]) (fun i σ H' => ∃ o3 o4 o5 o6 o7, σ = [some (.ref d), some (.ref st), some (.ref e), o3, o4, o5, o6, o7] ∧ H' st = some (.lst [V.str s]) ∧ (i = 0 → H' = upd H e (.dK [])) ∧ (i ≠ 0 → ∃ kvs, Stp H H' ss e (fun a => if a = s then some 0 else none) kvs)) ?_ ?_ ?_ ?_
    · exact ⟨none, none, none, none, none, rfl, by rw [upd_ne hste]; exact hst, fun _ => rfl, fun z => absurd rfl z⟩
    · rintro i σ H' hi ⟨o3, o4, o5, o6, o7, rfl, h1, _⟩
      exact .of h1
    · rintro i x σ H' hx ⟨o3, o4, o5, o6, o7, rfl, h1, h2, _⟩
      have hi : i < 1 := (List.getElem?_eq_some_iff.mp hx).1
      have hi : i = 0 := by omega
      subst hi
      have hx : V.str s = x := Option.some.inj hx
      subst hx
      have h2 := h2 rfl
      subst h2
      have h0 : Stp H (upd (upd H e (.dK [])) e (.dK (putK [] (.inr s) (.int ((0 : Nat) : Int))))) ss e (fun a => if a = s then some 0 else none) (putK [] (.inr s) (.int ((0 : Nat) : Int))) :=
        Stp.put (kvs := []) (look := fun _ => none) ⟨Same.new he, upd_same, fun t => rfl, List.nodup_nil, fun k hk => by cases hk⟩ he hs rfl 0
      refine ⟨_, rfl, _, rfl, .dic (DPut.k (k := .inr s) upd_same (by show 0 < sizeLine; decide)) ⟨_, _, _, _, _, rfl, by rw [upd_ne hste]; exact h1, fun z => absurd z (by omega), fun _ => ⟨_, h0⟩⟩⟩
    rintro σ H1 ⟨o3, o4, o5, o6, o7, rfl, hst1, _, hS⟩
    obtain ⟨kv0, h0⟩ := hS (by show 1 ≠ 0; omega)
    refine ⟨_, rfl, _, rfl, .seq (.inl (.of hst1)) fun l0 hl0 => ?_⟩
    have hl00 : H l0 = none := by
      cases q : H l0 with
      | none => rfl
      | some o => rw [h0.sm _ _ q] at hl0; cases hl0
    have h1 := h0.oth (o := .lst [V.str s]) hl00 (ne_of_none h0.at_ hl0)
    refine ⟨fun m σ H' => ∃ L le edge kvs look o3 o4 o5 o6, m + L = ss.length ∧ σ = [some (.ref d), some (.ref st), some (.ref e), o3, some (.ref le), o4, o5, o6] ∧ Stp H H' ss e look kvs ∧ H le = none ∧ H' le = some (.lst (List.map V.str edge)) ∧ edge.length ≤ 60 ∧ MG.Lev (Ner ss fn) s L look edge,
      ⟨ss.length, 0, l0, [s], _, _, o3, o5, o6, o7, by omega, rfl, h1, hl00, upd_same, by show 1 ≤ 60; decide, MG.Lev.start fun y => rfl⟩, ?_⟩
    rintro m σ H2 ⟨L, le, edge, kvs, look, o3, o4, o5, o6, hm, rfl, S, hle0, hle, hel, lev⟩
    refine ⟨_, rfl, _, _, rfl, Or.inl ⟨_, .of hle, rfl⟩, _, _, rfl, rfl, _, rfl, ?_⟩
    refine ite2 (fun hc => ?_) (fun hc => ?_)
    · have hc : (0 : Int) < ((List.map V.str edge).length : Nat) := of_decide_eq_true hc
      rw [List.length_map] at hc
      have hL : L < ss.length := by
        cases edge with
        | nil => simp at hc
        | cons y r => exact MG.Dst.lt hin ((lev.edg y).mp (by simp))
      refine ⟨fun σ' H' => ∃ le edge kvs look o3 o4 o5 o6, σ' = [some (.ref d), some (.ref st), some (.ref e), o3, some (.ref le), o4, o5, o6] ∧ Stp H H' ss e look kvs ∧ H le = none ∧ H' le = some (.lst (List.map V.str edge)) ∧ edge.length ≤ 60 ∧ MG.Lev (Ner ss fn) s (L + 1) look edge,
        fun σ' H' ⟨le, edge, kvs, look, o3, o4, o5, o6, p⟩ => ⟨m - 1, by omega, L + 1, le, edge, kvs, look, o3, o4, o5, o6, by omega, p⟩, ?_⟩
      refine ⟨(by show 0 ≤ sizeLine; decide), fun lf hlf => ?_⟩
      have hlf0 : H lf = none := by
        cases q : H lf with
        | none => rfl
        | some o => rw [S.sm _ _ q] at hlf; cases hlf
      have nlf : le ≠ lf := ne_of_none hle hlf
      have S1 := S.oth (o := .lst []) hlf0 (ne_of_none S.at_ hlf)
      refine ⟨_, rfl, le, rfl, ⟨_, .of (by rw [upd_ne nlf]; exact hle)⟩, ?_⟩
      refine for_list (xs := List.map V.str edge) (fun i σ H' => ∃ kvs look fur o5 o6, σ = [some (.ref d), some (.ref st), some (.ref e), o3, some (.ref le), some (.ref lf), o5, o6] ∧ Stp H H' ss e look kvs ∧ H' le = some (.lst (List.map V.str edge)) ∧ H' lf = some (.lst (List.map V.str fur)) ∧ fur.Nodup ∧ (∀ t ∈ fur, t ∈ ss) ∧ MG.Mid (Ner ss fn) s L look fur (fun z y => z ∈ edge.take i ∧ Ner ss fn z y)) ?_ ?_ ?_ ?_
      · exact ⟨kvs, look, [], o5, o6, rfl, S1, by rw [upd_ne nlf]; exact hle, upd_same, List.nodup_nil, (fun t ht => by cases ht), lev.mid.wk fun a b h => by simp at h⟩
      · rintro i σ H' hi ⟨kvs, look, fur, o5, o6, rfl, S, hle, _⟩
        exact .of hle
      · rintro i x σ H' hx ⟨kvs, look, fur, o5, o6, rfl, S, hle, hlf, hfn, hfs, mid⟩
        rw [List.getElem?_map] at hx
        obtain ⟨z, hz, rfl⟩ : ∃ z, edge[i]? = some z ∧ V.str z = x := by
          cases q : edge[i]? with
          | none => rw [q] at hx; cases hx
          | some e => rw [q] at hx; exact ⟨e, rfl, Option.some.inj hx⟩
        have dz := (lev.edg z).mp (List.mem_of_getElem? hz)
        have hzs := hin z dz.rch
        obtain ⟨tkv, hd, ht⟩ := T
        obtain ⟨l, el, hl⟩ := ht z hzs
        have hl' := S.sm _ _ hl
        refine ⟨_, rfl, _, rfl, .dic (.inl ⟨tkv, .inr z, .inl (S.sm _ _ hd), rfl, el.symm⟩) ⟨l, rfl, ⟨_, .of hl'⟩, ?_⟩⟩
        refine for_list (xs := List.map V.str (fn z)) (fun j σ H' => ∃ kvs look fur o6, σ = [some (.ref d), some (.ref st), some (.ref e), o3, some (.ref le), some (.ref lf), some (.str z), o6] ∧ Stp H H' ss e look kvs ∧ H' le = some (.lst (List.map V.str edge)) ∧ H' lf = some (.lst (List.map V.str fur)) ∧ fur.Nodup ∧ (∀ t ∈ fur, t ∈ ss) ∧ MG.Mid (Ner ss fn) s L look fur (fun a y => (a ∈ edge.take i ∧ Ner ss fn a y) ∨ (a = z ∧ y ∈ (fn z).take j))) ?_ ?_ ?_ ?_
        · exact ⟨kvs, look, fur, o6, rfl, S, hle, hlf, hfn, hfs, mid.wk fun a b h => by simpa using h⟩
        · rintro j σ H' hj ⟨kvs, look, fur, o6, rfl, S, _⟩
          exact .of (S.sm _ _ hl)
        · rintro j x σ H' hx ⟨kvs, look, fur, o6, rfl, S, hle, hlf, hfn, hfs, mid⟩
          rw [List.getElem?_map] at hx
          obtain ⟨y, hy, rfl⟩ : ∃ y, (fn z)[j]? = some y ∧ V.str y = x := by
            cases q : (fn z)[j]? with
            | none => rw [q] at hx; cases hx
            | some e => rw [q] at hx; exact ⟨e, rfl, Option.some.inj hx⟩
          have hyf := List.mem_of_getElem? hy
          have hys := hcl z hzs y hyf
          have hdone : ∀ a b, ((a ∈ edge.take i ∧ Ner ss fn a b) ∨ (a = z ∧ b ∈ (fn z).take (j + 1))) → ((a ∈ edge.take i ∧ Ner ss fn a b) ∨ (a = z ∧ b ∈ (fn z).take j)) ∨ (a = z ∧ b = y) := by
            intro a b h
            rcases h with h | ⟨h1, h2⟩
            · exact .inl (.inl h)
            · rw [List.take_add_one, hy, List.mem_append] at h2
              rcases h2 with h2 | h2
              · exact .inl (.inr ⟨h1, h2⟩)
              · exact .inr ⟨h1, by simpa using h2⟩
          refine ⟨_, rfl, _, rfl, .dic (DGet.k (k := .inr y) S.at_) ⟨_, rfl, ?_⟩⟩
          rw [S.lk y]
          refine ite2 (fun hc => ?_) (fun hc => ?_)
          · have hc : ¬ (look y).isSome = true := by simpa using hc
            have hn : look y = none := by simpa using hc
            have hzl : valV kvs (.inr z) = some (V.int (L : Int)) := by rw [S.lk, mid.cmp z L (Nat.le_refl _) dz]; rfl
            refine ⟨_, rfl, _, rfl, .dic (.inl ⟨kvs, .inr z, .inl S.at_, rfl, hzl.symm⟩) (.int ?_)⟩
            have hkl := S.len
            refine ⟨_, rfl, _, rfl, .dic (DPut.k (k := .inr y) S.at_ (small1000 (by omega))) ?_⟩
            have S' := S.put he hys hn (L + 1)
            have nle : le ≠ e := ne_of hle S.at_ (by intro z; cases z)
            have nlf' : lf ≠ e := ne_of hlf S.at_ (by intro z; cases z)
            refine ⟨_, rfl, .inl ⟨rfl, _, .of (by rw [upd_ne nlf']; exact hlf)⟩, ?_⟩
            have hfl : fur.length ≤ ss.length := hfn.length_le_of_subset hfs
            refine ⟨_, rfl, lf, _, _, rfl, rfl, by rw [upd_ne nlf']; exact hlf, by rw [List.length_map]; exact small1000 (by omega), ?_⟩
            refine ⟨_, _, fur ++ [y], _, rfl, S'.oth hlf0 (Ne.symm nlf'), ?_, ?_, ?_, ?_, (mid.add (z := z) (y := y) dz ⟨hzs, hyf⟩ hn fun a => rfl).wk hdone⟩
            · rw [upd_ne nlf, upd_ne nle]; exact hle
            · rw [upd_same, List.map_append]; rfl
            · rw [List.nodup_append]
              refine ⟨hfn, by simp, fun a ha b hb => ?_⟩
              have : b = y := by simpa using hb
              subst this
              rintro rfl
              rw [(mid.fur a ha).2] at hn
              cases hn
            · intro t ht
              rcases List.mem_append.mp ht with ht | ht
              · exact hfs t ht
              · have : t = y := by simpa using ht
                rw [this]; exact hys
          · have hc : (look y).isSome = true := by
              cases q : look y with
              | none => rw [q] at hc; exact absurd rfl hc
              | some v => rfl
            exact ⟨kvs, look, fur, _, rfl, S, hle, hlf, hfn, hfs, (mid.skip (z := z) hc).wk hdone⟩
        · rintro σ H' ⟨kvs, look, fur, o6, rfl, S, hle, hlf, hfn, hfs, mid⟩
          rw [List.length_map, List.take_of_length_le (Nat.le_refl _)] at mid
          refine ⟨kvs, look, fur, _, _, rfl, S, hle, hlf, hfn, hfs, mid.wk fun a b h => ?_⟩
          obtain ⟨h1, h2⟩ := h
          rw [List.take_add_one, hz, List.mem_append] at h1
          rcases h1 with h1 | h1
          · exact .inl ⟨h1, h2⟩
          · have : a = z := by simpa using h1
            subst this
            exact .inr ⟨rfl, h2.2⟩
      · rintro σ H' ⟨kvs, look, fur, o5, o6, rfl, S, hle, hlf, hfn, hfs, mid⟩
        rw [List.length_map, List.take_of_length_le (Nat.le_refl _)] at mid
        have hfl : fur.length ≤ ss.length := hfn.length_le_of_subset hfs
        exact ⟨_, rfl, lf, fur, kvs, look, _, _, _, _, rfl, S, hlf0, hlf, by omega, mid.next lev.edg fun z y hz r => ⟨hz, r⟩⟩
    · have he0 : edge = [] := by
        cases edge with
        | nil => rfl
        | cons y r => exact absurd (decide_eq_true (by simp)) hc
      subst he0
      have fin := lev.done
      refine ⟨_, rfl, k e kvs H2 S.sm he S.at_ fun t v => ?_⟩
      rw [S.lk t]
      constructor
      · intro q
        cases q2 : look t with
        | none => rw [q2] at q; cases q
        | some n =>
          rw [q2] at q
          exact ⟨n, (Option.some.inj q).symm, (fin t n).mp q2⟩
      · rintro ⟨n, rfl, dn⟩
        rw [(fin t n).mpr dn]; rfl
end
end K25
namespace K25
open PySem L2
section
variable {P : Program} {w : World} {K : PySem.W.Frag} {mg : Str → Option Value} {base : Heap}
theorem canLay_pairs : ∀ ts : List (Str × Str), (∀ e ∈ ts, Nm e.1 ∧ Nm e.2) → PyData.canLayAll0 (ts.map pairD) = true
  | [], _ => rfl
  | e :: ts, h => by
    show (PyData.canLay0 (pairD e) && PyData.canLayAll0 (ts.map pairD)) = true
    rw [canLay_pairs ts fun x hx => h x (List.mem_cons_of_mem _ hx)]
    have := h e (by simp)
    show ((PyData.canLay0 (.str e.1) && (PyData.canLay0 (.str e.2) && true)) && true) = true
    rw [canLay_nm this.1, canLay_nm this.2]; rfl
theorem depth_pairs : ∀ ts : List (Str × Str), PyData.depthAll (ts.map pairD) ≤ 1
  | [] => by decide
  | e :: es => by
    show max (PyData.depth (pairD e)) (PyData.depthAll (es.map pairD)) ≤ 1
    have h1 : PyData.depth (pairD e) = 1 := rfl
    have h2 := depth_pairs es
    omega
theorem shp_web {ss : List Str} {ts : List (Str × Str)} (h : ∀ s ∈ ss, Nm s) (g : ∀ e ∈ ts, Nm e.1 ∧ Nm e.2) : shp (webD ss ts) := by
  show ((PyData.canLayAll0 (ss.map PyData.str) && (PyData.canLayAll0 (ts.map pairD) && true)) && decide (max (PyData.depthAll (ss.map PyData.str) + 1) (max (PyData.depthAll (ts.map pairD) + 1) 0) + 1 ≤ 64)) = true
  have := depth_pairs ts
  rw [canLay_strs ss h, canLay_pairs ts g, depth_strs, decide_eq_true (by omega)]
  rfl
theorem web_shp {H : Hp} {v : V} {ss : List Str} {ts : List (Str × Str)} (W : Web H v ss ts) : shp (webD ss ts) := shp_web W.nm fun e he => ⟨W.nm _ (W.inn e he).1, W.nm _ (W.inn e he).2⟩
theorem web_but {H H' : Hp} {p : Addr} {ys : List V} (hp : H p = some (.lst ys)) (b : But p H H') {v : V} {ss : List Str} {ts : List (Str × Str)} (W : Web H v ss ts) : Web H' v ss ts := by
  refine ⟨?_, W.nd, W.nm, W.len, W.few, W.inn⟩
  obtain ⟨q, c, d, xs, rfl, hq, hc, hd, rp⟩ := web_at W.rep
  have k : ∀ a zs, H a = some (.tup zs) → H' a = some (.tup zs) := fun a zs h => b a _ (ne_of h hp (by intro z; cases z)) h
  exact .tup (k _ _ hq) (.cons (.tup (k _ _ hc) (RepAll.of_strs ss)) (.cons (.tup (k _ _ hd) (RepAll.pairBut hp b rp)) .nil))
theorem mem_getD {ss : List Str} {i : Nat} (h : i < ss.length) : ss.getD i "" ∈ ss := by
  rw [List.getD_eq_getElem?_getD, List.getElem?_eq_getElem h]
  exact List.getElem_mem h
theorem web_of {H H' : Hp} {n t : Addr} {ss : List Str} {es : List (Nat × Nat)} {v : V} (B : Built H n t ss es) (r : Rep H' v (webD ss (es.map (nmP ss)))) : Web H' v ss (es.map (nmP ss)) :=
  ⟨r, B.nd, B.ok, B.len, by rw [List.length_map]; exact B.few, fun e he => by
    obtain ⟨f, hf, rfl⟩ := List.mem_map.mp he
    have := B.val f hf
    exact ⟨mem_getD this.1, mem_getD this.2⟩⟩
theorem getD_inj {ss : List Str} (nd : ss.Nodup) (nm : ∀ s ∈ ss, Nm s) {a b : Nat} (ha : a < ss.length) (h : ss.getD a "" = ss.getD b "") : a = b := by
  by_cases hb : b < ss.length
  · rw [List.getD_eq_getElem?_getD, List.getD_eq_getElem?_getD, List.getElem?_eq_getElem ha, List.getElem?_eq_getElem hb] at h
    exact (List.getElem_inj nd).mp h
  · have e : ss.getD b "" = "" := by rw [List.getD_eq_getElem?_getD, List.getElem?_eq_none (by omega)]; rfl
    have h2 := (nm _ (mem_getD ha)).1
    rw [h, e] at h2
    exact absurd h2 (by decide)
end
end K25
namespace K25
open PySem L2
section
variable {P : Program} {w : World} {K : PySem.W.Frag} {mg : Str → Option Value} {base : Heap}
noncomputable def nmA (ss : List Str) (i : Nat) : Str := ss.getD i ""
theorem walk_names {ss : List Str} {es : List (Nat × Nat)} (nd : ss.Nodup) (nm : ∀ s ∈ ss, Nm s) (val : ∀ e ∈ es, e.1 < ss.length ∧ e.2 < ss.length) {one i k : Nat} (hi : i < ss.length) :
    MG.Walk (Tie (es.map (nmP ss))) k (nmA ss one) (nmA ss i) ↔ MG.Walk (MG.Arr es) k one i := by
  constructor
  · intro r
    obtain ⟨y, ey, ry⟩ := MG.Walk.back (R := MG.Arr es) (x := one) (nmA ss) (fun a c h => by
      obtain ⟨e, he, q⟩ := List.mem_map.mp h
      have q1 : ss.getD e.1 "" = ss.getD a "" := (Prod.mk.inj q).1
      have q2 : ss.getD e.2 "" = c := (Prod.mk.inj q).2
      have := getD_inj nd nm (val e he).1 q1
      exact ⟨e.2, q2.symm, by unfold MG.Arr; rw [← this]; exact he⟩) r
    have := getD_inj nd nm hi ey
    rw [this]; exact ry
  · intro r
    exact MG.Walk.map (nmA ss) (fun a b h => List.mem_map.mpr ⟨(a, b), h, rfl⟩) r
noncomputable def ValE (ss : List Str) (es : List (Nat × Nat)) : Prop := ∀ e ∈ es, e.1 < ss.length ∧ e.2 < ss.length
end
end K25
namespace K25
open PySem L2
section
variable {P : Program} {w : World} {K : PySem.W.Frag} {mg : Str → Option Value} {base : Heap}
theorem ner_fwd {H : Hp} {q : V} {ss : List Str} {ts : List (Str × Str)} (W : Web H q ss ts) : Ner ss (nxtL ss (if false then flipE ts else ts)) = Tie ts := by
  funext a b
  refine propext ⟨fun h => ?_, fun h => ?_⟩
  · have h3 := of_decide_eq_true (List.mem_filter.mp h.2).2
    exact h3
  · have g := W.inn _ h
    exact ⟨g.1, List.mem_filter.mpr ⟨g.2, decide_eq_true h⟩⟩
structure RD (H : Hp) (ss : List Str) (ts : List (Str × Str)) (dr : Addr) (s : Str) (d : Addr) : Prop where
  ne : d ≠ dr
  at_ : ∃ kv, H d = some (.dK kv) ∧ ∀ t v, valV kv (.inr t) = some v ↔ ∃ k : Nat, v = .int (k : Int) ∧ MG.Dst (Tie ts) s k t
noncomputable def spNo : Sp := fun _ _ _ _ => False
theorem ok_no {f : Addr} {fd : FuncData} {k : Nat} {ps : List Str} : FnOk P w K mg base CX0 k f fd ps spNo := ⟨fun _ _ _ _ h => h.elim, fun _ _ _ _ _ _ _ _ _ _ _ _ _ h => h.elim⟩
noncomputable def spRingOf : Sp := fun vs H Q _ => ∃ (q : V) (ss : List Str) (es : List (Nat × Nat)), vs = [q] ∧ Web H q ss (es.map (nmP ss)) ∧ ValE ss es ∧ (∀ e ∈ es, ¬ MG.RingAt es e) ∧ ∀ H', Same H H' → Q .non H'
theorem scRingOf : FnScope ["web", "table", "reached", "thing", "tie"] ["web"] (defScope sRingOf) := ⟨rfl, rfl, rfl, by decide +kernel, rfl, by decide +kernel, by decide +kernel⟩
theorem ok_ring_of {f : Addr} {fd : FuncData} (F : Fun K "ring_of" "ring_of" sRingOf f fd) (B : Blt mg) (csteps_from : Cal P w K mg base 1 "steps_from" ["table", "starts"] spStepsL) (cnexts_of_all : Cal P w K mg base 3 "nexts_of_all" ["web"] (spNextsAll false)) (cring_by : Cal P w K mg base 5 "ring_by" ["web", "one", "other"] spNo) : FnOk P w K mg base CX0 6 f fd ["web"] spRingOf := by
  refine F.ok scRingOf (fun vs H Q E h => ?_) (fun cdv A outer s H vs Q E hr h => ?_)
  · obtain ⟨q, ss, es, rfl, _⟩ := h
    rfl
  · obtain ⟨q, ss, es, rfl, W, val, nor, k0⟩ := h
    have nd := scRingOf.nd
    refine ⟨_, (pss_cons (ps_set (i := 1) nd rfl (Or.inl rfl) (pe_cal cnexts_of_all (hr.mono (by decide)) rfl (pa_cons (pv 0) pa_nil)))
      (pss_cons (ps_set (i := 2) nd rfl (Or.inl rfl) pe_dnewK)
      (pss_cons (ps_for PassesOwn.never rfl (pi_tupK K (pe_ix (ix_X K hr.units) (pv 0) pe_int (fun _ _ => rfl))) (pg_name (i := 3) nd rfl (Or.inl rfl)) (pss_one (ps_asg (pe_cal csteps_from (hr.mono (by decide)) rfl (pa_cons (pv 1) (pa_cons (pe_lst (pa_cons (pv 3) pa_nil)) pa_nil))) (pg_sub (pv 2) (pv 3) (set_X hr.units)))))
      (pss_cons (ps_for PassesOwn.never rfl (pi_tupK K (pe_ix (ix_X K hr.units) (pv 0) pe_int (fun _ _ => rfl))) (pg_name (i := 4) nd rfl (Or.inl rfl)) (pss_one (ps_if (pt_cmpR (op_inX K hr.units) (pe_ix (ix_X K hr.units) (pv 4) pe_int (fun _ _ => rfl)) (pe_ix (ix_X K hr.units) (pv 2) (pe_ix (ix_X K hr.units) (pv 4) pe_int (fun _ _ => rfl)) (fun _ _ => rfl)) (by with_unfolding_all rfl)) (pss_one (ps_ret (pe_cal cring_by (hr.mono (by decide)) rfl (pa_cons (pv 0) (pa_cons (pe_ix (ix_X K hr.units) (pv 4) pe_int (fun _ _ => rfl)) (pa_cons (pe_ix (ix_X K hr.units) (pv 4) pe_int (fun _ _ => rfl)) pa_nil)))))) pss_nil)))
      (pss_one (ps_ret pe_non)))))), ?_⟩
    have h60 := W.len
    obtain ⟨q, a, b, xs, rfl, hq, ha, hb, rp⟩ := web_at W.rep
    have rlen := rp.len
    rw [List.length_map] at rlen
    refine ⟨_, rfl, .ref q, ss, _, rfl, W, fun dt H1 s1 hdt T => ?_⟩
    intro dr hdr
    have hdr0 := same_free s1 hdr
    have s2 := s1.trans (Same.new (o := .dK []) hdr)
    have T2 := T.same (Same.new (o := .dK []) hdr)
    have e2 : upd H1 dr (.dK []) dr = some (.dK []) := upd_same
    have sb : Same H1 (upd H1 dr (.dK [])) := Same.new hdr
    generalize upd H1 dr (.dK []) = H2 at s2 T2 e2 sb ⊢
    refine ⟨_, rfl, .tup (.of (s2 _ _ hq)) rfl ⟨_, rfl, ⟨_, .of (s2 _ _ ha)⟩, ?_⟩⟩
    refine for_tup (xs := List.map V.str ss) (fun i σ H' => ∃ o3 kvs, σ = [some (.ref q), some (.ref dt), some (.ref dr), o3, none] ∧ Same H1 H' ∧ H' dr = some (.dK kvs) ∧ kvs.length ≤ i ∧ ∀ s ∈ ss.take i, ∃ d, valV kvs (.inr s) = some (.ref d) ∧ RD H' ss (es.map (nmP ss)) dr s d) ?_ ?_ ?_ ?_
    · exact ⟨none, [], rfl, sb, e2, Nat.le_refl _, fun s hs => by simp at hs⟩
    · rintro i σ H' hi ⟨o3, kvs, rfl, sm, _⟩
      exact .of (sm _ _ (s1 _ _ ha))
    · rintro i x σ H3 hx ⟨o3, kvs, rfl, s3, hk, hkl, hall⟩
      rw [List.getElem?_map] at hx
      obtain ⟨t, ht, rfl⟩ : ∃ t, ss[i]? = some t ∧ V.str t = x := by
        cases q : ss[i]? with
        | none => rw [q] at hx; cases hx
        | some e => rw [q] at hx; exact ⟨e, rfl, Option.some.inj hx⟩
      have hil := (List.getElem?_eq_some_iff.mp ht).1
      refine ⟨_, rfl, _, rfl, (by show 1 ≤ sizeLine; decide), fun ls hls => ⟨dt, ls, t, ss, _, rfl, upd_same, (T.same s3).same (Same.new hls), List.mem_of_getElem? ht, W.len, fun t _ u hu => (List.mem_filter.mp hu).1, fun d kv H4 s4' hd4' hkd hst => ?_⟩⟩
      have s4 := (Same.new (o := .lst [V.str t]) hls).trans s4'
      have hd4 := same_free (Same.new (o := .lst [V.str t]) hls) hd4'
      rw [ner_fwd W] at hst
      have hk4 := s4 _ _ hk
      have hne : d ≠ dr := Ne.symm (ne_of_none hk hd4)
      refine ⟨_, rfl, _, rfl, .dic (DPut.k (k := .inr t) hk4 (small1000 (by omega))) ⟨_, _, rfl, same_at (s3.trans s4) hdr, upd_same, ?_, ?_⟩⟩
      · have := length_putK kvs (.inr t) (V.ref d)
        omega
      · intro s hs
        rw [List.take_add_one, ht, List.mem_append] at hs
        by_cases q : s = t
        · subst q
          refine ⟨d, by rw [valV_put, if_pos rfl], hne, kv, ?_, hst⟩
          rw [upd_ne hne]; exact hkd
        · rcases hs with hs | hs
          · obtain ⟨d', e1, n1, kv', e2, h2⟩ := hall s hs
            refine ⟨d', by rw [valV_put, if_neg (fun z => q (Sum.inr.inj z))]; exact e1, n1, kv', ?_, h2⟩
            rw [upd_ne n1]; exact s4 _ _ e2
          · exact absurd (by simpa using hs) q
    · rintro σ H3 ⟨o3, kvs, rfl, s3, hk, _, hall⟩
      rw [List.length_map, List.take_of_length_le (Nat.le_refl _)] at hall
      have s13 := s1.trans s3
      refine ⟨_, rfl, .tup (.of (s13 _ _ hq)) rfl ⟨_, rfl, ⟨_, .of (s13 _ _ hb)⟩, ?_⟩⟩
      refine for_tup (xs := xs) (fun i σ H' => ∃ o3 o4, σ = [some (.ref q), some (.ref dt), some (.ref dr), o3, o4] ∧ H' = H3 ∧ ∀ j, j < i → ∀ f, es[j]? = some f → ¬ MG.RingAt es f) ?_ ?_ ?_ ?_
      · exact ⟨_, _, rfl, rfl, fun j hj => by omega⟩
      · rintro i σ H' hi ⟨o3, o4, rfl, rfl, _⟩
        exact .of (s13 _ _ hb)
      · rintro i x σ H' hx ⟨o3, o4, rfl, rfl, hno⟩
        obtain ⟨d, hd, rd⟩ := (rp.same s13).get hx
        rw [List.getElem?_map, List.getElem?_map] at hd
        obtain ⟨e, he, rfl⟩ : ∃ e, es[i]? = some e ∧ pairD (nmP ss e) = d := by
          cases q : es[i]? with
          | none => rw [q] at hd; cases hd
          | some e => rw [q] at hd; exact ⟨e, rfl, Option.some.inj hd⟩
        obtain ⟨ta, rfl, hta⟩ := pair_at rd
        have hval := val e (List.mem_of_getElem? he)
        obtain ⟨d2, hd2, hne2, kv2, hkv2, hst2⟩ := hall (nmA ss e.2) (mem_getD hval.2)
        have hring : (valV kv2 (.inr (nmA ss e.1))).isSome = true ↔ MG.RingAt es e := by
          have h1 : ∀ k, MG.Walk (Tie (es.map (nmP ss))) k (nmA ss e.2) (nmA ss e.1) ↔ MG.Walk (MG.Arr es) k e.2 e.1 := fun k => walk_names W.nd W.nm val hval.1
          constructor
          · intro h
            obtain ⟨v, hv⟩ := Option.isSome_iff_exists.mp h
            obtain ⟨m, _, dm⟩ := (hst2 _ v).mp hv
            exact MG.rch_to.mp ⟨m, (h1 m).mp dm.1⟩
          · intro h
            obtain ⟨m, wm⟩ := MG.rch_to.mpr h
            obtain ⟨m', dm⟩ := MG.Rch.dst (R := Tie (es.map (nmP ss))) ⟨m, (h1 m).mpr wm⟩
            rw [(hst2 _ (.int (m' : Int))).mpr ⟨m', rfl, dm⟩]; rfl
        refine ⟨_, rfl, .tup (.of hta) rfl ⟨_, rfl, _, rfl, .tup (.of hta) rfl (.dic (.inl ⟨kvs, .inr (nmA ss e.2), .inl hk, rfl, hd2.symm⟩) (.dic (DGet.k (k := .inr (nmA ss e.1)) hkv2) ⟨_, rfl, ?_⟩))⟩⟩
        refine ite2 (fun h1 => ?_) (fun h1 => ?_)
        · have hR : MG.RingAt es e := hring.mp h1
          exact absurd hR (nor e (List.mem_of_getElem? he))
        · have hR : ¬ MG.RingAt es e := fun z => h1 (hring.mpr z)
          refine ⟨_, _, rfl, rfl, fun j hj f hf => ?_⟩
          by_cases q : j < i
          · exact hno j q f hf
          · have : j = i := by omega
            subst this
            rw [he] at hf
            cases hf
            exact hR
      · rintro σ H' ⟨o3, o4, rfl, rfl, hno⟩
        rw [rlen] at hno
        exact k0 _ s13
end
end K25
namespace K25
open PySem L2
section
variable {P : Program} {w : World} {K : PySem.W.Frag} {mg : Str → Option Value} {base : Heap}
noncomputable def spRefuse : Sp := fun vs H Q _ => ∃ (q : V) (ss : List Str) (es : List (Nat × Nat)), vs = [q] ∧ Web H q ss (es.map (nmP ss)) ∧ ValE ss es ∧ MG.Ris es ∧ ∀ H', Same H H' → Q .non H'
theorem scRefuse : FnScope ["web", "ring"] ["web"] (defScope sRefuse) := ⟨rfl, rfl, rfl, by decide +kernel, rfl, by decide +kernel, by decide +kernel⟩
theorem ok_refuse {f : Addr} {fd : FuncData} (F : Fun K "refuse_ring" "refuse_ring" sRefuse f fd) (B : Blt mg) (cring_of : Cal P w K mg base 6 "ring_of" ["web"] spRingOf) : FnOk P w K mg base CX0 7 f fd ["web"] spRefuse := by
  refine F.ok scRefuse (fun vs H Q E h => ?_) (fun cdv A outer s H vs Q E hr h => ?_)
  · obtain ⟨q, ss, es, rfl, _⟩ := h
    rfl
  · obtain ⟨q, ss, es, rfl, W, val, hf, k⟩ := h
    have nd := scRefuse.nd
    refine ⟨_, (pss_cons (ps_set (i := 1) nd rfl (Or.inl rfl) (pe_cal cring_of (hr.mono (by decide)) rfl (pa_cons (pv 0) pa_nil)))
      (pss_one (ps_if (pt_cmpR op_isNotX (pv 1) pe_non (nomark _)) (pss_one ps_never) pss_nil))), ?_⟩
    refine ⟨_, rfl, q, ss, es, rfl, W, val, hf.noring, fun H1 s1 => ?_⟩
    refine ⟨_, rfl, .non ⟨_, rfl, ite2 (fun h => absurd h (by decide)) (fun _ => ?_)⟩⟩
    exact k H1 s1
end
end K25
namespace K25
open PySem L2
section
variable {P : Program} {w : World} {K : PySem.W.Frag} {mg : Str → Option Value} {base : Heap}
noncomputable def intV (zs : List Int) : List V := zs.map V.int
theorem int_get {zs : List Int} {i : Nat} {x : V} (h : (intV zs)[i]? = some x) : ∃ z, zs[i]? = some z ∧ V.int z = x := by
  unfold intV at h
  rw [List.getElem?_map] at h
  cases q : zs[i]? with
  | none => rw [q] at h; cases h
  | some e => rw [q] at h; exact ⟨e, rfl, Option.some.inj h⟩
theorem Web.at {H : Hp} {v : V} {ss : List Str} {ts : List (Str × Str)} (W : Web H v ss ts) : ∃ q a b, v = .ref q ∧ H q = some (.tup [.ref a, .ref b]) ∧ H a = some (.tup (List.map V.str ss)) := by
  obtain ⟨q, a, b, xs, rfl, hq, ha, hb, rp⟩ := web_at W.rep
  exact ⟨q, a, b, rfl, hq, ha⟩
noncomputable def spWhole : Sp := fun vs H Q _ => ∃ z, vs = [V.int z] ∧ Q (.bl true) H
theorem scWhole : FnScope ["thing"] ["thing"] (defScope sIsWhole) := ⟨rfl, rfl, rfl, by decide +kernel, rfl, by decide +kernel, by decide +kernel⟩
theorem ok_whole {f : Addr} {fd : FuncData} (F : Fun K "is_whole" "is_whole" sIsWhole f fd) (B : Blt mg) : FnOk P w K mg base CX0 1 f fd ["thing"] spWhole := by
  refine F.ok scWhole (fun vs H Q E h => ?_) (fun cdv A outer s H vs Q E hr h => ?_)
  · obtain ⟨x, rfl, _⟩ := h
    rfl
  · obtain ⟨x, rfl, k⟩ := h
    have nd := scWhole.nd
    obtain ⟨t, ty, _, t2, t3, _⟩ := ty_thg (K := K) (H := H) (x := .int x) (.int x)
    refine ⟨_, (pss_one (ps_ret (pe_and (b_isi K "int" B (pa_cons (pv 0) (pa_cons (g_int B) pa_nil))) (pe_one (pe_not (b_isi K "bool" B (pa_cons (pv 0) (pa_cons (g_bool B) pa_nil)))))))), ?_⟩
    refine ⟨_, rfl, _, t, _, rfl, ty, t2, _, rfl, ?_⟩
    refine ite2 (fun h => ?_) (fun h => absurd rfl h)
    exact ⟨_, rfl, _, t, _, rfl, ty, t3, _, rfl, k⟩
end
end K25
namespace K25
open PySem L2
section
variable {P : Program} {w : World} {K : PySem.W.Frag} {mg : Str → Option Value} {base : Heap}
noncomputable def spWholes : Sp := fun vs H Q _ => ∃ (q : V) (a : Addr) (ss : List Str) (ts : List (Str × Str)) (zs : List Int), vs = [q, .ref a] ∧ Web H q ss ts ∧ H a = some (.lst (intV zs)) ∧ zs.length = ss.length ∧ ∀ H', Same H H' → Q (.bl true) H'
theorem scWholes : FnScope ["web", "numbers"] ["web", "numbers"] (defScope sWholes) := ⟨rfl, rfl, rfl, by decide +kernel, rfl, by decide +kernel, by decide +kernel⟩
theorem ok_wholes {f : Addr} {fd : FuncData} (F : Fun K "are_wholes" "are_wholes" sWholes f fd) (B : Blt mg) (cis_whole : Cal P w K mg base 1 "is_whole" ["thing"] spWhole) : FnOk P w K mg base CX0 2 f fd ["web", "numbers"] spWholes := by
  refine F.ok scWholes (fun vs H Q E h => ?_) (fun cdv A outer s H vs Q E hr h => ?_)
  · obtain ⟨q, a, ss, ts, zs, rfl, _⟩ := h
    rfl
  · obtain ⟨q, n, ss, ts, zs, rfl, W, hn, hl, k⟩ := h
    have nd := scWholes.nd
    have h60 := W.len
    obtain ⟨q, a, b, rfl, hq, ha⟩ := Web.at W
    have il : (intV zs).length = zs.length := List.length_map ..
    refine ⟨_, (pss_one (ps_ret (pe_and (pe_cmpR (op_eqX hr.units) (b_len K B (pa_cons (pv 1) pa_nil)) (b_len K B (pa_cons (pe_ix (ix_X K hr.units) (pv 0) pe_int (fun _ _ => rfl)) pa_nil)) (nomark _)) (pe_one (b_all rfl B (pa_cons (pe_comp (defScope sWholes) ["web", "numbers"] ["number"] [] ["number"] rfl (pi_listK K (pv 1)) (fun _ _ _ _ _ => (pg_name (i := 0) (show (["number"] : List Str).Nodup by decide) rfl (Or.inl rfl))) (fun _ _ _ _ _ => pts_nil) (fun _ _ _ _ _ => (pe_cal cis_whole (hr.mono (by decide)) rfl (pa_cons (pv 0) pa_nil)))) pa_nil)))))), ?_⟩
    refine ⟨_, rfl, _, _, rfl, (SqA.len (K := K) (H := H) (a := n) (.inl hn)), _, rfl, .tup (.of hq) rfl ⟨_, _, rfl, (SqA.len (K := K) (H := H) (a := a) (.inr ha)), .sc rfl ⟨_, rfl, ite2 (fun _ => ?_) (fun h => absurd (by rw [il, List.length_map, hl]; exact decide_eq_true rfl) h)⟩⟩⟩
    refine ⟨_, rfl, n, rfl, ⟨_, .of hn⟩, ?_⟩
    refine comp_list (intV zs) (fun D i acc σ' H' => ∃ o, σ' = [o] ∧ acc = List.map V.bl (List.replicate i true) ∧ Same H H' ∧ H D = none) fun D hD => ⟨?_, ?_, ?_, ?_⟩
    · exact ⟨none, rfl, rfl, Same.new hD, hD⟩
    · rintro i acc σ' H' _ ⟨o, rfl, _, sm, _⟩ _
      exact .of (sm _ _ hn)
    · rintro i acc σ' H' x hx ⟨o, rfl, rfl, sm, hD0⟩ hacc
      have hil := (List.getElem?_eq_some_iff.mp hx).1
      rw [il] at hil
      obtain ⟨z, hz, rfl⟩ := int_get hx
      refine gYes ?_
      exact ⟨_, rfl, z, rfl, hacc, by rw [List.length_map, List.length_replicate]; exact small1000 (by omega), _, rfl, by rw [List.replicate_succ', List.map_append]; rfl, same_at sm hD0, hD0⟩
    · rintro acc σ' H2 ⟨o, rfl, rfl, s2, hD0⟩ hacc
      refine ⟨D, _, rfl, hacc, ?_⟩
      have e : (List.replicate (intV zs).length true).all id = true := by rw [List.all_eq_true]; intro x hx; exact (List.mem_replicate.mp hx).2
      rw [e]
      exact k H2 s2
noncomputable def spWeigh : Sp := fun vs H Q _ => ∃ (q : V) (a : Addr) (ss : List Str) (es : List (Nat × Nat)) (zs : List Int), vs = [q, .ref a] ∧ Web H q ss (es.map (nmP ss)) ∧ ValE ss es ∧ MG.Ris es ∧ H a = some (.lst (intV zs)) ∧ zs.length = ss.length ∧ ∀ l H', Same H H' → H l = none → H' l = some (.dK (zipK ss (intV zs))) → Q (.ref l) H'
theorem scWeigh : FnScope ["web", "weights"] ["web", "weights"] (defScope sWeigh) := ⟨rfl, rfl, rfl, by decide +kernel, rfl, by decide +kernel, by decide +kernel⟩
theorem ok_weigh {f : Addr} {fd : FuncData} (F : Fun K "weights_by_thing" "weights_by_thing" sWeigh f fd) (B : Blt mg) (Zz : mg "zip" = none) (crefuse_ring : Cal P w K mg base 7 "refuse_ring" ["web"] spRefuse) (care_wholes : Cal P w K mg base 2 "are_wholes" ["web", "numbers"] spWholes) : FnOk P w K mg base CX0 8 f fd ["web", "weights"] spWeigh := by
  refine F.ok scWeigh (fun vs H Q E h => ?_) (fun cdv A outer s H vs Q E hr h => ?_)
  · obtain ⟨q, a, ss, es, zs, rfl, _⟩ := h
    rfl
  · obtain ⟨q, n, ss, es, zs, rfl, W, val, hf, hn, hl, k⟩ := h
    have nd := scWeigh.nd
    have h60 := W.len
    refine ⟨_, (pss_cons (ps_expr (pe_cal crefuse_ring (hr.mono (by decide)) rfl (pa_cons (pv 0) pa_nil)))
      (pss_cons (ps_if (PW.pt (pw_or (pt_not (pt_val (b_isi2 K "list" "tuple" B (pa_cons (pv 1) (pa_cons (pe_tup (pa_cons (g_list B) (pa_cons (g_tuple B) pa_nil))) pa_nil))))) (pw_or1 (pt_not (pt_val (pe_cal care_wholes (hr.mono (by decide)) rfl (pa_cons (pv 0) (pa_cons (pv 1) pa_nil)))))))) (pss_one ps_never) pss_nil)
      (pss_one (ps_ret (pe_dzip K rfl hr.units B Zz (pa_cons (pe_ix (ix_X K hr.units) (pv 0) pe_int (fun _ _ => rfl)) (pa_cons (pv 1) pa_nil))))))), ?_⟩
    refine ⟨_, rfl, q, ss, es, rfl, W, val, hf, fun H1 s1 => ?_⟩
    refine ⟨_, rfl, (by show 2 ≤ sizeLine; decide), fun tp htp => ?_⟩
    have s0 := Same.new (o := .tup [V.ty "list", V.ty "tuple"]) htp
    have A0 : SqA (upd H1 tp (.tup [V.ty "list", V.ty "tuple"])) n (intV zs) := SqA.same (.inl (s1 _ _ hn)) s0
    obtain ⟨t, ty, _, _, _, t4, t5⟩ := ty_thg (K := K) A0.thg
    have kl := kit_lt t4 t5
    rw [A0.lt] at kl
    refine ⟨_, tp, t, _, rfl, upd_same, ty, kl, _, rfl, ?_⟩
    refine ite2 (fun h => absurd h (by decide)) (fun _ => ?_)
    have s01 := s1.trans s0
    generalize upd H1 tp (.tup [V.ty "list", V.ty "tuple"]) = H2 at s01 ⊢
    refine ⟨_, rfl, _, rfl, q, n, ss, _, zs, rfl, W.same s01, s01 _ _ hn, hl, fun H3 s3 => ⟨_, rfl, ite2 (fun h => absurd h (by decide)) (fun _ => ?_)⟩⟩
    have s13 := s01.trans s3
    obtain ⟨q, a, b, rfl, hq, ha⟩ := Web.at (W.same s13)
    refine ⟨_, rfl, .tup (.of hq) rfl ⟨_, rfl, a, n, ss, intV zs, rfl, .of ha, .of (s13 _ _ hn), by unfold intV; rw [List.length_map, hl], by omega, fun l H4 hl4 s4 h4 => ?_⟩⟩
    rw [mkK_zip ss _ W.nd] at h4
    exact k l H4 (s13.trans s4) (same_free s13 hl4) h4
end
end K25
namespace K25
open PySem L2
section
variable {P : Program} {w : World} {K : PySem.W.Frag} {mg : Str → Option Value} {base : Heap}
noncomputable def wOf (zs : List Int) (v : Nat) : Int := zs.getD v 0
theorem wOf_get {zs : List Int} {v : Nat} (h : v < zs.length) : (intV zs)[v]? = some (.int (wOf zs v)) := by
  unfold intV wOf
  rw [List.getElem?_map, List.getD_eq_getElem?_getD, List.getElem?_eq_getElem h]; rfl
end
end K25
namespace K25
open PySem L2
section
variable {P : Program} {w : World} {K : PySem.W.Frag} {mg : Str → Option Value} {base : Heap}
theorem rank_ex {n : Nat} {es : List (Nat × Nat)} (h : MG.Ris es) (val : ∀ e ∈ es, e.1 < n ∧ e.2 < n) : ∃ r : Nat → Nat, (∀ e ∈ es, r e.1 < r e.2) ∧ ∀ v, v < n → r v ≤ n := by
  obtain ⟨D, hD⟩ := MG.depth_ex h (fun _ => 1)
  have L := hD.lay (n := n) val (fun _ _ => rfl)
  refine ⟨fun v => (D v - 1).toNat, fun e he => ?_, fun v hv => ?_⟩
  · have h1 := hD.ge e.1
    have h2 := hD.up e he
    show (D e.1 - 1).toNat < (D e.2 - 1).toNat
    omega
  · exact Nat.le_of_lt (L.lt val v hv)
noncomputable def sumI (W : Nat → Int) : List Nat → Int
  | [] => 0
  | x :: l => W x + sumI W l
noncomputable def Chain (es : List (Nat × Nat)) (xs : List Nat) : Prop := ∀ i a b, xs[i]? = some a → xs[i + 1]? = some b → (a, b) ∈ es
end
end K25
namespace K25
open PySem L2
section
variable {P : Program} {w : World} {K : PySem.W.Frag} {mg : Str → Option Value} {base : Heap}
noncomputable def spB12 (K : PySem.W.Frag) : Sp := fun vs H Q _ => ∃ (p a : Addr), vs = [.ref p] ∧ Pen K H p a ∧
  ∀ q n t ss es H', ss.length ≤ 12 → H' q = some (.tup [.ref n, .ref t]) → Built H' n t ss es → MG.Ris es → n ≠ p → t ≠ p → PenV H' p a → But p H H' → Q (.ref q) H'
theorem scBuilt : FnScope ["_law_pen", "_law_size", "_law_names_here", "_law_count"] ["_law_pen"] (defScope sBuilt) := ⟨rfl, rfl, rfl, by decide +kernel, rfl, by decide +kernel, by decide +kernel⟩
theorem ok_built {f : Addr} {fd : FuncData} (F : Fun K "_law_built" "_law_built" sBuilt f fd) (B : Blt mg) (c_law_take : Cal P w K mg base 1 "_law_take" ["_law_pen", "_law_many"] (spDraw K)) (c_law_names : Cal P w K mg base 2 "_law_names" ["_law_pen", "_law_many"] (spNames K))
    (c_law_ties : Cal P w K mg base 2 "_law_ties" ["_law_pen", "_law_size", "_law_count"] (spTies K)) : FnOk P w K mg base CX0 3 f fd ["_law_pen"] (spB12 K) := by
  refine F.ok scBuilt (fun vs H Q E h => ?_) (fun cdv A outer s H vs Q E hr h => ?_)
  · obtain ⟨p, a, rfl, _⟩ := h
    rfl
  · obtain ⟨p, a, rfl, hP, k⟩ := h
    have nd := scBuilt.nd
    refine ⟨_, (pss_cons (ps_set (i := 1) nd rfl (Or.inl rfl) (pe_cal c_law_take (hr.mono (by decide)) rfl (pa_cons (pv 0) (pa_cons pe_int pa_nil))))
      (pss_cons (ps_set (i := 2) nd rfl (Or.inl rfl) (pe_cal c_law_names (hr.mono (by decide)) rfl (pa_cons (pv 0) (pa_cons (pv 1) pa_nil))))
      (pss_cons (ps_set (i := 3) nd rfl (Or.inl rfl) (pe_cal c_law_take (hr.mono (by decide)) rfl (pa_cons (pv 0) (pa_cons (pe_op op_addX (pe_op op_mul pe_int (pv 1)) pe_int) pa_nil))))
      (pss_one (ps_ret (pe_tup (pa_cons (pv 2) (pa_cons (pe_cal c_law_ties (hr.mono (by decide)) rfl (pa_cons (pv 0) (pa_cons (pv 1) (pa_cons (pv 3) pa_nil)))) pa_nil)))))))), ?_⟩
    refine ⟨_, rfl, p, a, 13, rfl, hP, by decide, by decide, fun r1 H1 h10 h11 v1 e1 => ?_⟩
    have b2 := But.of_eq e1
    obtain ⟨m, rfl⟩ := Int.eq_ofNat_of_zero_le h10
    have hm : m ≤ 60 := by omega
    refine ⟨_, rfl, _, rfl, p, a, m, rfl, hP.but b2 v1, hm, fun ln ss H5 hl5 hnd5 hnm5 hln5 hnp5 v5 b5 => ?_⟩
    have b6 := b2.trans b5
    refine ⟨_, rfl, _, rfl, _, _, rfl, rfl, .inl ⟨by decide, by decide⟩, .int ⟨p, a, _, rfl, hP.but b6 v5, by omega, by omega, fun r7 H7 h70 h71 v7 e7 => ?_⟩⟩
    have hln7 := (e7 ln hnp5).trans hln5
    have b7 := b6.trans (But.of_eq e7)
    obtain ⟨c, rfl⟩ := Int.eq_ofNat_of_zero_le h70
    have hc : c ≤ 400 ∧ (m = 0 → c = 0) := by omega
    refine ⟨_, rfl, _, rfl, _, rfl, _, rfl, p, a, m, c, rfl, hP.but b7 v7, hm, hc.1, hc.2, fun lt refs es H9 hlt rp hval hris hlen hltp v9 b9 => ⟨(by show 2 ≤ sizeLine; decide), fun q hq => ?_⟩⟩
    have hln9 := b9 ln _ hnp5 hln7
    have b9 := b7.trans b9
    have s2 := Same.new (o := .tup [V.ref ln, V.ref lt]) hq
    have hpq := v9.ne hq
    exact k q ln lt ss es _ (by omega) upd_same ⟨s2 _ _ hln9, hnd5, hnm5, by omega, ⟨refs, s2 _ _ hlt, rp.same s2⟩, (fun e he => by rw [hl5]; exact hval e he), by omega⟩ hris hnp5 hltp (v9.upd hpq) (b9.at (b9.free (Ne.symm hpq) hq))
end
end K25
namespace K25
open PySem L2
section
variable {P : Program} {w : World} {K : PySem.W.Frag} {mg : Str → Option Value} {base : Heap}
noncomputable def spWts (K : PySem.W.Frag) : Sp := fun vs H Q _ => ∃ (p a : Addr) (n : Nat), vs = [.ref p, .int (n : Int)] ∧ Pen K H p a ∧ n ≤ 60 ∧ ∀ l zs H', H' l = some (.lst (intV zs)) → zs.length = n → (∀ z ∈ zs, z.natAbs ≤ 10 ^ 30) → l ≠ p → PenV H' p a → But p H H' → Q (.ref l) H'
theorem scWts : FnScope ["_law_pen", "_law_size", "_law_menu", "_law_found", "_law_k", "_law_small", "_law_great"] ["_law_pen", "_law_size"] (defScope sWts) := ⟨rfl, rfl, rfl, by decide +kernel, rfl, by decide +kernel, by decide +kernel⟩
theorem ok_wts {f : Addr} {fd : FuncData} (F : Fun K "_law_weights" "_law_weights" sWts f fd) (B : Blt mg) (c_law_take : Cal P w K mg base 1 "_law_take" ["_law_pen", "_law_many"] (spDraw K)) : FnOk P w K mg base CX0 2 f fd ["_law_pen", "_law_size"] (spWts K) := by
  refine F.ok scWts (fun vs H Q E h => ?_) (fun cdv A outer s H vs Q E hr h => ?_)
  · obtain ⟨p, a, n, rfl, _⟩ := h
    rfl
  · obtain ⟨p, a, n, rfl, hP, hn, k⟩ := h
    have nd := scWts.nd
    refine ⟨_, (pss_cons (ps_set (i := 2) nd rfl (Or.inl rfl) (pe_cal c_law_take (hr.mono (by decide)) rfl (pa_cons (pv 0) (pa_cons pe_int pa_nil))))
      (pss_cons (ps_set (i := 3) nd rfl (Or.inl rfl) (pe_lst pa_nil))
      (pss_cons (ps_for PassesOwn.never rfl (pi_range1 rfl B.range (pa_cons (pv 1) pa_nil)) (pg_name (i := 4) nd rfl (Or.inl rfl)) (pss_cons (ps_set (i := 5) nd rfl (Or.inl rfl) (pe_op op_sub (pe_cal c_law_take (hr.mono (by decide)) rfl (pa_cons (pv 0) (pa_cons pe_int pa_nil))) pe_int))
      (pss_cons (ps_set (i := 6) nd rfl (Or.inl rfl) (pe_op op_mul (pe_ix (ix_X K hr.units) (pe_lst (pa_cons pe_int (pa_cons (pe_un un_neg pe_int) pa_nil))) (pe_cal c_law_take (hr.mono (by decide)) rfl (pa_cons (pv 0) (pa_cons pe_int pa_nil))) (fun _ _ => rfl)) (pe_op op_sub (pe_op op_sub (pe_op op_pow pe_int pe_int) pe_int) (pe_cal c_law_take (hr.mono (by decide)) rfl (pa_cons (pv 0) (pa_cons pe_int pa_nil))))))
      (pss_one (ps_expr (m_append K (pv 3) (pa_cons (pe_ix (ix_X K hr.units) (pe_lst (pa_cons (pv 5) (pa_cons (b_abs B (pa_cons (pv 5) pa_nil)) (pa_cons (pe_op op_sub (pe_op op_mod (pv 5) pe_int) pe_int) (pa_cons (pe_op op_sub (pe_un un_neg pe_int) (b_abs B (pa_cons (pv 5) pa_nil))) (pa_cons (pe_ix (ix_X K hr.units) (pe_lst (pa_cons (pv 5) (pa_cons (pv 6) pa_nil))) (pe_cal c_law_take (hr.mono (by decide)) rfl (pa_cons (pv 0) (pa_cons pe_int pa_nil))) (fun _ _ => rfl)) (pa_cons pe_int pa_nil star_c) star_s) star_b) star_b) star_f) star_n)) (pv 2) (fun _ _ => rfl)) pa_nil)))))))
      (pss_one (ps_ret (pv 3)))))), ?_⟩
    refine ⟨_, rfl, p, a, 6, rfl, hP, by decide, by decide, fun r1 H1 h10 h11 v1 e1 => ?_⟩
    have b1 := But.of_eq e1
    obtain ⟨mn, rfl⟩ := Int.eq_ofNat_of_zero_le h10
    have hmn : mn < 6 := by omega
    refine ⟨(by show 0 ≤ sizeLine; decide), fun lf hlf => ?_⟩
    have hpf := v1.ne hlf
    have hf0 := b1.free (Ne.symm hpf) hlf
    refine ⟨_, rfl, _, rfl, by omega, by omega, ?_⟩
    refine for_range (fun i σ H' => ∃ o4 o5 o6 zs, σ = [some (.ref p), some (.int (n : Int)), some (.int (mn : Int)), some (.ref lf), o4, o5, o6] ∧ H' lf = some (.lst (intV zs)) ∧ zs.length = i ∧ (∀ z ∈ zs, z.natAbs ≤ 10 ^ 30) ∧ PenV H' p a ∧ But p H H')
      ⟨none, none, none, [], rfl, upd_same, rfl, (fun z hz => by cases hz), v1.upd hpf, b1.at hf0⟩ ?_ ?_
    · rintro i σ H2 hi ⟨o4, o5, o6, zs, rfl, hf2, hzl, hzs, v2, b2⟩
      have hi : i < n := by simpa using hi
      refine ⟨_, rfl, p, a, 41, rfl, hP.but b2 v2, by decide, by decide, fun r3 H3 h30 h31 v3 e3 => ⟨_, _, rfl, rfl, ?_⟩⟩
      have b3 := b2.trans (But.of_eq e3)
      have hf3 : H3 lf = some (.lst (intV zs)) := (e3 lf (Ne.symm hpf)).trans hf2
      obtain ⟨sm, hsm⟩ : ∃ sm, sm = r3 - 20 := ⟨_, rfl⟩
      try dsimp only
      rw [← hsm]
      refine ⟨_, rfl, (by show 2 ≤ sizeLine; decide), fun l1 hl1 => ?_⟩
      have hp1 := v3.ne hl1
      have nf1 : lf ≠ l1 := ne_of_none hf3 hl1
      have b3' := b3.at (o := .lst [V.int 1, V.int (-1)]) (b3.free (Ne.symm hp1) hl1)
      refine ⟨_, rfl, p, a, 2, rfl, hP.but b3' (v3.upd hp1), by decide, by decide, fun r4 H4 h40 h41 v4 e4 => ?_⟩
      have hl14 : H4 l1 = some (.lst [V.int 1, V.int (-1)]) := (e4 l1 (Ne.symm hp1)).trans upd_same
      have hf4 : H4 lf = some (.lst (intV zs)) := by rw [e4 lf (Ne.symm hpf), upd_ne nf1]; exact hf3
      have b4 := b3'.trans (But.of_eq e4)
      obtain ⟨sg, esg, hsg⟩ : ∃ sg : Int, atI [V.int 1, V.int (-1)] r4 = some (.int sg) ∧ (sg = 1 ∨ sg = -1) := by
        have hr : r4 = 0 ∨ r4 = 1 := by omega
        rcases hr with rfl | rfl
        · exact ⟨1, rfl, .inl rfl⟩
        · exact ⟨-1, rfl, .inr rfl⟩
      refine .lst (.of hl14) esg ?_
      refine ⟨_, _, rfl, rfl, ⟨by decide, by decide, by decide⟩, ?_⟩
      refine ⟨_, _, rfl, rfl, _, rfl, p, a, 5, rfl, hP.but b4 v4, by decide, by decide, fun r5 H5 h50 h51 v5 e5 => ⟨_, _, rfl, rfl, _, _, rfl, rfl, .inl (by rcases hsg with rfl | rfl <;> exact ⟨by decide, by decide⟩), ?_⟩⟩
      have hf5 : H5 lf = some (.lst (intV zs)) := (e5 lf (Ne.symm hpf)).trans hf4
      have b5 := b4.trans (But.of_eq e5)
      obtain ⟨gr, hgr⟩ : ∃ gr : Int, gr = sg * ((10 : Int) ^ (30 : Int).toNat - 1 - r5) := ⟨_, rfl⟩
      try dsimp only
      rw [← hgr]
      have grb : gr.natAbs ≤ 10 ^ 30 := by
        have e30 : (10 : Int) ^ (30 : Int).toNat = 1000000000000000000000000000000 := by decide
        have e31 : (10 : Nat) ^ 30 = 1000000000000000000000000000000 := by decide
        rw [e30] at hgr
        rw [e31]
        rcases hsg with rfl | rfl <;> omega
      clear hgr hsg esg
      refine ⟨_, rfl, .inl ⟨rfl, _, .of hf5⟩, ?_⟩
      refine ⟨_, rfl, _, rfl, _, rfl, _, rfl, _, _, rfl, rfl, (by show (0 : Int) < 3; decide), _, _, rfl, rfl, ?_⟩
      refine ⟨_, rfl, _, rfl, _, rfl, _, _, rfl, rfl, ?_⟩
      refine ⟨_, rfl, _, rfl, (by show 2 ≤ sizeLine; decide), fun l2 hl2 => ?_⟩
      have hp2 := v5.ne hl2
      have nf2 : lf ≠ l2 := ne_of_none hf5 hl2
      have b5' := b5.at (o := .lst [V.int sm, V.int gr]) (b5.free (Ne.symm hp2) hl2)
      refine ⟨_, rfl, p, a, 2, rfl, hP.but b5' (v5.upd hp2), by decide, by decide, fun r6 H6 h60 h61 v6 e6 => ?_⟩
      have hl26 : H6 l2 = some (.lst [V.int sm, V.int gr]) := (e6 l2 (Ne.symm hp2)).trans upd_same
      have hf6 : H6 lf = some (.lst (intV zs)) := by rw [e6 lf (Ne.symm hpf), upd_ne nf2]; exact hf5
      have b6 := b5'.trans (But.of_eq e6)
      have smb : sm.natAbs ≤ 10 ^ 30 := by
        have e31 : (10 : Nat) ^ 30 = 1000000000000000000000000000000 := by decide
        rw [e31]; omega
      obtain ⟨ch, ech, hch⟩ : ∃ ch : Int, atI [V.int sm, V.int gr] r6 = some (.int ch) ∧ ch.natAbs ≤ 10 ^ 30 := by
        have hr : r6 = 0 ∨ r6 = 1 := by omega
        rcases hr with rfl | rfl
        · exact ⟨sm, rfl, smb⟩
        · exact ⟨gr, rfl, grb⟩
      refine .lst (.of hl26) ech ⟨(by show 6 ≤ sizeLine; decide), fun l3 hl3 => ?_⟩
      have nf3 : lf ≠ l3 := ne_of_none hf6 hl3
      have hp3 := v6.ne hl3
      obtain ⟨z, ez, hz⟩ : ∃ z : Int, atI [V.int sm, V.int (if sm < 0 then -sm else sm), V.int (sm % 3 - 1), V.int (-1 - (if sm < 0 then -sm else sm)), V.int ch, V.int 1] (mn : Int) = some (.int z) ∧ z.natAbs ≤ 10 ^ 30 := by
        have e31 : (10 : Nat) ^ 30 = 1000000000000000000000000000000 := by decide
        have hr : mn = 0 ∨ mn = 1 ∨ mn = 2 ∨ mn = 3 ∨ mn = 4 ∨ mn = 5 := by omega
        rcases hr with rfl | rfl | rfl | rfl | rfl | rfl
        · exact ⟨_, rfl, smb⟩
        · refine ⟨_, rfl, ?_⟩
          rw [e31]; split <;> omega
        · refine ⟨_, rfl, ?_⟩
          rw [e31]; omega
        · refine ⟨_, rfl, ?_⟩
          rw [e31]; split <;> omega
        · exact ⟨_, rfl, hch⟩
        · refine ⟨_, rfl, ?_⟩
          rw [e31]; decide
      refine ⟨_, rfl, .lst (.of upd_same) ez ⟨lf, _, _, rfl, rfl, (by rw [upd_ne nf3]; exact hf6), (by unfold intV; rw [List.length_map, hzl]; exact small1000 (by omega)), ?_⟩⟩
      refine ⟨_, _, _, zs ++ [z], rfl, ?_, by rw [List.length_append, hzl]; rfl, ?_, (v6.upd hp3).upd hpf, (b6.at (b6.free (Ne.symm hp3) hl3)).at hf0⟩
      · rw [upd_same]; unfold intV; rw [List.map_append]; rfl
      · intro y hy
        rcases List.mem_append.mp hy with g | g
        · exact hzs y g
        · rw [List.mem_singleton.mp g]; exact hz
    · rintro σ H2 ⟨o4, o5, o6, zs, rfl, hf2, hzl, hzs, v2, b2⟩
      have hzl : zs.length = n := by simpa using hzl
      exact ⟨_, rfl, k lf zs H2 hf2 hzl hzs (Ne.symm hpf) v2 b2⟩
end
end K25
namespace K25
open PySem L2
section
variable {P : Program} {w : World} {K : PySem.W.Frag} {mg : Str → Option Value} {base : Heap}
noncomputable def spLDep : Sp := fun vs H Q _ => ∃ (wl t : Addr) (zs : List Int) (refs : List V) (es : List (Nat × Nat)) (D : Nat → Int) (L : Nat → Nat), vs = [.ref wl, .ref t] ∧ H wl = some (.lst (intV zs)) ∧ H t = some (.lst refs) ∧ RepAll H refs (es.map tieD) ∧ (∀ e ∈ es, e.1 < zs.length ∧ e.2 < zs.length) ∧ zs.length ≤ 60 ∧ MG.IsD es (wOf zs) D ∧ MG.IsL es zs.length L ∧
  ∀ l H', Same H H' → H l = none → H' l = some (.lst (intV ((List.range zs.length).map D))) → Q (.ref l) H'
theorem scLDep : FnScope ["_law_weights_here", "_law_ties_here", "_law_found", "_law_turn", "_law_one", "_law_other"] ["_law_weights_here", "_law_ties_here"] (defScope sLDepths) := ⟨rfl, rfl, rfl, by decide +kernel, rfl, by decide +kernel, by decide +kernel⟩
theorem ixN_at {n j : Nat} (h : j < n) : ixN n (j : Int) = some j := by
  unfold ixN
  rw [if_pos (by omega), if_pos (by omega), Int.toNat_natCast]
theorem intD_at {F : List Int} {i : Nat} (h : i < F.length) : atI (intV F) (i : Int) = some (.int (F.getD i 0)) := atI_nat (by simp [intV, h, List.getD_eq_getElem?_getD])
theorem intV_set (F : List Int) (i : Nat) (x : Int) : (intV F).set i (V.int x) = intV (F.set i x) := by unfold intV; rw [List.map_set]
theorem zs_range (zs : List Int) : zs = (List.range zs.length).map (wOf zs) := by
  apply List.ext_getElem
  · rw [List.length_map, List.length_range]
  · intro i h1 h2
    rw [List.getElem_map, List.getElem_range]
    unfold wOf
    rw [List.getD_eq_getElem?_getD, List.getElem?_eq_getElem h1]; rfl
theorem ok_ldep {f : Addr} {fd : FuncData} (F : Fun K "_law_depths" "_law_depths" sLDepths f fd) (B : Blt mg) : FnOk P w K mg base CX0 1 f fd ["_law_weights_here", "_law_ties_here"] spLDep := by
  refine F.ok scLDep (fun vs H Q E h => ?_) (fun cdv A outer s H vs Q E hr h => ?_)
  · obtain ⟨wl, t, zs, refs, es, D, L, rfl, _⟩ := h
    rfl
  · obtain ⟨wl, t, zs, refs, es, D, L, rfl, hw, ht, rp, hev, hn, hD, hL, k⟩ := h
    have nd := scLDep.nd
    refine ⟨_, (pss_cons (ps_set (i := 2) nd rfl (Or.inl rfl) (b_list K rfl B (pa_cons (pv 0) pa_nil)))
      (pss_cons (ps_for PassesOwn.never rfl (pi_range1 rfl B.range (pa_cons (b_len K B (pa_cons (pv 0) pa_nil)) pa_nil)) (pg_name (i := 3) nd rfl (Or.inl rfl)) (pss_one (ps_for PassesOwn.never rfl (pi_listK K (pv 1)) (pg_tupK (n := 2) K rfl (pgs_cons (pg_name (i := 4) nd rfl (Or.inl rfl)) (pgs_cons (pg_name (i := 5) nd rfl (Or.inl rfl)) pgs_nil))) (pss_one (ps_asg (b_max rfl B (pa_cons (pe_ix (ix_X K hr.units) (pv 2) (pv 5) (fun _ _ => rfl)) (pa_cons (pe_op op_addX (pe_ix (ix_X K hr.units) (pv 2) (pv 4) (fun _ _ => rfl)) (pe_ix (ix_X K hr.units) (pv 0) (pv 5) (fun _ _ => rfl))) pa_nil))) (pg_sub (pv 2) (pv 5) (set_X hr.units)))))))
      (pss_one (ps_ret (pv 2))))), ?_⟩
    have rlen := rp.len
    rw [List.length_map] at rlen
    have il : (intV zs).length = zs.length := List.length_map ..
    refine ⟨_, rfl, _, rfl, .seq (.inl (.of hw)) fun l hl => ?_⟩
    have s1 := Same.new (o := .lst (intV zs)) hl
    have e1 : upd H l (.lst (intV zs)) l = some (.lst (intV ((List.range zs.length).map (wOf zs)))) := by rw [upd_same, ← zs_range]
    generalize upd H l (.lst (intV zs)) = H2 at s1 e1 ⊢
    refine ⟨_, rfl, _, _, rfl, SqA.len (K := K) (.inl (s1 _ _ hw)), _, rfl, by rw [il]; omega, by rw [il]; omega, ?_⟩
    rw [il]
    refine for_range (fun r σ H' => ∃ o3 o4 o5 F, σ = [some (.ref wl), some (.ref t), some (.ref l), o3, o4, o5] ∧ Same H H' ∧ H' l = some (.lst (intV F)) ∧ MG.LayD es zs.length (wOf zs) D L r 0 F)
      ⟨none, none, none, _, rfl, s1, e1, MG.LayD.start hD hL⟩ ?_ ?_
    · rintro r σ H3 hr ⟨o3, o4, o5, F, rfl, s3, e3, lay⟩
      refine ⟨_, rfl, t, rfl, ⟨_, .of (s3 _ _ ht)⟩, ?_⟩
      refine for_list (xs := refs) (fun j σ H' => ∃ o4 o5 F, σ = [some (.ref wl), some (.ref t), some (.ref l), some (.int (0 + (r : Nat))), o4, o5] ∧ Same H H' ∧ H' l = some (.lst (intV F)) ∧ MG.LayD es zs.length (wOf zs) D L r j F) ?_ ?_ ?_ ?_
      · exact ⟨o4, o5, F, rfl, s3, e3, lay⟩
      · rintro j σ H' hj ⟨o4, o5, F, rfl, sm, _⟩
        exact .of (sm _ _ ht)
      · rintro j x σ H4 hx ⟨o4, o5, F, rfl, s4, e4, lay⟩
        obtain ⟨d, hd, rd⟩ := (rp.same s4).get hx
        rw [List.getElem?_map] at hd
        obtain ⟨e, he, rfl⟩ : ∃ e, es[j]? = some e ∧ tieD e = d := by
          cases q : es[j]? with
          | none => rw [q] at hd; cases hd
          | some e => rw [q] at hd; exact ⟨e, rfl, Option.some.inj hd⟩
        obtain ⟨ta, rfl, hta⟩ := tie_at rd
        have hval := hev e (List.mem_of_getElem? he)
        have l1 : e.1 < F.length := by rw [lay.len]; exact hval.1
        have l2 : e.2 < F.length := by rw [lay.len]; exact hval.2
        have lay' := lay.step hD hev he
        refine ⟨ta, _, rfl, .of hta, rfl, _, _, rfl, _, _, rfl, rfl, ?_⟩
        refine ⟨_, rfl, _, rfl, .lst (.of e4) (intD_at l2) ⟨_, rfl, _, rfl, .lst (.of e4) (intD_at l1) ⟨_, rfl, _, rfl, .lst (.of (s4 _ _ hw)) (intD_at hval.2) (.int ⟨_, _, rfl, ?_⟩)⟩⟩⟩
        have em : (if F.getD e.1 0 + zs.getD e.2 0 > F.getD e.2 0 then F.getD e.1 0 + zs.getD e.2 0 else F.getD e.2 0) = max (F.getD e.2 0) (F.getD e.1 0 + wOf zs e.2) := by unfold wOf; split <;> omega
        try dsimp only
        rw [em]
        refine ⟨_, rfl, _, rfl, .lst (j := e.2) e4 (by unfold intV; rw [List.length_map]; exact ixN_at l2) ?_⟩
        rw [intV_set]
        exact ⟨_, _, _, rfl, same_at s4 hl, upd_same, lay'⟩
      · rintro σ H4 ⟨o4, o5, F, rfl, s4, e4, lay⟩
        rw [rlen] at lay
        exact ⟨_, _, _, F, rfl, s4, e4, lay.round hD hL⟩
    · rintro σ H4 ⟨o3, o4, o5, F, rfl, s4, e4, lay⟩
      rw [Int.toNat_natCast] at lay
      rw [lay.all hL hev] at e4
      exact ⟨_, rfl, k l H4 s4 hl e4⟩
end
end K25
namespace K25
open PySem L2
section
variable {P : Program} {w : World} {K : PySem.W.Frag} {mg : Str → Option Value} {base : Heap}
theorem nmA_inj {ss : List Str} (nd : ss.Nodup) {a b : Nat} (ha : a < ss.length) (hb : b < ss.length) (e : nmA ss a = nmA ss b) : a = b := by
  unfold nmA at e
  rw [List.getD_eq_getElem?_getD, List.getD_eq_getElem?_getD, List.getElem?_eq_getElem ha, List.getElem?_eq_getElem hb] at e
  exact (List.getElem_inj nd).mp e
theorem nmA_get {ss : List Str} {v : Nat} (h : v < ss.length) : ss[v]? = some (nmA ss v) := by
  unfold nmA
  rw [List.getD_eq_getElem?_getD, List.getElem?_eq_getElem h]; rfl
theorem chain_one {n : Nat} {es : List (Nat × Nat)} (ris : MG.Ris es) {xs : List Nat} (ch : Chain es xs) {i j x : Nat} (hi : xs[i]? = some x) (hj : xs[j]? = some x) : ¬ i < j := by
  obtain ⟨r, h1⟩ := ris
  have key : ∀ k y, xs[i + k]? = some y → r x + k ≤ r y := by
    intro k
    induction k with
    | zero => intro y hy; rw [Nat.add_zero, hi] at hy; cases hy; omega
    | succ k ih =>
      intro y hy
      have hk := (List.getElem?_eq_some_iff.mp hy).1
      have g : xs[i + k]? = some xs[i + k] := List.getElem?_eq_getElem (by omega)
      have a := ih _ g
      have b := h1 _ (ch (i + k) _ _ g hy)
      dsimp only at b
      omega
  intro hlt
  have := key (j - i) x (by rw [show i + (j - i) = j by omega]; exact hj)
  omega
theorem way_true {ss : List Str} {es : List (Nat × Nat)} (nd : ss.Nodup) (ris : MG.Ris es) {xs : List Nat} (ch : Chain es xs) (hx : ∀ x ∈ xs, x < ss.length) (hne : xs ≠ []) {a b : Nat} (h0 : xs[0]? = some a) (hb : xs.getLast? = some b) :
    wayB (es.map (nmP ss)) (nmA ss a) (nmA ss b) (xs.map (nmA ss)) = true := by
  have hp := List.length_pos_iff.mpr hne
  have hl : xs[xs.length - 1]? = some b := by rw [← hb, List.getLast?_eq_getElem?]
  have ha := hx a (List.mem_of_getElem? h0)
  have hbn := hx b (List.mem_of_getElem? hl)
  unfold wayB
  by_cases q : a = b
  · subst q
    rw [if_pos rfl]
    have e1 : ¬ 0 < xs.length - 1 := chain_one (n := 0) ris ch h0 hl
    have e2 : xs = [a] := by
      cases xs with
      | nil => exact absurd rfl hne
      | cons x r =>
        have hr : r = [] := List.length_eq_zero_iff.mp (by have : (x :: r).length = r.length + 1 := rfl; omega)
        subst hr
        cases h0; rfl
    rw [e2]; exact decide_eq_true rfl
  · have hnq : ¬ nmA ss a = nmA ss b := fun z => q (nmA_inj nd ha hbn z)
    rw [if_neg hnq]
    have h2 : 2 ≤ (xs.map (nmA ss)).length := by
      rw [List.length_map]
      refine Nat.lt_of_not_le fun z => q ?_
      have : xs.length - 1 = 0 := by omega
      rw [this, h0] at hl
      exact Option.some.inj hl
    rw [decide_eq_true h2, List.getElem?_map, h0, List.getLast?_map, hb, Bool.true_and]
    rw [show decide (Option.map (nmA ss) (some a) = some (nmA ss a)) = true from decide_eq_true rfl, show decide (Option.map (nmA ss) (some b) = some (nmA ss b)) = true from decide_eq_true rfl, Bool.true_and, Bool.true_and, List.all_eq_true]
    intro e he
    obtain ⟨i, hi, hie⟩ := List.mem_iff_getElem.mp he
    have g : (List.zip (xs.map (nmA ss)) ((xs.map (nmA ss)).drop 1))[i]? = some e := by rw [List.getElem?_eq_getElem hi, hie]
    rw [List.getElem?_zip_eq_some, List.getElem?_drop, List.getElem?_map, List.getElem?_map] at g
    obtain ⟨g1, g2⟩ := g
    cases c1 : xs[i]? with
    | none => rw [c1] at g1; cases g1
    | some u =>
      cases c2 : xs[1 + i]? with
      | none => rw [c2] at g2; cases g2
      | some v =>
        rw [c1] at g1; rw [c2] at g2
        have e1 : nmA ss u = e.1 := Option.some.inj g1
        have e2 : nmA ss v = e.2 := Option.some.inj g2
        have := ch i u v c1 (by rw [Nat.add_comm]; exact c2)
        refine decide_eq_true (List.mem_map.mpr ⟨(u, v), this, ?_⟩)
        unfold nmP
        exact Prod.ext e1 e2
theorem sum_int {zs : List Int} : ∀ xs : List Nat, (xs.map (wOf zs)).sum = sumI (wOf zs) xs
  | [] => rfl
  | x :: xs => by rw [List.map_cons, List.sum_cons, sum_int xs]; rfl
end
end K25
namespace K25
open PySem L2
section
variable {P : Program} {w : World} {K : PySem.W.Frag} {mg : Str → Option Value} {base : Heap}
theorem isL_keep {H H' : Hp} {x : V} (h : Thg H x) (s : Same H H') : isL H' x = isL H x ∧ isT H' x = isT H x := by
  cases h with
  | non => exact ⟨rfl, rfl⟩
  | bl b => exact ⟨rfl, rfl⟩
  | int i => exact ⟨rfl, rfl⟩
  | str z => exact ⟨rfl, rfl⟩
  | lst e => exact ⟨by rw [isL_of e, isL_of (s _ _ e)], by rw [isT_not e (fun _ z => by cases z), isT_not (s _ _ e) (fun _ z => by cases z)]⟩
  | tup e => exact ⟨by rw [isL_not e (fun _ z => by cases z), isL_not (s _ _ e) (fun _ z => by cases z)], by rw [isT_of e, isT_of (s _ _ e)]⟩
  | dK e => exact ⟨by rw [isL_not e (fun _ z => by cases z), isL_not (s _ _ e) (fun _ z => by cases z)], by rw [isT_not e (fun _ z => by cases z), isT_not (s _ _ e) (fun _ z => by cases z)]⟩
  | dT e => exact ⟨by rw [isL_not e (fun _ z => by cases z), isL_not (s _ _ e) (fun _ z => by cases z)], by rw [isT_not e (fun _ z => by cases z), isT_not (s _ _ e) (fun _ z => by cases z)]⟩
noncomputable def wh (x : V) : Bool := isI x && !isB x
noncomputable def spWholeX : Sp := fun vs H Q _ => ∃ x, vs = [x] ∧ Thg H x ∧ Q (.bl (wh x)) H
theorem ok_wholeX {f : Addr} {fd : FuncData} (F : Fun K "is_whole" "is_whole" sIsWhole f fd) (B : Blt mg) : FnOk P w K mg base CX0 1 f fd ["thing"] spWholeX := by
  refine F.ok scWhole (fun vs H Q E h => ?_) (fun cdv A outer s H vs Q E hr h => ?_)
  · obtain ⟨x, rfl, _⟩ := h
    rfl
  · obtain ⟨x, rfl, hx, k⟩ := h
    have nd := scWhole.nd
    obtain ⟨t, ty, _, t2, t3, _⟩ := ty_thg (K := K) hx
    refine ⟨_, (pss_one (ps_ret (pe_and (b_isi K "int" B (pa_cons (pv 0) (pa_cons (g_int B) pa_nil))) (pe_one (pe_not (b_isi K "bool" B (pa_cons (pv 0) (pa_cons (g_bool B) pa_nil)))))))), ?_⟩
    refine ⟨_, rfl, _, t, _, rfl, ty, t2, _, rfl, ?_⟩
    unfold wh at k
    refine ite2 (fun h => ?_) (fun h => ?_)
    · rw [h] at k
      exact ⟨_, rfl, _, t, _, rfl, ty, t3, _, rfl, k⟩
    · have h : isI x = false := by simpa using h
      rw [h] at k
      exact k
end
end K25
namespace K25
open PySem L2
section
variable {P : Program} {w : World} {K : PySem.W.Frag} {mg : Str → Option Value} {base : Heap}
noncomputable def numsD (xs : List Nat) : PyData := .list (xs.map fun x : Nat => PyData.int (x : Int))
theorem repAll_nat {H : Hp} : ∀ xs : List Nat, RepAll H (natV xs) (xs.map fun x : Nat => PyData.int (x : Int))
  | [] => .nil
  | x :: xs => .cons (.int _) (repAll_nat xs)
theorem nums_rep {H : Hp} {a : Addr} {xs : List Nat} (h : H a = some (.lst (natV xs))) : Rep H (.ref a) (numsD xs) := .lst h (repAll_nat xs)
theorem shp_nums (xs : List Nat) : shp (numsD xs) := by
  have a : ∀ xs : List Nat, PyData.canLayAll0 (xs.map fun x : Nat => PyData.int (x : Int)) = true ∧ PyData.depthAll (xs.map fun x : Nat => PyData.int (x : Int)) = 0 := by
    intro xs
    induction xs with
    | nil => exact ⟨rfl, rfl⟩
    | cons x xs ih =>
      refine ⟨?_, ?_⟩
      · show (PyData.canLay0 (.int (x : Int)) && PyData.canLayAll0 (xs.map fun x : Nat => PyData.int (x : Int))) = true
        rw [ih.1]; rfl
      · show max (PyData.depth (.int (x : Int))) (PyData.depthAll (xs.map fun x : Nat => PyData.int (x : Int))) = 0
        rw [ih.2]; rfl
  show (PyData.canLayAll0 (xs.map fun x : Nat => PyData.int (x : Int)) && decide (PyData.depthAll (xs.map fun x : Nat => PyData.int (x : Int)) + 1 ≤ 64)) = true
  rw [(a xs).1, (a xs).2]; rfl
theorem eqv_nil_nums (xs : List Nat) : PyData.eqv (numsD xs) (.list []) = decide (xs = []) := by
  cases xs with
  | nil => rfl
  | cons x xs => rfl
end
end K25
namespace K25
open PySem L2
section
variable {P : Program} {w : World} {K : PySem.W.Frag} {mg : Str → Option Value} {base : Heap}
open Classical in
noncomputable def dec (P : Prop) : Bool := decide P
open Classical in
theorem dec_t {P : Prop} (h : P) : dec P = true := by unfold dec; exact decide_eq_true h
open Classical in
theorem dec_f {P : Prop} (h : ¬ P) : dec P = false := by unfold dec; exact decide_eq_false h
open Classical in
theorem dec_iff {P : Prop} : dec P = true ↔ P := by unfold dec; exact decide_eq_true_iff
theorem isL_get {H : Hp} {x : V} (h : isL H x = true) : ∃ a us, x = .ref a ∧ H a = some (.lst us) := by
  cases x with
  | ref a =>
    have h : (match H a with | some (.lst _) => true | _ => false) = true := h
    split at h
    · rename_i xs e; exact ⟨a, xs, rfl, e⟩
    · cases h
  | _ => cases h
theorem isT_get {H : Hp} {x : V} (h : isT H x = true) : ∃ a us, x = .ref a ∧ H a = some (.tup us) := by
  cases x with
  | ref a =>
    have h : (match H a with | some (.tup _) => true | _ => false) = true := h
    split at h
    · rename_i xs e; exact ⟨a, xs, rfl, e⟩
    · cases h
  | _ => cases h
theorem wh_get {x : V} (h : wh x = true) : ∃ i, x = .int i := by
  cases x with
  | int i => exact ⟨i, rfl⟩
  | bl b => cases h
  | _ => cases h
noncomputable def ThgL (H : Hp) (x : V) : Prop := Thg H x ∧ ∀ a xs, x = .ref a → H a = some (.lst xs) → xs.length ≤ 1000 ∧ ∀ v ∈ xs, Thg H v
theorem names_num {ss : List Str} : ∀ {ys : List V}, ys.all (inSS ss) = true → ∃ xs : List Nat, ys = List.map V.str (xs.map (nmA ss)) ∧ ∀ v ∈ xs, v < ss.length
  | [], _ => ⟨[], rfl, fun _ h => by cases h⟩
  | y :: ys, h => by
    rw [List.all_cons, Bool.and_eq_true] at h
    obtain ⟨xs, e, hx⟩ := names_num h.2
    cases y with
    | str s =>
      have hs : s ∈ ss := of_decide_eq_true h.1
      refine ⟨ss.idxOf s :: xs, ?_, fun v hv => ?_⟩
      · rw [e, List.map_cons, List.map_cons]
        rw [show nmA ss (ss.idxOf s) = s from getDIdx hs]
      · rcases List.mem_cons.mp hv with rfl | hv
        · exact List.idxOf_lt_length_of_mem hs
        · exact hx v hv
    | _ => cases h.1
theorem nums_inj {ss : List Str} (nd : ss.Nodup) : ∀ {xs ys : List Nat}, (∀ v ∈ xs, v < ss.length) → (∀ v ∈ ys, v < ss.length) → List.map V.str (xs.map (nmA ss)) = List.map V.str (ys.map (nmA ss)) → xs = ys
  | [], [], _, _, _ => rfl
  | [], _ :: _, _, _, h => by cases h
  | _ :: _, [], _, _, h => by cases h
  | x :: xs, y :: ys, hx, hy, h => by
    obtain ⟨h1, h2⟩ := List.cons.inj h
    rw [nmA_inj nd (hx x (by simp)) (hy y (by simp)) (V.str.inj h1), nums_inj nd (fun v hv => hx v (List.mem_cons_of_mem _ hv)) (fun v hv => hy v (List.mem_cons_of_mem _ hv)) h2]
theorem way_chain {ss : List Str} {es : List (Nat × Nat)} (nd : ss.Nodup) (val : ∀ e ∈ es, e.1 < ss.length ∧ e.2 < ss.length) {xs : List Nat} (hx : ∀ x ∈ xs, x < ss.length) {a b : Str} (h : wayB (es.map (nmP ss)) a b (xs.map (nmA ss)) = true) : Chain es xs := by
  unfold wayB at h
  split at h
  · have h := of_decide_eq_true h
    have hl := congrArg List.length h
    rw [List.length_map] at hl
    intro i u v hu hv
    have := (List.getElem?_eq_some_iff.mp hv).1
    have : xs.length = 1 := hl
    omega
  · rw [Bool.and_eq_true, Bool.and_eq_true, Bool.and_eq_true] at h
    have hall := List.all_eq_true.mp h.2.2.2
    intro i u v hu hv
    have mem : (nmA ss u, nmA ss v) ∈ (xs.map (nmA ss)).zip ((xs.map (nmA ss)).drop 1) := by
      refine List.mem_of_getElem? (i := i) ?_
      rw [List.getElem?_zip_eq_some, List.getElem?_drop, List.getElem?_map, List.getElem?_map, hu, Nat.add_comm, hv]
      exact ⟨rfl, rfl⟩
    obtain ⟨e, he, ee⟩ := List.mem_map.mp (of_decide_eq_true (hall _ mem))
    have h1 : nmA ss e.1 = nmA ss u := congrArg Prod.fst ee
    have h2 : nmA ss e.2 = nmA ss v := congrArg Prod.snd ee
    obtain ⟨v1, v2⟩ := val e he
    rw [← nmA_inj nd v1 (hx u (List.mem_of_getElem? hu)) h1, ← nmA_inj nd v2 (hx v (List.mem_of_getElem? hv)) h2]
    exact he
noncomputable def WayOk (H : Hp) (ss : List Str) (es : List (Nat × Nat)) (zs : List Int) (x : V) (M : Int) : Prop := ∃ (l : Addr) (xs : List Nat), x = .ref l ∧ H l = some (.lst (List.map V.str (xs.map (nmA ss)))) ∧ xs ≠ [] ∧ (∀ v ∈ xs, v < ss.length) ∧ Chain es xs ∧ sumI (wOf zs) xs = M
noncomputable def spWayG : Sp := fun vs H Q _ => ∃ (q : V) (d : Addr) (x : V) (ss : List Str) (es : List (Nat × Nat)) (zs : List Int) (M : Int), vs = [q, .ref d, x, .int M] ∧ Web H q ss (es.map (nmP ss)) ∧ ValE ss es ∧ MG.Ris es ∧ H d = some (.dK (zipK ss (intV zs))) ∧ zs.length = ss.length ∧ ThgL H x ∧ ∀ H', Same H H' → Q (.bl (dec (WayOk H ss es zs x M))) H'
theorem scWayW : FnScope ["web", "weighed", "things", "weight"] ["web", "weighed", "things", "weight"] (defScope sWayW) := ⟨rfl, rfl, rfl, by decide +kernel, rfl, by decide +kernel, by decide +kernel⟩
theorem ok_wayG {f : Addr} {fd : FuncData} (F : Fun K "way_weighs" "way_weighs" sWayW f fd) (B : Blt mg) (Zs : mg "sum" = none) (clists_things : Cal P w K mg base 2 "lists_things" ["web", "thing"] spLists) (cis_way : Cal P w K mg base 2 "is_way" ["web", "one", "other", "things"] spIsWay) : FnOk P w K mg base CX0 3 f fd ["web", "weighed", "things", "weight"] spWayG := by
  refine F.ok scWayW (fun vs H Q E h => ?_) (fun cdv A outer s H vs Q E hr h => ?_)
  · obtain ⟨q, d, x, ss, es, zs, M, rfl, _⟩ := h
    rfl
  · obtain ⟨q, d, x, ss, es, zs, M, rfl, W, val, ris, hd, hzl, tx, k⟩ := h
    have nd := scWayW.nd
    have h60 := W.len
    have no : ¬ WayOk H ss es zs x M → ∀ H', Same H H' → Q (.bl false) H' := fun h => by rw [dec_f h] at k; exact k
    refine ⟨_, (pss_cons (ps_if (PW.pt (pw_or (pt_not (pt_val (pe_cal clists_things (hr.mono (by decide)) rfl (pa_cons (pv 0) (pa_cons (pv 2) pa_nil))))) (pw_or1 (pt_cmpR (op_eqX hr.units) (b_len K B (pa_cons (pv 2) pa_nil)) pe_int (nomark _))))) (pss_one (ps_ret pe_bl)) pss_nil)
      (pss_cons (ps_if (pt_not (pt_val (pe_cal cis_way (hr.mono (by decide)) rfl (pa_cons (pv 0) (pa_cons (pe_ix (ix_X K hr.units) (pv 2) pe_int (fun _ _ => rfl)) (pa_cons (pe_ix (ix_X K hr.units) (pv 2) (pe_un un_neg pe_int) (fun _ _ => rfl)) (pa_cons (pv 2) pa_nil))))))) (pss_one (ps_ret pe_bl)) pss_nil)
      (pss_one (ps_ret (pe_cmpR (op_eqX hr.units) (b_sumL K rfl Zs (pa_cons (pe_comp (defScope sWayW) ["web", "weighed", "things", "weight"] ["thing"] [1] ["thing", "weighed"] rfl (pi_listK K (pv 2)) (fun _ _ _ _ _ => (pg_name (i := 0) (show (["thing", "weighed"] : List Str).Nodup by decide) rfl (Or.inl rfl))) (fun _ _ _ _ _ => pts_nil) (fun _ _ _ _ _ => (pe_ix (ix_X K hr.units) (pv 1) (pv 0) (fun _ _ => rfl)))) pa_nil)) (pv 3) (nomark _)))))), ?_⟩
    refine ⟨_, rfl, _, rfl, q, ss, _, x, rfl, W, tx.1, tx.2, fun H1 s1 => ⟨_, rfl, ite2 (fun h => ?_) (fun h => ?_)⟩⟩
    · have h : lstB H ss x = false := by simpa using h
      refine no (fun z => ?_) _ s1
      obtain ⟨l, xs, rfl, hl, _, hx, _⟩ := z
      rw [lstB_lst hl, inSS_all fun w hw => by
        obtain ⟨v, hv, rfl⟩ := List.mem_map.mp hw
        exact mem_getD (hx v hv)] at h
      cases h
    have h : lstB H ss x = true := by simpa using h
    have hL : isL H x = true := by
      cases c : isL H x with
      | true => rfl
      | false => rw [lstB_not c] at h; cases h
    obtain ⟨l, ys, rfl, hl⟩ := isL_get hL
    rw [lstB_lst hl] at h
    obtain ⟨xs, rfl, hx⟩ := names_num h
    have xlen : xs.length ≤ 1000 := by have := (tx.2 l _ rfl hl).1; rw [List.length_map, List.length_map] at this; exact this
    have uniq : WayOk H ss es zs (.ref l) M → xs ≠ [] ∧ Chain es xs ∧ sumI (wOf zs) xs = M := by
      rintro ⟨l', xs', e, hl', h1, h2, h3, h4⟩
      cases e
      rw [hl] at hl'
      have := nums_inj W.nd hx h2 (HO.lst.inj (Option.some.inj hl'))
      subst this
      exact ⟨h1, h3, h4⟩
    have l1 := s1 _ _ hl
    have W1 := W.same s1
    refine ⟨_, rfl, _, _, rfl, Or.inl ⟨_, .of l1, rfl⟩, .sc rfl ⟨_, rfl, ite2 (fun h0 => ?_) (fun h0 => ?_)⟩⟩
    · have h0 := V.int.inj (of_decide_eq_true h0)
      rw [List.length_map, List.length_map] at h0
      exact no (fun z => (uniq z).1 (List.length_eq_zero_iff.mp (by omega))) _ s1
    have hne : xs ≠ [] := fun z => h0 (decide_eq_true (by rw [z]; rfl))
    have hp := List.length_pos_iff.mpr hne
    have inn : ∀ w ∈ xs.map (nmA ss), w ∈ ss := fun w hw => by
      obtain ⟨x, hx', rfl⟩ := List.mem_map.mp hw
      exact mem_getD (hx x hx')
    obtain ⟨a0, ha0⟩ : ∃ a0, xs[0]? = some a0 := ⟨xs[0], List.getElem?_eq_getElem hp⟩
    obtain ⟨b0, hb0⟩ : ∃ b0, xs.getLast? = some b0 := ⟨xs.getLast hne, List.getLast?_eq_some_getLast hne⟩
    have ini : xs = xs.dropLast ++ [b0] := by
      have e := List.dropLast_concat_getLast hne
      rw [List.getLast?_eq_some_getLast hne] at hb0
      cases hb0
      exact e.symm
    have at0 : atI (List.map V.str (xs.map (nmA ss))) 0 = some (.str (nmA ss a0)) := atI_nat (j := 0) (by rw [List.getElem?_map, List.getElem?_map, ha0]; rfl)
    have atL : atI (List.map V.str (xs.map (nmA ss))) (-1) = some (.str (nmA ss b0)) := by
      rw [ini, List.map_append, List.map_append]; exact atI_last _ _
    have ha0n := hx a0 (List.mem_of_getElem? ha0)
    refine ⟨_, rfl, _, rfl, .lst (.of l1) at0 ⟨_, rfl, _, rfl, .lst (.of l1) atL ⟨_, rfl, q, ss, _, _, _, l, _, rfl, W1, W.nm _ (mem_getD ha0n), l1, inn, by rw [List.length_map]; omega, fun H2 s2 => ⟨_, rfl, ite2 (fun hw => ?_) (fun hw => ?_)⟩⟩⟩⟩
    · refine no (fun z => ?_) _ (s1.trans s2)
      rw [way_true W.nd ris (uniq z).2.1 hx hne ha0 hb0] at hw
      cases hw
    have ch : Chain es xs := way_chain W.nd val hx (by simpa using hw)
    have s12 := s1.trans s2
    have l2 := s12 _ _ hl
    have d2 := s12 _ _ hd
    refine ⟨_, rfl, l, rfl, ⟨_, .of l2⟩, ?_⟩
    refine comp_list (List.map V.str (xs.map (nmA ss))) (fun D i acc σ' H' => ∃ o, σ' = [o, some (.ref d)] ∧ acc = List.map V.int ((xs.take i).map (wOf zs)) ∧ Same H2 H' ∧ H2 D = none) fun D hD => ⟨?_, ?_, ?_, ?_⟩
    · exact ⟨none, rfl, rfl, Same.new hD, hD⟩
    · rintro i acc σ' H' _ ⟨o, rfl, _, sm, _⟩ _
      exact .of (sm _ _ l2)
    · rintro i acc σ' H' x hxi ⟨o, rfl, rfl, sm, hD0⟩ hacc
      rw [List.getElem?_map, List.getElem?_map] at hxi
      obtain ⟨u, hu, rfl⟩ : ∃ u, xs[i]? = some u ∧ V.str (nmA ss u) = x := by
        cases c : xs[i]? with
        | none => rw [c] at hxi; cases hxi
        | some e => rw [c] at hxi; exact ⟨e, rfl, Option.some.inj hxi⟩
      have hil := (List.getElem?_eq_some_iff.mp hu).1
      have hun := hx u (List.mem_of_getElem? hu)
      refine gYes ?_
      refine ⟨_, rfl, _, rfl, .dic (.inl ⟨_, .inr (nmA ss u), .inl (sm _ _ d2), rfl, (valV_zip W.nd (nmA_get hun) (wOf_get (by omega))).symm⟩) ⟨hacc, ?_, _, rfl, ?_, same_at sm hD0, hD0⟩⟩
      · rw [List.length_map, List.length_map, List.length_take]; exact small1000 (by omega)
      · rw [List.take_add_one, hu, List.map_append, List.map_append]; rfl
    · rintro acc σ' H3 ⟨o, rfl, rfl, s3, hD0⟩ hacc
      rw [List.length_map, List.length_map, List.take_of_length_le (Nat.le_refl _)] at hacc
      refine ⟨D, _, rfl, .of hacc, ?_⟩
      rw [sum_int]
      refine ⟨_, rfl, .sc rfl ?_⟩
      have e : decide (V.int (sumI (wOf zs) xs) = V.int M) = dec (WayOk H ss es zs (.ref l) M) := by
        rw [Bool.eq_iff_iff, decide_eq_true_iff, dec_iff]
        constructor
        · intro z
          exact ⟨l, xs, rfl, hl, hne, hx, ch, V.int.inj z⟩
        · intro z
          rw [(uniq z).2.2]
      show Q (.bl (decide (V.int (sumI (wOf zs) xs) = V.int M))) _
      rw [e]
      exact k _ (s12.trans s3)
end
end K25
namespace K25
open PySem L2
section
variable {P : Program} {w : World} {K : PySem.W.Frag} {mg : Str → Option Value} {base : Heap}
theorem wh_ints : ∀ {ys : List V}, ys.all wh = true → ∃ bs : List Int, ys = intV bs
  | [], _ => ⟨[], rfl⟩
  | y :: ys, h => by
    rw [List.all_cons, Bool.and_eq_true] at h
    obtain ⟨bs, rfl⟩ := wh_ints h.2
    obtain ⟨i, rfl⟩ := wh_get h.1
    exact ⟨i :: bs, rfl⟩
theorem intV_inj : ∀ {xs ys : List Int}, intV xs = intV ys → xs = ys
  | [], [], _ => rfl
  | [], _ :: _, h => by cases h
  | _ :: _, [], h => by cases h
  | x :: xs, y :: ys, h => by
    obtain ⟨h1, h2⟩ := List.cons.inj h
    rw [V.int.inj h1, intV_inj h2]
theorem intV_wh : ∀ bs : List Int, (intV bs).all wh = true
  | [] => rfl
  | _ :: bs => intV_wh bs
theorem intV_len (bs : List Int) : (intV bs).length = bs.length := by unfold intV; rw [List.length_map]
noncomputable def spWholesG : Sp := fun vs H Q _ => ∃ (q : V) (a : Addr) (ss : List Str) (ts : List (Str × Str)) (ys : List V), vs = [q, .ref a] ∧ Web H q ss ts ∧ H a = some (.lst ys) ∧ (∀ y ∈ ys, Thg H y) ∧ ys.length ≤ 1000 ∧ ∀ H', Same H H' → Q (.bl (decide (ys.length = ss.length) && ys.all wh)) H'
theorem ok_wholesG {f : Addr} {fd : FuncData} (F : Fun K "are_wholes" "are_wholes" sWholes f fd) (B : Blt mg) (cis_whole : Cal P w K mg base 1 "is_whole" ["thing"] spWholeX) : FnOk P w K mg base CX0 2 f fd ["web", "numbers"] spWholesG := by
  refine F.ok scWholes (fun vs H Q E h => ?_) (fun cdv A outer s H vs Q E hr h => ?_)
  · obtain ⟨q, a, ss, ts, zs, rfl, _⟩ := h
    rfl
  · obtain ⟨q, n, ss, ts, ys, rfl, W, hn, hth, h1000, k⟩ := h
    have nd := scWholes.nd
    have h60 := W.len
    obtain ⟨q, a, b, rfl, hq, ha⟩ := Web.at W
    refine ⟨_, (pss_one (ps_ret (pe_and (pe_cmpR (op_eqX hr.units) (b_len K B (pa_cons (pv 1) pa_nil)) (b_len K B (pa_cons (pe_ix (ix_X K hr.units) (pv 0) pe_int (fun _ _ => rfl)) pa_nil)) (nomark _)) (pe_one (b_all rfl B (pa_cons (pe_comp (defScope sWholes) ["web", "numbers"] ["number"] [] ["number"] rfl (pi_listK K (pv 1)) (fun _ _ _ _ _ => (pg_name (i := 0) (show (["number"] : List Str).Nodup by decide) rfl (Or.inl rfl))) (fun _ _ _ _ _ => pts_nil) (fun _ _ _ _ _ => (pe_cal cis_whole (hr.mono (by decide)) rfl (pa_cons (pv 0) pa_nil)))) pa_nil)))))), ?_⟩
    refine ⟨_, rfl, _, _, rfl, (SqA.len (K := K) (H := H) (a := n) (.inl hn)), _, rfl, .tup (.of hq) rfl ⟨_, _, rfl, (SqA.len (K := K) (H := H) (a := a) (.inr ha)), .sc rfl ⟨_, rfl, ite2 (fun hlen => ?_) (fun h => ?_)⟩⟩⟩
    · have hlen : ys.length = ss.length := by
        have := V.int.inj (of_decide_eq_true hlen)
        rw [List.length_map] at this
        omega
      rw [decide_eq_true hlen, Bool.true_and] at k
      refine ⟨_, rfl, n, rfl, ⟨_, .of hn⟩, ?_⟩
      refine comp_list ys (fun D i acc σ' H' => ∃ o, σ' = [o] ∧ acc = List.map V.bl ((ys.take i).map wh) ∧ Same H H' ∧ H D = none) fun D hD => ⟨?_, ?_, ?_, ?_⟩
      · exact ⟨none, rfl, rfl, Same.new hD, hD⟩
      · rintro i acc σ' H' _ ⟨o, rfl, _, sm, _⟩ _
        exact .of (sm _ _ hn)
      · rintro i acc σ' H' x hx ⟨o, rfl, rfl, sm, hD0⟩ hacc
        have hil := (List.getElem?_eq_some_iff.mp hx).1
        refine gYes ?_
        refine ⟨_, rfl, x, rfl, (hth x (List.mem_of_getElem? hx)).same sm, hacc, ?_, _, rfl, ?_, same_at sm hD0, hD0⟩
        · rw [List.length_map, List.length_map, List.length_take]; exact small1000 (by omega)
        · rw [List.take_add_one, hx, List.map_append, List.map_append]; rfl
      · rintro acc σ' H2 ⟨o, rfl, rfl, s2, hD0⟩ hacc
        rw [List.take_of_length_le (Nat.le_refl _)] at hacc
        refine ⟨D, _, rfl, hacc, ?_⟩
        have e : (ys.map wh).all id = ys.all wh := by
          rw [List.all_map]; rfl
        rw [e]
        exact k H2 s2
    · have hlen : ¬ ys.length = ss.length := fun z => h (decide_eq_true (by rw [z, List.length_map]))
      rw [decide_eq_false hlen, Bool.false_and] at k
      exact k H (Same.refl H)
noncomputable def BndOk (H : Hp) (ss : List Str) (es : List (Nat × Nat)) (zs : List Int) (x : V) (M : Int) : Prop := ∃ (l : Addr) (bs : List Int), x = .ref l ∧ H l = some (.lst (intV bs)) ∧ bs.length = ss.length ∧ (∀ u, u < ss.length → wOf zs u ≤ wOf bs u ∧ wOf bs u ≤ M) ∧ ∀ e ∈ es, wOf bs e.1 + wOf zs e.2 ≤ wOf bs e.2
noncomputable def spBndG : Sp := fun vs H Q _ => ∃ (q : V) (d : Addr) (x : V) (ss : List Str) (es : List (Nat × Nat)) (zs : List Int) (M : Int), vs = [q, .ref d, x, .int M] ∧ Web H q ss (es.map (nmP ss)) ∧ ValE ss es ∧ H d = some (.dK (zipK ss (intV zs))) ∧ zs.length = ss.length ∧ ThgL H x ∧ ∀ H', Same H H' → Q (.bl (dec (BndOk H ss es zs x M))) H'
theorem scBounds : FnScope ["web", "weighed", "bounds", "most", "bound"] ["web", "weighed", "bounds", "most"] (defScope sBounds) := ⟨rfl, rfl, rfl, by decide +kernel, rfl, by decide +kernel, by decide +kernel⟩
theorem all_range {n : Nat} {g : Nat → Bool} : (((List.range n).map g).all id = true) ↔ ∀ u, u < n → g u = true := by
  rw [List.all_map, List.all_eq_true]
  exact ⟨fun h u hu => h u (List.mem_range.mpr hu), fun h u hu => h u (List.mem_range.mp hu)⟩
theorem ok_bndG {f : Addr} {fd : FuncData} (F : Fun K "are_bounds" "are_bounds" sBounds f fd) (B : Blt mg) (Zz : mg "zip" = none) (care_wholes : Cal P w K mg base 2 "are_wholes" ["web", "numbers"] spWholesG) : FnOk P w K mg base CX0 3 f fd ["web", "weighed", "bounds", "most"] spBndG := by
  refine F.ok scBounds (fun vs H Q E h => ?_) (fun cdv A outer s H vs Q E hr h => ?_)
  · obtain ⟨q, d, x, ss, es, zs, M, rfl, _⟩ := h
    rfl
  · obtain ⟨q, d, x, ss, es, zs, M, rfl, W, val, hd, hzl, tx, k⟩ := h
    have nd := scBounds.nd
    have h60 := W.len
    have no : ¬ BndOk H ss es zs x M → ∀ H', Same H H' → Q (.bl false) H' := fun h => by rw [dec_f h] at k; exact k
    refine ⟨_, (pss_cons (ps_if (PW.pt (pw_or (pt_not (pt_val (b_isi K "list" B (pa_cons (pv 2) (pa_cons (g_list B) pa_nil))))) (pw_or1 (pt_not (pt_val (pe_cal care_wholes (hr.mono (by decide)) rfl (pa_cons (pv 0) (pa_cons (pv 2) pa_nil)))))))) (pss_one (ps_ret pe_bl)) pss_nil)
      (pss_cons (ps_set (i := 4) nd rfl (Or.inr rfl) (pe_dzip K rfl hr.units B Zz (pa_cons (pe_ix (ix_X K hr.units) (pv 0) pe_int (fun _ _ => rfl)) (pa_cons (pv 2) pa_nil))))
      (pss_cons (ps_if (pt_not (pt_val (b_all rfl B (pa_cons (pe_comp (defScope sBounds) ["web", "weighed", "bounds", "most", "bound"] ["thing"] [3, 1, 4] ["thing", "most", "weighed", "bound"] rfl (pi_tupK K (pe_ix (ix_X K hr.units) (pv 0) pe_int (fun _ _ => rfl))) (fun _ _ _ _ _ => (pg_name (i := 0) (show (["thing", "most", "weighed", "bound"] : List Str).Nodup by decide) rfl (Or.inl rfl))) (fun _ _ _ _ _ => pts_nil) (fun _ _ _ _ _ => (pe_chain op_leX op_leX (pe_ix (ix_X K hr.units) (pv 2) (pv 0) (fun _ _ => rfl)) (pe_ix (ix_X K hr.units) (pv 3) (pv 0) (fun _ _ => rfl)) (pv 1)))) pa_nil)))) (pss_one (ps_ret pe_bl)) pss_nil)
      (pss_one (ps_ret (b_all rfl B (pa_cons (pe_comp (defScope sBounds) ["web", "weighed", "bounds", "most", "bound"] ["tie"] [4, 1] ["tie", "bound", "weighed"] rfl (pi_tupK K (pe_ix (ix_X K hr.units) (pv 0) pe_int (fun _ _ => rfl))) (fun _ _ _ _ _ => (pg_name (i := 0) (show (["tie", "bound", "weighed"] : List Str).Nodup by decide) rfl (Or.inl rfl))) (fun _ _ _ _ _ => pts_nil) (fun _ _ _ _ _ => (pe_cmpR op_leX (pe_op op_addX (pe_ix (ix_X K hr.units) (pv 1) (pe_ix (ix_X K hr.units) (pv 0) pe_int (fun _ _ => rfl)) (fun _ _ => rfl)) (pe_ix (ix_X K hr.units) (pv 2) (pe_ix (ix_X K hr.units) (pv 0) pe_int (fun _ _ => rfl)) (fun _ _ => rfl))) (pe_ix (ix_X K hr.units) (pv 1) (pe_ix (ix_X K hr.units) (pv 0) pe_int (fun _ _ => rfl)) (fun _ _ => rfl)) (nomark _)))) pa_nil))))))), ?_⟩
    obtain ⟨t, ty, _, _, _, t4, _⟩ := ty_thg (K := K) tx.1
    refine ⟨_, rfl, _, t, _, rfl, ty, t4, _, rfl, ite2 (fun hL => ?_) (fun hL => ?_)⟩
    · have hL : isL H x = false := by simpa using hL
      refine no (fun z => ?_) _ (Same.refl H)
      obtain ⟨l, bs, rfl, hl, _⟩ := z
      rw [isL_of hl] at hL
      cases hL
    have hL : isL H x = true := by simpa using hL
    obtain ⟨lb, ys, rfl, hb⟩ := isL_get hL
    obtain ⟨y1000, yth⟩ := tx.2 lb ys rfl hb
    refine ⟨_, rfl, _, rfl, q, lb, ss, _, ys, rfl, W, hb, yth, y1000, fun H1 s1 => ⟨_, rfl, ite2 (fun h => ?_) (fun h => ?_)⟩⟩
    · refine no (fun z => ?_) _ s1
      obtain ⟨l, bs, e, hl, hlen, _⟩ := z
      cases e
      rw [hb] at hl
      have := HO.lst.inj (Option.some.inj hl)
      subst this
      rw [intV_len, decide_eq_true hlen, intV_wh] at h
      cases h
    have h : (decide (ys.length = ss.length) && ys.all wh) = true := by simpa using h
    rw [Bool.and_eq_true, decide_eq_true_iff] at h
    obtain ⟨bl, hw⟩ := h
    obtain ⟨bs, rfl⟩ := wh_ints hw
    rw [intV_len] at bl
    have uniq : BndOk H ss es zs (.ref lb) M → (∀ u, u < ss.length → wOf zs u ≤ wOf bs u ∧ wOf bs u ≤ M) ∧ ∀ e ∈ es, wOf bs e.1 + wOf zs e.2 ≤ wOf bs e.2 := by
      rintro ⟨l', bs', e, hl', h1, h2, h3⟩
      cases e
      rw [hb] at hl'
      have := intV_inj (HO.lst.inj (Option.some.inj hl'))
      subst this
      exact ⟨h2, h3⟩
    have W1 := W.same s1
    obtain ⟨q', wa, wb, xs, e0, hq, hwa, hwb, rp⟩ := web_at W1.rep
    cases e0
    refine ⟨_, rfl, .tup (.of hq) rfl ⟨_, rfl, wa, lb, ss, intV bs, rfl, .of hwa, .of (s1 _ _ hb), by rw [intV_len]; omega, by omega, fun l H2 hl0 s2 hl2 => ?_⟩⟩
    rw [mkK_zip ss _ W.nd] at hl2
    have s12 := s1.trans s2
    have d2 := s12 _ _ hd
    let g : Nat → Bool := fun u => decide (wOf zs u ≤ wOf bs u) && decide (wOf bs u ≤ M)
    refine ⟨_, rfl, .tup (.of (s2 _ _ hq)) rfl ⟨wa, rfl, ⟨_, .of (s2 _ _ hwa)⟩, ?_⟩⟩
    refine comp_tup (List.map V.str ss) (fun C i acc σ' H' => ∃ o, σ' = [o, some (.int M), some (.ref d), some (.ref l)] ∧ acc = List.map V.bl ((List.range i).map g) ∧ Same H2 H' ∧ H2 C = none) fun C hC => ⟨?_, ?_, ?_, ?_⟩
    · exact ⟨none, rfl, rfl, Same.new hC, hC⟩
    · rintro i acc σ' H' _ ⟨o, rfl, _, sm, _⟩ _
      exact .of (sm _ _ (s2 _ _ hwa))
    · rintro i acc σ' H' x hx ⟨o, rfl, rfl, sm, hC0⟩ hacc
      obtain ⟨z, hz, rfl⟩ := str_get hx
      have hil := (List.getElem?_eq_some_iff.mp hz).1
      refine gYes ?_
      have g1 := valV_zip W.nd hz (wOf_get (zs := zs) (v := i) (by omega))
      have g2 := valV_zip W.nd hz (wOf_get (zs := bs) (v := i) (by omega))
      have fin : ∀ b : Bool, b = g i → List.map V.bl ((List.range i).map g) ++ [V.bl b] = List.map V.bl ((List.range (i + 1)).map g) := fun b e => by rw [List.range_succ, List.map_append, List.map_append, e]; rfl
      refine ⟨_, rfl, _, rfl, .dic (.inl ⟨_, .inr z, .inl (sm _ _ d2), rfl, g1.symm⟩) ⟨_, rfl, _, rfl, .dic (.inl ⟨_, .inr z, .inl (sm _ _ hl2), rfl, g2.symm⟩) (.int ⟨_, rfl, ite2 (fun h => ⟨_, rfl, .int ?_⟩) (fun h => ?_)⟩)⟩⟩
      · exact ⟨hacc, by rw [List.length_map, List.length_map, List.length_range]; exact small1000 (by omega), _, rfl, fin _ (by show _ = (_ && _); rw [h, Bool.true_and]), same_at sm hC0, hC0⟩
      · have h : decide (wOf zs i ≤ wOf bs i) = false := by simpa using h
        exact ⟨hacc, by rw [List.length_map, List.length_map, List.length_range]; exact small1000 (by omega), _, rfl, fin _ (by show _ = (_ && _); rw [h, Bool.false_and]), same_at sm hC0, hC0⟩
    · rintro acc σ' H3 ⟨o, rfl, rfl, s3, hC0⟩ hacc
      refine ⟨C, _, rfl, hacc, ?_⟩
      have s13 := s12.trans s3
      rw [List.length_map]
      refine ⟨_, rfl, ite2 (fun h => ?_) (fun h => ?_)⟩
      · have h : ((List.range ss.length).map g).all id = false := by simpa using h
        refine no (fun z => ?_) _ s13
        rw [all_range.mpr fun u hu => by show (_ && _) = true; rw [decide_eq_true ((uniq z).1 u hu).1, decide_eq_true ((uniq z).1 u hu).2]; rfl] at h
        cases h
      have hg : ∀ u, u < ss.length → wOf zs u ≤ wOf bs u ∧ wOf bs u ≤ M := fun u hu => by
        have h : ((List.range ss.length).map g).all id = true := by simpa using h
        have : (decide (wOf zs u ≤ wOf bs u) && decide (wOf bs u ≤ M)) = true := all_range.mp h u hu
        rw [Bool.and_eq_true, decide_eq_true_iff, decide_eq_true_iff] at this
        exact this
      have d3 := s3 _ _ d2
      have l3 := s3 _ _ hl2
      have rlen := rp.len
      rw [List.length_map] at rlen
      have few := W.few
      rw [List.length_map] at few
      have wb3 := s3 _ _ (s2 _ _ hwb)
      have rp3 := (rp.same s2).same s3
      let g2 : Nat × Nat → Bool := fun e => decide (wOf bs e.1 + wOf zs e.2 ≤ wOf bs e.2)
      refine ⟨_, rfl, .tup (.of (s3 _ _ (s2 _ _ hq))) rfl ⟨wb, rfl, ⟨_, .of wb3⟩, ?_⟩⟩
      refine comp_tup xs (fun C i acc σ' H' => ∃ o, σ' = [o, some (.ref l), some (.ref d)] ∧ acc = List.map V.bl ((es.take i).map g2) ∧ Same H3 H' ∧ H3 C = none) fun C hC => ⟨?_, ?_, ?_, ?_⟩
      · exact ⟨none, rfl, rfl, Same.new hC, hC⟩
      · rintro i acc σ' H' _ ⟨o, rfl, _, sm, _⟩ _
        exact .of (sm _ _ wb3)
      · rintro i acc σ' H' x hx ⟨o, rfl, rfl, sm, hC0⟩ hacc
        have hil := (List.getElem?_eq_some_iff.mp hx).1
        rw [rlen, List.length_map] at hil
        obtain ⟨e, ta, he, rfl, hta⟩ := pair_get (rp3.same sm) hx
        rw [List.getElem?_map, List.getElem?_eq_getElem hil] at he
        have he : nmP ss es[i] = e := Option.some.inj he
        have hin : es[i] ∈ es := List.getElem_mem hil
        obtain ⟨v1, v2⟩ := val _ hin
        subst he
        refine gYes ?_
        have c1 := valV_zip W.nd (nmA_get v1) (wOf_get (zs := bs) (v := es[i].1) (by omega))
        have c2 := valV_zip W.nd (nmA_get v2) (wOf_get (zs := bs) (v := es[i].2) (by omega))
        have c3 := valV_zip W.nd (nmA_get v2) (wOf_get (zs := zs) (v := es[i].2) (by omega))
        refine ⟨_, rfl, _, rfl, .tup (.of hta) rfl (.dic (.inl ⟨_, .inr (nmA ss es[i].1), .inl (sm _ _ l3), rfl, c1.symm⟩) ⟨_, rfl, _, rfl, .tup (.of hta) rfl (.dic (.inl ⟨_, .inr (nmA ss es[i].2), .inl (sm _ _ d3), rfl, c3.symm⟩) (.int ⟨_, rfl, _, rfl, .tup (.of hta) rfl (.dic (.inl ⟨_, .inr (nmA ss es[i].2), .inl (sm _ _ l3), rfl, c2.symm⟩) (.int ?_))⟩))⟩)⟩
        exact ⟨hacc, by rw [List.length_map, List.length_map, List.length_take]; exact small1000 (by omega), _, rfl, by rw [List.take_add_one, List.getElem?_eq_getElem hil, List.map_append, List.map_append]; rfl, same_at sm hC0, hC0⟩
      · rintro acc σ' H4 ⟨o, rfl, rfl, s4, hC0⟩ hacc
        refine ⟨C, _, rfl, hacc, ?_⟩
        rw [rlen, List.length_map, List.take_of_length_le (Nat.le_refl _)]
        have e : (es.map g2).all id = dec (BndOk H ss es zs (.ref lb) M) := by
          rw [Bool.eq_iff_iff, dec_iff, List.all_map, List.all_eq_true]
          constructor
          · intro z
            exact ⟨lb, bs, rfl, hb, bl, hg, fun e he => of_decide_eq_true (z e he)⟩
          · intro z e he
            exact decide_eq_true ((uniq z).2 e he)
        rw [e]
        exact k _ (s13.trans s4)
end
end K25
namespace K25
open PySem L2
section
variable {P : Program} {w : World} {K : PySem.W.Frag} {mg : Str → Option Value} {base : Heap}
theorem thg_obj {H H' : Hp} {a : Addr} (h : Thg H (.ref a)) (s : Same H H') : H' a = H a := by
  cases h with
  | lst e => rw [e, s _ _ e]
  | tup e => rw [e, s _ _ e]
  | dK e => rw [e, s _ _ e]
  | dT e => rw [e, s _ _ e]
theorem ThgL.same {H H' : Hp} {x : V} (h : ThgL H x) (s : Same H H') : ThgL H' x := ⟨h.1.same s, fun a xs e hx => by
  subst e
  rw [thg_obj h.1 s] at hx
  obtain ⟨h1, h2⟩ := h.2 a xs rfl hx
  exact ⟨h1, fun v hv => (h2 v hv).same s⟩⟩
theorem WayOk.same {H H' : Hp} {ss : List Str} {es : List (Nat × Nat)} {zs : List Int} {x : V} {M : Int} (h : Thg H x) (s : Same H H') : WayOk H' ss es zs x M ↔ WayOk H ss es zs x M := by
  constructor
  · rintro ⟨l, xs, rfl, hl, r⟩
    rw [thg_obj h s] at hl
    exact ⟨l, xs, rfl, hl, r⟩
  · rintro ⟨l, xs, rfl, hl, r⟩
    exact ⟨l, xs, rfl, s _ _ hl, r⟩
theorem BndOk.same {H H' : Hp} {ss : List Str} {es : List (Nat × Nat)} {zs : List Int} {x : V} {M : Int} (h : Thg H x) (s : Same H H') : BndOk H' ss es zs x M ↔ BndOk H ss es zs x M := by
  constructor
  · rintro ⟨l, xs, rfl, hl, r⟩
    rw [thg_obj h s] at hl
    exact ⟨l, xs, rfl, hl, r⟩
  · rintro ⟨l, xs, rfl, hl, r⟩
    exact ⟨l, xs, rfl, s _ _ hl, r⟩
noncomputable def ThgT (H : Hp) (x : V) : Prop := ThgL H x ∧ ∀ a us, x = .ref a → H a = some (.tup us) → ∀ v ∈ us, ThgL H v
theorem ThgT.same {H H' : Hp} {x : V} (h : ThgT H x) (s : Same H H') : ThgT H' x := ⟨h.1.same s, fun a us e hx v hv => by
  subst e
  rw [thg_obj h.1.1 s] at hx
  exact (h.2 a us rfl hx v hv).same s⟩
noncomputable def ToldOk (H : Hp) (ss : List Str) (es : List (Nat × Nat)) (zs : List Int) (x : V) : Prop := (ss = [] ∧ x = .non) ∨ (ss ≠ [] ∧ ∃ (t : Addr) (M : Int) (y z : V), x = .ref t ∧ H t = some (.tup [.int M, y, z]) ∧ WayOk H ss es zs y M ∧ BndOk H ss es zs z M)
theorem ToldOk.same {H H' : Hp} {ss : List Str} {es : List (Nat × Nat)} {zs : List Int} {x : V} (h : ThgT H x) (s : Same H H') : ToldOk H' ss es zs x ↔ ToldOk H ss es zs x := by
  refine or_congr Iff.rfl (and_congr Iff.rfl ?_)
  constructor
  · rintro ⟨t, M, y, z, rfl, ht, hy, hz⟩
    rw [thg_obj h.1.1 s] at ht
    have := h.2 t _ rfl ht
    exact ⟨t, M, y, z, rfl, ht, (WayOk.same (this y (by simp)).1 s).mp hy, (BndOk.same (this z (by simp)).1 s).mp hz⟩
  · rintro ⟨t, M, y, z, rfl, ht, hy, hz⟩
    have := h.2 t _ rfl ht
    exact ⟨t, M, y, z, rfl, s _ _ ht, (WayOk.same (this y (by simp)).1 s).mpr hy, (BndOk.same (this z (by simp)).1 s).mpr hz⟩
noncomputable def spShowG : Sp := fun vs H Q _ => ∃ (q x : V) (wa : Addr) (ss : List Str) (es : List (Nat × Nat)) (zs : List Int), vs = [q, .ref wa, x] ∧ Web H q ss (es.map (nmP ss)) ∧ ValE ss es ∧ MG.Ris es ∧ H wa = some (.lst (intV zs)) ∧ zs.length = ss.length ∧ ThgT H x ∧ ∀ H', Same H H' → Q (.bl (dec (ToldOk H ss es zs x))) H'
theorem scShowD : FnScope ["web", "weights", "told", "weighed"] ["web", "weights", "told"] (defScope sShowsD) := ⟨rfl, rfl, rfl, by decide +kernel, rfl, by decide +kernel, by decide +kernel⟩
theorem ok_showG {f : Addr} {fd : FuncData} (F : Fun K "shows_deepest" "shows_deepest" sShowsD f fd) (B : Blt mg) (cweights_by_thing : Cal P w K mg base 8 "weights_by_thing" ["web", "weights"] spWeigh) (cis_whole : Cal P w K mg base 1 "is_whole" ["thing"] spWholeX) (cway_weighs : Cal P w K mg base 3 "way_weighs" ["web", "weighed", "things", "weight"] spWayG) (care_bounds : Cal P w K mg base 3 "are_bounds" ["web", "weighed", "bounds", "most"] spBndG) : FnOk P w K mg base CX0 9 f fd ["web", "weights", "told"] spShowG := by
  refine F.ok scShowD (fun vs H Q E h => ?_) (fun cdv A outer s H vs Q E hr h => ?_)
  · obtain ⟨q, x, wa, ss, es, zs, rfl, _⟩ := h
    rfl
  · obtain ⟨q, x, wa, ss, es, zs, rfl, W, val, ris, hw, hzl, tx, k⟩ := h
    have nd := scShowD.nd
    have no : ¬ ToldOk H ss es zs x → ∀ H', Same H H' → Q (.bl false) H' := fun h => by rw [dec_f h] at k; exact k
    refine ⟨_, (pss_cons (ps_set (i := 3) nd rfl (Or.inl rfl) (pe_cal cweights_by_thing (hr.mono (by decide)) rfl (pa_cons (pv 0) (pa_cons (pv 1) pa_nil))))
      (pss_cons (ps_if (pt_cmpR (op_eqX hr.units) (b_lenD B (pa_cons (pv 3) pa_nil)) pe_int (nomark _)) (pss_one (ps_ret (pe_cmpR op_isX (pv 2) pe_non (nomark _)))) pss_nil)
      (pss_cons (ps_if (PW.pt (pw_or (pt_not (pt_val (b_isi K "tuple" B (pa_cons (pv 2) (pa_cons (g_tuple B) pa_nil))))) (pw_or (pt_cmpR (op_neX hr.units) (b_len K B (pa_cons (pv 2) pa_nil)) pe_int (nomark _)) (pw_or1 (pt_not (pt_val (pe_cal cis_whole (hr.mono (by decide)) rfl (pa_cons (pe_ix (ix_X K hr.units) (pv 2) pe_int (fun _ _ => rfl)) pa_nil)))))))) (pss_one (ps_ret pe_bl)) pss_nil)
      (pss_one (ps_ret (pe_and (pe_cal cway_weighs (hr.mono (by decide)) rfl (pa_cons (pv 0) (pa_cons (pv 3) (pa_cons (pe_ix (ix_X K hr.units) (pv 2) pe_int (fun _ _ => rfl)) (pa_cons (pe_ix (ix_X K hr.units) (pv 2) pe_int (fun _ _ => rfl)) pa_nil))))) (pe_one (pe_cal care_bounds (hr.mono (by decide)) rfl (pa_cons (pv 0) (pa_cons (pv 3) (pa_cons (pe_ix (ix_X K hr.units) (pv 2) pe_int (fun _ _ => rfl)) (pa_cons (pe_ix (ix_X K hr.units) (pv 2) pe_int (fun _ _ => rfl)) pa_nil)))))))))))), ?_⟩
    refine ⟨_, rfl, _, rfl, q, wa, ss, es, zs, rfl, W, val, ris, hw, hzl, fun d H1 s1 hd0 hd => ?_⟩
    have zl : (zipK ss (intV zs)).length = ss.length := by
      unfold zipK intV
      rw [List.length_zip, List.length_map, List.length_map, hzl, Nat.min_self]
    refine ⟨_, rfl, d, _, rfl, hd, .sc rfl ⟨_, rfl, ite2 (fun h => ?_) (fun h => ?_)⟩⟩
    · have h := V.int.inj (of_decide_eq_true h)
      rw [zl] at h
      have e0 : ss = [] := List.length_eq_zero_iff.mp (by omega)
      refine ⟨_, rfl, .non ?_⟩
      have e : decide (x = .non) = dec (ToldOk H ss es zs x) := by
        rw [Bool.eq_iff_iff, decide_eq_true_iff, dec_iff]
        exact ⟨fun z => .inl ⟨e0, z⟩, fun z => z.elim (fun z => z.2) (fun z => absurd e0 z.1)⟩
      show Q (.bl (decide (x = .non))) _
      rw [e]
      exact k _ s1
    have hne : ss ≠ [] := fun z => h (decide_eq_true (by rw [zl, z]; rfl))
    have un : ToldOk H ss es zs x → ∃ (t : Addr) (M : Int) (y z : V), x = .ref t ∧ H t = some (.tup [.int M, y, z]) ∧ WayOk H ss es zs y M ∧ BndOk H ss es zs z M := fun z => z.elim (fun z => absurd z.1 hne) (fun z => z.2)
    obtain ⟨tt, ty, _, _, _, _, t5⟩ := ty_thg (K := K) (tx.1.1.same s1)
    refine ⟨_, rfl, _, tt, _, rfl, ty, t5, _, rfl, ite2 (fun hT => ?_) (fun hT => ?_)⟩
    · have hT : isT H1 x = false := by simpa using hT
      refine no (fun z => ?_) _ s1
      obtain ⟨t, M, y, z, rfl, ht, _⟩ := un z
      rw [isT_of (s1 _ _ ht)] at hT
      cases hT
    have hT : isT H x = true := by rw [← (isL_keep tx.1.1 s1).2]; simpa using hT
    obtain ⟨t, us, rfl, ht⟩ := isT_get hT
    have t1 := s1 _ _ ht
    have tu := tx.2 t us rfl ht
    refine ⟨_, rfl, _, _, rfl, SqA.len (K := K) (.inr t1), .sc rfl ⟨_, rfl, ite2 (fun hl => ?_) (fun hl => ?_)⟩⟩
    · refine no (fun z => ?_) _ s1
      obtain ⟨t', M, y, z, e, ht', _⟩ := un z
      cases e
      rw [ht] at ht'
      have := HO.tup.inj (Option.some.inj ht')
      subst this
      cases hl
    obtain ⟨x0, y, z, rfl⟩ : ∃ x0 y z, us = [x0, y, z] := by
      have hl : decide (V.int (us.length : Int) = V.int 3) = true := by simpa using hl
      have := V.int.inj (of_decide_eq_true hl)
      match us, this with
      | [a, b, c], _ => exact ⟨a, b, c, rfl⟩
      | [], h => cases h
      | [_], h => cases h
      | [_, _], h => cases h
      | _ :: _ :: _ :: _ :: _, h => simp only [List.length_cons] at h; omega
    have c0 := (tu x0 (by simp)).1
    have cy := tu y (by simp)
    have cz := tu z (by simp)
    refine ⟨_, rfl, .tup (.of t1) rfl ⟨_, rfl, c0.same s1, _, rfl, ite2 (fun h0 => ?_) (fun h0 => ?_)⟩⟩
    · have h0 : wh x0 = false := by simpa using h0
      refine no (fun z => ?_) _ s1
      obtain ⟨t', M, y, z, e, ht', _⟩ := un z
      cases e
      rw [ht] at ht'
      cases ht'
      cases h0
    obtain ⟨M, rfl⟩ := wh_get (x := x0) (by simpa using h0)
    have fin : ToldOk H ss es zs (.ref t) ↔ WayOk H ss es zs y M ∧ BndOk H ss es zs z M := by
      constructor
      · intro z
        obtain ⟨t', M', y', z', e, ht', r⟩ := un z
        cases e
        rw [ht] at ht'
        cases ht'
        exact r
      · intro r
        exact .inr ⟨hne, t, M, y, z, rfl, ht, r⟩
    have W1 := W.same s1
    refine ⟨_, rfl, _, rfl, _, rfl, .tup (.of t1) rfl ⟨_, rfl, .tup (.of t1) rfl ⟨q, d, y, ss, es, zs, M, rfl, W1, val, ris, hd, hzl, cy.same s1, fun H2 s2 => ⟨_, rfl, ite2 (fun h => ?_) (fun h => ?_)⟩⟩⟩⟩
    · have t2 := s2 _ _ t1
      have s12 := s1.trans s2
      refine ⟨_, rfl, _, rfl, _, rfl, .tup (.of t2) rfl ⟨_, rfl, .tup (.of t2) rfl ⟨q, d, z, ss, es, zs, M, rfl, W1.same s2, val, s2 _ _ hd, hzl, cz.same s12, fun H3 s3 => ?_⟩⟩⟩
      have e : dec (BndOk H2 ss es zs z M) = dec (ToldOk H ss es zs (.ref t)) := by
        rw [Bool.eq_iff_iff, dec_iff, dec_iff, fin, BndOk.same cz.1 s12]
        exact ⟨fun g => ⟨(WayOk.same cy.1 s1).mp (dec_iff.mp h), g⟩, fun g => g.2⟩
      rw [e]
      exact k _ (s12.trans s3)
    · have e : dec (WayOk H1 ss es zs y M) = false := by simpa using h
      have : ¬ ToldOk H ss es zs (.ref t) := fun g => by
        rw [dec_t ((WayOk.same cy.1 s1).mpr (fin.mp g).1)] at e
        cases e
      exact no this _ (s1.trans s2)
end
end K25
namespace K25
open PySem L2
section
variable {P : Program} {w : World} {K : PySem.W.Frag} {mg : Str → Option Value} {base : Heap}
noncomputable def ltF (M : Int) (zs G : List Int) : List Int := (List.range zs.length).map fun v => M + wOf zs v - G.getD v 0
theorem ltF_len (M : Int) (zs G : List Int) : (ltF M zs G).length = zs.length := by unfold ltF; rw [List.length_map, List.length_range]
theorem ltF_get {M : Int} {zs G : List Int} {v : Nat} (h : v < zs.length) : (ltF M zs G).getD v 0 = M + wOf zs v - G.getD v 0 := by
  unfold ltF
  rw [List.getD_eq_getElem?_getD, List.getElem?_map, List.getElem?_range h]; rfl
theorem getD_ext {xs ys : List Int} (h : xs.length = ys.length) (k : ∀ i, i < xs.length → xs.getD i 0 = ys.getD i 0) : xs = ys := by
  apply List.ext_getElem h
  intro i h1 h2
  have := k i h1
  rw [List.getD_eq_getElem?_getD, List.getD_eq_getElem?_getD, List.getElem?_eq_getElem h1, List.getElem?_eq_getElem h2] at this
  exact this
theorem ltF_start (M : Int) (zs : List Int) : List.replicate zs.length M = ltF M zs ((List.range zs.length).map (wOf zs)) := by
  refine getD_ext (by rw [ltF_len, List.length_replicate]) fun i hi => ?_
  rw [List.length_replicate] at hi
  rw [ltF_get hi, List.getD_eq_getElem?_getD, List.getElem?_replicate, if_pos hi, List.getD_eq_getElem?_getD, List.getElem?_map, List.getElem?_range hi]
  show M = M + wOf zs i - wOf zs i
  omega
theorem ltF_step {M : Int} {zs G : List Int} {e : Nat × Nat} (hG : G.length = zs.length) (h1 : e.1 < zs.length) (h2 : e.2 < zs.length) : (ltF M zs G).set e.1 (min ((ltF M zs G).getD e.1 0) ((ltF M zs G).getD e.2 0 - wOf zs e.2)) = ltF M zs (MG.relaxW (wOf zs) G (e.2, e.1)) := by
  refine getD_ext (by rw [List.length_set, ltF_len, ltF_len]) fun i hi => ?_
  rw [List.length_set, ltF_len] at hi
  rw [ltF_get hi, MG.relaxW_get _ _ _ _ (by show e.1 < G.length; omega), ltF_get h1, ltF_get h2, List.getD_eq_getElem?_getD, List.getElem?_set]
  show Option.getD (if e.1 = i then _ else _) 0 = M + wOf zs i - if i = e.1 then max (G.getD e.1 0) (G.getD e.2 0 + wOf zs e.1) else _
  by_cases q : e.1 = i
  · subst q
    rw [if_pos rfl, if_pos (by rw [ltF_len]; exact h1), if_pos rfl]
    show min _ _ = _
    omega
  · rw [if_neg q, if_neg (Ne.symm q), ← List.getD_eq_getElem?_getD, ltF_get hi]
theorem rep_flat (M : Int) (n : Nat) : (List.replicate ((n : Int)).toNat [V.int M]).flatten = intV (List.replicate n M) := by
  rw [Int.toNat_natCast]
  unfold intV
  induction n with
  | zero => rfl
  | succ n ih => rw [List.replicate_succ, List.flatten_cons, ih, List.replicate_succ, List.map_cons]; rfl
theorem swp_get {es : List (Nat × Nat)} {j : Nat} {e : Nat × Nat} (h : es[j]? = some e) : (MG.swp es)[j]? = some (e.2, e.1) := by
  unfold MG.swp
  rw [List.getElem?_map, h]; rfl
theorem swp_val {es : List (Nat × Nat)} {n : Nat} (h : ∀ e ∈ es, e.1 < n ∧ e.2 < n) : ∀ e ∈ MG.swp es, e.1 < n ∧ e.2 < n := fun e he => (h _ (MG.mem_swp.mp he)).symm
noncomputable def spLate : Sp := fun vs H Q _ => ∃ (wl t : Addr) (zs : List Int) (refs : List V) (es : List (Nat × Nat)) (D : Nat → Int) (L : Nat → Nat) (M : Int), vs = [.ref wl, .ref t, .int M] ∧ H wl = some (.lst (intV zs)) ∧ H t = some (.lst refs) ∧ RepAll H refs (es.map tieD) ∧ (∀ e ∈ es, e.1 < zs.length ∧ e.2 < zs.length) ∧ zs.length ≤ 60 ∧ MG.IsD (MG.swp es) (wOf zs) D ∧ MG.IsL (MG.swp es) zs.length L ∧
  ∀ l H', Same H H' → H l = none → H' l = some (.lst (intV ((List.range zs.length).map fun v => M + wOf zs v - D v))) → Q (.ref l) H'
theorem scLate : FnScope ["_law_weights_here", "_law_ties_here", "_law_most", "_law_found", "_law_turn", "_law_one", "_law_other"] ["_law_weights_here", "_law_ties_here", "_law_most"] (defScope sLatest) := ⟨rfl, rfl, rfl, by decide +kernel, rfl, by decide +kernel, by decide +kernel⟩
theorem ok_late {f : Addr} {fd : FuncData} (F : Fun K "_law_latest" "_law_latest" sLatest f fd) (B : Blt mg) : FnOk P w K mg base CX0 1 f fd ["_law_weights_here", "_law_ties_here", "_law_most"] spLate := by
  refine F.ok scLate (fun vs H Q E h => ?_) (fun cdv A outer s H vs Q E hr h => ?_)
  · obtain ⟨wl, t, zs, refs, es, D, L, M, rfl, _⟩ := h
    rfl
  · obtain ⟨wl, t, zs, refs, es, D, L, M, rfl, hw, ht, rp, hev, hn, hD, hL, k⟩ := h
    have nd := scLate.nd
    refine ⟨_, (pss_cons (ps_set (i := 3) nd rfl (Or.inl rfl) (pe_op op_rep (pe_lst (pa_cons (pv 2) pa_nil)) (b_len K B (pa_cons (pv 0) pa_nil))))
      (pss_cons (ps_for PassesOwn.never rfl (pi_range1 rfl B.range (pa_cons (b_len K B (pa_cons (pv 0) pa_nil)) pa_nil)) (pg_name (i := 4) nd rfl (Or.inl rfl)) (pss_one (ps_for PassesOwn.never rfl (pi_listK K (pv 1)) (pg_tupK (n := 2) K rfl (pgs_cons (pg_name (i := 5) nd rfl (Or.inl rfl)) (pgs_cons (pg_name (i := 6) nd rfl (Or.inl rfl)) pgs_nil))) (pss_one (ps_asg (b_min rfl B (pa_cons (pe_ix (ix_X K hr.units) (pv 3) (pv 5) (fun _ _ => rfl)) (pa_cons (pe_op op_sub (pe_ix (ix_X K hr.units) (pv 3) (pv 6) (fun _ _ => rfl)) (pe_ix (ix_X K hr.units) (pv 0) (pv 6) (fun _ _ => rfl))) pa_nil))) (pg_sub (pv 3) (pv 5) (set_X hr.units)))))))
      (pss_one (ps_ret (pv 3))))), ?_⟩
    have rlen := rp.len
    rw [List.length_map] at rlen
    have il : (intV zs).length = zs.length := List.length_map ..
    refine ⟨_, rfl, (by show 1 ≤ sizeLine; decide), fun la hla => ?_⟩
    have sa := Same.new (o := .lst [.int M]) hla
    have ea : upd H la (.lst [.int M]) la = some (.lst [.int M]) := upd_same
    generalize upd H la (.lst [.int M]) = H1 at sa ea ⊢
    refine ⟨_, rfl, _, _, rfl, SqA.len (K := K) (.inl (sa _ _ hw)), la, _, _, rfl, rfl, ea, by rw [il]; omega, by rw [il]; omega, ?_, fun l hl1 => ?_⟩
    · rw [il]
      show 1 * ((zs.length : Nat) : Int).toNat ≤ sizeLine
      rw [Int.toNat_natCast, Nat.one_mul]
      exact Nat.le_trans hn (by decide)
    rw [il, rep_flat, ltF_start]
    have hl : H l = none := sa.free hl1
    have s1 := sa.trans (Same.new (o := .lst (intV (ltF M zs ((List.range zs.length).map (wOf zs))))) hl1)
    have e1 : upd H1 l (.lst (intV (ltF M zs ((List.range zs.length).map (wOf zs))))) l = some (.lst (intV (ltF M zs ((List.range zs.length).map (wOf zs))))) := upd_same
    generalize upd H1 l (.lst (intV (ltF M zs ((List.range zs.length).map (wOf zs))))) = H2 at s1 e1 ⊢
    refine ⟨_, rfl, _, _, rfl, SqA.len (K := K) (.inl (s1 _ _ hw)), _, rfl, by rw [il]; omega, by rw [il]; omega, ?_⟩
    rw [il]
    refine for_range (fun r σ H' => ∃ o3 o4 o5 G, σ = [some (.ref wl), some (.ref t), some (.int M), some (.ref l), o3, o4, o5] ∧ Same H H' ∧ H' l = some (.lst (intV (ltF M zs G))) ∧ MG.LayD (MG.swp es) zs.length (wOf zs) D L r 0 G)
      ⟨none, none, none, _, rfl, s1, e1, MG.LayD.start hD hL⟩ ?_ ?_
    · rintro r σ H3 hr ⟨o3, o4, o5, G, rfl, s3, e3, lay⟩
      refine ⟨_, rfl, t, rfl, ⟨_, .of (s3 _ _ ht)⟩, ?_⟩
      refine for_list (xs := refs) (fun j σ H' => ∃ o4 o5 G, σ = [some (.ref wl), some (.ref t), some (.int M), some (.ref l), some (.int (0 + (r : Nat))), o4, o5] ∧ Same H H' ∧ H' l = some (.lst (intV (ltF M zs G))) ∧ MG.LayD (MG.swp es) zs.length (wOf zs) D L r j G) ?_ ?_ ?_ ?_
      · exact ⟨o4, o5, G, rfl, s3, e3, lay⟩
      · rintro j σ H' hj ⟨o4, o5, G, rfl, sm, _⟩
        exact .of (sm _ _ ht)
      · rintro j x σ H4 hx ⟨o4, o5, G, rfl, s4, e4, lay⟩
        obtain ⟨d, hd, rd⟩ := (rp.same s4).get hx
        rw [List.getElem?_map] at hd
        obtain ⟨e, he, rfl⟩ : ∃ e, es[j]? = some e ∧ tieD e = d := by
          cases q : es[j]? with
          | none => rw [q] at hd; cases hd
          | some e => rw [q] at hd; exact ⟨e, rfl, Option.some.inj hd⟩
        obtain ⟨ta, rfl, hta⟩ := tie_at rd
        have hval := hev e (List.mem_of_getElem? he)
        have l1 : e.1 < (ltF M zs G).length := by rw [ltF_len]; exact hval.1
        have l2 : e.2 < (ltF M zs G).length := by rw [ltF_len]; exact hval.2
        have lay' := lay.step hD (swp_val hev) (swp_get he)
        refine ⟨ta, _, rfl, .of hta, rfl, _, _, rfl, _, _, rfl, rfl, ?_⟩
        refine ⟨_, rfl, _, rfl, .lst (.of e4) (intD_at l1) ⟨_, rfl, _, rfl, .lst (.of e4) (intD_at l2) ⟨_, rfl, _, rfl, .lst (.of (s4 _ _ hw)) (intD_at hval.2) ⟨_, _, rfl, rfl, _, _, rfl, ?_⟩⟩⟩⟩
        have em : (if (ltF M zs G).getD e.2 0 - zs.getD e.2 0 < (ltF M zs G).getD e.1 0 then (ltF M zs G).getD e.2 0 - zs.getD e.2 0 else (ltF M zs G).getD e.1 0) = min ((ltF M zs G).getD e.1 0) ((ltF M zs G).getD e.2 0 - wOf zs e.2) := by unfold wOf; split <;> omega
        try dsimp only
        rw [em]
        refine ⟨_, rfl, _, rfl, .lst (j := e.1) e4 (by unfold intV; rw [List.length_map]; exact ixN_at l1) ?_⟩
        rw [intV_set, ltF_step lay.len hval.1 hval.2]
        exact ⟨_, _, _, rfl, same_at s4 hl, upd_same, lay'⟩
      · rintro σ H4 ⟨o4, o5, G, rfl, s4, e4, lay⟩
        rw [rlen, ← show (MG.swp es).length = es.length from List.length_map ..] at lay
        exact ⟨_, _, _, G, rfl, s4, e4, lay.round hD hL⟩
    · rintro σ H4 ⟨o3, o4, o5, G, rfl, s4, e4, lay⟩
      rw [Int.toNat_natCast] at lay
      have eF : ltF M zs G = (List.range zs.length).map fun v => M + wOf zs v - D v := by
        rw [lay.all hL (swp_val hev)]
        refine getD_ext (by rw [ltF_len, List.length_map, List.length_range]) fun i hi => ?_
        rw [ltF_len] at hi
        rw [ltF_get hi, List.getD_eq_getElem?_getD, List.getElem?_map, List.getElem?_range hi, List.getD_eq_getElem?_getD, List.getElem?_map, List.getElem?_range hi]; rfl
      rw [eF] at e4
      exact ⟨_, rfl, k l H4 s4 hl e4⟩
end
end K25
namespace K25
open PySem L2
section
variable {P : Program} {w : World} {K : PySem.W.Frag} {mg : Str → Option Value} {base : Heap}
noncomputable def Best (n : Nat) (D : Nat → Int) (v : Nat) : Prop := v < n ∧ ∀ u, u < n → D u ≤ D v
theorem best_ex {D : Nat → Int} : ∀ {n : Nat}, 0 < n → ∃ v, Best n D v
  | 1, _ => ⟨0, by omega, fun u hu => by rw [show u = 0 by omega]; exact Int.le_refl _⟩
  | n + 2, _ => by
    obtain ⟨v, h1, h2⟩ := best_ex (D := D) (n := n + 1) (by omega)
    by_cases q : D (n + 1) ≤ D v
    · refine ⟨v, by omega, fun u hu => ?_⟩
      by_cases e : u = n + 1
      · rw [e]; exact q
      · exact h2 u (by omega)
    · refine ⟨n + 1, by omega, fun u hu => ?_⟩
      by_cases e : u = n + 1
      · rw [e]; exact Int.le_refl _
      · have := h2 u (by omega); omega
theorem max_is {n : Nat} {D : Nat → Int} {v : Nat} (b : Best n D v) {M : Int} (h1 : M ∈ (List.range n).map D) (h2 : ∀ x, x ∈ (List.range n).map D → x ≤ M) : M = D v := by
  obtain ⟨u, hu, rfl⟩ := List.mem_map.mp h1
  have a := b.2 u (List.mem_range.mp hu)
  have c := h2 (D v) (List.mem_map.mpr ⟨v, List.mem_range.mpr b.1, rfl⟩)
  omega
theorem rngD_at {n v : Nat} {D : Nat → Int} (h : v < n) : atI (intV ((List.range n).map D)) (v : Int) = some (.int (D v)) := atI_nat (by
  unfold intV
  rw [List.getElem?_map, List.getElem?_map, List.getElem?_range h]; rfl)
theorem chain_cons {es : List (Nat × Nat)} {u a : Nat} {us : List Nat} (h : (u, a) ∈ es) (c : Chain es (a :: us)) : Chain es (u :: a :: us) := fun i x y hx hy => by
  cases i with
  | zero =>
    cases hx
    cases hy
    exact h
  | succ i => exact c i x y hx hy
noncomputable def spLWD (K : PySem.W.Frag) : Sp := fun vs H Q _ => ∃ (p a wl t dl : Addr) (zs : List Int) (refs : List V) (es : List (Nat × Nat)) (D : Nat → Int), vs = [.ref p, .ref wl, .ref t, .ref dl] ∧ Pen K H p a ∧ wl ≠ p ∧ t ≠ p ∧ dl ≠ p ∧ H wl = some (.lst (intV zs)) ∧ H t = some (.lst refs) ∧ RepAll H refs (es.map tieD) ∧ es.length ≤ 900 ∧ (∀ e ∈ es, e.1 < zs.length ∧ e.2 < zs.length) ∧ zs.length ≤ 60 ∧ 0 < zs.length ∧ MG.Ris es ∧ MG.IsD es (wOf zs) D ∧ H dl = some (.lst (intV ((List.range zs.length).map D))) ∧
  ∀ l xs v H', H' l = some (.lst (natV xs)) → l ≠ p → Best zs.length D v → sumI (wOf zs) xs = D v → xs ≠ [] → Chain es xs → (∀ x ∈ xs, x < zs.length) → xs.length ≤ zs.length + 1 → PenV H' p a → But p H H' → Q (.ref l) H'
theorem scLWD : FnScope ["_law_pen", "_law_weights_here", "_law_ties_here", "_law_due", "_law_ends", "_law_told", "_law_left", "_law_some"] ["_law_pen", "_law_weights_here", "_law_ties_here", "_law_due"] (defScope sLWay) := ⟨rfl, rfl, rfl, by decide +kernel, rfl, by decide +kernel, by decide +kernel⟩
theorem natV_len (xs : List Nat) : (natV xs).length = xs.length := by unfold natV; rw [List.length_map]
theorem ok_lwd {f : Addr} {fd : FuncData} (F : Fun K "_law_way" "_law_way" sLWay f fd) (B : Blt mg) (c_law_take : Cal P w K mg base 1 "_law_take" ["_law_pen", "_law_many"] (spDraw K)) : FnOk P w K mg base CX0 2 f fd ["_law_pen", "_law_weights_here", "_law_ties_here", "_law_due"] (spLWD K) := by
  refine F.ok scLWD (fun vs H Q E h => ?_) (fun cdv A outer s H vs Q E hr h => ?_)
  · obtain ⟨p, a, wl, t, dl, zs, refs, es, D, rfl, _⟩ := h
    rfl
  · obtain ⟨p, a, wl, t, dl, zs, refs, es, D, rfl, hP, nwp, ntp, ndp, hw, ht, rp, hel, hev, hn, hpos, ris, hD, hd, k⟩ := h
    have nd := scLWD.nd
    obtain ⟨v0, best⟩ := best_ex (D := D) hpos
    obtain ⟨rk, hr1, hr2⟩ := rank_ex ris hev
    have il : (intV ((List.range zs.length).map D)).length = zs.length := by unfold intV; rw [List.length_map, List.length_map, List.length_range]
    have rlen := rp.len
    rw [List.length_map] at rlen
    refine ⟨_, (pss_cons (ps_setC (i := 4) nd rfl rfl (by rfl) (defScope sLWay) ["_law_pen", "_law_weights_here", "_law_ties_here", "_law_due", "_law_ends", "_law_told", "_law_left", "_law_some"] ["_law_k"] [3] ["_law_k", "_law_due"] rfl (pi_range1 rfl B.range (pa_cons (b_len K B (pa_cons (pv 3) pa_nil)) pa_nil)) (fun _ _ _ _ _ => (pg_name (i := 0) (show (["_law_k", "_law_due"] : List Str).Nodup by decide) rfl (Or.inl rfl))) (fun _ _ _ _ _ => (pts_one (pt_cmpR (op_eqX hr.units) (pe_ix (ix_X K hr.units) (pv 1) (pv 0) (fun _ _ => rfl)) (b_maxL K rfl B (pa_cons (pv 1) pa_nil)) (nomark _)))) (fun _ _ _ _ _ => (pv 0)))
      (pss_cons (ps_set (i := 5) nd rfl (Or.inr rfl) (pe_lst (pa_cons (pe_ix (ix_X K hr.units) (pv 4) (pe_cal c_law_take (hr.mono (by decide)) rfl (pa_cons (pv 0) (pa_cons (b_len K B (pa_cons (pv 4) pa_nil)) pa_nil))) (fun _ _ => rfl)) pa_nil)))
      (pss_one (ps_while PassesOwn.never (pt_val pe_bl) (pss_cons (ps_set (i := 6) nd rfl (Or.inr rfl) (pe_op op_sub (pe_ix (ix_X K hr.units) (pv 3) (pe_ix (ix_X K hr.units) (pv 5) pe_int (fun _ _ => rfl)) (fun _ _ => rfl)) (pe_ix (ix_X K hr.units) (pv 1) (pe_ix (ix_X K hr.units) (pv 5) pe_int (fun _ _ => rfl)) (fun _ _ => rfl))))
      (pss_cons (ps_setC (i := 7) nd rfl rfl (by rfl) (defScope sLWay) ["_law_pen", "_law_weights_here", "_law_ties_here", "_law_due", "_law_ends", "_law_told", "_law_left", "_law_some"] ["_law_one", "_law_other"] [6, 5, 3] ["_law_one", "_law_other", "_law_left", "_law_told", "_law_due"] rfl (pi_listK K (pv 2)) (fun _ _ _ _ _ => (pg_tupK (n := 2) K rfl (pgs_cons (pg_name (i := 0) (show (["_law_one", "_law_other", "_law_left", "_law_told", "_law_due"] : List Str).Nodup by decide) rfl (Or.inl rfl)) (pgs_cons (pg_name (i := 1) (show (["_law_one", "_law_other", "_law_left", "_law_told", "_law_due"] : List Str).Nodup by decide) rfl (Or.inl rfl)) pgs_nil)))) (fun _ _ _ _ _ => (pts_one (PW.pt (pw_and (pt_cmpR (op_eqX hr.units) (pv 1) (pe_ix (ix_X K hr.units) (pv 3) pe_int (fun _ _ => rfl)) (nomark _)) (pw_and1 (pt_cmpR (op_eqX hr.units) (pe_ix (ix_X K hr.units) (pv 4) (pv 0) (fun _ _ => rfl)) (pv 2) (nomark _))))))) (fun _ _ _ _ _ => (pv 0)))
      (pss_cons (ps_if (PW.pt (pw_or (pt_cmpR (op_eqY hr.units) (pv 7) (pe_lst pa_nil) (nomark _)) (pw_or1 (PW.pt (pw_and (pt_cmpR (op_eqX hr.units) (pv 6) pe_int (nomark _)) (pw_and1 (pt_cmpR (op_eqX hr.units) (pe_cal c_law_take (hr.mono (by decide)) rfl (pa_cons (pv 0) (pa_cons pe_int pa_nil))) pe_int (nomark _)))))))) (pss_one (ps_ret (pv 5))) pss_nil)
      (pss_one (ps_expr (m_insert K (pv 5) (pa_cons pe_int (pa_cons (pe_ix (ix_X K hr.units) (pv 7) (pe_cal c_law_take (hr.mono (by decide)) rfl (pa_cons (pv 0) (pa_cons (b_len K B (pa_cons (pv 7) pa_nil)) pa_nil))) (fun _ _ => rfl)) pa_nil)))))))))))), ?_⟩
    refine ⟨_, rfl, _, _, rfl, SqA.len (K := K) (.inl hd), _, rfl, by rw [il]; omega, by rw [il]; omega, ?_⟩
    rw [il, Int.toNat_natCast]
    refine comp_range (fun C i acc σ' H' => ∃ o, σ' = [o, some (.ref dl)] ∧ acc = natV ((List.range i).filter fun k => decide (D k = D v0)) ∧ Same H H' ∧ H C = none) fun C hC => ⟨?_, ?_, ?_⟩
    · exact ⟨none, rfl, rfl, Same.new hC, hC⟩
    · rintro i acc σ' H' hi ⟨o, rfl, rfl, sm, hC0⟩ hacc
      have dH' := sm _ _ hd
      refine ⟨_, rfl, _, rfl, .lst (.of dH') (by rw [Int.zero_add]; exact rngD_at hi) ⟨_, rfl, dl, _, rfl, .of dH', by rw [List.length_map, List.length_range]; exact hpos, fun M hM1 hM2 => .sc rfl ⟨_, rfl, ?_⟩⟩⟩
      have := max_is best hM1 hM2
      subst this
      have hsz : (natV ((List.range i).filter fun k => decide (D k = D v0))).length < sizeLine := by
        rw [natV_len]
        have := List.length_filter_le (fun k => decide (D k = D v0)) (List.range i)
        rw [List.length_range] at this
        exact small1000 (by omega)
      refine ite2 (fun h => ?_) (fun h => ?_)
      · have h : D i = D v0 := V.int.inj (of_decide_eq_true h)
        refine ⟨_, rfl, hacc, hsz, _, rfl, ?_, same_at sm hC0, hC0⟩
        rw [List.range_succ, List.filter_append]
        simp [h, natV]
      · have h : ¬ D i = D v0 := fun q => h (decide_eq_true (by rw [q]))
        refine ⟨hacc, _, rfl, ?_, sm, hC0⟩
        rw [List.range_succ, List.filter_append]
        simp [h]
    rintro acc σ' H1 ⟨o, rfl, rfl, s1, hC0⟩ hacc
    obtain ⟨ends, eE⟩ : ∃ ends, ends = (List.range zs.length).filter fun k => decide (D k = D v0) := ⟨_, rfl⟩
    rw [← eE] at hacc
    have hends : ∀ x, x ∈ ends ↔ x < zs.length ∧ D x = D v0 := fun x => by rw [eE, List.mem_filter, List.mem_range, decide_eq_true_iff]
    have epos : 0 < ends.length := List.length_pos_of_mem ((hends v0).mpr ⟨best.1, rfl⟩)
    have ele : ends.length ≤ 60 := by
      have := List.length_filter_le (fun k => decide (D k = D v0)) (List.range zs.length)
      rw [List.length_range, ← eE] at this
      omega
    have v0' := hP.2
    have nCp : C ≠ p := by
      obtain ⟨_, _, hp, _⟩ := hP.2
      exact Ne.symm (ne_of_none hp hC0)
    have b1 : But p H H1 := But.of_same s1
    have v1 : PenV H1 p a := by
      obtain ⟨i, n, hp, r⟩ := hP.2
      exact ⟨i, n, s1 _ _ hp, r⟩
    refine ⟨_, rfl, _, rfl, _, rfl, _, _, rfl, SqA.len (K := K) (.inl hacc), p, a, _, rfl, hP.but b1 v1, by rw [natV_len]; omega, by rw [natV_len]; omega, fun r2 H2 h20 h21 v2 e2 => ?_⟩
    rw [natV_len] at h21
    obtain ⟨m2, rfl⟩ := Int.eq_ofNat_of_zero_le h20
    have hm2 : m2 < ends.length := by omega
    have hb := (hends _).mp (List.getElem_mem hm2)
    have b2 := b1.trans (But.of_eq e2)
    have c2 : H2 C = some (.lst (natV ends)) := (e2 C nCp).trans hacc
    have at2 : atI (natV ends) ((m2 : Nat) : Int) = some (.int ((ends[m2] : Nat) : Int)) := atI_nat (by unfold natV; rw [List.getElem?_map, List.getElem?_eq_getElem hm2]; rfl)
    refine .lst (.of c2) at2 ⟨(by show 1 ≤ sizeLine; decide), fun l hl => ?_⟩
    have hpl := v2.ne hl
    have b3 : But p H (upd H2 l (.lst [V.int ((ends[m2] : Nat) : Int)])) := b2.at (b2.free (Ne.symm hpl) hl)
    have v3 := v2.upd (o := .lst [V.int ((ends[m2] : Nat) : Int)]) hpl
    have l0 : H l = none := b2.free (Ne.symm hpl) hl
    refine ⟨fun m σ H' => ∃ u us o6 o7, σ = [some (.ref p), some (.ref wl), some (.ref t), some (.ref dl), some (.ref C), some (.ref l), o6, o7] ∧ H' l = some (.lst (natV (u :: us))) ∧ rk u = m ∧ us.length + m ≤ zs.length ∧ Chain es (u :: us) ∧ (∀ x ∈ u :: us, x < zs.length) ∧ sumI (wOf zs) (u :: us) + (D u - wOf zs u) = D v0 ∧ PenV H' p a ∧ But p H H', ⟨rk ends[m2], ends[m2], [], none, none, rfl, upd_same, rfl, by have := hr2 _ hb.1; show 0 + _ ≤ _; omega, fun i x y _ hy => (by cases hy), fun x hx => (by rw [List.mem_singleton.mp hx]; exact hb.1), by show wOf zs ends[m2] + 0 + _ = _; omega, v3, b3⟩, ?_⟩
    rintro m σ H4 ⟨u, us, o6, o7, rfl, e4, hrk, hlen, ch, hx, hsum, v4, b4⟩
    refine ⟨true, rfl, ite2 (fun _ => ?_) (fun h => absurd rfl h)⟩
    refine ⟨fun σ' H' => ∃ u' o6 o7, rk u' < m ∧ σ' = [some (.ref p), some (.ref wl), some (.ref t), some (.ref dl), some (.ref C), some (.ref l), o6, o7] ∧ H' l = some (.lst (natV (u' :: u :: us))) ∧ (u :: us).length + rk u' ≤ zs.length ∧ Chain es (u' :: u :: us) ∧ (∀ x ∈ u' :: u :: us, x < zs.length) ∧ sumI (wOf zs) (u' :: u :: us) + (D u' - wOf zs u') = D v0 ∧ PenV H' p a ∧ But p H H', fun σ' H' ⟨u', o6, o7, h1, h2, h3, h4, h5, h6, h7, h8, h9⟩ => ⟨rk u', h1, u', u :: us, o6, o7, h2, h3, rfl, h4, h5, h6, h7, h8, h9⟩, ?_⟩
    have hu := hx u (by simp)
    have at4 : atI (natV (u :: us)) 0 = some (.int (u : Int)) := atI_nat (j := 0) rfl
    have dl4 := b4 _ _ ndp hd
    have wl4 := b4 _ _ nwp hw
    have t4 := b4 _ _ ntp ht
    have nlp : l ≠ p := Ne.symm hpl
    obtain ⟨_, _, hpH, _⟩ := hP.2
    have rp4 := RepAll.tieBut hpH b4 rp
    clear hpH
    refine ⟨_, rfl, _, rfl, .lst (.of e4) at4 (.lst (.of dl4) (rngD_at hu) ⟨_, rfl, _, rfl, .lst (.of e4) at4 (.lst (.of wl4) (atI_nat (wOf_get hu)) ⟨_, _, rfl, rfl, ?_⟩)⟩)⟩
    dsimp only
    obtain ⟨lf, hlf⟩ : ∃ lf, lf = D u - wOf zs u := ⟨_, rfl⟩
    rw [← hlf]
    refine ⟨_, rfl, t, rfl, ⟨_, .of t4⟩, ?_⟩
    refine comp_list refs (fun E i acc σ' H' => ∃ o1 o2, σ' = [o1, o2, some (.int lf), some (.ref l), some (.ref dl)] ∧ acc = natV (((es.take i).filter fun e => decide (e.2 = u ∧ D e.1 = lf)).map (·.1)) ∧ Same H4 H' ∧ H4 E = none) fun E hE => ⟨?_, ?_, ?_, ?_⟩
    · exact ⟨none, none, rfl, rfl, Same.new hE, hE⟩
    · rintro i acc σ' H' _ ⟨o1, o2, rfl, _, sm, _⟩ _
      exact .of (sm _ _ t4)
    · rintro i acc σ' H' x hxi ⟨o1, o2, rfl, rfl, sm, hE0⟩ hacc
      obtain ⟨d, hdd, rd⟩ := (rp4.same sm).get hxi
      rw [List.getElem?_map] at hdd
      obtain ⟨e, he, rfl⟩ : ∃ e, es[i]? = some e ∧ tieD e = d := by
        cases q : es[i]? with
        | none => rw [q] at hdd; cases hdd
        | some e => rw [q] at hdd; exact ⟨e, rfl, Option.some.inj hdd⟩
      obtain ⟨ta, rfl, hta⟩ := tie_at rd
      have hil := (List.getElem?_eq_some_iff.mp he).1
      have hval := hev e (List.mem_of_getElem? he)
      have hsz : (natV (((es.take i).filter fun e => decide (e.2 = u ∧ D e.1 = lf)).map (·.1))).length < sizeLine := by
        rw [natV_len, List.length_map]
        have h2 := List.length_filter_le (fun e : Nat × Nat => decide (e.2 = u ∧ D e.1 = lf)) (es.take i)
        rw [List.length_take] at h2
        exact small1000 (by omega)
      have hno : ¬ (e.2 = u ∧ D e.1 = lf) → (((es.take (i + 1)).filter fun e => decide (e.2 = u ∧ D e.1 = lf)).map (·.1)) = (((es.take i).filter fun e => decide (e.2 = u ∧ D e.1 = lf)).map (·.1)) := fun q => by
        rw [List.take_add_one, he, List.filter_append, List.map_append]
        simp [q]
      refine ⟨ta, _, rfl, .of hta, rfl, _, _, rfl, _, _, rfl, rfl, ?_⟩
      refine ⟨_, rfl, _, rfl, .lst (.of (sm _ _ e4)) at4 (.sc rfl ⟨_, rfl, ?_⟩)⟩
      refine ite2 (fun h3 => ?_) (fun h3 => ?_)
      · have h3 : ((e.2 : Nat) : Int) = (u : Nat) := V.int.inj (of_decide_eq_true h3)
        have h3 : e.2 = u := by omega
        refine ⟨_, rfl, _, rfl, .lst (.of (sm _ _ dl4)) (rngD_at hval.1) ⟨_, rfl, .sc rfl ⟨_, rfl, ?_⟩⟩⟩
        refine ite2 (fun h4 => ?_) (fun h4 => ?_)
        · have h4 : D e.1 = lf := V.int.inj (of_decide_eq_true h4)
          refine ⟨_, rfl, hacc, hsz, _, _, rfl, ?_, same_at sm hE0, hE0⟩
          rw [List.take_add_one, he, List.filter_append, List.map_append]
          simp [h3, h4, natV]
        · have h4 : ¬ D e.1 = lf := fun q => h4 (decide_eq_true (by rw [q]))
          exact ⟨hacc, _, _, rfl, by rw [hno fun q => h4 q.2], sm, hE0⟩
      · have h3 : ¬ e.2 = u := fun q => h3 (decide_eq_true (by rw [q]))
        exact iteF ⟨hacc, _, _, rfl, by rw [hno fun q => h3 q.1], sm, hE0⟩
    rintro acc σ' H5 ⟨o1, o2, rfl, rfl, s5, hE0⟩ hacc
    rw [rlen, List.take_of_length_le (Nat.le_refl _)] at hacc
    obtain ⟨sm, esm⟩ : ∃ sm, sm = (es.filter fun e => decide (e.2 = u ∧ D e.1 = lf)).map (·.1) := ⟨_, rfl⟩
    rw [← esm] at hacc
    have hsm : ∀ x, x ∈ sm ↔ (x, u) ∈ es ∧ D x = lf := fun x => by
      rw [esm, List.mem_map]
      constructor
      · rintro ⟨e, he, rfl⟩
        obtain ⟨h1, h2⟩ := List.mem_filter.mp he
        have h2 := of_decide_eq_true h2
        exact ⟨by rw [← h2.1]; exact h1, h2.2⟩
      · rintro ⟨h1, h2⟩
        exact ⟨(x, u), List.mem_filter.mpr ⟨h1, decide_eq_true ⟨rfl, h2⟩⟩, rfl⟩
    have smle : sm.length ≤ 900 := by
      rw [esm, List.length_map]
      exact Nat.le_trans (List.length_filter_le _ _) hel
    have b5 := b4.trans (But.of_same s5)
    have v5 : PenV H5 p a := by
      obtain ⟨i, n, hp, r⟩ := v4
      exact ⟨i, n, s5 _ _ hp, r⟩
    have e5 := s5 _ _ e4
    have nEp : E ≠ p := by
      obtain ⟨_, _, hp, _⟩ := v4
      exact Ne.symm (ne_of_none hp hE0)
    have done : lf = 0 → ∀ H', H' l = some (.lst (natV (u :: us))) → PenV H' p a → But p H H' → Q (.ref l) H' := fun h0 H' hl' v' b' => k l (u :: us) v0 H' hl' nlp best (by rw [← hsum, ← hlf, h0]; omega) (by simp) ch hx (by rw [List.length_cons]; omega) v' b'
    refine ⟨_, rfl, (by show 0 ≤ sizeLine; decide), fun le hle => ?_⟩
    have se := Same.new (o := .lst []) hle
    refine .inl (.tr (nums_rep (se _ _ hacc)) (.lst upd_same .nil) (shp_nums sm) (by rfl) ⟨_, rfl, ?_⟩)
    have v6 : PenV _ p a := v5.upd (o := .lst []) (v5.ne hle)
    have b6 := b5.at (o := .lst []) (b5.free (Ne.symm (v5.ne hle)) hle)
    have e6 := se _ _ e5
    have c6 := se _ _ hacc
    generalize upd H5 le (.lst []) = H6 at v6 b6 e6 c6 ⊢
    clear hacc e5 se hle s5 hE0 e4 dl4 wl4 t4 rp4 v4 v5 b4 b5
    have add : ∀ x H' o6 o7, x ∈ sm → H' l = some (.lst (natV (u :: us))) → PenV H' p a → But p H H' → ∃ u' o6' o7', rk u' < m ∧ [some (V.ref p), some (.ref wl), some (.ref t), some (.ref dl), some (.ref C), some (.ref l), o6, o7] = [some (.ref p), some (.ref wl), some (.ref t), some (.ref dl), some (.ref C), some (.ref l), o6', o7'] ∧ (upd H' l (.lst ((natV (u :: us)).take 0 ++ V.int (x : Int) :: (natV (u :: us)).drop 0))) l = some (.lst (natV (u' :: u :: us))) ∧ (u :: us).length + rk u' ≤ zs.length ∧ Chain es (u' :: u :: us) ∧ (∀ y ∈ u' :: u :: us, y < zs.length) ∧ sumI (wOf zs) (u' :: u :: us) + (D u' - wOf zs u') = D v0 ∧ PenV (upd H' l (.lst ((natV (u :: us)).take 0 ++ V.int (x : Int) :: (natV (u :: us)).drop 0))) p a ∧ But p H (upd H' l (.lst ((natV (u :: us)).take 0 ++ V.int (x : Int) :: (natV (u :: us)).drop 0))) := fun x H' o6 o7 hxs hl' v' b' => by
      obtain ⟨g1, g2⟩ := (hsm x).mp hxs
      have r1 := hr1 _ g1
      have r1 : rk x < rk u := r1
      refine ⟨x, o6, o7, by omega, rfl, upd_same, by rw [List.length_cons]; omega, chain_cons g1 ch, fun y hy => ?_, ?_, v'.upd hpl, b'.at l0⟩
      · rcases List.mem_cons.mp hy with rfl | hy
        · exact (hev _ g1).1
        · exact hx y hy
      · show wOf zs x + sumI (wOf zs) (u :: us) + (D x - wOf zs x) = D v0
        omega
    rw [eqv_nil_nums]
    refine ite2 (fun hc => ?_) (fun hc => ?_)
    · have hnil : sm = [] := of_decide_eq_true hc
      refine ⟨_, rfl, done ?_ _ e6 v6 b6⟩
      rcases hD.eq u with q | ⟨x, q1, q2⟩
      · omega
      · have : x ∈ sm := (hsm x).mpr ⟨q1, by omega⟩
        rw [hnil] at this
        cases this
    have hne : sm ≠ [] := fun z => hc (decide_eq_true z)
    have spos := List.length_pos_iff.mpr hne
    refine ⟨_, rfl, .sc rfl ⟨_, rfl, ite2 (fun h0 => ?_) (fun h0 => ?_)⟩⟩
    · have h0 : lf = 0 := V.int.inj (of_decide_eq_true h0)
      refine ⟨_, rfl, p, a, 2, rfl, hP.but b6 v6, by decide, by decide, fun r7 H7 h70 h71 v7 e7 => .sc rfl ⟨_, rfl, ite2 (fun _ => ?_) (fun _ => ?_)⟩⟩
      · exact ⟨_, rfl, done h0 _ ((e7 l nlp).trans e6) v7 (b6.trans (But.of_eq e7))⟩
      have b7 := b6.trans (But.of_eq e7)
      have c7 := (e7 E nEp).trans c6
      have e7 := (e7 l nlp).trans e6
      refine ⟨_, rfl, .inl ⟨rfl, _, .of e7⟩, ?_⟩
      refine ⟨_, rfl, _, rfl, _, rfl, _, _, rfl, SqA.len (K := K) (.inl c7), p, a, _, rfl, hP.but b7 v7, by rw [natV_len]; omega, by rw [natV_len]; omega, fun r8 H8 h80 h81 v8 e8 => ?_⟩
      rw [natV_len] at h81
      obtain ⟨m8, rfl⟩ := Int.eq_ofNat_of_zero_le h80
      have hm8 : m8 < sm.length := by omega
      have at8 : atI (natV sm) ((m8 : Nat) : Int) = some (.int ((sm[m8] : Nat) : Int)) := atI_nat (by unfold natV; rw [List.getElem?_map, List.getElem?_eq_getElem hm8]; rfl)
      have l8 := (e8 l nlp).trans e7
      refine .lst (.of ((e8 E nEp).trans c7)) at8 ⟨l, _, _, 0, _, rfl, rfl, rfl, l8, Nat.zero_le _, by rw [natV_len, List.length_cons]; exact small1000 (by omega), ?_⟩
      exact add _ _ _ _ (List.getElem_mem hm8) l8 v8 (b7.trans (But.of_eq e8))
    · have v7 := v6
      have b7 := b6
      have c7 := c6
      have e7 := e6
      refine ⟨_, rfl, .inl ⟨rfl, _, .of e7⟩, ?_⟩
      refine ⟨_, rfl, _, rfl, _, rfl, _, _, rfl, SqA.len (K := K) (.inl c7), p, a, _, rfl, hP.but b7 v7, by rw [natV_len]; omega, by rw [natV_len]; omega, fun r8 H8 h80 h81 v8 e8 => ?_⟩
      rw [natV_len] at h81
      obtain ⟨m8, rfl⟩ := Int.eq_ofNat_of_zero_le h80
      have hm8 : m8 < sm.length := by omega
      have at8 : atI (natV sm) ((m8 : Nat) : Int) = some (.int ((sm[m8] : Nat) : Int)) := atI_nat (by unfold natV; rw [List.getElem?_map, List.getElem?_eq_getElem hm8]; rfl)
      have l8 := (e8 l nlp).trans e7
      refine .lst (.of ((e8 E nEp).trans c7)) at8 ⟨l, _, _, 0, _, rfl, rfl, rfl, l8, Nat.zero_le _, by rw [natV_len, List.length_cons]; exact small1000 (by omega), ?_⟩
      exact add _ _ _ _ (List.getElem_mem hm8) l8 v8 (b7.trans (But.of_eq e8))
end
end K25
namespace K25
open PySem L2
section
variable {P : Program} {w : World} {K : PySem.W.Frag} {mg : Str → Option Value} {base : Heap}
theorem scLWhole : FnScope ["_law_thing"] ["_law_thing"] (defScope sLWhole) := ⟨rfl, rfl, rfl, by decide +kernel, rfl, by decide +kernel, by decide +kernel⟩
theorem ok_lwhole {f : Addr} {fd : FuncData} (F : Fun K "_law_whole" "_law_whole" sLWhole f fd) (B : Blt mg) : FnOk P w K mg base CX0 1 f fd ["_law_thing"] spWholeX := by
  refine F.ok scLWhole (fun vs H Q E h => ?_) (fun cdv A outer s H vs Q E hr h => ?_)
  · obtain ⟨x, rfl, _⟩ := h
    rfl
  · obtain ⟨x, rfl, hx, k⟩ := h
    have nd := scLWhole.nd
    obtain ⟨t, ty, _, t2, t3, _⟩ := ty_thg (K := K) hx
    refine ⟨_, (pss_one (ps_ret (pe_and (b_isi K "int" B (pa_cons (pv 0) (pa_cons (g_int B) pa_nil))) (pe_one (pe_not (b_isi K "bool" B (pa_cons (pv 0) (pa_cons (g_bool B) pa_nil)))))))), ?_⟩
    refine ⟨_, rfl, _, t, _, rfl, ty, t2, _, rfl, ?_⟩
    unfold wh at k
    refine ite2 (fun h => ?_) (fun h => ?_)
    · rw [h] at k
      exact ⟨_, rfl, _, t, _, rfl, ty, t3, _, rfl, k⟩
    · have h : isI x = false := by simpa using h
      rw [h] at k
      exact k
theorem eqY_nil {neg : Bool} {H : Hp} {a b : Addr} {acc : List V} {Q : VK} (ha : H a = some (.lst acc)) (hb : H b = some (.lst [])) (k : Q (.bl (if neg then !decide (acc.length = 0) else decide (acc.length = 0))) H) : EqR neg H (.ref a) (.ref b) Q ∨ rLens neg (.ref a) (.ref b) H Q := by
  cases acc with
  | nil =>
    refine .inl (.tr (.lst ha .nil) (.lst hb .nil) (by rfl) (by rfl) ?_)
    exact k
  | cons x xs =>
    refine .inr ⟨a, b, x :: xs, [], rfl, rfl, ha, hb, by simp, ?_⟩
    have e : decide ((x :: xs).length = 0) = false := decide_eq_false (by simp)
    rw [e] at k
    cases neg
    · exact k
    · exact k
structure Nl (ok : Nat → Prop) (i : Nat) (acc : List V) : Prop where
  le : acc.length ≤ i
  iff : acc.length = 0 ↔ ∀ j, j < i → ok j
theorem Nl.start {ok : Nat → Prop} : Nl ok 0 [] := ⟨Nat.le_refl _, fun _ j hj => by omega, fun _ => rfl⟩
theorem Nl.bad {ok : Nat → Prop} {i : Nat} {acc : List V} (h : Nl ok i acc) (hi : ¬ ok i) (y : V) : Nl ok (i + 1) (acc ++ [y]) := ⟨by rw [List.length_append]; have := h.le; simp; omega, fun z => by rw [List.length_append] at z; simp at z, fun z => absurd (z i (by omega)) hi⟩
theorem Nl.good {ok : Nat → Prop} {i : Nat} {acc : List V} (h : Nl ok i acc) (hi : ok i) : Nl ok (i + 1) acc := ⟨by have := h.le; omega, fun z j hj => by
  by_cases q : j = i
  · rw [q]; exact hi
  · exact h.iff.mp z j (by omega), fun z => h.iff.mpr fun j hj => z j (by omega)⟩
theorem chain_drop {ss : List Str} {es : List (Nat × Nat)} (nd : ss.Nodup) (val : ∀ e ∈ es, e.1 < ss.length ∧ e.2 < ss.length) {u v : Nat} (hu : u < ss.length) (hv : v < ss.length) : (nmA ss u, nmA ss v) ∈ es.map (nmP ss) ↔ (u, v) ∈ es := by
  constructor
  · intro h
    obtain ⟨e, he, ee⟩ := List.mem_map.mp h
    have h1 : nmA ss e.1 = nmA ss u := congrArg Prod.fst ee
    have h2 : nmA ss e.2 = nmA ss v := congrArg Prod.snd ee
    obtain ⟨v1, v2⟩ := val e he
    rw [← nmA_inj nd v1 hu h1, ← nmA_inj nd v2 hv h2]
    exact he
  · intro h
    exact List.mem_map.mpr ⟨(u, v), h, rfl⟩
theorem any_pairE {e : Str × Str} (he : Nm e.1 ∧ Nm e.2) (ts : List (Str × Str)) : ((ts.map pairD).any fun d => PyData.eqv d (pairD e)) = decide (e ∈ ts) := by
  rw [List.any_map, Bool.eq_iff_iff, List.any_eq_true, decide_eq_true_iff]
  constructor
  · rintro ⟨x, hx, h⟩
    have h : (PyData.eqv (.str x.1) (.str e.1) && (PyData.eqv (.str x.2) (.str e.2) && true)) = true := h
    rw [eqv_str, eqv_str, Bool.and_true, Bool.and_eq_true, decide_eq_true_iff, decide_eq_true_iff] at h
    rw [← show x = e from Prod.ext h.1 h.2]; exact hx
  · intro h
    refine ⟨e, h, ?_⟩
    show (PyData.eqv (.str e.1) (.str e.1) && (PyData.eqv (.str e.2) (.str e.2) && true)) = true
    rw [eqv_str, eqv_str, decide_eq_true rfl, decide_eq_true rfl]; rfl
theorem str_getL {xs : List Str} {i : Nat} {x : V} (h : (List.map V.str xs)[i]? = some x) : ∃ z, xs[i]? = some z ∧ x = .str z := by
  rw [List.getElem?_map] at h
  cases q : xs[i]? with
  | none => rw [q] at h; cases h
  | some e => rw [q] at h; exact ⟨e, rfl, (Option.some.inj h).symm⟩
theorem nmA_getL {ss : List Str} {xs : List Nat} {i : Nat} {x : V} (h : (List.map V.str (xs.map (nmA ss)))[i]? = some x) : ∃ a, xs[i]? = some a ∧ x = .str (nmA ss a) := by
  obtain ⟨z, hz, rfl⟩ := str_getL h
  rw [List.getElem?_map] at hz
  cases q : xs[i]? with
  | none => rw [q] at hz; cases hz
  | some a => rw [q] at hz; exact ⟨a, rfl, congrArg V.str (Option.some.inj hz).symm⟩
theorem shp_tnames {ss : List Str} (h : ∀ s ∈ ss, Nm s) : shp (.tuple (ss.map PyData.str)) := shp_names h
theorem canLay_pr1 {e : Str × Str} (h : Nm e.1 ∧ Nm e.2) : PyData.canLay0 (pairD e) = true := by
  have := canLay_prs [e] (fun f hf => by rw [List.mem_singleton.mp hf]; exact h)
  simpa [PyData.canLayAll0] using this
noncomputable def spLSh : Sp := fun vs H Q _ => ∃ (q x : V) (wa : Addr) (ss : List Str) (es : List (Nat × Nat)) (zs : List Int), vs = [q, .ref wa, x] ∧ Web H q ss (es.map (nmP ss)) ∧ ValE ss es ∧ H wa = some (.lst (intV zs)) ∧ zs.length = ss.length ∧ ThgT H x ∧ ∀ H', Same H H' → Q (.bl (dec (ToldOk H ss es zs x))) H'
theorem scLSh : FnScope ["_law_web_here", "_law_weights_here", "_law_told", "_law_most", "_law_some", "_law_numbers", "_law_own", "_law_here"] ["_law_web_here", "_law_weights_here", "_law_told"] (defScope sLShows) := ⟨rfl, rfl, rfl, by decide +kernel, rfl, by decide +kernel, by decide +kernel⟩
theorem ok_lsh {f : Addr} {fd : FuncData} (F : Fun K "_law_shows" "_law_shows" sLShows f fd) (B : Blt mg) (Zz : mg "zip" = none) (Zs : mg "sum" = none) (c_law_whole : Cal P w K mg base 1 "_law_whole" ["_law_thing"] spWholeX) : FnOk P w K mg base CX0 2 f fd ["_law_web_here", "_law_weights_here", "_law_told"] spLSh := by
  refine F.ok scLSh (fun vs H Q E h => ?_) (fun cdv A outer s H vs Q E hr h => ?_)
  · obtain ⟨q, x, wa, ss, es, zs, rfl, _⟩ := h
    rfl
  · obtain ⟨q, x, wa, ss, es, zs, rfl, W, val, hw, hzl, tx, k⟩ := h
    have nd := scLSh.nd
    have h60 := W.len
    obtain ⟨q', aa, cc, refs, e0, hq, ha, hcc, rp⟩ := web_at W.rep
    subst e0
    have no : ¬ ToldOk H ss es zs x → ∀ H', Same H H' → Q (.bl false) H' := fun h => by rw [dec_f h] at k; exact k
    refine ⟨_, (pss_cons (ps_if (pt_cmpR (op_eqX hr.units) (pe_ix (ix_X K hr.units) (pv 0) pe_int (fun _ _ => rfl)) (pe_tup pa_nil) (nomark _)) (pss_one (ps_ret (pe_cmpR op_isX (pv 2) pe_non (nomark _)))) pss_nil)
      (pss_cons (ps_if (PW.pt (pw_or (pt_not (pt_val (b_isi K "tuple" B (pa_cons (pv 2) (pa_cons (g_tuple B) pa_nil))))) (pw_or (pt_cmpR (op_neX hr.units) (b_len K B (pa_cons (pv 2) pa_nil)) pe_int (nomark _)) (pw_or1 (pt_not (pt_val (pe_cal c_law_whole (hr.mono (by decide)) rfl (pa_cons (pe_ix (ix_X K hr.units) (pv 2) pe_int (fun _ _ => rfl)) pa_nil)))))))) (pss_one (ps_ret pe_bl)) pss_nil)
      (pss_cons (ps_asg (pv 2) (pg_tupK (n := 3) K rfl (pgs_cons (pg_name (i := 3) nd rfl (Or.inr rfl)) (pgs_cons (pg_name (i := 4) nd rfl (Or.inl rfl)) (pgs_cons (pg_name (i := 5) nd rfl (Or.inl rfl)) pgs_nil)))))
      (pss_cons (ps_if (PW.pt (pw_or (pt_not (pt_val (b_isi K "list" B (pa_cons (pv 4) (pa_cons (g_list B) pa_nil))))) (pw_or (pt_cmpR (op_eqY hr.units) (pv 4) (pe_lst pa_nil) (nomark _)) (pw_or1 (pt_cmpR (op_neY hr.units) (pe_comp (defScope sLShows) ["_law_web_here", "_law_weights_here", "_law_told", "_law_most", "_law_some", "_law_numbers", "_law_own", "_law_here"] ["_law_one"] [0] ["_law_one", "_law_web_here"] rfl (pi_listK K (pv 4)) (fun _ _ _ _ _ => (pg_name (i := 0) (show (["_law_one", "_law_web_here"] : List Str).Nodup by decide) rfl (Or.inl rfl))) (fun _ _ _ _ _ => (pts_one (pt_cmpR (op_notInT K hr.units) (pv 0) (pe_ix (ix_X K hr.units) (pv 1) pe_int (fun _ _ => rfl)) (by with_unfolding_all rfl)))) (fun _ _ _ _ _ => (pv 0))) (pe_lst pa_nil) (nomark _)))))) (pss_one (ps_ret pe_bl)) pss_nil)
      (pss_cons (ps_if (pt_cmpR (op_neY hr.units) (pe_comp (defScope sLShows) ["_law_web_here", "_law_weights_here", "_law_told", "_law_most", "_law_some", "_law_numbers", "_law_own", "_law_here"] ["_law_pair"] [0] ["_law_pair", "_law_web_here"] rfl (pi_zip K rfl Zz (pa_cons (pv 4) (pa_cons (pe_slice (sl_K K) (pv 4) (po_some pe_int) po_none) pa_nil))) (fun _ _ _ _ _ => (pg_name (i := 0) (show (["_law_pair", "_law_web_here"] : List Str).Nodup by decide) rfl (Or.inl rfl))) (fun _ _ _ _ _ => (pts_one (pt_cmpR (op_notInDT hr.units) (pv 0) (pe_ix (ix_X K hr.units) (pv 1) pe_int (fun _ _ => rfl)) (by with_unfolding_all rfl)))) (fun _ _ _ _ _ => (pv 0))) (pe_lst pa_nil) (nomark _)) (pss_one (ps_ret pe_bl)) pss_nil)
      (pss_cons (ps_set (i := 6) nd rfl (Or.inr rfl) (pe_dzip K rfl hr.units B Zz (pa_cons (pe_ix (ix_X K hr.units) (pv 0) pe_int (fun _ _ => rfl)) (pa_cons (pv 1) pa_nil))))
      (pss_cons (ps_if (PW.pt (pw_or (pt_cmpR (op_neX hr.units) (b_sumL K rfl Zs (pa_cons (pe_comp (defScope sLShows) ["_law_web_here", "_law_weights_here", "_law_told", "_law_most", "_law_some", "_law_numbers", "_law_own", "_law_here"] ["_law_one"] [6] ["_law_one", "_law_own"] rfl (pi_listK K (pv 4)) (fun _ _ _ _ _ => (pg_name (i := 0) (show (["_law_one", "_law_own"] : List Str).Nodup by decide) rfl (Or.inl rfl))) (fun _ _ _ _ _ => pts_nil) (fun _ _ _ _ _ => (pe_ix (ix_X K hr.units) (pv 1) (pv 0) (fun _ _ => rfl)))) pa_nil)) (pv 3) (nomark _)) (pw_or (pt_not (pt_val (b_isi K "list" B (pa_cons (pv 5) (pa_cons (g_list B) pa_nil))))) (pw_or1 (pt_cmpR (op_neX hr.units) (b_len K B (pa_cons (pv 5) pa_nil)) (b_len K B (pa_cons (pe_ix (ix_X K hr.units) (pv 0) pe_int (fun _ _ => rfl)) pa_nil)) (nomark _)))))) (pss_one (ps_ret pe_bl)) pss_nil)
      (pss_cons (ps_if (pt_cmpR (op_neY hr.units) (pe_comp (defScope sLShows) ["_law_web_here", "_law_weights_here", "_law_told", "_law_most", "_law_some", "_law_numbers", "_law_own", "_law_here"] ["_law_one"] [] ["_law_one"] rfl (pi_listK K (pv 5)) (fun _ _ _ _ _ => (pg_name (i := 0) (show (["_law_one"] : List Str).Nodup by decide) rfl (Or.inl rfl))) (fun _ _ _ _ _ => (pts_one (pt_not (pt_val (pe_cal c_law_whole (hr.mono (by decide)) rfl (pa_cons (pv 0) pa_nil)))))) (fun _ _ _ _ _ => (pv 0))) (pe_lst pa_nil) (nomark _)) (pss_one (ps_ret pe_bl)) pss_nil)
      (pss_cons (ps_set (i := 7) nd rfl (Or.inr rfl) (pe_dzip K rfl hr.units B Zz (pa_cons (pe_ix (ix_X K hr.units) (pv 0) pe_int (fun _ _ => rfl)) (pa_cons (pv 5) pa_nil))))
      (pss_cons (ps_if (pt_cmpR (op_neY hr.units) (pe_comp (defScope sLShows) ["_law_web_here", "_law_weights_here", "_law_told", "_law_most", "_law_some", "_law_numbers", "_law_own", "_law_here"] ["_law_one"] [3, 7, 6] ["_law_one", "_law_most", "_law_here", "_law_own"] rfl (pi_tupK K (pe_ix (ix_X K hr.units) (pv 0) pe_int (fun _ _ => rfl))) (fun _ _ _ _ _ => (pg_name (i := 0) (show (["_law_one", "_law_most", "_law_here", "_law_own"] : List Str).Nodup by decide) rfl (Or.inl rfl))) (fun _ _ _ _ _ => (pts_one (PW.pt (pw_or (pt_cmpR op_ltX (pe_ix (ix_X K hr.units) (pv 2) (pv 0) (fun _ _ => rfl)) (pe_ix (ix_X K hr.units) (pv 3) (pv 0) (fun _ _ => rfl)) (nomark _)) (pw_or1 (pt_cmpR op_gt (pe_ix (ix_X K hr.units) (pv 2) (pv 0) (fun _ _ => rfl)) (pv 1) (nomark _))))))) (fun _ _ _ _ _ => (pv 0))) (pe_lst pa_nil) (nomark _)) (pss_one (ps_ret pe_bl)) pss_nil)
      (pss_one (ps_ret (pe_cmpR (op_eqY hr.units) (pe_comp (defScope sLShows) ["_law_web_here", "_law_weights_here", "_law_told", "_law_most", "_law_some", "_law_numbers", "_law_own", "_law_here"] ["_law_tie"] [7, 6] ["_law_tie", "_law_here", "_law_own"] rfl (pi_tupK K (pe_ix (ix_X K hr.units) (pv 0) pe_int (fun _ _ => rfl))) (fun _ _ _ _ _ => (pg_name (i := 0) (show (["_law_tie", "_law_here", "_law_own"] : List Str).Nodup by decide) rfl (Or.inl rfl))) (fun _ _ _ _ _ => (pts_one (pt_cmpR op_gt (pe_op op_addX (pe_ix (ix_X K hr.units) (pv 1) (pe_ix (ix_X K hr.units) (pv 0) pe_int (fun _ _ => rfl)) (fun _ _ => rfl)) (pe_ix (ix_X K hr.units) (pv 2) (pe_ix (ix_X K hr.units) (pv 0) pe_int (fun _ _ => rfl)) (fun _ _ => rfl))) (pe_ix (ix_X K hr.units) (pv 1) (pe_ix (ix_X K hr.units) (pv 0) pe_int (fun _ _ => rfl)) (fun _ _ => rfl)) (nomark _)))) (fun _ _ _ _ _ => (pv 0))) (pe_lst pa_nil) (nomark _)))))))))))))), ?_⟩
    refine ⟨_, rfl, .tup (.of hq) rfl ⟨(by show 0 ≤ sizeLine; decide), fun te hte => ?_⟩⟩
    have s1 := Same.new (o := .tup []) hte
    have e1 : upd H te (.tup []) te = some (.tup []) := upd_same
    generalize upd H te (.tup []) = H1 at s1 e1 ⊢
    have ee : PyData.eqv (.tuple (ss.map PyData.str)) (.tuple []) = decide (ss = []) := by cases ss <;> rfl
    refine .tr (da := .tuple (ss.map PyData.str)) (db := .tuple []) (.tup (s1 _ _ ha) (RepAll.of_strs ss)) (.tup e1 .nil) (shp_tnames W.nm) (by rfl) ⟨_, rfl, ?_⟩
    try dsimp only
    rw [ee]
    refine ite2 (fun h => ?_) (fun h => ?_)
    · have h : decide (ss = []) = true := h
      have e0 : ss = [] := of_decide_eq_true h
      refine ⟨_, rfl, .non ?_⟩
      have e : decide (x = .non) = dec (ToldOk H ss es zs x) := by
        rw [Bool.eq_iff_iff, decide_eq_true_iff, dec_iff]
        exact ⟨fun z => .inl ⟨e0, z⟩, fun z => z.elim (fun z => z.2) (fun z => absurd e0 z.1)⟩
      show Q (.bl (decide (x = .non))) _
      rw [e]
      exact k _ s1
    have hne : ss ≠ [] := fun z => h (decide_eq_true z)
    clear e1 ee hte
    have un : ToldOk H ss es zs x → ∃ (t : Addr) (M : Int) (y z : V), x = .ref t ∧ H t = some (.tup [.int M, y, z]) ∧ WayOk H ss es zs y M ∧ BndOk H ss es zs z M := fun z => z.elim (fun z => absurd z.1 hne) (fun z => z.2)
    obtain ⟨tt, ty, _, _, _, _, t5⟩ := ty_thg (K := K) (tx.1.1.same s1)
    refine ⟨_, rfl, _, tt, _, rfl, ty, t5, _, rfl, ite2 (fun hT => ?_) (fun hT => ?_)⟩
    · have hT : isT H1 x = false := by simpa using hT
      refine no (fun z => ?_) _ s1
      obtain ⟨t, M, y, z, rfl, ht, _⟩ := un z
      rw [isT_of (s1 _ _ ht)] at hT
      cases hT
    have hT : isT H x = true := by rw [← (isL_keep tx.1.1 s1).2]; simpa using hT
    obtain ⟨t, us, rfl, ht⟩ := isT_get hT
    have t1 := s1 _ _ ht
    have tu := tx.2 t us rfl ht
    refine ⟨_, rfl, _, _, rfl, SqA.len (K := K) (.inr t1), .sc rfl ⟨_, rfl, ite2 (fun hl => ?_) (fun hl => ?_)⟩⟩
    · refine no (fun z => ?_) _ s1
      obtain ⟨t', M, y, z, e, ht', _⟩ := un z
      cases e
      rw [ht] at ht'
      have := HO.tup.inj (Option.some.inj ht')
      subst this
      cases hl
    obtain ⟨x0, y, z, rfl⟩ : ∃ x0 y z, us = [x0, y, z] := by
      have hl : decide (V.int (us.length : Int) = V.int 3) = true := by simpa using hl
      have := V.int.inj (of_decide_eq_true hl)
      match us, this with
      | [a, b, c], _ => exact ⟨a, b, c, rfl⟩
      | [], h => cases h
      | [_], h => cases h
      | [_, _], h => cases h
      | _ :: _ :: _ :: _ :: _, h => simp only [List.length_cons] at h; omega
    have c0 := (tu x0 (by simp)).1
    have cy := tu y (by simp)
    have cz := tu z (by simp)
    refine ⟨_, rfl, .tup (.of t1) rfl ⟨_, rfl, c0.same s1, _, rfl, ite2 (fun h0 => ?_) (fun h0 => ?_)⟩⟩
    · have h0 : wh x0 = false := by simpa using h0
      refine no (fun z => ?_) _ s1
      obtain ⟨t', M, y, z, e, ht', _⟩ := un z
      cases e
      rw [ht] at ht'
      cases ht'
      cases h0
    obtain ⟨M, rfl⟩ := wh_get (x := x0) (by simpa using h0)
    have fin : ToldOk H ss es zs (.ref t) ↔ WayOk H ss es zs y M ∧ BndOk H ss es zs z M := by
      constructor
      · intro z
        obtain ⟨t', M', y', z', e, ht', r⟩ := un z
        cases e
        rw [ht] at ht'
        cases ht'
        exact r
      · intro r
        exact .inr ⟨hne, t, M, y, z, rfl, ht, r⟩
    clear un hT hl h0 c0 tu
    refine ⟨_, rfl, t, _, rfl, .of t1, rfl, _, _, rfl, _, _, rfl, _, _, rfl, rfl, ?_⟩
    obtain ⟨tt, ty, _, _, _, t4, _⟩ := ty_thg (K := K) (cy.1.same s1)
    refine ⟨_, rfl, _, tt, _, rfl, ty, t4, _, rfl, ite2 (fun hL => ?_) (fun hL => ?_)⟩
    · have hL : isL H1 y = false := by simpa using hL
      refine no (fun g => ?_) _ s1
      obtain ⟨l, xs, rfl, hl, _⟩ := (fin.mp g).1
      rw [isL_of (s1 _ _ hl)] at hL
      cases hL
    have hL : isL H y = true := by rw [← (isL_keep cy.1 s1).1]; simpa using hL
    obtain ⟨b, ys, rfl, hb⟩ := isL_get hL
    obtain ⟨y1000, yth⟩ := cy.2 b ys rfl hb
    clear hL
    refine ⟨_, rfl, (by show 0 ≤ sizeLine; decide), fun le hle => ?_⟩
    have s2' := Same.new (o := .lst []) hle
    have e2 : upd H1 le (.lst []) le = some (.lst []) := upd_same
    have s2 := s1.trans s2'
    generalize upd H1 le (.lst []) = H2 at s2 e2 ⊢
    refine eqY_nil (s2 _ _ hb) e2 ⟨_, rfl, ite2 (fun h => ?_) (fun h => ?_)⟩
    · have h : decide (ys.length = 0) = true := h
      have h := of_decide_eq_true h
      refine no (fun g => ?_) _ s2
      obtain ⟨l, xs, e, hl, hx0, _⟩ := (fin.mp g).1
      cases e
      rw [hb] at hl
      have := HO.lst.inj (Option.some.inj hl)
      subst this
      rw [List.length_map, List.length_map] at h
      exact hx0 (List.length_eq_zero_iff.mp h)
    have ypos : 0 < ys.length := Nat.pos_of_ne_zero fun z => h (decide_eq_true z)
    clear e2 s2' hle h
    have hb2 := s2 _ _ hb
    refine ⟨_, rfl, b, rfl, ⟨_, .of hb2⟩, ?_⟩
    refine comp_list ys (fun D i acc σ' H' => ∃ o, σ' = [o, some (.ref q')] ∧ Nl (fun j => ∀ v, ys[j]? = some v → inSS ss v = true) i acc ∧ Same H2 H' ∧ H2 D = none) fun D hD => ⟨?_, ?_, ?_, ?_⟩
    · exact ⟨none, rfl, .start, Same.new hD, hD⟩
    · rintro i acc σ' H' _ ⟨o, rfl, _, sm, _⟩ _
      exact .of (sm _ _ hb2)
    · rintro i acc σ' H' x hx ⟨o, rfl, nl, sm, hD0⟩ hacc
      have hil := (List.getElem?_eq_some_iff.mp hx).1
      have sm0 := s2.trans sm
      have tx := (yth x (List.mem_of_getElem? hx)).same sm0
      have le := nl.le
      refine ⟨_, rfl, _, rfl, .tup (.of (sm0 _ _ hq)) rfl ⟨aa, ss, rfl, Or.inr (.of (sm0 _ _ ha)), tx, ⟨_, rfl, ite2 (fun h => ?_) (fun h => ?_)⟩⟩⟩
      · have h : (!inSS ss x) = true := h
        refine ⟨_, rfl, hacc, small1000 (by omega), _, rfl, nl.bad (fun z => ?_) _, same_at sm hD0, hD0⟩
        rw [z x hx] at h
        cases h
      · have h : ¬ (!inSS ss x) = true := h
        refine ⟨hacc, _, rfl, nl.good (fun v hv => ?_), sm, hD0⟩
        rw [hx] at hv
        cases hv
        simpa using h
    rintro acc σ' H3 ⟨o, rfl, nl, s3, hD0⟩ hacc
    refine ⟨(by show 0 ≤ sizeLine; decide), fun le hle => ?_⟩
    have s4' := Same.new (o := .lst []) hle
    have e4 : upd H3 le (.lst []) le = some (.lst []) := upd_same
    have s4 := (s2.trans s3).trans s4'
    have hacc := s4' _ _ hacc
    generalize upd H3 le (.lst []) = H4 at s4 e4 hacc ⊢
    refine eqY_nil hacc e4 ⟨_, rfl, ite2 (fun h => ?_) (fun h => ?_)⟩
    · refine no (fun g => ?_) _ s4
      have h : (!decide (acc.length = 0)) = true := h
      obtain ⟨l, xs, e, hl, _, hx, _⟩ := (fin.mp g).1
      cases e
      rw [hb] at hl
      have := HO.lst.inj (Option.some.inj hl)
      subst this
      rw [decide_eq_true (nl.iff.mpr fun j _ v hv => ?_)] at h
      · cases h
      · have := inSS_all (ss := ss) (ws := xs.map (nmA ss)) fun w hw => by
          obtain ⟨v, hv, rfl⟩ := List.mem_map.mp hw
          exact mem_getD (hx v hv)
        exact List.all_eq_true.mp this v (List.mem_of_getElem? hv)
    have h : ¬ (!decide (acc.length = 0)) = true := h
    have hall : ys.all (inSS ss) = true := by
      have h0 : acc.length = 0 := by simpa using h
      rw [List.all_eq_true]
      intro v hv
      obtain ⟨j, hj⟩ := List.getElem?_of_mem hv
      exact nl.iff.mp h0 j (List.getElem?_eq_some_iff.mp hj).1 v hj
    obtain ⟨xs, rfl, hx⟩ := names_num hall
    clear h nl e4 hacc s4' hle hall yth s3 hD0 hb2
    rw [List.length_map, List.length_map] at ypos y1000
    have hx0 : xs ≠ [] := List.length_pos_iff.mp ypos
    have uniq : WayOk H ss es zs (.ref b) M → Chain es xs ∧ sumI (wOf zs) xs = M := by
      rintro ⟨l', xs', e, hl', h1, h2, h3, h4⟩
      cases e
      rw [hb] at hl'
      have := nums_inj W.nd hx h2 (HO.lst.inj (Option.some.inj hl'))
      subst this
      exact ⟨h3, h4⟩
    have hb4 := s4 _ _ hb
    refine ⟨_, rfl, _, rfl, _, rfl, .lst (.of hb4) fun l5 hl5 => ?_⟩
    rw [show (1 : Int) = ((1 : Nat) : Int) from rfl, cut_from, ← List.map_drop, ← List.map_drop]
    have s5' := Same.new (o := .lst (List.map V.str ((xs.drop 1).map (nmA ss)))) hl5
    have e5 : upd H4 l5 (.lst (List.map V.str ((xs.drop 1).map (nmA ss)))) l5 = some (.lst (List.map V.str ((xs.drop 1).map (nmA ss)))) := upd_same
    have s5 := s4.trans s5'
    generalize upd H4 l5 (.lst (List.map V.str ((xs.drop 1).map (nmA ss)))) = H5 at s5 e5 ⊢
    clear s5' hl5 hb4 s4
    have hb5 := s5 _ _ hb
    have nme : ∀ e ∈ es.map (nmP ss), Nm e.1 ∧ Nm e.2 := fun e he => ⟨W.nm _ (W.inn e he).1, W.nm _ (W.inn e he).2⟩
    refine ⟨b, l5, _, _, rfl, .of hb5, .of e5, ?_⟩
    have zl : ((List.map V.str (xs.map (nmA ss))).zip (List.map V.str ((xs.drop 1).map (nmA ss)))).length = xs.length - 1 := by
      rw [List.length_zip, List.length_map, List.length_map, List.length_map, List.length_map, List.length_drop]; omega
    refine comp_zip (List.map V.str (xs.map (nmA ss))) (List.map V.str ((xs.drop 1).map (nmA ss))) (fun D i acc σ' H' => ∃ o, σ' = [o, some (.ref q')] ∧ Nl (fun j => ∀ u v, xs[j]? = some u → xs[j + 1]? = some v → (u, v) ∈ es) i acc ∧ Same H5 H' ∧ H5 D = none) fun D2 hD2 => ⟨?_, ?_, ?_, ?_⟩
    · exact ⟨none, rfl, .start, Same.new hD2, hD2⟩
    · rintro i acc σ' H' _ ⟨o, rfl, _, sm, _⟩ _
      exact ⟨.of (sm _ _ hb5), .of (sm _ _ e5)⟩
    · rintro i acc σ' H' x y pp hxy ⟨o, rfl, nl, sm, hD0⟩ hacc hpp
      have hil := (List.getElem?_eq_some_iff.mp hxy).1
      rw [zl] at hil
      rw [List.getElem?_zip_eq_some] at hxy
      obtain ⟨u, hu, rfl⟩ := nmA_getL hxy.1
      obtain ⟨v', hv', rfl⟩ := nmA_getL hxy.2
      rw [List.getElem?_drop, Nat.add_comm] at hv'
      have hun := hx u (List.mem_of_getElem? hu)
      have hvn := hx v' (List.mem_of_getElem? hv')
      have hnm : Nm (nmA ss u) ∧ Nm (nmA ss v') := ⟨W.nm _ (mem_getD hun), W.nm _ (mem_getD hvn)⟩
      have sp := Same.new (o := .tup [V.str (nmA ss u), V.str (nmA ss v')]) hpp
      have smp := (s5.trans sm).trans sp
      have le := nl.le
      refine ⟨_, rfl, _, rfl, .tup (.of (smp _ _ hq)) rfl ⟨cc, refs, _, pairD (nmA ss u, nmA ss v'), rfl, smp _ _ hcc, rp.same smp, pair_rep upd_same, canLay_prs _ nme, canLay_pr1 hnm, (by show 1 ≤ 16; decide), _, rfl, ?_⟩⟩
      rw [any_pairE hnm]
      refine ite2 (fun h => ?_) (fun h => ?_)
      · have h : (!decide ((nmA ss u, nmA ss v') ∈ es.map (nmP ss))) = true := h
        refine ⟨_, rfl, sp _ _ hacc, small1000 (by omega), _, rfl, nl.bad (fun z => ?_) _, same_at (sm.trans sp) hD0, hD0⟩
        rw [decide_eq_true ((chain_drop W.nd val hun hvn).mpr (z u v' hu hv'))] at h
        cases h
      · have h : ¬ (!decide ((nmA ss u, nmA ss v') ∈ es.map (nmP ss))) = true := h
        have h : (nmA ss u, nmA ss v') ∈ es.map (nmP ss) := by simpa using h
        refine ⟨sp _ _ hacc, _, rfl, nl.good (fun a c h1 h2 => ?_), sm.trans sp, hD0⟩
        rw [hu] at h1
        rw [hv'] at h2
        cases h1
        cases h2
        exact (chain_drop W.nd val hun hvn).mp h
    rintro acc σ' H6 ⟨o, rfl, nl, s6, hD0⟩ hacc
    rw [zl] at nl
    refine ⟨(by show 0 ≤ sizeLine; decide), fun le hle => ?_⟩
    have s7' := Same.new (o := .lst []) hle
    have e7 : upd H6 le (.lst []) le = some (.lst []) := upd_same
    have s7 := (s5.trans s6).trans s7'
    have hacc := s7' _ _ hacc
    generalize upd H6 le (.lst []) = H7 at s7 e7 hacc ⊢
    have chi : acc.length = 0 ↔ Chain es xs := by
      rw [nl.iff]
      constructor
      · intro g i u v hu hv
        exact g i (by have := (List.getElem?_eq_some_iff.mp hv).1; omega) u v hu hv
      · intro g j _ u v hu hv
        exact g j u v hu hv
    refine eqY_nil hacc e7 ⟨_, rfl, ite2 (fun h => ?_) (fun h => ?_)⟩
    · refine no (fun g => ?_) _ s7
      have h : (!decide (acc.length = 0)) = true := h
      rw [decide_eq_true (chi.mpr (uniq (fin.mp g).1).1)] at h
      cases h
    have h : ¬ (!decide (acc.length = 0)) = true := h
    have ch : Chain es xs := chi.mp (by simpa using h)
    clear chi h nl hacc e7 s7' hle s6 hD0 zl e5 hb5 s5
    refine ⟨_, rfl, .tup (.of (s7 _ _ hq)) rfl ⟨_, rfl, aa, wa, ss, intV zs, rfl, .of (s7 _ _ ha), .of (s7 _ _ hw), by rw [intV_len]; omega, by omega, fun d H8 hd0 s8' d8 => ?_⟩⟩
    rw [mkK_zip ss _ W.nd] at d8
    have s8 := s7.trans s8'
    have b8 := s8 _ _ hb
    clear s8' hd0 s7
    refine ⟨_, rfl, b, rfl, ⟨_, .of b8⟩, ?_⟩
    refine comp_list (List.map V.str (xs.map (nmA ss))) (fun D i acc σ' H' => ∃ o, σ' = [o, some (.ref d)] ∧ acc = List.map V.int ((xs.take i).map (wOf zs)) ∧ Same H8 H' ∧ H8 D = none) fun D3 hD3 => ⟨?_, ?_, ?_, ?_⟩
    · exact ⟨none, rfl, rfl, Same.new hD3, hD3⟩
    · rintro i acc σ' H' _ ⟨o, rfl, _, sm, _⟩ _
      exact .of (sm _ _ b8)
    · rintro i acc σ' H' x hxi ⟨o, rfl, rfl, sm, hD0⟩ hacc
      obtain ⟨u, hu, rfl⟩ := nmA_getL hxi
      have hil := (List.getElem?_eq_some_iff.mp hu).1
      have hun := hx u (List.mem_of_getElem? hu)
      refine gYes ?_
      refine ⟨_, rfl, _, rfl, .dic (.inl ⟨_, .inr (nmA ss u), .inl (sm _ _ d8), rfl, (valV_zip W.nd (nmA_get hun) (wOf_get (by omega))).symm⟩) ⟨hacc, ?_, _, rfl, ?_, same_at sm hD0, hD0⟩⟩
      · rw [List.length_map, List.length_map, List.length_take]; exact small1000 (by omega)
      · rw [List.take_add_one, hu, List.map_append, List.map_append]; rfl
    rintro acc σ' H9 ⟨o, rfl, rfl, s9', hD0⟩ hacc
    rw [List.length_map, List.length_map, List.take_of_length_le (Nat.le_refl _)] at hacc
    have s9 := s8.trans s9'
    have d9 := s9' _ _ d8
    refine ⟨D3, _, rfl, .of hacc, ?_⟩
    rw [sum_int]
    clear hacc hD0 s9' d8 b8 s8
    refine ⟨_, rfl, .sc rfl ⟨_, rfl, ite2 (fun h => ?_) (fun h => ?_)⟩⟩
    · have h : (!decide (V.int (sumI (wOf zs) xs) = V.int M)) = true := h
      refine no (fun g => ?_) _ s9
      rw [decide_eq_true (by rw [(uniq (fin.mp g).1).2])] at h
      cases h
    have h : ¬ (!decide (V.int (sumI (wOf zs) xs) = V.int M)) = true := h
    have hsum : sumI (wOf zs) xs = M := by simpa using h
    have fin2 : ToldOk H ss es zs (.ref t) ↔ BndOk H ss es zs z M := fin.trans ⟨fun g => g.2, fun g => ⟨⟨b, xs, rfl, hb, hx0, hx, ch, hsum⟩, g⟩⟩
    clear h uniq fin
    have cz9 := cz.1.same s9
    obtain ⟨tt, ty, _, _, _, t4, _⟩ := ty_thg (K := K) cz9
    refine ⟨_, rfl, _, tt, _, rfl, ty, t4, _, rfl, ite2 (fun hL => ?_) (fun hL => ?_)⟩
    · have hL : isL H9 z = false := by simpa using hL
      refine no (fun g => ?_) _ s9
      obtain ⟨l, bs, rfl, hl, _⟩ := fin2.mp g
      rw [isL_of (s9 _ _ hl)] at hL
      cases hL
    have hL : isL H z = true := by rw [← (isL_keep cz.1 s9).1]; simpa using hL
    obtain ⟨lb, ns, rfl, hlb⟩ := isL_get hL
    obtain ⟨n1000, nth⟩ := cz.2 lb ns rfl hlb
    clear hL
    have lb9 := s9 _ _ hlb
    refine ⟨_, rfl, _, _, rfl, SqA.len (K := K) (.inl lb9), _, rfl, .tup (.of (s9 _ _ hq)) rfl ⟨_, _, rfl, SqA.len (K := K) (.inr (s9 _ _ ha)), .sc rfl ⟨_, rfl, ite2 (fun h => ?_) (fun h => ?_)⟩⟩⟩
    · refine no (fun g => ?_) _ s9
      obtain ⟨l, bs, e, hl, hlen, _⟩ := fin2.mp g
      cases e
      rw [hlb] at hl
      have := HO.lst.inj (Option.some.inj hl)
      subst this
      have h : (!decide (V.int (((intV bs).length : Nat) : Int) = V.int (((List.map V.str ss).length : Nat) : Int))) = true := h
      rw [intV_len, List.length_map, hlen, decide_eq_true rfl] at h
      cases h
    have nlen : ns.length = ss.length := by
      have h : ¬ (!decide (V.int ((ns.length : Nat) : Int) = V.int (((List.map V.str ss).length : Nat) : Int))) = true := h
      rw [List.length_map] at h
      have h : V.int ((ns.length : Nat) : Int) = V.int ((ss.length : Nat) : Int) := by simpa using h
      have := V.int.inj h
      omega
    clear h
    refine ⟨_, rfl, lb, rfl, ⟨_, .of lb9⟩, ?_⟩
    refine comp_list ns (fun D i acc σ' H' => ∃ o, σ' = [o] ∧ Nl (fun j => ∀ v, ns[j]? = some v → wh v = true) i acc ∧ Same H9 H' ∧ H9 D = none) fun D hD => ⟨?_, ?_, ?_, ?_⟩
    · exact ⟨none, rfl, .start, Same.new hD, hD⟩
    · rintro i acc σ' H' _ ⟨o, rfl, _, sm, _⟩ _
      exact .of (sm _ _ lb9)
    · rintro i acc σ' H' x hxi ⟨o, rfl, nl, sm, hD0⟩ hacc
      have hil := (List.getElem?_eq_some_iff.mp hxi).1
      have sm0 := s9.trans sm
      have tx := (nth x (List.mem_of_getElem? hxi)).same sm0
      have le := nl.le
      refine ⟨_, rfl, _, rfl, tx, _, rfl, ite2 (fun h => ?_) (fun h => ?_)⟩
      · have h : (!wh x) = true := h
        refine ⟨_, rfl, hacc, small1000 (by omega), _, rfl, nl.bad (fun z => ?_) _, same_at sm hD0, hD0⟩
        rw [z x hxi] at h
        cases h
      · have h : ¬ (!wh x) = true := h
        refine ⟨hacc, _, rfl, nl.good (fun v hv => ?_), sm, hD0⟩
        rw [hxi] at hv
        cases hv
        simpa using h
    rintro acc σ' HA ⟨o, rfl, nl, sA', hD0⟩ hacc
    refine ⟨(by show 0 ≤ sizeLine; decide), fun le hle => ?_⟩
    have sB' := Same.new (o := .lst []) hle
    have eB : upd HA le (.lst []) le = some (.lst []) := upd_same
    have sB := (s9.trans sA').trans sB'
    have dB := sB' _ _ (sA' _ _ d9)
    have hacc := sB' _ _ hacc
    generalize upd HA le (.lst []) = HB at sB dB eB hacc ⊢
    refine eqY_nil hacc eB ⟨_, rfl, ite2 (fun h => ?_) (fun h => ?_)⟩
    · refine no (fun g => ?_) _ sB
      have h : (!decide (acc.length = 0)) = true := h
      obtain ⟨l, bs, e, hl, _⟩ := fin2.mp g
      cases e
      rw [hlb] at hl
      have := HO.lst.inj (Option.some.inj hl)
      subst this
      rw [decide_eq_true (nl.iff.mpr fun j _ v hv => List.all_eq_true.mp (intV_wh bs) v (List.mem_of_getElem? hv))] at h
      cases h
    have h : ¬ (!decide (acc.length = 0)) = true := h
    have hall : ns.all wh = true := by
      have h0 : acc.length = 0 := by simpa using h
      rw [List.all_eq_true]
      intro v hv
      obtain ⟨j, hj⟩ := List.getElem?_of_mem hv
      exact nl.iff.mp h0 j (List.getElem?_eq_some_iff.mp hj).1 v hj
    obtain ⟨bs, rfl⟩ := wh_ints hall
    clear h nl eB hacc sB' hle hall nth sA' hD0 lb9 d9 s9 cz9
    rw [intV_len] at nlen
    have uniq : ToldOk H ss es zs (.ref t) ↔ (∀ u, u < ss.length → wOf zs u ≤ wOf bs u ∧ wOf bs u ≤ M) ∧ ∀ e ∈ es, wOf bs e.1 + wOf zs e.2 ≤ wOf bs e.2 := fin2.trans (by
      constructor
      · rintro ⟨l', bs', e, hl', h1, h2, h3⟩
        cases e
        rw [hlb] at hl'
        have := intV_inj (HO.lst.inj (Option.some.inj hl'))
        subst this
        exact ⟨h2, h3⟩
      · rintro ⟨h2, h3⟩
        exact ⟨lb, bs, rfl, hlb, nlen, h2, h3⟩)
    clear fin2
    refine ⟨_, rfl, .tup (.of (sB _ _ hq)) rfl ⟨_, rfl, aa, lb, ss, intV bs, rfl, .of (sB _ _ ha), .of (sB _ _ hlb), by rw [intV_len]; omega, by omega, fun d' HC hd0 sC' dC' => ?_⟩⟩
    rw [mkK_zip ss _ W.nd] at dC'
    have sC := sB.trans sC'
    have dC := sC' _ _ dB
    clear sC' hd0 sB dB
    refine ⟨_, rfl, .tup (.of (sC _ _ hq)) rfl ⟨aa, rfl, ⟨_, .of (sC _ _ ha)⟩, ?_⟩⟩
    refine comp_tup (List.map V.str ss) (fun D i acc σ' H' => ∃ o, σ' = [o, some (.int M), some (.ref d'), some (.ref d)] ∧ Nl (fun u => wOf zs u ≤ wOf bs u ∧ wOf bs u ≤ M) i acc ∧ Same HC H' ∧ HC D = none) fun D hD => ⟨?_, ?_, ?_, ?_⟩
    · exact ⟨none, rfl, .start, Same.new hD, hD⟩
    · rintro i acc σ' H' _ ⟨o, rfl, _, sm, _⟩ _
      exact .of (sm _ _ (sC _ _ ha))
    · rintro i acc σ' H' x hxi ⟨o, rfl, nl, sm, hD0⟩ hacc
      obtain ⟨z, hz, rfl⟩ := str_getL hxi
      have hil := (List.getElem?_eq_some_iff.mp hz).1
      have g1 := valV_zip W.nd hz (wOf_get (zs := zs) (v := i) (by omega))
      have g2 := valV_zip W.nd hz (wOf_get (zs := bs) (v := i) (by omega))
      have le := nl.le
      have put : ¬ (wOf zs i ≤ wOf bs i ∧ wOf bs i ≤ M) → ∃ o, [some (V.str z), some (.int M), some (.ref d'), some (.ref d)] = [o, some (V.int M), some (.ref d'), some (.ref d)] ∧ Nl (fun u => wOf zs u ≤ wOf bs u ∧ wOf bs u ≤ M) (i + 1) (acc ++ [V.str z]) ∧ Same HC (upd H' D (.lst (acc ++ [V.str z]))) ∧ HC D = none := fun h => ⟨_, rfl, nl.bad h _, same_at sm hD0, hD0⟩
      refine ⟨_, rfl, _, rfl, .dic (.inl ⟨_, .inr z, .inl (sm _ _ dC'), rfl, g2.symm⟩) ⟨_, rfl, _, rfl, .dic (.inl ⟨_, .inr z, .inl (sm _ _ dC), rfl, g1.symm⟩) (.int ⟨_, rfl, ite2 (fun h => ?_) (fun h => ?_)⟩)⟩⟩
      · have h : decide (wOf bs i < wOf zs i) = true := h
        have h := of_decide_eq_true h
        exact ⟨_, rfl, hacc, small1000 (by omega), put fun z => by omega⟩
      have h : ¬ decide (wOf bs i < wOf zs i) = true := h
      have h1 : wOf zs i ≤ wOf bs i := by
        have : ¬ wOf bs i < wOf zs i := fun z => h (decide_eq_true z)
        omega
      refine ⟨_, rfl, _, rfl, .dic (.inl ⟨_, .inr z, .inl (sm _ _ dC'), rfl, g2.symm⟩) ⟨_, rfl, _, _, rfl, rfl, _, rfl, ite2 (fun h => ?_) (fun h => ?_)⟩⟩
      · have h : decide (M < wOf bs i) = true := h
        have h := of_decide_eq_true h
        exact ⟨_, rfl, hacc, small1000 (by omega), put fun z => by omega⟩
      · have h : ¬ decide (M < wOf bs i) = true := h
        have h2 : wOf bs i ≤ M := by
          have : ¬ M < wOf bs i := fun z => h (decide_eq_true z)
          omega
        exact ⟨hacc, _, rfl, nl.good ⟨h1, h2⟩, sm, hD0⟩
    rintro acc σ' HD ⟨o, rfl, nl, sD', hD0⟩ hacc
    rw [List.length_map] at nl
    refine ⟨(by show 0 ≤ sizeLine; decide), fun le hle => ?_⟩
    have sE' := Same.new (o := .lst []) hle
    have eE : upd HD le (.lst []) le = some (.lst []) := upd_same
    have sE := (sC.trans sD').trans sE'
    have dE := sE' _ _ (sD' _ _ dC)
    have dE' := sE' _ _ (sD' _ _ dC')
    have hacc := sE' _ _ hacc
    generalize upd HD le (.lst []) = HE at sE dE dE' eE hacc ⊢
    refine eqY_nil hacc eE ⟨_, rfl, ite2 (fun h => ?_) (fun h => ?_)⟩
    · refine no (fun g => ?_) _ sE
      have h : (!decide (acc.length = 0)) = true := h
      rw [decide_eq_true (nl.iff.mpr (uniq.mp g).1)] at h
      cases h
    have h : ¬ (!decide (acc.length = 0)) = true := h
    have hg := nl.iff.mp (by simpa using h)
    clear h nl eE hacc sE' hle sD' hD0 sC dC dC'
    have rpE := rp.same sE
    have rlen := rp.len
    rw [List.length_map, List.length_map] at rlen
    have few := W.few
    rw [List.length_map] at few
    have ccE := sE _ _ hcc
    refine ⟨_, rfl, .tup (.of (sE _ _ hq)) rfl ⟨cc, rfl, ⟨_, .of ccE⟩, ?_⟩⟩
    refine comp_tup refs (fun D i acc σ' H' => ∃ o, σ' = [o, some (.ref d'), some (.ref d)] ∧ Nl (fun j => ∀ e, es[j]? = some e → wOf bs e.1 + wOf zs e.2 ≤ wOf bs e.2) i acc ∧ Same HE H' ∧ HE D = none) fun D hD => ⟨?_, ?_, ?_, ?_⟩
    · exact ⟨none, rfl, .start, Same.new hD, hD⟩
    · rintro i acc σ' H' _ ⟨o, rfl, _, sm, _⟩ _
      exact .of (sm _ _ ccE)
    · rintro i acc σ' H' x hxi ⟨o, rfl, nl, sm, hD0⟩ hacc
      have hil := (List.getElem?_eq_some_iff.mp hxi).1
      rw [rlen] at hil
      obtain ⟨e, ta, he, rfl, hta⟩ := pair_get (rpE.same sm) hxi
      rw [List.getElem?_map, List.getElem?_eq_getElem hil] at he
      have he : nmP ss es[i] = e := Option.some.inj he
      have hin : es[i] ∈ es := List.getElem_mem hil
      obtain ⟨v1, v2⟩ := val _ hin
      subst he
      have le := nl.le
      have c1 := valV_zip W.nd (nmA_get v1) (wOf_get (zs := bs) (v := es[i].1) (by omega))
      have c2 := valV_zip W.nd (nmA_get v2) (wOf_get (zs := bs) (v := es[i].2) (by omega))
      have c3 := valV_zip W.nd (nmA_get v2) (wOf_get (zs := zs) (v := es[i].2) (by omega))
      refine ⟨_, rfl, _, rfl, .tup (.of hta) rfl (.dic (.inl ⟨_, .inr (nmA ss es[i].1), .inl (sm _ _ dE'), rfl, c1.symm⟩) ⟨_, rfl, _, rfl, .tup (.of hta) rfl (.dic (.inl ⟨_, .inr (nmA ss es[i].2), .inl (sm _ _ dE), rfl, c3.symm⟩) (.int ⟨_, rfl, _, rfl, .tup (.of hta) rfl (.dic (.inl ⟨_, .inr (nmA ss es[i].2), .inl (sm _ _ dE'), rfl, c2.symm⟩) ⟨_, _, rfl, rfl, _, rfl, ite2 (fun h => ?_) (fun h => ?_)⟩)⟩))⟩)⟩
      · have h : decide (wOf bs es[i].2 < wOf bs es[i].1 + wOf zs es[i].2) = true := h
        have h := of_decide_eq_true h
        refine ⟨_, rfl, hacc, small1000 (by omega), _, rfl, nl.bad (fun z => ?_) _, same_at sm hD0, hD0⟩
        have := z es[i] (List.getElem?_eq_getElem hil)
        omega
      · have h : ¬ decide (wOf bs es[i].2 < wOf bs es[i].1 + wOf zs es[i].2) = true := h
        have h : ¬ wOf bs es[i].2 < wOf bs es[i].1 + wOf zs es[i].2 := fun z => h (decide_eq_true z)
        refine ⟨hacc, _, rfl, nl.good (fun e he => ?_), sm, hD0⟩
        rw [List.getElem?_eq_getElem hil] at he
        cases he
        omega
    rintro acc σ' HF ⟨o, rfl, nl, sF', hD0⟩ hacc
    rw [rlen] at nl
    refine ⟨(by show 0 ≤ sizeLine; decide), fun le hle => ?_⟩
    have sG' := Same.new (o := .lst []) hle
    have eG : upd HF le (.lst []) le = some (.lst []) := upd_same
    have sG := (sE.trans sF').trans sG'
    have hacc := sG' _ _ hacc
    generalize upd HF le (.lst []) = HG at sG eG hacc ⊢
    refine eqY_nil hacc eG ?_
    have e : decide (acc.length = 0) = dec (ToldOk H ss es zs (.ref t)) := by
      rw [Bool.eq_iff_iff, decide_eq_true_iff, dec_iff, uniq, nl.iff]
      constructor
      · intro g
        refine ⟨hg, fun e he => ?_⟩
        obtain ⟨j, hj, rfl⟩ := List.mem_iff_getElem.mp he
        exact g j hj _ (List.getElem?_eq_getElem hj)
      · intro g j hj e he
        exact g.2 e (List.mem_of_getElem? he)
    show Q (.bl (decide (acc.length = 0))) HG
    rw [e]
    exact k _ sG
end
end K25
namespace K25
open PySem L2
section
variable {P : Program} {w : World} {K : PySem.W.Frag} {mg : Str → Option Value} {base : Heap}
open Classical in
noncomputable def Mq (N : Addr → Prop) (H : Hp) : Hp := fun a => if N a then H a else none
theorem Mq.at {N : Addr → Prop} {b : Addr} {H : Hp} {o : HO} (h : H b = some o) (n : N b) : Mq N H b = some o := by unfold Mq; rw [if_pos n]; exact h
theorem Mq.of {N : Addr → Prop} {H : Hp} : Same (Mq N H) H := fun b o h => by
  unfold Mq at h
  split at h
  · exact h
  · cases h
theorem Mq.but {N : Addr → Prop} {H H' : Hp} (b : ButN N H H') : Same (Mq N H) (Mq N H') := fun c o h => by
  unfold Mq at h
  split at h
  · rename_i n; exact Mq.at (b c o n h) n
  · cases h
theorem Mq.ban {N : Addr → Prop} {H : Hp} {l : Addr} (h : H l = none) : Same (Mq N H) (Mq (fun c => N c ∧ c ≠ l) H) := fun c o e => by
  unfold Mq at e
  split at e
  · rename_i n; exact Mq.at e ⟨n, fun z => by rw [z, h] at e; cases e⟩
  · cases e
theorem Mq.imp {N N' : Addr → Prop} {H : Hp} (i : ∀ c, N c → N' c) : Same (Mq N H) (Mq N' H) := fun c o e => by
  unfold Mq at e
  split at e
  · rename_i n; exact Mq.at e (i _ n)
  · cases e
noncomputable def Sh (n k : Nat) (H : Hp) (x : V) : Prop := ∃ d, RpD H x d ∧ Sv d n k
theorem Sh.same {n k : Nat} {H H' : Hp} {x : V} (h : Sh n k H x) (s : Same H H') : Sh n k H' x := let ⟨d, a, b⟩ := h; ⟨d, a.same s, b⟩
theorem Sh.mono {n k n' k' : Nat} {H : Hp} {x : V} (h : Sh n k H x) (hn : n ≤ n' := by decide) (hk : k ≤ k' := by decide) : Sh n' k' H x := let ⟨d, a, b⟩ := h; ⟨d, a, b.mono hn hk⟩
theorem shs {n k : Nat} {H : Hp} : ∀ {xs : List V}, (∀ v ∈ xs, Sh n k H v) → ∃ ds, RpDs H xs ds ∧ ds.length = xs.length ∧ ∀ d ∈ ds, Sv d n k
  | [], _ => ⟨[], .nil, rfl, fun _ h => by cases h⟩
  | x :: xs, h => by
    obtain ⟨ds, r, l, sv⟩ := shs fun y hy => h y (List.mem_cons_of_mem _ hy)
    obtain ⟨d, rd, sd⟩ := h x (by simp)
    refine ⟨d :: ds, .cons rd r, by rw [List.length_cons, l]; rfl, fun e he => ?_⟩
    rcases List.mem_cons.mp he with rfl | he
    · exact sd
    · exact sv e he
theorem Sh.lst {n k m : Nat} {H : Hp} {a : Addr} {xs : List V} (h : H a = some (.lst xs)) (hm : xs.length ≤ m) (hx : ∀ v ∈ xs, Sh n k H v) : Sh (2 + m * (n + 2)) (k + 1) H (.ref a) := by
  obtain ⟨ds, r, l, sv⟩ := shs hx
  exact ⟨_, .lst h r, Sv.list sv (by omega)⟩
theorem Sh.tup {n k m : Nat} {H : Hp} {a : Addr} {xs : List V} (h : H a = some (.tup xs)) (hm : xs.length ≤ m) (hx : ∀ v ∈ xs, Sh n k H v) : Sh (3 + m * (n + 2)) (k + 1) H (.ref a) := by
  obtain ⟨ds, r, l, sv⟩ := shs hx
  exact ⟨_, .tup h r, Sv.tuple sv (by omega)⟩
noncomputable def G0 (N : Addr → Prop) (H : Hp) (x : V) : Prop := Thg (Mq N H) x ∧ Sh 150 1 (Mq N H) x
noncomputable def G1 (N : Addr → Prop) (H : Hp) (x : V) : Prop := ThgL (Mq N H) x ∧ Sh 6100 2 (Mq N H) x
noncomputable def G2 (N : Addr → Prop) (H : Hp) (x : V) : Prop := ThgT (Mq N H) x ∧ Sh 25000 3 (Mq N H) x
section
variable {N N' : Addr → Prop} {H H' : Hp} {x : V}
theorem G0.but (h : G0 N H x) (b : ButN N H H') : G0 N H' x := ⟨h.1.same (Mq.but b), h.2.same (Mq.but b)⟩
theorem G1.but (h : G1 N H x) (b : ButN N H H') : G1 N H' x := ⟨h.1.same (Mq.but b), h.2.same (Mq.but b)⟩
theorem G2.but (h : G2 N H x) (b : ButN N H H') : G2 N H' x := ⟨h.1.same (Mq.but b), h.2.same (Mq.but b)⟩
theorem G2.ban {l : Addr} (h : G2 N H x) (e : H l = none) : G2 (fun c => N c ∧ c ≠ l) H x := ⟨h.1.same (Mq.ban e), h.2.same (Mq.ban e)⟩
theorem G2.imp (h : G2 N H x) (i : ∀ c, N c → N' c) : G2 N' H x := ⟨h.1.same (Mq.imp i), h.2.same (Mq.imp i)⟩
theorem mono_g0 : Mono (G0 N) := fun _ _ _ s h => h.but (ButN.of_same s)
theorem mono_g1 : Mono (G1 N) := fun _ _ _ s h => h.but (ButN.of_same s)
theorem mono_g2 : Mono (G2 N) := fun _ _ _ s h => h.but (ButN.of_same s)
theorem thgL_of (h : Thg H x) (n : ∀ a xs, x = .ref a → H a ≠ some (.lst xs)) : ThgL H x := ⟨h, fun a xs e hx => absurd hx (n a xs e)⟩
theorem thgT_of (h : ThgL H x) (n : ∀ a xs, x = .ref a → H a ≠ some (.tup xs)) : ThgT H x := ⟨h, fun a xs e hx => absurd hx (n a xs e)⟩
noncomputable def flt : V → Bool
  | .ref _ => false
  | _ => true
theorem G0.g1 (h : G0 N H x) (n : ∀ a xs, x = .ref a → Mq N H a ≠ some (.lst xs)) : G1 N H x := ⟨thgL_of h.1 n, h.2.mono⟩
theorem G1.g2 (h : G1 N H x) (n : ∀ a xs, x = .ref a → Mq N H a ≠ some (.tup xs)) : G2 N H x := ⟨thgT_of h.1 n, h.2.mono⟩
theorem g0_f (h : G0 N H x) (f : flt x = true) : G1 N H x := h.g1 fun a xs e => by rw [e] at f; cases f
theorem g1_f (h : G1 N H x) (f : flt x = true) : G2 N H x := h.g2 fun a xs e => by rw [e] at f; cases f
theorem g0_str {z : Str} (h : Nm z) : G0 N H (.str z) := ⟨.str (Nat.le_trans h.2.1 (by decide)), _, .tr (.str z) rfl, (Sw.nm h).sv.mono (by decide) (by decide)⟩
theorem g0_non : G0 N H .non := ⟨.non, _, .tr .non rfl, ⟨rfl, by decide, by decide +kernel⟩⟩
theorem g0_bl (b : Bool) : G0 N H (.bl b) := ⟨.bl b, _, .tr (.bl b) rfl, by cases b <;> exact ⟨rfl, by decide, by decide +kernel⟩⟩
theorem g0_int {i : Int} (h : i.natAbs < 10 ^ 40) : G0 N H (.int i) := ⟨.int i, _, .tr (.int i) rfl, (sw_int h).sv.mono (by decide) (by decide)⟩
theorem g0_lst {a : Addr} {v : V} (h : H a = some (.lst [v])) (n : N a) (f : Sh 90 0 (Mq N H) v) : G0 N H (.ref a) := ⟨.lst (Mq.at h n), (Sh.lst (m := 1) (Mq.at h n) (Nat.le_refl _) (fun w hw => by rw [List.mem_singleton.mp hw]; exact f)).mono⟩
theorem g0_tup {a : Addr} {v : V} (h : H a = some (.tup [v])) (n : N a) (f : Sh 90 0 (Mq N H) v) : G0 N H (.ref a) := ⟨.tup (Mq.at h n), (Sh.tup (m := 1) (Mq.at h n) (Nat.le_refl _) (fun w hw => by rw [List.mem_singleton.mp hw]; exact f)).mono⟩
theorem g1_lst {a : Addr} {xs : List V} (h : H a = some (.lst xs)) (n : N a) (hl : xs.length ≤ 40) (hx : ∀ v ∈ xs, G0 N H v) : G1 N H (.ref a) := by
  have h' := Mq.at h n
  refine ⟨⟨.lst h', fun b ys e hb => ?_⟩, (Sh.lst h' hl fun v hv => (hx v hv).2).mono⟩
  cases e
  rw [h'] at hb
  cases hb
  exact ⟨by omega, fun v hv => (hx v hv).1⟩
theorem g1_tup {a : Addr} {xs : List V} (h : H a = some (.tup xs)) (n : N a) (hl : xs.length ≤ 40) (hx : ∀ v ∈ xs, G0 N H v) : G1 N H (.ref a) := by
  have h' := Mq.at h n
  exact ⟨thgL_of (.tup h') (fun b ys e hb => by cases e; rw [h'] at hb; cases hb), (Sh.tup h' hl fun v hv => (hx v hv).2).mono⟩
theorem g2_tup {a : Addr} {xs : List V} (h : H a = some (.tup xs)) (n : N a) (hl : xs.length ≤ 4) (hx : ∀ v ∈ xs, G1 N H v) : G2 N H (.ref a) := by
  have h' := Mq.at h n
  refine ⟨⟨thgL_of (.tup h') (fun b ys e hb => by cases e; rw [h'] at hb; cases hb), fun b ys e hb => ?_⟩, (Sh.tup h' hl fun v hv => (hx v hv).2).mono⟩
  cases e
  rw [h'] at hb
  cases hb
  exact fun v hv => (hx v hv).1
theorem g2_lst {a : Addr} {xs : List V} (h : H a = some (.lst xs)) (n : N a) (hl : xs.length ≤ 4) (hx : ∀ v ∈ xs, G1 N H v) : G2 N H (.ref a) := by
  have h' := Mq.at h n
  refine ⟨⟨⟨.lst h', fun b ys e hb => ?_⟩, fun b ys e hb => by cases e; rw [h'] at hb; cases hb⟩, (Sh.lst h' hl fun v hv => (hx v hv).2).mono⟩
  cases e
  rw [h'] at hb
  cases hb
  exact ⟨by omega, fun v hv => (hx v hv).1.1⟩
theorem g0_dic {a : Addr} {kvs : List (Key × V)} (h : H a = some (.dK kvs)) (n : N a) (f : kvs.all (fun p => isFl p.2) = true) (sv : Sv (dictD kvs) 150 1) : G0 N H (.ref a) := ⟨.dK (Mq.at h n), _, .dc (Mq.at h n) f, sv⟩
theorem sh_nm {z : Str} (h : Nm z) : Sh 90 0 H (.str z) := ⟨_, .tr (.str z) rfl, (Sw.nm h).sv.mono (by decide) (by decide)⟩
theorem sh_int {i : Int} (h : i.natAbs < 10 ^ 40) : Sh 90 0 H (.int i) := ⟨_, .tr (.int i) rfl, (sw_int h).sv.mono (by decide) (by decide)⟩
theorem sv_dict1 {z : Str} {i : Int} (h : Nm z) (hi : i.natAbs < 10 ^ 40) : Sv (dictD [(.inr z, .int i)]) 150 1 := by
  have a := (Sw.nm h).sv
  have b := (sw_int hi).sv
  refine ⟨?_, Nat.le_refl _, ?_⟩
  · show (PyData.showable (.str z) && PyData.showable (.int i) && true) = true
    rw [b.sb]; rfl
  · have o : (Str.ofString ": ").length = 2 := rfl
    have a2 := a.ln
    have b2 := b.ln
    have l1 : (PyData.shown (.str z) ++ (": " : Str) ++ PyData.shown (.int i)).length ≤ 125 := by
      rw [len_app, len_app]
      show (PyData.shown (.str z)).length + (Str.ofString ": ").length + (PyData.shown (.int i)).length ≤ 125
      omega
    have g := join_le (n := 125) [PyData.shown (.str z) ++ (": " : Str) ++ PyData.shown (.int i)] fun t ht => by rw [List.mem_singleton.mp ht]; exact l1
    have o1 : (Str.ofString "{").length = 1 := rfl
    have o2 : (Str.ofString "}").length = 1 := rfl
    show (("{" : Str) ++ Str.join ", " [PyData.shown (.str z) ++ (": " : Str) ++ PyData.shown (.int i)] ++ ("}" : Str)).length ≤ 150
    rw [len_app, len_app]
    show (Str.ofString "{").length + (Str.join ", " [PyData.shown (.str z) ++ (": " : Str) ++ PyData.shown (.int i)]).length + (Str.ofString "}").length ≤ 150
    have g : (Str.join ", " [PyData.shown (.str z) ++ (": " : Str) ++ PyData.shown (.int i)]).length ≤ 1 * (125 + 2) := g
    omega
theorem g0_empty {a : Addr} (h : H a = some (.dK [])) (n : N a) : G0 N H (.ref a) := g0_dic h n rfl ⟨rfl, by decide, by decide +kernel⟩
end
end
end K25
namespace K25
open PySem L2
section
variable {P : Program} {w : World} {K : PySem.W.Frag} {mg : Str → Option Value} {base : Heap}
noncomputable abbrev NP (p : Addr) : Addr → Prop := fun c => c ≠ p
noncomputable abbrev NQ (p l : Addr) : Addr → Prop := fun c => c ≠ p ∧ c ≠ l
theorem hdPen {H : Hp} {p a : Addr} (v : PenV H p a) : Hd (NP p) H := fun l e => Ne.symm (v.ne e)
theorem penKeep {H H' : Hp} {p a : Addr} (s : Same H H') (v : PenV H p a) : PenV H' p a := by
  obtain ⟨i, n, hp, r⟩ := v
  exact ⟨i, n, s _ _ hp, r⟩
theorem Bu.tfor {G : Hp → V → Prop} {σ : St} {H0 H : Hp} {te : TE} {g : TG} {tb : TS} {D : Ends} (h : Bu G σ H0 te) (s : Same H0 H) (k : ∀ x H', Same H H' → G H' x → tFor (iTup K (tC x)) g tb D σ H') : tFor (iTup K te) g tb D σ H := h H s _ k
theorem lg_g1 {N : Addr → Prop} {m : Nat} (hm : m ≤ 40 := by decide) : ∀ H x, Lg (G0 N) N m H x → G1 N H x := fun H x ⟨c, xs, e, hc, np, hl, gx⟩ => by
  subst e
  exact g1_lst hc np (by omega) gx
theorem tg_g2 {N : Addr → Prop} {m : Nat} (hm : m ≤ 4 := by decide) : ∀ H x, Tg (G1 N) N m H x → G2 N H x := fun H x ⟨c, xs, e, hc, np, hl, gx⟩ => by
  subst e
  exact g2_tup hc np (by omega) gx
theorem lg_g2 {N : Addr → Prop} {m : Nat} (hm : m ≤ 40 := by decide) : ∀ H x, Lg (G0 N) N m H x → G2 N H x := fun H x h => by
  have g := lg_g1 hm H x h
  obtain ⟨c, xs, e, hc, np, hl, gx⟩ := h
  subst e
  exact g.g2 fun a ys e z => by cases e; rw [Mq.at hc np] at z; cases z
theorem bu_tupleG {N : Addr → Prop} {σ : St} {H0 : Hp} {ta : TE} {m : Nat} (hp : Hd N H0) (ha : Bu (Lg (G0 N) N m) σ H0 ta) (hm : m ≤ 40 := by decide) : Bu (G1 N) σ H0 (tCB (rTupL K) (tCons ta tNil)) := fun H s Q k =>
  ha H s _ fun x H1 s1 g => by
    obtain ⟨c, xs, rfl, hc, np, hl, gx⟩ := g
    refine ⟨c, xs, rfl, .of hc, fun l h1 => ?_⟩
    have sn := Same.new (o := .tup xs) h1
    exact k _ _ (s1.trans sn) (g1_tup upd_same (hp l (same_free (s.trans s1) h1)) (by omega) fun v hv => mono_g0 _ _ _ sn (gx v hv))
theorem bu_dicG {N : Addr → Prop} {σ : St} {H0 : Hp} (hp : Hd N H0) : Bu (G0 N) σ H0 tDNewK := fun H s Q k l hl => k _ _ (Same.new hl) (g0_empty upd_same (hp l (same_free s hl)))
theorem g0_g1d {N : Addr → Prop} {H : Hp} {a : Addr} {kvs : List (Key × V)} (h : G0 N H (.ref a)) (e : Mq N H a = some (.dK kvs)) : G1 N H (.ref a) := h.g1 fun b xs z y => by cases z; rw [e] at y; cases y
theorem bu_dicG1 {N : Addr → Prop} {σ : St} {H0 : Hp} (hp : Hd N H0) : Bu (G1 N) σ H0 tDNewK := fun H s Q k l hl => k _ _ (Same.new hl) (g0_g1d (g0_empty upd_same (hp l (same_free s hl))) (Mq.at upd_same (hp l (same_free s hl))))
theorem bu_one {N : Addr → Prop} {σ : St} {H0 : Hp} {i : Nat} {v : V} (hp : Hd N H0) (hv : σ[i]? = some (some v)) (sh : ∀ H, Sh 90 0 H v) : Bu (G0 N) σ H0 (tLst (tCons (tVar i) tNil)) := fun H s Q k => ⟨_, hv, (by show 1 ≤ sizeLine; decide), fun l hl => k _ _ (Same.new hl) (g0_lst upd_same (hp l (same_free s hl)) (sh _))⟩
theorem bu_one1 {N : Addr → Prop} {σ : St} {H0 : Hp} {i : Nat} {v : V} (hp : Hd N H0) (hv : σ[i]? = some (some v)) (sh : ∀ H, Sh 90 0 H v) : Bu (G0 N) σ H0 (tTup (tCons (tVar i) tNil)) := fun H s Q k => ⟨_, hv, (by show 1 ≤ sizeLine; decide), fun l hl => k _ _ (Same.new hl) (g0_tup upd_same (hp l (same_free s hl)) (sh _))⟩
theorem bu_dict1 {N : Addr → Prop} {σ : St} {H0 : Hp} {i j : Nat} {z : Str} {m : Int} (hp : Hd N H0) (hi : σ[i]? = some (some (.str z))) (hj : σ[j]? = some (some (.int m))) (hz : Nm z) (hm : m.natAbs < 10 ^ 40) : Bu (G0 N) σ H0 (tDisp [(tVar i, tVar j)]) := fun H s Q k q hq => ⟨_, hi, _, hj, upd_same, [(.inr z, .int m)], rfl, (by show 1 ≤ 15; decide), k _ _ (fun b o hb => by rw [upd_ne (ne_of_none hb hq), upd_ne (ne_of_none hb hq)]; exact hb) (g0_dic upd_same (hp q (same_free s hq)) rfl (sv_dict1 hz hm))⟩
structure Bt (p a lf lr ln t : Addr) (ws : List Str) (bs : List Int) (M : Int) (H0 : Hp) (m : Nat) (H : Hp) : Prop where
  f : ∃ ys, H lf = some (.lst ys) ∧ ys.length ≤ m ∧ ∀ y ∈ ys, G2 (NQ p lf) H y
  r : H lr = some (.lst (List.map V.str ws))
  n : H ln = some (.lst (intV bs))
  t : H t = some (.tup [.int M, .ref lr, .ref ln])
  v : PenV H p a
  b : But p H0 H
theorem Bt.same {p a lf lr ln t : Addr} {ws : List Str} {bs : List Int} {M : Int} {H0 H H' : Hp} {m : Nat} (h : Bt p a lf lr ln t ws bs M H0 m H) (s : Same H H') : Bt p a lf lr ln t ws bs M H0 m H' := by
  obtain ⟨ys, h1, h2, h3⟩ := h.f
  exact ⟨⟨ys, s _ _ h1, h2, fun y hy => mono_g2 _ _ _ s (h3 y hy)⟩, s _ _ h.r, s _ _ h.n, s _ _ h.t, penKeep s h.v, h.b.trans (But.of_same s)⟩
theorem Bt.hd {p a lf lr ln t : Addr} {ws : List Str} {bs : List Int} {M : Int} {H0 H : Hp} {m : Nat} (h : Bt p a lf lr ln t ws bs M H0 m H) : Hd (NQ p lf) H := fun l e => ⟨Ne.symm (h.v.ne e), fun z => by obtain ⟨ys, h1, _⟩ := h.f; rw [z, h1] at e; cases e⟩
theorem bq_app {p lf : Addr} {H : Hp} {o : HO} : ButN (NQ p lf) H (upd H lf o) := fun c o n h => by rw [upd_ne n.2]; exact h
theorem Bt.app {p a lf lr ln t : Addr} {ws : List Str} {bs : List Int} {M : Int} {H0 H : Hp} {m : Nat} {ys : List V} {y : V} (h : Bt p a lf lr ln t ws bs M H0 m H) (hr : NQ p lf lr) (hn : NQ p lf ln) (ht : NQ p lf t) (nl : lf ≠ p) (h0 : H0 lf = none) (e : H lf = some (.lst ys)) (g : G2 (NQ p lf) H y) : Bt p a lf lr ln t ws bs M H0 (m + 1) (upd H lf (.lst (ys ++ [y]))) := by
  obtain ⟨ys', h1, h2, h3⟩ := h.f
  rw [e] at h1
  cases h1
  refine ⟨⟨_, upd_same, by rw [List.length_append]; show ys.length + 1 ≤ m + 1; omega, fun z hz => ?_⟩, bq_app _ _ hr h.r, bq_app _ _ hn h.n, bq_app _ _ ht h.t, h.v.upd (Ne.symm nl), h.b.at h0⟩
  rcases List.mem_append.mp hz with q | q
  · exact (h3 z q).but bq_app
  · rw [List.mem_singleton.mp q]; exact g.but bq_app
end
end K25
namespace K25
open PySem L2
section
variable {P : Program} {w : World} {K : PySem.W.Frag} {mg : Str → Option Value} {base : Heap}
noncomputable def spBent (K : PySem.W.Frag) : Sp := fun vs H Q _ => ∃ (p a n t lr ln : Addr) (ss ws : List Str) (bs : List Int) (M : Int), vs = [.ref p, .ref n, .ref t] ∧ Pen K H p a ∧ n ≠ p ∧ t ≠ p ∧ lr ≠ p ∧ ln ≠ p ∧ H n = some (.lst (List.map V.str ss)) ∧ (∀ s ∈ ss, Nm s) ∧ 0 < ss.length ∧ ss.length ≤ 60 ∧ H t = some (.tup [.int M, .ref lr, .ref ln]) ∧ H lr = some (.lst (List.map V.str ws)) ∧ (∀ s ∈ ws, Nm s) ∧ 0 < ws.length ∧ ws.length ≤ 13 ∧ H ln = some (.lst (intV bs)) ∧ bs.length ≤ 12 ∧ (∀ b ∈ bs, b.natAbs < 10 ^ 39) ∧ M.natAbs < 10 ^ 39 ∧
  ∀ l xs H', H' l = some (.lst xs) → l ≠ p → xs.length ≤ 200 → (∀ x ∈ xs, G2 (NP p) H' x) → PenV H' p a → But p H H' → Q (.ref l) H'
theorem scBent : FnScope ["_law_pen", "_law_names_here", "_law_told", "_law_most", "_law_some", "_law_numbers", "_law_thing", "_law_at", "_law_found", "_law_row", "_law_odd", "_law_k"] ["_law_pen", "_law_names_here", "_law_told"] (defScope sBent) := ⟨rfl, rfl, rfl, by decide +kernel, rfl, by decide +kernel, by decide +kernel⟩
theorem ok_bent {f : Addr} {fd : FuncData} (F : Fun K "_law_bent" "_law_bent" sBent f fd) (B : Blt mg) (c_law_take : Cal P w K mg base 1 "_law_take" ["_law_pen", "_law_many"] (spDraw K)) : FnOk P w K mg base CX0 2 f fd ["_law_pen", "_law_names_here", "_law_told"] (spBent K) := by
  refine F.ok scBent (fun vs H Q E h => ?_) (fun cdv A outer s H vs Q E hr h => ?_)
  · obtain ⟨p, a, n, t, lr, ln, ss, ws, bs, M, rfl, _⟩ := h
    rfl
  · obtain ⟨p, a, n, t, lr, ln, ss, ws, bs, M, rfl, hP, nnp, ntp, nrp, nlp, hn, snm, spos, s60, ht, hlr, wnm, wpos, w13, hln, b12, bbd, mbd, k⟩ := h
    have nd := scBent.nd
    have sml : (List.map V.str ss).length = ss.length := List.length_map ..
    have wml : (List.map V.str ws).length = ws.length := List.length_map ..
    have e39 : (10 : Nat) ^ 39 = 1000000000000000000000000000000000000000 := by decide
    have e40 : (10 : Nat) ^ 40 = 10000000000000000000000000000000000000000 := by decide
    have ibd : ∀ i : Int, i.natAbs ≤ 10 ^ 39 → i.natAbs < 10 ^ 40 := fun i h => by rw [e39] at h; rw [e40]; omega
    have m1 : (M + 1).natAbs < 10 ^ 40 := by rw [e39] at mbd; rw [e40]; omega
    have m2 : (M - 1).natAbs < 10 ^ 40 := by rw [e39] at mbd; rw [e40]; omega
    have m0 : M.natAbs < 10 ^ 40 := by rw [e39] at mbd; rw [e40]; omega
    clear e39 e40
    refine ⟨_, (pss_cons (ps_asg (pv 2) (pg_tupK (n := 3) K rfl (pgs_cons (pg_name (i := 3) nd rfl (Or.inl rfl)) (pgs_cons (pg_name (i := 4) nd rfl (Or.inl rfl)) (pgs_cons (pg_name (i := 5) nd rfl (Or.inl rfl)) pgs_nil)))))
      (pss_cons (ps_set (i := 6) nd rfl (Or.inl rfl) (pe_ix (ix_X K hr.units) (pv 1) (pe_cal c_law_take (hr.mono (by decide)) rfl (pa_cons (pv 0) (pa_cons (b_len K B (pa_cons (pv 1) pa_nil)) pa_nil))) (fun _ _ => rfl)))
      (pss_cons (ps_set (i := 7) nd rfl (Or.inl rfl) (pe_cal c_law_take (hr.mono (by decide)) rfl (pa_cons (pv 0) (pa_cons (b_len K B (pa_cons (pv 4) pa_nil)) pa_nil))))
      (pss_cons (ps_set (i := 8) nd rfl (Or.inl rfl) (pe_lst (pa_cons (pe_tup (pa_cons (pe_op op_addX (pv 3) pe_int) (pa_cons (pv 4) (pa_cons (pv 5) pa_nil)))) (pa_cons (pe_tup (pa_cons (pe_op op_sub (pv 3) pe_int) (pa_cons (pv 4) (pa_cons (pv 5) pa_nil)))) (pa_cons (pe_tup (pa_cons (pe_cmpR (op_eqX hr.units) (pv 3) pe_int (nomark _)) (pa_cons (pv 4) (pa_cons (pv 5) pa_nil)))) (pa_cons (pe_tup (pa_cons pe_non (pa_cons (pv 4) (pa_cons (pv 5) pa_nil)))) pa_nil))))))
      (pss_cons (ps_for PassesOwn.never rfl (pi_tupK K (pe_tup (pa_cons (pe_lst pa_nil) (pa_cons (pe_slice (sl_K K) (pv 4) (po_some pe_int) po_none) (pa_cons (pe_slice (sl_K K) (pv 4) po_none (po_some (pe_un un_neg pe_int))) (pa_cons (pe_rev K (pv 4) (po_some (pe_un un_neg pe_int))) (pa_cons (pe_op op_addX (pv 4) (pe_lst (pa_cons (pv 6) pa_nil))) (pa_cons (pe_op op_addX (pe_op op_addX (pe_slice (sl_K K) (pv 4) po_none (po_some (pv 7))) (pe_lst (pa_cons (pv 6) pa_nil))) (pe_slice (sl_K K) (pv 4) (po_some (pe_op op_addX (pv 7) pe_int)) po_none)) (pa_cons (b_tuple K B (pa_cons (pv 4) pa_nil)) pa_nil star_f) star_b) star_b) star_s) star_s) star_s) star_l))) (pg_name (i := 9) nd rfl (Or.inl rfl)) (pss_one (ps_expr (m_append K (pv 8) (pa_cons (pe_tup (pa_cons (pv 3) (pa_cons (pv 9) (pa_cons (pv 5) pa_nil)))) pa_nil)))))
      (pss_cons (ps_for PassesOwn.never rfl (pi_tupK K (pe_tup (pa_cons pe_non (pa_cons (pe_lst (pa_cons (pv 6) pa_nil)) (pa_cons (pe_tup (pa_cons (pv 6) pa_nil)) (pa_cons pe_dnewK (pa_cons pe_int (pa_cons pe_bl (pa_cons (pe_disp (pps_cons (pv 6) (pv 3) pps_nil) rfl rfl (by simp) (by decide)) pa_nil star_d) star_c) star_c) star_d) star_t) star_l) star_c))) (pg_name (i := 10) nd rfl (Or.inl rfl)) (pss_one (ps_expr (m_append K (pv 8) (pa_cons (pe_tup (pa_cons (pv 3) (pa_cons (pe_op op_addX (pe_op op_addX (pe_slice (sl_K K) (pv 4) po_none (po_some (pv 7))) (pe_lst (pa_cons (pv 10) pa_nil))) (pe_slice (sl_K K) (pv 4) (po_some (pe_op op_addX (pv 7) pe_int)) po_none)) (pa_cons (pv 5) pa_nil)))) pa_nil)))))
      (pss_cons (ps_for PassesOwn.never rfl (pi_tupK K (pe_tup (pa_cons (pe_op op_addX (pe_lst (pa_cons (pv 6) pa_nil)) (pv 4)) (pa_cons pe_non (pa_cons pe_dnewK (pa_cons (pe_ix (ix_X K hr.units) (pv 4) pe_int (fun _ _ => rfl)) (pa_cons (pe_op op_addX (pe_slice (sl_K K) (pv 4) po_none (po_some (pv 7))) (pe_slice (sl_K K) (pv 4) (po_some (pe_op op_addX (pv 7) pe_int)) po_none)) pa_nil star_b) star_s) star_d) star_c) star_b))) (pg_name (i := 9) nd rfl (Or.inl rfl)) (pss_one (ps_expr (m_append K (pv 8) (pa_cons (pe_tup (pa_cons (pv 3) (pa_cons (pv 9) (pa_cons (pv 5) pa_nil)))) pa_nil)))))
      (pss_cons (ps_for PassesOwn.never rfl (pi_range1 rfl B.range (pa_cons (b_len K B (pa_cons (pv 5) pa_nil)) pa_nil)) (pg_name (i := 11) nd rfl (Or.inl rfl)) (pss_one (ps_for PassesOwn.never rfl (pi_tupK K (pe_tup (pa_cons (pe_op op_addX (pe_ix (ix_X K hr.units) (pv 5) (pv 11) (fun _ _ => rfl)) pe_int) (pa_cons (pe_op op_sub (pe_ix (ix_X K hr.units) (pv 5) (pv 11) (fun _ _ => rfl)) pe_int) (pa_cons (pe_cmpR (op_eqX hr.units) (pe_ix (ix_X K hr.units) (pv 5) (pv 11) (fun _ _ => rfl)) pe_int (nomark _)) (pa_cons pe_non (pa_cons (pe_lst (pa_cons (pe_ix (ix_X K hr.units) (pv 5) (pv 11) (fun _ _ => rfl)) pa_nil)) pa_nil star_l) star_c)) star_b) star_b))) (pg_name (i := 10) nd rfl (Or.inl rfl)) (pss_one (ps_expr (m_append K (pv 8) (pa_cons (pe_tup (pa_cons (pv 3) (pa_cons (pv 4) (pa_cons (pe_op op_addX (pe_op op_addX (pe_slice (sl_K K) (pv 5) po_none (po_some (pv 11))) (pe_lst (pa_cons (pv 10) pa_nil))) (pe_slice (sl_K K) (pv 5) (po_some (pe_op op_addX (pv 11) pe_int)) po_none)) pa_nil)))) pa_nil)))))))
      (pss_cons (ps_for PassesOwn.never rfl (pi_tupK K (pe_tup (pa_cons (pe_slice (sl_K K) (pv 5) (po_some pe_int) po_none) (pa_cons (pe_op op_addX (pv 5) (pe_lst (pa_cons (pv 3) pa_nil))) (pa_cons (b_tuple K B (pa_cons (pv 5) pa_nil)) (pa_cons pe_non (pa_cons (pv 3) (pa_cons (pe_rev K (pv 5) (po_some (pe_un un_neg pe_int))) (pa_cons (pe_lst pa_nil) pa_nil star_l) star_s) star_n) star_c) star_f) star_b) star_s))) (pg_name (i := 9) nd rfl (Or.inl rfl)) (pss_one (ps_expr (m_append K (pv 8) (pa_cons (pe_tup (pa_cons (pv 3) (pa_cons (pv 4) (pa_cons (pv 9) pa_nil)))) pa_nil)))))
      (pss_cons (ps_set (i := 8) nd rfl (Or.inl rfl) (pe_op op_addX (pv 8) (pe_lst (pa_cons (b_list K rfl B (pa_cons (pv 2) pa_nil)) (pa_cons (pe_slice (sl_tupK K) (pv 2) po_none (po_some pe_int)) (pa_cons (pe_op (op_catTA K) (pv 2) (pe_tup (pa_cons pe_int pa_nil))) (pa_cons pe_non (pa_cons (pe_tup pa_nil) (pa_cons (pv 3) (pa_cons (pv 4) pa_nil star_n) star_n) star_t) star_c) star_b) star_s) star_f))))
      (pss_one (ps_ret (pe_op op_addX (pv 8) (pe_lst (pa_cons (pe_tup (pa_cons (pv 4) (pa_cons (pv 3) (pa_cons (pv 5) pa_nil)))) (pa_cons (pe_tup (pa_cons (pv 3) (pa_cons (pv 5) (pa_cons (pv 4) pa_nil)))) pa_nil)))))))))))))))), ?_⟩
    refine ⟨_, rfl, t, _, rfl, .of ht, rfl, _, _, rfl, _, _, rfl, _, _, rfl, rfl, ?_⟩
    refine ⟨_, rfl, _, rfl, _, rfl, _, _, rfl, Or.inl ⟨_, .of hn, rfl⟩, p, a, _, rfl, hP, by rw [sml]; omega, by rw [sml]; omega, fun r1 H1 h10 h11 v1 e1 => ?_⟩
    obtain ⟨mt, rfl⟩ := Int.eq_ofNat_of_zero_le h10
    have hmt : mt < ss.length := by rw [sml] at h11; omega
    have b1 := But.of_eq e1
    refine .lst (.of ((e1 n nnp).trans hn)) (str_at hmt) ?_
    have tnm := snm _ (mem_getD hmt)
    generalize ss.getD mt "" = th at tnm ⊢
    have hlr1 := (e1 lr nrp).trans hlr
    refine ⟨_, rfl, _, rfl, _, _, rfl, Or.inl ⟨_, .of hlr1, rfl⟩, p, a, _, rfl, hP.but b1 v1, by rw [wml]; omega, by rw [wml]; omega, fun r2 H2 h20 h21 v2 e2 => ?_⟩
    obtain ⟨at_, rfl⟩ := Int.eq_ofNat_of_zero_le h20
    have hat : at_ < ws.length := by rw [wml] at h21; omega
    have b2 := b1.trans (But.of_eq e2)
    have hlr2 := (e2 lr nrp).trans hlr1
    have hln2 := (e2 ln nlp).trans ((e1 ln nlp).trans hln)
    have ht2 := (e2 t ntp).trans ((e1 t ntp).trans ht)
    clear h10 h11 h20 h21 hlr1 v1 e1 e2 hmt
    have yr : ∀ {σ : St} {H0 : Hp} {N : Addr → Prop}, σ[4]? = some (some (.ref lr)) → H0 lr = some (.lst (List.map V.str ws)) → N lr → Bu (Lg (G0 N) N 13) σ H0 (tVar 4) := fun h hb nb => bu_var h (mono_lg mono_g0) ⟨lr, _, rfl, hb, nb, by rw [wml]; exact w13, fun v hv => by
      obtain ⟨u, hu, rfl⟩ := List.mem_map.mp hv
      exact g0_str (wnm u hu)⟩
    have yn : ∀ {σ : St} {H0 : Hp} {N : Addr → Prop}, σ[5]? = some (some (.ref ln)) → H0 ln = some (.lst (intV bs)) → N ln → Bu (Lg (G0 N) N 12) σ H0 (tVar 5) := fun h hb nb => bu_var h (mono_lg mono_g0) ⟨ln, _, rfl, hb, nb, by rw [intV_len]; exact b12, fun v hv => by
      obtain ⟨u, hu, rfl⟩ := List.mem_map.mp hv
      exact g0_int (ibd u (Nat.le_of_lt (bbd u hu)))⟩
    have yt : ∀ {σ : St} {H0 : Hp} {N : Addr → Prop}, σ[6]? = some (some (.str th)) → Bu (G0 N) σ H0 (tVar 6) := fun h => bu_var h mono_g0 (g0_str tnm)
    have ym : ∀ {σ : St} {H0 : Hp} {N : Addr → Prop}, σ[3]? = some (some (.int M)) → Bu (G0 N) σ H0 (tVar 3) := fun h => bu_var h mono_g0 (g0_int m0)
    have ym1 : ∀ {σ : St} {H0 : Hp} {N : Addr → Prop}, σ[3]? = some (some (.int M)) → Bu (G1 N) σ H0 (tVar 3) := fun h => bu_var h mono_g1 (g0_f (g0_int m0) rfl)
    have hd2 := hdPen v2
    dsimp only [gName, tSeq, tAsg]
    refine (show BuA 4 (G2 (NP p)) _ H2 _ from (bua_cons mono_g2 ((bu_tup mono_g1 hd2 (bua_cons mono_g1 (fun H s Q k => ⟨_, rfl, .int (k _ _ (Same.refl _) (g0_f (g0_int m1) rfl))⟩) (bua_cons mono_g1 ((yr rfl hlr2 nrp).imp lg_g1) (bua_cons mono_g1 ((yn rfl hln2 nlp).imp lg_g1) bua_nil)))).imp tg_g2) (bua_cons mono_g2 ((bu_tup mono_g1 hd2 (bua_cons mono_g1 (fun H s Q k => ⟨_, rfl, _, _, rfl, rfl, k _ _ (Same.refl _) (g0_f (g0_int m2) rfl)⟩) (bua_cons mono_g1 ((yr rfl hlr2 nrp).imp lg_g1) (bua_cons mono_g1 ((yn rfl hln2 nlp).imp lg_g1) bua_nil)))).imp tg_g2) (bua_cons mono_g2 ((bu_tup mono_g1 hd2 (bua_cons mono_g1 (fun H s Q k => ⟨_, rfl, .sc rfl (k _ _ (Same.refl _) (g0_f (g0_bl _) rfl))⟩) (bua_cons mono_g1 ((yr rfl hlr2 nrp).imp lg_g1) (bua_cons mono_g1 ((yn rfl hln2 nlp).imp lg_g1) bua_nil)))).imp tg_g2) (bua_cons mono_g2 ((bu_tup mono_g1 hd2 (bua_cons mono_g1 (bu_c fun _ => g0_f g0_non rfl) (bua_cons mono_g1 ((yr rfl hlr2 nrp).imp lg_g1) (bua_cons mono_g1 ((yn rfl hln2 nlp).imp lg_g1) bua_nil)))).imp tg_g2) bua_nil))))) H2 (Same.refl _) _ fun ys0 H3 s3 hyl0 gy0 => ⟨by rw [hyl0]; decide, fun lf hlf => ?_⟩
    have hpf := (penKeep s3 v2).ne hlf
    have nfp : lf ≠ p := Ne.symm hpf
    have b3 := b2.trans (But.of_same (p := p) s3)
    have lf0 : H lf = none := b3.free nfp hlf
    have nq : ∀ {c : Addr} {o : HO}, c ≠ p → H3 c = some o → NQ p lf c := fun h1 h2 => ⟨h1, ne_of_none h2 hlf⟩
    have qr := nq nrp (s3 _ _ hlr2)
    have qn := nq nlp (s3 _ _ hln2)
    have qt := nq ntp (s3 _ _ ht2)
    have bt : Bt p a lf lr ln t ws bs M H 4 (upd H3 lf (.lst ys0)) := ⟨⟨ys0, upd_same, by omega, fun y hy => ((gy0 y hy).ban hlf).but bq_app⟩, bq_app _ _ qr (s3 _ _ hlr2), bq_app _ _ qn (s3 _ _ hln2), bq_app _ _ qt (s3 _ _ ht2), (penKeep s3 v2).upd hpf, b3.at lf0⟩
    generalize upd H3 lf (.lst ys0) = H4 at bt ⊢
    clear nq gy0 hyl0 hlf hpf b3 s3 hd2 hlr2 hln2 ht2 v2 b2 hP
    have put : ∀ {m : Nat} {H5 : Hp} {σ : St} {te : TE} {Q' : VK}, Bt p a lf lr ln t ws bs M H m H5 → m ≤ 900 → σ[8]? = some (some (.ref lf)) → Bu (G2 (NQ p lf)) σ H5 te → (∀ H6, Bt p a lf lr ln t ws bs M H (m + 1) H6 → ButN (NQ p lf) H5 H6 → Q' .non H6) → tBM K "list" rAppend (tVar 8) (tCons te tNil) σ H5 Q' := fun {m H5 σ te Q'} b5 hm h8 bu kk => by
      obtain ⟨ys, hy1, hy2, hy3⟩ := b5.f
      refine ⟨_, h8, .inl ⟨rfl, _, .of hy1⟩, ?_⟩
      refine bu H5 (Same.refl _) _ fun x H6 s6 g6 => ?_
      refine ⟨lf, _, _, rfl, rfl, s6 _ _ hy1, small1000 (by omega), ?_⟩
      exact kk _ ((b5.same s6).app qr qn qt nfp lf0 (s6 _ _ hy1) g6) ((ButN.of_same s6).trans bq_app)
    have hd4 := bt.hd
    refine Bu.tfor (G := Tg (G1 (NQ p lf)) (NQ p lf) 7) (H0 := H4) (bu_tup mono_g1 hd4 (bua_cons mono_g1 ((bu_lst (n := 0) mono_g0 hd4 bua_nil).imp lg_g1) (bua_cons mono_g1 ((bu_cut mono_g0 hd4 (yr rfl bt.r qr) buo_c buo_none).imp lg_g1) (bua_cons mono_g1 ((bu_cut mono_g0 hd4 (yr rfl bt.r qr) buo_none buo_neg).imp lg_g1) (bua_cons mono_g1 ((bu_rev mono_g0 hd4 (yr rfl bt.r qr)).imp lg_g1) (bua_cons mono_g1 ((bu_add mono_g0 hd4 (yr rfl bt.r qr) (bu_lst mono_g0 hd4 (bua_cons mono_g0 (yt rfl) bua_nil))).imp lg_g1) (bua_cons mono_g1 ((bu_add mono_g0 hd4 (bu_add mono_g0 hd4 (bu_cut mono_g0 hd4 (yr rfl bt.r qr) buo_none (buo_v rfl)) (bu_lst mono_g0 hd4 (bua_cons mono_g0 (yt rfl) bua_nil))) (bu_cut mono_g0 hd4 (yr rfl bt.r qr) (buo_v1 rfl) buo_none)).imp lg_g1) (bua_cons mono_g1 (bu_tupleG hd4 (yr rfl bt.r qr)) bua_nil)))))))) (Same.refl _) fun x H5 s5 g5 => ?_
    obtain ⟨tu, os, rfl, htu, ntu, hol, go5⟩ := g5
    refine ⟨tu, rfl, ⟨_, .of htu⟩, ?_⟩
    refine for_tup (xs := os) (fun i σ H' => ∃ o9 o10 o11, σ = [some (.ref p), some (.ref n), some (.ref t), some (.int M), some (.ref lr), some (.ref ln), some (.str th), some (.int (at_ : Int)), some (.ref lf), o9, o10, o11] ∧ Bt p a lf lr ln t ws bs M H (4 + i) H' ∧ H' tu = some (.tup os) ∧ ∀ v ∈ os, G1 (NQ p lf) H' v) ?_ ?_ ?_ ?_
    · exact ⟨none, none, none, rfl, bt.same s5, htu, go5⟩
    · rintro i σ H' _ ⟨_, _, _, rfl, _, ht, _⟩
      exact .of ht
    · rintro i x σ H6 hx ⟨o9, o10, o11, rfl, b6, ht6, go6⟩
      have hil := (List.getElem?_eq_some_iff.mp hx).1
      exact put b6 (by omega) rfl ((bu_tup mono_g1 b6.hd (bua_cons mono_g1 (ym1 rfl) (bua_cons mono_g1 (bu_var rfl mono_g1 (go6 x (List.mem_of_getElem? hx))) (bua_cons mono_g1 ((yn rfl b6.n qn).imp lg_g1) bua_nil)))).imp tg_g2) fun H7 b7 bn => ⟨_, _, _, rfl, b7, bn _ _ ntu ht6, fun v hv => (go6 v hv).but bn⟩
    rintro σ H6 ⟨o9, o10, o11, rfl, b6, _, _⟩
    rw [hol] at b6
    clear go5 htu ntu s5 hol bt hd4
    have hd8 := b6.hd
    refine Bu.tfor (G := Tg (G0 (NQ p lf)) (NQ p lf) 7) (H0 := H6) (bu_tup mono_g0 hd8 (bua_cons mono_g0 (bu_c fun _ => g0_non) (bua_cons mono_g0 (bu_one hd8 rfl fun _ => sh_nm tnm) (bua_cons mono_g0 (bu_one1 hd8 rfl fun _ => sh_nm tnm) (bua_cons mono_g0 (bu_dicG hd8) (bua_cons mono_g0 (bu_c fun _ => g0_int (by decide)) (bua_cons mono_g0 (bu_c fun _ => g0_bl true) (bua_cons mono_g0 (bu_dict1 hd8 rfl rfl tnm m0) (bua_nil))))))))) (Same.refl _) fun x HX sX gX => ?_
    obtain ⟨tu, os, rfl, htu, ntu, hol, goX⟩ := gX
    refine ⟨tu, rfl, ⟨_, .of htu⟩, ?_⟩
    refine for_tup (xs := os) (fun i σ H' => ∃ o9 o10 o11, σ = [some (.ref p), some (.ref n), some (.ref t), some (.int M), some (.ref lr), some (.ref ln), some (.str th), some (.int (at_ : Int)), some (.ref lf), o9, o10, o11] ∧ Bt p a lf lr ln t ws bs M H (4 + 7 + i) H' ∧ H' tu = some (.tup os) ∧ ∀ v ∈ os, G0 (NQ p lf) H' v) ?_ ?_ ?_ ?_
    · exact ⟨_, _, _, rfl, b6.same sX, htu, goX⟩
    · rintro i σ H' _ ⟨_, _, _, rfl, _, ht, _⟩
      exact .of ht
    · rintro i x σ HY hx ⟨o9, o10, o11, rfl, bY, htY, goY⟩
      have hil := (List.getElem?_eq_some_iff.mp hx).1
      have hdY := bY.hd
      have gx := goY x (List.mem_of_getElem? hx)
      exact put bY (by omega) rfl ((bu_tup mono_g1 hdY (bua_cons mono_g1 (ym1 rfl) (bua_cons mono_g1 ((bu_add mono_g0 hdY (bu_add mono_g0 hdY (bu_cut mono_g0 hdY (yr rfl bY.r qr) buo_none (buo_v rfl)) (bu_lst mono_g0 hdY (bua_cons mono_g0 (bu_var rfl mono_g0 gx) bua_nil))) (bu_cut mono_g0 hdY (yr rfl bY.r qr) (buo_v1 rfl) buo_none)).imp lg_g1) (bua_cons mono_g1 ((yn rfl bY.n qn).imp lg_g1) (bua_nil))))).imp tg_g2) fun HZ bZ bn => ⟨_, _, _, rfl, bZ, bn _ _ ntu htY, fun v hv => (goY v hv).but bn⟩
    rintro σ H8 ⟨o9, o10, o11, rfl, b8, _, _⟩
    rw [hol] at b8
    clear goX htu ntu sX hol hd8 b6
    have w0 : atI (List.map V.str ws) 0 = some (.str (ws.getD 0 "")) := show atI (List.map V.str ws) ((0 : Nat) : Int) = _ from str_at wpos
    have hd9 := b8.hd
    refine Bu.tfor (G := Tg (G1 (NQ p lf)) (NQ p lf) 5) (H0 := H8) (bu_tup mono_g1 hd9 (bua_cons mono_g1 ((bu_add mono_g0 hd9 (bu_lst mono_g0 hd9 (bua_cons mono_g0 (yt rfl) bua_nil)) (yr rfl b8.r qr)).imp lg_g1) (bua_cons mono_g1 (bu_c fun _ => g0_f g0_non rfl) (bua_cons mono_g1 (bu_dicG1 hd9) (bua_cons mono_g1 (fun H s Q k => ⟨_, rfl, .lst (.of (s _ _ b8.r)) w0 (k _ _ (Same.refl _) (g0_f (g0_str (wnm _ (mem_getD wpos))) rfl))⟩) (bua_cons mono_g1 ((bu_add mono_g0 hd9 (bu_cut mono_g0 hd9 (yr rfl b8.r qr) buo_none (buo_v rfl)) (bu_cut mono_g0 hd9 (yr rfl b8.r qr) (buo_v1 rfl) buo_none)).imp lg_g1) (bua_nil))))))) (Same.refl _) fun x HX sX gX => ?_
    obtain ⟨tu, os, rfl, htu, ntu, hol, goX⟩ := gX
    refine ⟨tu, rfl, ⟨_, .of htu⟩, ?_⟩
    refine for_tup (xs := os) (fun i σ H' => ∃ o9 o10 o11, σ = [some (.ref p), some (.ref n), some (.ref t), some (.int M), some (.ref lr), some (.ref ln), some (.str th), some (.int (at_ : Int)), some (.ref lf), o9, o10, o11] ∧ Bt p a lf lr ln t ws bs M H (4 + 7 + 7 + i) H' ∧ H' tu = some (.tup os) ∧ ∀ v ∈ os, G1 (NQ p lf) H' v) ?_ ?_ ?_ ?_
    · exact ⟨_, _, _, rfl, b8.same sX, htu, goX⟩
    · rintro i σ H' _ ⟨_, _, _, rfl, _, ht, _⟩
      exact .of ht
    · rintro i x σ HY hx ⟨o9, o10, o11, rfl, bY, htY, goY⟩
      have hil := (List.getElem?_eq_some_iff.mp hx).1
      have hdY := bY.hd
      have gx := goY x (List.mem_of_getElem? hx)
      exact put bY (by omega) rfl ((bu_tup mono_g1 hdY (bua_cons mono_g1 (ym1 rfl) (bua_cons mono_g1 (bu_var rfl mono_g1 gx) (bua_cons mono_g1 ((yn rfl bY.n qn).imp lg_g1) (bua_nil))))).imp tg_g2) fun HZ bZ bn => ⟨_, _, _, rfl, bZ, bn _ _ ntu htY, fun v hv => (goY v hv).but bn⟩
    rintro σ H9 ⟨o9, o10, o11, rfl, b9, _, _⟩
    rw [hol] at b9
    clear goX htu ntu sX hol hd9 b8
    refine ⟨_, rfl, _, _, rfl, SqA.len (K := K) (.inl b9.n), _, rfl, by rw [intV_len]; omega, by rw [intV_len]; omega, ?_⟩
    rw [intV_len]
    refine for_range (fun i σ H' => ∃ o9 o10 o11, σ = [some (.ref p), some (.ref n), some (.ref t), some (.int M), some (.ref lr), some (.ref ln), some (.str th), some (.int (at_ : Int)), some (.ref lf), o9, o10, o11] ∧ Bt p a lf lr ln t ws bs M H (23 + 5 * i) H') ⟨_, _, _, rfl, b9⟩ ?_ ?_
    · rintro j σ HA hj ⟨o9, o10, o11, rfl, bA⟩
      have hj : j < bs.length := by simpa using hj
      have atk : atI (intV bs) (0 + ((j : Nat) : Int)) = some (.int (bs.getD j 0)) := by rw [Int.zero_add]; exact intD_at hj
      have bj : (bs.getD j 0).natAbs < 10 ^ 39 := bbd _ (by rw [List.getD_eq_getElem?_getD, List.getElem?_eq_getElem hj]; exact List.getElem_mem hj)
      generalize bs.getD j 0 = bv at atk bj
      have c0 := ibd bv (Nat.le_of_lt bj)
      have c1 : (bv + 1).natAbs < 10 ^ 40 := by
        have e39 : (10 : Nat) ^ 39 = 1000000000000000000000000000000000000000 := by decide
        have e40 : (10 : Nat) ^ 40 = 10000000000000000000000000000000000000000 := by decide
        rw [e39] at bj; rw [e40]; omega
      have c2 : (bv - 1).natAbs < 10 ^ 40 := by
        have e39 : (10 : Nat) ^ 39 = 1000000000000000000000000000000000000000 := by decide
        have e40 : (10 : Nat) ^ 40 = 10000000000000000000000000000000000000000 := by decide
        rw [e39] at bj; rw [e40]; omega
      clear bj
      generalize (0 + ((j : Nat) : Int)) = kk at atk ⊢
      have hdA := bA.hd
      refine Bu.tfor (G := Tg (G0 (NQ p lf)) (NQ p lf) 5) (H0 := HA) (bu_tup mono_g0 hdA (bua_cons mono_g0 (fun H s Q k => ⟨_, rfl, _, rfl, .lst (.of (s _ _ bA.n)) atk (.int (k _ _ (Same.refl _) (g0_int c1)))⟩) (bua_cons mono_g0 (fun H s Q k => ⟨_, rfl, _, rfl, .lst (.of (s _ _ bA.n)) atk ⟨_, _, rfl, rfl, k _ _ (Same.refl _) (g0_int c2)⟩⟩) (bua_cons mono_g0 (fun H s Q k => ⟨_, rfl, _, rfl, .lst (.of (s _ _ bA.n)) atk (.sc rfl (k _ _ (Same.refl _) (g0_bl _)))⟩) (bua_cons mono_g0 (bu_c fun _ => g0_non) (bua_cons mono_g0 (fun H s Q k => ⟨_, rfl, _, rfl, .lst (.of (s _ _ bA.n)) atk ⟨(by show 1 ≤ sizeLine; decide), fun l hl => k _ _ (Same.new hl) (g0_lst upd_same (hdA l (same_free s hl)) (sh_int c0))⟩⟩) bua_nil)))))) (Same.refl _) fun x HX sX gX => ?_
      obtain ⟨tu, os, rfl, htu, ntu, hol, goX⟩ := gX
      refine ⟨tu, rfl, ⟨_, .of htu⟩, ?_⟩
      refine for_tup (xs := os) (fun i σ H' => ∃ o9 o10, σ = [some (.ref p), some (.ref n), some (.ref t), some (.int M), some (.ref lr), some (.ref ln), some (.str th), some (.int (at_ : Int)), some (.ref lf), o9, o10, some (.int kk)] ∧ Bt p a lf lr ln t ws bs M H (23 + 5 * j + i) H' ∧ H' tu = some (.tup os) ∧ ∀ v ∈ os, G0 (NQ p lf) H' v) ?_ ?_ ?_ ?_
      · exact ⟨_, _, rfl, bA.same sX, htu, goX⟩
      · rintro i σ H' _ ⟨_, _, rfl, _, ht, _⟩
        exact .of ht
      · rintro i x σ HY hx ⟨o9, o10, rfl, bY, htY, goY⟩
        have hil := (List.getElem?_eq_some_iff.mp hx).1
        have hdY := bY.hd
        have gx := goY x (List.mem_of_getElem? hx)
        exact put bY (by omega) rfl ((bu_tup mono_g1 hdY (bua_cons mono_g1 (ym1 rfl) (bua_cons mono_g1 ((yr rfl bY.r qr).imp lg_g1) (bua_cons mono_g1 ((bu_add mono_g0 hdY (bu_add mono_g0 hdY (bu_cut mono_g0 hdY (yn rfl bY.n qn) buo_none (buo_v rfl)) (bu_lst mono_g0 hdY (bua_cons mono_g0 (bu_var rfl mono_g0 gx) bua_nil))) (bu_cut mono_g0 hdY (yn rfl bY.n qn) (buo_v1 rfl) buo_none)).imp lg_g1) bua_nil)))).imp tg_g2) fun HZ bZ bn => ⟨_, _, rfl, bZ, bn _ _ ntu htY, fun v hv => (goY v hv).but bn⟩
      · rintro σ HB ⟨o9, o10, rfl, bB, _, _⟩
        rw [hol] at bB
        exact ⟨_, _, _, rfl, bB⟩
    rintro σ HC ⟨o9, o10, o11, rfl, bC⟩
    rw [Int.toNat_natCast] at bC
    clear b9
    have hdC := bC.hd
    refine Bu.tfor (G := Tg (G1 (NQ p lf)) (NQ p lf) 7) (H0 := HC) (bu_tup mono_g1 hdC (bua_cons mono_g1 ((bu_cut mono_g0 hdC (yn rfl bC.n qn) buo_c buo_none).imp lg_g1) (bua_cons mono_g1 ((bu_add mono_g0 hdC (yn rfl bC.n qn) (bu_lst mono_g0 hdC (bua_cons mono_g0 (ym rfl) bua_nil))).imp lg_g1) (bua_cons mono_g1 (bu_tupleG hdC (yn rfl bC.n qn)) (bua_cons mono_g1 (bu_c fun _ => g0_f g0_non rfl) (bua_cons mono_g1 (ym1 rfl) (bua_cons mono_g1 ((bu_rev mono_g0 hdC (yn rfl bC.n qn)).imp lg_g1) (bua_cons mono_g1 ((bu_lst (n := 0) mono_g0 hdC bua_nil).imp lg_g1) (bua_nil))))))))) (Same.refl _) fun x HX sX gX => ?_
    obtain ⟨tu, os, rfl, htu, ntu, hol, goX⟩ := gX
    refine ⟨tu, rfl, ⟨_, .of htu⟩, ?_⟩
    refine for_tup (xs := os) (fun i σ H' => ∃ o9 o10 o11, σ = [some (.ref p), some (.ref n), some (.ref t), some (.int M), some (.ref lr), some (.ref ln), some (.str th), some (.int (at_ : Int)), some (.ref lf), o9, o10, o11] ∧ Bt p a lf lr ln t ws bs M H (23 + 5 * bs.length + i) H' ∧ H' tu = some (.tup os) ∧ ∀ v ∈ os, G1 (NQ p lf) H' v) ?_ ?_ ?_ ?_
    · exact ⟨_, _, _, rfl, bC.same sX, htu, goX⟩
    · rintro i σ H' _ ⟨_, _, _, rfl, _, ht, _⟩
      exact .of ht
    · rintro i x σ HY hx ⟨o9, o10, o11, rfl, bY, htY, goY⟩
      have hil := (List.getElem?_eq_some_iff.mp hx).1
      have hdY := bY.hd
      have gx := goY x (List.mem_of_getElem? hx)
      exact put bY (by omega) rfl ((bu_tup mono_g1 hdY (bua_cons mono_g1 (ym1 rfl) (bua_cons mono_g1 ((yr rfl bY.r qr).imp lg_g1) (bua_cons mono_g1 (bu_var rfl mono_g1 gx) (bua_nil))))).imp tg_g2) fun HZ bZ bn => ⟨_, _, _, rfl, bZ, bn _ _ ntu htY, fun v hv => (goY v hv).but bn⟩
    rintro σ HD ⟨o9, o10, o11, rfl, bD, _, _⟩
    rw [hol] at bD
    clear goX htu ntu sX hol hdC bC put
    have hdD := bD.hd
    obtain ⟨ys, hy1, hy2, hy3⟩ := bD.f
    have g3 : ∀ {H' : Hp}, Same HD H' → ∀ v ∈ [V.int M, V.ref lr, V.ref ln], G1 (NQ p lf) H' v := fun s v hv => by
      rcases List.mem_cons.mp hv with rfl | hv
      · exact g0_f (g0_int m0) rfl
      · rcases List.mem_cons.mp hv with rfl | hv
        · exact g1_lst (s _ _ bD.r) qr (by rw [wml]; omega) fun v hv => by
            obtain ⟨u, hu, rfl⟩ := List.mem_map.mp hv
            exact g0_str (wnm u hu)
        · rw [List.mem_singleton.mp hv]
          exact g1_lst (s _ _ bD.n) qn (by rw [intV_len]; omega) fun v hv => by
            obtain ⟨u, hu, rfl⟩ := List.mem_map.mp hv
            exact g0_int (ibd u (Nat.le_of_lt (bbd u hu)))
    refine ⟨_, rfl, ?_⟩
    refine Bu.go (G := Lg (G2 (NQ p lf)) (NQ p lf) 7) (H0 := HD) (bu_lst mono_g2 hdD (bua_cons mono_g2 (fun H s Q k => ⟨_, rfl, _, rfl, .seq (.inr (.of (s _ _ bD.t))) fun l hl => k _ _ (Same.new hl) (g2_lst upd_same (hdD l (same_free s hl)) (by show 3 ≤ 4; decide) (g3 (s.trans (Same.new hl))))⟩) (bua_cons mono_g2 (fun H s Q k => ⟨_, rfl, _, rfl, t, _, rfl, .of (s _ _ bD.t), (by show ¬ (HT.sIx 3 0 none = 0 ∧ HT.sIx 3 3 (some 2) = 3); decide), fun l hl => k _ _ (Same.new hl) (g2_tup upd_same (hdD l (same_free s hl)) (Nat.le_trans (cutV_length _ _ _) (by show 3 ≤ 4; decide)) fun v hv => g3 (s.trans (Same.new hl)) v (mem_cutV hv))⟩) (bua_cons mono_g2 (fun H s Q k => ⟨_, rfl, (by show 1 ≤ sizeLine; decide), fun l1 hl1 => ⟨t, l1, _, _, rfl, rfl, .of ((s.trans (Same.new hl1)) _ _ bD.t), .of upd_same, (by show 4 ≤ sizeLine; decide), (fun z => absurd z (by simp)), (fun _ z => absurd z (by simp)), fun _ _ l hl => k _ _ ((Same.new hl1).trans (Same.new hl)) (g2_tup upd_same (hdD l (same_free (s.trans (Same.new hl1)) hl)) (by show 4 ≤ 4; decide) fun v hv => by
      rcases List.mem_append.mp hv with q | q
      · exact g3 ((s.trans (Same.new hl1)).trans (Same.new hl)) v q
      · rw [List.mem_singleton.mp q]; exact g0_f (g0_int (by decide)) rfl)⟩⟩) (bua_cons mono_g2 (bu_c fun _ => g1_f (g0_f g0_non rfl) rfl) (bua_cons mono_g2 ((bu_tup (n := 0) mono_g1 hdD bua_nil).imp tg_g2) (bua_cons mono_g2 (bu_var rfl mono_g2 (g1_f (g0_f (g0_int m0) rfl) rfl)) (bua_cons mono_g2 ((yr rfl bD.r qr).imp lg_g2) (bua_nil))))))))) (Same.refl _) fun x HE sE gE => ?_
    obtain ⟨l7, zs, rfl, hl7, _, hzl, gz⟩ := gE
    refine .lst (sE _ _ hy1) hl7 (Nat.le_trans (show ys.length + zs.length ≤ 200 by omega) (by decide)) fun lg hlg => ?_
    have sF := Same.new (o := .lst (ys ++ zs)) hlg
    have fF : upd HE lg (.lst (ys ++ zs)) lg = some (.lst (ys ++ zs)) := upd_same
    have gF : ∀ y ∈ ys ++ zs, G2 (NQ p lf) (upd HE lg (.lst (ys ++ zs))) y := fun y hy => by
      rcases List.mem_append.mp hy with q | q
      · exact mono_g2 _ _ _ (sE.trans sF) (hy3 y q)
      · exact mono_g2 _ _ _ sF (gz y q)
    have flen : (ys ++ zs).length ≤ 97 := by rw [List.length_append]; omega
    have sDF := sE.trans sF
    generalize upd HE lg (.lst (ys ++ zs)) = HF at sDF fF gF ⊢
    generalize ys ++ zs = fs at fF gF flen
    clear sE sF hlg hl7 gz hzl hy1 hy2 hy3 g3
    have hdF := (bD.same sDF).hd
    have rF := (bD.same sDF).r
    have nF := (bD.same sDF).n
    refine ⟨_, rfl, ?_⟩
    refine Bu.go (G := Lg (G2 (NQ p lf)) (NQ p lf) 2) (H0 := HF) (bu_lst mono_g2 hdF (bua_cons mono_g2 ((bu_tup mono_g1 hdF (bua_cons mono_g1 ((yr rfl rF qr).imp lg_g1) (bua_cons mono_g1 (ym1 rfl) (bua_cons mono_g1 ((yn rfl nF qn).imp lg_g1) (bua_nil))))).imp tg_g2) (bua_cons mono_g2 ((bu_tup mono_g1 hdF (bua_cons mono_g1 (ym1 rfl) (bua_cons mono_g1 ((yn rfl nF qn).imp lg_g1) (bua_cons mono_g1 ((yr rfl rF qr).imp lg_g1) (bua_nil))))).imp tg_g2) (bua_nil)))) (Same.refl _) fun x HG sG gG => ?_
    obtain ⟨l8, zs, rfl, hl8, _, hzl, gz⟩ := gG
    refine .lst (sG _ _ fF) hl8 (Nat.le_trans (show fs.length + zs.length ≤ 200 by omega) (by decide)) fun l hl => ?_
    have sn := Same.new (o := .lst (fs ++ zs)) hl
    have bG := (bD.same sDF).same sG
    refine k l _ _ upd_same (Ne.symm (bG.v.ne hl)) (by rw [List.length_append]; omega) (fun z hz => ?_) (penKeep sn bG.v) (bG.b.trans (But.of_same (p := p) sn))
    rcases List.mem_append.mp hz with q | q
    · exact (mono_g2 _ _ _ (sG.trans sn) (gF z q)).imp fun c h => h.1
    · exact (mono_g2 _ _ _ sn (gz z q)).imp fun c h => h.1
end
end K25
namespace K25
open PySem L2
section
variable {P : Program} {w : World} {K : PySem.W.Frag} {mg : Str → Option Value} {base : Heap}
theorem pe_nilL {X : Cx} {pos : Pos} : PE X (.List [] pos) (tLst tNil) := pe_lst pa_nil
theorem pe_nilT {X : Cx} {x1} {pos : Pos} : PE X (.Tuple [] x1 pos) (tTup tNil) := pe_tup pa_nil
theorem pe_x00 {X : Cx} {c j x1} {v : V} {p1 p2 p3 p4 : Pos} (h : PE X (.Constant c j p1) (tC v)) : PE X (.Tuple [.Constant c j p1, .List [] p2, .List [] p3] x1 p4) (tTup (tCons (tC v) (tCons (tLst tNil) (tCons (tLst tNil) tNil)))) := by
  have hd_a1 : PA X [.List [] p3] (tCons (tLst tNil) tNil) := pa_cons pe_nilL pa_nil star_l
  have hd_a2 : PA X [.List [] p2, .List [] p3] (tCons (tLst tNil) (tCons (tLst tNil) tNil)) := pa_cons pe_nilL hd_a1 star_l
  have hd_a3 : PA X [.Constant c j p1, .List [] p2, .List [] p3] (tCons (tC v) (tCons (tLst tNil) (tCons (tLst tNil) tNil))) := pa_cons h hd_a2 star_c
  exact pe_tup hd_a3
noncomputable def aE : Stmt → Expr
  | .Assign _ e _ => e
  | _ => .Name "" ⟨0, 0, 0, 0⟩
noncomputable def withE : Stmt → Expr → Stmt
  | .Assign ts _ p, e => .Assign ts e p
  | s, _ => s
@[irreducible] noncomputable def bigE : Expr := aE ((defBody sLaw).getD 4 (.Pass ⟨0, 0, 0, 0⟩))
theorem body_eq : defBody sLaw = (defBody sLaw).set 4 (withE ((defBody sLaw).getD 4 (.Pass ⟨0, 0, 0, 0⟩)) bigE) := by unfold bigE; rfl
theorem big_sw {t : Option Expr} {l : Nat} {env : Env} : swapsWith bigE t l env = pure false := by unfold bigE; rfl
theorem star_t0 {X : Cx} {es rest : List Expr} {x1} {pos : Pos} : starEach (.Tuple es x1 pos :: rest) X.env = (false, eval (.Tuple es x1 pos) X.env) :: starEach rest X.env := star_t
theorem pe_big {X : Cx} : PE X bigE (tLst (tCons (tC .non) (tCons (tTup (tCons (tC (.int 0)) (tCons (tLst tNil) (tCons (tLst tNil) tNil)))) (tCons (tLst tNil) (tCons (tTup (tCons (tC .non) (tCons (tLst tNil) (tCons (tLst tNil) tNil)))) (tCons (tTup tNil) tNil)))))) := by
  have e : ∃ j1 j2 j3 x1 x2 x3 p1 p2 p3 p4 p5 p6 p7 p8 p9 p10 p11 p12, bigE = .List [.Constant .none j1 p1, .Tuple [.Constant (.int 0) j2 p2, .List [] p3, .List [] p4] x1 p5, .List [] p6, .Tuple [.Constant .none j3 p7, .List [] p8, .List [] p9] x2 p10, .Tuple [] x3 p11] p12 := by
    unfold bigE
    exact ⟨_, _, _, _, _, _, _, _, _, _, _, _, _, _, _, _, _, _, rfl⟩
  obtain ⟨j1, j2, j3, x1, x2, x3, p1, p2, p3, p4, p5, p6, p7, p8, p9, p10, p11, p12, e⟩ := e
  rw [e]
  with_reducible exact pe_lst (pa_cons pe_non (pa_cons (pe_x00 pe_int) (pa_cons pe_nilL (pa_cons (pe_x00 pe_non) (pa_cons pe_nilT pa_nil star_t0) star_t0) star_l) star_t0) star_c)
theorem seq_inv {s r : TS} {D : Ends} {σ : St} {H : Hp} (Inv : St → Hp → Prop) (fin : ∀ σ' H', Inv σ' H' → r D σ' H') (main : ∀ N : St → Hp → Prop, (∀ σ' H', Inv σ' H' → N σ' H') → s { D with nx := N } σ H) : tSeq s r D σ H := main _ fin
theorem eqv_nilN (ls : List Str) : PyData.eqv (namesD ls) (.list []) = decide (ls = []) := by
  cases ls with
  | nil => rfl
  | cons e r => rfl
theorem swp_ris {n : Nat} {es : List (Nat × Nat)} (h : MG.Ris es) (val : ∀ e ∈ es, e.1 < n ∧ e.2 < n) : MG.Ris (MG.swp es) := by
  obtain ⟨r, h1, h2⟩ := rank_ex h val
  refine ⟨fun v => n - r v, fun e he => ?_⟩
  have he := MG.mem_swp.mp he
  have a : r e.2 < r e.1 := h1 _ he
  have b := h2 e.1 (val _ he).2
  show n - r e.1 < n - r e.2
  omega
theorem lay_ex {n : Nat} {es : List (Nat × Nat)} (h : MG.Ris es) (val : ∀ e ∈ es, e.1 < n ∧ e.2 < n) : ∃ L, MG.IsL es n L := by
  obtain ⟨D, hD⟩ := MG.depth_ex h (fun _ => 1)
  exact ⟨_, hD.lay (n := n) val (fun _ _ => rfl)⟩
theorem dep_le {n : Nat} {es : List (Nat × Nat)} {W D : Nat → Int} (h : MG.Ris es) (val : ∀ e ∈ es, e.1 < n ∧ e.2 < n) (hn : n ≤ 60) (hW : ∀ v, v < n → (W v).natAbs ≤ 10 ^ 30) (hD : MG.IsD es W D) : ∀ v, v < n → (D v).natAbs ≤ 10 ^ 32 := by
  obtain ⟨r, h1, h2⟩ := rank_ex h val
  have key : ∀ k v, v < n → r v ≤ k → D v ≤ ((k : Int) + 1) * 1000000000000000000000000000000 := by
    intro k
    induction k with
    | zero =>
      intro v hv h0
      have := hW v hv
      rcases hD.eq v with e | ⟨u, hu, _⟩
      · omega
      · have : r u < r v := h1 _ hu
        omega
    | succ k ih =>
      intro v hv hk
      have := hW v hv
      rcases hD.eq v with e | ⟨u, hu, e⟩
      · omega
      · have g : r u < r v := h1 _ hu
        have := ih u (val _ hu).1 (by omega)
        omega
  intro v hv
  have a := key 60 v hv (by have := h2 v hv; omega)
  have b := hD.ge v
  have c := hW v hv
  omega
structure Bd (n : Nat) (es : List (Nat × Nat)) (W : Nat → Int) (M : Int) (f : Nat → Int) : Prop where
  ge : ∀ u, u < n → W u ≤ f u ∧ f u ≤ M
  up : ∀ e ∈ es, f e.1 + W e.2 ≤ f e.2
  sm : ∀ u, u < n → (f u).natAbs < 10 ^ 39
theorem both_le {n : Nat} {es : List (Nat × Nat)} {W D D' : Nat → Int} {M : Int} (ris : MG.Ris es) (val : ∀ e ∈ es, e.1 < n ∧ e.2 < n) (hD : MG.IsD es W D) (hD' : MG.IsD (MG.swp es) W D') (hM : ∀ v, v < n → D v ≤ M) : ∀ v, v < n → D v + D' v - W v ≤ M := by
  obtain ⟨r, hr⟩ := swp_ris ris val
  have key : ∀ k v, v < n → r v ≤ k → D v + D' v - W v ≤ M := by
    intro k
    induction k with
    | zero =>
      intro v hv h0
      have := hM v hv
      rcases hD'.eq v with e | ⟨u, hu, _⟩
      · omega
      · have : r u < r v := hr _ hu
        omega
    | succ k ih =>
      intro v hv hk
      have := hM v hv
      rcases hD'.eq v with e | ⟨u, hu, e⟩
      · omega
      · have g : r u < r v := hr _ hu
        have hu' := MG.mem_swp.mp hu
        have a := ih u (val _ hu').2 (by omega)
        have b : D v + W u ≤ D u := hD.up _ hu'
        omega
  exact fun v hv => key _ v hv (Nat.le_refl _)
section
variable {n : Nat} {es : List (Nat × Nat)} {W D D' : Nat → Int} {v0 : Nat}
theorem bd_due (val : ∀ e ∈ es, e.1 < n ∧ e.2 < n) (hD : MG.IsD es W D) (best : Best n D v0) (sm : ∀ v, v < n → (D v).natAbs ≤ 10 ^ 32) : Bd n es W (D v0) D := ⟨fun u hu => ⟨hD.ge u, best.2 u hu⟩, hD.up, fun u hu => by have := sm u hu; omega⟩
theorem bd_late (ris : MG.Ris es) (val : ∀ e ∈ es, e.1 < n ∧ e.2 < n) (hD : MG.IsD es W D) (hD' : MG.IsD (MG.swp es) W D') (best : Best n D v0) (sm : ∀ v, v < n → (D v).natAbs ≤ 10 ^ 32) (sm' : ∀ v, v < n → (D' v).natAbs ≤ 10 ^ 32) (sw : ∀ v, v < n → (W v).natAbs ≤ 10 ^ 30) : Bd n es W (D v0) fun v => D v0 + W v - D' v := by
  have bl := both_le ris val hD hD' best.2
  refine ⟨fun u hu => ?_, fun e he => ?_, fun u hu => ?_⟩
  · have := bl u hu
    have := hD.ge u
    have := hD'.ge u
    omega
  · have := hD'.up (e.2, e.1) (MG.mem_swp.mpr he)
    have : D' e.2 + W e.1 ≤ D' e.1 := this
    show D v0 + W e.1 - D' e.1 + W e.2 ≤ D v0 + W e.2 - D' e.2
    omega
  · have := sm v0 best.1
    have := sm' u hu
    have := sw u hu
    show (D v0 + W u - D' u).natAbs < _
    omega
theorem bd_higher {M : Int} {f g : Nat → Int} (a : Bd n es W M f) (b : Bd n es W M g) (less : Int) (h0 : 0 ≤ less) (h1 : less < 30) : Bd n es W M fun v => if g v - less > f v then g v - less else f v := by
  refine ⟨fun u hu => ?_, fun e he => ?_, fun u hu => ?_⟩
  · have := a.ge u hu
    have := b.ge u hu
    show W u ≤ (if g u - less > f u then g u - less else f u) ∧ (if g u - less > f u then g u - less else f u) ≤ M
    split <;> omega
  · have := a.up e he
    have := b.up e he
    show (if g e.1 - less > f e.1 then g e.1 - less else f e.1) + W e.2 ≤ (if g e.2 - less > f e.2 then g e.2 - less else f e.2)
    split <;> split <;> omega
  · have := a.sm u hu
    have := b.sm u hu
    have := (a.ge u hu)
    show (if g u - less > f u then g u - less else f u).natAbs < _
    split <;> omega
end
theorem wOf_rng {n v : Nat} {f : Nat → Int} (h : v < n) : wOf ((List.range n).map f) v = f v := by
  unfold wOf
  rw [List.getD_eq_getElem?_getD, List.getElem?_map, List.getElem?_range h]; rfl
theorem Bd.ok {H : Hp} {ss : List Str} {es : List (Nat × Nat)} {zs : List Int} {M : Int} {f : Nat → Int} {l : Addr} (h : Bd ss.length es (wOf zs) M f) (val : ValE ss es) (hl : H l = some (.lst (intV ((List.range ss.length).map f)))) : BndOk H ss es zs (.ref l) M := by
  refine ⟨l, _, rfl, hl, by rw [List.length_map, List.length_range], fun u hu => ?_, fun e he => ?_⟩
  · rw [wOf_rng hu]; exact h.ge u hu
  · rw [wOf_rng (val e he).1, wOf_rng (val e he).2]; exact h.up e he
noncomputable def Hnd (p : Addr) (m : Nat) (H : Hp) (l : Addr) : Prop := ∃ xs, H l = some (.lst xs) ∧ l ≠ p ∧ xs ≠ [] ∧ xs.length ≤ m ∧ ∀ x ∈ xs, G2 (NP p) H x
theorem Hnd.but {p l : Addr} {m : Nat} {H H' : Hp} (h : Hnd p m H l) (b : But p H H') : Hnd p m H' l := let ⟨xs, h1, h2, h3, h4, h5⟩ := h; ⟨xs, b _ _ h2 h1, h2, h3, h4, fun x hx => (h5 x hx).but fun c o n e => b c o n e⟩
theorem name_go {i : Nat} {v : V} {σ : St} {H : Hp} {Q : St → Hp → Prop} (h : Q (σ.set i (some v)) H) : gName i v σ H Q := h
theorem seq_lst {ta : TA} {g : TG} {r : TS} {D : Ends} {σ : St} {H : Hp} (h : ta σ H fun xs H1 => xs.length ≤ sizeLine ∧ ∀ l, H1 l = none → g (.ref l) σ (upd H1 l (.lst xs)) (r D)) : tSeq (tAsg (tLst ta) g) r D σ H := h
theorem nil_ {σ : St} {H : Hp} {k : List V → Hp → Prop} (h : k [] H) : tNil σ H k := h
end
end K25
namespace K25
open PySem L2
section
variable {P : Program} {w : World} {K : PySem.W.Frag} {mg : Str → Option Value} {base : Heap}
noncomputable def spLaw (K : PySem.W.Frag) : Sp := fun vs H Q _ => ∃ (a : Addr) (ns : List Int), vs = [.ref a] ∧ SqL K H a (ns.map V.int) ∧ ∀ H', Q (.bl true) H'
theorem scLaw : FnScope ["_law_script", "_law_pen", "_law_names_here", "_law_ties_here", "_law_web_here", "_law_weights_here", "_law_handed", "_law_due", "_law_late", "_law_less", "_law_higher", "_law_turn", "_law_road", "_law_numbers", "_law_kept", "_law_told", "_law_found"] ["_law_script"] (defScope sLaw) := ⟨rfl, rfl, rfl, by decide +kernel, rfl, by decide +kernel, by decide +kernel⟩
theorem ok_law {f : Addr} {fd : FuncData} (F : Fun K "law" "law" sLaw f fd) (B : Blt mg)
    (c_law_take : Cal P w K mg base 1 "_law_take" ["_law_pen", "_law_many"] (spDraw K)) (c_law_built : Cal P w K mg base 3 "_law_built" ["_law_pen"] (spB12 K)) (c_law_web : Cal P w K mg base 1 "_law_web" ["_law_names_here", "_law_ties_here"] spWeb) (c_law_weights : Cal P w K mg base 2 "_law_weights" ["_law_pen", "_law_size"] (spWts K)) (c_law_depths : Cal P w K mg base 1 "_law_depths" ["_law_weights_here", "_law_ties_here"] spLDep) (c_law_latest : Cal P w K mg base 1 "_law_latest" ["_law_weights_here", "_law_ties_here", "_law_most"] spLate)
    (c_law_way : Cal P w K mg base 2 "_law_way" ["_law_pen", "_law_weights_here", "_law_ties_here", "_law_due"] (spLWD K)) (cshows_deepest : Cal P w K mg base 9 "shows_deepest" ["web", "weights", "told"] spShowG) (c_law_bent : Cal P w K mg base 2 "_law_bent" ["_law_pen", "_law_names_here", "_law_told"] (spBent K)) (c_law_shows : Cal P w K mg base 2 "_law_shows" ["_law_web_here", "_law_weights_here", "_law_told"] spLSh) :
    FnOk P w K mg base CX0 10 f fd ["_law_script"] (spLaw K) := by
  refine F.ok scLaw (fun vs H Q E h => ?_) (fun cdv A outer s H vs Q E hr h => ?_)
  · obtain ⟨a, ns, rfl, _⟩ := h
    rfl
  · obtain ⟨a, ns, rfl, hS, k⟩ := h
    have nd := scLaw.nd
    rw [body_eq]
    refine ⟨_, (pss_cons (ps_set (i := 1) nd rfl (Or.inl rfl) (pe_lst (pa_cons (pe_slice (sl_K K) (pv 0) po_none (po_some pe_int)) (pa_cons pe_int (pa_cons pe_int pa_nil)))))
      (pss_cons (ps_asg (pe_cal c_law_built (hr.mono (by decide)) rfl (pa_cons (pv 1) pa_nil)) (pg_tupK (n := 2) K rfl (pgs_cons (pg_name (i := 2) nd rfl (Or.inr rfl)) (pgs_cons (pg_name (i := 3) nd rfl (Or.inl rfl)) pgs_nil))))
      (pss_cons (ps_set (i := 4) nd rfl (Or.inl rfl) (pe_cal c_law_web (hr.mono (by decide)) rfl (pa_cons (pv 2) (pa_cons (pv 3) pa_nil))))
      (pss_cons (ps_set (i := 5) nd rfl (Or.inl rfl) (pe_cal c_law_weights (hr.mono (by decide)) rfl (pa_cons (pv 1) (pa_cons (b_len K B (pa_cons (pv 2) pa_nil)) pa_nil))))
      (pss_cons (ps_set (i := 6) nd rfl (Or.inl rfl) pe_big big_sw)
      (pss_cons (ps_if (pt_cmpR (op_neX hr.units) (pv 2) (pe_lst pa_nil) (nomark _)) (pss_cons (ps_set (i := 7) nd rfl (Or.inr rfl) (pe_cal c_law_depths (hr.mono (by decide)) rfl (pa_cons (pv 5) (pa_cons (pv 3) pa_nil))))
      (pss_cons (ps_set (i := 8) nd rfl (Or.inr rfl) (pe_cal c_law_latest (hr.mono (by decide)) rfl (pa_cons (pv 5) (pa_cons (pv 3) (pa_cons (b_maxL K rfl B (pa_cons (pv 7) pa_nil)) pa_nil)))))
      (pss_cons (ps_set (i := 9) nd rfl (Or.inr rfl) (pe_cal c_law_take (hr.mono (by decide)) rfl (pa_cons (pv 1) (pa_cons pe_int pa_nil))))
      (pss_cons (ps_setC (i := 10) nd rfl rfl (by rfl) (defScope sLaw) ["_law_script", "_law_pen", "_law_names_here", "_law_ties_here", "_law_web_here", "_law_weights_here", "_law_handed", "_law_due", "_law_late", "_law_less", "_law_higher", "_law_turn", "_law_road", "_law_numbers", "_law_kept", "_law_told", "_law_found"] ["_law_k"] [7, 9, 8] ["_law_k", "_law_due", "_law_less", "_law_late"] rfl (pi_range1 rfl B.range (pa_cons (b_len K B (pa_cons (pv 7) pa_nil)) pa_nil)) (fun _ _ _ _ _ => (pg_name (i := 0) (show (["_law_k", "_law_due", "_law_less", "_law_late"] : List Str).Nodup by decide) rfl (Or.inl rfl))) (fun _ _ _ _ _ => pts_nil) (fun _ _ _ _ _ => (b_max rfl B (pa_cons (pe_ix (ix_X K hr.units) (pv 1) (pv 0) (fun _ _ => rfl)) (pa_cons (pe_op op_sub (pe_ix (ix_X K hr.units) (pv 3) (pv 0) (fun _ _ => rfl)) (pv 2)) pa_nil)))))
      (pss_one (ps_for PassesOwn.never rfl (pi_range1 rfl B.range (pa_cons pe_int pa_nil)) (pg_name (i := 11) nd rfl (Or.inl rfl)) (pss_cons (ps_setC (i := 12) nd rfl rfl (by rfl) (defScope sLaw) ["_law_script", "_law_pen", "_law_names_here", "_law_ties_here", "_law_web_here", "_law_weights_here", "_law_handed", "_law_due", "_law_late", "_law_less", "_law_higher", "_law_turn", "_law_road", "_law_numbers", "_law_kept", "_law_told", "_law_found"] ["_law_k"] [2] ["_law_k", "_law_names_here"] rfl (pi_listK K (pe_cal c_law_way (hr.mono (by decide)) rfl (pa_cons (pv 1) (pa_cons (pv 5) (pa_cons (pv 3) (pa_cons (pv 7) pa_nil)))))) (fun _ _ _ _ _ => (pg_name (i := 0) (show (["_law_k", "_law_names_here"] : List Str).Nodup by decide) rfl (Or.inl rfl))) (fun _ _ _ _ _ => pts_nil) (fun _ _ _ _ _ => (pe_ix (ix_X K hr.units) (pv 1) (pv 0) (fun _ _ => rfl))))
      (pss_cons (ps_set (i := 13) nd rfl (Or.inl rfl) (pe_ix (ix_X K hr.units) (pe_lst (pa_cons (pv 7) (pa_cons (pv 8) (pa_cons (pv 10) pa_nil)))) (pe_cal c_law_take (hr.mono (by decide)) rfl (pa_cons (pv 1) (pa_cons pe_int pa_nil))) (fun _ _ => rfl)))
      (pss_cons (ps_if (pt_cmpR op_isNotX (pe_cal cshows_deepest (hr.mono (by decide)) rfl (pa_cons (pv 4) (pa_cons (pv 5) (pa_cons (pe_tup (pa_cons (b_maxL K rfl B (pa_cons (pv 7) pa_nil)) (pa_cons (pv 12) (pa_cons (b_list K rfl B (pa_cons (pv 13) pa_nil)) pa_nil)))) pa_nil)))) pe_bl (nomark _)) (pss_one (ps_ret pe_bl)) pss_nil)
      (pss_one (ps_set (i := 6) nd rfl (Or.inl rfl) (pe_op op_addX (pv 6) (pe_cal c_law_bent (hr.mono (by decide)) rfl (pa_cons (pv 1) (pa_cons (pv 2) (pa_cons (pe_tup (pa_cons (b_maxL K rfl B (pa_cons (pv 7) pa_nil)) (pa_cons (pv 12) (pa_cons (b_list K rfl B (pa_cons (pv 13) pa_nil)) pa_nil)))) pa_nil)))))))))))))))) pss_nil)
      (pss_cons (ps_set (i := 14) nd rfl (Or.inl rfl) (b_reprD hr.gd hr.units B (pa_cons (pv 6) pa_nil)))
      (pss_cons (ps_for PassesOwn.never rfl (pi_listK K (pv 6)) (pg_name (i := 15) nd rfl (Or.inl rfl)) (pss_cons (ps_set (i := 16) nd rfl (Or.inl rfl) (pe_cal cshows_deepest (hr.mono (by decide)) rfl (pa_cons (pv 4) (pa_cons (pv 5) (pa_cons (pv 15) pa_nil)))))
      (pss_one (ps_if (PW.pt (pw_or (pt_not (pt_val (b_isi K "bool" B (pa_cons (pv 16) (pa_cons (g_bool B) pa_nil))))) (pw_or1 (pt_cmpR (op_neX hr.units) (pv 16) (pe_cal c_law_shows (hr.mono (by decide)) rfl (pa_cons (pv 4) (pa_cons (pv 5) (pa_cons (pv 15) pa_nil)))) (nomark _))))) (pss_one (ps_ret pe_bl)) pss_nil))))
      (pss_one (ps_ret (pe_and (pe_cmpR (op_eqX hr.units) (pv 4) (pe_cal c_law_web (hr.mono (by decide)) rfl (pa_cons (pv 2) (pa_cons (pv 3) pa_nil))) (nomark _)) (pe_one (pe_cmpR (op_eqX hr.units) (b_reprD hr.gd hr.units B (pa_cons (pv 6) pa_nil)) (pv 14) (nomark _)))))))))))))), ?_⟩
    obtain ⟨ns', hns⟩ : ∃ ns', cutV (ns.map V.int) none (some 63) = List.map V.int ns' := ⟨_, by unfold cutV; rw [← List.map_drop, ← List.map_take]⟩
    refine ⟨_, rfl, _, rfl, .lst hS fun a0 ha0 => ?_⟩
    rw [hns]
    refine ⟨(by show 3 ≤ sizeLine; decide), fun p hp => ?_⟩
    have hP : Pen K (upd (upd H a0 (.lst (List.map V.int ns'))) p (.lst [.ref a0, .int 0, .int 0])) p a0 := Pen.new (ns := ns') (.of upd_same) hp ⟨0, 0, upd_same, by decide, by decide⟩
    generalize upd (upd H a0 (.lst (List.map V.int ns'))) p (.lst [.ref a0, .int 0, .int 0]) = H2 at hP ⊢
    refine ⟨_, rfl, p, a0, rfl, hP, fun q n t ss es H3 h12 hq hB hris hnp htp v3 b3 => ⟨q, _, rfl, .of hq, rfl, _, _, rfl, _, _, rfl, rfl, ?_⟩⟩
    refine ⟨_, rfl, _, rfl, n, t, ss, es, rfl, hB, fun wq H4 s4 rw4 => ?_⟩
    have W4 := web_of hB rw4
    have hB4 := hB.same s4
    have hP4 := hP.but (b3.trans (But.of_same s4)) (penKeep s4 v3)
    have h60 := hB.len
    have val : ValE ss es := hB.val
    have hln : (List.map V.str ss).length = ss.length := List.length_map ..
    clear hB rw4 hq b3 v3 hS hP s4
    refine ⟨_, rfl, _, rfl, _, _, rfl, Or.inl ⟨_, .of hB4.nm, rfl⟩, ?_⟩
    rw [hln]
    refine ⟨p, a0, ss.length, rfl, hP4, h60, fun wl zs H5 hw hzl hbd nwp v5 b5 => ?_⟩
    obtain ⟨ysC, hpC⟩ := penAt hP4.2
    have W5 := web_but hpC b5 W4
    have hB5 := hB4.but hpC b5 hnp htp
    have hP5 := hP4.but b5 v5
    clear W4 hB4 hP4 hpC b5
    have hd5 := hdPen v5
    refine name_go ?_
    dsimp only
    refine seq_lst ?_
    have e0 : ∀ {σ : St}, Bu (G1 (NP p)) σ H5 (tLst tNil) := (bu_lst (n := 0) mono_g0 hd5 bua_nil).imp lg_g1
    have bh : ∀ σ : St, BuA 5 (G2 (NP p)) σ H5 (tCons (tC .non) (tCons (tTup (tCons (tC (.int 0)) (tCons (tLst tNil) (tCons (tLst tNil) tNil)))) (tCons (tLst tNil) (tCons (tTup (tCons (tC .non) (tCons (tLst tNil) (tCons (tLst tNil) tNil)))) (tCons (tTup tNil) tNil))))) := fun σ => bua_cons mono_g2 (bu_c fun _ => g1_f (g0_f g0_non rfl) rfl) (bua_cons mono_g2 ((bu_tup mono_g1 hd5 (bua_cons mono_g1 (bu_c fun _ => g0_f (g0_int (i := 0) (by decide)) rfl) (bua_cons mono_g1 e0 (bua_cons mono_g1 e0 bua_nil)))).imp tg_g2) (bua_cons mono_g2 ((bu_lst (n := 0) mono_g0 hd5 bua_nil).imp lg_g2) (bua_cons mono_g2 ((bu_tup mono_g1 hd5 (bua_cons mono_g1 (bu_c fun _ => g0_f g0_non rfl) (bua_cons mono_g1 e0 (bua_cons mono_g1 e0 bua_nil)))).imp tg_g2) (bua_cons mono_g2 ((bu_tup (n := 0) mono_g1 hd5 bua_nil).imp tg_g2) bua_nil))))
    refine bh _ H5 (Same.refl _) _ fun hs H6 s6 hl6 gs6 => ?_
    clear bh
    refine ⟨by rw [hl6]; decide, fun lh hlh => ?_⟩
    have s7 := s6.trans (Same.new (o := .lst hs) hlh)
    have nlh : lh ≠ p := hd5 lh (same_free s6 hlh)
    have hn7 : Hnd p 5 (upd H6 lh (.lst hs)) lh := ⟨hs, upd_same, nlh, (fun z => by rw [z] at hl6; cases hl6), by omega, fun x hx => mono_g2 _ _ _ (Same.new hlh) (gs6 x hx)⟩
    generalize upd H6 lh (.lst hs) = H7 at s7 hn7 ⊢
    have v7 := penKeep s7 v5
    have b7 : But p H5 H7 := But.of_same s7
    obtain ⟨ysC, hpC⟩ := penAt v5
    clear e0 hl6 gs6 hlh s6 nlh
    refine name_go ?_
    refine seq_inv (fun σ H' => ∃ lh o7 o8 o9 o10 o11 o12 o13, σ = [some (.ref a), some (.ref p), some (.ref n), some (.ref t), some (.ref wq), some (.ref wl), some (.ref lh), o7, o8, o9, o10, o11, o12, o13, none, none, none] ∧ Hnd p 405 H' lh ∧ PenV H' p a0 ∧ But p H5 H') ?_ ?_
    · rintro σ HA ⟨lh, o7, o8, o9, o10, o11, o12, o13, rfl, hh, vA, bA⟩
      obtain ⟨xs, hxs, nlh, hne, hxl, gx⟩ := hh
      have WA := web_but hpC bA W5
      have hBA := hB5.but hpC bA hnp htp
      have hwA := bA _ _ nwp hw
      have thx : ∀ x ∈ xs, ThgT HA x := fun x hx => (gx x hx).1.same Mq.of
      obtain ⟨ds, rds, dl, sv⟩ := shs (fun x hx => (gx x hx).2.same Mq.of)
      have SV := Sv.list sv (m := 405) (by omega)
      have hdn : ds ≠ [] := fun z => hne (List.length_eq_zero_iff.mp (by rw [← dl, z]; rfl))
      have ln : (PyData.list ds).shown.length ≤ sizeLine := Nat.le_trans SV.ln (by decide)
      have dp : (PyData.list ds).depth ≤ 16 := Nat.le_trans SV.dp (by decide)
      refine ⟨_, rfl, lh, .list ds, rfl, Or.inl ⟨xs, ds, hxs, rds, rfl, hdn⟩, SV.sb, dp, ln, ?_⟩
      refine ⟨_, rfl, lh, rfl, ⟨_, .of hxs⟩, ?_⟩
      refine for_list (xs := xs) (fun j σ H' => ∃ o15 o16, σ = [some (.ref a), some (.ref p), some (.ref n), some (.ref t), some (.ref wq), some (.ref wl), some (.ref lh), o7, o8, o9, o10, o11, o12, o13, some (.str (PyData.list ds).shown), o15, o16] ∧ Same HA H') ?_ ?_ ?_ ?_
      · exact ⟨none, none, rfl, Same.refl _⟩
      · rintro j σ H' _ ⟨o15, o16, rfl, sm⟩
        exact .of (sm _ _ hxs)
      · rintro j x σ HB hx ⟨o15, o16, rfl, sB⟩
        have tx := (thx x (List.mem_of_getElem? hx)).same sB
        refine ⟨_, rfl, _, rfl, _, rfl, .ref wq, x, wl, ss, es, zs, rfl, WA.same sB, val, hris, sB _ _ hwA, hzl, tx, fun HC sC => ?_⟩
        obtain ⟨tb, tyb, _, _, tb3, _⟩ := ty_thg (K := K) (Thg.bl (H := HC) (dec (ToldOk HB ss es zs x)))
        refine ⟨_, rfl, _, tb, _, rfl, tyb, tb3, _, rfl, ite2 (fun h => absurd h (by show ¬ (!true) = true; decide)) (fun _ => ?_)⟩
        refine ⟨_, rfl, _, rfl, _, rfl, _, rfl, .ref wq, x, wl, ss, es, zs, rfl, (WA.same sB).same sC, val, sC _ _ (sB _ _ hwA), hzl, tx.same sC, fun HD sD => .sc rfl ⟨_, rfl, ?_⟩⟩
        have ee : dec (ToldOk HC ss es zs x) = dec (ToldOk HB ss es zs x) := by rw [Bool.eq_iff_iff, dec_iff, dec_iff]; exact ToldOk.same tx sC
        rw [ee]
        refine ite2 (fun h => absurd h (by simp)) (fun _ => ?_)
        exact ⟨_, _, rfl, (sB.trans sC).trans sD⟩
      · rintro σ HB ⟨o15, o16, rfl, sB⟩
        have WB := WA.same sB
        refine ⟨_, rfl, _, rfl, _, rfl, n, t, ss, es, rfl, hBA.same sB, fun wq2 HC sC rC => .tr (WB.rep.same sC) rC (web_shp WB) (web_shp WB) ?_⟩
        rw [eqv_shp (web_shp WB)]
        have sBC := sB.trans sC
        refine ⟨_, rfl, ite2 (fun _ => ?_) (fun h => absurd rfl h)⟩
        refine ⟨_, rfl, lh, .list ds, rfl, Or.inl ⟨xs, ds, sBC _ _ hxs, rds.same sBC, rfl, hdn⟩, SV.sb, dp, ln, ?_⟩
        refine ⟨_, rfl, .sc rfl ?_⟩
        show Q (.bl (decide (V.str (PyData.list ds).shown = V.str (PyData.list ds).shown))) _
        rw [decide_eq_true rfl]
        exact k _
    · intro N hN
      refine ⟨_, rfl, (by show 0 ≤ sizeLine; decide), fun le hle => ?_⟩
      have s8 := Same.new (o := .lst []) hle
      have e8 : upd H7 le (.lst []) le = some (.lst []) := upd_same
      generalize upd H7 le (.lst []) = H8 at s8 e8 ⊢
      have b8 := b7.trans (But.of_same s8)
      have v8 := penKeep s8 v7
      have hn8 := hn7.but (But.of_same s8)
      have hB8 := hB5.but hpC b8 hnp htp
      refine .tr (names_rep hB8.nm) (.lst e8 .nil) (shp_names hB8.ok) (by rfl) ⟨_, rfl, ?_⟩
      rw [eqv_nilN]
      clear hle e8 s8 hn7 v7 b7 s7 hd5 hs
      refine ite2 (fun h => ?_) (fun h => ?_)
      · have h : ss ≠ [] := fun z => by rw [z] at h; cases h
        have hpos : 0 < ss.length := List.length_pos_iff.mpr h
        have val' : ∀ e ∈ es, e.1 < zs.length ∧ e.2 < zs.length := by rw [hzl]; exact val
        have valS : ∀ e ∈ es, e.1 < ss.length ∧ e.2 < ss.length := val
        have z60 : zs.length ≤ 60 := by omega
        obtain ⟨D, hD⟩ := MG.depth_ex hris (wOf zs)
        obtain ⟨L, hL⟩ := lay_ex (n := zs.length) hris val'
        have hrisS := swp_ris hris val'
        obtain ⟨D', hD'⟩ := MG.depth_ex hrisS (wOf zs)
        obtain ⟨L', hL'⟩ := lay_ex (n := zs.length) hrisS (swp_val val')
        obtain ⟨v0, best⟩ := best_ex (D := D) hpos
        have wz : ∀ v, v < ss.length → (wOf zs v).natAbs ≤ 10 ^ 30 := fun v hv => by
          have hv' : v < zs.length := by omega
          have : wOf zs v ∈ zs := by unfold wOf; rw [List.getD_eq_getElem?_getD, List.getElem?_eq_getElem hv']; exact List.getElem_mem hv'
          exact hbd _ this
        have dle := dep_le hris valS h60 wz hD
        have dle' := dep_le (swp_ris hris valS) (swp_val valS) h60 wz hD'
        have B1 := bd_due valS hD best dle
        have B2 := bd_late hris valS hD hD' best dle dle' wz
        have mbd : (D v0).natAbs < 10 ^ 39 := B1.sm v0 best.1
        have W8 := web_but hpC b8 W5
        have hw8 := b8 _ _ nwp hw
        obtain ⟨refs, ht8, rp8⟩ := hB8.ti
        refine ⟨_, rfl, _, rfl, wl, t, zs, refs, es, D, L, rfl, hw8, ht8, rp8, val', z60, hD, hL, fun ld H9 s9 hld0 hld => ?_⟩
        rw [hzl] at hld
        have nld : ld ≠ p := Ne.symm (v8.ne hld0)
        have dlen : ((List.range ss.length).map D).length = ss.length := by rw [List.length_map, List.length_range]
        refine ⟨_, rfl, _, rfl, _, rfl, nil_ ⟨ld, _, rfl, .of hld, by rw [dlen]; exact hpos, fun M hM1 hM2 => ?_⟩⟩
        have eM := max_is best hM1 hM2
        subst eM
        clear hM1 hM2
        refine nil_ ⟨wl, t, zs, refs, es, D', L', D v0, rfl, s9 _ _ hw8, s9 _ _ ht8, rp8.same s9, val', z60, hD', hL', fun lt HA sA hlt0 hlt => ?_⟩
        rw [hzl] at hlt
        have v9 := penKeep s9 v8
        have nlt : lt ≠ p := Ne.symm (v9.ne hlt0)
        have vA := penKeep sA v9
        have bA := (b8.trans (But.of_same s9)).trans (But.of_same sA)
        have hldA := sA _ _ hld
        have hnA := (hn8.but (But.of_same s9)).but (But.of_same sA)
        refine ⟨_, rfl, p, a0, 30, rfl, hP5.but bA vA, by decide, by decide, fun less HB hr0 hr1 vB eB => ?_⟩
        have bAB : But p HA HB := But.of_eq eB
        have hldB := bAB _ _ nld hldA
        have hltB := bAB _ _ nlt hlt
        have hnB := hnA.but bAB
        have B3 := bd_higher B1 B2 less hr0 hr1
        have bB := bA.trans bAB
        clear hn8 hnA s9 hlt0 hld0 sA hld hlt hldA v9 vA bA bAB eB b8 v8
        refine ⟨_, rfl, _, _, rfl, SqA.len (K := K) (.inl hldB), _, rfl, by rw [intV_len, dlen]; omega, by rw [intV_len, dlen]; omega, ?_⟩
        rw [intV_len, dlen, Int.toNat_natCast]
        refine comp_range (fun C i acc σ' H' => ∃ o, σ' = [o, some (.ref ld), some (.int less), some (.ref lt)] ∧ acc = intV ((List.range i).map fun v => if (D v0 + wOf zs v - D' v) - less > D v then (D v0 + wOf zs v - D' v) - less else D v) ∧ Same HB H' ∧ HB C = none) fun C hC => ⟨?_, ?_, ?_⟩
        · exact ⟨none, rfl, rfl, Same.new hC, hC⟩
        · rintro i acc σ' H' hi ⟨o, rfl, rfl, sm, hC0⟩ hacc
          refine gYes ?_
          refine ⟨_, rfl, _, rfl, .lst (.of (sm _ _ hldB)) (by rw [Int.zero_add]; exact rngD_at hi) ⟨_, rfl, _, rfl, .lst (.of (sm _ _ hltB)) (by rw [Int.zero_add]; exact rngD_at hi) ⟨_, rfl, _, _, rfl, rfl, nil_ ⟨_, _, rfl, ?_⟩⟩⟩⟩
          refine ⟨hacc, by rw [intV_len, List.length_map, List.length_range]; exact small1000 (by omega), _, rfl, ?_, same_at sm hC0, hC0⟩
          unfold intV
          rw [List.range_succ, List.map_append, List.map_append]; rfl
        rintro acc σ' HC ⟨o, rfl, rfl, sC, hC0⟩ hacc
        have nC : C ≠ p := Ne.symm (vB.ne hC0)
        have vC := penKeep sC vB
        have bC := bB.trans (But.of_same sC)
        have hldC := sC _ _ hldB
        have hltC := sC _ _ hltB
        have hnC := hnB.but (But.of_same sC)
        clear hnB hldB hltB vB hC0 sC bB
        refine ⟨_, rfl, by decide, by decide, ?_⟩
        refine for_range (fun i σ H' => ∃ lh o11 o12 o13, σ = [some (.ref a), some (.ref p), some (.ref n), some (.ref t), some (.ref wq), some (.ref wl), some (.ref lh), some (.ref ld), some (.ref lt), some (.int less), some (.ref C), o11, o12, o13, none, none, none] ∧ Hnd p (5 + 200 * i) H' lh ∧ PenV H' p a0 ∧ But p HC H') ⟨lh, none, none, none, rfl, hnC, vC, But.refl p HC⟩ ?_ ?_
        · rintro i σ HD hi ⟨lh, o11, o12, o13, rfl, hnD, vD, bD⟩
          have bCD := bC.trans bD
          have WD := web_but hpC bCD W5
          have hBD := hB5.but hpC bCD hnp htp
          have hwD := bCD _ _ nwp hw
          have hldD := bD _ _ nld hldC
          have hltD := bD _ _ nlt hltC
          have hgD := bD _ _ nC hacc
          obtain ⟨ysD, hpD⟩ := penAt vD
          obtain ⟨refsD, htD, rpD⟩ := hBD.ti
          have fewD := hBD.few
          have h5 : (5 + 200 * i) ≤ 205 := by omega
          clear hldC hltC hacc
          refine ⟨_, rfl, _, rfl, _, rfl, _, rfl, p, a0, wl, t, ld, zs, refsD, es, D, rfl, hP5.but bCD vD, nwp, htp, nld, hwD, htD, rpD, by omega, val', z60, by omega, hris, hD, by rw [hzl]; exact hldD, fun lw xs v HE hlw nlw bv hsum hne ch hx hxl vE bE => ?_⟩
          have eV : D v = D v0 := by
            have h1 := best.2 v (by rw [← hzl]; exact bv.1)
            have h2 := bv.2 v0 (by rw [hzl]; exact best.1)
            omega
          rw [eV] at hsum
          rw [hzl] at hx hxl
          have nmE := bE _ _ hnp hBD.nm
          refine ⟨lw, rfl, ⟨_, .of hlw⟩, ?_⟩
          refine comp_list (natV xs) (fun R j acc σ' H' => ∃ o, σ' = [o, some (.ref n)] ∧ acc = List.map V.str ((xs.take j).map (nmA ss)) ∧ Same HE H' ∧ HE R = none) fun R hR => ⟨?_, ?_, ?_, ?_⟩
          · exact ⟨none, rfl, rfl, Same.new hR, hR⟩
          · rintro j acc σ' H' _ ⟨o, rfl, _, sm, _⟩ _
            exact .of (sm _ _ hlw)
          · rintro j acc σ' H' x hxj ⟨o, rfl, rfl, sm, hR0⟩ hacc'
            unfold natV at hxj
            rw [List.getElem?_map] at hxj
            obtain ⟨u, hu, rfl⟩ : ∃ u, xs[j]? = some u ∧ V.int (u : Int) = x := by
              cases c : xs[j]? with
              | none => rw [c] at hxj; cases hxj
              | some e => rw [c] at hxj; exact ⟨e, rfl, Option.some.inj hxj⟩
            have hil := (List.getElem?_eq_some_iff.mp hu).1
            have hun := hx u (List.mem_of_getElem? hu)
            refine gYes ?_
            refine ⟨_, rfl, _, rfl, .lst (.of (sm _ _ nmE)) (str_at hun) ⟨hacc', ?_, _, rfl, ?_, same_at sm hR0, hR0⟩⟩
            · rw [List.length_map, List.length_map, List.length_take]; exact small1000 (by omega)
            · rw [List.take_add_one, hu, List.map_append, List.map_append]; rfl
          rintro acc σ' HF ⟨o, rfl, rfl, sF, hR0⟩ hroad
          rw [natV_len, List.take_of_length_le (Nat.le_refl _)] at hroad
          have nR : R ≠ p := Ne.symm (vE.ne hR0)
          have vF := penKeep sF vE
          have bF := bE.trans (But.of_same sF)
          clear hR0 sF vE bE hlw nlw nmE bv eV
          refine ⟨_, rfl, _, rfl, _, rfl, (by show 3 ≤ sizeLine; decide), fun lz hlz => ?_⟩
          have sG := Same.new (o := .lst [.ref ld, .ref lt, .ref C]) hlz
          have eG : upd HF lz (.lst [.ref ld, .ref lt, .ref C]) lz = some (.lst [.ref ld, .ref lt, .ref C]) := upd_same
          have nlz : lz ≠ p := Ne.symm (vF.ne hlz)
          generalize upd HF lz (.lst [.ref ld, .ref lt, .ref C]) = HG at sG eG ⊢
          have vG := penKeep sG vF
          have bG := bF.trans (But.of_same sG)
          refine ⟨_, rfl, p, a0, 3, rfl, hP5.but (bCD.trans bG) vG, by decide, by decide, fun r HH h0 h1 vH eH => ?_⟩
          have bH := bG.trans (But.of_eq eH)
          have hroadH : HH R = some (.lst (List.map V.str (xs.map (nmA ss)))) := (eH R nR).trans (sG _ _ hroad)
          obtain ⟨ln, fN, hat, hln, BN⟩ : ∃ ln fN, atI [V.ref ld, V.ref lt, V.ref C] r = some (.ref ln) ∧ HH ln = some (.lst (intV ((List.range ss.length).map fN))) ∧ Bd ss.length es (wOf zs) (D v0) fN := by
            have : r = 0 ∨ r = 1 ∨ r = 2 := by omega
            rcases this with rfl | rfl | rfl
            · exact ⟨ld, _, rfl, bH _ _ nld hldD, B1⟩
            · exact ⟨lt, _, rfl, bH _ _ nlt hltD, B2⟩
            · exact ⟨C, _, rfl, bH _ _ nC hgD, B3⟩
          refine .lst (.of ((eH lz nlz).trans eG)) hat ?_
          have hldH := bH _ _ nld hldD
          have hhH := hnD.but bH
          have blen : ((List.range ss.length).map fN).length = ss.length := by rw [List.length_map, List.length_range]
          have bsm : ∀ b ∈ (List.range ss.length).map fN, b.natAbs < 10 ^ 39 := fun b hb => by
            obtain ⟨u, hu, rfl⟩ := List.mem_map.mp hb
            exact BN.sm u (List.mem_range.mp hu)
          have wnm : ∀ s ∈ xs.map (nmA ss), Nm s := fun s hs => by
            obtain ⟨u, hu, rfl⟩ := List.mem_map.mp hs
            exact hBD.ok _ (mem_getD (hx u hu))
          have wlen : (xs.map (nmA ss)).length = xs.length := List.length_map ..
          clear h0 h1 eH hroad eG hlz nlz sG vF bF vG bG hat hgD hltD hldD
          refine ⟨_, rfl, _, rfl, _, rfl, nil_ ⟨ld, _, rfl, .of hldH, by rw [dlen]; exact hpos, fun M hM1 hM2 => ?_⟩⟩
          have eM := max_is best hM1 hM2
          subst eM
          clear hM1 hM2
          refine ⟨_, rfl, _, rfl, nil_ ⟨_, rfl, .seq (.inl (.of hln)) fun l2 hl2 => ?_⟩⟩
          have sI := Same.new (o := .lst (intV ((List.range ss.length).map fN))) hl2
          have eI : upd HH l2 (.lst (intV ((List.range ss.length).map fN))) l2 = some (.lst (intV ((List.range ss.length).map fN))) := upd_same
          have nl2 : l2 ≠ p := Ne.symm (vH.ne hl2)
          generalize upd HH l2 (.lst (intV ((List.range ss.length).map fN))) = HI at sI eI ⊢
          have vI := penKeep sI vH
          refine nil_ ⟨(by show 3 ≤ sizeLine; decide), fun tq htq => ?_⟩
          have sJ := Same.new (o := .tup [.int (D v0), .ref R, .ref l2]) htq
          have eJ : upd HI tq (.tup [.int (D v0), .ref R, .ref l2]) tq = some (.tup [.int (D v0), .ref R, .ref l2]) := upd_same
          have ntq : tq ≠ p := Ne.symm (vI.ne htq)
          generalize upd HI tq (.tup [.int (D v0), .ref R, .ref l2]) = HJ at sJ eJ ⊢
          have sHJ := sI.trans sJ
          have roadJ := sHJ _ _ hroadH
          have numJ := sJ _ _ eI
          have bJ := bH.trans (But.of_same sHJ)
          have i40 : ∀ j : Int, j.natAbs < 10 ^ 39 → j.natAbs < 10 ^ 40 := fun j hj => Nat.lt_of_lt_of_le hj (by decide)
          have g2 : G2 (NP p) HJ (.ref tq) := by
            refine g2_tup eJ ntq (by show 3 ≤ 4; decide) fun y hy => ?_
            simp only [List.mem_cons, List.not_mem_nil, or_false] at hy
            rcases hy with rfl | rfl | rfl
            · exact g0_f (g0_int (i40 _ mbd)) rfl
            · refine g1_lst roadJ nR (by rw [List.length_map, wlen]; omega) fun z hz => ?_
              obtain ⟨u, hu, rfl⟩ := List.mem_map.mp hz
              exact g0_str (wnm u hu)
            · refine g1_lst numJ nl2 (by rw [intV_len, blen]; omega) fun z hz => ?_
              obtain ⟨u, hu, rfl⟩ := List.mem_map.mp hz
              exact g0_int (i40 _ (bsm u hu))
          have ok : ToldOk HJ ss es zs (.ref tq) := .inr ⟨h, tq, D v0, .ref R, .ref l2, rfl, eJ, ⟨R, xs, rfl, roadJ, hne, hx, ch, hsum⟩, BN.ok val numJ⟩
          refine nil_ ⟨.ref wq, .ref tq, wl, ss, es, zs, rfl, web_but hpD bJ WD, val, hris, bJ _ _ nwp hwD, hzl, g2.1.same Mq.of, fun HK sK => ?_⟩
          rw [dec_t ok]
          refine .bl ⟨_, rfl, iteF ?_⟩
          have sHK := sHJ.trans sK
          have vK := penKeep sHK vH
          have hldK := sHK _ _ hldH
          have roadK := sHK _ _ hroadH
          have hlnK := sHK _ _ hln
          have bK := bH.trans (But.of_same sHK)
          have hhK := hhH.but (But.of_same sHK)
          clear ok g2 bJ numJ roadJ sHJ eJ htq ntq sJ sI eI hl2 nl2 vI hldH hroadH hln hhH bH vH sK sHK
          refine ⟨_, rfl, _, rfl, _, rfl, _, rfl, nil_ ⟨ld, _, rfl, .of hldK, by rw [dlen]; exact hpos, fun M hM1 hM2 => ?_⟩⟩
          have eM := max_is best hM1 hM2
          subst eM
          clear hM1 hM2
          refine ⟨_, rfl, _, rfl, nil_ ⟨_, rfl, .seq (.inl (.of hlnK)) fun l3 hl3 => ?_⟩⟩
          have sL := Same.new (o := .lst (intV ((List.range ss.length).map fN))) hl3
          have eL : upd HK l3 (.lst (intV ((List.range ss.length).map fN))) l3 = some (.lst (intV ((List.range ss.length).map fN))) := upd_same
          have nl3 : l3 ≠ p := Ne.symm (vK.ne hl3)
          generalize upd HK l3 (.lst (intV ((List.range ss.length).map fN))) = HL at sL eL ⊢
          have vL := penKeep sL vK
          refine nil_ ⟨(by show 3 ≤ sizeLine; decide), fun tr htr => ?_⟩
          have sM := Same.new (o := .tup [.int (D v0), .ref R, .ref l3]) htr
          have eM' : upd HL tr (.tup [.int (D v0), .ref R, .ref l3]) tr = some (.tup [.int (D v0), .ref R, .ref l3]) := upd_same
          have ntr : tr ≠ p := Ne.symm (vL.ne htr)
          generalize upd HL tr (.tup [.int (D v0), .ref R, .ref l3]) = HM at sM eM' ⊢
          have sKM := sL.trans sM
          have vM := penKeep sM vL
          have bM := bK.trans (But.of_same sKM)
          have hhM := hhK.but (But.of_same sKM)
          refine nil_ ⟨p, a0, n, tr, R, l3, ss, xs.map (nmA ss), _, D v0, rfl, hP5.but (bCD.trans bM) vM, hnp, ntr, nR, nl3, bM _ _ hnp hBD.nm, hBD.ok, hpos, h60, eM', sKM _ _ roadK, wnm, by rw [wlen]; exact List.length_pos_iff.mpr hne, by rw [wlen]; omega, sM _ _ eL, by rw [blen]; exact h12, bsm, mbd, fun lb ys HZ hlb nlb hyl gy vZ bZ => ?_⟩
          obtain ⟨hs, hlhZ, nlh, hsne, hsl, gs⟩ := hhM.but bZ
          refine .lst hlhZ hlb (by exact Nat.le_of_lt (small1000 (by omega))) fun lq hlq => ?_
          have sq := Same.new (o := .lst (hs ++ ys)) hlq
          refine ⟨lq, _, _, _, rfl, ⟨hs ++ ys, upd_same, Ne.symm (vZ.ne hlq), (fun z => hsne (List.append_eq_nil_iff.mp z).1), by rw [List.length_append]; omega, fun x hx' => ?_⟩, penKeep sq vZ, (bD.trans (bM.trans bZ)).trans (But.of_same sq)⟩
          rcases List.mem_append.mp hx' with q | q
          · exact mono_g2 _ _ _ sq (gs x q)
          · exact mono_g2 _ _ _ sq (gy x q)
        · rintro σ HD ⟨lh, o11, o12, o13, rfl, hnD, vD, bD⟩
          exact hN _ _ ⟨lh, _, _, _, _, _, _, _, rfl, hnD, vD, bC.trans bD⟩
      · have h : ss = [] := by simpa using h
        exact hN _ _ ⟨lh, none, none, none, none, none, none, none, rfl, (let ⟨xs, h1, h2, h3, h4, h5⟩ := hn8; ⟨xs, h1, h2, h3, by omega, h5⟩), v8, b8⟩
end
end K25
namespace K25
open PySem L2
section
variable {P : Program} {w : World} {K : PySem.W.Frag} {mg : Str → Option Value} {base : Heap}
theorem ar1 {us : List Value} (h : us.length = 1) : ∃ a, us = [a] := List.length_eq_one_iff.mp h
theorem ar2 {us : List Value} (h : us.length = 2) : ∃ a1 a2, us = [a1, a2] := by
  obtain ⟨a1, t, rfl⟩ := List.exists_cons_of_length_eq_add_one h
  obtain ⟨a2, rfl⟩ := ar1 (Nat.succ.inj h)
  exact ⟨a1, a2, rfl⟩
theorem ar3 {us : List Value} (h : us.length = 3) : ∃ a1 a2 a3, us = [a1, a2, a3] := by
  obtain ⟨a1, t, rfl⟩ := List.exists_cons_of_length_eq_add_one h
  obtain ⟨a2, a3, rfl⟩ := ar2 (Nat.succ.inj h)
  exact ⟨a1, a2, a3, rfl⟩
theorem ar4 {us : List Value} (h : us.length = 4) : ∃ a1 a2 a3 a4, us = [a1, a2, a3, a4] := by
  obtain ⟨a1, t, rfl⟩ := List.exists_cons_of_length_eq_add_one h
  obtain ⟨a2, a3, a4, rfl⟩ := ar3 (Nat.succ.inj h)
  exact ⟨a1, a2, a3, a4, rfl⟩
theorem all_mk {l : PySem.W.OpenLaw} {w : World} {K : PySem.W.Frag} {h : Heap} {mg : Str → Option Value} {fa f1 f2 f3 f4 f5 f6 f7 f8 f9 f10 f11 f12 f13 f14 f15 f16 f17 f18 f19 f20 f21 f22 f23 f24 f25 f26 f27 f28 f29 : Addr} (X : K.In h) (G : h.Ns mainGlobals mg) (hfa : mg "law" = some (.ref fa))
    {od1 an1 od2 an2 od3 an3 od4 an4 od5 an5 od6 an6 od7 an7 od8 an8 od9 an9 od10 an10 od11 an11 od12 an12 od13 an13 od14 an14 od15 an15 od16 an16 od17 an17 od18 an18 od19 an19 od20 an20 od21 an21 od22 an22 od23 an23 od24 an24 od25 an25 od26 an26 od27 an27 od28 an28 od29 an29 : Option Addr} {sl1 sl2 sl3 sl4 sl5 sl6 sl7 sl8 sl9 sl10 sl11 sl12 sl13 sl14 sl15 sl16 sl17 sl18 sl19 sl20 sl21 sl22 sl23 sl24 sl25 sl26 sl27 sl28 sl29 : Array (Option Value)} {oc1 kV1 dc1 pm1 cd1 ct1 oc2 kV2 dc2 pm2 cd2 ct2 oc3 kV3 dc3 pm3 cd3 ct3 oc4 kV4 dc4 pm4 cd4 ct4 oc5 kV5 dc5 pm5 cd5 ct5 oc6 kV6 dc6 pm6 cd6 ct6 oc7 kV7 dc7 pm7 cd7 ct7 oc8 kV8 dc8 pm8 cd8 ct8 oc9 kV9 dc9 pm9 cd9 ct9 oc10 kV10 dc10 pm10 cd10 ct10 oc11 kV11 dc11 pm11 cd11 ct11 oc12 kV12 dc12 pm12 cd12 ct12 oc13 kV13 dc13 pm13 cd13 ct13 oc14 kV14 dc14 pm14 cd14 ct14 oc15 kV15 dc15 pm15 cd15 ct15 oc16 kV16 dc16 pm16 cd16 ct16 oc17 kV17 dc17 pm17 cd17 ct17 oc18 kV18 dc18 pm18 cd18 ct18 oc19 kV19 dc19 pm19 cd19 ct19 oc20 kV20 dc20 pm20 cd20 ct20 oc21 kV21 dc21 pm21 cd21 ct21 oc22 kV22 dc22 pm22 cd22 ct22 oc23 kV23 dc23 pm23 cd23 ct23 oc24 kV24 dc24 pm24 cd24 ct24 oc25 kV25 dc25 pm25 cd25 ct25 oc26 kV26 dc26 pm26 cd26 ct26 oc27 kV27 dc27 pm27 cd27 ct27 oc28 kV28 dc28 pm28 cd28 ct28 oc29 kV29 dc29 pm29 cd29 ct29 : Value}
    (a1 : PySem.W.nsIn K mainGlobals "is_name" = some (some (.ref f1))) (l1 : K.lookup f1 = some ⟨oc1, od1, .func (PySem.W.fnOf "is_name" "is_name" (defArgs sIsName) (defBody sIsName) (defScope sIsName) .none kV1 dc1 pm1 an1 cd1 ct1), sl1⟩) (c1 : PySem.W.codeIn K cd1 "is_name" = true) (k1 : PySem.W.keepIn K (.ref f1) = true)
    (a2 : PySem.W.nsIn K mainGlobals "is_whole" = some (some (.ref f2))) (l2 : K.lookup f2 = some ⟨oc2, od2, .func (PySem.W.fnOf "is_whole" "is_whole" (defArgs sIsWhole) (defBody sIsWhole) (defScope sIsWhole) .none kV2 dc2 pm2 an2 cd2 ct2), sl2⟩) (c2 : PySem.W.codeIn K cd2 "is_whole" = true) (k2 : PySem.W.keepIn K (.ref f2) = true)
    (a3 : PySem.W.nsIn K mainGlobals "nexts" = some (some (.ref f3))) (l3 : K.lookup f3 = some ⟨oc3, od3, .func (PySem.W.fnOf "nexts" "nexts" (defArgs sNexts) (defBody sNexts) (defScope sNexts) .none kV3 dc3 pm3 an3 cd3 ct3), sl3⟩) (c3 : PySem.W.codeIn K cd3 "nexts" = true) (k3 : PySem.W.keepIn K (.ref f3) = true)
    (a4 : PySem.W.nsIn K mainGlobals "places_of" = some (some (.ref f4))) (l4 : K.lookup f4 = some ⟨oc4, od4, .func (PySem.W.fnOf "places_of" "places_of" (defArgs sPlaces) (defBody sPlaces) (defScope sPlaces) .none kV4 dc4 pm4 an4 cd4 ct4), sl4⟩) (c4 : PySem.W.codeIn K cd4 "places_of" = true) (k4 : PySem.W.keepIn K (.ref f4) = true)
    (a5 : PySem.W.nsIn K mainGlobals "lists_things" = some (some (.ref f5))) (l5 : K.lookup f5 = some ⟨oc5, od5, .func (PySem.W.fnOf "lists_things" "lists_things" (defArgs sLists) (defBody sLists) (defScope sLists) .none kV5 dc5 pm5 an5 cd5 ct5), sl5⟩) (c5 : PySem.W.codeIn K cd5 "lists_things" = true) (k5 : PySem.W.keepIn K (.ref f5) = true)
    (a6 : PySem.W.nsIn K mainGlobals "nexts_of_all" = some (some (.ref f6))) (l6 : K.lookup f6 = some ⟨oc6, od6, .func (PySem.W.fnOf "nexts_of_all" "nexts_of_all" (defArgs sNextsAll) (defBody sNextsAll) (defScope sNextsAll) .none kV6 dc6 pm6 an6 cd6 ct6), sl6⟩) (c6 : PySem.W.codeIn K cd6 "nexts_of_all" = true) (k6 : PySem.W.keepIn K (.ref f6) = true)
    (a7 : PySem.W.nsIn K mainGlobals "steps_from" = some (some (.ref f7))) (l7 : K.lookup f7 = some ⟨oc7, od7, .func (PySem.W.fnOf "steps_from" "steps_from" (defArgs sSteps) (defBody sSteps) (defScope sSteps) .none kV7 dc7 pm7 an7 cd7 ct7), sl7⟩) (c7 : PySem.W.codeIn K cd7 "steps_from" = true) (k7 : PySem.W.keepIn K (.ref f7) = true)
    (a8 : PySem.W.nsIn K mainGlobals "is_way" = some (some (.ref f8))) (l8 : K.lookup f8 = some ⟨oc8, od8, .func (PySem.W.fnOf "is_way" "is_way" (defArgs sIsWay) (defBody sIsWay) (defScope sIsWay) .none kV8 dc8 pm8 an8 cd8 ct8), sl8⟩) (c8 : PySem.W.codeIn K cd8 "is_way" = true) (k8 : PySem.W.keepIn K (.ref f8) = true)
    (a9 : PySem.W.nsIn K mainGlobals "ring_by" = some (some (.ref f9))) (l9 : K.lookup f9 = some ⟨oc9, od9, .func (PySem.W.fnOf "ring_by" "ring_by" (defArgs sRingBy) (defBody sRingBy) (defScope sRingBy) .none kV9 dc9 pm9 an9 cd9 ct9), sl9⟩) (c9 : PySem.W.codeIn K cd9 "ring_by" = true) (k9 : PySem.W.keepIn K (.ref f9) = true)
    (a10 : PySem.W.nsIn K mainGlobals "ring_of" = some (some (.ref f10))) (l10 : K.lookup f10 = some ⟨oc10, od10, .func (PySem.W.fnOf "ring_of" "ring_of" (defArgs sRingOf) (defBody sRingOf) (defScope sRingOf) .none kV10 dc10 pm10 an10 cd10 ct10), sl10⟩) (c10 : PySem.W.codeIn K cd10 "ring_of" = true) (k10 : PySem.W.keepIn K (.ref f10) = true)
    (a11 : PySem.W.nsIn K mainGlobals "refuse_ring" = some (some (.ref f11))) (l11 : K.lookup f11 = some ⟨oc11, od11, .func (PySem.W.fnOf "refuse_ring" "refuse_ring" (defArgs sRefuse) (defBody sRefuse) (defScope sRefuse) .none kV11 dc11 pm11 an11 cd11 ct11), sl11⟩) (c11 : PySem.W.codeIn K cd11 "refuse_ring" = true) (k11 : PySem.W.keepIn K (.ref f11) = true)
    (a12 : PySem.W.nsIn K mainGlobals "shows_deepest" = some (some (.ref f12))) (l12 : K.lookup f12 = some ⟨oc12, od12, .func (PySem.W.fnOf "shows_deepest" "shows_deepest" (defArgs sShowsD) (defBody sShowsD) (defScope sShowsD) .none kV12 dc12 pm12 an12 cd12 ct12), sl12⟩) (c12 : PySem.W.codeIn K cd12 "shows_deepest" = true) (k12 : PySem.W.keepIn K (.ref f12) = true)
    (a13 : PySem.W.nsIn K mainGlobals "weights_by_thing" = some (some (.ref f13))) (l13 : K.lookup f13 = some ⟨oc13, od13, .func (PySem.W.fnOf "weights_by_thing" "weights_by_thing" (defArgs sWeigh) (defBody sWeigh) (defScope sWeigh) .none kV13 dc13 pm13 an13 cd13 ct13), sl13⟩) (c13 : PySem.W.codeIn K cd13 "weights_by_thing" = true) (k13 : PySem.W.keepIn K (.ref f13) = true)
    (a14 : PySem.W.nsIn K mainGlobals "are_wholes" = some (some (.ref f14))) (l14 : K.lookup f14 = some ⟨oc14, od14, .func (PySem.W.fnOf "are_wholes" "are_wholes" (defArgs sWholes) (defBody sWholes) (defScope sWholes) .none kV14 dc14 pm14 an14 cd14 ct14), sl14⟩) (c14 : PySem.W.codeIn K cd14 "are_wholes" = true) (k14 : PySem.W.keepIn K (.ref f14) = true)
    (a15 : PySem.W.nsIn K mainGlobals "way_weighs" = some (some (.ref f15))) (l15 : K.lookup f15 = some ⟨oc15, od15, .func (PySem.W.fnOf "way_weighs" "way_weighs" (defArgs sWayW) (defBody sWayW) (defScope sWayW) .none kV15 dc15 pm15 an15 cd15 ct15), sl15⟩) (c15 : PySem.W.codeIn K cd15 "way_weighs" = true) (k15 : PySem.W.keepIn K (.ref f15) = true)
    (a16 : PySem.W.nsIn K mainGlobals "are_bounds" = some (some (.ref f16))) (l16 : K.lookup f16 = some ⟨oc16, od16, .func (PySem.W.fnOf "are_bounds" "are_bounds" (defArgs sBounds) (defBody sBounds) (defScope sBounds) .none kV16 dc16 pm16 an16 cd16 ct16), sl16⟩) (c16 : PySem.W.codeIn K cd16 "are_bounds" = true) (k16 : PySem.W.keepIn K (.ref f16) = true)
    (a17 : PySem.W.nsIn K mainGlobals "_law_take" = some (some (.ref f17))) (l17 : K.lookup f17 = some ⟨oc17, od17, .func (PySem.W.fnOf "_law_take" "_law_take" (defArgs sTake) (defBody sTake) (defScope sTake) .none kV17 dc17 pm17 an17 cd17 ct17), sl17⟩) (c17 : PySem.W.codeIn K cd17 "_law_take" = true) (k17 : PySem.W.keepIn K (.ref f17) = true)
    (a18 : PySem.W.nsIn K mainGlobals "_law_names" = some (some (.ref f18))) (l18 : K.lookup f18 = some ⟨oc18, od18, .func (PySem.W.fnOf "_law_names" "_law_names" (defArgs sNames) (defBody sNames) (defScope sNames) .none kV18 dc18 pm18 an18 cd18 ct18), sl18⟩) (c18 : PySem.W.codeIn K cd18 "_law_names" = true) (k18 : PySem.W.keepIn K (.ref f18) = true)
    (a19 : PySem.W.nsIn K mainGlobals "_law_ties" = some (some (.ref f19))) (l19 : K.lookup f19 = some ⟨oc19, od19, .func (PySem.W.fnOf "_law_ties" "_law_ties" (defArgs sTies) (defBody sTies) (defScope sTies) .none kV19 dc19 pm19 an19 cd19 ct19), sl19⟩) (c19 : PySem.W.codeIn K cd19 "_law_ties" = true) (k19 : PySem.W.keepIn K (.ref f19) = true)
    (a20 : PySem.W.nsIn K mainGlobals "_law_built" = some (some (.ref f20))) (l20 : K.lookup f20 = some ⟨oc20, od20, .func (PySem.W.fnOf "_law_built" "_law_built" (defArgs sBuilt) (defBody sBuilt) (defScope sBuilt) .none kV20 dc20 pm20 an20 cd20 ct20), sl20⟩) (c20 : PySem.W.codeIn K cd20 "_law_built" = true) (k20 : PySem.W.keepIn K (.ref f20) = true)
    (a21 : PySem.W.nsIn K mainGlobals "_law_web" = some (some (.ref f21))) (l21 : K.lookup f21 = some ⟨oc21, od21, .func (PySem.W.fnOf "_law_web" "_law_web" (defArgs sWeb) (defBody sWeb) (defScope sWeb) .none kV21 dc21 pm21 an21 cd21 ct21), sl21⟩) (c21 : PySem.W.codeIn K cd21 "_law_web" = true) (k21 : PySem.W.keepIn K (.ref f21) = true)
    (a22 : PySem.W.nsIn K mainGlobals "_law_weights" = some (some (.ref f22))) (l22 : K.lookup f22 = some ⟨oc22, od22, .func (PySem.W.fnOf "_law_weights" "_law_weights" (defArgs sWts) (defBody sWts) (defScope sWts) .none kV22 dc22 pm22 an22 cd22 ct22), sl22⟩) (c22 : PySem.W.codeIn K cd22 "_law_weights" = true) (k22 : PySem.W.keepIn K (.ref f22) = true)
    (a23 : PySem.W.nsIn K mainGlobals "_law_depths" = some (some (.ref f23))) (l23 : K.lookup f23 = some ⟨oc23, od23, .func (PySem.W.fnOf "_law_depths" "_law_depths" (defArgs sLDepths) (defBody sLDepths) (defScope sLDepths) .none kV23 dc23 pm23 an23 cd23 ct23), sl23⟩) (c23 : PySem.W.codeIn K cd23 "_law_depths" = true) (k23 : PySem.W.keepIn K (.ref f23) = true)
    (a24 : PySem.W.nsIn K mainGlobals "_law_way" = some (some (.ref f24))) (l24 : K.lookup f24 = some ⟨oc24, od24, .func (PySem.W.fnOf "_law_way" "_law_way" (defArgs sLWay) (defBody sLWay) (defScope sLWay) .none kV24 dc24 pm24 an24 cd24 ct24), sl24⟩) (c24 : PySem.W.codeIn K cd24 "_law_way" = true) (k24 : PySem.W.keepIn K (.ref f24) = true)
    (a25 : PySem.W.nsIn K mainGlobals "_law_latest" = some (some (.ref f25))) (l25 : K.lookup f25 = some ⟨oc25, od25, .func (PySem.W.fnOf "_law_latest" "_law_latest" (defArgs sLatest) (defBody sLatest) (defScope sLatest) .none kV25 dc25 pm25 an25 cd25 ct25), sl25⟩) (c25 : PySem.W.codeIn K cd25 "_law_latest" = true) (k25 : PySem.W.keepIn K (.ref f25) = true)
    (a26 : PySem.W.nsIn K mainGlobals "_law_whole" = some (some (.ref f26))) (l26 : K.lookup f26 = some ⟨oc26, od26, .func (PySem.W.fnOf "_law_whole" "_law_whole" (defArgs sLWhole) (defBody sLWhole) (defScope sLWhole) .none kV26 dc26 pm26 an26 cd26 ct26), sl26⟩) (c26 : PySem.W.codeIn K cd26 "_law_whole" = true) (k26 : PySem.W.keepIn K (.ref f26) = true)
    (a27 : PySem.W.nsIn K mainGlobals "_law_shows" = some (some (.ref f27))) (l27 : K.lookup f27 = some ⟨oc27, od27, .func (PySem.W.fnOf "_law_shows" "_law_shows" (defArgs sLShows) (defBody sLShows) (defScope sLShows) .none kV27 dc27 pm27 an27 cd27 ct27), sl27⟩) (c27 : PySem.W.codeIn K cd27 "_law_shows" = true) (k27 : PySem.W.keepIn K (.ref f27) = true)
    (a28 : PySem.W.nsIn K mainGlobals "_law_bent" = some (some (.ref f28))) (l28 : K.lookup f28 = some ⟨oc28, od28, .func (PySem.W.fnOf "_law_bent" "_law_bent" (defArgs sBent) (defBody sBent) (defScope sBent) .none kV28 dc28 pm28 an28 cd28 ct28), sl28⟩) (c28 : PySem.W.codeIn K cd28 "_law_bent" = true) (k28 : PySem.W.keepIn K (.ref f28) = true)
    (a29 : PySem.W.nsIn K mainGlobals "law" = some (some (.ref f29))) (l29 : K.lookup f29 = some ⟨oc29, od29, .func (PySem.W.fnOf "law" "law" (defArgs sLaw) (defBody sLaw) (defScope sLaw) .none kV29 dc29 pm29 an29 cd29 ct29), sl29⟩) (c29 : PySem.W.codeIn K cd29 "law" = true) (k29 : PySem.W.keepIn K (.ref f29) = true)
    (z1 : PySem.W.nsIn K mainGlobals "len" = some none) (z2 : PySem.W.nsIn K mainGlobals "range" = some none) (z3 : PySem.W.nsIn K mainGlobals "abs" = some none) (z4 : PySem.W.nsIn K mainGlobals "all" = some none) (z5 : PySem.W.nsIn K mainGlobals "repr" = some none) (z6 : PySem.W.nsIn K mainGlobals "isinstance" = some none) (z7 : PySem.W.nsIn K mainGlobals "str" = some none) (z8 : PySem.W.nsIn K mainGlobals "int" = some none) (z9 : PySem.W.nsIn K mainGlobals "bool" = some none) (z10 : PySem.W.nsIn K mainGlobals "enumerate" = some none) (z11 : PySem.W.nsIn K mainGlobals "list" = some none) (z12 : PySem.W.nsIn K mainGlobals "tuple" = some none) (z13 : PySem.W.nsIn K mainGlobals "dict" = some none) (z14 : PySem.W.nsIn K mainGlobals "min" = some none) (z15 : PySem.W.nsIn K mainGlobals "max" = some none) (z16 : PySem.W.nsIn K mainGlobals "zip" = some none) (z17 : PySem.W.nsIn K mainGlobals "sum" = some none)
    {tk1 : Tok} (y1 : PySem.W.nsIn K mainGlobals "MOST_SIGNS" = some (some (.int 8 tk1)))
    : ∃ fd : FuncData, (∀ (s : Shared) (v : Value), BindsTo s fd ⟨[v], []⟩ [("_law_script", v)]) ∧ ∀ base : Heap, K.In base → base.Ns mainGlobals mg → FnOk l.prog w K mg base CX0 10 fa fd ["_law_script"] (spLaw K) := by
  have e := hfa.symm.trans (PySem.W.mg_of X G a29)
  cases e
  have B : Blt mg := ⟨PySem.W.mg_none_of X G z1, PySem.W.mg_none_of X G z2, PySem.W.mg_none_of X G z3, PySem.W.mg_none_of X G z4, PySem.W.mg_none_of X G z5, PySem.W.mg_none_of X G z6, PySem.W.mg_none_of X G z7, PySem.W.mg_none_of X G z8, PySem.W.mg_none_of X G z9, PySem.W.mg_none_of X G z10, PySem.W.mg_none_of X G z11, PySem.W.mg_none_of X G z12, PySem.W.mg_none_of X G z13, PySem.W.mg_none_of X G z14, PySem.W.mg_none_of X G z15⟩
  have Zzip := PySem.W.mg_none_of X G z16
  have Zsum := PySem.W.mg_none_of X G z17
  have TMOST_SIGNS := PySem.W.mg_of X G y1
  have F1 := fun_mk (st := sIsName) l1 c1 k1
  have F2 := fun_mk (st := sIsWhole) l2 c2 k2
  have F3 := fun_mk (st := sNexts) l3 c3 k3
  have F4 := fun_mk (st := sPlaces) l4 c4 k4
  have F5 := fun_mk (st := sLists) l5 c5 k5
  have F6 := fun_mk (st := sNextsAll) l6 c6 k6
  have F7 := fun_mk (st := sSteps) l7 c7 k7
  have F8 := fun_mk (st := sIsWay) l8 c8 k8
  have F9 := fun_mk (st := sRingBy) l9 c9 k9
  have F10 := fun_mk (st := sRingOf) l10 c10 k10
  have F11 := fun_mk (st := sRefuse) l11 c11 k11
  have F12 := fun_mk (st := sShowsD) l12 c12 k12
  have F13 := fun_mk (st := sWeigh) l13 c13 k13
  have F14 := fun_mk (st := sWholes) l14 c14 k14
  have F15 := fun_mk (st := sWayW) l15 c15 k15
  have F16 := fun_mk (st := sBounds) l16 c16 k16
  have F17 := fun_mk (st := sTake) l17 c17 k17
  have F18 := fun_mk (st := sNames) l18 c18 k18
  have F19 := fun_mk (st := sTies) l19 c19 k19
  have F20 := fun_mk (st := sBuilt) l20 c20 k20
  have F21 := fun_mk (st := sWeb) l21 c21 k21
  have F22 := fun_mk (st := sWts) l22 c22 k22
  have F23 := fun_mk (st := sLDepths) l23 c23 k23
  have F24 := fun_mk (st := sLWay) l24 c24 k24
  have F25 := fun_mk (st := sLatest) l25 c25 k25
  have F26 := fun_mk (st := sLWhole) l26 c26 k26
  have F27 := fun_mk (st := sLShows) l27 c27 k27
  have F28 := fun_mk (st := sBent) l28 c28 k28
  have F29 := fun_mk (st := sLaw) l29 c29 k29
  have b1 := F1.binds (ps := ["thing"]) fun _ _ _ _ _ _ us hl => by obtain ⟨_, rfl⟩ := ar1 hl; rfl
  have b2 := F2.binds (ps := ["thing"]) fun _ _ _ _ _ _ us hl => by obtain ⟨_, rfl⟩ := ar1 hl; rfl
  have b3 := F3.binds (ps := ["web", "one"]) fun _ _ _ _ _ _ us hl => by obtain ⟨_, _, rfl⟩ := ar2 hl; rfl
  have b4 := F4.binds (ps := ["things"]) fun _ _ _ _ _ _ us hl => by obtain ⟨_, rfl⟩ := ar1 hl; rfl
  have b5 := F5.binds (ps := ["web", "thing"]) fun _ _ _ _ _ _ us hl => by obtain ⟨_, _, rfl⟩ := ar2 hl; rfl
  have b6 := F6.binds (ps := ["web"]) fun _ _ _ _ _ _ us hl => by obtain ⟨_, rfl⟩ := ar1 hl; rfl
  have b7 := F7.binds (ps := ["table", "starts"]) fun _ _ _ _ _ _ us hl => by obtain ⟨_, _, rfl⟩ := ar2 hl; rfl
  have b8 := F8.binds (ps := ["web", "one", "other", "things"]) fun _ _ _ _ _ _ us hl => by obtain ⟨_, _, _, _, rfl⟩ := ar4 hl; rfl
  have b9 := F9.binds (ps := ["web", "one", "other"]) fun _ _ _ _ _ _ us hl => by obtain ⟨_, _, _, rfl⟩ := ar3 hl; rfl
  have b10 := F10.binds (ps := ["web"]) fun _ _ _ _ _ _ us hl => by obtain ⟨_, rfl⟩ := ar1 hl; rfl
  have b11 := F11.binds (ps := ["web"]) fun _ _ _ _ _ _ us hl => by obtain ⟨_, rfl⟩ := ar1 hl; rfl
  have b12 := F12.binds (ps := ["web", "weights", "told"]) fun _ _ _ _ _ _ us hl => by obtain ⟨_, _, _, rfl⟩ := ar3 hl; rfl
  have b13 := F13.binds (ps := ["web", "weights"]) fun _ _ _ _ _ _ us hl => by obtain ⟨_, _, rfl⟩ := ar2 hl; rfl
  have b14 := F14.binds (ps := ["web", "numbers"]) fun _ _ _ _ _ _ us hl => by obtain ⟨_, _, rfl⟩ := ar2 hl; rfl
  have b15 := F15.binds (ps := ["web", "weighed", "things", "weight"]) fun _ _ _ _ _ _ us hl => by obtain ⟨_, _, _, _, rfl⟩ := ar4 hl; rfl
  have b16 := F16.binds (ps := ["web", "weighed", "bounds", "most"]) fun _ _ _ _ _ _ us hl => by obtain ⟨_, _, _, _, rfl⟩ := ar4 hl; rfl
  have b17 := F17.binds (ps := ["_law_pen", "_law_many"]) fun _ _ _ _ _ _ us hl => by obtain ⟨_, _, rfl⟩ := ar2 hl; rfl
  have b18 := F18.binds (ps := ["_law_pen", "_law_many"]) fun _ _ _ _ _ _ us hl => by obtain ⟨_, _, rfl⟩ := ar2 hl; rfl
  have b19 := F19.binds (ps := ["_law_pen", "_law_size", "_law_count"]) fun _ _ _ _ _ _ us hl => by obtain ⟨_, _, _, rfl⟩ := ar3 hl; rfl
  have b20 := F20.binds (ps := ["_law_pen"]) fun _ _ _ _ _ _ us hl => by obtain ⟨_, rfl⟩ := ar1 hl; rfl
  have b21 := F21.binds (ps := ["_law_names_here", "_law_ties_here"]) fun _ _ _ _ _ _ us hl => by obtain ⟨_, _, rfl⟩ := ar2 hl; rfl
  have b22 := F22.binds (ps := ["_law_pen", "_law_size"]) fun _ _ _ _ _ _ us hl => by obtain ⟨_, _, rfl⟩ := ar2 hl; rfl
  have b23 := F23.binds (ps := ["_law_weights_here", "_law_ties_here"]) fun _ _ _ _ _ _ us hl => by obtain ⟨_, _, rfl⟩ := ar2 hl; rfl
  have b24 := F24.binds (ps := ["_law_pen", "_law_weights_here", "_law_ties_here", "_law_due"]) fun _ _ _ _ _ _ us hl => by obtain ⟨_, _, _, _, rfl⟩ := ar4 hl; rfl
  have b25 := F25.binds (ps := ["_law_weights_here", "_law_ties_here", "_law_most"]) fun _ _ _ _ _ _ us hl => by obtain ⟨_, _, _, rfl⟩ := ar3 hl; rfl
  have b26 := F26.binds (ps := ["_law_thing"]) fun _ _ _ _ _ _ us hl => by obtain ⟨_, rfl⟩ := ar1 hl; rfl
  have b27 := F27.binds (ps := ["_law_web_here", "_law_weights_here", "_law_told"]) fun _ _ _ _ _ _ us hl => by obtain ⟨_, _, _, rfl⟩ := ar3 hl; rfl
  have b28 := F28.binds (ps := ["_law_pen", "_law_names_here", "_law_told"]) fun _ _ _ _ _ _ us hl => by obtain ⟨_, _, _, rfl⟩ := ar3 hl; rfl
  refine ⟨PySem.W.fnOf "law" "law" (defArgs sLaw) (defBody sLaw) (defScope sLaw) .none kV29 dc29 pm29 an29 cd29 ct29, fun s v => .of_eq rfl, fun base XB GB => ?_⟩
  have c__law_take : Cal l.prog w K mg base 1 "_law_take" ["_law_pen", "_law_many"] (spDraw K) := ⟨_, _, ok_take F17 B, PySem.W.mg_of X G a17, k17, b17⟩
  have c__law_names : Cal l.prog w K mg base 2 "_law_names" ["_law_pen", "_law_many"] (spNames K) := ⟨_, _, ok_names F18 B c__law_take, PySem.W.mg_of X G a18, k18, b18⟩
  have c__law_ties : Cal l.prog w K mg base 2 "_law_ties" ["_law_pen", "_law_size", "_law_count"] (spTies K) := ⟨_, _, ok_ties F19 B c__law_take, PySem.W.mg_of X G a19, k19, b19⟩
  have c__law_built : Cal l.prog w K mg base 3 "_law_built" ["_law_pen"] (spB12 K) := ⟨_, _, ok_built F20 B c__law_take c__law_names c__law_ties, PySem.W.mg_of X G a20, k20, b20⟩
  have c__law_web : Cal l.prog w K mg base 1 "_law_web" ["_law_names_here", "_law_ties_here"] spWeb := ⟨_, _, ok_web F21 B, PySem.W.mg_of X G a21, k21, b21⟩
  have c_places_of : Cal l.prog w K mg base 1 "places_of" ["things"] spPlacesX := ⟨_, _, ok_placesX F4 B, PySem.W.mg_of X G a4, k4, b4⟩
  have c_places_ofN : Cal l.prog w K mg base 1 "places_of" ["things"] spPlaces := ⟨_, _, (ok_placesX F4 B).imp placesX_of, PySem.W.mg_of X G a4, k4, b4⟩
  have c_nexts : Cal l.prog w K mg base 2 "nexts" ["web", "one"] (spNexts false) := ⟨_, _, ok_nexts F3 B c_places_ofN, PySem.W.mg_of X G a3, k3, b3⟩
  have c_nexts_of_all : Cal l.prog w K mg base 3 "nexts_of_all" ["web"] (spNextsAll false) := ⟨_, _, ok_nexts_of_all F6 B c_nexts, PySem.W.mg_of X G a6, k6, b6⟩
  have c_steps_from : Cal l.prog w K mg base 1 "steps_from" ["table", "starts"] spStepsL := ⟨_, _, ok_steps F7 B, PySem.W.mg_of X G a7, k7, b7⟩
  have c_ring_by : Cal l.prog w K mg base 5 "ring_by" ["web", "one", "other"] spNo := ⟨_, _, ok_no, PySem.W.mg_of X G a9, k9, b9⟩
  have c_ring_of : Cal l.prog w K mg base 6 "ring_of" ["web"] spRingOf := ⟨_, _, ok_ring_of F10 B c_steps_from c_nexts_of_all c_ring_by, PySem.W.mg_of X G a10, k10, b10⟩
  have c_refuse_ring : Cal l.prog w K mg base 7 "refuse_ring" ["web"] spRefuse := ⟨_, _, ok_refuse F11 B c_ring_of, PySem.W.mg_of X G a11, k11, b11⟩
  have c_is_whole : Cal l.prog w K mg base 1 "is_whole" ["thing"] spWhole := ⟨_, _, ok_whole F2 B, PySem.W.mg_of X G a2, k2, b2⟩
  have c_is_wholeG : Cal l.prog w K mg base 1 "is_whole" ["thing"] spWholeX := ⟨_, _, ok_wholeX F2 B, PySem.W.mg_of X G a2, k2, b2⟩
  have c_is_name : Cal l.prog w K mg base 1 "is_name" ["thing"] spIsName := ⟨_, _, ok_isname F1 B TMOST_SIGNS, PySem.W.mg_of X G a1, k1, b1⟩
  have c_lists_things : Cal l.prog w K mg base 2 "lists_things" ["web", "thing"] spLists := ⟨_, _, ok_lists F5 B c_places_of c_is_name, PySem.W.mg_of X G a5, k5, b5⟩
  have c_is_way : Cal l.prog w K mg base 2 "is_way" ["web", "one", "other", "things"] spIsWay := ⟨_, _, ok_is_way F8 B Zzip c_places_of, PySem.W.mg_of X G a8, k8, b8⟩
  have c_are_wholes : Cal l.prog w K mg base 2 "are_wholes" ["web", "numbers"] spWholes := ⟨_, _, ok_wholes F14 B c_is_whole, PySem.W.mg_of X G a14, k14, b14⟩
  have c_are_wholesG : Cal l.prog w K mg base 2 "are_wholes" ["web", "numbers"] spWholesG := ⟨_, _, ok_wholesG F14 B c_is_wholeG, PySem.W.mg_of X G a14, k14, b14⟩
  have c_weights_by_thing : Cal l.prog w K mg base 8 "weights_by_thing" ["web", "weights"] spWeigh := ⟨_, _, ok_weigh F13 B Zzip c_refuse_ring c_are_wholes, PySem.W.mg_of X G a13, k13, b13⟩
  have c_way_weighs : Cal l.prog w K mg base 3 "way_weighs" ["web", "weighed", "things", "weight"] spWayG := ⟨_, _, ok_wayG F15 B Zsum c_lists_things c_is_way, PySem.W.mg_of X G a15, k15, b15⟩
  have c_are_bounds : Cal l.prog w K mg base 3 "are_bounds" ["web", "weighed", "bounds", "most"] spBndG := ⟨_, _, ok_bndG F16 B Zzip c_are_wholesG, PySem.W.mg_of X G a16, k16, b16⟩
  have c_shows_deepest : Cal l.prog w K mg base 9 "shows_deepest" ["web", "weights", "told"] spShowG := ⟨_, _, ok_showG F12 B c_weights_by_thing c_is_wholeG c_way_weighs c_are_bounds, PySem.W.mg_of X G a12, k12, b12⟩
  have c__law_weights : Cal l.prog w K mg base 2 "_law_weights" ["_law_pen", "_law_size"] (spWts K) := ⟨_, _, ok_wts F22 B c__law_take, PySem.W.mg_of X G a22, k22, b22⟩
  have c__law_depths : Cal l.prog w K mg base 1 "_law_depths" ["_law_weights_here", "_law_ties_here"] spLDep := ⟨_, _, ok_ldep F23 B, PySem.W.mg_of X G a23, k23, b23⟩
  have c__law_latest : Cal l.prog w K mg base 1 "_law_latest" ["_law_weights_here", "_law_ties_here", "_law_most"] spLate := ⟨_, _, ok_late F25 B, PySem.W.mg_of X G a25, k25, b25⟩
  have c__law_way : Cal l.prog w K mg base 2 "_law_way" ["_law_pen", "_law_weights_here", "_law_ties_here", "_law_due"] (spLWD K) := ⟨_, _, ok_lwd F24 B c__law_take, PySem.W.mg_of X G a24, k24, b24⟩
  have c__law_whole : Cal l.prog w K mg base 1 "_law_whole" ["_law_thing"] spWholeX := ⟨_, _, ok_lwhole F26 B, PySem.W.mg_of X G a26, k26, b26⟩
  have c__law_shows : Cal l.prog w K mg base 2 "_law_shows" ["_law_web_here", "_law_weights_here", "_law_told"] spLSh := ⟨_, _, ok_lsh F27 B Zzip Zsum c__law_whole, PySem.W.mg_of X G a27, k27, b27⟩
  have c__law_bent : Cal l.prog w K mg base 2 "_law_bent" ["_law_pen", "_law_names_here", "_law_told"] (spBent K) := ⟨_, _, ok_bent F28 B c__law_take, PySem.W.mg_of X G a28, k28, b28⟩
  exact ok_law F29 B c__law_take c__law_built c__law_web c__law_weights c__law_depths c__law_latest c__law_way c_shows_deepest c__law_bent c__law_shows
theorem walk {l : PySem.W.OpenLaw} {q : Program} {loose : List Str} {XP : (Str → Option Value) → Heap → Prop} {YP : World → Heap → Prop} {d : DefRec} {K : Params → PySem.W.Frag} (hn : l.most = some 63) (hdf : d.params.defaults = [])
    (hY : ∀ (w : World) (h : Heap), YP w h → (K w.params).In h)
    (F : ∀ (w : World) (mg : Str → Option Value) (fa : Addr) (h : Heap), (K w.params).In h → h.Ns mainGlobals mg → mg d.name = some (.ref fa) →
      ∃ fd : FuncData, (∀ (s : Shared) (u : Value), BindsTo s fd ⟨[u], []⟩ [("_law_script", u)]) ∧ ∀ base : Heap, (K w.params).In base → base.Ns mainGlobals mg → FnOk l.prog w (K w.params) mg base CX0 10 fa fd ["_law_script"] (spLaw (K w.params))) :
    PySem.W.WalkO q loose XP YP l.row.toRowW d [] (fun f vs => PySem.call f vs) :=
  L2.walk_of (n := 63) (k := 10) (x := "_law_script") (CX := fun _ => CX0) (sp := fun w => spLaw (K w.params)) hn (by decide) hdf ⟨rfl, by decide, by decide, rfl⟩ hY F (fun _ _ a ns hl _ hS => ⟨a, ns, rfl, hS, fun _ => rfl⟩) fun _ _ _ _ _ z => z
end
end K25
open PySem PySem.W PyProof.Rows
set_option maxRecDepth 100000 in
set_option maxHeartbeats 0 in
theorem PySem.Challenge.cw_orderkeep_k25_what_shows_deepest_holds : PySem.Challenge.rw_orderkeep_k25_what_shows_deepest.Holds := by
  w_on; o_law; k_head; (case hw => w_witness2)
  k_fill
  refine K25.walk (l := PySem.Challenge.rw_orderkeep_k25_what_shows_deepest) rfl rfl (fun w h Y => PySem.W.kIn_of Y) ?F
  case F =>
    intro w mg fa h KX G hmg
    refine' K25.all_mk KX G hmg ?a1 ?l1 ?c1 ?k1 ?a2 ?l2 ?c2 ?k2 ?a3 ?l3 ?c3 ?k3 ?a4 ?l4 ?c4 ?k4 ?a5 ?l5 ?c5 ?k5 ?a6 ?l6 ?c6 ?k6 ?a7 ?l7 ?c7 ?k7 ?a8 ?l8 ?c8 ?k8 ?a9 ?l9 ?c9 ?k9 ?a10 ?l10 ?c10 ?k10 ?a11 ?l11 ?c11 ?k11 ?a12 ?l12 ?c12 ?k12 ?a13 ?l13 ?c13 ?k13 ?a14 ?l14 ?c14 ?k14 ?a15 ?l15 ?c15 ?k15 ?a16 ?l16 ?c16 ?k16 ?a17 ?l17 ?c17 ?k17 ?a18 ?l18 ?c18 ?k18 ?a19 ?l19 ?c19 ?k19 ?a20 ?l20 ?c20 ?k20 ?a21 ?l21 ?c21 ?k21 ?a22 ?l22 ?c22 ?k22 ?a23 ?l23 ?c23 ?k23 ?a24 ?l24 ?c24 ?k24 ?a25 ?l25 ?c25 ?k25 ?a26 ?l26 ?c26 ?k26 ?a27 ?l27 ?c27 ?k27 ?a28 ?l28 ?c28 ?k28 ?a29 ?l29 ?c29 ?k29 ?z1 ?z2 ?z3 ?z4 ?z5 ?z6 ?z7 ?z8 ?z9 ?z10 ?z11 ?z12 ?z13 ?z14 ?z15 ?z16 ?z17 ?y1
    (case a1 => k_is)
    (case l1 => k_is)
    (case c1 => k_is)
    (case k1 => k_is)
    (case a2 => k_is)
    (case l2 => k_is)
    (case c2 => k_is)
    (case k2 => k_is)
    (case a3 => k_is)
    (case l3 => k_is)
    (case c3 => k_is)
    (case k3 => k_is)
    (case a4 => k_is)
    (case l4 => k_is)
    (case c4 => k_is)
    (case k4 => k_is)
    (case a5 => k_is)
    (case l5 => k_is)
    (case c5 => k_is)
    (case k5 => k_is)
    (case a6 => k_is)
    (case l6 => k_is)
    (case c6 => k_is)
    (case k6 => k_is)
    (case a7 => k_is)
    (case l7 => k_is)
    (case c7 => k_is)
    (case k7 => k_is)
    (case a8 => k_is)
    (case l8 => k_is)
    (case c8 => k_is)
    (case k8 => k_is)
    (case a9 => k_is)
    (case l9 => k_is)
    (case c9 => k_is)
    (case k9 => k_is)
    (case a10 => k_is)
    (case l10 => k_is)
    (case c10 => k_is)
    (case k10 => k_is)
    (case a11 => k_is)
    (case l11 => k_is)
    (case c11 => k_is)
    (case k11 => k_is)
    (case a12 => k_is)
    (case l12 => k_is)
    (case c12 => k_is)
    (case k12 => k_is)
    (case a13 => k_is)
    (case l13 => k_is)
    (case c13 => k_is)
    (case k13 => k_is)
    (case a14 => k_is)
    (case l14 => k_is)
    (case c14 => k_is)
    (case k14 => k_is)
    (case a15 => k_is)
    (case l15 => k_is)
    (case c15 => k_is)
    (case k15 => k_is)
    (case a16 => k_is)
    (case l16 => k_is)
    (case c16 => k_is)
    (case k16 => k_is)
    (case a17 => k_is)
    (case l17 => k_is)
    (case c17 => k_is)
    (case k17 => k_is)
    (case a18 => k_is)
    (case l18 => k_is)
    (case c18 => k_is)
    (case k18 => k_is)
    (case a19 => k_is)
    (case l19 => k_is)
    (case c19 => k_is)
    (case k19 => k_is)
    (case a20 => k_is)
    (case l20 => k_is)
    (case c20 => k_is)
    (case k20 => k_is)
    (case a21 => k_is)
    (case l21 => k_is)
    (case c21 => k_is)
    (case k21 => k_is)
    (case a22 => k_is)
    (case l22 => k_is)
    (case c22 => k_is)
    (case k22 => k_is)
    (case a23 => k_is)
    (case l23 => k_is)
    (case c23 => k_is)
    (case k23 => k_is)
    (case a24 => k_is)
    (case l24 => k_is)
    (case c24 => k_is)
    (case k24 => k_is)
    (case a25 => k_is)
    (case l25 => k_is)
    (case c25 => k_is)
    (case k25 => k_is)
    (case a26 => k_is)
    (case l26 => k_is)
    (case c26 => k_is)
    (case k26 => k_is)
    (case a27 => k_is)
    (case l27 => k_is)
    (case c27 => k_is)
    (case k27 => k_is)
    (case a28 => k_is)
    (case l28 => k_is)
    (case c28 => k_is)
    (case k28 => k_is)
    (case a29 => k_is)
    (case l29 => k_is)
    (case c29 => k_is)
    (case k29 => k_is)
    (case z1 => k_is)
    (case z2 => k_is)
    (case z3 => k_is)
    (case z4 => k_is)
    (case z5 => k_is)
    (case z6 => k_is)
    (case z7 => k_is)
    (case z8 => k_is)
    (case z9 => k_is)
    (case z10 => k_is)
    (case z11 => k_is)
    (case z12 => k_is)
    (case z13 => k_is)
    (case z14 => k_is)
    (case z15 => k_is)
    (case z16 => k_is)
    (case z17 => k_is)
    (case y1 => k_is)