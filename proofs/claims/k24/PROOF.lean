import PyProof.Rows.All
import Wide.All
import OpenK.AllK
import Wide.FinOn
import Lean
import PyProof.EqAt
import PyProof.EqKinds
import PyProof.TupleCall
import PyProof.AttrMissHeap
import KE.KDictOf
import PyProof.StrOps2
import PyProof.DictWalks
import KE.KDictList
import PyProof.Rows.ZipGen
import PySem.Challenge.RW_orderkeep_k24_whole_deepest_told
namespace PySem.W.Fast
def tw14970678168043612625:=0
def tw3249956152902713779:=0
def tw1718038441364905231:=0
def tw14345948849690581976:=0
def tw6822569577898785110:=0
def tw9268693615694274667:=0
def tw6952455986699764961:=0
def tw2973208493017052202:=0
def tw18442717990937722513:=0
def tw8479554077286390376:=0
def tw12844576269882484180:=0
def tw2542982703479606645:=0
def tw17918037410259279482:=0
def tw6697228769276940118:=0
def tw5788684796884983675:=0
def tw14795725120401556741:=0
def tw8237466434300910625:=0
def tw3987781370205711814:=0
def tw3115826897997792037:=0
def tw17163642558465303187:=0
def tw14135002904666070728:=0
def tw7106739842940510368:=0
def tw16378452800179432953:=0
def tw9215028289396188463:=0
def tw5091892512475452482:=0
def tw2390489333289751346:=0
def tw17610358570411104836:=0
def tw2410866427903540848:=0
def tw12783010685765749131:=0
def tw8135632449470831255:=0
def tw15630796067730656203:=0
def tw14207203434886653144:=0
def tw3868931741644500809:=0
def tw8011436810734798160:=0
def tw891659742760906679:=0
def tw18362769734123601557:=0
def tw16606319068751441163:=0
def tw5326468643614654914:=0
def tw4995570184022447887:=0
def tw53733238378542415:=0
def tw9860829313837513079:=0
def tw7717073739916225597:=0
def tw13512353771751073631:=0
def tw12314618020390165468:=0
def tw11602985159286609331:=0
def tw8640259114810539049:=0
def tw16859030751772166401:=0
def tw11982997637315557623:=0
def tw1942774654627437215:=0
def tw5891793260301439587:=0
def tw6658331671426496466:=0
def tw846034522910907944:=0
def tw13158742344483112649:=0
def tw15961793870733335445:=0
def tw18437412797855372749:=0
def tw11079721107313167633:=0
def tw4910986482118377834:=0
def tw44035756142961194:=0
def tw6049380514568822960:=0
def tw6707912897031167083:=0
def tw2327664074881443200:=0
def tw12660614123980679249:=0
def tw11478590014845964423:=0
def tw10871474725952675743:=0
def tw3071588528981672084:=0
def tw1661577753531133209:=0
def tw9785153195652618320:=0
def tw13002316185494845181:=0
def tw8926211680629666531:=0
def tw595690546773110795:=0
def tw17989070182134792100:=0
def tw14177575335289553918:=0
def tw5720299075265455948:=0
def tw9322949860823730520:=0
def tw16084366523545776985:=0
def tw1702063172155418616:=0
def tw17674551687113154057:=0
def tw16984575750224949855:=0
def tw3442379192750859687:=0
def tw7637477010486488417:=0
def tw16124976395655918349:=0
def tw10109336356102005308:=0
def tw6361273583368824270:=0
def tw5072779029701644181:=0
def tw2294237266716145738:=0
def tw863289417358457237:=0
def tw3444773398581864698:=0
def tw11593296216506130601:=0
def tw2433573650202187868:=0
def tw8586807684066397455:=0
def tw2647201811452355700:=0
def tw14167649345473448329:=0
def tw17606113753935675161:=0
def tw4096256780599464619:=0
def tw4486298334488297503:=0
def tw6685867655634242460:=0
def tw7881180752257763020:=0
def tw17289977560753265993:=0
def tw1878980747204721173:=0
def tw16013706336385149520:=0
def tw8331340266717784947:=0
def tw17062739174211342299:=0
def tw3244221712358622559:=0
def tw17359282240509157045:=0
def tw4269137163255080557:=0
def tw11431926789003806356:=0
def tw6750061301097973930:=0
def tw2076457443068427537:=0
def tw9308474111635071875:=0
def tw7657154884766919696:=0
def tw1088127354496120451:=0
def tw14125059928104414251:=0
def tw5664717618549933514:=0
def tw39679538871179060:=0
def tw2993078336338644873:=0
def tw12633431023092728730:=0
def tw10012546665317780649:=0
def tw16214990123616680682:=0
def tw9992588052643452142:=0
def tw7539854828883878395:=0
def tw3564195009317926775:=0
def tw13735478075789300601:=0
def tw7671430617773495477:=0
def tw15827053405912457614:=0
def tw13496353146262059484:=0
def tw9745732196512382979:=0
def tw14676115959143261426:=0
def tw15974063734710959371:=0
def tw2412702112188350079:=0
def tw5359620739866935041:=0
def tw7109196588850317396:=0
def tw3667113924441984222:=0
def tw8750908433389887368:=0
def tw15192948614605889832:=0
def tw18415888928115917647:=0
def tw3250869250917370628:=0
def tw16965741670754030376:=0
def tw3170916880669102306:=0
def tw7077443311233981200:=0
def tw9568335230540309425:=0
def tw17840843706903209673:=0
def tw6046002227034545403:=0
def tw13088186199082091414:=0
def tw6204698483830553681:=0
def tw17787705882727702292:=0
def tw4842717916933491040:=0
def tw8976790840247161894:=0
def tw15811504473670586539:=0
def tw11916204097630323988:=0
def tw3640688103016245737:=0
def tw1553452942799971043:=0
def tw1697635425225941041:=0
def tw7492852139642941830:=0
def tw15450057359288400404:=0
def tw55887793696043085:=0
def tw5308355713655371301:=0
def tw17178463251243151262:=0
def tw7555437325453664106:=0
def tw1052830294273674528:=0
def tw13648926119188021271:=0
def tw3165159705063329040:=0
def tw1363133933596446971:=0
def tw6200373250352507025:=0
def tw4948022236028960172:=0
def tw3372916535132694610:=0
def tw13446317027222776533:=0
def tw6333555827071567309:=0
def tw16161408757504152182:=0
def tw13944963073458300804:=0
def tw7829714183443566290:=0
def tw4350205454185232970:=0
def tw6496869784137225551:=0
def tw13881995110523782488:=0
def tw10298699642687418872:=0
def tw3380875003834856652:=0
def tw9643079397142395673:=0
def tw11351757181482211181:=0
def tw17000430870452828836:=0
def tw4866542253382615119:=0
def tw2498397618218288265:=0
def tw13374138491148600446:=0
def tw9384424890340608568:=0
def tw7637509470301421632:=0
def tw5513756460639577575:=0
def tw587203463335172896:=0
def tw15600177444815741196:=0
def tw10823751513276227370:=0
def tw6472161776070012437:=0
def tw3639303921989000482:=0
def tw12606502746214928513:=0
def tw8497851320041840335:=0
def tw785349659794300096:=0
def tw5262086187023151486:=0
def tw191963090945258383:=0
def tw5786989855110634435:=0
def tw9702364025989500591:=0
def tw6815159743814312661:=0
def tw14956645294589921985:=0
def tw780679266567872352:=0
def tw1800476868191180968:=0
def tw13807549123639450076:=0
def tw17290476640203338970:=0
def tw3540593261418092941:=0
def tw294273574963802197:=0
def tw16643302620459565366:=0
def tw8109699906216666852:=0
def tw2923253597722261239:=0
def tw17960784188300666977:=0
def tw2706315587306203383:=0
def tw17745925810210312312:=0
def tw12077001447291582111:=0
def tw9374278036659962632:=0
def tw8708156702224917952:=0
def tw4063314263663448257:=0
def tw234323755629104154:=0
def tw9302359179725398450:=0
def tw16989582792218163458:=0
def tw4373101678124329187:=0
def tw1351548102357170319:=0
def tw534928133598647736:=0
def tw18297488926692247446:=0
def tw17927174251936086212:=0
def tw13569274176772348879:=0
def tw15949701794270707450:=0
def tw15284680229391617955:=0
def tw11682944096440311072:=0
def tw3631926309607284913:=0
def tw12212050165231875528:=0
def tw3770814519803434016:=0
def tw1751790595059530416:=0
def tw18371636279821210570:=0
def tw3768237815368565967:=0
def tw1847230923670613542:=0
def tw6501920311587759674:=0
def tw1107333333320288938:=0
def tw1624998493238409771:=0
def tw11561176969622323497:=0
def tw3065351038670556358:=0
def tw11363570619354550386:=0
def tw3025579656395913135:=0
def tw4311790067319484745:=0
def tw7040328414524201114:=0
def tw9515358110277562966:=0
def tw16952750278011516935:=0
def tw3989498469180928041:=0
def tw5380216257911449860:=0
def tw6831999837714371431:=0
def tw75014102684659764:=0
def tw9141219079298891816:=0
def tw12548622964911877352:=0
def tw5021504366360935285:=0
def tw13148124037266734201:=0
def tw4757932639645867715:=0
def tw9931786815226413330:=0
def tw10179353434108796315:=0
def tw13795040551482201430:=0
def tw2753505622302806830:=0
def tw12212236882430211064:=0
def tw14105949350303788591:=0
def tw1283042551175090322:=0
def tw4226788163285943140:=0
def tw13952935187562572875:=0
def tw1047584345908379844:=0
def tw6306332112619490988:=0
def tw8639874218800865977:=0
def tw16092643441194246240:=0
def tw3574409036479627434:=0
def tw17865346162094526312:=0
def tw4994624561428688326:=0
def tw17102448434742209674:=0
def tw9590569836499180223:=0
def tw11690572434387709180:=0
def tw13168925403436421929:=0
def tw5359368632859053160:=0
def tw3032833860363084766:=0
def tw2803796447389009175:=0
def tw824307803398058192:=0
def tw6185682349839129993:=0
def tw10341448720419661066:=0
def tw654114331856624743:=0
def tw14590416985937379221:=0
def tw6454728831591972609:=0
def tw13611677211925455835:=0
def tw14185449050933357712:=0
def tw13389392589242292681:=0
def tw17981663115989974671:=0
def tw17427089423692608089:=0
def tw17055213848613541294:=0
def tw12169849546700514684:=0
def tw10799711746308707237:=0
def tw15329986143632416846:=0
def tw7431436241057002708:=0
end PySem.W.Fast
section
open PySem PySem.Spec PyProof.Rows
abbrev aa:=@wpAny_bind
abbrev ab:=@List.length_map
abbrev ac:=@Nat.le_refl
abbrev ad:=@wpAny_pure
abbrev ae:=@Option.some.inj
abbrev af:=@Heap.lt_size
abbrev ag:=@List.getElem?_map
abbrev ah:=@Heap.get?_push_of_some
abbrev ai:=@decide_eq_true
abbrev aj:=@List.map_append
abbrev ak:=@List.getElem?_eq_some_iff
abbrev al:=@List.mem_map
abbrev am:=@Nat.ne_of_lt
abbrev ao:=@Heap.get?_push_size
abbrev ap:=@List.getElem?_eq_getElem
abbrev aq:=@List.take_of_length_le
abbrev ar:=@List.mem_append
abbrev au:=@List.mem_append_right
abbrev av:=@List.mem_of_getElem?
abbrev aw:=@List.take_add_one
abbrev ax:=@of_decide_eq_true
abbrev ay:=@Nat.lt_of_lt_of_le
abbrev az:=@wpAny_field
abbrev aA:=@decide_eq_false
abbrev aB:=@Bool.false_ne_true
abbrev aD:=@List.size_toArray
abbrev aE:=@List.getD_eq_getElem?_getD
abbrev aF:=@List.length_range
abbrev aG:=@wpAny_holding
abbrev aH:=@wpAny_seqItems
abbrev aI:=@List.mem_cons_of_mem
abbrev aJ:=@List.length_take
abbrev aK:=@List.mem_filter
abbrev aL:=@Nat.zero_le
abbrev aM:=@wpAny_setField_rec
abbrev aN:=@List.mem_range
abbrev aO:=@Nat.le_trans
abbrev aQ:=@List.mem_singleton
abbrev aR:=@List.mem_cons
abbrev aS:=@wpAny_mono
abbrev aT:=@List.map_map
abbrev aU:=@List.length_append
abbrev aV:=@List.map_cons
abbrev aW:=@List.all_eq_true
abbrev aX:=@List.lookup_cons
abbrev aY:=@List.forIn_cons
abbrev aZ:=@Bool.eq_iff_iff
abbrev ba:=@List.nodup_cons
abbrev bc:=@List.forIn_nil
abbrev bd:=@Nat.le_of_lt
abbrev be:=@Int.eq_ofNat_of_zero_le
abbrev bf:=@Int.emod_nonneg
abbrev bg:=@Bool.and_eq_true
abbrev bh:=@List.length_filter_le
abbrev bi:=@Nat.lt_irrefl
abbrev bj:=@List.length_replicate
abbrev bn:=@Heap.size_push
abbrev bo:=@Int.emod_lt_of_pos
abbrev bp:=@Bool.true_and
abbrev bq:=@List.filter_append
abbrev br:=@Nat.ne_of_gt
abbrev bt:=@Bool.false_eq_true
abbrev bu:=@List.getElem_mem
abbrev bw:=@wpAny_pyIter_tuple
abbrev bx:=@List.getElem?_append_right
abbrev bz:=@Int.toNat_natCast
abbrev bA:=@List.length_cons
abbrev bB:=@List.nodup_nil
abbrev bC:=@List.mem_cons_self
abbrev bD:=@List.getElem?_append_left
abbrev bE:=@List.any_cons
abbrev bF:=@List.replicate_succ
abbrev bG:=@List.mem_iff_getElem
abbrev bH:=@List.getElem?_zip_eq_some
abbrev bI:=@wpAny_Call_Name_kw
abbrev bJ:=@Option.isSome_iff_exists
abbrev bK:=@List.find?_cons
abbrev bL:=@Option.map_some
abbrev bM:=@List.zipIdx_cons
abbrev bN:=@List.zipIdx_nil
abbrev bO:=@Array.forIn_toList
abbrev bP:=@Array.toList_append
abbrev bQ:=@Array.length_toList
abbrev bR:=@List.mem_filterMap
abbrev bS:=@List.length_drop
abbrev bT:=@List.flatten_cons
abbrev bU:=@List.any_eq_true
abbrev bV:=@List.getElem?_range
abbrev bW:=@List.getElem?_of_mem
abbrev bX:=@List.replicate_succ'
abbrev bY:=@List.length_pos_iff
abbrev bZ:=@List.drop_of_length_le
abbrev ca:=@List.getLast?_eq_some_getLast
abbrev cb:=@List.exists_cons_of_length_eq_add_one
end
noncomputable section
set_option Elab.async false
set_option linter.all false
set_option maxRecDepth 100000
namespace L2
open PySem PySem.Spec PyProof.Rows
abbrev Key:=Sum Int Str
def iZ:Key->Value->Bool
 | .inl k,v=>Value.isInt k v
 | .inr x,v=>Value.isStrOf x v
def keyH (w:World):Key->Int
 | .inl k=>hashInt k
 | .inr x=>hashStr w x
theorem dh:∀ {k:Key}{v:Value},iZ k v=true->(∃i t,k=Sum.inl i/\v=Value.int i t)∨(∃x t,k=Sum.inr x/\v=Value.str x t)
 | .inl i,v,h=>by
  obtain⟨t,e⟩:=Value.isInt_shape (k:=i) (v:=v) h
  exact .inl ⟨i,t,rfl,e⟩
 | .inr x,v,h=>by
  obtain⟨t,e⟩:=Value.isStrOf_shape (x:=x) (v:=v) h
  exact .inr ⟨x,t,rfl,e⟩
theorem oX (i:Int) (t:Tok):iZ (.inl i) (.int i t)=true:=by simp[iZ,Value.isInt]
theorem oP (x:Str) (t:Tok):iZ (.inr x) (.str x t)=true:=by simp[iZ,Value.isStrOf]
theorem ve (a b:Int):decide ((Sum.inl a:Key)=Sum.inl b)=(a==b):=by
 by_cases e:a=b
 ·subst e;simp
 ·have h:¬ (Sum.inl a:Key)=Sum.inl b:=fun q=>e (Sum.inl.inj q)
  rw[aA h]
  exact(beq_eq_false_iff_ne.mpr e).symm
theorem uB (a b:Str):decide ((Sum.inr a:Key)=Sum.inr b)=decide (a=b):=by
 by_cases e:a=b
 ·subst e;simp
 ·have h:¬ (Sum.inr a:Key)=Sum.inr b:=fun q=>e (Sum.inr.inj q)
  rw[aA h,aA e]
theorem ux (a:Int) (b:Str):decide ((Sum.inl a:Key)=Sum.inr b)=false:=aA (fun q=>nomatch q)
theorem uo (a:Str) (b:Int):decide ((Sum.inr a:Key)=Sum.inl b)=false:=aA (fun q=>nomatch q)
def cW (prog:Program) (w:World):PySem.KeyKind prog w Key where
 is:=iZ
 hash:=keyH w
 inj:=fun v a b ha hb=>by
  rcases dh ha with⟨i,t,rfl,rfl⟩ | ⟨x,t,rfl,rfl⟩
  ·rcases dh hb with⟨j,u,rfl,e⟩ | ⟨y,u,rfl,e⟩
   ·injection e with e1 _;rw[e1]
   ·exact nomatch e
  ·rcases dh hb with⟨j,u,rfl,e⟩ | ⟨y,u,rfl,e⟩
   ·exact nomatch e
   ·injection e with e1 _;rw[e1]
 byValue:=fun k v h=>by
  rcases dh h with⟨i,t,rfl,rfl⟩ | ⟨x,t,rfl,rfl⟩ <;> rfl
 pyHash:=fun hv h=>by
  rcases dh hv with⟨i,t,rfl,rfl⟩ | ⟨x,t,rfl,rfl⟩
  ·exact wpAny_pyHash_int h
  ·exact wpAny_pyHash_str h
 eqBool:=fun hu hv h=>by
  rcases dh hu with⟨i,t,rfl,rfl⟩ | ⟨x,t,rfl,rfl⟩
  ·rcases dh hv with⟨j,u,rfl,rfl⟩ | ⟨y,u,rfl,rfl⟩
   ·rw[ve] at h;exact wpAny_eqBool_int h
   ·rw[ux] at h;exact SeqAt.EqAt.int_str i t y u _ _ _ _ h
  ·rcases dh hv with⟨j,u,rfl,rfl⟩ | ⟨y,u,rfl,rfl⟩
   ·rw[uo] at h;exact SeqAt.EqAt.str_int x t j u _ _ _ _ h
   ·rw[uB] at h;exact wpAny_eqBool_str h
 «strs»:=fun k x t v h=>by
  rcases dh h with⟨i,u,rfl,e⟩ | ⟨y,u,rfl,e⟩
  ·exact nomatch e
  ·injection e with e1 _
   subst e1
   cases v <;> rfl
theorem mK (prog:Program) (w:World) (i:Int) (t:Tok):(cW prog w).is (.inl i) (.int i t)=true:=oX i t
theorem mP (prog:Program) (w:World) (x:Str) (t:Tok):(cW prog w).is (.inr x) (.str x t)=true:=oP x t
inductive V where
 | non | bl (b:Bool) | int (i:Int) | str (x:Str) | byt (b:Array UInt8) | flt (b:UInt64) | ref (a:Addr) | ty (n:String)
 deriving DecidableEq
def RelV:V->Value->Prop
 | .non,u=>u=Value.none
 | .bl b,u=>u=Value.bool b
 | .int i,u=>∃t,u=Value.int i t
 | .str x,u=>∃t,u=Value.str x t
 | .byt b,u=>∃t,u=Value.bytes b t
 | .flt b,u=>∃t,u=Value.float b t
 | .ref a,u=>u=Value.ref a
 | .ty n,u=>u=Value.type n
abbrev Vals:List V->List Value->Prop:=Paired RelV
theorem Vals.length {xs:List V}{us:List Value}(r:Vals xs us):xs.length=us.length:=Paired.length r
theorem Vals.get:∀ {xs:List V}{us:List Value}{i:Nat}{x:V},Vals xs us->xs[i]? = some x->∃u,us[i]? = some u/\RelV x u
 | _,_,_,_,.nil,e=>by simp at e
 | _,_,0,_,.cons r _,e=>by simp at e;subst e;exact⟨_,rfl,r⟩
 | _,_,i+1,x,.cons _ t,e=>by
  obtain⟨u,h1,h2⟩:=Vals.get (i:=i) (x:=x) t (by simpa using e)
  exact⟨u,by simpa using h1,h2⟩
theorem Vals.set {x:V}{u:Value}(r:RelV x u):∀ {xs:List V}{us:List Value}(i:Nat),Vals xs us->Vals (xs.set i x) (us.set i u)
 | _,_,_,.nil=>.nil
 | _,_,0,.cons _ t=>.cons r t
 | _,_,i+1,.cons q t=>.cons q (Vals.set r i t)
theorem Vals.append:∀ {xs ys:List V}{us ws:List Value},Vals xs us->Vals ys ws->Vals (xs++ys) (us++ws)
 | _,_,_,_,.nil,s=>s
 | _,_,_,_,.cons r t,s=>.cons r (Vals.append t s)
theorem Vals.take:∀ {xs:List V}{us:List Value}(n:Nat),Vals xs us->Vals (xs.take n) (us.take n)
 | _,_,0,_=>.nil
 | _,_,_+1,.nil=>.nil
 | _,_,n+1,.cons r t=>.cons r (Vals.take n t)
theorem Vals.drop:∀ {xs:List V}{us:List Value}(n:Nat),Vals xs us->Vals (xs.drop n) (us.drop n)
 | _,_,0,r=>r
 | _,_,_+1,.nil=>.nil
 | _,_,n+1,.cons _ t=>Vals.drop n t
def RelO:Option V->Option Value->Prop
 | some v,some u=>RelV v u
 | none,none=>True
 | _,_=>False
def KV {κ:Type}:List (κ × V)->List (κ × Value)->Prop:=Paired fun (p:κ × V) (q:κ × Value)=>p.1=q.1/\RelV p.2 q.2
def kV:Key->V
 | .inl i=>.int i
 | .inr x=>.str x
inductive HO where
    | lst (xs:List V)
    | tup (xs:List V)
    | dK (kvs:List (Key × V)) | dT (kvs:List (List Key × V))
    | set (S:Int->Bool) (n:Nat)
    | ins (C dx:Addr) (fs:List (Str × V))
    | own (x:Addr)
    | xd (fs:List (Str × V))
    | met (f x:Addr)
    | rng (lo hi:Int)
    | frz (o:Obj) (u:HO)
    | tbl (ps:Array Value)
    | ext (φ:Heap->Prop)
abbrev Hp:=Addr->Option HO
def upd (H:Hp) (a:Addr) (o:HO):Hp:=fun b=>if b=a then some o else H b
theorem cn {H:Hp}{a:Addr}{o:HO}:upd H a o a=some o:=by unfold upd;rw[if_pos rfl]
theorem cm {H:Hp}{a b:Addr}{o:HO}(h:b≠a):upd H a o b=H b:=by unfold upd;rw[if_neg h]
theorem d4 {H:Hp}{a b:Addr}{o u:HO}(h:H a=some o) (h':H b=some u) (d:o≠u):a≠b:=by
 intro e;subst e;rw[h] at h';exact d (ae h')
theorem cq {H:Hp}{a b:Addr}{o:HO}(h:H a=some o) (h':H b=none):a≠b:=by
 intro e;subst e;rw[h] at h';cases h'
def TupN (h:Heap) (a:Addr) (items:Array Value):Prop:=∃o,h.get? a=some o/\o.cls=.type "tuple"/\∃n,o.data=.seq items n/\o.dict=none
theorem TupN.tup {h:Heap}{a:Addr}{items:Array Value}(x:TupN h a items):IsTup h a items:=let ⟨o,e,c,n,d,_⟩:=x;⟨o,e,c,n,d⟩
theorem TupN.new (h:Heap) (items:Array Value):TupN (h.push { cls:=.type "tuple",data:=.seq items }) h.objs.size items:=⟨_,ao _ rfl,rfl,_,rfl,rfl⟩
section
variable (P:Program) (w:World)
def ObjOk (H:Hp) (h:Heap) (a:Addr):HO -> Prop
 | .lst xs=>xs.length<=sizeLine/\∃(its:List Value) (n:Nat),Vals xs its/\h.get? a=some { cls:=.type "list",data:=.seq its.toArray n }
 | .tup xs=>xs.length<=sizeLine/\∃its:List Value,Vals xs its/\TupN h a its.toArray
 | .dK kvs=>kvs.length<=sizeLine/\(a==sysModules)=false/\∃vs,KV kvs vs/\h.DictOf (cW P w) a vs
 | .dT kvs=>kvs.length<=sizeLine/\(a==sysModules)=false/\∃xs:List (List Key × Addr × Value),
     Paired (fun (p:List Key × V) (q:List Key × Addr × Value)=>p.1=q.1/\H q.2.1=some (.tup (p.1.map kV))/\RelV p.2 q.2.2) kvs xs /\
     ∃o es ep,h.get? a=some o/\o.ExactDict/\o.data=.dict es ep/\es.toList=xs.map (entryOfKey (tupleKind (cW P w)))/\(xs.map (·.1)).Nodup
 | .set S n=>h.SetOf (intKind P w) a S n
 | .ins C dx fs=>H dx=some (.own a)/\fs.length<=1000/\dx≠a/\h.get? a=some (W.instObj C dx) /\
     ∃mA,h.Ns1 dx mA/\(∀f,RelO (fs.lookup f) (mA f))/\PySem.Within mA (fs.map (·.1))
 | .own _=>∃o,h.get? a=some o
 | .xd fs=>∃mA,h.Ns1 a mA/\∀f,RelO (fs.lookup f) (mA f)
 | .rng lo hi=>∃t u v,h.get? a=some { cls:=.type "range",data:=.fields #[.int lo t,.int hi u,.int 1 v] }
 | .frz o u=>h.get? a=some o/\ObjOk H h a u
 | .tbl ps=>h.get? a=some { cls:=.none,data:=.fields ps }
 | .met f x=>h.get? a=some (W.methodObj (.ref f) (.ref x))
 | .ext φ=>φ h/\(∃o,h.get? a=some o)/\∀h1 h2:Heap,φ h1->(∀o,h1.get? a=some o->h2.get? a=some o)->φ h2
def HOk (H:Hp) (h:Heap):Prop:=∀a o,H a=some o->ObjOk P w H h a o
end
section
variable {P:Program}{w:World}{H H':Hp}{h h':Heap}{a:Addr}{o:HO}
theorem ObjOk.lt (x:ObjOk P w H h a o):a<h.objs.size:=by
 cases o with
 | lst xs=>obtain⟨_,_,_,_,e⟩:=x;exact af e
 | tup xs=>obtain⟨_,_,_,p⟩:=x;exact p.tup.lt
 | dK kvs=>obtain⟨_,_,_,_,o,_,_,e,_⟩:=x;exact af e
 | dT kvs=>obtain⟨_,_,_,_,o,_,_,e,_⟩:=x;exact af e
 | set S n=>obtain⟨o,_,_,_,e,_⟩:=x;exact af e
 | ins C dx fs=>obtain⟨_,_,_,e,_⟩:=x;exact af e
 | own y=>obtain⟨_,e⟩:=x;exact af e
 | xd fs=>obtain⟨_,⟨_,_,_,e,_⟩,_⟩:=x;exact af e
 | rng lo hi=>obtain⟨_,_,_,e⟩:=x;exact af e
 | frz ob u=>obtain⟨e,_⟩:=x;exact af e
 | tbl ps=>exact af (show h.get? a=some _ from x)
 | met f y=>exact af (show h.get? a=some _ from x)
 | ext φ=>obtain⟨_,⟨_,e⟩,_⟩:=x;exact af e
theorem Paired.mapP {α β:Type}{F G:α->β->Prop}:∀ {l₁:List α}{l₂:List β},Paired F l₁ l₂->(∀a b,F a b->G a b)->Paired G l₁ l₂
 | _,_,.nil,_=>.nil
 | _,_,.cons r t,f=>.cons (f _ _ r) (Paired.mapP t f)
theorem ObjOk.stay (x:ObjOk P w H h a o) (k:∀b u,(b=a∨H b=some (.own a))->h.get? b=some u->h'.get? b=some u)
    (ho:∀b,H b=some (.own a)->H' b=some (.own a)) (ht:∀b xs,H b=some (.tup xs)->H' b=some (.tup xs)):ObjOk P w H' h' a o:=by
 induction o with
 | lst xs=>obtain⟨z,its,n,r,e⟩:=x;exact⟨z,its,n,r,k _ _ (.inl rfl) e⟩
 | tup xs=>obtain⟨z,its,r,ob,e,c⟩:=x;exact⟨z,its,r,ob,k _ _ (.inl rfl) e,c⟩
 | dK kvs=>obtain⟨z,y,vs,r,ob,es,ep,e,c⟩:=x;exact⟨z,y,vs,r,ob,es,ep,k _ _ (.inl rfl) e,c⟩
 | dT kvs =>
  obtain⟨z,y,xs,r,ob,es,ep,e,c⟩:=x
  exact⟨z,y,xs,Paired.mapP r fun p q z=>⟨z.1,ht _ _ z.2.1,z.2.2⟩,ob,es,ep,k _ _ (.inl rfl) e,c⟩
 | set S n=>obtain⟨ob,es,ep,t,e,c⟩:=x;exact⟨ob,es,ep,t,k _ _ (.inl rfl) e,c⟩
 | ins C dx fs =>
  obtain⟨d,z,ne,e,mA,⟨od,es,ep,e2,c⟩,r⟩:=x
  exact⟨ho _ d,z,ne,k _ _ (.inl rfl) e,mA,⟨od,es,ep,k _ _ (.inr d) e2,c⟩,r⟩
 | own y=>obtain⟨ob,e⟩:=x;exact⟨ob,k _ _ (.inl rfl) e⟩
 | xd fs=>obtain⟨mA,⟨od,es,ep,e,c⟩,r⟩:=x;exact⟨mA,⟨od,es,ep,k _ _ (.inl rfl) e,c⟩,r⟩
 | rng lo hi=>obtain⟨t,u,v,e⟩:=x;exact⟨t,u,v,k _ _ (.inl rfl) e⟩
 | frz ob u ih=>obtain⟨e,q⟩:=x;exact⟨k _ _ (.inl rfl) e,ih q⟩
 | tbl ps =>
  have e:h.get? a=some { cls:=.none,data:=.fields ps }:=x
  show h'.get? a=some { cls:=.none,data:=.fields ps }
  exact k a _ (.inl rfl) e
 | met f y =>
  have e:h.get? a=some (W.methodObj (.ref f) (.ref y)):=x
  show h'.get? a=some (W.methodObj (.ref f) (.ref y))
  exact k a _ (.inl rfl) e
 | ext φ=>obtain⟨p,⟨o,e⟩,st⟩:=x;exact⟨st _ _ p fun o q=>k _ _ (.inl rfl) q,⟨o,k _ _ (.inl rfl) e⟩,st⟩
theorem HOk.lt (x:HOk P w H h) (e:H a=some o):a<h.objs.size:=(x a o e).lt
theorem HOk.fresh (x:HOk P w H h) (e:h.objs.size<=a):H a=none:=by
 cases q:H a with
 | none=>rfl
 | some u=>exact absurd (ay (x.lt q) e) (bi _)
theorem HOk.kept (x:HOk P w H h) (k:∀b u,h.get? b=some u->h'.get? b=some u):HOk P w H h':=fun a o e =>
 (x a o e).stay (fun b u _ q=>k b u q) (fun _ q=>q) fun _ _ q=>q
theorem HOk.laid (x:HOk P w H h) (k:∀b u,h.get? b=some u->h'.get? b=some u) (hp:h.objs.size<=a) (new:ObjOk P w (upd H a o) h' a o):HOk P w (upd H a o) h':=fun b u e=>by
 have hn:=x.fresh hp
 by_cases hb:b=a
 ·subst hb;rw[cn] at e;cases e;exact new
 ·rw[cm hb] at e
  exact(x b u e).stay (fun c v _ q=>k c v q) (fun c q=>by rw[cm (cq q hn)];exact q) fun c xs q=>by rw[cm (cq q hn)];exact q
end
def Rd (H:Hp) (a:Addr) (u:HO):Prop:=H a=some u∨∃o,H a=some (.frz o u)
theorem Rd.ok {P:Program}{w:World}{H:Hp}{h:Heap}{a:Addr}{u:HO}(r:Rd H a u) (x:HOk P w H h):ObjOk P w H h a u:=by
 rcases r with r | ⟨o,r⟩
 ·exact x a u r
 ·obtain⟨_,q⟩:=x a _ r
  exact q
def Mut:Option HO->Prop
 | some (.lst _)=>True
 | some (.dK _)=>True
 | some (.dT _)=>True
 | some (.set _ _)=>True
 | some (.ins _ _ _)=>True
 | some (.ext _)=>True
 | _=>False
section
variable {P:Program}{w:World}{H:Hp}{h h':Heap}{x e:Addr}{o':HO}
theorem HOk.write (ok:HOk P w H h) (mu:Mut (H x)) (he:e=x ∨ H e=some (.own x)) (k:∀b u, b ≠ e -> h.get? b=some u -> h'.get? b=some u) (heo:∃u, h'.get? e=some u)
    (new:ObjOk P w (upd H x o') h' x o'):HOk P w (upd H x o') h':=fun b u q=>by
 have nown:∀c y,H c=some (.own y)->c≠x:=fun c y r z=>by subst z;rw[r] at mu;exact mu
 have ntup:∀c xs,H c=some (.tup xs)->c≠x:=fun c xs r z=>by subst z;rw[r] at mu;exact mu
 by_cases hb:b=x
 ·subst hb;rw[cn] at q;cases q;exact new
 ·rw[cm hb] at q
  by_cases hbe:b=e
  ·have q':H b=some (.own x):=by
      rcases he with z | z
      ·exact absurd (hbe.trans z) hb
      ·rw[hbe];exact z
   rw[q] at q';cases q'
   obtain⟨v,hv⟩:=heo
   exact⟨v,by rw[hbe];exact hv⟩
  ·refine(ok b u q).stay (fun c v hc r=>k c v ?_ r) (fun c r=>by rw[cm (nown c b r)];exact r) fun c xs r=>by rw[cm (ntup c xs r)];exact r
   rcases hc with rfl | hc
   ·exact hbe
   ·rintro rfl
    rcases he with z | z
    ·exact nown c b hc z
    ·rw[hc] at z;cases z;exact hb rfl
end
structure Un (fs ex:List Addr) (H H':Hp) (h h':Heap):Prop where
 keep:∀b o,h.get? b=some o->H b=none->b∉fs->b∉ex->h'.get? b=some o
 slot:∀b o,h.get? b=some o->H b=none->b∈fs->b∉ex->∃sl,h'.get? b=some { o with slots:=sl }
 free:∀b o,h.get? b=some o->H b=none->b∉ex->H' b=none
 there:∀b o,h.get? b=some o->b∉ex->∃o',h'.get? b=some o'
 tups:∀b xs,H b=some (.tup xs)->H' b=some (.tup xs)
 frzs:∀b o u,H b=some (.frz o u)->H' b=some (.frz o u)
 tbls:∀b ps,H b=some (.tbl ps)->∃more,H' b=some (.tbl (ps++more))
section
variable {fs fs' ex ex':List Addr}{H H1 H2:Hp}{h h1 h2 h':Heap}{a x e:Addr}{o:HO}
theorem Un.any (u:Un fs ex H H1 h h1) {b:Addr}{ob:Obj}(q:h.get? b=some ob) (n:H b=none) (hx:b∉ex):∃sl,h1.get? b=some { ob with slots:=sl }:=by
 by_cases hb:b∈fs
 ·exact u.slot b ob q n hb hx
 ·exact⟨ob.slots,u.keep b ob q n hb hx⟩
theorem Un.kept (k:∀b u,h.get? b=some u->h'.get? b=some u):Un fs ex H H h h' :=
 ⟨fun b ob q _ _ _=>k b ob q,fun b ob q _ _ _=>⟨ob.slots,k b ob q⟩,fun _ _ _ n _=>n,fun b ob q _=>⟨ob,k b ob q⟩,fun _ _ q=>q,fun _ _ _ q=>q,fun _ ps q=>⟨#[],by rw[q];simp⟩⟩
theorem Un.refl:Un fs ex H H h h:=Un.kept fun _ _ q=>q
theorem Un.laid (k:∀b u,h.get? b=some u->h'.get? b=some u) (hp:h.objs.size<=a) (hn:H a=none):Un fs ex H (upd H a o) h h' where
 keep:=fun b u q _ _ _=>k b u q
 slot:=fun b u q _ _ _=>⟨u.slots,k b u q⟩
 free:=fun b u q n _=>by rw[cm (am (ay (af q) hp))];exact n
 there:=fun b u q _=>⟨u,k b u q⟩
 tups:=fun b xs q=>by rw[cm (cq q hn)];exact q
 frzs:=fun b u xs q=>by rw[cm (cq q hn)];exact q
 tbls:=fun b ps q=>⟨#[],by rw[cm (cq q hn),q];simp⟩
theorem Un.write (mu:Mut (H x)) (he:e=x∨H e=some (.own x)) (k:∀b u,b≠e->h.get? b=some u->h'.get? b=some u) (heo:∃u,h'.get? e=some u):Un fs ex H (upd H x o) h h':=by
 have hx:∀b,H b=none->b≠x:=fun b n z=>by subst z;rw[n] at mu;exact mu
 have hb:∀b,H b=none->b≠e:=fun b n z=>by
  subst z
  rcases he with r | r
  ·exact hx b n r
  ·rw[n] at r;cases r
 have hm:∀b u,H b=some u->¬ Mut (some u)->b≠x:=fun b u q nm z=>by subst z;rw[q] at mu;exact nm mu
 refine⟨fun b u q n _ _=>k b u (hb b n) q,fun b u q n _ _=>⟨u.slots,k b u (hb b n) q⟩,fun b u q n _=>by rw[cm (hx b n)];exact n,fun b u q _=>?_,
  fun b xs q=>by rw[cm (hm b _ q fun z=>z)];exact q,fun b u xs q=>by rw[cm (hm b _ q fun z=>z)];exact q,fun b ps q=>⟨#[],by rw[cm (hm b _ q fun z=>z),q];simp⟩⟩
 by_cases hbe:b=e
 ·subst hbe;exact heo
 ·exact⟨u,k b u hbe q⟩
end
def trk (h:Heap) (H:Hp):List Addr:=(List.range h.objs.size).filter fun a=>(H a).isSome
def gR (h:Heap) (H:Hp):Heap:=W.hideAll h (trk h H)
theorem ph (h:Heap) (H:Hp):(gR h H).objs.size=h.objs.size:=W.hideAll_size _ _
theorem qq {h:Heap}{H:Hp}{b:Addr}{o:Obj}(e:h.get? b=some o) (n:H b=none):(gR h H).get? b=some o :=
 W.hideAll_get _ e fun hm=>by
  have q:(H b).isSome=true:=(aK.mp hm).2
  rw[n] at q;simp at q
theorem sy {h:Heap}{H:Hp}{b:Addr}{o:Obj}(e:(gR h H).get? b=some o):h.get? b=some o/\H b=none:=by
 have e':h.get? b=some o:=W.of_hideAll (trk h H) e
 refine⟨e',?_⟩
 cases q:H b with
 | none=>rfl
 | some x =>
  have hm:b∈trk h H:=aK.mpr ⟨aN.mpr (af e'),by simp[q]⟩
  have z:(gR h H).get? b=none:=W.hideAll_none (trk h H) hm
  rw[z] at e;cases e
def sf (g h:Heap) (L:Addr):List (Addr × Obj):=(List.range h.objs.size).filterMap fun a=>if a=L∨(g.get? a).isSome=true then none else (h.get? a).map fun o=>(a,o)
def d7 (g h:Heap) (L d:Addr):List (Addr × Obj):=(sf g h L).filter fun p=>decide (p.1≠d)
structure Mod (K:W.Frag) (mg:Str->Option Value) (base:Heap):Prop where
 kin:K.In base
 glob:base.Ns mainGlobals mg
 blt:∃mb,base.Ns builtinsNs mb/\∀x:Str,x≠"__name__"->mb x=bootBuiltins x
 nolimit:base.NoLimit
structure Cx where
 prog:Program
 w:World
 K:W.Frag
 mg:Str->Option Value
 base:Heap
 A:Around
 N:List Str
 s₀:Shared
 H₀:Hp
 env:Env
 outer:List Env
 stack:List Env
 ex:List Addr
 fn:Str->Bool
 calm:Bool
 pn:List (Addr × Obj)
 xe:Value->Shared->Prop
def frs (l:List Env):List Addr:=l.filterMap (·.frame)
abbrev Cx.fs (X:Cx):List Addr:=frs X.outer
def Vis (sc:Scope) (x:Str):Prop:=sc.names.lookup x=some .local∨sc.names.lookup x=some .cell∨sc.names.lookup x=some .free
def Loc (sc:Scope) (x:Str):Prop:=sc.names.lookup x=some .local∨sc.names.lookup x=some .cell
def Look (env:Env) (h:Heap) (m:Str->Option Value) (x:Str) (u:Value):Prop :=
 (env.kindOf x=some .local/\m x=some u)∨((env.kindOf x=some .cell∨env.kindOf x=some .free)/\∃c,env.cells.lookup x=some c/\h.IsCell c (some u))
structure Cx.Ok (X:Cx):Prop where
 mod:Mod X.K X.mg X.base
 kind:X.env.scope.kind=.function
 glob:X.env.globals=mainGlobals
 blt:X.env.builtins=builtinsNs
 above:X.s₀.heap.objs.size<=X.env.locals
 inj:∀x y c,X.env.cells.lookup x=some c->X.env.cells.lookup y=some c->x=y
 has:∀x,(X.env.kindOf x=some .cell∨X.env.kindOf x=some .free)->∃c,X.env.cells.lookup x=some c
 cab:∀x c,X.fn x=true->X.env.cells.lookup x=some c->X.s₀.heap.objs.size<=c
 hd:X.calm=true->X.A.handled=none
 frames:X.A.frames=some X.stack
 stk:X.stack=X.outer∨(X.stack=X.env::X.outer/\X.env.frame=some X.env.locals)
 exf:∀b∈X.ex,b≠X.env.locals/\∀x c,X.env.cells.lookup x=some c->c≠b
 bs:∀b o,X.base.get? b=some o->X.s₀.heap.get? b=some o/\X.H₀ b=none
 bsz:X.base.objs.size<=X.s₀.heap.objs.size
 noex:∀b o,X.base.get? b=some o->b∉X.ex
 exfs:∀b∈X.ex,b∉X.fs
 funs:X.s₀.heap.FunFrames X.base X.outer
 frf:∀b∈X.fs,X.H₀ b=none
structure Inv (X:Cx) (pins:List (Addr × Obj)) (σ:List (Option V)) (H:Hp) (s:Shared):Prop where
 ok:X.Ok
 os:s.os=X.s₀.os
 bare:AllBare s.gens
 base:Un X.fs X.ex X.H₀ H X.s₀.heap s.heap
 loc:∃m,s.heap.Ns X.env.locals m/\∀(i:Nat) (x:Str) (v:V),X.N[i]? = some x->σ[i]? = some (some v)->Vis X.env.scope x->∃u,RelV v u/\Look X.env s.heap m x u
 cell:∀x c,X.env.cells.lookup x=some c->∃v,s.heap.IsCell c v
 free:H X.env.locals=none
 freeC:∀x c,X.env.cells.lookup x=some c->H c=none
 pin:∀p∈X.pn++pins,s.heap.get? p.1=some p.2/\H p.1=none/\p.1≠X.env.locals/\p.1∉X.fs/\∀v,p.2.data≠.cell v
 hok:HOk X.prog X.w H s.heap
 len:σ.length=X.N.length
section
variable {X:Cx}{pins:List (Addr × Obj)}{σ:List (Option V)}{H H':Hp}{s:Shared}{h':Heap}
theorem Cx.Ok.nofr (ok:X.Ok) {b:Addr}{o:Obj}(e:X.base.get? b=some o):b∉X.fs:=fun hb=>by
 have:=(ok.funs.mem hb).1
 rw[e] at this;cases this
theorem Inv.bs (I:Inv X pins σ H s):∀b o,X.base.get? b=some o->s.heap.get? b=some o/\H b=none:=fun b o e =>
 ⟨I.base.keep b o (I.ok.bs b o e).1 (I.ok.bs b o e).2 (I.ok.nofr e) (I.ok.noex b o e),I.base.free b o (I.ok.bs b o e).1 (I.ok.bs b o e).2 (I.ok.noex b o e)⟩
theorem Inv.bk (I:Inv X pins σ H s):∀b o,X.base.get? b=some o->s.heap.get? b=some o:=fun b o e=>(I.bs b o e).1
theorem Inv.mod (I:Inv X pins σ H s):Mod X.K X.mg X.base:=I.ok.mod
theorem Inv.kIn (I:Inv X pins σ H s):X.K.In s.heap:=I.ok.mod.kin.keeps I.bk
theorem Inv.lt (I:Inv X pins σ H s):X.env.locals<s.heap.objs.size:=let ⟨_,hn,_⟩:=I.loc;hn.lt
theorem Inv.sz (I:Inv X pins σ H s):X.s₀.heap.objs.size<=s.heap.objs.size:=aO I.ok.above (bd I.lt)
theorem Inv.nofs (I:Inv X pins σ H s) {a:Addr}(h:s.heap.objs.size<=a):a∉X.fs:=fun hb=>by
 obtain⟨_,o,ho,_⟩:=I.ok.funs.mem hb
 exact absurd (ay (af ho) (aO I.sz h)) (bi _)
theorem Inv.cne (I:Inv X pins σ H s):∀x c,X.env.cells.lookup x=some c->c≠X.env.locals:=fun x c e z=>by
 obtain⟨v,o,ho,hd⟩:=I.cell x c e
 obtain⟨m,⟨o',es,ep,ho',hd',_⟩,_⟩:=I.loc
 rw[z,ho'] at ho;cases ho;rw[hd'] at hd;cases hd
theorem Inv.funs (I:Inv X pins σ H s):s.heap.FunFrames X.base X.outer := by
 have all:∀(l:List Env),(∀b∈frs l,b∈X.fs)->X.s₀.heap.FunFrames X.base l->s.heap.FunFrames X.base l:=by
  intro l
  induction l with
  | nil=>intro _ _;trivial
  | cons env r ih =>
   intro hs hl
   obtain⟨hk,⟨L,o,hf,hn,ho,hd⟩,hr⟩:=hl
   have hL:L∈X.fs:=hs L (by unfold frs;rw[List.filterMap_cons,hf];exact bC)
   obtain⟨sl,e⟩:=I.base.slot L o ho (I.ok.frf L hL) hL fun z=>I.ok.exfs L z hL
   exact⟨hk,⟨L,_,hf,hn,e,hd⟩,ih (fun b hb=>hs b (by unfold frs;rw[List.filterMap_cons,hf];exact aI _ hb)) hr⟩
 exact all X.outer (fun _ hb=>hb) I.ok.funs
theorem Inv.stack (I:Inv X pins σ H s):s.heap.FunFrames X.base X.stack:=by
 rcases I.ok.stk with e | ⟨e,hf⟩
 ·rw[e];exact I.funs
 ·rw[e]
  obtain⟨m,hn,_⟩:=I.loc
  refine .cons (by rw[I.ok.kind];decide) hf hn ?_ I.funs
  exact Heap.get?_none_of_le (aO I.ok.bsz I.ok.above)
theorem Inv.stkSub (I:Inv X pins σ H s):∀b∈frs X.stack,b∈X.env.locals::X.fs:=fun b hb=>by
 rcases I.ok.stk with e | ⟨e,hf⟩
 ·rw[e] at hb;exact aI _ hb
 ·rw[e] at hb
  unfold frs at hb
  rw[List.filterMap_cons,hf] at hb
  exact hb
theorem Inv.stkFree (I:Inv X pins σ H s):∀b∈frs X.stack,H b=none:=fun b hb=>by
 rcases aR.mp (I.stkSub b hb) with e | hb
 ·rw[e];exact I.free
 ·obtain⟨_,o,ho,_⟩:=I.ok.funs.mem hb
  exact I.base.free b o ho (I.ok.frf b hb) fun z=>I.ok.exfs b z hb
theorem Inv.step {g':Array GenState}{t':Nat}{d':Drawn}{ch:List Addr}(I:Inv X pins σ H s)
    (hch:∀b∈ch,(b∈X.ex∨X.s₀.heap.objs.size<=b)/\b≠X.env.locals/\(∀x c,X.env.cells.lookup x=some c->c≠b)/\∀p∈X.pn++pins,p.1≠b)
    (keep:∀b o,b≠X.env.locals->b∉X.fs->b∉ch->s.heap.get? b=some o->H b=none->h'.get? b=some o)
    (slot:∀b o,b≠X.env.locals->b∈X.fs->b∉ch->s.heap.get? b=some o->H b=none->∃sl,h'.get? b=some { o with slots:=sl }) (free:∀b o,b∉ch->s.heap.get? b=some o->H b=none->H' b=none)
    (there:∀b o,b∉ch->s.heap.get? b=some o->∃o',h'.get? b=some o')
    (tups:∀b xs,H b=some (.tup xs)->H' b=some (.tup xs)) (frzs:∀b o u,H b=some (.frz o u)->H' b=some (.frz o u)) (tbls:∀b ps,H b=some (.tbl ps)->∃more,H' b=some (.tbl (ps++more)))
    (ns:∀m,s.heap.Ns X.env.locals m->h'.Ns X.env.locals m) (hok:HOk X.prog X.w H' h') (hg:AllBare g') :
    Inv X pins σ H' { s with heap:=h',gens:=g',drawn:=d',toks:=t' }:=by
 have neL:∀b o,X.s₀.heap.get? b=some o->b≠X.env.locals:=fun b o e=>am (ay (af e) I.ok.above)
 have neC:∀b o,X.s₀.heap.get? b=some o->b∉X.ex->b∉ch:=fun b o e hx hb=>by
  rcases (hch b hb).1 with z | z
  ·exact hx z
  ·exact absurd (ay (af e) z) (bi _)
 have cellK:∀x c,X.env.cells.lookup x=some c->∀v,s.heap.IsCell c v->h'.IsCell c v:=fun x c e v ⟨o,ho,hd⟩=>by
  have nch:c∉ch:=fun z=>(hch c z).2.2.1 x c e rfl
  by_cases hc:c∈X.fs
  ·obtain⟨sl,q⟩:=slot c o (I.cne x c e) hc nch ho (I.freeC x c e)
   exact⟨_,q,hd⟩
  ·exact⟨o,keep c o (I.cne x c e) hc nch ho (I.freeC x c e),hd⟩
 refine⟨I.ok,I.os,hg,⟨fun b o e n hb hx=>?_,fun b o e n hb hx=>?_,fun b o e n hx=>?_,fun b o e hx=>?_,fun b xs e=>tups b xs (I.base.tups b xs e),fun b o xs e=>frzs b o xs (I.base.frzs b o xs e),fun b ps e=>?_⟩,?_,fun x c e=>?_,?_,fun x c e=>?_,fun p hp=>?_,hok,I.len⟩
 ·exact keep b o (neL b o e) hb (neC b o e hx) (I.base.keep b o e n hb hx) (I.base.free b o e n hx)
 ·obtain⟨sl,e1⟩:=I.base.slot b o e n hb hx
  obtain⟨sl',e2⟩:=slot b _ (neL b o e) hb (neC b o e hx) e1 (I.base.free b o e n hx)
  exact⟨sl',e2⟩
 ·obtain⟨o',e1⟩:=I.base.there b o e hx
  exact free b o' (neC b o e hx) e1 (I.base.free b o e n hx)
 ·obtain⟨o',e1⟩:=I.base.there b o e hx
  exact there b o' (neC b o e hx) e1
 ·obtain⟨m1,e1⟩:=I.base.tbls b ps e
  obtain⟨m2,e2⟩:=tbls b _ e1
  exact⟨m1++m2,by rw[e2,Array.append_assoc]⟩
 ·obtain⟨m,hn,hl⟩:=I.loc
  refine⟨m,ns m hn,fun i x v e1 e2 e3=>?_⟩
  obtain⟨u,r,l⟩:=hl i x v e1 e2 e3
  refine⟨u,r,?_⟩
  rcases l with l | ⟨k,c,e,z⟩
  ·exact .inl l
  ·exact .inr ⟨k,c,e,cellK x c e _ z⟩
 ·obtain⟨v,z⟩:=I.cell x c e
  exact⟨v,cellK x c e v z⟩
 ·obtain⟨m,⟨o,_,_,ho,_⟩,_⟩:=I.loc
  exact free _ o (fun z=>(hch _ z).2.1 rfl) ho I.free
 ·obtain⟨v,o,ho,hd⟩:=I.cell x c e
  exact free c o (fun z=>(hch c z).2.2.1 x c e rfl) ho (I.freeC x c e)
 ·obtain⟨e,n,ne,nf,d⟩:=I.pin p hp
  have nch:p.1∉ch:=fun z=>(hch p.1 z).2.2.2 p hp rfl
  exact⟨keep p.1 p.2 ne nf nch e n,free p.1 p.2 nch e n,ne,nf,d⟩
theorem Inv.un {t':Nat}(I:Inv X pins σ H s) (u:Un X.fs [] H H' s.heap h') (hok:HOk X.prog X.w H' h'):Inv X pins σ H' { s with heap:=h',toks:=t' }:=by
 obtain⟨m,⟨o,es,ep,ho,r⟩,_⟩:=id I.loc
 obtain⟨sl,hL⟩:=u.any ho I.free (by simp)
 exact I.step (g':=s.gens) (d':=s.drawn) (ch:=[]) (fun _ z=>nomatch z) (fun b o _ hb _ e n=>u.keep b o e n hb (by simp)) (fun b o _ hb _ e n=>u.slot b o e n hb (by simp)) (fun b o _ e n=>u.free b o e n (by simp)) (fun b o _ e=>u.there b o e (by simp)) u.tups u.frzs u.tbls (fun m' hm=>by
  obtain⟨o',es',ep',ho',r'⟩:=hm
  rw[ho] at ho';cases ho'
  exact⟨_,es',ep',hL,r'⟩) hok I.bare
theorem Inv.call {g':Array GenState}{t':Nat}{d':Drawn}{ch:List Addr}(I:Inv X pins σ H s) (u:Un (frs X.stack) ch H H' s.heap h') (hok:HOk X.prog X.w H' h') (hg:AllBare g')
    (hch:∀b∈ch,(b∈X.ex∨X.s₀.heap.objs.size<=b)/\b≠X.env.locals/\(∀x c,X.env.cells.lookup x=some c->c≠b)/\∀p∈X.pn++pins,p.1≠b) :
    Inv X pins σ H' { s with heap:=h',gens:=g',drawn:=d',toks:=t' }:=by
 obtain⟨m,⟨o,es,ep,ho,r⟩,_⟩:=id I.loc
 obtain⟨sl,hL⟩:=u.any ho I.free fun z=>(hch _ z).2.1 rfl
 exact I.step (ch:=ch) hch (fun b o hL hb hc e n=>u.keep b o e n (fun z=>(aR.mp (I.stkSub b z)).elim hL hb) hc) (fun b o _ _ hc e n=>u.any e n hc) (fun b o hc e n=>u.free b o e n hc) (fun b o hc e=>u.there b o e hc) u.tups u.frzs u.tbls (fun m' hm=>by
  obtain⟨o',es',ep',ho',r'⟩:=hm
  rw[ho] at ho';cases ho'
  exact⟨_,es',ep',hL,r'⟩) hok hg
theorem Inv.turned {t':Nat}{it:Addr}(I:Inv X pins σ H s) (k:∀b o,b≠it->s.heap.get? b=some o->h'.get? b=some o) (hn:H it=none) (hL:it≠X.env.locals)
    (h1:it∈X.ex∨X.s₀.heap.objs.size<=it) (h2:∀x c,X.env.cells.lookup x=some c->c≠it) (h3:∀p∈X.pn++pins,p.1≠it):Inv X pins σ H { s with heap:=h',toks:=t' }:=by
 have nit:∀b u,H b=some u->b≠it:=fun b u e z=>by rw[z,hn] at e;cases e
 refine I.step (g':=s.gens) (d':=s.drawn) (ch:=[it]) (fun b hb=>?_) (fun b o _ _ hc e _=>k b o (fun z=>hc (by simp[z])) e) (fun b o _ _ hc e _=>⟨o.slots,k b o (fun z=>hc (by simp[z])) e⟩) (fun _ _ _ _ n=>n)
  (fun b o hc e=>⟨o,k b o (fun z=>hc (by simp[z])) e⟩) (fun _ _ e=>e) (fun _ _ _ e=>e) (fun b ps e=>⟨#[],by rw[e];simp⟩) (fun m hm=>?_) (fun b u e=>?_) I.bare
 ·have e:b=it:=by simpa using hb
  subst e
  exact⟨h1,hL,h2,h3⟩
 ·obtain⟨o,es,ep,ho,r⟩:=hm
  exact⟨o,es,ep,k _ o (Ne.symm hL) ho,r⟩
 ·refine(I.hok b u e).stay (fun c v hc q=>k c v ?_ q) (fun _ q=>q) fun _ _ q=>q
  rcases hc with z | z
  ·rw[z];exact nit b u e
  ·exact nit c _ z
theorem Inv.tok (I:Inv X pins σ H s) (t:Nat):Inv X pins σ H { s with toks:=t }:=I.un (h':=s.heap) (t':=t) Un.refl I.hok
theorem Inv.kept {t':Nat}(I:Inv X pins σ H s) (k:∀b u,s.heap.get? b=some u->h'.get? b=some u):Inv X pins σ H { s with heap:=h',toks:=t' }:=I.un (Un.kept k) (I.hok.kept k)
theorem Inv.laid {a:Addr}{o:HO}{t':Nat}(I:Inv X pins σ H s) (k:∀b u,s.heap.get? b=some u->h'.get? b=some u) (hp:s.heap.objs.size<=a) (new:ObjOk X.prog X.w (upd H a o) h' a o) :
    Inv X pins σ (upd H a o) { s with heap:=h',toks:=t' }:=I.un (Un.laid k hp (I.hok.fresh hp)) (I.hok.laid k hp new)
theorem Inv.write {x e:Addr}{o:HO}{t':Nat}(I:Inv X pins σ H s) (mu:Mut (H x)) (he:e=x∨H e=some (.own x)) (k:∀b u,b≠e->s.heap.get? b=some u->h'.get? b=some u) (heo:∃u,h'.get? e=some u)
    (new:ObjOk X.prog X.w (upd H x o) h' x o):Inv X pins σ (upd H x o) { s with heap:=h',toks:=t' }:=I.un (Un.write mu he k heo) (I.hok.write mu he k heo new)
theorem Inv.pins_of {pins':List (Addr × Obj)}(I:Inv X pins σ H s) (h:∀p∈pins',s.heap.get? p.1=some p.2/\H p.1=none/\p.1≠X.env.locals/\p.1∉X.fs/\∀v,p.2.data≠.cell v):Inv X pins' σ H s :=
 ⟨I.ok,I.os,I.bare,I.base,I.loc,I.cell,I.free,I.freeC,fun p hp=>(ar.mp hp).elim (fun z=>I.pin p (List.mem_append_left _ z)) (h p),I.hok,I.len⟩
theorem lT {N:List Str}(hN:N.Nodup) {i j:Nat}{x:Str}(a:N[i]? = some x) (b:N[j]? = some x):i=j:=by
 obtain⟨h1,e1⟩:=ak.mp a
 obtain⟨h2,e2⟩:=ak.mp b
 exact(List.getElem_inj hN).mp (e1.trans e2.symm)
theorem lj {M:Model}{A:Around}{E:Value -> Shared -> Prop}{i:Nat}{x:Str}{v:V}{u:Value}{Q:Unit -> Shared -> Prop}(I:Inv X pins σ H s) (hN:X.N.Nodup) (hi:X.N[i]? = some x) (hx:Loc X.env.scope x) (r:RelV v u)
    (h:∀s',Inv X pins (σ.set i (some v)) H s'->(∃a,Heap.SameBut a s.heap s'.heap/\(a=X.env.locals∨X.env.cells.lookup x=some a))->Q () s') (hf:X.fn x=true∨X.env.scope.names.lookup x=some .local:=by first | exact .inl rfl | exact .inr rfl | assumption):wpAny M A (storeName X.env x u) Q E s:=by
 obtain⟨m,hn,hl⟩:=id I.loc
 have hcls:(X.env.scope.kind==.class||(X.env.scope.kind==.module&&X.env.locals != X.env.globals))=false:=by rw[I.ok.kind];rfl
 have hiσ:i<σ.length:=by rw[I.len];exact(ak.mp hi).1
 have cne:=I.cne
 have tracked:∀ {a:Addr} {h':Heap},(∃o,s.heap.get? a=some o/\H a=none)->Heap.SameBut a s.heap h'->HOk X.prog X.w H h':=fun {a h'} ha hs b ob e=>by
  obtain⟨_,_,hfree⟩:=ha
  refine(I.hok b ob e).stay (fun c w' hc q=>(hs.2 c ?_).trans q) (fun _ q=>q) fun _ _ q=>q
  rintro rfl
  rcases hc with rfl | hc
  ·rw[hfree] at e;cases e
  ·rw[hfree] at hc;cases hc
 rcases hx with hk | hk
 ·refine wpAny_storeName_local hk hn (fun h' hn' hs => ?_) hcls
  obtain⟨oL,_,_,hoL,_⟩:=id hn
  refine h _ ⟨I.ok,I.os,I.bare,⟨fun b o e n hb hx=>?_,fun b o e n hb hx=>?_,I.base.free,fun b o e hx=>?_,I.base.tups,I.base.frzs,I.base.tbls⟩,⟨_,hn',fun j y v' e1 e2 e3=>?_⟩,fun y c e=>?_,I.free,I.freeC,fun p hp=>?_,tracked ⟨oL,hoL,I.free⟩ hs,by simpa using I.len⟩ ⟨_,hs,.inl rfl⟩
  ·exact(hs.2 b (am (ay (af e) I.ok.above))).trans (I.base.keep b o e n hb hx)
  ·obtain⟨sl,e1⟩:=I.base.slot b o e n hb hx
   exact⟨sl,(hs.2 b (am (ay (af e) I.ok.above))).trans e1⟩
  ·obtain⟨o',e1⟩:=I.base.there b o e hx
   exact⟨o',(hs.2 b (am (ay (af e) I.ok.above))).trans e1⟩
  ·by_cases hj:j=i
   ·subst hj
    rw[hi] at e1;cases e1
    rw[List.getElem?_set_self hiσ] at e2
    cases e2
    exact⟨u,r,.inl ⟨hk,by simp⟩⟩
   ·rw[List.getElem?_set_ne (Ne.symm hj)] at e2
    obtain⟨u',r',q⟩:=hl j y v' e1 e2 e3
    refine⟨u',r',?_⟩
    rcases q with⟨k,e⟩ | ⟨k,c,e,z⟩
    ·refine .inl ⟨k,?_⟩
     have:y≠x:=fun e=>hj (lT hN e1 (e ▸ hi))
     simp[this,e]
    ·exact .inr ⟨k,c,e,z.sameBut hs (cne y c e)⟩
  ·obtain⟨w',z⟩:=I.cell y c e
   exact⟨w',z.sameBut hs (cne y c e)⟩
  ·obtain⟨e,n,ne,nf,d⟩:=I.pin p hp
   exact⟨(hs.2 p.1 ne).trans e,n,ne,nf,d⟩
 ·have hfn:X.fn x=true := by
     rcases hf with z | z
     ·exact z
     ·rw[z] at hk;cases hk
  obtain⟨c,hc⟩:=I.ok.has x (.inl hk)
  obtain⟨w',z⟩:=I.cell x c hc
  refine wpAny_storeName_cell I.ok.kind hk hc z (fun h' hc' hs=>?_)
  obtain⟨oc,hoc,hocd⟩:=id z
  refine h { s with heap:=h' } ⟨I.ok,I.os,I.bare,⟨fun b o e n hb hx=>?_,fun b o e n hb hx=>?_,I.base.free,fun b o e hx=>?_,I.base.tups,I.base.frzs,I.base.tbls⟩,⟨m,hn.sameBut hs (Ne.symm (cne x c hc)),fun j y v' e1 e2 e3=>?_⟩,fun y c' e=>?_,I.free,I.freeC,fun p hp=>?_,tracked ⟨oc,hoc,I.freeC x c hc⟩ hs,by simpa using I.len⟩ ⟨c,hs,.inr hc⟩
  ·exact(hs.2 b (am (ay (af e) (I.ok.cab x c hfn hc)))).trans (I.base.keep b o e n hb hx)
  ·obtain⟨sl,e1⟩:=I.base.slot b o e n hb hx
   exact⟨sl,(hs.2 b (am (ay (af e) (I.ok.cab x c hfn hc)))).trans e1⟩
  ·obtain⟨o',e1⟩:=I.base.there b o e hx
   exact⟨o',(hs.2 b (am (ay (af e) (I.ok.cab x c hfn hc)))).trans e1⟩
  ·by_cases hj:j=i
   ·subst hj
    rw[hi] at e1;cases e1
    rw[List.getElem?_set_self hiσ] at e2
    cases e2
    exact⟨u,r,.inr ⟨.inl hk,c,hc,hc'⟩⟩
   ·rw[List.getElem?_set_ne (Ne.symm hj)] at e2
    obtain⟨u',r',q⟩:=hl j y v' e1 e2 e3
    refine⟨u',r',?_⟩
    rcases q with q | ⟨k,c',e,z'⟩
    ·exact .inl q
    ·refine .inr ⟨k,c',e,z'.sameBut hs ?_⟩
     rintro rfl
     exact hj (lT hN e1 (I.ok.inj _ _ _ e hc ▸ hi))
  ·by_cases hcc:c'=c
   ·subst hcc;exact⟨_,hc'⟩
   ·obtain⟨w2,z2⟩:=I.cell y c' e
    exact⟨w2,z2.sameBut hs hcc⟩
  ·obtain⟨e,n,ne,nf,d⟩:=I.pin p hp
   refine⟨(hs.2 p.1 ?_).trans e,n,ne,nf,d⟩
   intro q
   rw[q,hoc] at e
   have q':oc=p.2:=ae e
   exact d w' (by rw[<- q'];exact hocd)
theorem mF {M:Model}{A:Around}{E:Value->Shared->Prop}{i:Nat}{x:Str}{v:V}{u:Value}{Q:Unit->Shared->Prop}(I:Inv X pins σ H s) (hN:X.N.Nodup) (hi:X.N[i]? = some x) (hx:Loc X.env.scope x) (r:RelV v u)
    (h:∀s',Inv X pins (σ.set i (some v)) H s'->Q () s') (hf:X.fn x=true∨X.env.scope.names.lookup x=some .local:=by first | exact .inl rfl | exact .inr rfl | assumption):wpAny M A (storeName X.env x u) Q E s :=
 lj I hN hi hx r (fun s' I' _=>h s' I') hf
theorem Inv.call' {s':Shared}{ch:List Addr}(I:Inv X pins σ H s) (ho:s'.os=s.os) (u:Un (frs X.stack) ch H H' s.heap s'.heap) (hok:HOk X.prog X.w H' s'.heap) (hg:AllBare s'.gens)
    (hch:∀b∈ch,(b∈X.ex∨X.s₀.heap.objs.size<=b)/\b≠X.env.locals/\(∀x c,X.env.cells.lookup x=some c->c≠b)/\∀p∈X.pn++pins,p.1≠b):Inv X pins σ H' s':=by
 obtain⟨h',g',d',t',o'⟩:=s'
 have e:o'=s.os:=ho
 subst e
 exact I.call (g':=g') (t':=t') (d':=d') u hok hg hch
end
abbrev XK:=Value->Option Addr->Hp->Prop
abbrev St:=List (Option V)
abbrev VK:=V->Hp->Prop
abbrev TE:=St->Hp->VK->Prop
abbrev TT:=St->Hp->(Bool->Hp->Prop)->Prop
abbrev TA:=St->Hp->(List V->Hp->Prop)->Prop
structure Ends where
 nx:St->Hp->Prop
 rt:VK
 bk:St->Hp->Prop:=fun _ _=>False
 ct:St->Hp->Prop:=fun _ _=>False
abbrev TS:=Ends->St->Hp->Prop
def EP (X:Cx) (pins:List (Addr × Obj)) (σ:St) (Q:VK) (u:Value) (s':Shared):Prop:=∃v H',Inv X pins σ H' s'/\RelV v u/\Q v H'
def TP (X:Cx) (pins:List (Addr × Obj)) (σ:St) (Q:Bool->Hp->Prop) (b:Bool) (s':Shared):Prop:=∃H',Inv X pins σ H' s'/\Q b H'
def AP (X:Cx) (pins:List (Addr × Obj)) (σ:St) (Q:List V->Hp->Prop) (us:List Value) (s':Shared):Prop:=∃vs H',Inv X pins σ H' s'/\Vals vs us/\Q vs H'
def SP (X:Cx) (pins:List (Addr × Obj)) (D:Ends) (f:Flow) (s':Shared):Prop :=
 match f with
 | .next=>∃σ' H',Inv X pins σ' H' s'/\D.nx σ' H'
 | .brk=>∃σ' H',Inv X pins σ' H' s'/\D.bk σ' H'
 | .cont=>∃σ' H',Inv X pins σ' H' s'/\D.ct σ' H'
 | .ret u=>∃v σ' H',Inv X pins σ' H' s'/\RelV v u/\D.rt v H'
def PE (X:Cx) (e:Expr) (t:TE):Prop :=
 ∀(pins:List (Addr × Obj)) (s:Shared) (σ:St) (H:Hp) (Q:VK),Inv X pins σ H s->t σ H Q->wpAny (model X.prog X.w) X.A (eval e X.env) (EP X pins σ Q) X.xe s
def PT (X:Cx) (e:Expr) (t:TT):Prop :=
 ∀(pins:List (Addr × Obj)) (s:Shared) (σ:St) (H:Hp) (Q:Bool->Hp->Prop),Inv X pins σ H s->t σ H Q->wpAny (model X.prog X.w) X.A (isTrue e X.env (eval e X.env)) (TP X pins σ Q) X.xe s
def PW (X:Cx) (e:Expr) (t:TT):Prop :=
 ∀(whole:Sem Value) (pins:List (Addr × Obj)) (s:Shared) (σ:St) (H:Hp) (Q:Bool->Hp->Prop),Inv X pins σ H s->t σ H Q->wpAny (model X.prog X.w) X.A (isTrue e X.env whole) (TP X pins σ Q) X.xe s
theorem PW.pt {X:Cx}{e:Expr}{t:TT}(h:PW X e t):PT X e t:=h _
def PA (X:Cx) (es:List Expr) (t:TA):Prop :=
 ∀(pos:Pos) (pins:List (Addr × Obj)) (s:Shared) (σ:St) (H:Hp) (Q:List V->Hp->Prop),Inv X pins σ H s->t σ H Q->wpAny (model X.prog X.w) X.A (spliced (backTo pos (starEach es X.env))) (AP X pins σ Q) X.xe s
def PS (X:Cx) (st:Stmt) (t:TS):Prop :=
 ∀(pins:List (Addr × Obj)) (s:Shared) (σ:St) (H:Hp) (D:Ends),Inv X pins σ H s->t D σ H->wpAny (model X.prog X.w) X.A (exec st X.env) (SP X pins D) X.xe s
def PSs (X:Cx) (st:List Stmt) (t:TS):Prop :=
 ∀(pins:List (Addr × Obj)) (s:Shared) (σ:St) (H:Hp) (D:Ends),Inv X pins σ H s->t D σ H->wpAny (model X.prog X.w) X.A (execs st X.env) (SP X pins D) X.xe s
theorem thn {α:Type}{t:Sem α}{Q Q':α->Shared->Prop}{M:Model}{A:Around}{E:Value->Shared->Prop}{s:Shared}(h:wpAny M A t Q E s) (hQ:∀a s,Q a s->Q' a s):wpAny M A t Q' E s:=aS h hQ fun _ _ x=>x
section
variable {X:Cx}
def uS (i:Nat):TE:=fun σ H Q=>∃v,σ[i]? = some (some v)/\Q v H
def tC (v:V):TE:=fun _ H Q=>Q v H
theorem uM {i:Nat}{x:Str}{pos:Pos}(hN:X.N[i]? = some x) (hv:Vis X.env.scope x) (hd:(x==("__debug__":Str))=false:=by decide) (hcd:(x==("__classdict__":Str))=false:=by decide):PE X (.Name x pos) (uS i):=by
 intro pins s σ H Q I h
 obtain⟨v,e,h⟩:=h
 obtain⟨m,hn,hl⟩:=I.loc
 obtain⟨u,r,l⟩:=hl i x v hN e hv
 have fin:EP X pins σ Q u s:=⟨v,H,I,r,h⟩
 rcases l with⟨hk,hm⟩ | ⟨hk,c,hc,hcell⟩
 ·exact wpAny_Name (wpAny_loadName_local I.ok.kind hk hn hm fin) hd
 ·rcases hk with hk | hk
  ·exact wpAny_Name (wpAny_loadName_cell I.ok.kind hk hc hcell fin) hd
  ·exact wpAny_Name (wpAny_loadName_free I.ok.kind hk hc hcell fin hcd) hd
theorem ci {i j pos}:PE X (.Constant (.int i) j pos) (tC (.int i)):=fun _ _ _ H _ I h=>wpAny_Constant_int ⟨.int i,H,I.tok _,⟨_,rfl⟩,h⟩
theorem dl {b j pos}:PE X (.Constant (.bool b) j pos) (tC (.bl b)):=fun _ _ _ H _ I h=>Constant_bool ⟨.bl b,H,I,rfl,h⟩
theorem ft {j pos}:PE X (.Constant .none j pos) (tC .non):=fun _ _ _ H _ I h=>Constant_none ⟨.non,H,I,rfl,h⟩
theorem jH {x j pos}:PE X (.Constant (.str x) j pos) (tC (.str x)):=fun _ _ _ H _ I h=>Calls.Constant_str ⟨.str x,H,I.tok _,⟨_,rfl⟩,h⟩
def Gl (X:Cx) (x:Str):Prop:=X.env.kindOf x=some .globalImplicit
theorem m8 {E:Value->Shared->Prop}{pins:List (Addr × Obj)}{s:Shared}{σ:St}{H:Hp}{x:Str}{u:Value}{pos:Pos}{Q:Value->Shared->Prop}(I:Inv X pins σ H s) (hg:Gl X x) (hm:X.mg x=some u) (h:Q u s)
    (hd:(x==("__debug__":Str))=false:=by decide):wpAny (model X.prog X.w) X.A (eval (.Name x pos) X.env) Q E s :=
 Calls.Name_function_global I.ok.kind hg (Calls.loadGlobal_global (by rw[I.ok.glob];exact I.mod.glob.keeps I.bk) hm h) hd
theorem eI {E:Value->Shared->Prop}{pins:List (Addr × Obj)}{s:Shared}{σ:St}{H:Hp}{x:Str}{u:Value}{pos:Pos}{Q:Value->Shared->Prop}(I:Inv X pins σ H s) (hg:Gl X x) (hm:X.mg x=none) (hv:bootBuiltins x=some u) (h:Q u s)
    (hn:x≠"__name__":=by decide) (hd:(x==("__debug__":Str))=false:=by decide):wpAny (model X.prog X.w) X.A (eval (.Name x pos) X.env) Q E s:=by
 obtain⟨mb,h1,h2⟩:=I.mod.blt
 exact Calls.Name_function_global I.ok.kind hg (Calls.loadGlobal_builtin (by rw[I.ok.glob];exact I.mod.glob.keeps I.bk) hm (by rw[I.ok.blt];exact h1.keeps I.bk) ((h2 x hn).trans hv) h) hd
theorem sn {x:Str}{v:V}{u:Value}{pos:Pos}(hg:Gl X x) (hm:X.mg x=some u) (r:RelV v u) (hd:(x==("__debug__":Str))=false:=by decide):PE X (.Name x pos) (tC v) :=
 fun _ _ _ H _ I h=>m8 I hg hm ⟨v,H,I,r,h⟩ hd
theorem gW {x:Str}{v:V}{u:Value}{pos:Pos}(hg:Gl X x) (hm:X.mg x=none) (hv:bootBuiltins x=some u) (r:RelV v u) (hn:x≠"__name__":=by decide) (hd:(x==("__debug__":Str))=false:=by decide):PE X (.Name x pos) (tC v) :=
 fun _ _ _ H _ I h=>eI I hg hm hv ⟨v,H,I,r,h⟩ hn hd
variable {a b:Expr}{ta tb:TE}{pos:Pos}
def tB (t:TE):TT:=fun σ H Q=>t σ H fun x H1=>∃c,x=.bl c/\Q c H1
theorem df {e:Expr}{t:TE}(h:PE X e t) (he:∀whole,isTrue e X.env whole=(do let v ← whole;standAt e.pos;holding [v] (truthy v)):=by intro _;rfl):PT X e (tB t):=by
 intro pins s σ H Q I hw
 refine isTrue_plain (thn (h pins s σ H _ I hw) fun v s1 ⟨x,H1,I1,r1,q1⟩=>?_) (he _)
 obtain⟨d,rfl,q⟩:=q1
 cases r1
 exact wpAny_truthy_bool ⟨H1,I1,q⟩
variable {tA tB':TT}{d7:List Expr}
def tAnd (t u:TT):TT:=fun σ H Q=>t σ H fun c H1=>if c=true then u σ H1 Q else Q false H1
def tOr (t u:TT):TT:=fun σ H Q=>t σ H fun c H1=>if c=true then Q true H1 else u σ H1 Q
def tNot (t:TT):TT:=fun σ H Q=>t σ H fun c H1=>Q (!c) H1
theorem kH (ha:PT X a tA):PW X (.BoolOp .And [a] pos) tA:=by
 intro wh pins s σ H Q I h
 refine isTrue_and (thn (ha pins s σ H Q I h) fun c s1 e=>?_)
 cases c with
 | true=>exact isTrue_and_nil e
 | false=>exact e
theorem eE (ha:PT X a tA):PW X (.BoolOp .Or [a] pos) tA:=by
 intro wh pins s σ H Q I h
 refine isTrue_or (thn (ha pins s σ H Q I h) fun c s1 e=>?_)
 cases c with
 | false=>exact isTrue_or_nil e
 | true=>exact e
theorem ms (ha:PT X a tA) (hb:PW X (.BoolOp .And (b::d7) pos) tB'):PW X (.BoolOp .And (a::b::d7) pos) (tAnd tA tB'):=by
 intro wh pins s σ H Q I h
 refine isTrue_and (thn (ha pins s σ H _ I h) fun c s1 ⟨H1,I1,q1⟩=>?_)
 cases c with
 | true=>exact hb wh pins s1 σ H1 Q I1 q1
 | false=>exact⟨H1,I1,q1⟩
theorem dW (ha:PT X a tA) (hb:PW X (.BoolOp .Or (b::d7) pos) tB'):PW X (.BoolOp .Or (a::b::d7) pos) (tOr tA tB'):=by
 intro wh pins s σ H Q I h
 refine isTrue_or (thn (ha pins s σ H _ I h) fun c s1 ⟨H1,I1,q1⟩=>?_)
 cases c with
 | true=>exact⟨H1,I1,q1⟩
 | false=>exact hb wh pins s1 σ H1 Q I1 q1
theorem di (ha:PT X a tA):PT X (.UnaryOp .Not a pos) (tNot tA):=by
 intro pins s σ H Q I h
 exact isTrue_not (ha pins s σ H (fun c H1=>Q (!c) H1) I h)
def vJ (ta tb:TE):TE:=fun σ H Q=>ta σ H fun x H1=>∃c,x=.bl c/\if c=true then tb σ H1 Q else Q (.bl false) H1
def vB (ta:TE):TE:=fun σ H Q=>ta σ H fun x H1=>∃c,x=.bl c/\Q (.bl (!c)) H1
theorem gc {op}{t:TE}(h:PE X a t):PE X (.BoolOp op [a] pos) t:=fun pins s σ H Q I hw=>BoolOp_one (h pins s σ H Q I hw)
theorem fX (ha:PE X a ta) (hb:PE X (.BoolOp .And (b::d7) pos) tb):PE X (.BoolOp .And (a::b::d7) pos) (vJ ta tb):=by
 intro pins s σ H Q I h
 refine BoolOp_and (thn (ha pins s σ H _ I h) fun v s1 ⟨x,H1,I1,r1,q1⟩=>?_)
 obtain⟨c,rfl,q1⟩:=q1
 cases r1
 refine wpAny_truthy_bool ?_
 cases c with
 | true=>exact hb pins s1 σ H1 Q I1 q1
 | false=>exact⟨.bl false,H1,I1,rfl,q1⟩
theorem uT (ha:PE X a ta):PE X (.UnaryOp .Not a pos) (vB ta):=by
 intro pins s σ H Q I h
 refine UnaryOp_ (thn (ha pins s σ H _ I h) fun v s1 ⟨x,H1,I1,r1,q1⟩=>?_)
 obtain⟨c,rfl,q1⟩:=q1
 cases r1
 exact not_of (wpAny_truthy_bool ⟨.bl (!c),H1,I1,rfl,q1⟩)
end
def SqL (K:W.Frag) (H:Hp) (a:Addr) (xs:List V):Prop :=
 Rd H a (.lst xs) ∨
  ∃(o:Obj) (its:Array Value) (n:Nat),K.lookup a=some o/\o.cls=.type "list"/\o.dict=none/\o.data=.seq its n/\its.size<=sizeLine/\Vals xs its.toList
def SqT (K:W.Frag) (H:Hp) (a:Addr) (xs:List V):Prop :=
 Rd H a (.tup xs) ∨
  ∃(o:Obj) (its:Array Value) (n:Nat),K.lookup a=some o/\o.cls=.type "tuple"/\o.data=.seq its n/\its.size<=sizeLine/\Vals xs its.toList
def absV:Value->Option V
 | .none=>some .non
 | .bool b=>some (.bl b)
 | .int i _=>some (.int i)
 | .str x _=>some (.str x)
 | .bytes b _=>some (.byt b)
 | .float b _=>some (.flt b)
 | .ref a=>some (.ref a)
 | .type n=>some (.ty n)
 | _=>none
theorem RelV.abs {x:V}{u:Value}(r:RelV x u):absV u=some x:=by
 cases x with
 | non=>cases r;rfl
 | bl _=>cases r;rfl
 | int _=>obtain⟨t,rfl⟩:=r;rfl
 | str _=>obtain⟨t,rfl⟩:=r;rfl
 | byt _=>obtain⟨t,rfl⟩:=r;rfl
 | flt _=>obtain⟨t,rfl⟩:=r;rfl
 | ref _=>cases r;rfl
 | ty _=>cases r;rfl
theorem RelV.inj {x y:V}{u:Value}(r:RelV x u) (q:RelV y u):x=y:=ae (r.abs.symm.trans q.abs)
theorem Vals.inj:∀ {xs ys:List V}{us:List Value},Vals xs us->Vals ys us->xs=ys
 | _,_,_,.nil,.nil=>rfl
 | _,_,_,.cons r t,.cons r' t'=>by rw[r.inj r',Vals.inj t t']
section
variable {X:Cx}{pins:List (Addr × Obj)}{σ:St}{H:Hp}{s:Shared}{a:Addr}{xs ys:List V}
theorem SqL.of {K:W.Frag}(h:H a=some (.lst xs)):SqL K H a xs:=.inl (.inl h)
theorem SqT.of {K:W.Frag}(h:H a=some (.tup xs)):SqT K H a xs:=.inl (.inl h)
theorem Inv.list (I:Inv X pins σ H s) (h:SqL X.K H a xs):∃its:List Value,Vals xs its/\PlainL s.heap a its.toArray/\xs.length<=sizeLine:=by
 rcases h with h | ⟨o,its,n,hk,hc,hd,hs,hz,r⟩
 ·obtain⟨z,its,n,r,e⟩:=h.ok I.hok
  exact⟨its,r,⟨_,n,e,rfl,rfl,rfl⟩,z⟩
 ·refine⟨its.toList,r,⟨o,n,I.kIn a o hk,hc,hd,by simpa using hs⟩,?_⟩
  have e:=r.length
  simp only[bQ] at e
  omega
theorem Inv.tuple (I:Inv X pins σ H s) (h:SqT X.K H a xs):∃its:List Value,Vals xs its/\IsTup s.heap a its.toArray/\xs.length<=sizeLine:=by
 rcases h with h | ⟨o,its,n,hk,hc,hs,hz,r⟩
 ·obtain⟨z,its,r,p⟩:=h.ok I.hok
  exact⟨its,r,p.tup,z⟩
 ·refine⟨its.toList,r,⟨o,I.kIn a o hk,hc,n,by simpa using hs⟩,?_⟩
  have e:=r.length
  simp only[bQ] at e
  omega
theorem Inv.list_inj (I:Inv X pins σ H s) (h:SqL X.K H a xs) (h':SqL X.K H a ys):xs=ys:=by
 obtain⟨its,r,⟨o,n,e,_,_,d⟩,_⟩:=I.list h
 obtain⟨its',r',⟨o',n',e',_,_,d'⟩,_⟩:=I.list h'
 rw[e] at e';cases e'
 rw[d] at d'
 injection d' with d1 _
 have:its=its':=by simpa using congrArg Array.toList d1
 subst this
 exact r.inj r'
theorem Inv.tuple_inj (I:Inv X pins σ H s) (h:SqT X.K H a xs) (h':SqT X.K H a ys):xs=ys:=by
 obtain⟨its,r,⟨o,e,_,n,d⟩,_⟩:=I.tuple h
 obtain⟨its',r',⟨o',e',_,n',d'⟩,_⟩:=I.tuple h'
 rw[e] at e';cases e'
 rw[d] at d'
 injection d' with d1 _
 have:its=its':=by simpa using congrArg Array.toList d1
 subst this
 exact r.inj r'
end
abbrev Cx.wish (X:Cx) (E:Value->Shared->Prop):Cx:={ X with xe:=E }
abbrev Cx.nox (X:Cx):Cx:=X.wish fun _ _=>False
theorem Cx.Ok.wish {X:Cx}(ok:X.Ok) (E:Value->Shared->Prop):(X.wish E).Ok :=
 ⟨ok.mod,ok.kind,ok.glob,ok.blt,ok.above,ok.inj,ok.has,ok.cab,ok.hd,ok.frames,ok.stk,ok.exf,ok.bs,ok.bsz,ok.noex,ok.exfs,ok.funs,ok.frf⟩
theorem Cx.Ok.unwish {X:Cx}{E:Value->Shared->Prop}(ok:(X.wish E).Ok):X.Ok :=
 ⟨ok.mod,ok.kind,ok.glob,ok.blt,ok.above,ok.inj,ok.has,ok.cab,ok.hd,ok.frames,ok.stk,ok.exf,ok.bs,ok.bsz,ok.noex,ok.exfs,ok.funs,ok.frf⟩
section
variable {X:Cx}{pins:List (Addr × Obj)}{σ:St}{H:Hp}{s:Shared}{E:Value->Shared->Prop}
theorem Inv.wish (I:Inv X pins σ H s) (E:Value->Shared->Prop):Inv (X.wish E) pins σ H s:=⟨I.ok.wish E,I.os,I.bare,I.base,I.loc,I.cell,I.free,I.freeC,I.pin,I.hok,I.len⟩
theorem Inv.unwish (I:Inv (X.wish E) pins σ H s):Inv X pins σ H s:=⟨I.ok.unwish,I.os,I.bare,I.base,I.loc,I.cell,I.free,I.freeC,I.pin,I.hok,I.len⟩
theorem SP.unwish {D:Ends}{f:Flow}{s':Shared}(h:SP (X.wish E) pins D f s'):SP X pins D f s':=by
 cases f with
 | next=>obtain⟨σ',H',I,q⟩:=h;exact⟨σ',H',I.unwish,q⟩
 | brk=>obtain⟨σ',H',I,q⟩:=h;exact⟨σ',H',I.unwish,q⟩
 | cont=>obtain⟨σ',H',I,q⟩:=h;exact⟨σ',H',I.unwish,q⟩
 | ret u=>obtain⟨v,σ',H',I,r,q⟩:=h;exact⟨v,σ',H',I.unwish,r,q⟩
theorem PSs.nox {st:List Stmt}{t:TS}(h:PSs X.nox st t):PSs X st t:=fun pins s σ H D I hw =>
 aS (h pins s σ H D (I.wish _) hw) (fun _ _ q=>q.unwish) fun _ _ z=>False.elim z
end
section
variable {X:Cx}{st:Stmt}{d7:List Stmt}{t u:TS}{e:Expr}{te:TE}{pos:Pos}
def vC:TS:=fun D σ H=>D.nx σ H
def tSeq (t u:TS):TS:=fun D σ H=>t { D with nx:=u D } σ H
theorem cH:PSs X [] vC:=fun _ _ σ H _ I h=>wpAny_execs_nil ⟨σ,H,I,h⟩
theorem cg (h1:PS X st t) (h2:PSs X d7 u):PSs X (st::d7) (tSeq t u):=by
 intro pins s σ H D I h
 refine wpAny_execs_cons (thn (h1 pins s σ H { D with nx:=u D } I h) fun f s1 q=>?_)
 cases f with
 | next =>
  obtain⟨σ',H',I',q⟩:=q
  exact h2 pins s1 σ' H' D I' q
 | ret v=>exact q
 | brk=>exact q
 | cont=>exact q
theorem cp (h1:PS X st t):PSs X [st] t:=by
 intro pins s σ H D I h
 refine wpAny_execs_cons (thn (h1 pins s σ H D I h) fun f s1 q=>?_)
 cases f with
 | next=>exact wpAny_execs_nil q
 | ret v=>exact q
 | brk=>exact q
 | cont=>exact q
theorem Inv.quiet {pins:List (Addr × Obj)}{σ:St}{H:Hp}{s:Shared}(I:Inv X pins σ H s):interactive X.env=false:=by simp[interactive,I.ok.kind]
def vK (te:TE):TS:=fun D σ H=>te σ H fun _ H1=>D.nx σ H1
theorem dU (he:PE X e te) (hs:swapsWith e none pos.line X.env=pure false:=by rfl):PS X (.Expr e pos) (vK te):=by
 intro pins s σ H D I h
 exact wpAny_Expr_any (thn (he pins s σ H _ I h) fun v s1 ⟨x,H1,I1,r1,q1⟩=>⟨σ,H1,I1,q1⟩) I.quiet hs
def tRet (te:TE):TS:=fun D σ H=>te σ H D.rt
theorem cz (he:PE X e te):PS X (.Return (some e) pos) (tRet te):=by
 intro pins s σ H D I h
 exact wpAny_Return_some (thn (he pins s σ H _ I h) fun v s1 ⟨x,H1,I1,r1,q1⟩=>⟨x,σ,H1,I1,r1,q1⟩)
def tIfS (c:TT) (t u:TS):TS:=fun D σ H=>c σ H fun b H1=>if b=true then t D σ H1 else u D σ H1
theorem cM {c:Expr}{a b:List Stmt}{tc:TT}(hc:PT X c tc) (ha:PSs X a t) (hb:PSs X b u):PS X (.If c a b pos) (tIfS tc t u):=by
 intro pins s σ H D I h
 refine wpAny_If (thn (hc pins s σ H _ I h) fun d s1 ⟨H1,I1,q1⟩=>?_)
 cases d with
 | true=>exact ha pins s1 σ H1 D I1 q1
 | false=>exact hb pins s1 σ H1 D I1 q1
def uV:TS:=fun _ _ _=>False
theorem jA:PS X st uV:=fun _ _ _ _ _ _ h=>h.elim
end
abbrev TG:=V->St->Hp->(St->Hp->Prop)->Prop
abbrev TGs:=List V->St->Hp->(St->Hp->Prop)->Prop
def PG (X:Cx) (target:Expr) (t:TG):Prop :=
 ∀(pins:List (Addr × Obj)) (s:Shared) (σ:St) (H:Hp) (v:V) (u:Value) (Q:St->Hp->Prop),Inv X pins σ H s->RelV v u->t v σ H Q ->
  wpAny (model X.prog X.w) X.A (assign target X.env u) (fun _ s'=>∃σ' H',Inv X pins σ' H' s'/\Q σ' H') X.xe s
def PGs (X:Cx) (ts:List Expr) (t:TGs):Prop :=
 ∀(pins:List (Addr × Obj)) (s:Shared) (σ:St) (H:Hp) (vs:List V) (us:List Value) (Q:St->Hp->Prop),Inv X pins σ H s->Vals vs us->t vs σ H Q ->
  wpAny (model X.prog X.w) X.A (assignInOrder ((assignEach ts X.env).map (·.2)) us) (fun _ s'=>∃σ' H',Inv X pins σ' H' s'/\Q σ' H') X.xe s
abbrev p0:=V->V->V->Hp->(Hp->Prop)->Prop
def qS (X:Cx) (t:p0):Prop :=
 ∀(pins:List (Addr × Obj)) (s:Shared) (σ:St) (H:Hp) (o i v:V) (ov iv u:Value) (Q:Hp->Prop),Inv X pins σ H s->RelV o ov->RelV i iv->RelV v u->t o i v H Q ->
  wpAny (model X.prog X.w) X.A (setItem ov iv u) (fun _ s'=>∃H',Inv X pins σ H' s'/\Q H') X.xe s
section
variable {X:Cx}{pos:Pos}
def iX (i:Nat):TG:=fun v σ H Q=>Q (σ.set i (some v)) H
theorem cB {i:Nat}{x:Str}(hN:X.N.Nodup) (hi:X.N[i]? = some x) (hx:Loc X.env.scope x) (hf:X.fn x=true∨X.env.scope.names.lookup x=some .local:=by first | exact .inl rfl | exact .inr rfl | assumption):PG X (.Name x pos) (iX i):=by
 intro pins s σ H v u Q I r h
 exact wpAny_assign_Name (mF I hN hi hx r (fun s' I'=>⟨_,H,I',h⟩) hf)
def u5:TGs:=fun vs σ H Q=>vs=[]/\Q σ H
def nJ (t:TG) (u:TGs):TGs:=fun vs σ H Q=>∃v r,vs=v::r/\t v σ H fun σ' H'=>u r σ' H' Q
theorem gs:PGs X [] u5:=by
 intro pins s σ H vs us Q I r h
 obtain⟨e,h⟩:=h
 subst e
 cases r
 exact assignInOrder_nil ⟨σ,H,I,h⟩
theorem dL {e:Expr}{es:List Expr}{t:TG}{u:TGs}(h1:PG X e t) (h2:PGs X es u)
    (hs:(assignEach (e::es) X.env).map (·.2)=assign e X.env::(assignEach es X.env).map (·.2):=by rfl):PGs X (e::es) (nJ t u):=by
 intro pins s σ H vs us Q I r h
 obtain⟨v,vr,e1,h⟩:=h
 subst e1
 cases r with
 | cons r rr =>
  rw[hs]
  refine assignInOrder_cons (thn (h1 pins s σ H _ _ _ I r h) fun _ s1 ⟨σ1,H1,I1,q1⟩=>?_)
  exact h2 pins s1 σ1 H1 _ _ Q I1 rr q1
def rf (K:W.Frag) (n:Nat) (t:TGs):TG:=fun v σ H Q=>∃a xs,v=.ref a/\SqT K H a xs/\xs.length=n/\t xs σ H Q
theorem uA {es:List Expr}{k:Nat}{t:TGs}{n:Nat}(hc:X.calm=true) (h:PGs X es t)
    (hn:(assignEach es X.env).length=n:=by rfl) (hst:(assignEach es X.env).findIdx? (·.1)=none:=by rfl):PG X (.Tuple es k pos) (rf X.K n t):=by
 intro pins s σ H v u Q I r hw
 obtain⟨a,xs,e1,hq,hl,hw⟩:=hw
 subst e1
 cases r
 obtain⟨its,rv,ht,hz⟩:=I.tuple hq
 refine assign_Tuple_tuple (I.ok.hd hc) ht (by simp[hn,<- hl,rv.length]) hst fun h' hx=>?_
 have I1:Inv X pins σ H { s with heap:=h' }:=I.kept (t':=s.toks) fun b o e=>hx b o (am (af e)) e
 exact h pins _ σ H xs _ Q I1 (by simpa using rv) hw
def gSub (to ti:TE) (t:p0):TG:=fun v σ H Q=>to σ H fun o H1=>ti σ H1 fun i H2=>t o i v H2 fun H3=>Q σ H3
theorem ei {o i:Expr}{to ti:TE}{t:p0}(ho:PE X o to) (hi:PE X i ti) (hs:qS X t)
    (ha:∀v,assign (.Subscript o i pos) X.env v=(do
     let ov ← holding [v] (eval o X.env)
     let iv ← holding [v,ov] (eval i X.env)
     standAt pos
     holding [v,ov,iv] (setItem ov iv v)
     release [v,ov,iv] []):=by intro _;rfl):PG X (.Subscript o i pos) (gSub to ti t):=by
 intro pins s σ H v u Q I r h
 rw[ha]
 refine aa (aG (thn (ho pins s σ H _ I h) fun ov s1 ⟨x,H1,I1,r1,q1⟩=>?_))
 refine aa (aG (thn (hi pins s1 σ H1 _ I1 q1) fun iv s2 ⟨y,H2,I2,r2,q2⟩=>?_))
 refine aa (wpAny_standAt (aa (aG (thn (hs pins s2 σ H2 x y v ov iv u _ I2 r1 r2 r q2) fun _ s3 ⟨H3,I3,q3⟩=>?_))))
 exact wpAny_release ⟨σ,H3,I3,q3⟩
def qu (te:TE) (g:TG):TS:=fun D σ H=>te σ H fun x H1=>g x σ H1 D.nx
theorem dX {tg e:Expr}{te:TE}{g:TG}(he:PE X e te) (hg:PG X tg g) (hs:swapsWithSole [tg] e pos.line X.env=pure false:=by rfl) (hw:swappedStores [tg] e X.env=pure none:=by rfl)
    (h1:(assignEach [tg] X.env).map (·.2)=[assign tg X.env]:=by rfl):PS X (.Assign [tg] e pos) (qu te g):=by
 intro pins s σ H D I h
 refine wpAny_Assign_stores (thn (he pins s σ H _ I h) fun v s1 ⟨x,H1,I1,r1,q1⟩=>?_) hs hw
 rw[h1]
 exact thn (hg pins s1 σ H1 x v _ I1 r1 q1) fun _ s2 q=>q
theorem cy {i:Nat}{x:Str}{e:Expr}{te:TE}{pos':Pos}(hN:X.N.Nodup) (hi:X.N[i]? = some x) (hx:Loc X.env.scope x) (he:PE X e te) (hs:swapsWith e (some (.Name x pos')) pos.line X.env=pure false:=by rfl) (hf:X.fn x=true∨X.env.scope.names.lookup x=some .local:=by first | exact .inl rfl | exact .inr rfl | assumption) :
    PS X (.Assign [.Name x pos'] e pos) (qu te (iX i)):=by
 intro pins s σ H D I h
 refine wpAny_Assign_Name (thn (he pins s σ H _ I h) fun v s1 ⟨y,H1,I1,r1,q1⟩=>?_) hs
 exact mF I1 hN hi hx r1 (fun s2 I2=>⟨_,H1,I2,q1⟩) hf
end
section
variable {X:Cx}{pos:Pos}
def uG (c:TT) (tb:TS):TS:=fun D σ H=>∃W:Nat->St->Hp->Prop,(∃m,W m σ H)/\∀m σ H,W m σ H ->
 c σ H fun b H1=>if b=true then ∃N:St->Hp->Prop,(∀σ' H',N σ' H'->∃m',m'<m/\W m' σ' H')/\tb { D with nx:=N,ct:=N,bk:=D.nx } σ H1 else D.nx σ H1
theorem jB {c:Expr}{body:List Stmt}{tc:TT}{tb:TS}(hp:PassesOwn (model X.prog X.w) X.A X.env X.xe) (hc:PT X c tc) (hb:PSs X body tb):PS X (.While c body [] pos) (uG tc tb) := by
 intro pins s σ H D I h
 obtain⟨W,⟨m0,w0⟩,turn⟩:=h
 refine wpAny_While (codeAny_whileLoop (fun n s'=>∃σ' H',Inv X pins σ' H' s'/\W n σ' H') ?_ m0 ⟨σ,H,I,w0⟩)
 rintro n s1 ⟨σ1,H1,I1,w1⟩
 refine wpAny_passesOwn hp (thn (hc pins s1 σ1 H1 _ I1 (turn n σ1 H1 w1)) fun b s2 ⟨H2,I2,q2⟩=>?_)
 cases b with
 | true =>
  obtain⟨N,hN,q2⟩:=q2
  rw[if_pos rfl]
  refine wpAny_passesOwn hp (thn (hb pins s2 σ1 H2 _ I2 q2) fun f s3 q3=>?_)
  cases f with
  | next =>
   obtain⟨σ3,H3,I3,n3⟩:=q3
   obtain⟨m',hm,w3⟩:=hN σ3 H3 n3
   exact⟨m',hm,σ3,H3,I3,w3⟩
  | cont =>
   obtain⟨σ3,H3,I3,n3⟩:=q3
   obtain⟨m',hm,w3⟩:=hN σ3 H3 n3
   exact⟨m',hm,σ3,H3,I3,w3⟩
  | brk=>exact q3
  | ret v=>exact q3
 | false =>
  rw[if_neg aB]
  exact wpAny_execs_nil ⟨σ1,H2,I2,q2⟩
end
structure It where
 go:Nat->Hp->Prop
 yld:Nat->Hp->V->Hp->Prop
 stop:Nat->Hp->Prop
def dB (X:Cx) (pins:List (Addr × Obj)) (H:Hp) (b:Addr):Prop :=
 H b=none/\b≠X.env.locals/\b∉X.fs/\(b∈X.ex∨X.s₀.heap.objs.size<=b)/\(∀x c,X.env.cells.lookup x=some c->c≠b)/\∀p∈X.pn++pins,p.1≠b
theorem Inv.fpOk {X:Cx}{pins:List (Addr × Obj)}{σ:St}{H H':Hp}{s:Shared}{b:Addr}(I:Inv X pins σ H s) (hb:s.heap.objs.size<=b) (hn:H' b=none):dB X pins H' b:=by
 refine⟨hn,br (ay I.lt hb),I.nofs hb,.inr (aO I.sz hb),fun x c e z=>?_,fun p hp z=>?_⟩
 ·obtain⟨v,q⟩:=I.cell x c e
  exact absurd (ay q.lt (by rw[z];exact hb)) (bi _)
 ·exact absurd (ay (af (I.pin p hp).1) (by rw[z];exact hb)) (bi _)
structure Turn (P:Program) (w:World) (K:W.Frag) (tg:Expr) (J:It) (fp:List Addr) (it:Addr) (tn:Nat -> Heap -> Prop):Prop where
 mem:it∈fp
 obj:∀i h,tn i h->∀b∈fp,∃o,h.get? b=some o/\∀v,o.data≠.cell v
 keep:∀i h h',tn i h->(∀b∈fp,∀o,h.get? b=some o->h'.get? b=some o)->tn i h'
 item:∀(X:Cx),X.prog=P->X.w=w->X.K=K->X.calm=true->∀(i:Nat) (pins:List (Addr × Obj)) (s:Shared) (σ:St) (H:Hp) (E:Value->Shared->Prop),Inv X pins σ H s->(∀b∈fp,dB X pins H b)->tn i s.heap->J.go i H ->
  wpAny (model P w) X.A (pyNext (.ref it)) (fun r s1=>∃u,r=some u /\
   wpAny (model P w) X.A (letOwnedTupleGo tg (.ref it) u) (fun _ s2=>∃x H',Inv X pins σ H' s2/\RelV x u/\J.yld i H x H'/\tn (i+1) s2.heap/\∀b∈fp,H' b=none) E s1) E s
 done:∀(X:Cx),X.prog=P->X.w=w->X.K=K->X.calm=true->∀(i:Nat) (pins:List (Addr × Obj)) (s:Shared) (σ:St) (H:Hp) (E:Value->Shared->Prop),Inv X pins σ H s->(∀b∈fp,dB X pins H b)->tn i s.heap->J.stop i H ->
  wpAny (model P w) X.A (pyNext (.ref it)) (fun r s1=>r=none/\Inv X pins σ H s1) E s
 self:∀(A:Around) (i:Nat) (s:Shared) (Q:Value->Shared->Prop) (E:Value->Shared->Prop),tn i s.heap->Q (.ref it) s->wpAny (model P w) A (pyIter (.ref it)) Q E s
abbrev TI:=St->Hp->(It->Hp->Prop)->Prop
def PIE (X:Cx) (pins:List (Addr × Obj)) (σ:St) (tg:Expr) (R:It->Hp->Prop) (itv:Value) (s2:Shared):Prop :=
 ∃(it:Addr) (fp:List Addr) (tn:Nat->Heap->Prop) (J:It) (H':Hp),itv=.ref it/\Inv X pins σ H' s2/\Turn X.prog X.w X.K tg J fp it tn/\tn 0 s2.heap/\(∀b∈fp,dB X pins H' b)/\R J H'
def PI (X:Cx) (tg iter:Expr) (wi:TI):Prop :=
 ∀(pins:List (Addr × Obj)) (s:Shared) (σ:St) (H:Hp) (R:It->Hp->Prop),Inv X pins σ H s->wi σ H R ->
  wpAny (model X.prog X.w) X.A (eval iter X.env) (fun v s1=>wpAny (model X.prog X.w) X.A (pyIter v) (PIE X pins σ tg R) X.xe s1) X.xe s
theorem j4 {M:Model}{A:Around}{E:Value -> Shared -> Prop}{s:Shared}{tg:Expr}{it:Addr}{u:Value}{o:Obj}{n:String}{vs:Array Value}{Q:Unit -> Shared -> Prop}(ho:s.heap.get? it=some o) (hc:o.cls=.type n) (hd:o.data=.fields vs)
    (hn:["enumerate","zip","dict_itemiterator","dict_reverseitemiterator","odict_iterator","itertools.zip_longest","itertools.pairwise"].contains n=false) (hQ:Q () s):wpAny M A (letOwnedTupleGo tg (.ref it) u) Q E s:=by
 unfold letOwnedTupleGo
 cases tg <;> first
  | exact ad hQ
  | (cases u <;> first
      | exact ad hQ
      | (refine aa (wpAny_load ho ?_)
         rw[hc,hd]
         show wpAny M A (if (["enumerate","zip","dict_itemiterator","dict_reverseitemiterator","odict_iterator","itertools.zip_longest","itertools.pairwise"].contains n&&vs[0]?==some (rawInt _))=true then _ else _) Q E s
         rw[if_neg (by intro h;rw[hn,Bool.false_and] at h;cases h)]
         exact ad hQ))
def Itl (K:W.Frag) (a:Addr):It :=
 ⟨fun i H=>∃xs x,SqL K H a xs/\xs[i]? = some x,fun i H x H'=>H'=H/\∀xs,SqL K H a xs->xs[i]? = some x,fun i H=>∃xs,SqL K H a xs/\xs.length<=i⟩
def Itt (K:W.Frag) (a:Addr):It :=
 ⟨fun i H=>∃xs x,SqT K H a xs/\xs[i]? = some x,fun i H x H'=>H'=H/\∀xs,SqT K H a xs->xs[i]? = some x,fun i H=>∃xs,SqT K H a xs/\xs.length<=i⟩
def Itr (lo:Int) (n:Nat):It:=⟨fun i _=>i<n,fun i H x H'=>H'=H/\x=.int (lo+i),fun i _=>n<=i⟩
theorem kX {P:Program}{w:World}{K:W.Frag}{tg:Expr}(a it:Addr):Turn P w K tg (Itl K a) [it] it (fun i h=>h.IsListIter it a i) where
 mem:=by simp
 obj:=fun i h st b hb=>by
  have e:b=it:=by simpa using hb
  subst e
  obtain⟨o,e,c,d⟩:=st
  exact⟨o,e,fun v z=>by rw[d] at z;cases z⟩
 keep:=fun i h h' st k=>st.at fun o e=>k it (by simp) o e
 item:=by
  intro X hP hw hK hc i pins s σ H E I hf st hg
  subst hP hw hK
  obtain⟨xs,x,hq,hx⟩:=hg
  obtain⟨its,rv,p,hz⟩:=I.list hq
  obtain⟨u,hu,ru⟩:=rv.get hx
  obtain⟨f0,f1,f2,f3,f4,f5⟩:=hf it (by simp)
  refine wpAny_pyNext_list_item st p.isList (x:=u) (by simpa using hu) fun h' st' sb=>?_
  have I1:Inv X pins σ H { s with heap:=h' }:=I.turned (t':=s.toks) (fun b o hb e=>(sb.2 b hb).trans e) f0 f1 f3 f4 f5
  obtain⟨o,e,c,d⟩:=id st'
  exact⟨u,rfl,j4 (s:={ s with heap:=h' }) e c d (by decide) ⟨x,H,I1,ru,⟨rfl,fun ys hy=>by rw[I.list_inj hy hq];exact hx⟩,st',fun b hb=>(hf b hb).1⟩⟩
 done:=by
  intro X hP hw hK hc i pins s σ H E I hf st hg
  subst hP hw hK
  obtain⟨xs,hq,hx⟩:=hg
  obtain⟨its,rv,p,hz⟩:=I.list hq
  obtain⟨f0,f1,f2,f3,f4,f5⟩:=hf it (by simp)
  have hl:=rv.length
  exact wpAny_pyNext_list_end (I.ok.hd hc) st p.isList (by simp;omega) fun h' eb=>⟨rfl,I.turned (t':=s.toks) (fun b o hb e=>eb b o hb e) f0 f1 f3 f4 f5⟩
 self:=fun _ _ _ _ _ st h=>wpAny_pyIter_listiter st h
theorem jQ {P:Program}{w:World}{K:W.Frag}{tg:Expr}(a it:Addr):Turn P w K tg (Itt K a) [it] it (fun i h=>h.IsTupleIter it a i) where
 mem:=by simp
 obj:=fun i h st b hb=>by
  have e:b=it:=by simpa using hb
  subst e
  obtain⟨o,e,c,d⟩:=st
  exact⟨o,e,fun v z=>by rw[d] at z;cases z⟩
 keep:=fun i h h' st k=>st.at fun o e=>k it (by simp) o e
 item:=by
  intro X hP hw hK hc i pins s σ H E I hf st hg
  subst hP hw hK
  obtain⟨xs,x,hq,hx⟩:=hg
  obtain⟨its,rv,p,hz⟩:=I.tuple hq
  obtain⟨u,hu,ru⟩:=rv.get hx
  obtain⟨f0,f1,f2,f3,f4,f5⟩:=hf it (by simp)
  refine wpAny_pyNext_tuple_item st (show s.heap.IsTuple a its.toArray from p) (x:=u) (by simpa using hu) fun h' st' sb=>?_
  have I1:Inv X pins σ H { s with heap:=h' }:=I.turned (t':=s.toks) (fun b o hb e=>(sb.2 b hb).trans e) f0 f1 f3 f4 f5
  obtain⟨o,e,c,d⟩:=id st'
  exact⟨u,rfl,j4 (s:={ s with heap:=h' }) e c d (by decide) ⟨x,H,I1,ru,⟨rfl,fun ys hy=>by rw[I.tuple_inj hy hq];exact hx⟩,st',fun b hb=>(hf b hb).1⟩⟩
 done:=by
  intro X hP hw hK hc i pins s σ H E I hf st hg
  subst hP hw hK
  obtain⟨xs,hq,hx⟩:=hg
  obtain⟨its,rv,p,hz⟩:=I.tuple hq
  obtain⟨f0,f1,f2,f3,f4,f5⟩:=hf it (by simp)
  have hl:=rv.length
  exact wpAny_pyNext_tuple_end (I.ok.hd hc) st (show s.heap.IsTuple a its.toArray from p) (by simp;omega) fun h' eb=>⟨rfl,I.turned (t':=s.toks) (fun b o hb e=>eb b o hb e) f0 f1 f3 f4 f5⟩
 self:=fun _ _ _ _ _ st h=>wpAny_pyIter_tupleiter st h
theorem n8 {P:Program}{w:World}{K:W.Frag}{tg:Expr}(it:Addr) (lo:Int) (n:Nat):Turn P w K tg (Itr lo n) [it] it (fun i h => IsRangeIter h it (lo+(i:Nat) * 1) ((n:Int)-(i:Nat)) 1) where
 mem:=by simp
 obj:=fun i h st b hb=>by
  have e:b=it:=by simpa using hb
  subst e
  exact⟨_,st,fun v z=>by
   have z':Data.fields _=Data.cell v:=z
   cases z'⟩
 keep:=fun i h h' st k=>k it (by simp) _ st
 item:=by
  intro X hP hw hK hc i pins s σ H E I hf st hg
  subst hP hw hK
  obtain⟨f0,f1,f2,f3,f4,f5⟩:=hf it (by simp)
  have W:=Walks.range (prog:=X.prog) (w:=X.w) (I.ok.hd hc) it lo 1 n
  refine W.item i s _ _ hg st fun v h' tk hv st' kk=>?_
  obtain⟨t,rfl⟩:=hv
  have I1:Inv X pins σ H { s with heap:=h',toks:=tk }:=I.turned (fun b o hb e=>kk b o (by simpa using hb) e) f0 f1 f3 f4 f5
  refine⟨_,rfl,j4 (s:={ s with heap:=h',toks:=tk }) (n:="range_iterator") st' rfl rfl (by decide) ⟨.int (lo+i),H,I1,⟨t,?_⟩,⟨rfl,rfl⟩,st',fun b hb=>(hf b hb).1⟩⟩
  rw[Int.mul_one]
 done:=by
  intro X hP hw hK hc i pins s σ H E I hf st hg
  subst hP hw hK
  obtain⟨f0,f1,f2,f3,f4,f5⟩:=hf it (by simp)
  exact wpAny_pyNext_range_end (I.ok.hd hc) st (by have:n<=i:=hg;omega) fun h' eb=>⟨rfl,I.turned (t':=s.toks) (fun b o hb e=>eb b o hb e) f0 f1 f3 f4 f5⟩
 self:=fun _ _ _ _ _ st h=>wpAny_pyIter_rangeiter st h
section
variable {X:Cx}{tg:Expr}
def rV (K:W.Frag) (tl:TE):TI:=fun σ H R=>tl σ H fun x H1=>∃a,x=.ref a/\(∃xs,SqL K H1 a xs)/\R (Itl K a) H1
def uC (K:W.Frag) (tl:TE):TI:=fun σ H R=>tl σ H fun x H1=>∃a,x=.ref a/\(∃xs,SqT K H1 a xs)/\R (Itt K a) H1
theorem sk {l:Expr}{tl:TE}(hl:PE X l tl):PI X tg l (rV X.K tl):=by
 intro pins s σ H R I h
 refine thn (hl pins s σ H _ I h) fun v s1 ⟨x,H1,I1,r1,q1⟩=>?_
 obtain⟨a,e,⟨xs,hq⟩,q⟩:=q1
 subst e
 cases r1
 obtain⟨its,rv,p,hz⟩:=I1.list hq
 refine wpAny_pyIter_list p.isList ?_
 refine⟨s1.heap.objs.size,[s1.heap.objs.size],_,_,H1,rfl,I1.kept (t':=s1.toks) fun b o e=>ah _ e,kX a _,⟨_,ao _ rfl,rfl,rfl⟩,fun b hb=>?_,q⟩
 have e:b=s1.heap.objs.size:=by simpa using hb
 subst e
 exact I1.fpOk (ac _) (I1.hok.fresh (ac _))
theorem uH {l:Expr}{tl:TE}(hl:PE X l tl):PI X tg l (uC X.K tl):=by
 intro pins s σ H R I h
 refine thn (hl pins s σ H _ I h) fun v s1 ⟨x,H1,I1,r1,q1⟩=>?_
 obtain⟨a,e,⟨xs,hq⟩,q⟩:=q1
 subst e
 cases r1
 obtain⟨its,rv,p,hz⟩:=I1.tuple hq
 refine bw (show s1.heap.IsTuple a its.toArray from p) ?_
 refine⟨s1.heap.objs.size,[s1.heap.objs.size],_,_,H1,rfl,I1.kept (t':=s1.toks) fun b o e=>ah _ e,jQ a _,⟨_,ao _ rfl,rfl,rfl⟩,fun b hb=>?_,q⟩
 have e:b=s1.heap.objs.size:=by simpa using hb
 subst e
 exact I1.fpOk (ac _) (I1.hok.fresh (ac _))
theorem qw {pins:List (Addr × Obj)}{σ:St}{H:Hp}{s:Shared}{R:It->Hp->Prop}{E:Value->Shared->Prop}{lo hi:Int}{t u v:Tok}{tk:Nat}(I:Inv X pins σ H s) (h1:-(2 ^ 62)<=lo) (h2:lo<2 ^ 62) (h3:-(2 ^ 62)<=hi) (h4:hi<2 ^ 62)
    (q:R (Itr lo (hi-lo).toNat) H):wpAny (model X.prog X.w) X.A (pyIter (.ref s.heap.objs.size)) (PIE X pins σ tg R) E { s with heap:=s.heap.push { cls:=.type "range",data:=.fields #[.int lo t,.int hi u,.int 1 v] },toks:=tk }:=by
 refine wpAny_pyIter_range (IsRange.new ..) (small_one h1 h2 h3 h4) ?_
 have I1:Inv X pins σ H { s with heap:=s.heap.push { cls:=.type "range",data:=.fields #[.int lo t,.int hi u,.int 1 v] },toks:=tk }:=I.kept fun b o e=>ah _ e
 refine⟨(s.heap.push { cls:=.type "range",data:=.fields #[.int lo t,.int hi u,.int 1 v] }).objs.size,[(s.heap.push { cls:=.type "range",data:=.fields #[.int lo t,.int hi u,.int 1 v] }).objs.size],_,_,H,rfl,
  I1.kept (t':=tk) fun b o e=>ah _ e,n8 _ lo (hi-lo).toNat,?_,fun b hb=>?_,q⟩
 ·have e1:lo+((0:Nat):Int) * 1=lo:=by simp
  have e2:(((hi-lo).toNat:Nat):Int)-((0:Nat):Int)=Builtin.Range.rangeSize lo hi 1:=by rw[rangeSize_one];split <;> omega
  show IsRangeIter _ _ (lo+((0:Nat):Int) * 1) ((((hi-lo).toNat:Nat):Int)-((0:Nat):Int)) 1
  rw[e1,e2]
  exact ao _ rfl
 ·have e:b=(s.heap.push { cls:=.type "range",data:=.fields #[.int lo t,.int hi u,.int 1 v] }).objs.size:=by simpa using hb
  subst e
  exact I1.fpOk (ac _) (I1.hok.fresh (ac _))
def vE (ta:TA):TI:=fun σ H R=>ta σ H fun vs H1=>∃j:Int,vs=[.int j]/\-(2 ^ 62)<=j/\j<2 ^ 62/\R (Itr 0 j.toNat) H1
theorem dY {a:Expr}{ta:TA}{p pos:Pos}(hg:Gl X "range") (hm:X.mg "range"=none) (ha:PA X [a] ta) (hs:starEach [a] X.env=[(false,eval a X.env)]:=by rfl):PI X tg (.Call (.Name "range" p) [a] [] pos) (vE ta):=by
 intro pins s σ H R I h
 refine Call_ (eI I hg hm boot_range (PyProof.Rows.callWith_type1 (thn (ha pos pins s σ H _ I h) fun us s1 ⟨vs,H1,I1,r1,q1⟩=>?_) hs rfl))
 obtain⟨j,e,q1,q2,q⟩:=q1
 subst e
 cases r1 with
 | cons r rr =>
  cases rr
  obtain⟨t,rfl⟩:=r
  exact call_range_1 (qw I1 (by omega) (by omega) q1 q2 (by simpa using q))
def tFor (wi:TI) (g:TG) (tb:TS):TS:=fun D σ H=>wi σ H fun J H1=>∃W:Nat->Nat->St->Hp->Prop,(∃m,W 0 m σ H1)/\∀i m σ H,W i m σ H ->
 (J.stop i H/\D.nx σ H)∨(J.go i H/\∃N:St->Hp->Prop,(∀σ' H',N σ' H'->∃m',m'<m/\W (i+1) m' σ' H')/\∀x H',J.yld i H x H'->g x σ H' fun σ2 H2=>tb { D with nx:=N,ct:=N,bk:=D.nx } σ2 H2)
def iH (fp:List Addr) (h:Heap):List (Addr × Obj):=fp.filterMap fun b=>(h.get? b).map fun o=>(b,o)
theorem eX {fp:List Addr}{h:Heap}{b:Addr}{o:Obj}(hb:b∈fp) (e:h.get? b=some o):(b,o)∈iH fp h:=bR.mpr ⟨b,hb,by rw[e];rfl⟩
theorem ou {fp:List Addr}{h:Heap}{p:Addr × Obj}(hp:p∈iH fp h):p.1∈fp/\h.get? p.1=some p.2:=by
 obtain⟨b,hb,e⟩:=bR.mp hp
 cases q:h.get? b with
 | none=>rw[q] at e;cases e
 | some o =>
  rw[q] at e
  have e':(b,o)=p:=ae e
  subst e'
  exact⟨hb,q⟩
theorem Inv.pinned {pins:List (Addr × Obj)}{σ:St}{H:Hp}{s:Shared}{fp:List Addr}(I:Inv X pins σ H s) (hf:∀b∈fp,dB X pins H b) (ho:∀b∈fp,∃o,s.heap.get? b=some o/\∀v,o.data≠.cell v):Inv X (pins++iH fp s.heap) σ H s :=
 I.pins_of fun p hp=>(ar.mp hp).elim (fun z=>I.pin p (au _ z)) fun z=>by
  obtain⟨hb,e⟩:=ou z
  obtain⟨f0,f1,f2,_⟩:=hf p.1 hb
  obtain⟨o,e',d⟩:=ho p.1 hb
  rw[e] at e';cases e'
  exact⟨e,f0,f1,f2,d⟩
theorem Inv.unpinned {pins pl:List (Addr × Obj)}{σ:St}{H:Hp}{s:Shared}(I:Inv X (pins++pl) σ H s):Inv X pins σ H s:=I.pins_of fun p hp=>I.pin p (au _ (List.mem_append_left _ hp))
theorem dD {iter:Expr}{body:List Stmt}{wi:TI}{g:TG}{tb:TS}{pos:Pos}(hp:PassesOwn (model X.prog X.w) X.A X.env X.xe) (hc:X.calm=true) (hi:PI X tg iter wi) (hg:PG X tg g) (hb:PSs X body tb)
    (hs:∀x,foldedSetIterable iter X.env x=pure x:=by intro _;rfl):PS X (.For tg iter body [] pos) (tFor wi g tb):=by
 intro pins s σ H D I h
 refine wpAny_For (thn (hi pins s σ H _ I h) fun v s1 h1=>thn h1 fun itv s2 h2=>?_) hs
 obtain⟨it,fp,tn,J,H2,e,I2,T,st2,f2,W,⟨m0,w0⟩,turn⟩:=h2
 subst e
 have stat:∀ {H':Hp},(∀b∈fp,H' b=none)->∀b∈fp,dB X pins H' b:=fun hn b hb=>⟨hn b hb,(f2 b hb).2⟩
 refine codeAny_forLoop_any (fun n s'=>∃i σ' H',Inv X pins σ' H' s'/\tn i s'.heap/\(∀b∈fp,H' b=none)/\W i n σ' H') ?_ m0 ⟨0,σ,H2,I2,st2,fun b hb=>(f2 b hb).1,w0⟩
 rintro n s3 ⟨i,σ3,H3,I3,st3,fr3,w3⟩
 rcases turn i n σ3 H3 w3 with⟨stop,qn⟩ | ⟨go,N,hN,step⟩
 ·refine wpAny_passesOwn hp (thn (T.done X rfl rfl rfl hc i pins s3 σ3 H3 X.xe I3 (stat fr3) st3 stop) fun r s4 ⟨hr,I4⟩=>?_)
  subst hr
  exact wpAny_execs_nil ⟨σ3,H3,I4,qn⟩
 ·refine wpAny_passesOwn hp (thn (T.item X rfl rfl rfl hc i pins s3 σ3 H3 X.xe I3 (stat fr3) st3 go) fun r s4 ⟨u,hr,h4⟩=>?_)
  subst hr
  refine wpAny_passesOwn hp (thn h4 fun _ s5 ⟨x,H5,I5,r5,y5,st5,fr5⟩=>?_)
  have I5':=I5.pinned (stat fr5) (T.obj _ _ st5)
  refine wpAny_passesOwn hp (thn (hg _ s5 σ3 H5 x u _ I5' r5 (step x H5 y5)) fun _ s6 ⟨σ6,H6,I6,q6⟩=>?_)
  refine wpAny_passesOwn hp (thn (hb _ s6 σ6 H6 _ I6 q6) fun f s7 q7=>?_)
  have again:∀ {σ7:St} {H7:Hp},Inv X (pins++iH fp s5.heap) σ7 H7 s7->N σ7 H7->∃m,m<n/\∃i σ' H',Inv X pins σ' H' s7/\tn i s7.heap/\(∀b∈fp,H' b=none)/\W i m σ' H':=fun {σ7 H7} I7 n7=>by
   obtain⟨m',hm,w7⟩:=hN σ7 H7 n7
   refine⟨m',hm,i+1,σ7,H7,I7.unpinned,T.keep _ _ _ st5 fun b hb o e=>(I7.pin (b,o) (au _ (au _ (eX hb e)))).1,fun b hb=>?_,w7⟩
   obtain⟨o,e,d⟩:=T.obj _ _ st5 b hb
   exact(I7.pin (b,o) (au _ (au _ (eX hb e)))).2.1
  cases f with
  | next=>obtain⟨σ7,H7,I7,n7⟩:=q7;exact again I7 n7
  | cont=>obtain⟨σ7,H7,I7,n7⟩:=q7;exact again I7 n7
  | brk=>obtain⟨σ7,H7,I7,q7⟩:=q7;exact⟨σ7,H7,I7.unpinned,q7⟩
  | ret v=>obtain⟨x7,σ7,H7,I7,r7,q7⟩:=q7;exact⟨x7,σ7,H7,I7.unpinned,r7,q7⟩
end
theorem fH {K:W.Frag}{a:Addr}{xs:List V}{g:TG}{tb:TS}{D:Ends}{σ:St}{H:Hp}(Pv:Nat -> St -> Hp -> Prop) (h0:Pv 0 σ H) (hl:∀i σ H, i <= xs.length -> Pv i σ H -> SqL K H a xs)
    (hs:∀i x σ H,xs[i]? = some x->Pv i σ H->g x σ H fun σ2 H2=>tb { D with nx:=Pv (i+1),ct:=Pv (i+1),bk:=D.nx } σ2 H2) (hd:∀σ H,Pv xs.length σ H->D.nx σ H) :
    ∃W:Nat->Nat->St->Hp->Prop,(∃m,W 0 m σ H)/\∀i m σ H,W i m σ H ->
     ((Itl K a).stop i H/\D.nx σ H)∨((Itl K a).go i H/\∃N:St->Hp->Prop,(∀σ' H',N σ' H'->∃m',m'<m/\W (i+1) m' σ' H')/\∀x H',(Itl K a).yld i H x H'->g x σ H' fun σ2 H2=>tb { D with nx:=N,ct:=N,bk:=D.nx } σ2 H2):=by
 refine⟨fun i m σ H=>m=xs.length-i/\i<=xs.length/\Pv i σ H,⟨xs.length,by simp,aL _,h0⟩,?_⟩
 rintro i m σ H ⟨rfl,hi,p⟩
 have q:=hl i σ H hi p
 by_cases hlt:i<xs.length
 ·refine .inr ⟨⟨xs,xs[i],q,by simp[hlt]⟩,Pv (i+1),fun σ' H' p'=>⟨xs.length-(i+1),by omega,rfl,hlt,p'⟩,fun x H' y=>?_⟩
  obtain⟨e,y⟩:=y
  subst e
  exact hs i x σ _ (y xs q) p
 ·have e:i=xs.length:=by omega
  subst e
  exact .inl ⟨⟨xs,q,ac _⟩,hd σ H p⟩
theorem iY {K:W.Frag}{a:Addr}{xs:List V}{g:TG}{tb:TS}{D:Ends}{σ:St}{H:Hp}(Pv:Nat -> St -> Hp -> Prop) (h0:Pv 0 σ H) (hl:∀i σ H, i <= xs.length -> Pv i σ H -> SqT K H a xs)
    (hs:∀i x σ H,xs[i]? = some x->Pv i σ H->g x σ H fun σ2 H2=>tb { D with nx:=Pv (i+1),ct:=Pv (i+1),bk:=D.nx } σ2 H2) (hd:∀σ H,Pv xs.length σ H->D.nx σ H) :
    ∃W:Nat->Nat->St->Hp->Prop,(∃m,W 0 m σ H)/\∀i m σ H,W i m σ H ->
     ((Itt K a).stop i H/\D.nx σ H)∨((Itt K a).go i H/\∃N:St->Hp->Prop,(∀σ' H',N σ' H'->∃m',m'<m/\W (i+1) m' σ' H')/\∀x H',(Itt K a).yld i H x H'->g x σ H' fun σ2 H2=>tb { D with nx:=N,ct:=N,bk:=D.nx } σ2 H2):=by
 refine⟨fun i m σ H=>m=xs.length-i/\i<=xs.length/\Pv i σ H,⟨xs.length,by simp,aL _,h0⟩,?_⟩
 rintro i m σ H ⟨rfl,hi,p⟩
 have q:=hl i σ H hi p
 by_cases hlt:i<xs.length
 ·refine .inr ⟨⟨xs,xs[i],q,by simp[hlt]⟩,Pv (i+1),fun σ' H' p'=>⟨xs.length-(i+1),by omega,rfl,hlt,p'⟩,fun x H' y=>?_⟩
  obtain⟨e,y⟩:=y
  subst e
  exact hs i x σ _ (y xs q) p
 ·have e:i=xs.length:=by omega
  subst e
  exact .inl ⟨⟨xs,q,ac _⟩,hd σ H p⟩
theorem fi {lo:Int}{n:Nat}{g:TG}{tb:TS}{D:Ends}{σ:St}{H:Hp}(Pv:Nat -> St -> Hp -> Prop) (h0:Pv 0 σ H)
    (hs:∀i σ H,i<n->Pv i σ H->g (.int (lo+i)) σ H fun σ2 H2=>tb { D with nx:=Pv (i+1),ct:=Pv (i+1),bk:=D.nx } σ2 H2) (hd:∀σ H,Pv n σ H->D.nx σ H) :
    ∃W:Nat->Nat->St->Hp->Prop,(∃m,W 0 m σ H)/\∀i m σ H,W i m σ H ->
     ((Itr lo n).stop i H/\D.nx σ H)∨((Itr lo n).go i H/\∃N:St->Hp->Prop,(∀σ' H',N σ' H'->∃m',m'<m/\W (i+1) m' σ' H')/\∀x H',(Itr lo n).yld i H x H'->g x σ H' fun σ2 H2=>tb { D with nx:=N,ct:=N,bk:=D.nx } σ2 H2):=by
 refine⟨fun i m σ H=>m=n-i/\i<=n/\Pv i σ H,⟨n,by simp,aL _,h0⟩,?_⟩
 rintro i m σ H ⟨rfl,hi,p⟩
 by_cases hlt:i<n
 ·refine .inr ⟨hlt,Pv (i+1),fun σ' H' p'=>⟨n-(i+1),by omega,rfl,hlt,p'⟩,fun x H' y=>?_⟩
  obtain⟨e,y⟩:=y
  subst e y
  exact hs i σ _ hlt p
 ·have e:i=n:=by omega
  subst e
  exact .inl ⟨ac _,hd σ H p⟩
abbrev R2:=V->V->Hp->VK->Prop
def OpR (X:Cx) (f:Value->Value->Sem Value) (r:R2):Prop :=
 ∀(pins:List (Addr × Obj)) (s:Shared) (σ:St) (H:Hp) (x y:V) (v u:Value) (Q:VK),Inv X pins σ H s->RelV x v->RelV y u->r x y H Q ->
  wpAny (model X.prog X.w) X.A (f v u) (EP X pins σ Q) X.xe s
def UnR (X:Cx) (f:Value->Sem Value) (r:V->Hp->VK->Prop):Prop :=
 ∀(pins:List (Addr × Obj)) (s:Shared) (σ:St) (H:Hp) (x:V) (v:Value) (Q:VK),Inv X pins σ H s->RelV x v->r x H Q ->
  wpAny (model X.prog X.w) X.A (f v) (EP X pins σ Q) X.xe s
def ed (X:Cx) (f:Value) (r:List V->Hp->VK->Prop):Prop :=
 ∀(pins:List (Addr × Obj)) (s:Shared) (σ:St) (H:Hp) (xs:List V) (us:List Value) (Q:VK),Inv X pins σ H s->Vals xs us->r xs H Q ->
  wpAny (model X.prog X.w) X.A (call f us) (EP X pins σ Q) X.xe s
def tOp (r:R2) (ta tb:TE):TE:=fun σ H Q=>ta σ H fun x H1=>tb σ H1 fun y H2=>r x y H2 Q
def tUn (r:V->Hp->VK->Prop) (ta:TE):TE:=fun σ H Q=>ta σ H fun x H1=>r x H1 Q
def rI (C:Int->Int->Prop) (g:Int->Int->V):R2:=fun x y H Q=>∃i j,x=.int i/\y=.int j/\C i j/\Q (g i j) H
def rI0 (g:Int->Int->V):R2:=fun x y H Q=>∃i j,x=.int i/\y=.int j/\Q (g i j) H
def rU (g:Int->V):V->Hp->VK->Prop:=fun x H Q=>∃i,x=.int i/\Q (g i) H
section
variable {X:Cx}{a b c:Expr}{ta tb tc:TE}{pos:Pos}
theorem re (ha:PE X a ta) (hb:PE X b tb) {pins:List (Addr × Obj)}{s:Shared}{σ:St}{H:Hp}{R:V->V->Hp->Prop}(I:Inv X pins σ H s)
    (h:ta σ H fun x H1=>tb σ H1 fun y H2=>R x y H2) {Q:Value->Shared->Prop} {f:Value->Value->Sem Value}
    (hf:∀v u s2 x y H2,Inv X pins σ H2 s2->RelV x v->RelV y u->R x y H2->wpAny (model X.prog X.w) X.A (f v u) Q X.xe s2) :
    wpAny (model X.prog X.w) X.A (eval a X.env) (fun v s₁=>wpAny (model X.prog X.w) X.A (eval b X.env) (fun u s₂=>wpAny (model X.prog X.w) X.A (f v u) Q X.xe s₂) X.xe s₁) X.xe s:=by
 refine thn (ha pins s σ H _ I h) fun v s1 ⟨x,H1,I1,r1,q1⟩=>?_
 refine thn (hb pins s1 σ H1 _ I1 q1) fun u s2 ⟨y,H2,I2,r2,q2⟩=>?_
 exact hf v u s2 x y H2 I2 r1 r2 q2
theorem cG {op:Operator}{r:R2}(ho:OpR X (binaryOp op) r) (ha:PE X a ta) (hb:PE X b tb):PE X (.BinOp a op b pos) (tOp r ta tb):=by
 intro pins s σ H Q I h
 exact wpAny_BinOp (re ha hb I h fun v u s2 x y H2 I2 rx ry q=>ho pins s2 σ H2 x y v u Q I2 rx ry q)
theorem jO {op:UnaryOp}{r:V->Hp->VK->Prop}(ho:UnR X (unaryOp op) r) (ha:PE X a ta):PE X (.UnaryOp op a pos) (tUn r ta):=by
 intro pins s σ H Q I h
 exact UnaryOp_ (thn (ha pins s σ H _ I h) fun v s1 ⟨x,H1,I1,r1,q1⟩=>ho pins s1 σ H1 x v Q I1 r1 q1)
theorem opI {f:Value->Value->Sem Value}{C:Int->Int->Prop}{g:Int->Int->Int}
    (rule:∀(i j:Int) (t u:Tok) (s:Shared) (Q:Value->Shared->Prop) (E:Value->Shared->Prop),C i j->Q (.int (g i j) s.toks) { s with toks:=s.toks+1 }->wpAny (model X.prog X.w) X.A (f (.int i t) (.int j u)) Q E s) :
    OpR X f (rI C fun i j=>.int (g i j)):=by
 intro pins s σ H x y v u Q I rx ry h
 obtain⟨i,j,rfl,rfl,hc,q⟩:=h
 obtain⟨t,rfl⟩:=rx
 obtain⟨t',rfl⟩:=ry
 exact rule i j t t' s _ _ hc ⟨.int (g i j),H,I.tok _,⟨_,rfl⟩,q⟩
theorem uZ {f:Value->Value->Sem Value}{g:Int->Int->Int}
    (rule:∀(i j:Int) (t u:Tok) (s:Shared) (Q:Value->Shared->Prop) (E:Value->Shared->Prop),Q (.int (g i j) s.toks) { s with toks:=s.toks+1 }->wpAny (model X.prog X.w) X.A (f (.int i t) (.int j u)) Q E s) :
    OpR X f (rI0 fun i j=>.int (g i j)):=by
 intro pins s σ H x y v u Q I rx ry h
 obtain⟨i,j,rfl,rfl,q⟩:=h
 obtain⟨t,rfl⟩:=rx
 obtain⟨t',rfl⟩:=ry
 exact rule i j t t' s _ _ ⟨.int (g i j),H,I.tok _,⟨_,rfl⟩,q⟩
theorem nY {f:Value->Value->Sem Value}{g:Int->Int->Bool}
    (rule:∀(i j:Int) (t u:Tok) (s:Shared) (Q:Value->Shared->Prop) (E:Value->Shared->Prop),Q (.bool (g i j)) s->wpAny (model X.prog X.w) X.A (f (.int i t) (.int j u)) Q E s) :
    OpR X f (rI0 fun i j=>.bl (g i j)):=by
 intro pins s σ H x y v u Q I rx ry h
 obtain⟨i,j,rfl,rfl,q⟩:=h
 obtain⟨t,rfl⟩:=rx
 obtain⟨t',rfl⟩:=ry
 exact rule i j t t' s _ _ ⟨.bl (g i j),H,I,rfl,q⟩
def CDiv (i j:Int):Prop:=0<j/\j<1073741824
def CPow (i j:Int):Prop:=0<=j/\j<=1000000/\i.natAbs<2 ^ 64
def CMul (i j:Int):Prop:=(-(2 ^ 64)<i/\i<2 ^ 64)∨(-(2 ^ 64)<j/\j<2 ^ 64)
theorem CMul.ok {i j:Int}(h:CMul i j):IntMulOk i j:=by
 rcases h with⟨h1,h2⟩ | ⟨h1,h2⟩
 ·exact .of_left (intBits_le_64 h1 h2)
 ·exact .of_right (intBits_le_64 h1 h2)
theorem uN:OpR X (binaryOp .Add) (rI0 fun i j=>.int (i+j)):=uZ fun _ _ _ _ _ _ _ q=>add_int q
theorem gD:OpR X (binaryOp .Sub) (rI0 fun i j=>.int (i-j)):=uZ fun _ _ _ _ _ _ _ q=>sub_int q
theorem fv:OpR X (binaryOp .Mult) (rI CMul fun i j=>.int (i * j)):=opI fun _ _ _ _ _ _ _ hc q=>mul_int q hc.ok
theorem iT:OpR X (binaryOp .FloorDiv) (rI CDiv fun i j=>.int (i / j)):=opI fun i j _ _ _ _ _ hc q=>by
 have h1:(0:Int)<j:=hc.1
 have h2:j<1073741824:=hc.2
 exact floordiv_int (by omega) (by rw[Int.fdiv_eq_ediv_of_nonneg i (by omega)];exact q) (.inl (PyProof.noPylong_small (by omega)))
theorem d6:OpR X (binaryOp .Mod) (rI (fun _ j=>0<j) fun i j=>.int (i % j)):=opI fun i j _ _ _ _ _ hc q=>by
 have h1:(0:Int)<j:=hc
 exact mod_int' (by omega) (by rw[Int.fmod_eq_emod_of_nonneg i (by omega)];exact q)
theorem pA:OpR X (binaryOp .Pow) (rI CPow fun i j=>.int (i ^ j.toNat)):=opI fun _ _ _ _ _ _ _ hc q=>pow_int_small hc.1 hc.2.1 hc.2.2 q
theorem unI {f:Value->Sem Value}{g:Int->Int}
    (rule:∀(i:Int) (t:Tok) (s:Shared) (Q:Value->Shared->Prop) (E:Value->Shared->Prop),Q (.int (g i) s.toks) { s with toks:=s.toks+1 }->wpAny (model X.prog X.w) X.A (f (.int i t)) Q E s) :
    UnR X f (rU fun i=>.int (g i)):=by
 intro pins s σ H x v Q I rx h
 obtain⟨i,rfl,q⟩:=h
 obtain⟨t,rfl⟩:=rx
 exact rule i t s _ _ ⟨.int (g i),H,I.tok _,⟨_,rfl⟩,q⟩
theorem iR:UnR X (unaryOp .USub) (rU fun i=>.int (-i)):=unI fun _ _ _ _ _ q=>neg_int q
end
def p8:V->V->Bool
 | .non,.non=>true | .non,.int _=>true | .int _,.non=>true | .non,.bl _=>true | .bl _,.non=>true | .non,.str _=>true | .str _,.non=>true
 | .int _,.int _=>true | .bl _,.bl _=>true | .str _,.str _=>true | .byt _,.byt _=>true
 | .int _,.str _=>true | .str _,.int _=>true | .bl _,.str _=>true | .str _,.bl _=>true
 | _,_=>false
def rEq:R2:=fun x y H Q=>p8 x y=true/\Q (.bl (decide (x=y))) H
def rNe:R2:=fun x y H Q=>p8 x y=true/\Q (.bl (!decide (x=y))) H
theorem m3 {i j:Int}:decide (V.int i=V.int j)=(i==j):=by
 rw[aZ]
 simp
theorem oR {i j:Bool}:decide (V.bl i=V.bl j)=(i==j):=by
 rw[aZ]
 simp
theorem mX {i j:Str}:decide (V.str i=V.str j)=(i==j):=by
 rw[aZ]
 simp
theorem mZ {i j:Array UInt8}:decide (V.byt i=V.byt j)=(i.toList==j.toList):=by
 rw[aZ]
 cases i
 cases j
 simp
section
variable {X:Cx}{a b c:Expr}{ta tb tc:TE}{pos:Pos}
theorem cL {pins:List (Addr × Obj)}{σ:St}{H:Hp}{s:Shared}{Q:VK}{k k':Bool}(I:Inv X pins σ H s) (q:Q (.bl k) H) (e:k=k'):EP X pins σ Q (.bool k') s:=by
 subst e
 exact⟨.bl k,H,I,rfl,q⟩
theorem vA:OpR X (compareOp .Eq) rEq:=by
 intro pins s σ H x y v u Q I rx ry h
 obtain⟨hs,q⟩:=h
 cases x with
 | non =>
  cases rx
  cases y with
  | non=>cases ry;exact PySem.EqNone.eq_none_none (cL I q (by simp))
  | bl j=>cases ry;exact PySem.EqNone.eq_none_bool (cL I q (by simp))
  | int j=>obtain⟨t',rfl⟩:=ry;exact PySem.EqNone.eq_none_int (cL I q (by simp))
  | str j=>obtain⟨t',rfl⟩:=ry;exact PySem.EqNone.eq_none_str (cL I q (by simp))
  | _=>exact absurd (show false=true from hs) aB
 | bl i =>
  cases rx
  cases y with
  | non=>cases ry;exact PySem.EqNone.eq_bool_none (cL I q (by simp))
  | bl j=>cases ry;exact eq_bool (cL I q oR)
  | str j=>obtain⟨t',rfl⟩:=ry;exact PySem.EqMixed.eq_bool_str (cL I q (by simp))
  | _=>exact absurd (show false=true from hs) aB
 | int i =>
  obtain⟨t,rfl⟩:=rx
  cases y with
  | non=>cases ry;exact PySem.EqNone.eq_int_none (cL I q (by simp))
  | int j=>obtain⟨t',rfl⟩:=ry;exact eq_int (cL I q m3)
  | str j=>obtain⟨t',rfl⟩:=ry;exact PySem.EqMixed.eq_int_str (cL I q (by simp))
  | _=>exact absurd (show false=true from hs) aB
 | str i =>
  obtain⟨t,rfl⟩:=rx
  cases y with
  | non=>cases ry;exact PySem.EqNone.eq_str_none (cL I q (by simp))
  | bl j=>cases ry;exact PySem.EqMixed.eq_str_bool (cL I q (by simp))
  | int j=>obtain⟨t',rfl⟩:=ry;exact PySem.EqMixed.eq_str_int (cL I q (by simp))
  | str j=>obtain⟨t',rfl⟩:=ry;exact eq_str (cL I q mX)
  | _=>exact absurd (show false=true from hs) aB
 | byt i =>
  obtain⟨t,rfl⟩:=rx
  cases y with
  | byt j=>obtain⟨t',rfl⟩:=ry;exact W.eq_bytes (cL I q mZ)
  | _=>exact absurd (show false=true from hs) aB
 | _=>cases y <;> exact absurd (show false=true from hs) aB
theorem vI:OpR X (compareOp .NotEq) rNe:=by
 intro pins s σ H x y v u Q I rx ry h
 obtain⟨hs,q⟩:=h
 cases x with
 | non =>
  cases rx
  cases y with
  | non=>cases ry;exact PySem.EqNone.ne_none_none (cL I q (by simp))
  | bl j=>cases ry;exact PySem.EqNone.ne_none_bool (cL I q (by simp))
  | int j=>obtain⟨t',rfl⟩:=ry;exact PySem.EqNone.ne_none_int (cL I q (by simp))
  | str j=>obtain⟨t',rfl⟩:=ry;exact PySem.EqNone.ne_none_str (cL I q (by simp))
  | _=>exact absurd (show false=true from hs) aB
 | bl i =>
  cases rx
  cases y with
  | non=>cases ry;exact PySem.EqNone.ne_bool_none (cL I q (by simp))
  | bl j=>cases ry;exact ne_bool (cL I q (congrArg not oR))
  | str j=>obtain⟨t',rfl⟩:=ry;exact PySem.EqMixed.ne_bool_str (cL I q (by simp))
  | _=>exact absurd (show false=true from hs) aB
 | int i =>
  obtain⟨t,rfl⟩:=rx
  cases y with
  | non=>cases ry;exact PySem.EqNone.ne_int_none (cL I q (by simp))
  | int j=>obtain⟨t',rfl⟩:=ry;exact ne_int (cL I q (congrArg not m3))
  | str j=>obtain⟨t',rfl⟩:=ry;exact PySem.EqMixed.ne_int_str (cL I q (by simp))
  | _=>exact absurd (show false=true from hs) aB
 | str i =>
  obtain⟨t,rfl⟩:=rx
  cases y with
  | non=>cases ry;exact PySem.EqNone.ne_str_none (cL I q (by simp))
  | bl j=>cases ry;exact PySem.EqMixed.ne_str_bool (cL I q (by simp))
  | int j=>obtain⟨t',rfl⟩:=ry;exact PySem.EqMixed.ne_str_int (cL I q (by simp))
  | str j=>obtain⟨t',rfl⟩:=ry;exact ne_str (cL I q (congrArg not mX))
  | _=>exact absurd (show false=true from hs) aB
 | byt i =>
  obtain⟨t,rfl⟩:=rx
  cases y with
  | byt j=>obtain⟨t',rfl⟩:=ry;exact W.ne_bytes (cL I q (congrArg not mZ))
  | _=>exact absurd (show false=true from hs) aB
 | _=>cases y <;> exact absurd (show false=true from hs) aB
theorem vy:OpR X (compareOp .Lt) (rI0 fun i j=>.bl (decide (i<j))):=nY fun _ _ _ _ _ _ _ q=>lt_int q
theorem vH:OpR X (compareOp .LtE) (rI0 fun i j=>.bl (decide (i<=j))):=nY fun _ _ _ _ _ _ _ q=>le_int q
theorem ii:OpR X (compareOp .Gt) (rI0 fun i j=>.bl (decide (j<i))):=nY fun _ _ _ _ _ _ _ q=>gt_int q
theorem vR:OpR X (compareOp .GtE) (rI0 fun i j=>.bl (decide (j<=i))):=nY fun _ _ _ _ _ _ _ q=>ge_int q
theorem oo:OpR X (compareOp .Lt) (fun x y H Q=>∃i j,x=.str i/\y=.str j/\Q (.bl (decide (i.cps.toList<j.cps.toList))) H):=by
 intro pins s σ H x y v u Q I rx ry h
 obtain⟨i,j,rfl,rfl,q⟩:=h
 obtain⟨t,rfl⟩:=rx
 obtain⟨t',rfl⟩:=ry
 exact lt_str (cL I q rfl)
theorem vc:OpR X (compareOp .Is) (fun x y H Q=>y=.non/\Q (.bl (decide (x=.non))) H):=by
 intro pins s σ H x y v u Q I rx ry h
 obtain⟨rfl,q⟩:=h
 cases ry
 refine is_none_gen (cL I q ?_)
 cases x <;> first
  | (cases rx;rfl)
  | (obtain⟨t,rfl⟩:=rx;rfl)
theorem ug:OpR X (compareOp .IsNot) (fun x y H Q=>y=.non/\Q (.bl (!decide (x=.non))) H):=by
 intro pins s σ H x y v u Q I rx ry h
 obtain⟨rfl,q⟩:=h
 cases ry
 refine isnot_none_gen (cL I q ?_)
 cases x <;> first
  | (cases rx;rfl)
  | (obtain⟨t,rfl⟩:=rx;rfl)
theorem cE (b:Expr) {op:CmpOp}(h:op≠.In:=by decide) (h2:op≠.NotIn:=by decide):behindInMarks op b=false:=by
 have e1:(op==CmpOp.In)=false:=by cases op <;> first | rfl | exact absurd rfl h
 have e2:(op==CmpOp.NotIn)=false:=by cases op <;> first | rfl | exact absurd rfl h2
 cases b <;> simp[behindInMarks,e1,e2]
theorem dA {op:CmpOp}{r:R2}(ho:OpR X (compareOp op) r) (ha:PE X a ta) (hb:PE X b tb) (hm:behindInMarks op b=false):PE X (.Compare a [op] [b] pos) (tOp r ta tb):=by
 intro pins s σ H Q I h
 exact wpAny_Compare1 (re ha hb I h fun v u s2 x y H2 I2 rx ry q=>ho pins s2 σ H2 x y v u Q I2 rx ry q) hm
def vo (t:TE):TT:=fun σ H Q=>t σ H fun x H'=>∃k,x=.bl k/\Q k H'
theorem cC {op:CmpOp}{r:R2}(ho:OpR X (compareOp op) r) (ha:PE X a ta) (hb:PE X b tb) (hm:behindInMarks op b=false):PT X (.Compare a [op] [b] pos) (vo (tOp r ta tb)):=by
 intro pins s σ H Q I h
 refine wpAny_isTrue_Compare1 (thn (ha pins s σ H _ I h) fun v s1 ⟨x,H1,I1,r1,q1⟩=>thn (hb pins s1 σ H1 _ I1 q1) fun u s2 ⟨y,H2,I2,r2,q2⟩ =>
  thn (ho pins s2 σ H2 x y v u _ I2 r1 r2 q2) fun c s3 ⟨z,H3,I3,r3,k,e,q3⟩=>?_) hm
 subst e
 cases r3
 exact wpAny_truthy_bool ⟨H3,I3,q3⟩
def uy (r r':R2) (ta tb tc:TE):TE:=fun σ H Q=>ta σ H fun x H1=>tb σ H1 fun y H2=>r x y H2 fun z H3=>∃k,z=.bl k /\
 (if k=true then tc σ H3 fun w' H4=>r' y w' H4 Q else Q (.bl false) H3)
theorem lY {op op':CmpOp}{r r':R2}(ho:OpR X (compareOp op) r) (ho':OpR X (compareOp op') r') (ha:PE X a ta) (hb:PE X b tb) (hc:PE X c tc)
    (hm:lastMarks [op,op'] [b,c]=false:=by with_unfolding_all rfl):PE X (.Compare a [op,op'] [b,c] pos) (uy r r' ta tb tc):=by
 intro pins s σ H Q I h
 refine Compare_chain (thn (ha pins s σ H _ I h) fun v s1 ⟨x,H1,I1,r1,q1⟩=>chain_link (thn (hb pins s1 σ H1 _ I1 q1) fun u s2 ⟨y,H2,I2,r2,q2⟩ =>
  thn (ho pins s2 σ H2 x y v u _ I2 r1 r2 q2) fun d s3 ⟨z,H3,I3,r3,k,e,q3⟩=>?_)) hm
 subst e
 cases r3
 refine wpAny_truthy_bool ?_
 cases k with
 | false=>exact ite_ff ⟨.bl false,H3,I3,rfl,q3⟩
 | true=>exact ite_tt (chain_last (thn (hc pins s3 σ H3 _ I3 q3) fun w' s4 ⟨z',H4,I4,r4,q4⟩=>ho' pins s4 σ H4 y z' u w' Q I4 r2 r4 q4))
theorem gY:(sizeLine:Nat)<2 ^ 63:=by rw[sizeLine_eq];decide
theorem ny:OpR X (binaryOp .Add) (fun x y H Q=>∃i j,x=.str i/\y=.str j/\i.length+j.length<=sizeLine/\Q (.str (i++j)) H):=by
 intro pins s σ H x y v u Q I rx ry h
 obtain⟨i,j,rfl,rfl,hz,q⟩:=h
 obtain⟨t,rfl⟩:=rx
 obtain⟨t',rfl⟩:=ry
 exact add_str (fun t' tk=>⟨.str (i++j),H,I.tok _,⟨_,rfl⟩,q⟩) hz
theorem dR {x:V}{us:List Value}(r:Vals [x] us):∃u,us=[u]/\RelV x u:=by
 cases r with
 | cons r1 r2=>cases r2;exact⟨_,rfl,r1⟩
theorem fW {x y:V}{us:List Value}(r:Vals [x,y] us):∃u w',us=[u,w']/\RelV x u/\RelV y w':=by
 cases r with
 | cons r1 r2 =>
  cases r2 with
  | cons r3 r4=>cases r4;exact⟨_,_,rfl,r1,r3⟩
theorem rm:ed X (.builtin "abs") (fun xs H Q=>∃i,xs=[.int i]/\Q (.int (if i<0 then -i else i)) H):=by
 intro pins s σ H xs us Q I r h
 obtain⟨i,rfl,q⟩:=h
 obtain⟨u,rfl,t,rfl⟩:=dR r
 exact call_abs_int fun u tk=>⟨.int (if i<0 then -i else i),H,I.tok _,⟨_,rfl⟩,q⟩
theorem om (hc:X.calm=true):ed X (.builtin "max") (fun xs H Q=>∃i j,xs=[.int i,.int j]/\Q (.int (if j > i then j else i)) H):=by
 intro pins s σ H xs us Q I r h
 obtain⟨i,j,rfl,q⟩:=h
 obtain⟨u,w',rfl,⟨t,rfl⟩,⟨t',rfl⟩⟩:=fW r
 refine max_two_ints (I.ok.hd hc) fun h' tk k=>⟨_,H,I.kept k,?_,q⟩
 by_cases hj:j > i
 ·rw[if_pos hj,if_pos hj];exact⟨_,rfl⟩
 ·rw[if_neg hj,if_neg hj];exact⟨_,rfl⟩
theorem oA (hc:X.calm=true):ed X (.builtin "min") (fun xs H Q=>∃i j,xs=[.int i,.int j]/\Q (.int (if j<i then j else i)) H):=by
 intro pins s σ H xs us Q I r h
 obtain⟨i,j,rfl,q⟩:=h
 obtain⟨u,w',rfl,⟨t,rfl⟩,⟨t',rfl⟩⟩:=fW r
 refine min_two_ints (I.ok.hd hc) fun h' tk k=>⟨_,H,I.kept k,?_,q⟩
 by_cases hj:j<i
 ·rw[if_pos hj,if_pos hj];exact⟨_,rfl⟩
 ·rw[if_neg hj,if_neg hj];exact⟨_,rfl⟩
def pV (K:W.Frag) (x:V) (H:Hp) (n:Nat):Prop :=
 match x with
 | .str y=>y.length<=sizeLine/\n=y.length
 | .byt y=>y.size<=sizeLine/\n=y.size
 | .ref p=>(∃xs,SqL K H p xs/\n=xs.length)∨∃xs,SqT K H p xs/\n=xs.length
 | _=>False
theorem qt:ed X (.builtin "len") (fun xs H Q => ∃x n, xs=[x] /\ pV X.K x H n /\ Q (.int n) H) := by
 intro pins s σ H xs us Q I r h
 obtain⟨x,n,rfl,e,q⟩:=h
 obtain⟨u,rfl,rx⟩:=dR r
 have hl:=gY
 have hs:sizeLine=16777216:=sizeLine_eq
 cases x with
 | str y =>
  obtain⟨t,rfl⟩:=rx
  obtain⟨hy,e'⟩:y.length<=sizeLine/\n=y.length:=e
  subst e'
  exact len_str (by omega) ⟨.int _,H,I.tok _,⟨_,rfl⟩,q⟩
 | byt y =>
  obtain⟨t,rfl⟩:=rx
  obtain⟨hy,e'⟩:y.size<=sizeLine/\n=y.size:=e
  subst e'
  exact W.len_bytes (by omega) ⟨.int _,H,I.tok _,⟨_,rfl⟩,q⟩
 | ref p =>
  cases rx
  have e':(∃xs,SqL X.K H p xs/\n=xs.length)∨∃xs,SqT X.K H p xs/\n=xs.length:=e
  rcases e' with⟨xs,hx,e'⟩ | ⟨xs,hx,e'⟩
  ·subst e'
   obtain⟨its,r',pl,hz⟩:=I.list hx
   have hlen:=r'.length
   exact Calls.call_len_list pl.isList (by simp only[aD];omega) ⟨.int xs.length,H,I.tok _,⟨_,by simp only[aD];rw[hlen]⟩,q⟩
  ·subst e'
   obtain⟨its,r',pl,hz⟩:=I.tuple hx
   have hlen:=r'.length
   exact len_tuple pl (by simp only[aD];omega) ⟨.int xs.length,H,I.tok _,⟨_,by simp only[aD];rw[hlen]⟩,q⟩
 | _=>exact(show False from e).elim
end
structure ObjM (h:Heap) (x dx C:Addr) (mA:Str->Option Value):Prop where
 obj:h.get? x=some (W.instObj C dx)
 ns:h.Ns1 dx mA
 ne:dx≠x
theorem oW {h:Heap}{dx:Addr}{mA:Str -> Option Value}(n:h.Ns1 dx mA):∃od, h.get? dx=some od /\ ∀name, W.lookIn name od=some (mA name) := by
 obtain⟨o,es,ep,ho,hd,hk,_,hm⟩:=n
 refine⟨o,ho,fun name=>?_⟩
 have e:=hm name
 unfold nsFind findBy at e
 rw[<- Array.find?_toList] at e
 unfold W.lookIn
 rw[hd]
 dsimp only
 split
 ·rename_i y q
  rw[q] at e
  exact congrArg some e
 ·rename_i q
  rw[q] at e
  have a:es.toList.any (·.refKey)=false:=by
   rw[List.any_eq_false]
   intro y hy
   obtain⟨z,t,hkey⟩:=hk y (Array.mem_toList_iff.mp hy)
   simp[DictEntry.refKey,hkey]
  have a':¬ es.toList.any (·.refKey)=true:=by rw[a];exact aB
  rw[if_neg a']
  exact congrArg some e
theorem ObjM.look {h:Heap}{x dx C:Addr}{mA:Str->Option Value}(I:ObjM h x dx C mA):∃od,W.InstAt h x (W.instObj C dx) C (some od)/\∀name,W.lookIn name od=some (mA name) :=
 let ⟨od,ho,hl⟩:=oW I.ns
 ⟨od,⟨I.obj,rfl,rfl,ho⟩,hl⟩
theorem RelO.some_of {v:V}{o:Option Value}(r:RelO (some v) o):∃u,o=some u/\RelV v u:=by
 cases o with
 | none=>exact(show False from r).elim
 | some u=>exact⟨u,rfl,r⟩
section
variable {P:Program}{w:World}{H H':Hp}{h h':Heap}{a C dx:Addr}{fs fs':List (Str × V)}
theorem mQ (hok:HOk P w H h) (e:H a=some (.ins C dx fs)):∃mA,ObjM h a dx C mA/\(∀f,RelO (fs.lookup f) (mA f))/\PySem.Within mA (fs.map (·.1))/\fs.length<=1000/\H dx=some (.own a):=by
 obtain⟨d,z,ne,ob,mA,n,r,q⟩:=(show ObjOk P w H h a (.ins C dx fs) from hok a _ e)
 exact⟨mA,⟨ob,n,ne⟩,r,q,z,d⟩
end
structure Cls (K:W.Frag) (C:Addr):Prop where
 pg:W.plainGet K C Str.empty=true
 hd:W.hasDictIn K C=true
 po:W.plainOver K C=true
 sa:W.findIn K (.ref C) "__setattr__"=some (some (.builtin "object.__setattr__"))
theorem Cls.get {K:W.Frag}{C:Addr}(c:Cls K C) (f:Str):W.plainGet K C f=true:=c.pg
section
variable {X:Cx}{pins:List (Addr × Obj)}{σ:St}{H:Hp}{s:Shared}{A:Around}{E:Value->Shared->Prop}{Q:Value->Shared->Prop}{c:Value}{b:Bool}
inductive TyOf (K:W.Frag) (H:Hp):V -> Value -> Prop where
 | non:TyOf K H .non (.type "NoneType")
 | bl (x:Bool):TyOf K H (.bl x) (.type "bool")
 | int (i:Int):TyOf K H (.int i) (.type "int")
 | str (x:Str):TyOf K H (.str x) (.type "str")
 | flt (x:UInt64):TyOf K H (.flt x) (.type "float")
 | lst {a:Addr} {xs:List V} (e:H a=some (.lst xs)):TyOf K H (.ref a) (.type "list")
 | frz {a:Addr} {o:Obj} {xs:List V} (e:H a=some (.frz o (.lst xs))):TyOf K H (.ref a) (.type "list")
 | tup {a:Addr} {xs:List V} (e:H a=some (.tup xs)):TyOf K H (.ref a) (.type "tuple")
 | dK {a:Addr} {kvs:List (Key × V)} (e:H a=some (.dK kvs)):TyOf K H (.ref a) (.type "dict")
 | dT {a:Addr} {kvs:List (List Key × V)} (e:H a=some (.dT kvs)):TyOf K H (.ref a) (.type "dict")
 | ins {a C dx:Addr} {fs:List (Str × V)} (e:H a=some (.ins C dx fs)) (cl:Cls K C) (ha:W.findIn K (.ref C) "__class__"=some (some (.builtin "object.__class__")))
     (hn:W.specialIn K (.builtin "object.__class__") "__get__"=some (some (.builtin "getset_descriptor.__get__"))) (htk:W.takesIn K (.builtin "object.__class__")=some true)
     (hm:W.mroIn K C (.type "object")=some true):TyOf K H (.ref a) (.ref C)
theorem pE {x:V}{u t:Value}(I:Inv X pins σ H s) (rx:RelV x u) (ty:TyOf X.K H x t) (e:W.kitOne X.K t c=some b) (h:∀tk,Q (.bool b) { s with toks:=tk }) :
    wpAny (model X.prog X.w) A (call (.builtin "isinstance") [u,c]) Q E s:=by
 cases ty with
 | non=>cases (show u=Value.none from rx);exact W.kia_one W.kitx_none I.kIn True.intro e (fun z=>nomatch z) h
 | bl y=>cases (show u=Value.bool y from rx);exact W.kia_one W.kitx_bool I.kIn True.intro e (fun z=>nomatch z) h
 | int i=>obtain⟨t,q⟩:=(show ∃t,u=Value.int i t from rx);cases q;exact W.kia_one W.kitx_int I.kIn True.intro e (fun z=>nomatch z) h
 | str y=>obtain⟨t,q⟩:=(show ∃t,u=Value.str y t from rx);cases q;exact W.kia_one W.kitx_str I.kIn True.intro e (fun z=>nomatch z) h
 | flt y=>obtain⟨t,q⟩:=(show ∃t,u=Value.float y t from rx);cases q;exact W.kia_one W.kitx_float I.kIn True.intro e (fun z=>nomatch z) h
 | @lst a xs ea =>
  cases (show u=Value.ref a from rx)
  obtain⟨_,_,n,_,h1⟩:=(show ObjOk X.prog X.w H s.heap a (.lst xs) from I.hok a _ ea)
  exact W.kia_one W.kitx_list I.kIn ⟨_,h1,rfl⟩ e (fun z=>nomatch z) h
 | @frz a ob xs ea =>
  cases (show u=Value.ref a from rx)
  obtain⟨_,_,_,n,_,h1⟩:=(show ObjOk X.prog X.w H s.heap a (.frz ob (.lst xs)) from I.hok a _ ea)
  exact W.kia_one W.kitx_list I.kIn ⟨_,h1,rfl⟩ e (fun z=>nomatch z) h
 | @tup a xs ea =>
  cases (show u=Value.ref a from rx)
  obtain⟨_,_,_,p⟩:=(show ObjOk X.prog X.w H s.heap a (.tup xs) from I.hok a _ ea)
  obtain⟨o,h1,h2,_⟩:=p
  exact W.kia_one W.kitx_tuple I.kIn ⟨o,h1,h2⟩ e (fun z=>nomatch z) h
 | @dK a kvs ea =>
  cases (show u=Value.ref a from rx)
  obtain⟨_,_,vs,_,p⟩:=(show ObjOk X.prog X.w H s.heap a (.dK kvs) from I.hok a _ ea)
  obtain⟨o,es,ep,h1,h2,_⟩:=p
  exact W.kia_one W.kitx_dict I.kIn ⟨o,h1,h2.1⟩ e (fun z=>nomatch z) h
 | @dT a kvs ea =>
  cases (show u=Value.ref a from rx)
  obtain⟨_,_,xs,_,o,es,ep,h1,h2,_⟩:=(show ObjOk X.prog X.w H s.heap a (.dT kvs) from I.hok a _ ea)
  exact W.kia_one W.kitx_dict I.kIn ⟨o,h1,h2.1⟩ e (fun z=>nomatch z) h
 | @ins a C dx fs ea cl ha hn htk hm =>
  cases (show u=Value.ref a from rx)
  obtain⟨mA,O,_⟩:=mQ I.hok ea
  obtain⟨od,J,_⟩:=O.look
  exact W.kia_one (W.kitx_own (cl.get _) cl.hd ha hn htk hm) I.kIn J e (fun z=>nomatch z) h
end
structure Room (k:Nat) (A:Around):Prop where
 hd:A.handled=none
 dp:A.depth+3 * k+5<recursionLimit
 un:A.units+16 * k+200<cLine
 gd:A.guards=some []
theorem Room.mono {j k:Nat}{A:Around}(r:Room k A) (h:j<=k):Room j A:=⟨r.hd,by have:=r.dp;omega,by have:=r.un;omega,r.gd⟩
theorem Room.deeper {k:Nat}{A:Around}(r:Room (k+1) A) (env:Env):Room k (A.deeper env) :=
 ⟨r.hd,by have:=r.dp;show A.depth+1+3 * k+5<_;omega,by have:=r.un;show A.units+3+16 * k+200<_;omega,r.gd⟩
theorem Room.in1 {k:Nat}{A:Around}(r:Room (k+1) A):Room k A.in1 :=
 ⟨r.hd,by have:=r.dp;show A.depth+3 * k+5<_;omega,by have:=r.un;show A.units+1+16 * k+200<_;omega,r.gd⟩
theorem Room.depth {k:Nat}{A:Around}(r:Room k A):A.depth<recursionLimit:=by have:=r.dp;omega
theorem Room.units {k:Nat}{A:Around}(r:Room k A):A.units+64<cLine:=by have:=r.un;omega
def ma:TA:=fun _ H Q=>Q [] H
def lE (ta:TE) (tr:TA):TA:=fun σ H Q=>ta σ H fun x H1=>tr σ H1 fun xs H2=>Q (x::xs) H2
section
variable {X:Cx}{e:Expr}{es:List Expr}{te:TE}{t:TA}{pos:Pos}
theorem cf:PA X [] ma:=fun _ _ _ _ H Q I h=>Calls.spliced_nil ⟨[],H,I,.nil,h⟩
theorem ce (ha:PE X e te) (hr:PA X es t) (hs:starEach (e::es) X.env=(false,eval e X.env)::starEach es X.env:=by rfl):PA X (e::es) (lE te t):=by
 intro pos pins s σ H Q I h
 rw[hs]
 show wpAny _ _ (spliced ((false,eval e X.env)::backTo pos (starEach es X.env))) _ _ s
 refine Calls.spliced_cons (thn (ha pins s σ H _ I h) fun u s1 ⟨x,H1,I1,r1,q1⟩=>?_)
 exact thn (hr pos pins s1 σ H1 _ I1 q1) fun us s2 ⟨xs,H2,I2,r2,q2⟩=>⟨x::xs,H2,I2,.cons r1 r2,q2⟩
def tTup (t:TA):TE:=fun σ H Q=>t σ H fun xs H1=>xs.length<=sizeLine/\∀p,H1 p=none->Q (.ref p) (upd H1 p (.tup xs))
def tLst (t:TA):TE:=fun σ H Q=>t σ H fun xs H1=>xs.length<=sizeLine/\∀p,H1 p=none->Q (.ref p) (upd H1 p (.lst xs))
theorem fu {x1}(h:PA X es t):PE X (.Tuple es x1 pos) (tTup t):=by
 intro pins s σ H Q I hq
 refine wpAny_Tuple_spliced (thn (h pos pins s σ H _ I hq) fun us s1 ⟨xs,H1,I1,r,z,q⟩=>⟨by rw[<- r.length];exact z,?_⟩)
 have hf:H1 s1.heap.objs.size=none:=I1.hok.fresh (ac _)
 refine⟨.ref s1.heap.objs.size,upd H1 s1.heap.objs.size (.tup xs),I1.laid (t':=s1.toks) (fun b u e=>ah _ e) (ac _) ?_,rfl,q _ hf⟩
 exact⟨z,us,r,⟨_,ao _ rfl,rfl,_,rfl,rfl⟩⟩
theorem cZ (h:PA X es t):PE X (.List es pos) (tLst t):=by
 intro pins s σ H Q I hq
 refine wpAny_List_spliced (thn (h pos pins s σ H _ I hq) fun us s1 ⟨xs,H1,I1,r,z,q⟩=>⟨by rw[<- r.length];exact z,?_⟩)
 have hf:H1 s1.heap.objs.size=none:=I1.hok.fresh (ac _)
 refine⟨.ref s1.heap.objs.size,upd H1 s1.heap.objs.size (.lst xs),I1.laid (t':=s1.toks) (fun b u e=>ah _ e) (ac _) ?_,rfl,q _ hf⟩
 exact⟨z,us,0,r,ao _ rfl⟩
end
abbrev Sp:=List V->Hp->VK->XK->Prop
abbrev CXT:=List Env->Hp->Shared->XK->Value->Shared->Prop
structure Env0 (P:Program) (w:World) (K:W.Frag) (mg:Str->Option Value) (base:Heap) (A:Around) (outer:List Env) (s:Shared) (H:Hp):Prop where
 frames:A.frames=some outer
 mod:Mod K mg base
 bs:∀b o,base.get? b=some o->s.heap.get? b=some o/\H b=none
 bsz:base.objs.size<=s.heap.objs.size
 funs:s.heap.FunFrames base outer
 frf:∀b∈frs outer,H b=none
 hok:HOk P w H s.heap
 bare:AllBare s.gens
def CE (outer:List Env) (P:Program) (w:World) (H:Hp) (s:Shared) (Q:VK) (u:Value) (s':Shared):Prop :=
 ∃v H',s'.os=s.os/\AllBare s'.gens/\Un (frs outer) [] H H' s.heap s'.heap/\HOk P w H' s'.heap/\RelV v u/\Q v H'
def CR (CX:CXT) (outer:List Env) (P:Program) (w:World) (H:Hp) (s:Shared) (Q:VK) (E:XK) (r:Result) (s':Shared):Prop :=
 match r with
 | .ok (.ret u)=>CE outer P w H s Q u s'
 | .ok _=>False
 | .error e=>CX outer H s E e s'
structure FnOk (P:Program) (w:World) (K:W.Frag) (mg:Str->Option Value) (base:Heap) (CX:CXT) (k:Nat) (f:Addr) (fd:FuncData) (ps:List Str) (sp:Sp):Prop where
 len:∀vs H Q E,sp vs H Q E->vs.length=ps.length
 run:∀(A:Around) (outer:List Env) (s:Shared) (H:Hp) (args:Args) (us:List Value) (vs:List V) (Q:VK) (E:XK),Room k A->Env0 P w K mg base A outer s H->BindsTo s fd args (ps.zip us)->Vals vs us->sp vs H Q E ->
  codeAny (model P w) A (.call (.ref f) args) (CR CX outer P w H s Q E) s
theorem FnOk.imp {P:Program}{w:World}{K:W.Frag}{mg:Str->Option Value}{base:Heap}{CX:CXT}{k:Nat}{f:Addr}{fd:FuncData}{ps:List Str}{sp sp':Sp}(F:FnOk P w K mg base CX k f fd ps sp)
    (h:∀vs H Q E,sp' vs H Q E->sp vs H Q E):FnOk P w K mg base CX k f fd ps sp' :=
 ⟨fun vs H Q E q=>F.len vs H Q E (h _ _ _ _ q),fun A outer s H args us vs Q E hr he hb hv hs=>F.run A outer s H args us vs Q E hr he hb hv (h _ _ _ _ hs)⟩
theorem Env0.in1 {P:Program}{w:World}{K:W.Frag}{mg:Str->Option Value}{base:Heap}{A:Around}{outer:List Env}{s:Shared}{H:Hp}(e:Env0 P w K mg base A outer s H) :
    Env0 P w K mg base A.in1 outer s H:=⟨e.frames,e.mod,e.bs,e.bsz,e.funs,e.frf,e.hok,e.bare⟩
section
variable {X:Cx}{pins:List (Addr × Obj)}{σ:St}{H:Hp}{s s':Shared}
theorem Inv.env0 (I:Inv X pins σ H s):Env0 X.prog X.w X.K X.mg X.base X.A X.stack s H :=
 ⟨I.ok.frames,I.ok.mod,I.bs,aO I.ok.bsz I.sz,I.stack,I.stkFree,I.hok,I.bare⟩
theorem Inv.after {Q:VK}{u:Value}(I:Inv X pins σ H s) (h:CE X.stack X.prog X.w H s Q u s'):EP X pins σ Q u s':=by
 obtain⟨v,H',os,bare,un,hok,r,q⟩:=h
 obtain⟨hh,g,d,t,os'⟩:=s'
 obtain rfl:os'=s.os:=os
 exact⟨v,H',I.call (h':=hh) (g':=g) (d':=d) (t':=t) (ch:=[]) un hok bare (fun b z=>absurd z (by simp)),r,q⟩
end
def rJ (sp:Sp) (dvs:List V) (E:XK) (t:TA):TE:=fun σ H Q=>t σ H fun vs H1=>sp (vs++dvs) H1 Q E
def Binds (K:W.Frag) (fd:FuncData) (ps:List Str) (ds:List Value):Prop :=
 ∀(s:Shared) (us:List Value),K.In s.heap->(us++ds).length=ps.length->BindsTo s fd ⟨us,[]⟩ (ps.zip (us++ds))
theorem Binds.all {K:W.Frag}{fd:FuncData}{ps:List Str}(h:∀us:List Value,us.length=ps.length->bindArgs fd ⟨us,[]⟩=pure (ps.zip us)):Binds K fd ps []:=fun s us _ hl=>by
 rw[List.append_nil] at hl ⊢
 exact .of_eq (h us hl)
def md (CX:CXT) (X:Cx) (E:XK):Prop:=∀(pins:List (Addr × Obj)) (σ:St) (H:Hp) (s:Shared) (e:Value) (s':Shared),Inv X pins σ H s->CX X.stack H s E e s'->X.xe e s'
section
variable {X:Cx}{CX:CXT}{k:Nat}{f C:Addr}{fd:FuncData}{ps:List Str}{sp:Sp}{dvs:List V}{ds:List Value}{E:XK}{x m:Str}{p pos apos:Pos}{e o:Expr}{es:List Expr}{ta:TE}{t:TA}
theorem vi {pins:List (Addr × Obj)}{σ:St}{H:Hp}{s:Shared}{Q:VK}{us:List Value}{vs:List V}(F:FnOk X.prog X.w X.K X.mg X.base CX k f fd ps sp) (hr:Room k X.A) (hb:Binds X.K fd ps ds) (hd:Vals dvs ds) (hx:md CX X E)
    (I:Inv X pins σ H s) (r:Vals vs us) (h:sp (vs++dvs) H Q E):wpAny (model X.prog X.w) X.A (call (.ref f) us) (EP X pins σ Q) X.xe s:=by
 have r2:Vals (vs++dvs) (us++ds):=r.append hd
 have hl:(us++ds).length=ps.length:=by rw[<- r2.length];exact F.len _ _ _ _ h
 refine wpAny_call (codeAny_mono (F.run X.A X.stack s H ⟨us,[]⟩ (us++ds) (vs++dvs) Q E hr I.env0 (hb s us I.kIn hl) r2 h) fun r s' hq=>?_)
 cases r with
 | error e=>exact hx pins σ H s e s' I hq
 | ok fl =>
  cases fl with
  | ret u=>exact I.after hq
  | next=>exact False.elim hq
  | brk=>exact False.elim hq
  | cont=>exact False.elim hq
theorem sD (F:FnOk X.prog X.w X.K X.mg X.base CX k f fd ps sp) (hr:Room k X.A) (hg:Gl X x) (hm:X.mg x=some (.ref f)) (hk:W.keepIn X.K (.ref f)=true) (hb:Binds X.K fd ps ds) (hd:Vals dvs ds) (hx:md CX X E)
    (ha:PA X (e::es) t) (hdb:(x==("__debug__":Str))=false:=by decide) (he:starEach (e::es) X.env=(false,eval e X.env)::starEach es X.env:=by rfl) (hpl:(backTo pos (starEach es X.env)).any (·.1)=false:=by rfl) :
    PE X (.Call (.Name x p) (e::es) [] pos) (rJ sp dvs E t):=by
 intro pins s σ H Q I h
 refine bI (m8 I hg hm ?_ hdb)
 refine W.callWith_K (h₀:=X.base) I.ok.mod.kin hk (thn (ha pos pins s σ H _ I h) fun us s1 ⟨vs,H1,I1,r,q⟩=>⟨I1.kIn,?_⟩) he hpl
 exact vi F hr hb hd hx I1 r q
end
def PK (X:Cx) (kws:List Keyword) (t:TA):Prop :=
 ∀(pos:Pos) (pins:List (Addr × Obj)) (s:Shared) (σ:St) (H:Hp) (Q:List V->Hp->Prop),Inv X pins σ H s->t σ H Q->wpAny (model X.prog X.w) X.A (evalAll ((backToKw pos (keywordEach kws X.env)).map (·.2))) (AP X pins σ Q) X.xe s
section
variable {X:Cx}{CX:CXT}{k:Nat}{f C:Addr}{fd:FuncData}{ps ks:List Str}{sp:Sp}{E:XK}{x m:Str}{p pos apos kpos:Pos}{e o:Expr}{es:List Expr}{kws:List Keyword}{te ta:TE}{t tk:TA}{nm:Option Str}
theorem vk:PK X [] ma:=fun _ _ _ _ H Q I h=>wpAny_evalAll_nil ⟨[],H,I,.nil,h⟩
theorem sP (ha:PE X e te) (hr:PK X kws t):PK X (⟨nm,e,kpos⟩::kws) (lE te t):=by
 intro pos pins s σ H Q I h
 show wpAny _ _ (evalAll ((do let v ← eval e X.env;standAt pos;pure v)::(backToKw pos (keywordEach kws X.env)).map (·.2))) _ _ s
 refine wpAny_evalAll_cons (aa (thn (ha pins s σ H _ I h) fun u s1 ⟨x,H1,I1,r1,q1⟩=>aa (wpAny_standAt (ad ?_))))
 exact thn (hr pos pins s1 σ H1 _ I1 q1) fun us s2 ⟨xs,H2,I2,r2,q2⟩=>⟨x::xs,H2,I2,.cons r1 r2,q2⟩
variable {g:List Value->List Value->List Value}{gV:List V->List V->List V}
end
structure FnScope (N P:List Str) (sc:Scope):Prop where
 kind:sc.kind=.function
 co:sc.isCoroutine=false
 gen:sc.isGenerator=false
 nd:N.Nodup
 pre:N.take P.length=P
 par:∀x∈P,sc.names.lookup x=some .local∨sc.names.lookup x=some .cell
 nofree:∀y∈sc.names,y.2≠.free
theorem kT {kindOf:Str -> Option NameKind}{x:Str}:∀ {binds:List (Str × Value)}{m:Str -> Option Value}, (∀v, (x, v) ∉ binds) -> bindL kindOf binds m x=m x
 | [],_,_=>rfl
 | (n,v)::r,m,h=>by
  unfold bindL
  rw[kT fun w hw=>h w (aI _ hw)]
  split
  ·have:x≠n:=by rintro rfl;exact h v bC
   simp[this]
  ·rfl
theorem kR {kindOf:Str -> Option NameKind}{x:Str}:∀ {binds:List (Str × Value)}{m:Str -> Option Value}, (∀v, (x, v) ∉ binds) -> bindC kindOf binds m x=m x
 | [],_,_=>rfl
 | (n,v)::r,m,h=>by
  unfold bindC
  rw[kR fun w hw=>h w (aI _ hw)]
  split
  ·rfl
  ·have:x≠n:=by rintro rfl;exact h v bC
   simp[this]
theorem kU {kindOf:Str->Option NameKind}{x:Str}{v:Value}:∀ {P:List Str}{vs:List Value}{i:Nat}{m:Str->Option Value},P.Nodup->P[i]? = some x->vs[i]? = some v->kindOf x=some .local ->
    bindL kindOf (P.zip vs) m x=some v
 | [],_,_,_,_,h,_,_=>by simp at h
 | _::_,[],_,_,_,_,h,_=>by simp at h
 | p::P,w::vs,0,m,nd,h1,h2,hk=>by
  simp at h1 h2;subst h1;subst h2
  show bindL kindOf ((p,w)::P.zip vs) m p=_
  unfold bindL
  rw[kT fun v hv=>(ba.mp nd).1 (List.of_mem_zip hv).1,if_pos hk]
  simp
 | p::P,w::vs,i+1,m,nd,h1,h2,hk=>by
  show bindL kindOf ((p,w)::P.zip vs) m x=_
  unfold bindL
  exact kU (i:=i) (ba.mp nd).2 (by simpa using h1) (by simpa using h2) hk
theorem lu {kindOf:Str->Option NameKind}{x:Str}{v:Value}:∀ {P:List Str}{vs:List Value}{i:Nat}{m:Str->Option Value},P.Nodup->P[i]? = some x->vs[i]? = some v->kindOf x≠some .local ->
    bindC kindOf (P.zip vs) m x=some v
 | [],_,_,_,_,h,_,_=>by simp at h
 | _::_,[],_,_,_,_,h,_=>by simp at h
 | p::P,w::vs,0,m,nd,h1,h2,hk=>by
  simp at h1 h2;subst h1;subst h2
  show bindC kindOf ((p,w)::P.zip vs) m p=_
  unfold bindC
  rw[kR fun v hv=>(ba.mp nd).1 (List.of_mem_zip hv).1,if_neg hk]
  simp
 | p::P,w::vs,i+1,m,nd,h1,h2,hk=>by
  show bindC kindOf ((p,w)::P.zip vs) m x=_
  unfold bindC
  exact lu (i:=i) (ba.mp nd).2 (by simpa using h1) (by simpa using h2) hk
def start (N:List Str) (vs:List V):St:=vs.map some++List.replicate (N.length-vs.length) none
def js (CX:CXT) (P:Program) (w:World) (K:W.Frag) (mg:Str->Option Value) (base:Heap) (N:List Str) (qual:Str) (scope:Scope) (f:Addr) (cd:Value) (A:Around) (outer:List Env) (s:Shared) (H:Hp) (E:XK):Cx where
 prog:=P
 w:=w
 K:=K
 mg:=mg
 base:=base
 A:=A.deeper (envOfC qual scope s.heap.objs.size f cd)
 N:=N
 s₀:=s
 H₀:=H
 env:=envOfC qual scope s.heap.objs.size f cd
 outer:=outer
 stack:=envOfC qual scope s.heap.objs.size f cd::outer
 ex:=[]
 calm:=true
 fn:=fun _=>true
 pn:=[]
 xe:=fun e s'=>wpAny (model P w) (A.deeper (envOfC qual scope s.heap.objs.size f cd)) (leaving (envOfC qual scope s.heap.objs.size f cd) e) (fun _ s''=>CX outer H s E e s'') (fun e' s''=>CX outer H s E e' s'') s'
theorem jy {sc:Scope}{n:Nat}{x:Str}(h:sc.names.lookup x=some .cell):∃c,(cellsFrom n sc.names []).lookup x=some c:=by
 have q:=W.cellsFrom_some sc.names n [] (.inl h)
 exact bJ.mp q
theorem oB {CX:CXT}{P:Program}{w:World}{K:W.Frag}{mg:Str -> Option Value}{base:Heap}{N ps:List Str}{qual:Str}{scope:Scope}{f:Addr}{cd:Value}{A:Around}{outer:List Env}{s s1:Shared}{H:Hp}{E:XK}{us:List Value}{vs:List V}
    (S:FnScope N ps scope) (hd:A.handled=none) (e0:Env0 P w K mg base A outer s H) (hl:vs.length=ps.length) (r:Vals vs us)
    (x:InCallC s s.heap.objs.size (bindL (envOfC qual scope s.heap.objs.size f cd).kindOf (ps.zip us) fun _=>none) (cellsFrom (s.heap.objs.size+1) scope.names []) (bindC (envOfC qual scope s.heap.objs.size f cd).kindOf (ps.zip us) fun _=>none) s1) :
    Inv (js CX P w K mg base N qual scope f cd A outer s H E) [] (start N vs) H s1:=by
 have hpl:ps.length<=N.length:=by have:=congrArg List.length S.pre;rw[aJ] at this;omega
 obtain⟨h1,tk,rfl,hk⟩:=x.done
 have noA:∀b:Addr,b∉(js CX P w K mg base N qual scope f cd A outer s H E).ex:=fun b z=>absurd (show b∈([]:List Addr) from z) (by simp)
 refine⟨⟨e0.mod,S.kind,rfl,rfl,ac _,fun y z c h1 h2=>?_,fun y hy=>?_,fun y c _ h=>?_,fun _=>hd,Around.frames_deeper e0.frames,.inr ⟨rfl,rfl⟩,fun b z=>absurd z (noA b),e0.bs,e0.bsz,fun b _ _=>noA b,fun b z=>absurd z (noA b),e0.funs,e0.frf⟩,
  rfl,e0.bare,Un.kept hk,⟨_,x.toInCall.ns,fun i y v h1 h2 h3=>?_⟩,fun y c h=>⟨_,x.cell y c h⟩,e0.hok.fresh (ac _),fun y c h=>?_,fun p hp=>absurd (show p∈([]:List (Addr × Obj)) from hp) (by simp),e0.hok.kept hk,?_⟩
 ·exact name_of_addr x.apart (PySem.mem_of_lookup h1) (PySem.mem_of_lookup h2)
 ·have hy:scope.names.lookup y=some .cell∨scope.names.lookup y=some .free:=hy
  rcases hy with hy | hy
  ·exact jy hy
  ·exact absurd rfl (S.nofree _ (PySem.mem_of_lookup hy))
 ·exact bd (x.above y c (PySem.mem_of_lookup h))
 ·have hi:i<vs.length := by
     unfold start at h2
     by_cases hi:i<vs.length
     ·exact hi
     ·rw[bx (by simpa using hi)] at h2
      rw[List.getElem?_replicate] at h2
      split at h2 <;> cases h2
  have ha:vs[i]? = some v:=by
   unfold start at h2
   rw[bD (by simpa using hi),ag] at h2
   cases e:vs[i]? with
   | none=>rw[e] at h2;cases h2
   | some a=>rw[e] at h2;cases h2;rfl
  obtain⟨u,hu,rv⟩:=r.get ha
  have hp:ps[i]? = some y:=by
   rw[<- S.pre,List.getElem?_take_of_lt (by omega)];exact h1
  have ndP:ps.Nodup:=by rw[<- S.pre];exact S.nd.sublist (List.take_sublist _ _)
  refine⟨u,rv,?_⟩
  rcases S.par y (av hp) with k | k
  ·exact .inl ⟨k,kU ndP hp hu k⟩
  ·obtain⟨c,e⟩:=jy (n:=s.heap.objs.size+1) k
   refine .inr ⟨.inl k,c,e,?_⟩
   have q:=x.cell y c e
   rw[lu ndP hp hu (by show scope.names.lookup y≠_;rw[k];decide)] at q
   exact q
 ·exact e0.hok.fresh (bd (x.above y c (PySem.mem_of_lookup h)))
 ·unfold start
  show _=N.length
  rw[aU,ab,bj]
  omega
theorem rO {CX:CXT}{P:Program}{w:World}{K:W.Frag}{mg:Str -> Option Value}{base:Heap}{k:Nat}{f:Addr}{name qual:Str}{params:Arguments}{body:List Stmt}{scope:Scope}{dV kV doc pm cdv ct oc:Value}{an od:Option Addr}
    {osl:Array (Option Value)} {N ps:List Str} {sp:Sp} (lk:K.lookup f=some ⟨oc,od,.func (W.fnOf name qual params body scope dV kV doc pm an cdv ct),osl⟩) (hcd:W.codeIn K cdv qual=true) (S:FnScope N ps scope)
    (len:∀vs H Q E,sp vs H Q E->vs.length=ps.length)
    (hbody:∀(A:Around) (outer:List Env) (s:Shared) (H:Hp) (vs:List V) (Q:VK) (E:XK),Room k (A.deeper (envOfC qual scope s.heap.objs.size f cdv))->sp vs H Q E ->
     ∃t,PSs (js CX P w K mg base N qual scope f cdv A outer s H E) body t/\t { nx:=fun _ H'=>Q .non H',rt:=Q } (start N vs) H) :
    FnOk P w K mg base CX (k+1) f (W.fnOf name qual params body scope dV kV doc pm an cdv ct) ps sp:=by
 refine⟨len,fun A outer s H args us vs Q E hr e0 hb r hsp=>?_⟩
 have hl:=len _ _ _ _ hsp
 have KX:K.In s.heap:=e0.mod.kin.keeps fun b o e=>(e0.bs b o e).1
 have lim:s.heap.NoLimit:=e0.mod.nolimit.keeps fun b o e=>(e0.bs b o e).1
 have hkind:∀y∈ps.zip us,scope.names.lookup y.1=some .local∨(scope.names.lookup y.1=some .cell/\((cellsFrom (s.heap.objs.size+1) scope.names []).lookup y.1).isSome=true):=fun ⟨n,v⟩ hy=>by
  rcases S.par n (List.of_mem_zip hy).1 with q | q
  ·exact .inl q
  ·exact .inr ⟨q,W.cellsFrom_some _ _ _ (.inl q)⟩
 refine codeAny_call_function hr.depth (KX _ _ lk) rfl S.co S.gen rfl (W.codeRec_of KX hcd) (hb _ _ _ _ ?_)
 refine wpAny_newFunctionEnv_cells S.kind hkind fun env he s1 x=>?_
 subst he
 refine⟨lim.keeps x.toInCall.keep,codeAny_func ?_⟩
 obtain⟨t,ht,hq⟩:=hbody A outer s H vs Q E (hr.deeper _) hsp
 have I:Inv (js CX P w K mg base N qual scope f cdv A outer s H E) [] (start N vs) H s1:=oB S hr.hd e0 hl r x
 refine aS (ht [] s1 (start N vs) H _ I hq) (fun fl s' hs=>?_) fun e s' hs=>hs
 have fin:∀ {σ':St} {H':Hp} {v:V} {u:Value},Inv (js CX P w K mg base N qual scope f cdv A outer s H E) [] σ' H' s'->RelV v u->Q v H'->CE outer P w H s Q u s' :=
  fun {σ' H' v u} J rv q=>⟨v,H',J.os,J.bare,J.base,J.hok,rv,q⟩
 cases fl with
 | ret u =>
  obtain⟨v,σ',H',J,rv,q⟩:=hs
  exact fin J rv q
 | next =>
  obtain⟨σ',H',J,q⟩:=hs
  exact fin (v:=V.non) (u:=Value.none) J rfl q
 | brk =>
  obtain⟨_,_,_,q⟩:=hs
  exact False.elim q
 | cont =>
  obtain⟨_,_,_,q⟩:=hs
  exact False.elim q
section
variable {X:Cx}{x:Str}{p pos:Pos}{e:Expr}{es:List Expr}{t:TA}{id T:String}{r:List V->Hp->VK->Prop}
def tCB (r:List V->Hp->VK->Prop) (t:TA):TE:=fun σ H Q=>t σ H fun vs H1=>r vs H1 Q
theorem dM (hc:ed X (.builtin id) r) (hg:Gl X x) (hm:X.mg x=none) (hv:bootBuiltins x=some (.builtin id)) (ha:PA X (e::es) t) (hn:x≠"__name__":=by decide) (hdb:(x==("__debug__":Str))=false:=by decide)
    (he:starEach (e::es) X.env=(false,eval e X.env)::starEach es X.env:=by rfl) (hpl:(backTo pos (starEach es X.env)).any (·.1)=false:=by rfl):PE X (.Call (.Name x p) (e::es) [] pos) (tCB r t):=by
 intro pins s σ H Q I h
 refine bI (eI I hg hm hv ?_ hn hdb)
 exact PyProof.Rows.callWith_builtin1 (thn (ha pos pins s σ H _ I h) fun us s1 ⟨vs,H1,I1,r1,q1⟩=>hc pins s1 σ H1 vs us Q I1 r1 q1) he hpl
theorem iQ (hc:ed X (.type T) r) (hg:Gl X x) (hm:X.mg x=none) (hv:bootBuiltins x=some (.type T)) (ha:PA X (e::es) t) (hn:x≠"__name__":=by decide) (hdb:(x==("__debug__":Str))=false:=by decide)
    (he:starEach (e::es) X.env=(false,eval e X.env)::starEach es X.env:=by rfl) (hpl:(backTo pos (starEach es X.env)).any (·.1)=false:=by rfl):PE X (.Call (.Name x p) (e::es) [] pos) (tCB r t):=by
 intro pins s σ H Q I h
 refine bI (eI I hg hm hv ?_ hn hdb)
 exact PyProof.Rows.callWith_type1 (thn (ha pos pins s σ H _ I h) fun us s1 ⟨vs,H1,I1,r1,q1⟩=>hc pins s1 σ H1 vs us Q I1 r1 q1) he hpl
end
end L2
namespace HT
open PySem PyProof.Rows
section
open PySem.SeqAt
open PySem.AutoSeq1 (wpAny_loadPart')
open PySem.MeetsSeq PySem.MeetsSeq2 PySem.MeetsSeq3
end
section
variable {prog:Program}{w:World}{A:Around}{E:Value->Shared->Prop}{s:Shared}
def sIx (n d:Nat):Option Int->Nat
 | none=>d
 | some v=>if v<0 then (v+(n:Int)).toNat else min v.toNat n
theorem sIx_none (n d:Nat):sIx n d none=d:=rfl
theorem sIx_nat (n d k:Nat):sIx n d (some (k:Int))=min k n:=by
 show (if (k:Int)<0 then ((k:Int)+(n:Int)).toNat else min (k:Int).toNat n)=min k n
 rw[if_neg (by omega),bz]
end
end HT
namespace L2
open PySem PySem.Spec PyProof.Rows
abbrev TO:=St->Hp->(Option Int->Hp->Prop)->Prop
def PO (X:Cx) (e:Option Expr) (t:TO):Prop :=
 ∀(pins:List (Addr × Obj)) (s:Shared) (σ:St) (H:Hp) (Q:Option Int->Hp->Prop),Inv X pins σ H s->t σ H Q ->
  wpAny (model X.prog X.w) X.A (evalPart e X.env) (fun u s'=>∃o H',Inv X pins σ H' s'/\IsPart u o/\Q o H') X.xe s
def sH:TO:=fun _ H Q=>Q none H
def vP (t:TE):TO:=fun σ H Q=>t σ H fun x H1=>∃i,x=.int i/\Q (some i) H1
theorem jI {ns:List Int}:∀ {us:List Value}, Vals (ns.map V.int) us -> IntsAre us ns := by
 induction ns with
 | nil=>intro us r;rw[List.map_nil] at r;cases r;exact .nil
 | cons n ns ih =>
  intro us r
  rw[aV] at r
  cases r with
  | cons r1 r2 =>
   obtain⟨t,e⟩:=r1
   subst e
   exact .cons n t (ih r2)
section
variable {X:Cx}{e:Expr}{te:TE}{lo hi:Option Expr}{tl th:TO}{pos p2:Pos}
theorem i6:PO X none sH:=by
 intro pins s σ H Q I h
 rw[evalPart_none]
 exact ad ⟨none,H,I,.none,h⟩
theorem iV (h:PE X e te):PO X (some e) (vP te):=by
 intro pins s σ H Q I hw
 rw[evalPart_some]
 refine thn (h pins s σ H _ I hw) fun u s1 ⟨x,H1,I1,r1,q1⟩=>?_
 obtain⟨i,rfl,q⟩:=q1
 obtain⟨t,rfl⟩:=r1
 exact⟨some i,H1,I1,.int i t,q⟩
def SlR (X:Cx) (r:V->Option Int->Option Int->Hp->VK->Prop):Prop :=
 ∀(pins:List (Addr × Obj)) (s:Shared) (σ:St) (H:Hp) (x:V) (v vl vu:Value) (lo hi:Option Int) (sl:Addr) (Q:VK),Inv X pins σ H s->RelV x v->s.heap.IsSliceOf sl vl vu .none->IsPart vl lo->IsPart vu hi->r x lo hi H Q ->
  ∃T id,typeLookup (.type T) "__getitem__"=pure (some (.builtin id))/\s.TypeIs v T/\wpAny (model X.prog X.w) X.A (getItem v (.ref sl)) (EP X pins σ Q) X.xe s
def tSl (r:V->Option Int->Option Int->Hp->VK->Prop) (te:TE) (tl th:TO):TE:=fun σ H Q=>te σ H fun x H1=>tl σ H1 fun l H2=>th σ H2 fun u H3=>r x l u H3 Q
theorem ip {r:V->Option Int->Option Int->Hp->VK->Prop}(hr:SlR X r) (he:PE X e te) (hl:PO X lo tl) (hu:PO X hi th):PE X (.Subscript e (.Slice lo hi none p2) pos) (tSl r te tl th):=by
 intro pins s σ H Q I h
 refine Subscript_ (thn (he pins s σ H _ I h) fun v s1 ⟨x,H1,I1,r1,q1⟩=>?_)
 refine wpAny_Slice (thn (hl pins s1 σ H1 _ I1 q1) fun vl s2 ⟨l,H2,I2,pl,q2⟩=>thn (hu pins s2 σ H2 _ I2 q2) fun vu s3 ⟨u,H3,I3,pu,q3⟩=>?_)
 rw[evalPart_none]
 refine ad ?_
 have I4:Inv X pins σ H3 { s3 with heap:=s3.heap.push { cls:=.type "slice",data:=.fields #[vl,vu,.none] } }:=I3.kept (t':=s3.toks) fun b ob q=>ah _ q
 obtain⟨T,id,hT,ht,hg⟩:=hr pins { s3 with heap:=s3.heap.push { cls:=.type "slice",data:=.fields #[vl,vu,.none] } } σ H3 x v vl vu l u s3.heap.objs.size Q I4 r1 (Heap.IsSliceOf.new ..) pl pu q3
 show wpAny (model X.prog X.w) X.A (subscriptTail e (.Slice lo hi none p2) v (.ref s3.heap.objs.size)) (EP X pins σ Q) X.xe { s3 with heap:=s3.heap.push { cls:=.type "slice",data:=.fields #[vl,vu,.none] } }
 exact tail_any (ops:=[.ref s3.heap.objs.size,v]) ht hT hg (by with_unfolding_all rfl)
def gy (xs:List V) (lo hi:Option Int):List V:=(xs.drop (HT.sIx xs.length 0 lo)).take (HT.sIx xs.length xs.length hi-HT.sIx xs.length 0 lo)
theorem mH (xs:List V) (lo hi:Option Int):(gy xs lo hi).length<=xs.length:=by
 unfold gy
 rw[aJ,bS]
 omega
end
def ixN (n:Nat) (i:Int):Option Nat:=if 0<=i then (if i<n then some i.toNat else none) else if -(n:Int)<=i then some (i+n).toNat else none
def atI {α:Type}(xs:List α) (i:Int):Option α:=(ixN xs.length i).bind fun j=>xs[j]?
theorem mU {n:Nat}{i:Int}{j:Nat}(h:ixN n i=some j):seqIndex? i n=some j /\ j<n /\ -(n:Int) <= i /\ i<n := by
 unfold ixN at h
 by_cases h0:0<=i
 ·rw[if_pos h0] at h
  by_cases h1:i<n
  ·rw[if_pos h1] at h
   have e:i.toNat=j:=ae h
   exact⟨by rw[seqIndex_of h0 h1,e],by omega,by omega,h1⟩
  ·rw[if_neg h1] at h;cases h
 ·rw[if_neg h0] at h
  by_cases h1:-(n:Int)<=i
  ·rw[if_pos h1] at h
   have e:(i+n).toNat=j:=ae h
   exact⟨by rw[seqIndex_neg (by omega) h1,e],by omega,h1,by omega⟩
  ·rw[if_neg h1] at h;cases h
theorem j9 {α:Type}{xs:List α}{i:Int}{v:α}(h:atI xs i=some v):∃j,seqIndex? i xs.length=some j/\xs[j]? = some v/\j<xs.length/\-(xs.length:Int)<=i/\i<xs.length:=by
 unfold atI at h
 cases e:ixN xs.length i with
 | none=>rw[e] at h;cases h
 | some j =>
  rw[e] at h
  obtain⟨h1,h2,h3,h4⟩:=mU e
  exact⟨j,h1,h,h2,h3,h4⟩
theorem eR {α:Type}{xs:List α}{j:Nat}{v:α}(h:xs[j]? = some v):atI xs (j:Int)=some v:=by
 have hj:j<xs.length:=(ak.mp h).1
 have e:ixN xs.length (j:Int)=some j:=by
  unfold ixN
  rw[if_pos (by omega),if_pos (by omega)];simp
 unfold atI;rw[e];exact h
theorem jz {α:Type}(xs:List α) (v:α):atI (xs++[v]) (-1)=some v:=by
 have hl:(xs++[v]).length=xs.length+1:=by simp
 have e:ixN (xs++[v]).length (-1)=some xs.length:=by
  unfold ixN
  rw[hl,if_neg (by decide),if_pos (by omega)]
  congr 1
  omega
 unfold atI
 rw[e]
 show (xs++[v])[xs.length]? = some v
 simp
def sO (b:Expr):Prop:=∀o i,subscripted b false o i=operate [o,i] (getItem o i)
def IxR (X:Cx) (r:R2):Prop :=
 ∀(value slice:Expr) (pins:List (Addr × Obj)) (s:Shared) (σ:St) (H:Hp) (x y:V) (v u:Value) (Q:VK),Inv X pins σ H s->RelV x v->RelV y u->r x y H Q ->
  subscripted slice false v u=operate [v,u] (getItem v u)->wpAny (model X.prog X.w) X.A (subscriptTail value slice v u) (EP X pins σ Q) X.xe s
def MtR (X:Cx) (id:String) (r:V->List V->Hp->VK->Prop):Prop :=
 ∀(pins:List (Addr × Obj)) (s:Shared) (σ:St) (H:Hp) (x:V) (xs:List V) (v:Value) (us:List Value) (Q:VK),Inv X pins σ H s->RelV x v->Vals xs us->r x xs H Q ->
  wpAny (model X.prog X.w) X.A (call (.builtin id) (v::us)) (EP X pins σ Q) X.xe s
section
variable {X:Cx}{a b:Expr}{ta tb:TE}{pos:Pos}
theorem cu {r:R2}(hr:IxR X r) (ha:PE X a ta) (hb:PE X b tb) (hs:sO b):PE X (.Subscript a b pos) (tOp r ta tb):=by
 intro pins s σ H Q I h
 exact Subscript_ (re ha hb I h fun v u s2 x y H2 I2 rx ry q=>hr a b pins s2 σ H2 x y v u Q I2 rx ry q (hs _ _))
def rIxL (K:W.Frag):R2:=fun x y H Q=>∃p xs i v,x=.ref p/\y=.int i/\SqL K H p xs/\atI xs i=some v/\Q v H
def rIxT (K:W.Frag):R2:=fun x y H Q=>∃p xs i v,x=.ref p/\y=.int i/\SqT K H p xs/\atI xs i=some v/\Q v H
def rIxS:R2:=fun x y H Q=>∃z i c,x=.str z/\y=.int i/\z.length<=sizeLine/\atI z.cps.toList i=some c/\Q (.str ⟨#[c]⟩) H
theorem ub:IxR X (rIxL X.K) := by
 intro value slice pins s σ H x y v u Q I rx ry h hs
 obtain⟨p,xs,i,z,rfl,rfl,hq,he,q⟩:=h
 cases rx
 obtain⟨t,rfl⟩:=ry
 obtain⟨its,r,pl,hz⟩:=I.list hq
 obtain⟨j,h1,h2,h3,h4,h5⟩:=j9 he
 obtain⟨w,ew,rw'⟩:=r.get h2
 have hl:=r.length
 have hn:=gY
 have fin:EP X pins σ Q w s:=⟨z,H,I,rw',q⟩
 by_cases h0:0<=i
 ·have hj:i.toNat=j:=by
     rw[seqIndex_of h0 h5] at h1
     exact ae h1
  exact item_listR pl.isList h0 (by omega) (by rw[hj];simpa using ew) fin hs
 ·have hj:(i+(its.toArray.size:Int)).toNat=j:=by
     rw[seqIndex_neg (by omega) h4] at h1
     rw[aD,<- hl]
     exact ae h1
  exact subscriptTail_builtinR (x:=w) pl.isList.typeIs slot_list_getitem.lookup
   (wpAny_getItem_list_neg (Q:=fun r s'=>r=w/\EP X pins σ Q r s') pl.isList (by omega) (by rw[aD] <;> omega) (by omega) (by rw[hj];simpa using ew) ⟨rfl,fin⟩) hs
theorem ui:IxR X (rIxT X.K):=by
 intro value slice pins s σ H x y v u Q I rx ry h hs
 obtain⟨p,xs,i,z,rfl,rfl,hq,he,q⟩:=h
 cases rx
 obtain⟨t,rfl⟩:=ry
 obtain⟨its,r,pl,hz⟩:=I.tuple hq
 obtain⟨j,h1,h2,h3,h4,h5⟩:=j9 he
 obtain⟨w,ew,rw'⟩:=r.get h2
 have hl:=r.length
 have hn:=gY
 have fin:EP X pins σ Q w s:=⟨z,H,I,rw',q⟩
 exact subscriptTail_builtinR (x:=w) pl.typeIs slot_tuple_getitem.lookup
  (getItem_tuple (j:=j) (Q:=fun r s'=>r=w/\EP X pins σ Q r s') pl (by omega) (by omega) (by rw[aD,<- hl];exact h1) (by simpa using ew) ⟨rfl,fin⟩) hs
theorem u3:IxR X rIxS:=by
 intro value slice pins s σ H x y v u Q I rx ry h hs
 obtain⟨z,i,c,rfl,rfl,hz,he,q⟩:=h
 obtain⟨t,rfl⟩:=rx
 obtain⟨t',rfl⟩:=ry
 obtain⟨j,h1,h2,h3,h4,h5⟩:=j9 he
 have hl:z.cps.toList.length=z.length:=by simp[Str.length]
 rw[hl] at h1 h4 h5
 have hn:=gY
 exact tail_any (typeIs_str s z t) slot_str_getitem.lookup (getItem_str (c:=c) (by
  have e1:decide (i < -(2 ^ 63:Int))=false:=aA (by omega)
  have e2:decide (i ≥ 2 ^ 63)=false:=aA (by omega)
  rw[e1,e2,Bool.or_false]) (by rw[h1];simpa using h2) ⟨.str ⟨#[c]⟩,H,I.tok _,⟨_,rfl⟩,q⟩) hs
theorem nN (its:List Value) (n j:Nat) (u:Value):Obj.mapSeq (·.setIfInBounds j u) { cls:=.type "list",data:=.seq its.toArray n }={ cls:=.type "list",data:=.seq (its.set j u).toArray n }:=by
 simp[Obj.mapSeq]
theorem Inv.lst {pins:List (Addr × Obj)}{σ:St}{H:Hp}{s:Shared}{p:Addr}{xs:List V}(I:Inv X pins σ H s) (h:H p=some (.lst xs)) :
    ∃(its:List Value) (n:Nat),Vals xs its/\s.heap.get? p=some { cls:=.type "list",data:=.seq its.toArray n }/\xs.length<=sizeLine:=by
 obtain⟨z,its,n,r,e⟩:=I.hok p _ h
 exact⟨its,n,r,e,z⟩
theorem Inv.lstUpd {pins:List (Addr × Obj)}{σ:St}{H:Hp}{s:Shared}{p:Addr}{xs ys:List V}{its its':List Value}{n n':Nat}{f:Obj->Obj}(I:Inv X pins σ H s) (h:H p=some (.lst xs))
    (ho:s.heap.get? p=some { cls:=.type "list",data:=.seq its.toArray n }) (hf:f { cls:=.type "list",data:=.seq its.toArray n }={ cls:=.type "list",data:=.seq its'.toArray n' }) (r:Vals ys its') (hz:ys.length<=sizeLine) (t:Nat) :
    Inv X pins σ (upd H p (.lst ys)) { s with heap:=s.heap.update p f,toks:=t }:=by
 have e:(s.heap.update p f).get? p=some { cls:=.type "list",data:=.seq its'.toArray n' }:=by
  rw[Heap.get?_update_self f ho (by rw[hf] <;> rfl),hf]
 refine I.write (x:=p) (e:=p) (by rw[h];trivial) (.inl rfl) (fun b u hb q=>(Heap.get?_update_other _ _ (Ne.symm hb)).trans q) ⟨_,e⟩ ?_
 exact⟨hz,its',n',r,e⟩
def vz:V->V->V->Hp->(Hp->Prop)->Prop:=fun o i v H Q=>∃p xs k j,o=.ref p/\i=.int k/\H p=some (.lst xs)/\ixN xs.length k=some j/\Q (upd H p (.lst (xs.set j v)))
theorem rl:qS X vz := by
 intro pins s σ H o i v ov iv u Q I ro ri rv h
 obtain⟨p,xs,k,j,rfl,rfl,hp,hj,q⟩:=h
 cases ro
 obtain⟨t,rfl⟩:=ri
 obtain⟨its,n,r,ho,hz⟩:=I.lst hp
 obtain⟨h1,h2,h3,h4⟩:=mU hj
 have hl:=r.length
 have hn:=gY
 have I':Inv X pins σ (upd H p (.lst (xs.set j v))) { s with heap:=s.heap.update p (Obj.mapSeq (·.setIfInBounds j u)) } :=
  I.lstUpd hp ho (nN its n j u) (r.set rv j) (by rw[List.length_set];exact hz) s.toks
 by_cases h0:0<=k
 ·have hk:k.toNat=j:=by
     rw[seqIndex_of h0 h4] at h1
     exact ae h1
  exact W.ki_setAt ho h0 (by omega) (by rw[aD,<- hl];exact h4) (by rw[hk];exact⟨_,I',q⟩)
 ·have hk:(k+(its.toArray.size:Int)).toNat=j:=by
     rw[seqIndex_neg (by omega) h3] at h1
     rw[aD,<- hl]
     exact ae h1
  exact W.ki_setBack ho (by omega) (by rw[aD,<- hl];exact h3) (by omega) (by rw[hk];exact⟨_,I',q⟩)
theorem mB (lo hi:Option Int) (n:Nat):(sliceBounds lo hi none n).1=((HT.sIx n 0 lo:Nat):Int) /\ (sliceBounds lo hi none n).2.1=((HT.sIx n n hi:Nat):Int) /\ (sliceBounds lo hi none n).2.2=1 := by
 refine⟨?_,?_,rfl⟩
 ·cases lo with
  | none=>simp[sliceBounds,HT.sIx]
  | some i =>
   simp only[sliceBounds,HT.sIx,Option.getD_none,show (1:Int) > 0 by decide,if_true]
   by_cases h:i<0
   ·simp only[h,if_true] <;> omega
   ·simp only[h,if_false] <;> omega
 ·cases hi with
  | none=>simp[sliceBounds,HT.sIx]
  | some i =>
   simp only[sliceBounds,HT.sIx,Option.getD_none,show (1:Int) > 0 by decide,if_true]
   by_cases h:i<0
   ·simp only[h,if_true] <;> omega
   ·simp only[h,if_false] <;> omega
theorem lx (its:List Value) (lo hi:Option Int):slicePick its.toArray lo hi none=((its.drop (HT.sIx its.length 0 lo)).take (HT.sIx its.length its.length hi-HT.sIx its.length 0 lo)).toArray:=by
 obtain⟨h1,h2,h3⟩:=mB lo hi its.toArray.size
 unfold slicePick
 rw[h1,h2,h3]
 simp only[sliceRange_one,pick_run,aD] <;> rfl
def rSlL (K:W.Frag):V->Option Int->Option Int->Hp->VK->Prop:=fun x lo hi H Q=>∃a xs,x=.ref a/\SqL K H a xs/\∀p,H p=none->Q (.ref p) (upd H p (.lst (gy xs lo hi)))
theorem sj:SlR X (rSlL X.K):=by
 intro pins s σ H x v vl vu lo hi sl Q I rx hs pl pu h
 obtain⟨a,xs,rfl,hx,q⟩:=h
 cases rx
 obtain⟨its,r,ht,hz⟩:=I.list hx
 have hlen:=r.length
 refine⟨"list",_,slot_list_getitem.lookup,ht.isList.typeIs,?_⟩
 refine wpAny_getItem_list_slice ht.isList hs pl pu .none (by simp) ?_ (by rw[aD] <;> omega)
 rw[lx,<- hlen]
 refine⟨.ref s.heap.objs.size,_,I.laid (t':=s.toks) (o:=.lst (gy xs lo hi)) (fun b ob q=>ah _ q) (ac _) ?_,rfl,q _ (I.hok.fresh (ac _))⟩
 exact⟨aO (mH xs lo hi) hz,_,0,(r.drop (HT.sIx xs.length 0 lo)).take (HT.sIx xs.length xs.length hi-HT.sIx xs.length 0 lo),ao _ rfl⟩
def eS:V->Bool
 | .non=>true
 | .bl _=>true
 | .int _=>true
 | .str _=>true
 | _=>false
def eqV:V->V->Bool
 | .non,.non=>true
 | .bl a,.bl b=>a==b
 | .bl a,.int b=>(if a then 1 else 0)==b
 | .int a,.bl b=>a==(if b then 1 else 0)
 | .int a,.int b=>a==b
 | .str a,.str b=>a==b
 | _,_=>false
theorem uu {A:Around}{s:Shared}{y x:V}{u v:Value}(ry:RelV y u) (rx:RelV x v) (fy:eS y=true) (fx:eS x=true):SeqAt.EqAt A s u v (eqV y x):=by
 cases y with
 | non =>
  cases ry
  cases x with
  | non=>cases rx;exact SeqAt.EqAt.same _
  | bl b=>cases rx;exact SeqAt.EqAt.none_bool b
  | int b=>obtain⟨t,rfl⟩:=rx;exact SeqAt.EqAt.none_int b t
  | str b=>obtain⟨t,rfl⟩:=rx;exact SeqAt.EqAt.none_str b t
  | _=>exact absurd (show false=true from fx) aB
 | bl a =>
  cases ry
  cases x with
  | non=>cases rx;exact SeqAt.EqAt.bool_none a
  | bl b=>cases rx;exact SeqAt.EqAt.bool_bool a b
  | int b=>obtain⟨t,rfl⟩:=rx;exact SeqAt.EqAt.bool_int a b t
  | str b=>obtain⟨t,rfl⟩:=rx;exact SeqAt.EqAt.bool_str a b t
  | _=>exact absurd (show false=true from fx) aB
 | int a =>
  obtain⟨t',rfl⟩:=ry
  cases x with
  | non=>cases rx;exact SeqAt.EqAt.int_none a t'
  | bl b=>cases rx;exact SeqAt.EqAt.int_bool a t' b
  | int b=>obtain⟨t,rfl⟩:=rx;exact SeqAt.EqAt.int_int a t' b t
  | str b=>obtain⟨t,rfl⟩:=rx;exact SeqAt.EqAt.int_str a t' b t
  | _=>exact absurd (show false=true from fx) aB
 | str a =>
  obtain⟨t',rfl⟩:=ry
  cases x with
  | non=>cases rx;exact SeqAt.EqAt.str_none a t'
  | bl b=>cases rx;exact SeqAt.EqAt.str_bool a t' b
  | int b=>obtain⟨t,rfl⟩:=rx;exact SeqAt.EqAt.str_int a t' b t
  | str b=>obtain⟨t,rfl⟩:=rx;exact SeqAt.EqAt.str_str a t' b t
  | _=>exact absurd (show false=true from fx) aB
 | _=>exact absurd (show false=true from fy) aB
def eqU (x:V) (u:Value):Bool:=match u with
 | .none=>eqV .non x
 | .bool b=>eqV (.bl b) x
 | .int i _=>eqV (.int i) x
 | .str z _=>eqV (.str z) x
 | _=>false
theorem lG {x y:V}{u:Value}(r:RelV y u) (f:eS y=true):eqU x u=eqV y x:=by
 cases y with
 | non=>cases r;rfl
 | bl b=>cases r;rfl
 | int i=>obtain⟨t,rfl⟩:=r;rfl
 | str z=>obtain⟨t,rfl⟩:=r;rfl
 | _=>exact absurd (show false=true from f) aB
theorem h8 {x:V}:∀ {xs:List V}{us:List Value},Vals xs us->xs.all eS=true->us.any (eqU x)=xs.any fun y=>eqV y x
 | _,_,.nil,_=>rfl
 | y::xs,u::us,.cons r t,f=>by
  rw[List.all_cons,bg] at f
  rw[bE,bE,lG r f.1,h8 t f.2]
theorem fG {A:Around}{s:Shared}{x:V}{v:Value}(rx:RelV x v) (fx:eS x=true):∀ {xs:List V}{us:List Value},Vals xs us->xs.all eS=true->∀u∈us,SeqAt.EqAt A s u v (eqU x u)
 | _,_,.nil,_=>fun u hu=>by cases hu
 | y::xs,u::us,.cons r t,f=>fun u' hu=>by
  rw[List.all_cons,bg] at f
  rcases aR.mp hu with rfl | hu
  ·rw[lG r f.1];exact uu r rx f.1 fx
  ·exact fG rx fx t f.2 u' hu
def inV (x:V) (xs:List V):Bool:=xs.any fun y=>eqV y x
def rIn (K:W.Frag) (neg:Bool):R2:=fun x y H Q=>∃p xs,y=.ref p/\(SqL K H p xs∨SqT K H p xs)/\eS x=true/\xs.all eS=true/\Q (.bl (if neg then !inV x xs else inV x xs)) H
theorem pT:OpR X (compareOp .In) (rIn X.K false):=by
 intro pins s σ H x y v u Q I rx ry h
 obtain⟨p,xs,rfl,hq,fx,fs,q⟩:=h
 cases ry
 rcases hq with hq | hq
 ·obtain⟨its,r,pl,hz⟩:=I.list hq
  refine SeqAt.in_listAt (eqU x) pl.isList (fun w hw=>fG rx fx r fs w (by simpa using hw)) ⟨.bl _,H,I,rfl,?_⟩
  rw[show its.toArray.any (eqU x)=its.any (eqU x) by simp,h8 r fs]
  exact q
 ·obtain⟨its,r,pl,hz⟩:=I.tuple hq
  refine SeqAt.in_tupleAt (eqU x) pl (fun w hw=>fG rx fx r fs w (by simpa using hw)) ⟨.bl _,H,I,rfl,?_⟩
  rw[show its.toArray.any (eqU x)=its.any (eqU x) by simp,h8 r fs]
  exact q
theorem lO:OpR X (compareOp .NotIn) (rIn X.K true):=by
 intro pins s σ H x y v u Q I rx ry h
 obtain⟨p,xs,rfl,hq,fx,fs,q⟩:=h
 cases ry
 rcases hq with hq | hq
 ·obtain⟨its,r,pl,hz⟩:=I.list hq
  refine SeqAt.notIn_listAt (eqU x) pl.isList (fun w hw=>fG rx fx r fs w (by simpa using hw)) ⟨.bl _,H,I,rfl,?_⟩
  rw[show its.toArray.any (eqU x)=its.any (eqU x) by simp,h8 r fs]
  exact q
 ·obtain⟨its,r,pl,hz⟩:=I.tuple hq
  refine SeqAt.notIn_tupleAt (eqU x) pl (fun w hw=>fG rx fx r fs w (by simpa using hw)) ⟨.bl _,H,I,rfl,?_⟩
  rw[show its.toArray.any (eqU x)=its.any (eqU x) by simp,h8 r fs]
  exact q
theorem mC:ed X (.type "list") (fun xs H Q => ∃p ys, xs=[.ref p] /\ (SqL X.K H p ys ∨ SqT X.K H p ys) /\ ∀l, H l=none -> Q (.ref l) (upd H l (.lst ys))) := by
 intro pins s σ H xs us Q I r h
 obtain⟨p,ys,rfl,hq,q⟩:=h
 obtain⟨u,rfl,rx⟩:=dR r
 cases rx
 have fin:∀(its:List Value),Vals ys its->ys.length<=sizeLine->∀(h':Heap) (c':Nat),(∀b o',s.heap.get? b=some o'->h'.get? b=some o') ->
     h'.get? s.heap.objs.size=some { cls:=.type "list",dict:=none,data:=.seq its.toArray c',slots:=#[] }->EP X pins σ Q (.ref s.heap.objs.size) { s with heap:=h' }:=fun its r' hz h' c' kp e =>
  ⟨.ref s.heap.objs.size,_,I.laid (t':=s.toks) kp (ac _) (show ObjOk X.prog X.w _ h' _ (.lst ys) from⟨hz,its,c',r',e⟩),rfl,q _ (I.hok.fresh (ac _))⟩
 rcases hq with hq | hq
 ·obtain⟨its,r',pl,hz⟩:=I.list hq
  have hlen:=r'.length
  obtain⟨o,ho,hc,n,hd⟩:=pl.isList
  exact call_list_seq p (.inl rfl) ho hc hd (fun h' c' kp e=>fin its r' hz h' c' kp e) (by simp only[aD] <;> omega)
 ·obtain⟨its,r',pl,hz⟩:=I.tuple hq
  have hlen:=r'.length
  obtain⟨o,ho,hc,n,hd⟩:=pl
  exact call_list_seq p (.inr rfl) ho hc hd (fun h' c' kp e=>fin its r' hz h' c' kp e) (by simp only[aD] <;> omega)
theorem lA:ed X (.type "tuple") (fun xs H Q => ∃p ys, xs=[.ref p] /\ ((SqL X.K H p ys /\ ∀l, H l=none -> Q (.ref l) (upd H l (.tup ys))) ∨ (SqT X.K H p ys /\ Q (.ref p) H))) := by
 intro pins s σ H xs us Q I r h
 obtain⟨p,ys,rfl,h⟩:=h
 obtain⟨u,rfl,rx⟩:=dR r
 cases rx
 rcases h with⟨hq,q⟩ | ⟨hq,q⟩
 ·obtain⟨its,r',pl,hz⟩:=I.list hq
  have hlen:=r'.length
  refine call_tuple_list pl.isList (fun h' kp=>?_) (by simp only[aD] <;> omega)
  have I1:Inv X pins σ H { s with heap:=h' }:=I.kept (t':=s.toks) kp
  have I2:Inv X pins σ (upd H h'.objs.size (.tup ys)) { s with heap:=h'.push { cls:=.type "tuple",data:=.seq its.toArray } } :=
   I1.laid (t':=s.toks) (fun b o e=>ah _ e) (ac _) (show ObjOk X.prog X.w _ _ _ (.tup ys) from⟨hz,its,r',TupN.new _ _⟩)
  exact⟨.ref h'.objs.size,_,I2,rfl,q _ (I1.hok.fresh (ac _))⟩
 ·obtain⟨its,r',pl,hz⟩:=I.tuple hq
  exact call_tuple_same pl ⟨.ref p,H,I,rfl,q⟩
def tyV (K:W.Frag) (T:String) (x:V) (H:Hp):Prop := match x with
 | .str _=>T="str"
 | .int _=>T="int"
 | .ref p=>(T="list"/\∃xs,SqL K H p xs)∨(T="tuple"/\∃o,K.lookup p=some o/\o.cls=.type "tuple"/\o.dict=none) ∨
     (T="dict"/\((∃kvs,H p=some (.dK kvs))∨∃kvs,H p=some (.dT kvs)))∨(T="set"/\∃S n,H p=some (.set S n))
 | _=>False
theorem oQ {pins:List (Addr × Obj)}{σ:St}{H:Hp}{s:Shared}{T:String}{x:V}{v:Value}(I:Inv X pins σ H s) (r:RelV x v) (ty:tyV X.K T x H) :
    s.TypeIs v T/\∀a,v=.ref a->∃ob,s.heap.get? a=some ob/\ob.dict=none:=by
 cases x with
 | str z =>
  obtain⟨t,rfl⟩:=r
  cases (show T="str" from ty)
  exact⟨typeIs_str s z t,fun _ e=>nomatch e⟩
 | int i =>
  obtain⟨t,rfl⟩:=r
  cases (show T="int" from ty)
  exact⟨typeIs_int s i t,fun _ e=>nomatch e⟩
 | ref p =>
  cases r
  rcases ty with⟨rfl,xs,hq⟩ | ⟨rfl,o,hk,hc,hd⟩ | ⟨rfl,hk⟩ | ⟨rfl,S,n,hk⟩
  ·obtain⟨its,_,pl,_⟩:=I.list hq
   refine⟨pl.isList.typeIs,fun a e=>?_⟩
   cases e
   obtain⟨o,n,e,c,hd,_⟩:=pl
   exact⟨o,e,hd⟩
  ·refine⟨⟨o,I.kIn p o hk,hc⟩,fun a e=>?_⟩
   cases e
   exact⟨o,I.kIn _ o hk,hd⟩
  ·have z:∃o, s.heap.get? p=some o /\ o.ExactDict := by
      rcases hk with⟨kvs,hk⟩ | ⟨kvs,hk⟩
      ·obtain⟨_,_,_,_,o,_,_,e,ex,_⟩:=I.hok p _ hk
       exact⟨o,e,ex⟩
      ·obtain⟨_,_,_,_,o,_,_,e,ex,_⟩:=I.hok p _ hk
       exact⟨o,e,ex⟩
   obtain⟨o,e,ex⟩:=z
   refine⟨⟨o,e,ex.1⟩,fun a e2=>?_⟩
   cases e2
   exact⟨o,e,ex.2.1⟩
  ·obtain⟨o,_,_,_,e,ex,_⟩:=I.hok p _ hk
   refine⟨⟨o,e,ex.1⟩,fun a e2=>?_⟩
   cases e2
   exact⟨o,e,ex.2.1⟩
 | _=>exact False.elim ty
def qE (K:W.Frag) (T:String) (r:V->List V->Hp->VK->Prop) (to:TE):TE:=fun σ H Q=>to σ H fun x H1=>tyV K T x H1/\r x [] H1 Q
def tBM (K:W.Frag) (T:String) (r:V->List V->Hp->VK->Prop) (to:TE) (t:TA):TE:=fun σ H Q=>to σ H fun x H1=>tyV K T x H1/\t σ H1 fun xs H2=>r x xs H2 Q
variable {o e:Expr}{es:List Expr}{to:TE}{t:TA}{name:Str}{apos cpos:Pos}{T id:String}{r:V->List V->Hp->VK->Prop}
theorem pz (pa:PlainAttrs T) (slot:Slot T name id) (hty:typeOf (.builtin id)=pure (.type "method_descriptor")) (hm:MtR X id r) (ho:PE X o to)
    (hbase:attributeBase o name X.env (eval o X.env)=eval o X.env:=by rfl) (hline:(apos.endLine==cpos.line)=true:=by rfl):PE X (.Call (.Attribute o name apos) [] [] cpos) (qE X.K T r to):=by
 intro pins s σ H Q I h
 refine wpAny_Call_method0_late hbase hline (thn (ho pins s σ H _ I h) fun v s1 ⟨x,H1,I1,r1,ty,q1⟩=>?_)
 obtain⟨h1,h2⟩:=oQ I1 r1 ty
 exact⟨T,id,pa,slot,hty,h1,h2,Calls.callWith_builtin rfl (PySem.evalArgs_none (hm pins s1 σ H1 x [] v [] Q I1 r1 .nil q1))⟩
theorem lD (pa:PlainAttrs T) (slot:Slot T name id) (hty:typeOf (.builtin id)=pure (.type "method_descriptor")) (hm:MtR X id r) (ho:PE X o to) (ha:PA X (e :: es) t)
    (hbase:attributeBase o name X.env (eval o X.env)=eval o X.env:=by rfl)
    (hfew:((backTo cpos (starEach (e::es) X.env)).all (fun x=>!x.1)&&(backToKw cpos (keywordEach [] X.env)).all (fun x=>x.1.isSome)
     && decide ((e::es).length+([]:List Keyword).length+(if ([]:List Keyword).isEmpty then 0 else 1)<30))=true:=by rfl)
    (hline:(apos.endLine==cpos.line)=true:=by rfl) (hs:starEach (e::es) X.env=(false,eval e X.env)::starEach es X.env:=by rfl) (hplain:(backTo cpos (starEach es X.env)).any (·.1)=false:=by rfl) :
    PE X (.Call (.Attribute o name apos) (e::es) [] cpos) (tBM X.K T r to t):=by
 intro pins s σ H Q I h
 refine wpAny_Call_method_late hbase hfew hline rfl (thn (ho pins s σ H _ I h) fun v s1 ⟨x,H1,I1,r1,ty,q1⟩=>?_)
 obtain⟨h1,h2⟩:=oQ I1 r1 ty
 refine⟨T,id,pa,slot,hty,h1,h2,?_⟩
 have hA:=ha cpos pins s1 σ H1 _ I1 q1
 rw[hs] at hA ⊢
 refine Calls.callWith_builtin (by show (false||(backTo cpos (starEach es X.env)).any (·.1))=false;rw[hplain] <;> rfl) (Calls.evalArgs_plain ?_)
 exact thn hA fun us s2 ⟨vs,H2,I2,r2,q2⟩=>hm pins s2 σ H2 x vs v us Q I2 r1 r2 q2
end
def MtM (X:Cx) (id:String) (r:V->List V->Hp->VK->Prop):Prop :=
 ∀(pins:List (Addr × Obj)) (s:Shared) (σ:St) (H:Hp) (x:V) (xs:List V) (v:Value) (us:List Value) (Q:VK),Inv X pins σ H s->RelV x v->Vals xs us->r x xs H Q ->
  wpAny (model X.prog X.w) X.A (call (.builtin id) (v::us)) (EP X pins σ Q) X.xe s
theorem Vals.one:∀ {x:V}{us:List Value},Vals [x] us->∃u,us=[u]/\RelV x u
 | _,_,.cons r .nil=>⟨_,rfl,r⟩
theorem Vals.zero:∀ {us:List Value},Vals [] us->us=[]
 | _,.nil=>rfl
theorem Vals.reverse {xs:List V}{us:List Value}(h:Vals xs us):Vals xs.reverse us.reverse:=by
 induction h with
 | nil=>exact .nil
 | cons r t ih=>rw[List.reverse_cons,List.reverse_cons];exact Vals.append ih (.cons r .nil)
theorem Vals.rep {xs:List V}{us:List Value}(h:Vals xs us):∀k:Nat,Vals (List.replicate k xs).flatten (List.replicate k us).flatten
 | 0=>.nil
 | k+1=>by
  rw[bF,bF,bT,bT]
  exact Vals.append h (Vals.rep h k)
theorem kP (its:List Value):∀(k:Nat) (acc:List Value),
    List.foldl (fun x1 x2=>x1++x2) acc.toArray (List.replicate k its.toArray)=(acc++(List.replicate k its).flatten).toArray
 | 0,acc=>by simp
 | k+1,acc=>by
  have e:acc.toArray++its.toArray=(acc++its).toArray:=by simp
  have e2:(acc++its)++(List.replicate k its).flatten=acc++(List.replicate (k+1) its).flatten:=by
   rw[bF,bT,List.append_assoc]
  rw[<- e2,<- kP its k (acc++its),<- e,bF,List.foldl_cons]
section
variable {X:Cx}{pins:List (Addr × Obj)}{σ:St}{H:Hp}{s:Shared}{l b:Addr}{xs ys zs:List V}
theorem Inv.lset {its its':List Value}{n:Nat}{f:Array Value->Array Value}{t':Nat}(I:Inv X pins σ H s) (hH:H l=some (.lst xs))
    (e:s.heap.get? l=some { cls:=.type "list",data:=.seq its.toArray n }) (hf:f its.toArray=its'.toArray) (hv:Vals ys its') (hz:ys.length<=sizeLine) :
    Inv X pins σ (upd H l (.lst ys)) { s with heap:=s.heap.update l (Obj.mapSeq f),toks:=t' }:=by
 have q:=PySem.IsL.update e f
 rw[hf] at q
 refine I.write (x:=l) (e:=l) (by rw[hH];exact trivial) (.inl rfl) (fun b' u hb hu=>(Heap.get?_update_other s.heap (Obj.mapSeq f) (Ne.symm hb)).trans hu) ⟨_,q⟩ ?_
 exact⟨hz,its',_,hv,q⟩
theorem Inv.lnew {its:List Value}{t':Nat}(I:Inv X pins σ H s) (hv:Vals ys its) (hz:ys.length<=sizeLine) :
    Inv X pins σ (upd H s.heap.objs.size (.lst ys)) { s with heap:=s.heap.push { cls:=.type "list",data:=.seq its.toArray },toks:=t' } :=
 I.laid (fun _ _ q=>ah _ q) (ac _) ⟨hz,its,0,hv,ao _ rfl⟩
theorem Inv.fresh (I:Inv X pins σ H s):H s.heap.objs.size=none:=I.hok.fresh (ac _)
theorem Inv.lstM (I:Inv X pins σ H s) (hH:H l=some (.lst xs)):xs.length<=sizeLine/\∃(its:List Value) (n:Nat),Vals xs its/\xs.length=its.length/\s.heap.get? l=some { cls:=.type "list",data:=.seq its.toArray n }:=by
 obtain⟨z,its,n,r,e⟩:=I.hok l _ hH
 exact⟨z,its,n,r,r.length,e⟩
theorem qz {n:Nat}(h:n<=sizeLine):Builtin.List.listTooLong n=false:=by
 unfold Builtin.List.listTooLong
 exact aA (by omega)
end
section
variable {X:Cx}
def mS:V->List V->Hp->VK->Prop:=fun x vs H Q=>∃l xs y,x=.ref l/\vs=[y]/\H l=some (.lst xs)/\xs.length<sizeLine/\Q .non (upd H l (.lst (xs++[y])))
theorem kN:MtM X "list.append" mS:=by
 intro pins s σ H x vs v us Q I rx rv h
 obtain⟨l,xs,y,rfl,rfl,hH,hz,q⟩:=h
 cases rx
 obtain⟨u,rfl,ru⟩:=rv.one
 obtain⟨z,its,n,r,hl,e⟩:=I.lstM hH
 refine call_meets F.slot_list_append ⟨_,e,rfl⟩ F.entry_list_append (F.args_list_append_2 _ _) (PySem.list_append l its.toArray n u (by rw[aD];omega)) ⟨e,?_⟩
 refine⟨.non,_,I.lset (its':=its++[u]) hH e (by simp) (r.append (.cons ru .nil)) ?_,rfl,q⟩
 rw[aU,List.length_singleton]
 omega
def ji:V->List V->Hp->VK->Prop:=fun x vs H Q=>∃l xs,x=.ref l/\vs=[]/\H l=some (.lst xs)/\Q .non (upd H l (.lst xs.reverse))
theorem np:MtM X "list.reverse" ji:=by
 intro pins s σ H x vs v us Q I rx rv h
 obtain⟨l,xs,rfl,rfl,hH,q⟩:=h
 cases rx
 have hus:=rv.zero
 subst hus
 obtain⟨z,its,n,r,hl,e⟩:=I.lstM hH
 refine call_meets F.slot_list_reverse ⟨_,e,rfl⟩ F.entry_list_reverse (F.args_list_reverse_1 _) (AutoSeq1.list_reverse_list_0 l its.toArray n (by rw[aD];omega)) ⟨e,?_⟩
 refine⟨.non,_,I.lset (its':=its.reverse) hH e (by simp) r.reverse ?_,rfl,q⟩
 rw[List.length_reverse]
 omega
def oD:V->List V->Hp->VK->Prop:=fun x vs H Q=>∃l xs,x=.ref l/\vs=[]/\H l=some (.lst xs)/\Q .non (upd H l (.lst []))
theorem pX:MtM X "list.clear" oD:=by
 intro pins s σ H x vs v us Q I rx rv h
 obtain⟨l,xs,rfl,rfl,hH,q⟩:=h
 cases rx
 have hus:=rv.zero
 subst hus
 obtain⟨z,its,n,r,hl,e⟩:=I.lstM hH
 refine call_meets F.slot_list_clear ⟨_,e,rfl⟩ F.entry_list_clear (F.args_list_clear_1 _) (AutoSeq1.list_clear_list_0 l its.toArray n (by rw[aD];omega)) ⟨e,?_⟩
 exact⟨.non,_,I.lset (its':=[]) (ys:=[]) hH e rfl .nil (aL _),rfl,q⟩
def rCat:R2:=fun x y H Q=>∃l b xs zs,x=.ref l/\y=.ref b/\H l=some (.lst xs)/\H b=some (.lst zs)/\xs.length+zs.length<=sizeLine/\∀p,H p=none->Q (.ref p) (upd H p (.lst (xs++zs)))
theorem va:OpR X (binaryOp .Add) rCat:=by
 intro pins s σ H x y v u Q I rx ry h
 obtain⟨l,b,xs,zs,rfl,rfl,hH,hB,hz,q⟩:=h
 cases rx
 cases ry
 obtain⟨z,its,n,r,hl,e⟩:=I.lstM hH
 obtain⟨z2,its2,n2,r2,hl2,e2⟩:=I.lstM hB
 refine PySem.P.add_list e e2 ?_ (by rw[aD,aD];omega)
 have ea:its.toArray++its2.toArray=(its++its2).toArray:=by simp
 rw[ea]
 exact⟨.ref _,_,I.lnew (t':=s.toks) (r.append r2) (by rw[aU];omega),rfl,q _ I.fresh⟩
def rRep:R2:=fun x y H Q=>∃l k xs,x=.ref l/\y=.int k/\H l=some (.lst xs)/\-(2 ^ 63)<=k/\k<2 ^ 63/\xs.length * k.toNat<=sizeLine /\
 ∀p,H p=none->Q (.ref p) (upd H p (.lst (List.replicate k.toNat xs).flatten))
theorem tz {α:Type}(xs:List α) (k:Nat):(List.replicate k xs).flatten.length=k * xs.length:=by
 induction k with
 | zero=>simp
 | succ k ih=>rw[bF,bT,aU,ih,Nat.succ_mul,Nat.add_comm]
theorem u9:OpR X (binaryOp .Mult) rRep := by
 intro pins s σ H x y v u Q I rx ry h
 obtain⟨l,k,xs,rfl,rfl,hH,h1,h2,hz,q⟩:=h
 cases rx
 obtain⟨t,rfl⟩:=ry
 obtain⟨z,its,n,r,hl,e⟩:=I.lstM hH
 have hlen:its.toArray.size * k.toNat<=sizeLine:=by rw[aD,<- hl];exact hz
 have hcap:¬ its.toArray.size * k.toNat > (2 ^ 63-1) / 8:=by
  have:(sizeLine:Nat)<=(2 ^ 63-1) / 8:=by decide
  omega
 have hfit:¬ (!Builtin.List.listFitsIndex k)=true:=by
  rw[fitsIndex_both h1 h2]
  exact aB
 have hlong:¬ Builtin.List.listTooLong (its.toArray.size * k.toNat)=true:=by
  rw[qz hlen]
  exact aB
 have hnew:List.foldl (fun x1 x2=>x1++x2) #[] (List.replicate (if its.toArray.isEmpty=true then 0 else k.toNat) its.toArray)=(List.replicate k.toNat its).flatten.toArray:=by
  have f0:∀m:Nat,List.foldl (fun x1 x2=>x1++x2) #[] (List.replicate m its.toArray)=(List.replicate m its).flatten.toArray:=fun m=>by
   have:=kP its m []
   rw[List.nil_append] at this
   exact this
  rw[f0]
  cases its with
  | nil=>simp
  | cons a r'=>rw[if_neg (by simp)]
 refine wpAny_binaryOp_repeat_ref (T:="list") (U:="int") (by decide) ⟨_,e,rfl⟩ (fun s'=>typeIs_int s' k t) noFill_list_mul F.fills_int_mul F.slot_int_rmul repeat_list F.slot_int_index.lookup
  (call_meets F.slot_int_rmul (typeIs_int s k t) F.entry_int_rmul (F.args_int_rmul_2 _ _) (int___rmul___int_list k t l its.toArray n)
   ⟨e,rfl,⟨_,e,rfl⟩,call_meets F.slot_list_mul ⟨_,e,rfl⟩ F.entry_list_mul (F.args_list_mul_2 _ _) (AutoListH.list___mul___list_int_3 l its.toArray n k t hfit hcap hlong) ⟨e,?_⟩⟩)
 rw[hnew]
 exact⟨.ref _,_,I.lnew (t':=s.toks) (r.rep k.toNat) (by rw[tz,Nat.mul_comm];exact hz),rfl,q _ I.fresh⟩
end
section
variable {κ:Type} [DecidableEq κ]
def cI (kvs:List (κ × V)) (k:κ):Option V:=(kvs.find? fun kv=>decide (kv.1=k)).map (·.2)
def cR (kvs:List (κ × V)) (k:κ) (v:V):List (κ × V) :=
 if (kvs.any fun kv=>decide (kv.1=k))=true then kvs.map (fun kv=>if kv.1=k then (kv.1,v) else kv) else kvs++[(k,v)]
theorem jx {k:κ}:cI ([]:List (κ × V)) k=none:=rfl
theorem dF {p:κ × V}{r:List (κ × V)}{k:κ}(e:p.1=k):cI (p::r) k=some p.2:=by simp[cI,bK,e]
theorem dE {p:κ × V}{r:List (κ × V)}{k:κ}(e:¬ p.1=k):cI (p::r) k=cI r k:=by simp[cI,bK,e]
theorem eK (k:κ):∀kvs:List (κ × V),(kvs.any fun kv=>decide (kv.1=k))=(cI kvs k).isSome
 | []=>rfl
 | p::r=>by
  rw[bE]
  by_cases e:p.1=k
  ·simp only[dF e,ai e,Bool.true_or,Option.isSome_some]
  ·rw[dE e,aA e,Bool.false_or];exact eK k r
theorem mr (k j:κ) (y:V):∀kvs:List (κ × V), cI (kvs.map fun kv => if kv.1=k then (kv.1, y) else kv) j=(cI kvs j).map fun x => if j=k then y else x
 | []=>rfl
 | p::r=>by
  have ih:=mr k j y r
  rw[aV]
  by_cases h:p.1=k
  ·rw[if_pos h]
   by_cases e:p.1=j
   ·rw[dF (p:=(p.1,y)) e,dF e,bL,if_pos (e.symm.trans h)]
   ·rw[dE (p:=(p.1,y)) e,dE e,ih]
  ·rw[if_neg h]
   by_cases e:p.1=j
   ·rw[dF (p:=p) e,dF e,bL,if_neg (fun z=>h (e.trans z))]
   ·rw[dE (p:=p) e,dE e,ih]
theorem kO (k j:κ) (y:V):∀kvs:List (κ × V),cI kvs k=none->cI (kvs++[(k,y)]) j=if j=k then some y else cI kvs j
 | [],_=>by
  by_cases e:k=j
  ·rw[if_pos e.symm];exact dF (p:=(k,y)) e
  ·rw[if_neg (fun z=>e z.symm)];exact dE (p:=(k,y)) e
 | p::r,hn=>by
  rw[List.cons_append]
  have hk:¬ p.1=k:=fun z=>by rw[dF z] at hn;cases hn
  rw[dE hk] at hn
  have ih:=kO k j y r hn
  by_cases e:p.1=j
  ·rw[dF e,dF e,if_neg (fun z=>hk (e.trans z))]
  ·rw[dE e,dE e,ih]
theorem d8 (kvs:List (κ × V)) (k j:κ) (y:V):cI (cR kvs k y) j=if j=k then some y else cI kvs j := by
 unfold cR
 by_cases a:(kvs.any fun kv=>decide (kv.1=k))=true
 ·rw[if_pos a,mr]
  rw[eK] at a
  by_cases e:j=k
  ·obtain⟨x,hx⟩:=bJ.mp a
   rw[if_pos e,e,hx,bL,if_pos rfl]
  ·rw[if_neg e]
   cases cI kvs j with
   | none=>rfl
   | some x=>rw[bL,if_neg e]
 ·rw[if_neg a]
  refine kO k j y kvs ?_
  rw[eK] at a
  cases q:cI kvs k with
  | none=>rfl
  | some x=>rw[q] at a;exact(a rfl).elim
theorem dG (kvs:List (κ × V)) (k:κ) (v:V):(cR kvs k v).length<=kvs.length+1:=by
 unfold cR
 split
 ·rw[ab];omega
 ·rw[aU,bA,List.length_nil];omega
theorem jp {kvs:List (κ × V)}{k:κ}(v:V) (h:cI kvs k=none):cR kvs k v=kvs++[(k,v)]:=by
 unfold cR
 rw[eK,h]
 exact if_neg (by decide)
theorem RelO.isSome_eq {o:Option V}{u:Option Value}(r:RelO o u):o.isSome=u.isSome:=by
 cases o with
 | none=>cases u with
  | none=>rfl
  | some _=>exact(show False from r).elim
 | some _=>cases u with
  | none=>exact(show False from r).elim
  | some _=>rfl
theorem KV.val {kvs:List (κ × V)}{vs:List (κ × Value)}(r:KV kvs vs) (k:κ):RelO (cI kvs k) (valueAt vs k) := by
 unfold KV at r
 induction r with
 | nil=>exact True.intro
 | @cons p q ps qs h t ih =>
  obtain⟨h1,h2⟩:=h
  by_cases e:p.1=k
  ·have e':q.1=k:=h1.symm.trans e
   have b:valueAt (q::qs) k=some q.2:=by simp[valueAt,bK,e']
   rw[dF e,b];exact h2
  ·have e':¬ q.1=k:=fun z=>e (h1.trans z)
   have b:valueAt (q::qs) k=valueAt qs k:=by simp[valueAt,bK,e']
   rw[dE e,b];exact ih
theorem KV.any {kvs:List (κ × V)}{vs:List (κ × Value)}(r:KV kvs vs) (k:κ):(kvs.any fun kv=>decide (kv.1=k))=vs.any fun kv=>decide (kv.1=k):=by
 unfold KV at r
 induction r with
 | nil=>rfl
 | cons h t ih=>rw[bE,bE,ih,h.1]
theorem KV.repl {kvs:List (κ × V)}{vs:List (κ × Value)}(r:KV kvs vs) (k:κ) {y:V}{u:Value}(ry:RelV y u) :
    KV (kvs.map fun kv=>if kv.1=k then (kv.1,y) else kv) (vs.map fun kv=>if kv.1=k then (kv.1,u) else kv):=by
 unfold KV at r ⊢
 induction r with
 | nil=>exact .nil
 | @cons p q ps qs h t ih =>
  rw[aV,aV]
  refine .cons ?_ ih
  obtain⟨h1,h2⟩:=h
  by_cases e:p.1=k
  ·rw[if_pos e,if_pos (h1.symm.trans e)];exact⟨h1,ry⟩
  ·rw[if_neg e,if_neg (fun z=>e (h1.trans z))];exact⟨h1,h2⟩
theorem KV.put {kvs:List (κ × V)}{vs:List (κ × Value)}(r:KV kvs vs) (k:κ) {y:V}{u:Value}(ry:RelV y u):KV (cR kvs k y) (stored vs k u):=by
 unfold cR stored
 rw[r.any k]
 by_cases e:(vs.any fun kv=>decide (kv.1=k))=true
 ·rw[if_pos e,if_pos e];exact r.repl k ry
 ·rw[if_neg e,if_neg e];exact Paired.snoc r ⟨rfl,ry⟩
theorem KV.length {kvs:List (κ × V)}{vs:List (κ × Value)}(r:KV kvs vs):kvs.length=vs.length:=Paired.length r
end
theorem i9 {P:Program}{w:World}{k:Key}{u:Value}(r:RelV (kV k) u):(cW P w).is k u=true:=by
 cases k with
 | inl i=>obtain⟨t,e⟩:=(show ∃t,u=Value.int i t from r);subst e;exact mK P w i t
 | inr x=>obtain⟨t,e⟩:=(show ∃t,u=Value.str x t from r);subst e;exact mP P w x t
theorem lh {P:Program}{w:World}:∀ {ks:List Key}{us:List Value},Vals (ks.map kV) us->ItemsAre (cW P w) ks us
 | [],_,r=>by rw[List.map_nil] at r;cases r;exact .nil
 | k::ks,_,r=>by
  rw[aV] at r
  cases r with
  | cons h t=>exact .cons (i9 h) (lh t)
abbrev KT (H:Hp):List (List Key × V)->List (List Key × Addr × Value)->Prop:=Paired fun p q=>p.1=q.1/\H q.2.1=some (.tup (p.1.map kV))/\RelV p.2 q.2.2
theorem KT.val {H:Hp}{kvs:List (List Key × V)}{xs:List (List Key × Addr × Value)}(r:KT H kvs xs) (k:List Key):RelO (cI kvs k) ((atKey xs k).map (·.2)) := by
 induction r with
 | nil=>exact True.intro
 | @cons p q ps qs h t ih =>
  obtain⟨h1,_,h2⟩:=h
  by_cases e:p.1=k
  ·have e':q.1=k:=h1.symm.trans e
   have b:atKey (q::qs) k=some q.2:=by simp[atKey,bK,e']
   rw[dF e,b];exact h2
  ·have e':¬ q.1=k:=fun z=>e (h1.trans z)
   have b:atKey (q::qs) k=atKey qs k:=by simp[atKey,bK,e']
   rw[dE e,b];exact ih
theorem KT.repl {H:Hp}{kvs:List (List Key × V)}{xs:List (List Key × Addr × Value)}(r:KT H kvs xs) (k:List Key) {y:V}{u:Value}(ry:RelV y u) :
    KT H (kvs.map fun kv=>if kv.1=k then (kv.1,y) else kv) (xs.map (putAt k u)):=by
 induction r with
 | nil=>exact .nil
 | @cons p q ps qs h t ih =>
  rw[aV,aV]
  refine .cons ?_ ih
  obtain⟨h1,h2,h3⟩:=h
  unfold putAt
  by_cases e:p.1=k
  ·rw[if_pos e,if_pos (h1.symm.trans e)];exact⟨h1,h2,ry⟩
  ·rw[if_neg e,if_neg (fun z=>e (h1.trans z))];exact⟨h1,h2,h3⟩
theorem KT.put {H:Hp}{kvs:List (List Key × V)}{xs:List (List Key × Addr × Value)}(r:KT H kvs xs) (k:List Key) {b:Addr}{y:V}{u:Value}(hb:H b=some (.tup (k.map kV))) (ry:RelV y u) :
    KT H (cR kvs k y) (storedH xs k b u):=by
 have e:(kvs.any fun kv=>decide (kv.1=k))=(atKey xs k).isSome:=by
  rw[eK,(r.val k).isSome_eq,Option.isSome_map]
 unfold cR storedH
 rw[e]
 by_cases q:(atKey xs k).isSome=true
 ·rw[if_pos q,if_pos q];exact r.repl k ry
 ·rw[if_neg q,if_neg q];exact Paired.snoc r ⟨rfl,hb,ry⟩
theorem KT.keeps {H H':Hp}{kvs:List (List Key × V)}{xs:List (List Key × Addr × Value)}(r:KT H kvs xs) (ht:∀b ys,H b=some (.tup ys)->H' b=some (.tup ys)):KT H' kvs xs :=
 Paired.mapP r fun _ _ z=>⟨z.1,ht _ _ z.2.1,z.2.2⟩
section
variable {P:Program}{w:World}{H:Hp}{h:Heap}{a:Addr}
theorem rB {u:HO}(ok:HOk P w H h) (e:Rd H a u):ObjOk P w H h a u:=e.ok ok
theorem i0 {kvs:List (Key × V)}(ok:HOk P w H h) (e:Rd H a (.dK kvs)):kvs.length<=sizeLine/\(a==sysModules)=false/\∃vs,KV kvs vs/\h.DictOf (cW P w) a vs :=
 show ObjOk P w H h a (.dK kvs) from rB ok e
theorem rS {kvs:List (Key × V)}(ok:HOk P w H h) (e:H a=some (.dK kvs)):kvs.length<=sizeLine/\(a==sysModules)=false/\∃vs,KV kvs vs/\h.DictOf (cW P w) a vs:=i0 ok (.inl e)
theorem hG {ks:List Key}(ok:HOk P w H h) (e:H a=some (.tup (ks.map kV))):(tupleKind (cW P w)).is h ks a:=by
 obtain⟨_,its,r,o,h1,h2,n,h3,_⟩:=(show ObjOk P w H h a (.tup (ks.map kV)) from ok a _ e)
 exact⟨o,its.toArray,n,h1,h2,h3,by simpa using lh r⟩
theorem j6 {kvs:List (List Key × V)}(ok:HOk P w H h) (e:Rd H a (.dT kvs)):kvs.length <= sizeLine /\ (a==sysModules)=false /\
    ∃xs,KT H kvs xs/\h.DictOfH (tupleKind (cW P w)) a xs:=by
 obtain⟨z,y,xs,r,o,es,ep,h1,h2,h3,h4,h5⟩:=(show ObjOk P w H h a (.dT kvs) from rB ok e)
 refine⟨z,y,xs,r,o,es,ep,h1,h2,h3,h4,fun x hx=>?_,h5⟩
 have all:∀ {l:List (List Key × V)} {m:List (List Key × Addr × Value)}, KT H l m -> ∀x ∈ m, (tupleKind (cW P w)).is h x.1 x.2.1 := by
  intro l m q
  induction q with
  | nil=>intro x hx;exact nomatch hx
  | @cons p q ps qs hq t ih =>
   intro x hx
   rcases aR.mp hx with e | hx
   ·subst e
    exact hG ok (by rw[<- hq.1];exact hq.2.1)
   ·exact ih x hx
 exact all r x hx
theorem rC {kvs:List (List Key × V)}(ok:HOk P w H h) (e:H a=some (.dT kvs)):kvs.length<=sizeLine/\(a==sysModules)=false /\
    ∃xs,KT H kvs xs/\h.DictOfH (tupleKind (cW P w)) a xs:=j6 ok (.inl e)
end
def DGet (H:Hp) (a:Addr) (y:V) (r:Option V):Prop :=
 (∃kvs k,Rd H a (.dK kvs)/\y=kV k/\r=cI kvs k)∨∃kvs k b,Rd H a (.dT kvs)/\y=.ref b/\H b=some (.tup (k.map kV))/\r=cI kvs k
def DPut (H:Hp) (a:Addr) (y v:V) (H':Hp):Prop :=
 (∃kvs k,H a=some (.dK kvs)/\y=kV k/\kvs.length<sizeLine/\H'=upd H a (.dK (cR kvs k v))) ∨
 ∃kvs k b,H a=some (.dT kvs)/\y=.ref b/\H b=some (.tup (k.map kV))/\kvs.length<sizeLine/\H'=upd H a (.dT (cR kvs k v))
theorem DGet.k {H:Hp}{a:Addr}{kvs:List (Key × V)}{k:Key}(e:H a=some (.dK kvs)):DGet H a (kV k) (cI kvs k):=.inl ⟨kvs,k,.inl e,rfl,rfl⟩
theorem DGet.t {H:Hp}{a b:Addr}{kvs:List (List Key × V)}{k:List Key}(e:H a=some (.dT kvs)) (eb:H b=some (.tup (k.map kV))):DGet H a (.ref b) (cI kvs k):=.inr ⟨kvs,k,b,.inl e,rfl,eb,rfl⟩
theorem DPut.k {H:Hp}{a:Addr}{kvs:List (Key × V)}{k:Key}{v:V}(e:H a=some (.dK kvs)) (hl:kvs.length<sizeLine):DPut H a (kV k) v (upd H a (.dK (cR kvs k v))):=.inl ⟨kvs,k,e,rfl,hl,rfl⟩
theorem DPut.t {H:Hp}{a b:Addr}{kvs:List (List Key × V)}{k:List Key}{v:V}(e:H a=some (.dT kvs)) (eb:H b=some (.tup (k.map kV))) (hl:kvs.length<sizeLine) :
    DPut H a (.ref b) v (upd H a (.dT (cR kvs k v))):=.inr ⟨kvs,k,b,e,rfl,eb,hl,rfl⟩
section
variable {X:Cx}{pins:List (Addr × Obj)}{σ:St}{H:Hp}{s:Shared}{a:Addr}{y v:V}{u r:Value}{o:Option V}{A:Around}{E:Value->Shared->Prop}
theorem Inv.big (I:Inv X pins σ H s):sysModules<s.heap.objs.size:=by
 have h:mainGlobals<s.heap.objs.size:=(I.mod.glob.keeps I.bk).lt
 exact Nat.lt_trans (by decide) h
theorem oh {Q:Value->Shared->Prop}(hu:A.units+1<cLine) (I:Inv X pins σ H s) (g:DGet H a y (some v)) (ry:RelV y u) (h:∀w' s',Inv X pins σ H s'->RelV v w'->Q w' s') :
    wpAny (model X.prog X.w) A (getItem (.ref a) u) Q E s:=by
 rcases g with⟨kvs,k,e,ey,l⟩ | ⟨kvs,k,b,e,ey,eb,l⟩
 ·subst ey
  obtain⟨z,hd,vs,rel,dd⟩:=i0 I.hok e
  obtain⟨w',hw,rw'⟩:=RelO.some_of (v:=v) (o:=valueAt vs k) (by rw[l];exact rel.val k)
  exact wpAny_getItem_of (i9 ry) dd.mapOf hw (h w' _ (I.tok _) rw')
 ·subst ey
  cases (show u=Value.ref b from ry)
  obtain⟨z,hd,xs,rel,dd⟩:=j6 I.hok e
  obtain⟨w',hw,rw'⟩:=RelO.some_of (v:=v) (o:=(atKey xs k).map (·.2)) (by rw[l];exact rel.val k)
  obtain⟨p,hp,hp2⟩:=Option.map_eq_some_iff.mp hw
  refine wpAny_getItem_heap (tupleKind_room_in1 hu) (hG I.hok eb) dd hp ?_
  rw[hp2]
  exact h w' _ (I.tok _) rw'
theorem d_in {Q:Value->Shared->Prop}(hu:A.units+1<cLine) (I:Inv X pins σ H s) (g:DGet H a y o) (ry:RelV y u) (h:∀s',Inv X pins σ H s'->Q (.bool o.isSome) s') :
    wpAny (model X.prog X.w) A (compareOp .In u (.ref a)) Q E s:=by
 rcases g with⟨kvs,k,e,ey,l⟩ | ⟨kvs,k,b,e,ey,eb,l⟩
 ·subst ey
  obtain⟨z,hd,vs,rel,dd⟩:=i0 I.hok e
  refine wpAny_in_of (i9 ry) hd dd.mapOf ?_
  rw[<- (rel.val k).isSome_eq,<- l]
  exact h _ (I.tok _)
 ·subst ey
  cases (show u=Value.ref b from ry)
  obtain⟨z,hd,xs,rel,dd⟩:=j6 I.hok e
  refine wpAny_in_heap (tupleKind_room_in1 hu) (hG I.hok eb) hd dd ?_
  have q:=(rel.val k).isSome_eq
  rw[Option.isSome_map] at q
  rw[<- q,<- l]
  exact h _ (I.tok _)
theorem ud {Q:Value->Shared->Prop}(hu:A.units+1<cLine) (I:Inv X pins σ H s) (g:DGet H a y o) (ry:RelV y u) (h:∀s',Inv X pins σ H s'->Q (.bool (!o.isSome)) s') :
    wpAny (model X.prog X.w) A (compareOp .NotIn u (.ref a)) Q E s:=by
 rcases g with⟨kvs,k,e,ey,l⟩ | ⟨kvs,k,b,e,ey,eb,l⟩
 ·subst ey
  obtain⟨z,hd,vs,rel,dd⟩:=i0 I.hok e
  refine wpAny_notIn_of (i9 ry) hd dd.mapOf ?_
  rw[<- (rel.val k).isSome_eq,<- l]
  exact h _ (I.tok _)
 ·subst ey
  cases (show u=Value.ref b from ry)
  obtain⟨z,hd,xs,rel,dd⟩:=j6 I.hok e
  refine wpAny_notIn_heap (tupleKind_room_in1 hu) (hG I.hok eb) hd dd ?_
  have q:=(rel.val k).isSome_eq
  rw[Option.isSome_map] at q
  rw[<- q,<- l]
  exact h _ (I.tok _)
theorem i5 {h':Heap}{t':Nat}{ob:HO}(I:Inv X pins σ H s) (mu:Mut (H a)) (hs:Heap.SameBut a s.heap h') (he:∃q,h'.get? a=some q) (new:ObjOk X.prog X.w (upd H a ob) h' a ob) :
    Inv X pins σ (upd H a ob) { s with heap:=h',toks:=t' } :=
 I.write (x:=a) (e:=a) mu (.inl rfl) (fun b q hb z=>(hs.2 b hb).trans z) he new
theorem oV {P:Program}{w:World}{H':Hp}{h':Heap}{kvs:List (Key × V)}{vs:List (Key × Value)}(z:kvs.length<=sizeLine) (hd:(a==sysModules)=false) (rel:KV kvs vs) (dd:h'.DictOf (cW P w) a vs) :
    ObjOk P w H' h' a (.dK kvs):=⟨z,hd,vs,rel,dd⟩
theorem pq {H':Hp}{Q:Unit->Shared->Prop}(hu:A.units+1<cLine) (I:Inv X pins σ H s) (g:DPut H a y v H') (ry:RelV y u) (rv:RelV v r) (h:∀s',Inv X pins σ H' s'->Q () s') :
    wpAny (model X.prog X.w) A (setItem (.ref a) u r) Q E s:=by
 rcases g with⟨kvs,k,e,ey,l,eH⟩ | ⟨kvs,k,b,e,ey,eb,l,eH⟩
 ·subst ey eH
  obtain⟨z,hd,vs,rel,dd⟩:=rS I.hok e
  have hz:vs.length<=sizeLine:=by rw[<- rel.length];exact z
  have hl:(cR kvs k v).length<=sizeLine:=by have:=dG kvs k v;omega
  refine wpAny_setItem_pairs (hsz:=hz) (i9 ry) dd fun h' dd' hs=>h _ ?_
  have he:∃q,h'.get? a=some q:=let ⟨q,_,_,hq,_⟩:=dd';⟨q,hq⟩
  exact i5 I (by rw[e];exact True.intro) hs he (oV hl hd (rel.put k rv) dd')
 ·subst ey eH
  cases (show u=Value.ref b from ry)
  obtain⟨z,hd,xs,rel,dd⟩:=rC I.hok e
  have hz:xs.length<=sizeLine:=by rw[<- Paired.length rel];exact z
  have hl:(cR kvs k v).length<=sizeLine:=by have:=dG kvs k v;omega
  refine wpAny_setItem_heap (hsz:=hz) (tupleKind_room_in1 hu) (hG I.hok eb) dd fun h' dd' hs=>h _ ?_
  obtain⟨q,es,ep,hq,h2,h3,h4,_,h5⟩:=dd'
  refine i5 I (by rw[e];exact True.intro) hs ⟨q,hq⟩ ⟨hl,hd,_,(rel.put k eb rv).keeps fun c ys ec=>?_,q,es,ep,hq,h2,h3,h4,h5⟩
  rw[cm (d4 ec e (fun z=>nomatch z))]
  exact ec
end
section
variable {X:Cx}{pins:List (Addr × Obj)}{σ:St}{H:Hp}{s:Shared}{a:Addr}{kvs:List (Key × V)}{k:Key}{u:Value}{A:Around}{E:Value->Shared->Prop}
theorem rT {Q:Value->Shared->Prop}(I:Inv X pins σ H s) (e:Rd H a (.dK kvs)) (h:∀t s',Inv X pins σ H s'->Q (.int kvs.length t) s'):wpAny (model X.prog X.w) A (call (.builtin "len") [.ref a]) Q E s:=by
 obtain⟨z,hd,vs,rel,dd⟩:=i0 I.hok e
 refine call_len_dict hd dd (by rw[<- rel.length];rw[sizeLine_eq] at z;omega) ?_
 rw[<- rel.length]
 exact h _ _ (I.tok _)
end
theorem mN {X:Cx}{pins:List (Addr × Obj)}{σ:St}{H:Hp}{s:Shared}{a:Addr}{y:V}{o:Option V}(I:Inv X pins σ H s) (g:DGet H a y o):s.TypeIs (.ref a) "dict":=by
 rcases g with⟨kvs,k,e,_,_⟩ | ⟨kvs,k,b,e,_,_,_⟩
 ·obtain⟨_,_,vs,_,dd⟩:=i0 I.hok e
  exact dd.typeIs
 ·obtain⟨_,_,xs,_,dd⟩:=j6 I.hok e
  exact dd.typeIs
theorem jo {P:Program}{w:World}{H:Hp}(h:Heap) (hb:sysModules<h.objs.size):ObjOk P w H (h.push { cls:=.type "dict",data:=.dict #[] }) h.objs.size (.dK []) :=
 ⟨aL _,beq_eq_false_iff_ne.mpr (Ne.symm (am hb)),[],.nil,Heap.DictOf.new h⟩
theorem qG {P:Program}{w:World}{H:Hp}(h:Heap) (hb:sysModules<h.objs.size):ObjOk P w H (h.push { cls:=.type "dict",data:=.dict #[] }) h.objs.size (.dT []) :=
 ⟨aL _,beq_eq_false_iff_ne.mpr (Ne.symm (am hb)),[],.nil,_,#[],0,ao _ rfl,⟨rfl,rfl,rfl⟩,rfl,rfl,bB⟩
def uX:TE:=fun _ H Q=>∀p,H p=none->Q (.ref p) (upd H p (.dK []))
def vg:TE:=fun _ H Q=>∀p,H p=none->Q (.ref p) (upd H p (.dT []))
section
variable {X:Cx}{pos:Pos}
theorem fc:PE X (.Dict [] [] pos) uX:=fun pins s σ H Q I h =>
 wpAny_Dict_empty ⟨.ref s.heap.objs.size,_,I.laid (a:=s.heap.objs.size) (o:=.dK []) (t':=s.toks) (fun _ _ q=>ah _ q) (ac _) (jo s.heap I.big),rfl,h _ (I.hok.fresh (ac _))⟩
theorem p1:PE X (.Dict [] [] pos) vg:=fun pins s σ H Q I h =>
 wpAny_Dict_empty ⟨.ref s.heap.objs.size,_,I.laid (a:=s.heap.objs.size) (o:=.dT []) (t':=s.toks) (fun _ _ q=>ah _ q) (ac _) (qG s.heap I.big),rfl,h _ (I.hok.fresh (ac _))⟩
end
def IsD (H:Hp) (a:Addr):Prop:=(∃kvs,Rd H a (.dK kvs))∨∃kvs,Rd H a (.dT kvs)
end L2
namespace Att
open PySem PySem.W PySem.Calls PyProof.Rows
theorem jR {P:Params}{h:Heap}:∀(ns:List Int) (vs:List Value), WellAll P h vs (ns.map WData.int) -> IntsAre vs ns := by
 intro ns
 induction ns with
 | nil =>
  intro vs w
  rw[List.map_nil] at w
  cases w
  exact .nil
 | cons n ns ih =>
  intro vs w
  rw[aV] at w
  cases w with
  | cons a b =>
   cases a
   exact .cons _ _ (ih _ b)
theorem pd {l:OpenLaw}{n:Nat}(hn:l.most=some n) {P:Params}{h:Heap}{args:List WData}{vals:List Value}
    (hpre:l.row.toRowW.claim.pre args=true) (hwl:WellAll P h vals args) :
    ∃a vs ns,vals=[Value.ref a]/\args=[WData.list (ns.map WData.int)]/\h.get? a=some { cls:=.type "list",data:=.seq vs.toArray }/\IntsAre vs ns/\ns.length<=n:=by
 have hsh:WShape.hasAll [] args [.list .int]=true:=(pre_splitW hpre).1
 have hc:l.pre.holds [] { args:=args }=true:=(pre_splitW hpre).2
 obtain⟨d,r,rfl,h1,h2⟩:=hasAllW_cons hsh
 obtain rfl:=hasAllW_nil h2
 obtain⟨xs,rfl,h3⟩:=hasW_list h1
 obtain⟨ns,rfl⟩:=items_int h3
 have hlen:ns.length<=n:=by
  unfold OpenLaw.pre at hc
  have h4:(WTm.not (.lt (.lit (.int (n:Int))) (.len (.arg 0)))).holds [] { args:=[.list (ns.map .int)] }=true:=by
   have h4:=(holds_andW hc).1
   rw[hn] at h4
   exact h4
  have h5:=condW_of h4 (w_not (w_lt w_lit (w_len_list (w_arg rfl))))
  rw[ab] at h5
  refine Nat.le_of_not_lt fun q=>?_
  have q':(n:Int)<((ns.length:Nat):Int):=by omega
  first
   | (rw[ai q'] at h5;exact absurd h5 (by decide))
   | (simp at h5;omega)
 cases hwl with
 | cons w1 w2 =>
  cases w2
  cases w1 with
  | list ho hall=>exact⟨_,_,ns,rfl,rfl,ho,jR ns _ hall,hlen⟩
theorem oY (l:OpenLaw) (args:List WData):l.row.toRowW.claim.post args (.bool true) args=true :=
 postW_of (r:=l.row.toRowW) (X:=(true==true))
  (show WShape.has [] (.bool true) .bool=true by first | rfl | decide | simp[WShape.has,WShape.arms,WShape.armsAll])
  (show (WTm.eq .res (.lit (.bool true))).value [] { args:=args,res:=some (.bool true),after:=args }=some (.bool (true==true)) from w_eq_bool (w_res rfl) w_lit) rfl
theorem attach_call {l:OpenLaw}{n:Nat}{q:Program}{loose:List Str}{XP:(Str -> Option Value) -> Heap -> Prop}{YP:World -> Heap -> Prop}{d:DefRec}
    (hn:l.most=some n) (hdf:d.params.defaults=[])
    (call:∀(w:World) (s₀ s₁:Shared) (mg mb:Str->Option Value) (fa:Addr) (o:Obj) (pm cd doc:Value) (a:Addr) (vs:List Value) (ns:List Int),
     Ground q loose [] XP w s₀ mg mb s₁.heap->YP w s₁.heap ->
     s₁.heap.get? fa=some o->o.data=.func (docDef d.name d.params d.body d.scope pm cd doc)->s₁.heap.CodeRec cd d.name->mg d.name=some (.ref fa) ->
     s₁.heap.get? a=some { cls:=.type "list",data:=.seq vs.toArray }->IntsAre vs ns->ns.length<=n->s₁.gens=#[] ->
     codeAny (model l.prog w) callerA (.call (.ref fa) ⟨[.ref a],[]⟩) (fun r s'=>r=.ok (.ret (.bool true))/\OldK s₁.heap s'.heap/\s'.os=s₁.os/\AllBare s'.gens) s₁) :
    WalkO q loose XP YP l.row.toRowW d [] (fun f vs=>PySem.call f vs):=by
 intro w s₀ s₁ mg mb G Y fa o pm cd doc dV kV ho hd hcd hD hmg hg args vals as hpre hlay hrd hwl hlo
 obtain rfl:dV=.none:=Dflts.none hD hdf
 obtain rfl:kV=.none:=Dflts.noKw hD
 obtain⟨a,vs,ns,rfl,rfl,hobj,hints,hlen⟩:=pd hn hpre hwl
 refine enter_call (codeAny_mono (call w s₀ s₁ mg mb fa o pm cd doc a vs ns G Y ho (fd_plain hd) hcd hmg hobj hints hlen hg) fun r s' hq=>?_)
 obtain⟨rfl,h2,h3,h4⟩:=hq
 exact⟨.inl ⟨.bool true,.bool true,[],rfl,fun _=>rfl,.bool true,oY l _,fun _=>⟨List.Pairwise.nil,fun _ hm=>(nomatch hm)⟩⟩,h2,h3,h4⟩
end Att
namespace L2
open PySem PySem.Spec PyProof.Rows
theorem lr:∀ {vs:List Value}{ns:List Int},IntsAre vs ns->Vals (ns.map V.int) vs
 | _,_,.nil=>.nil
 | _,_,.cons n t h=>.cons ⟨t,rfl⟩ (lr h)
def cF (s:Stmt):Arguments:=match s with
 | .FunctionDef _ a _ _ _ _ _ _ _ _=>a
 | _=>{ posonlyargs:=[],args:=[],vararg:=none,kwonlyargs:=[],kw_defaults:=[],kwarg:=none,defaults:=[] }
def cD (s:Stmt):List Stmt:=match s with
 | .FunctionDef _ _ b _ _ _ _ _ _ _=>b
 | _=>[]
def ck (s:Stmt):Scope:=match s with
 | .FunctionDef _ _ _ _ _ _ sc _ _ _=>sc
 | _=>{ kind:=.function,names:=[],isGenerator:=false,isCoroutine:=false }
abbrev CX0:CXT:=fun _ _ _ _ _ _=>False
abbrev E0:XK:=fun _ _ _=>False
theorem vp {X:Cx}:md CX0 X E0:=fun _ _ _ _ _ _ _ h=>h.elim
structure Fun (K:W.Frag) (x qual:Str) (st:Stmt) (f:Addr) (fd:FuncData):Prop where
 ex:∃(oc:Value) (od:Option Addr) (kV doc pm:Value) (an:Option Addr) (cdv ct:Value) (osl:Array (Option Value)),
  fd=W.fnOf x qual (cF st) (cD st) (ck st) .none kV doc pm an cdv ct/\K.lookup f=some ⟨oc,od,.func fd,osl⟩/\W.codeIn K cdv qual=true
 kp:W.keepIn K (.ref f)=true
section
variable {P:Program}{w:World}{K:W.Frag}{mg:Str->Option Value}{base:Heap}
theorem Fun.ok {x qual:Str}{st:Stmt}{f:Addr}{fd:FuncData}{N ps:List Str}{k:Nat}{sp:Sp}(F:Fun K x qual st f fd) (S:FnScope N ps (ck st)) (len:∀vs H Q E, sp vs H Q E -> vs.length=ps.length)
    (hbody:∀(cdv:Value) (A:Around) (outer:List Env) (s:Shared) (H:Hp) (vs:List V) (Q:VK) (E:XK),Room k (A.deeper (envOfC qual (ck st) s.heap.objs.size f cdv))->sp vs H Q E ->
     ∃t,PSs (js CX0 P w K mg base N qual (ck st) f cdv A outer s H E).nox (cD st) t/\t { nx:=fun _ H'=>Q .non H',rt:=Q } (start N vs) H):FnOk P w K mg base CX0 (k+1) f fd ps sp:=by
 obtain⟨oc,od,kV,doc,pm,an,cdv,ct,osl,rfl,lk,hcd⟩:=F.ex
 refine rO lk hcd S len fun A outer s H vs Q E hr hsp=>?_
 obtain⟨t,h,q⟩:=hbody cdv A outer s H vs Q E hr hsp
 exact⟨t,h.nox,q⟩
theorem Fun.binds {x qual:Str}{st:Stmt}{f:Addr}{fd:FuncData}{ps:List Str}(F:Fun K x qual st f fd)
    (h:∀(kV doc pm:Value) (an:Option Addr) (cdv ct:Value) (us:List Value),us.length=ps.length->bindArgs (W.fnOf x qual (cF st) (cD st) (ck st) .none kV doc pm an cdv ct) ⟨us,[]⟩=pure (ps.zip us)):Binds K fd ps []:=by
 obtain⟨oc,od,kV,doc,pm,an,cdv,ct,osl,rfl,lk,hcd⟩:=F.ex
 exact .all (h kV doc pm an cdv ct)
theorem cJ {x qual:Str}{st:Stmt}{f:Addr}{oc:Value}{od an:Option Addr}{osl:Array (Option Value)}{kV doc pm cdv ct:Value}(l:K.lookup f=some ⟨oc,od,.func (W.fnOf x qual (cF st) (cD st) (ck st) .none kV doc pm an cdv ct),osl⟩)
    (c:W.codeIn K cdv qual=true) (k:W.keepIn K (.ref f)=true):Fun K x qual st f (W.fnOf x qual (cF st) (cD st) (ck st) .none kV doc pm an cdv ct):=⟨⟨oc,od,kV,doc,pm,an,cdv,ct,osl,rfl,l,c⟩,k⟩
end
theorem cw {n:Nat}(h:n<=1000):n<sizeLine:=Nat.lt_of_le_of_lt h (by decide)
section
variable {X:Cx}
theorem pv (i:Nat) {x:Str}{pos:Pos}(hN:X.N[i]? = some x:=by rfl) (hv:Vis X.env.scope x:=by first | exact Or.inl rfl | exact Or.inr (Or.inl rfl) | exact Or.inr (Or.inr rfl)) (hd:(x==("__debug__":Str))=false:=by decide)
    (hcd:(x==("__classdict__":Str))=false:=by decide):PE X (.Name x pos) (uS i):=uM hN hv hd hcd
theorem oS:ed X (.builtin "len") (fun xs H Q=>∃a kvs,xs=[V.ref a]/\H a=some (.dK kvs)/\Q (.int kvs.length) H):=by
 intro pins s σ H xs us Q I r h
 obtain⟨a,kvs,rfl,ha,q⟩:=h
 obtain⟨u,rfl,ru⟩:=dR r
 cases ru
 exact rT I (.inl ha) fun t s' I'=>⟨.int kvs.length,H,I',⟨t,rfl⟩,q⟩
end
theorem dP {A B:Prop}(h:B):if false=true then A else B:=by
 rw[if_neg aB]
 exact h
theorem qg {A B:Prop}(h:A):if true=true then A else B:=by
 rw[if_pos rfl]
 exact h
theorem cK {c A B:Prop} [Decidable c] (h1:c->A) (h2:¬ c->B):if c then A else B:=by
 by_cases h:c
 ·rw[if_pos h]
  exact h1 h
 ·rw[if_neg h]
  exact h2 h
def Same (H H':Hp):Prop:=∀b o,H b=some o->H' b=some o
theorem Same.refl (H:Hp):Same H H:=fun _ _ h=>h
theorem Same.trans {H H1 H2:Hp}(a:Same H H1) (b:Same H1 H2):Same H H2:=fun c o h=>b c o (a c o h)
section
variable {κ:Type} [DecidableEq κ]
theorem qh {kvs:List (κ × V)}{k:κ}(h:cI kvs k=none):¬ k∈kvs.map (·.1):=by
 intro m
 obtain⟨p,hp,e⟩:=al.mp m
 have q:(kvs.any fun kv=>decide (kv.1=k))=true:=bU.mpr ⟨p,hp,ai e⟩
 rw[eK,h] at q
 exact absurd q (by simp)
theorem ni:∀ {l:List κ}{k:κ},l.Nodup->¬ k∈l->(l++[k]).Nodup
 | [],k,_,_=>by simp
 | a::r,k,h,hk=>by
  obtain⟨h1,h2⟩:=ba.mp h
  show (a::(r++[k])).Nodup
  refine ba.mpr ⟨fun m=>?_,ni h2 fun m=>hk (aR.mpr (Or.inr m))⟩
  rcases ar.mp m with q | q
  ·exact h1 q
  ·exact hk (aR.mpr (Or.inl (aQ.mp q).symm))
theorem m9 {kvs:List (κ × V)}{k:κ}(v:V) (hn:(kvs.map (·.1)).Nodup) (h:cI kvs k=none):((cR kvs k v).map (·.1)).Nodup:=by
 rw[jp v h,aj]
 exact ni hn (qh h)
end
end L2
set_option maxHeartbeats 4000000
namespace L2
open PySem PySem.Spec PyProof.Rows
theorem kC {env:Env}{f:Str × NameKind -> List (Str × Addr) -> Sem (ForInStep (List (Str × Addr)))}
    (f1:∀n k r,k≠NameKind.free->f (n,k) r=pure (.yield r))
    (f2:∀n c r,env.cells.lookup n=some c->f (n,NameKind.free) r=pure (.yield ((n,c)::r))) :
    ∀(names:List (Str × NameKind)) (acc:List (Str × Addr)),
    (∀y∈names,y.2=NameKind.free->∃c,env.cells.lookup y.1=some c) ->
    (∀x c,acc.lookup x=some c->env.cells.lookup x=some c) ->
    ∃cl,forIn names acc f=(pure cl:Sem (List (Str × Addr)))/\(∀x c,cl.lookup x=some c->env.cells.lookup x=some c) /\
     (∀x,(acc.lookup x).isSome=true->(cl.lookup x).isSome=true)/\∀y∈names,y.2=NameKind.free->(cl.lookup y.1).isSome=true
 | [],acc,_,h=>⟨acc,by rw[bc],h,fun _ q=>q,fun y hy=>nomatch hy⟩
 | (n, k) :: r, acc, hn, h => by
  by_cases hk:k=NameKind.free
  ·subst hk
   obtain⟨c,hc⟩:=hn (n,.free) bC rfl
   have hc':env.cells.lookup n=some c:=hc
   obtain⟨cl,e,a,b,d⟩:=kC f1 f2 r ((n,c)::acc) (fun y hy=>hn y (aI _ hy)) (fun x c' q=>by
    rw[aX] at q
    cases e:x==n with
    | true =>
     rw[e] at q
     cases q
     rw[show x=n from LawfulBEq.eq_of_beq e]
     exact hc'
    | false =>
     rw[e] at q
     exact h x c' q)
   refine⟨cl,?_,a,fun x q=>b x ?_,fun y hy hf=>?_⟩
   ·rw[aY,f2 n c acc hc',pure_bind]
    exact e
   ·rw[aX]
    cases x==n with
    | true=>rfl
    | false=>exact q
   ·rcases aR.mp hy with rfl | hy
    ·refine b _ ?_
     rw[aX]
     simp
    ·exact d y hy hf
  ·obtain⟨cl,e,a,b,d⟩:=kC f1 f2 r acc (fun y hy=>hn y (aI _ hy)) h
   refine⟨cl,?_,a,b,fun y hy hf=>?_⟩
   ·rw[aY,f1 n k acc hk,pure_bind]
    exact e
   ·rcases aR.mp hy with rfl | hy
    ·exact absurd hf hk
    ·exact d y hy hf
theorem kz {scope:Scope}{env:Env}(hf:∀y ∈ scope.names, y.2=NameKind.free -> ∃c, env.cells.lookup y.1=some c) :
    ∃cl,closureFor scope env=pure cl/\(∀x c,cl.lookup x=some c->env.cells.lookup x=some c) /\
     ∀y∈scope.names,y.2=NameKind.free->∃c,cl.lookup y.1=some c:=by
 have go:=kC (env:=env) (f:=fun (x:Str × NameKind) (r:List (Str × Addr))=>match x with
     | (name,kind)=>if (kind==NameKind.free)=true then do let c ← cellOf env name;pure (ForInStep.yield ((name,c)::r)) else pure (ForInStep.yield r))
  (fun n k r hk=>by
   have z:(k==NameKind.free)=false:=by simpa using hk
   simp only[z,bt,if_false])
  (fun n c r hc=>by
   simp only[beq_self_eq_true,if_true,cellOf,hc,pure_bind])
  scope.names [] hf (fun x c q=>by cases q)
 obtain⟨cl,e,a,_,d⟩:=go
 refine⟨cl,?_,a,fun y hy z=>bJ.mp (d y hy z)⟩
 simp only[closureFor]
 first
  | exact e
  | (simp only[bind_pure];exact e)
  | (refine Eq.trans ?_ e;simp only[bind_pure])
def cxC (X:Cx) (scope:Scope) (N:List Str) (cl:List (Str × Addr)) (C:Addr) (s₀:Shared) (H₀:Hp) (ex:List Addr):Cx where
 prog:=X.prog
 w:=X.w
 K:=X.K
 mg:=X.mg
 base:=X.base
 A:=X.A
 N:=N
 s₀:=s₀
 H₀:=H₀
 env:=compEnvC scope cl C X.env
 outer:=X.stack
 stack:=X.stack
 ex:=ex
 fn:=fun _=>false
 calm:=X.calm
 pn:=[]
 xe:=fun _ _=>False
def fO (k:Nat) (fr:List Nat) (σ:St):St:=List.replicate k none++fr.map fun i=>(σ[i]?).join
def uF (osc scope:Scope) (NX:List Str) (fr:List Nat):Bool:=fr.all fun i=>match NX[i]? with
 | some x=>(decide (osc.names.lookup x=some .cell)||decide (osc.names.lookup x=some .free))&&decide (scope.names.lookup x=some .free)
 | none=>false
structure CompSc (osc scope:Scope) (NX own:List Str) (fr:List Nat) (N:List Str):Prop where
 kind:scope.kind=.function
 nocell:∀y∈scope.names,y.2≠NameKind.cell
 loc:∀y∈scope.names,y.2=NameKind.local->scope.names.lookup y.1=some .local
 free:∀y∈scope.names,y.2=NameKind.free->osc.names.lookup y.1=some .cell∨osc.names.lookup y.1=some .free
 names:N.map some=own.map some++fr.map fun i=>NX[i]?
 outer:uF osc scope NX fr=true
def jC (osc scope:Scope) (NX own:List Str) (fr:List Nat) (N:List Str):Bool :=
 decide (scope.kind=.function)&&(scope.names.all (fun y=>decide (y.2≠NameKind.cell))&&(scope.names.all (fun y=>decide (y.2=NameKind.local->scope.names.lookup y.1=some .local)) &&
  (scope.names.all (fun y=>decide (y.2=NameKind.free->(osc.names.lookup y.1=some .cell∨osc.names.lookup y.1=some .free)))&&(decide (N.map some=own.map some++fr.map fun i=>NX[i]?)&&uF osc scope NX fr))))
theorem CompSc.of {osc scope:Scope}{NX own:List Str}{fr:List Nat}{N:List Str}(h:jC osc scope NX own fr N=true):CompSc osc scope NX own fr N:=by
 unfold jC at h
 simp only[bg,decide_eq_true_eq,aW] at h
 obtain⟨h1,h2,h3,h4,h5,h6⟩:=h
 exact⟨h1,h2,h3,h4,h5,h6⟩
theorem CompSc.len {osc scope:Scope}{NX own:List Str}{fr:List Nat}{N:List Str}(S:CompSc osc scope NX own fr N):N.length=own.length+fr.length:=by
 have h:=congrArg List.length S.names
 simpa using h
theorem fB {env:Env}:∀ {names:List (Str × NameKind)}{x:Str}, names.lookup x=some .free ->
    (names.map fun (n,k)=>if (k==NameKind.free&&env.scope.kind==.function&&env.kindOf n==some .cell) then (n,NameKind.cell) else (n,k)).lookup x=some .cell ∨
    (names.map fun (n,k)=>if (k==NameKind.free&&env.scope.kind==.function&&env.kindOf n==some .cell) then (n,NameKind.cell) else (n,k)).lookup x=some .free
 | [],_,h=>by simp at h
 | (n,k)::r,x,h=>by
  have ih:=@fB env r x
  cases hx:x==n with
  | true =>
   simp only[aX,hx] at h
   cases h
   simp only[aV]
   split
   ·left;simp[aX,hx]
   ·right;simp[aX,hx]
  | false =>
   simp only[aX,hx] at h
   simp only[aV]
   split
   ·simp only[aX,hx];exact ih h
   ·simp only[aX,hx];exact ih h
theorem j0 {env:Env}:∀ {names:List (Str × NameKind)}{x:Str}{k':NameKind},
    (names.map fun (n,k)=>if (k==NameKind.free&&env.scope.kind==.function&&env.kindOf n==some .cell) then (n,NameKind.cell) else (n,k)).lookup x=some k' ->
    k'=.cell∨k'=.free->(∀y∈names,y.2≠NameKind.cell)->∃y∈names,y.1=x/\y.2=.free
 | [],_,_,h,_,_=>by simp at h
 | (n, k) :: r, x, k', h, hk, nc => by
  have ih:=@j0 env r x k'
  simp only[aV] at h
  cases hx:x==n with
  | true =>
   have ex:x=n:=LawfulBEq.eq_of_beq hx
   refine⟨(n,k),bC,ex.symm,?_⟩
   have nck:k≠.cell:=nc (n,k) bC
   by_cases z:k=.free
   ·exact z
   ·have zb:(k==NameKind.free)=false:=by simpa using z
    simp only[zb,Bool.false_and,bt,if_false,aX,hx] at h
    cases h
    rcases hk with q | q
    ·exact absurd q nck
    ·exact absurd q z
  | false =>
   have h':(r.map fun (n,k)=>if (k==NameKind.free&&env.scope.kind==.function&&env.kindOf n==some .cell) then (n,NameKind.cell) else (n,k)).lookup x=some k':=by
    split at h
    ·simpa only[aX,hx] using h
    ·simpa only[aX,hx] using h
   obtain⟨y,hy,a,b⟩:=ih h' hk fun z hz=>nc z (aI _ hz)
   exact⟨y,aI _ hy,a,b⟩
section
variable {X:Cx}{pins:List (Addr × Obj)}{σ:St}{H:Hp}{s:Shared}
def PTs (X:Cx) (ifs:List Expr) (t:TT):Prop :=
 ∀(pins:List (Addr × Obj)) (s:Shared) (σ:St) (H:Hp) (Q:Bool->Hp->Prop),Inv X pins σ H s->t σ H Q ->
  wpAny (model X.prog X.w) X.A (forIn ifs true fun c r=>if r=true then do let ok ← isTrue c X.env (eval c X.env);pure (ForInStep.yield ok) else pure (ForInStep.yield r)) (TP X pins σ Q) X.xe s
def qX:TT:=fun _ H Q=>Q true H
theorem cY:PTs X [] qX:=fun _ _ _ H _ I h=>wpAny_tests_nil ⟨H,I,h⟩
theorem fh {c:Expr}{t:TT}(h:PT X c t):PTs X [c] t:=fun pins s σ H Q I q=>wpAny_tests_one (h pins s σ H Q I q)
theorem nx {α:Type}{t:Sem α}{Q Q':α->Shared->Prop}{M:Model}{A:Around}{E:Value->Shared->Prop}{s:Shared}(h:wpAny M A t Q (fun _ _=>False) s) (hQ:∀a s,Q a s->Q' a s):wpAny M A t Q' E s :=
 aS h hQ fun _ _ f=>f.elim
theorem or {scope:Scope}{own:List Str}{fr:List Nat}{N:List Str}{cl:List (Str × Addr)}{s3 s4:Shared}{H3:Hp}{fp:List Addr}{m:Str -> Option Value}
    (hc:X.calm=true) (S:CompSc X.env.scope scope X.N own fr N)
    (c1:∀x c,cl.lookup x=some c->X.env.cells.lookup x=some c) (c2:∀y∈scope.names,y.2=NameKind.free->∃c,cl.lookup y.1=some c)
    (I3:Inv X pins σ H3 s3) (f3:∀b∈fp,dB X pins H3 b/\b<s3.heap.objs.size)
    (hk:∀b o,s3.heap.get? b=some o->s4.heap.get? b=some o) (hn:s4.heap.Ns s3.heap.objs.size m) (ho:s4.os=s3.os) (hg:s4.gens=s3.gens) :
    Inv (cxC X scope N cl s3.heap.objs.size s3 H3 fp) [] (fO own.length fr σ) H3 s4:=by
 have kindF:(compEnvC scope cl s3.heap.objs.size X.env).scope.kind=.function:=by
  show (relabel scope X.env).kind=.function
  exact S.kind
 refine⟨⟨I3.ok.mod,kindF,I3.ok.glob,I3.ok.blt,ac _,?_,?_,?_,I3.ok.hd,I3.ok.frames,.inl rfl,?_,?_,?_,?_,?_,I3.stack,I3.stkFree⟩,ho,?_,Un.kept hk,⟨m,hn,?_⟩,?_,?_,?_,?_,I3.hok.kept hk,?_⟩
 ·exact fun x y c h1 h2=>I3.ok.inj x y c (c1 x c h1) (c1 y c h2)
 ·intro x hx
  have hx':(relabel scope X.env).names.lookup x=some .cell∨(relabel scope X.env).names.lookup x=some .free:=hx
  obtain⟨k',hk',hkk⟩:∃k',(relabel scope X.env).names.lookup x=some k'/\(k'=NameKind.cell∨k'=NameKind.free):=by
   rcases hx' with q | q
   ·exact⟨_,q,.inl rfl⟩
   ·exact⟨_,q,.inr rfl⟩
  obtain⟨y,hy,e,hf⟩:=j0 (env:=X.env) hk' hkk S.nocell
  subst e
  exact c2 y hy hf
 ·exact fun x c h=>by cases h
 ·intro b hb
  obtain⟨f,hl⟩:=f3 b hb
  refine⟨am hl,fun x c h=>f.2.2.2.2.1 x c (c1 x c h)⟩
 ·exact fun b o e=>I3.bs b o e
 ·exact aO I3.ok.bsz I3.sz
 ·intro b o e hb
  obtain⟨f,hl⟩:=f3 b hb
  rcases f.2.2.2.1 with z | z
  ·exact I3.ok.noex b o e z
  ·exact absurd (ay (af e) (aO I3.ok.bsz z)) (bi _)
 ·intro b hb
  obtain⟨f,hl⟩:=f3 b hb
  show b∉frs X.stack
  intro z
  rcases aR.mp (I3.stkSub b z) with q | q
  ·exact f.2.1 q
  ·exact f.2.2.1 q
 ·rw[hg];exact I3.bare
 ·intro i x v h1 h2 h3
  have h1:N[i]? = some x:=h1
  obtain⟨m0,hn0,hl0⟩:=I3.loc
  have hi:own.length<=i:=by
   refine Nat.le_of_not_lt fun q=>?_
   unfold fO at h2
   rw[bD (by simpa using q),List.getElem?_replicate] at h2
   split at h2 <;> cases h2
  obtain⟨j,rfl⟩:=Nat.exists_eq_add_of_le hi
  have h2':(fr.map fun i=>(σ[i]?).join)[j]? = some (some v):=by
   unfold fO at h2
   rw[bx (by simp)] at h2
   simpa using h2
  rw[ag] at h2'
  cases ej:fr[j]? with
  | none=>rw[ej] at h2';cases h2'
  | some k =>
   rw[ej] at h2'
   have e2:(σ[k]?).join=some v:=ae h2'
   have eσ:σ[k]? = some (some v):=by
    cases q:σ[k]? with
    | none=>rw[q] at e2;cases e2
    | some o=>rw[q] at e2;exact congrArg some e2
   have eN:X.N[k]? = some x:=by
    have q:=congrArg (fun l=>l[own.length+j]?) S.names
    simp only[ag,h1,bx (show (own.map some).length<=own.length+j by simp),ab,Nat.add_sub_cancel_left,ej,bL] at q
    exact(ae q).symm
   have ok:=aW.mp S.outer k (av ej)
   rw[eN] at ok
   simp only[bg,Bool.or_eq_true,decide_eq_true_eq] at ok
   obtain⟨ok1,ok2⟩:=ok
   have vis:Vis X.env.scope x:=.inr ok1
   obtain⟨u,r,l⟩:=hl0 k x v eN eσ vis
   refine⟨u,r,?_⟩
   rcases l with⟨l,_⟩ | ⟨_,c,e,z⟩
   ·have l:X.env.scope.names.lookup x=some .local:=l
    rcases ok1 with q | q
    ·rw[l] at q;cases q
    ·rw[l] at q;cases q
   ·obtain⟨c',e'⟩:=c2 (x,.free) (PySem.mem_of_lookup ok2) rfl
    have e':cl.lookup x=some c':=e'
    have ec:c'=c:=ae ((c1 x c' e').symm.trans e)
    subst ec
    refine .inr ⟨fB (env:=X.env) ok2,c',e',?_⟩
    obtain⟨o,h1,h2⟩:=z
    exact⟨o,hk _ _ h1,h2⟩
 ·intro x c e
  obtain⟨v,o,h1,h2⟩:=I3.cell x c (c1 x c e)
  exact⟨v,o,hk _ _ h1,h2⟩
 ·exact I3.hok.fresh (ac _)
 ·exact fun x c e=>I3.freeC x c (c1 x c e)
 ·intro p hp
  exact absurd hp (by simp[cxC])
 ·show (fO own.length fr σ).length=N.length
  rw[S.len]
  simp[fO]
end
section
variable {prog:Program}{w:World}{A:Around}{R:Result->Shared->Prop}{s:Shared}
theorem o0 {elt tg iter:Expr}{ifs:List Expr}{scope:Scope}{pos:Pos}{it acc:Value}{env:Env}(J:Nat -> Shared -> Prop)
    (turn:∀k s, J k s -> ∀E:Value -> Shared -> Prop, wpAny (model prog w) A (pyNext it) (fun r s1 => match r with
     | none=>R (.ok .next) s1
     | some v => wpAny (model prog w) A (letOwnedTupleGo tg it v) (fun _ s2 => wpAny (model prog w) A (assign tg env v) (fun _ s3 =>
         wpAny (model prog w) A (forIn ifs true fun c r=>if r=true then do let ok ← isTrue c env (eval c env);pure (ForInStep.yield ok) else pure (ForInStep.yield r)) (fun ok s4 =>
          if ok=true then wpAny (model prog w) A (eval elt env) (fun x s5=>wpAny (model prog w) A (call (.builtin "list.append") [acc,x]) (fun _ s6=>∃m,m<k/\J m s6) E s5) E s4
          else ∃m,m<k/\J m s4) E s3) E s2) E s1) E s)
    (k:Nat) (h:J k s):codeAny (model prog w) A (.compLoop (.ListComp elt [⟨tg,iter,ifs,0⟩] scope pos) 0 it acc env) R s:=by
 refine codeAny_loop rfl J (fun k s hJ=>?_) k h
 show wpAny _ A ((compTurn (.ListComp elt [⟨tg,iter,ifs,0⟩] scope pos) 0 it acc env).onRaise (fun e=>do noteFrame e env;theTreesLotGoes e)) _ _ s
 refine wpAny_noted ?_
 rw[compTurn_list]
 refine aa (wpAny_standAt (aa (thn (turn k s hJ _) fun r s1 h1=>?_)))
 cases r with
 | none=>exact ad h1
 | some v =>
  refine aa (thn h1 fun _ s2 h2=>aa (thn h2 fun _ s3 h3=>aa (thn h3 fun ok s4 h4=>?_)))
  cases ok with
  | false=>exact ad ⟨rfl,h4⟩
  | true=>exact aa (aa (thn h4 fun x s5 h5=>aa (thn h5 fun _ s6 h6=>ad (ad ⟨rfl,h6⟩))))
end
def fw (k:Nat) (fr:List Nat) (g:TG) (tc:TT) (te:TE) (J:It) (σ:St) (H1:Hp) (Q:VK):Prop :=
 ∀D,H1 D=none->∃W:Nat->Nat->List V->St->Hp->Prop,(∃m,W 0 m [] (fO k fr σ) (upd H1 D (.lst [])))/\∀i m acc σ' H',W i m acc σ' H'->H' D=some (.lst acc) ->
  (J.stop i H'/\Q (.ref D) H')∨(J.go i H'/\∃N:List V->St->Hp->Prop,(∀acc' σ2 H2,N acc' σ2 H2->∃m',m'<m/\W (i+1) m' acc' σ2 H2)/\∀x H2,J.yld i H' x H2->g x σ' H2 fun σ2 H3=>tc σ2 H3 fun b H4 =>
   if b=true then te σ2 H4 fun y H5=>H5 D=some (.lst acc)/\acc.length<sizeLine/\N (acc++[y]) σ2 (upd H5 D (.lst (acc++[y])))
   else H4 D=some (.lst acc)/\N acc σ2 H4)
def rM (k:Nat) (fr:List Nat) (wi:TI) (g:TG) (tc:TT) (te:TE):TE:=fun σ H Q=>wi σ H fun J H1=>fw k fr g tc te J σ H1 Q
section
variable {X:Cx}{pins:List (Addr × Obj)}{σ:St}{H:Hp}{s:Shared}{tg elt iter:Expr}{ifs:List Expr}{scope:Scope}{pos:Pos}
theorem jN {own:List Str}{fr:List Nat}{N:List Str}{cl:List (Str × Addr)}{H2:Hp}{s2:Shared}{fp:List Addr}{it:Addr}{J:It}{tn:Nat -> Heap -> Prop}{g:TG}{tc:TT}{te:TE}{Q:VK}{E:Value -> Shared -> Prop}{POST:Value -> Addr -> Result -> Shared -> Prop}
    (hc:X.calm=true) (S:CompSc X.env.scope scope X.N own fr N)
    (c1:∀x c,cl.lookup x=some c->X.env.cells.lookup x=some c) (c2:∀y∈scope.names,y.2=NameKind.free->∃c,cl.lookup y.1=some c)
    (hg:∀C s₀ H₀ ex,PG (cxC X scope N cl C s₀ H₀ ex) tg g) (ht:∀C s₀ H₀ ex,PTs (cxC X scope N cl C s₀ H₀ ex) ifs tc) (he:∀C s₀ H₀ ex,PE (cxC X scope N cl C s₀ H₀ ex) elt te)
    (I2:Inv X pins σ H2 s2) (T:Turn X.prog X.w X.K tg J fp it tn) (t2:tn 0 s2.heap) (f2:∀b∈fp,dB X pins H2 b) (q:fw own.length fr g tc te J σ H2 Q)
    (fin:∀D C s' H' m,Inv X pins σ H' s'->dB X pins H' C->s'.heap.Ns C m->Q (.ref D) H'->POST (.ref D) C (.ok .next) s') :
    wpAny (model X.prog X.w) X.A (newList []) (fun acc s3=>wpAny (model X.prog X.w) X.A (newFunctionEnv scope X.env.globals cl [] X.env.qual none .none (some X.env)) (fun cenv s4 =>
     codeAny (model X.prog X.w) X.A (.compStart (.ListComp elt [⟨tg,iter,ifs,0⟩] scope pos) 0 (.ref it) acc { cenv with scope:=relabel scope X.env }) (POST acc cenv.locals) s4) E s3) E s2:=by
 refine wpAny_newObj_type (wpAny_newFunctionEnv S.nocell (by intro y hy;simp at hy) (fun h4 ns4 sb4=>?_) S.kind)
 dsimp only at ns4 sb4 ⊢
 have hD:H2 s2.heap.objs.size=none:=I2.hok.fresh (ac _)
 obtain⟨W,⟨m0,w0⟩,turn⟩:=q s2.heap.objs.size hD
 have I3:Inv X pins σ (upd H2 s2.heap.objs.size (.lst [])) { s2 with heap:=s2.heap.push { cls:=.type "list",dict:=none,data:=.seq ([]:List Value).toArray },toks:=s2.toks } :=
  I2.laid (fun b u q=>ah _ q) (ac _) ⟨aL _,[],_,.nil,ao _ rfl⟩
 generalize hh3:s2.heap.push { cls:=.type "list",dict:=none,data:=.seq ([]:List Value).toArray }=h3 at *
 have z3:h3.objs.size=s2.heap.objs.size+1:=by rw[<- hh3,bn]
 have k23:∀b o,s2.heap.get? b=some o->h3.get? b=some o:=fun b o e=>by rw[<- hh3];exact ah _ e
 have k34:∀b o,h3.get? b=some o->h4.get? b=some o:=fun b o e=>sb4.extBut b o (am (af e)) (ah _ e)
 have fpl:∀b∈fp,b<s2.heap.objs.size:=fun b hb=>by
  obtain⟨o,e,_⟩:=T.obj _ _ t2 b hb
  exact af e
 have f3:∀b∈fp,dB X pins (upd H2 s2.heap.objs.size (.lst [])) b/\b<h3.objs.size:=fun b hb=>by
  refine⟨⟨?_,(f2 b hb).2⟩,by rw[z3];exact Nat.lt_succ_of_lt (fpl b hb)⟩
  rw[cm (am (fpl b hb))]
  exact(f2 b hb).1
 generalize hs3:({ s2 with heap:=h3,toks:=s2.toks }:Shared)=s3 at I3
 have es3:s3.heap=h3:=by rw[<- hs3]
 have hs3':({ s2 with heap:=h3 }:Shared)=s3:=hs3
 have I4:=or (s3:=s3) (s4:={ s3 with heap:=h4,toks:=s3.toks+([]:List (Str × Value)).length }) hc S c1 c2 I3 (by rw[es3];exact f3) (by rw[es3];exact k34) (m:=fun x=>([]:List (Str × Value)).reverse.lookup x) (by rw[es3];exact ns4) rfl rfl
 rw[es3] at I4
 have stat:∀ {H':Hp} {s':Shared} {σ':St} {pl:List (Addr × Obj)},Inv (cxC X scope N cl h3.objs.size s3 (upd H2 s2.heap.objs.size (.lst [])) fp) pl σ' H' s'->(∀p∈pl,p.1∉fp)->(∀b∈fp,H' b=none)->∀b∈fp,dB (cxC X scope N cl h3.objs.size s3 (upd H2 s2.heap.objs.size (.lst [])) fp) pl H' b:=fun {H' s' σ' pl} I' hpl hn b hb=>by
  refine⟨hn b hb,am (f3 b hb).2,I'.ok.exfs b hb,.inl hb,fun x c e=>(f2 b hb).2.2.2.2.1 x c (c1 x c e),fun p hp=>?_⟩
  intro z
  exact hpl p (by simpa [cxC] using hp) (z ▸ hb)
 have loop:∀s4:Shared, s4={ s3 with heap := h4, toks := s3.toks+([]:List (Str × Value)).length } ->
     codeAny (model X.prog X.w) X.A (.compLoop (.ListComp elt [⟨tg,iter,ifs,0⟩] scope pos) 0 (.ref it) (.ref s2.heap.objs.size) (compEnvC scope cl h3.objs.size X.env)) (POST (.ref s2.heap.objs.size) h3.objs.size) s4:=by
  rintro s4 rfl
  refine o0 (fun n s'=>∃i acc σ' H',Inv (cxC X scope N cl h3.objs.size s3 (upd H2 s2.heap.objs.size (.lst [])) fp) [] σ' H' s'/\tn i s'.heap/\(∀b∈fp,H' b=none)/\H' s2.heap.objs.size=some (.lst acc)/\W i n acc σ' H') ?_ m0
   ⟨0,[],_,_,I4,T.keep _ _ _ t2 fun b hb o e=>k34 b o (k23 b o e),fun b hb=>(f3 b hb).1.1,cn,w0⟩
  rintro n s5 ⟨i,acc,σ5,H5,I5,t5,fr5,d5,w5⟩ E'
  rcases turn i n acc σ5 H5 w5 d5 with⟨stop,qn⟩ | ⟨go,NN,hNN,step⟩
  ·refine thn (T.done (cxC X scope N cl h3.objs.size s3 (upd H2 s2.heap.objs.size (.lst [])) fp) rfl rfl rfl hc i [] s5 σ5 H5 E' I5 (stat I5 (by simp) fr5) t5 stop) fun r s6 ⟨hr,I6⟩=>?_
   subst hr
   obtain⟨m6,n6,_⟩:=id I6.loc
   have J6:Inv X pins σ H5 s6:=I3.call' (ch:=fp) I6.os I6.base I6.hok I6.bare fun b hb=>⟨(f2 b hb).2.2.2.1,(f2 b hb).2.1,(f2 b hb).2.2.2.2.1,(f2 b hb).2.2.2.2.2⟩
   exact fin _ _ s6 H5 m6 J6 (I2.fpOk (by rw[z3];exact Nat.le_succ _) I6.free) n6 qn
  ·refine thn (T.item (cxC X scope N cl h3.objs.size s3 (upd H2 s2.heap.objs.size (.lst [])) fp) rfl rfl rfl hc i [] s5 σ5 H5 E' I5 (stat I5 (by simp) fr5) t5 go) fun r s6 ⟨u,hr,h6⟩=>?_
   subst hr
   refine thn h6 fun _ s7 ⟨x,H7,I7,r7,y7,t7,fr7⟩=>?_
   have I7':=I7.pinned (stat I7 (by simp) fr7) (T.obj _ _ t7)
   have backTn:∀ {s':Shared} {H':Hp} {σ':St},Inv (cxC X scope N cl h3.objs.size s3 (upd H2 s2.heap.objs.size (.lst [])) fp) ([]++iH fp s7.heap) σ' H' s'->tn (i+1) s'.heap/\∀b∈fp,H' b=none:=fun {s' H' σ'} I'=>by
    refine⟨T.keep _ _ _ t7 fun b hb o e=>(I'.pin (b,o) (au _ (au _ (eX hb e)))).1,fun b hb=>?_⟩
    obtain⟨o,e,_⟩:=T.obj _ _ t7 b hb
    exact(I'.pin (b,o) (au _ (au _ (eX hb e)))).2.1
   refine nx (hg _ _ _ _ _ s7 σ5 H7 x u _ I7' r7 (step x H7 y7)) fun _ s8 ⟨σ8,H8,I8,q8⟩=>?_
   refine nx (ht _ _ _ _ _ s8 σ8 H8 _ I8 q8) fun ok s9 ⟨H9,I9,q9⟩=>?_
   cases ok with
   | false =>
    obtain⟨d9,n9⟩:=q9
    obtain⟨m',hm,w9⟩:=hNN _ _ _ n9
    obtain⟨a1,a2⟩:=backTn I9
    exact⟨m',hm,i+1,acc,σ8,H9,I9.unpinned,a1,a2,d9,w9⟩
   | true =>
    rw[if_pos rfl]
    refine nx (he _ _ _ _ _ s9 σ8 H9 _ I9 q9) fun y s10 ⟨v,H10,I10,r10,d10,l10,n10⟩=>?_
    obtain⟨m',hm,w10⟩:=hNN _ _ _ n10
    refine nx (kN _ s10 σ8 H10 (.ref s2.heap.objs.size) [v] (.ref s2.heap.objs.size) [y] (fun _ H'=>H'=upd H10 s2.heap.objs.size (.lst (acc++[v]))) I10 rfl (.cons r10 .nil) ⟨_,acc,v,rfl,rfl,d10,l10,rfl⟩) fun _ s11 ⟨_,H11,I11,_,e11⟩=>?_
    subst e11
    obtain⟨a1,a2⟩:=backTn I11
    exact⟨m',hm,i+1,_,σ8,_,I11.unpinned,a1,a2,cn,w10⟩
 exact codeAny_compStart_list (loop _ (by rw[<- hs3])) (T.self _ 0 _ _ _ (T.keep _ _ _ t2 fun b hb o e=>k34 b o (k23 b o e)) (loop _ (by rw[<- hs3])))
theorem cN (osc:Scope) (NX own:List Str) (fr:List Nat) (N:List Str) {wi:TI}{g:TG}{tc:TT}{te:TE}(hc:X.calm=true)
    (hi:PI X tg iter wi) (hg:∀cl C s₀ H₀ ex,PG (cxC X scope N cl C s₀ H₀ ex) tg g) (ht:∀cl C s₀ H₀ ex,PTs (cxC X scope N cl C s₀ H₀ ex) ifs tc) (he:∀cl C s₀ H₀ ex,PE (cxC X scope N cl C s₀ H₀ ex) elt te)
    (hs:∀x,foldedSetIterable iter X.env x=pure x:=by intro _;rfl) (hosc:X.env.scope=osc:=by rfl) (hNX:X.N=NX:=by rfl) (hS:jC osc scope NX own fr N=true:=by decide +kernel) :
    PE X (.ListComp elt [⟨tg,iter,ifs,0⟩] scope pos) (rM own.length fr wi g tc te):=by
 intro pins s σ H Q I h
 have S:CompSc X.env.scope scope X.N own fr N:=by rw[hosc,hNX];exact CompSc.of hS
 obtain⟨cl,ecl,c1,c2⟩:=kz (scope:=scope) (env:=X.env) fun y hy hf=>I.ok.has y.1 (S.free y hy hf)
 rw[eval_ListComp]
 refine wpAny_comprehension_free (use:=none) rfl hs ecl S.kind S.loc (thn (hi pins s σ H _ I h) fun v s1 h1=>thn h1 fun itv s2 h2=>?_)
 obtain⟨it,fp,tn,J,H2,e,I2,T,t2,f2,q⟩:=h2
 subst e
 refine jN (POST:=fun acc C=>compPost (model X.prog X.w) X.A X.xe none (EP X pins σ Q) acc C) hc S c1 c2 (hg cl) (ht cl) (he cl) I2 T t2 f2 q fun D C s' H' m I' fC ns q'=>?_
 refine⟨m,ns,fun h' sb=>⟨.ref D,H',?_,rfl,q'⟩⟩
 obtain⟨g0,g1,_,g3,g4,g5⟩:=fC
 exact I'.turned (t':=s'.toks) (fun b o hb e=>(sb.2 b hb).trans e) g0 g1 g3 g4 g5
theorem m7 {wi:TI}{g:TG}{tc:TT}{te:TE}{i:Nat}{x:Str}{px spos:Pos}(hN:X.N.Nodup) (hi':X.N[i]? = some x) (hx:X.env.scope.names.lookup x=some .local)
    (hsw:swapsWith (.ListComp elt [⟨tg,iter,ifs,0⟩] scope pos) (some (.Name x px)) spos.line X.env=pure true)
    (osc:Scope) (NX own:List Str) (fr:List Nat) (N:List Str) (hc:X.calm=true)
    (hi:PI X tg iter wi) (hg:∀cl C s₀ H₀ ex,PG (cxC X scope N cl C s₀ H₀ ex) tg g) (ht:∀cl C s₀ H₀ ex,PTs (cxC X scope N cl C s₀ H₀ ex) ifs tc) (he:∀cl C s₀ H₀ ex,PE (cxC X scope N cl C s₀ H₀ ex) elt te)
    (hs:∀x,foldedSetIterable iter X.env x=pure x:=by intro _;rfl) (hosc:X.env.scope=osc:=by rfl) (hNX:X.N=NX:=by rfl) (hS:jC osc scope NX own fr N=true:=by decide +kernel) :
    PS X (.Assign [.Name x px] (.ListComp elt [⟨tg,iter,ifs,0⟩] scope pos) spos) (qu (rM own.length fr wi g tc te) (iX i)):=by
 intro pins s σ H D I h
 have S:CompSc X.env.scope scope X.N own fr N:=by rw[hosc,hNX];exact CompSc.of hS
 obtain⟨cl,ecl,c1,c2⟩:=kz (scope:=scope) (env:=X.env) fun y hy hf=>I.ok.has y.1 (S.free y hy hf)
 rw[exec_Assign_Name_used _ _ _ _ hsw]
 refine aa (wpAny_standAt (aa ?_))
 show wpAny _ X.A (do let _ ← comprehension (.ListComp elt [⟨tg,iter,ifs,0⟩] scope pos) scope X.env _ (newList []) false (eval iter X.env) (some (assign (.Name x px) X.env))) _ _ s
 refine aa (thn (wpAny_comprehension_free (use:=some (assign (.Name x px) X.env)) (Q:=fun _ s'=>SP X pins D .next s') rfl hs ecl S.kind S.loc (thn (hi pins s σ H _ I h) fun v s1 h1=>thn h1 fun itv s2 h2=>?_)) fun _ s' hq=>ad (ad hq))
 obtain⟨it,fp,tn,J,H2,e,I2,T,t2,f2,q⟩:=h2
 subst e
 refine jN (POST:=fun acc C=>compPost (model X.prog X.w) X.A X.xe (some (assign (.Name x px) X.env)) (fun _ s'=>SP X pins D .next s') acc C) hc S c1 c2 (hg cl) (ht cl) (he cl) I2 T t2 f2 q fun D' C s' H' m I' fC ns q'=>?_
 show wpAny _ X.A (assign (.Name x px) X.env (.ref D')) _ _ s'
 refine wpAny_assign_Name (lj I' hN hi' (.inl hx) (show RelV (.ref D') (.ref D') from rfl) (fun s3 I3 sb=>?_) (.inr hx))
 obtain⟨a,sb,ha⟩:=sb
 obtain⟨g0,g1,g2,g3,g4,g5⟩:=fC
 have aC:C≠a:=by
  rcases ha with z | z
  ·rw[z];exact g1
  ·exact fun w=>g4 x a z w.symm
 refine⟨m,ns.sameBut sb aC,fun h' sb'=>⟨_,H',?_,q'⟩⟩
 exact I3.turned (t':=s3.toks) (fun b o hb e=>(sb'.2 b hb).trans e) g0 g1 g3 g4 g5
end
def sgV (x:Str) (i:Nat):Option V:=(x.cps[i]?).map fun c=>V.str ⟨#[c]⟩
def Its (x:Str):It:=⟨fun i _=>i<x.cps.size,fun i H v H'=>H'=H/\sgV x i=some v,fun i _=>x.cps.size<=i⟩
theorem nw {P:Program}{w:World}{K:W.Frag}{tg:Expr}(T:String) (it:Addr) (x:Str) (t:Tok)
    (hn:["enumerate","zip","dict_itemiterator","dict_reverseitemiterator","odict_iterator","itertools.zip_longest","itertools.pairwise"].contains T=false)
    (W:∀A:Around,A.handled=none->Walks P w A it [it] [it] x.cps.size (SignAt x) (fun i h=>h.IsStrIter it T x t i))
    (hs:∀(A:Around) (i:Nat) (s:Shared) (Q:Value->Shared->Prop) (E:Value->Shared->Prop),s.heap.IsStrIter it T x t i->Q (.ref it) s->wpAny (model P w) A (pyIter (.ref it)) Q E s) :
    Turn P w K tg (Its x) [it] it (fun i h=>h.IsStrIter it T x t i/\i<=x.cps.size) where
 mem:=by simp
 obj:=fun i h st b hb=>by
  have e:b=it:=by simpa using hb
  subst e
  obtain⟨o,e,c,d⟩:=st.1
  exact⟨o,e,fun v z=>by rw[d] at z;cases z⟩
 keep:=fun i h h' st k=>⟨by
  obtain⟨o,e,c⟩:=st.1
  exact⟨o,k it (by simp) o e,c⟩,st.2⟩
 item:=by
  intro X hP hw hK hc i pins s σ H E I hf st hg
  subst hP hw hK
  obtain⟨f0,f1,f2,f3,f4,f5⟩:=hf it (by simp)
  refine(W X.A (I.ok.hd hc)).item i s _ _ hg st.1 fun v h' tk hv st' kk=>?_
  obtain⟨c,u,hcp,rfl⟩:=hv
  have I1:Inv X pins σ H { s with heap:=h',toks:=tk }:=I.turned (fun b o hb e=>kk b o (by simpa using hb) e) f0 f1 f3 f4 f5
  obtain⟨o,e,cc,d⟩:=id st'
  refine⟨_,rfl,j4 (s:={ s with heap:=h',toks:=tk }) e cc d hn ⟨.str ⟨#[c]⟩,H,I1,⟨u,rfl⟩,⟨rfl,?_⟩,⟨st',?_⟩,fun b hb=>(hf b hb).1⟩⟩
  ·unfold sgV;rw[hcp];rfl
  ·exact hg
 done:=by
  intro X hP hw hK hc i pins s σ H E I hf st hg
  subst hP hw hK
  obtain⟨f0,f1,f2,f3,f4,f5⟩:=hf it (by simp)
  have e:i=x.cps.size:=Nat.le_antisymm st.2 hg
  subst e
  exact(W X.A (I.ok.hd hc)).done s _ _ st.1 fun h' tk kk=>⟨rfl,I.turned (fun b o hb e=>kk b o (by simpa using hb) e) f0 f1 f3 f4 f5⟩
 self:=fun A i s Q E st h=>hs A i s Q E st.1 h
def iStr (tl:TE):TI:=fun σ H R=>tl σ H fun x H1=>∃z,x=.str z/\R (Its z) H1
theorem uP {X:Cx}{tg l:Expr}{tl:TE}(hl:PE X l tl):PI X tg l (iStr tl) := by
 intro pins s σ H R I h
 refine thn (hl pins s σ H _ I h) fun v s1 ⟨x,H1,I1,r1,q1⟩=>?_
 obtain⟨z,e,q⟩:=q1
 subst e
 obtain⟨t,rfl⟩:=r1
 have fin:∀(T:String),["enumerate","zip","dict_itemiterator","dict_reverseitemiterator","odict_iterator","itertools.zip_longest","itertools.pairwise"].contains T=false ->
     (∀A:Around,A.handled=none->Walks X.prog X.w A s1.heap.objs.size [s1.heap.objs.size] [s1.heap.objs.size] z.cps.size (SignAt z) (fun i h=>h.IsStrIter s1.heap.objs.size T z t i)) ->
     (∀(A:Around) (i:Nat) (s:Shared) (Q:Value->Shared->Prop) (E:Value->Shared->Prop),s.heap.IsStrIter s1.heap.objs.size T z t i->Q (.ref s1.heap.objs.size) s->wpAny (model X.prog X.w) A (pyIter (.ref s1.heap.objs.size)) Q E s) ->
     PIE X pins σ tg R (.ref s1.heap.objs.size) { s1 with heap:=s1.heap.push { cls:=.type T,data:=.fields #[.str z t,.int 0 0] } }:=fun T hn W hs=>by
  refine⟨_,[s1.heap.objs.size],_,_,H1,rfl,I1.kept (t':=s1.toks) fun b o e=>ah _ e,nw T _ z t hn W hs,⟨⟨_,ao _ rfl,rfl,rfl⟩,aL _⟩,fun b hb=>?_,q⟩
  have e:b=s1.heap.objs.size:=by simpa using hb
  subst e
  exact I1.fpOk (ac _) (I1.hok.fresh (ac _))
 cases ha:z.cps.all (·<128)
 ·exact wpAny_pyIter_wide ha (fin "str_iterator" (by decide) (fun A hA=>Walks.strWide hA _ z t) fun A i s Q E st h=>wpAny_pyIter_striter_wide st h)
 ·exact wpAny_pyIter_ascii ha (fin "str_ascii_iterator" (by decide) (fun A hA=>Walks.strAscii hA _ z t) fun A i s Q E st h=>wpAny_pyIter_striter_ascii st h)
def Ite (K:W.Frag) (a:Addr):It :=
 ⟨fun i H=>∃xs x,SqL K H a xs/\xs[i]? = some x,fun i H v H'=>∃p x,H p=none/\v=.ref p/\(∀xs,SqL K H a xs->xs[i]? = some x)/\H'=upd H p (.tup [.int i,x]),fun i H=>∃xs,SqL K H a xs/\xs.length<=i⟩
theorem oK {P:Program}{w:World}{K:W.Frag}{elts:List Expr}{k:Nat}{tp:Pos}(a e it:Addr) (hne:e ≠ it) :
    Turn P w K (.Tuple elts k tp) (Ite K a) [e,it] e (fun i h=>(∃old,IsEnum h e it i old)/\h.IsListIter it a i) where
 mem:=by simp
 obj:=fun i h st b hb=>by
  obtain⟨⟨old,he⟩,hit⟩:=st
  have hb:b=e∨b=it:=by simpa using hb
  rcases hb with z | z
  ·subst z
   exact⟨_,he,fun v z=>by cases z⟩
  ·subst z
   obtain⟨o,e1,c,d⟩:=hit
   exact⟨o,e1,fun v z=>by rw[d] at z;cases z⟩
 keep:=fun i h h' st kk=>by
  obtain⟨⟨old,he⟩,hit⟩:=st
  exact⟨⟨old,kk e (by simp) _ he⟩,hit.at fun o q=>kk it (by simp) o q⟩
 item := by
  intro X hP hw hK hc i pins s σ H E I hf st hg
  subst hP hw hK
  obtain⟨⟨old,he⟩,hit⟩:=st
  obtain⟨xs,x,hq,hx⟩:=hg
  obtain⟨its,rv,p,hz⟩:=I.list hq
  obtain⟨u,hu,ru⟩:=rv.get hx
  obtain⟨f0,f1,f2,f3,f4,f5⟩:=hf e (by simp)
  obtain⟨g0,g1,g2,g3,g4,g5⟩:=hf it (by simp)
  refine wpAny_pyNext_enum_item he hit p.isList (x:=u) (by simpa using hu) hne fun h1 ho hit1 ht1 hz1 k1=>?_
  have hel:e<s.heap.objs.size:=af he
  have hil:it<s.heap.objs.size:=by obtain⟨o,q,_⟩:=hit;exact af q
  refine⟨_,rfl,wpAny_letOwnedTupleGo_enum ho fun h2 he2 sb2=>?_⟩
  have sb2:Heap.SameBut e h1 h2:=sb2
  have T2:h2.get? s.heap.objs.size=some { cls:=.type "tuple",data:=.seq #[.int i s.toks,u] }:=(sb2.2 _ (br hel)).trans ht1
  have hp:H s.heap.objs.size=none:=I.hok.fresh (ac _)
  have nit:∀b v,H b=some v->b≠e/\b≠it:=fun b v q=>⟨fun z=>(by rw[z,f0] at q;cases q),fun z=>(by rw[z,g0] at q;cases q)⟩
  have kk:∀b o,b≠e->b≠it->s.heap.get? b=some o->h2.get? b=some o:=fun b o n1 n2 q=>(sb2.2 b n1).trans (k1 b o n1 n2 q)
  have up:∀b v,H b=some v->upd H s.heap.objs.size (.tup [.int i,x]) b=some v:=fun b v q=>by rw[cm (cq q hp)];exact q
  have I1:Inv X pins σ (upd H s.heap.objs.size (.tup [.int i, x])) { s with heap := h2, gens := s.gens, drawn := s.drawn, toks := s.toks+1 } := by
   refine I.step (g':=s.gens) (d':=s.drawn) (ch:=[e,it]) (fun b hb=>?_) (fun b o _ _ hb q _=>kk b o (fun z=>hb (by simp[z])) (fun z=>hb (by simp[z])) q) (fun b o _ _ hb q _=>⟨o.slots,kk b o (fun z=>hb (by simp[z])) (fun z=>hb (by simp[z])) q⟩) (fun b o _ q n=>?_)
    (fun b o hb q=>⟨o,kk b o (fun z=>hb (by simp[z])) (fun z=>hb (by simp[z])) q⟩) (fun b ys q=>up b _ q) (fun b o v q=>up b _ q) (fun b ps q=>⟨#[],by rw[up b _ q];simp⟩) (fun m hm=>?_) (fun b v q=>?_) I.bare
   ·have hb:b=e∨b=it:=by simpa using hb
    rcases hb with z | z
    ·subst z;exact⟨f3,f1,f4,f5⟩
    ·subst z;exact⟨g3,g1,g4,g5⟩
   ·rw[cm (am (af q))];exact n
   ·obtain⟨o,es,ep,ho,r⟩:=hm
    exact⟨o,es,ep,kk _ o (Ne.symm f1) (Ne.symm g1) ho,r⟩
   ·by_cases hb:b=s.heap.objs.size
    ·subst hb
     rw[cn] at q
     have q':HO.tup [V.int i,x]=v:=ae q
     subst q'
     exact⟨by show 2<=sizeLine;decide,[.int i s.toks,u],.cons ⟨_,rfl⟩ (.cons ru .nil),⟨_,T2,rfl,_,rfl,rfl⟩⟩
    ·rw[cm hb] at q
     refine(I.hok b v q).stay (fun c v' hc q'=>?_) (fun c q=>up c _ q) fun c ys q=>up c _ q
     rcases hc with z | z
     ·rw[z] at q' ⊢;exact kk b v' (nit b v q).1 (nit b v q).2 q'
     ·exact kk c v' (nit c _ z).1 (nit c _ z).2 q'
  refine⟨.ref s.heap.objs.size,upd H s.heap.objs.size (.tup [.int i,x]),I1,rfl,⟨_,x,hp,rfl,fun ys hy=>by rw[I.list_inj hy hq];exact hx,rfl⟩,⟨⟨u,?_⟩,?_⟩,fun b hb=>?_⟩
  ·exact(by simpa using he2)
  ·exact hit1.at fun o q=>(sb2.2 it (Ne.symm hne)).trans q
  ·have hb:b=e∨b=it:=by simpa using hb
   rcases hb with z | z
   ·rw[z,cm (am hel)];exact f0
   ·rw[z,cm (am hil)];exact g0
 done:=by
  intro X hP hw hK hc i pins s σ H E I hf st hg
  subst hP hw hK
  obtain⟨⟨old,he⟩,hit⟩:=st
  obtain⟨xs,hq,hx⟩:=hg
  obtain⟨its,rv,p,hz⟩:=I.list hq
  obtain⟨g0,g1,g2,g3,g4,g5⟩:=hf it (by simp)
  have hl:=rv.length
  exact wpAny_pyNext_enum_end (I.ok.hd hc) he hit p.isList (by simp;omega) fun h' eb=>⟨rfl,I.turned (t':=s.toks) (fun b o hb q=>eb b o hb q) g0 g1 g3 g4 g5⟩
 self:=fun _ _ _ _ _ st h=>by
  obtain⟨⟨old,he⟩,_⟩:=st
  exact wpAny_pyIter_enum he h
mutual
inductive Rep (H:Hp):V->PyData->Prop
 | non:Rep H .non .none
 | bl (b:Bool):Rep H (.bl b) (.bool b)
 | int (i:Int):Rep H (.int i) (.int i)
 | str (x:Str):Rep H (.str x) (.str x)
 | lst {a:Addr} {xs:List V} {ds:List PyData}:H a=some (.lst xs)->RepAll H xs ds->Rep H (.ref a) (.list ds)
 | tup {a:Addr} {xs:List V} {ds:List PyData}:H a=some (.tup xs)->RepAll H xs ds->Rep H (.ref a) (.tuple ds)
inductive RepAll (H:Hp):List V->List PyData->Prop
 | nil:RepAll H [] []
 | cons {x:V} {xs:List V} {d:PyData} {ds:List PyData}:Rep H x d->RepAll H xs ds->RepAll H (x::xs) (d::ds)
end
mutual
theorem Rep.reads {P:Program}{w:World}{H:Hp}{h:Heap}(ok:HOk P w H h):∀ {v:V}{d:PyData}{u:Value},Rep H v d->RelV v u->∃as,Reads h u d as
 | _,_,_,.non,r=>by cases r;exact⟨_,.none⟩
 | _,_,_,.bl b,r=>by cases r;exact⟨_,.bool b⟩
 | _,_,_,.int i,r=>by obtain⟨t,rfl⟩:=r;exact⟨_,.int i t⟩
 | _,_,_,.str x,r=>by obtain⟨t,rfl⟩:=r;exact⟨_,.str x t⟩
 | _,_,_,.lst (a:=a) (xs:=xs) e rs,r=>by
  cases r
  obtain⟨_,its,n,rv,eh⟩:=(show ObjOk P w H h a (.lst xs) from ok a _ e)
  obtain⟨as,z⟩:=RepAll.reads ok rs rv
  exact⟨_,.list eh rfl rfl (by simpa using z)⟩
 | _,_,_,.tup (a:=a) (xs:=xs) e rs,r=>by
  cases r
  obtain⟨_,its,rv,o,eh,hc,n,hd,_⟩:=(show ObjOk P w H h a (.tup xs) from ok a _ e)
  obtain⟨as,z⟩:=RepAll.reads ok rs rv
  exact⟨_,.tuple eh hc hd (by simpa using z)⟩
theorem RepAll.reads {P:Program}{w:World}{H:Hp}{h:Heap}(ok:HOk P w H h):∀ {vs:List V}{ds:List PyData}{us:List Value}, RepAll H vs ds -> Vals vs us -> ∃as, ReadsAll h us ds as
 | _,_,_,.nil,r=>by cases r;exact⟨_,.nil⟩
 | _,_,_,.cons q qs,r=>by
  cases r with
  | cons r1 r2 =>
   obtain⟨as,z⟩:=Rep.reads ok q r1
   obtain⟨bs,zs⟩:=RepAll.reads ok qs r2
   exact⟨_,.cons z zs⟩
end
mutual
theorem Rep.same {H H':Hp}(s:Same H H'):∀ {v:V}{d:PyData},Rep H v d->Rep H' v d
 | _,_,.non=>.non
 | _,_,.bl b=>.bl b
 | _,_,.int i=>.int i
 | _,_,.str x=>.str x
 | _,_,.lst e rs=>.lst (s _ _ e) (rs.same s)
 | _,_,.tup e rs=>.tup (s _ _ e) (rs.same s)
theorem RepAll.same {H H':Hp}(s:Same H H'):∀ {vs:List V}{ds:List PyData},RepAll H vs ds->RepAll H' vs ds
 | _,_,.nil=>.nil
 | _,_,.cons q qs=>.cons (q.same s) (qs.same s)
end
section
variable {X:Cx}
def shp (d:PyData):Prop:=SeqAt.shaped d=true
def rEqD:R2:=fun x y H Q=>∃da db,Rep H x da/\Rep H y db/\shp da/\shp db/\Q (.bl (PyData.eqv da db)) H
def rNeD:R2:=fun x y H Q=>∃da db,Rep H x da/\Rep H y db/\shp da/\shp db/\Q (.bl (!PyData.eqv da db)) H
theorem vh (hu:X.A.units+64<cLine):OpR X (compareOp .Eq) rEqD:=by
 intro pins s σ H x y v u Q I rx ry h
 obtain⟨da,db,ra,rb,sa,sb,q⟩:=h
 obtain⟨as,za⟩:=ra.reads I.hok rx
 obtain⟨bs,zb⟩:=rb.reads I.hok ry
 exact eq_dataH za zb sa sb hu ⟨.bl _,H,I,rfl,q⟩
theorem uY (hu:X.A.units+64<cLine):OpR X (compareOp .NotEq) rNeD:=by
 intro pins s σ H x y v u Q I rx ry h
 obtain⟨da,db,ra,rb,sa,sb,q⟩:=h
 obtain⟨as,za⟩:=ra.reads I.hok rx
 obtain⟨bs,zb⟩:=rb.reads I.hok ry
 exact ne_dataH za zb sa sb hu ⟨.bl _,H,I,rfl,q⟩
theorem pB:OpR X (compareOp .LtE) (fun x y H Q=>∃i j,x=.str i/\y=.str j/\Q (.bl (!decide (j.cps.toList<i.cps.toList))) H):=by
 intro pins s σ H x y v u Q I rx ry h
 obtain⟨i,j,rfl,rfl,q⟩:=h
 obtain⟨t,rfl⟩:=rx
 obtain⟨t',rfl⟩:=ry
 exact PySem.P.le_str (cL I q (by simp))
theorem pU (bs:List Bool):((List.range bs.length).all fun i=>bs.getD i false)=bs.all id:=by
 rw[aZ,aW,aW]
 constructor
 ·intro h b hb
  obtain⟨i,hi,rfl⟩:=bG.mp hb
  have:=h i (by simpa using hi)
  simpa [aE,hi] using this
 ·intro h i hi
  have hi:i<bs.length:=by simpa using hi
  have:=h bs[i] (bu hi)
  simpa [aE,hi] using this
theorem tN {bs:List Bool}{its:List Value}(r:Vals (bs.map V.bl) its) {i:Nat}{v:Value}(e:its[i]? = some v):v=.bool (bs.getD i false):=by
 have hl:=r.length
 rw[ab] at hl
 have hi:i<bs.length:=by rw[hl];exact(ak.mp e).1
 obtain⟨u,hu,ru⟩:=r.get (i:=i) (x:=V.bl (bs.getD i false)) (by rw[ag];simp[aE,hi])
 rw[e] at hu
 cases hu
 exact ru
theorem mO (hc:X.calm=true):ed X (.builtin "all") (fun xs H Q=>∃p bs,xs=[.ref p]/\H p=some (.lst (List.map V.bl bs))/\Q (.bl (bs.all id)) H):=by
 intro pins s σ H xs us Q I r h
 obtain⟨p,bs,rfl,e,q⟩:=h
 obtain⟨u,rfl,ru⟩:=dR r
 cases ru
 obtain⟨hz,its,n,rv,eh⟩:=(show ObjOk X.prog X.w H s.heap p (.lst (List.map V.bl bs)) from I.hok p _ e)
 have hl:s.heap.IsList p its.toArray:=⟨_,eh,rfl,n,rfl⟩
 have hlen:its.length=bs.length:=by have:=rv.length;rw[ab] at this;exact this.symm
 have hpl:p<s.heap.objs.size:=af eh
 refine call_all_walk (wpAny_pyIter_list hl ?_)
 refine⟨s.heap.objs.size,[s.heap.objs.size,p],[s.heap.objs.size],its.toArray.size,_,_,fun i=>bs.getD i false,rfl,
  Walks.list (A:=X.A.in1) (I.ok.hd hc) _ p (am hpl) its.toArray,⟨⟨_,ao _ rfl,rfl,rfl⟩,⟨_,ah _ eh,rfl,n,rfl⟩⟩,?_,fun h' tk hk=>?_⟩
 ·intro i v s' Q' E' hv hQ'
  have hv:its[i]? = some v:=by simpa using hv
  rw[tN rv hv]
  exact ad hQ'
 ·refine⟨.bl _,H,I.kept fun b o eb=>hk b o (by simpa using am (af eb)) (ah _ eb),rfl,?_⟩
  rw[aD,hlen,pU]
  exact q
theorem ng:∀ {ys:List Str}{us:List Value}, Vals (ys.map V.str) us -> StrsAre us ys
 | [],us,r=>by cases r;exact .nil
 | y::ys,us,r=>by
  cases r with
  | cons r1 r2 =>
   obtain⟨t,rfl⟩:=r1
   exact .cons y t (ng r2)
def rP:V->List V->Hp->VK->Prop:=fun x xs H Q=>∃z p ys,x=.str z/\xs=[.ref p]/\H p=some (.lst (List.map V.str ys))/\(ys.map (·.length)).sum+ys.length * z.length<=16777216/\Q (.str (Txt.join z ys)) H
theorem sG:MtR X "str.join" rP:=by
 intro pins s σ H x xs v us Q I rx rv h
 obtain⟨z,p,ys,rfl,rfl,e,hz,q⟩:=h
 obtain⟨t,rfl⟩:=rx
 obtain⟨u,rfl,ru⟩:=dR rv
 cases ru
 obtain⟨_,its,n,rv,eh⟩:=(show ObjOk X.prog X.w H s.heap p (.lst (List.map V.str ys)) from I.hok p _ e)
 exact join_list (D:=p) (items:=its.toArray) ⟨_,eh,rfl,n,rfl⟩ (by simpa using ng rv) hz fun t' k=>⟨.str _,H,I.tok k,⟨t',rfl⟩,q⟩
def rSlS:V->Option Int->Option Int->Hp->VK->Prop:=fun x lo hi H Q=>∃z,x=.str z/\z.length<=sizeLine/\Q (.str (Txt.slice z lo hi)) H
theorem uK:SlR X rSlS:=by
 intro pins s σ H x v vl vu lo hi sl Q I rx hs pl pu h
 obtain⟨z,rfl,hz,q⟩:=h
 obtain⟨t,rfl⟩:=rx
 refine⟨"str",_,PySem.F.slot_str_getitem.lookup,typeIs_str _ _ _,?_⟩
 obtain⟨o,h1,h2,h3⟩:=hs
 have fin:∀t' k,EP X pins σ Q (.str (Txt.slice z lo hi) t') { s with toks:=k }:=fun t' k=>⟨.str _,H,I.tok k,⟨t',rfl⟩,q⟩
 cases pl with
 | none=>cases pu with
  | none=>exact wpAny_getItem_str_slice (l:=none) (u:=none) (st:=none) ⟨o,h1,h2,h3⟩ rfl (post_val_or_str ⟨aO (Txt.slice_le z _ _) hz,fin⟩)
  | int j tj=>exact wpAny_getItem_str_slice (l:=none) (u:=some (j,tj)) (st:=none) ⟨o,h1,h2,h3⟩ rfl (post_val_or_str ⟨aO (Txt.slice_le z _ _) hz,fin⟩)
 | int i ti=>cases pu with
  | none=>exact wpAny_getItem_str_slice (l:=some (i,ti)) (u:=none) (st:=none) ⟨o,h1,h2,h3⟩ rfl (post_val_or_str ⟨aO (Txt.slice_le z _ _) hz,fin⟩)
  | int j tj=>exact wpAny_getItem_str_slice (l:=some (i,ti)) (u:=some (j,tj)) (st:=none) ⟨o,h1,h2,h3⟩ rfl (post_val_or_str ⟨aO (Txt.slice_le z _ _) hz,fin⟩)
def ut (K:W.Frag) (c:String):List V->Hp->VK->Prop:=fun xs H Q=>∃x t b,xs=[x,.ty c]/\TyOf K H x t/\W.kitOne K t (.type c)=some b/\Q (.bl b) H
theorem rh (c:String):ed X (.builtin "isinstance") (ut X.K c):=by
 intro pins s σ H xs us Q I r h
 obtain⟨x,t,b,rfl,ty,e,q⟩:=h
 obtain⟨u,w',rfl,ru,rw'⟩:=fW r
 cases rw'
 exact pE I ru ty e fun tk=>⟨.bl b,H,I.tok tk,rfl,q⟩
def vq:List V->Hp->VK->Prop:=fun xs H Q=>∃x d,xs=[x]/\Rep H x d/\d.showable=true/\d.hasDict=false/\d.depth<=16/\d.shown.length<=sizeLine/\Q (.str d.shown) H
theorem km (hg:X.A.guards=some []) (hu:X.A.units+64<cLine):ed X (.builtin "repr") vq:=by
 intro pins s σ H xs us Q I r h
 obtain⟨x,d,rfl,rep,hs,hd,hdp,hz,q⟩:=h
 obtain⟨u,rfl,ru⟩:=dR r
 have rd:=rep.reads I.hok ru
 have byRef:∀a,u=.ref a->wpAny (model X.prog X.w) X.A (call (.builtin "repr") [.ref a]) (EP X pins σ Q) X.xe s:=fun a e=>by
  subst e
  obtain⟨as,rd⟩:=rd
  exact repr_of_reads' rd hs (PyData.noDict_hsm hd) hg (by omega) (fun _ _ e=>e) (fun h' u' tk hk=>⟨.str _,H,I.kept hk,⟨u',rfl⟩,q⟩) hz
 cases rep with
 | non=>cases ru;exact PySem.P.repr_of_none ⟨.str _,H,I.tok _,⟨_,rfl⟩,q⟩
 | bl b=>cases ru;exact PySem.P.repr_of_bool ⟨.str _,H,I.tok _,⟨_,rfl⟩,q⟩
 | int i =>
  obtain⟨t,rfl⟩:=ru
  exact PySem.P.repr_of_int (by simpa [PyData.showable] using hs) ⟨.str _,H,I.tok _,⟨_,rfl⟩,q⟩
 | str y =>
  obtain⟨t,rfl⟩:=ru
  exact PySem.P.repr_of_str ⟨.str _,H,I.tok _,⟨_,rfl⟩,q⟩ hz
 | lst e rs=>cases ru;exact byRef _ rfl
 | tup e rs=>cases ru;exact byRef _ rfl
def p5:V->Bool
 | .non | .bl _ | .int _ | .str _=>true
 | _=>false
def flD:V->PyData
 | .bl b=>.bool b
 | .int i=>.int i
 | .str x=>.str x
 | _=>.none
theorem qN {h:Heap}{v:V}{u:Value}(f:p5 v=true) (r:RelV v u):Reads h u (flD v) []:=by
 cases v with
 | non=>cases r;exact .none
 | bl b=>cases r;exact .bool b
 | int i=>obtain⟨t,rfl⟩:=r;exact .int i t
 | str x=>obtain⟨t,rfl⟩:=r;exact .str x t
 | _=>cases f
theorem mw {P:Program}{w:World}{h:Heap}:∀ {kvs:List (Key × V)}{vs:List (Key × Value)}{es:List DictEntry}, KV kvs vs -> Pairs (cW P w) es vs -> kvs.all (fun p => p5 p.2)=true ->
    ReadsAll h (es.map (·.key)) ((kvs.map fun p=>(flD (kV p.1),flD p.2)).map (·.1)) []/\ReadsAll h (es.map (·.val)) ((kvs.map fun p=>(flD (kV p.1),flD p.2)).map (·.2)) []
 | [],_,_,r,q,_=>by
  cases r
  cases q
  exact⟨.nil,.nil⟩
 | p :: kvs, vs, es, r, q, f => by
  cases r with
  | @cons _ b _ vs' r1 r2 =>
   cases q with
   | cons qk qv q2 =>
    rw[List.all_cons,bg] at f
    obtain⟨a1,a2⟩:=mw r2 q2 f.2
    rename_i en es'
    have k1:Reads h en.key (flD (kV p.1)) []:=by
     have hk:=qk
     rw[<- r1.1] at hk
     rcases dh hk with⟨i,t,e1,e2⟩ | ⟨x,t,e1,e2⟩
     ·rw[e1,e2];exact .int i t
     ·rw[e1,e2];exact .str x t
    have v1:Reads h en.val (flD p.2) []:=by
     rw[qv]
     exact qN f.1 r1.2
    exact⟨.cons k1 a1,.cons v1 a2⟩
def jD (kvs:List (Key × V)):PyData:=.dict (kvs.map fun p=>(flD (kV p.1),flD p.2))
inductive ReprR (H:Hp):V->VK->Prop
 | tr {x:V} {d:PyData} {Q:VK}:Rep H x d->d.showable=true->d.hasDict=false->d.depth<=16->d.shown.length<=sizeLine->Q (.str d.shown) H->ReprR H x Q
 | dc {a:Addr} {kvs:List (Key × V)} {Q:VK}:H a=some (.dK kvs)->kvs.all (fun p=>p5 p.2)=true->(jD kvs).showable=true->(jD kvs).depth<=16->(jD kvs).shown.length<=sizeLine->Q (.str (jD kvs).shown) H->ReprR H (.ref a) Q
def pk:List V->Hp->VK->Prop:=fun xs H Q=>∃x,xs=[x]/\ReprR H x Q
theorem nO (hg:X.A.guards=some []) (hu:X.A.units+64<cLine):ed X (.builtin "repr") pk:=by
 intro pins s σ H xs us Q I r h
 obtain⟨x,rfl,h⟩:=h
 cases h with
 | tr rep hs hd hdp hz q=>exact km hg hu pins s σ H _ us Q I r ⟨_,_,rfl,rep,hs,hd,hdp,hz,q⟩
 | @dc a kvs _ e f hs hdp hz q =>
  obtain⟨u,rfl,ru⟩:=dR r
  cases ru
  obtain⟨_,hsys,vs,rv,o,es,ep,h1,h2,h3,_,h5,_⟩:=(show ObjOk X.prog X.w H s.heap a (.dK kvs) from I.hok a _ e)
  obtain⟨k1,k2⟩:=mw (h:=s.heap) rv h5 f
  have rd:Reads s.heap (.ref a) (jD kvs) (a::[]++[]):=.dict h1 h2.1 h3 k1 k2
  refine repr_of_reads' rd hs (fun _ hm=>?_) hg (by omega) (fun _ _ e=>e) (fun h' u' tk hk=>⟨.str _,H,I.kept hk,⟨u',rfl⟩,q⟩) hz
  have:sysModules=a:=by simpa using hm
  rw[this] at hsys
  simp at hsys
theorem gh {P:Program}{w:World}{H:Hp}{h:Heap}(ok:HOk P w H h) {d:PyData}:∀ {xs:List V}{ds:List PyData}{us:List Value}, RepAll H xs ds -> Vals xs us -> PyData.canLayAll0 ds=true -> us.any (fun u => PyData.eqv (SeqAt.readOf h u) d)=ds.any fun e => PyData.eqv e d
 | _,_,_,.nil,r,_=>by cases r;rfl
 | _,_,_,.cons q qs,r,hl=>by
  cases r with
  | cons r1 r2 =>
   have hl':=Bool.and_eq_true_iff.mp (show (PyData.canLay0 _&&PyData.canLayAll0 _)=true from hl)
   obtain⟨as,z⟩:=q.reads ok r1
   rw[bE,bE,SeqAt.readOf_eq hl'.1 z,gh ok qs r2 hl'.2]
theorem gg {P:Program}{w:World}{H:Hp}{A:Around}{s:Shared}(ok:HOk P w H s.heap) {d:PyData}{x:V}{v:Value}{bs:List Addr}(zx:Reads s.heap v d bs) (hd:d.canLay0=true) (hu:A.units+d.depth<cLine) :
    ∀ {xs:List V} {ds:List PyData} {us:List Value},RepAll H xs ds->Vals xs us->PyData.canLayAll0 ds=true->∀u∈us,SeqAt.EqAt A s u v (PyData.eqv (SeqAt.readOf s.heap u) d)
 | _,_,_,.nil,r,_=>by cases r;intro u hu;cases hu
 | _, _, _, .cons q qs, r, hl => by
  cases r with
  | cons r1 r2 =>
   have hl':=Bool.and_eq_true_iff.mp (show (PyData.canLay0 _&&PyData.canLayAll0 _)=true from hl)
   intro u hm
   rcases aR.mp hm with rfl | hm
   ·obtain⟨as,z⟩:=q.reads ok r1
    rw[SeqAt.readOf_eq hl'.1 z]
    exact SeqAt.eqAt_reads _ _ _ _ _ _ _ _ z zx hl'.1 hd (Nat.lt_of_le_of_lt (Nat.add_le_add_left (Nat.min_le_right _ _) _) hu)
   ·exact gg (x:=x) ok zx hd hu qs r2 hl'.2 u hm
def u8 (neg:Bool):R2:=fun x y H Q=>∃p xs ds d,y=.ref p/\H p=some (.lst xs)/\RepAll H xs ds/\Rep H x d/\PyData.canLayAll0 ds=true/\d.canLay0=true/\d.depth<=16 /\
 Q (.bl (if neg then !(ds.any fun e=>PyData.eqv e d) else ds.any fun e=>PyData.eqv e d)) H
theorem u0 (hu:X.A.units+64<cLine):OpR X (compareOp .In) (u8 false):=by
 intro pins s σ H x y v u Q I rx ry h
 obtain⟨p,xs,ds,d,rfl,e,rs,r,cs,c,dp,q⟩:=h
 cases ry
 obtain⟨_,its,n,rv,eh⟩:=(show ObjOk X.prog X.w H s.heap p (.lst xs) from I.hok p _ e)
 obtain⟨bs,zx⟩:=r.reads I.hok rx
 refine SeqAt.in_listAt (fun u=>PyData.eqv (SeqAt.readOf s.heap u) d) ⟨_,eh,rfl,n,rfl⟩ (fun w hw=>gg (x:=x) I.hok zx c (by show X.A.units+1+d.depth<cLine;omega) rs rv cs w (by simpa using hw)) ⟨.bl _,H,I,rfl,?_⟩
 rw[show its.toArray.any (fun u=>PyData.eqv (SeqAt.readOf s.heap u) d)=its.any (fun u=>PyData.eqv (SeqAt.readOf s.heap u) d) by simp,gh I.hok rs rv cs]
 exact q
theorem oM (hu:X.A.units+64<cLine):OpR X (compareOp .NotIn) (u8 true):=by
 intro pins s σ H x y v u Q I rx ry h
 obtain⟨p,xs,ds,d,rfl,e,rs,r,cs,c,dp,q⟩:=h
 cases ry
 obtain⟨_,its,n,rv,eh⟩:=(show ObjOk X.prog X.w H s.heap p (.lst xs) from I.hok p _ e)
 obtain⟨bs,zx⟩:=r.reads I.hok rx
 refine SeqAt.notIn_listAt (fun u=>PyData.eqv (SeqAt.readOf s.heap u) d) ⟨_,eh,rfl,n,rfl⟩ (fun w hw=>gg (x:=x) I.hok zx c (by show X.A.units+1+d.depth<cLine;omega) rs rv cs w (by simpa using hw)) ⟨.bl _,H,I,rfl,?_⟩
 rw[show its.toArray.any (fun u=>PyData.eqv (SeqAt.readOf s.heap u) d)=its.any (fun u=>PyData.eqv (SeqAt.readOf s.heap u) d) by simp,gh I.hok rs rv cs]
 exact q
end
structure Cal (P:Program) (w:World) (K:W.Frag) (mg:Str->Option Value) (base:Heap) (k:Nat) (x:Str) (ps:List Str) (sp:Sp):Prop where
 ex:∃(f:Addr) (fd:FuncData),FnOk P w K mg base CX0 k f fd ps sp/\mg x=some (.ref f)/\W.keepIn K (.ref f)=true/\Binds K fd ps []
section
variable {X:Cx}{x:Str}{ps:List Str}{sp:Sp}{k j:Nat}{p pos:Pos}{e:Expr}{es:List Expr}{t:TA}
theorem cr (c:Cal X.prog X.w X.K X.mg X.base k x ps sp) (hr:Room k X.A) (hg:Gl X x) (ha:PA X (e::es) t)
    (hs:starEach (e::es) X.env=(false,eval e X.env)::starEach es X.env:=by rfl) (hpl:(backTo pos (starEach es X.env)).any (·.1)=false:=by rfl) (hdb:(x==("__debug__":Str))=false:=by decide) :
    PE X (.Call (.Name x p) (e::es) [] pos) (rJ sp [] E0 t):=by
 obtain⟨f,fd,G,mf,kp,b⟩:=c.ex
 exact sD G hr hg mf kp b .nil vp ha (hdb:=hdb) (he:=hs) (hpl:=hpl)
end
section
variable {X:Cx}
inductive AddR (H:Hp):V->V->VK->Prop
 | int {i j:Int} {Q:VK}:Q (.int (i+j)) H->AddR H (.int i) (.int j) Q
 | str {i j:Str} {Q:VK}:i.length+j.length<=sizeLine->Q (.str (i++j)) H->AddR H (.str i) (.str j) Q
 | lst {l b:Addr} {xs zs:List V} {Q:VK}:H l=some (.lst xs)->H b=some (.lst zs)->xs.length+zs.length<=sizeLine->(∀p,H p=none->Q (.ref p) (upd H p (.lst (xs++zs))))->AddR H (.ref l) (.ref b) Q
theorem cO:OpR X (binaryOp .Add) (fun x y H Q=>AddR H x y Q):=by
 intro pins s σ H x y v u Q I rx ry h
 cases h with
 | int q=>exact uN pins s σ H _ _ v u Q I rx ry ⟨_,_,rfl,rfl,q⟩
 | str hz q=>exact ny pins s σ H _ _ v u Q I rx ry ⟨_,_,rfl,rfl,hz,q⟩
 | lst h1 h2 hz q=>exact va pins s σ H _ _ v u Q I rx ry ⟨_,_,_,_,rfl,rfl,h1,h2,hz,q⟩
inductive EqR (neg:Bool) (H:Hp):V->V->VK->Prop
 | sc {x y:V} {Q:VK}:p8 x y=true->Q (.bl (if neg then !decide (x=y) else decide (x=y))) H->EqR neg H x y Q
 | tr {x y:V} {da db:PyData} {Q:VK}:Rep H x da->Rep H y db->shp da->shp db->Q (.bl (if neg then !PyData.eqv da db else PyData.eqv da db)) H->EqR neg H x y Q
theorem dg (hu:X.A.units+64<cLine):OpR X (compareOp .Eq) (fun x y H Q=>EqR false H x y Q):=by
 intro pins s σ H x y v u Q I rx ry h
 cases h with
 | sc h q=>exact vA pins s σ H _ _ v u Q I rx ry ⟨h,q⟩
 | tr ra rb sa sb q=>exact vh hu pins s σ H _ _ v u Q I rx ry ⟨_,_,ra,rb,sa,sb,q⟩
theorem eJ (hu:X.A.units+64<cLine):OpR X (compareOp .NotEq) (fun x y H Q=>EqR true H x y Q):=by
 intro pins s σ H x y v u Q I rx ry h
 cases h with
 | sc h q=>exact vI pins s σ H _ _ v u Q I rx ry ⟨h,q⟩
 | tr ra rb sa sb q=>exact uY hu pins s σ H _ _ v u Q I rx ry ⟨_,_,ra,rb,sa,sb,q⟩
inductive SlX (K:W.Frag) (H:Hp):V->Option Int->Option Int->VK->Prop
 | str {z:Str} {lo hi:Option Int} {Q:VK}:z.length<=sizeLine->Q (.str (Txt.slice z lo hi)) H->SlX K H (.str z) lo hi Q
 | lst {a:Addr} {xs:List V} {lo hi:Option Int} {Q:VK}:SqL K H a xs->(∀p,H p=none->Q (.ref p) (upd H p (.lst (gy xs lo hi))))->SlX K H (.ref a) lo hi Q
theorem sl_X:SlR X (fun x lo hi H Q=>SlX X.K H x lo hi Q):=by
 intro pins s σ H x v vl vu lo hi sl Q I rx hs pl pu h
 cases h with
 | str hz q=>exact uK pins s σ H _ v vl vu lo hi sl Q I rx hs pl pu ⟨_,rfl,hz,q⟩
 | lst h1 q=>exact sj pins s σ H _ v vl vu lo hi sl Q I rx hs pl pu ⟨_,_,rfl,h1,q⟩
end
section
variable {X:Cx}
inductive CmR (f:Int->Int->Bool) (g:Str->Str->Bool) (H:Hp):V->V->VK->Prop
 | int {i j:Int} {Q:VK}:Q (.bl (f i j)) H->CmR f g H (.int i) (.int j) Q
 | str {i j:Str} {Q:VK}:Q (.bl (g i j)) H->CmR f g H (.str i) (.str j) Q
theorem iM:OpR X (compareOp .LtE) (fun x y H Q=>CmR (fun i j=>decide (i<=j)) (fun i j=>!decide (j.cps.toList<i.cps.toList)) H x y Q):=by
 intro pins s σ H x y v u Q I rx ry h
 cases h with
 | int q=>exact vH pins s σ H _ _ v u Q I rx ry ⟨_,_,rfl,rfl,q⟩
 | str q=>exact pB pins s σ H _ _ v u Q I rx ry ⟨_,_,rfl,rfl,q⟩
theorem gU:OpR X (compareOp .Lt) (fun x y H Q=>CmR (fun i j=>decide (i<j)) (fun i j=>decide (i.cps.toList<j.cps.toList)) H x y Q):=by
 intro pins s σ H x y v u Q I rx ry h
 cases h with
 | int q=>exact vy pins s σ H _ _ v u Q I rx ry ⟨_,_,rfl,rfl,q⟩
 | str q=>exact oo pins s σ H _ _ v u Q I rx ry ⟨_,_,rfl,rfl,q⟩
inductive IsB (neg:Bool) (H:Hp):V->V->VK->Prop
 | int {i:Int} {b:Bool} {Q:VK}:Q (.bl neg) H->IsB neg H (.int i) (.bl b) Q
 | bl {c b:Bool} {Q:VK}:Q (.bl (if neg then !decide (c=b) else decide (c=b))) H->IsB neg H (.bl c) (.bl b) Q
 | non {x:V} {Q:VK}:Q (.bl (if neg then !decide (x=.non) else decide (x=.non))) H->IsB neg H x .non Q
theorem gL:OpR X (compareOp .IsNot) (fun x y H Q=>IsB true H x y Q):=by
 intro pins s σ H x y v u Q I rx ry h
 cases h with
 | int q =>
  obtain⟨t,rfl⟩:=rx
  cases ry
  exact wpAny_isNot_other (by rfl) (by intro z;cases z) ⟨.bl _,H,I,rfl,q⟩
 | @bl c b _ q =>
  cases rx
  cases ry
  exact wpAny_isNot_plain (by rfl) (cL I q (by cases c <;> cases b <;> rfl))
 | non q=>exact ug pins s σ H _ _ v u Q I rx ry ⟨rfl,q⟩
theorem iP:OpR X (compareOp .Is) (fun x y H Q=>IsB false H x y Q):=by
 intro pins s σ H x y v u Q I rx ry h
 cases h with
 | int q =>
  obtain⟨t,rfl⟩:=rx
  cases ry
  exact wpAny_is_other (by rfl) (by intro z;cases z) ⟨.bl _,H,I,rfl,q⟩
 | @bl c b _ q =>
  cases rx
  cases ry
  exact wpAny_is_plain (by rfl) (cL I q (by cases c <;> cases b <;> rfl))
 | non q=>exact vc pins s σ H _ _ v u Q I rx ry ⟨rfl,q⟩
theorem uR (K:W.Frag) {o e:Expr}{to:TE}{t:TA}{apos cpos:Pos}(ho:PE X o to) (ha:PA X [e] t)
    (hbase:attributeBase o "join" X.env (eval o X.env)=eval o X.env:=by rfl)
    (hfew:((backTo cpos (starEach [e] X.env)).all (fun x=>!x.1)&&(backToKw cpos (keywordEach [] X.env)).all (fun x=>x.1.isSome)
     && decide ([e].length+([]:List Keyword).length+(if ([]:List Keyword).isEmpty then 0 else 1)<30))=true:=by rfl)
    (hline:(apos.endLine==cpos.line)=true:=by rfl) (hs:starEach [e] X.env=(false,eval e X.env)::starEach [] X.env:=by rfl) (hplain:(backTo cpos (starEach [] X.env)).any (·.1)=false:=by rfl) (hK:X.K=K:=by rfl) :
    PE X (.Call (.Attribute o "join" apos) [e] [] cpos) (tBM K "str" rP to t):=hK ▸ lD PySem.F.plainAttrs_str PySem.F.slot_str_join PySem.F.type_str_join sG ho ha hbase hfew hline hs hplain
theorem fN (K:W.Frag) {o e:Expr}{to:TE}{t:TA}{apos cpos:Pos}(ho:PE X o to) (ha:PA X [e] t)
    (hbase:attributeBase o "append" X.env (eval o X.env)=eval o X.env:=by rfl)
    (hfew:((backTo cpos (starEach [e] X.env)).all (fun x=>!x.1)&&(backToKw cpos (keywordEach [] X.env)).all (fun x=>x.1.isSome)
     && decide ([e].length+([]:List Keyword).length+(if ([]:List Keyword).isEmpty then 0 else 1)<30))=true:=by rfl)
    (hline:(apos.endLine==cpos.line)=true:=by rfl) (hs:starEach [e] X.env=(false,eval e X.env)::starEach [] X.env:=by rfl) (hplain:(backTo cpos (starEach [] X.env)).any (·.1)=false:=by rfl) (hK:X.K=K:=by rfl) :
    PE X (.Call (.Attribute o "append" apos) [e] [] cpos) (tBM K "list" mS to t):=hK ▸ lD PySem.F.plainAttrs_list PySem.F.slot_list_append PySem.F.type_list_append kN ho ha hbase hfew hline hs hplain
theorem nW (K:W.Frag) (hK:X.K=K:=by rfl):SlR X (fun x lo hi H Q=>SlX K H x lo hi Q):=hK ▸ sl_X
theorem cV (K:W.Frag) {tg l:Expr}{tl:TE}(hl:PE X l tl) (hK:X.K=K:=by rfl):PI X tg l (rV K tl):=hK ▸ sk hl
theorem dN (K:W.Frag) {tg l:Expr}{tl:TE}(hl:PE X l tl) (hK:X.K=K:=by rfl):PI X tg l (uC K tl):=hK ▸ uH hl
end
theorem eF {i:Nat}{v:V}{σ:St}{H:Hp}{A B:St->Hp->Prop}(h:A (σ.set i (some v)) H):iX i v σ H fun σ2 H3=>qX σ2 H3 fun b H4=>if b=true then A σ2 H4 else B σ2 H4:=by
 show (if true=true then A (σ.set i (some v)) H else B (σ.set i (some v)) H)
 rw[if_pos rfl]
 exact h
section
variable {K:W.Frag}{k:Nat}{fr:List Nat}{g:TG}{tc:TT}{te:TE}{σ:St}{H1:Hp}{Q:VK}
theorem fA {J:It}(xs:List V) (Ok:Hp -> Prop) (hgo:∀i H, Ok H -> i<xs.length -> J.go i H) (hyl:∀i H x H', Ok H -> i<xs.length -> J.yld i H x H' -> H'=H /\ xs[i]? = some x) (hst:∀H, Ok H -> J.stop xs.length H)
    (Pv:Addr->Nat->List V->St->Hp->Prop)
    (h:∀D,H1 D=none->Pv D 0 [] (fO k fr σ) (upd H1 D (.lst []))/\(∀i acc σ' H',i<=xs.length->Pv D i acc σ' H'->H' D=some (.lst acc)->Ok H') /\
     (∀i acc σ' H' x,xs[i]? = some x->Pv D i acc σ' H'->H' D=some (.lst acc)->g x σ' H' fun σ2 H3=>tc σ2 H3 fun b H4 =>
      if b=true then te σ2 H4 fun y H5=>H5 D=some (.lst acc)/\acc.length<sizeLine/\Pv D (i+1) (acc++[y]) σ2 (upd H5 D (.lst (acc++[y]))) else H4 D=some (.lst acc)/\Pv D (i+1) acc σ2 H4) /\
     ∀acc σ' H',Pv D xs.length acc σ' H'->H' D=some (.lst acc)->Q (.ref D) H'):fw k fr g tc te J σ H1 Q:=by
 intro D hD
 obtain⟨h0,hok,hs,hd⟩:=h D hD
 refine⟨fun i m acc σ' H'=>m=xs.length-i/\i<=xs.length/\Pv D i acc σ' H',⟨xs.length,by simp,aL _,h0⟩,?_⟩
 rintro i m acc σ' H' ⟨rfl,hi,p⟩ hacc
 have ok:=hok i acc σ' H' hi p hacc
 by_cases hlt:i<xs.length
 ·refine .inr ⟨hgo i H' ok hlt,Pv D (i+1),fun acc' σ2 H2 p'=>⟨xs.length-(i+1),by omega,rfl,hlt,p'⟩,fun x H2 y=>?_⟩
  obtain⟨e,hx⟩:=hyl i H' x H2 ok hlt y
  subst e
  exact hs i acc σ' H2 x hx p hacc
 ·have e:i=xs.length:=by omega
  subst e
  exact .inl ⟨hst H' ok,hd acc σ' H' p hacc⟩
def fR (n:Nat):List V:=(List.range n).map fun i=>V.int (0+(i:Nat))
theorem iw {n:Nat}(Pv:Addr -> Nat -> List V -> St -> Hp -> Prop)
    (h:∀D,H1 D=none->Pv D 0 [] (fO k fr σ) (upd H1 D (.lst [])) /\
     (∀i acc σ' H',i<n->Pv D i acc σ' H'->H' D=some (.lst acc)->g (.int (0+(i:Nat))) σ' H' fun σ2 H3=>tc σ2 H3 fun b H4 =>
      if b=true then te σ2 H4 fun y H5=>H5 D=some (.lst acc)/\acc.length<sizeLine/\Pv D (i+1) (acc++[y]) σ2 (upd H5 D (.lst (acc++[y]))) else H4 D=some (.lst acc)/\Pv D (i+1) acc σ2 H4) /\
     ∀acc σ' H',Pv D n acc σ' H'->H' D=some (.lst acc)->Q (.ref D) H'):fw k fr g tc te (Itr 0 n) σ H1 Q:=by
 have hl:(fR n).length=n:=by simp[fR]
 refine fA (fR n) (fun _=>True) (fun i H _ hi=>by rw[hl] at hi;exact hi) (fun i H x H' _ hi y=>⟨y.1,?_⟩) (fun H _=>by show n<=(fR n).length;rw[hl];exact ac _) Pv fun D hD=>?_
 ·rw[hl] at hi
  rw[y.2]
  simp[fR,hi]
 ·obtain⟨a,b,c⟩:=h D hD
  refine⟨a,fun _ _ _ _ _ _ _=>trivial,fun i acc σ' H' x hx p hacc=>?_,by rw[hl];exact c⟩
  have hi:i<n:=by rw[<- hl];exact(ak.mp hx).1
  have e:x=V.int (0+(i:Nat)):=by
   simp[fR,hi] at hx
   rw[<- hx];simp
  subst e
  exact b i acc σ' H' hi p hacc
theorem dI {a:Addr}(xs:List V) (Pv:Addr -> Nat -> List V -> St -> Hp -> Prop)
    (h:∀D,H1 D=none->Pv D 0 [] (fO k fr σ) (upd H1 D (.lst []))/\(∀i acc σ' H',i<=xs.length->Pv D i acc σ' H'->H' D=some (.lst acc)->SqL K H' a xs) /\
     (∀i acc σ' H' x,xs[i]? = some x->Pv D i acc σ' H'->H' D=some (.lst acc)->g x σ' H' fun σ2 H3=>tc σ2 H3 fun b H4 =>
      if b=true then te σ2 H4 fun y H5=>H5 D=some (.lst acc)/\acc.length<sizeLine/\Pv D (i+1) (acc++[y]) σ2 (upd H5 D (.lst (acc++[y]))) else H4 D=some (.lst acc)/\Pv D (i+1) acc σ2 H4) /\
     ∀acc σ' H',Pv D xs.length acc σ' H'->H' D=some (.lst acc)->Q (.ref D) H'):fw k fr g tc te (Itl K a) σ H1 Q :=
 fA xs (fun H=>SqL K H a xs) (fun i H q hi=>⟨xs,xs[i],q,by simp[hi]⟩) (fun i H x H' q hi y=>⟨y.1,y.2 xs q⟩) (fun H q=>⟨xs,q,ac _⟩) Pv h
theorem ev {a:Addr}(xs:List V) (Pv:Addr -> Nat -> List V -> St -> Hp -> Prop)
    (h:∀D,H1 D=none->Pv D 0 [] (fO k fr σ) (upd H1 D (.lst []))/\(∀i acc σ' H',i<=xs.length->Pv D i acc σ' H'->H' D=some (.lst acc)->SqT K H' a xs) /\
     (∀i acc σ' H' x,xs[i]? = some x->Pv D i acc σ' H'->H' D=some (.lst acc)->g x σ' H' fun σ2 H3=>tc σ2 H3 fun b H4 =>
      if b=true then te σ2 H4 fun y H5=>H5 D=some (.lst acc)/\acc.length<sizeLine/\Pv D (i+1) (acc++[y]) σ2 (upd H5 D (.lst (acc++[y]))) else H4 D=some (.lst acc)/\Pv D (i+1) acc σ2 H4) /\
     ∀acc σ' H',Pv D xs.length acc σ' H'->H' D=some (.lst acc)->Q (.ref D) H'):fw k fr g tc te (Itt K a) σ H1 Q :=
 fA xs (fun H=>SqT K H a xs) (fun i H q hi=>⟨xs,xs[i],q,by simp[hi]⟩) (fun i H x H' q hi y=>⟨y.1,y.2 xs q⟩) (fun H q=>⟨xs,q,ac _⟩) Pv h
def hV (z:Str):List V:=z.cps.toList.map fun c=>V.str ⟨#[c]⟩
theorem p7 {z:Str}(Pv:Addr -> Nat -> List V -> St -> Hp -> Prop)
    (h:∀D,H1 D=none->Pv D 0 [] (fO k fr σ) (upd H1 D (.lst [])) /\
     (∀i acc σ' H' c,z.cps.toList[i]? = some c->Pv D i acc σ' H'->H' D=some (.lst acc)->g (.str ⟨#[c]⟩) σ' H' fun σ2 H3=>tc σ2 H3 fun b H4 =>
      if b=true then te σ2 H4 fun y H5=>H5 D=some (.lst acc)/\acc.length<sizeLine/\Pv D (i+1) (acc++[y]) σ2 (upd H5 D (.lst (acc++[y]))) else H4 D=some (.lst acc)/\Pv D (i+1) acc σ2 H4) /\
     ∀acc σ' H',Pv D z.cps.toList.length acc σ' H'->H' D=some (.lst acc)->Q (.ref D) H'):fw k fr g tc te (Its z) σ H1 Q:=by
 have hl:(hV z).length=z.cps.toList.length:=by simp[hV]
 refine fA (hV z) (fun _=>True) (fun i H _ hi=>by rw[hl] at hi;show i<z.cps.size;simpa using hi) (fun i H x H' _ hi y=>⟨y.1,?_⟩) (fun H _=>by show z.cps.size<=(hV z).length;rw[hl];simp) Pv fun D hD=>?_
 ·have y2:=y.2
  unfold sgV at y2
  simp only[hV,ag,Array.getElem?_toList]
  exact y2
 ·obtain⟨a,b,c⟩:=h D hD
  refine⟨a,fun _ _ _ _ _ _ _=>trivial,fun i acc σ' H' x hx p hacc=>?_,by rw[hl];exact c⟩
  simp only[hV,ag] at hx
  cases e:z.cps.toList[i]? with
  | none=>rw[e] at hx;cases hx
  | some cc =>
   rw[e] at hx
   cases hx
   exact b i acc σ' H' cc e p hacc
end
def But (p:Addr) (H H':Hp):Prop:=∀b o,b≠p->H b=some o->H' b=some o
theorem But.refl (p:Addr) (H:Hp):But p H H:=fun _ _ _ h=>h
theorem But.trans {p:Addr}{H H1 H2:Hp}(a:But p H H1) (b:But p H1 H2):But p H H2:=fun c o n h=>b c o n (a c o n h)
theorem But.upd {p:Addr}{H:Hp}{o:HO}:But p H (upd H p o):=fun b o' n h=>by rw[cm n];exact h
theorem But.of_same {p:Addr}{H H':Hp}(s:Same H H'):But p H H':=fun b o _ h=>s b o h
theorem Same.new {H:Hp}{p:Addr}{o:HO}(h:H p=none):Same H (upd H p o):=fun b o' e=>by rw[cm (cq e h)];exact e
theorem Rd.but {p:Addr}{H H':Hp}(b:But p H H') {a:Addr}{u:HO}(n:a≠p) (h:Rd H a u):Rd H' a u:=by
 rcases h with h | ⟨o,h⟩
 ·exact .inl (b _ _ n h)
 ·exact .inr ⟨o,b _ _ n h⟩
theorem SqL.but {K:W.Frag}{p:Addr}{H H':Hp}(b:But p H H') {a:Addr}{xs:List V}(n:a≠p) (h:SqL K H a xs):SqL K H' a xs:=by
 rcases h with h | h
 ·exact .inl (h.but b n)
 ·exact .inr h
structure Blt (mg:Str->Option Value):Prop where
 len:mg "len"=none
 range:mg "range"=none
 abs:mg "abs"=none
 all:mg "all"=none
 repr:mg "repr"=none
 isinstance:mg "isinstance"=none
 str:mg "str"=none
 int:mg "int"=none
 bool:mg "bool"=none
 enumerate:mg "enumerate"=none
 list:mg "list"=none
 tuple:mg "tuple"=none
 dict:mg "dict"=none
 min:mg "min"=none
 max:mg "max"=none
section
variable {X:Cx}{p pos:Pos}{e f:Expr}{t:TA}
def rLen (K:W.Frag):List V->Hp->VK->Prop:=fun xs H Q=>∃x n,xs=[x]/\pV K x H n/\Q (.int n) H
def rAbs:List V->Hp->VK->Prop:=fun xs H Q=>∃i,xs=[.int i]/\Q (.int (if i<0 then -i else i)) H
def rAll:List V->Hp->VK->Prop:=fun xs H Q=>∃p bs,xs=[.ref p]/\H p=some (.lst (List.map V.bl bs))/\Q (.bl (bs.all id)) H
theorem dC (K:W.Frag) (B:Blt X.mg) (ha:PA X [e] t) (hg:Gl X "len":=by rfl) (he:starEach [e] X.env=(false,eval e X.env)::starEach [] X.env:=by rfl) (hpl:(backTo pos (starEach [] X.env)).any (·.1)=false:=by rfl) (hK:X.K=K:=by rfl):PE X (.Call (.Name "len" p) [e] [] pos) (tCB (rLen K) t) :=
 hK ▸ dM qt hg B.len PySem.boot_len ha (by decide) (by decide) he hpl
theorem jL (B:Blt X.mg) (ha:PA X [e] t) (hg:Gl X "abs":=by rfl) (he:starEach [e] X.env=(false,eval e X.env)::starEach [] X.env:=by rfl) (hpl:(backTo pos (starEach [] X.env)).any (·.1)=false:=by rfl):PE X (.Call (.Name "abs" p) [e] [] pos) (tCB rAbs t) :=
 dM rm hg B.abs boot_abs ha (by decide) (by decide) he hpl
theorem gG (hc:X.calm=true) (B:Blt X.mg) (ha:PA X [e] t) (hg:Gl X "all":=by rfl) (he:starEach [e] X.env=(false,eval e X.env)::starEach [] X.env:=by rfl) (hpl:(backTo pos (starEach [] X.env)).any (·.1)=false:=by rfl):PE X (.Call (.Name "all" p) [e] [] pos) (tCB rAll t) :=
 dM (mO hc) hg B.all boot_all ha (by decide) (by decide) he hpl
theorem oy (gd:X.A.guards=some []) (hu:X.A.units+64<cLine) (B:Blt X.mg) (ha:PA X [e] t) (hg:Gl X "repr":=by rfl) (he:starEach [e] X.env=(false,eval e X.env)::starEach [] X.env:=by rfl) (hpl:(backTo pos (starEach [] X.env)).any (·.1)=false:=by rfl):PE X (.Call (.Name "repr" p) [e] [] pos) (tCB pk t) :=
 dM (nO gd hu) hg B.repr boot_repr ha (by decide) (by decide) he hpl
theorem gf (K:W.Frag) (c:String) (B:Blt X.mg) (ha:PA X [e,f] t) (hg:Gl X "isinstance":=by rfl) (he:starEach [e,f] X.env=(false,eval e X.env)::starEach [f] X.env:=by rfl) (hpl:(backTo pos (starEach [f] X.env)).any (·.1)=false:=by rfl) (hK:X.K=K:=by rfl):PE X (.Call (.Name "isinstance" p) [e,f] [] pos) (tCB (ut K c) t) :=
 hK ▸ dM (rh c) hg B.isinstance boot_isinstance ha (by decide) (by decide) he hpl
theorem vN (B:Blt X.mg) (hg:Gl X "str":=by rfl):PE X (.Name "str" p) (tC (.ty "str")):=gW hg B.str PyProof.Rows.boot_str rfl
theorem vw (B:Blt X.mg) (hg:Gl X "int":=by rfl):PE X (.Name "int" p) (tC (.ty "int")):=gW hg B.int PyProof.Rows.boot_int rfl
theorem uh (B:Blt X.mg) (hg:Gl X "bool":=by rfl):PE X (.Name "bool" p) (tC (.ty "bool")):=gW hg B.bool PyProof.Rows.boot_bool rfl
theorem iI (B:Blt X.mg) (hg:Gl X "list":=by rfl):PE X (.Name "list" p) (tC (.ty "list")):=gW hg B.list (show bootBuiltins "list"=some (.type "list") by decide +kernel) rfl
end
end L2
namespace L2
open PySem PySem.Spec PyProof.Rows PySem.Builtin PySem.Builtin.Str
theorem fg (x y:Str):(x++y).length=x.length+y.length:=by
 show (x.cps++y.cps).size=x.cps.size+y.cps.size
 rw[Array.size_append]
theorem qL (sep:Str) (ys:List Str):(Txt.join sep ys).length<=(ys.map (·.length)).sum+ys.length * sep.length:=by
 unfold Txt.join
 rw[size_glued]
 exact Nat.add_le_add_left (Nat.mul_le_mul_right _ (Nat.sub_le _ _)) _
theorem uE {ys:List Str}{n:Nat}(h:∀y∈ys,y.length<=n):(ys.map (·.length)).sum<=ys.length * n:=by
 induction ys with
 | nil=>simp
 | cons y r ih =>
  have h1:=h y (by simp)
  have h2:=ih fun z hz=>h z (aI _ hz)
  simp only[aV,List.sum_cons,bA]
  rw[Nat.succ_mul]
  omega
theorem vF {α:Type}{xs:List α}{j:Int}(h0:0<=j) (h1:j<xs.length):∃v,atI xs j=some v/\v∈xs:=by
 obtain⟨k,rfl⟩:=be h0
 have hk:k<xs.length:=by omega
 exact⟨xs[k],eR (by simp[hk]),bu hk⟩
theorem uz {ns:List Int}{j:Int}(h0:0<=j) (h1:j<(ns.map V.int).length):∃c,atI (ns.map V.int) j=some (.int c):=by
 obtain⟨v,e,m⟩:=vF h0 h1
 obtain⟨c,_,rfl⟩:=al.mp m
 exact⟨c,e⟩
theorem lw (x:Int):-(2 ^ 64)<x % 2147483647/\x % 2147483647<2 ^ 64:=by
 have h1:=bf x (show (2147483647:Int)≠0 by decide)
 have h2:=bo x (show (0:Int)<2147483647 by decide)
 omega
def PenV (H:Hp) (p a:Addr):Prop:=∃(i n:Int),H p=some (.lst [.ref a,.int i,.int n])/\0<=i/\0<=n
def Pen (K:W.Frag) (H:Hp) (p a:Addr):Prop:=(∃ns:List Int,∀H',But p H H'->SqL K H' a (ns.map V.int))/\PenV H p a
theorem Pen.but {K:W.Frag}{H H':Hp}{p a:Addr}(h:Pen K H p a) (b:But p H H') (v:PenV H' p a):Pen K H' p a:=⟨let ⟨ns,q⟩:=h.1;⟨ns,fun H2 b2=>q H2 (b.trans b2)⟩,v⟩
theorem Pen.new {K:W.Frag}{H:Hp}{p a:Addr}{ns:List Int}{o:HO}(h:SqL K H a (ns.map V.int)) (hp:H p=none) (v:PenV (upd H p o) p a):Pen K (upd H p o) p a := by
 refine⟨⟨ns,fun H' b=>?_⟩,v⟩
 rcases h with h | h
 ·have n:a≠p:=by
     rcases h with h | ⟨ob,h⟩
     ·exact cq h hp
     ·exact cq h hp
  have s:Same H (upd H p o):=Same.new hp
  exact SqL.but (fun c o' n' e=>b c o' n' (s c o' e)) n (.inl h)
 ·exact .inr h
theorem PenV.upd {H:Hp}{p a D:Addr}{o:HO}(h:PenV H p a) (n:p≠D):PenV (L2.upd H D o) p a:=let ⟨i,m,e,q⟩:=h;⟨i,m,by rw[cm n];exact e,q⟩
theorem PenV.ne {H:Hp}{p a D:Addr}(h:PenV H p a) (e:H D=none):p≠D:=let ⟨_,_,q,_⟩:=h;cq q e
theorem But.at {p D:Addr}{H H':Hp}{o:HO}(b:But p H H') (hD:H D=none):But p H (L2.upd H' D o):=fun c o' n h=>by rw[cm (cq h hD)];exact b c o' n h
theorem But.of_eq {p:Addr}{H H':Hp}(h:∀b,b≠p->H' b=H b):But p H H':=fun b o n e=>(h b n).trans e
theorem But.free {p D:Addr}{H H':Hp}(b:But p H H') (n:D≠p) (h:H' D=none):H D=none:=by
 cases e:H D with
 | none=>rfl
 | some o=>rw[b D o n e] at h;cases h
def hU (K:W.Frag):Sp:=fun vs H Q _=>∃(p a:Addr) (m:Int),vs=[.ref p,.int m]/\Pen K H p a/\0<m/\m<1073741824/\∀r H',0<=r->r<m->PenV H' p a->(∀b,b≠p->H' b=H b)->Q (.int r) H'
end L2
namespace L2
open PySem PySem.Spec PyProof.Rows
section
variable {X:Cx}
inductive InR (K:W.Frag) (neg:Bool) (H:Hp):V -> V -> VK -> Prop
 | dic {a:Addr} {y:V} {o:Option V} {Q:VK}:DGet H a y o->Q (.bl (if neg then !o.isSome else o.isSome)) H->InR K neg H y (.ref a) Q
 | seq {p:Addr} {x:V} {xs:List V} {Q:VK}:(SqL K H p xs∨SqT K H p xs)->eS x=true->xs.all eS=true->Q (.bl (if neg then !inV x xs else inV x xs)) H->InR K neg H x (.ref p) Q
 | tr {p:Addr} {x:V} {xs:List V} {ds:List PyData} {d:PyData} {Q:VK}:H p=some (.lst xs)->RepAll H xs ds->Rep H x d->PyData.canLayAll0 ds=true->d.canLay0=true->d.depth<=16 ->
     Q (.bl (if neg then !(ds.any fun e=>PyData.eqv e d) else ds.any fun e=>PyData.eqv e d)) H->InR K neg H x (.ref p) Q
theorem gZ (K:W.Frag) (hu:X.A.units+64<cLine) (hK:X.K=K:=by rfl):OpR X (compareOp .In) (fun x y H Q=>InR K false H x y Q):=by
 subst hK
 intro pins s σ H x y v u Q I rx ry h
 cases h with
 | dic g q =>
  cases ry
  exact d_in (by omega) I g rx fun s' I'=>⟨.bl _,H,I',rfl,q⟩
 | seq hq fx fs q=>exact pT pins s σ H _ _ v u Q I rx ry ⟨_,_,rfl,hq,fx,fs,q⟩
 | tr e rs r cs c dp q=>exact u0 hu pins s σ H _ _ v u Q I rx ry ⟨_,_,_,_,rfl,e,rs,r,cs,c,dp,q⟩
theorem gI (K:W.Frag) (hu:X.A.units+64<cLine) (hK:X.K=K:=by rfl):OpR X (compareOp .NotIn) (fun x y H Q=>InR K true H x y Q):=by
 subst hK
 intro pins s σ H x y v u Q I rx ry h
 cases h with
 | dic g q =>
  cases ry
  exact ud (by omega) I g rx fun s' I'=>⟨.bl _,H,I',rfl,q⟩
 | seq hq fx fs q=>exact lO pins s σ H _ _ v u Q I rx ry ⟨_,_,rfl,hq,fx,fs,q⟩
 | tr e rs r cs c dp q=>exact oM hu pins s σ H _ _ v u Q I rx ry ⟨_,_,_,_,rfl,e,rs,r,cs,c,dp,q⟩
inductive IxX (K:W.Frag) (H:Hp):V->V->VK->Prop
 | lst {p:Addr} {xs:List V} {i:Int} {v:V} {Q:VK}:SqL K H p xs->atI xs i=some v->Q v H->IxX K H (.ref p) (.int i) Q
 | tup {p:Addr} {xs:List V} {i:Int} {v:V} {Q:VK}:SqT K H p xs->atI xs i=some v->Q v H->IxX K H (.ref p) (.int i) Q
 | str {z:Str} {i:Int} {c:Nat} {Q:VK}:z.length<=sizeLine->atI z.cps.toList i=some c->Q (.str ⟨#[c]⟩) H->IxX K H (.str z) (.int i) Q
 | dic {a:Addr} {y v:V} {Q:VK}:DGet H a y (some v)->Q v H->IxX K H (.ref a) y Q
theorem cA (K:W.Frag) (hu:X.A.units+64<cLine) (hK:X.K=K:=by rfl):IxR X (fun x y H Q=>IxX K H x y Q):=by
 subst hK
 intro value slice pins s σ H x y v u Q I rx ry h hs
 cases h with
 | lst hq e q=>exact ub value slice pins s σ H _ _ v u Q I rx ry ⟨_,_,_,_,rfl,rfl,hq,e,q⟩ hs
 | tup hq e q=>exact ui value slice pins s σ H _ _ v u Q I rx ry ⟨_,_,_,_,rfl,rfl,hq,e,q⟩ hs
 | str hz e q=>exact u3 value slice pins s σ H _ _ v u Q I rx ry ⟨_,_,_,rfl,rfl,hz,e,q⟩ hs
 | dic g q =>
  cases rx
  exact tail_any (mN I g) PySem.F.slot_dict_getitem.lookup (oh (by omega) I g ry fun w' s3 I3 rw'=>⟨_,H,I3,rw',q⟩) hs
inductive SetX (H:Hp):V->V->V->(Hp->Prop)->Prop
 | lst {p:Addr} {xs:List V} {k:Int} {j:Nat} {v:V} {Q:Hp->Prop}:H p=some (.lst xs)->ixN xs.length k=some j->Q (upd H p (.lst (xs.set j v)))->SetX H (.ref p) (.int k) v Q
 | dic {a:Addr} {y v:V} {H':Hp} {Q:Hp->Prop}:DPut H a y v H'->Q H'->SetX H (.ref a) y v Q
theorem eU (hu:X.A.units+64<cLine):qS X (fun o i v H Q=>SetX H o i v Q):=by
 intro pins s σ H o i v ov iv u Q I ro ri rv h
 cases h with
 | lst e ej q=>exact rl pins s σ H _ _ _ ov iv u Q I ro ri rv ⟨_,_,_,_,rfl,rfl,e,ej,q⟩
 | dic g q =>
  cases ro
  exact pq (by omega) I g ri rv fun s4 I4=>⟨_,I4,q⟩
theorem gm (K:W.Frag) {es:List Expr}{k:Nat}{pos:Pos}{t:TGs}{n:Nat}(hc:X.calm=true) (h:PGs X es t)
    (hn:(assignEach es X.env).length=n:=by rfl) (hst:(assignEach es X.env).findIdx? (·.1)=none:=by rfl) (hK:X.K=K:=by rfl):PG X (.Tuple es k pos) (rf K n t):=hK ▸ uA hc h hn hst
variable {p pos p2 pos2:Pos}{e f:Expr}{t:TA}
end
section
variable {X:Cx}{p pos p2 pos2:Pos}{e f:Expr}{t:TA}
def rK (K:W.Frag):List V->Hp->VK->Prop:=fun xs H Q=>∃a ys,xs=[.ref a]/\SqL K H a ys/\∀l,H l=none->Q (.ref l) (upd H l (.tup ys))
theorem kd (K:W.Frag) (B:Blt X.mg) (ha:PA X [e] t) (hg:Gl X "tuple":=by rfl) (he:starEach [e] X.env=(false,eval e X.env)::starEach [] X.env:=by rfl) (hpl:(backTo pos (starEach [] X.env)).any (·.1)=false:=by rfl) (hK:X.K=K:=by rfl) :
    PE X (.Call (.Name "tuple" p) [e] [] pos) (tCB (rK K) t):=by
 subst hK
 refine iQ (r:=rK X.K) (fun pins s σ H xs us Q I r h=>?_) hg B.tuple (show bootBuiltins "tuple"=some (.type "tuple") by decide +kernel) ha (by decide) (by decide) he hpl
 obtain⟨a,ys,rfl,hq,q⟩:=h
 exact lA pins s σ H _ us Q I r ⟨a,ys,rfl,.inl ⟨hq,q⟩⟩
inductive LstR (K:W.Frag) (H:Hp):V->VK->Prop
 | seq {a:Addr} {ys:List V} {Q:VK}:(SqL K H a ys∨SqT K H a ys)->(∀l,H l=none->Q (.ref l) (upd H l (.lst ys)))->LstR K H (.ref a) Q
 | rng {a:Addr} {n:Nat} {Q:VK}:H a=some (.rng 0 (n:Int))->n<=1000->(∀l,H l=none->Q (.ref l) (upd H l (.lst (fR n))))->LstR K H (.ref a) Q
def uq (K:W.Frag):List V->Hp->VK->Prop:=fun xs H Q=>∃x,xs=[x]/\LstR K H x Q
theorem qP {n:Nat}{its:List Value}(hl:its.length=n) (h:∀i v, its[i]? = some v -> ∃t, v=Value.int (0+(i:Nat) * 1) t):Vals (fR n) its := by
 subst hl
 have key:∀(its:List Value) (k:Nat), (∀i v, its[i]? = some v -> ∃t, v=Value.int (0+((k+i:Nat):Int)) t) -> Vals ((List.range' k its.length).map fun i => V.int (0+(i:Nat))) its := by
  intro its
  induction its with
  | nil=>intro k _;exact .nil
  | cons u r ih =>
   intro k h
   rw[bA,List.range'_succ,aV]
   refine .cons ?_ (ih (k+1) fun i v e=>?_)
   ·obtain⟨t,e⟩:=h 0 u rfl
    exact⟨t,by rw[e,Nat.add_zero]⟩
   ·obtain⟨t,e'⟩:=h (i+1) v (by simpa using e)
    exact⟨t,by rw[e',show ((k+(i+1):Nat):Int)=((k+1+i:Nat):Int) by omega]⟩
 have:=key its 0 fun i v e=>by
  obtain⟨t,e'⟩:=h i v e
  exact⟨t,by rw[e',Int.mul_one,Nat.zero_add]⟩
 rw[fR,List.range_eq_range']
 exact this
theorem mE (K:W.Frag) (hc:X.calm=true) (B:Blt X.mg) (ha:PA X [e] t) (hg:Gl X "list":=by rfl) (he:starEach [e] X.env=(false,eval e X.env)::starEach [] X.env:=by rfl) (hpl:(backTo pos (starEach [] X.env)).any (·.1)=false:=by rfl) (hK:X.K=K:=by rfl) :
    PE X (.Call (.Name "list" p) [e] [] pos) (tCB (uq K) t):=by
 subst hK
 refine iQ (r:=uq X.K) (fun pins s σ H xs us Q I r h=>?_) hg B.list (show bootBuiltins "list"=some (.type "list") by decide +kernel) ha (by decide) (by decide) he hpl
 obtain⟨x,rfl,h⟩:=h
 cases h with
 | seq hq q=>exact mC pins s σ H _ us Q I r ⟨_,_,rfl,hq,q⟩
 | @rng a n _ ea hn q =>
  obtain⟨u,rfl,ru⟩:=dR r
  cases ru
  obtain⟨t1,t2,t3,eh⟩:=(show ObjOk X.prog X.w H s.heap a (.rng 0 (n:Int)) from I.hok a _ ea)
  refine call_list_range (n:=n) (I.ok.hd hc) eh (small_one (by decide) (by decide) (by omega) (by omega)) (by rw[rangeSize_one];split <;> omega) (by omega) fun h' tk acc' c' hk hl hi=>?_
  have hv:Vals (fR n) acc'.toList:=qP (by simpa using hi.1) fun i v e=>hi.2 i v (by simpa using e)
  refine⟨.ref _,_,I.laid (o:=.lst (fR n)) hk (ac _) ⟨?_,acc'.toList,c',hv,by simpa using hl⟩,rfl,q _ (I.hok.fresh (ac _))⟩
  have:(fR n).length=n:=by simp[fR]
  rw[this]
  exact bd (cw hn)
theorem vG (hc:X.calm=true) (B:Blt X.mg) (ha:PA X [e,f] t) (hg:Gl X "min":=by rfl) (he:starEach [e,f] X.env=(false,eval e X.env)::starEach [f] X.env:=by rfl) (hpl:(backTo pos (starEach [f] X.env)).any (·.1)=false:=by rfl) :
    PE X (.Call (.Name "min" p) [e,f] [] pos) (tCB (fun xs H Q=>∃i j,xs=[.int i,.int j]/\Q (.int (if j<i then j else i)) H) t) :=
 dM (oA hc) hg B.min (show bootBuiltins "min"=some (.builtin "min") by decide +kernel) ha (by decide) (by decide) he hpl
theorem nv (hc:X.calm=true) (B:Blt X.mg) (ha:PA X [e,f] t) (hg:Gl X "max":=by rfl) (he:starEach [e,f] X.env=(false,eval e X.env)::starEach [f] X.env:=by rfl) (hpl:(backTo pos (starEach [f] X.env)).any (·.1)=false:=by rfl) :
    PE X (.Call (.Name "max" p) [e,f] [] pos) (tCB (fun xs H Q=>∃i j,xs=[.int i,.int j]/\Q (.int (if j > i then j else i)) H) t) :=
 dM (om hc) hg B.max (show bootBuiltins "max"=some (.builtin "max") by decide +kernel) ha (by decide) (by decide) he hpl
theorem sr (K:W.Frag) {o:Expr}{to:TE}{apos cpos:Pos}(ho:PE X o to) (hbase:attributeBase o "clear" X.env (eval o X.env)=eval o X.env:=by rfl) (hline:(apos.endLine==cpos.line)=true:=by rfl) (hK:X.K=K:=by rfl) :
    PE X (.Call (.Attribute o "clear" apos) [] [] cpos) (qE K "list" oD to):=hK ▸ pz PySem.F.plainAttrs_list PySem.F.slot_list_clear PySem.F.type_list_clear pX ho hbase hline
theorem vj {its:List Value}{u:Value}{k:Nat}{x:Int}(hx:x=(k:Int)) (hk:k<=its.length) :
    (fun xs:Array Value=>have k:=if x<0 then (x+(xs.size:Int)).toNat else min x.toNat xs.size;(xs.extract 0 k).push u++xs.extract k) its.toArray=(its.take k++u::its.drop k).toArray:=by
 subst hx
 simp only[aD]
 rw[if_neg (by omega),bz,Nat.min_eq_left hk]
 simp[List.extract_eq_drop_take]
 exact aq (by rw[bS];omega)
def mY:V->List V->Hp->VK->Prop:=fun x vs H Q=>∃l xs i k y,x=.ref l/\vs=[.int i,y]/\i=((k:Nat):Int)/\H l=some (.lst xs)/\k<=xs.length/\xs.length<sizeLine/\Q .non (upd H l (.lst (xs.take k++y::xs.drop k)))
theorem oC:MtR X "list.insert" mY:=by
 intro pins s σ H x vs v us Q I rx rv h
 obtain⟨l,xs,i,k,y,rfl,rfl,hi,hH,hk,hz,q⟩:=h
 cases rx
 obtain⟨u1,u2,rfl,r1,r2⟩:=fW rv
 obtain⟨t,rfl⟩:=r1
 obtain⟨z,its,n,r,hl,e⟩:=I.lstM hH
 have hs:its.length<=sizeLine:=by omega
 have hfit:Builtin.List.listFitsIndex i=true:=by
  have h1:i<2 ^ 63:=by have:=gY;omega
  exact fitsIndex_both (by omega) h1
 have ME:=PySem.AutoSeq1.list_insert_list_int_val_1 l its.toArray n i t u2 (by simp[hfit]) (by rw[aD];exact hs)
 refine call_meets F.slot_list_insert ⟨_,e,rfl⟩ F.entry_list_insert (F.args_list_insert_3 _ _ _) ME ⟨e,?_⟩
 refine⟨.non,_,I.lset (its':=its.take k++u2::its.drop k) hH e (vj hi (by omega)) (Vals.append (r.take k) (.cons r2 (r.drop k))) ?_,rfl,q⟩
 simp only[aU,bA,aJ,bS]
 omega
theorem qK (K:W.Frag) {o e f:Expr}{to:TE}{t:TA}{apos cpos:Pos}(ho:PE X o to) (ha:PA X [e, f] t)
    (hbase:attributeBase o "insert" X.env (eval o X.env)=eval o X.env:=by rfl)
    (hfew:((backTo cpos (starEach [e,f] X.env)).all (fun x=>!x.1)&&(backToKw cpos (keywordEach [] X.env)).all (fun x=>x.1.isSome)
     && decide ([e,f].length+([]:List Keyword).length+(if ([]:List Keyword).isEmpty then 0 else 1)<30))=true:=by rfl)
    (hline:(apos.endLine==cpos.line)=true:=by rfl) (hs:starEach [e,f] X.env=(false,eval e X.env)::starEach [f] X.env:=by rfl) (hplain:(backTo cpos (starEach [f] X.env)).any (·.1)=false:=by rfl) (hK:X.K=K:=by rfl) :
    PE X (.Call (.Attribute o "insert" apos) [e,f] [] cpos) (tBM K "list" mY to t):=hK ▸ lD PySem.F.plainAttrs_list PySem.F.slot_list_insert PySem.F.type_list_insert oC ho ha hbase hfew hline hs hplain
end
def Nm (s:Str):Prop:=1<=s.length/\s.length<=8/\∀c∈s.cps.toList,97<=c/\c<=122
def et (e:Nat × Nat):PyData:=.tuple [.int e.1,.int e.2]
def cQ (e:Str × Str):PyData:=.tuple [.str e.1,.str e.2]
def gP (ss:List Str) (ts:List (Str × Str)):PyData:=.tuple [.tuple (ss.map .str),.tuple (ts.map cQ)]
section
variable {H H':Hp}
theorem Rep.tupI {v:V}{ds:List PyData}(h:Rep H v (.tuple ds)):∃a xs,v=.ref a/\H a=some (.tup xs)/\RepAll H xs ds:=by
 cases h with
 | tup e r=>exact⟨_,_,rfl,e,r⟩
theorem Rep.strI {v:V}{s:Str}(h:Rep H v (.str s)):v=.str s:=by cases h;rfl
theorem Rep.intI {v:V}{i:Int}(h:Rep H v (.int i)):v=.int i:=by cases h;rfl
theorem RepAll.nilI {xs:List V}(h:RepAll H xs []):xs=[]:=by cases h;rfl
theorem RepAll.consI {xs:List V}{d:PyData}{ds:List PyData}(h:RepAll H xs (d::ds)):∃y ys,xs=y::ys/\Rep H y d/\RepAll H ys ds:=by
 cases h with
 | cons a b=>exact⟨_,_,rfl,a,b⟩
theorem RepAll.strs:∀ {xs:List V}{ss:List Str},RepAll H xs (ss.map PyData.str)->xs=ss.map V.str
 | _,[],h=>by rw[h.nilI];rfl
 | _,s::ss,h=>by
  obtain⟨y,ys,rfl,a,b⟩:=RepAll.consI h
  rw[a.strI,RepAll.strs b];rfl
theorem RepAll.of_strs:∀(ss:List Str),RepAll H (ss.map V.str) (ss.map PyData.str)
 | []=>.nil
 | s::ss=>.cons (.str s) (RepAll.of_strs ss)
theorem RepAll.len {xs:List V}{ds:List PyData}(h:RepAll H xs ds):xs.length=ds.length:=by
 induction ds generalizing xs with
 | nil=>rw[h.nilI];rfl
 | cons d ds ih =>
  obtain⟨y,ys,rfl,a,b⟩:=h.consI
  simp[ih b]
theorem RepAll.get {xs:List V}{ds:List PyData}(h:RepAll H xs ds) {i:Nat}{x:V}(e:xs[i]? = some x):∃d,ds[i]? = some d/\Rep H x d:=by
 induction ds generalizing xs i with
 | nil=>rw[h.nilI] at e;simp at e
 | cons d ds ih =>
  obtain⟨y,ys,rfl,a,b⟩:=h.consI
  cases i with
  | zero=>simp at e;subst e;exact⟨d,rfl,a⟩
  | succ i=>simpa using ih b (by simpa using e)
theorem RepAll.append {xs ys:List V}{ds es:List PyData}(h:RepAll H xs ds) (g:RepAll H ys es):RepAll H (xs++ys) (ds++es):=by
 induction ds generalizing xs with
 | nil=>rw[h.nilI];exact g
 | cons d ds ih =>
  obtain⟨y,zs,rfl,a,b⟩:=h.consI
  exact .cons a (ih b)
theorem jW {v:V}{e:Nat × Nat}(h:Rep H v (et e)):∃a,v=.ref a/\H a=some (.tup [.int e.1,.int e.2]):=by
 obtain⟨a,xs,rfl,ha,r⟩:=Rep.tupI h
 obtain⟨y,ys,rfl,r1,r⟩:=r.consI
 obtain⟨z,zs,rfl,r2,r⟩:=r.consI
 have e1:=RepAll.nilI r
 subst e1
 rw[r1.intI,r2.intI] at ha
 exact⟨a,rfl,ha⟩
theorem hZ {v:V}{e:Str × Str}(h:Rep H v (cQ e)):∃a,v=.ref a/\H a=some (.tup [.str e.1,.str e.2]):=by
 obtain⟨a,xs,rfl,ha,r⟩:=Rep.tupI h
 obtain⟨y,ys,rfl,r1,r⟩:=r.consI
 obtain⟨z,zs,rfl,r2,r⟩:=r.consI
 have e1:=RepAll.nilI r
 subst e1
 rw[r1.strI,r2.strI] at ha
 exact⟨a,rfl,ha⟩
theorem g6 {a:Addr}{i j:Nat}(h:H a=some (.tup [.int i,.int j])):Rep H (.ref a) (et (i,j)):=.tup h (.cons (.int _) (.cons (.int _) .nil))
theorem jk {a:Addr}{s t:Str}(h:H a=some (.tup [.str s,.str t])):Rep H (.ref a) (cQ (s,t)):=.tup h (.cons (.str _) (.cons (.str _) .nil))
theorem eD {v:V}{ss:List Str}{ts:List (Str × Str)}(h:Rep H v (gP ss ts)):∃q a b xs,v=.ref q/\H q=some (.tup [.ref a,.ref b])/\H a=some (.tup (ss.map V.str))/\H b=some (.tup xs)/\RepAll H xs (ts.map cQ):=by
 obtain⟨q,ws,rfl,hq,r0⟩:=Rep.tupI h
 obtain⟨y,ys,rfl,r1,r3⟩:=r0.consI
 obtain⟨z,zs,rfl,r2,r4⟩:=r3.consI
 obtain⟨a,xa,rfl,ha,ra⟩:=Rep.tupI r1
 obtain⟨b,xb,rfl,hb,rb⟩:=Rep.tupI r2
 have e1:=RepAll.nilI r4
 subst e1
 have e2:=RepAll.strs ra
 subst e2
 exact⟨q,a,b,xb,rfl,hq,ha,hb,rb⟩
end
theorem gN:∀es:List (Nat × Nat),PyData.canLayAll0 (es.map et)=true
 | []=>rfl
 | e::es=>by
  show (PyData.canLay0 (et e)&&PyData.canLayAll0 (es.map et))=true
  rw[gN es]
  rfl
end L2
set_option autoImplicit false
namespace MG
variable {α:Type}
def Walk (R:α->α->Prop):Nat->α->α->Prop
 | 0,x,y=>x=y
 | n+1,x,y=>∃z,Walk R n x z/\R z y
def Rch (R:α->α->Prop) (x y:α):Prop:=∃n,Walk R n x y
def Dst (R:α->α->Prop) (x:α) (d:Nat) (y:α):Prop:=Walk R d x y/\∀k,k<d->¬ Walk R k x y
variable {R:α->α->Prop}{x:α}
theorem Dst.uniq {d e:Nat}{y:α}(a:Dst R x d y) (b:Dst R x e y):d=e:=by
 rcases Nat.lt_trichotomy d e with h | h | h
 ·exact absurd a.1 (b.2 d h)
 ·exact h
 ·exact absurd b.1 (a.2 e h)
theorem Rch.dst {y:α}(h:Rch R x y):∃d, Dst R x d y := by
 obtain⟨n,h⟩:=h
 induction n using Nat.strongRecOn generalizing y with
 | _ n ih =>
  by_cases e:∃k,k<n/\Walk R k x y
  ·obtain⟨k,hk,w⟩:=e
   exact ih k hk w
  ·exact⟨n,h,fun k hk w=>e ⟨k,hk,w⟩⟩
theorem Dst.rch {d:Nat}{y:α}(h:Dst R x d y):Rch R x y:=⟨d,h.1⟩
theorem Dst.pred {d:Nat}{y:α}(h:Dst R x (d+1) y):∃z,Dst R x d z/\R z y:=by
 obtain⟨⟨z,w,r⟩,m⟩:=h
 exact⟨z,⟨w,fun k hk w'=>m (k+1) (by omega) ⟨z,w',r⟩⟩,r⟩
theorem Dst.zero:Dst R x 0 x:=⟨rfl,fun k hk=>by omega⟩
theorem Dst.of_zero {y:α}(h:Dst R x 0 y):y=x:=h.1.symm
theorem Dst.below {d:Nat}{y:α}(h:Dst R x d y):∀e, e <= d -> ∃z, Dst R x e z := by
 induction d generalizing y with
 | zero => intro e he; have:e=0 := by omega
           subst this;exact⟨y,h⟩
 | succ d ih =>
  intro e he
  by_cases q:e=d+1
  ·subst q;exact⟨y,h⟩
  ·obtain⟨z,hz,_⟩:=h.pred
   exact ih hz e (by omega)
theorem Rch.closed {S:α -> Prop}(h0:S x) (hs:∀y z, S y -> R y z -> S z) {y:α}(h:Rch R x y):S y := by
 obtain⟨n,w⟩:=h
 induction n generalizing y with
 | zero => have:x=y := w
           subst this;exact h0
 | succ n ih =>
  obtain⟨z,w,r⟩:=w
  exact hs z y (ih w) r
structure Lev (R:α->α->Prop) (x:α) (L:Nat) (look:α->Option Nat) (edge:List α):Prop where
 snd:∀y k,look y=some k->Dst R x k y/\k<=L
 cmp:∀y k,k<=L->Dst R x k y->look y=some k
 edg:∀y,y∈edge ↔ Dst R x L y
structure Mid (R:α->α->Prop) (x:α) (L:Nat) (look:α->Option Nat) (further:List α) (done:α->α->Prop):Prop where
 snd:∀y k,look y=some k->(Dst R x k y/\k<=L)∨(k=L+1/\y∈further)
 cmp:∀y k,k<=L->Dst R x k y->look y=some k
 fur:∀y,y∈further->Dst R x (L+1) y/\look y=some (L+1)
 dn:∀z y,done z y->(look y).isSome=true
theorem Lev.start [DecidableEq α] {look:α->Option Nat}(h:∀y,look y=if y=x then some 0 else none):Lev R x 0 look [x]:=by
 refine⟨fun y k e=>?_,fun y k hk d=>?_,fun y=>?_⟩
 ·rw[h] at e
  split at e
  ·rename_i q;subst q;cases e;exact⟨Dst.zero,ac _⟩
  ·cases e
 ·have:k=0:=by omega
  subst this
  rw[h,if_pos d.of_zero]
 ·rw[aQ]
  exact⟨fun e=>e ▸ Dst.zero,fun d=>d.of_zero⟩
theorem Lev.mid {L:Nat}{look:α->Option Nat}{edge:List α}(h:Lev R x L look edge):Mid R x L look [] (fun _ _=>False) :=
 ⟨fun y k e=>.inl (h.snd y k e),h.cmp,fun y hy=>(nomatch hy),fun _ _ f=>f.elim⟩
theorem Mid.skip {L:Nat}{look:α->Option Nat}{further:List α}{done:α->α->Prop}(h:Mid R x L look further done) {z y:α}(e:(look y).isSome=true):Mid R x L look further (fun a b=>done a b∨(a=z/\b=y)) :=
 ⟨h.snd,h.cmp,h.fur,fun a b d=>by
  rcases d with d | ⟨_,q⟩
  ·exact h.dn a b d
  ·rw[q];exact e⟩
theorem Mid.add {L:Nat}{look look':α -> Option Nat}{further:List α}{done:α -> α -> Prop}(h:Mid R x L look further done) {z y:α}(hz:Dst R x L z) (r:R z y) (e:look y=none)
    [DecidableEq α] (hl:∀a,look' a=if a=y then some (L+1) else look a):Mid R x L look' (further++[y]) (fun a b=>done a b∨(a=z/\b=y)):=by
 have dy:Dst R x (L+1) y:=by
  refine⟨⟨z,hz.1,r⟩,fun k hk w=>?_⟩
  obtain⟨d,dd⟩:=Rch.dst ⟨k,w⟩
  have hd:d<=k:=Nat.le_of_not_lt fun q=>dd.2 k q w
  rw[h.cmp y d (by omega) dd] at e
  cases e
 refine⟨fun a k q=>?_,fun a k hk d=>?_,fun a ha=>?_,fun a b d=>?_⟩
 ·rw[hl] at q
  split at q
  ·rename_i ea;cases q;subst ea;exact .inr ⟨rfl,by simp⟩
  ·rcases h.snd a k q with q' | ⟨q1,q2⟩
   ·exact .inl q'
   ·exact .inr ⟨q1,by simp[q2]⟩
 ·rw[hl]
  split
  ·rename_i ea;subst ea;have:=d.uniq dy;omega
  ·exact h.cmp a k hk d
 ·rcases ar.mp ha with q | q
  ·refine⟨(h.fur a q).1,?_⟩
   rw[hl]
   split
   ·rfl
   ·exact(h.fur a q).2
  ·have:a=y:=by simpa using q
   subst this
   exact⟨dy,by rw[hl,if_pos rfl]⟩
 ·rw[hl]
  split
  ·rfl
  ·rename_i nb
   rcases d with d | ⟨_,q⟩
   ·exact h.dn a b d
   ·exact absurd q nb
theorem Mid.wk {L:Nat}{look:α->Option Nat}{further:List α}{done done':α->α->Prop}(h:Mid R x L look further done) (w:∀a b,done' a b->done a b):Mid R x L look further done' :=
 ⟨h.snd,h.cmp,h.fur,fun a b d=>h.dn a b (w a b d)⟩
theorem Mid.next {L:Nat}{look:α->Option Nat}{further edge:List α}{done:α->α->Prop}(h:Mid R x L look further done) (he:∀y,y∈edge ↔ Dst R x L y) (hd:∀z y,z∈edge->R z y->done z y):Lev R x (L+1) look further:=by
 have key:∀y,Dst R x (L+1) y->y∈further/\look y=some (L+1):=fun y d=>by
  obtain⟨z,dz,r⟩:=d.pred
  have s:=h.dn z y (hd z y ((he z).mpr dz) r)
  obtain⟨k,e⟩:=bJ.mp s
  rcases h.snd y k e with⟨q,hk⟩ | ⟨q1,q2⟩
  ·have:=q.uniq d;omega
  ·subst q1;exact⟨q2,e⟩
 refine⟨fun y k e=>?_,fun y k hk d=>?_,fun y=>⟨fun q=>(h.fur y q).1,fun d=>(key y d).1⟩⟩
 ·rcases h.snd y k e with⟨q,hk⟩ | ⟨q1,q2⟩
  ·exact⟨q,by omega⟩
  ·subst q1;exact⟨(h.fur y q2).1,ac _⟩
 ·by_cases q:k=L+1
  ·subst q;exact(key y d).2
  ·exact h.cmp y k (by omega) d
theorem Lev.done {L:Nat}{look:α->Option Nat}(h:Lev R x L look []):∀y k,look y=some k ↔ Dst R x k y:=fun y k=>by
 refine⟨fun e=>(h.snd y k e).1,fun d=>?_⟩
 by_cases q:k<=L
 ·exact h.cmp y k q d
 ·obtain⟨z,hz⟩:=d.below L (by omega)
  exact(nomatch (h.edg z).mpr hz)
end MG
namespace MG
variable {α:Type}{R:α->α->Prop}{x:α}
theorem Dst.lt {ss:List α}(hin:∀y, Rch R x y -> y ∈ ss) {L:Nat}{y:α}(d:Dst R x L y):L<ss.length := by
 have key:∀n, n <= L+1 -> ∃zs:List α, zs.length=n /\ zs.Nodup /\ ∀z ∈ zs, ∃e, e<n /\ Dst R x e z := by
  intro n
  induction n with
  | zero=>intro _;exact⟨[],rfl,bB,fun z hz=>by cases hz⟩
  | succ n ih =>
   intro hn
   obtain⟨zs,hl,hnd,hz⟩:=ih (by omega)
   obtain⟨z,dz⟩:=d.below n (by omega)
   refine⟨z::zs,by simp[hl],ba.mpr ⟨fun hm=>?_,hnd⟩,fun w hw=>?_⟩
   ·obtain⟨e,he,de⟩:=hz z hm
    have:=de.uniq dz
    omega
   ·rcases aR.mp hw with rfl | hw
    ·exact⟨n,by omega,dz⟩
    ·obtain⟨e,he,de⟩:=hz w hw
     exact⟨e,by omega,de⟩
 obtain⟨zs,hl,hnd,hz⟩:=key (L+1) (ac _)
 have:=hnd.length_le_of_subset (l₂:=ss) fun z hm=>by
  obtain⟨e,_,de⟩:=hz z hm
  exact hin z de.rch
 omega
end MG
namespace L2
open PySem PySem.Spec PyProof.Rows
def fm (ss:List Str):PyData:=.list (ss.map .str)
theorem gK {H:Hp}{a:Addr}{ss:List Str}(h:H a=some (.lst (ss.map V.str))):Rep H (.ref a) (fm ss):=.lst h (RepAll.of_strs ss)
theorem eL {s:Str}(h:Nm s):PyData.canLay0 (.str s)=true:=by
 show (s.cps.all (·<0x110000))=true
 rw[<- Array.all_toList,aW]
 intro c hc
 have:=h.2.2 c hc
 exact ai (by omega)
theorem gO:∀ss:List Str,(∀s∈ss,Nm s)->PyData.canLayAll0 (ss.map PyData.str)=true
 | [],_=>rfl
 | s::ss,h=>by
  show (PyData.canLay0 (.str s)&&PyData.canLayAll0 (ss.map PyData.str))=true
  rw[gO ss fun x hx=>h x (aI _ hx),eL (h s (by simp))]
  rfl
theorem iz:∀ss:List Str,PyData.depthAll (ss.map PyData.str)=0
 | []=>rfl
 | s::ss=>by
  show max (PyData.depth (.str s)) (PyData.depthAll (ss.map PyData.str))=0
  rw[iz ss];rfl
theorem gJ {ss:List Str}(h:∀s∈ss,Nm s):shp (fm ss):=by
 show (PyData.canLayAll0 (ss.map PyData.str)&&decide (PyData.depthAll (ss.map PyData.str)+1<=64))=true
 rw[gO ss h,iz];rfl
theorem jg {n:Nat}:∀(ts:List Str) (k:Nat) (acc:Str), (∀t ∈ ts, t.length <= n) -> (textFrom k acc ts).length <= acc.length+ts.length * (n+2)
 | [],k,acc,_=>by show acc.length<=acc.length+0 * _;omega
 | t::r,k,acc,h=>by
  have h1:=jg r (k+1) (acc++(if k > 0 then ", " else "":String)++t) fun u hu=>h u (aI _ hu)
  have h2:=h t (by simp)
  have e:(acc++(if k > 0 then ", " else "":String)++t).length<=acc.length+2+t.length:=by
   rw[fg,fg]
   have:(Str.ofString (if k > 0 then ", " else "":String)).length<=2:=by split <;> decide
   show acc.length+(Str.ofString (if k > 0 then ", " else "":String)).length+t.length<=_
   omega
  show (textFrom (k+1) (acc++(if k > 0 then ", " else "":String)++t) r).length<=acc.length+(r.length+1) * (n+2)
  rw[Nat.succ_mul]
  omega
structure Shw (d:PyData):Prop where
 sh:shp d
 sb:d.showable=true
 hd:d.hasDict=false
 dp:d.depth<=16
 ln:d.shown.length<=sizeLine
theorem nj {d:PyData}(h:shp d):PyData.eqv d d=true:=SeqAt.eqv_refl d (SeqAt.canLay_of_shaped h)
def mi:Sp:=fun vs H Q _=>∃x y d,vs=[x,y]/\Rep H x d/\Rep H y d/\Shw d/\Q (.bl true) H
theorem lS {K:W.Frag}{a:Addr}{xs:List V}{g:TG}{tb:TS}{D:Ends}{σ:St}{H:Hp}(Pv:Nat -> St -> Hp -> Prop) (h0:Pv 0 σ H) (hl:∀i σ H, i <= xs.length -> Pv i σ H -> SqL K H a xs)
    (hs:∀i x σ H p,xs[i]? = some x->Pv i σ H->H p=none->g (.ref p) σ (upd H p (.tup [.int i,x])) fun σ2 H2=>tb { D with nx:=Pv (i+1),ct:=Pv (i+1),bk:=D.nx } σ2 H2) (hd:∀σ H,Pv xs.length σ H->D.nx σ H) :
    ∃W:Nat->Nat->St->Hp->Prop,(∃m,W 0 m σ H)/\∀i m σ H,W i m σ H ->
     ((Ite K a).stop i H/\D.nx σ H)∨((Ite K a).go i H/\∃N:St->Hp->Prop,(∀σ' H',N σ' H'->∃m',m'<m/\W (i+1) m' σ' H')/\∀x H',(Ite K a).yld i H x H'->g x σ H' fun σ2 H2=>tb { D with nx:=N,ct:=N,bk:=D.nx } σ2 H2):=by
 refine⟨fun i m σ H=>m=xs.length-i/\i<=xs.length/\Pv i σ H,⟨xs.length,by simp,aL _,h0⟩,?_⟩
 rintro i m σ H ⟨rfl,hi,p⟩
 have q:=hl i σ H hi p
 by_cases hlt:i<xs.length
 ·refine .inr ⟨⟨xs,xs[i],q,by simp[hlt]⟩,Pv (i+1),fun σ' H' p'=>⟨xs.length-(i+1),by omega,rfl,hlt,p'⟩,fun x H' y=>?_⟩
  obtain⟨r,z,hr,rfl,hz,rfl⟩:=y
  exact hs i z σ H r (hz xs q) p hr
 ·have e:i=xs.length:=by omega
  subst e
  exact .inl ⟨⟨xs,q,ac _⟩,hd σ H p⟩
def ic:Sp:=fun vs H Q _=>∃a xs,vs=[.ref a]/\H a=some (.lst (List.map V.str xs))/\xs.length<=1000 /\
 ∀d kvs H',Same H H'->H d=none->H' d=some (.dK kvs)->(∀s,(cI kvs (.inr s)).isSome=true ↔ s∈xs)->(∀s v,cI kvs (.inr s)=some v->∃j:Nat,v=.int j/\xs[j]? = some s)->Q (.ref d) H'
structure Web (H:Hp) (v:V) (ss:List Str) (ts:List (Str × Str)):Prop where
 rep:Rep H v (gP ss ts)
 nd:ss.Nodup
 nm:∀s∈ss,Nm s
 len:ss.length<=60
 few:ts.length<=401
 inn:∀e∈ts,e.1∈ss/\e.2∈ss
theorem Web.same {H H':Hp}{v:V}{ss:List Str}{ts:List (Str × Str)}(h:Web H v ss ts) (s:Same H H'):Web H' v ss ts:=⟨h.rep.same s,h.nd,h.nm,h.len,h.few,h.inn⟩
def dQ (ss:List Str) (ts:List (Str × Str)) (s:Str):List Str:=ss.filter fun t=>decide ((s,t)∈ts)
def dk (ts:List (Str × Str)):List (Str × Str):=ts.map fun e=>(e.2,e.1)
theorem mem_flip {ts:List (Str × Str)}{a b:Str}:(a,b)∈dk ts ↔ (b,a)∈ts:=by
 unfold dk
 rw[al]
 constructor
 ·rintro⟨⟨x,y⟩,h,e⟩
  cases e;exact h
 ·intro h;exact⟨(b,a),h,rfl⟩
def fQ (rev:Bool):Sp:=fun vs H Q _=>∃q ss ts s,vs=[q,.str s]/\Web H q ss ts /\
 ∀l H',Same H H'->H l=none->H' l=some (.lst (List.map V.str (dQ ss (if rev then dk ts else ts) s)))->Q (.ref l) H'
def Tab (H:Hp) (d:Addr) (ss:List Str) (f:Str->List Str):Prop:=∃kvs,H d=some (.dK kvs)/\∀s∈ss,∃l,cI kvs (.inr s)=some (.ref l)/\H l=some (.lst (List.map V.str (f s)))
theorem Tab.same {H H':Hp}{d:Addr}{ss:List Str}{f:Str->List Str}(h:Tab H d ss f) (s:Same H H'):Tab H' d ss f:=let ⟨kvs,a,b⟩:=h;⟨kvs,s _ _ a,fun x hx=>let ⟨l,c,e⟩:=b x hx;⟨l,c,s _ _ e⟩⟩
def ig (rev:Bool):Sp:=fun vs H Q _=>∃q ss ts,vs=[q]/\Web H q ss ts /\
 ∀d H',Same H H'->H d=none->Tab H' d ss (dQ ss (if rev then dk ts else ts))->Q (.ref d) H'
def Ner (ss:List Str) (f:Str->List Str) (a b:Str):Prop:=a∈ss/\b∈f a
def Tie (ts:List (Str × Str)) (a b:Str):Prop:=(a,b)∈ts
end L2
namespace MG
variable {α:Type}{R:α->α->Prop}{x:α}
theorem Walk.map {β:Type}{S:β->β->Prop}(f:α->β) (h:∀a b,R a b->S (f a) (f b)) {n:Nat}{y:α}(w:Walk R n x y):Walk S n (f x) (f y):=by
 induction n generalizing y with
 | zero =>
  have w:x=y:=w
  subst w
  exact rfl
 | succ n ih =>
  obtain⟨z,w,r⟩:=w
  exact⟨f z,ih w,h z y r⟩
theorem Walk.back {β:Type}{S:β->β->Prop}(f:α->β) (h:∀a c,S (f a) c->∃b,c=f b/\R a b) {n:Nat}{c:β}(w:Walk S n (f x) c):∃y,c=f y/\Walk R n x y:=by
 induction n generalizing c with
 | zero =>
  have w:f x=c:=w
  exact⟨x,w.symm,rfl⟩
 | succ n ih =>
  obtain⟨z,w,r⟩:=w
  obtain⟨y,rfl,wy⟩:=ih w
  obtain⟨b,rfl,rb⟩:=h y c r
  exact⟨b,rfl,y,wy,rb⟩
def swp (es:List (Nat × Nat)):List (Nat × Nat):=es.map fun e=>(e.2,e.1)
theorem mem_swp {es:List (Nat × Nat)}{a b:Nat}:(a,b)∈swp es ↔ (b,a)∈es:=by
 unfold swp
 rw[al]
 constructor
 ·rintro⟨⟨x,y⟩,h,e⟩
  cases e;exact h
 ·intro h;exact⟨(b,a),h,rfl⟩
def Arr (es:List (Nat × Nat)) (a b:Nat):Prop:=(a,b)∈es
def To (es:List (Nat × Nat)) (goal k a:Nat):Prop:=Dst (Arr (swp es)) goal k a
variable {es:List (Nat × Nat)}{goal:Nat}
end MG
namespace MG
variable {es:List (Nat × Nat)}
theorem Walk.cons {α:Type}{R:α->α->Prop}{x y z:α}{n:Nat}(r:R x y) (w:Walk R n y z):Walk R (n+1) x z:=by
 induction n generalizing z with
 | zero =>
  have w:y=z:=w
  subst w
  exact⟨x,rfl,r⟩
 | succ n ih =>
  obtain⟨v,w,q⟩:=w
  exact⟨v,ih w,q⟩
theorem mj {n a b:Nat}(w:Walk (Arr es) n a b):Walk (Arr (swp es)) n b a:=by
 induction n generalizing b with
 | zero =>
  have w:a=b:=w
  exact w.symm
 | succ n ih =>
  obtain⟨z,w,r⟩:=w
  exact Walk.cons (mem_swp.mpr r) (ih w)
theorem sT (es:List (Nat × Nat)):swp (swp es)=es:=by
 unfold swp
 rw[aT]
 exact List.map_id'' (fun e=>rfl) es
theorem rch_to {a goal:Nat}:Rch (Arr es) a goal ↔ ∃k,To es goal k a:=by
 constructor
 ·rintro⟨n,w⟩
  exact Rch.dst ⟨n,mj w⟩
 ·rintro⟨k,h⟩
  have:=mj h.1
  rw[sT] at this
  exact⟨k,this⟩
def RingAt (es:List (Nat × Nat)) (e:Nat × Nat):Prop:=∃k,To es e.1 k e.2
end MG
namespace L2
open PySem PySem.Spec PyProof.Rows
theorem cP {H H':Hp}{b:Addr}(s:Same H H') (h:H' b=none):H b=none:=by
 cases q:H b with
 | none=>rfl
 | some o=>rw[s _ _ q] at h;cases h
theorem cX {H H':Hp}{b:Addr}{o:HO}(s:Same H H') (h:H b=none):Same H (upd H' b o):=fun c o' hc=>by
 rw[cm (cq hc h)];exact s _ _ hc
theorem t9 {H H':Hp}{p a:Addr}(s:Same H H') (v:PenV H p a):PenV H' p a:=let ⟨i,m,e,q⟩:=v;⟨i,m,s _ _ e,q⟩
section
variable {X:Cx}{p pos p2 pos2:Pos}{e f:Expr}{t:TA}
def pJ:V->List V->Hp->VK->Prop:=fun x vs H Q=>∃l xs y j z,x=.ref l/\vs=[y]/\H l=some (.lst xs)/\eS y=true/\xs.all eS=true/\xs[j]? = some z/\eqV z y=true/\(∀(m:Nat) z',m<j->xs[m]? = some z'->eqV z' y=false)/\Q (.int ((j:Nat):Int)) H
theorem qx {xs:List V}{us:List Value}(r:Vals xs us) {j:Nat}{u:Value}(e:us[j]? = some u):∃x,xs[j]? = some x/\RelV x u:=by
 induction r generalizing j with
 | nil=>simp at e
 | @cons a b as bs h t ih =>
  cases j with
  | zero=>simp at e;subst e;exact⟨a,rfl,h⟩
  | succ j=>simpa using ih (by simpa using e)
theorem pY:MtR X "list.index" pJ:=by
 intro pins s σ H x vs v us Q I rx rv h
 obtain⟨l,xs,y,j,z,rfl,rfl,hH,fy,fs,hj,hz,hno,q⟩:=h
 cases rx
 obtain⟨u,rfl,ru⟩:=dR rv
 obtain⟨zz,its,n,r,hl,e⟩:=I.lstM hH
 have hjl:=(ak.mp hj).1
 have hlen:=r.length
 have hat:∀m (hm:m<its.length),∃z',xs[m]? = some z'/\eqU y its[m]=eqV z' y:=fun m hm=>by
  obtain⟨z',hz',rz⟩:=qx r (ap hm)
  refine⟨z',hz',lG rz ?_⟩
  exact aW.mp fs z' (av hz')
 have h63:(j:Int)<2 ^ 63-1:=by
  have h1:xs.length<=sizeLine:=by omega
  have h2:(sizeLine:Nat)<2 ^ 62:=by decide
  omega
 refine call_meets F.slot_list_index ⟨_,e,rfl⟩ F.entry_list_index (F.args_list_index_2 _ _)
  (SeqAt.list_indexAt l its.toArray n _ _ u (eqU y) j (by simpa using (by omega:j<its.length)) h63 ?_ ?_) ⟨e,fun w hw=>fG ru fy r fs w (by simpa using hw),⟨.int _,H,?_,⟨_,rfl⟩,q⟩⟩
 ·obtain⟨z',h1,h2⟩:=hat j (by omega)
  rw[hj] at h1
  cases h1
  simpa using h2.trans hz
 ·intro m hm hlt
  obtain⟨z',h1,h2⟩:=hat m (by simpa using hm)
  simpa using h2.trans (hno m z' hlt h1)
 ·exact I.kept fun b o eb=>eb
theorem tU (K:W.Frag) {o e:Expr}{to:TE}{t:TA}{apos cpos:Pos}(ho:PE X o to) (ha:PA X [e] t)
    (hbase:attributeBase o "index" X.env (eval o X.env)=eval o X.env:=by rfl)
    (hfew:((backTo cpos (starEach [e] X.env)).all (fun x=>!x.1)&&(backToKw cpos (keywordEach [] X.env)).all (fun x=>x.1.isSome)
     && decide ([e].length+([]:List Keyword).length+(if ([]:List Keyword).isEmpty then 0 else 1)<30))=true:=by rfl)
    (hline:(apos.endLine==cpos.line)=true:=by rfl) (hs:starEach [e] X.env=(false,eval e X.env)::starEach [] X.env:=by rfl) (hplain:(backTo cpos (starEach [] X.env)).any (·.1)=false:=by rfl) (hK:X.K=K:=by rfl) :
    PE X (.Call (.Attribute o "index" apos) [e] [] cpos) (tBM K "list" pJ to t):=hK ▸ lD PySem.F.plainAttrs_list PySem.F.slot_list_index PySem.F.type_list_index pY ho ha hbase hfew hline hs hplain
end
end L2
namespace MG
section
variable {α:Type} [DecidableEq α]
def ix:List α->α->Nat
 | [],_=>0
 | a::r,x=>if a=x then 0 else ix r x+1
end
variable {es:List (Nat × Nat)}
end MG
namespace L2
open PySem PySem.Spec PyProof.Rows
open PySem.AutoSeq1 (wpAny_loadPart')
section
variable {prog:Program}{w:World}{A:Around}{E:Value->Shared->Prop}{s:Shared}
theorem dq {jt tt:Addr}{i:Nat}{its:Array Value}{y:Value}{Q:Value->Shared->Prop}(hj:s.heap.IsTupleIter jt tt i) (htt:s.heap.IsTuple tt its) (hy:its[i]? = some y)
    (hQ:∀h',h'.IsTupleIter jt tt (i+1)->Heap.SameBut jt s.heap h'->Q y { s with heap:=h' }):wpAny (model prog w) A (Builtin.SmallTypes.nextOf (.ref jt)) Q E s:=by
 obtain⟨oj,hoj,cj,dj⟩:=id hj
 obtain⟨ot,hot,_,nt,dt⟩:=htt
 unfold Builtin.SmallTypes.nextOf
 refine aa (wpAny_callSpecial?_slot (name:=Str.ofString "__next__") hj.typeIs F.slot_tuple_iterator_next (wpAny_call_entry F.slot_tuple_iterator_next hj.typeIs F.entry_tuple_iterator_next ?_ (F.args_tuple_iterator_next_1 _)))
 show wpAny _ _ (field (.ref jt) 0 >>= _) _ _ s
 refine aa (az hoj dj (x:=.ref tt) rfl ?_)
 show wpAny _ _ (if (Value.ref tt==Value.none)=true then _ else _) _ _ s
 rw[if_neg (show ¬ ((Value.ref tt==Value.none)=true) from aB)]
 show wpAny _ _ (field (.ref jt) 1 >>= _) _ _ s
 refine aa (az hoj dj (x:=.int i 0) rfl (aa (aH hot dt ?_)))
 simp only[bz,hy]
 refine aa (wpAny_setField hoj dj (by simp) (ad ⟨y,rfl,ad (hQ _ ?_ (Heap.SameBut.update ..))⟩))
 exact⟨_,Heap.get?_update_self _ hoj (Obj.isFreed_of_fields (Obj.data_mapFields dj _)),(Obj.cls_mapFields ..).trans cj,by rw[Obj.data_mapFields dj];simp[rawInt]⟩
theorem er {jt tt:Addr}{i:Nat}{its:Array Value}{Q:Value->Shared->Prop}(hh:A.handled=none) (hj:s.heap.IsTupleIter jt tt i) (htt:s.heap.IsTuple tt its) (hy:its[i]? = none)
    (hE:∀h' e,Heap.ExtBut jt s.heap h'->(∃o,h'.get? e=some o/\o.cls=.type "StopIteration")->E (.ref e) { s with heap:=h' }):wpAny (model prog w) A (Builtin.SmallTypes.nextOf (.ref jt)) Q E s:=by
 obtain⟨oj,hoj,cj,dj⟩:=id hj
 obtain⟨ot,hot,_,nt,dt⟩:=htt
 unfold Builtin.SmallTypes.nextOf
 refine aa (wpAny_callSpecial?_slot (name:=Str.ofString "__next__") hj.typeIs F.slot_tuple_iterator_next (wpAny_call_entry F.slot_tuple_iterator_next hj.typeIs F.entry_tuple_iterator_next ?_ (F.args_tuple_iterator_next_1 _)))
 show wpAny _ _ (field (.ref jt) 0 >>= _) _ _ s
 refine aa (az hoj dj (x:=.ref tt) rfl ?_)
 show wpAny _ _ (if (Value.ref tt==Value.none)=true then _ else _) _ _ s
 rw[if_neg (show ¬ ((Value.ref tt==Value.none)=true) from aB)]
 show wpAny _ _ (field (.ref jt) 1 >>= _) _ _ s
 refine aa (az hoj dj (x:=.int i 0) rfl (aa (aH hot dt ?_)))
 simp only[bz,hy]
 refine aa (wpAny_rule (aa (wpAny_setField hoj dj (by simp) ?_)))
 show wpAny _ _ (newExc (.type "StopIteration") [] >>= _) _ _ _
 refine aa ?_
 simp only[newExc,newTuple]
 refine aa (wpAny_newObj_type (aa (m:=firstArgMember _ _) (wpAny_of_eq (a:=Value.none) (by first | rfl | (simp only[firstArgMember];rfl)) ?_)) (by size_fits))
 refine wpAny_newObj_type ?_ (by size_fits)
 simp only[raiseNew]
 refine aa (wpAny_handled ?_)
 first | rw[show A.in1.handled=none from hh] | rw[hh]
 refine aa (ad (wpAny_throw (hE _ _ (((Heap.SameBut.update ..).extBut.push _).push _) ⟨_,ao _ rfl,rfl⟩)))
theorem uI {prog:Program}{w:World}{A:Around}(hh:A.handled=none) (jt tt:Addr) (hne:tt≠jt) (its:Array Value) :
    Draws prog w A jt [jt,tt] its.size (fun i y=>its[i]? = some y) (fun i h=>h.IsTupleIter jt tt i/\h.IsTuple tt its) where
 live:=fun i h st=>let ⟨o,e,_⟩:=st.1;⟨o,e⟩
 frame:=fun i h h' st k=>⟨let ⟨o,e,r⟩:=st.1;⟨o,k jt (by simp) o e,r⟩,let ⟨o,e,r⟩:=st.2;⟨o,k tt (by simp) o e,r⟩⟩
 item:=fun i s Q E hi st hQ=>dq st.1 st.2 (y:=its[i]) (by simp[hi]) fun h' j' sb=>hQ _ h' s.toks (by simp[hi]) ⟨j',st.2.extBut sb.extBut hne⟩ sb
 done:=fun s Q E st hE=>er hh st.1 st.2 (by simp) hE
set_option maxHeartbeats 1000000 in
theorem mJ (l:Addr) (its:Array Value) (n:Nat) (dct:Option Addr) (sl:Array (Option Value)) :
    Meets (Builtin.«enumerate.__new__» ⟨[.type "enumerate",.ref l],[]⟩) (fun _ R s=>s.heap.get? l=some { cls:=.type "tuple",dict:=dct,data:=.seq its n,slots:=sl } /\
     R (.ok (.ret (.ref (s.heap.push { cls:=.type "tuple_iterator",data:=.fields #[.ref l,.int 0 0] }).objs.size)))
      { s with heap:=(s.heap.push { cls:=.type "tuple_iterator",data:=.fields #[.ref l,.int 0 0] }).push { cls:=.type "enumerate",data:=.fields #[.none,.bool false,.ref s.heap.objs.size,rawInt 0,.none,.none] } }) :=
 .of_wp fun prog w A R s h => by
  obtain⟨h0,g0,d0,t0,os0⟩:=s
  obtain⟨hl,h⟩:=h
  have hsub:=sub_enumerate
  have hT:Heap.IsTuple (Shared.heap ⟨h0,g0,d0,t0,os0⟩) l its:=⟨_,hl,rfl,n,rfl⟩
  wp_walk using wpAny_loadPart' hl
  refine wpAny_stack_any fun st=>ad ?_
  split
  ·rename_i c _ _ _ _ _
   cases (c==Value.type "enumerate")
   ·wp_walk using wpAny_loadPart' hl,bw hT
    exact⟨_,rfl,h⟩
   ·wp_walk using wpAny_loadPart' hl,bw hT
    exact⟨_,rfl,h⟩
  ·wp_walk using wpAny_loadPart' hl,bw hT
   exact⟨_,rfl,h⟩
theorem nQ {l:Addr}{its:Array Value}{Q:Value->Shared->Prop}(hT:s.heap.IsTuple l its)
    (h:∀h',IsEnum h' (s.heap.objs.size+1) s.heap.objs.size 0 .none->h'.IsTupleIter s.heap.objs.size l 0->(∀b o,s.heap.get? b=some o->h'.get? b=some o)->Q (.ref (s.heap.objs.size+1)) { s with heap:=h' }) :
    wpAny (model prog w) A (call (.type "enumerate") [.ref l]) Q E s:=by
 obtain⟨⟨c,dct,dt,sl⟩,hl,hc,n,hd⟩:=hT
 replace hc:c=.type "tuple":=hc
 replace hd:dt=.seq its n:=hd
 subst hc hd
 refine callType_new F.called_enumerate (by decide) (F.typeCall_enumerate_1 _) (F.newCall_enumerate_1 _) (fun obj=>F.args_object_init_2 obj _) F.entry_enumerate_new (mJ l its n dct sl) ⟨hl,?_⟩
 have hz:(s.heap.push { cls:=.type "tuple_iterator",data:=.fields #[.ref l,.int 0 0] }).objs.size=s.heap.objs.size+1:=bn ..
 show _/\_
 rw[hz]
 have he:IsEnum ((s.heap.push { cls:=.type "tuple_iterator",data:=.fields #[.ref l,.int 0 0] }).push { cls:=.type "enumerate",data:=.fields #[.none,.bool false,.ref s.heap.objs.size,rawInt 0,.none,.none] }) (s.heap.objs.size+1) s.heap.objs.size 0 .none:=by
  have:=ao (s.heap.push { cls:=.type "tuple_iterator",data:=.fields #[.ref l,.int 0 0] }) (o:={ cls:=.type "enumerate",data:=.fields #[.none,.bool false,.ref s.heap.objs.size,rawInt 0,.none,.none] }) rfl
  rw[hz] at this;exact this
 exact⟨⟨_,he,rfl⟩,h _ he ⟨_,ah _ (ao _ rfl),rfl,rfl⟩ fun b o x=>ah _ (ah _ x)⟩
end
def mh (K:W.Frag) (a:Addr):It :=
 ⟨fun i H=>∃xs x,SqT K H a xs/\xs[i]? = some x,fun i H v H'=>∃p x,H p=none/\v=.ref p/\(∀xs,SqT K H a xs->xs[i]? = some x)/\H'=upd H p (.tup [.int i,x]),fun i H=>∃xs,SqT K H a xs/\xs.length<=i⟩
theorem nF {P:Program}{w:World}{K:W.Frag}{elts:List Expr}{k:Nat}{tp:Pos}(a e it:Addr) (hne:e ≠ it) :
    Turn P w K (.Tuple elts k tp) (mh K a) [e,it] e (fun i h=>(∃old,IsEnum h e it i old)/\h.IsTupleIter it a i) where
 mem:=by simp
 obj:=fun i h st b hb=>by
  obtain⟨⟨old,he⟩,hit⟩:=st
  have hb:b=e∨b=it:=by simpa using hb
  rcases hb with z | z
  ·subst z
   exact⟨_,he,fun v z=>by cases z⟩
  ·subst z
   obtain⟨o,e1,c,d⟩:=hit
   exact⟨o,e1,fun v z=>by rw[d] at z;cases z⟩
 keep:=fun i h h' st kk=>by
  obtain⟨⟨old,he⟩,hit⟩:=st
  exact⟨⟨old,kk e (by simp) _ he⟩,let ⟨o,q,r⟩:=hit;⟨o,kk it (by simp) o q,r⟩⟩
 item := by
  intro X hP hw hK hc i pins s σ H E I hf st hg
  subst hP hw hK
  obtain⟨⟨old,he⟩,hit⟩:=st
  obtain⟨xs,x,hq,hx⟩:=hg
  obtain⟨its,rv,p,hz⟩:=I.tuple hq
  obtain⟨u,hu,ru⟩:=rv.get hx
  obtain⟨f0,f1,f2,f3,f4,f5⟩:=hf e (by simp)
  obtain⟨g0,g1,g2,g3,g4,g5⟩:=hf it (by simp)
  have hel:e<s.heap.objs.size:=af he
  have hil:it<s.heap.objs.size:=by obtain⟨o,q,_⟩:=hit;exact af q
  have hae:a≠e:=fun z=>by
   obtain⟨o,q,c,_⟩:=p
   rw[z,he] at q;cases q;simp at c
  have hai:a≠it:=fun z=>by
   obtain⟨o,q,c,_⟩:=p
   obtain⟨o',q',c',_⟩:=hit
   rw[z,q'] at q;cases q;rw[c] at c';simp at c'
  have hul:=(ak.mp hu).1
  refine wpAny_pyNext_enum_itemD (uI (A:=X.A.in1) (show X.A.in1.handled=none from I.ok.hd hc) it a hai its.toArray) he ⟨hit,p⟩ (by simpa using hul) hne (by simp[hne,Ne.symm hae]) fun u' h1 tk hu' ho hit1 ht1 hz1 k1=>?_
  have eu:u'=u:=by
   have:its[i]? = some u':=by simpa using hu'
   rw[hu] at this
   exact(ae this).symm
  subst eu
  refine⟨_,rfl,wpAny_letOwnedTupleGo_enum ho fun h2 he2 sb2=>?_⟩
  have sb2:Heap.SameBut e h1 h2:=sb2
  have T2:h2.get? s.heap.objs.size=some { cls:=.type "tuple",data:=.seq #[.int i tk,u'] }:=(sb2.2 _ (br hel)).trans ht1
  have hp:H s.heap.objs.size=none:=I.hok.fresh (ac _)
  have nit:∀b v,H b=some v->b≠e/\b≠it:=fun b v q=>⟨fun z=>(by rw[z,f0] at q;cases q),fun z=>(by rw[z,g0] at q;cases q)⟩
  have kk:∀b o,b≠e->b≠it->s.heap.get? b=some o->h2.get? b=some o:=fun b o n1 n2 q=>(sb2.2 b n1).trans (k1 b o n1 n2 q)
  have up:∀b v,H b=some v->upd H s.heap.objs.size (.tup [.int i,x]) b=some v:=fun b v q=>by rw[cm (cq q hp)];exact q
  have I1:Inv X pins σ (upd H s.heap.objs.size (.tup [.int i, x])) { s with heap := h2, gens := s.gens, drawn := s.drawn, toks := tk+1 } := by
   refine I.step (g':=s.gens) (d':=s.drawn) (ch:=[e,it]) (fun b hb=>?_) (fun b o _ _ hb q _=>kk b o (fun z=>hb (by simp[z])) (fun z=>hb (by simp[z])) q) (fun b o _ _ hb q _=>⟨o.slots,kk b o (fun z=>hb (by simp[z])) (fun z=>hb (by simp[z])) q⟩) (fun b o _ q n=>?_)
    (fun b o hb q=>⟨o,kk b o (fun z=>hb (by simp[z])) (fun z=>hb (by simp[z])) q⟩) (fun b ys q=>up b _ q) (fun b o v q=>up b _ q) (fun b ps q=>⟨#[],by rw[up b _ q];simp⟩) (fun m hm=>?_) (fun b v q=>?_) I.bare
   ·have hb:b=e∨b=it:=by simpa using hb
    rcases hb with z | z
    ·subst z;exact⟨f3,f1,f4,f5⟩
    ·subst z;exact⟨g3,g1,g4,g5⟩
   ·rw[cm (am (af q))];exact n
   ·obtain⟨o,es,ep,ho,r⟩:=hm
    exact⟨o,es,ep,kk _ o (Ne.symm f1) (Ne.symm g1) ho,r⟩
   ·by_cases hb:b=s.heap.objs.size
    ·subst hb
     rw[cn] at q
     have q':HO.tup [V.int i,x]=v:=ae q
     subst q'
     exact⟨by show 2<=sizeLine;decide,[.int i tk,u'],.cons ⟨_,rfl⟩ (.cons ru .nil),⟨_,T2,rfl,_,rfl,rfl⟩⟩
    ·rw[cm hb] at q
     refine(I.hok b v q).stay (fun c v' hc q'=>?_) (fun c q=>up c _ q) fun c ys q=>up c _ q
     rcases hc with z | z
     ·rw[z] at q' ⊢;exact kk b v' (nit b v q).1 (nit b v q).2 q'
     ·exact kk c v' (nit c _ z).1 (nit c _ z).2 q'
  refine⟨.ref s.heap.objs.size,upd H s.heap.objs.size (.tup [.int i,x]),I1,rfl,⟨_,x,hp,rfl,fun ys hy=>by rw[I.tuple_inj hy hq];exact hx,rfl⟩,⟨⟨u',?_⟩,?_⟩,fun b hb=>?_⟩
  ·exact(by simpa using he2)
  ·obtain⟨o,q,r⟩:=hit1.1
   exact⟨o,(sb2.2 it (Ne.symm hne)).trans q,r⟩
  ·have hb:b=e∨b=it:=by simpa using hb
   rcases hb with z | z
   ·rw[z,cm (am hel)];exact f0
   ·rw[z,cm (am hil)];exact g0
 done:=by
  intro X hP hw hK hc i pins s σ H E I hf st hg
  subst hP hw hK
  obtain⟨⟨old,he⟩,hit⟩:=st
  obtain⟨xs,hq,hx⟩:=hg
  obtain⟨its,rv,p,hz⟩:=I.tuple hq
  obtain⟨g0,g1,g2,g3,g4,g5⟩:=hf it (by simp)
  have hl:=rv.length
  have hT:s.TypeIs (.ref e) "enumerate":=⟨_,he,rfl⟩
  unfold pyNext
  refine aa (wpAny_attempt (wpAny_callSpecial?_slot (name:=Str.ofString "__next__") hT F.slot_enumerate_next (wpAny_call_entry F.slot_enumerate_next hT F.entry_enumerate_next ?_ (F.args_enumerate_next_1 _))))
  show wpAny _ _ (field (.ref e) 2 >>= _) _ _ _
  refine aa (az he rfl (x:=.ref it) rfl (aa (er (I.ok.hd hc) hit p (by simp;omega) fun h' x he' hx'=>?_)))
  obtain⟨o,ho,hc'⟩:=hx'
  refine aa (wpAny_isInstance (T:="StopIteration") (b:=true) ⟨o,ho,hc'⟩ isSubtype_stop ?_)
  exact ad ⟨rfl,I.turned (t':=s.toks) (fun b o hb q=>he' b o hb q) g0 g1 g3 g4 g5⟩
 self:=fun _ _ _ _ _ st h=>by
  obtain⟨⟨old,he⟩,_⟩:=st
  exact wpAny_pyIter_enum he h
inductive EnmR (K:W.Frag) (H:Hp):V->(It->Hp->Prop)->Prop
 | lst {a:Addr} {xs:List V} {R:It->Hp->Prop}:SqL K H a xs->R (Ite K a) H->EnmR K H (.ref a) R
 | tup {a:Addr} {xs:List V} {R:It->Hp->Prop}:SqT K H a xs->R (mh K a) H->EnmR K H (.ref a) R
def uv (K:W.Frag) (ta:TA):TI:=fun σ H R=>ta σ H fun vs H1=>∃x,vs=[x]/\EnmR K H1 x R
theorem lQ (K:W.Frag) {X:Cx}{elts:List Expr}{k:Nat}{tp:Pos}{a:Expr}{ta:TA}{p pos:Pos}(hg:Gl X "enumerate") (hm:X.mg "enumerate"=none) (ha:PA X [a] ta) (hs:starEach [a] X.env=[(false,eval a X.env)]:=by rfl) (hK:X.K=K:=by rfl) :
    PI X (.Tuple elts k tp) (.Call (.Name "enumerate" p) [a] [] pos) (uv K ta):=by
 subst hK
 intro pins s σ H R I h
 refine Call_ (eI I hg hm boot_enumerate (PyProof.Rows.callWith_type1 (thn (ha pos pins s σ H _ I h) fun us s1 ⟨vs,H1,I1,r1,q1⟩=>?_) hs rfl))
 obtain⟨x,e,q⟩:=q1
 subst e
 obtain⟨u,rfl,ru⟩:=dR r1
 have fin:∀b,b=s1.heap.objs.size+1∨b=s1.heap.objs.size->dB X pins H1 b:=fun b hb=>by
  rcases hb with z | z
  ·subst z;exact I1.fpOk (Nat.le_succ _) (I1.hok.fresh (Nat.le_succ _))
  ·subst z;exact I1.fpOk (ac _) (I1.hok.fresh (ac _))
 cases q with
 | lst hq q =>
  cases ru
  obtain⟨its,rv,pl,hz⟩:=I1.list hq
  refine call_enumerate_list pl.isList fun h' he hit hz' k'=>wpAny_pyIter_enum (s:={ s1 with heap:=h' }) he ?_
  exact⟨_,[s1.heap.objs.size+1,s1.heap.objs.size],_,_,H1,rfl,I1.kept (t':=s1.toks) k',oK _ _ _ (Nat.succ_ne_self _),⟨⟨_,he⟩,hit⟩,fun b hb=>fin b (by simpa using hb),q⟩
 | tup hq q =>
  cases ru
  obtain⟨its,rv,pl,hz⟩:=I1.tuple hq
  refine nQ pl fun h' he hit k'=>wpAny_pyIter_enum (s:={ s1 with heap:=h' }) he ?_
  exact⟨_,[s1.heap.objs.size+1,s1.heap.objs.size],_,_,H1,rfl,I1.kept (t':=s1.toks) k',nF _ _ _ (Nat.succ_ne_self _),⟨⟨_,he⟩,hit⟩,fun b hb=>fin b (by simpa using hb),q⟩
theorem kQ {K:W.Frag}{a:Addr}{xs:List V}{g:TG}{tb:TS}{D:Ends}{σ:St}{H:Hp}(Pv:Nat -> St -> Hp -> Prop) (h0:Pv 0 σ H) (hl:∀i σ H, i <= xs.length -> Pv i σ H -> SqT K H a xs)
    (hs:∀i x σ H p,xs[i]? = some x->Pv i σ H->H p=none->g (.ref p) σ (upd H p (.tup [.int i,x])) fun σ2 H2=>tb { D with nx:=Pv (i+1),ct:=Pv (i+1),bk:=D.nx } σ2 H2) (hd:∀σ H,Pv xs.length σ H->D.nx σ H) :
    ∃W:Nat->Nat->St->Hp->Prop,(∃m,W 0 m σ H)/\∀i m σ H,W i m σ H ->
     ((mh K a).stop i H/\D.nx σ H)∨((mh K a).go i H/\∃N:St->Hp->Prop,(∀σ' H',N σ' H'->∃m',m'<m/\W (i+1) m' σ' H')/\∀x H',(mh K a).yld i H x H'->g x σ H' fun σ2 H2=>tb { D with nx:=N,ct:=N,bk:=D.nx } σ2 H2):=by
 refine⟨fun i m σ H=>m=xs.length-i/\i<=xs.length/\Pv i σ H,⟨xs.length,by simp,aL _,h0⟩,?_⟩
 rintro i m σ H ⟨rfl,hi,p⟩
 have q:=hl i σ H hi p
 by_cases hlt:i<xs.length
 ·refine .inr ⟨⟨xs,xs[i],q,by simp[hlt]⟩,Pv (i+1),fun σ' H' p'=>⟨xs.length-(i+1),by omega,rfl,hlt,p'⟩,fun x H' y=>?_⟩
  obtain⟨r,z,hr,rfl,hz,rfl⟩:=y
  exact hs i z σ H r (hz xs q) p hr
 ·have e:i=xs.length:=by omega
  subst e
  exact .inl ⟨⟨xs,q,ac _⟩,hd σ H p⟩
end L2
namespace L2
open PySem PySem.Spec PyProof.Rows
abbrev Zp (h:Heap) (z TI TO:Addr) (f0:Value) (f1:Bool):Prop:=h.get? z=some { cls:=.type "zip",dict:=none,data:=.fields #[f0,.bool f1,.bool false,.ref TI,.ref TO],slots:=#[] }
def F0 (f0:Value):Prop:=f0=.none∨∃T:Nat,f0=rawInt (T:Int)
section
variable {prog:Program}{w:World}{A:Around}{E:Value->Shared->Prop}{s:Shared}
theorem oH {a:Addr}{Q:Option Obj->Shared->Prop}(h:Q (s.heap.get? a) s):wpAny (model prog w) A (loadIfAlive a) Q E s:=fun _ _ _=>h
theorem gv {z TI TO:Addr}{f0:Value}{f1:Bool}(hf:F0 f0) (hz:Zp s.heap z TI TO f0 f1) {Q:Bool -> Shared -> Prop}(h:∀b f1' h', Zp h' z TI TO f0 f1' -> Heap.SameBut z s.heap h' -> Q b { s with heap := h' }) :
    wpAny (model prog w) A (Builtin.SmallTypes.ownedTupleIsFree (.ref z)) Q E s:=by
 unfold Builtin.SmallTypes.ownedTupleIsFree
 rcases hf with rfl | ⟨T,rfl⟩
 ·exact aa (az hz rfl (x:=.none) rfl (ad (h true f1 s.heap hz (Heap.SameBut.refl ..))))
 ·refine aa (az hz rfl (x := rawInt (T:Int)) rfl ?_)
  refine aa (oH ?_)
  cases s.heap.get? (T:Int).toNat with
  | none=>exact ad (h true f1 s.heap hz (Heap.SameBut.refl ..))
  | some o =>
   show wpAny _ _ (field (.ref z) 1 >>= _) _ _ _
   refine aa (az hz rfl (x:=.bool f1) rfl ?_)
   cases f1 with
   | true=>exact ad (h false true s.heap hz (Heap.SameBut.refl ..))
   | false =>
    show wpAny _ _ (setField (.ref z) 1 (.bool true) >>= _) _ _ _
    exact aa (aM hz (by simp) fun h1 hz1 sb=>ad (h false true h1 hz1 sb))
theorem qQ {z TI TO i1 i2 l1 l2:Addr}{k1 k2:Nat}{f0:Value}{f1:Bool}{xs ys:Array Value}{x y a b:Value}{Q:Value -> Shared -> Prop}(D:ZipApart z TI TO i1 i2 l1 l2) (hf:F0 f0)
    (hz:Zp s.heap z TI TO f0 f1) (hTI:IsPair s.heap TI (.ref i1) (.ref i2)) (hTO:IsPair s.heap TO a b)
    (h1:s.heap.IsListIter i1 l1 k1) (h2:s.heap.IsListIter i2 l2 k2) (hl1:s.heap.IsList l1 xs) (hl2:s.heap.IsList l2 ys) (hx:xs[k1]? = some x) (hy:ys[k2]? = some y)
    (hQ:∀h' f0' f1',F0 f0'->Zp h' z TI TO f0' f1'->(∃a b,IsPair h' TO a b)->h'.IsListIter i1 l1 (k1+1)->h'.IsListIter i2 l2 (k2+1)->IsPair h' s.heap.objs.size x y ->
     (∀c o,c≠z->c≠TO->c≠i1->c≠i2->s.heap.get? c=some o->h'.get? c=some o)->Q (.ref s.heap.objs.size) { s with heap:=h' }) :
    wpAny (model prog w) A (Builtin.«zip.__next__» ⟨[.ref z],[]⟩) (fun fin s'=>∃v,fin=.done (.ret v)/\Q v s') E s:=by
 show wpAny _ _ (field (.ref z) 2 >>= _) _ _ _
 refine aa (az hz rfl (x:=.bool false) rfl ?_)
 show wpAny _ _ (field (.ref z) 3 >>= _) _ _ _
 refine aa (az hz rfl (x:=.ref TI) rfl (aa (aH hTI rfl ?_)))
 refine aa (gv hf hz fun own f1' g0 hz0 sb0=>?_)
 have sz0:g0.objs.size=s.heap.objs.size:=sb0.1
 cases own with
 | true =>
  simp only[if_true]
  refine aa (wpAny_rule ?_)
  refine aa (az (s:={ s with heap:=g0 }) hz0 rfl (x:=.ref TO) rfl ?_)
  refine aa (aM (s:={ s with heap:=g0 }) hz0 (by simp) fun g1 hz1 sb1=>?_)
  replace hz1:Zp g1 z TI TO .ellipsis f1':=hz1
  refine aa ?_
  simp only[bM,bN,aY,bc]
  refine aa (aa (wpAny_onRaise ?_))
  show wpAny _ _ (Builtin.SmallTypes.nextOf (.ref i1) >>= _) _ _ _
  have up1:∀c o,c≠z->s.heap.get? c=some o->g1.get? c=some o:=fun c o n e=>sb1.extBut _ _ n (sb0.extBut _ _ n e)
  refine aa (wpAny_nextOf_list_item (h1.at fun o e=>up1 _ o D.i1z e) (hl1.at fun o e=>up1 _ o D.l1z e) hx fun g2 j1 sb2=>ad ?_)
  have hTO2:IsPair g2 TO a b:=sb2.extBut _ _ D.TOi1 (up1 _ _ D.TOz hTO)
  refine aa (aH hTO2 rfl (aa (wpAny_updateSeq_pair hTO2 fun g3 hTO3 sb3=>?_)))
  replace hTO3:IsPair g3 TO x b:=hTO3
  refine aa (wpAny_letGo (ad (aa (aa (wpAny_onRaise ?_)))))
  show wpAny _ _ (Builtin.SmallTypes.nextOf (.ref i2) >>= _) _ _ _
  have up3:∀c o,c≠z->c≠i1->c≠TO->s.heap.get? c=some o->g3.get? c=some o:=fun c o n1 n2 n3 e=>sb3.extBut _ _ n3 (sb2.extBut _ _ n2 (up1 _ _ n1 e))
  refine aa (wpAny_nextOf_list_item (h2.at fun o e=>up3 _ o D.i2z D.i12.symm D.TOi2.symm e) (hl2.at fun o e=>up3 _ o D.l2z D.l2i1 D.l2TO e) hy fun g4 j2 sb4=>ad ?_)
  have hTO4:IsPair g4 TO x b:=sb4.extBut _ _ D.TOi2 hTO3
  refine aa (aH hTO4 rfl (aa (wpAny_updateSeq_pair hTO4 fun g5 hTO5 sb5=>?_)))
  replace hTO5:IsPair g5 TO x y:=hTO5
  refine aa (wpAny_letGo (ad (ad ?_)))
  refine aa (aH hTO5 rfl (aa (wpAny_newTuple ?_)))
  have hsz:g5.objs.size=s.heap.objs.size:=by rw[sb5.1,sb4.1,sb3.1,sb2.1,sb1.1,sz0]
  have hz5:Zp g5 z TI TO .ellipsis f1':=sb5.extBut _ _ D.TOz.symm (sb4.extBut _ _ D.i2z.symm (sb3.extBut _ _ D.TOz.symm (sb2.extBut _ _ D.i1z.symm hz1)))
  have j15:g5.IsListIter i1 l1 (k1+1):=j1.at fun o e=>sb5.extBut _ _ D.TOi1.symm (sb4.extBut _ _ D.i12 (sb3.extBut _ _ D.TOi1.symm e))
  have j25:g5.IsListIter i2 l2 (k2+1):=j2.at fun o e=>sb5.extBut _ _ D.TOi2.symm e
  have hk5:∀c o,c≠z->c≠TO->c≠i1->c≠i2->s.heap.get? c=some o->g5.get? c=some o:=fun c o c1 c2 c3 c4 e=>sb5.extBut _ _ c2 (sb4.extBut _ _ c4 (up3 _ _ c1 c3 c2 e))
  have hzlt:z<g5.objs.size:=af hz5
  show wpAny _ _ (Builtin.SmallTypes.ownedTupleHandOut (.ref z) (.ref g5.objs.size) >>= _) _ _ _
  refine aa ?_
  unfold Builtin.SmallTypes.ownedTupleHandOut
  have hz6:Zp (g5.push { cls:=.type "tuple",data:=.seq #[x,y] }) z TI TO .ellipsis f1':=ah _ hz5
  refine aa (aM hz6 (by simp) fun g7 hz7 sb7=>?_)
  replace hz7:Zp g7 z TI TO (rawInt g5.objs.size) f1':=hz7
  refine aM hz7 (by simp) fun g8 hz8 sb8=>?_
  replace hz8:Zp g8 z TI TO (rawInt g5.objs.size) false:=hz8
  have up:∀c o,c≠z->g5.get? c=some o->g8.get? c=some o:=fun c o c1 e=>sb8.extBut _ _ c1 (sb7.extBut _ _ c1 (ah _ e))
  have hT8:IsPair g8 g5.objs.size x y:=sb8.extBut _ _ (br hzlt) (sb7.extBut _ _ (br hzlt) (ao _ rfl))
  refine ad ⟨_,rfl,?_⟩
  show Q (.ref g5.objs.size) _
  rw[hsz] at hz8 hT8 ⊢
  exact hQ g8 _ _ (.inr ⟨_,rfl⟩) hz8 ⟨x,y,up _ _ D.TOz hTO5⟩ (j15.at fun o e=>up _ o D.i1z e) (j25.at fun o e=>up _ o D.i2z e) hT8 fun c o c1 c2 c3 c4 e=>up c o c1 (hk5 c o c1 c2 c3 c4 e)
 | false =>
  simp only[bt,if_false]
  refine aa ?_
  rw[<- bO]
  simp only[aY,bc]
  refine aa (aa (aG ?_))
  show wpAny _ _ (Builtin.SmallTypes.nextOf (.ref i1) >>= _) _ _ _
  have up1:∀c o,c≠z->s.heap.get? c=some o->g0.get? c=some o:=fun c o n e=>sb0.extBut _ _ n e
  refine aa (wpAny_nextOf_list_item (s:={ s with heap:=g0 }) (h1.at fun o e=>up1 _ o D.i1z e) (hl1.at fun o e=>up1 _ o D.l1z e) hx fun g2 j1 sb2=>ad ?_)
  replace sb2:Heap.SameBut i1 g0 g2:=sb2
  refine ad (aa (aa (aG ?_)))
  show wpAny _ _ (Builtin.SmallTypes.nextOf (.ref i2) >>= _) _ _ _
  have up2:∀c o,c≠z->c≠i1->s.heap.get? c=some o->g2.get? c=some o:=fun c o n1 n2 e=>sb2.extBut _ _ n2 (up1 _ _ n1 e)
  refine aa (wpAny_nextOf_list_item (h2.at fun o e=>up2 _ o D.i2z D.i12.symm e) (hl2.at fun o e=>up2 _ o D.l2z D.l2i1 e) hy fun g4 j2 sb4=>ad ?_)
  replace sb4:Heap.SameBut i2 g2 g4:=sb4
  refine ad (ad ?_)
  show wpAny _ _ (newTuple [x,y] >>= _) _ _ _
  refine aa (wpAny_newTuple (ad ⟨_,rfl,?_⟩))
  have hsz:g4.objs.size=s.heap.objs.size:=by rw[sb4.1,sb2.1,sz0]
  show Q (.ref g4.objs.size) _
  have pu:∀c o,g4.get? c=some o->(g4.push { cls:=.type "tuple",data:=.seq #[x,y] }).get? c=some o:=fun c o e=>ah _ e
  have hT8:IsPair (g4.push { cls:=.type "tuple",data:=.seq #[x,y] }) g4.objs.size x y:=ao _ rfl
  rw[hsz] at hT8 ⊢
  exact hQ _ _ _ hf (pu _ _ (sb4.extBut _ _ D.i2z.symm (sb2.extBut _ _ D.i1z.symm hz0))) ⟨a,b,pu _ _ (sb4.extBut _ _ D.TOi2 (up2 _ _ D.TOz D.TOi1 hTO))⟩ (j1.at fun o e=>pu _ o (sb4.extBut _ _ D.i12 e)) (j2.at fun o e=>pu _ o e) hT8 fun c o c1 c2 c3 c4 e=>pu _ _ (sb4.extBut _ _ c4 (up2 _ _ c1 c3 e))
theorem tT {z TI TO i1 i2 l1 l2:Addr}{k1 k2:Nat}{f0:Value}{f1:Bool}{xs ys:Array Value}{a b:Value}{Q:Fin -> Shared -> Prop}(hh:A.handled=none) (D:ZipApart z TI TO i1 i2 l1 l2) (hf:F0 f0)
    (hz:Zp s.heap z TI TO f0 f1) (hTI:IsPair s.heap TI (.ref i1) (.ref i2)) (hTO:IsPair s.heap TO a b)
    (h1:s.heap.IsListIter i1 l1 k1) (h2:s.heap.IsListIter i2 l2 k2) (hl1:s.heap.IsList l1 xs) (hl2:s.heap.IsList l2 ys) (hend:xs[k1]? = none∨ys[k2]? = none)
    (hE:∀h' e,(∀c o,c≠z->c≠TO->c≠i1->c≠i2->s.heap.get? c=some o->h'.get? c=some o)->(∃o,h'.get? e=some o/\o.cls=.type "StopIteration")->E (.ref e) { s with heap:=h' }) :
    wpAny (model prog w) A (Builtin.«zip.__next__» ⟨[.ref z],[]⟩) Q E s:=by
 show wpAny _ _ (field (.ref z) 2 >>= _) _ _ _
 refine aa (az hz rfl (x:=.bool false) rfl ?_)
 show wpAny _ _ (field (.ref z) 3 >>= _) _ _ _
 refine aa (az hz rfl (x:=.ref TI) rfl (aa (aH hTI rfl ?_)))
 refine aa (gv hf hz fun own f1' g0 hz0 sb0=>?_)
 cases own with
 | true =>
  simp only[if_true]
  refine aa (wpAny_rule ?_)
  refine aa (az (s:={ s with heap:=g0 }) hz0 rfl (x:=.ref TO) rfl ?_)
  refine aa (aM (s:={ s with heap:=g0 }) hz0 (by simp) fun g1 hz1 sb1=>?_)
  replace hz1:Zp g1 z TI TO .ellipsis f1':=hz1
  refine aa ?_
  simp only[bM,bN,aY,bc]
  refine aa (aa (wpAny_onRaise ?_))
  show wpAny _ _ (Builtin.SmallTypes.nextOf (.ref i1) >>= _) _ _ _
  have up1:∀c o,c≠z->s.heap.get? c=some o->g1.get? c=some o:=fun c o n e=>sb1.extBut _ _ n (sb0.extBut _ _ n e)
  cases hx:xs[k1]? with
  | none =>
   refine aa (wpAny_nextOf_list_end hh (h1.at fun o e=>up1 _ o D.i1z e) (hl1.at fun o e=>up1 _ o D.l1z e) hx fun g2 e sb2 he=>?_)
   obtain⟨oe,hoe,hce⟩:=he
   have hz2:Zp g2 z TI TO .ellipsis f1':=sb2 _ _ D.i1z.symm hz1
   have hez:e≠z:=fun q=>by subst q;rw[hz2] at hoe;cases hoe;simp at hce
   exact aM hz2 (by simp) fun g3 _ sb3=>hE g3 e (fun c o c1 _ c3 _ q=>sb3.extBut _ _ c1 (sb2 _ _ c3 (up1 _ _ c1 q))) ⟨oe,sb3.extBut _ _ hez hoe,hce⟩
  | some x =>
   have hy:ys[k2]? = none:=by rcases hend with q | q;rw[hx] at q;cases q;exact q
   refine aa (wpAny_nextOf_list_item (h1.at fun o e=>up1 _ o D.i1z e) (hl1.at fun o e=>up1 _ o D.l1z e) hx fun g2 j1 sb2=>ad ?_)
   have hTO2:IsPair g2 TO a b:=sb2.extBut _ _ D.TOi1 (up1 _ _ D.TOz hTO)
   refine aa (aH hTO2 rfl (aa (wpAny_updateSeq_pair hTO2 fun g3 hTO3 sb3=>?_)))
   refine aa (wpAny_letGo (ad (aa (aa (wpAny_onRaise ?_)))))
   show wpAny _ _ (Builtin.SmallTypes.nextOf (.ref i2) >>= _) _ _ _
   have up3:∀c o,c≠z->c≠i1->c≠TO->s.heap.get? c=some o->g3.get? c=some o:=fun c o n1 n2 n3 e=>sb3.extBut _ _ n3 (sb2.extBut _ _ n2 (up1 _ _ n1 e))
   refine aa (wpAny_nextOf_list_end hh (h2.at fun o e=>up3 _ o D.i2z D.i12.symm D.TOi2.symm e) (hl2.at fun o e=>up3 _ o D.l2z D.l2i1 D.l2TO e) hy fun g4 e sb4 he=>?_)
   obtain⟨oe,hoe,hce⟩:=he
   have hz4:Zp g4 z TI TO .ellipsis f1':=sb4 _ _ D.i2z.symm (sb3.extBut _ _ D.TOz.symm (sb2.extBut _ _ D.i1z.symm hz1))
   have hez:e≠z:=fun q=>by subst q;rw[hz4] at hoe;cases hoe;simp at hce
   exact aM hz4 (by simp) fun g5 _ sb5=>hE g5 e (fun c o c1 c2 c3 c4 q=>sb5.extBut _ _ c1 (sb4 _ _ c4 (up3 _ _ c1 c3 c2 q))) ⟨oe,sb5.extBut _ _ hez hoe,hce⟩
 | false =>
  simp only[bt,if_false]
  refine aa ?_
  rw[<- bO]
  simp only[aY,bc]
  refine aa (aa (aG ?_))
  show wpAny _ _ (Builtin.SmallTypes.nextOf (.ref i1) >>= _) _ _ _
  have up1:∀c o,c≠z->s.heap.get? c=some o->g0.get? c=some o:=fun c o n e=>sb0.extBut _ _ n e
  cases hx:xs[k1]? with
  | none =>
   refine aa (wpAny_nextOf_list_end (s:={ s with heap:=g0 }) hh (h1.at fun o e=>up1 _ o D.i1z e) (hl1.at fun o e=>up1 _ o D.l1z e) hx fun g2 e sb2 he=>?_)
   exact hE g2 e (fun c o c1 _ c3 _ q=>sb2 _ _ c3 (up1 _ _ c1 q)) he
  | some x =>
   have hy:ys[k2]? = none:=by rcases hend with q | q;rw[hx] at q;cases q;exact q
   refine aa (wpAny_nextOf_list_item (s:={ s with heap:=g0 }) (h1.at fun o e=>up1 _ o D.i1z e) (hl1.at fun o e=>up1 _ o D.l1z e) hx fun g2 j1 sb2=>ad ?_)
   replace sb2:Heap.SameBut i1 g0 g2:=sb2
   refine ad (aa (aa (aG ?_)))
   show wpAny _ _ (Builtin.SmallTypes.nextOf (.ref i2) >>= _) _ _ _
   have up2:∀c o,c≠z->c≠i1->s.heap.get? c=some o->g2.get? c=some o:=fun c o n1 n2 e=>sb2.extBut _ _ n2 (up1 _ _ n1 e)
   refine aa (wpAny_nextOf_list_end hh (h2.at fun o e=>up2 _ o D.i2z D.i12.symm e) (hl2.at fun o e=>up2 _ o D.l2z D.l2i1 e) hy fun g4 e sb4 he=>?_)
   exact hE g4 e (fun c o c1 c2 c3 c4 q=>sb4 _ _ c4 (up2 _ _ c1 c3 q)) he
end
theorem dO {prog:Program}{w:World}{A:Around}{E:Value->Shared->Prop}{s:Shared}{z:Addr}{Q:Option Value->Shared->Prop}(hT:s.TypeIs (.ref z) "zip")
    (h:wpAny (model prog w) A.in1 (Builtin.«zip.__next__» ⟨[.ref z],[]⟩) (fun fin s'=>∃v,fin=.done (.ret v)/\Q (some v) s') (fun e s'=>(∃o,s'.heap.get? (match e with | .ref a=>a | _=>0)=some o/\o.cls=.type "StopIteration")/\(∃a,e=.ref a)/\Q none s') s) :
    wpAny (model prog w) A (pyNext (.ref z)) Q E s:=by
 unfold pyNext
 refine aa (wpAny_attempt (wpAny_callSpecial?_slot (name:=Str.ofString "__next__") hT F.slot_zip_next (wpAny_call_entry F.slot_zip_next hT F.entry_zip_next (aS h (fun fin s' ⟨v,e,q⟩=>⟨v,e,ad q⟩) fun e s' q=>?_) (F.args_zip_next_1 _))))
 obtain⟨⟨o,ho,hc⟩,⟨a,rfl⟩,q⟩:=q
 exact aa (wpAny_isInstance (T:="StopIteration") (b:=true) ⟨o,ho,hc⟩ isSubtype_stop (ad q))
def Itz (K:W.Frag) (a b:Addr):It :=
 ⟨fun i H=>∃xs ys x y,SqL K H a xs/\SqL K H b ys/\xs[i]? = some x/\ys[i]? = some y,
  fun i H v H'=>∃p x y,H p=none/\v=.ref p/\(∀xs,SqL K H a xs->xs[i]? = some x)/\(∀ys,SqL K H b ys->ys[i]? = some y)/\H'=upd H p (.tup [x,y]),
  fun i H=>∃xs ys,SqL K H a xs/\SqL K H b ys/\(xs.length<=i∨ys.length<=i)⟩
theorem qO {P:Program}{w:World}{K:W.Frag}{nm:Str}{tp:Pos}(a b z TI TO i1 i2:Addr) (D:ZipApart z TI TO i1 i2 a b) :
    Turn P w K (.Name nm tp) (Itz K a b) [z,TI,TO,i1,i2] z (fun i h=>(∃f0 f1,F0 f0/\Zp h z TI TO f0 f1)/\IsPair h TI (.ref i1) (.ref i2)/\(∃c d,IsPair h TO c d)/\h.IsListIter i1 a i/\h.IsListIter i2 b i) where
 mem:=by simp
 obj:=fun i h st c hc=>by
  obtain⟨⟨f0,f1,_,hz⟩,hTI,⟨u,v,hTO⟩,⟨o1,e1,_,d1⟩,⟨o2,e2,_,d2⟩⟩:=st
  have hc:c=z∨c=TI∨c=TO∨c=i1∨c=i2:=by simpa using hc
  rcases hc with rfl | rfl | rfl | rfl | rfl
  ·exact⟨_,hz,fun v q=>by cases q⟩
  ·exact⟨_,hTI,fun v q=>by cases q⟩
  ·exact⟨_,hTO,fun v q=>by cases q⟩
  ·exact⟨_,e1,fun v q=>by rw[d1] at q;cases q⟩
  ·exact⟨_,e2,fun v q=>by rw[d2] at q;cases q⟩
 keep:=fun i h h' st k=>by
  obtain⟨⟨f0,f1,hf,hz⟩,hTI,⟨u,v,hTO⟩,h1,h2⟩:=st
  exact⟨⟨f0,f1,hf,k z (by simp) _ hz⟩,k TI (by simp) _ hTI,⟨u,v,k TO (by simp) _ hTO⟩,h1.at fun o e=>k i1 (by simp) o e,h2.at fun o e=>k i2 (by simp) o e⟩
 item := by
  intro X hP hw hK hc i pins s σ H E I hf st hg
  subst hP hw hK
  obtain⟨⟨f0,f1,hf0,hz⟩,hTI,⟨ta,tb,hTO⟩,h1,h2⟩:=st
  obtain⟨xs,ys,x,y,hqa,hqb,hx,hy⟩:=hg
  obtain⟨its,rv,pa,_⟩:=I.list hqa
  obtain⟨jts,rw',pb,_⟩:=I.list hqb
  obtain⟨u,hu,ru⟩:=rv.get hx
  obtain⟨v,hv,rv'⟩:=rw'.get hy
  refine dO ⟨_,hz,rfl⟩ (qQ D hf0 hz hTI hTO h1 h2 pa.isList pb.isList (x:=u) (y:=v) (by simpa using hu) (by simpa using hv) fun h' f0' f1' hf' hz' hTO' j1 j2 hpr k=>⟨_,rfl,?_⟩)
  refine ad (s:={ s with heap:=h' }) ?_
  have hp:H s.heap.objs.size=none:=I.hok.fresh (ac _)
  have fr:∀c∈[z,TI,TO,i1,i2],H c=none:=fun c hc=>(hf c hc).1
  have nit:∀c o,H c=some o->c≠z/\c≠TO/\c≠i1/\c≠i2:=fun c o q=>by
   refine⟨?_,?_,?_,?_⟩ <;> (intro e;rw[e,fr _ (by simp)] at q;cases q)
  have up:∀c o,H c=some o->upd H s.heap.objs.size (.tup [x,y]) c=some o:=fun c o q=>by rw[cm (cq q hp)];exact q
  have kk:∀c o,c∉[z,TO,i1,i2]->s.heap.get? c=some o->h'.get? c=some o:=fun c o n q=>k c o (fun e=>n (by simp[e])) (fun e=>n (by simp[e])) (fun e=>n (by simp[e])) (fun e=>n (by simp[e])) q
  have mem5:∀c∈[z,TO,i1,i2],c∈[z,TI,TO,i1,i2]:=fun c hc=>by simp at hc ⊢;rcases hc with e | e | e | e <;> simp[e]
  have hlt:∀c∈[z,TI,TO,i1,i2],c<s.heap.objs.size:=fun c hc=>by
   have hc:c=z∨c=TI∨c=TO∨c=i1∨c=i2:=by simpa using hc
   rcases hc with rfl | rfl | rfl | rfl | rfl
   ·exact af hz
   ·exact af hTI
   ·exact af hTO
   ·obtain⟨o,e,_⟩:=h1;exact af e
   ·obtain⟨o,e,_⟩:=h2;exact af e
  have I1:Inv X pins σ (upd H s.heap.objs.size (.tup [x, y])) { s with heap := h', gens := s.gens, drawn := s.drawn, toks := s.toks } := by
   refine I.step (g':=s.gens) (d':=s.drawn) (ch:=[z,TO,i1,i2]) (fun c hc=>?_) (fun c o _ _ n q _=>kk c o n q) (fun c o _ _ n q _=>⟨o.slots,kk c o n q⟩) (fun c o _ q n=>?_) (fun c o n q=>⟨o,kk c o n q⟩) (fun c ys q=>up c _ q) (fun c o v q=>up c _ q) (fun c ps q=>⟨#[],by rw[up c _ q];simp⟩) (fun m hm=>?_) (fun c o q=>?_) I.bare
   ·obtain⟨_,g1,_,g3,g4,g5⟩:=hf c (mem5 c hc)
    exact⟨g3,g1,g4,g5⟩
   ·rw[cm (am (af q))];exact n
   ·obtain⟨o,es,ep,ho,r⟩:=hm
    refine⟨o,es,ep,kk _ o (fun n=>?_) ho,r⟩
    exact(hf _ (mem5 _ n)).2.1 rfl
   ·by_cases hb:c=s.heap.objs.size
    ·subst hb
     rw[cn] at q
     have q':HO.tup [x,y]=o:=ae q
     subst q'
     exact⟨by show 2<=sizeLine;decide,[u,v],.cons ru (.cons rv' .nil),⟨_,hpr,rfl,_,rfl,rfl⟩⟩
    ·rw[cm hb] at q
     refine(I.hok c o q).stay (fun d o' hd q'=>?_) (fun d q=>up d _ q) fun d ys q=>up d _ q
     rcases hd with e | e
     ·rw[e] at q' ⊢;obtain⟨n1,n2,n3,n4⟩:=nit c o q;exact k c o' n1 n2 n3 n4 q'
     ·obtain⟨n1,n2,n3,n4⟩:=nit d _ e;exact k d o' n1 n2 n3 n4 q'
  refine⟨.ref s.heap.objs.size,upd H s.heap.objs.size (.tup [x,y]),I1,rfl,⟨_,x,y,hp,rfl,fun zs hz=>by rw[I.list_inj hz hqa];exact hx,fun zs hz=>by rw[I.list_inj hz hqb];exact hy,rfl⟩,⟨⟨f0',f1',hf',hz'⟩,?_,hTO',j1,j2⟩,fun c hc=>?_⟩
  ·exact k TI _ D.TIz D.TITO D.TIi1 D.TIi2 hTI
  ·rw[cm (am (hlt c hc))];exact fr c hc
 done:=by
  intro X hP hw hK hc i pins s σ H E I hf st hg
  subst hP hw hK
  obtain⟨⟨f0,f1,hf0,hz⟩,hTI,⟨ta,tb,hTO⟩,h1,h2⟩:=st
  obtain⟨xs,ys,hqa,hqb,hxy⟩:=hg
  obtain⟨its,rv,pa,_⟩:=I.list hqa
  obtain⟨jts,rw',pb,_⟩:=I.list hqb
  have l1:=rv.length
  have l2:=rw'.length
  have hend:its.toArray[i]? = none∨jts.toArray[i]? = none:=by
   rcases hxy with q | q
   ·exact .inl (by simp;omega)
   ·exact .inr (by simp;omega)
  refine dO ⟨_,hz,rfl⟩ (tT (A:=X.A.in1) (show X.A.in1.handled=none from I.ok.hd hc) D hf0 hz hTI hTO h1 h2 pa.isList pb.isList hend fun h' e k he=>⟨he,⟨e,rfl⟩,rfl,?_⟩)
  have fr:∀c∈[z,TI,TO,i1,i2],H c=none:=fun c hc=>(hf c hc).1
  have nit:∀c o,H c=some o->c≠z/\c≠TO/\c≠i1/\c≠i2:=fun c o q=>by
   refine⟨?_,?_,?_,?_⟩ <;> (intro e;rw[e,fr _ (by simp)] at q;cases q)
  have kk:∀c o,c∉[z,TO,i1,i2]->s.heap.get? c=some o->h'.get? c=some o:=fun c o n q=>k c o (fun e=>n (by simp[e])) (fun e=>n (by simp[e])) (fun e=>n (by simp[e])) (fun e=>n (by simp[e])) q
  have mem5:∀c∈[z,TO,i1,i2],c∈[z,TI,TO,i1,i2]:=fun c hc=>by simp at hc ⊢;rcases hc with e | e | e | e <;> simp[e]
  refine I.step (h':=h') (g':=s.gens) (d':=s.drawn) (t':=s.toks) (ch:=[z,TO,i1,i2]) (fun c hc=>?_) (fun c o _ _ n q _=>kk c o n q) (fun c o _ _ n q _=>⟨o.slots,kk c o n q⟩) (fun c o _ q n=>n) (fun c o n q=>⟨o,kk c o n q⟩) (fun c ys q=>q) (fun c o v q=>q) (fun c ps q=>⟨#[],by rw[q];simp⟩) (fun m hm=>?_) (fun c o q=>?_) I.bare
  ·obtain⟨_,g1,_,g3,g4,g5⟩:=hf c (mem5 c hc)
   exact⟨g3,g1,g4,g5⟩
  ·obtain⟨o,es,ep,ho,r⟩:=hm
   refine⟨o,es,ep,kk _ o (fun n=>?_) ho,r⟩
   exact(hf _ (mem5 _ n)).2.1 rfl
  ·refine(I.hok c o q).stay (fun d o' hd q'=>?_) (fun d q=>q) fun d ys q=>q
   rcases hd with e | e
   ·rw[e] at q' ⊢;obtain⟨n1,n2,n3,n4⟩:=nit c o q;exact k c o' n1 n2 n3 n4 q'
   ·obtain⟨n1,n2,n3,n4⟩:=nit d _ e;exact k d o' n1 n2 n3 n4 q'
 self:=fun A i s Q E st h=>by
  obtain⟨⟨f0,f1,hf0,hz⟩,_⟩:=st
  have hT:s.TypeIs (.ref z) "zip":=⟨_,hz,rfl⟩
  refine wpAny_pyIter_slot hT F.slot_zip_iter (wpAny_call_entry F.slot_zip_iter hT F.entry_zip_iter ?_ (F.args_zip_iter_1 _))
  show wpAny _ _ (ret (.ref z)) _ _ s
  exact ad ⟨_,rfl,"zip",_,hT,F.slot_zip_next.lookup,h⟩
def iZip (K:W.Frag) (ta:TA):TI:=fun σ H R=>ta σ H fun vs H1=>∃a b xs ys,vs=[.ref a,.ref b]/\SqL K H1 a xs/\SqL K H1 b ys/\R (Itz K a b) H1
theorem pS (K:W.Frag) {X:Cx}{nm:Str}{tp:Pos}{a b:Expr}{ta:TA}{p pos:Pos}(hg:Gl X "zip") (hm:X.mg "zip"=none) (ha:PA X [a,b] ta) (hs:starEach [a,b] X.env=(false,eval a X.env)::starEach [b] X.env:=by rfl) (hpl:(backTo pos (starEach [b] X.env)).any (·.1)=false:=by rfl) (hK:X.K=K:=by rfl) :
    PI X (.Name nm tp) (.Call (.Name "zip" p) [a,b] [] pos) (iZip K ta):=by
 subst hK
 intro pins s σ H R I h
 refine Call_ (eI I hg hm (show bootBuiltins "zip"=some (.type "zip") by decide +kernel) (PyProof.Rows.callWith_type1 (thn (ha pos pins s σ H _ I h) fun us s1 ⟨vs,H1,I1,r1,q1⟩=>?_) hs hpl))
 obtain⟨l1,l2,xs,ys,e,hqa,hqb,q⟩:=q1
 subst e
 obtain⟨u1,u2,rfl,r1,r2⟩:=fW r1
 cases r1
 cases r2
 obtain⟨its,rv,pa,_⟩:=I1.list hqa
 obtain⟨jts,rw',pb,_⟩:=I1.list hqb
 have a1:l1<s1.heap.objs.size:=by obtain⟨_,e,_⟩:=pa.isList;exact af e
 have a2:l2<s1.heap.objs.size:=by obtain⟨_,e,_⟩:=pb.isList;exact af e
 refine call_zip_2 pa.isList pb.isList fun h' hz hTI hTO hi1 hi2 _ hk=>?_
 have T:=qO (P:=X.prog) (w:=X.w) (K:=X.K) (nm:=nm) (tp:=tp) l1 l2 _ _ _ _ _ (zipApart_new a1 a2)
 have t0:(∃f0 f1,F0 f0/\Zp h' (s1.heap.objs.size+4) (s1.heap.objs.size+2) (s1.heap.objs.size+3) f0 f1)/\IsPair h' (s1.heap.objs.size+2) (.ref s1.heap.objs.size) (.ref (s1.heap.objs.size+1))/\(∃c d,IsPair h' (s1.heap.objs.size+3) c d)/\h'.IsListIter s1.heap.objs.size l1 0/\h'.IsListIter (s1.heap.objs.size+1) l2 0:=⟨⟨_,_,.inl rfl,hz⟩,hTI,⟨_,_,hTO⟩,hi1,hi2⟩
 refine T.self X.A 0 { s1 with heap:=h' } _ _ t0 ?_
 refine⟨_,_,_,_,H1,rfl,I1.kept (t':=s1.toks) hk,T,t0,fun b hb=>?_,q⟩
 have hb:b=s1.heap.objs.size+4∨b=s1.heap.objs.size+2∨b=s1.heap.objs.size+3∨b=s1.heap.objs.size∨b=s1.heap.objs.size+1:=by simpa using hb
 have hle:s1.heap.objs.size<=b:=by rcases hb with e | e | e | e | e <;> rw[e] <;> first | exact ac _ | exact Nat.le_add_right _ _
 exact I1.fpOk hle (I1.hok.fresh hle)
theorem lR {K:W.Frag}{k:Nat}{fr:List Nat}{g:TG}{tc:TT}{te:TE}{σ:St}{H1:Hp}{Q:VK}{a b:Addr}(xs ys:List V) (Pv:Addr -> Nat -> List V -> St -> Hp -> Prop)
    (h:∀D,H1 D=none->Pv D 0 [] (fO k fr σ) (upd H1 D (.lst []))/\(∀i acc σ' H',i<=(xs.zip ys).length->Pv D i acc σ' H'->H' D=some (.lst acc)->SqL K H' a xs/\SqL K H' b ys) /\
     (∀i acc σ' H' x y p,(xs.zip ys)[i]? = some (x,y)->Pv D i acc σ' H'->H' D=some (.lst acc)->H' p=none->g (.ref p) σ' (upd H' p (.tup [x,y])) fun σ2 H3=>tc σ2 H3 fun b H4 =>
      if b=true then te σ2 H4 fun y H5=>H5 D=some (.lst acc)/\acc.length<sizeLine/\Pv D (i+1) (acc++[y]) σ2 (upd H5 D (.lst (acc++[y]))) else H4 D=some (.lst acc)/\Pv D (i+1) acc σ2 H4) /\
     ∀acc σ' H',Pv D (xs.zip ys).length acc σ' H'->H' D=some (.lst acc)->Q (.ref D) H'):fw k fr g tc te (Itz K a b) σ H1 Q:=by
 intro D hD
 obtain⟨h0,hok,hs,hd⟩:=h D hD
 refine⟨fun i m acc σ' H'=>m=(xs.zip ys).length-i/\i<=(xs.zip ys).length/\Pv D i acc σ' H',⟨(xs.zip ys).length,by simp,aL _,h0⟩,?_⟩
 rintro i m acc σ' H' ⟨rfl,hi,p⟩ hacc
 obtain⟨oka,okb⟩:=hok i acc σ' H' hi p hacc
 have hl:(xs.zip ys).length=min xs.length ys.length:=List.length_zip
 by_cases hlt:i<(xs.zip ys).length
 ·refine .inr ⟨⟨xs,ys,xs[i]'(by omega),ys[i]'(by omega),oka,okb,by simp,by simp⟩,Pv D (i+1),fun acc' σ2 H2 p'=>⟨(xs.zip ys).length-(i+1),by omega,rfl,hlt,p'⟩,fun v H2 yl=>?_⟩
  obtain⟨q,x,y,hq,rfl,hx,hy,rfl⟩:=yl
  refine hs i acc σ' H' x y q ?_ p hacc hq
  rw[bH]
  exact⟨hx xs oka,hy ys okb⟩
 ·have e:i=(xs.zip ys).length:=by omega
  subst e
  exact .inl ⟨⟨xs,ys,oka,okb,by omega⟩,hd acc σ' H' p hacc⟩
inductive Thg (H:Hp):V->Prop
 | non:Thg H .non
 | bl (b:Bool):Thg H (.bl b)
 | int (i:Int):Thg H (.int i)
 | str {z:Str}:z.length<=sizeLine->Thg H (.str z)
 | lst {a:Addr} {xs:List V}:H a=some (.lst xs)->Thg H (.ref a)
 | tup {a:Addr} {xs:List V}:H a=some (.tup xs)->Thg H (.ref a)
 | dK {a:Addr} {kvs:List (Key × V)}:H a=some (.dK kvs)->Thg H (.ref a)
 | dT {a:Addr} {kvs:List (List Key × V)}:H a=some (.dT kvs)->Thg H (.ref a)
theorem Thg.same {H H':Hp}{x:V}(h:Thg H x) (s:Same H H'):Thg H' x:=by
 cases h with
 | non=>exact .non
 | bl b=>exact .bl b
 | int i=>exact .int i
 | str z=>exact .str z
 | lst e=>exact .lst (s _ _ e)
 | tup e=>exact .tup (s _ _ e)
 | dK e=>exact .dK (s _ _ e)
 | dT e=>exact .dT (s _ _ e)
def isS:V->Bool
 | .str _=>true
 | _=>false
def isI:V->Bool
 | .int _ | .bl _=>true
 | _=>false
def isB:V->Bool
 | .bl _=>true
 | _=>false
def isL (H:Hp):V->Bool
 | .ref a=>match H a with
  | some (.lst _)=>true
  | _=>false
 | _=>false
def isT (H:Hp):V->Bool
 | .ref a=>match H a with
  | some (.tup _)=>true
  | _=>false
 | _=>false
theorem iO {H:Hp}{a:Addr}{xs:List V}(e:H a=some (.lst xs)):isL H (.ref a)=true:=by show (match H a with | some (.lst _)=>true | _=>false)=true;rw[e]
theorem jV {H:Hp}{a:Addr}{xs:List V}(e:H a=some (.tup xs)):isT H (.ref a)=true:=by show (match H a with | some (.tup _)=>true | _=>false)=true;rw[e]
theorem so {H:Hp}{x:V}(h:isL H x=true):∃a xs,x=.ref a/\H a=some (.lst xs):=by
 cases x with
 | ref a =>
  have h:(match H a with | some (.lst _)=>true | _=>false)=true:=h
  split at h
  ·rename_i xs e;exact⟨a,xs,rfl,e⟩
  ·cases h
 | _=>cases h
theorem kh {H:Hp}{a:Addr}{o:HO}(e:H a=some o) (n:∀xs,o≠.lst xs):isL H (.ref a)=false:=by
 show (match H a with | some (.lst _)=>true | _=>false)=false
 rw[e];split
 ·rename_i xs q;exact absurd (ae q) (n xs)
 ·rfl
theorem kA {H:Hp}{a:Addr}{o:HO}(e:H a=some o) (n:∀xs,o≠.tup xs):isT H (.ref a)=false:=by
 show (match H a with | some (.tup _)=>true | _=>false)=false
 rw[e];split
 ·rename_i xs q;exact absurd (ae q) (n xs)
 ·rfl
theorem fq {K:W.Frag}{H:Hp}{x:V}(h:Thg H x):∃t,TyOf K H x t/\W.kitOne K t (.type "str")=some (isS x)/\W.kitOne K t (.type "int")=some (isI x)/\W.kitOne K t (.type "bool")=some (isB x) /\
    W.kitOne K t (.type "list")=some (isL H x)/\W.kitOne K t (.type "tuple")=some (isT H x):=by
 cases h with
 | non=>exact⟨_,.non,by rfl,by rfl,by rfl,by rfl,by rfl⟩
 | bl b=>exact⟨_,.bl b,by rfl,by rfl,by rfl,by rfl,by rfl⟩
 | int i=>exact⟨_,.int i,by rfl,by rfl,by rfl,by rfl,by rfl⟩
 | str z=>exact⟨_,.str _,by rfl,by rfl,by rfl,by rfl,by rfl⟩
 | lst e=>exact⟨_,.lst e,by rfl,by rfl,by rfl,by rw[iO e];rfl,by rw[kA e (fun _ z=>by cases z)];rfl⟩
 | tup e=>exact⟨_,.tup e,by rfl,by rfl,by rfl,by rw[kh e (fun _ z=>by cases z)];rfl,by rw[jV e];rfl⟩
 | dK e=>exact⟨_,.dK e,by rfl,by rfl,by rfl,by rw[kh e (fun _ z=>by cases z)];rfl,by rw[kA e (fun _ z=>by cases z)];rfl⟩
 | dT e=>exact⟨_,.dT e,by rfl,by rfl,by rfl,by rw[kh e (fun _ z=>by cases z)];rfl,by rw[kA e (fun _ z=>by cases z)];rfl⟩
def dZ (c:Nat):Bool:=decide (97<=c)&&decide (c<=122)
def kr:V->Bool
 | .str z=>decide (1<=z.length)&&(decide (z.length<=8)&&z.cps.toList.all dZ)
 | _=>false
theorem isNm_iff {z:Str}:kr (.str z)=true ↔ Nm z:=by
 show (decide (1<=z.length)&&(decide (z.length<=8)&&z.cps.toList.all dZ))=true ↔ _
 rw[bg,bg,decide_eq_true_iff,decide_eq_true_iff,aW]
 unfold Nm
 constructor
 ·rintro⟨h1,h2,h3⟩
  refine⟨h1,h2,fun c hc=>?_⟩
  have h:=h3 c hc
  unfold dZ at h
  rw[bg,decide_eq_true_iff,decide_eq_true_iff] at h
  exact h
 ·rintro⟨h1,h2,h3⟩
  refine⟨h1,h2,fun c hc=>?_⟩
  unfold dZ
  rw[bg,decide_eq_true_iff,decide_eq_true_iff]
  exact h3 c hc
theorem oz (c d:Nat):decide ([c]<[d])=decide (c<d):=by
 by_cases h:c<d
 ·rw[ai h];exact ai (List.Lex.rel h)
 ·rw[aA h]
  refine aA fun z=>?_
  cases z with
  | rel z=>exact h z
  | cons z=>cases z
def jj:Sp:=fun vs H Q _=>∃x,vs=[x]/\Thg H x/\∀H',Same H H'->Q (.bl (kr x)) H'
def pK (e:Str × Str):List Key:=[.inr e.1,.inr e.2]
theorem ur {e f:Str × Str}(h:pK e=pK f):e=f:=by
 unfold pK at h
 have h1:=List.cons.inj h
 have h2:=List.cons.inj h1.2
 exact Prod.ext (Sum.inr.inj h1.1) (Sum.inr.inj h2.1)
inductive PlR (H:Hp):V -> VK -> Prop
 | nm {a:Addr} {xs:List Str} {Q:VK}:(H a=some (.lst (List.map V.str xs))∨H a=some (.tup (List.map V.str xs)))->xs.length<=1000 ->
     (∀d kvs H',Same H H'->H d=none->H' d=some (.dK kvs)->(∀s,(cI kvs (.inr s)).isSome=true ↔ s∈xs)->(∀s v,cI kvs (.inr s)=some v->∃j:Nat,v=.int j/\xs[j]? = some s)->(kvs.map (·.1)).Nodup->(∀k∈kvs.map (·.1),∃s∈xs,k=Sum.inr s)->Q (.ref d) H')->PlR H (.ref a) Q
 | pr {a:Addr} {refs:List V} {ps:List (Str × Str)} {Q:VK}:(H a=some (.lst refs)∨H a=some (.tup refs))->RepAll H refs (ps.map cQ)->ps.length<=1000 ->
     (∀d kvs H',Same H H'->H d=none->H' d=some (.dT kvs)->(∀e:Str × Str,(cI kvs (pK e)).isSome=true ↔ e∈ps)->Q (.ref d) H')->PlR H (.ref a) Q
def fY:Sp:=fun vs H Q _=>∃x,vs=[x]/\PlR H x Q
section
variable {X:Cx}{p pos p2 pos2:Pos}{e f:Expr}{t:TA}
theorem ia (B:Blt X.mg) (hg:Gl X "tuple":=by rfl):PE X (.Name "tuple" p) (tC (.ty "tuple")):=gW hg B.tuple (show bootBuiltins "tuple"=some (.type "tuple") by decide +kernel) rfl
def rQ (K:W.Frag) (c d:String):List V->Hp->VK->Prop:=fun xs H Q=>∃x a t b,xs=[x,.ref a]/\H a=some (.tup [.ty c,.ty d])/\TyOf K H x t/\W.kitAny K t [.type c,.type d]=some b/\Q (.bl b) H
theorem n5 {pins:List (Addr × Obj)}{σ:St}{H:Hp}{s:Shared}{A:Around}{E:Value->Shared->Prop}{Q:Value->Shared->Prop}{x:V}{u t:Value}{tp:Addr}{dd:Option Addr}{its:List Value}{n:Nat}{sl:Array (Option Value)}{b:Bool}
    (I:Inv X pins σ H s) (rx:RelV x u) (ty:TyOf X.K H x t) (htp:s.heap.get? tp=some ⟨.type "tuple",dd,.seq its.toArray n,sl⟩) (e:W.kitAny X.K t its=some b) (h:∀tk,Q (.bool b) { s with toks:=tk }) :
    wpAny (model X.prog X.w) A (call (.builtin "isinstance") [u,.ref tp]) Q E s:=by
 cases ty with
 | non=>cases (show u=Value.none from rx);exact W.kia_tup W.kitx_none I.kIn True.intro htp e (fun z=>nomatch z) h
 | bl y=>cases (show u=Value.bool y from rx);exact W.kia_tup W.kitx_bool I.kIn True.intro htp e (fun z=>nomatch z) h
 | int i=>obtain⟨t,q⟩:=(show ∃t,u=Value.int i t from rx);cases q;exact W.kia_tup W.kitx_int I.kIn True.intro htp e (fun z=>nomatch z) h
 | str y=>obtain⟨t,q⟩:=(show ∃t,u=Value.str y t from rx);cases q;exact W.kia_tup W.kitx_str I.kIn True.intro htp e (fun z=>nomatch z) h
 | flt y=>obtain⟨t,q⟩:=(show ∃t,u=Value.float y t from rx);cases q;exact W.kia_tup W.kitx_float I.kIn True.intro htp e (fun z=>nomatch z) h
 | @lst a xs ea =>
  cases (show u=Value.ref a from rx)
  obtain⟨_,_,n,_,h1⟩:=(show ObjOk X.prog X.w H s.heap a (.lst xs) from I.hok a _ ea)
  exact W.kia_tup W.kitx_list I.kIn ⟨_,h1,rfl⟩ htp e (fun z=>nomatch z) h
 | @frz a ob xs ea =>
  cases (show u=Value.ref a from rx)
  obtain⟨_,_,_,n,_,h1⟩:=(show ObjOk X.prog X.w H s.heap a (.frz ob (.lst xs)) from I.hok a _ ea)
  exact W.kia_tup W.kitx_list I.kIn ⟨_,h1,rfl⟩ htp e (fun z=>nomatch z) h
 | @tup a xs ea =>
  cases (show u=Value.ref a from rx)
  obtain⟨_,_,_,p⟩:=(show ObjOk X.prog X.w H s.heap a (.tup xs) from I.hok a _ ea)
  obtain⟨o,h1,h2,_⟩:=p
  exact W.kia_tup W.kitx_tuple I.kIn ⟨o,h1,h2⟩ htp e (fun z=>nomatch z) h
 | @dK a kvs ea =>
  cases (show u=Value.ref a from rx)
  obtain⟨_,_,vs,_,p⟩:=(show ObjOk X.prog X.w H s.heap a (.dK kvs) from I.hok a _ ea)
  obtain⟨o,es,ep,h1,h2,_⟩:=p
  exact W.kia_tup W.kitx_dict I.kIn ⟨o,h1,h2.1⟩ htp e (fun z=>nomatch z) h
 | @dT a kvs ea =>
  cases (show u=Value.ref a from rx)
  obtain⟨_,_,xs,_,o,es,ep,h1,h2,_⟩:=(show ObjOk X.prog X.w H s.heap a (.dT kvs) from I.hok a _ ea)
  exact W.kia_tup W.kitx_dict I.kIn ⟨o,h1,h2.1⟩ htp e (fun z=>nomatch z) h
 | @ins a C dx fs ea cl ha hn htk hm =>
  cases (show u=Value.ref a from rx)
  obtain⟨mA,O,_⟩:=mQ I.hok ea
  obtain⟨od,J,_⟩:=O.look
  exact W.kia_tup (W.kitx_own (cl.get _) cl.hd ha hn htk hm) I.kIn J htp e (fun z=>nomatch z) h
theorem oJ (c d:String):ed X (.builtin "isinstance") (rQ X.K c d):=by
 intro pins s σ H xs us Q I r h
 obtain⟨x,a,t,b,rfl,ea,ty,e,q⟩:=h
 obtain⟨u,w',rfl,ru,rw'⟩:=fW r
 cases rw'
 obtain⟨_,its,rv,⟨oc,od,odt,osl⟩,h1,h2,n,h3,_⟩:=(show ObjOk X.prog X.w H s.heap a (.tup [.ty c,.ty d]) from I.hok a _ ea)
 have h2:oc=.type "tuple":=h2
 have h3:odt=.seq its.toArray n:=h3
 subst h2 h3
 obtain⟨u1,u2,rfl,r1,r2⟩:=fW rv
 cases r1
 cases r2
 exact n5 I ru ty h1 e fun tk=>⟨.bl b,H,I.tok tk,rfl,q⟩
theorem oN (K:W.Frag) (c d:String) (B:Blt X.mg) (ha:PA X [e,f] t) (hg:Gl X "isinstance":=by rfl) (he:starEach [e,f] X.env=(false,eval e X.env)::starEach [f] X.env:=by rfl) (hpl:(backTo pos (starEach [f] X.env)).any (·.1)=false:=by rfl) (hK:X.K=K:=by rfl):PE X (.Call (.Name "isinstance" p) [e,f] [] pos) (tCB (rQ K c d) t) :=
 hK ▸ dM (oJ c d) hg B.isinstance boot_isinstance ha (by decide) (by decide) he hpl
end
theorem ol {K:W.Frag}{H:Hp}{x:V}{t:Value}(h1:W.kitOne K t (.type "list")=some (isL H x)) (h2:W.kitOne K t (.type "tuple")=some (isT H x)):W.kitAny K t [.type "list",.type "tuple"]=some (isL H x||isT H x):=by
 unfold W.kitAny
 rw[h1]
 cases isL H x with
 | true=>rfl
 | false =>
  show W.kitAny K t [.type "tuple"]=_
  unfold W.kitAny
  rw[h2]
  cases isT H x <;> rfl
section
variable {X:Cx}{p pos:Pos}{e:Expr}{t:TA}
def vv:List V->Hp->VK->Prop:=fun xs H Q=>∃a kvs,xs=[V.ref a]/\H a=some (.dK kvs)/\Q (.int kvs.length) H
theorem ml (B:Blt X.mg) (ha:PA X [e] t) (hg:Gl X "len":=by rfl) (he:starEach [e] X.env=(false,eval e X.env)::starEach [] X.env:=by rfl) (hpl:(backTo pos (starEach [] X.env)).any (·.1)=false:=by rfl):PE X (.Call (.Name "len" p) [e] [] pos) (tCB vv t) :=
 dM oS hg B.len PySem.boot_len ha (by decide) (by decide) he hpl
end
theorem tH (x y:Str):PyData.eqv (.str x) (.str y)=decide (x=y):=by
 show (x==y)=_
 by_cases h:x=y
 ·subst h;simp
 ·rw[aA h];simpa using h
theorem li:∀xs ys:List Str,PyData.eqv (fm xs) (fm ys)=decide (xs=ys)
 | [],[]=>rfl
 | [],_::_=>rfl
 | _::_,[]=>rfl
 | x::xs,y::ys=>by
  have ih:=li xs ys
  show (PyData.eqv (.str x) (.str y)&&PyData.eqv (fm xs) (fm ys))=_
  rw[tH,ih,aZ,bg,decide_eq_true_iff,decide_eq_true_iff,decide_eq_true_iff]
  exact⟨fun ⟨a,b⟩=>by rw[a,b],fun h=>⟨(List.cons.inj h).1,(List.cons.inj h).2⟩⟩
def fe (ss:List Str):V->Bool
 | .str s=>decide (s∈ss)
 | _=>false
def qp (H:Hp) (ss:List Str):V->Bool
 | .ref a=>match H a with
  | some (.lst xs)=>xs.all (fe ss)
  | _=>false
 | _=>false
theorem lV {H:Hp}{ss:List Str}{a:Addr}{xs:List V}(e:H a=some (.lst xs)):qp H ss (.ref a)=xs.all (fe ss):=by
 show (match H a with | some (.lst xs)=>xs.all (fe ss) | _=>false)=_
 rw[e]
theorem qH {H:Hp}{ss:List Str}{x:V}(h:isL H x=false):qp H ss x=false:=by
 cases x with
 | ref a =>
  show (match H a with | some (.lst xs)=>xs.all (fe ss) | _=>false)=false
  split
  ·rename_i xs e;rw[iO e] at h;cases h
  ·rfl
 | _=>rfl
theorem p3 {ss:List Str}{ws:List Str}(h:∀w∈ws,w∈ss):(List.map V.str ws).all (fe ss)=true:=by
 rw[List.all_map,aW]
 intro w hw
 exact ai (h w hw)
def ik (ts:List (Str × Str)) (one other:Str) (ws:List Str):Bool :=
 if one=other then decide (ws=[one]) else decide (2<=ws.length)&&(decide (ws[0]? = some one)&&(decide (ws.getLast? = some other)&&(ws.zip (ws.drop 1)).all fun e=>decide (e∈ts)))
end L2
namespace L2
open PySem PySem.Spec PyProof.Rows PySem.Builtin PySem.Builtin.Str
theorem gX {c:Const}{j:Nat}{p:Pos}{es:List Expr}{env:Env}:starEach (.Constant c j p::es) env=(false,eval (.Constant c j p) env)::starEach es env:=rfl
theorem uw {x:Str}{p:Pos}{es:List Expr}{env:Env}:starEach (.Name x p::es) env=(false,eval (.Name x p) env)::starEach es env:=rfl
theorem vn {x y:Expr}{p:Pos}{es:List Expr}{env:Env}:starEach (.Subscript x y p::es) env=(false,eval (.Subscript x y p) env)::starEach es env:=rfl
theorem oI {x y:Expr}{o:Operator}{p:Pos}{es:List Expr}{env:Env}:starEach (.BinOp x o y p::es) env=(false,eval (.BinOp x o y p) env)::starEach es env:=rfl
theorem u7 {x:Expr}{xs:List Expr}{ks:List Keyword}{p:Pos}{es:List Expr}{env:Env}:starEach (.Call x xs ks p::es) env=(false,eval (.Call x xs ks p) env)::starEach es env:=rfl
end L2
namespace L2
open PySem PySem.Spec PyProof.Rows
def SqA (H:Hp) (a:Addr) (xs:List V):Prop:=H a=some (.lst xs)∨H a=some (.tup xs)
theorem SqA.same {H H':Hp}{a:Addr}{xs:List V}(h:SqA H a xs) (s:Same H H'):SqA H' a xs:=by
 rcases h with h | h
 ·exact .inl (s _ _ h)
 ·exact .inr (s _ _ h)
theorem SqA.len {K:W.Frag}{H:Hp}{a:Addr}{xs:List V}(h:SqA H a xs):pV K (.ref a) H xs.length:=by
 rcases h with h | h
 ·exact .inl ⟨xs,.of h,rfl⟩
 ·exact .inr ⟨xs,.of h,rfl⟩
theorem SqA.thg {H:Hp}{a:Addr}{xs:List V}(h:SqA H a xs):Thg H (.ref a):=by
 rcases h with h | h
 ·exact .lst h
 ·exact .tup h
theorem SqA.lt {H:Hp}{a:Addr}{xs:List V}(h:SqA H a xs):(isL H (.ref a)||isT H (.ref a))=true:=by
 rcases h with h | h
 ·rw[iO h];rfl
 ·rw[jV h,Bool.or_true]
theorem iJ:∀ds:List PyData,PyData.shownAll ds=ds.map PyData.shown
 | []=>rfl
 | d::ds=>by
  show PyData.shown d::PyData.shownAll ds=_
  rw[iJ ds];rfl
structure Sw (d:PyData) (n k:Nat):Prop where
 lay:d.canLay0=true
 sb:d.showable=true
 dp:d.depth<=k
 ln:d.shown.length<=n
theorem Sw.all {n k:Nat}:∀ {ds:List PyData}, (∀d ∈ ds, Sw d n k) -> PyData.canLayAll0 ds=true /\ PyData.showableAll ds=true /\ PyData.depthAll ds <= k
 | [],_=>⟨rfl,rfl,aL _⟩
 | d::ds,h=>by
  obtain⟨a,b,c⟩:=Sw.all fun x hx=>h x (aI _ hx)
  have q:=h d (by simp)
  refine⟨?_,?_,?_⟩
  ·show (PyData.canLay0 d&&PyData.canLayAll0 ds)=true
   rw[q.lay,a];rfl
  ·show (PyData.showable d&&PyData.showableAll ds)=true
   rw[q.sb,b];rfl
  ·show max (PyData.depth d) (PyData.depthAll ds)<=k
   have:=q.dp
   omega
theorem Sw.list {n k:Nat}{ds:List PyData}(h:∀d∈ds,Sw d n k):Sw (.list ds) (2+ds.length * (n+2)) (k+1):=by
 obtain⟨a,b,c⟩:=Sw.all h
 refine⟨a,b,(by show PyData.depthAll ds+1<=k+1;omega),?_⟩
 show (listText (PyData.shownAll ds)).length<=_
 rw[iJ]
 have h1:=jg (n:=n) (ds.map PyData.shown) 0 "[" fun t ht=>by
  obtain⟨e,he,rfl⟩:=al.mp ht
  exact(h e he).ln
 rw[ab] at h1
 have h3:(Str.ofString "[").length=1:=rfl
 have h4:(Str.ofString "]").length=1:=rfl
 have h1:(textFrom 0 (Str.ofString "[") (ds.map PyData.shown)).length<=(Str.ofString "[").length+ds.length * (n+2):=h1
 show (textFrom 0 "[" (ds.map PyData.shown)++"]").length<=_
 rw[fg]
 show (textFrom 0 (Str.ofString "[") (ds.map PyData.shown)).length+(Str.ofString "]").length<=_
 omega
theorem Sw.shw {d:PyData}{n k:Nat}(h:Sw d n k) (hk:k<=16) (hn:n<=sizeLine):Shw d:=by
 have sh:shp d:=by
  show (PyData.canLay0 d&&decide (PyData.depth d<=64))=true
  have:=h.dp
  rw[h.lay,ai (by omega)];rfl
 exact⟨sh,h.sb,PyData.hasDict_of_canLay _ (SeqAt.canLay_of_shaped sh),aO h.dp hk,aO h.ln hn⟩
section
variable {X:Cx}{p pos p2 pos2:Pos}{e f:Expr}{t:TA}
theorem mL:MtR X "list.reverse" ji:=np
theorem pe (K:W.Frag) {o:Expr}{to:TE}{apos cpos:Pos}(ho:PE X o to) (hbase:attributeBase o "reverse" X.env (eval o X.env)=eval o X.env:=by rfl) (hline:(apos.endLine==cpos.line)=true:=by rfl) (hK:X.K=K:=by rfl) :
    PE X (.Call (.Attribute o "reverse" apos) [] [] cpos) (qE K "list" ji to):=hK ▸ pz PySem.F.plainAttrs_list PySem.F.slot_list_reverse PySem.F.type_list_reverse mL ho hbase hline
end
theorem oU (xs:List V) (k:Nat):gy xs (some (k:Int)) none=xs.drop k:=by
 unfold gy
 rw[HT.sIx_nat,HT.sIx_none]
 by_cases h:k<=xs.length
 ·rw[Nat.min_eq_left h,aq (by rw[bS];omega)]
 ·rw[Nat.min_eq_right (by omega),bZ (ac _),bZ (by omega)];simp
theorem iE {α:Type}{M:Model}{A:Around}{E:Value->Shared->Prop}{s:Shared}{m:Sem (Option α)}{P:α->Shared->Prop}
    (h:wpAny M A m (fun r s1=>∃u,r=some u/\wpAny M A (pure ():Sem Unit) (fun _ s2=>P u s2) E s1) E s):wpAny M A m (fun r s1=>∃u,r=some u/\P u s1) E s:=by
 intro Γ p hΓ
 exact Sem.wp_mono M Γ m (fun r p' s1 ⟨u,e,q⟩=>⟨u,e,q Γ p' hΓ⟩) (fun _ _ _ z=>z) p s (h Γ p hΓ)
theorem Inv.atA {X:Cx}{pins:List (Addr × Obj)}{σ:St}{H:Hp}{s:Shared}(I:Inv X pins σ H s) (A':Around) (h1:A'.handled=X.A.handled) (h2:A'.frames=X.A.frames):Inv { X with A:=A' } pins σ H s :=
 ⟨⟨I.ok.mod,I.ok.kind,I.ok.glob,I.ok.blt,I.ok.above,I.ok.inj,I.ok.has,I.ok.cab,fun c=>h1.trans (I.ok.hd c),h2.trans I.ok.frames,I.ok.stk,I.ok.exf,I.ok.bs,I.ok.bsz,I.ok.noex,I.ok.exfs,I.ok.funs,I.ok.frf⟩,
  I.os,I.bare,I.base,I.loc,I.cell,I.free,I.freeC,I.pin,I.hok,I.len⟩
theorem Inv.ofA {X:Cx}{pins:List (Addr × Obj)}{σ:St}{H:Hp}{s:Shared}{A':Around}(ok:X.Ok) (I:Inv { X with A:=A' } pins σ H s):Inv X pins σ H s :=
 ⟨ok,I.os,I.bare,I.base,I.loc,I.cell,I.free,I.freeC,I.pin,I.hok,I.len⟩
theorem lz:typeLookup (.type "zip") "keys"=pure none:=am_miss_of_fast (by decide +kernel)
namespace DU
theorem entry_loop:entryFor table "dict.update.loop"=some Builtin.«dict.update.loop»:=entryFor_of_fast (by kernel_rfl)
theorem plain_loop:plainId "dict.update.loop"=true:=by decide +kernel
end DU
section
variable {X:Cx}{pins:List (Addr × Obj)}{σ:St}{H:Hp}{s:Shared}{a:Addr}{y v:V}{u r:Value}{A:Around}{E:Value->Shared->Prop}
theorem oE {H':Hp}{Q:Unit->Shared->Prop}(hu:A.units<cLine) (I:Inv X pins σ H s) (g:DPut H a y v H') (ry:RelV y u) (rv:RelV v r) (h:∀s',Inv X pins σ H' s'->(∀b o,b≠a->s.heap.get? b=some o->s'.heap.get? b=some o)->Q () s') :
    wpAny (model X.prog X.w) A (dictSet a u r) Q E s:=by
 rcases g with⟨kvs,k,e,ey,l,eH⟩ | ⟨kvs,k,b,e,ey,eb,l,eH⟩
 ·subst ey eH
  obtain⟨z,hd,vs,rel,dd⟩:=rS I.hok e
  have hz:vs.length<=sizeLine:=by rw[<- rel.length];exact z
  have hl:(cR kvs k v).length<=sizeLine:=by have:=dG kvs k v;omega
  refine wpAny_dictSet_pairs (hsz:=hz) (i9 ry) dd fun h' dd' hs=>h _ ?_ fun b o n q=>hs.extBut _ _ n q
  have he:∃q,h'.get? a=some q:=let ⟨q,_,_,hq,_⟩:=dd';⟨q,hq⟩
  exact i5 I (by rw[e];exact True.intro) hs he (oV hl hd (rel.put k rv) dd')
 ·subst ey eH
  cases (show u=Value.ref b from ry)
  obtain⟨z,hd,xs,rel,dd⟩:=rC I.hok e
  have hz:xs.length<=sizeLine:=by rw[<- Paired.length rel];exact z
  have hl:(cR kvs k v).length<=sizeLine:=by have:=dG kvs k v;omega
  refine wpAny_dictSet_heap (hsz:=hz) hu (hG I.hok eb) dd fun h' dd' hs=>h _ ?_ fun b o n q=>hs.extBut _ _ n q
  obtain⟨q,es,ep,hq,h2,h3,h4,_,h5⟩:=dd'
  refine i5 I (by rw[e];exact True.intro) hs ⟨q,hq⟩ ⟨hl,hd,_,(rel.put k eb rv).keeps fun c ys ec=>?_,q,es,ep,hq,h2,h3,h4,h5⟩
  rw[cm (d4 ec e (fun z=>nomatch z))]
  exact ec
theorem DPut.at_ {H':Hp}(g:DPut H a y v H'):(∃o,H a=some o)/\∀b,b≠a->H' b=H b:=by
 rcases g with⟨kvs,k,e,ey,l,eH⟩ | ⟨kvs,k,b,e,ey,eb,l,eH⟩
 ·exact⟨⟨_,e⟩,fun b n=>by rw[eH,cm n]⟩
 ·exact⟨⟨_,e⟩,fun b n=>by rw[eH,cm n]⟩
end
theorem lq {X:Cx}{pins:List (Addr × Obj)}{σ:St}{nm:Str}{tp:Pos}{J:It}{fp:List Addr}{it:Addr}{tn:Nat -> Heap -> Prop}(T:Turn X.prog X.w X.K (.Name nm tp) J fp it tn) (hc:X.calm=true) (hu:X.A.units+64<cLine) (d:Addr) (n:Nat) (Dv:Nat -> Hp -> Prop)
    (go:∀i H,i<n->Dv i H->J.go i H/\∀x H1,J.yld i H x H1->∃b k v H2,x=.ref b/\SqT X.K H1 b [k,v]/\DPut H1 d k v H2/\Dv (i+1) H2)
    (stop:∀H,Dv n H->J.stop n H) {R:Result->Shared->Prop}:∀(k i:Nat) (j:Int) (s:Shared) (H:Hp),n-i=k->i<=n->Inv X pins σ H s->(∀b∈fp,dB X pins H b)->tn i s.heap->Dv i H ->
     (∀H' s',Inv X pins σ H' s'->Dv n H'->R (.ok (.ret .none)) s')->codeAny (model X.prog X.w) X.A.in1 (.builtin "dict.update.loop" ⟨[.ref d,.ref it,rawInt j,.none],[]⟩) R s:=by
 intro k
 induction k with
 | zero =>
  intro i j s H hk hi I hf ht hd hR
  have hin:i=n:=by omega
  subst hin
  refine codeAny_builtin DU.entry_loop ?_
  rw[Around.under_plainId DU.plain_loop _]
  show wpAny _ X.A.in1.in1 (pyNext (.ref it) >>= _) _ _ s
  refine aa (aS (T.done { X with A:=X.A.in1.in1 } rfl rfl rfl hc i pins s σ H _ (I.atA _ rfl rfl) hf ht (stop H hd)) (fun r s1 ⟨e,I1⟩=>?_) fun _ _ z=>z)
  subst e
  show wpAny _ _ (Builtin.Dict.addKeywords d [] >>= _) _ _ _
  exact aa (ad (ad (hR H s1 (Inv.ofA I.ok I1) hd)))
 | succ k ih =>
  intro i j s H hk hi I hf ht hd hR
  have hlt:i<n:=by omega
  obtain⟨hg,hy⟩:=go i H hlt hd
  refine codeAny_builtin DU.entry_loop ?_
  rw[Around.under_plainId DU.plain_loop _]
  show wpAny _ X.A.in1.in1 (pyNext (.ref it) >>= _) _ _ s
  refine aa (aS (iE (T.item { X with A:=X.A.in1.in1 } rfl rfl rfl hc i pins s σ H _ (I.atA _ rfl rfl) hf ht hg)) (fun r s1 ⟨u,e,x,H1,I1,rx,yl,t1,fn⟩=>?_) fun _ _ z=>z)
  subst e
  replace I1:=Inv.ofA I.ok I1
  obtain⟨b,kk,v,H2,ex,sq,dp,dv⟩:=hy x H1 yl
  subst ex
  cases (show u=Value.ref b from rx)
  obtain⟨its,rv,pt,hz⟩:=I1.tuple sq
  obtain⟨u1,u2,e2,r1,r2⟩:=fW rv
  subst e2
  obtain⟨o,ho,hcl,m,hdt⟩:=pt
  show wpAny _ _ (holding [Value.ref b] _ >>= _) _ _ _
  refine aa (aG ?_)
  show wpAny _ _ (Sem.tryCatch (Builtin.Dict.pairItems (Value.ref b)) _ >>= _) _ _ _
  refine aa (wpAny_tryCatch ?_)
  unfold Builtin.Dict.pairItems
  refine aa (wpAny_typeOf (T:="tuple") ⟨o,ho,hcl⟩ ?_)
  simp only[show ((Value.type "tuple"==Value.type "list")||(Value.type "tuple"==Value.type "tuple"))=true from rfl,if_true]
  unfold seqItems?
  refine aa (aa (wpAny_load ho ?_))
  rw[hdt]
  refine ad (ad ?_)
  show wpAny _ _ (holding [u1,u2] (dictSet d u1 u2)) _ _ _
  have hu':X.A.in1.in1.units<cLine:=by show X.A.units+1+1<cLine;omega
  refine aG (oE hu' I1 dp r1 r2 fun s2 I2 hk2=>?_)
  have dn:∀b∈fp,b≠d:=fun b hb q=>by
   obtain⟨o,eo⟩:=dp.at_.1
   rw[<- q,fn b hb] at eo
   cases eo
  refine ad ⟨plainId_quiet DU.plain_loop _,ih (i+1) (j+1) s2 H2 (by omega) hlt I2 (fun b hb=>?_) (T.keep _ _ _ t1 fun b hb o q=>hk2 b o (dn b hb) q) dv hR⟩
  obtain⟨_,f1,f2,f3,f4,f5⟩:=hf b hb
  exact⟨(dp.at_.2 b (dn b hb)).trans (fn b hb),f1,f2,f3,f4,f5⟩
theorem qf {κ:Type} [DecidableEq κ]:∀(ps:List (κ × V)) (m:List (κ × V)),(ps.foldl (fun m q=>cR m q.1 q.2) m).length<=m.length+ps.length:=by
 intro ps
 induction ps with
 | nil=>intro m;exact ac _
 | cons q r ih =>
  intro m
  have h1:=ih (cR m q.1 q.2)
  have h2:=dG m q.1 q.2
  rw[List.foldl_cons,bA]
  omega
def mkK {κ:Type} [DecidableEq κ] (ps:List (κ × V)):List (κ × V):=ps.foldl (fun m q=>cR m q.1 q.2) []
theorem pN {κ:Type} [DecidableEq κ] (ps:List (κ × V)):(mkK ps).length<=ps.length:=by
 have:=qf ps []
 rw[List.length_nil,Nat.zero_add] at this
 exact this
theorem mt {κ:Type} [DecidableEq κ] (ps:List (κ × V)) (i:Nat) (q:κ × V) (h:ps[i]? = some q):mkK (ps.take (i+1))=cR (mkK (ps.take i)) q.1 q.2:=by
 unfold mkK
 rw[aw,h,List.foldl_append]
 rfl
namespace SP
open PySem.Builtin PySem.Builtin.Str PySem.StrLaws
abbrev one (c:Nat):Str:=⟨#[c]⟩
end SP
end L2
namespace L2
open PySem PySem.Spec PyProof.Rows
section
variable {X:Cx}{p pos:Pos}{e:Expr}{t:TA}
def rR (K:W.Frag):List V->Hp->VK->Prop:=fun xs H Q=>∃a ns,xs=[.ref a]/\SqL K H a (List.map V.int ns)/\0<ns.length/\∀M,M∈ns->(∀b,b∈ns->b<=M)->Q (.int M) H
theorem pO (hc:X.calm=true):ed X (.builtin "max") (rR X.K):=by
 intro pins s σ H xs us Q I r h
 obtain⟨a,ns,rfl,hq,hne,q⟩:=h
 obtain⟨u,rfl,ru⟩:=dR r
 cases ru
 obtain⟨its,rv,pl,hz⟩:=I.list hq
 have hi:=jI rv
 obtain⟨xs,e⟩:=hi.allInts.items
 have hns:ns=xs.toList.map (·.1):=by
  rw[<- hi.numsOf,<- nums_intItems,<- e]
 have hsz:0<xs.size:=by
  have h3:=hne;rw[hns,ab,bQ] at h3;exact h3
 have hl:=pl.isList
 rw[e] at hl
 refine max_intList (I.ok.hd hc) hl hsz fun v h' tk hv hk=>?_
 obtain⟨t,rfl⟩:=intItems_at hv
 obtain⟨h1,h2⟩:=argBest_gt (numAt xs) (xs.size-1)
 refine⟨.int _,H,I.kept hk,⟨_,rfl⟩,q _ ?_ fun b hb=>?_⟩
 ·rw[hns,numAt_eq];exact getD_mem (by rw[ab,bQ];omega)
 ·rw[hns] at hb
  obtain⟨j,hj,rfl⟩:=mem_getD hb
  rw[ab,bQ] at hj
  rw[<- numAt_eq];exact h2 j (by omega)
theorem jT (K:W.Frag) (hc:X.calm=true) (B:Blt X.mg) (ha:PA X [e] t) (hg:Gl X "max":=by rfl) (he:starEach [e] X.env=(false,eval e X.env)::starEach [] X.env:=by rfl) (hpl:(backTo pos (starEach [] X.env)).any (·.1)=false:=by rfl) (hK:X.K=K:=by rfl) :
    PE X (.Call (.Name "max" p) [e] [] pos) (tCB (rR K) t):=hK ▸ dM (pO hc) hg B.max (show bootBuiltins "max"=some (.builtin "max") by decide +kernel) ha (by decide) (by decide) he hpl
end
end L2
set_option maxHeartbeats 400000
namespace L2
open PySem PySem.Spec PyProof.Rows
section
variable {X:Cx}
def vM (neg:Bool):V->V->Hp->VK->Prop:=fun x y H Q=>∃p xs ds d,y=.ref p/\H p=some (.tup xs)/\RepAll H xs ds/\Rep H x d/\PyData.canLayAll0 ds=true/\d.canLay0=true/\d.depth<=16/\Q (.bl (if neg then !(ds.any fun e=>PyData.eqv e d) else ds.any fun e=>PyData.eqv e d)) H
theorem nr (hu:X.A.units+64<cLine):OpR X (compareOp .NotIn) (vM true):=by
 intro pins s σ H x y v u Q I rx ry h
 obtain⟨p,xs,ds,d,rfl,e,rs,r,cs,c,dp,q⟩:=h
 cases ry
 obtain⟨its,rv,pl,_⟩:=I.tuple (a:=p) (xs:=xs) (.of e)
 obtain⟨bs,zx⟩:=r.reads I.hok rx
 refine SeqAt.notIn_tupleAt (fun u=>PyData.eqv (SeqAt.readOf s.heap u) d) pl (fun w hw=>gg (x:=x) I.hok zx c (by show X.A.units+1+d.depth<cLine;omega) rs rv cs w (by simpa using hw)) ⟨.bl _,H,I,rfl,?_⟩
 rw[show its.toArray.any (fun u=>PyData.eqv (SeqAt.readOf s.heap u) d)=its.any (fun u=>PyData.eqv (SeqAt.readOf s.heap u) d) by simp,gh I.hok rs rv cs]
 exact q
end
end L2
set_option maxHeartbeats 4000000
namespace L2
open PySem PySem.Spec PyProof.Rows
def Itd (a:Addr) (kvs:List (Key × V)) (o:Obj):It :=
 ⟨fun i H=>H a=some (.frz o (.dK kvs))/\i<kvs.length,fun i H x H'=>H'=H/\∃kv,kvs[i]? = some kv/\x=kV kv.1,fun i H=>H a=some (.frz o (.dK kvs))/\kvs.length<=i⟩
theorem mR {P:Program}{w:World}{k:Key}{u:Value}(h:(cW P w).is k u=true):RelV (kV k) u:=by
 rcases dh h with⟨i,t,rfl,rfl⟩ | ⟨x,t,rfl,rfl⟩
 ·exact⟨t,rfl⟩
 ·exact⟨t,rfl⟩
theorem Paired.get {α β:Type}{F:α->β->Prop}:∀ {l₁:List α}{l₂:List β},Paired F l₁ l₂->∀ {i:Nat}{a:α},l₁[i]? = some a->∃b,l₂[i]? = some b/\F a b
 | _,_,.nil,i,a,h=>by simp at h
 | _,_,@Paired.cons _ _ _ x y _ _ f r,0,a,h=>by
  have e:x=a:=by simpa using h
  subst e
  exact⟨y,rfl,f⟩
 | _,_,.cons f r,i+1,a,h=>by
  obtain⟨b,e,g⟩:=Paired.get r (i:=i) (by simpa using h)
  exact⟨b,by simpa using e,g⟩
theorem pD {X:Cx}{pins:List (Addr × Obj)}{σ:St}{H:Hp}{s:Shared}{a:Addr}{kvs:List (Key × V)}{o:Obj}(I:Inv X pins σ H s) (e:H a=some (.frz o (.dK kvs))) {es:Array DictEntry}{ep:Nat}(hd:o.data=.dict es ep) :
    ∃vs,KV kvs vs/\s.heap.DictAt (cW X.prog X.w) a vs ep:=by
 obtain⟨ho,_,_,vs,kv,o',es',ep',h1,h2,h3,r⟩:=(show ObjOk X.prog X.w H s.heap a (.frz o (.dK kvs)) from I.hok a _ e)
 rw[ho] at h1
 cases h1
 rw[hd] at h3
 cases h3
 exact⟨vs,kv,o,es,ho,h2,hd,r⟩
theorem qJ {P:Program}{w:World}{K:W.Frag}{tg:Expr}(a it:Addr) (kvs:List (Key × V)) (o:Obj) {es:Array DictEntry}{ep:Nat}(hd:o.data=.dict es ep):Turn P w K tg (Itd a kvs o) [it] it (fun i h=>h.IsKeyIter it a i kvs.length ep) where
 mem:=by simp
 obj:=fun i h st b hb=>by
  have e:b=it:=by simpa using hb
  subst e
  obtain⟨o,e,c,d⟩:=st
  exact⟨o,e,fun v z=>by rw[d] at z;cases z⟩
 keep:=fun i h h' st k=>let ⟨o,e,r⟩:=st;⟨o,k it (by simp) o e,r⟩
 item:=by
  intro X hP hw hK hc i pins s σ H E I hf st hg
  subst hP hw hK
  obtain⟨ha,hi⟩:=hg
  obtain⟨vs,kv,da⟩:=pD I ha hd
  have hl:=KV.length kv
  have st:s.heap.IsKeyIter it a i vs.length ep:=by rw[<- hl];exact st
  obtain⟨f0,f1,f2,f3,f4,f5⟩:=hf it (by simp)
  obtain⟨q,hq,e1,_⟩:=Paired.get kv (i:=i) (ap hi)
  refine wpAny_pyNext_dict_item st da (k:=q.1) (v:=q.2) hq fun key h' hk st' sb=>?_
  have I1:Inv X pins σ H { s with heap:=h' }:=I.turned (t':=s.toks) (fun b o hb e=>(sb.2 b hb).trans e) f0 f1 f3 f4 f5
  obtain⟨oi,e,c,d⟩:=id st'
  refine⟨key,rfl,j4 (s:={ s with heap:=h' }) e c d (by decide) ⟨kV q.1,H,I1,mR hk,⟨rfl,kvs[i],ap hi,by rw[e1]⟩,?_,fun b hb=>(hf b hb).1⟩⟩
  show h'.IsKeyIter it a (i+1) kvs.length ep
  rw[hl];exact st'
 done:=by
  intro X hP hw hK hc i pins s σ H E I hf st hg
  subst hP hw hK
  obtain⟨ha,hi⟩:=hg
  obtain⟨vs,kv,da⟩:=pD I ha hd
  have hl:=KV.length kv
  have st:s.heap.IsKeyIter it a i vs.length ep:=by rw[<- hl];exact st
  obtain⟨f0,f1,f2,f3,f4,f5⟩:=hf it (by simp)
  exact wpAny_pyNext_dict_end (I.ok.hd hc) st da (by rw[List.getElem?_eq_none_iff];omega) fun h' eb=>⟨rfl,I.turned (t':=s.toks) (fun b o hb e=>eb b o hb e) f0 f1 f3 f4 f5⟩
 self:=fun _ _ _ _ _ st h=>wpAny_pyIter_keyiter st h
theorem Inv.freeze {X:Cx}{pins:List (Addr × Obj)}{σ:St}{H:Hp}{s:Shared}{a:Addr}{kvs:List (Key × V)}{o:Obj}(I:Inv X pins σ H s) (e:H a=some (.dK kvs)) (ho:s.heap.get? a=some o):Inv X pins σ (upd H a (.frz o (.dK kvs))) s := by
 have ne:∀ {b:Addr} {u:HO},H b=some u->u≠.dK kvs->b≠a:=fun h n z=>by subst z;rw[e] at h;exact n (ae h).symm
 refine I.un (t':=s.toks) (h':=s.heap) ⟨fun b o e _ _ _=>e,fun b o e _ _ _=>⟨o.slots,e⟩,fun b o _ n _=>?_,fun b o e _=>⟨o,e⟩,fun b xs h=>?_,fun b o u h=>?_,fun b ps h=>⟨#[],?_⟩⟩ (fun b u q=>?_)
 ·rw[cm (fun z=>by subst z;rw[e] at n;cases n)];exact n
 ·rw[cm (ne h (by intro z;cases z))];exact h
 ·rw[cm (ne h (by intro z;cases z))];exact h
 ·rw[cm (ne h (by intro z;cases z)),h];simp
 ·by_cases hb:b=a
  ·subst hb
   rw[cn] at q
   cases q
   exact⟨ho,(show ObjOk X.prog X.w H s.heap b (.dK kvs) from I.hok b _ e)⟩
  ·rw[cm hb] at q
   exact(I.hok b u q).stay (fun c v _ r=>r) (fun c r=>by rw[cm (ne r (by intro z;cases z))];exact r) fun c xs r=>by rw[cm (ne r (by intro z;cases z))];exact r
section
variable {X:Cx}{tg:Expr}
def iDic (tl:TE):TI:=fun σ H R=>tl σ H fun x H1=>∃a kvs,x=.ref a/\Rd H1 a (.dK kvs)/\∀o H2,H2 a=some (.frz o (.dK kvs))->(∀b,b≠a->H2 b=H1 b)->R (Itd a kvs o) H2
theorem uQ {l:Expr}{tl:TE}(hl:PE X l tl):PI X tg l (iDic tl) := by
 intro pins s σ H R I h
 refine thn (hl pins s σ H _ I h) fun v s1 ⟨x,H1,I1,r1,q1⟩=>?_
 obtain⟨a,kvs,e,hr,q⟩:=q1
 subst e
 cases r1
 obtain⟨_,hs,vs,kv,o,es,ep,ho,hx,hdt,d7⟩:=hr.ok I1.hok
 have da:s1.heap.DictAt (cW X.prog X.w) a vs ep:=⟨o,es,ho,hx,hdt,d7⟩
 have hlen:=KV.length kv
 obtain⟨H2,I2,f2,n2⟩:∃H2,Inv X pins σ H2 s1/\H2 a=some (.frz o (.dK kvs))/\∀b,b≠a->H2 b=H1 b:=by
  rcases hr with hr | ⟨o',hr⟩
  ·exact⟨_,I1.freeze hr ho,cn,fun b hb=>cm hb⟩
  ·obtain⟨ho',_⟩:=(show ObjOk X.prog X.w H1 s1.heap a (.frz o' (.dK kvs)) from I1.hok a _ hr)
   rw[ho] at ho'
   cases ho'
   exact⟨H1,I1,hr,fun b _=>rfl⟩
 refine wpAny_pyIter_dict hs da ?_
 refine⟨s1.heap.objs.size,[s1.heap.objs.size],_,_,H2,rfl,I2.kept (t':=s1.toks) fun b o e=>ah _ e,qJ a _ kvs o hdt,⟨_,ao _ rfl,rfl,by rw[hlen];rfl⟩,fun b hb=>?_,q o H2 f2 n2⟩
 have e:b=s1.heap.objs.size:=by simpa using hb
 subst e
 exact I2.fpOk (ac _) (I2.hok.fresh (ac _))
end
section
variable {k:Nat}{fr:List Nat}{g:TG}{tc:TT}{te:TE}{σ:St}{H1:Hp}{Q:VK}
theorem qF {a:Addr}{o:Obj}(kvs:List (Key × V)) (Pv:Addr -> Nat -> List V -> St -> Hp -> Prop)
    (h:∀D,H1 D=none->Pv D 0 [] (fO k fr σ) (upd H1 D (.lst []))/\(∀i acc σ' H',i<=kvs.length->Pv D i acc σ' H'->H' D=some (.lst acc)->H' a=some (.frz o (.dK kvs))) /\
     (∀i acc σ' H' kv,kvs[i]? = some kv->Pv D i acc σ' H'->H' D=some (.lst acc)->g (kV kv.1) σ' H' fun σ2 H3=>tc σ2 H3 fun b H4 =>
      if b=true then te σ2 H4 fun y H5=>H5 D=some (.lst acc)/\acc.length<sizeLine/\Pv D (i+1) (acc++[y]) σ2 (upd H5 D (.lst (acc++[y]))) else H4 D=some (.lst acc)/\Pv D (i+1) acc σ2 H4) /\
     ∀acc σ' H',Pv D kvs.length acc σ' H'->H' D=some (.lst acc)->Q (.ref D) H'):fw k fr g tc te (Itd a kvs o) σ H1 Q:=by
 have hl:(kvs.map fun kv=>kV kv.1).length=kvs.length:=ab ..
 refine fA (kvs.map fun kv=>kV kv.1) (fun H=>H a=some (.frz o (.dK kvs))) (fun i H q hi=>⟨q,by rw[<- hl];exact hi⟩) (fun i H x H' q hi y=>⟨y.1,?_⟩) (fun H q=>⟨q,by rw[hl];exact ac _⟩) Pv fun D hD=>?_
 ·obtain⟨_,kv,e,rfl⟩:=y
  rw[ag,e];rfl
 ·obtain⟨a0,b0,c0,d0⟩:=h D hD
  refine⟨a0,fun i acc σ' H' hi=>b0 i acc σ' H' (by rw[<- hl];exact hi),fun i acc σ' H' x hx p hacc=>?_,by rw[hl];exact d0⟩
  rw[ag] at hx
  cases e:kvs[i]? with
  | none=>rw[e] at hx;cases hx
  | some kv =>
   rw[e] at hx
   have hx:kV kv.1=x:=ae hx
   rw[<- hx]
   exact c0 i acc σ' H' kv e p hacc
end
section
variable {X:Cx}{p pos:Pos}{e:Expr}{t:TA}
def rL:List V->Hp->VK->Prop:=fun xs H Q=>∃a kvs,xs=[V.ref a]/\Rd H a (.dK kvs)/\kvs.length<=1000/\∀l,H l=none->Q (.ref l) (upd H l (.lst (kvs.map fun kv=>kV kv.1)))
theorem kZ {P:Program}{w:World}:∀ {kvs:List (Key × V)}{vs:List (Key × Value)}{its:List Value}, KV kvs vs -> its.length=vs.length -> (∀(i:Nat) (v:Value), its[i]? = some v -> ∃(k:Key) (x:Value), vs[i]? = some (k, x) /\ (cW P w).is k v=true) -> Vals (kvs.map fun kv => kV kv.1) its
 | _,_,its,.nil,hl,h=>by
  have:its=[]:=List.length_eq_zero_iff.mp (by simpa using hl)
  subst this
  exact .nil
 | _,_,[],.cons f r,hl,h=>by simp at hl
 | _,_,u::its,@Paired.cons _ _ _ a b _ _ f r,hl,h=>by
  refine .cons ?_ (kZ (P:=P) (w:=w) r (by simpa using hl) fun i v e=>?_)
  ·obtain⟨k,x,e1,e2⟩:=h 0 u rfl
   have e1:b=(k,x):=by simpa using e1
   have g:RelV (kV b.1) u:=by rw[e1];exact mR e2
   show RelV (kV a.1) u
   rw[show a.1=b.1 from f.1]
   exact g
  ·obtain⟨k,x,e1,e2⟩:=h (i+1) v (by simpa using e)
   exact⟨k,x,by simpa using e1,e2⟩
theorem rZ (hc:X.calm=true) (B:Blt X.mg) (ha:PA X [e] t) (hg:Gl X "list":=by rfl) (he:starEach [e] X.env=(false,eval e X.env)::starEach [] X.env:=by rfl) (hpl:(backTo pos (starEach [] X.env)).any (·.1)=false:=by rfl) :
    PE X (.Call (.Name "list" p) [e] [] pos) (tCB rL t):=by
 refine iQ (r:=rL) (fun pins s σ H xs us Q I r h=>?_) hg B.list (show bootBuiltins "list"=some (.type "list") by decide +kernel) ha (by decide) (by decide) he hpl
 obtain⟨a,kvs,rfl,hr,hn,q⟩:=h
 obtain⟨u,rfl,ru⟩:=dR r
 cases ru
 obtain⟨_,hs,vs,kv,o,es,ep,ho,hx,hdt,d7⟩:=hr.ok I.hok
 have da:s.heap.DictAt (cW X.prog X.w) a vs ep:=⟨o,es,ho,hx,hdt,d7⟩
 have hlen:=KV.length kv
 refine W.kdl_call (W.kdl_dict hs) (I.ok.hd hc) da (by rw[sizeLine_eq];omega) fun h' tk acc' c' hk hl hi=>?_
 have hv:Vals (kvs.map fun kv=>kV kv.1) acc'.toList:=kZ (P:=X.prog) (w:=X.w) kv (by simpa using hi.1) fun i v e=>hi.2 i v (by simpa using e)
 refine⟨.ref _,_,I.laid (o:=.lst (kvs.map fun kv=>kV kv.1)) hk (ac _) ⟨?_,acc'.toList,c',hv,by simpa using hl⟩,rfl,q _ (I.hok.fresh (ac _))⟩
 rw[ab]
 exact bd (cw hn)
end
section
variable {prog:Program}{w:World}{A:Around}{E:Value->Shared->Prop}{s:Shared}
theorem qV {z TI TO i1 i2 l1 l2:Addr}{k1 k2:Nat}{f0:Value}{f1:Bool}{xs ys:Array Value}{x y a b:Value}{Q:Value -> Shared -> Prop}(D:ZipApart z TI TO i1 i2 l1 l2) (hf:F0 f0)
    (hz:Zp s.heap z TI TO f0 f1) (hTI:IsPair s.heap TI (.ref i1) (.ref i2)) (hTO:IsPair s.heap TO a b)
    (h1:s.heap.IsTupleIter i1 l1 k1) (h2:s.heap.IsListIter i2 l2 k2) (hl1:s.heap.IsTuple l1 xs) (hl2:s.heap.IsList l2 ys) (hx:xs[k1]? = some x) (hy:ys[k2]? = some y)
    (hQ:∀h' f0' f1',F0 f0'->Zp h' z TI TO f0' f1'->(∃a b,IsPair h' TO a b)->h'.IsTupleIter i1 l1 (k1+1)->h'.IsListIter i2 l2 (k2+1)->IsPair h' s.heap.objs.size x y ->
     (∀c o,c≠z->c≠TO->c≠i1->c≠i2->s.heap.get? c=some o->h'.get? c=some o)->Q (.ref s.heap.objs.size) { s with heap:=h' }) :
    wpAny (model prog w) A (Builtin.«zip.__next__» ⟨[.ref z],[]⟩) (fun fin s'=>∃v,fin=.done (.ret v)/\Q v s') E s:=by
 show wpAny _ _ (field (.ref z) 2 >>= _) _ _ _
 refine aa (az hz rfl (x:=.bool false) rfl ?_)
 show wpAny _ _ (field (.ref z) 3 >>= _) _ _ _
 refine aa (az hz rfl (x:=.ref TI) rfl (aa (aH hTI rfl ?_)))
 refine aa (gv hf hz fun own f1' g0 hz0 sb0=>?_)
 have sz0:g0.objs.size=s.heap.objs.size:=sb0.1
 cases own with
 | true =>
  simp only[if_true]
  refine aa (wpAny_rule ?_)
  refine aa (az (s:={ s with heap:=g0 }) hz0 rfl (x:=.ref TO) rfl ?_)
  refine aa (aM (s:={ s with heap:=g0 }) hz0 (by simp) fun g1 hz1 sb1=>?_)
  replace hz1:Zp g1 z TI TO .ellipsis f1':=hz1
  refine aa ?_
  simp only[bM,bN,aY,bc]
  refine aa (aa (wpAny_onRaise ?_))
  show wpAny _ _ (Builtin.SmallTypes.nextOf (.ref i1) >>= _) _ _ _
  have up1:∀c o,c≠z->s.heap.get? c=some o->g1.get? c=some o:=fun c o n e=>sb1.extBut _ _ n (sb0.extBut _ _ n e)
  refine aa (dq (h1.at fun o e=>up1 _ o D.i1z e) (hl1.at fun o e=>up1 _ o D.l1z e) hx fun g2 j1 sb2=>ad ?_)
  have hTO2:IsPair g2 TO a b:=sb2.extBut _ _ D.TOi1 (up1 _ _ D.TOz hTO)
  refine aa (aH hTO2 rfl (aa (wpAny_updateSeq_pair hTO2 fun g3 hTO3 sb3=>?_)))
  replace hTO3:IsPair g3 TO x b:=hTO3
  refine aa (wpAny_letGo (ad (aa (aa (wpAny_onRaise ?_)))))
  show wpAny _ _ (Builtin.SmallTypes.nextOf (.ref i2) >>= _) _ _ _
  have up3:∀c o,c≠z->c≠i1->c≠TO->s.heap.get? c=some o->g3.get? c=some o:=fun c o n1 n2 n3 e=>sb3.extBut _ _ n3 (sb2.extBut _ _ n2 (up1 _ _ n1 e))
  refine aa (wpAny_nextOf_list_item (h2.at fun o e=>up3 _ o D.i2z D.i12.symm D.TOi2.symm e) (hl2.at fun o e=>up3 _ o D.l2z D.l2i1 D.l2TO e) hy fun g4 j2 sb4=>ad ?_)
  have hTO4:IsPair g4 TO x b:=sb4.extBut _ _ D.TOi2 hTO3
  refine aa (aH hTO4 rfl (aa (wpAny_updateSeq_pair hTO4 fun g5 hTO5 sb5=>?_)))
  replace hTO5:IsPair g5 TO x y:=hTO5
  refine aa (wpAny_letGo (ad (ad ?_)))
  refine aa (aH hTO5 rfl (aa (wpAny_newTuple ?_)))
  have hsz:g5.objs.size=s.heap.objs.size:=by rw[sb5.1,sb4.1,sb3.1,sb2.1,sb1.1,sz0]
  have hz5:Zp g5 z TI TO .ellipsis f1':=sb5.extBut _ _ D.TOz.symm (sb4.extBut _ _ D.i2z.symm (sb3.extBut _ _ D.TOz.symm (sb2.extBut _ _ D.i1z.symm hz1)))
  have j15:g5.IsTupleIter i1 l1 (k1+1):=j1.at fun o e=>sb5.extBut _ _ D.TOi1.symm (sb4.extBut _ _ D.i12 (sb3.extBut _ _ D.TOi1.symm e))
  have j25:g5.IsListIter i2 l2 (k2+1):=j2.at fun o e=>sb5.extBut _ _ D.TOi2.symm e
  have hk5:∀c o,c≠z->c≠TO->c≠i1->c≠i2->s.heap.get? c=some o->g5.get? c=some o:=fun c o c1 c2 c3 c4 e=>sb5.extBut _ _ c2 (sb4.extBut _ _ c4 (up3 _ _ c1 c3 c2 e))
  have hzlt:z<g5.objs.size:=af hz5
  show wpAny _ _ (Builtin.SmallTypes.ownedTupleHandOut (.ref z) (.ref g5.objs.size) >>= _) _ _ _
  refine aa ?_
  unfold Builtin.SmallTypes.ownedTupleHandOut
  have hz6:Zp (g5.push { cls:=.type "tuple",data:=.seq #[x,y] }) z TI TO .ellipsis f1':=ah _ hz5
  refine aa (aM hz6 (by simp) fun g7 hz7 sb7=>?_)
  replace hz7:Zp g7 z TI TO (rawInt g5.objs.size) f1':=hz7
  refine aM hz7 (by simp) fun g8 hz8 sb8=>?_
  replace hz8:Zp g8 z TI TO (rawInt g5.objs.size) false:=hz8
  have up:∀c o,c≠z->g5.get? c=some o->g8.get? c=some o:=fun c o c1 e=>sb8.extBut _ _ c1 (sb7.extBut _ _ c1 (ah _ e))
  have hT8:IsPair g8 g5.objs.size x y:=sb8.extBut _ _ (br hzlt) (sb7.extBut _ _ (br hzlt) (ao _ rfl))
  refine ad ⟨_,rfl,?_⟩
  show Q (.ref g5.objs.size) _
  rw[hsz] at hz8 hT8 ⊢
  exact hQ g8 _ _ (.inr ⟨_,rfl⟩) hz8 ⟨x,y,up _ _ D.TOz hTO5⟩ (j15.at fun o e=>up _ o D.i1z e) (j25.at fun o e=>up _ o D.i2z e) hT8 fun c o c1 c2 c3 c4 e=>up c o c1 (hk5 c o c1 c2 c3 c4 e)
 | false =>
  simp only[bt,if_false]
  refine aa ?_
  rw[<- bO]
  simp only[aY,bc]
  refine aa (aa (aG ?_))
  show wpAny _ _ (Builtin.SmallTypes.nextOf (.ref i1) >>= _) _ _ _
  have up1:∀c o,c≠z->s.heap.get? c=some o->g0.get? c=some o:=fun c o n e=>sb0.extBut _ _ n e
  refine aa (dq (s:={ s with heap:=g0 }) (h1.at fun o e=>up1 _ o D.i1z e) (hl1.at fun o e=>up1 _ o D.l1z e) hx fun g2 j1 sb2=>ad ?_)
  replace sb2:Heap.SameBut i1 g0 g2:=sb2
  refine ad (aa (aa (aG ?_)))
  show wpAny _ _ (Builtin.SmallTypes.nextOf (.ref i2) >>= _) _ _ _
  have up2:∀c o,c≠z->c≠i1->s.heap.get? c=some o->g2.get? c=some o:=fun c o n1 n2 e=>sb2.extBut _ _ n2 (up1 _ _ n1 e)
  refine aa (wpAny_nextOf_list_item (h2.at fun o e=>up2 _ o D.i2z D.i12.symm e) (hl2.at fun o e=>up2 _ o D.l2z D.l2i1 e) hy fun g4 j2 sb4=>ad ?_)
  replace sb4:Heap.SameBut i2 g2 g4:=sb4
  refine ad (ad ?_)
  show wpAny _ _ (newTuple [x,y] >>= _) _ _ _
  refine aa (wpAny_newTuple (ad ⟨_,rfl,?_⟩))
  have hsz:g4.objs.size=s.heap.objs.size:=by rw[sb4.1,sb2.1,sz0]
  show Q (.ref g4.objs.size) _
  have pu:∀c o,g4.get? c=some o->(g4.push { cls:=.type "tuple",data:=.seq #[x,y] }).get? c=some o:=fun c o e=>ah _ e
  have hT8:IsPair (g4.push { cls:=.type "tuple",data:=.seq #[x,y] }) g4.objs.size x y:=ao _ rfl
  rw[hsz] at hT8 ⊢
  exact hQ _ _ _ hf (pu _ _ (sb4.extBut _ _ D.i2z.symm (sb2.extBut _ _ D.i1z.symm hz0))) ⟨a,b,pu _ _ (sb4.extBut _ _ D.TOi2 (up2 _ _ D.TOz D.TOi1 hTO))⟩ (j1.at fun o e=>pu _ o (sb4.extBut _ _ D.i12 e)) (j2.at fun o e=>pu _ o e) hT8 fun c o c1 c2 c3 c4 e=>pu _ _ (sb4.extBut _ _ c4 (up2 _ _ c1 c3 e))
theorem tP {z TI TO i1 i2 l1 l2:Addr}{k1 k2:Nat}{f0:Value}{f1:Bool}{xs ys:Array Value}{a b:Value}{Q:Fin -> Shared -> Prop}(hh:A.handled=none) (D:ZipApart z TI TO i1 i2 l1 l2) (hf:F0 f0)
    (hz:Zp s.heap z TI TO f0 f1) (hTI:IsPair s.heap TI (.ref i1) (.ref i2)) (hTO:IsPair s.heap TO a b)
    (h1:s.heap.IsTupleIter i1 l1 k1) (h2:s.heap.IsListIter i2 l2 k2) (hl1:s.heap.IsTuple l1 xs) (hl2:s.heap.IsList l2 ys) (hend:xs[k1]? = none∨ys[k2]? = none)
    (hE:∀h' e,(∀c o,c≠z->c≠TO->c≠i1->c≠i2->s.heap.get? c=some o->h'.get? c=some o)->(∃o,h'.get? e=some o/\o.cls=.type "StopIteration")->E (.ref e) { s with heap:=h' }) :
    wpAny (model prog w) A (Builtin.«zip.__next__» ⟨[.ref z],[]⟩) Q E s:=by
 show wpAny _ _ (field (.ref z) 2 >>= _) _ _ _
 refine aa (az hz rfl (x:=.bool false) rfl ?_)
 show wpAny _ _ (field (.ref z) 3 >>= _) _ _ _
 refine aa (az hz rfl (x:=.ref TI) rfl (aa (aH hTI rfl ?_)))
 refine aa (gv hf hz fun own f1' g0 hz0 sb0=>?_)
 cases own with
 | true =>
  simp only[if_true]
  refine aa (wpAny_rule ?_)
  refine aa (az (s:={ s with heap:=g0 }) hz0 rfl (x:=.ref TO) rfl ?_)
  refine aa (aM (s:={ s with heap:=g0 }) hz0 (by simp) fun g1 hz1 sb1=>?_)
  replace hz1:Zp g1 z TI TO .ellipsis f1':=hz1
  refine aa ?_
  simp only[bM,bN,aY,bc]
  refine aa (aa (wpAny_onRaise ?_))
  show wpAny _ _ (Builtin.SmallTypes.nextOf (.ref i1) >>= _) _ _ _
  have up1:∀c o,c≠z->s.heap.get? c=some o->g1.get? c=some o:=fun c o n e=>sb1.extBut _ _ n (sb0.extBut _ _ n e)
  cases hx:xs[k1]? with
  | none =>
   refine aa (er hh (h1.at fun o e=>up1 _ o D.i1z e) (hl1.at fun o e=>up1 _ o D.l1z e) hx fun g2 e sb2 he=>?_)
   obtain⟨oe,hoe,hce⟩:=he
   have hz2:Zp g2 z TI TO .ellipsis f1':=sb2 _ _ D.i1z.symm hz1
   have hez:e≠z:=fun q=>by subst q;rw[hz2] at hoe;cases hoe;simp at hce
   exact aM hz2 (by simp) fun g3 _ sb3=>hE g3 e (fun c o c1 _ c3 _ q=>sb3.extBut _ _ c1 (sb2 _ _ c3 (up1 _ _ c1 q))) ⟨oe,sb3.extBut _ _ hez hoe,hce⟩
  | some x =>
   have hy:ys[k2]? = none:=by rcases hend with q | q;rw[hx] at q;cases q;exact q
   refine aa (dq (h1.at fun o e=>up1 _ o D.i1z e) (hl1.at fun o e=>up1 _ o D.l1z e) hx fun g2 j1 sb2=>ad ?_)
   have hTO2:IsPair g2 TO a b:=sb2.extBut _ _ D.TOi1 (up1 _ _ D.TOz hTO)
   refine aa (aH hTO2 rfl (aa (wpAny_updateSeq_pair hTO2 fun g3 hTO3 sb3=>?_)))
   refine aa (wpAny_letGo (ad (aa (aa (wpAny_onRaise ?_)))))
   show wpAny _ _ (Builtin.SmallTypes.nextOf (.ref i2) >>= _) _ _ _
   have up3:∀c o,c≠z->c≠i1->c≠TO->s.heap.get? c=some o->g3.get? c=some o:=fun c o n1 n2 n3 e=>sb3.extBut _ _ n3 (sb2.extBut _ _ n2 (up1 _ _ n1 e))
   refine aa (wpAny_nextOf_list_end hh (h2.at fun o e=>up3 _ o D.i2z D.i12.symm D.TOi2.symm e) (hl2.at fun o e=>up3 _ o D.l2z D.l2i1 D.l2TO e) hy fun g4 e sb4 he=>?_)
   obtain⟨oe,hoe,hce⟩:=he
   have hz4:Zp g4 z TI TO .ellipsis f1':=sb4 _ _ D.i2z.symm (sb3.extBut _ _ D.TOz.symm (sb2.extBut _ _ D.i1z.symm hz1))
   have hez:e≠z:=fun q=>by subst q;rw[hz4] at hoe;cases hoe;simp at hce
   exact aM hz4 (by simp) fun g5 _ sb5=>hE g5 e (fun c o c1 c2 c3 c4 q=>sb5.extBut _ _ c1 (sb4 _ _ c4 (up3 _ _ c1 c3 c2 q))) ⟨oe,sb5.extBut _ _ hez hoe,hce⟩
 | false =>
  simp only[bt,if_false]
  refine aa ?_
  rw[<- bO]
  simp only[aY,bc]
  refine aa (aa (aG ?_))
  show wpAny _ _ (Builtin.SmallTypes.nextOf (.ref i1) >>= _) _ _ _
  have up1:∀c o,c≠z->s.heap.get? c=some o->g0.get? c=some o:=fun c o n e=>sb0.extBut _ _ n e
  cases hx:xs[k1]? with
  | none =>
   refine aa (er (s:={ s with heap:=g0 }) hh (h1.at fun o e=>up1 _ o D.i1z e) (hl1.at fun o e=>up1 _ o D.l1z e) hx fun g2 e sb2 he=>?_)
   exact hE g2 e (fun c o c1 _ c3 _ q=>sb2 _ _ c3 (up1 _ _ c1 q)) he
  | some x =>
   have hy:ys[k2]? = none:=by rcases hend with q | q;rw[hx] at q;cases q;exact q
   refine aa (dq (s:={ s with heap:=g0 }) (h1.at fun o e=>up1 _ o D.i1z e) (hl1.at fun o e=>up1 _ o D.l1z e) hx fun g2 j1 sb2=>ad ?_)
   replace sb2:Heap.SameBut i1 g0 g2:=sb2
   refine ad (aa (aa (aG ?_)))
   show wpAny _ _ (Builtin.SmallTypes.nextOf (.ref i2) >>= _) _ _ _
   have up2:∀c o,c≠z->c≠i1->s.heap.get? c=some o->g2.get? c=some o:=fun c o n1 n2 e=>sb2.extBut _ _ n2 (up1 _ _ n1 e)
   refine aa (wpAny_nextOf_list_end hh (h2.at fun o e=>up2 _ o D.i2z D.i12.symm e) (hl2.at fun o e=>up2 _ o D.l2z D.l2i1 e) hy fun g4 e sb4 he=>?_)
   exact hE g4 e (fun c o c1 c2 c3 c4 q=>sb4 _ _ c4 (up2 _ _ c1 c3 q)) he
abbrev zq1 (h:Heap) (l:Addr):Heap:=h.push { cls:=.type "tuple_iterator",data:=.fields #[.ref l,.int 0 0] }
abbrev zq2 (h:Heap) (l m:Addr):Heap:=(zq1 h l).push { cls:=.type "list_iterator",data:=.fields #[.ref m,.int 0 0] }
abbrev zq3 (h:Heap) (l m:Addr):Heap:=(zq2 h l m).push { cls:=.type "tuple",data:=.seq #[.ref h.objs.size,.ref (zq1 h l).objs.size] }
abbrev zq4 (h:Heap) (l m:Addr):Heap:=(zq3 h l m).push { cls:=.type "tuple",data:=.seq #[.none,.none] }
abbrev zq5 (h:Heap) (l m:Addr):Heap:=(zq4 h l m).push { cls:=.type "zip",data:=.fields #[.none,.bool false,.bool false,.ref (zq2 h l m).objs.size,.ref (zq3 h l m).objs.size] }
theorem nK (l m:Addr) (xs ys:Array Value):Meets (Builtin.«zip.__new__» ⟨[.type "zip",.ref l,.ref m],[]⟩) (fun _ R s=>s.heap.IsTuple l xs/\s.heap.IsList m ys/\R (.ok (.ret (.ref (zq4 s.heap l m).objs.size))) { s with heap:=zq5 s.heap l m }) :=
 .of_wp fun prog w A R s h=>by
  obtain⟨h0,g0,d0,t0,os0⟩:=s
  obtain⟨hl,hm,h⟩:=h
  have hsub:=sub_zip
  have e1:Heap.IsTuple (Shared.heap ⟨h0,g0,d0,t0,os0⟩) l xs:=hl
  have e2:Heap.IsList (Shared.heap ⟨zq1 h0 l,g0,d0,t0,os0⟩) m ys:=Heap.IsList.push hm _
  wp_walk using bw e1,wpAny_pyIter_list e2
  exact⟨_,rfl,h⟩
theorem pM {l m:Addr}{xs ys:Array Value}{Q:Value -> Shared -> Prop}(hl:s.heap.IsTuple l xs) (hm:s.heap.IsList m ys)
    (h:∀h',Zp h' (s.heap.objs.size+4) (s.heap.objs.size+2) (s.heap.objs.size+3) .none false->IsPair h' (s.heap.objs.size+2) (.ref s.heap.objs.size) (.ref (s.heap.objs.size+1))->IsPair h' (s.heap.objs.size+3) .none .none ->
     h'.IsTupleIter s.heap.objs.size l 0->h'.IsListIter (s.heap.objs.size+1) m 0->(∀c o,s.heap.get? c=some o->h'.get? c=some o)->Q (.ref (s.heap.objs.size+4)) { s with heap:=h' }) :
    wpAny (model prog w) A (call (.type "zip") [.ref l,.ref m]) Q E s:=by
 have a1:(zq1 s.heap l).objs.size=s.heap.objs.size+1:=bn ..
 have a2:(zq2 s.heap l m).objs.size=s.heap.objs.size+2:=(bn ..).trans (by rw[a1])
 have a3:(zq3 s.heap l m).objs.size=s.heap.objs.size+3:=(bn ..).trans (by rw[a2])
 have a4:(zq4 s.heap l m).objs.size=s.heap.objs.size+4:=(bn ..).trans (by rw[a3])
 have k5:∀ {c:Addr} {o:Obj},(zq4 s.heap l m).get? c=some o->(zq5 s.heap l m).get? c=some o:=fun q=>ah _ q
 have k4:∀ {c:Addr} {o:Obj},(zq3 s.heap l m).get? c=some o->(zq5 s.heap l m).get? c=some o:=fun q=>k5 (ah _ q)
 have k3:∀ {c:Addr} {o:Obj},(zq2 s.heap l m).get? c=some o->(zq5 s.heap l m).get? c=some o:=fun q=>k4 (ah _ q)
 have k2:∀ {c:Addr} {o:Obj},(zq1 s.heap l).get? c=some o->(zq5 s.heap l m).get? c=some o:=fun q=>k3 (ah _ q)
 have b5:(zq5 s.heap l m).get? (zq4 s.heap l m).objs.size=some { cls:=.type "zip",data:=.fields #[.none,.bool false,.bool false,.ref (zq2 s.heap l m).objs.size,.ref (zq3 s.heap l m).objs.size] }:=ao _ rfl
 have b4:=k5 (ao (zq3 s.heap l m) (o:={ cls:=.type "tuple",data:=.seq #[.none,.none] }) rfl)
 have b3:=k4 (ao (zq2 s.heap l m) (o:={ cls:=.type "tuple",data:=.seq #[.ref s.heap.objs.size,.ref (zq1 s.heap l).objs.size] }) rfl)
 have b2:=k3 (ao (zq1 s.heap l) (o:={ cls:=.type "list_iterator",data:=.fields #[.ref m,.int 0 0] }) rfl)
 have b1:=k2 (ao s.heap (o:={ cls:=.type "tuple_iterator",data:=.fields #[.ref l,.int 0 0] }) rfl)
 rw[a2,a3,a4] at b5
 rw[a3] at b4
 rw[a1,a2] at b3
 rw[a1] at b2
 refine callType_new F.called_zip (by decide) (F.typeCall_zip_2 _ _) (F.newCall_zip_2 _ _) (fun ob=>F.args_object_init_3 ob _ _) F.entry_zip_new (nK l m xs ys) ⟨hl,hm,?_⟩
 show _/\_
 rw[a4]
 exact⟨⟨_,b5,rfl⟩,h _ b5 b3 b4 ⟨_,b1,rfl,rfl⟩ ⟨_,b2,rfl,rfl⟩ fun c o q=>k2 (ah _ q)⟩
theorem jm:typeLookup (.type "zip") "__getattr__"=pure none:=by rw[typeLookup_type,builtinLookup_eq_fast];kernel_rfl
theorem gT:entryFor table "zip.__getattribute__"=some Builtin.«object.__getattribute__» :=
 entryFor_alias (id':="object.__getattribute__") (by kernel_rfl) (by decide +kernel) (by decide +kernel) (by kernel_rfl)
theorem kK (a:Addr) (fs:Array Value) (sl:Array (Option Value)) (u:Tok) :
    Meets (Builtin.«object.__getattribute__» ⟨[.ref a,.str "keys" u],[]⟩) (fun A R s=>s.heap.get? a=some { cls:=.type "zip",dict:=none,data:=.fields fs,slots:=sl }/\raisesAttr (.ref a) "keys" A R s) :=
 Meets.of_wp fun prog w A R s hs=>by
  obtain⟨h0,g0,d0,t0,os0⟩:=s
  obtain⟨hx,hs⟩:=hs
  have hT:(⟨h0,g0,d0,t0,os0⟩:Shared).TypeIs (.ref a) "zip":=⟨_,hx,rfl⟩
  have hmiss:=lz
  have hname:(["__module__","__name__","__qualname__","__doc__","__annotations__"]:List Str).contains ("keys":Str)=false:=by decide +kernel
  unfold Builtin.«object.__getattribute__»
  repeat any_goals first | assumption | wp_step
  exact wpAny_raiseAttrError hs.1 hs.2 (attrMsg_fits (name:="keys") (by decide +kernel) (by size_fits))
theorem jP {a:Addr}{o:Obj}{fs:Array Value}{Q:Option Value->Shared->Prop}
    (hx:s.heap.get? a=some o) (hc:o.cls=.type "zip") (hdat:o.data=.fields fs) (hd:o.dict=none) (hA:A.handled=none)
    (h:∀h' tk,(∀b ob,s.heap.get? b=some ob->h'.get? b=some ob)->Q none { s with heap:=h',toks:=tk }) :
    wpAny (model prog w) A (getAttr? (.ref a) "keys") Q E s:=by
 obtain⟨c,dct,dat,sl⟩:=o
 simp only at hc hdat hd
 subst hc hdat hd
 obtain⟨h0,g0,d0,t0,os0⟩:=s
 have hT:∀tk',(⟨h0,g0,d0,tk',os0⟩:Shared).TypeIs (.ref a) "zip":=fun _=>⟨_,hx,rfl⟩
 have f1:=sub_AttributeError
 have f3:=F.slot_zip_getattribute.lookup
 have f4:=F.slot_zip_getattribute.bind (.ref a)
 have f5:=jm
 unfold getAttr? getAttrBy? getAttrBy
 repeat (any_goals (first | assumption | exact hT _ | ((with_reducible show wpAny _ _ (call (Value.builtin "zip.__getattribute__") _ _) _ _ _);refine call_meets F.slot_zip_getattribute (hT _) gT (F.args_zip_getattribute_2 _ _) (kK a fs sl _) ⟨hx,hA,fun h' tk' e hx'=>?_⟩) | wp_step))
 obtain⟨t',u',he⟩:=hx'.there
 show wpAny _ _ (getattributeRaised _ _ _ _ _ _ _) _ _ _
 unfold getattributeRaised
 repeat (any_goals (first | assumption | wp_step))
 exact h _ _ hx'.keeps
end
def Itzt (K:W.Frag) (a b:Addr):It :=
 ⟨fun i H=>∃xs ys x y,SqT K H a xs/\SqL K H b ys/\xs[i]? = some x/\ys[i]? = some y,
  fun i H v H'=>∃p x y,H p=none/\v=.ref p/\(∀xs,SqT K H a xs->xs[i]? = some x)/\(∀ys,SqL K H b ys->ys[i]? = some y)/\H'=upd H p (.tup [x,y]),
  fun i H=>∃xs ys,SqT K H a xs/\SqL K H b ys/\(xs.length<=i∨ys.length<=i)⟩
theorem pR {P:Program}{w:World}{K:W.Frag}{nm:Str}{tp:Pos}(a b z TI TO i1 i2:Addr) (D:ZipApart z TI TO i1 i2 a b) :
    Turn P w K (.Name nm tp) (Itzt K a b) [z,TI,TO,i1,i2] z (fun i h=>(∃f0 f1,F0 f0/\Zp h z TI TO f0 f1)/\IsPair h TI (.ref i1) (.ref i2)/\(∃c d,IsPair h TO c d)/\h.IsTupleIter i1 a i/\h.IsListIter i2 b i) where
 mem:=by simp
 obj:=fun i h st c hc=>by
  obtain⟨⟨f0,f1,_,hz⟩,hTI,⟨u,v,hTO⟩,⟨o1,e1,_,d1⟩,⟨o2,e2,_,d2⟩⟩:=st
  have hc:c=z∨c=TI∨c=TO∨c=i1∨c=i2:=by simpa using hc
  rcases hc with rfl | rfl | rfl | rfl | rfl
  ·exact⟨_,hz,fun v q=>by cases q⟩
  ·exact⟨_,hTI,fun v q=>by cases q⟩
  ·exact⟨_,hTO,fun v q=>by cases q⟩
  ·exact⟨_,e1,fun v q=>by rw[d1] at q;cases q⟩
  ·exact⟨_,e2,fun v q=>by rw[d2] at q;cases q⟩
 keep:=fun i h h' st k=>by
  obtain⟨⟨f0,f1,hf,hz⟩,hTI,⟨u,v,hTO⟩,h1,h2⟩:=st
  exact⟨⟨f0,f1,hf,k z (by simp) _ hz⟩,k TI (by simp) _ hTI,⟨u,v,k TO (by simp) _ hTO⟩,h1.at fun o e=>k i1 (by simp) o e,h2.at fun o e=>k i2 (by simp) o e⟩
 item := by
  intro X hP hw hK hc i pins s σ H E I hf st hg
  subst hP hw hK
  obtain⟨⟨f0,f1,hf0,hz⟩,hTI,⟨ta,tb,hTO⟩,h1,h2⟩:=st
  obtain⟨xs,ys,x,y,hqa,hqb,hx,hy⟩:=hg
  obtain⟨its,rv,pa,_⟩:=I.tuple hqa
  obtain⟨jts,rw',pb,_⟩:=I.list hqb
  obtain⟨u,hu,ru⟩:=rv.get hx
  obtain⟨v,hv,rv'⟩:=rw'.get hy
  refine dO ⟨_,hz,rfl⟩ (qV D hf0 hz hTI hTO h1 h2 (show s.heap.IsTuple a its.toArray from pa) pb.isList (x:=u) (y:=v) (by simpa using hu) (by simpa using hv) fun h' f0' f1' hf' hz' hTO' j1 j2 hpr k=>⟨_,rfl,?_⟩)
  refine ad (s:={ s with heap:=h' }) ?_
  have hp:H s.heap.objs.size=none:=I.hok.fresh (ac _)
  have fr:∀c∈[z,TI,TO,i1,i2],H c=none:=fun c hc=>(hf c hc).1
  have nit:∀c o,H c=some o->c≠z/\c≠TO/\c≠i1/\c≠i2:=fun c o q=>by
   refine⟨?_,?_,?_,?_⟩ <;> (intro e;rw[e,fr _ (by simp)] at q;cases q)
  have up:∀c o,H c=some o->upd H s.heap.objs.size (.tup [x,y]) c=some o:=fun c o q=>by rw[cm (cq q hp)];exact q
  have kk:∀c o,c∉[z,TO,i1,i2]->s.heap.get? c=some o->h'.get? c=some o:=fun c o n q=>k c o (fun e=>n (by simp[e])) (fun e=>n (by simp[e])) (fun e=>n (by simp[e])) (fun e=>n (by simp[e])) q
  have mem5:∀c∈[z,TO,i1,i2],c∈[z,TI,TO,i1,i2]:=fun c hc=>by simp at hc ⊢;rcases hc with e | e | e | e <;> simp[e]
  have hlt:∀c∈[z,TI,TO,i1,i2],c<s.heap.objs.size:=fun c hc=>by
   have hc:c=z∨c=TI∨c=TO∨c=i1∨c=i2:=by simpa using hc
   rcases hc with rfl | rfl | rfl | rfl | rfl
   ·exact af hz
   ·exact af hTI
   ·exact af hTO
   ·obtain⟨o,e,_⟩:=h1;exact af e
   ·obtain⟨o,e,_⟩:=h2;exact af e
  have I1:Inv X pins σ (upd H s.heap.objs.size (.tup [x, y])) { s with heap := h', gens := s.gens, drawn := s.drawn, toks := s.toks } := by
   refine I.step (g':=s.gens) (d':=s.drawn) (ch:=[z,TO,i1,i2]) (fun c hc=>?_) (fun c o _ _ n q _=>kk c o n q) (fun c o _ _ n q _=>⟨o.slots,kk c o n q⟩) (fun c o _ q n=>?_) (fun c o n q=>⟨o,kk c o n q⟩) (fun c ys q=>up c _ q) (fun c o v q=>up c _ q) (fun c ps q=>⟨#[],by rw[up c _ q];simp⟩) (fun m hm=>?_) (fun c o q=>?_) I.bare
   ·obtain⟨_,g1,_,g3,g4,g5⟩:=hf c (mem5 c hc)
    exact⟨g3,g1,g4,g5⟩
   ·rw[cm (am (af q))];exact n
   ·obtain⟨o,es,ep,ho,r⟩:=hm
    refine⟨o,es,ep,kk _ o (fun n=>?_) ho,r⟩
    exact(hf _ (mem5 _ n)).2.1 rfl
   ·by_cases hb:c=s.heap.objs.size
    ·subst hb
     rw[cn] at q
     have q':HO.tup [x,y]=o:=ae q
     subst q'
     exact⟨by show 2<=sizeLine;decide,[u,v],.cons ru (.cons rv' .nil),⟨_,hpr,rfl,_,rfl,rfl⟩⟩
    ·rw[cm hb] at q
     refine(I.hok c o q).stay (fun d o' hd q'=>?_) (fun d q=>up d _ q) fun d ys q=>up d _ q
     rcases hd with e | e
     ·rw[e] at q' ⊢;obtain⟨n1,n2,n3,n4⟩:=nit c o q;exact k c o' n1 n2 n3 n4 q'
     ·obtain⟨n1,n2,n3,n4⟩:=nit d _ e;exact k d o' n1 n2 n3 n4 q'
  refine⟨.ref s.heap.objs.size,upd H s.heap.objs.size (.tup [x,y]),I1,rfl,⟨_,x,y,hp,rfl,fun zs hz=>by rw[I.tuple_inj hz hqa];exact hx,fun zs hz=>by rw[I.list_inj hz hqb];exact hy,rfl⟩,⟨⟨f0',f1',hf',hz'⟩,?_,hTO',j1,j2⟩,fun c hc=>?_⟩
  ·exact k TI _ D.TIz D.TITO D.TIi1 D.TIi2 hTI
  ·rw[cm (am (hlt c hc))];exact fr c hc
 done:=by
  intro X hP hw hK hc i pins s σ H E I hf st hg
  subst hP hw hK
  obtain⟨⟨f0,f1,hf0,hz⟩,hTI,⟨ta,tb,hTO⟩,h1,h2⟩:=st
  obtain⟨xs,ys,hqa,hqb,hxy⟩:=hg
  obtain⟨its,rv,pa,_⟩:=I.tuple hqa
  obtain⟨jts,rw',pb,_⟩:=I.list hqb
  have l1:=rv.length
  have l2:=rw'.length
  have hend:its.toArray[i]? = none∨jts.toArray[i]? = none:=by
   rcases hxy with q | q
   ·exact .inl (by simp;omega)
   ·exact .inr (by simp;omega)
  refine dO ⟨_,hz,rfl⟩ (tP (A:=X.A.in1) (show X.A.in1.handled=none from I.ok.hd hc) D hf0 hz hTI hTO h1 h2 (show s.heap.IsTuple a its.toArray from pa) pb.isList hend fun h' e k he=>⟨he,⟨e,rfl⟩,rfl,?_⟩)
  have fr:∀c∈[z,TI,TO,i1,i2],H c=none:=fun c hc=>(hf c hc).1
  have nit:∀c o,H c=some o->c≠z/\c≠TO/\c≠i1/\c≠i2:=fun c o q=>by
   refine⟨?_,?_,?_,?_⟩ <;> (intro e;rw[e,fr _ (by simp)] at q;cases q)
  have kk:∀c o,c∉[z,TO,i1,i2]->s.heap.get? c=some o->h'.get? c=some o:=fun c o n q=>k c o (fun e=>n (by simp[e])) (fun e=>n (by simp[e])) (fun e=>n (by simp[e])) (fun e=>n (by simp[e])) q
  have mem5:∀c∈[z,TO,i1,i2],c∈[z,TI,TO,i1,i2]:=fun c hc=>by simp at hc ⊢;rcases hc with e | e | e | e <;> simp[e]
  refine I.step (h':=h') (g':=s.gens) (d':=s.drawn) (t':=s.toks) (ch:=[z,TO,i1,i2]) (fun c hc=>?_) (fun c o _ _ n q _=>kk c o n q) (fun c o _ _ n q _=>⟨o.slots,kk c o n q⟩) (fun c o _ q n=>n) (fun c o n q=>⟨o,kk c o n q⟩) (fun c ys q=>q) (fun c o v q=>q) (fun c ps q=>⟨#[],by rw[q];simp⟩) (fun m hm=>?_) (fun c o q=>?_) I.bare
  ·obtain⟨_,g1,_,g3,g4,g5⟩:=hf c (mem5 c hc)
   exact⟨g3,g1,g4,g5⟩
  ·obtain⟨o,es,ep,ho,r⟩:=hm
   refine⟨o,es,ep,kk _ o (fun n=>?_) ho,r⟩
   exact(hf _ (mem5 _ n)).2.1 rfl
  ·refine(I.hok c o q).stay (fun d o' hd q'=>?_) (fun d q=>q) fun d ys q=>q
   rcases hd with e | e
   ·rw[e] at q' ⊢;obtain⟨n1,n2,n3,n4⟩:=nit c o q;exact k c o' n1 n2 n3 n4 q'
   ·obtain⟨n1,n2,n3,n4⟩:=nit d _ e;exact k d o' n1 n2 n3 n4 q'
 self:=fun A i s Q E st h=>by
  obtain⟨⟨f0,f1,hf0,hz⟩,_⟩:=st
  have hT:s.TypeIs (.ref z) "zip":=⟨_,hz,rfl⟩
  refine wpAny_pyIter_slot hT F.slot_zip_iter (wpAny_call_entry F.slot_zip_iter hT F.entry_zip_iter ?_ (F.args_zip_iter_1 _))
  show wpAny _ _ (ret (.ref z)) _ _ s
  exact ad ⟨_,rfl,"zip",_,hT,F.slot_zip_next.lookup,h⟩
theorem Rd.same' {H H':Hp}{a:Addr}{u:HO}(r:Rd H a u) (s:Same H H'):Rd H' a u:=by
 rcases r with r | ⟨o,r⟩
 ·exact .inl (s _ _ r)
 ·exact .inr ⟨o,s _ _ r⟩
theorem SqT.same' {K:W.Frag}{H H':Hp}{a:Addr}{xs:List V}(r:SqT K H a xs) (s:Same H H'):SqT K H' a xs:=by
 rcases r with r | r
 ·exact .inl (r.same' s)
 ·exact .inr r
theorem SqL.same' {K:W.Frag}{H H':Hp}{a:Addr}{xs:List V}(r:SqL K H a xs) (s:Same H H'):SqL K H' a xs:=by
 rcases r with r | r
 ·exact .inl (r.same' s)
 ·exact .inr r
def cS (ks:List Str) (ys:List V):List (Key × V):=(ks.map Sum.inr).zip ys
theorem nZ {X:Cx}(hc:X.calm=true) (hu:X.A.units+64<cLine) {pins:List (Addr × Obj)}{s:Shared}{σ:St}{H:Hp}{a b z TI TO i1 i2:Addr}{ks:List Str}{ys:List V}{Q:VK}(I:Inv X pins σ H s) (D:ZipApart z TI TO i1 i2 a b)
    (t0:(∃f0 f1,F0 f0/\Zp s.heap z TI TO f0 f1)/\IsPair s.heap TI (.ref i1) (.ref i2)/\(∃c d,IsPair s.heap TO c d)/\s.heap.IsTupleIter i1 a 0/\s.heap.IsListIter i2 b 0) (hf:∀c∈[z,TI,TO,i1,i2],dB X pins H c)
    (hqa:SqT X.K H a (List.map V.str ks)) (hqb:SqL X.K H b ys) (hl:ks.length=ys.length) (hn:ks.length<=1000) (q:∀l H2,H l=none->Same H H2->H2 l=some (.dK (mkK (cS ks ys)))->Q (.ref l) H2) :
    wpAny (model X.prog X.w) X.A (call (.type "dict") [.ref z]) (EP X pins σ Q) X.xe s:=by
 have T:=pR (P:=X.prog) (w:=X.w) (K:=X.K) (nm:="x") (tp:=default) a b z TI TO i1 i2 D
 have hlt:∀c∈[z,TI,TO,i1,i2],c<s.heap.objs.size:=fun c hc=>by
  obtain⟨o,e,_⟩:=T.obj 0 s.heap t0 c hc
  exact af e
 have zl:(cS ks ys).length=ks.length:=by unfold cS;rw[List.length_zip,ab];omega
 refine callType_codes (Q₁:=fun ob s1=>ob=.ref s.heap.objs.size/\s1={ s with heap:=s.heap.push { cls:=.type "dict",data:=.dict #[] } }) F.kt_called_dict (F.kt_typeCall_dict_1 _) F.entry_dict_init (kt_code_dict_new _ ⟨rfl,rfl⟩) ?_
 rintro ob s1 ⟨rfl,rfl⟩
 have hfree:H s.heap.objs.size=none:=I.hok.fresh (ac _)
 have I1:Inv X pins σ (upd H s.heap.objs.size (.dK [])) { s with heap:=s.heap.push { cls:=.type "dict",data:=.dict #[] } } :=
  I.laid (a:=s.heap.objs.size) (o:=.dK []) (t':=s.toks) (fun _ _ q=>ah _ q) (ac _) (jo s.heap I.big)
 have hnew:(⟨s.heap.push { cls:=.type "dict",data:=.dict #[] },s.gens,s.drawn,s.toks,s.os⟩:Shared).TypeIs (.ref s.heap.objs.size) "dict":=⟨_,ao _ rfl,rfl⟩
 refine⟨hnew,F.args_dict_init_2 _ _,?_⟩
 unfold Builtin.«dict.__init__»
 refine aa ?_
 unfold Builtin.Dict.selfAndRest
 refine aa (wpAny_notOrdered_dict hnew ?_)
 show wpAny _ _ (pure (s.heap.objs.size,[Value.ref z])) _ _ _
 refine ad ?_
 show wpAny _ _ (Builtin.Dict.updateFrom "dict.__init__" s.heap.objs.size (.ref z) [] .none) _ _ _
 unfold Builtin.Dict.updateFrom
 have hA:X.A.in1.in1.handled=none:=I.ok.hd hc
 have t1:=T.keep 0 s.heap (s.heap.push { cls:=.type "dict",data:=.dict #[] }) t0 fun c _ o e=>ah _ e
 obtain⟨⟨f0,f1,hf0,hz⟩,_⟩:=id t1
 refine aa (wpAny_typeOf (T:="zip") ⟨_,hz,rfl⟩ ?_)
 rw[if_pos (by decide)]
 refine aa (jP hz rfl rfl rfl hA fun h' tk kp=>?_)
 have I2:=I1.kept (h':=h') (t':=tk) kp
 have t2:=T.keep 0 _ h' t1 fun c _ o e=>kp c o e
 refine aa (wpAny_rule (aa ?_))
 refine T.self X.A.in1.in1 0 { s with heap:=h',toks:=tk } _ _ t2 ?_
 refine ad ⟨plainId_quiet DU.plain_loop _,?_⟩
 refine lq (nm:="x") (tp:=default) T hc hu s.heap.objs.size ks.length (fun i H'=>Same H H'/\H' s.heap.objs.size=some (.dK (mkK ((cS ks ys).take i)))) (fun i H' hi e=>?_) (fun H' e=>?_) _ 0 0 _ _ rfl (aL _) I2 (fun c hc=>?_) t2 ?_ ?_
 ·obtain⟨sm,hd⟩:=e
  have hx:(List.map V.str ks)[i]? = some (V.str ks[i]):=by simp[hi]
  have hy:ys[i]? = some (ys[i]'(by omega)):=ap (by omega)
  refine⟨⟨_,_,_,_,hqa.same' sm,hqb.same' sm,hx,hy⟩,fun x H1 yl=>?_⟩
  obtain⟨p,u,v,hp,rfl,hu1,hv1,rfl⟩:=yl
  have e1:V.str ks[i]=u:=ae (hx.symm.trans (hu1 _ (hqa.same' sm)))
  have e2:ys[i]'(by omega)=v:=ae (hy.symm.trans (hv1 _ (hqb.same' sm)))
  subst e1 e2
  have npl:s.heap.objs.size≠p:=cq hd hp
  have hzk:(cS ks ys)[i]? = some (.inr ks[i],ys[i]'(by omega)):=by
   unfold cS
   rw[bH]
   exact⟨by simp[hi],hy⟩
  have hkl:(mkK ((cS ks ys).take i)).length<sizeLine:=by
   have:=pN ((cS ks ys).take i)
   rw[aJ] at this
   exact cw (by omega)
  refine⟨p,V.str ks[i],_,_,rfl,.of cn,DPut.k (k:=.inr ks[i]) (by rw[cm npl];exact hd) hkl,fun c o hc=>?_,?_⟩
  ·have h1:=sm c o hc
   rw[cm (cq hc hfree),cm (cq h1 hp)]
   exact h1
  ·rw[cn,mt _ i _ hzk]
 ·obtain⟨sm,hd⟩:=e
  exact⟨_,_,hqa.same' sm,hqb.same' sm,.inl (by rw[ab];exact ac _)⟩
 ·obtain⟨g0,g1,g2,g3,g4,g5⟩:=hf c hc
  exact⟨by rw[cm (am (hlt c hc))];exact g0,g1,g2,g3,g4,g5⟩
 ·exact⟨Same.new hfree,by rw[cn];rfl⟩
 ·intro H' s' I' e
  obtain⟨sm,hd⟩:=e
  rw[<- zl,aq (ac _)] at hd
  exact⟨rfl,.ref _,_,I',rfl,q _ _ hfree sm hd⟩
def vO (K:W.Frag) (ta:TA):TE:=fun σ H Q=>ta σ H fun vs H1=>∃a b ks ys,vs=[.ref a,.ref b]/\SqT K H1 a (List.map V.str ks)/\SqL K H1 b ys/\ks.length=ys.length/\ks.length<=1000/\∀l H2,H1 l=none->Same H1 H2->H2 l=some (.dK (mkK (cS ks ys)))->Q (.ref l) H2
theorem m4 (K:W.Frag) {X:Cx}{a b:Expr}{ta:TA}{p p2 pos pos2:Pos}(hc:X.calm=true) (hu:X.A.units+64<cLine) (B:Blt X.mg) (hm:X.mg "zip"=none) (ha:PA X [a,b] ta) (hgd:Gl X "dict":=by rfl) (hgz:Gl X "zip":=by rfl)
    (he:starEach [.Call (.Name "zip" p2) [a,b] [] pos2] X.env=(false,eval (.Call (.Name "zip" p2) [a,b] [] pos2) X.env)::starEach [] X.env:=by rfl) (hpl:(backTo pos (starEach [] X.env)).any (·.1)=false:=by rfl)
    (hs:starEach [a,b] X.env=(false,eval a X.env)::starEach [b] X.env:=by rfl) (hp2:(backTo pos2 (starEach [b] X.env)).any (·.1)=false:=by rfl) (hK:X.K=K:=by rfl) :
    PE X (.Call (.Name "dict" p) [.Call (.Name "zip" p2) [a,b] [] pos2] [] pos) (vO K ta):=by
 subst hK
 intro pins s σ H Q I h
 refine bI (eI I hgd B.dict (show bootBuiltins "dict"=some (.type "dict") by decide +kernel) ?_ (by decide) (by decide))
 refine PyProof.Rows.callWith_type1 ?_ he hpl
 rw[he]
 show wpAny _ _ (spliced ((false,eval (.Call (.Name "zip" p2) [a,b] [] pos2) X.env)::backTo pos (starEach [] X.env))) _ _ s
 refine Calls.spliced_cons ?_
 refine Call_ (eI I hgz hm (show bootBuiltins "zip"=some (.type "zip") by decide +kernel) (PyProof.Rows.callWith_type1 (thn (ha pos2 pins s σ H _ I h) fun us s1 ⟨vs,H1,I1,r1,q1⟩=>?_) hs hp2))
 obtain⟨l,m,ks,ys,rfl,hqa,hqb,hl,hn,q⟩:=q1
 obtain⟨u1,u2,rfl,r1,r2⟩:=fW r1
 cases r1
 cases r2
 obtain⟨its,rv,pa,_⟩:=I1.tuple hqa
 obtain⟨jts,rw',pb,_⟩:=I1.list hqb
 have a1:l<s1.heap.objs.size:=by obtain⟨_,e,_⟩:=pa;exact af e
 have a2:m<s1.heap.objs.size:=by obtain⟨_,e,_⟩:=pb.isList;exact af e
 refine pM (show s1.heap.IsTuple l its.toArray from pa) pb.isList fun h' hz hTI hTO hi1 hi2 hk=>?_
 refine Calls.spliced_nil ?_
 have I2:=I1.kept (t':=s1.toks) hk
 refine nZ hc hu I2 (zipApart_new a1 a2) ⟨⟨_,_,.inl rfl,hz⟩,hTI,⟨_,_,hTO⟩,hi1,hi2⟩ (fun c hc=>?_) hqa hqb hl hn q
 have hb:c=s1.heap.objs.size+4∨c=s1.heap.objs.size+2∨c=s1.heap.objs.size+3∨c=s1.heap.objs.size∨c=s1.heap.objs.size+1:=by simpa using hc
 have hle:s1.heap.objs.size<=c:=by rcases hb with e | e | e | e | e <;> rw[e] <;> first | exact ac _ | exact Nat.le_add_right _ _
 exact I1.fpOk hle (I1.hok.fresh hle)
end L2
namespace MG
def Ris (es:List (Nat × Nat)):Prop:=∃r:Nat->Nat,∀e∈es,r e.1<r e.2
theorem Ris.noring {es:List (Nat × Nat)}(h:Ris es):∀e ∈ es, ¬ RingAt es e := by
 obtain⟨r,hr⟩:=h
 have key:∀k x y, Walk (Arr (swp es)) k x y -> r y <= r x := by
  intro k
  induction k with
  | zero => intro x y w; have e:y=x := by first | exact w | exact w.symm
            rw[e];exact ac _
  | succ k ih =>
   intro x y w
   obtain⟨z,w1,w2⟩:=w
   first
    | (have h1:=ih x z w1
       have h2:=hr (y,z) (mem_swp.mp w2)
       have h2:r y<r z:=h2
       omega)
    | (have h1:=ih z y w2
       have h2:=hr (z,x) (mem_swp.mp w1)
       have h2:r z<r x:=h2
       omega)
 intro e he ⟨k,d⟩
 have h1:=key k e.1 e.2 d.1
 have h2:=hr e he
 omega
structure IsL (es:List (Nat × Nat)) (n:Nat) (L:Nat->Nat):Prop where
 up:∀e∈es,L e.1+1<=L e.2
 eq:∀v,v<n->L v=0∨∃u,(u,v)∈es/\L v=L u+1
theorem nodup_le {l:List Nat}{n:Nat}(nd:l.Nodup) (h:∀x ∈ l, x<n):l.length <= n := by
 have key:∀(l ws:List Nat),l.Nodup->(∀x∈l,x∈ws)->l.length<=ws.length:=by
  intro l
  induction l with
  | nil=>intro ws _ _;exact aL _
  | cons s r ih =>
   intro ws nd hm
   obtain⟨h1,h2⟩:=ba.mp nd
   have p:=(List.perm_cons_erase (hm s (by simp))).length_eq
   rw[bA] at p ⊢
   have:=ih (ws.erase s) h2 fun x hx=>(List.mem_erase_of_ne (fun z:x=s=>h1 (z ▸ hx))).mpr (hm x (aI _ hx))
   omega
 have:=key l (List.range n) nd fun x hx=>aN.mpr (h x hx)
 rwa [aF] at this
theorem IsL.lt {es:List (Nat × Nat)}{n:Nat}{L:Nat -> Nat}(h:IsL es n L) (val:∀e ∈ es, e.1<n /\ e.2<n):∀v, v<n -> L v<n := by
 have key:∀k v, v<n -> L v=k -> ∃f:Nat -> Nat, ∀j, j <= k -> f j<n /\ L (f j)=j := by
  intro k
  induction k with
  | zero=>intro v hv e;exact⟨fun _=>v,fun j hj=>⟨hv,by rw[e];omega⟩⟩
  | succ k ih =>
   intro v hv e
   rcases h.eq v hv with q | ⟨u,hu,q⟩
   ·omega
   ·obtain⟨f,hf⟩:=ih u (val _ hu).1 (by omega)
    refine⟨fun j=>if j=k+1 then v else f j,fun j hj=>?_⟩
    by_cases q:j=k+1
    ·simp only[if_pos q];exact⟨hv,by rw[e,q]⟩
    ·simp only[if_neg q];exact hf j (by omega)
 intro v hv
 obtain⟨f,hf⟩:=key (L v) v hv rfl
 have nd:((List.range (L v+1)).map f).Nodup:=by
  rw[List.Nodup,List.pairwise_map]
  refine List.Pairwise.imp_of_mem (fun {a b} ha hb hab z=>hab ?_) (List.nodup_range (n:=L v+1))
  have h1:=(hf a (by have:=aN.mp ha;omega)).2
  have h2:=(hf b (by have:=aN.mp hb;omega)).2
  rw[<- h1,<- h2,z]
 have:=nodup_le nd fun x hx=>by
  obtain⟨j,hj,rfl⟩:=al.mp hx
  exact(hf j (by have:=aN.mp hj;omega)).1
 rw[ab,aF] at this
 omega
def Grown (es:List (Nat × Nat)) (ks:List Nat):Prop:=∀i v,ks[i]? = some v->∀u,(u,v)∈es->u∈ks.take i
theorem Grown.nil {es:List (Nat × Nat)}:Grown es []:=fun i v h=>by simp at h
theorem Grown.snoc {es:List (Nat × Nat)}{ks:List Nat}{v:Nat}(h:Grown es ks) (hv:∀u,(u,v)∈es->u∈ks):Grown es (ks++[v]):=by
 intro i x hx u hu
 by_cases hi:i<ks.length
 ·rw[bD hi] at hx
  rw[List.take_append_of_le_length (bd hi)]
  exact h i x hx u hu
 ·have hl:=(ak.mp hx).1
  rw[aU] at hl
  have e:i=ks.length:=by have:ks.length+1=ks.length+[v].length:=rfl;omega
  subst e
  rw[bx (ac _),Nat.sub_self] at hx
  have e2:v=x:=ae hx
  subst e2
  rw[List.take_append_of_le_length (ac _),aq (ac _)]
  exact hv u hu
theorem due_ex {es:List (Nat × Nat)}{n:Nat}{ks:List Nat}(hf:Ris es) (val:∀e ∈ es, e.1<n /\ e.2<n) (hl:ks.length<n) (hn:ks.Nodup) (hk:∀x ∈ ks, x<n):∃v, v<n /\ v ∉ ks /\ ∀u, (u, v) ∈ es -> u ∈ ks := by
 obtain⟨r,hr⟩:=hf
 have ex:∃v, v<n /\ v ∉ ks := Classical.byContradiction fun z => by
  have all:∀v,v<n->v∈ks:=fun v hv=>Classical.byContradiction fun q=>z ⟨v,hv,q⟩
  have key:∀(l ws:List Nat),l.Nodup->(∀x∈l,x∈ws)->l.length<=ws.length:=by
   intro l
   induction l with
   | nil=>intro ws _ _;exact aL _
   | cons s r ih =>
    intro ws nd hm
    obtain⟨h1,h2⟩:=ba.mp nd
    have p:=(List.perm_cons_erase (hm s (by simp))).length_eq
    rw[bA] at p ⊢
    have:=ih (ws.erase s) h2 fun x hx=>(List.mem_erase_of_ne (fun z:x=s=>h1 (z ▸ hx))).mpr (hm x (aI _ hx))
    omega
  have:=key (List.range n) ks List.nodup_range fun x hx=>all x (aN.mp hx)
  rw[aF] at this
  omega
 have key:∀m v, r v <= m -> v<n -> v ∉ ks -> ∃v, v<n /\ v ∉ ks /\ ∀u, (u, v) ∈ es -> u ∈ ks := by
  intro m
  induction m with
  | zero =>
   intro v hm hv hk
   refine⟨v,hv,hk,fun u hu=>?_⟩
   have:=hr _ hu
   have:r u<r v:=this
   omega
  | succ m ih =>
   intro v hm hv hk
   by_cases q:∀u,(u,v)∈es->u∈ks
   ·exact⟨v,hv,hk,q⟩
   ·obtain⟨u,hu⟩:=Classical.not_forall.mp q
    obtain⟨h1,h2⟩:=Classical.not_imp.mp hu
    have h3:r u<r v:=hr _ h1
    exact ih u (by omega) (val _ h1).1 h2
 obtain⟨v,hv,hk⟩:=ex
 exact key (r v) v (ac _) hv hk
end MG
namespace L2
open PySem PySem.Spec PyProof.Rows
section
variable {X:Cx}{p pos:Pos}{e:Expr}{t:TA}
def rD:List V->Hp->VK->Prop:=fun xs H Q=>∃a kvs,xs=[V.ref a]/\Rd H a (.dK kvs)/\Q (.int kvs.length) H
theorem oZ (B:Blt X.mg) (ha:PA X [e] t) (hg:Gl X "len":=by rfl) (he:starEach [e] X.env=(false,eval e X.env)::starEach [] X.env:=by rfl) (hpl:(backTo pos (starEach [] X.env)).any (·.1)=false:=by rfl):PE X (.Call (.Name "len" p) [e] [] pos) (tCB rD t):=by
 refine dM (r:=rD) (fun pins s σ H xs us Q I r h=>?_) hg B.len PySem.boot_len ha (by decide) (by decide) he hpl
 obtain⟨a,kvs,rfl,hr,q⟩:=h
 obtain⟨u,rfl,ru⟩:=dR r
 cases ru
 exact rT I hr fun t s' I'=>⟨.int kvs.length,H,I',⟨t,rfl⟩,q⟩
end
def TabK (H:Hp) (kvs:List (Key × V)) (ss:List Str) (f:Str->List Str):Prop:=kvs.map (·.1)=ss.map Sum.inr/\∀s∈ss,∃l,cI kvs (.inr s)=some (.ref l)/\H l=some (.lst (List.map V.str (f s)))
theorem TabK.keep {H H':Hp}{kvs:List (Key × V)}{ss:List Str}{f:Str->List Str}(h:TabK H kvs ss f) (k:∀b xs,H b=some (.lst xs)->H' b=some (.lst xs)):TabK H' kvs ss f :=
 ⟨h.1,fun s hs=>let ⟨l,a,b⟩:=h.2 s hs;⟨l,a,k _ _ b⟩⟩
theorem TabK.same {H H':Hp}{kvs:List (Key × V)}{ss:List Str}{f:Str->List Str}(h:TabK H kvs ss f) (s:Same H H'):TabK H' kvs ss f:=h.keep fun b xs e=>s _ _ e
theorem TabK.len {H:Hp}{kvs:List (Key × V)}{ss:List Str}{f:Str->List Str}(h:TabK H kvs ss f):kvs.length=ss.length:=by
 have:=congrArg List.length h.1
 rwa [ab,ab] at this
theorem TabK.at {H:Hp}{kvs:List (Key × V)}{ss:List Str}{f:Str->List Str}(h:TabK H kvs ss f) {i:Nat}{kv:Key × V}(e:kvs[i]? = some kv):∃s,ss[i]? = some s/\kv.1=.inr s:=by
 have:=congrArg (fun l=>l[i]?) h.1
 simp only[ag,e,bL] at this
 cases q:ss[i]? with
 | none=>rw[q] at this;cases this
 | some s=>rw[q] at this;exact⟨s,rfl,ae this⟩
theorem gH {kvs:List (Key × V)}{k:Key}{v:V}(h:k∉kvs.map (·.1)):cR kvs k v=kvs++[(k,v)]:=by
 unfold cR
 rw[if_neg]
 intro z
 obtain⟨kv,hm,e⟩:=bU.mp z
 exact h (al.mpr ⟨kv,hm,ax e⟩)
theorem qd {kvs:List (Key × V)}{k:Key}:(cI kvs k).isSome=true ↔ k∈kvs.map (·.1):=by
 rw[<- eK,bU,al]
 exact⟨fun ⟨kv,hm,e⟩=>⟨kv,hm,ax e⟩,fun ⟨kv,hm,e⟩=>⟨kv,hm,ai e⟩⟩
theorem kE:∀(ks:List Str) (ys:List V), ks.Nodup -> mkK (cS ks ys)=cS ks ys := by
 have key:∀(ks:List Str) (ys:List V) (m:List (Key × V)), ks.Nodup -> (∀k ∈ ks, (Sum.inr k:Key) ∉ m.map (·.1)) -> (cS ks ys).foldl (fun m q => cR m q.1 q.2) m=m ++ cS ks ys := by
  intro ks
  induction ks with
  | nil=>intro ys m _ _;unfold cS;simp
  | cons k ks ih =>
   intro ys m nd hm
   cases ys with
   | nil=>unfold cS;simp
   | cons y ys =>
    obtain⟨h1,h2⟩:=ba.mp nd
    have e:cS (k::ks) (y::ys)=(.inr k,y)::cS ks ys:=rfl
    rw[e,List.foldl_cons]
    show List.foldl _ (cR m (.inr k) y) _=_
    rw[gH (hm k (by simp)),ih ys _ h2 (fun x hx=>?_)]
    ·simp
    ·rw[aj,ar]
     rintro (z | z)
     ·exact hm x (aI _ hx) z
     ·have:(Sum.inr x:Key)=Sum.inr k:=by simpa using z
      exact h1 (Sum.inr.inj this ▸ hx)
 intro ks ys nd
 unfold mkK
 rw[key ks ys [] nd (fun k _ h=>by cases h)]
 rfl
theorem eO:∀ {ks:List Str}{ys:List V}{i:Nat}{k:Str}{y:V},ks.Nodup->ks[i]? = some k->ys[i]? = some y->cI (cS ks ys) (.inr k)=some y
 | [],_,_,_,_,_,h,_=>by simp at h
 | k::ks,[],_,_,_,_,_,h=>by simp at h
 | k::ks,y::ys,0,k',y',nd,h1,h2=>by
  have e1:k=k':=by simpa using h1
  have e2:y=y':=by simpa using h2
  subst e1 e2
  exact dF (p:=(Sum.inr k,y)) rfl
 | k::ks,y::ys,i+1,k',y',nd,h1,h2=>by
  obtain⟨n1,n2⟩:=ba.mp nd
  have h1:ks[i]? = some k':=by simpa using h1
  have h2:ys[i]? = some y':=by simpa using h2
  have ne:¬ (Sum.inr k:Key)=Sum.inr k':=fun z=>n1 (by rw[Sum.inr.inj z];exact av h1)
  show cI ((Sum.inr k,y)::cS ks ys) _=_
  rw[dE ne]
  exact eO n2 h1 h2
end L2
namespace MG
structure IsD (es:List (Nat × Nat)) (W D:Nat->Int):Prop where
 ge:∀v,W v<=D v
 up:∀e∈es,D e.1+W e.2<=D e.2
 eq:∀v,D v=W v∨∃u,(u,v)∈es/\D v=D u+W v
def mx:List Int->Int
 | []=>0
 | x::l=>max x (mx l)
theorem rW:∀l,0<=mx l
 | []=>Int.le_refl 0
 | x::l=>by have:=rW l;show 0<=max x (mx l);omega
theorem rX:∀ {l:List Int}{x:Int},x∈l->x<=mx l
 | y::l,x,h=>by
  show x<=max y (mx l)
  rcases aR.mp h with rfl | h
  ·omega
  ·have:=rX h;omega
theorem rH:∀l:List Int, mx l=0 ∨ mx l ∈ l
 | []=>.inl rfl
 | y::l=>by
  show max y (mx l)=0∨max y (mx l)∈y::l
  by_cases q:mx l<=y
  ·rw[show max y (mx l)=y by omega];exact .inr (by simp)
  ·rw[show max y (mx l)=mx l by omega]
   rcases rH l with h | h
   ·exact .inl h
   ·exact .inr (aI _ h)
def dp (es:List (Nat × Nat)) (W:Nat->Int):Nat->Nat->Int
 | 0,_=>0
 | k+1,v=>W v+mx ((es.filter fun e=>decide (e.2=v)).map fun e=>dp es W k e.1)
theorem vt {es:List (Nat × Nat)}{W:Nat -> Int}{r:Nat -> Nat}(hr:∀e ∈ es, r e.1<r e.2):∀k m v, r v<k -> r v<m -> dp es W k v=dp es W m v := by
 intro k
 induction k with
 | zero=>intro m v h;omega
 | succ k ih =>
  intro m v h1 h2
  cases m with
  | zero=>omega
  | succ m =>
   show W v+mx _=W v+mx _
   congr 2
   refine List.map_congr_left fun e he=>?_
   obtain⟨a,b⟩:=aK.mp he
   have b:e.2=v:=ax b
   have:=hr e a
   rw[b] at this
   exact ih m e.1 (by omega) (by omega)
theorem depth_ex {es:List (Nat × Nat)}(h:Ris es) (W:Nat -> Int):∃D, IsD es W D := by
 obtain⟨r,hr⟩:=h
 have e:∀v,dp es W (r v+1) v=W v+mx ((es.filter fun e=>decide (e.2=v)).map fun e=>dp es W (r e.1+1) e.1):=by
  intro v
  show W v+mx _=W v+mx _
  congr 2
  refine List.map_congr_left fun e he=>?_
  obtain⟨a,b⟩:=aK.mp he
  have b:e.2=v:=ax b
  have:=hr e a
  rw[b] at this
  exact vt hr _ _ e.1 (by omega) (by omega)
 refine⟨fun v=>dp es W (r v+1) v,fun v=>?_,fun a ha=>?_,fun v=>?_⟩
 ·rw[e v];have:=rW ((es.filter fun e=>decide (e.2=v)).map fun e=>dp es W (r e.1+1) e.1);omega
 ·rw[e a.2]
  have:=rX (l:=(es.filter fun e=>decide (e.2=a.2)).map fun e=>dp es W (r e.1+1) e.1) (al.mpr ⟨a,aK.mpr ⟨ha,ai rfl⟩,rfl⟩)
  omega
 ·rcases rH ((es.filter fun e=>decide (e.2=v)).map fun e=>dp es W (r e.1+1) e.1) with q | q
  ·exact .inl (by rw[e v,q];omega)
  ·obtain⟨a,ha,q⟩:=al.mp q
   obtain⟨a1,a2⟩:=aK.mp ha
   have a2:a.2=v:=ax a2
   refine .inr ⟨a.1,a2 ▸ a1,?_⟩
   show dp es W (r v+1) v=dp es W (r a.1+1) a.1+W v
   have q:dp es W (r a.1+1) a.1=_:=q
   rw[e v,<- q]
   omega
theorem IsD.top {es:List (Nat × Nat)}{W D:Nat -> Int}(h:IsD es W D) {v:Nat}{M:Int}(h0:0 <= M) (hu:∀u, (u, v) ∈ es -> D u <= M) (hm:M=0 ∨ ∃u, (u, v) ∈ es /\ M=D u):W v+M=D v := by
 have a1:W v+M<=D v:=by
  rcases hm with e | ⟨u,hh,e⟩
  ·have:=h.ge v;omega
  ·have:D u+W v<=D v:=h.up (u,v) hh
   omega
 have a2:D v<=W v+M:=by
  rcases h.eq v with e | ⟨u,hh,e⟩
  ·omega
  ·have:=hu u hh;omega
 omega
theorem IsD.lay {es:List (Nat × Nat)}{n:Nat}{W D:Nat -> Int}(h:IsD es W D) (val:∀e ∈ es, e.1<n /\ e.2<n) (hW:∀v, v<n -> W v=1):IsL es n fun v => (D v-1).toNat := by
 have g:∀v,v<n->(1:Int)<=D v:=fun v hv=>by have:=h.ge v;rw[hW v hv] at this;exact this
 refine⟨fun e he=>?_,fun v hv=>?_⟩
 ·have h1:=h.up e he
  rw[hW _ (val e he).2] at h1
  have:=g e.1 (val e he).1
  show (D e.1-1).toNat+1<=(D e.2-1).toNat
  omega
 ·rcases h.eq v with e | ⟨u,hu,e⟩
  ·rw[hW v hv] at e
   exact .inl (by show (D v-1).toNat=0;omega)
  ·rw[hW v hv] at e
   have:=g u (val _ hu).1
   exact .inr ⟨u,hu,by show (D v-1).toNat=(D u-1).toNat+1;omega⟩
def h9 (W:Nat->Int) (F:List Int) (e:Nat × Nat):List Int:=F.set e.2 (max (F.getD e.2 0) (F.getD e.1 0+W e.2))
theorem nR (W:Nat->Int) (F:List Int) (e:Nat × Nat):(h9 W F e).length=F.length:=List.length_set ..
theorem iA (W:Nat->Int) (F:List Int) (e:Nat × Nat) (v:Nat) (hv:e.2<F.length):(h9 W F e).getD v 0=if v=e.2 then max (F.getD e.2 0) (F.getD e.1 0+W e.2) else F.getD v 0:=by
 unfold h9
 rw[aE,List.getElem?_set]
 by_cases q:v=e.2
 ·subst q
  rw[if_pos rfl,if_pos rfl,if_pos hv];rfl
 ·rw[if_neg (Ne.symm q),if_neg q,aE]
structure LayD (es:List (Nat × Nat)) (n:Nat) (W D:Nat->Int) (L:Nat->Nat) (r j:Nat) (F:List Int):Prop where
 len:F.length=n
 le:∀v,v<n->F.getD v 0<=D v
 ge:∀v,v<n->W v<=F.getD v 0
 low:∀v,v<n->L v<=r->F.getD v 0=D v
 mid:∀i e,i<j->es[i]? = some e->L e.1<=r->D e.1+W e.2<=F.getD e.2 0
theorem LayD.start {es:List (Nat × Nat)}{n:Nat}{W D:Nat->Int}{L:Nat->Nat}(hD:IsD es W D) (hL:IsL es n L):LayD es n W D L 0 0 ((List.range n).map W):=by
 have g:∀v,v<n->((List.range n).map W).getD v 0=W v:=fun v hv=>by
  rw[aE,ag,bV hv];rfl
 refine⟨by rw[ab,aF],fun v hv=>by rw[g v hv];exact hD.ge v,fun v hv=>by rw[g v hv];exact Int.le_refl _,fun v hv h0=>?_,fun i e hi=>by omega⟩
 rw[g v hv]
 rcases hD.eq v with e | ⟨u,hu,_⟩
 ·exact e.symm
 ·have:L u+1<=L v:=hL.up _ hu
  omega
theorem LayD.step {es:List (Nat × Nat)}{n:Nat}{W D:Nat -> Int}{L:Nat -> Nat}{r j:Nat}{F:List Int}{e:Nat × Nat}(h:LayD es n W D L r j F) (hD:IsD es W D) (val:∀e ∈ es, e.1<n /\ e.2<n) (he:es[j]? = some e):LayD es n W D L r (j+1) (h9 W F e) := by
 have hm:=av he
 obtain⟨v1,v2⟩:=val e hm
 have hl:e.2<F.length:=by rw[h.len];exact v2
 have mono:∀v,F.getD v 0<=(h9 W F e).getD v 0:=fun v=>by
  rw[iA W F e v hl]
  by_cases q:v=e.2
  ·subst q;rw[if_pos rfl];omega
  ·rw[if_neg q];omega
 have le:∀v,v<n->(h9 W F e).getD v 0<=D v:=fun v hv=>by
  rw[iA W F e v hl]
  by_cases q:v=e.2
  ·subst q;rw[if_pos rfl]
   have a:=h.le e.2 v2
   have b:=h.le e.1 v1
   have c:=hD.up e hm
   omega
  ·rw[if_neg q];exact h.le v hv
 refine⟨by rw[nR,h.len],le,fun v hv=>Int.le_trans (h.ge v hv) (mono v),fun v hv hr=>?_,fun i f hi hf hr=>?_⟩
 ·have a:=h.low v hv hr
  have b:=mono v
  have c:=le v hv
  omega
 ·by_cases hij:i<j
  ·exact Int.le_trans (h.mid i f hij hf hr) (mono f.2)
  ·have hi:i=j:=by omega
   subst hi
   have ef:f=e:=ae (hf.symm.trans he)
   subst ef
   rw[iA W F f f.2 hl,if_pos rfl]
   have a:=h.low f.1 v1 hr
   omega
theorem LayD.round {es:List (Nat × Nat)}{n:Nat}{W D:Nat->Int}{L:Nat->Nat}{r:Nat}{F:List Int}(h:LayD es n W D L r es.length F) (hD:IsD es W D) (hL:IsL es n L):LayD es n W D L (r+1) 0 F:=by
 refine⟨h.len,h.le,h.ge,fun v hv hr=>?_,fun i e hi=>by omega⟩
 have a:=h.le v hv
 have b:=h.ge v hv
 rcases hD.eq v with e | ⟨u,hu,e⟩
 ·omega
 ·obtain⟨i,hi⟩:=bW hu
  have hil:=(ak.mp hi).1
  have hlu:L u+1<=L v:=hL.up _ hu
  have:=h.mid i (u,v) hil hi (by show L u<=r;omega)
  have:D u+W v<=F.getD v 0:=this
  omega
theorem LayD.all {es:List (Nat × Nat)}{n:Nat}{W D:Nat->Int}{L:Nat->Nat}{F:List Int}(h:LayD es n W D L n 0 F) (hL:IsL es n L) (val:∀e∈es,e.1<n/\e.2<n):F=(List.range n).map D:=by
 apply List.ext_getElem
 ·rw[h.len,ab,aF]
 ·intro i h1 h2
  rw[List.getElem_map,List.getElem_range]
  have hi:i<n:=by rw[<- h.len];exact h1
  have:=h.low i hi (bd (hL.lt val i hi))
  rw[aE,ap h1] at this
  exact this
end MG
namespace L2
open PySem PySem.Spec PyProof.Rows
def knO (o:Obj):HO:=.frz o (.ext fun _=>True)
theorem lF {P:Program}{w:World}{H:Hp}{h:Heap}{a:Addr}{o:Obj}(e:h.get? a=some o):ObjOk P w H h a (knO o):=⟨e,trivial,⟨o,e⟩,fun _ _ _ _=>trivial⟩
theorem iS {P:Program}{w:World}{H:Hp}{h:Heap}{a:Addr}{o:Obj}(x:HOk P w H h) (e:H a=some (knO o)):h.get? a=some o:=(x a _ e).1
def lessC (H:Hp) (l:List (Addr × Obj)):Hp:=fun b=>match l.lookup b with
 | some _=>none
 | none=>H b
def moreC (H:Hp) (l:List (Addr × Obj)):Hp:=fun b=>match l.lookup b with
 | some o=>some (knO o)
 | none=>H b
theorem gj {H:Hp}{l:List (Addr × Obj)}{b:Addr}{o:Obj}(h:l.lookup b=some o):lessC H l b=none:=by unfold lessC;rw[h]
theorem cU {H:Hp}{l:List (Addr × Obj)}{b:Addr}(h:l.lookup b=none):lessC H l b=H b:=by unfold lessC;rw[h]
theorem gl {H:Hp}{l:List (Addr × Obj)}{b:Addr}{o:Obj}(h:l.lookup b=some o):moreC H l b=some (knO o):=by unfold moreC;rw[h]
theorem cT {H:Hp}{l:List (Addr × Obj)}{b:Addr}(h:l.lookup b=none):moreC H l b=H b:=by unfold moreC;rw[h]
def KnC (H:Hp) (l:List (Addr × Obj)):Prop:=∀b o,l.lookup b=some o->H b=some (knO o)
def Unk (H:Hp) (l:List (Addr × Obj)):Prop:=∀b o,l.lookup b=some o->H b=none
section
variable {P:Program}{w:World}{H H1:Hp}{h h1:Heap}{l:List (Addr × Obj)}{fs:List Addr}
theorem KnC.out (k:KnC H l) {b:Addr}{u:HO}(e:H b=some u) (n:∀o,u≠knO o):l.lookup b=none:=by
 cases q:l.lookup b with
 | none=>rfl
 | some o=>rw[k b o q] at e;exact absurd (ae e).symm (n o)
theorem Unk.out (k:Unk H l) {b:Addr}{u:HO}(e:H b=some u):l.lookup b=none:=by
 cases q:l.lookup b with
 | none=>rfl
 | some o=>rw[k b o q] at e;cases e
theorem KnC.outN (k:KnC H l) {b:Addr}(e:H b=none):l.lookup b=none:=by
 cases q:l.lookup b with
 | none=>rfl
 | some o=>rw[k b o q] at e;cases e
theorem pF (k:KnC H l):moreC (lessC H l) l=H:=by
 funext b
 cases q:l.lookup b with
 | none=>rw[cT q,cU q]
 | some o=>rw[gl q,k b o q]
theorem pH (k:Unk H l):lessC (moreC H l) l=H:=by
 funext b
 cases q:l.lookup b with
 | none=>rw[cU q,cT q]
 | some o=>rw[gj q,k b o q]
theorem HOk.lessC (x:HOk P w H h) (k:KnC H l):HOk P w (lessC H l) h:=fun b u e=>by
 cases q:l.lookup b with
 | some o=>rw[gj q] at e;cases e
 | none =>
  rw[cU q] at e
  refine(x b u e).stay (fun _ _ _ z=>z) (fun c z=>?_) fun c xs z=>?_
  ·rw[cU (k.out z fun o q=>by cases q)];exact z
  ·rw[cU (k.out z fun o q=>by cases q)];exact z
theorem HOk.moreC (x:HOk P w H h) (k:Unk H l) (g:∀b o,l.lookup b=some o->h.get? b=some o):HOk P w (moreC H l) h:=fun b u e=>by
 cases q:l.lookup b with
 | some o=>rw[gl q] at e;cases e;exact lF (g b o q)
 | none =>
  rw[cT q] at e
  refine(x b u e).stay (fun _ _ _ z=>z) (fun c z=>?_) fun c xs z=>?_
  ·rw[cT (k.out z)];exact z
  ·rw[cT (k.out z)];exact z
theorem Un.call (u:Un fs [] (moreC H l) H1 h h1) (k:Unk H l) (g:∀b o,l.lookup b=some o->h.get? b=some o) (x:HOk P w H1 h1):Un fs [] H (lessC H1 l) h h1:=by
 have kn1:KnC H1 l:=fun b o q=>u.frzs b o _ (gl q)
 have same:∀b o o',l.lookup b=some o->h.get? b=some o'->h1.get? b=some o':=fun b o o' q e=>by
  rw[g b o q] at e;cases e;exact iS x (kn1 b o q)
 refine⟨fun b o e n hb he=>?_,fun b o e n hb he=>?_,fun b o e n he=>?_,u.there,fun b xs e=>?_,fun b o v e=>?_,fun b ps e=>?_⟩
 ·cases q:l.lookup b with
  | some o'=>exact same b o' o q e
  | none=>exact u.keep b o e (by rw[cT q];exact n) hb he
 ·cases q:l.lookup b with
  | some o'=>exact⟨o.slots,same b o' o q e⟩
  | none=>exact u.slot b o e (by rw[cT q];exact n) hb he
 ·cases q:l.lookup b with
  | some o'=>exact gj q
  | none=>rw[cU q];exact u.free b o e (by rw[cT q];exact n) he
 ·have q:=k.out e
  rw[cU q];exact u.tups b xs (by rw[cT q];exact e)
 ·have q:=k.out e
  rw[cU q];exact u.frzs b o v (by rw[cT q];exact e)
 ·have q:=k.out e
  rw[cU q];exact u.tbls b ps (by rw[cT q];exact e)
theorem Un.lam (u:Un fs [] (lessC H l) H1 h h1) (k:KnC H l):Un fs [] H (moreC H1 l) h h1:=by
 refine⟨fun b o e n hb he=>?_,fun b o e n hb he=>?_,fun b o e n he=>?_,u.there,fun b xs e=>?_,fun b o v e=>?_,fun b ps e=>?_⟩
 ·exact u.keep b o e (by rw[cU (k.outN n)];exact n) hb he
 ·exact u.slot b o e (by rw[cU (k.outN n)];exact n) hb he
 ·rw[cT (k.outN n)];exact u.free b o e (by rw[cU (k.outN n)];exact n) he
 ·have q:=k.out e fun o q=>by cases q
  rw[cT q];exact u.tups b xs (by rw[cU q];exact e)
 ·cases q:l.lookup b with
  | some o'=>rw[gl q,<- k b o' q];exact e
  | none=>rw[cT q];exact u.frzs b o v (by rw[cU q];exact e)
 ·have q:=k.out e fun o q=>by cases q
  rw[cT q];exact u.tbls b ps (by rw[cU q];exact e)
end
def nV (CX:CXT) (P:Program) (w:World) (K:W.Frag) (mg:Str->Option Value) (base:Heap) (N:List Str) (qual:Str) (scope:Scope) (g:Addr) (cd:Value) (cl:List (Str × Addr)) (A:Around) (outer:List Env) (s:Shared) (H:Hp) (E':Value->Shared->Prop):Cx where
 prog:=P
 w:=w
 K:=K
 mg:=mg
 base:=base
 A:=A.deeper (W.envX qual scope s.heap.objs.size g cd cl)
 N:=N
 s₀:=s
 H₀:=H
 env:=W.envX qual scope s.heap.objs.size g cd cl
 outer:=outer
 stack:=W.envX qual scope s.heap.objs.size g cd cl::outer
 ex:=[]
 calm:=true
 fn:=fun _=>false
 pn:=[]
 xe:=E'
structure Clos (scope:Scope) (N:List Str) (cl:List (Str × Addr)) (l:List (Addr × Obj)) (vs:List V):Prop where
 len:vs.length=N.length
 inj:∀x y c,cl.lookup x=some c->cl.lookup y=some c->x=y
 has:∀x,scope.names.lookup x=some .free->∃c,cl.lookup x=some c
 cel:∀x c,cl.lookup x=some c->∃o v,l.lookup c=some o/\o.data=.cell v
 val:∀(i:Nat) (x:Str) (v:V),N[i]? = some x->vs[i]? = some v->scope.names.lookup x=some .free/\∃c o u,cl.lookup x=some c/\l.lookup c=some o/\o.data=.cell (some u)/\RelV v u
structure LamScope (scope:Scope):Prop where
 kind:scope.kind=.function
 co:scope.isCoroutine=false
 gen:scope.isGenerator=false
 nocell:∀x∈scope.names,x.2≠NameKind.cell
theorem qr {P:Program}{w:World}{H:Hp}{h h2:Heap}{fs:List Addr}{Pt c' g:Addr}{ps mo:Array Value}{oc fo:Obj}(x:HOk P w H h) (eP:H Pt=some (.tbl ps)) (k:∀b o, b ≠ Pt -> h.get? b=some o -> h2.get? b=some o)
    (hP:h2.get? Pt=some (W.tabObj (ps++mo))) (c1:h.objs.size<=c') (g1:h.objs.size<=g) (ne:c'≠g) (ec:h2.get? c'=some oc) (eg:h2.get? g=some fo) :
    Un fs [] H (upd (upd (upd H Pt (.tbl (ps++mo))) c' (knO oc)) g (knO fo)) h h2/\HOk P w (upd (upd (upd H Pt (.tbl (ps++mo))) c' (knO oc)) g (knO fo)) h2:=by
 have old:∀b,b<h.objs.size->b≠Pt->upd (upd (upd H Pt (.tbl (ps++mo))) c' (knO oc)) g (knO fo) b=H b:=fun b hb hn=>by
  rw[cm (am (ay hb g1)),cm (am (ay hb c1)),cm hn]
 have lP:Pt<h.objs.size:=x.lt eP
 have atP:upd (upd (upd H Pt (.tbl (ps++mo))) c' (knO oc)) g (knO fo) Pt=some (.tbl (ps++mo)):=by
  rw[cm (am (ay lP g1)),cm (am (ay lP c1)),cn]
 have nP:∀b,H b=none->b≠Pt:=fun b n z=>by rw[z,eP] at n;cases n
 have nPs:∀b u,H b=some u->u≠.tbl ps->b≠Pt:=fun b u e d z=>by rw[z,eP] at e;exact d (ae e).symm
 refine⟨⟨fun b o e n _ _=>k b o (nP b n) e,fun b o e n _ _=>⟨o.slots,k b o (nP b n) e⟩,fun b o e n _=>?_,fun b o e _=>?_,fun b xs e=>?_,fun b o u e=>?_,fun b qs e=>?_⟩,fun b u e=>?_⟩
 ·rw[old b (af e) (nP b n)];exact n
 ·by_cases hb:b=Pt
  ·subst hb;exact⟨_,hP⟩
  ·exact⟨o,k b o hb e⟩
 ·rw[old b (x.lt e) (nPs b _ e (by intro z;cases z))];exact e
 ·rw[old b (x.lt e) (nPs b _ e (by intro z;cases z))];exact e
 ·by_cases hb:b=Pt
  ·subst hb;rw[eP] at e;cases e;exact⟨mo,atP⟩
  ·exact⟨#[],by rw[old b (x.lt e) hb,e];simp⟩
 ·by_cases hg:b=g
  ·subst hg;rw[cn] at e;cases e;exact lF eg
  ·rw[cm hg] at e
   by_cases hc:b=c'
   ·subst hc;rw[cn] at e;cases e;exact lF ec
   ·rw[cm hc] at e
    by_cases hb:b=Pt
    ·subst hb;rw[cn] at e;cases e;exact hP
    ·rw[cm hb] at e
     refine(x b u e).stay (fun c v hcv z=>k c v ?_ z) (fun c z=>?_) fun c xs z=>?_
     ·rcases hcv with rfl | hcv
      ·exact hb
      ·exact nPs c _ hcv (by intro z;cases z)
     ·rw[old c (x.lt z) (nPs c _ z (by intro z;cases z))];exact z
     ·rw[old c (x.lt z) (nPs c _ z (by intro z;cases z))];exact z
def nL (qual:Str) (oc:Obj):Prop:=∃ws t,oc.data=.fields ws/\ws[1]? = some (.str qual t)
structure CTab (H:Hp) (Pt:Addr) (ps:Array Value) (pos:Pos) (qual:Str):Prop where
 tri:TriplesOk ps.toList
 at_:H Pt=some (.tbl ps)
 code:codeAmong pos ps.toList=none∨∃c' oc,codeAmong pos ps.toList=some (.ref c')/\H c'=some (knO oc)/\nL qual oc
def tLam (Pt:Addr) (pos:Pos) (qual:Str) (fo:Addr->Value->Obj):TE:=fun _ H Q=>∃ps,CTab H Pt ps pos qual /\
 ∀(H':Hp) (g c':Addr) (oc:Obj) (ctv:Value) (ps':Array Value),H g=none->H' g=some (knO (fo c' ctv))->H' c'=some (knO oc)->nL qual oc->H' Pt=some (.tbl ps')->TriplesOk ps'.toList->codeAmong pos ps'.toList=some (.ref c') ->
  (∀pos2:Pos,(pos2.line≠pos.line∨pos2.col≠pos.col)->codeAmong pos2 ps'.toList=codeAmong pos2 ps.toList)->(∀b u,b≠Pt->H b=some u->H' b=some u)->Q (.ref g) H'
theorem lC {pos2:Pos}{a b:Int}{c:Value}(hne:(a==(pos2.line:Int)&&b==(pos2.col:Int))=false):∀(l:List Value),TriplesOk l->codeAmong pos2 (l++[rawInt a,rawInt b,c])=codeAmong pos2 l:=by
 intro l
 induction l using TriplesOk.induct with
 | case1 =>
  intro _
  show codeAmong pos2 [Value.int a 0,Value.int b 0,c]=_
  rw[codeAmong.eq_1,hne]
  rfl
 | case2 i t j u head d7 ih =>
  intro h
  rw[TriplesOk.eq_2] at h
  show codeAmong pos2 (Value.int i t::Value.int j u::head::(d7++_))=_
  rw[codeAmong.eq_1,codeAmong.eq_1,ih h]
 | case3 l h1 h2 =>
  intro h
  rw[TriplesOk.eq_3 l h1 h2] at h
  exact h.elim
theorem uj {X:Cx}{params:Arguments}{body:Expr}{scope:Scope}{pos:Pos}{c Pt:Addr}{cl:List (Str × Addr)}{qual:Str}(hdf:defaultsOf params X.env=([], [])) (hcl:closureFor scope X.env=pure cl) (hc:X.env.code=.ref c)
    (hq:X.env.qual++Str.ofString "<lambda>"=qual) (hcd:∀h:Heap,X.K.In h->W.CodeHd h c Pt) (hbm:X.base.BuiltinsAt X.mg Pt) :
    PE X (.Lambda params body scope pos) (tLam Pt pos qual fun c' ctv=>W.kla_obj (Str.ofString "<lambda>") qual params body scope cl ((X.mg (Str.ofString "__name__")).getD .none) c' ctv):=by
 intro pins s σ H Q I ⟨ps,T,h⟩
 subst hq
 have hP:s.heap.get? Pt=some (W.tabObj ps):=I.hok Pt _ T.at_
 have hns:s.heap.Ns mainGlobals X.mg:=I.mod.glob.keeps I.bk
 have hbs:s.heap.BuiltinsAt X.mg Pt:=by
  obtain⟨bm,o,a1,a2,a3,a4,a5,a6⟩:=hbm
  exact⟨bm,o,a1,a2,a3,a4,I.bk bm o a5,a6⟩
 refine W.kla_eval hdf ?_
 rcases T.code with n | ⟨c',oc,n,kc,hn⟩
 ·have nm:mainGlobals ≠ Pt := fun z => by
     obtain⟨o,es,ep,e,d,_⟩:=I.mod.glob
     have:=(I.bs _ _ e).2
     rw[z,T.at_] at this;cases this
  refine W.kla_makeFunction hcl I.ok.glob hns hc (hcd _ I.kIn) hP T.tri n nm hbs fun c' ctv h' tk hx hge hlt hrec htb=>?_
  obtain⟨c2,oc,ws,t,e2,hoc,hdt,hw⟩:=hrec
  have e2:c'=c2:=by injection e2
  subst e2
  have zz:s.heap.objs.size<=h'.objs.size:=aO hge (bd hlt)
  obtain⟨un,ok⟩:=qr (fs:=X.fs) (h2:=h'.push (W.kla_obj (Str.ofString "<lambda>") (X.env.qual++Str.ofString "<lambda>") params body scope cl ((X.mg (Str.ofString "__name__")).getD .none) c' ctv)) (c':=c') (g:=h'.objs.size) I.hok T.at_ (fun b o nb e=>ah _ (hx b o nb e))
   (ah _ htb) hge zz (am hlt) (ah _ hoc) (ao _ rfl)
  have lP:Pt<s.heap.objs.size:=I.hok.lt T.at_
  refine⟨.ref h'.objs.size,_,I.un (t':=tk) un ok,rfl,?_⟩
  refine h _ h'.objs.size c' oc ctv _ (I.hok.fresh zz) cn (by rw[cm (am hlt),cn]) ⟨ws,t,hdt,hw⟩
   (by rw[cm (am (ay lP zz)),cm (am (ay lP hge)),cn]) ?_ ?_ (fun pos2 hne=>?_) fun b u nb e=>?_
  ·rw[bP];exact TriplesOk_snoc _ _ _ _ T.tri
  ·rw[bP];exact codeAmong_snoc _ T.tri n
  ·rw[bP]
   refine lC ?_ _ T.tri
   rcases hne with hne | hne
   ·have:((pos.line:Int)==(pos2.line:Int))=false:=by
       simp only[beq_eq_false_iff_ne,ne_eq];omega
    rw[this];rfl
   ·have:((pos.col:Int)==(pos2.col:Int))=false:=by
       simp only[beq_eq_false_iff_ne,ne_eq];omega
    rw[this,Bool.and_false]
  ·have lb:=I.hok.lt e
   rw[cm (am (ay lb zz)),cm (am (ay lb hge)),cm nb];exact e
 ·refine W.kla_makeFunctionHit hcl I.ok.glob hns hc (hcd _ I.kIn) hP T.tri n hbs fun ctv h' tk hx zz=>?_
  have J:=I.laid (a:=h'.objs.size) (t':=tk) (o:=knO (W.kla_obj (Str.ofString "<lambda>") (X.env.qual++Str.ofString "<lambda>") params body scope cl ((X.mg (Str.ofString "__name__")).getD .none) c' ctv)) (h':=h'.push (W.kla_obj (Str.ofString "<lambda>") (X.env.qual++Str.ofString "<lambda>") params body scope cl ((X.mg (Str.ofString "__name__")).getD .none) c' ctv)) (fun b o e=>ah _ (hx b o e)) zz (lF (ao _ rfl))
  refine⟨.ref h'.objs.size,_,J,rfl,?_⟩
  have fr:=I.hok.fresh zz
  exact h _ h'.objs.size c' oc ctv ps fr cn (by rw[cm (cq kc fr)];exact kc) hn (by rw[cm (cq T.at_ fr)];exact T.at_) T.tri n (fun _ _=>rfl) fun b u nb e=>by rw[cm (cq e fr)];exact e
def eC (sc:Scope) (env:Env):List (Str × Addr):=Classical.epsilon fun cl=>closureFor sc env=pure cl/\(∀x c,cl.lookup x=some c->env.cells.lookup x=some c)/\∀y∈sc.names,y.2=NameKind.free->∃c,cl.lookup y.1=some c
theorem m5 {sc:Scope}{env:Env}(hf:∀y∈sc.names,y.2=NameKind.free->∃c,env.cells.lookup y.1=some c) :
    closureFor sc env=pure (eC sc env)/\(∀x c,(eC sc env).lookup x=some c->env.cells.lookup x=some c)/\∀y∈sc.names,y.2=NameKind.free->∃c,(eC sc env).lookup y.1=some c:=Classical.epsilon_spec (kz hf)
def dJ (cl:List (Str × Addr)) (h:Heap):List (Addr × Obj):=cl.filterMap fun p=>match cl.lookup p.1 with
 | none=>none
 | some c=>match h.get? c with
  | none=>none
  | some o=>some (c,o)
theorem jf {cl:List (Str × Addr)}{h:Heap}{b:Addr}{o:Obj}(m:(b,o)∈dJ cl h):h.get? b=some o/\∃x,cl.lookup x=some b:=by
 obtain⟨⟨x,c0⟩,_,e⟩:=bR.mp m
 cases q:cl.lookup x with
 | none=>simp only[q] at e;cases e
 | some c =>
  simp only[q] at e
  cases r:h.get? c with
  | none=>simp only[r] at e;cases e
  | some u=>simp only[r] at e;cases e;exact⟨r,x,q⟩
theorem pZ:∀ {l:List (Addr × Obj)}{b:Addr}{o:Obj}, l.lookup b=some o -> (b, o) ∈ l
 | [],_,_,h=>by cases h
 | (c,u)::r,b,o,h=>by
  rw[aX] at h
  split at h
  ·rename_i q
   rw[LawfulBEq.eq_of_beq q,ae h];exact bC
  ·exact aI _ (pZ h)
theorem je {cl:List (Str × Addr)}{h:Heap}{b:Addr}{o:Obj}(m:(dJ cl h).lookup b=some o):h.get? b=some o/\∃x,cl.lookup x=some b:=jf (pZ m)
theorem nC {l:List (Addr × Obj)}{h:Heap}(a:∀b o, (b, o) ∈ l -> h.get? b=some o) {c:Addr}{o:Obj}(m:(c, o) ∈ l):l.lookup c=some o := by
 have is:(l.lookup c).isSome=true := by
  clear a
  induction l with
  | nil=>cases m
  | cons p r ih =>
   obtain⟨b,u⟩:=p
   rw[aX]
   split
   ·rfl
   ·rename_i q
    rcases aR.mp m with z | z
    ·cases z;simp at q
    ·exact ih z
 obtain⟨o',e⟩:=bJ.mp is
 have z:=a _ _ (pZ e)
 rw[a _ _ m] at z;cases z
 exact e
theorem jX {cl:List (Str × Addr)}{h:Heap}{x:Str}{c:Addr}{o:Obj}(e:cl.lookup x=some c) (g:h.get? c=some o):(dJ cl h).lookup c=some o:=by
 refine nC (fun b u m=>(jf m).1) ?_
 refine bR.mpr ⟨(x,c),PySem.mem_of_lookup e,?_⟩
 simp only[e,g]
theorem ow {P:Program}{w:World}{K:W.Frag}{mg mb:Str -> Option Value}{CX:CXT}{k:Nat}{fa a Pt c:Addr}{fd:FuncData}{x:Str}{sp:Sp}{s₁:Shared}{vs:List Value}{ns:List Int}
    (KX:K.In s₁.heap) (hns:s₁.heap.Ns mainGlobals mg) (hb:s₁.heap.Ns builtinsNs mb) (hbb:∀x:Str,x≠"__name__"->mb x=bootBuiltins x) (hlim:s₁.heap.NoLimit) (hg:s₁.gens=#[])
    (hbm:∃bm ob,mg (Str.ofString "__builtins__")=some (.ref bm)/\bm≠builtinsNs/\s₁.heap.get? bm=some ob/\ob.cls=.type "module"/\ob.dict=some builtinsNs/\ob.data=.plain)
    (hP:s₁.heap.get? Pt=some (W.tabObj #[])) (hKP:K.lookup Pt=none) (hC:W.CodeHd s₁.heap c Pt)
    (ha:s₁.heap.get? a=some { cls:=.type "list",data:=.seq vs.toArray }) (hi:IntsAre vs ns) (hl:ns.length<=sizeLine) (hr:Room k callerA)
    (F:∀base:Heap,K.In base->base.Ns mainGlobals mg->base.BuiltinsAt mg Pt->FnOk P w K mg base CX k fa fd [x] sp) (hbind:∀(s:Shared) (u:Value),BindsTo s fd ⟨[u],[]⟩ [(x,u)])
    (hsp:∀H:Hp,H Pt=some (.tbl #[])->SqL K H a (ns.map V.int)->sp [.ref a] H (fun v _=>v=.bl true) fun _ _ _=>False)
    (hCX:∀H e s',CX [] H s₁ (fun _ _ _=>False) e s'->False) :
    codeAny (model P w) callerA (.call (.ref fa) ⟨[.ref a],[]⟩) (fun r s'=>r=.ok (.ret (.bool true))/\OldK s₁.heap s'.heap/\s'.os=s₁.os/\AllBare s'.gens) s₁:=by
 have rv:=lr hi
 have lenV:=hi.length
 have aP:a≠Pt:=fun z=>by
  rw[z,hP] at ha
  have:=congrArg Obj.cls (ae ha)
  cases this
 have core:∀H:Hp, H Pt=some (.tbl #[]) -> (∀b, b ≠ Pt -> H b=none ∨ ∃o xs, H b=some (.frz o (.lst xs))) -> SqL K H a (ns.map V.int) -> HOk P w H s₁.heap -> (∀b, H b ≠ none -> b=a ∨ b=Pt) -> (H a ≠ none -> K.lookup a=none) ->
     codeAny (model P w) callerA (.call (.ref fa) ⟨[.ref a],[]⟩) (fun r s'=>r=.ok (.ret (.bool true))/\OldK s₁.heap s'.heap/\s'.os=s₁.os/\AllBare s'.gens) s₁:=by
  intro H hT hO hS hok hA hK
  have base_of:∀ {b:Addr} {o:Obj},s₁.heap.get? b=some o->H b=none->(gR s₁.heap H).get? b=some o:=fun e n=>qq e n
  have noB:∀ {b:Addr} {o:Obj}, s₁.heap.get? b=some o -> (∀xs n, o.data ≠ .seq xs n) -> (∀fs, o.data ≠ .fields fs) -> H b=none := fun {b o} e d1 d2 => by
   cases q:H b with
   | none=>rfl
   | some u =>
    rcases hA b (by rw[q];simp) with e' | e'
    ·subst e'
     rw[ha] at e;cases e
     exact absurd rfl (d1 _ _)
    ·subst e'
     rw[hP] at e;cases e
     exact absurd rfl (d2 _)
  have nsK:∀ {b:Addr} {m:Str->Option Value},s₁.heap.Ns b m->(gR s₁.heap H).Ns b m:=fun {b m} ⟨o,es,ep,e,d,r⟩=>⟨o,es,ep,base_of e (noB e (fun _ _ z=>by rw[d] at z;cases z) fun _ z=>by rw[d] at z;cases z),d,r⟩
  have hKb:K.In (gR s₁.heap H) := fun b o e => base_of (KX b o e) (by
   cases q:H b with
   | none=>rfl
   | some u =>
    rcases hA b (by rw[q];simp) with e' | e'
    ·subst e'
     rw[hK (by rw[q];simp)] at e;cases e
    ·subst e'
     rw[hKP] at e;cases e)
  have hM:Mod K mg (gR s₁.heap H):=⟨hKb,nsK hns,⟨mb,nsK hb,hbb⟩,let ⟨mc,h1,h2⟩:=hlim;⟨mc,nsK h1,h2⟩⟩
  have hBm:(gR s₁.heap H).BuiltinsAt mg Pt:=by
   obtain⟨bm,ob,b1,b2,b3,b4,b5,b6⟩:=hbm
   refine⟨bm,ob,b1,b2,fun z=>?_,fun z=>?_,base_of b3 (noB b3 (fun _ _ z=>by rw[b6] at z;cases z) fun _ z=>by rw[b6] at z;cases z),b4,b5,b6⟩
   ·obtain⟨o,es,ep,e,d,_⟩:=hns
    rw[<- z,b3] at e;cases e
    rw[b6] at d;cases d
   ·rw[z,hP] at b3;cases b3;cases b4
  have e0:Env0 P w K mg (gR s₁.heap H) callerA [] s₁ H:=⟨rfl,hM,fun b o e=>sy e,Nat.le_of_eq (ph _ _),trivial,fun b hb=>absurd (show b∈([]:List Addr) from hb) (by simp),hok,.of_eq hg⟩
  refine codeAny_mono ((F _ hKb (nsK hns) hBm).run callerA [] s₁ H ⟨[.ref a],[]⟩ [.ref a] [.ref a] _ _ hr e0 (hbind s₁ (.ref a)) (.cons rfl .nil) (hsp H hT hS)) fun r s' h=>?_
  cases r with
  | error e=>exact(hCX H e s' h).elim
  | ok fl =>
   cases fl with
   | next=>exact False.elim h
   | brk=>exact False.elim h
   | cont=>exact False.elim h
   | ret u =>
    obtain⟨v,H',os,bare,un,hok',r',q⟩:=h
    have q':v=.bl true:=q
    subst q'
    obtain rfl:u=Value.bool true:=r'
    obtain⟨mo,hT'⟩:=un.tbls Pt _ hT
    have eT:s'.heap.get? Pt=some { cls:=.none,data:=.fields (#[]++mo) }:=hok' Pt _ hT'
    have keep:∀b o, b ≠ Pt -> s₁.heap.get? b=some o -> s'.heap.get? b=some o := fun b o nb e => by
     cases q:H b with
     | none=>exact un.keep b o e q (by intro z;exact absurd (show b∈([]:List Addr) from z) (by simp)) (by simp)
     | some u =>
      rcases hO b nb with z | ⟨ob,xs,z⟩
      ·rw[q] at z;cases z
      ·have z2:=un.frzs b ob _ z
       obtain⟨e1,_⟩:=hok b _ z
       obtain⟨e2,_⟩:=hok' b _ z2
       rw[e] at e1;cases e1
       exact e2
    refine⟨rfl,⟨fun b o e=>?_,fun b o e=>?_⟩,os,bare⟩
    ·by_cases hb:b=Pt
     ·subst hb
      rw[hP] at e;cases e
      refine .inr (.inl ⟨?_,rfl,#[],mo,rfl,eT⟩)
      obtain⟨o,ws,_,_,_,_,_,_,_,c1,c2,c3,c4,_⟩:=hC
      exact⟨c,o,ws,c1,c2,c3,c4⟩
     ·exact .inl (keep b o hb e)
    ·by_cases hb:b=Pt
     ·subst hb;exact⟨_,eT⟩
     ·exact⟨o,keep b o hb e⟩
 have okP:∀(H:Hp),ObjOk P w H s₁.heap Pt (.tbl #[]):=fun H=>hP
 cases hk:K.lookup a with
 | some o =>
  have e:=KX a o hk
  rw[ha] at e
  cases e
  refine core (upd (fun _=>none) Pt (.tbl #[])) cn (fun b nb=>.inl (cm nb)) (.inr ⟨_,vs.toArray,_,hk,rfl,rfl,rfl,by rw[aD,lenV];exact hl,by simpa using rv⟩) (fun b u z=>?_) (fun b z=>?_) fun z=>absurd (cm aP) z
  ·by_cases hb:b=Pt
   ·subst hb;rw[cn] at z;cases z;exact okP _
   ·rw[cm hb] at z;cases z
  ·by_cases hb:b=Pt
   ·exact .inr hb
   ·exact absurd (cm hb) z
 | none =>
  refine core (upd (upd (fun _=>none) a (.frz { cls:=.type "list",data:=.seq vs.toArray } (.lst (ns.map V.int)))) Pt (.tbl #[])) cn (fun b nb=>?_) (.inl (.inr ⟨{ cls:=.type "list",data:=.seq vs.toArray },by rw[cm aP,cn]⟩)) (fun b u z=>?_) (fun b z=>?_) fun _=>hk
  ·rw[cm nb]
   by_cases hb:b=a
   ·subst hb;exact .inr ⟨_,_,cn⟩
   ·exact .inl (cm hb)
  ·by_cases hb:b=Pt
   ·subst hb;rw[cn] at z;cases z;exact okP _
   ·rw[cm hb] at z
    by_cases hb:b=a
    ·subst hb
     rw[cn] at z
     cases z
     exact⟨ha,by rw[ab];exact hl,vs,_,rv,ha⟩
    ·rw[cm hb] at z;cases z
  ·by_cases hb:b=Pt
   ·exact .inr hb
   ·by_cases hc:b=a
    ·exact .inl hc
    ·exact absurd (by rw[cm hb,cm hc]) z
theorem Fun.okC {P:Program}{w:World}{K:W.Frag}{mg:Str -> Option Value}{base:Heap}{x qual:Str}{st:Stmt}{f:Addr}{fd:FuncData}{N ps:List Str}{k:Nat}{sp:Sp}{cv:Value}(F:Fun K x qual st f fd) (hc:fd.code=cv) (S:FnScope N ps (ck st)) (len:∀vs H Q E, sp vs H Q E -> vs.length=ps.length)
    (hbody:∀(A:Around) (outer:List Env) (s:Shared) (H:Hp) (vs:List V) (Q:VK) (E:XK),Room k (A.deeper (envOfC qual (ck st) s.heap.objs.size f cv))->sp vs H Q E ->
     ∃t,PSs (js CX0 P w K mg base N qual (ck st) f cv A outer s H E).nox (cD st) t/\t { nx:=fun _ H'=>Q .non H',rt:=Q } (start N vs) H):FnOk P w K mg base CX0 (k+1) f fd ps sp:=by
 obtain⟨oc,od,kV,doc,pm,an,cdv,ct,osl,rfl,lk,hcd⟩:=F.ex
 have hc:cdv=cv:=hc
 subst hc
 refine rO lk hcd S len fun A outer s H vs Q E hr hsp=>?_
 obtain⟨t,h,q⟩:=hbody A outer s H vs Q E hr hsp
 exact⟨t,h.nox,q⟩
theorem kF {H:Hp}{l:List (Addr × Obj)}{b:Addr}{u:HO}(k:Unk H l) (e:H b=some u):moreC H l b=some u:=by rw[cT (k.out e)];exact e
theorem tu {H:Hp}{l:List (Addr × Obj)}:KnC (moreC H l) l:=fun _ _ q=>gl q
def cor (H:Hp):Hp:=fun b=>match H b with
 | some (.lst xs)=>some (.lst xs)
 | some (.tup xs)=>some (.tup xs)
 | _=>none
theorem tD {H:Hp}{b:Addr}{xs:List V}(e:H b=some (.lst xs)):cor H b=some (.lst xs):=by unfold cor;rw[e]
theorem sU {H:Hp}{b:Addr}{xs:List V}(e:H b=some (.tup xs)):cor H b=some (.tup xs):=by unfold cor;rw[e]
theorem uO {H:Hp}{b:Addr}{u:HO}(e:cor H b=some u):H b=some u/\((∃xs,u=.lst xs)∨∃xs,u=.tup xs):=by
 unfold cor at e
 split at e
 ·rename_i xs q;cases e;exact⟨q,.inl ⟨xs,rfl⟩⟩
 ·rename_i xs q;cases e;exact⟨q,.inr ⟨xs,rfl⟩⟩
 ·cases e
mutual
theorem Rep.cor {H:Hp}:∀ {v:V}{d:PyData},Rep H v d->Rep (cor H) v d
 | _,_,.non=>.non
 | _,_,.bl b=>.bl b
 | _,_,.int i=>.int i
 | _,_,.str x=>.str x
 | _,_,.lst e rs=>.lst (tD e) rs.cor
 | _,_,.tup e rs=>.tup (sU e) rs.cor
theorem RepAll.cor {H:Hp}:∀ {vs:List V}{ds:List PyData},RepAll H vs ds->RepAll (cor H) vs ds
 | _,_,.nil=>.nil
 | _,_,.cons q qs=>.cons q.cor qs.cor
end
theorem si {H H':Hp}{Pt:Addr}{ps:Array Value}(t:H Pt=some (.tbl ps)) (s:∀b u,b≠Pt->H b=some u->H' b=some u):Same (cor H) H':=fun b u e=>by
 obtain⟨e,w⟩:=uO e
 refine s b u (fun z=>?_) e
 rw[z,t] at e
 cases e
 rcases w with⟨xs,z⟩ | ⟨xs,z⟩
 ·cases z
 ·cases z
theorem CTab.same {H H':Hp}{Pt:Addr}{ps:Array Value}{pos:Pos}{qual:Str}(h:CTab H Pt ps pos qual) (s:Same H H'):CTab H' Pt ps pos qual :=
 ⟨h.tri,s _ _ h.at_,h.code.imp id fun ⟨c,oc,h1,h2,h3⟩=>⟨c,oc,h1,s _ _ h2,h3⟩⟩
theorem CTab.made {H H':Hp}{Pt c':Addr}{ps ps':Array Value}{pos:Pos}{qual:Str}{oc:Obj}(h1:H' Pt=some (.tbl ps')) (h2:TriplesOk ps'.toList) (h3:codeAmong pos ps'.toList=some (.ref c')) (h4:H' c'=some (knO oc)) (h5:nL qual oc):CTab H' Pt ps' pos qual :=
 ⟨h2,h1,.inr ⟨c',oc,h3,h4,h5⟩⟩
section
variable {X:Cx}{σ:St}{H:Hp}
def nX (X:Cx) (σ:St) (H:Hp) (xs:List V) (kf:Nat->Int) (q:Addr):Prop:=∀(i:Nat) (x:V) (u:Value) (pl:List (Addr × Obj)) (s:Shared),xs[i]? = some x->RelV x u->Inv X pl σ H s ->
 wpAny (model X.prog X.w) X.A.in1 (call (.ref q) [u]) (fun u' s'=>∃t,u'=.int (kf i) t/\Inv X pl σ H s') (fun _ _=>False) s
theorem Inv.repin {pins:List (Addr × Obj)}{s:Shared}{S:Addr}{o:Obj}(I:Inv X pins σ H s) (f:dB X pins H S) (e:s.heap.get? S=some o) (d:∀v,o.data≠.cell v):Inv X (pins++[(S,o)]) σ H s :=
 I.pins_of fun p hp=>(ar.mp hp).elim (fun z=>I.pin p (au _ z)) fun z=>by
  rw[aQ.mp z]
  exact⟨e,f.1,f.2.1,f.2.2.1,d⟩
theorem ka {pins:List (Addr × Obj)}{S b:Addr}{o:Obj}(f:dB X pins H b) (n:S≠b):dB X (pins++[(S,o)]) H b:=by
 obtain⟨f0,f1,f2,f3,f4,f5⟩:=f
 refine⟨f0,f1,f2,f3,f4,fun p hp=>?_⟩
 rcases ar.mp hp with hp | hp
 ·exact f5 p (List.mem_append_left _ hp)
 ·rcases ar.mp hp with hp | hp
  ·exact f5 p (au _ hp)
  ·rw[aQ.mp hp];exact n
theorem pI {pins:List (Addr × Obj)}{nm:Str}{tp:Pos}{J:It}{fp:List Addr}{it:Addr}{tn:Nat -> Heap -> Prop}(T:Turn X.prog X.w X.K (.Name nm tp) J fp it tn) (hc:X.calm=true) (xs:List V) (kf:Nat -> Int) (q S:Addr) (key:nX X σ H xs kf q)
    (go:∀i,i<xs.length->J.go i H/\∀x H1,J.yld i H x H1->H1=H/\xs[i]? = some x) (stop:J.stop xs.length H) (hfp:∀b∈fp,dB X pins H b) (hS:dB X pins H S) (nS:∀b∈fp,S≠b) {R:Result->Shared->Prop}
    (hR:∀i x u s',xs[i]? = some x->RelV x u->(∀j,j<xs.length->kf j<=kf i/\(j<i->kf j<kf i))->Inv X pins σ H s'->R (.ok (.ret u)) s') :
    ∀(r j i:Nat) (s:Shared) (xb:V) (vb:Value) (tb:Tok) (c:Nat),xs.length-(j+1)=r->j+1<=xs.length->Inv X (pins++[(S,seqObj "list" #[vb,.int (kf i) tb] c)]) σ H s->tn (j+1) s.heap->xs[i]? = some xb->RelV xb vb->i<=j->(∀j',j'<=j->kf j'<=kf i/\(j'<i->kf j'<kf i)) ->
     codeAny (model X.prog X.w) X.A (.builtin "max.loop" ⟨[.ref it,.ref q,.ref S],[]⟩) R s:=by
 have hname:(toString "max"++toString ".loop":String)="max.loop":=by decide
 intro r
 induction r with
 | zero =>
  intro j i s xb vb tb c hr hj I ht hxb rb hij hbest
  have hin:j+1=xs.length:=by omega
  have gS:s.heap.get? S=some (seqObj "list" #[vb,.int (kf i) tb] c):=(I.pin _ (au _ (au _ (.head _)))).1
  refine codeAny_builtin PySem.F.entry_max_loop ?_
  rw[Around.under_plainId PySem.F.plain_max_loop _]
  show wpAny _ X.A.in1 (seqItems? (.ref S) >>= _) _ _ _
  refine aa (aH gS rfl ?_)
  show wpAny _ X.A.in1 (tryCatch (pyNext (.ref it)) _ >>= _) _ _ _
  refine aa (wpAny_tryCatch (aS (T.done { X with A:=X.A.in1 } rfl rfl rfl hc (j+1) _ s σ H _ (I.atA _ rfl rfl) (fun b hb=>ka (hfp b hb) (nS b hb)) ht (by rw[hin];exact stop)) (fun r s1 ⟨e,I1⟩=>?_) fun _ _ z=>z))
  subst e
  replace I1:=Inv.ofA I.ok I1
  have gS1:s1.heap.get? S=some (seqObj "list" #[vb,.int (kf i) tb] c):=(I1.pin _ (au _ (au _ (.head _)))).1
  have sb:=Heap.SameBut.update s1.heap S (Obj.mapSeq fun _=>(#[]:Array Value))
  show wpAny _ X.A.in1 (updateSeq S (fun _=>#[]) >>= _) _ _ _
  refine aa ?_
  refine wpAny_updateSeq gS1 rfl (aa (wpAny_letGo (ad ?_)))
  obtain⟨f0,f1,f2,f3,f4,f5⟩:=hS
  exact hR i xb vb _ hxb rb (fun j' hj'=>hbest j' (by omega)) (I1.unpinned.turned (it:=S) (fun b o nb e=>(sb.2 b nb).trans e) f0 f1 f3 f4 f5)
 | succ r ih =>
  intro j i s xb vb tb c hr hj I ht hxb rb hij hbest
  have hlt:j+1<xs.length:=by omega
  obtain⟨hg,hy⟩:=go (j+1) hlt
  have gS:s.heap.get? S=some (seqObj "list" #[vb,.int (kf i) tb] c):=(I.pin _ (au _ (au _ (.head _)))).1
  refine codeAny_builtin PySem.F.entry_max_loop ?_
  rw[Around.under_plainId PySem.F.plain_max_loop _]
  show wpAny _ X.A.in1 (seqItems? (.ref S) >>= _) _ _ _
  refine aa (aH gS rfl ?_)
  show wpAny _ X.A.in1 (tryCatch (pyNext (.ref it)) _ >>= _) _ _ _
  have hfp':∀b∈fp,dB X (pins++[(S,seqObj "list" #[vb,.int (kf i) tb] c)]) H b:=fun b hb=>ka (hfp b hb) (nS b hb)
  refine aa (wpAny_tryCatch (aS (iE (T.item { X with A:=X.A.in1 } rfl rfl rfl hc (j+1) _ s σ H _ (I.atA _ rfl rfl) hfp' ht hg)) (fun r s1 ⟨u,e,x,H1,I1,rx,yl,t1,fn⟩=>?_) fun _ _ z=>z))
  subst e
  replace I1:=Inv.ofA I.ok I1
  obtain⟨e1,hx⟩:=hy x H1 yl
  subst e1
  have I1p:=I1.pinned hfp' (T.obj _ _ t1)
  show wpAny _ X.A.in1 (tryCatch (holding [u] (call (.ref q) [u])) _ >>= _) _ _ _
  refine aa (wpAny_tryCatch (aG (aS (key (j+1) x u _ s1 hx rx I1p) (fun x' s2 he=>?_) fun _ _ hF=>hF.elim)))
  obtain⟨t2,rfl,I2p⟩:=he
  have I2:=I2p.unpinned
  have t2n:tn (j+1+1) s2.heap:=T.keep _ _ _ t1 fun b hb o eo=>(I2p.pin (b,o) (au _ (au _ (eX hb eo)))).1
  have gS2:s2.heap.get? S=some (seqObj "list" #[vb,.int (kf i) tb] c):=(I2.pin _ (au _ (au _ (.head _)))).1
  show wpAny _ X.A.in1 (tryCatch (holding [u,.int (kf (j+1)) t2] (richCompare .Gt (.int (kf (j+1)) t2) (.int (kf i) tb) >>= _)) _ >>= _) _ _ _
  refine aa (wpAny_tryCatch (aG (aa (CmpOf.ints_gt (prog:=X.prog) (w:=X.w) (A:=X.A.in1) (P:=fun i v=>∃t,v=.int (kf i) t) kf (fun i v h=>h) (j+1) i _ _ _ _ _ ⟨t2,rfl⟩ ⟨tb,rfl⟩ ?_))))
  refine aa (aG (wpAny_truthy_bool ?_))
  refine aa (wpAny_letGo (ad ?_))
  by_cases hb':kf (j+1) > kf i
  ·have sb:=Heap.SameBut.update s2.heap S (Obj.mapSeq fun _=>#[u,.int (kf (j+1)) t2])
   obtain⟨c2,hc2⟩:∃c2,(s2.heap.update S (Obj.mapSeq fun _=>#[u,.int (kf (j+1)) t2])).get? S=some (seqObj "list" #[u,.int (kf (j+1)) t2] c2):=⟨_,get?_update_seq gS2 fun _=>#[u,.int (kf (j+1)) t2]⟩
   simp only[hb',decide_true,if_true]
   refine aa ?_
   refine wpAny_updateSeq gS2 rfl (aa (wpAny_letGo ?_))
   rw[hname]
   have hS':=hS
   obtain⟨f0,f1,f2,f3,f4,f5⟩:=hS'
   have I3:=I2.unpinned.turned (it:=S) (t':=s2.toks) (fun b o nb e=>(sb.2 b nb).trans e) f0 f1 f3 f4 f5
   have t3:=T.keep _ _ _ t2n fun b hb o eo=>(sb.2 b (Ne.symm (nS b hb))).trans eo
   refine ad ⟨plainId_quiet PySem.F.plain_max_loop _,ih (j+1) (j+1) _ x u t2 c2 (by omega) hlt (I3.repin hS hc2 (by intro v z;cases z)) t3 hx rx (ac _) fun j' hj'=>?_⟩
   by_cases e:j'=j+1
   ·subst e
    exact⟨Int.le_refl _,fun h=>absurd h (bi _)⟩
   ·have hb1:=(hbest j' (by omega)).1
    exact⟨by omega,fun _=>by omega⟩
  ·simp only[hb',decide_false,bt,if_false]
   refine aa (wpAny_letGo ?_)
   rw[hname]
   refine ad ⟨plainId_quiet PySem.F.plain_max_loop _,ih (j+1) i _ xb vb tb c (by omega) hlt I2 t2n hxb rb (by omega) fun j' hj'=>?_⟩
   by_cases e:j'=j+1
   ·subst e
    exact⟨by omega,fun h=>by omega⟩
   ·exact hbest j' (by omega)
theorem mV {pins:List (Addr × Obj)}{nm:Str}{tp:Pos}{J:It}{fp:List Addr}{it:Addr}{tn:Nat->Heap->Prop}(T:Turn X.prog X.w X.K (.Name nm tp) J fp it tn) (hc:X.calm=true) (xs:List V) (kf:Nat->Int) (q S:Addr) (key:nX X σ H xs kf q)
    (go:∀i,i<xs.length->J.go i H/\∀x H1,J.yld i H x H1->H1=H/\xs[i]? = some x) (stop:J.stop xs.length H) (hfp:∀b∈fp,dB X pins H b) (hS:dB X pins H S) (nS:∀b∈fp,S≠b) (hne:0<xs.length) {R:Result->Shared->Prop}
    (hR:∀i x u s',xs[i]? = some x->RelV x u->(∀j,j<xs.length->kf j<=kf i/\(j<i->kf j<kf i))->Inv X pins σ H s'->R (.ok (.ret u)) s')
    (s:Shared) (I:Inv X (pins++[(S,seqObj "list" #[] 0)]) σ H s) (ht:tn 0 s.heap):codeAny (model X.prog X.w) X.A (.builtin "max.loop" ⟨[.ref it,.ref q,.ref S],[]⟩) R s:=by
 have hname:(toString "max"++toString ".loop":String)="max.loop":=by decide
 obtain⟨hg,hy⟩:=go 0 hne
 have gS:s.heap.get? S=some (seqObj "list" #[] 0):=(I.pin _ (au _ (au _ (.head _)))).1
 refine codeAny_builtin PySem.F.entry_max_loop ?_
 rw[Around.under_plainId PySem.F.plain_max_loop _]
 show wpAny _ X.A.in1 (seqItems? (.ref S) >>= _) _ _ _
 refine aa (aH gS rfl ?_)
 show wpAny _ X.A.in1 (tryCatch (pyNext (.ref it)) _ >>= _) _ _ _
 have hfp':∀b∈fp,dB X (pins++[(S,seqObj "list" #[] 0)]) H b:=fun b hb=>ka (hfp b hb) (nS b hb)
 refine aa (wpAny_tryCatch (aS (iE (T.item { X with A:=X.A.in1 } rfl rfl rfl hc 0 _ s σ H _ (I.atA _ rfl rfl) hfp' ht hg)) (fun r s1 ⟨u,e,x,H1,I1,rx,yl,t1,fn⟩=>?_) fun _ _ z=>z))
 subst e
 replace I1:=Inv.ofA I.ok I1
 obtain⟨e1,hx⟩:=hy x H1 yl
 subst e1
 have I1p:=I1.pinned hfp' (T.obj _ _ t1)
 show wpAny _ X.A.in1 (tryCatch (holding [u] (call (.ref q) [u])) _ >>= _) _ _ _
 refine aa (wpAny_tryCatch (aG (aS (key 0 x u _ s1 hx rx I1p) (fun x' s2 he=>?_) fun _ _ hF=>hF.elim)))
 obtain⟨t2,rfl,I2p⟩:=he
 have I2:=I2p.unpinned
 have t2n:tn (0+1) s2.heap:=T.keep _ _ _ t1 fun b hb o eo=>(I2p.pin (b,o) (au _ (au _ (eX hb eo)))).1
 have gS2:s2.heap.get? S=some (seqObj "list" #[] 0):=(I2.pin _ (au _ (au _ (.head _)))).1
 have sb:=Heap.SameBut.update s2.heap S (Obj.mapSeq fun _=>#[u,.int (kf 0) t2])
 obtain⟨c2,hc2⟩:∃c2,(s2.heap.update S (Obj.mapSeq fun _=>#[u,.int (kf 0) t2])).get? S=some (seqObj "list" #[u,.int (kf 0) t2] c2):=⟨_,get?_update_seq gS2 fun _=>#[u,.int (kf 0) t2]⟩
 show wpAny _ X.A.in1 (updateSeq S (fun _=>#[u,.int (kf 0) t2]) >>= _) _ _ _
 refine aa ?_
 refine wpAny_updateSeq gS2 rfl ?_
 rw[hname]
 have hS':=hS
 obtain⟨f0,f1,f2,f3,f4,f5⟩:=hS'
 have I3:=I2.unpinned.turned (it:=S) (t':=s2.toks) (fun b o nb e=>(sb.2 b nb).trans e) f0 f1 f3 f4 f5
 have t3:=T.keep _ _ _ t2n fun b hb o eo=>(sb.2 b (Ne.symm (nS b hb))).trans eo
 refine ad ⟨plainId_quiet PySem.F.plain_max_loop _,pI T hc xs kf q S key go stop hfp hS nS hR _ 0 0 _ x u t2 c2 rfl hne (I3.repin hS hc2 (by intro v z;cases z)) t3 hx rx (ac _) fun j' hj'=>?_⟩
 have e:j'=0:=by omega
 subst e
 exact⟨Int.le_refl _,fun h=>absurd h (bi _)⟩
theorem pP {pins:List (Addr × Obj)}{s:Shared}{a:Addr}{xs:List V}{kf:Nat -> Int}{q:Addr}{Q:Value -> Shared -> Prop}{E:Value -> Shared -> Prop}(hc:X.calm=true) (I:Inv X pins σ H s) (hq:SqL X.K H a xs ∨ SqT X.K H a xs) (hne:0<xs.length) (key:nX X σ H xs kf q)
    (hQ:∀i x u s',xs[i]? = some x->RelV x u->(∀j,j<xs.length->kf j<=kf i/\(j<i->kf j<kf i))->Inv X pins σ H s'->Q u s') :
    wpAny (model X.prog X.w) X.A (call (.builtin "max") [.ref a] [(Str.ofString "key",.ref q)]) Q E s:=by
 have hname:(toString "max"++toString ".loop":String)="max.loop":=by decide
 refine kmk_tree PySem.F.kind_max PySem.F.plain_max PySem.F.entry_max (kmk_max_key _ _) ?_
 show wpAny _ X.A.in1 (Builtin.Builtins.bindParams "max" ["key","default"] 0 ⟨[],[(Str.ofString "key",.ref q)]⟩ >>= _) _ _ s
 refine aa (wpAny_of_eq (show Builtin.Builtins.bindParams "max" ["key","default"] 0 ⟨[],[(Str.ofString "key",.ref q)]⟩=pure [some (.ref q),none] from rfl) ?_)
 refine aa (ad ?_)
 rcases hq with hq | hq
 ·obtain⟨its,rv,pl,hz⟩:=I.list hq
  refine aa (wpAny_pyIter_list pl.isList ?_)
  refine aa (wpAny_newList ?_ (aL _))
  rw[hname]
  refine ad ⟨plainId_quiet PySem.F.plain_max_loop _,?_⟩
  have hS:(s.heap.push { cls:=.type "list_iterator",data:=.fields #[.ref a,.int 0 0] }).objs.size=s.heap.objs.size+1:=size_push' ..
  have J1:Inv X pins σ H { s with heap:=(s.heap.push { cls:=.type "list_iterator",data:=.fields #[.ref a,.int 0 0] }).push (seqObj "list" #[] 0) }:=I.kept (t':=s.toks) fun b o e=>ah _ (ah _ e)
  have fI:dB X pins H s.heap.objs.size:=I.fpOk (ac _) (I.hok.fresh (ac _))
  have fS:dB X pins H (s.heap.push { cls:=.type "list_iterator",data:=.fields #[.ref a,.int 0 0] }).objs.size:=I.fpOk (by rw[hS];exact Nat.le_succ _) (I.hok.fresh (by rw[hS];exact Nat.le_succ _))
  refine mV (nm:="x") (tp:=default) (kX a s.heap.objs.size) hc xs kf q (s.heap.push { cls:=.type "list_iterator",data:=.fields #[.ref a,.int 0 0] }).objs.size key (fun i hi=>⟨⟨xs,xs[i],hq,ap hi⟩,fun x H1 y=>⟨y.1,y.2 xs hq⟩⟩) ⟨xs,hq,ac _⟩
   (fun b hb=>by rw[aQ.mp hb];exact fI) fS (fun b hb=>by rw[aQ.mp hb,hS];exact Nat.succ_ne_self _) hne (fun i x u s' h1 h2 h3 h4=>hQ i x u s' h1 h2 h3 h4) _ (J1.repin fS (ao _ rfl) (by intro v z;cases z)) ⟨_,ah _ (ao _ rfl),rfl,rfl⟩
 ·obtain⟨its,rv,pl,hz⟩:=I.tuple hq
  refine aa (bw (show s.heap.IsTuple a its.toArray from pl) ?_)
  refine aa (wpAny_newList ?_ (aL _))
  rw[hname]
  refine ad ⟨plainId_quiet PySem.F.plain_max_loop _,?_⟩
  have hS:(s.heap.push { cls:=.type "tuple_iterator",data:=.fields #[.ref a,.int 0 0] }).objs.size=s.heap.objs.size+1:=size_push' ..
  have J1:Inv X pins σ H { s with heap:=(s.heap.push { cls:=.type "tuple_iterator",data:=.fields #[.ref a,.int 0 0] }).push (seqObj "list" #[] 0) }:=I.kept (t':=s.toks) fun b o e=>ah _ (ah _ e)
  have fI:dB X pins H s.heap.objs.size:=I.fpOk (ac _) (I.hok.fresh (ac _))
  have fS:dB X pins H (s.heap.push { cls:=.type "tuple_iterator",data:=.fields #[.ref a,.int 0 0] }).objs.size:=I.fpOk (by rw[hS];exact Nat.le_succ _) (I.hok.fresh (by rw[hS];exact Nat.le_succ _))
  refine mV (nm:="x") (tp:=default) (jQ a s.heap.objs.size) hc xs kf q (s.heap.push { cls:=.type "tuple_iterator",data:=.fields #[.ref a,.int 0 0] }).objs.size key (fun i hi=>⟨⟨xs,xs[i],hq,ap hi⟩,fun x H1 y=>⟨y.1,y.2 xs hq⟩⟩) ⟨xs,hq,ac _⟩
   (fun b hb=>by rw[aQ.mp hb];exact fI) fS (fun b hb=>by rw[aQ.mp hb,hS];exact Nat.succ_ne_self _) hne (fun i x u s' h1 h2 h3 h4=>hQ i x u s' h1 h2 h3 h4) _ (J1.repin fS (ao _ rfl) (by intro v z;cases z)) ⟨_,ah _ (ao _ rfl),rfl,rfl⟩
end
end L2
namespace L2
open PySem PySem.Spec PyProof.Rows
abbrev Sp1:=V->Hp->VK->XK->Prop
structure LamOk1 (P:Program) (w:World) (K:W.Frag) (mg:Str->Option Value) (base:Heap) (CX:CXT) (k:Nat) (g:Addr) (sp:Sp1):Prop where
 run:∀(A:Around) (outer:List Env) (s:Shared) (H:Hp) (v:V) (u:Value) (Q:VK) (E:XK),Room k A->Env0 P w K mg base A outer s H->RelV v u->sp v H Q E ->
  codeAny (model P w) A (.call (.ref g) ⟨[u],[]⟩) (CR CX outer P w H s Q E) s
theorem qi {CX:CXT}{P:Program}{w:World}{K:W.Frag}{mg:Str -> Option Value}{base:Heap}{N:List Str}{qual:Str}{scope:Scope}{g:Addr}{cd:Value}{cl:List (Str × Addr)}{A:Around}{outer:List Env}{s s1:Shared}{H:Hp}{E':Value -> Shared -> Prop}{l:List (Addr × Obj)}{vs:List V}{m:Str -> Option Value}{x:Str}{v:V}{u:Value}
    (S:LamScope scope) (C:Clos scope N cl l vs) (k:KnC H l) (hd:A.handled=none) (e0:Env0 P w K mg base A outer s H)
    (hn:s1.heap.Ns s.heap.objs.size m) (hk:∀b o,s.heap.get? b=some o->s1.heap.get? b=some o) (ho:s1.os=s.os) (hg:s1.gens=s.gens) (hx:scope.names.lookup x=some .local) (hm:m x=some u) (r:RelV v u) :
    Inv (nV CX P w K mg base (x::N) qual scope g cd cl A outer s (lessC H l) E') [] (some v::vs.map some) (lessC H l) s1:=by
 have noA:∀b:Addr,b∉(nV CX P w K mg base (x::N) qual scope g cd cl A outer s (lessC H l) E').ex:=fun b z=>absurd (show b∈([]:List Addr) from z) (by simp)
 have less0:∀b,H b=none->lessC H l b=none:=fun b z=>by rw[cU (k.outN z)];exact z
 have cell1:∀c o,l.lookup c=some o->s1.heap.get? c=some o:=fun c o z=>hk c o (iS e0.hok (k c o z))
 refine⟨⟨e0.mod,S.kind,rfl,rfl,ac _,C.inj,fun y hy=>?_,fun y c h=>(by cases h),fun _=>hd,Around.frames_deeper e0.frames,.inr ⟨rfl,rfl⟩,fun b z=>absurd z (noA b),fun b o e=>⟨(e0.bs b o e).1,less0 b (e0.bs b o e).2⟩,e0.bsz,fun b _ _=>noA b,fun b z=>absurd z (noA b),e0.funs,fun b hb=>less0 b (e0.frf b hb)⟩,
  ho,by rw[hg];exact e0.bare,Un.kept hk,⟨m,hn,fun i y v' h1 h2 h3=>?_⟩,fun y c h=>?_,?_,fun y c h=>?_,fun p hp=>absurd (show p∈([]:List (Addr × Obj)) from hp) (by simp),(e0.hok.lessC k).kept hk,?_⟩
 ·have hy:scope.names.lookup y=some .cell∨scope.names.lookup y=some .free:=hy
  rcases hy with hy | hy
  ·exact absurd rfl (S.nocell _ (PySem.mem_of_lookup hy))
  ·exact C.has y hy
 ·cases i with
  | zero =>
   have e1:x=y:=ae h1
   have e2:v=v':=ae (ae h2)
   subst e1 e2
   exact⟨u,r,.inl ⟨hx,hm⟩⟩
  | succ i =>
   have h1:N[i]? = some y:=h1
   have h2:(vs.map some)[i]? = some (some v'):=h2
   have h2':vs[i]? = some v':=by
    rw[ag] at h2
    cases e:vs[i]? with
    | none=>rw[e] at h2;cases h2
    | some a=>rw[e] at h2;cases h2;rfl
   obtain⟨kf,c,o,u,hc,hl,hdt,r⟩:=C.val i y v' h1 h2'
   exact⟨u,r,.inr ⟨.inr kf,c,hc,o,cell1 c o hl,hdt⟩⟩
 ·obtain⟨o,v,hl,hdt⟩:=C.cel y c h
  exact⟨v,o,cell1 c o hl,hdt⟩
 ·exact less0 _ (e0.hok.fresh (ac _))
 ·obtain⟨o,v,hl,_⟩:=C.cel y c h
  exact gj hl
 ·show (vs.map some).length+1=N.length+1
  rw[ab,C.len]
theorem sw {CX:CXT}{P:Program}{w:World}{K:W.Frag}{mg:Str -> Option Value}{base:Heap}{k:Nat}{g c':Addr}{name qual x:Str}{params:Arguments}{body:Expr}{scope:Scope}{cl:List (Str × Addr)}{pm ctv:Value}{oc:Obj}{N:List Str}{l:List (Addr × Obj)}{vs:List V}{sp:Sp1}
    (S:LamScope scope) (C:Clos scope N cl l vs) (hoc:∃ws t,oc.data=.fields ws/\ws[1]? = some (.str qual t)) (hx:scope.names.lookup x=some .local)
    (hb:∀u,bindArgs (W.kla_fn name qual params body scope cl pm (.ref c') ctv) ⟨[u],[]⟩=pure [(x,u)])
    (hH:∀v H Q E,sp v H Q E->H g=some (knO (W.kla_obj name qual params body scope cl pm c' ctv))/\H c'=some (knO oc)/\KnC H l)
    (hx':∀(A:Around) (outer:List Env) (s:Shared) (H:Hp) (E:XK) (e:Value) (s':Shared),CX outer (lessC H l) s E e s'->CX outer H s E e s')
    (hbody:∀(A:Around) (outer:List Env) (s:Shared) (v:V) (H:Hp) (Q:VK) (E:XK),Room k (A.deeper (W.envX qual scope s.heap.objs.size g (.ref c') cl))->sp v H Q E ->
     ∃t,PE (nV CX P w K mg base (x::N) qual scope g (.ref c') cl A outer s (lessC H l) (fun e s'=>wpAny (model P w) (A.deeper (W.envX qual scope s.heap.objs.size g (.ref c') cl)) (leaving (W.envX qual scope s.heap.objs.size g (.ref c') cl) e) (fun _ s''=>CX outer (lessC H l) s E e s'') (fun e' s''=>CX outer (lessC H l) s E e' s'') s')) body t /\
      t (some v::vs.map some) (lessC H l) fun v H'=>Unk H' l->Q v (moreC H' l)) :
    LamOk1 P w K mg base CX (k+1) g sp:=by
 refine⟨fun A outer s H v u Q E hr e0 ru hsp=>?_⟩
 obtain⟨hg,hc,hl⟩:=hH v H Q E hsp
 have lim:s.heap.NoLimit:=e0.mod.nolimit.keeps fun b o e=>(e0.bs b o e).1
 obtain⟨ws,t0,w1,w2⟩:=hoc
 refine W.kla_callFunE hr.depth (iS e0.hok hg) rfl S.co S.gen rfl ⟨c',oc,ws,t0,rfl,iS e0.hok hc,w1,w2⟩ ?_
 rw[hb u]
 refine ad (wpAny_newFunctionEnv S.nocell (fun y z=>by rw[aQ.mp z];exact hx) (fun h' ns sb=>?_) S.kind)
 have hk:∀b o,s.heap.get? b=some o->h'.get? b=some o:=fun b o e=>by
  rw[sb.2 b (am (af e))];exact ah _ e
 refine⟨lim.keeps hk,W.kla_codeExpr ?_⟩
 obtain⟨t,ht,hq⟩:=hbody A outer s v H Q E (hr.deeper _) hsp
 have hm:(fun y=>([(x,u)]:List (Str × Value)).reverse.lookup y) x=some u:=by simp
 have I:=qi (CX:=CX) (N:=N) (qual:=qual) (g:=g) (cd:=.ref c') (s1:={ s with heap:=h',toks:=s.toks+[(x,u)].length }) (E':=fun e s'=>wpAny (model P w) (A.deeper (W.envX qual scope s.heap.objs.size g (.ref c') cl)) (leaving (W.envX qual scope s.heap.objs.size g (.ref c') cl) e) (fun _ s''=>CX outer (lessC H l) s E e s'') (fun e' s''=>CX outer (lessC H l) s E e' s'') s') S C hl hr.hd e0 ns hk rfl rfl hx hm ru
 refine aS (ht [] _ _ _ _ I hq) (fun u s' hs=>?_) fun e s' hs=>?_
 ·obtain⟨v,H',J,rv,q⟩:=hs
  have un:=J.base
  have unk:Unk H' l:=fun b o z=>un.free b o (iS e0.hok (hl b o z)) (gj z) (fun q=>absurd (show b∈([]:List Addr) from q) (by simp))
  refine⟨v,moreC H' l,J.os,J.bare,Un.lam un hl,?_,rv,q unk⟩
  refine J.hok.moreC unk fun b o z=>?_
  refine un.keep b o (iS e0.hok (hl b o z)) (gj z) (fun hb=>?_) (fun q=>absurd (show b∈([]:List Addr) from q) (by simp))
  have:=e0.frf b hb
  rw[hl b o z] at this;cases this
 ·refine aS hs (fun _ s'' z=>hx' A outer s H E e s'' z) fun e' s'' z=>hx' A outer s H E e' s'' z
theorem se {X:Cx}{σ:St}{H:Hp}{k:Nat}{g:Addr}{xs:List V}{kf:Nat -> Int}{sc:Scope}{N:List Str}{is:List Nat}{ws:List V}{sp:List (Addr × Obj) -> Sp1}(hr:Room (k+1) X.A)
    (hf:∀y∈sc.names,y.2=NameKind.free->∃c,X.env.cells.lookup y.1=some c) (hfn:∀y,X.fn y=true)
    (hN:∀(j:Nat) (y:Str),N[j]? = some y->sc.names.lookup y=some .free/\X.env.kindOf y=some .cell/\∃i,is[j]? = some i/\X.N[i]? = some y)
    (wl:ws.length=N.length) (wσ:∀(j i:Nat) (v:V),is[j]? = some i->ws[j]? = some v->σ[i]? = some (some v))
    (F:∀l,Clos sc N (eC sc X.env) l ws->LamOk1 X.prog X.w X.K X.mg X.base CX0 k g (sp l))
    (hsp:∀l,Clos sc N (eC sc X.env) l ws->Unk H l->∀i x,xs[i]? = some x->sp l x (moreC H l) (fun v H'=>v=.int (kf i)/\H'=moreC H l) E0):nX X σ H xs kf g:=by
 intro i x u pl s hx rx I
 obtain⟨_,cl1,cl2⟩:=m5 hf
 have ge:∀b o,(dJ (eC sc X.env) s.heap).lookup b=some o->s.heap.get? b=some o:=fun b o z=>(je z).1
 have cel:∀b o,(dJ (eC sc X.env) s.heap).lookup b=some o->∃y,X.env.cells.lookup y=some b:=fun b o z=>let ⟨_,y,z2⟩:=je z;⟨y,cl1 y b z2⟩
 have unk:Unk H (dJ (eC sc X.env) s.heap):=fun b o z=>let ⟨y,z2⟩:=cel b o z;I.freeC y b z2
 have big:∀b o,(dJ (eC sc X.env) s.heap).lookup b=some o->X.s₀.heap.objs.size<=b:=fun b o z=>let ⟨y,z2⟩:=cel b o z;I.ok.cab y b (hfn y) z2
 have C:Clos sc N (eC sc X.env) (dJ (eC sc X.env) s.heap) ws := by
  refine⟨wl,fun x y c h1 h2=>I.ok.inj x y c (cl1 x c h1) (cl1 y c h2),fun y hy=>cl2 _ (PySem.mem_of_lookup hy) rfl,fun y c hc=>?_,fun j y v h1 h2=>?_⟩
  ·obtain⟨v,o,ho,hd⟩:=I.cell y c (cl1 y c hc)
   exact⟨o,v,jX hc ho,hd⟩
  ·obtain⟨kf,kc,i,hi,hXi⟩:=hN j y h1
   obtain⟨m,_,hl⟩:=I.loc
   obtain⟨u,ru,l⟩:=hl i y v hXi (wσ j i v hi h2) (.inr (.inl kc))
   obtain⟨c2,hc2⟩:=cl2 _ (PySem.mem_of_lookup kf) rfl
   rcases l with⟨l1,_⟩ | ⟨_,c,hc,o,ho,hd⟩
   ·rw[kc] at l1;cases l1
   ·have z:=cl1 _ _ hc2
    have z':c=c2:=ae (hc.symm.trans z)
    rw[z'] at ho
    exact⟨kf,c2,o,u,hc2,jX hc2 ho,hd,ru⟩
 have out:∀b,(∀o,(dJ (eC sc X.env) s.heap).lookup b≠some o)->H b=none->moreC H (dJ (eC sc X.env) s.heap) b=none:=fun b nb hb=>by
  cases z:(dJ (eC sc X.env) s.heap).lookup b with
  | some o=>exact absurd z (nb o)
  | none=>rw[cT z];exact hb
 have e0:=I.env0
 have e1:Env0 X.prog X.w X.K X.mg X.base X.A X.stack s (moreC H (dJ (eC sc X.env) s.heap)) := by
  refine⟨e0.frames,e0.mod,fun b o eb=>⟨(e0.bs b o eb).1,out b (fun u z=>?_) (e0.bs b o eb).2⟩,e0.bsz,e0.funs,fun b hb=>out b (fun u z=>?_) (e0.frf b hb),e0.hok.moreC unk ge,e0.bare⟩
  ·exact absurd (ay (ay (af eb) I.ok.bsz) (big b u z)) (bi _)
  ·rcases aR.mp (I.stkSub b hb) with zz | zz
   ·obtain⟨y,z2⟩:=cel b u z
    exact I.cne y b z2 zz
   ·obtain⟨_,o,ho,_⟩:=I.ok.funs.mem zz
    exact absurd (ay (af ho) (big b u z)) (bi _)
 refine wpAny_call (codeAny_mono ((F _ C).run X.A.in1 X.stack s _ x u _ E0 hr.in1 e1.in1 rx (hsp _ C unk i x hx)) fun r s' hq=>?_)
 cases r with
 | error e=>exact hq
 | ok fl =>
  cases fl with
  | ret u' =>
   obtain⟨v,H2,os,bare,un,hok,rv,rfl,rfl⟩:=hq
   have kn2:KnC (moreC H (dJ (eC sc X.env) s.heap)) (dJ (eC sc X.env) s.heap):=fun b o z=>gl z
   obtain⟨v2,H3,J,r2,e2,e3⟩:=I.after (Q:=fun v H'=>v=.int (kf i)/\H'=H) ⟨.int (kf i),_,os,bare,Un.call un unk ge hok,hok.lessC kn2,rv,rfl,pH unk⟩
   subst e2 e3
   obtain⟨t,rfl⟩:=r2
   exact⟨t,rfl,J⟩
  | next=>exact False.elim hq
  | brk=>exact False.elim hq
  | cont=>exact False.elim hq
theorem jd {M:Model}{A:Around}{E:Value->Shared->Prop}{s:Shared}{pos:Pos}{id:String}{first:List Value}{args:List (Bool × Sem Value)}{kws:List (Option Str × Sem Value)}{Q:Value->Shared->Prop}(hplain:(args.any (·.1)||kws.any (·.1.isNone))=false)
    (h:wpAny M A (evalArgs (.builtin id) true args kws) (fun a s₁=>wpAny M A (call (.builtin id) (first++a.pos) a.kw) Q E s₁) E s):wpAny M A (callWith pos (.builtin id) first args kws) Q E s:=by
 unfold callWith
 refine aa (aG (aS h (fun a s₁ h₁=>aa (wpAny_standAt ?_)) fun _ _ x=>x))
 simp only[hplain]
 refine aa (ad ?_)
 exact aa (aS h₁ (fun r s₂ hr=>aa (aG (wpAny_point (ad hr)))) fun _ _ x=>x)
def nT (X:Cx) (k:Nat) (sc:Scope) (N:List Str) (is:List Nat) (σ:St) (Q:VK) (x f:V) (H2:Hp):Prop:=∃(a g:Addr) (xs:List V) (kf:Nat->Int) (ws:List V) (sp:List (Addr × Obj)->Sp1),x=.ref a/\f=.ref g/\(SqL X.K H2 a xs∨SqT X.K H2 a xs)/\0<xs.length/\ws.length=N.length/\(∀(j i:Nat) (v:V),is[j]? = some i->ws[j]? = some v->σ[i]? = some (some v)) /\
 (∀l,Clos sc N (eC sc X.env) l ws->LamOk1 X.prog X.w X.K X.mg X.base CX0 k g (sp l))/\(∀l,Clos sc N (eC sc X.env) l ws->Unk H2 l->∀i x,xs[i]? = some x->sp l x (moreC H2 l) (fun v H'=>v=.int (kf i)/\H'=moreC H2 l) E0) /\
 ∀i x,xs[i]? = some x->(∀j,j<xs.length->kf j<=kf i/\(j<i->kf j<kf i))->Q x H2
def vD (X:Cx) (k:Nat) (sc:Scope) (N:List Str) (is:List Nat) (te tl:TE):TE:=fun σ H Q=>te σ H fun x H1=>tl σ H1 fun f H2=>nT X k sc N is σ Q x f H2
theorem sF {X:Cx}{k:Nat}{sc:Scope}{N:List Str}{is:List Nat}{e f:Expr}{te tl:TE}{p pos kpos:Pos}(hc:X.calm=true) (hr:Room (k+1) X.A) (B:Blt X.mg)
    (hf:∀y∈sc.names,y.2=NameKind.free->∃c,X.env.cells.lookup y.1=some c) (hfn:∀y,X.fn y=true)
    (hN:∀(j:Nat) (y:Str),N[j]? = some y->sc.names.lookup y=some .free/\X.env.kindOf y=some .cell/\∃i,is[j]? = some i/\X.N[i]? = some y)
    (ha:PE X e te) (hl:PE X f tl) (hg:Gl X "max":=by rfl) (hall:(backToKw pos (keywordEach [⟨some "key",f,kpos⟩] X.env)).all (·.1.isSome)=true:=by rfl)
    (hks:(backToKw pos (keywordEach [⟨some "key",f,kpos⟩] X.env)).filterMap (·.1)=[Str.ofString "key"]:=by rfl) (he:starEach [e] X.env=(false,eval e X.env)::starEach [] X.env:=by rfl)
    (hpl:((backTo pos (starEach [e] X.env)).any (·.1)||(backToKw pos (keywordEach [⟨some "key",f,kpos⟩] X.env)).any (·.1.isNone))=false:=by rfl) :
    PE X (.Call (.Name "max" p) [e] [⟨some "key",f,kpos⟩] pos) (vD X k sc N is te tl):=by
 intro pins s σ H Q I h
 refine bI (eI I hg B.max (show bootBuiltins "max"=some (.builtin "max") by decide +kernel) ?_ (by decide) (by decide))
 have A1:PA X [e] (lE te ma):=ce ha cf he
 have K1:PK X [⟨some "key",f,kpos⟩] (lE tl ma):=sP hl vk
 refine jd hpl (evalArgs_kw2 hall (thn (A1 pos pins s σ H (fun vs H1=>match vs with | [x]=>tl σ H1 (fun f H2=>nT X k sc N is σ Q x f H2) | _=>False) I h) fun us s1 ⟨vs,H1,I1,r1,q1⟩=>?_) he)
 rcases vs with _ | ⟨x,_ | ⟨y,r⟩⟩
 ·exact q1.elim
 ·refine thn (K1 pos pins s1 σ H1 (fun zs H2=>match zs with | [f]=>nT X k sc N is σ Q x f H2 | _=>False) I1 q1) fun ks s2 ⟨zs,H2,I2,rz,q2⟩=>?_
  rcases zs with _ | ⟨f',_ | ⟨y,r⟩⟩
  ·exact q2.elim
  ·obtain⟨a,g,xs,kf,ws,sp,rfl,rfl,hq,hne,wl,wσ,F,hsp,q⟩:=q2
   obtain⟨u1,rfl,ru⟩:=dR r1
   obtain⟨u2,rfl,ru2⟩:=dR rz
   cases ru
   cases ru2
   rw[hks]
   exact pP hc I2 hq hne (se hr hf hfn hN wl wσ F hsp) fun i x u s' h1 h2 h3 J=>⟨x,H2,J,h2,q i x h1 h3⟩
  ·exact q2.elim
 ·exact q1.elim
section
variable {prog:Program}{w:World}{A:Around}{E:Value->Shared->Prop}{s:Shared}
theorem pc {z TI TO i1 i2 l1 l2:Addr}{k1 k2:Nat}{f0:Value}{f1:Bool}{xs ys:Array Value}{x y a b:Value}{Q:Value -> Shared -> Prop}(D:ZipApart z TI TO i1 i2 l1 l2) (hf:F0 f0)
    (hz:Zp s.heap z TI TO f0 f1) (hTI:IsPair s.heap TI (.ref i1) (.ref i2)) (hTO:IsPair s.heap TO a b)
    (h1:s.heap.IsTupleIter i1 l1 k1) (h2:s.heap.IsTupleIter i2 l2 k2) (hl1:s.heap.IsTuple l1 xs) (hl2:s.heap.IsTuple l2 ys) (hx:xs[k1]? = some x) (hy:ys[k2]? = some y)
    (hQ:∀h' f0' f1',F0 f0'->Zp h' z TI TO f0' f1'->(∃a b,IsPair h' TO a b)->h'.IsTupleIter i1 l1 (k1+1)->h'.IsTupleIter i2 l2 (k2+1)->IsPair h' s.heap.objs.size x y ->
     (∀c o,c≠z->c≠TO->c≠i1->c≠i2->s.heap.get? c=some o->h'.get? c=some o)->Q (.ref s.heap.objs.size) { s with heap:=h' }) :
    wpAny (model prog w) A (Builtin.«zip.__next__» ⟨[.ref z],[]⟩) (fun fin s'=>∃v,fin=.done (.ret v)/\Q v s') E s:=by
 show wpAny _ _ (field (.ref z) 2 >>= _) _ _ _
 refine aa (az hz rfl (x:=.bool false) rfl ?_)
 show wpAny _ _ (field (.ref z) 3 >>= _) _ _ _
 refine aa (az hz rfl (x:=.ref TI) rfl (aa (aH hTI rfl ?_)))
 refine aa (gv hf hz fun own f1' g0 hz0 sb0=>?_)
 have sz0:g0.objs.size=s.heap.objs.size:=sb0.1
 cases own with
 | true =>
  simp only[if_true]
  refine aa (wpAny_rule ?_)
  refine aa (az (s:={ s with heap:=g0 }) hz0 rfl (x:=.ref TO) rfl ?_)
  refine aa (aM (s:={ s with heap:=g0 }) hz0 (by simp) fun g1 hz1 sb1=>?_)
  replace hz1:Zp g1 z TI TO .ellipsis f1':=hz1
  refine aa ?_
  simp only[bM,bN,aY,bc]
  refine aa (aa (wpAny_onRaise ?_))
  show wpAny _ _ (Builtin.SmallTypes.nextOf (.ref i1) >>= _) _ _ _
  have up1:∀c o,c≠z->s.heap.get? c=some o->g1.get? c=some o:=fun c o n e=>sb1.extBut _ _ n (sb0.extBut _ _ n e)
  refine aa (dq (h1.at fun o e=>up1 _ o D.i1z e) (hl1.at fun o e=>up1 _ o D.l1z e) hx fun g2 j1 sb2=>ad ?_)
  have hTO2:IsPair g2 TO a b:=sb2.extBut _ _ D.TOi1 (up1 _ _ D.TOz hTO)
  refine aa (aH hTO2 rfl (aa (wpAny_updateSeq_pair hTO2 fun g3 hTO3 sb3=>?_)))
  replace hTO3:IsPair g3 TO x b:=hTO3
  refine aa (wpAny_letGo (ad (aa (aa (wpAny_onRaise ?_)))))
  show wpAny _ _ (Builtin.SmallTypes.nextOf (.ref i2) >>= _) _ _ _
  have up3:∀c o,c≠z->c≠i1->c≠TO->s.heap.get? c=some o->g3.get? c=some o:=fun c o n1 n2 n3 e=>sb3.extBut _ _ n3 (sb2.extBut _ _ n2 (up1 _ _ n1 e))
  refine aa (dq (h2.at fun o e=>up3 _ o D.i2z D.i12.symm D.TOi2.symm e) (hl2.at fun o e=>up3 _ o D.l2z D.l2i1 D.l2TO e) hy fun g4 j2 sb4=>ad ?_)
  have hTO4:IsPair g4 TO x b:=sb4.extBut _ _ D.TOi2 hTO3
  refine aa (aH hTO4 rfl (aa (wpAny_updateSeq_pair hTO4 fun g5 hTO5 sb5=>?_)))
  replace hTO5:IsPair g5 TO x y:=hTO5
  refine aa (wpAny_letGo (ad (ad ?_)))
  refine aa (aH hTO5 rfl (aa (wpAny_newTuple ?_)))
  have hsz:g5.objs.size=s.heap.objs.size:=by rw[sb5.1,sb4.1,sb3.1,sb2.1,sb1.1,sz0]
  have hz5:Zp g5 z TI TO .ellipsis f1':=sb5.extBut _ _ D.TOz.symm (sb4.extBut _ _ D.i2z.symm (sb3.extBut _ _ D.TOz.symm (sb2.extBut _ _ D.i1z.symm hz1)))
  have j15:g5.IsTupleIter i1 l1 (k1+1):=j1.at fun o e=>sb5.extBut _ _ D.TOi1.symm (sb4.extBut _ _ D.i12 (sb3.extBut _ _ D.TOi1.symm e))
  have j25:g5.IsTupleIter i2 l2 (k2+1):=j2.at fun o e=>sb5.extBut _ _ D.TOi2.symm e
  have hk5:∀c o,c≠z->c≠TO->c≠i1->c≠i2->s.heap.get? c=some o->g5.get? c=some o:=fun c o c1 c2 c3 c4 e=>sb5.extBut _ _ c2 (sb4.extBut _ _ c4 (up3 _ _ c1 c3 c2 e))
  have hzlt:z<g5.objs.size:=af hz5
  show wpAny _ _ (Builtin.SmallTypes.ownedTupleHandOut (.ref z) (.ref g5.objs.size) >>= _) _ _ _
  refine aa ?_
  unfold Builtin.SmallTypes.ownedTupleHandOut
  have hz6:Zp (g5.push { cls:=.type "tuple",data:=.seq #[x,y] }) z TI TO .ellipsis f1':=ah _ hz5
  refine aa (aM hz6 (by simp) fun g7 hz7 sb7=>?_)
  replace hz7:Zp g7 z TI TO (rawInt g5.objs.size) f1':=hz7
  refine aM hz7 (by simp) fun g8 hz8 sb8=>?_
  replace hz8:Zp g8 z TI TO (rawInt g5.objs.size) false:=hz8
  have up:∀c o,c≠z->g5.get? c=some o->g8.get? c=some o:=fun c o c1 e=>sb8.extBut _ _ c1 (sb7.extBut _ _ c1 (ah _ e))
  have hT8:IsPair g8 g5.objs.size x y:=sb8.extBut _ _ (br hzlt) (sb7.extBut _ _ (br hzlt) (ao _ rfl))
  refine ad ⟨_,rfl,?_⟩
  show Q (.ref g5.objs.size) _
  rw[hsz] at hz8 hT8 ⊢
  exact hQ g8 _ _ (.inr ⟨_,rfl⟩) hz8 ⟨x,y,up _ _ D.TOz hTO5⟩ (j15.at fun o e=>up _ o D.i1z e) (j25.at fun o e=>up _ o D.i2z e) hT8 fun c o c1 c2 c3 c4 e=>up c o c1 (hk5 c o c1 c2 c3 c4 e)
 | false =>
  simp only[bt,if_false]
  refine aa ?_
  rw[<- bO]
  simp only[aY,bc]
  refine aa (aa (aG ?_))
  show wpAny _ _ (Builtin.SmallTypes.nextOf (.ref i1) >>= _) _ _ _
  have up1:∀c o,c≠z->s.heap.get? c=some o->g0.get? c=some o:=fun c o n e=>sb0.extBut _ _ n e
  refine aa (dq (s:={ s with heap:=g0 }) (h1.at fun o e=>up1 _ o D.i1z e) (hl1.at fun o e=>up1 _ o D.l1z e) hx fun g2 j1 sb2=>ad ?_)
  replace sb2:Heap.SameBut i1 g0 g2:=sb2
  refine ad (aa (aa (aG ?_)))
  show wpAny _ _ (Builtin.SmallTypes.nextOf (.ref i2) >>= _) _ _ _
  have up2:∀c o,c≠z->c≠i1->s.heap.get? c=some o->g2.get? c=some o:=fun c o n1 n2 e=>sb2.extBut _ _ n2 (up1 _ _ n1 e)
  refine aa (dq (h2.at fun o e=>up2 _ o D.i2z D.i12.symm e) (hl2.at fun o e=>up2 _ o D.l2z D.l2i1 e) hy fun g4 j2 sb4=>ad ?_)
  replace sb4:Heap.SameBut i2 g2 g4:=sb4
  refine ad (ad ?_)
  show wpAny _ _ (newTuple [x,y] >>= _) _ _ _
  refine aa (wpAny_newTuple (ad ⟨_,rfl,?_⟩))
  have hsz:g4.objs.size=s.heap.objs.size:=by rw[sb4.1,sb2.1,sz0]
  show Q (.ref g4.objs.size) _
  have pu:∀c o,g4.get? c=some o->(g4.push { cls:=.type "tuple",data:=.seq #[x,y] }).get? c=some o:=fun c o e=>ah _ e
  have hT8:IsPair (g4.push { cls:=.type "tuple",data:=.seq #[x,y] }) g4.objs.size x y:=ao _ rfl
  rw[hsz] at hT8 ⊢
  exact hQ _ _ _ hf (pu _ _ (sb4.extBut _ _ D.i2z.symm (sb2.extBut _ _ D.i1z.symm hz0))) ⟨a,b,pu _ _ (sb4.extBut _ _ D.TOi2 (up2 _ _ D.TOz D.TOi1 hTO))⟩ (j1.at fun o e=>pu _ o (sb4.extBut _ _ D.i12 e)) (j2.at fun o e=>pu _ o e) hT8 fun c o c1 c2 c3 c4 e=>pu _ _ (sb4.extBut _ _ c4 (up2 _ _ c1 c3 e))
theorem qR {z TI TO i1 i2 l1 l2:Addr}{k1 k2:Nat}{f0:Value}{f1:Bool}{xs ys:Array Value}{a b:Value}{Q:Fin -> Shared -> Prop}(hh:A.handled=none) (D:ZipApart z TI TO i1 i2 l1 l2) (hf:F0 f0)
    (hz:Zp s.heap z TI TO f0 f1) (hTI:IsPair s.heap TI (.ref i1) (.ref i2)) (hTO:IsPair s.heap TO a b)
    (h1:s.heap.IsTupleIter i1 l1 k1) (h2:s.heap.IsTupleIter i2 l2 k2) (hl1:s.heap.IsTuple l1 xs) (hl2:s.heap.IsTuple l2 ys) (hend:xs[k1]? = none∨ys[k2]? = none)
    (hE:∀h' e,(∀c o,c≠z->c≠TO->c≠i1->c≠i2->s.heap.get? c=some o->h'.get? c=some o)->(∃o,h'.get? e=some o/\o.cls=.type "StopIteration")->E (.ref e) { s with heap:=h' }) :
    wpAny (model prog w) A (Builtin.«zip.__next__» ⟨[.ref z],[]⟩) Q E s:=by
 show wpAny _ _ (field (.ref z) 2 >>= _) _ _ _
 refine aa (az hz rfl (x:=.bool false) rfl ?_)
 show wpAny _ _ (field (.ref z) 3 >>= _) _ _ _
 refine aa (az hz rfl (x:=.ref TI) rfl (aa (aH hTI rfl ?_)))
 refine aa (gv hf hz fun own f1' g0 hz0 sb0=>?_)
 cases own with
 | true =>
  simp only[if_true]
  refine aa (wpAny_rule ?_)
  refine aa (az (s:={ s with heap:=g0 }) hz0 rfl (x:=.ref TO) rfl ?_)
  refine aa (aM (s:={ s with heap:=g0 }) hz0 (by simp) fun g1 hz1 sb1=>?_)
  replace hz1:Zp g1 z TI TO .ellipsis f1':=hz1
  refine aa ?_
  simp only[bM,bN,aY,bc]
  refine aa (aa (wpAny_onRaise ?_))
  show wpAny _ _ (Builtin.SmallTypes.nextOf (.ref i1) >>= _) _ _ _
  have up1:∀c o,c≠z->s.heap.get? c=some o->g1.get? c=some o:=fun c o n e=>sb1.extBut _ _ n (sb0.extBut _ _ n e)
  cases hx:xs[k1]? with
  | none =>
   refine aa (er hh (h1.at fun o e=>up1 _ o D.i1z e) (hl1.at fun o e=>up1 _ o D.l1z e) hx fun g2 e sb2 he=>?_)
   obtain⟨oe,hoe,hce⟩:=he
   have hz2:Zp g2 z TI TO .ellipsis f1':=sb2 _ _ D.i1z.symm hz1
   have hez:e≠z:=fun q=>by subst q;rw[hz2] at hoe;cases hoe;simp at hce
   exact aM hz2 (by simp) fun g3 _ sb3=>hE g3 e (fun c o c1 _ c3 _ q=>sb3.extBut _ _ c1 (sb2 _ _ c3 (up1 _ _ c1 q))) ⟨oe,sb3.extBut _ _ hez hoe,hce⟩
  | some x =>
   have hy:ys[k2]? = none:=by rcases hend with q | q;rw[hx] at q;cases q;exact q
   refine aa (dq (h1.at fun o e=>up1 _ o D.i1z e) (hl1.at fun o e=>up1 _ o D.l1z e) hx fun g2 j1 sb2=>ad ?_)
   have hTO2:IsPair g2 TO a b:=sb2.extBut _ _ D.TOi1 (up1 _ _ D.TOz hTO)
   refine aa (aH hTO2 rfl (aa (wpAny_updateSeq_pair hTO2 fun g3 hTO3 sb3=>?_)))
   refine aa (wpAny_letGo (ad (aa (aa (wpAny_onRaise ?_)))))
   show wpAny _ _ (Builtin.SmallTypes.nextOf (.ref i2) >>= _) _ _ _
   have up3:∀c o,c≠z->c≠i1->c≠TO->s.heap.get? c=some o->g3.get? c=some o:=fun c o n1 n2 n3 e=>sb3.extBut _ _ n3 (sb2.extBut _ _ n2 (up1 _ _ n1 e))
   refine aa (er hh (h2.at fun o e=>up3 _ o D.i2z D.i12.symm D.TOi2.symm e) (hl2.at fun o e=>up3 _ o D.l2z D.l2i1 D.l2TO e) hy fun g4 e sb4 he=>?_)
   obtain⟨oe,hoe,hce⟩:=he
   have hz4:Zp g4 z TI TO .ellipsis f1':=sb4 _ _ D.i2z.symm (sb3.extBut _ _ D.TOz.symm (sb2.extBut _ _ D.i1z.symm hz1))
   have hez:e≠z:=fun q=>by subst q;rw[hz4] at hoe;cases hoe;simp at hce
   exact aM hz4 (by simp) fun g5 _ sb5=>hE g5 e (fun c o c1 c2 c3 c4 q=>sb5.extBut _ _ c1 (sb4 _ _ c4 (up3 _ _ c1 c3 c2 q))) ⟨oe,sb5.extBut _ _ hez hoe,hce⟩
 | false =>
  simp only[bt,if_false]
  refine aa ?_
  rw[<- bO]
  simp only[aY,bc]
  refine aa (aa (aG ?_))
  show wpAny _ _ (Builtin.SmallTypes.nextOf (.ref i1) >>= _) _ _ _
  have up1:∀c o,c≠z->s.heap.get? c=some o->g0.get? c=some o:=fun c o n e=>sb0.extBut _ _ n e
  cases hx:xs[k1]? with
  | none =>
   refine aa (er (s:={ s with heap:=g0 }) hh (h1.at fun o e=>up1 _ o D.i1z e) (hl1.at fun o e=>up1 _ o D.l1z e) hx fun g2 e sb2 he=>?_)
   exact hE g2 e (fun c o c1 _ c3 _ q=>sb2 _ _ c3 (up1 _ _ c1 q)) he
  | some x =>
   have hy:ys[k2]? = none:=by rcases hend with q | q;rw[hx] at q;cases q;exact q
   refine aa (dq (s:={ s with heap:=g0 }) (h1.at fun o e=>up1 _ o D.i1z e) (hl1.at fun o e=>up1 _ o D.l1z e) hx fun g2 j1 sb2=>ad ?_)
   replace sb2:Heap.SameBut i1 g0 g2:=sb2
   refine ad (aa (aa (aG ?_)))
   show wpAny _ _ (Builtin.SmallTypes.nextOf (.ref i2) >>= _) _ _ _
   have up2:∀c o,c≠z->c≠i1->s.heap.get? c=some o->g2.get? c=some o:=fun c o n1 n2 e=>sb2.extBut _ _ n2 (up1 _ _ n1 e)
   refine aa (er hh (h2.at fun o e=>up2 _ o D.i2z D.i12.symm e) (hl2.at fun o e=>up2 _ o D.l2z D.l2i1 e) hy fun g4 e sb4 he=>?_)
   exact hE g4 e (fun c o c1 c2 c3 c4 q=>sb4 _ _ c4 (up2 _ _ c1 c3 q)) he
abbrev jl (h:Heap) (l:Addr):Heap:=h.push { cls:=.type "tuple_iterator",data:=.fields #[.ref l,.int 0 0] }
abbrev kI (h:Heap) (l m:Addr):Heap:=(jl h l).push { cls:=.type "tuple_iterator",data:=.fields #[.ref m,.int 0 0] }
abbrev ky (h:Heap) (l m:Addr):Heap:=(kI h l m).push { cls:=.type "tuple",data:=.seq #[.ref h.objs.size,.ref (jl h l).objs.size] }
abbrev lW (h:Heap) (l m:Addr):Heap:=(ky h l m).push { cls:=.type "tuple",data:=.seq #[.none,.none] }
abbrev kB (h:Heap) (l m:Addr):Heap:=(lW h l m).push { cls:=.type "zip",data:=.fields #[.none,.bool false,.bool false,.ref (kI h l m).objs.size,.ref (ky h l m).objs.size] }
theorem mI (l m:Addr) (xs ys:Array Value):Meets (Builtin.«zip.__new__» ⟨[.type "zip",.ref l,.ref m],[]⟩) (fun _ R s=>s.heap.IsTuple l xs/\s.heap.IsTuple m ys/\R (.ok (.ret (.ref (lW s.heap l m).objs.size))) { s with heap:=kB s.heap l m }) :=
 .of_wp fun prog w A R s h=>by
  obtain⟨h0,g0,d0,t0,os0⟩:=s
  obtain⟨hl,hm,h⟩:=h
  have hsub:=sub_zip
  have e1:Heap.IsTuple (Shared.heap ⟨h0,g0,d0,t0,os0⟩) l xs:=hl
  have e2:Heap.IsTuple (Shared.heap ⟨jl h0 l,g0,d0,t0,os0⟩) m ys:=Heap.IsTuple.push hm _
  wp_walk using bw e1,bw e2
  exact⟨_,rfl,h⟩
theorem nE {l m:Addr}{xs ys:Array Value}{Q:Value -> Shared -> Prop}(hl:s.heap.IsTuple l xs) (hm:s.heap.IsTuple m ys)
    (h:∀h',Zp h' (s.heap.objs.size+4) (s.heap.objs.size+2) (s.heap.objs.size+3) .none false->IsPair h' (s.heap.objs.size+2) (.ref s.heap.objs.size) (.ref (s.heap.objs.size+1))->IsPair h' (s.heap.objs.size+3) .none .none ->
     h'.IsTupleIter s.heap.objs.size l 0->h'.IsTupleIter (s.heap.objs.size+1) m 0->(∀c o,s.heap.get? c=some o->h'.get? c=some o)->Q (.ref (s.heap.objs.size+4)) { s with heap:=h' }) :
    wpAny (model prog w) A (call (.type "zip") [.ref l,.ref m]) Q E s:=by
 have a1:(jl s.heap l).objs.size=s.heap.objs.size+1:=bn ..
 have a2:(kI s.heap l m).objs.size=s.heap.objs.size+2:=(bn ..).trans (by rw[a1])
 have a3:(ky s.heap l m).objs.size=s.heap.objs.size+3:=(bn ..).trans (by rw[a2])
 have a4:(lW s.heap l m).objs.size=s.heap.objs.size+4:=(bn ..).trans (by rw[a3])
 have k5:∀ {c:Addr} {o:Obj},(lW s.heap l m).get? c=some o->(kB s.heap l m).get? c=some o:=fun q=>ah _ q
 have k4:∀ {c:Addr} {o:Obj},(ky s.heap l m).get? c=some o->(kB s.heap l m).get? c=some o:=fun q=>k5 (ah _ q)
 have k3:∀ {c:Addr} {o:Obj},(kI s.heap l m).get? c=some o->(kB s.heap l m).get? c=some o:=fun q=>k4 (ah _ q)
 have k2:∀ {c:Addr} {o:Obj},(jl s.heap l).get? c=some o->(kB s.heap l m).get? c=some o:=fun q=>k3 (ah _ q)
 have b5:(kB s.heap l m).get? (lW s.heap l m).objs.size=some { cls:=.type "zip",data:=.fields #[.none,.bool false,.bool false,.ref (kI s.heap l m).objs.size,.ref (ky s.heap l m).objs.size] }:=ao _ rfl
 have b4:=k5 (ao (ky s.heap l m) (o:={ cls:=.type "tuple",data:=.seq #[.none,.none] }) rfl)
 have b3:=k4 (ao (kI s.heap l m) (o:={ cls:=.type "tuple",data:=.seq #[.ref s.heap.objs.size,.ref (jl s.heap l).objs.size] }) rfl)
 have b2:=k3 (ao (jl s.heap l) (o:={ cls:=.type "tuple_iterator",data:=.fields #[.ref m,.int 0 0] }) rfl)
 have b1:=k2 (ao s.heap (o:={ cls:=.type "tuple_iterator",data:=.fields #[.ref l,.int 0 0] }) rfl)
 rw[a2,a3,a4] at b5
 rw[a3] at b4
 rw[a1,a2] at b3
 rw[a1] at b2
 refine callType_new F.called_zip (by decide) (F.typeCall_zip_2 _ _) (F.newCall_zip_2 _ _) (fun ob=>F.args_object_init_3 ob _ _) F.entry_zip_new (mI l m xs ys) ⟨hl,hm,?_⟩
 show _/\_
 rw[a4]
 exact⟨⟨_,b5,rfl⟩,h _ b5 b3 b4 ⟨_,b1,rfl,rfl⟩ ⟨_,b2,rfl,rfl⟩ fun c o q=>k2 (ah _ q)⟩
end
def vQ (K:W.Frag) (a b:Addr):It :=
 ⟨fun i H=>∃xs ys x y,SqT K H a xs/\SqT K H b ys/\xs[i]? = some x/\ys[i]? = some y,
  fun i H v H'=>∃p x y,H p=none/\v=.ref p/\(∀xs,SqT K H a xs->xs[i]? = some x)/\(∀ys,SqT K H b ys->ys[i]? = some y)/\H'=upd H p (.tup [x,y]),
  fun i H=>∃xs ys,SqT K H a xs/\SqT K H b ys/\(xs.length<=i∨ys.length<=i)⟩
theorem nn {P:Program}{w:World}{K:W.Frag}{nm:Str}{tp:Pos}(a b z TI TO i1 i2:Addr) (D:ZipApart z TI TO i1 i2 a b) :
    Turn P w K (.Name nm tp) (vQ K a b) [z,TI,TO,i1,i2] z (fun i h=>(∃f0 f1,F0 f0/\Zp h z TI TO f0 f1)/\IsPair h TI (.ref i1) (.ref i2)/\(∃c d,IsPair h TO c d)/\h.IsTupleIter i1 a i/\h.IsTupleIter i2 b i) where
 mem:=by simp
 obj:=fun i h st c hc=>by
  obtain⟨⟨f0,f1,_,hz⟩,hTI,⟨u,v,hTO⟩,⟨o1,e1,_,d1⟩,⟨o2,e2,_,d2⟩⟩:=st
  have hc:c=z∨c=TI∨c=TO∨c=i1∨c=i2:=by simpa using hc
  rcases hc with rfl | rfl | rfl | rfl | rfl
  ·exact⟨_,hz,fun v q=>by cases q⟩
  ·exact⟨_,hTI,fun v q=>by cases q⟩
  ·exact⟨_,hTO,fun v q=>by cases q⟩
  ·exact⟨_,e1,fun v q=>by rw[d1] at q;cases q⟩
  ·exact⟨_,e2,fun v q=>by rw[d2] at q;cases q⟩
 keep:=fun i h h' st k=>by
  obtain⟨⟨f0,f1,hf,hz⟩,hTI,⟨u,v,hTO⟩,h1,h2⟩:=st
  exact⟨⟨f0,f1,hf,k z (by simp) _ hz⟩,k TI (by simp) _ hTI,⟨u,v,k TO (by simp) _ hTO⟩,h1.at fun o e=>k i1 (by simp) o e,h2.at fun o e=>k i2 (by simp) o e⟩
 item := by
  intro X hP hw hK hc i pins s σ H E I hf st hg
  subst hP hw hK
  obtain⟨⟨f0,f1,hf0,hz⟩,hTI,⟨ta,tb,hTO⟩,h1,h2⟩:=st
  obtain⟨xs,ys,x,y,hqa,hqb,hx,hy⟩:=hg
  obtain⟨its,rv,pa,_⟩:=I.tuple hqa
  obtain⟨jts,rw',pb,_⟩:=I.tuple hqb
  obtain⟨u,hu,ru⟩:=rv.get hx
  obtain⟨v,hv,rv'⟩:=rw'.get hy
  refine dO ⟨_,hz,rfl⟩ (pc D hf0 hz hTI hTO h1 h2 (show s.heap.IsTuple a its.toArray from pa) (show s.heap.IsTuple b jts.toArray from pb) (x:=u) (y:=v) (by simpa using hu) (by simpa using hv) fun h' f0' f1' hf' hz' hTO' j1 j2 hpr k=>⟨_,rfl,?_⟩)
  refine ad (s:={ s with heap:=h' }) ?_
  have hp:H s.heap.objs.size=none:=I.hok.fresh (ac _)
  have fr:∀c∈[z,TI,TO,i1,i2],H c=none:=fun c hc=>(hf c hc).1
  have nit:∀c o,H c=some o->c≠z/\c≠TO/\c≠i1/\c≠i2:=fun c o q=>by
   refine⟨?_,?_,?_,?_⟩ <;> (intro e;rw[e,fr _ (by simp)] at q;cases q)
  have up:∀c o,H c=some o->upd H s.heap.objs.size (.tup [x,y]) c=some o:=fun c o q=>by rw[cm (cq q hp)];exact q
  have kk:∀c o,c∉[z,TO,i1,i2]->s.heap.get? c=some o->h'.get? c=some o:=fun c o n q=>k c o (fun e=>n (by simp[e])) (fun e=>n (by simp[e])) (fun e=>n (by simp[e])) (fun e=>n (by simp[e])) q
  have mem5:∀c∈[z,TO,i1,i2],c∈[z,TI,TO,i1,i2]:=fun c hc=>by simp at hc ⊢;rcases hc with e | e | e | e <;> simp[e]
  have hlt:∀c∈[z,TI,TO,i1,i2],c<s.heap.objs.size:=fun c hc=>by
   have hc:c=z∨c=TI∨c=TO∨c=i1∨c=i2:=by simpa using hc
   rcases hc with rfl | rfl | rfl | rfl | rfl
   ·exact af hz
   ·exact af hTI
   ·exact af hTO
   ·obtain⟨o,e,_⟩:=h1;exact af e
   ·obtain⟨o,e,_⟩:=h2;exact af e
  have I1:Inv X pins σ (upd H s.heap.objs.size (.tup [x, y])) { s with heap := h', gens := s.gens, drawn := s.drawn, toks := s.toks } := by
   refine I.step (g':=s.gens) (d':=s.drawn) (ch:=[z,TO,i1,i2]) (fun c hc=>?_) (fun c o _ _ n q _=>kk c o n q) (fun c o _ _ n q _=>⟨o.slots,kk c o n q⟩) (fun c o _ q n=>?_) (fun c o n q=>⟨o,kk c o n q⟩) (fun c ys q=>up c _ q) (fun c o v q=>up c _ q) (fun c ps q=>⟨#[],by rw[up c _ q];simp⟩) (fun m hm=>?_) (fun c o q=>?_) I.bare
   ·obtain⟨_,g1,_,g3,g4,g5⟩:=hf c (mem5 c hc)
    exact⟨g3,g1,g4,g5⟩
   ·rw[cm (am (af q))];exact n
   ·obtain⟨o,es,ep,ho,r⟩:=hm
    refine⟨o,es,ep,kk _ o (fun n=>?_) ho,r⟩
    exact(hf _ (mem5 _ n)).2.1 rfl
   ·by_cases hb:c=s.heap.objs.size
    ·subst hb
     rw[cn] at q
     have q':HO.tup [x,y]=o:=ae q
     subst q'
     exact⟨by show 2<=sizeLine;decide,[u,v],.cons ru (.cons rv' .nil),⟨_,hpr,rfl,_,rfl,rfl⟩⟩
    ·rw[cm hb] at q
     refine(I.hok c o q).stay (fun d o' hd q'=>?_) (fun d q=>up d _ q) fun d ys q=>up d _ q
     rcases hd with e | e
     ·rw[e] at q' ⊢;obtain⟨n1,n2,n3,n4⟩:=nit c o q;exact k c o' n1 n2 n3 n4 q'
     ·obtain⟨n1,n2,n3,n4⟩:=nit d _ e;exact k d o' n1 n2 n3 n4 q'
  refine⟨.ref s.heap.objs.size,upd H s.heap.objs.size (.tup [x,y]),I1,rfl,⟨_,x,y,hp,rfl,fun zs hz=>by rw[I.tuple_inj hz hqa];exact hx,fun zs hz=>by rw[I.tuple_inj hz hqb];exact hy,rfl⟩,⟨⟨f0',f1',hf',hz'⟩,?_,hTO',j1,j2⟩,fun c hc=>?_⟩
  ·exact k TI _ D.TIz D.TITO D.TIi1 D.TIi2 hTI
  ·rw[cm (am (hlt c hc))];exact fr c hc
 done:=by
  intro X hP hw hK hc i pins s σ H E I hf st hg
  subst hP hw hK
  obtain⟨⟨f0,f1,hf0,hz⟩,hTI,⟨ta,tb,hTO⟩,h1,h2⟩:=st
  obtain⟨xs,ys,hqa,hqb,hxy⟩:=hg
  obtain⟨its,rv,pa,_⟩:=I.tuple hqa
  obtain⟨jts,rw',pb,_⟩:=I.tuple hqb
  have l1:=rv.length
  have l2:=rw'.length
  have hend:its.toArray[i]? = none∨jts.toArray[i]? = none:=by
   rcases hxy with q | q
   ·exact .inl (by simp;omega)
   ·exact .inr (by simp;omega)
  refine dO ⟨_,hz,rfl⟩ (qR (A:=X.A.in1) (show X.A.in1.handled=none from I.ok.hd hc) D hf0 hz hTI hTO h1 h2 (show s.heap.IsTuple a its.toArray from pa) (show s.heap.IsTuple b jts.toArray from pb) hend fun h' e k he=>⟨he,⟨e,rfl⟩,rfl,?_⟩)
  have fr:∀c∈[z,TI,TO,i1,i2],H c=none:=fun c hc=>(hf c hc).1
  have nit:∀c o,H c=some o->c≠z/\c≠TO/\c≠i1/\c≠i2:=fun c o q=>by
   refine⟨?_,?_,?_,?_⟩ <;> (intro e;rw[e,fr _ (by simp)] at q;cases q)
  have kk:∀c o,c∉[z,TO,i1,i2]->s.heap.get? c=some o->h'.get? c=some o:=fun c o n q=>k c o (fun e=>n (by simp[e])) (fun e=>n (by simp[e])) (fun e=>n (by simp[e])) (fun e=>n (by simp[e])) q
  have mem5:∀c∈[z,TO,i1,i2],c∈[z,TI,TO,i1,i2]:=fun c hc=>by simp at hc ⊢;rcases hc with e | e | e | e <;> simp[e]
  refine I.step (h':=h') (g':=s.gens) (d':=s.drawn) (t':=s.toks) (ch:=[z,TO,i1,i2]) (fun c hc=>?_) (fun c o _ _ n q _=>kk c o n q) (fun c o _ _ n q _=>⟨o.slots,kk c o n q⟩) (fun c o _ q n=>n) (fun c o n q=>⟨o,kk c o n q⟩) (fun c ys q=>q) (fun c o v q=>q) (fun c ps q=>⟨#[],by rw[q];simp⟩) (fun m hm=>?_) (fun c o q=>?_) I.bare
  ·obtain⟨_,g1,_,g3,g4,g5⟩:=hf c (mem5 c hc)
   exact⟨g3,g1,g4,g5⟩
  ·obtain⟨o,es,ep,ho,r⟩:=hm
   refine⟨o,es,ep,kk _ o (fun n=>?_) ho,r⟩
   exact(hf _ (mem5 _ n)).2.1 rfl
  ·refine(I.hok c o q).stay (fun d o' hd q'=>?_) (fun d q=>q) fun d ys q=>q
   rcases hd with e | e
   ·rw[e] at q' ⊢;obtain⟨n1,n2,n3,n4⟩:=nit c o q;exact k c o' n1 n2 n3 n4 q'
   ·obtain⟨n1,n2,n3,n4⟩:=nit d _ e;exact k d o' n1 n2 n3 n4 q'
 self:=fun A i s Q E st h=>by
  obtain⟨⟨f0,f1,hf0,hz⟩,_⟩:=st
  have hT:s.TypeIs (.ref z) "zip":=⟨_,hz,rfl⟩
  refine wpAny_pyIter_slot hT F.slot_zip_iter (wpAny_call_entry F.slot_zip_iter hT F.entry_zip_iter ?_ (F.args_zip_iter_1 _))
  show wpAny _ _ (ret (.ref z)) _ _ s
  exact ad ⟨_,rfl,"zip",_,hT,F.slot_zip_next.lookup,h⟩
theorem mM {X:Cx}(hc:X.calm=true) (hu:X.A.units+64<cLine) {pins:List (Addr × Obj)}{s:Shared}{σ:St}{H:Hp}{a b z TI TO i1 i2:Addr}{ks:List Str}{ys:List V}{Q:VK}(I:Inv X pins σ H s) (D:ZipApart z TI TO i1 i2 a b)
    (t0:(∃f0 f1,F0 f0/\Zp s.heap z TI TO f0 f1)/\IsPair s.heap TI (.ref i1) (.ref i2)/\(∃c d,IsPair s.heap TO c d)/\s.heap.IsTupleIter i1 a 0/\s.heap.IsTupleIter i2 b 0) (hf:∀c∈[z,TI,TO,i1,i2],dB X pins H c)
    (hqa:SqT X.K H a (List.map V.str ks)) (hqb:SqT X.K H b ys) (hl:ks.length=ys.length) (hn:ks.length<=1000) (q:∀l H2,H l=none->Same H H2->H2 l=some (.dK (mkK (cS ks ys)))->Q (.ref l) H2) :
    wpAny (model X.prog X.w) X.A (call (.type "dict") [.ref z]) (EP X pins σ Q) X.xe s:=by
 have T:=nn (P:=X.prog) (w:=X.w) (K:=X.K) (nm:="x") (tp:=default) a b z TI TO i1 i2 D
 have hlt:∀c∈[z,TI,TO,i1,i2],c<s.heap.objs.size:=fun c hc=>by
  obtain⟨o,e,_⟩:=T.obj 0 s.heap t0 c hc
  exact af e
 have zl:(cS ks ys).length=ks.length:=by unfold cS;rw[List.length_zip,ab];omega
 refine callType_codes (Q₁:=fun ob s1=>ob=.ref s.heap.objs.size/\s1={ s with heap:=s.heap.push { cls:=.type "dict",data:=.dict #[] } }) F.kt_called_dict (F.kt_typeCall_dict_1 _) F.entry_dict_init (kt_code_dict_new _ ⟨rfl,rfl⟩) ?_
 rintro ob s1 ⟨rfl,rfl⟩
 have hfree:H s.heap.objs.size=none:=I.hok.fresh (ac _)
 have I1:Inv X pins σ (upd H s.heap.objs.size (.dK [])) { s with heap:=s.heap.push { cls:=.type "dict",data:=.dict #[] } } :=
  I.laid (a:=s.heap.objs.size) (o:=.dK []) (t':=s.toks) (fun _ _ q=>ah _ q) (ac _) (jo s.heap I.big)
 have hnew:(⟨s.heap.push { cls:=.type "dict",data:=.dict #[] },s.gens,s.drawn,s.toks,s.os⟩:Shared).TypeIs (.ref s.heap.objs.size) "dict":=⟨_,ao _ rfl,rfl⟩
 refine⟨hnew,F.args_dict_init_2 _ _,?_⟩
 unfold Builtin.«dict.__init__»
 refine aa ?_
 unfold Builtin.Dict.selfAndRest
 refine aa (wpAny_notOrdered_dict hnew ?_)
 show wpAny _ _ (pure (s.heap.objs.size,[Value.ref z])) _ _ _
 refine ad ?_
 show wpAny _ _ (Builtin.Dict.updateFrom "dict.__init__" s.heap.objs.size (.ref z) [] .none) _ _ _
 unfold Builtin.Dict.updateFrom
 have hA:X.A.in1.in1.handled=none:=I.ok.hd hc
 have t1:=T.keep 0 s.heap (s.heap.push { cls:=.type "dict",data:=.dict #[] }) t0 fun c _ o e=>ah _ e
 obtain⟨⟨f0,f1,hf0,hz⟩,_⟩:=id t1
 refine aa (wpAny_typeOf (T:="zip") ⟨_,hz,rfl⟩ ?_)
 rw[if_pos (by decide)]
 refine aa (jP hz rfl rfl rfl hA fun h' tk kp=>?_)
 have I2:=I1.kept (h':=h') (t':=tk) kp
 have t2:=T.keep 0 _ h' t1 fun c _ o e=>kp c o e
 refine aa (wpAny_rule (aa ?_))
 refine T.self X.A.in1.in1 0 { s with heap:=h',toks:=tk } _ _ t2 ?_
 refine ad ⟨plainId_quiet DU.plain_loop _,?_⟩
 refine lq (nm:="x") (tp:=default) T hc hu s.heap.objs.size ks.length (fun i H'=>Same H H'/\H' s.heap.objs.size=some (.dK (mkK ((cS ks ys).take i)))) (fun i H' hi e=>?_) (fun H' e=>?_) _ 0 0 _ _ rfl (aL _) I2 (fun c hc=>?_) t2 ?_ ?_
 ·obtain⟨sm,hd⟩:=e
  have hx:(List.map V.str ks)[i]? = some (V.str ks[i]):=by simp[hi]
  have hy:ys[i]? = some (ys[i]'(by omega)):=ap (by omega)
  refine⟨⟨_,_,_,_,hqa.same' sm,hqb.same' sm,hx,hy⟩,fun x H1 yl=>?_⟩
  obtain⟨p,u,v,hp,rfl,hu1,hv1,rfl⟩:=yl
  have e1:V.str ks[i]=u:=ae (hx.symm.trans (hu1 _ (hqa.same' sm)))
  have e2:ys[i]'(by omega)=v:=ae (hy.symm.trans (hv1 _ (hqb.same' sm)))
  subst e1 e2
  have npl:s.heap.objs.size≠p:=cq hd hp
  have hzk:(cS ks ys)[i]? = some (.inr ks[i],ys[i]'(by omega)):=by
   unfold cS
   rw[bH]
   exact⟨by simp[hi],hy⟩
  have hkl:(mkK ((cS ks ys).take i)).length<sizeLine:=by
   have:=pN ((cS ks ys).take i)
   rw[aJ] at this
   exact cw (by omega)
  refine⟨p,V.str ks[i],_,_,rfl,.of cn,DPut.k (k:=.inr ks[i]) (by rw[cm npl];exact hd) hkl,fun c o hc=>?_,?_⟩
  ·have h1:=sm c o hc
   rw[cm (cq hc hfree),cm (cq h1 hp)]
   exact h1
  ·rw[cn,mt _ i _ hzk]
 ·obtain⟨sm,hd⟩:=e
  exact⟨_,_,hqa.same' sm,hqb.same' sm,.inl (by rw[ab];exact ac _)⟩
 ·obtain⟨g0,g1,g2,g3,g4,g5⟩:=hf c hc
  exact⟨by rw[cm (am (hlt c hc))];exact g0,g1,g2,g3,g4,g5⟩
 ·exact⟨Same.new hfree,by rw[cn];rfl⟩
 ·intro H' s' I' e
  obtain⟨sm,hd⟩:=e
  rw[<- zl,aq (ac _)] at hd
  exact⟨rfl,.ref _,_,I',rfl,q _ _ hfree sm hd⟩
def uD (K:W.Frag) (ta:TA):TE:=fun σ H Q=>ta σ H fun vs H1=>∃a b ks ys,vs=[.ref a,.ref b]/\SqT K H1 a (List.map V.str ks)/\SqT K H1 b ys/\ks.length=ys.length/\ks.length<=1000/\∀l H2,H1 l=none->Same H1 H2->H2 l=some (.dK (mkK (cS ks ys)))->Q (.ref l) H2
theorem qM (K:W.Frag) {X:Cx}{a b:Expr}{ta:TA}{p p2 pos pos2:Pos}(hc:X.calm=true) (hu:X.A.units+64<cLine) (B:Blt X.mg) (hm:X.mg "zip"=none) (ha:PA X [a,b] ta) (hgd:Gl X "dict":=by rfl) (hgz:Gl X "zip":=by rfl)
    (he:starEach [.Call (.Name "zip" p2) [a,b] [] pos2] X.env=(false,eval (.Call (.Name "zip" p2) [a,b] [] pos2) X.env)::starEach [] X.env:=by rfl) (hpl:(backTo pos (starEach [] X.env)).any (·.1)=false:=by rfl)
    (hs:starEach [a,b] X.env=(false,eval a X.env)::starEach [b] X.env:=by rfl) (hp2:(backTo pos2 (starEach [b] X.env)).any (·.1)=false:=by rfl) (hK:X.K=K:=by rfl) :
    PE X (.Call (.Name "dict" p) [.Call (.Name "zip" p2) [a,b] [] pos2] [] pos) (uD K ta):=by
 subst hK
 intro pins s σ H Q I h
 refine bI (eI I hgd B.dict (show bootBuiltins "dict"=some (.type "dict") by decide +kernel) ?_ (by decide) (by decide))
 refine PyProof.Rows.callWith_type1 ?_ he hpl
 rw[he]
 show wpAny _ _ (spliced ((false,eval (.Call (.Name "zip" p2) [a,b] [] pos2) X.env)::backTo pos (starEach [] X.env))) _ _ s
 refine Calls.spliced_cons ?_
 refine Call_ (eI I hgz hm (show bootBuiltins "zip"=some (.type "zip") by decide +kernel) (PyProof.Rows.callWith_type1 (thn (ha pos2 pins s σ H _ I h) fun us s1 ⟨vs,H1,I1,r1,q1⟩=>?_) hs hp2))
 obtain⟨l,m,ks,ys,rfl,hqa,hqb,hl,hn,q⟩:=q1
 obtain⟨u1,u2,rfl,r1,r2⟩:=fW r1
 cases r1
 cases r2
 obtain⟨its,rv,pa,_⟩:=I1.tuple hqa
 obtain⟨jts,rw',pb,_⟩:=I1.tuple hqb
 have a1:l<s1.heap.objs.size:=by obtain⟨_,e,_⟩:=pa;exact af e
 have a2:m<s1.heap.objs.size:=by obtain⟨_,e,_⟩:=pb;exact af e
 refine nE (show s1.heap.IsTuple l its.toArray from pa) (show s1.heap.IsTuple m jts.toArray from pb) fun h' hz hTI hTO hi1 hi2 hk=>?_
 refine Calls.spliced_nil ?_
 have I2:=I1.kept (t':=s1.toks) hk
 refine mM hc hu I2 (zipApart_new a1 a2) ⟨⟨_,_,.inl rfl,hz⟩,hTI,⟨_,_,hTO⟩,hi1,hi2⟩ (fun c hc=>?_) hqa hqb hl hn q
 have hb:c=s1.heap.objs.size+4∨c=s1.heap.objs.size+2∨c=s1.heap.objs.size+3∨c=s1.heap.objs.size∨c=s1.heap.objs.size+1:=by simpa using hc
 have hle:s1.heap.objs.size<=c:=by rcases hb with e | e | e | e | e <;> rw[e] <;> first | exact ac _ | exact Nat.le_add_right _ _
 exact I1.fpOk hle (I1.hok.fresh hle)
end L2
namespace L2
open PySem
theorem oq {i:Int}{k:Nat}(hk:0<k) (h:i.natAbs<10 ^ k):(PyData.shown (.int i)).length<=k+1:=by
 have e:=(Nat.length_repr_le_iff (n:=i.natAbs) hk).mpr h
 show (Str.ofString (toString i)).length<=k+1
 rw[ofString_length]
 cases i with
 | ofNat m =>
  have e:m.repr.length<=k:=e
  show m.repr.length<=k+1
  omega
 | negSucc m =>
  have e:m.succ.repr.length<=k:=e
  show ("-"++m.succ.repr).length<=k+1
  rw[String.length_append]
  show 1+m.succ.repr.length<=k+1
  omega
theorem pf {i:Int}(h:i.natAbs<10 ^ 40):Sw (.int i) 41 0:=by
 refine⟨rfl,?_,ac 0,oq (by decide) h⟩
 show decide (i.natAbs.log2<1920)=true
 refine ai ?_
 by_cases q:i.natAbs=0
 ·rw[q];decide
 ·rw[Nat.log2_lt q]
  exact Nat.lt_trans h (by decide +kernel)
def rA (zs:List Int):PyData:=.list (zs.map PyData.int)
theorem im {H:Hp}:∀zs:List Int,RepAll H (zs.map V.int) (zs.map PyData.int)
 | []=>.nil
 | x::xs=>.cons (.int _) (im xs)
theorem p9 {zs:List Int}(h:∀x∈zs,x.natAbs<10 ^ 40) (hl:zs.length<=60):Shw (rA zs):=by
 refine(Sw.list (n:=41) (k:=0) fun d hd=>?_).shw (by decide) ?_
 ·obtain⟨x,hx,rfl⟩:=al.mp hd
  exact pf (h x hx)
 ·rw[ab]
  have:2+zs.length * (41+2)<=4000:=by omega
  exact aO this (by decide)
end L2
namespace L2
open PySem PySem.Spec PyProof.Rows
section
open PySem.W PySem.Calls Builtin Builtin.ObjectAttr Builtin.Getset_descriptor
variable {K:Frag}{x C:Addr}{h:Heap}{M:Model}
variable {prog:Program}{w:World}{A:Around}{E:Value->Shared->Prop}{s:Shared}
end
end L2
open PySem
namespace L2
open PySem
abbrev Kn:=List (Str × List Str)
section
variable {us:List Str}{ks:Kn}
abbrev tp (a:List Str):List Str:=("":Str)::a
end
theorem iG:∀ {ps:List (Str × Str)},(∀e∈ps,Nm e.1/\Nm e.2)->PyData.canLayAll0 (ps.map cQ)=true
 | [],_=>rfl
 | e::ps,h=>by
  have:=h e (by simp)
  show (PyData.canLay0 (cQ e)&&PyData.canLayAll0 (ps.map cQ))=true
  rw[iG fun x hx=>h x (aI _ hx)]
  show ((PyData.canLay0 (.str e.1)&&(PyData.canLay0 (.str e.2)&&true))&&true)=true
  rw[eL this.1,eL this.2];rfl
theorem lJ {e:Str × Str}(h:Nm e.1/\Nm e.2):PyData.canLay0 (cQ e)=true:=by
 show (PyData.canLay0 (.str e.1)&&(PyData.canLay0 (.str e.2)&&true))=true
 rw[eL h.1,eL h.2];rfl
theorem kY (xs:List Str):(List.map V.str xs).all eS=true:=by
 rw[List.all_map,aW]
 intro x _;rfl
theorem uf (x:Str) (xs:List Str):inV (V.str x) (List.map V.str xs)=decide (x∈xs):=by
 rw[aZ,decide_eq_true_iff]
 unfold inV
 rw[List.any_map,bU]
 constructor
 ·rintro⟨y,hy,q⟩
  have q:(y==x)=true:=q
  have q:y=x:=by simpa using q
  exact q ▸ hy
 ·intro h
  refine⟨x,h,?_⟩
  show (x==x)=true
  simp
end L2
open PySem
namespace L2
open PySem
def kdO (ks:Kn) (u:Str):List Str:=((ks.find? fun k=>decide (k.1=u)).map (·.2)).getD []
section
variable {us:List Str}{ks:Kn}
def rd (ks:Kn):Nat->Str->List Str
 | 0,u=>[u]
 | n+1,u=>u::(kdO ks u).flatMap (rd ks n)
def RD (ks:Kn) (u:Str):List Str:=rd ks 61 u
end
end L2
namespace L2
open PySem PySem.Spec PyProof.Rows
section
variable {X:Cx}{p pos:Pos}{e:Expr}{t:TA}
def rN (K:W.Frag):List V->Hp->VK->Prop:=fun xs H Q=>∃a ns,xs=[.ref a]/\SqL K H a (List.map V.int ns)/\Q (.int ns.sum) H
theorem pi (hc:X.calm=true):ed X (.builtin "sum") (rN X.K):=by
 intro pins s σ H xs us Q I r h
 obtain⟨a,ns,rfl,hq,q⟩:=h
 obtain⟨u,rfl,ru⟩:=dR r
 cases ru
 obtain⟨its,rv,pl,hz⟩:=I.list hq
 have hi:=jI rv
 obtain⟨xs,e⟩:=hi.allInts.items
 have hns:ns=xs.toList.map (·.1):=by
  rw[<- hi.numsOf,<- nums_intItems,<- e]
 have hl:=pl.isList
 rw[e] at hl
 refine sum_intListG (I.ok.hd hc) hl fun h' tk t' hk=>?_
 refine⟨.int _,H,I.kept hk,⟨_,rfl⟩,?_⟩
 rw[preSum_eq,aq (by simp),<- hns]
 exact q
theorem pj (K:W.Frag) (hc:X.calm=true) (Zs:X.mg "sum"=none) (ha:PA X [e] t) (hg:Gl X "sum":=by rfl) (he:starEach [e] X.env=(false,eval e X.env)::starEach [] X.env:=by rfl) (hpl:(backTo pos (starEach [] X.env)).any (·.1)=false:=by rfl) (hK:X.K=K:=by rfl) :
    PE X (.Call (.Name "sum" p) [e] [] pos) (tCB (rN K) t):=hK ▸ dM (pi hc) hg Zs (show bootBuiltins "sum"=some (.builtin "sum") by decide +kernel) ha (by decide) (by decide) he hpl
end
end L2
namespace K24
open PySem L2
def top (i:Nat):Stmt:=PySem.Challenge.pw_orderkeep_k24_whole_deepest_told.main.body.getD i (.Pass ⟨0,0,0,0⟩)
abbrev fU:Stmt:=top 6
abbrev fT:Stmt:=top 7
abbrev gb:Stmt:=top 9
abbrev fj:Stmt:=top 10
abbrev gn:Stmt:=top 11
abbrev gB:Stmt:=top 12
abbrev ff:Stmt:=top 16
abbrev eY:Stmt:=top 17
abbrev hX:Stmt:=top 18
abbrev gx:Stmt:=top 20
abbrev i3:Stmt:=top 22
abbrev gp:Stmt:=top 23
abbrev gt:Stmt:=top 24
abbrev iu:Stmt:=top 26
abbrev gC:Stmt:=top 27
abbrev gk:Stmt:=top 29
abbrev fE:Stmt:=top 30
abbrev fF:Stmt:=top 31
abbrev gA:Stmt:=top 32
abbrev eV:Stmt:=top 33
abbrev iq:Stmt:=top 34
abbrev gw:Stmt:=top 35
abbrev fz:Stmt:=top 36
abbrev iU:Stmt:=top 37
abbrev gF:Stmt:=top 38
abbrev iF:Stmt:=top 39
abbrev fk:Stmt:=top 40
abbrev fK:Stmt:=top 42
abbrev fV:Stmt:=top 43
abbrev iC:Stmt:=top 44
abbrev i4:Stmt:=top 46
abbrev ga:Stmt:=top 47
abbrev iW:Stmt:=top 48
abbrev ib:Stmt:=top 49
abbrev jr:Stmt:=top 50
abbrev jc:Stmt:=top 51
abbrev ki:Stmt:=top 52
abbrev fJ:Stmt:=top 53
abbrev ie:Stmt:=top 54
abbrev fb:Stmt:=top 55
abbrev gM:Stmt:=top 56
section
variable {P:Program}{w:World}{K:W.Frag}{mg:Str->Option Value}{base:Heap}
def kD (K:W.Frag):Sp:=fun vs H Q _=>∃(p a:Addr) (m:Nat),vs=[.ref p,.int (m:Int)]/\Pen K H p a/\m<=60 /\
 ∀l ss H',ss.length=m->ss.Nodup->(∀s∈ss,Nm s)->H' l=some (.lst (List.map V.str ss))->l≠p->PenV H' p a->But p H H'->Q (.ref l) H'
theorem scTake:FnScope ["_law_pen","_law_many","_law_digit","_law_at","_law_cell","_law_one","_law_two"] ["_law_pen","_law_many"] (ck i4):=⟨rfl,rfl,rfl,by decide +kernel,rfl,by decide +kernel,by decide +kernel⟩
theorem lv (x:Int):-(2 ^ 64)<x % 2147483587/\x % 2147483587<2 ^ 64:=by
 have h1:=bf x (show (2147483587:Int)≠0 by decide)
 have h2:=bo x (show (0:Int)<2147483587 by decide)
 omega
theorem j3 (x:Int):-(2 ^ 64)<x % 2147483629+1/\x % 2147483629+1<2 ^ 64:=by
 have h1:=bf x (show (2147483629:Int)≠0 by decide)
 have h2:=bo x (show (0:Int)<2147483629 by decide)
 omega
theorem tm {f:Addr}{fd:FuncData}(F:Fun K "_law_take" "_law_take" i4 f fd) (B:Blt mg):FnOk P w K mg base CX0 1 f fd ["_law_pen", "_law_many"] (hU K) := by
 refine F.ok scTake (fun vs H Q E h=>?_) (fun cdv A outer s H vs Q E hr h=>?_)
 ·obtain⟨p,a,m,rfl,_⟩:=h
  rfl
 ·obtain⟨p, a, m, rfl, ⟨⟨ns, hS⟩, i, n, hp, hi, hn⟩, hm, hm2, k⟩ := h
  have ku:∀(H1:Hp) (o:HO),(∀b,b≠p->H1 b=H b)->∀b,b≠p->(upd H1 p o) b=H b:=fun H1 o q b n=>by rw[cm n];exact q b n
  have nd:=scTake.nd
  refine⟨_,(cg (cM (cC ii (cu (cA K hr.units) (pv 0) ci (fun _ _=>rfl)) ci (cE _)) (cg (cy (i:=2) nd rfl (Or.inl rfl) (cG d6 (cu (cA K hr.units) (pv 0) ci (fun _ _=>rfl)) (pv 1)))
   (cg (dX (cG iT (cu (cA K hr.units) (pv 0) ci (fun _ _=>rfl)) (pv 1)) (ei (pv 0) ci (eU hr.units)))
   (cp (cz (pv 2))))) cH)
   (cg (cy (i:=3) nd rfl (Or.inl rfl) (cu (cA K hr.units) (pv 0) ci (fun _ _=>rfl)))
   (cg (dX (cG cO (pv 3) ci) (ei (pv 0) ci (eU hr.units)))
   (cg (cy (i:=4) nd rfl (Or.inl rfl) ci)
   (cg (cM (cC ii (dC K B (ce (cu (cA K hr.units) (pv 0) ci (fun _ _=>rfl)) cf)) ci (cE _)) (cp (cy (i:=4) nd rfl (Or.inl rfl) (cu (cA K hr.units) (cu (cA K hr.units) (pv 0) ci (fun _ _=>rfl)) (cG d6 (pv 3) (dC K B (ce (cu (cA K hr.units) (pv 0) ci (fun _ _=>rfl)) cf))) (fun _ _=>rfl)))) cH)
   (cg (cM (PW.pt (ms (cC gU (pv 3) (dC K B (ce (cu (cA K hr.units) (pv 0) ci (fun _ _=>rfl)) cf)) (cE _)) (kH (cC vR (jL B (ce (pv 4) cf)) (cG pA ci ci) (cE _))))) (cg (dX (cG iT (jL B (ce (pv 4) cf)) (pv 1)) (ei (pv 0) ci (eU hr.units)))
   (cp (cz (cG d6 (jL B (ce (pv 4) cf)) (pv 1))))) cH)
   (cg (cy (i:=5) nd rfl (Or.inl rfl) (cG d6 (cG fv (cG cO (cG d6 (pv 4) ci) ci) (cG cO (cG fv ci (pv 3)) ci)) ci))
   (cg (cy (i:=6) nd rfl (Or.inl rfl) (cG d6 (cG cO (cG cO (cG fv (pv 5) (pv 5)) (cG fv ci (pv 3))) ci) ci))
   (cp (cz (cG d6 (cG iT (cG d6 (cG fv (pv 6) (cG cO (cG d6 (pv 6) ci) ci)) ci) ci) (pv 1)))))))))))),?_⟩
  refine⟨_,rfl,.lst (.of hp) rfl ⟨_,_,rfl,rfl,_,rfl,?_⟩⟩
  refine cK (fun h=>?_) (fun h=>?_)
  ·refine⟨_,rfl,.lst (.of hp) rfl ⟨_,rfl,_,_,rfl,rfl,hm,?_⟩⟩
   refine⟨_,rfl,.lst (.of hp) rfl ⟨_,rfl,_,_,rfl,rfl,⟨hm,hm2⟩,?_⟩⟩
   refine⟨_,rfl,.lst (j:=2) hp rfl ?_⟩
   refine⟨_,rfl,?_⟩
   exact k _ _ (bf _ (by omega)) (bo _ hm) ⟨i,n / m,cn,hi,Int.ediv_nonneg hn (by omega)⟩ (ku H _ fun _ _=>rfl)
  ·refine⟨_, rfl, .lst (.of hp) rfl ?_⟩
   refine⟨_,rfl,.int ?_⟩
   refine⟨_,rfl,.lst (j:=1) hp rfl ?_⟩
   have hp1:(upd H p (.lst ([V.ref a,V.int i,V.int n].set 1 (V.int (i+1))))) p=some (.lst [.ref a,.int (i+1),.int n]):=cn
   have hS1:SqL K (upd H p (.lst ([V.ref a,V.int i,V.int n].set 1 (V.int (i+1))))) a (ns.map V.int):=hS _ But.upd
   have b1:∀b,b≠p->(upd H p (.lst ([V.ref a,V.int i,V.int n].set 1 (V.int (i+1))))) b=H b:=ku H _ fun _ _=>rfl
   generalize upd H p (.lst ([V.ref a,V.int i,V.int n].set 1 (V.int (i+1))))=H1 at hp1 hS1 b1 ⊢
   have fin:∀c:Int,0<=c->Q (.int (c % m)) H1:=fun c hc=>k _ _ (bf _ (by omega)) (bo _ hm) ⟨i+1,n,hp1,by omega,hn⟩ b1
   refine⟨_,rfl,.lst (.of hp1) rfl ⟨_,_,rfl,Or.inl ⟨_,hS1,rfl⟩,_,_,rfl,rfl,_,rfl,?_⟩⟩
   refine cK (fun h=>?a) (fun h=>?b)
   case' a =>
    have hl:(0:Int)<((ns.map V.int).length:Nat):=ax h
    obtain⟨c,hc⟩:=uz (ns:=ns) (j:=i % ((ns.map V.int).length:Nat)) (bf _ (by omega)) (bo _ hl)
    refine⟨_,rfl,.lst (.of hp1) rfl ⟨_,rfl,_,rfl,.lst (.of hp1) rfl ⟨_,_,rfl,Or.inl ⟨_,hS1,rfl⟩,_,_,rfl,rfl,hl,.lst hS1 hc ?_⟩⟩⟩
   all_goals
    refine⟨_,rfl,_,rfl,.lst (.of hp1) rfl ⟨_,_,rfl,Or.inl ⟨_,hS1,rfl⟩,.int ⟨_,rfl,?_⟩⟩⟩
    refine cK (fun h1=>?_) (fun h1=>?_)
    ·refine⟨_,rfl,_,rfl,_,_,rfl,rfl,⟨by decide,by decide,by decide⟩,_,_,rfl,rfl,_,rfl,?_⟩
     refine cK (fun h2=>?_) (fun h2=>?_)
     ·refine⟨_,rfl,_,rfl,_,rfl,_,_,rfl,rfl,⟨hm,hm2⟩,?_⟩
      refine⟨_,rfl,.lst (j:=2) hp1 rfl ?_⟩
      refine⟨_,rfl,_,rfl,_,rfl,_,_,rfl,rfl,hm,?_⟩
      refine k _ _ (bf _ (by omega)) (bo _ hm) ⟨i+1,_,cn,by omega,Int.ediv_nonneg (by split <;> omega) (by omega)⟩ (ku H1 _ b1)
     ·refine⟨_,rfl,_,_,rfl,rfl,(by show (0:Int)<_;decide),.int ⟨_,rfl,_,_,rfl,rfl,.inl ⟨by decide,by decide⟩,.int ⟨_,_,rfl,rfl,.inl (j3 _),_,_,rfl,rfl,(by show (0:Int)<_;decide),?_⟩⟩⟩
      refine⟨_,rfl,_,rfl,_,_,rfl,rfl,.inl (lw _),_,rfl,_,_,rfl,rfl,.inl ⟨by decide,by decide⟩,.int (.int ⟨_,_,rfl,rfl,(by show (0:Int)<_;decide),?_⟩)⟩
      refine⟨_,rfl,_,rfl,_,_,rfl,rfl,(by show (0:Int)<_;decide),.int ⟨_,_,rfl,rfl,.inl (lv _),_,_,rfl,rfl,(by show (0:Int)<_;decide),_,_,rfl,rfl,⟨by decide,by decide⟩,_,rfl,_,_,rfl,rfl,hm,?_⟩⟩
      exact fin _ (Int.ediv_nonneg (bf _ (by decide)) (by decide))
    ·refine⟨_,rfl,_,_,rfl,rfl,(by show (0:Int)<_;decide),.int ⟨_,rfl,_,_,rfl,rfl,.inl ⟨by decide,by decide⟩,.int ⟨_,_,rfl,rfl,.inl (j3 _),_,_,rfl,rfl,(by show (0:Int)<_;decide),?_⟩⟩⟩
     refine⟨_,rfl,_,rfl,_,_,rfl,rfl,.inl (lw _),_,rfl,_,_,rfl,rfl,.inl ⟨by decide,by decide⟩,.int (.int ⟨_,_,rfl,rfl,(by show (0:Int)<_;decide),?_⟩)⟩
     refine⟨_,rfl,_,rfl,_,_,rfl,rfl,(by show (0:Int)<_;decide),.int ⟨_,_,rfl,rfl,.inl (lv _),_,_,rfl,rfl,(by show (0:Int)<_;decide),_,_,rfl,rfl,⟨by decide,by decide⟩,_,rfl,_,_,rfl,rfl,hm,?_⟩⟩
     exact fin _ (Int.ediv_nonneg (bf _ (by decide)) (by decide))
theorem jY {j:Int}(h0:0<=j) (h1:j<26):atI ("abcdefghijklmnopqrstuvwxyz":Str).cps.toList j=some (97+j.toNat):=by
 obtain⟨k,rfl⟩:=be h0
 have hk:k<26:=by omega
 exact(by decide +kernel:∀k:Nat,k<26->atI ("abcdefghijklmnopqrstuvwxyz":Str).cps.toList (k:Int)=some (97+(k:Int).toNat)) k hk
theorem oO {c:Nat}(h:97<=c) (h2:c<=122):Nm ⟨#[c]⟩:=⟨ac 1,by show 1<=8;decide,fun d hd=>by
 have:d=c:=by simpa using hd
 omega⟩
theorem uJ {c d:Nat}{t:Str}(hc:97 <= c /\ c <= 122) (hd:97 <= d /\ d <= 122) (ht:t.length <= 6) (ha:∀x ∈ t.cps.toList, 97 <= x /\ x <= 122):Nm (⟨#[c]⟩ ++ ⟨#[d]⟩ ++ t) := by
 refine⟨?_,?_,fun x hx=>?_⟩
 ·rw[fg,fg];show 1<=1+1+_;omega
 ·rw[fg,fg];show 1+1+t.length<=8;omega
 ·have hx:x∈(#[c]++#[d]++t.cps).toList:=hx
  simp only[bP,ar] at hx
  rcases hx with (hx | hx) | hx
  ·have:x=c:=by simpa using hx
   omega
  ·have:x=d:=by simpa using hx
   omega
  ·exact ha x hx
theorem su {c d c' d':Nat}{t t':Str}(h:(⟨#[c]⟩++⟨#[d]⟩++t:Str)=⟨#[c']⟩++⟨#[d']⟩++t'):c=c'/\d=d':=by
 have h:(#[c]++#[d]++t.cps).toList=(#[c']++#[d']++t'.cps).toList:=congrArg (fun s:Str=>s.cps.toList) h
 simp only[bP,List.cons_append,List.nil_append,List.cons.injEq] at h
 exact⟨h.1,h.2.1⟩
def Low (t:Str):Prop:=∀x∈t.cps.toList,97<=x/\x<=122
theorem Low.app {x y:Str}(hx:Low x) (hy:Low y):Low (x++y):=fun c hc=>by
 have hc:c∈(x.cps++y.cps).toList:=hc
 rw[bP] at hc
 rcases ar.mp hc with h | h
 ·exact hx c h
 ·exact hy c h
theorem Low.slice {x:Str}(h:Low x) (l u:Option Int):Low (Txt.slice x l u):=by
 unfold Txt.slice
 split
 ·exact h
 ·intro c hc
  have hc:c∈(List.filterMap (x.cps[·]?) (Builtin.Str.strSliceIndices l u 1 x.length)).toArray.toList:=hc
  rw[List.toList_toArray] at hc
  obtain⟨i,_,e⟩:=bR.mp hc
  exact h c (by simpa using Array.mem_of_getElem? e)
theorem Low.joinS {sep:Str}(hs:Low sep):∀ {ys:List Str},(∀y∈ys,Low y)->Low (Str.join sep ys)
 | [],_=>fun c hc=>by
  have hc:c∈(#[]:Array Nat).toList:=hc
  simp at hc
 | [y],h=>h y (by simp)
 | y::z::r,h=>by
  show Low (y++sep++Str.join sep (z::r))
  exact((h y (by simp)).app hs).app (Low.joinS hs fun x hx=>h x (aI _ hx))
theorem Low.join {sep:Str}{ys:List Str}(hs:Low sep) (h:∀y∈ys,Low y):Low (Txt.join sep ys):=by
 unfold Txt.join
 rw[StrLaws.glued_eq_join]
 exact Low.joinS hs h
theorem jF {α:Type}{l:List α}{x:α}(h:l.Nodup) (hx:x∉l):(l++[x]).Nodup:=by
 rw[List.nodup_append]
 exact⟨h,by simp,fun a ha b hb=>by
  have:b=x:=by simpa using hb
  subst this
  exact fun e=>hx (e ▸ ha)⟩
theorem uc {r st:Int}{i j:Nat}(hst:st=1∨st=675∨st=27∨st=211∨st=79) (hj:j<i) (hi:i<60):(r+st * (j:Int)) % 676≠(r+st * (0+(i:Nat):Int)) % 676:=by
 rcases hst with rfl | rfl | rfl | rfl | rfl <;> omega
theorem scNames:FnScope ["_law_pen","_law_many","_law_letters","_law_begin","_law_step","_law_tail","_law_found","_law_k","_law_number","_law_cut"] ["_law_pen","_law_many"] (ck ga):=⟨rfl,rfl,rfl,by decide +kernel,rfl,by decide +kernel,by decide +kernel⟩
theorem rj {f:Addr}{fd:FuncData}(F:Fun K "_law_names" "_law_names" ga f fd) (B:Blt mg) (c_law_take:Cal P w K mg base 1 "_law_take" ["_law_pen", "_law_many"] (hU K)):FnOk P w K mg base CX0 2 f fd ["_law_pen", "_law_many"] (kD K) := by
 refine F.ok scNames (fun vs H Q E h=>?_) (fun cdv A outer s H vs Q E hr h=>?_)
 ·obtain⟨p,a,m,rfl,_⟩:=h
  rfl
 ·obtain⟨p, a, m, rfl, hP, hm, k⟩ := h
  have nd:=scNames.nd
  refine⟨_,(cg (cy (i:=2) nd rfl (Or.inr rfl) jH)
   (cg (cy (i:=3) nd rfl (Or.inr rfl) (cr c_law_take (hr.mono (by decide)) rfl (ce (pv 0) (ce ci cf))))
   (cg (cM (PW.pt (ms (cC gU (pv 1) ci (cE _)) (kH (cC (dg hr.units) (cr c_law_take (hr.mono (by decide)) rfl (ce (pv 0) (ce ci cf))) ci (cE _))))) (cp (cz (cN (ck ga) ["_law_pen","_law_many","_law_letters","_law_begin","_law_step","_law_tail","_law_found","_law_k","_law_number","_law_cut"] ["_law_k"] [2,3] ["_law_k","_law_letters","_law_begin"] rfl (dY rfl B.range (ce (pv 1) cf)) (fun _ _ _ _ _=>(cB (i:=0) (show (["_law_k","_law_letters","_law_begin"]:List Str).Nodup by decide) rfl (Or.inl rfl))) (fun _ _ _ _ _=>cY) (fun _ _ _ _ _=>(cu (cA K hr.units) (pv 1) (cG d6 (cG cO (pv 2) (cG fv ci (pv 0))) ci) (fun _ _=>rfl)))))) cH)
   (cg (cy (i:=4) nd rfl (Or.inl rfl) (cu (cA K hr.units) (cZ (ce ci (ce ci (ce ci (ce ci (ce ci cf gX) gX) gX) gX) gX)) (cr c_law_take (hr.mono (by decide)) rfl (ce (pv 0) (ce ci cf))) (fun _ _=>rfl)))
   (cg (cy (i:=5) nd rfl (Or.inl rfl) (uR K jH (ce (cN (ck ga) ["_law_pen","_law_many","_law_letters","_law_begin","_law_step","_law_tail","_law_found","_law_k","_law_number","_law_cut"] ["_law_k"] [2,0] ["_law_k","_law_letters","_law_pen"] rfl (dY rfl B.range (ce (cr c_law_take (hr.mono (by decide)) rfl (ce (pv 0) (ce ci cf))) cf)) (fun _ _ _ _ _=>(cB (i:=0) (show (["_law_k","_law_letters","_law_pen"]:List Str).Nodup by decide) rfl (Or.inl rfl))) (fun _ _ _ _ _=>cY) (fun _ _ _ _ _=>(cu (cA K hr.units) (pv 1) (cr c_law_take (hr.mono (by decide)) rfl (ce (pv 2) (ce ci cf))) (fun _ _=>rfl)))) cf)))
   (cg (cy (i:=6) nd rfl (Or.inl rfl) (cZ cf))
   (cg (dD PassesOwn.never rfl (dY rfl B.range (ce (pv 1) cf)) (cB (i:=7) nd rfl (Or.inl rfl)) (cg (cy (i:=8) nd rfl (Or.inl rfl) (cG d6 (cG cO (pv 3) (cG fv (pv 4) (pv 7))) ci))
   (cg (cy (i:=9) nd rfl (Or.inl rfl) (cr c_law_take (hr.mono (by decide)) rfl (ce (pv 0) (ce (cG cO (dC K B (ce (pv 5) cf)) ci) cf))))
   (cp (dU (fN K (pv 6) (ce (cG cO (cG cO (cu (cA K hr.units) (pv 2) (cG iT (pv 8) ci) (fun _ _=>rfl)) (cu (cA K hr.units) (pv 2) (cG d6 (pv 8) ci) (fun _ _=>rfl))) (ip (nW K) (pv 5) i6 (iV (pv 9)))) cf)))))))
   (cp (cz (pv 6)))))))))),?_⟩
  refine⟨_,rfl,p,a,676,rfl,hP,by decide,by decide,fun r1 H1 h10 h11 v1 e1=>?_⟩
  have b1:=But.of_eq e1
  refine⟨_,rfl,.int ⟨_,rfl,?_⟩⟩
  have lL:("abcdefghijklmnopqrstuvwxyz":Str).length<=sizeLine:=by decide +kernel
  refine cK (fun h1=>?a) (fun h1=>?b)
  case' a =>
   refine⟨_,rfl,p,a,4,rfl,hP.but b1 v1,by decide,by decide,fun r2 H2 h20 h21 v2 e2=>.sc rfl ⟨_,rfl,?_⟩⟩
   have b2:=b1.trans (But.of_eq e2)
   have h1:(m:Int)<27:=ax h1
   refine cK (fun _=>?c) (fun _=>?d)
   case c =>
    refine⟨_,rfl,_,rfl,by omega,by omega,?_⟩
    refine iw (fun D i acc σ' H'=>∃o ss,σ'=[o,some (.str "abcdefghijklmnopqrstuvwxyz"),some (.int r1)]/\acc=List.map V.str ss/\ss.length=i/\(∀(j:Nat) (s:Str),ss[j]? = some s->∃c:Nat,s=⟨#[c]⟩/\(c:Int)=97+(r1+7 * (j:Int)) % 26)/\ss.Nodup/\PenV H' p a/\But p H H'/\H D=none/\p≠D) fun D hD=>⟨?_,?_,?_⟩
    ·have hDp:=v2.ne hD
     have hD0:=b2.free (Ne.symm hDp) hD
     exact⟨none,[],rfl,rfl,rfl,(fun j s e=>by simp at e),bB,v2.upd hDp,b2.at hD0,hD0,hDp⟩
    ·rintro i acc σ' H' hi ⟨o, ss, rfl, rfl, hl, hj, hnd, v, b, hD0, hDp⟩ hacc
     refine eF ?_
     refine⟨_,rfl,_,rfl,_,rfl,_,_,rfl,rfl,.inl ⟨by decide,by decide⟩,.int ⟨_,_,rfl,rfl,(by show (0:Int)<_;decide),?_⟩⟩
     have g0:=bf (r1+7 * (0+(i:Nat):Int)) (show (26:Int)≠0 by decide)
     have g1:=bo (r1+7 * (0+(i:Nat):Int)) (show (0:Int)<26 by decide)
     refine .str lL (jY g0 g1) ⟨hacc,?_,_,ss++[⟨#[97+((r1+7 * (0+(i:Nat):Int)) % 26).toNat]⟩],rfl,by simp,by simp[hl],?_,?_,v.upd hDp,b.at hD0,hD0,hDp⟩
     ·rw[ab,hl];exact cw (by omega)
     ·intro j s e
      by_cases q:j<ss.length
      ·rw[bD q] at e
       exact hj j s e
      ·rw[bx (by omega)] at e
       have:j=i:=by
        have:=(ak.mp e).1
        simp at this
        omega
       subst this
       rw[hl,Nat.sub_self] at e
       cases e
       exact⟨_,rfl,by omega⟩
     ·refine jF hnd fun hm=>?_
      obtain⟨j,hjl,e⟩:=bG.mp hm
      obtain⟨c,ec,hc⟩:=hj j _ (ap hjl)
      rw[e] at ec
      have ec:[97+((r1+7 * (0+(i:Nat):Int)) % 26).toNat]=[c]:=congrArg (fun s:Str=>s.cps.toList) ec
      have ec:97+((r1+7 * (0+(i:Nat):Int)) % 26).toNat=c:=by simpa using ec
      omega
    ·rintro acc σ' H' ⟨o,ss,rfl,rfl,hl,hj,hnd,v,b,hD0,hDp⟩ hacc
     refine k D ss H' (by simpa using hl) hnd (fun s hs=>?_) hacc (Ne.symm hDp) v b
     obtain⟨j,hjl,e⟩:=bG.mp hs
     obtain⟨c,ec,hc⟩:=hj j _ (ap hjl)
     rw[e] at ec
     subst ec
     exact oO (by omega) (by omega)
   have v1:=v2
   have b1:=b2
  all_goals
   refine⟨(by show 5<=sizeLine;decide),fun l hl=>?_⟩
   have hpl:=v1.ne hl
   have b1:=b1.at (o:=.lst [V.int 1,V.int 675,V.int 27,V.int 211,V.int 79]) (b1.free (Ne.symm hpl) hl)
   refine⟨_,rfl,p,a,5,rfl,hP.but b1 (v1.upd hpl),by decide,by decide,fun r3 H3 h30 h31 v3 e3=>?_⟩
   have hl3:H3 l=some (.lst [V.int 1,V.int 675,V.int 27,V.int 211,V.int 79]):=(e3 l (Ne.symm hpl)).trans cn
   have b3:=b1.trans (But.of_eq e3)
   obtain⟨st,est,hst⟩:∃st,atI [V.int 1,V.int 675,V.int 27,V.int 211,V.int 79] r3=some (.int st)/\(st=1∨st=675∨st=27∨st=211∨st=79):=by
    have hr3:r3=0∨r3=1∨r3=2∨r3=3∨r3=4:=by omega
    rcases hr3 with rfl | rfl | rfl | rfl | rfl
    ·exact⟨_,rfl,by omega⟩
    ·exact⟨_,rfl,by omega⟩
    ·exact⟨_,rfl,by omega⟩
    ·exact⟨_,rfl,by omega⟩
    ·exact⟨_,rfl,by omega⟩
   refine .lst (.of hl3) est ?_
   clear hl3 e3
   refine⟨rfl,?_⟩
   refine⟨_,rfl,p,a,7,rfl,hP.but b3 v3,by decide,by decide,fun r4 H4 h40 h41 v4 e4=>⟨r4,rfl,by omega,by omega,?_⟩⟩
   have b4:=b3.trans (But.of_eq e4)
   refine iw (fun D i acc σ' H'=>∃o ys,σ'=[o,some (.str "abcdefghijklmnopqrstuvwxyz"),some (.ref p)]/\acc=List.map V.str ys/\ys.length=i/\(∀y∈ys,y.length=1/\Low y)/\PenV H' p a/\But p H H'/\H D=none/\p≠D) fun D hD=>⟨?_,?_,?_⟩
   ·have hDp:=v4.ne hD
    have hD0:=b4.free (Ne.symm hDp) hD
    exact⟨none,[],rfl,rfl,rfl,(fun y hy=>by cases hy),v4.upd hDp,b4.at hD0,hD0,hDp⟩
   ·rintro i acc σ' H' hi ⟨o, ys, rfl, rfl, hl, hys, v, b, hD0, hDp⟩ hacc
    refine eF ?_
    refine⟨_,rfl,_,rfl,p,a,26,rfl,hP.but b v,by decide,by decide,fun r5 H5 h50 h51 v5 e5=>?_⟩
    refine .str lL (jY h50 h51) ⟨(e5 D (Ne.symm hDp)).trans hacc,?_,_,ys++[⟨#[97+r5.toNat]⟩],rfl,by simp,by simp[hl],?_,v5.upd hDp,(b.trans (But.of_eq e5)).at hD0,hD0,hDp⟩
    ·rw[ab,hl];exact cw (by omega)
    ·intro y hy
     rcases ar.mp hy with hy | hy
     ·exact hys y hy
     ·have:y=⟨#[97+r5.toNat]⟩:=by simpa using hy
      subst this
      exact⟨rfl,(oO (by omega) (by omega)).2.2⟩
   ·rintro acc σ' H5 ⟨o, ys, rfl, rfl, hl, hys, v5, b5, hD0, hDp⟩ hacc
    have hsum:=uE (n:=1) fun y hy=>Nat.le_of_eq (hys y hy).1
    have hlj:=qL "" ys
    have e0:("":Str).length=0:=by decide +kernel
    have hj:Low (Txt.join "" ys):=Low.join (fun c hc=>by
     have hc:c∈("":Str).cps.toList:=hc
     rw[show ("":Str).cps.toList=[] by decide +kernel] at hc
     cases hc) fun y hy=>(hys y hy).2
    rw[e0] at hlj
    refine⟨_,D,ys,rfl,rfl,hacc,by rw[e0];omega,?_⟩
    have htl:(Txt.join "" ys).length<=6:=by omega
    generalize Txt.join "" ys=z at hj htl ⊢
    have hz:z.length<=sizeLine:=bd (cw (by omega))
    refine⟨(by show 0<=sizeLine;decide),fun fl hfl=>?_⟩
    have hpf:=v5.ne hfl
    have hf0:=b5.free (Ne.symm hpf) hfl
    refine⟨_,rfl,_,rfl,by omega,by omega,?_⟩
    refine fi (fun i σ H'=>∃o7 o8 o9 ss,σ=[some (.ref p),some (.int (m:Int)),some (.str "abcdefghijklmnopqrstuvwxyz"),some (.int r1),some (.int st),some (.str z),some (.ref fl),o7,o8,o9]/\H' fl=some (.lst (List.map V.str ss))/\ss.length=i /\
        (∀(j:Nat) (s:Str),ss[j]? = some s->∃(c d:Nat) (x:Str),s=⟨#[c]⟩++⟨#[d]⟩++x/\(c:Int)=97+(r1+st * (j:Int)) % 676 / 26/\(d:Int)=97+(r1+st * (j:Int)) % 676 % 26)/\(∀s∈ss,Nm s)/\ss.Nodup/\PenV H' p a/\But p H H')
     ⟨none,none,none,[],rfl,cn,rfl,(fun j s e=>by simp at e),(fun s hs=>by cases hs),bB,v5.upd hpf,b5.at hf0⟩ ?_ ?_
    ·rintro i σ H6 hi ⟨o7, o8, o9, ss, rfl, hf, hl6, hj6, hnm, hnd6, v6, b6⟩
     refine⟨_,rfl,_,rfl,_,rfl,_,_,rfl,rfl,.inl ⟨by omega,by omega⟩,.int ⟨_,_,rfl,rfl,(by show (0:Int)<_;decide),?_⟩⟩
     have n0:=bf (r1+st * (0+(i:Nat):Int)) (show (676:Int)≠0 by decide)
     have n1:=bo (r1+st * (0+(i:Nat):Int)) (show (0:Int)<676 by decide)
     have hnew:∀j:Nat,j<i->(r1+st * (j:Int)) % 676≠(r1+st * (0+(i:Nat):Int)) % 676:=fun j hj=>uc hst hj (by omega)
     have hnum:(r1+st * (0+(i:Nat):Int)) % 676=(r1+st * (i:Int)) % 676:=by rw[Int.zero_add]
     refine⟨_,rfl,_,rfl,_,_,rfl,⟨hz,rfl⟩,.int ⟨p,a,_,rfl,hP.but b6 v6,by omega,by omega,fun r7 H7 h70 h71 v7 e7=>?_⟩⟩
     have hf7:H7 fl=some (.lst (List.map V.str ss)):=(e7 fl (Ne.symm hpf)).trans hf
     have b7:=b6.trans (But.of_eq e7)
     have sl:=Txt.slice_le z none (some r7)
     have q0:0<=((r1+st * (0+(i:Nat):Int)) % 676) / 26/\((r1+st * (0+(i:Nat):Int)) % 676) / 26<26:=by omega
     have q1:0<=((r1+st * (0+(i:Nat):Int)) % 676) % 26/\((r1+st * (0+(i:Nat):Int)) % 676) % 26<26:=by omega
     refine⟨_,rfl,.inl ⟨rfl,_,.of hf7⟩,?_⟩
     refine⟨_,rfl,_,rfl,_,_,rfl,rfl,⟨by decide,by decide⟩,.str lL (jY q0.1 q0.2) ⟨_,rfl,_,rfl,_,_,rfl,rfl,(by show (0:Int)<_;decide),.str lL (jY q1.1 q1.2) (.str (by show 1+1<=sizeLine;decide) ⟨_,rfl,_,rfl,_,rfl,.str hz (.str ?_ ⟨fl,_,_,rfl,rfl,hf7,?_,?_⟩)⟩)⟩⟩
     ·rw[fg]
      have:=cw (n:=8) (by omega)
      show 1+1+_<=sizeLine
      omega
     ·rw[ab,hl6];exact cw (by omega)
     ·refine⟨_, _, _, ss ++ [⟨#[97+(((r1+st * (0+(i:Nat):Int)) % 676) / 26).toNat]⟩ ++ ⟨#[97+(((r1+st * (0+(i:Nat):Int)) % 676) % 26).toNat]⟩ ++ Txt.slice z none (some r7)], rfl, ?_, by simp[hl6], ?_, ?_, ?_, v7.upd hpf, b7.at hf0⟩
      ·rw[cn];simp
      ·intro j s e
       by_cases q:j<ss.length
       ·rw[bD q] at e
        exact hj6 j s e
       ·rw[bx (by omega)] at e
        have:j=i:=by
         have:=(ak.mp e).1
         simp at this
         omega
        subst this
        rw[hl6,Nat.sub_self] at e
        cases e
        exact⟨_,_,_,rfl,by omega,by omega⟩
      ·intro s hs
       rcases ar.mp hs with hs | hs
       ·exact hnm s hs
       ·rw[aQ.mp hs]
        exact uJ (by omega) (by omega) (by omega) (hj.slice _ _)
      ·refine jF hnd6 fun hm=>?_
       obtain⟨j,hjl,e⟩:=bG.mp hm
       obtain⟨c,d,x,ec,hc,hd⟩:=hj6 j _ (ap hjl)
       rw[e] at ec
       obtain⟨e1,e2⟩:=su ec
       refine hnew j (by omega) ?_
       omega
    ·rintro σ H6 ⟨o7,o8,o9,ss,rfl,hf,hl6,hj6,hnm,hnd6,v6,b6⟩
     exact⟨_,rfl,k fl ss H6 (by simpa using hl6) hnd6 hnm hf (Ne.symm hpf) v6 b6⟩
def gQ (xs:List Nat):List V:=xs.map fun x:Nat=>V.int (x:Int)
theorem Rep.tieBut {H H':Hp}{p:Addr}{ys:List V}(hp:H p=some (.lst ys)) (b:But p H H') {v:V}{e:Nat × Nat}(h:Rep H v (et e)):Rep H' v (et e):=by
 obtain⟨a,rfl,ha⟩:=jW h
 exact g6 (b a _ (d4 ha hp (by intro z;cases z)) ha)
theorem RepAll.tieBut {H H':Hp}{p:Addr}{ys:List V}(hp:H p=some (.lst ys)) (b:But p H H'):∀ {es:List (Nat × Nat)}{xs:List V},RepAll H xs (es.map et)->RepAll H' xs (es.map et)
 | [],xs,h=>by rw[RepAll.nilI h];exact .nil
 | e::es,xs,h=>by
  obtain⟨y,ys',rfl,a,c⟩:=RepAll.consI h
  exact .cons (Rep.tieBut hp b a) (RepAll.tieBut hp b c)
theorem rG {H:Hp}{p a:Addr}(v:PenV H p a):∃ys,H p=some (.lst ys):=let ⟨_,_,e,_⟩:=v;⟨_,e⟩
theorem jM {xs:List Nat}{i:Nat}(h:i<xs.length):atI (gQ xs) (i:Int)=some (.int ((xs[i]:Nat):Int)):=eR (by simp[gQ,h])
open Classical in
theorem uU {xs:List Nat}(nd:xs.Nodup):∃r:Nat->Nat,∀i v,xs[i]? = some v->r v=i:=by
 refine⟨fun v=>if h:∃i,xs[i]? = some v then h.choose else 0,fun i v hv=>?_⟩
 have h:∃i,xs[i]? = some v:=⟨i,hv⟩
 simp only[dif_pos h]
 have h1:=h.choose_spec
 have hl:=(ak.mp h1).1
 exact(List.getElem?_inj hl nd).mp (h1.trans hv.symm)
theorem qU (xs:List Nat) (j i:Nat):(xs.take j++i::xs.drop j).Perm (i::xs):=by
 have:=(List.perm_middle (a:=i) (l₁:=xs.take j) (l₂:=xs.drop j))
 rwa [List.take_append_drop] at this
def mG (K:W.Frag):Sp:=fun vs H Q _=>∃(p a:Addr) (n c:Nat),vs=[.ref p,.int (n:Int),.int (c:Int)]/\Pen K H p a/\n<=60/\c<=400/\(n=0->c=0) /\
 ∀lt refs es H',H' lt=some (.lst refs)->RepAll H' refs (es.map et)->(∀e∈es,e.1<n/\e.2<n)->MG.Ris es->es.length<=c->lt≠p->PenV H' p a->But p H H'->Q (.ref lt) H'
theorem scTies:FnScope ["_law_pen","_law_size","_law_count","_law_order","_law_k","_law_found","_law_one","_law_other","_law_pair"] ["_law_pen","_law_size","_law_count"] (ck iW):=⟨rfl,rfl,rfl,by decide +kernel,rfl,by decide +kernel,by decide +kernel⟩
theorem tv {f:Addr}{fd:FuncData}(F:Fun K "_law_ties" "_law_ties" iW f fd) (B:Blt mg) (c_law_take:Cal P w K mg base 1 "_law_take" ["_law_pen", "_law_many"] (hU K)):FnOk P w K mg base CX0 2 f fd ["_law_pen", "_law_size", "_law_count"] (mG K) := by
 refine F.ok scTies (fun vs H Q E h=>?_) (fun cdv A outer s H vs Q E hr h=>?_)
 ·obtain⟨p,a,n,c,rfl,_⟩:=h
  rfl
 ·obtain⟨p, a, n, c, rfl, hP, hn, hc, hn0, k⟩ := h
  have nd:=scTies.nd
  have v0:=hP.2
  refine⟨_,(cg (cy (i:=3) nd rfl (Or.inl rfl) (cZ cf))
   (cg (dD PassesOwn.never rfl (dY rfl B.range (ce (pv 1) cf)) (cB (i:=4) nd rfl (Or.inl rfl)) (cp (dU (qK K (pv 3) (ce (cr c_law_take (hr.mono (by decide)) rfl (ce (pv 0) (ce (cG cO (pv 4) ci) cf))) (ce (pv 4) cf))))))
   (cg (cy (i:=5) nd rfl (Or.inl rfl) (cZ cf))
   (cg (dD PassesOwn.never rfl (dY rfl B.range (ce (pv 2) cf)) (cB (i:=4) nd rfl (Or.inl rfl)) (cg (cy (i:=6) nd rfl (Or.inl rfl) (cr c_law_take (hr.mono (by decide)) rfl (ce (pv 0) (ce (pv 1) cf))))
   (cg (cy (i:=7) nd rfl (Or.inl rfl) (cr c_law_take (hr.mono (by decide)) rfl (ce (pv 0) (ce (pv 1) cf))))
   (cg (cM (cC (dg hr.units) (cr c_law_take (hr.mono (by decide)) rfl (ce (pv 0) (ce ci cf))) ci (cE _)) (cp (cy (i:=7) nd rfl (Or.inl rfl) (cG d6 (cG cO (pv 6) ci) (pv 1)))) cH)
   (cg (cy (i:=8) nd rfl (Or.inl rfl) (fu (ce (cu (cA K hr.units) (pv 3) (vG rfl B (ce (pv 6) (ce (pv 7) cf))) (fun _ _=>rfl)) (ce (cu (cA K hr.units) (pv 3) (nv rfl B (ce (pv 6) (ce (pv 7) cf))) (fun _ _=>rfl)) cf))))
   (cp (cM (PW.pt (ms (cC (eJ hr.units) (pv 6) (pv 7) (cE _)) (kH (cC (gI K hr.units) (pv 8) (pv 5) (by with_unfolding_all rfl))))) (cp (dU (fN K (pv 5) (ce (pv 8) cf)))) cH)))))))
   (cp (cz (pv 5))))))),?_⟩
  refine⟨(by show 0<=sizeLine;decide),fun lo hlo=>?_⟩
  have hpo:=v0.ne hlo
  refine⟨_,rfl,_,rfl,by omega,by omega,?_⟩
  refine fi (fun i σ H'=>∃o4 xs,σ=[some (.ref p),some (.int (n:Int)),some (.int (c:Int)),some (.ref lo),o4,none,none,none,none]/\H' lo=some (.lst (gQ xs))/\xs.Perm (List.range i)/\PenV H' p a/\But p H H')
   ⟨none,[],rfl,cn,List.Perm.refl _,v0.upd hpo,(But.refl p H).at hlo⟩ ?_ ?_
  ·rintro i σ H1 hi ⟨o4,xs,rfl,ho1,hpm,v1,b1⟩
   have hi:i<n:=by simpa using hi
   have hl1:=hpm.length_eq
   rw[aF] at hl1
   refine⟨_,rfl,.inl ⟨rfl,_,.of ho1⟩,_,rfl,_,rfl,.int ⟨p,a,_,rfl,hP.but b1 v1,by omega,by omega,fun r H2 h0 h1 v2 e2=>?_⟩⟩
   obtain⟨j,rfl⟩:=be h0
   have ho2:H2 lo=some (.lst (gQ xs)):=(e2 lo (Ne.symm hpo)).trans ho1
   have hln:(gQ xs).length=i:=by simp[gQ,hl1]
   refine⟨_,rfl,lo,_,_,j,_,rfl,rfl,rfl,ho2,by omega,by rw[hln];exact cw (by omega),?_⟩
   refine⟨_,xs.take j++i::xs.drop j,rfl,?_,?_,v2.upd hpo,(b1.trans (But.of_eq e2)).at hlo⟩
   ·rw[cn]
    simp[gQ,List.map_take,List.map_drop]
   ·rw[List.range_succ]
    exact(qU xs j i).trans ((List.Perm.cons i hpm).trans (List.perm_append_singleton i (List.range i)).symm)
  ·rintro σ H1 ⟨o4, xs, rfl, ho1, hpm, v1, b1⟩
   have hpm:xs.Perm (List.range n):=by simpa using hpm
   have hl1:=hpm.length_eq
   rw[aF] at hl1
   have xnd:xs.Nodup:=hpm.nodup_iff.mpr List.nodup_range
   have xlt:∀x∈xs,x<n:=fun x hx=>aN.mp (hpm.mem_iff.mp hx)
   obtain⟨ρ,hρ⟩:=uU xnd
   refine⟨(by show 0<=sizeLine;decide),fun lf hlf=>?_⟩
   have hpf:=v1.ne hlf
   have hf0:=b1.free (Ne.symm hpf) hlf
   have hof:lo≠lf:=cq ho1 hlf
   refine⟨_,rfl,_,rfl,by omega,by omega,?_⟩
   refine fi (fun i σ H'=>∃o4 o6 o7 o8 refs es,σ=[some (.ref p),some (.int (n:Int)),some (.int (c:Int)),some (.ref lo),o4,some (.ref lf),o6,o7,o8]/\H' lo=some (.lst (gQ xs))/\H' lf=some (.lst refs)/\RepAll H' refs (es.map et)/\(∀e∈es,e.1<n/\e.2<n)/\(∀e∈es,ρ e.1<ρ e.2)/\es.length<=i/\PenV H' p a/\But p H H')
    ⟨_,none,none,none,[],[],rfl,by rw[cm hof];exact ho1,cn,.nil,(fun e he=>by cases he),(fun e he=>by cases he),ac _,v1.upd hpf,b1.at hf0⟩ ?_ ?_
   ·rintro i σ H2 hi ⟨o4,o6,o7,o8,refs,es,rfl,ho2,hf2,rp2,he2,hr2,hl2,v2,b2⟩
    have hi:i<c:=by simpa using hi
    have hnp:0<n:=by
     by_cases q:n=0
     ·have:=hn0 q;omega
     ·omega
    refine⟨_,rfl,_,rfl,p,a,_,rfl,hP.but b2 v2,by omega,by omega,fun r1 H3 h10 h11 v3 e3=>?_⟩
    refine⟨_,rfl,_,rfl,p,a,_,rfl,hP.but (b2.trans (But.of_eq e3)) v3,by omega,by omega,fun r2 H4 h20 h21 v4 e4=>?_⟩
    obtain⟨x,rfl⟩:=be h10
    obtain⟨y0,rfl⟩:=be h20
    have hx:x<n:=by omega
    have hy0:y0<n:=by omega
    clear h10 h11 h20 h21
    have b4:=(b2.trans (But.of_eq e3)).trans (But.of_eq e4)
    refine⟨_,rfl,p,a,2,rfl,hP.but b4 v4,by decide,by decide,fun r5 H5 _ _ v5 e5=>.sc rfl ⟨_,rfl,?_⟩⟩
    have b5:=b4.trans (But.of_eq e5)
    obtain⟨_,hpv⟩:=rG v2
    have bb:=((But.of_eq e3).trans (But.of_eq e4)).trans (But.of_eq e5)
    have ho5:=bb lo _ (Ne.symm hpo) ho2
    have hf5:=bb lf _ (Ne.symm hpf) hf2
    have rp5:=RepAll.tieBut hpv bb rp2
    refine cK (fun _=>?_) (fun _=>?_)
    ·refine⟨_, rfl, .int ⟨_, rfl, _, _, rfl, rfl, (by show (0:Int)<(n:Int); omega), ?_⟩⟩
     have g0:=bf ((x:Int)+1) (show (n:Int)≠0 by omega)
     have g1:=bo ((x:Int)+1) (show (0:Int)<(n:Int) by omega)
     obtain⟨y,ey⟩:=be g0
     have hy:y<n:=by omega
     dsimp only
     rw[ey]
     clear ey g0 g1
     have em:(if (y:Int)<(x:Int) then (y:Int) else (x:Int))=((min x y:Nat):Int):=by split <;> omega
     have eM:(if (y:Int) > (x:Int) then (y:Int) else (x:Int))=((max x y:Nat):Int):=by split <;> omega
     have hm:min x y<xs.length:=by omega
     have hM:max x y<xs.length:=by omega
     refine⟨_,rfl,_,rfl,_,rfl,_,_,rfl,?_⟩
     try dsimp only
     rw[em]
     refine .lst (.of ho5) (jM hm) ⟨_,rfl,_,rfl,_,rfl,_,_,rfl,?_⟩
     try dsimp only
     rw[eM]
     refine .lst (.of ho5) (jM hM) ⟨(by show 2<=sizeLine;decide),fun tq htq=>?_⟩
     have sq:=Same.new (o:=.tup [V.int ((xs[min x y]:Nat):Int),V.int ((xs[max x y]:Nat):Int)]) htq
     have hpq:=v5.ne htq
     have htq6:upd H5 tq (.tup [V.int ((xs[min x y]:Nat):Int),V.int ((xs[max x y]:Nat):Int)]) tq=some (.tup [V.int ((xs[min x y]:Nat):Int),V.int ((xs[max x y]:Nat):Int)]):=cn
     have ho6:=sq _ _ ho5
     have hf6:=sq _ _ hf5
     have rp6:=rp5.same sq
     have v6:PenV _ p a:=v5.upd (o:=.tup [V.int ((xs[min x y]:Nat):Int),V.int ((xs[max x y]:Nat):Int)]) hpq
     have b6:=b5.at (o:=.tup [V.int ((xs[min x y]:Nat):Int),V.int ((xs[max x y]:Nat):Int)]) (b5.free (Ne.symm hpq) htq)
     have hfq:lf≠tq:=cq hf5 htq
     generalize upd H5 tq (.tup [V.int ((xs[min x y]:Nat):Int),V.int ((xs[max x y]:Nat):Int)])=H6 at htq6 ho6 hf6 rp6 v6 b6 ⊢
     have no:∃(o4 o6 o7 o8:Option V) (refs:List V) (es:List (Nat × Nat)),[some (V.ref p),some (V.int (n:Int)),some (V.int (c:Int)),some (V.ref lo),some (V.int (0+(i:Nat):Int)),some (V.ref lf),some (V.int (x:Int)),some (V.int (y:Int)),some (V.ref tq)]=[some (.ref p),some (.int (n:Int)),some (.int (c:Int)),some (.ref lo),o4,some (.ref lf),o6,o7,o8]/\H6 lo=some (.lst (gQ xs))/\H6 lf=some (.lst refs)/\RepAll H6 refs (es.map et)/\(∀e∈es,e.1<n/\e.2<n)/\(∀e∈es,ρ e.1<ρ e.2)/\es.length<=i+1/\PenV H6 p a/\But p H H6:=⟨_,_,_,_,refs,es,rfl,ho6,hf6,rp6,he2,hr2,by omega,v6,b6⟩
     refine⟨_,rfl,_,rfl,.sc rfl ⟨_,rfl,cK (fun hne=>?_) (fun _=>dP no)⟩⟩
     have hne:(!decide (V.int (x:Int)=V.int (y:Int)))=true:=hne
     have hxy:x≠y:=fun z=>by rw[z] at hne;simp at hne
     refine⟨_,rfl,_,rfl,.tr hf6 rp6 (g6 (i:=xs[min x y]) (j:=xs[max x y]) htq6) (gN es) rfl (by show 1<=16;decide) ⟨_,rfl,cK (fun _=>?_) (fun _=>no)⟩⟩
     have rlen:=rp6.len
     rw[ab] at rlen
     refine⟨_,rfl,.inl ⟨rfl,_,.of hf6⟩,_,rfl,lf,_,_,rfl,rfl,hf6,by rw[rlen];exact cw (by omega),?_⟩
     refine⟨_,_,_,_,refs++[.ref tq],es++[(xs[min x y],xs[max x y])],rfl,?_,cn,?_,?_,?_,?_,v6.upd hpf,b6.at hf0⟩
     ·rw[cm hof];exact ho6
     ·rw[aj]
      refine RepAll.append (RepAll.tieBut (p:=lf) hf6 But.upd rp6) (.cons (g6 ?_) .nil)
      rw[cm (Ne.symm hfq)];exact htq6
     ·intro e he
      rcases ar.mp he with g | g
      ·exact he2 e g
      ·rw[aQ.mp g];exact⟨xlt _ (bu hm),xlt _ (bu hM)⟩
     ·intro e he
      rcases ar.mp he with g | g
      ·exact hr2 e g
      ·rw[aQ.mp g]
       have r1:=hρ (min x y) _ (ap hm)
       have r2:=hρ (max x y) _ (ap hM)
       show ρ xs[min x y]<ρ xs[max x y]
       omega
     ·rw[aU];show es.length+1<=i+1;omega
    ·obtain⟨y, ey⟩:∃y, y=y0 := ⟨_, rfl⟩
     have hy:y<n:=by omega
     rw[<- ey]
     clear ey
     have em:(if (y:Int)<(x:Int) then (y:Int) else (x:Int))=((min x y:Nat):Int):=by split <;> omega
     have eM:(if (y:Int) > (x:Int) then (y:Int) else (x:Int))=((max x y:Nat):Int):=by split <;> omega
     have hm:min x y<xs.length:=by omega
     have hM:max x y<xs.length:=by omega
     refine⟨_,rfl,_,rfl,_,rfl,_,_,rfl,?_⟩
     try dsimp only
     rw[em]
     refine .lst (.of ho5) (jM hm) ⟨_,rfl,_,rfl,_,rfl,_,_,rfl,?_⟩
     try dsimp only
     rw[eM]
     refine .lst (.of ho5) (jM hM) ⟨(by show 2<=sizeLine;decide),fun tq htq=>?_⟩
     have sq:=Same.new (o:=.tup [V.int ((xs[min x y]:Nat):Int),V.int ((xs[max x y]:Nat):Int)]) htq
     have hpq:=v5.ne htq
     have htq6:upd H5 tq (.tup [V.int ((xs[min x y]:Nat):Int),V.int ((xs[max x y]:Nat):Int)]) tq=some (.tup [V.int ((xs[min x y]:Nat):Int),V.int ((xs[max x y]:Nat):Int)]):=cn
     have ho6:=sq _ _ ho5
     have hf6:=sq _ _ hf5
     have rp6:=rp5.same sq
     have v6:PenV _ p a:=v5.upd (o:=.tup [V.int ((xs[min x y]:Nat):Int),V.int ((xs[max x y]:Nat):Int)]) hpq
     have b6:=b5.at (o:=.tup [V.int ((xs[min x y]:Nat):Int),V.int ((xs[max x y]:Nat):Int)]) (b5.free (Ne.symm hpq) htq)
     have hfq:lf≠tq:=cq hf5 htq
     generalize upd H5 tq (.tup [V.int ((xs[min x y]:Nat):Int),V.int ((xs[max x y]:Nat):Int)])=H6 at htq6 ho6 hf6 rp6 v6 b6 ⊢
     have no:∃(o4 o6 o7 o8:Option V) (refs:List V) (es:List (Nat × Nat)),[some (V.ref p),some (V.int (n:Int)),some (V.int (c:Int)),some (V.ref lo),some (V.int (0+(i:Nat):Int)),some (V.ref lf),some (V.int (x:Int)),some (V.int (y:Int)),some (V.ref tq)]=[some (.ref p),some (.int (n:Int)),some (.int (c:Int)),some (.ref lo),o4,some (.ref lf),o6,o7,o8]/\H6 lo=some (.lst (gQ xs))/\H6 lf=some (.lst refs)/\RepAll H6 refs (es.map et)/\(∀e∈es,e.1<n/\e.2<n)/\(∀e∈es,ρ e.1<ρ e.2)/\es.length<=i+1/\PenV H6 p a/\But p H H6:=⟨_,_,_,_,refs,es,rfl,ho6,hf6,rp6,he2,hr2,by omega,v6,b6⟩
     refine⟨_,rfl,_,rfl,.sc rfl ⟨_,rfl,cK (fun hne=>?_) (fun _=>dP no)⟩⟩
     have hne:(!decide (V.int (x:Int)=V.int (y:Int)))=true:=hne
     have hxy:x≠y:=fun z=>by rw[z] at hne;simp at hne
     refine⟨_,rfl,_,rfl,.tr hf6 rp6 (g6 (i:=xs[min x y]) (j:=xs[max x y]) htq6) (gN es) rfl (by show 1<=16;decide) ⟨_,rfl,cK (fun _=>?_) (fun _=>no)⟩⟩
     have rlen:=rp6.len
     rw[ab] at rlen
     refine⟨_,rfl,.inl ⟨rfl,_,.of hf6⟩,_,rfl,lf,_,_,rfl,rfl,hf6,by rw[rlen];exact cw (by omega),?_⟩
     refine⟨_,_,_,_,refs++[.ref tq],es++[(xs[min x y],xs[max x y])],rfl,?_,cn,?_,?_,?_,?_,v6.upd hpf,b6.at hf0⟩
     ·rw[cm hof];exact ho6
     ·rw[aj]
      refine RepAll.append (RepAll.tieBut (p:=lf) hf6 But.upd rp6) (.cons (g6 ?_) .nil)
      rw[cm (Ne.symm hfq)];exact htq6
     ·intro e he
      rcases ar.mp he with g | g
      ·exact he2 e g
      ·rw[aQ.mp g];exact⟨xlt _ (bu hm),xlt _ (bu hM)⟩
     ·intro e he
      rcases ar.mp he with g | g
      ·exact hr2 e g
      ·rw[aQ.mp g]
       have r1:=hρ (min x y) _ (ap hm)
       have r2:=hρ (max x y) _ (ap hM)
       show ρ xs[min x y]<ρ xs[max x y]
       omega
     ·rw[aU];show es.length+1<=i+1;omega
   ·rintro σ H2 ⟨o4,o6,o7,o8,refs,es,rfl,ho2,hf2,rp2,he2,hr2,hl2,v2,b2⟩
    have hl2:es.length<=c:=by simpa using hl2
    exact⟨_,rfl,k lf refs es H2 hf2 rp2 he2 ⟨ρ,hr2⟩ hl2 (Ne.symm hpf) v2 b2⟩
structure Built (H:Hp) (n t:Addr) (ss:List Str) (es:List (Nat × Nat)):Prop where
 nm:H n=some (.lst (List.map V.str ss))
 nd:ss.Nodup
 ok:∀s∈ss,Nm s
 len:ss.length<=60
 ti:∃refs,H t=some (.lst refs)/\RepAll H refs (es.map et)
 val:∀e∈es,e.1<ss.length/\e.2<ss.length
 few:es.length<=401
theorem Built.same {H H':Hp}{n t:Addr}{ss:List Str}{es:List (Nat × Nat)}(h:Built H n t ss es) (s:Same H H'):Built H' n t ss es :=
 ⟨s _ _ h.nm,h.nd,h.ok,h.len,let ⟨refs,a,b⟩:=h.ti;⟨refs,s _ _ a,b.same s⟩,h.val,h.few⟩
theorem Built.but {H H':Hp}{p n t:Addr}{ss:List Str}{es:List (Nat × Nat)}(h:Built H n t ss es) {ys:List V}(hp:H p=some (.lst ys)) (b:But p H H') (hn:n≠p) (ht:t≠p):Built H' n t ss es :=
 ⟨b _ _ hn h.nm,h.nd,h.ok,h.len,let ⟨refs,a,c⟩:=h.ti;⟨refs,b _ _ ht a,RepAll.tieBut hp b c⟩,h.val,h.few⟩
def ke (K:W.Frag):Sp:=fun vs H Q _=>∃(p a:Addr),vs=[.ref p]/\Pen K H p a /\
 ∀q n t ss es H',H' q=some (.tup [.ref n,.ref t])->Built H' n t ss es->MG.Ris es->n≠p->t≠p->PenV H' p a->But p H H'->Q (.ref q) H'
def nmP (ss:List Str) (e:Nat × Nat):Str × Str:=(ss.getD e.1 "",ss.getD e.2 "")
theorem pQ {ss:List Str}{i:Nat}(h:i<ss.length):atI (List.map V.str ss) (i:Int)=some (.str (ss.getD i "")):=eR (by simp[h,aE])
theorem Rep.pairBut {H H':Hp}{p:Addr}{ys:List V}(hp:H p=some (.lst ys)) (b:But p H H') {v:V}{e:Str × Str}(h:Rep H v (cQ e)):Rep H' v (cQ e):=by
 obtain⟨a,rfl,ha⟩:=hZ h
 exact jk (b a _ (d4 ha hp (by intro z;cases z)) ha)
theorem RepAll.pairBut {H H':Hp}{p:Addr}{ys:List V}(hp:H p=some (.lst ys)) (b:But p H H'):∀ {es:List (Str × Str)}{xs:List V},RepAll H xs (es.map cQ)->RepAll H' xs (es.map cQ)
 | [],xs,h=>by rw[RepAll.nilI h];exact .nil
 | e::es,xs,h=>by
  obtain⟨y,ys',rfl,a,c⟩:=RepAll.consI h
  exact .cons (Rep.pairBut hp b a) (RepAll.pairBut hp b c)
theorem vx {x:V}{q:Addr}{u v:V}{σ:St}{H:Hp}{A B:St->Hp->Prop}(hx:x=.ref q) (hq:SqT K H q [u,v]) (h:A ((σ.set 0 (some u)).set 1 (some v)) H) :
    rf K 2 (nJ (iX 0) (nJ (iX 1) u5)) x σ H fun σ2 H3=>qX σ2 H3 fun b H4=>if b=true then A σ2 H4 else B σ2 H4:=by
 subst hx
 refine⟨q,_,rfl,hq,rfl,_,_,rfl,_,_,rfl,rfl,?_⟩
 show (if true=true then A ((σ.set 0 (some u)).set 1 (some v)) H else B ((σ.set 0 (some u)).set 1 (some v)) H)
 rw[if_pos rfl]
 exact h
def nU:Sp:=fun vs H Q _=>∃n t ss es,vs=[.ref n,.ref t]/\Built H n t ss es/\∀q H',Same H H'->Rep H' (.ref q) (gP ss (es.map (nmP ss)))->Q (.ref q) H'
theorem scWeb:FnScope ["_law_names_here","_law_ties_here"] ["_law_names_here","_law_ties_here"] (ck jr):=⟨rfl,rfl,rfl,by decide +kernel,rfl,by decide +kernel,by decide +kernel⟩
theorem uW {f:Addr}{fd:FuncData}(F:Fun K "_law_web" "_law_web" jr f fd) (B:Blt mg):FnOk P w K mg base CX0 1 f fd ["_law_names_here", "_law_ties_here"] nU := by
 refine F.ok scWeb (fun vs H Q E h=>?_) (fun cdv A outer s H vs Q E hr h=>?_)
 ·obtain⟨n,t,ss,es,rfl,_⟩:=h
  rfl
 ·obtain⟨n, t, ss, es, rfl, hB, k⟩ := h
  have nd:=scWeb.nd
  refine⟨_,(cp (cz (fu (ce (kd K B (ce (pv 0) cf)) (ce (kd K B (ce (cN (ck jr) ["_law_names_here","_law_ties_here"] ["_law_one","_law_other"] [0] ["_law_one","_law_other","_law_names_here"] rfl (cV K (pv 1)) (fun _ _ _ _ _=>(gm (n:=2) K rfl (dL (cB (i:=0) (show (["_law_one","_law_other","_law_names_here"]:List Str).Nodup by decide) rfl (Or.inl rfl)) (dL (cB (i:=1) (show (["_law_one","_law_other","_law_names_here"]:List Str).Nodup by decide) rfl (Or.inl rfl)) gs)))) (fun _ _ _ _ _=>cY) (fun _ _ _ _ _=>(fu (ce (cu (cA K hr.units) (pv 2) (pv 0) (fun _ _=>rfl)) (ce (cu (cA K hr.units) (pv 2) (pv 1) (fun _ _=>rfl)) cf))))) cf)) cf))))),?_⟩
  refine⟨_,rfl,n,_,rfl,.of hB.nm,fun l1 h1=>?_⟩
  have s1:=Same.new (o:=.tup (List.map V.str ss)) h1
  have e1:upd H l1 (.tup (List.map V.str ss)) l1=some (.tup (List.map V.str ss)):=cn
  have hB1:=hB.same s1
  generalize upd H l1 (.tup (List.map V.str ss))=H1 at s1 e1 hB1 ⊢
  obtain⟨refs,ht,rp⟩:=hB1.ti
  have rlen:=rp.len
  rw[ab] at rlen
  refine⟨_,rfl,t,rfl,⟨_,.of ht⟩,?_⟩
  refine dI refs (fun D i acc σ' H'=>∃o1 o2,σ'=[o1,o2,some (.ref n)]/\RepAll H' acc (((es.take i).map (nmP ss)).map cQ)/\Same H1 H'/\H1 D=none) fun D hD=>⟨?_,?_,?_,?_⟩
  ·exact⟨none,none,rfl,.nil,Same.new hD,hD⟩
  ·rintro i acc σ' H' _ ⟨o1,o2,rfl,_,sm,_⟩ _
   exact .of (sm _ _ ht)
  ·rintro i acc σ' H' x hx ⟨o1,o2,rfl,rpa,sm,hD0⟩ hacc
   obtain⟨d,hd,rd⟩:=(rp.same sm).get hx
   rw[ag] at hd
   obtain⟨e,he,rfl⟩:∃e,es[i]? = some e/\et e=d:=by
    cases q:es[i]? with
    | none=>rw[q] at hd;cases hd
    | some e=>rw[q] at hd;exact⟨e,rfl,ae hd⟩
   obtain⟨ta,eta,hta⟩:=jW rd
   have hev:=hB1.val e (av he)
   have hn':=sm _ _ hB1.nm
   have alen:=rpa.len
   simp only[ab,aJ] at alen
   have hil:=(ak.mp he).1
   refine vx eta (.of hta) ?_
   refine⟨_,rfl,_,rfl,.lst (.of hn') (pQ hev.1) ⟨_,rfl,_,rfl,.lst (.of hn') (pQ hev.2) ⟨(by show 2<=sizeLine;decide),fun q hq=>?_⟩⟩⟩
   have sq:=Same.new (o:=.tup [V.str (ss.getD e.1 ""),V.str (ss.getD e.2 "")]) hq
   have hDq:D≠q:=cq hacc hq
   refine⟨sq _ _ hacc,cw (by have:=hB1.few;omega),_,_,rfl,?_,?_,hD0⟩
   ·rw[aw,he,aj,aj]
    refine RepAll.append (RepAll.pairBut (p:=D) (sq _ _ hacc) But.upd (rpa.same sq)) (.cons ?_ .nil)
    refine jk ?_
    rw[cm (Ne.symm hDq)];exact cn
   ·intro b o hb
    rw[cm (cq hb hD0)]
    exact sq _ _ (sm _ _ hb)
  ·rintro acc σ' H' ⟨o1,o2,rfl,rpa,sm,hD0⟩ hacc
   rw[rlen,aq (ac _)] at rpa
   refine⟨D,_,rfl,.of hacc,fun l2 h2=>⟨(by show 2<=sizeLine;decide),fun q hq=>?_⟩⟩
   have s2:=Same.new (o:=.tup acc) h2
   have s3:=Same.new (o:=.tup [V.ref l1,V.ref l2]) hq
   refine k q _ ((s1.trans sm).trans (s2.trans s3)) (.tup cn (.cons (.tup ((sm.trans (s2.trans s3)) _ _ e1) (RepAll.of_strs ss)) (.cons (.tup (s3 _ _ cn) (rpa.same (s2.trans s3))) .nil)))
theorem scSame:FnScope ["_law_found","_law_due"] ["_law_found","_law_due"] (ck jc):=⟨rfl,rfl,rfl,by decide +kernel,rfl,by decide +kernel,by decide +kernel⟩
theorem ue {f:Addr}{fd:FuncData}(F:Fun K "_law_same" "_law_same" jc f fd) (B:Blt mg):FnOk P w K mg base CX0 1 f fd ["_law_found","_law_due"] mi:=by
 refine F.ok scSame (fun vs H Q E h=>?_) (fun cdv A outer s H vs Q E hr h=>?_)
 ·obtain⟨x,y,d,rfl,_⟩:=h
  rfl
 ·obtain⟨x,y,d,rfl,r1,r2,S,k⟩:=h
  have nd:=scSame.nd
  refine⟨_,(cp (cz (fX (dA (dg hr.units) (pv 0) (pv 1) (cE _)) (gc (dA (dg hr.units) (oy hr.gd hr.units B (ce (pv 0) cf)) (oy hr.gd hr.units B (ce (pv 1) cf)) (cE _)))))),?_⟩
  refine⟨_,rfl,_,rfl,.tr r1 r2 S.sh S.sh ?_⟩
  rw[nj S.sh]
  refine⟨_,rfl,?_⟩
  refine cK (fun _=>?_) (fun h=>absurd rfl h)
  refine⟨_,rfl,_,rfl,.tr r1 S.sb S.hd S.dp S.ln ⟨_,rfl,_,rfl,.tr r2 S.sb S.hd S.dp S.ln (.sc rfl ?_)⟩⟩
  have:decide (V.str d.shown=V.str d.shown)=true:=ai rfl
  show Q (.bl (decide (V.str d.shown=V.str d.shown))) _
  rw[this]
  exact k
theorem scPlaces:FnScope ["things","places","place","thing"] ["things"] (ck gn):=⟨rfl,rfl,rfl,by decide +kernel,rfl,by decide +kernel,by decide +kernel⟩
theorem jq {H:Hp}{refs:List V}{ps:List (Str × Str)}(rp:RepAll H refs (ps.map cQ)) {j:Nat}{x:V}(hx:refs[j]? = some x):∃e ta,ps[j]? = some e/\x=.ref ta/\H ta=some (.tup [.str e.1,.str e.2]):=by
 obtain⟨d,hd,rd⟩:=rp.get hx
 rw[ag] at hd
 cases q:ps[j]? with
 | none=>rw[q] at hd;cases hd
 | some e =>
  rw[q] at hd
  have hd:cQ e=d:=ae hd
  rw[<- hd] at rd
  obtain⟨ta,h1,h2⟩:=hZ rd
  exact⟨e,ta,rfl,h1,h2⟩
theorem kG {ss:List Str}{i:Nat}{x:V}(h:(List.map V.str ss)[i]? = some x):∃s,ss[i]? = some s/\V.str s=x:=by
 rw[ag] at h
 cases q:ss[i]? with
 | none=>rw[q] at h;cases h
 | some e=>rw[q] at h;exact⟨e,rfl,ae h⟩
structure PlN (H H':Hp) (d:Addr) (xs:List Str) (i:Nat) (kvs:List (Key × V)):Prop where
 sm:Same H H'
 at_:H' d=some (.dK kvs)
 len:kvs.length<=i
 inn:∀s,(cI kvs (.inr s)).isSome=true ↔ s∈xs.take i
 ix:∀s v,cI kvs (.inr s)=some v->∃j:Nat,v=.int j/\xs[j]? = some s
 nd:(kvs.map (·.1)).Nodup
 ks:∀k∈kvs.map (·.1),∃s∈xs,k=Sum.inr s
theorem mq {kvs:List (Key × V)}{k:Key}{v:V}(h:(cI kvs k).isSome=true):(cR kvs k v).map (·.1)=kvs.map (·.1):=by
 unfold cR
 rw[if_pos (by rw[eK];exact h),aT]
 refine List.map_congr_left fun p _=>?_
 show (if p.1=k then (p.1,v) else p).1=p.1
 split <;> rfl
theorem PlN.step {H H':Hp}{d p:Addr}{xs:List Str}{i:Nat}{kvs:List (Key × V)}{t:Str}{o:HO}(h:PlN H H' d xs i kvs) (hd:H d=none) (hp:H' p=none) (ht:xs[i]? = some t) :
    PlN H (upd (upd H' p o) d (.dK (cR kvs (.inr t) (.int (i:Nat))))) d xs (i+1) (cR kvs (.inr t) (.int (i:Nat))):=by
 refine⟨?_,cn,?_,?_,?_,?_,?_⟩
 ·intro b o hb
  rw[cm (cq hb hd)]
  exact Same.new hp _ _ (h.sm _ _ hb)
 ·have:=dG kvs (.inr t) (V.int (i:Nat))
  have:=h.len
  omega
 ·intro s
  rw[d8,aw,ht,ar]
  by_cases q:s=t
  ·subst q
   simp
  ·rw[if_neg (fun z=>q (Sum.inr.inj z)),h.inn s]
   simp[q]
 ·intro s v e
  rw[d8] at e
  by_cases q:s=t
  ·subst q
   rw[if_pos rfl] at e
   exact⟨i,(ae e).symm,ht⟩
  ·rw[if_neg (fun z=>q (Sum.inr.inj z))] at e
   exact h.ix s v e
 ·cases q:cI kvs (.inr t) with
  | none=>exact m9 _ h.nd q
  | some v=>rw[mq (by rw[q];rfl)];exact h.nd
 ·intro k hk
  cases q:cI kvs (.inr t) with
  | none =>
   rw[jp _ q,aj] at hk
   rcases ar.mp hk with hk | hk
   ·exact h.ks k hk
   ·have:k=Sum.inr t:=by simpa using hk
    exact⟨t,av ht,this⟩
  | some v=>rw[mq (by rw[q];rfl)] at hk;exact h.ks k hk
theorem jS {f:Addr}{fd:FuncData}(F:Fun K "places_of" "places_of" gn f fd) (B:Blt mg):FnOk P w K mg base CX0 1 f fd ["things"] fY := by
 refine F.ok scPlaces (fun vs H Q E h=>?_) (fun cdv A outer s H vs Q E hr h=>?_)
 ·obtain⟨x,rfl,_⟩:=h
  rfl
 ·obtain⟨x, rfl, h⟩ := h
  have nd:=scPlaces.nd
  cases h with
  | @nm a xs _ ha hl k =>
   refine⟨_,(cg (cy (i:=1) nd rfl (Or.inl rfl) fc)
   (cg (dD PassesOwn.never rfl (lQ K rfl B.enumerate (ce (pv 0) cf)) (gm (n:=2) K rfl (dL (cB (i:=2) nd rfl (Or.inl rfl)) (dL (cB (i:=3) nd rfl (Or.inl rfl)) gs))) (cp (dX (pv 2) (ei (pv 1) (pv 3) (eU hr.units)))))
   (cp (cz (pv 1))))),?_⟩
   intro d hd
   have s0:=Same.new (o:=.dK []) hd
   have start:PlN H (upd H d (.dK [])) d xs 0 []:=⟨s0,cn,ac _,(fun s=>by simp[jx]),(fun s v e=>by cases e),bB,(fun k hk=>by cases hk)⟩
   rcases ha with ha | ha
   ·refine⟨_,rfl,_,rfl,.lst (.of (s0 _ _ ha)) ?_⟩
    refine lS (xs:=List.map V.str xs) (fun i σ H'=>∃o1 o2 kvs,σ=[some (.ref a),some (.ref d),o1,o2]/\PlN H H' d xs i kvs) ?_ ?_ ?_ ?_
    ·exact⟨none,none,[],rfl,start⟩
    ·rintro i σ H' hi ⟨o1,o2,kvs,rfl,pl⟩
     exact .of (pl.sm _ _ ha)
    ·rintro i x σ H' p hx ⟨o1,o2,kvs,rfl,pl⟩ hp
     obtain⟨t,ht,rfl⟩:=kG hx
     have hil:=(ak.mp ht).1
     have hdp:d≠p:=cq pl.at_ hp
     have:=pl.len
     refine⟨p,_,rfl,.of cn,rfl,_,_,rfl,_,_,rfl,rfl,?_⟩
     exact⟨_,rfl,_,rfl,_,rfl,.dic (DPut.k (k:=.inr t) (by rw[cm hdp];exact pl.at_) (cw (by omega))) ⟨_,_,_,rfl,pl.step hd hp ht⟩⟩
    ·rintro σ H' ⟨o1,o2,kvs,rfl,pl⟩
     have hin:=pl.inn
     rw[ab,aq (ac _)] at hin
     exact⟨_,rfl,k d kvs H' pl.sm hd pl.at_ hin pl.ix pl.nd pl.ks⟩
   ·refine⟨_,rfl,_,rfl,.tup (.of (s0 _ _ ha)) ?_⟩
    refine kQ (xs:=List.map V.str xs) (fun i σ H'=>∃o1 o2 kvs,σ=[some (.ref a),some (.ref d),o1,o2]/\PlN H H' d xs i kvs) ?_ ?_ ?_ ?_
    ·exact⟨none,none,[],rfl,start⟩
    ·rintro i σ H' hi ⟨o1,o2,kvs,rfl,pl⟩
     exact .of (pl.sm _ _ ha)
    ·rintro i x σ H' p hx ⟨o1,o2,kvs,rfl,pl⟩ hp
     obtain⟨t,ht,rfl⟩:=kG hx
     have hil:=(ak.mp ht).1
     have hdp:d≠p:=cq pl.at_ hp
     have:=pl.len
     refine⟨p,_,rfl,.of cn,rfl,_,_,rfl,_,_,rfl,rfl,?_⟩
     exact⟨_,rfl,_,rfl,_,rfl,.dic (DPut.k (k:=.inr t) (by rw[cm hdp];exact pl.at_) (cw (by omega))) ⟨_,_,_,rfl,pl.step hd hp ht⟩⟩
    ·rintro σ H' ⟨o1,o2,kvs,rfl,pl⟩
     have hin:=pl.inn
     rw[ab,aq (ac _)] at hin
     exact⟨_,rfl,k d kvs H' pl.sm hd pl.at_ hin pl.ix pl.nd pl.ks⟩
  | @pr a refs ps _ ha rp hl k =>
   refine⟨_,(cg (cy (i:=1) nd rfl (Or.inl rfl) p1)
   (cg (dD PassesOwn.never rfl (lQ K rfl B.enumerate (ce (pv 0) cf)) (gm (n:=2) K rfl (dL (cB (i:=2) nd rfl (Or.inl rfl)) (dL (cB (i:=3) nd rfl (Or.inl rfl)) gs))) (cp (dX (pv 2) (ei (pv 1) (pv 3) (eU hr.units)))))
   (cp (cz (pv 1))))),?_⟩
   have rlen:=rp.len
   rw[ab] at rlen
   intro d hd
   have s0:=Same.new (o:=.dT []) hd
   have turn:∀(i:Nat) (e:Str × Str) (ta p:Addr) (H':Hp) (kvs:List (List Key × V)), Same H H' -> H' d=some (.dT kvs) -> kvs.length <= i -> i<ps.length -> (∀f:Str × Str, (cI kvs (pK f)).isSome=true ↔ f ∈ ps.take i) -> ps[i]? = some e -> H' p=none ->
       Same H (upd (upd H' p (.tup [.int (i:Nat),.ref ta])) d (.dT (cR kvs (pK e) (.int (i:Nat)))))/\(cR kvs (pK e) (V.int (i:Nat))).length<=i+1/\∀f:Str × Str,(cI (cR kvs (pK e) (V.int (i:Nat))) (pK f)).isSome=true ↔ f∈ps.take (i+1):=by
    intro i e ta p H' kvs sm hk hkl hi hin he hp
    refine⟨?_,?_,fun f=>?_⟩
    ·intro b o hb
     rw[cm (cq hb hd)]
     exact Same.new hp _ _ (sm _ _ hb)
    ·have:=dG kvs (pK e) (V.int (i:Nat))
     omega
    ·rw[d8,aw,he,ar]
     by_cases q:f=e
     ·subst q;simp
     ·rw[if_neg (fun z=>q (ur z)),hin f]
      simp[q]
   rcases ha with ha | ha
   ·refine⟨_,rfl,_,rfl,.lst (.of (s0 _ _ ha)) ?_⟩
    refine lS (xs:=refs) (fun i σ H'=>∃o1 o2 kvs,σ=[some (.ref a),some (.ref d),o1,o2]/\Same H H'/\H' d=some (.dT kvs)/\kvs.length<=i/\∀f:Str × Str,(cI kvs (pK f)).isSome=true ↔ f∈ps.take i) ?_ ?_ ?_ ?_
    ·exact⟨none,none,[],rfl,s0,cn,ac _,fun s=>by simp[jx]⟩
    ·rintro i σ H' hi ⟨o1,o2,kvs,rfl,sm,_⟩
     exact .of (sm _ _ ha)
    ·rintro i x σ H' p hx ⟨o1,o2,kvs,rfl,sm,hk,hkl,hin⟩ hp
     obtain⟨e,ta,he,rfl,hta⟩:=jq (rp.same sm) hx
     have hil:=(ak.mp he).1
     have hdp:d≠p:=cq hk hp
     obtain⟨g1,g2,g3⟩:=turn i e ta p H' kvs sm hk hkl hil hin he hp
     refine⟨p,_,rfl,.of cn,rfl,_,_,rfl,_,_,rfl,rfl,?_⟩
     exact⟨_,rfl,_,rfl,_,rfl,.dic (DPut.t (k:=pK e) (by rw[cm hdp];exact hk) (Same.new hp _ _ hta) (cw (by omega))) ⟨_,_,_,rfl,g1,cn,g2,g3⟩⟩
    ·rintro σ H' ⟨o1,o2,kvs,rfl,sm,hk,hkl,hin⟩
     rw[rlen,aq (ac _)] at hin
     exact⟨_,rfl,k d kvs H' sm hd hk hin⟩
   ·refine⟨_,rfl,_,rfl,.tup (.of (s0 _ _ ha)) ?_⟩
    refine kQ (xs:=refs) (fun i σ H'=>∃o1 o2 kvs,σ=[some (.ref a),some (.ref d),o1,o2]/\Same H H'/\H' d=some (.dT kvs)/\kvs.length<=i/\∀f:Str × Str,(cI kvs (pK f)).isSome=true ↔ f∈ps.take i) ?_ ?_ ?_ ?_
    ·exact⟨none,none,[],rfl,s0,cn,ac _,fun s=>by simp[jx]⟩
    ·rintro i σ H' hi ⟨o1,o2,kvs,rfl,sm,_⟩
     exact .of (sm _ _ ha)
    ·rintro i x σ H' p hx ⟨o1,o2,kvs,rfl,sm,hk,hkl,hin⟩ hp
     obtain⟨e,ta,he,rfl,hta⟩:=jq (rp.same sm) hx
     have hil:=(ak.mp he).1
     have hdp:d≠p:=cq hk hp
     obtain⟨g1,g2,g3⟩:=turn i e ta p H' kvs sm hk hkl hil hin he hp
     refine⟨p,_,rfl,.of cn,rfl,_,_,rfl,_,_,rfl,rfl,?_⟩
     exact⟨_,rfl,_,rfl,_,rfl,.dic (DPut.t (k:=pK e) (by rw[cm hdp];exact hk) (Same.new hp _ _ hta) (cw (by omega))) ⟨_,_,_,rfl,g1,cn,g2,g3⟩⟩
    ·rintro σ H' ⟨o1,o2,kvs,rfl,sm,hk,hkl,hin⟩
     rw[rlen,aq (ac _)] at hin
     exact⟨_,rfl,k d kvs H' sm hd hk hin⟩
theorem nH (vs:List V) (H:Hp) (Q:VK) (E:XK) (h:ic vs H Q E):fY vs H Q E:=by
 obtain⟨a,xs,rfl,ha,hl,k⟩:=h
 exact⟨_,rfl,.nm (.inl ha) hl fun d kvs H' s h0 h1 h2 h3 _ _=>k d kvs H' s h0 h1 h2 h3⟩
theorem scIsName:FnScope ["thing"] ["thing"] (ck fU):=⟨rfl,rfl,rfl,by decide +kernel,rfl,by decide +kernel,by decide +kernel⟩
theorem py {f:Addr}{fd:FuncData}{tk:Tok}(F:Fun K "is_name" "is_name" fU f fd) (B:Blt mg) (T:mg "MOST_SIGNS"=some (.int 8 tk)):FnOk P w K mg base CX0 1 f fd ["thing"] jj := by
 refine F.ok scIsName (fun vs H Q E h=>?_) (fun cdv A outer s H vs Q E hr h=>?_)
 ·obtain⟨x,rfl,_⟩:=h
  rfl
 ·obtain⟨x, rfl, hx, k⟩ := h
  have nd:=scIsName.nd
  obtain⟨t,ty,t1,_⟩:=fq (K:=K) hx
  refine⟨_,(cg (cM (di (df (gf K "str" B (ce (pv 0) (ce (vN B) cf))))) (cp (cz dl)) cH)
   (cg (cM (PW.pt (dW (cC gU (dC K B (ce (pv 0) cf)) ci (cE _)) (eE (cC ii (dC K B (ce (pv 0) cf)) (sn (v:=.int 8) rfl T ⟨_,rfl⟩) (cE _))))) (cp (cz dl)) cH)
   (cp (cz (gG rfl B (ce (cN (ck fU) ["thing"] ["sign"] [] ["sign"] rfl (uP (pv 0)) (fun _ _ _ _ _=>(cB (i:=0) (show (["sign"]:List Str).Nodup by decide) rfl (Or.inl rfl))) (fun _ _ _ _ _=>cY) (fun _ _ _ _ _=>(lY iM iM jH (pv 0) jH))) cf)))))),?_⟩
  refine⟨_,rfl,x,t,_,rfl,ty,t1,_,rfl,?_⟩
  refine cK (fun hn=>?_) (fun hn=>?_)
  ·have e:kr x=false:=by cases x <;> first | rfl | (simp[isS] at hn)
   have q:=k H (Same.refl H)
   rw[e] at q
   exact q
  ·obtain⟨z, rfl⟩:∃z, x=.str z := by cases x <;> first | exact⟨_, rfl⟩ | (simp[isS] at hn)
   have hzz:z.length<=sizeLine:=by
    cases hx with
    | str h=>exact h
   refine⟨_,rfl,_,_,rfl,⟨hzz,rfl⟩,.int ⟨_,rfl,?_⟩⟩
   refine cK (fun h1=>?_) (fun h1=>?_)
   ·refine qg ?_
    have q:=k H (Same.refl H)
    have h1:(z.length:Int)<1:=ax h1
    have e:kr (.str z)=false:=by
     show (decide (1<=z.length)&&_)=false
     rw[aA (by omega)];rfl
    rw[e] at q
    exact q
   ·have h1:¬ (z.length:Int)<1 := of_decide_eq_false (by simpa using h1)
    refine⟨_,rfl,_,_,rfl,⟨hzz,rfl⟩,_,_,rfl,rfl,_,rfl,?_⟩
    refine cK (fun h2=>?_) (fun h2=>?_)
    ·have q:=k H (Same.refl H)
     have h2:(8:Int)<z.length:=ax h2
     have e:kr (.str z)=false:=by
      show (decide (1<=z.length)&&(decide (z.length<=8)&&_))=false
      rw[aA (show ¬ z.length<=8 by omega),Bool.false_and,Bool.and_false]
     rw[e] at q
     exact q
    ·have h2:¬ (8:Int)<z.length := of_decide_eq_false (by simpa using h2)
     have e:kr (.str z)=z.cps.toList.all dZ:=by
      show (decide (1<=z.length)&&(decide (z.length<=8)&&_))=_
      rw[ai (show 1<=z.length by omega),ai (show z.length<=8 by omega),bp,bp]
     refine⟨_,rfl,z,rfl,?_⟩
     refine p7 (fun D i acc σ' H'=>∃o,σ'=[o]/\acc=(z.cps.toList.take i).map (fun c=>V.bl (dZ c))/\Same H H'/\H D=none) fun D hD=>⟨⟨none,rfl,rfl,Same.new hD,hD⟩,?_,?_⟩
     ·rintro i acc σ' H' c hc ⟨o, rfl, rfl, sm, hD0⟩ hacc
      refine eF ?_
      have sg:∀b:Bool,b=dZ c->(H' D=some (.lst ((z.cps.toList.take i).map (fun c=>V.bl (dZ c))))/\((z.cps.toList.take i).map (fun c=>V.bl (dZ c))).length<sizeLine /\
          (∃o,[some (V.str ⟨#[c]⟩)]=[o]/\(z.cps.toList.take i).map (fun c=>V.bl (dZ c))++[V.bl b]=(z.cps.toList.take (i+1)).map (fun c=>V.bl (dZ c))/\Same H (upd H' D (.lst ((z.cps.toList.take i).map (fun c=>V.bl (dZ c))++[V.bl b])))/\H D=none)):=fun b hb=>by
       refine⟨hacc,?_,_,rfl,?_,?_,hD0⟩
       ·rw[ab]
        refine cw ?_
        have:=List.length_take_le' i z.cps.toList
        have h2':z.length<=8:=by omega
        have hl:z.cps.toList.length=z.length:=by simp[Str.length]
        omega
       ·rw[aw,hc,aj,hb];rfl
       ·intro b' o' e'
        rw[cm (cq e' hD0)]
        exact sm b' o' e'
      refine⟨_,rfl,.str ⟨_,rfl,?_⟩⟩
      have e1:(!decide ((⟨#[c]⟩:Str).cps.toList<("a":Str).cps.toList))=decide (97<=c):=by
       show (!decide ([c]<[97]))=_
       rw[oz]
       by_cases hh:c<97
       ·rw[ai hh,aA (by omega)];rfl
       ·rw[aA hh,ai (by omega)];rfl
      have e2:(!decide (("z":Str).cps.toList<(⟨#[c]⟩:Str).cps.toList))=decide (c<=122):=by
       show (!decide ([122]<[c]))=_
       rw[oz]
       by_cases hh:122<c
       ·rw[ai hh,aA (by omega)];rfl
       ·rw[aA hh,ai (by omega)];rfl
      rw[e1]
      refine cK (fun h3=>?_) (fun h3=>?_)
      ·refine .str (sg _ ?_)
       rw[e2]
       unfold dZ
       rw[h3,bp]
      ·refine sg false ?_
       unfold dZ
       have h3:decide (97<=c)=false:=by simpa using h3
       rw[h3,Bool.false_and]
     ·rintro acc σ' H' ⟨o,rfl,rfl,sm,hD0⟩ hacc
      rw[aq (ac _)] at hacc
      refine⟨D,z.cps.toList.map dZ,rfl,by rw[aT];exact hacc,?_⟩
      have q:=k H' sm
      rw[e] at q
      have e4:(z.cps.toList.map dZ).all id=z.cps.toList.all dZ:=by rw[List.all_map];rfl
      rw[e4]
      exact q
def kL:Sp:=fun vs H Q _=>∃q ss ts x,vs=[q,x]/\Web H q ss ts/\Thg H x/\(∀a xs,x=.ref a->H a=some (.lst xs)->xs.length<=1000/\∀v∈xs,Thg H v)/\∀H',Same H H'->Q (.bl (qp H ss x)) H'
theorem scLists:FnScope ["web","thing","places"] ["web","thing"] (ck gB):=⟨rfl,rfl,rfl,by decide +kernel,rfl,by decide +kernel,by decide +kernel⟩
theorem qb {f:Addr}{fd:FuncData}(F:Fun K "lists_things" "lists_things" gB f fd) (B:Blt mg) (cplaces_of:Cal P w K mg base 1 "places_of" ["things"] fY) (cis_name:Cal P w K mg base 1 "is_name" ["thing"] jj):FnOk P w K mg base CX0 2 f fd ["web", "thing"] kL := by
 refine F.ok scLists (fun vs H Q E h=>?_) (fun cdv A outer s H vs Q E hr h=>?_)
 ·obtain⟨q,ss,ts,x,rfl,_⟩:=h
  rfl
 ·obtain⟨q, ss, ts, x, rfl, W, tx, hxs, k⟩ := h
  have nd:=scLists.nd
  obtain⟨t,ty,_,_,_,t4,_⟩:=fq (K:=K) tx
  refine⟨_,(cg (cM (di (df (gf K "list" B (ce (pv 1) (ce (iI B) cf))))) (cp (cz dl)) cH)
   (cg (cy (i:=2) nd rfl (Or.inr rfl) (cr cplaces_of (hr.mono (by decide)) rfl (ce (cu (cA K hr.units) (pv 0) ci (fun _ _=>rfl)) cf)))
   (cp (cz (gG rfl B (ce (cN (ck gB) ["web","thing","places"] ["part"] [2] ["part","places"] rfl (cV K (pv 1)) (fun _ _ _ _ _=>(cB (i:=0) (show (["part","places"]:List Str).Nodup by decide) rfl (Or.inl rfl))) (fun _ _ _ _ _=>cY) (fun _ _ _ _ _=>(fX (cr cis_name (hr.mono (by decide)) rfl (ce (pv 0) cf)) (gc (dA (gZ K hr.units) (pv 0) (pv 1) (by with_unfolding_all rfl)))))) cf)))))),?_⟩
  refine⟨_,rfl,x,t,_,rfl,ty,t4,_,rfl,?_⟩
  refine cK (fun hn=>?_) (fun hn=>?_)
  ·have hn:isL H x=false:=by simpa using hn
   have q:=k H (Same.refl H)
   rw[qH hn] at q
   exact q
  ·have hn:isL H x=true := by simpa using hn
   obtain⟨b,xs,rfl,hb⟩:=so hn
   obtain⟨hxl,hxt⟩:=hxs b xs rfl hb
   rw[lV hb] at k
   obtain⟨q,a,c,ws,rfl,hq,ha,hc,rp⟩:=eD W.rep
   have h60:=W.len
   refine⟨_,rfl,.tup (.of hq) rfl ⟨_,rfl,.nm (.inr ha) (by omega) fun d kvs H1 s1 hd0 hd hin hat _ _=>?_⟩⟩
   refine⟨_,rfl,b,rfl,⟨_,.of (s1 _ _ hb)⟩,?_⟩
   refine dI xs (fun D i acc σ' H'=>∃o,σ'=[o,some (.ref d)]/\acc=(xs.take i).map (fun v=>V.bl (fe ss v))/\Same H1 H'/\H1 D=none) fun D hD=>⟨?_,?_,?_,?_⟩
   ·exact⟨none,rfl,rfl,Same.new hD,hD⟩
   ·rintro i acc σ' H' _ ⟨o,rfl,_,sm,_⟩ _
    exact .of (sm _ _ (s1 _ _ hb))
   ·rintro i acc σ' H' x hx ⟨o, rfl, rfl, sm, hD0⟩ hacc
    have hil:=(ak.mp hx).1
    have tx:=((hxt x (av hx)).same s1).same sm
    refine eF ?_
    refine⟨_,rfl,x,rfl,tx,fun H2 s2=>⟨_,rfl,?_⟩⟩
    have fin:∀b:Bool,b=fe ss x->H2 D=some (.lst ((xs.take i).map fun v=>V.bl (fe ss v)))/\((xs.take i).map fun v=>V.bl (fe ss v)).length<sizeLine /\
        ∃o,[some x,some (V.ref d)]=[o,some (.ref d)]/\((xs.take i).map fun v=>V.bl (fe ss v))++[V.bl b]=(xs.take (i+1)).map (fun v=>V.bl (fe ss v))/\Same H1 (upd H2 D (.lst (((xs.take i).map fun v=>V.bl (fe ss v))++[V.bl b])))/\H1 D=none:=fun b hb=>by
     refine⟨s2 _ _ hacc,?_,_,rfl,?_,cX (sm.trans s2) hD0,hD0⟩
     ·rw[ab,aJ];exact cw (by omega)
     ·rw[aw,hx,aj,hb];rfl
    refine cK (fun h1=>?_) (fun h1=>?_)
    ·cases x with
     | str z =>
      refine⟨_,rfl,_,rfl,.dic (DGet.k (k:=.inr z) (s2 _ _ (sm _ _ hd))) ?_⟩
      refine fin _ ?_
      show (cI kvs (.inr z)).isSome=decide (z∈ss)
      rw[aZ,hin z,decide_eq_true_iff]
     | _=>cases h1
    ·refine fin false ?_
     cases x with
     | str z =>
      show false=decide (z∈ss)
      rw[aA]
      intro hz
      exact h1 (isNm_iff.mpr (W.nm z hz))
     | _=>rfl
   ·rintro acc σ' H2 ⟨o,rfl,rfl,s2,hD0⟩ hacc
    rw[aq (ac _)] at hacc
    refine⟨D,xs.map (fe ss),rfl,by rw[aT];exact hacc,?_⟩
    have e4:(xs.map (fe ss)).all id=xs.all (fe ss):=by rw[List.all_map];rfl
    rw[e4]
    exact k H2 (s1.trans s2)
theorem ua (xs:List Str) (h:xs≠[]):atI (List.map V.str xs) (-1)=some (.str (xs.getLast h)):=by
 conv=>lhs;rw[<- List.dropLast_concat_getLast h]
 rw[aj]
 exact jz _ _
theorem rc (xs:List V) (k:Nat):gy xs (some (k:Int)) none=xs.drop k:=by
 unfold gy
 rw[HT.sIx_nat,HT.sIx_none]
 by_cases h:k<=xs.length
 ·rw[Nat.min_eq_left h,aq (by rw[bS];omega)]
 ·rw[Nat.min_eq_right (by omega),bZ (ac _),bZ (by omega)];simp
def kq:Sp:=fun vs H Q _=>∃q ss ts one other a ws,vs=[q,.str one,.str other,.ref a]/\Web H q ss ts/\Nm one/\H a=some (.lst (List.map V.str ws))/\(∀w∈ws,w∈ss)/\ws.length<=1000/\∀H',Same H H'->Q (.bl (ik ts one other ws)) H'
theorem scIsWay:FnScope ["web","one","other","things","ties"] ["web","one","other","things"] (ck gx):=⟨rfl,rfl,rfl,by decide +kernel,rfl,by decide +kernel,by decide +kernel⟩
theorem oa {f:Addr}{fd:FuncData}(F:Fun K "is_way" "is_way" gx f fd) (B:Blt mg) (Zz:mg "zip"=none) (cplaces_of:Cal P w K mg base 1 "places_of" ["things"] fY):FnOk P w K mg base CX0 2 f fd ["web", "one", "other", "things"] kq := by
 refine F.ok scIsWay (fun vs H Q E h=>?_) (fun cdv A outer s H vs Q E hr h=>?_)
 ·obtain⟨q,ss,ts,one,other,a,ws,rfl,_⟩:=h
  rfl
 ·obtain⟨q, ss, ts, one, other, a, ws, rfl, W, nm1, ha, hws, hwl, k⟩ := h
  have nd:=scIsWay.nd
  have wnm:∀w∈ws,Nm w:=fun w hw=>W.nm w (hws w hw)
  have h0:=k H (Same.refl H)
  refine⟨_,(cg (cM (cC (dg hr.units) (pv 1) (pv 2) (cE _)) (cp (cz (dA (dg hr.units) (pv 3) (cZ (ce (pv 1) cf)) (cE _)))) cH)
   (cg (cM (PW.pt (dW (cC gU (dC K B (ce (pv 3) cf)) ci (cE _)) (dW (cC (eJ hr.units) (cu (cA K hr.units) (pv 3) ci (fun _ _=>rfl)) (pv 1) (cE _)) (eE (cC (eJ hr.units) (cu (cA K hr.units) (pv 3) (jO iR ci) (fun _ _=>rfl)) (pv 2) (cE _)))))) (cp (cz dl)) cH)
   (cg (cy (i:=4) nd rfl (Or.inr rfl) (cr cplaces_of (hr.mono (by decide)) rfl (ce (cu (cA K hr.units) (pv 0) ci (fun _ _=>rfl)) cf)))
   (cp (cz (gG rfl B (ce (cN (ck gx) ["web","one","other","things","ties"] ["pair"] [4] ["pair","ties"] rfl (pS K rfl Zz (ce (pv 3) (ce (ip (nW K) (pv 3) (iV ci) i6) cf))) (fun _ _ _ _ _=>(cB (i:=0) (show (["pair","ties"]:List Str).Nodup by decide) rfl (Or.inl rfl))) (fun _ _ _ _ _=>cY) (fun _ _ _ _ _=>(dA (gZ K hr.units) (pv 0) (pv 1) (by with_unfolding_all rfl)))) cf))))))),?_⟩
  refine⟨_,rfl,_,rfl,.sc rfl ⟨_,rfl,?_⟩⟩
  refine cK (fun h1=>?_) (fun h1=>?_)
  ·have h1:one=other:=V.str.inj (ax h1)
   refine⟨_,rfl,_,rfl,(by show 1<=sizeLine;decide),fun l hl=>?_⟩
   have sl:=Same.new (o:=.lst [V.str one]) hl
   refine .tr (gK (sl _ _ ha)) (gK (ss:=[one]) cn) (gJ wnm) (gJ fun s hs=>by rw[aQ.mp hs];exact nm1) ?_
   have q:=k _ sl
   unfold ik at q
   rw[if_pos h1] at q
   show Q (.bl (PyData.eqv (fm ws) (fm [one]))) _
   rw[li]
   exact q
  ·have h1:one ≠ other := fun z => h1 (ai (by rw[z]))
   have no:∀b:Bool,b=ik ts one other ws->Q (.bl b) H:=fun b e=>by rw[e];exact h0
   have bad:¬ (2 <= ws.length /\ ws[0]? = some one /\ ws.getLast? = some other) -> false=ik ts one other ws := fun h => by
    unfold ik
    rw[if_neg h1]
    symm
    rw[Bool.and_eq_false_iff]
    by_cases q1:2<=ws.length
    ·right
     rw[Bool.and_eq_false_iff]
     by_cases q2:ws[0]? = some one
     ·right
      rw[Bool.and_eq_false_iff]
      exact .inl (aA fun q3=>h ⟨q1,q2,q3⟩)
     ·exact .inl (aA q2)
    ·exact .inl (aA q1)
   have hln:(List.map V.str ws).length=ws.length:=ab ..
   refine⟨_,rfl,_,_,rfl,Or.inl ⟨_,.of ha,rfl⟩,.int ⟨_,rfl,?_⟩⟩
   refine cK (fun h2=>?_) (fun h2=>?_)
   ·have h2:(((List.map V.str ws).length:Nat):Int)<2:=ax h2
    exact qg (no false (bad fun z=>by have:=z.1;omega))
   ·have h2:¬ (((List.map V.str ws).length:Nat):Int)<2 := fun z => h2 (ai z)
    have h2:2<=ws.length:=by omega
    have hne:ws≠[]:=fun z=>by rw[z] at h2;simp at h2
    obtain⟨w0,hw0⟩:∃w0,ws[0]? = some w0:=⟨_,ap (by omega)⟩
    have hat0:atI (List.map V.str ws) 0=some (.str w0):=eR (j:=0) (by rw[ag,hw0];rfl)
    refine⟨_,rfl,.lst (.of ha) hat0 ⟨_,rfl,.sc rfl ⟨_,rfl,?_⟩⟩⟩
    refine cK (fun h3=>?_) (fun h3=>?_)
    ·have h3:(!decide (V.str w0=V.str one))=true:=h3
     refine qg (no false (bad fun z=>?_))
     rw[hw0] at z
     rw[ai (by rw[ae z.2.1])] at h3
     cases h3
    ·have h3:¬ (!decide (V.str w0=V.str one))=true := h3
     have e0:w0=one:=Classical.byContradiction fun z=>h3 (by rw[aA (fun y=>z (V.str.inj y))];rfl)
     refine⟨_,rfl,_,rfl,.lst (.of ha) (ua ws hne) ⟨_,rfl,.sc rfl ⟨_,rfl,?_⟩⟩⟩
     refine cK (fun h4=>?_) (fun h4=>?_)
     ·have h4:(!decide (V.str (ws.getLast hne)=V.str other))=true:=h4
      refine no false (bad fun z=>?_)
      have z3:=z.2.2
      rw[ca hne] at z3
      rw[ai (by rw[ae z3])] at h4
      cases h4
     ·have h4:¬ (!decide (V.str (ws.getLast hne)=V.str other))=true := h4
      have el:ws.getLast hne=other:=Classical.byContradiction fun z=>h4 (by rw[aA (fun y=>z (V.str.inj y))];rfl)
      obtain⟨q,c,d,xs,rfl,hq,hc,hd,rp⟩:=eD W.rep
      refine⟨_,rfl,.tup (.of hq) rfl ⟨_,rfl,.pr (.inr hd) rp (by have:=W.few;omega) fun dd kvs H1 s1 hd0 hdd hin=>?_⟩⟩
      refine⟨_,rfl,_,rfl,_,rfl,.lst (.of (s1 _ _ ha)) fun l2 hl2=>?_⟩
      rw[show (1:Int)=((1:Nat):Int) from rfl,rc,<- List.map_drop]
      have s2:=Same.new (o:=.lst (List.map V.str (ws.drop 1))) hl2
      have e2:upd H1 l2 (.lst (List.map V.str (ws.drop 1))) l2=some (.lst (List.map V.str (ws.drop 1))):=cn
      have ha2:=s2 _ _ (s1 _ _ ha)
      have hdd2:=s2 _ _ hdd
      have s12:=s1.trans s2
      generalize upd H1 l2 (.lst (List.map V.str (ws.drop 1)))=H2 at e2 ha2 hdd2 s12 ⊢
      refine⟨a,l2,_,_,rfl,.of ha2,.of e2,?_⟩
      have zl:((List.map V.str ws).zip (List.map V.str (ws.drop 1))).length=(ws.zip (ws.drop 1)).length:=by simp
      have zlen:(ws.zip (ws.drop 1)).length<=1000:=by rw[List.length_zip];omega
      refine lR (List.map V.str ws) (List.map V.str (ws.drop 1)) (fun D i acc σ' H'=>∃o,σ'=[o,some (.ref dd)]/\acc=((ws.zip (ws.drop 1)).take i).map (fun e=>V.bl (decide (e∈ts)))/\Same H2 H'/\H2 D=none) fun D hD=>⟨?_,?_,?_,?_⟩
      ·exact⟨none,rfl,rfl,Same.new hD,hD⟩
      ·rintro i acc σ' H' _ ⟨o,rfl,_,sm,_⟩ _
       exact⟨.of (sm _ _ ha2),.of (sm _ _ e2)⟩
      ·rintro i acc σ' H' x y p hxy ⟨o,rfl,rfl,sm,hD0⟩ hacc hp
       rw[bH,ag,ag] at hxy
       obtain⟨u,hu,rfl⟩:∃u,ws[i]? = some u/\V.str u=x:=by
        cases z:ws[i]? with
        | none=>rw[z] at hxy;cases hxy.1
        | some u=>rw[z] at hxy;exact⟨u,rfl,ae hxy.1⟩
       obtain⟨v,hv,rfl⟩:∃v,(ws.drop 1)[i]? = some v/\V.str v=y:=by
        cases z:(ws.drop 1)[i]? with
        | none=>rw[z] at hxy;cases hxy.2
        | some v=>rw[z] at hxy;exact⟨v,rfl,ae hxy.2⟩
       have he:(ws.zip (ws.drop 1))[i]? = some (u,v):=by rw[bH];exact⟨hu,hv⟩
       have hil:=(ak.mp he).1
       have sp:=Same.new (o:=.tup [V.str u,V.str v]) hp
       refine eF ?_
       refine⟨_,rfl,_,rfl,.dic (DGet.t (k:=pK (u,v)) (sp _ _ (sm _ _ hdd2)) cn) ⟨sp _ _ hacc,?_,_,rfl,?_,cX (sm.trans sp) hD0,hD0⟩⟩
       ·rw[ab,aJ];exact cw (by omega)
       ·rw[aw,he,aj]
        have:(cI kvs (pK (u,v))).isSome=decide ((u,v)∈ts):=by rw[aZ,hin (u,v),decide_eq_true_iff]
        show _++[V.bl (cI kvs (pK (u,v))).isSome]=_
        rw[this];rfl
      ·rintro acc σ' H3 ⟨o,rfl,rfl,s3,hD0⟩ hacc
       rw[zl,aq (ac _)] at hacc
       refine⟨D,(ws.zip (ws.drop 1)).map (fun e=>decide (e∈ts)),rfl,by rw[aT];exact hacc,?_⟩
       have e4:((ws.zip (ws.drop 1)).map (fun e=>decide (e∈ts))).all id=ik ts one other ws:=by
        unfold ik
        rw[if_neg h1,ai h2,hw0,e0,ai rfl,ca hne,el,ai rfl,bp,bp,bp,List.all_map];rfl
       rw[e4]
       exact k H3 (s12.trans s3)
theorem ly {ts:List (Str × Str)}{s t:Str}:t ∈ (ts.filter fun e => decide (e.1=s)).map (fun e => e.2) ↔ (s, t) ∈ (if false then dk ts else ts) := by
 rw[al]
 constructor
 ·rintro⟨⟨x,y⟩,h,rfl⟩
  have h:=aK.mp h
  have h2:=ax h.2
  subst h2
  first
   | exact h.1
   | exact mem_flip.mpr h.1
 ·intro h
  first
   | exact⟨(s,t),aK.mpr ⟨h,ai rfl⟩,rfl⟩
   | exact⟨(t,s),aK.mpr ⟨mem_flip.mp h,ai rfl⟩,rfl⟩
theorem scNexts:FnScope ["web","one","found"] ["web","one"] (ck gb):=⟨rfl,rfl,rfl,by decide +kernel,rfl,by decide +kernel,by decide +kernel⟩
theorem p4 {f:Addr}{fd:FuncData}(F:Fun K "nexts" "nexts" gb f fd) (B:Blt mg) (cplaces_of:Cal P w K mg base 1 "places_of" ["things"] ic):FnOk P w K mg base CX0 2 f fd ["web", "one"] (fQ false) := by
 refine F.ok scNexts (fun vs H Q E h=>?_) (fun cdv A outer s H vs Q E hr h=>?_)
 ·obtain⟨q,ss,ts,s,rfl,_⟩:=h
  rfl
 ·obtain⟨q, ss, ts, s, rfl, W, k⟩ := h
  have nd:=scNexts.nd
  refine⟨_,(cg (cy (i:=2) nd rfl (Or.inr rfl) (cr cplaces_of (hr.mono (by decide)) rfl (ce (cN (ck gb) ["web","one","found"] ["tie"] [1] ["tie","one"] rfl (dN K (cu (cA K hr.units) (pv 0) ci (fun _ _=>rfl))) (fun _ _ _ _ _=>(cB (i:=0) (show (["tie","one"]:List Str).Nodup by decide) rfl (Or.inl rfl))) (fun _ _ _ _ _=>(fh (cC (dg hr.units) (cu (cA K hr.units) (pv 0) ci (fun _ _=>rfl)) (pv 1) (cE _)))) (fun _ _ _ _ _=>(cu (cA K hr.units) (pv 0) ci (fun _ _=>rfl)))) cf)))
   (cp (cz (cN (ck gb) ["web","one","found"] ["thing"] [2] ["thing","found"] rfl (dN K (cu (cA K hr.units) (pv 0) ci (fun _ _=>rfl))) (fun _ _ _ _ _=>(cB (i:=0) (show (["thing","found"]:List Str).Nodup by decide) rfl (Or.inl rfl))) (fun _ _ _ _ _=>(fh (cC (gZ K hr.units) (pv 0) (pv 1) (by with_unfolding_all rfl)))) (fun _ _ _ _ _=>(pv 0)))))),?_⟩
  obtain⟨q,a,b,xs,rfl,hq,ha,hb,rp⟩:=eD W.rep
  have rlen:=rp.len
  rw[ab] at rlen
  refine⟨_,rfl,.tup (.of hq) rfl ⟨_,rfl,⟨_,.of hb⟩,?_⟩⟩
  refine ev xs (fun D i acc σ' H'=>∃o,σ'=[o,some (.str s)]/\acc=((ts.take i).filter fun e=>decide (e.1=s)).map (fun e=>V.str e.2)/\Same H H'/\H D=none) fun D hD=>⟨?_,?_,?_,?_⟩
  ·exact⟨none,rfl,rfl,Same.new hD,hD⟩
  ·rintro i acc σ' H' _ ⟨o,rfl,_,sm,_⟩ _
   exact .of (sm _ _ hb)
  ·rintro i acc σ' H' x hx ⟨o, rfl, hacc0, sm, hD0⟩ hacc
   obtain⟨d,hd,rd⟩:=(rp.same sm).get hx
   rw[ag] at hd
   obtain⟨e,he,rfl⟩:∃e,ts[i]? = some e/\cQ e=d:=by
    cases q:ts[i]? with
    | none=>rw[q] at hd;cases hd
    | some e=>rw[q] at hd;exact⟨e,rfl,ae hd⟩
   obtain⟨ta,rfl,hta⟩:=hZ rd
   have hil:=(ak.mp he).1
   refine⟨_,rfl,.tup (.of hta) rfl ⟨_,rfl,.sc rfl ⟨_,rfl,?_⟩⟩⟩
   refine cK (fun h1=>?_) (fun h1=>?_)
   ·have h1:e.1=s:=V.str.inj (ax h1)
    refine⟨_,rfl,.tup (.of hta) rfl ⟨hacc,?_,_,rfl,?_,?_,hD0⟩⟩
    ·rw[hacc0,ab]
     have h2:=bh (fun e:Str × Str=>decide (e.1=s)) (ts.take i)
     rw[aJ] at h2
     have:=W.few
     exact cw (by omega)
    ·rw[aw,he,hacc0,bq,aj]
     simp[h1]
    ·intro c o hc
     rw[cm (cq hc hD0)]
     exact sm _ _ hc
   ·have h1:¬ e.1=s:=fun z=>h1 (ai (congrArg V.str z))
    refine⟨hacc,_,rfl,?_,sm,hD0⟩
    rw[aw,he,hacc0,bq,aj]
    simp[h1]
  ·rintro acc σ' H1 ⟨o, rfl, hacc0, s1, hD0⟩ hacc
   rw[rlen,aq (ac _)] at hacc0
   have ea:acc=List.map V.str ((ts.filter fun e=>decide (e.1=s)).map (fun e=>e.2)):=by rw[hacc0,aT];rfl
   refine⟨D,_,rfl,by rw[<- ea];exact hacc,?_,?_⟩
   ·rw[ab]
    have h2:=bh (fun e:Str × Str=>decide (e.1=s)) ts
    have:=W.few
    omega
   ·intro d kvs H2 s2 hd2 hk hin hat
    have s12:=s1.trans s2
    refine⟨_,rfl,.tup (.of (s12 _ _ hq)) rfl ⟨_,rfl,⟨_,.of (s12 _ _ ha)⟩,?_⟩⟩
    refine ev (List.map V.str ss) (fun D i acc σ' H'=>∃o,σ'=[o,some (.ref d)]/\acc=List.map V.str ((ss.take i).filter fun t=>(cI kvs (.inr t)).isSome)/\Same H2 H'/\H2 D=none) fun D' hD'=>⟨?_,?_,?_,?_⟩
    ·exact⟨none,rfl,rfl,Same.new hD',hD'⟩
    ·rintro i acc σ' H' _ ⟨o,rfl,_,sm,_⟩ _
     exact .of (sm _ _ (s12 _ _ ha))
    ·rintro i acc σ' H' x hx ⟨o, rfl, hacc0, sm, hD0⟩ hacc
     rw[ag] at hx
     obtain⟨t,ht,rfl⟩:∃t,ss[i]? = some t/\V.str t=x:=by
      cases q:ss[i]? with
      | none=>rw[q] at hx;cases hx
      | some e=>rw[q] at hx;exact⟨e,rfl,ae hx⟩
     have hil:=(ak.mp ht).1
     refine⟨_,rfl,_,rfl,.dic (DGet.k (k:=.inr t) (sm _ _ hk)) ⟨_,rfl,?_⟩⟩
     refine cK (fun h1=>?_) (fun h1=>?_)
     ·refine⟨_,rfl,hacc,?_,_,rfl,?_,?_,hD0⟩
      ·rw[hacc0,ab]
       have h2:=bh (fun t:Str=>(cI kvs (.inr t)).isSome) (ss.take i)
       rw[aJ] at h2
       have:=W.len
       exact cw (by omega)
      ·have h1:(cI kvs (.inr t)).isSome=true:=h1
       rw[aw,ht,hacc0,bq,aj]
       simp[h1]
      ·intro c o hc
       rw[cm (cq hc hD0)]
       exact sm _ _ hc
     ·have h1:¬ (cI kvs (.inr t)).isSome=true:=h1
      refine⟨hacc,_,rfl,?_,sm,hD0⟩
      rw[aw,ht,hacc0,bq,aj]
      simp[h1]
    ·rintro acc σ' H' ⟨o, rfl, hacc0, sm, hD0⟩ hacc
     rw[ab,aq (ac _)] at hacc0
     refine k _ _ (s12.trans sm) ?_ ?_
     ·cases e:H D' with
      | none=>rfl
      | some o=>rw[s12 _ _ e] at hD0;cases hD0
     ·rw[hacc,hacc0]
      have:(ss.filter fun t=>(cI kvs (.inr t)).isSome)=dQ ss (if false then dk ts else ts) s:=by
       unfold dQ
       refine List.filter_congr fun t _=>?_
       rw[aZ,hin t,ly,decide_eq_true_iff]
      rw[this]
theorem my {ts:List (Str × Str)}{s t:Str}:t ∈ (ts.filter fun e => decide (e.2=s)).map (fun e => e.1) ↔ (s, t) ∈ (if true then dk ts else ts) := by
 rw[al]
 constructor
 ·rintro⟨⟨x,y⟩,h,rfl⟩
  have h:=aK.mp h
  have h2:=ax h.2
  subst h2
  first
   | exact h.1
   | exact mem_flip.mpr h.1
 ·intro h
  first
   | exact⟨(s,t),aK.mpr ⟨h,ai rfl⟩,rfl⟩
   | exact⟨(t,s),aK.mpr ⟨mem_flip.mp h,ai rfl⟩,rfl⟩
theorem scPriors:FnScope ["web","one","found"] ["web","one"] (ck fj):=⟨rfl,rfl,rfl,by decide +kernel,rfl,by decide +kernel,by decide +kernel⟩
theorem oF {f:Addr}{fd:FuncData}(F:Fun K "priors" "priors" fj f fd) (B:Blt mg) (cplaces_of:Cal P w K mg base 1 "places_of" ["things"] ic):FnOk P w K mg base CX0 2 f fd ["web", "one"] (fQ true) := by
 refine F.ok scPriors (fun vs H Q E h=>?_) (fun cdv A outer s H vs Q E hr h=>?_)
 ·obtain⟨q,ss,ts,s,rfl,_⟩:=h
  rfl
 ·obtain⟨q, ss, ts, s, rfl, W, k⟩ := h
  have nd:=scPriors.nd
  refine⟨_,(cg (cy (i:=2) nd rfl (Or.inr rfl) (cr cplaces_of (hr.mono (by decide)) rfl (ce (cN (ck fj) ["web","one","found"] ["tie"] [1] ["tie","one"] rfl (dN K (cu (cA K hr.units) (pv 0) ci (fun _ _=>rfl))) (fun _ _ _ _ _=>(cB (i:=0) (show (["tie","one"]:List Str).Nodup by decide) rfl (Or.inl rfl))) (fun _ _ _ _ _=>(fh (cC (dg hr.units) (cu (cA K hr.units) (pv 0) ci (fun _ _=>rfl)) (pv 1) (cE _)))) (fun _ _ _ _ _=>(cu (cA K hr.units) (pv 0) ci (fun _ _=>rfl)))) cf)))
   (cp (cz (cN (ck fj) ["web","one","found"] ["thing"] [2] ["thing","found"] rfl (dN K (cu (cA K hr.units) (pv 0) ci (fun _ _=>rfl))) (fun _ _ _ _ _=>(cB (i:=0) (show (["thing","found"]:List Str).Nodup by decide) rfl (Or.inl rfl))) (fun _ _ _ _ _=>(fh (cC (gZ K hr.units) (pv 0) (pv 1) (by with_unfolding_all rfl)))) (fun _ _ _ _ _=>(pv 0)))))),?_⟩
  obtain⟨q,a,b,xs,rfl,hq,ha,hb,rp⟩:=eD W.rep
  have rlen:=rp.len
  rw[ab] at rlen
  refine⟨_,rfl,.tup (.of hq) rfl ⟨_,rfl,⟨_,.of hb⟩,?_⟩⟩
  refine ev xs (fun D i acc σ' H'=>∃o,σ'=[o,some (.str s)]/\acc=((ts.take i).filter fun e=>decide (e.2=s)).map (fun e=>V.str e.1)/\Same H H'/\H D=none) fun D hD=>⟨?_,?_,?_,?_⟩
  ·exact⟨none,rfl,rfl,Same.new hD,hD⟩
  ·rintro i acc σ' H' _ ⟨o,rfl,_,sm,_⟩ _
   exact .of (sm _ _ hb)
  ·rintro i acc σ' H' x hx ⟨o, rfl, hacc0, sm, hD0⟩ hacc
   obtain⟨d,hd,rd⟩:=(rp.same sm).get hx
   rw[ag] at hd
   obtain⟨e,he,rfl⟩:∃e,ts[i]? = some e/\cQ e=d:=by
    cases q:ts[i]? with
    | none=>rw[q] at hd;cases hd
    | some e=>rw[q] at hd;exact⟨e,rfl,ae hd⟩
   obtain⟨ta,rfl,hta⟩:=hZ rd
   have hil:=(ak.mp he).1
   refine⟨_,rfl,.tup (.of hta) rfl ⟨_,rfl,.sc rfl ⟨_,rfl,?_⟩⟩⟩
   refine cK (fun h1=>?_) (fun h1=>?_)
   ·have h1:e.2=s:=V.str.inj (ax h1)
    refine⟨_,rfl,.tup (.of hta) rfl ⟨hacc,?_,_,rfl,?_,?_,hD0⟩⟩
    ·rw[hacc0,ab]
     have h2:=bh (fun e:Str × Str=>decide (e.2=s)) (ts.take i)
     rw[aJ] at h2
     have:=W.few
     exact cw (by omega)
    ·rw[aw,he,hacc0,bq,aj]
     simp[h1]
    ·intro c o hc
     rw[cm (cq hc hD0)]
     exact sm _ _ hc
   ·have h1:¬ e.2=s:=fun z=>h1 (ai (congrArg V.str z))
    refine⟨hacc,_,rfl,?_,sm,hD0⟩
    rw[aw,he,hacc0,bq,aj]
    simp[h1]
  ·rintro acc σ' H1 ⟨o, rfl, hacc0, s1, hD0⟩ hacc
   rw[rlen,aq (ac _)] at hacc0
   have ea:acc=List.map V.str ((ts.filter fun e=>decide (e.2=s)).map (fun e=>e.1)):=by rw[hacc0,aT];rfl
   refine⟨D,_,rfl,by rw[<- ea];exact hacc,?_,?_⟩
   ·rw[ab]
    have h2:=bh (fun e:Str × Str=>decide (e.2=s)) ts
    have:=W.few
    omega
   ·intro d kvs H2 s2 hd2 hk hin hat
    have s12:=s1.trans s2
    refine⟨_,rfl,.tup (.of (s12 _ _ hq)) rfl ⟨_,rfl,⟨_,.of (s12 _ _ ha)⟩,?_⟩⟩
    refine ev (List.map V.str ss) (fun D i acc σ' H'=>∃o,σ'=[o,some (.ref d)]/\acc=List.map V.str ((ss.take i).filter fun t=>(cI kvs (.inr t)).isSome)/\Same H2 H'/\H2 D=none) fun D' hD'=>⟨?_,?_,?_,?_⟩
    ·exact⟨none,rfl,rfl,Same.new hD',hD'⟩
    ·rintro i acc σ' H' _ ⟨o,rfl,_,sm,_⟩ _
     exact .of (sm _ _ (s12 _ _ ha))
    ·rintro i acc σ' H' x hx ⟨o, rfl, hacc0, sm, hD0⟩ hacc
     rw[ag] at hx
     obtain⟨t,ht,rfl⟩:∃t,ss[i]? = some t/\V.str t=x:=by
      cases q:ss[i]? with
      | none=>rw[q] at hx;cases hx
      | some e=>rw[q] at hx;exact⟨e,rfl,ae hx⟩
     have hil:=(ak.mp ht).1
     refine⟨_,rfl,_,rfl,.dic (DGet.k (k:=.inr t) (sm _ _ hk)) ⟨_,rfl,?_⟩⟩
     refine cK (fun h1=>?_) (fun h1=>?_)
     ·refine⟨_,rfl,hacc,?_,_,rfl,?_,?_,hD0⟩
      ·rw[hacc0,ab]
       have h2:=bh (fun t:Str=>(cI kvs (.inr t)).isSome) (ss.take i)
       rw[aJ] at h2
       have:=W.len
       exact cw (by omega)
      ·have h1:(cI kvs (.inr t)).isSome=true:=h1
       rw[aw,ht,hacc0,bq,aj]
       simp[h1]
      ·intro c o hc
       rw[cm (cq hc hD0)]
       exact sm _ _ hc
     ·have h1:¬ (cI kvs (.inr t)).isSome=true:=h1
      refine⟨hacc,_,rfl,?_,sm,hD0⟩
      rw[aw,ht,hacc0,bq,aj]
      simp[h1]
    ·rintro acc σ' H' ⟨o, rfl, hacc0, sm, hD0⟩ hacc
     rw[ab,aq (ac _)] at hacc0
     refine k _ _ (s12.trans sm) ?_ ?_
     ·cases e:H D' with
      | none=>rfl
      | some o=>rw[s12 _ _ e] at hD0;cases hD0
     ·rw[hacc,hacc0]
      have:(ss.filter fun t=>(cI kvs (.inr t)).isSome)=dQ ss (if true then dk ts else ts) s:=by
       unfold dQ
       refine List.filter_congr fun t _=>?_
       rw[aZ,hin t,my,decide_eq_true_iff]
      rw[this]
theorem scNextsAll:FnScope ["web","table","thing"] ["web"] (ck ff):=⟨rfl,rfl,rfl,by decide +kernel,rfl,by decide +kernel,by decide +kernel⟩
theorem jG {f:Addr}{fd:FuncData}(F:Fun K "nexts_of_all" "nexts_of_all" ff f fd) (B:Blt mg) (cnexts:Cal P w K mg base 2 "nexts" ["web", "one"] (fQ false)):FnOk P w K mg base CX0 3 f fd ["web"] (ig false) := by
 refine F.ok scNextsAll (fun vs H Q E h=>?_) (fun cdv A outer s H vs Q E hr h=>?_)
 ·obtain⟨q,ss,ts,rfl,_⟩:=h
  rfl
 ·obtain⟨q, ss, ts, rfl, W, k⟩ := h
  have nd:=scNextsAll.nd
  refine⟨_,(cg (cy (i:=1) nd rfl (Or.inl rfl) fc)
   (cg (dD PassesOwn.never rfl (dN K (cu (cA K hr.units) (pv 0) ci (fun _ _=>rfl))) (cB (i:=2) nd rfl (Or.inl rfl)) (cp (dX (cr cnexts (hr.mono (by decide)) rfl (ce (pv 0) (ce (pv 2) cf))) (ei (pv 1) (pv 2) (eU hr.units)))))
   (cp (cz (pv 1))))),?_⟩
  intro d hd
  have W1:=W.same (Same.new (o:=.dK []) hd)
  obtain⟨q,a,b,xs,rfl,hq,ha,hb,rp⟩:=eD W.rep
  have s0:=Same.new (o:=.dK []) hd
  refine⟨_,rfl,.tup (.of (s0 _ _ hq)) rfl ⟨_,rfl,⟨_,.of (s0 _ _ ha)⟩,?_⟩⟩
  refine iY (xs:=List.map V.str ss) (fun i σ H'=>∃o1 kvs,σ=[some (.ref q),some (.ref d),o1]/\Same H H'/\H' d=some (.dK kvs)/\kvs.length<=i/\∀s∈ss.take i,∃l,cI kvs (.inr s)=some (.ref l)/\H' l=some (.lst (List.map V.str (dQ ss (if false then dk ts else ts) s)))) ?_ ?_ ?_ ?_
  ·exact⟨none,[],rfl,s0,cn,ac _,fun s hs=>by simp at hs⟩
  ·rintro i σ H' hi ⟨o1,kvs,rfl,sm,_⟩
   exact .of (sm _ _ ha)
  ·rintro i x σ H' hx ⟨o1, kvs, rfl, sm, hk, hkl, hall⟩
   rw[ag] at hx
   obtain⟨t,ht,rfl⟩:∃t,ss[i]? = some t/\V.str t=x:=by
    cases q:ss[i]? with
    | none=>rw[q] at hx;cases hx
    | some e=>rw[q] at hx;exact⟨e,rfl,ae hx⟩
   have hil:=(ak.mp ht).1
   refine⟨_,rfl,_,rfl,.ref q,ss,ts,t,rfl,W.same sm,fun l H2 s2 hl hl2=>?_⟩
   have hk2:=s2 _ _ hk
   have:=W.len
   refine⟨_,rfl,_,rfl,.dic (DPut.k (k:=.inr t) hk2 (cw (by omega))) ⟨_,_,rfl,?_,cn,?_,?_⟩⟩
   ·intro c o hc
    rw[cm (cq hc hd)]
    exact s2 _ _ (sm _ _ hc)
   ·have:=dG kvs (.inr t) (V.ref l)
    omega
   ·intro s hs
    rw[aw,ht,ar] at hs
    by_cases q:s=t
    ·subst q
     refine⟨l,by rw[d8,if_pos rfl],?_⟩
     rw[cm (d4 hl2 hk2 (by intro z;cases z))]
     exact hl2
    ·rcases hs with hs | hs
     ·obtain⟨l',e1,e2⟩:=hall s hs
      refine⟨l',by rw[d8,if_neg (fun z=>q (Sum.inr.inj z))];exact e1,?_⟩
      rw[cm (d4 (s2 _ _ e2) hk2 (by intro z;cases z))]
      exact s2 _ _ e2
     ·exact absurd (by simpa using hs) q
  ·rintro σ H' ⟨o1,kvs,rfl,sm,hk,_,hall⟩
   rw[ab,aq (ac _)] at hall
   exact⟨_,rfl,k d H' sm hd ⟨kvs,hk,hall⟩⟩
theorem scPriorsAll:FnScope ["web","table","thing"] ["web"] (ck eY):=⟨rfl,rfl,rfl,by decide +kernel,rfl,by decide +kernel,by decide +kernel⟩
structure Stp (H H':Hp) (ss:List Str) (e:Addr) (look:Str->Option Nat) (kvs:List (Key × V)):Prop where
 sm:Same H H'
 at_:H' e=some (.dK kvs)
 lk:∀t,cI kvs (.inr t)=(look t).map fun k:Nat=>V.int (k:Int)
 nd:(kvs.map (·.1)).Nodup
 ks:∀k∈kvs.map (·.1),∃t∈ss,k=Sum.inr t
theorem Stp.len {H H':Hp}{ss:List Str}{e:Addr}{look:Str->Option Nat}{kvs:List (Key × V)}(h:Stp H H' ss e look kvs):kvs.length<=ss.length:=by
 have:=h.nd.length_le_of_subset (l₂:=ss.map (Sum.inr:Str->Key)) fun k hk=>by
  obtain⟨t,ht,rfl⟩:=h.ks k hk
  exact al.mpr ⟨t,ht,rfl⟩
 simpa using this
theorem Stp.oth {H H':Hp}{ss:List Str}{e b:Addr}{look:Str->Option Nat}{kvs:List (Key × V)}{o:HO}(h:Stp H H' ss e look kvs) (hb:H b=none) (n:e≠b):Stp H (upd H' b o) ss e look kvs :=
 ⟨fun c o' hc=>by rw[cm (cq hc hb)];exact h.sm _ _ hc,by rw[cm n];exact h.at_,h.lk,h.nd,h.ks⟩
theorem Stp.put {H H':Hp}{ss:List Str}{e:Addr}{look:Str -> Option Nat}{kvs:List (Key × V)}(h:Stp H H' ss e look kvs) (he:H e=none) {t:Str}(ht:t ∈ ss) (hn:look t=none) (k:Nat) :
    Stp H (upd H' e (.dK (cR kvs (.inr t) (.int (k:Int))))) ss e (fun a=>if a=t then some k else look a) (cR kvs (.inr t) (.int (k:Int))):=by
 have hv:cI kvs (.inr t)=none:=by rw[h.lk,hn];rfl
 refine⟨fun c o' hc=>by rw[cm (cq hc he)];exact h.sm _ _ hc,cn,fun u=>?_,m9 _ h.nd hv,fun q hq=>?_⟩
 ·rw[d8]
  by_cases q:u=t
  ·subst q;rw[if_pos rfl];simp
  ·rw[if_neg (fun z=>q (Sum.inr.inj z)),h.lk u];simp[q]
 ·rw[jp _ hv,aj] at hq
  rcases ar.mp hq with hq | hq
  ·exact h.ks q hq
  ·have:q=Sum.inr t:=by simpa using hq
   exact⟨t,ht,this⟩
def jn:Sp:=fun vs H Q _=>∃d st s ss f,vs=[.ref d,.ref st]/\H st=some (.lst [V.str s])/\Tab H d ss f/\s∈ss/\ss.length<=60/\(∀t∈ss,∀u∈f t,u∈ss) /\
 ∀e kvs H',Same H H'->H e=none->H' e=some (.dK kvs)->(∀t v,cI kvs (.inr t)=some v ↔ ∃k:Nat,v=.int k/\MG.Dst (Ner ss f) s k t)->Q (.ref e) H'
theorem scSteps:FnScope ["table","starts","steps","start","edge","further","thing","near"] ["table","starts"] (ck hX):=⟨rfl,rfl,rfl,by decide +kernel,rfl,by decide +kernel,by decide +kernel⟩
theorem qZ {f:Addr}{fd:FuncData}(F:Fun K "steps_from" "steps_from" hX f fd) (B:Blt mg):FnOk P w K mg base CX0 1 f fd ["table", "starts"] jn := by
 refine F.ok scSteps (fun vs H Q E h=>?_) (fun cdv A outer s H vs Q E hr h=>?_)
 ·obtain⟨d,st,s,ss,f,rfl,_⟩:=h
  rfl
 ·obtain⟨d, st, s, ss, fn, rfl, hst, T, hs, hlen, hcl, k⟩ := h
  have nd:=scSteps.nd
  refine⟨_,(cg (cy (i:=2) nd rfl (Or.inl rfl) fc)
   (cg (dD PassesOwn.never rfl (cV K (pv 1)) (cB (i:=3) nd rfl (Or.inl rfl)) (cp (dX ci (ei (pv 2) (pv 3) (eU hr.units)))))
   (cg (cy (i:=4) nd rfl (Or.inl rfl) (mE K rfl B (ce (pv 1) cf)))
   (cg (jB PassesOwn.never (cC ii (dC K B (ce (pv 4) cf)) ci (cE _)) (cg (cy (i:=5) nd rfl (Or.inl rfl) (cZ cf))
   (cg (dD PassesOwn.never rfl (cV K (pv 4)) (cB (i:=6) nd rfl (Or.inl rfl)) (cp (dD PassesOwn.never rfl (cV K (cu (cA K hr.units) (pv 0) (pv 6) (fun _ _=>rfl))) (cB (i:=7) nd rfl (Or.inl rfl)) (cp (cM (cC (gI K hr.units) (pv 7) (pv 2) (by with_unfolding_all rfl)) (cg (dX (cG cO (cu (cA K hr.units) (pv 2) (pv 6) (fun _ _=>rfl)) ci) (ei (pv 2) (pv 7) (eU hr.units)))
   (cp (dU (fN K (pv 5) (ce (pv 7) cf))))) cH)))))
   (cp (cy (i:=4) nd rfl (Or.inl rfl) (pv 5))))))
   (cp (cz (pv 2))))))),?_⟩
  have hin:∀y,MG.Rch (Ner ss fn) s y->y∈ss:=fun y r=>MG.Rch.closed (S:=fun y=>y∈ss) hs (fun a b ha r=>hcl a ha b r.2) r
  intro e he
  have hste:st≠e:=cq hst he
  refine⟨_,rfl,st,rfl,⟨_,.of (by rw[cm hste];exact hst)⟩,?_⟩
  refine fH (xs:=[V.str s]) (fun i σ H'=>∃o3 o4 o5 o6 o7,σ=[some (.ref d),some (.ref st),some (.ref e),o3,o4,o5,o6,o7]/\H' st=some (.lst [V.str s])/\(i=0->H'=upd H e (.dK []))/\(i≠0->∃kvs,Stp H H' ss e (fun a=>if a=s then some 0 else none) kvs)) ?_ ?_ ?_ ?_
  ·exact⟨none,none,none,none,none,rfl,by rw[cm hste];exact hst,fun _=>rfl,fun z=>absurd rfl z⟩
  ·rintro i σ H' hi ⟨o3,o4,o5,o6,o7,rfl,h1,_⟩
   exact .of h1
  ·rintro i x σ H' hx ⟨o3,o4,o5,o6,o7,rfl,h1,h2,_⟩
   have hi:i<1:=(ak.mp hx).1
   have hi:i=0:=by omega
   subst hi
   have hx:V.str s=x:=ae hx
   subst hx
   have h2:=h2 rfl
   subst h2
   have h0:Stp H (upd (upd H e (.dK [])) e (.dK (cR [] (.inr s) (.int ((0:Nat):Int))))) ss e (fun a=>if a=s then some 0 else none) (cR [] (.inr s) (.int ((0:Nat):Int))) :=
    Stp.put (kvs:=[]) (look:=fun _=>none) ⟨Same.new he,cn,fun t=>rfl,bB,fun k hk=>by cases hk⟩ he hs rfl 0
   refine⟨_,rfl,_,rfl,.dic (DPut.k (k:=.inr s) cn (by show 0<sizeLine;decide)) ⟨_,_,_,_,_,rfl,by rw[cm hste];exact h1,fun z=>absurd z (by omega),fun _=>⟨_,h0⟩⟩⟩
  rintro σ H1 ⟨o3,o4,o5,o6,o7,rfl,hst1,_,hS⟩
  obtain⟨kv0,h0⟩:=hS (by show 1≠0;omega)
  refine⟨_,rfl,_,rfl,.seq (.inl (.of hst1)) fun l0 hl0=>?_⟩
  have hl00:H l0=none:=by
   cases q:H l0 with
   | none=>rfl
   | some o=>rw[h0.sm _ _ q] at hl0;cases hl0
  have h1:=h0.oth (o:=.lst [V.str s]) hl00 (cq h0.at_ hl0)
  refine⟨fun m σ H'=>∃L le edge kvs look o3 o4 o5 o6,m+L=ss.length/\σ=[some (.ref d),some (.ref st),some (.ref e),o3,some (.ref le),o4,o5,o6]/\Stp H H' ss e look kvs/\H le=none/\H' le=some (.lst (List.map V.str edge))/\edge.length<=60/\MG.Lev (Ner ss fn) s L look edge,
   ⟨ss.length,0,l0,[s],_,_,o3,o5,o6,o7,by omega,rfl,h1,hl00,cn,by show 1<=60;decide,MG.Lev.start fun y=>rfl⟩,?_⟩
  rintro m σ H2 ⟨L,le,edge,kvs,look,o3,o4,o5,o6,hm,rfl,S,hle0,hle,hel,lev⟩
  refine⟨_,rfl,_,_,rfl,Or.inl ⟨_,.of hle,rfl⟩,_,_,rfl,rfl,_,rfl,?_⟩
  refine cK (fun hc=>?_) (fun hc=>?_)
  ·have hc:(0:Int)<((List.map V.str edge).length:Nat) := ax hc
   rw[ab] at hc
   have hL:L<ss.length:=by
    cases edge with
    | nil=>simp at hc
    | cons y r=>exact MG.Dst.lt hin ((lev.edg y).mp (by simp))
   refine⟨fun σ' H'=>∃le edge kvs look o3 o4 o5 o6,σ'=[some (.ref d),some (.ref st),some (.ref e),o3,some (.ref le),o4,o5,o6]/\Stp H H' ss e look kvs/\H le=none/\H' le=some (.lst (List.map V.str edge))/\edge.length<=60/\MG.Lev (Ner ss fn) s (L+1) look edge,
    fun σ' H' ⟨le,edge,kvs,look,o3,o4,o5,o6,p⟩=>⟨m-1,by omega,L+1,le,edge,kvs,look,o3,o4,o5,o6,by omega,p⟩,?_⟩
   refine⟨(by show 0<=sizeLine;decide),fun lf hlf=>?_⟩
   have hlf0:H lf=none:=by
    cases q:H lf with
    | none=>rfl
    | some o=>rw[S.sm _ _ q] at hlf;cases hlf
   have nlf:le≠lf:=cq hle hlf
   have S1:=S.oth (o:=.lst []) hlf0 (cq S.at_ hlf)
   refine⟨_,rfl,le,rfl,⟨_,.of (by rw[cm nlf];exact hle)⟩,?_⟩
   refine fH (xs:=List.map V.str edge) (fun i σ H'=>∃kvs look fur o5 o6,σ=[some (.ref d),some (.ref st),some (.ref e),o3,some (.ref le),some (.ref lf),o5,o6]/\Stp H H' ss e look kvs/\H' le=some (.lst (List.map V.str edge))/\H' lf=some (.lst (List.map V.str fur))/\fur.Nodup/\(∀t∈fur,t∈ss)/\MG.Mid (Ner ss fn) s L look fur (fun z y=>z∈edge.take i/\Ner ss fn z y)) ?_ ?_ ?_ ?_
   ·exact⟨kvs,look,[],o5,o6,rfl,S1,by rw[cm nlf];exact hle,cn,bB,(fun t ht=>by cases ht),lev.mid.wk fun a b h=>by simp at h⟩
   ·rintro i σ H' hi ⟨kvs,look,fur,o5,o6,rfl,S,hle,_⟩
    exact .of hle
   ·rintro i x σ H' hx ⟨kvs, look, fur, o5, o6, rfl, S, hle, hlf, hfn, hfs, mid⟩
    rw[ag] at hx
    obtain⟨z,hz,rfl⟩:∃z,edge[i]? = some z/\V.str z=x:=by
     cases q:edge[i]? with
     | none=>rw[q] at hx;cases hx
     | some e=>rw[q] at hx;exact⟨e,rfl,ae hx⟩
    have dz:=(lev.edg z).mp (av hz)
    have hzs:=hin z dz.rch
    obtain⟨tkv,hd,ht⟩:=T
    obtain⟨l,el,hl⟩:=ht z hzs
    have hl':=S.sm _ _ hl
    refine⟨_,rfl,_,rfl,.dic (.inl ⟨tkv,.inr z,.inl (S.sm _ _ hd),rfl,el.symm⟩) ⟨l,rfl,⟨_,.of hl'⟩,?_⟩⟩
    refine fH (xs:=List.map V.str (fn z)) (fun j σ H'=>∃kvs look fur o6,σ=[some (.ref d),some (.ref st),some (.ref e),o3,some (.ref le),some (.ref lf),some (.str z),o6]/\Stp H H' ss e look kvs/\H' le=some (.lst (List.map V.str edge))/\H' lf=some (.lst (List.map V.str fur))/\fur.Nodup/\(∀t∈fur,t∈ss)/\MG.Mid (Ner ss fn) s L look fur (fun a y=>(a∈edge.take i/\Ner ss fn a y)∨(a=z/\y∈(fn z).take j))) ?_ ?_ ?_ ?_
    ·exact⟨kvs,look,fur,o6,rfl,S,hle,hlf,hfn,hfs,mid.wk fun a b h=>by simpa using h⟩
    ·rintro j σ H' hj ⟨kvs,look,fur,o6,rfl,S,_⟩
     exact .of (S.sm _ _ hl)
    ·rintro j x σ H' hx ⟨kvs, look, fur, o6, rfl, S, hle, hlf, hfn, hfs, mid⟩
     rw[ag] at hx
     obtain⟨y,hy,rfl⟩:∃y,(fn z)[j]? = some y/\V.str y=x:=by
      cases q:(fn z)[j]? with
      | none=>rw[q] at hx;cases hx
      | some e=>rw[q] at hx;exact⟨e,rfl,ae hx⟩
     have hyf:=av hy
     have hys:=hcl z hzs y hyf
     have hdone:∀a b,((a∈edge.take i/\Ner ss fn a b)∨(a=z/\b∈(fn z).take (j+1)))->((a∈edge.take i/\Ner ss fn a b)∨(a=z/\b∈(fn z).take j))∨(a=z/\b=y):=by
      intro a b h
      rcases h with h | ⟨h1,h2⟩
      ·exact .inl (.inl h)
      ·rw[aw,hy,ar] at h2
       rcases h2 with h2 | h2
       ·exact .inl (.inr ⟨h1,h2⟩)
       ·exact .inr ⟨h1,by simpa using h2⟩
     refine⟨_,rfl,_,rfl,.dic (DGet.k (k:=.inr y) S.at_) ⟨_,rfl,?_⟩⟩
     rw[S.lk y]
     refine cK (fun hc=>?_) (fun hc=>?_)
     ·have hc:¬ (look y).isSome=true := by simpa using hc
      have hn:look y=none:=by simpa using hc
      have hzl:cI kvs (.inr z)=some (V.int (L:Int)):=by rw[S.lk,mid.cmp z L (ac _) dz];rfl
      refine⟨_,rfl,_,rfl,.dic (.inl ⟨kvs,.inr z,.inl S.at_,rfl,hzl.symm⟩) (.int ?_)⟩
      have hkl:=S.len
      refine⟨_,rfl,_,rfl,.dic (DPut.k (k:=.inr y) S.at_ (cw (by omega))) ?_⟩
      have S':=S.put he hys hn (L+1)
      have nle:le≠e:=d4 hle S.at_ (by intro z;cases z)
      have nlf':lf≠e:=d4 hlf S.at_ (by intro z;cases z)
      refine⟨_,rfl,.inl ⟨rfl,_,.of (by rw[cm nlf'];exact hlf)⟩,?_⟩
      have hfl:fur.length<=ss.length:=hfn.length_le_of_subset hfs
      refine⟨_,rfl,lf,_,_,rfl,rfl,by rw[cm nlf'];exact hlf,by rw[ab];exact cw (by omega),?_⟩
      refine⟨_,_,fur++[y],_,rfl,S'.oth hlf0 (Ne.symm nlf'),?_,?_,?_,?_,(mid.add (z:=z) (y:=y) dz ⟨hzs,hyf⟩ hn fun a=>rfl).wk hdone⟩
      ·rw[cm nlf,cm nle];exact hle
      ·rw[cn,aj];rfl
      ·rw[List.nodup_append]
       refine⟨hfn,by simp,fun a ha b hb=>?_⟩
       have:b=y:=by simpa using hb
       subst this
       rintro rfl
       rw[(mid.fur a ha).2] at hn
       cases hn
      ·intro t ht
       rcases ar.mp ht with ht | ht
       ·exact hfs t ht
       ·have:t=y:=by simpa using ht
        rw[this];exact hys
     ·have hc:(look y).isSome=true:=by
         cases q:look y with
         | none=>rw[q] at hc;exact absurd rfl hc
         | some v=>rfl
      exact⟨kvs,look,fur,_,rfl,S,hle,hlf,hfn,hfs,(mid.skip (z:=z) hc).wk hdone⟩
    ·rintro σ H' ⟨kvs,look,fur,o6,rfl,S,hle,hlf,hfn,hfs,mid⟩
     rw[ab,aq (ac _)] at mid
     refine⟨kvs,look,fur,_,_,rfl,S,hle,hlf,hfn,hfs,mid.wk fun a b h=>?_⟩
     obtain⟨h1,h2⟩:=h
     rw[aw,hz,ar] at h1
     rcases h1 with h1 | h1
     ·exact .inl ⟨h1,h2⟩
     ·have:a=z:=by simpa using h1
      subst this
      exact .inr ⟨rfl,h2.2⟩
   ·rintro σ H' ⟨kvs,look,fur,o5,o6,rfl,S,hle,hlf,hfn,hfs,mid⟩
    rw[ab,aq (ac _)] at mid
    have hfl:fur.length<=ss.length:=hfn.length_le_of_subset hfs
    exact⟨_,rfl,lf,fur,kvs,look,_,_,_,_,rfl,S,hlf0,hlf,by omega,mid.next lev.edg fun z y hz r=>⟨hz,r⟩⟩
  ·have he0:edge=[] := by
      cases edge with
      | nil=>rfl
      | cons y r=>exact absurd (ai (by simp)) hc
   subst he0
   have fin:=lev.done
   refine⟨_,rfl,k e kvs H2 S.sm he S.at_ fun t v=>?_⟩
   rw[S.lk t]
   constructor
   ·intro q
    cases q2:look t with
    | none=>rw[q2] at q;cases q
    | some n =>
     rw[q2] at q
     exact⟨n,(ae q).symm,(fin t n).mp q2⟩
   ·rintro⟨n,rfl,dn⟩
    rw[(fin t n).mpr dn];rfl
theorem iN:∀ts:List (Str × Str),(∀e∈ts,Nm e.1/\Nm e.2)->PyData.canLayAll0 (ts.map cQ)=true
 | [],_=>rfl
 | e::ts,h=>by
  show (PyData.canLay0 (cQ e)&&PyData.canLayAll0 (ts.map cQ))=true
  rw[iN ts fun x hx=>h x (aI _ hx)]
  have:=h e (by simp)
  show ((PyData.canLay0 (.str e.1)&&(PyData.canLay0 (.str e.2)&&true))&&true)=true
  rw[eL this.1,eL this.2];rfl
theorem jh:∀ts:List (Str × Str),PyData.depthAll (ts.map cQ)<=1
 | []=>by decide
 | e::es=>by
  show max (PyData.depth (cQ e)) (PyData.depthAll (es.map cQ))<=1
  have h1:PyData.depth (cQ e)=1:=rfl
  have h2:=jh es
  omega
theorem tY {ss:List Str}{ts:List (Str × Str)}(h:∀s∈ss,Nm s) (g:∀e∈ts,Nm e.1/\Nm e.2):shp (gP ss ts):=by
 show ((PyData.canLayAll0 (ss.map PyData.str)&&(PyData.canLayAll0 (ts.map cQ)&&true))&&decide (max (PyData.depthAll (ss.map PyData.str)+1) (max (PyData.depthAll (ts.map cQ)+1) 0)+1<=64))=true
 have:=jh ts
 rw[gO ss h,iN ts g,iz,ai (by omega)]
 rfl
theorem kb {H:Hp}{v:V}{ss:List Str}{ts:List (Str × Str)}(W:Web H v ss ts):shp (gP ss ts):=tY W.nm fun e he=>⟨W.nm _ (W.inn e he).1,W.nm _ (W.inn e he).2⟩
theorem sX {H H':Hp}{p:Addr}{ys:List V}(hp:H p=some (.lst ys)) (b:But p H H') {v:V}{ss:List Str}{ts:List (Str × Str)}(W:Web H v ss ts):Web H' v ss ts:=by
 refine⟨?_,W.nd,W.nm,W.len,W.few,W.inn⟩
 obtain⟨q,c,d,xs,rfl,hq,hc,hd,rp⟩:=eD W.rep
 have k:∀a zs,H a=some (.tup zs)->H' a=some (.tup zs):=fun a zs h=>b a _ (d4 h hp (by intro z;cases z)) h
 exact .tup (k _ _ hq) (.cons (.tup (k _ _ hc) (RepAll.of_strs ss)) (.cons (.tup (k _ _ hd) (RepAll.pairBut hp b rp)) .nil))
theorem mem_getD {ss:List Str}{i:Nat}(h:i<ss.length):ss.getD i ""∈ss:=by
 rw[aE,ap h]
 exact bu h
theorem vf {H H':Hp}{n t:Addr}{ss:List Str}{es:List (Nat × Nat)}{v:V}(B:Built H n t ss es) (r:Rep H' v (gP ss (es.map (nmP ss)))):Web H' v ss (es.map (nmP ss)) :=
 ⟨r,B.nd,B.ok,B.len,by rw[ab];exact B.few,fun e he=>by
  obtain⟨f,hf,rfl⟩:=al.mp he
  have:=B.val f hf
  exact⟨mem_getD this.1,mem_getD this.2⟩⟩
theorem iB {ss:List Str}(nd:ss.Nodup) (nm:∀s∈ss,Nm s) {a b:Nat}(ha:a<ss.length) (h:ss.getD a ""=ss.getD b ""):a=b:=by
 by_cases hb:b<ss.length
 ·rw[aE,aE,ap ha,ap hb] at h
  exact(List.getElem_inj nd).mp h
 ·have e:ss.getD b ""="":=by rw[aE,List.getElem?_eq_none (by omega)];rfl
  have h2:=(nm _ (mem_getD ha)).1
  rw[h,e] at h2
  exact absurd h2 (by decide)
def nmA (ss:List Str) (i:Nat):Str:=ss.getD i ""
theorem rF (ss:List Str):ss=(List.range ss.length).map (nmA ss):=by
 apply List.ext_getElem?
 intro i
 rw[ag]
 by_cases hi:i<ss.length
 ·rw[ap hi,bV hi]
  simp[nmA,hi]
 ·rw[List.getElem?_eq_none (by omega),List.getElem?_eq_none (by simpa using hi)]
  rfl
theorem j7 {ss:List Str}{es:List (Nat × Nat)}(nd:ss.Nodup) (nm:∀s∈ss,Nm s) (val:∀e∈es,e.1<ss.length/\e.2<ss.length) {a b:Nat}:(nmA ss a,nmA ss b)∈es.map (nmP ss) ↔ (a,b)∈es:=by
 rw[al]
 constructor
 ·rintro⟨e,he,q⟩
  have q1:=iB nd nm (val e he).1 (Prod.mk.inj q).1
  have q2:=iB nd nm (val e he).2 (Prod.mk.inj q).2
  rw[<- q1,<- q2];exact he
 ·intro h;exact⟨(a,b),h,rfl⟩
def nxn (n:Nat) (es:List (Nat × Nat)) (a:Nat):List Nat:=(List.range n).filter fun b=>decide ((a,b)∈es)
theorem tO {ss:List Str}{es:List (Nat × Nat)}(nd:ss.Nodup) (nm:∀s∈ss,Nm s) (val:∀e∈es,e.1<ss.length/\e.2<ss.length) (a:Nat):dQ ss (es.map (nmP ss)) (nmA ss a)=(nxn ss.length es a).map (nmA ss):=by
 unfold dQ nxn
 have e2:∀g:Str->Bool,ss.filter g=((List.range ss.length).map (nmA ss)).filter g:=fun g=>by rw[<- rF ss]
 rw[e2,List.filter_map]
 congr 1
 refine List.filter_congr fun i hi=>?_
 show decide ((nmA ss a,nmA ss i)∈es.map (nmP ss))=decide ((a,i)∈es)
 rw[aZ,decide_eq_true_iff,decide_eq_true_iff,j7 nd nm val]
theorem nM {ss:List Str}{es:List (Nat × Nat)}(nd:ss.Nodup) (nm:∀s ∈ ss, Nm s) (val:∀e ∈ es, e.1<ss.length /\ e.2<ss.length) {one i k:Nat}(hi:i<ss.length) :
    MG.Walk (Tie (es.map (nmP ss))) k (nmA ss one) (nmA ss i) ↔ MG.Walk (MG.Arr es) k one i:=by
 constructor
 ·intro r
  obtain⟨y,ey,ry⟩:=MG.Walk.back (R:=MG.Arr es) (x:=one) (nmA ss) (fun a c h=>by
   obtain⟨e,he,q⟩:=al.mp h
   have q1:ss.getD e.1 ""=ss.getD a "":=(Prod.mk.inj q).1
   have q2:ss.getD e.2 ""=c:=(Prod.mk.inj q).2
   have:=iB nd nm (val e he).1 q1
   exact⟨e.2,q2.symm,by unfold MG.Arr;rw[<- this];exact he⟩) r
  have:=iB nd nm hi ey
  rw[this];exact ry
 ·intro r
  exact MG.Walk.map (nmA ss) (fun a b h=>al.mpr ⟨(a,b),h,rfl⟩) r
def eA (ss:List Str) (es:List (Nat × Nat)):Prop:=∀e∈es,e.1<ss.length/\e.2<ss.length
theorem tS {H:Hp}{q:V}{ss:List Str}{ts:List (Str × Str)}(W:Web H q ss ts):Ner ss (dQ ss (if false then dk ts else ts))=Tie ts:=by
 funext a b
 refine propext ⟨fun h=>?_,fun h=>?_⟩
 ·have h3:=ax (aK.mp h.2).2
  exact h3
 ·have g:=W.inn _ h
  exact⟨g.1,aK.mpr ⟨g.2,ai h⟩⟩
structure RD (H:Hp) (ss:List Str) (ts:List (Str × Str)) (dr:Addr) (s:Str) (d:Addr):Prop where
 ne:d≠dr
 at_:∃kv,H d=some (.dK kv)/\∀t v,cI kv (.inr t)=some v ↔ ∃k:Nat,v=.int (k:Int)/\MG.Dst (Tie ts) s k t
def p6:Sp:=fun _ _ _ _=>False
theorem vL {f:Addr}{fd:FuncData}{k:Nat}{ps:List Str}:FnOk P w K mg base CX0 k f fd ps p6:=⟨fun _ _ _ _ h=>h.elim,fun _ _ _ _ _ _ _ _ _ _ _ _ _ h=>h.elim⟩
def ju:Sp:=fun vs H Q _=>∃(q:V) (ss:List Str) (es:List (Nat × Nat)),vs=[q]/\Web H q ss (es.map (nmP ss))/\eA ss es/\(∀e∈es,¬ MG.RingAt es e)/\∀H',Same H H'->Q .non H'
theorem scRingOf:FnScope ["web","table","reached","thing","tie"] ["web"] (ck gp):=⟨rfl,rfl,rfl,by decide +kernel,rfl,by decide +kernel,by decide +kernel⟩
theorem nG {f:Addr}{fd:FuncData}(F:Fun K "ring_of" "ring_of" gp f fd) (B:Blt mg) (csteps_from:Cal P w K mg base 1 "steps_from" ["table", "starts"] jn) (cnexts_of_all:Cal P w K mg base 3 "nexts_of_all" ["web"] (ig false)) (cring_by:Cal P w K mg base 5 "ring_by" ["web", "one", "other"] p6):FnOk P w K mg base CX0 6 f fd ["web"] ju := by
 refine F.ok scRingOf (fun vs H Q E h=>?_) (fun cdv A outer s H vs Q E hr h=>?_)
 ·obtain⟨q,ss,es,rfl,_⟩:=h
  rfl
 ·obtain⟨q, ss, es, rfl, W, val, nor, k0⟩ := h
  have nd:=scRingOf.nd
  refine⟨_,(cg (cy (i:=1) nd rfl (Or.inl rfl) (cr cnexts_of_all (hr.mono (by decide)) rfl (ce (pv 0) cf)))
   (cg (cy (i:=2) nd rfl (Or.inl rfl) fc)
   (cg (dD PassesOwn.never rfl (dN K (cu (cA K hr.units) (pv 0) ci (fun _ _=>rfl))) (cB (i:=3) nd rfl (Or.inl rfl)) (cp (dX (cr csteps_from (hr.mono (by decide)) rfl (ce (pv 1) (ce (cZ (ce (pv 3) cf)) cf))) (ei (pv 2) (pv 3) (eU hr.units)))))
   (cg (dD PassesOwn.never rfl (dN K (cu (cA K hr.units) (pv 0) ci (fun _ _=>rfl))) (cB (i:=4) nd rfl (Or.inl rfl)) (cp (cM (cC (gZ K hr.units) (cu (cA K hr.units) (pv 4) ci (fun _ _=>rfl)) (cu (cA K hr.units) (pv 2) (cu (cA K hr.units) (pv 4) ci (fun _ _=>rfl)) (fun _ _=>rfl)) (by with_unfolding_all rfl)) (cp (cz (cr cring_by (hr.mono (by decide)) rfl (ce (pv 0) (ce (cu (cA K hr.units) (pv 4) ci (fun _ _=>rfl)) (ce (cu (cA K hr.units) (pv 4) ci (fun _ _=>rfl)) cf)))))) cH)))
   (cp (cz ft)))))),?_⟩
  have h60:=W.len
  obtain⟨q,a,b,xs,rfl,hq,ha,hb,rp⟩:=eD W.rep
  have rlen:=rp.len
  rw[ab] at rlen
  refine⟨_,rfl,.ref q,ss,_,rfl,W,fun dt H1 s1 hdt T=>?_⟩
  intro dr hdr
  have hdr0:=cP s1 hdr
  have s2:=s1.trans (Same.new (o:=.dK []) hdr)
  have T2:=T.same (Same.new (o:=.dK []) hdr)
  have e2:upd H1 dr (.dK []) dr=some (.dK []):=cn
  have sb:Same H1 (upd H1 dr (.dK [])):=Same.new hdr
  generalize upd H1 dr (.dK [])=H2 at s2 T2 e2 sb ⊢
  refine⟨_,rfl,.tup (.of (s2 _ _ hq)) rfl ⟨_,rfl,⟨_,.of (s2 _ _ ha)⟩,?_⟩⟩
  refine iY (xs:=List.map V.str ss) (fun i σ H'=>∃o3 kvs,σ=[some (.ref q),some (.ref dt),some (.ref dr),o3,none]/\Same H1 H'/\H' dr=some (.dK kvs)/\kvs.length<=i/\∀s∈ss.take i,∃d,cI kvs (.inr s)=some (.ref d)/\RD H' ss (es.map (nmP ss)) dr s d) ?_ ?_ ?_ ?_
  ·exact⟨none,[],rfl,sb,e2,ac _,fun s hs=>by simp at hs⟩
  ·rintro i σ H' hi ⟨o3,kvs,rfl,sm,_⟩
   exact .of (sm _ _ (s1 _ _ ha))
  ·rintro i x σ H3 hx ⟨o3, kvs, rfl, s3, hk, hkl, hall⟩
   rw[ag] at hx
   obtain⟨t,ht,rfl⟩:∃t,ss[i]? = some t/\V.str t=x:=by
    cases q:ss[i]? with
    | none=>rw[q] at hx;cases hx
    | some e=>rw[q] at hx;exact⟨e,rfl,ae hx⟩
   have hil:=(ak.mp ht).1
   refine⟨_,rfl,_,rfl,(by show 1<=sizeLine;decide),fun ls hls=>⟨dt,ls,t,ss,_,rfl,cn,(T.same s3).same (Same.new hls),av ht,W.len,fun t _ u hu=>(aK.mp hu).1,fun d kv H4 s4' hd4' hkd hst=>?_⟩⟩
   have s4:=(Same.new (o:=.lst [V.str t]) hls).trans s4'
   have hd4:=cP (Same.new (o:=.lst [V.str t]) hls) hd4'
   rw[tS W] at hst
   have hk4:=s4 _ _ hk
   have hne:d≠dr:=Ne.symm (cq hk hd4)
   refine⟨_,rfl,_,rfl,.dic (DPut.k (k:=.inr t) hk4 (cw (by omega))) ⟨_,_,rfl,cX (s3.trans s4) hdr,cn,?_,?_⟩⟩
   ·have:=dG kvs (.inr t) (V.ref d)
    omega
   ·intro s hs
    rw[aw,ht,ar] at hs
    by_cases q:s=t
    ·subst q
     refine⟨d,by rw[d8,if_pos rfl],hne,kv,?_,hst⟩
     rw[cm hne];exact hkd
    ·rcases hs with hs | hs
     ·obtain⟨d',e1,n1,kv',e2,h2⟩:=hall s hs
      refine⟨d',by rw[d8,if_neg (fun z=>q (Sum.inr.inj z))];exact e1,n1,kv',?_,h2⟩
      rw[cm n1];exact s4 _ _ e2
     ·exact absurd (by simpa using hs) q
  ·rintro σ H3 ⟨o3, kvs, rfl, s3, hk, _, hall⟩
   rw[ab,aq (ac _)] at hall
   have s13:=s1.trans s3
   refine⟨_,rfl,.tup (.of (s13 _ _ hq)) rfl ⟨_,rfl,⟨_,.of (s13 _ _ hb)⟩,?_⟩⟩
   refine iY (xs:=xs) (fun i σ H'=>∃o3 o4,σ=[some (.ref q),some (.ref dt),some (.ref dr),o3,o4]/\H'=H3/\∀j,j<i->∀f,es[j]? = some f->¬ MG.RingAt es f) ?_ ?_ ?_ ?_
   ·exact⟨_,_,rfl,rfl,fun j hj=>by omega⟩
   ·rintro i σ H' hi ⟨o3,o4,rfl,rfl,_⟩
    exact .of (s13 _ _ hb)
   ·rintro i x σ H' hx ⟨o3, o4, rfl, rfl, hno⟩
    obtain⟨d,hd,rd⟩:=(rp.same s13).get hx
    rw[ag,ag] at hd
    obtain⟨e,he,rfl⟩:∃e,es[i]? = some e/\cQ (nmP ss e)=d:=by
     cases q:es[i]? with
     | none=>rw[q] at hd;cases hd
     | some e=>rw[q] at hd;exact⟨e,rfl,ae hd⟩
    obtain⟨ta,rfl,hta⟩:=hZ rd
    have hval:=val e (av he)
    obtain⟨d2,hd2,hne2,kv2,hkv2,hst2⟩:=hall (nmA ss e.2) (mem_getD hval.2)
    have hring:(cI kv2 (.inr (nmA ss e.1))).isSome=true ↔ MG.RingAt es e:=by
     have h1:∀k,MG.Walk (Tie (es.map (nmP ss))) k (nmA ss e.2) (nmA ss e.1) ↔ MG.Walk (MG.Arr es) k e.2 e.1:=fun k=>nM W.nd W.nm val hval.1
     constructor
     ·intro h
      obtain⟨v,hv⟩:=bJ.mp h
      obtain⟨m,_,dm⟩:=(hst2 _ v).mp hv
      exact MG.rch_to.mp ⟨m,(h1 m).mp dm.1⟩
     ·intro h
      obtain⟨m,wm⟩:=MG.rch_to.mpr h
      obtain⟨m',dm⟩:=MG.Rch.dst (R:=Tie (es.map (nmP ss))) ⟨m,(h1 m).mpr wm⟩
      rw[(hst2 _ (.int (m':Int))).mpr ⟨m',rfl,dm⟩];rfl
    refine⟨_,rfl,.tup (.of hta) rfl ⟨_,rfl,_,rfl,.tup (.of hta) rfl (.dic (.inl ⟨kvs,.inr (nmA ss e.2),.inl hk,rfl,hd2.symm⟩) (.dic (DGet.k (k:=.inr (nmA ss e.1)) hkv2) ⟨_,rfl,?_⟩))⟩⟩
    refine cK (fun h1=>?_) (fun h1=>?_)
    ·have hR:MG.RingAt es e:=hring.mp h1
     exact absurd hR (nor e (av he))
    ·have hR:¬ MG.RingAt es e:=fun z=>h1 (hring.mpr z)
     refine⟨_,_,rfl,rfl,fun j hj f hf=>?_⟩
     by_cases q:j<i
     ·exact hno j q f hf
     ·have:j=i:=by omega
      subst this
      rw[he] at hf
      cases hf
      exact hR
   ·rintro σ H' ⟨o3,o4,rfl,rfl,hno⟩
    rw[rlen] at hno
    exact k0 _ s13
def jJ:Sp:=fun vs H Q _=>∃q ss ts,vs=[q]/\Web H q ss ts/\∀d kvs H',Same H H'->H d=none->H' d=some (.dK kvs)->TabK H' kvs ss (dQ ss (if true then dk ts else ts))->Q (.ref d) H'
theorem sY {f:Addr}{fd:FuncData}(F:Fun K "priors_of_all" "priors_of_all" eY f fd) (B:Blt mg) (cpriors:Cal P w K mg base 2 "priors" ["web", "one"] (fQ true)):FnOk P w K mg base CX0 3 f fd ["web"] jJ := by
 refine F.ok scPriorsAll (fun vs H Q E h=>?_) (fun cdv A outer s H vs Q E hr h=>?_)
 ·obtain⟨q,ss,ts,rfl,_⟩:=h
  rfl
 ·obtain⟨q, ss, ts, rfl, W, k⟩ := h
  have nd:=scPriorsAll.nd
  refine⟨_,(cg (cy (i:=1) nd rfl (Or.inl rfl) fc)
   (cg (dD PassesOwn.never rfl (dN K (cu (cA K hr.units) (pv 0) ci (fun _ _=>rfl))) (cB (i:=2) nd rfl (Or.inl rfl)) (cp (dX (cr cpriors (hr.mono (by decide)) rfl (ce (pv 0) (ce (pv 2) cf))) (ei (pv 1) (pv 2) (eU hr.units)))))
   (cp (cz (pv 1))))),?_⟩
  intro d hd
  have W1:=W.same (Same.new (o:=.dK []) hd)
  obtain⟨q,a,b,xs,rfl,hq,ha,hb,rp⟩:=eD W.rep
  have s0:=Same.new (o:=.dK []) hd
  refine⟨_,rfl,.tup (.of (s0 _ _ hq)) rfl ⟨_,rfl,⟨_,.of (s0 _ _ ha)⟩,?_⟩⟩
  refine iY (xs:=List.map V.str ss) (fun i σ H'=>∃o1 kvs,σ=[some (.ref q),some (.ref d),o1]/\Same H H'/\H' d=some (.dK kvs)/\kvs.map (·.1)=(ss.take i).map Sum.inr/\∀s∈ss.take i,∃l,cI kvs (.inr s)=some (.ref l)/\H' l=some (.lst (List.map V.str (dQ ss (if true then dk ts else ts) s)))) ?_ ?_ ?_ ?_
  ·exact⟨none,[],rfl,s0,cn,rfl,fun s hs=>by simp at hs⟩
  ·rintro i σ H' hi ⟨o1,kvs,rfl,sm,_⟩
   exact .of (sm _ _ ha)
  ·rintro i x σ H' hx ⟨o1, kvs, rfl, sm, hk, hkl, hall⟩
   rw[ag] at hx
   obtain⟨t,ht,rfl⟩:∃t,ss[i]? = some t/\V.str t=x:=by
    cases q:ss[i]? with
    | none=>rw[q] at hx;cases hx
    | some e=>rw[q] at hx;exact⟨e,rfl,ae hx⟩
   have hil:=(ak.mp ht).1
   refine⟨_,rfl,_,rfl,.ref q,ss,ts,t,rfl,W.same sm,fun l H2 s2 hl hl2=>?_⟩
   have hk2:=s2 _ _ hk
   have:=W.len
   have hkn:kvs.length<=60:=by
    have h:=congrArg List.length hkl
    rw[ab,ab,aJ] at h
    omega
   refine⟨_,rfl,_,rfl,.dic (DPut.k (k:=.inr t) hk2 (cw (by omega))) ⟨_,_,rfl,?_,cn,?_,?_⟩⟩
   ·intro c o hc
    rw[cm (cq hc hd)]
    exact s2 _ _ (sm _ _ hc)
   ·have hnt:(Sum.inr t:Key)∉kvs.map (·.1):=by
       rw[hkl]
       intro z
       obtain⟨u,hu,e⟩:=al.mp z
       have e:u=t:=Sum.inr.inj e
       subst e
       obtain⟨j,hj⟩:=bW hu
       have hjl:=(ak.mp hj).1
       rw[aJ] at hjl
       rw[List.getElem?_take_of_lt (by omega)] at hj
       have:=(List.getElem?_inj (i:=j) (j:=i) (by omega) W.nd).mp (hj.trans ht.symm)
       omega
    rw[gH hnt,aj,hkl,aw,ht,aj]
    rfl
   ·intro s hs
    rw[aw,ht,ar] at hs
    by_cases q:s=t
    ·subst q
     refine⟨l,by rw[d8,if_pos rfl],?_⟩
     rw[cm (d4 hl2 hk2 (by intro z;cases z))]
     exact hl2
    ·rcases hs with hs | hs
     ·obtain⟨l',e1,e2⟩:=hall s hs
      refine⟨l',by rw[d8,if_neg (fun z=>q (Sum.inr.inj z))];exact e1,?_⟩
      rw[cm (d4 (s2 _ _ e2) hk2 (by intro z;cases z))]
      exact s2 _ _ e2
     ·exact absurd (by simpa using hs) q
  ·rintro σ H' ⟨o1,kvs,rfl,sm,hk,hkK,hall⟩
   rw[ab,aq (ac _)] at hall hkK
   exact⟨_,rfl,k d kvs H' sm hd hk ⟨hkK,hall⟩⟩
def gz:Sp:=fun vs H Q _=>∃(q:V) (ss:List Str) (es:List (Nat × Nat)),vs=[q]/\Web H q ss (es.map (nmP ss))/\eA ss es/\MG.Ris es/\∀H',Same H H'->Q .non H'
theorem scRefuse:FnScope ["web","ring"] ["web"] (ck gt):=⟨rfl,rfl,rfl,by decide +kernel,rfl,by decide +kernel,by decide +kernel⟩
theorem oT {f:Addr}{fd:FuncData}(F:Fun K "refuse_ring" "refuse_ring" gt f fd) (B:Blt mg) (cring_of:Cal P w K mg base 6 "ring_of" ["web"] ju):FnOk P w K mg base CX0 7 f fd ["web"] gz := by
 refine F.ok scRefuse (fun vs H Q E h=>?_) (fun cdv A outer s H vs Q E hr h=>?_)
 ·obtain⟨q,ss,es,rfl,_⟩:=h
  rfl
 ·obtain⟨q,ss,es,rfl,W,val,hf,k⟩:=h
  have nd:=scRefuse.nd
  refine⟨_,(cg (cy (i:=1) nd rfl (Or.inl rfl) (cr cring_of (hr.mono (by decide)) rfl (ce (pv 0) cf)))
   (cp (cM (cC gL (pv 1) ft (cE _)) (cp jA) cH))),?_⟩
  refine⟨_,rfl,q,ss,es,rfl,W,val,hf.noring,fun H1 s1=>?_⟩
  refine⟨_,rfl,.non ⟨_,rfl,cK (fun h=>absurd h (by decide)) (fun _=>?_)⟩⟩
  exact k H1 s1
def fM (kvs:List (Key × V)) (s:Str):Bool:=(cI kvs (.inr s)).isSome
def j8:Sp:=fun vs H Q _=>∃(s:Str) (tb td l:Addr) (tkv dkv:List (Key × V)) (ps:List Str),vs=[.str s,.ref tb,.ref td]/\Rd H tb (.dK tkv)/\cI tkv (.inr s)=some (.ref l)/\H l=some (.lst (List.map V.str ps))/\H td=some (.dK dkv)/\ps.length<=1000/\∀H',Same H H'->Q (.bl (!fM dkv s&&ps.all (fM dkv))) H'
theorem scIsDue:FnScope ["thing","table","told"] ["thing","table","told"] (ck gC):=⟨rfl,rfl,rfl,by decide +kernel,rfl,by decide +kernel,by decide +kernel⟩
theorem qc {f:Addr}{fd:FuncData}(F:Fun K "is_due" "is_due" gC f fd) (B:Blt mg):FnOk P w K mg base CX0 1 f fd ["thing", "table", "told"] j8 := by
 refine F.ok scIsDue (fun vs H Q E h=>?_) (fun cdv A outer s H vs Q E hr h=>?_)
 ·obtain⟨s,tb,td,l,tkv,dkv,ps,rfl,_⟩:=h
  rfl
 ·obtain⟨z, tb, td, l, tkv, dkv, ps, rfl, hr1, hv, hl, htd, hps, k⟩ := h
  have nd:=scIsDue.nd
  refine⟨_,(cp (cz (fX (dA (gI K hr.units) (pv 0) (pv 2) (by with_unfolding_all rfl)) (gc (gG rfl B (ce (cN (ck gC) ["thing","table","told"] ["prior"] [2] ["prior","told"] rfl (cV K (cu (cA K hr.units) (pv 1) (pv 0) (fun _ _=>rfl))) (fun _ _ _ _ _=>(cB (i:=0) (show (["prior","told"]:List Str).Nodup by decide) rfl (Or.inl rfl))) (fun _ _ _ _ _=>cY) (fun _ _ _ _ _=>(dA (gZ K hr.units) (pv 0) (pv 1) (by with_unfolding_all rfl)))) cf)))))),?_⟩
  refine⟨_,rfl,_,rfl,.dic (DGet.k (k:=.inr z) htd) ⟨_,rfl,cK (fun h=>?_) (fun h=>?_)⟩⟩
  ·have h:(!fM dkv z)=true := h
   refine⟨_,rfl,_,rfl,.dic (.inl ⟨tkv,.inr z,hr1,rfl,hv.symm⟩) ⟨l,rfl,⟨_,.of hl⟩,?_⟩⟩
   refine dI (List.map V.str ps) (fun D i acc σ' H'=>∃o,σ'=[o,some (.ref td)]/\acc=(ps.take i).map (fun p=>V.bl (fM dkv p))/\Same H H'/\H D=none) fun D hD=>⟨?_,?_,?_,?_⟩
   ·exact⟨none,rfl,rfl,Same.new hD,hD⟩
   ·rintro i acc σ' H' _ ⟨o,rfl,_,sm,_⟩ _
    exact .of (sm _ _ hl)
   ·rintro i acc σ' H' x hx ⟨o,rfl,rfl,sm,hD0⟩ hacc
    rw[ag] at hx
    obtain⟨t,ht,rfl⟩:∃t,ps[i]? = some t/\V.str t=x:=by
     cases q:ps[i]? with
     | none=>rw[q] at hx;cases hx
     | some e=>rw[q] at hx;exact⟨e,rfl,ae hx⟩
    have hil:=(ak.mp ht).1
    refine eF ?_
    refine⟨_,rfl,_,rfl,.dic (DGet.k (k:=.inr t) (sm _ _ htd)) ⟨hacc,?_,_,rfl,?_,cX sm hD0,hD0⟩⟩
    ·rw[ab,aJ];exact cw (by omega)
    ·rw[aw,ht,aj];rfl
   ·rintro acc σ' H2 ⟨o,rfl,rfl,s2,hD0⟩ hacc
    rw[ab,aq (ac _)] at hacc
    refine⟨D,ps.map (fM dkv),rfl,by rw[aT];exact hacc,?_⟩
    have q:=k H2 s2
    rw[h,bp] at q
    rw[List.all_map]
    exact q
  ·have h:¬ (!fM dkv z)=true:=h
   have e:(!fM dkv z)=false:=by simpa using h
   have q:=k H (Same.refl H)
   rw[e,Bool.false_and] at q
   exact q
def lK:Sp:=fun vs H Q _=>∃(q:V) (ss:List Str) (es:List (Nat × Nat)),vs=[q]/\Web H q ss (es.map (nmP ss))/\eA ss es/\MG.Ris es /\
 ∀l ks H',Same H H'->H l=none->H' l=some (.lst (List.map V.str (ks.map (nmA ss))))->ks.Nodup->(∀x∈ks,x<ss.length)->ks.length=ss.length->MG.Grown es ks->Q (.ref l) H'
theorem scAnew:FnScope ["web","table","told","free"] ["web"] (ck iu):=⟨rfl,rfl,rfl,by decide +kernel,rfl,by decide +kernel,by decide +kernel⟩
def dS (ss:List Str) (ks:List Nat):List (Key × V):=ks.map fun v=>(Sum.inr (nmA ss v),V.bl true)
theorem jZ (ss:List Str) (ks:List Nat):(dS ss ks).map (·.1)=(ks.map (nmA ss)).map Sum.inr:=by unfold dS;rw[aT,aT];rfl
theorem g9 {ss:List Str}(nd:ss.Nodup) {a b:Nat}(ha:a<ss.length) (hb:b<ss.length) (e:nmA ss a=nmA ss b):a=b:=by
 unfold nmA at e
 rw[aE,aE,ap ha,ap hb] at e
 exact(List.getElem_inj nd).mp e
theorem jw {ss:List Str}(nd:ss.Nodup) {ks:List Nat}(hk:∀x∈ks,x<ss.length) {v:Nat}(hv:v<ss.length):fM (dS ss ks) (nmA ss v)=decide (v∈ks):=by
 unfold fM
 rw[aZ,qd,jZ,decide_eq_true_iff]
 constructor
 ·intro h
  obtain⟨t,ht,e⟩:=al.mp h
  obtain⟨u,hu,rfl⟩:=al.mp ht
  have:=g9 nd (hk u hu) hv (Sum.inr.inj e)
  exact this ▸ hu
 ·intro h
  exact al.mpr ⟨_,al.mpr ⟨v,h,rfl⟩,rfl⟩
theorem lg {ss:List Str}{es:List (Nat × Nat)}(nd:ss.Nodup) (nm:∀s∈ss,Nm s) (val:∀e∈es,e.1<ss.length/\e.2<ss.length) {v:Nat}{p:Str}:p∈dQ ss (dk (es.map (nmP ss))) (nmA ss v) ↔ ∃u,u<ss.length/\p=nmA ss u/\(u,v)∈es:=by
 unfold dQ
 rw[aK,decide_eq_true_iff,mem_flip]
 constructor
 ·rintro⟨h1,h2⟩
  obtain⟨u,hu⟩:=bW h1
  have hul:=(ak.mp hu).1
  have e:p=nmA ss u:=by unfold nmA;rw[aE,hu];rfl
  subst e
  exact⟨u,hul,rfl,(j7 nd nm val).mp h2⟩
 ·rintro⟨u,hu,rfl,he⟩
  exact⟨mem_getD hu,(j7 nd nm val).mpr he⟩
theorem nh {ss:List Str}{es:List (Nat × Nat)}(nd:ss.Nodup) (nm:∀s∈ss,Nm s) (val:∀e∈es,e.1<ss.length/\e.2<ss.length) {ks:List Nat}(klt:∀x∈ks,x<ss.length) {v:Nat}(hv:v<ss.length) :
    (!fM (dS ss ks) (nmA ss v)&&(dQ ss (dk (es.map (nmP ss))) (nmA ss v)).all (fM (dS ss ks)))=true ↔ v∉ks/\∀u,(u,v)∈es->u∈ks:=by
 rw[bg,jw nd klt hv,aW]
 constructor
 ·rintro⟨h1,h2⟩
  refine⟨(fun z=>by rw[ai z] at h1;cases h1),fun u hu=>?_⟩
  have:=h2 _ ((lg nd nm val).mpr ⟨u,(val _ hu).1,rfl,hu⟩)
  rw[jw nd klt (val _ hu).1] at this
  exact ax this
 ·rintro⟨h1,h2⟩
  refine⟨by rw[aA h1];rfl,fun p hp=>?_⟩
  obtain⟨u,hu,rfl,he⟩:=(lg nd nm val).mp hp
  rw[jw nd klt hu]
  exact ai (h2 u he)
theorem tW {f:Addr}{fd:FuncData}(F:Fun K "order_anew" "order_anew" iu f fd) (B:Blt mg) (crefuse_ring:Cal P w K mg base 7 "refuse_ring" ["web"] gz) (cpriors_of_all:Cal P w K mg base 3 "priors_of_all" ["web"] jJ) (cis_due:Cal P w K mg base 1 "is_due" ["thing", "table", "told"] j8):FnOk P w K mg base CX0 8 f fd ["web"] lK := by
 refine F.ok scAnew (fun vs H Q E h=>?_) (fun cdv A outer s H vs Q E hr h=>?_)
 ·obtain⟨q,ss,es,rfl,_⟩:=h
  rfl
 ·obtain⟨q, ss, es, rfl, W, val, hf, k⟩ := h
  have nd:=scAnew.nd
  have h60:=W.len
  refine⟨_,(cg (dU (cr crefuse_ring (hr.mono (by decide)) rfl (ce (pv 0) cf)))
   (cg (cy (i:=1) nd rfl (Or.inr rfl) (cr cpriors_of_all (hr.mono (by decide)) rfl (ce (pv 0) cf)))
   (cg (cy (i:=2) nd rfl (Or.inr rfl) fc)
   (cg (jB PassesOwn.never (cC gU (oZ B (ce (pv 2) cf)) (oZ B (ce (pv 1) cf)) (cE _)) (cg (m7 (i:=3) nd rfl rfl (by rfl) (ck iu) ["web","table","told","free"] ["thing"] [1,2] ["thing","table","told"] rfl (uQ (pv 1)) (fun _ _ _ _ _=>(cB (i:=0) (show (["thing","table","told"]:List Str).Nodup by decide) rfl (Or.inl rfl))) (fun _ _ _ _ _=>(fh (df (cr cis_due (hr.mono (by decide)) rfl (ce (pv 0) (ce (pv 1) (ce (pv 2) cf))))))) (fun _ _ _ _ _=>(pv 0)))
   (cp (dX dl (ei (pv 2) (cu (cA K hr.units) (pv 3) ci (fun _ _=>rfl)) (eU hr.units))))))
   (cp (cz (rZ rfl B (ce (pv 2) cf)))))))),?_⟩
  refine⟨_,rfl,q,ss,es,rfl,W,val,hf,fun H1 s1=>?_⟩
  refine⟨_,rfl,q,ss,_,rfl,W.same s1,fun d tkv H2 s2 hd0 hd T=>?_⟩
  intro dt hdt
  have hdn:d≠dt:=cq hd hdt
  have s12:=s1.trans s2
  have T3:=T.same (Same.new (o:=.dK []) hdt)
  have hdH:H d=none:=cP s1 hd0
  have hdtH:H dt=none:=cP s12 hdt
  refine⟨fun m σ H'=>∃(ks:List Nat) (o3:Option V),m=ss.length-ks.length/\σ=[some q,some (.ref d),some (.ref dt),o3]/\H' dt=some (.dK (dS ss ks))/\Rd H' d (.dK tkv)/\TabK H' tkv ss (dQ ss (dk (es.map (nmP ss))))/\Same H H'/\ks.Nodup/\(∀x∈ks,x<ss.length)/\MG.Grown es ks,
   ⟨_,[],none,rfl,rfl,cn,.inl (by rw[cm hdn];exact hd),T3,s12.trans (Same.new hdt),bB,(fun x hx=>by cases hx),MG.Grown.nil⟩,?_⟩
  rintro m σ H4 ⟨ks,o3,hm,rfl,h4,hR,T4,s4,knd,klt,kg⟩
  have kle:ks.length<=ss.length:=MG.nodup_le knd klt
  have tl:(dS ss ks).length=ks.length:=ab ..
  refine⟨_,rfl,dt,_,rfl,.inl h4,_,rfl,d,tkv,rfl,hR,.int ⟨_,rfl,?_⟩⟩
  rw[tl,T4.len]
  refine cK (fun hlt=>?_) (fun hge=>?_)
  ·have hlt:((ks.length:Nat):Int)<((ss.length:Nat):Int) := ax hlt
   have hltn:ks.length<ss.length:=by omega
   refine⟨fun σ' H'=>∃(m':Nat) (ks:List Nat) (o3:Option V),m'<m/\m'=ss.length-ks.length/\σ'=[some q,some (.ref d),some (.ref dt),o3]/\H' dt=some (.dK (dS ss ks))/\Rd H' d (.dK tkv)/\TabK H' tkv ss (dQ ss (dk (es.map (nmP ss))))/\Same H H'/\ks.Nodup/\(∀x∈ks,x<ss.length)/\MG.Grown es ks,
    fun σ' H' ⟨m',ks,o3,hlt,g⟩=>⟨m',hlt,ks,o3,g⟩,?_⟩
   refine⟨_,rfl,d,tkv,rfl,hR,fun ob H5 hfz hne=>?_⟩
   have k5:∀b xs,H4 b=some (.lst xs)->H5 b=some (.lst xs):=fun b xs e=>by
    rw[hne b (fun z=>by subst z;rcases hR with r | ⟨o',r⟩ <;> (rw[r] at e;cases e))]
    exact e
   have T5:=T4.keep k5
   have h5:H5 dt=some (.dK (dS ss ks)):=by rw[hne dt (Ne.symm hdn)];exact h4
   have s5:Same H H5:=fun b o e=>by rw[hne b (cq e hdH)];exact s4 _ _ e
   obtain⟨due,hdue⟩:∃due:Str->Bool,due=fun z=>!fM (dS ss ks) z&&(dQ ss (dk (es.map (nmP ss))) z).all (fM (dS ss ks)):=⟨_,rfl⟩
   refine qF tkv (fun D i acc σ' H'=>∃o,σ'=[o,some (.ref d),some (.ref dt)]/\acc=List.map V.str ((ss.take i).filter due)/\Same H5 H'/\H5 D=none) fun D hD=>⟨?_,?_,?_,?_⟩
   ·exact⟨none,rfl,rfl,Same.new hD,hD⟩
   ·rintro i acc σ' H' _ ⟨o,rfl,_,sm,_⟩ _
    exact sm _ _ hfz
   ·rintro i acc σ' H' kv hkv ⟨o,rfl,rfl,sm,hD0⟩ hacc
    obtain⟨z,hz,ez⟩:=T5.at hkv
    rw[ez]
    have hil:=(ak.mp hz).1
    obtain⟨l,hv,hl⟩:=T5.2 z (av hz)
    have hpl:(dQ ss (dk (es.map (nmP ss))) z).length<=1000:=by
     have:=bh (fun t=>decide ((z,t)∈dk (es.map (nmP ss)))) ss
     unfold dQ
     omega
    have hfl:=bh due (ss.take i)
    rw[aJ] at hfl
    have step:(ss.take (i+1)).filter due=(ss.take i).filter due++(if due z=true then [z] else []):=by
     rw[aw,hz,bq]
     by_cases q:due z=true
     ·simp[q]
     ·simp[q]
    refine⟨_,rfl,_,rfl,_,rfl,z,d,dt,l,tkv,dS ss ks,_,rfl,.inr ⟨ob,sm _ _ hfz⟩,hv,sm _ _ hl,sm _ _ h5,hpl,fun H7 s7=>⟨_,rfl,cK (fun h=>?_) (fun h=>?_)⟩⟩
    ·have h:due z=true:=by rw[hdue];exact h
     refine⟨_,rfl,s7 _ _ hacc,by rw[ab];exact cw (by omega),_,rfl,by rw[step,if_pos h,aj];rfl,cX (sm.trans s7) hD0,hD0⟩
    ·have h:¬ due z=true:=by rw[hdue];exact h
     exact⟨s7 _ _ hacc,_,rfl,by rw[step,if_neg h,List.append_nil],sm.trans s7,hD0⟩
   rintro acc σ' H6 ⟨o,rfl,rfl,s6,hD0⟩ hacc
   rw[T4.len,aq (ac _)] at hacc
   obtain⟨v0,hv0,hn0,hp0⟩:=MG.due_ex hf val hltn knd klt
   have hmem:nmA ss v0∈ss.filter due:=aK.mpr ⟨mem_getD hv0,by rw[hdue];exact(nh W.nd W.nm val klt hv0).mpr ⟨hn0,hp0⟩⟩
   obtain⟨w0,d7,hfree⟩:∃w0 d7,ss.filter due=w0::d7:=by
    cases e:ss.filter due with
    | nil=>rw[e] at hmem;cases hmem
    | cons w0 d7=>exact⟨w0,d7,rfl⟩
   have hw0:w0∈ss.filter due:=by rw[hfree];simp
   obtain⟨hws,hwd⟩:=aK.mp hw0
   obtain⟨v,hv⟩:=bW hws
   have hvl:=(ak.mp hv).1
   have ew:w0=nmA ss v:=by unfold nmA;rw[aE,hv];rfl
   subst ew
   rw[hdue] at hwd
   obtain⟨hvn,hvp⟩:=(nh W.nd W.nm val klt hvl).mp hwd
   rw[hfree] at hacc
   have h6:=s6 _ _ h5
   have hnew:(Sum.inr (nmA ss v):Key)∉(dS ss ks).map (·.1):=by
    rw[jZ]
    intro z
    obtain⟨t,ht,e⟩:=al.mp z
    obtain⟨u,hu,rfl⟩:=al.mp ht
    exact hvn (g9 W.nd (klt u hu) hvl (Sum.inr.inj e) ▸ hu)
   have hlt2:∀b xs,H6 b=some (.lst xs)->upd H6 dt (.dK (dS ss (ks++[v]))) b=some (.lst xs):=fun b xs e=>by
    rw[cm (fun z=>by subst z;rw[h6] at e;cases e)];exact e
   refine⟨_,rfl,_,rfl,.lst (.of hacc) (eR (j:=0) rfl) (.dic (DPut.k (k:=.inr (nmA ss v)) h6 (by rw[tl];exact cw (by omega))) ?_)⟩
   rw[gH hnew]
   have ek:dS ss ks++[(Sum.inr (nmA ss v),V.bl true)]=dS ss (ks++[v]):=by unfold dS;rw[aj];rfl
   rw[ek]
   refine⟨ss.length-(ks++[v]).length,ks++[v],_,by rw[aU];show ss.length-(ks.length+1)<m;omega,rfl,rfl,cn,.inr ⟨ob,by rw[cm hdn];exact s6 _ _ hfz⟩,(T5.same s6).keep hlt2,?_,?_,?_,kg.snoc hvp⟩
   ·intro b o' e
    rw[cm (cq e hdtH)]
    exact s6 _ _ (s5 _ _ e)
   ·exact(List.perm_append_singleton v ks).nodup_iff.mpr (ba.mpr ⟨hvn,knd⟩)
   ·intro x hx
    rcases ar.mp hx with g | g
    ·exact klt x g
    ·rw[aQ.mp g];exact hvl
  ·have hge:¬ ((ks.length:Nat):Int)<((ss.length:Nat):Int):=fun z=>hge (ai z)
   refine⟨_,rfl,dt,_,rfl,.inl h4,by rw[tl];omega,fun l hl=>?_⟩
   refine k l ks _ (s4.trans (Same.new hl)) (cP s4 hl) ?_ knd klt (by omega) kg
   rw[cn]
   unfold dS
   rw[aT,aT]
   rfl
def cx (zs:List Int):List V:=zs.map V.int
theorem i8 {zs:List Int}{i:Nat}{x:V}(h:(cx zs)[i]? = some x):∃z,zs[i]? = some z/\V.int z=x:=by
 unfold cx at h
 rw[ag] at h
 cases q:zs[i]? with
 | none=>rw[q] at h;cases h
 | some e=>rw[q] at h;exact⟨e,rfl,ae h⟩
theorem Web.at {H:Hp}{v:V}{ss:List Str}{ts:List (Str × Str)}(W:Web H v ss ts):∃q a b,v=.ref q/\H q=some (.tup [.ref a,.ref b])/\H a=some (.tup (List.map V.str ss)):=by
 obtain⟨q,a,b,xs,rfl,hq,ha,hb,rp⟩:=eD W.rep
 exact⟨q,a,b,rfl,hq,ha⟩
def gu:Sp:=fun vs H Q _=>∃z,vs=[V.int z]/\Q (.bl true) H
theorem scWhole:FnScope ["thing"] ["thing"] (ck fT):=⟨rfl,rfl,rfl,by decide +kernel,rfl,by decide +kernel,by decide +kernel⟩
theorem qI {f:Addr}{fd:FuncData}(F:Fun K "is_whole" "is_whole" fT f fd) (B:Blt mg):FnOk P w K mg base CX0 1 f fd ["thing"] gu:=by
 refine F.ok scWhole (fun vs H Q E h=>?_) (fun cdv A outer s H vs Q E hr h=>?_)
 ·obtain⟨x,rfl,_⟩:=h
  rfl
 ·obtain⟨x,rfl,k⟩:=h
  have nd:=scWhole.nd
  obtain⟨t,ty,_,t2,t3,_⟩:=fq (K:=K) (H:=H) (x:=.int x) (.int x)
  refine⟨_,(cp (cz (fX (gf K "int" B (ce (pv 0) (ce (vw B) cf))) (gc (uT (gf K "bool" B (ce (pv 0) (ce (uh B) cf)))))))),?_⟩
  refine⟨_,rfl,_,t,_,rfl,ty,t2,_,rfl,?_⟩
  refine cK (fun h=>?_) (fun h=>absurd rfl h)
  exact⟨_,rfl,_,t,_,rfl,ty,t3,_,rfl,k⟩
def io:Sp:=fun vs H Q _=>∃(q:V) (a:Addr) (ss:List Str) (ts:List (Str × Str)) (zs:List Int),vs=[q,.ref a]/\Web H q ss ts/\H a=some (.lst (cx zs))/\zs.length=ss.length/\∀H',Same H H'->Q (.bl true) H'
theorem scWholes:FnScope ["web","numbers"] ["web","numbers"] (ck eV):=⟨rfl,rfl,rfl,by decide +kernel,rfl,by decide +kernel,by decide +kernel⟩
theorem ox {f:Addr}{fd:FuncData}(F:Fun K "are_wholes" "are_wholes" eV f fd) (B:Blt mg) (cis_whole:Cal P w K mg base 1 "is_whole" ["thing"] gu):FnOk P w K mg base CX0 2 f fd ["web", "numbers"] io := by
 refine F.ok scWholes (fun vs H Q E h=>?_) (fun cdv A outer s H vs Q E hr h=>?_)
 ·obtain⟨q,a,ss,ts,zs,rfl,_⟩:=h
  rfl
 ·obtain⟨q,n,ss,ts,zs,rfl,W,hn,hl,k⟩:=h
  have nd:=scWholes.nd
  have h60:=W.len
  obtain⟨q,a,b,rfl,hq,ha⟩:=Web.at W
  have il:(cx zs).length=zs.length:=ab ..
  refine⟨_,(cp (cz (fX (dA (dg hr.units) (dC K B (ce (pv 1) cf)) (dC K B (ce (cu (cA K hr.units) (pv 0) ci (fun _ _=>rfl)) cf)) (cE _)) (gc (gG rfl B (ce (cN (ck eV) ["web","numbers"] ["number"] [] ["number"] rfl (cV K (pv 1)) (fun _ _ _ _ _=>(cB (i:=0) (show (["number"]:List Str).Nodup by decide) rfl (Or.inl rfl))) (fun _ _ _ _ _=>cY) (fun _ _ _ _ _=>(cr cis_whole (hr.mono (by decide)) rfl (ce (pv 0) cf)))) cf)))))),?_⟩
  refine⟨_,rfl,_,_,rfl,(SqA.len (K:=K) (H:=H) (a:=n) (.inl hn)),_,rfl,.tup (.of hq) rfl ⟨_,_,rfl,(SqA.len (K:=K) (H:=H) (a:=a) (.inr ha)),.sc rfl ⟨_,rfl,cK (fun _=>?_) (fun h=>absurd (by rw[il,ab,hl];exact ai rfl) h)⟩⟩⟩
  refine⟨_,rfl,n,rfl,⟨_,.of hn⟩,?_⟩
  refine dI (cx zs) (fun D i acc σ' H'=>∃o,σ'=[o]/\acc=List.map V.bl (List.replicate i true)/\Same H H'/\H D=none) fun D hD=>⟨?_,?_,?_,?_⟩
  ·exact⟨none,rfl,rfl,Same.new hD,hD⟩
  ·rintro i acc σ' H' _ ⟨o,rfl,_,sm,_⟩ _
   exact .of (sm _ _ hn)
  ·rintro i acc σ' H' x hx ⟨o,rfl,rfl,sm,hD0⟩ hacc
   have hil:=(ak.mp hx).1
   rw[il] at hil
   obtain⟨z,hz,rfl⟩:=i8 hx
   refine eF ?_
   exact⟨_,rfl,z,rfl,hacc,by rw[ab,bj];exact cw (by omega),_,rfl,by rw[bX,aj];rfl,cX sm hD0,hD0⟩
  ·rintro acc σ' H2 ⟨o,rfl,rfl,s2,hD0⟩ hacc
   refine⟨D,_,rfl,hacc,?_⟩
   have e:(List.replicate (cx zs).length true).all id=true:=by rw[aW];intro x hx;exact(List.mem_replicate.mp hx).2
   rw[e]
   exact k H2 s2
def mT:Sp:=fun vs H Q _=>∃(q:V) (a:Addr) (ss:List Str) (es:List (Nat × Nat)) (zs:List Int),vs=[q,.ref a]/\Web H q ss (es.map (nmP ss))/\eA ss es/\MG.Ris es/\H a=some (.lst (cx zs))/\zs.length=ss.length/\∀l H',Same H H'->H l=none->H' l=some (.dK (cS ss (cx zs)))->Q (.ref l) H'
theorem scWeigh:FnScope ["web","weights"] ["web","weights"] (ck gA):=⟨rfl,rfl,rfl,by decide +kernel,rfl,by decide +kernel,by decide +kernel⟩
theorem ql {f:Addr}{fd:FuncData}(F:Fun K "weights_by_thing" "weights_by_thing" gA f fd) (B:Blt mg) (Zz:mg "zip"=none) (crefuse_ring:Cal P w K mg base 7 "refuse_ring" ["web"] gz) (care_wholes:Cal P w K mg base 2 "are_wholes" ["web", "numbers"] io):FnOk P w K mg base CX0 8 f fd ["web", "weights"] mT := by
 refine F.ok scWeigh (fun vs H Q E h=>?_) (fun cdv A outer s H vs Q E hr h=>?_)
 ·obtain⟨q,a,ss,es,zs,rfl,_⟩:=h
  rfl
 ·obtain⟨q,n,ss,es,zs,rfl,W,val,hf,hn,hl,k⟩:=h
  have nd:=scWeigh.nd
  have h60:=W.len
  refine⟨_,(cg (dU (cr crefuse_ring (hr.mono (by decide)) rfl (ce (pv 0) cf)))
   (cg (cM (PW.pt (dW (di (df (oN K "list" "tuple" B (ce (pv 1) (ce (fu (ce (iI B) (ce (ia B) cf))) cf))))) (eE (di (df (cr care_wholes (hr.mono (by decide)) rfl (ce (pv 0) (ce (pv 1) cf)))))))) (cp jA) cH)
   (cp (cz (m4 K rfl hr.units B Zz (ce (cu (cA K hr.units) (pv 0) ci (fun _ _=>rfl)) (ce (pv 1) cf))))))),?_⟩
  refine⟨_,rfl,q,ss,es,rfl,W,val,hf,fun H1 s1=>?_⟩
  refine⟨_,rfl,(by show 2<=sizeLine;decide),fun tp htp=>?_⟩
  have s0:=Same.new (o:=.tup [V.ty "list",V.ty "tuple"]) htp
  have A0:SqA (upd H1 tp (.tup [V.ty "list",V.ty "tuple"])) n (cx zs):=SqA.same (.inl (s1 _ _ hn)) s0
  obtain⟨t,ty,_,_,_,t4,t5⟩:=fq (K:=K) A0.thg
  have kl:=ol t4 t5
  rw[A0.lt] at kl
  refine⟨_,tp,t,_,rfl,cn,ty,kl,_,rfl,?_⟩
  refine cK (fun h=>absurd h (by decide)) (fun _=>?_)
  have s01:=s1.trans s0
  generalize upd H1 tp (.tup [V.ty "list",V.ty "tuple"])=H2 at s01 ⊢
  refine⟨_,rfl,_,rfl,q,n,ss,_,zs,rfl,W.same s01,s01 _ _ hn,hl,fun H3 s3=>⟨_,rfl,cK (fun h=>absurd h (by decide)) (fun _=>?_)⟩⟩
  have s13:=s01.trans s3
  obtain⟨q,a,b,rfl,hq,ha⟩:=Web.at (W.same s13)
  refine⟨_,rfl,.tup (.of hq) rfl ⟨_,rfl,a,n,ss,cx zs,rfl,.of ha,.of (s13 _ _ hn),by unfold cx;rw[ab,hl],by omega,fun l H4 hl4 s4 h4=>?_⟩⟩
  rw[kE ss _ W.nd] at h4
  exact k l H4 (s13.trans s4) (cP s13 hl4) h4
def ee (ss:List Str) (D:Nat->Int) (ks:List Nat):List (Key × V):=ks.map fun v=>(Sum.inr (nmA ss v),V.int (D v))
theorem oG (ss:List Str) (D:Nat->Int) (ks:List Nat):(ee ss D ks).map (·.1)=(ks.map (nmA ss)).map Sum.inr:=by unfold ee;rw[aT,aT];rfl
theorem gi {ss:List Str}(nd:ss.Nodup) (D:Nat -> Int):∀ {ks:List Nat}, (∀x ∈ ks, x<ss.length) -> ∀ {v:Nat}, v ∈ ks -> cI (ee ss D ks) (.inr (nmA ss v))=some (.int (D v))
 | [],_,v,h=>by cases h
 | u::ks,hk,v,h=>by
  by_cases q:u=v
  ·subst q;exact dF (p:=(Sum.inr (nmA ss u),V.int (D u))) rfl
  ·have hv:v∈ks:=by rcases aR.mp h with z | z;exact absurd z.symm q;exact z
   have ne:¬ (Sum.inr (nmA ss u):Key)=Sum.inr (nmA ss v):=fun z=>q (g9 nd (hk u (by simp)) (hk v h) (Sum.inr.inj z))
   show cI ((Sum.inr (nmA ss u),V.int (D u))::ee ss D ks) _=_
   rw[dE ne]
   exact gi nd D (fun x hx=>hk x (aI _ hx)) hv
def j5:Sp:=fun vs H Q _=>∃(q:V) (d:Addr) (ss:List Str) (ts:List (Str × Str)) (D:Nat->Int) (ks:List Nat),vs=[q,.ref d]/\Web H q ss ts/\H d=some (.dK (ee ss D ks))/\(∀x∈ks,x<ss.length)/\(∀x,x<ss.length->x∈ks)/\∀l H',Same H H'->H l=none->H' l=some (.lst (cx ((List.range ss.length).map D)))->Q (.ref l) H'
theorem scByPl:FnScope ["web","found"] ["web","found"] (ck iq):=⟨rfl,rfl,rfl,by decide +kernel,rfl,by decide +kernel,by decide +kernel⟩
theorem sx {f:Addr}{fd:FuncData}(F:Fun K "by_places" "by_places" iq f fd) (B:Blt mg):FnOk P w K mg base CX0 1 f fd ["web", "found"] j5 := by
 refine F.ok scByPl (fun vs H Q E h=>?_) (fun cdv A outer s H vs Q E hr h=>?_)
 ·obtain⟨q,d,ss,ts,D,ks,rfl,_⟩:=h
  rfl
 ·obtain⟨q, d, ss, ts, Dd, ks, rfl, W, hd, klt, kal, k⟩ := h
  have nd:=scByPl.nd
  have h60:=W.len
  have wnd:=W.nd
  obtain⟨q,a,b,rfl,hq,ha⟩:=Web.at W
  refine⟨_,(cp (cz (cN (ck iq) ["web","found"] ["thing"] [1] ["thing","found"] rfl (dN K (cu (cA K hr.units) (pv 0) ci (fun _ _=>rfl))) (fun _ _ _ _ _=>(cB (i:=0) (show (["thing","found"]:List Str).Nodup by decide) rfl (Or.inl rfl))) (fun _ _ _ _ _=>cY) (fun _ _ _ _ _=>(cu (cA K hr.units) (pv 1) (pv 0) (fun _ _=>rfl)))))),?_⟩
  refine⟨_,rfl,.tup (.of hq) rfl ⟨_,rfl,⟨_,.of ha⟩,?_⟩⟩
  refine ev (List.map V.str ss) (fun D i acc σ' H'=>∃o,σ'=[o,some (.ref d)]/\acc=cx ((List.range i).map Dd)/\Same H H'/\H D=none) fun D hD=>⟨?_,?_,?_,?_⟩
  ·exact⟨none,rfl,rfl,Same.new hD,hD⟩
  ·rintro i acc σ' H' _ ⟨o,rfl,_,sm,_⟩ _
   exact .of (sm _ _ ha)
  ·rintro i acc σ' H' x hx ⟨o,rfl,rfl,sm,hD0⟩ hacc
   have hil:=(ak.mp hx).1
   rw[ab] at hil
   have ex:x=V.str (nmA ss i):=by
    rw[ag,ap hil] at hx
    have:V.str ss[i]=x:=ae hx
    rw[<- this]
    unfold nmA
    rw[aE,ap hil];rfl
   subst ex
   refine eF ?_
   refine⟨_,rfl,_,rfl,.dic (.inl ⟨_,.inr (nmA ss i),.inl (sm _ _ hd),rfl,(gi wnd Dd klt (kal i hil)).symm⟩) ?_⟩
   exact⟨hacc,by unfold cx;rw[ab,ab,aF];exact cw (by omega),_,rfl,by rw[List.range_succ,aj];unfold cx;rw[aj];rfl,cX sm hD0,hD0⟩
  ·rintro acc σ' H2 ⟨o,rfl,rfl,s2,hD0⟩ hacc
   rw[ab] at hacc
   exact k D H2 s2 hD0 hacc
theorem jU {ss:List Str}{es:List (Nat × Nat)}(nd:ss.Nodup) (nm:∀s∈ss,Nm s) (val:∀e∈es,e.1<ss.length/\e.2<ss.length) (v:Nat):∃us:List Nat,dQ ss (dk (es.map (nmP ss))) (nmA ss v)=us.map (nmA ss)/\us.length<=ss.length/\∀u,u∈us ↔ (u,v)∈es:=by
 have e:dk (es.map (nmP ss))=(MG.swp es).map (nmP ss):=by
  unfold dk MG.swp
  rw[aT,aT]
  rfl
 refine⟨nxn ss.length (MG.swp es) v,?_,?_,fun u=>?_⟩
 ·rw[e]
  exact tO nd nm (fun a ha=>by obtain⟨b,hb,rfl⟩:=al.mp ha;exact(val b hb).symm) v
 ·unfold nxn
  have:=bh (fun b=>decide ((v,b)∈MG.swp es)) (List.range ss.length)
  rwa [aF] at this
 ·unfold nxn
  rw[aK,decide_eq_true_iff,MG.mem_swp,aN]
  exact⟨fun h=>h.2,fun h=>⟨(val _ h).1,h⟩⟩
theorem fD {ss:List Str}{v:Nat}(h:v<ss.length):ss[v]? = some (nmA ss v):=by
 unfold nmA
 rw[aE,ap h];rfl
def wOf (zs:List Int) (v:Nat):Int:=zs.getD v 0
theorem gq {zs:List Int}{v:Nat}(h:v<zs.length):(cx zs)[v]? = some (.int (wOf zs v)):=by
 unfold cx wOf
 rw[ag,aE,ap h];rfl
def jb:Sp:=fun vs H Q _=>∃(q:V) (d:Addr) (ss:List Str) (es:List (Nat × Nat)) (zs:List Int) (D:Nat->Int),vs=[q,.ref d]/\Web H q ss (es.map (nmP ss))/\eA ss es/\MG.Ris es/\H d=some (.dK (cS ss (cx zs)))/\zs.length=ss.length/\MG.IsD es (wOf zs) D /\
 ∀l ks H',Same H H'->H l=none->H' l=some (.dK (ee ss D ks))->ks.Nodup->(∀x∈ks,x<ss.length)->(∀x,x<ss.length->x∈ks)->Q (.ref l) H'
theorem scDepBy:FnScope ["web","weighed","table","found","thing"] ["web","weighed"] (ck gw):=⟨rfl,rfl,rfl,by decide +kernel,rfl,by decide +kernel,by decide +kernel⟩
theorem vd {ks:List Nat}{n:Nat}(nd:ks.Nodup) (h:∀x∈ks,x<n) (hl:ks.length=n):∀x,x<n->x∈ks:=by
 intro x hx
 refine Classical.byContradiction fun z=>?_
 have:=MG.nodup_le (n:=n) (l:=x::ks) (ba.mpr ⟨z,nd⟩) (fun y hy=>by rcases aR.mp hy with rfl | g;exact hx;exact h y g)
 rw[bA] at this
 omega
theorem rq {f:Addr}{fd:FuncData}(F:Fun K "depths_by_thing" "depths_by_thing" gw f fd) (B:Blt mg) (cpriors_of_all:Cal P w K mg base 3 "priors_of_all" ["web"] jJ) (corder_anew:Cal P w K mg base 8 "order_anew" ["web"] lK):FnOk P w K mg base CX0 9 f fd ["web", "weighed"] jb := by
 refine F.ok scDepBy (fun vs H Q E h=>?_) (fun cdv A outer s H vs Q E hr h=>?_)
 ·obtain⟨q,d,ss,es,zs,D,rfl,_⟩:=h
  rfl
 ·obtain⟨q, wd, ss, es, zs, D, rfl, W, val, hf, hwd, hzl, hD, k⟩ := h
  have nd:=scDepBy.nd
  have h60:=W.len
  have wnd:=W.nd
  refine⟨_,(cg (cy (i:=2) nd rfl (Or.inl rfl) (cr cpriors_of_all (hr.mono (by decide)) rfl (ce (pv 0) cf)))
   (cg (cy (i:=3) nd rfl (Or.inr rfl) fc)
   (cg (dD PassesOwn.never rfl (cV K (cr corder_anew (hr.mono (by decide)) rfl (ce (pv 0) cf))) (cB (i:=4) nd rfl (Or.inl rfl)) (cp (dX (cG cO (cu (cA K hr.units) (pv 1) (pv 4) (fun _ _=>rfl)) (jT K rfl B (ce (cG cO (cZ (ce ci cf)) (cN (ck gw) ["web","weighed","table","found","thing"] ["prior"] [3] ["prior","found"] rfl (cV K (cu (cA K hr.units) (pv 2) (pv 4) (fun _ _=>rfl))) (fun _ _ _ _ _=>(cB (i:=0) (show (["prior","found"]:List Str).Nodup by decide) rfl (Or.inl rfl))) (fun _ _ _ _ _=>cY) (fun _ _ _ _ _=>(cu (cA K hr.units) (pv 1) (pv 0) (fun _ _=>rfl))))) cf))) (ei (pv 3) (pv 4) (eU hr.units)))))
   (cp (cz (pv 3)))))),?_⟩
  refine⟨_,rfl,q,ss,_,rfl,W,fun tb tkv H1 s1 htb0 htb T=>?_⟩
  intro d hd
  have hdH:H d=none:=cP s1 hd
  have s2:=s1.trans (Same.new (o:=.dK []) hd)
  refine⟨_,rfl,q,ss,es,rfl,W.same s2,val,hf,fun lo ks H3 s3 hlo0 hlo knd klt kln kg=>?_⟩
  have kal:=vd knd klt kln
  have hd3:H3 d=some (.dK []):=s3 _ _ cn
  have T3:TabK H3 tkv ss (dQ ss (dk (es.map (nmP ss)))):=(T.same (Same.new (o:=.dK []) hd)).same s3
  have htb3:H3 tb=some (.dK tkv):=s3 _ _ (Same.new (o:=.dK []) hd _ _ htb)
  have hwd3:H3 wd=some (.dK (cS ss (cx zs))):=s3 _ _ (s2 _ _ hwd)
  have ntb:tb≠d:=cq htb hd
  have nwd:wd≠d:=cq hwd hdH
  have nlo:lo≠d:=d4 hlo hd3 (by intro z;cases z)
  have s23:=s2.trans s3
  refine⟨_,rfl,⟨_,.of hlo⟩,?_⟩
  refine fH (xs:=List.map V.str (ks.map (nmA ss))) (fun i σ H'=>∃o4,σ=[some q,some (.ref wd),some (.ref tb),some (.ref d),o4]/\H' d=some (.dK (ee ss D (ks.take i)))/\But d H3 H') ?_ ?_ ?_ ?_
  ·exact⟨none,rfl,hd3,But.refl d H3⟩
  ·rintro i σ H' hi ⟨o4,rfl,_,b⟩
   exact .of (b _ _ nlo hlo)
  ·rintro i x σ H4 hx ⟨o4, rfl, h4, b⟩
   obtain⟨v,hv,rfl⟩:∃v,ks[i]? = some v/\V.str (nmA ss v)=x:=by
    rw[ag,ag] at hx
    cases e:ks[i]? with
    | none=>rw[e] at hx;cases hx
    | some v=>rw[e] at hx;exact⟨v,rfl,ae hx⟩
   have hil:=(ak.mp hv).1
   have hvl:=klt v (av hv)
   obtain⟨us,hus,hul,hum⟩:=jU wnd W.nm val v
   obtain⟨lp,hlp,hlpl⟩:=T3.2 (nmA ss v) (mem_getD hvl)
   rw[hus] at hlpl
   have nlp:lp≠d:=d4 hlpl hd3 (by intro z;cases z)
   have htk:∀x∈ks.take i,x<ss.length:=fun x hx=>klt x (List.mem_of_mem_take hx)
   have utk:∀u∈us,u∈ks.take i:=fun u hu=>kg i v hv u ((hum u).mp hu)
   refine⟨_,rfl,_,rfl,.dic (.inl ⟨_,.inr (nmA ss v),.inl (b _ _ nwd hwd3),rfl,(eO wnd (fD hvl) (gq (by omega))).symm⟩) ?_⟩
   refine⟨(by show 1<=sizeLine;decide),fun l0 hl0=>?_⟩
   have s5:=Same.new (o:=.lst [V.int 0]) hl0
   have hl05:upd H4 l0 (.lst [V.int 0]) l0=some (.lst [V.int 0]):=cn
   generalize upd H4 l0 (.lst [V.int 0])=H5 at s5 hl05 ⊢
   have hp5:H5 lp=some (.lst (List.map V.str (us.map (nmA ss)))):=s5 _ _ (b _ _ nlp hlpl)
   have h5:=s5 _ _ h4
   refine⟨_,rfl,_,rfl,.dic (.inl ⟨tkv,.inr (nmA ss v),.inl (s5 _ _ (b _ _ ntb htb3)),rfl,hlp.symm⟩) ⟨lp,rfl,⟨_,.of hp5⟩,?_⟩⟩
   refine dI (List.map V.str (us.map (nmA ss))) (fun C j acc σ' H'=>∃o,σ'=[o,some (.ref d)]/\acc=cx ((us.take j).map D)/\Same H5 H'/\H5 C=none) fun C hC=>⟨?_,?_,?_,?_⟩
   ·exact⟨none,rfl,rfl,Same.new hC,hC⟩
   ·rintro j acc σ' H' _ ⟨o,rfl,_,sm,_⟩ _
    exact .of (sm _ _ hp5)
   ·rintro j acc σ' H' x hx ⟨o,rfl,rfl,sm,hC0⟩ hacc
    obtain⟨u,hu,rfl⟩:∃u,us[j]? = some u/\V.str (nmA ss u)=x:=by
     rw[ag,ag] at hx
     cases e:us[j]? with
     | none=>rw[e] at hx;cases hx
     | some v=>rw[e] at hx;exact⟨v,rfl,ae hx⟩
    have hjl:=(ak.mp hu).1
    refine eF ?_
    refine⟨_,rfl,_,rfl,.dic (.inl ⟨_,.inr (nmA ss u),.inl (sm _ _ h5),rfl,(gi wnd D htk (utk u (av hu))).symm⟩) ?_⟩
    exact⟨hacc,by unfold cx;rw[ab,ab,aJ];exact cw (by omega),_,rfl,by rw[aw,hu,aj];unfold cx;rw[aj];rfl,cX sm hC0,hC0⟩
   ·rintro acc σ' H6 ⟨o, rfl, rfl, s6, hC0⟩ hacc
    rw[ab,ab,aq (ac _)] at hacc
    have iL:(cx (us.map D)).length=us.length:=by unfold cx;rw[ab,ab]
    refine .lst (s6 _ _ hl05) hacc (by rw[iL];show 1+us.length<=sizeLine;exact bd (cw (by omega))) fun lm hlm=>?_
    have s7:=Same.new (o:=.lst ([V.int 0]++cx (us.map D))) hlm
    have h7:upd H6 lm (.lst ([V.int 0]++cx (us.map D))) lm=some (.lst (List.map V.int (0::us.map D))):=cn
    generalize upd H6 lm (.lst ([V.int 0]++cx (us.map D)))=H7 at s7 h7 ⊢
    refine⟨lm,_,rfl,.of h7,(by show 0<(us.map D).length+1;omega),fun M hM hMx=>.int ?_⟩
    have e:wOf zs v+M=D v:=by
     refine hD.top (hMx 0 (by simp)) (fun u hu=>hMx _ (aI _ (al.mpr ⟨u,(hum u).mpr hu,rfl⟩))) ?_
     rcases aR.mp hM with z | z
     ·exact .inl z
     ·obtain⟨u,hu,z⟩:=al.mp z
      exact .inr ⟨u,(hum u).mp hu,z.symm⟩
    rw[e]
    have s57:=(s5.trans s6).trans s7
    have hd7:=s57 _ _ h4
    have tl:(ee ss D (ks.take i)).length<=60:=by unfold ee;rw[ab,aJ];omega
    refine⟨_,rfl,_,rfl,.dic (DPut.k (k:=.inr (nmA ss v)) hd7 (cw (by omega))) ⟨_,rfl,?_,?_⟩⟩
    ·rw[cn,gH,aw,hv]
     ·unfold ee;rw[aj];rfl
     ·rw[oG]
      intro z
      obtain⟨t,ht,e⟩:=al.mp z
      obtain⟨u,hu,rfl⟩:=al.mp ht
      have:=g9 wnd (htk u hu) hvl (Sum.inr.inj e)
      subst this
      obtain⟨j,hj⟩:=bW hu
      have hjl:=(ak.mp hj).1
      rw[aJ] at hjl
      rw[List.getElem?_take_of_lt (by omega)] at hj
      have:=(List.getElem?_inj (i:=j) (j:=i) (by omega) knd).mp (hj.trans hv.symm)
      omega
    ·intro c o hc hh
     rw[cm hc]
     exact s57 _ _ (b _ _ hc hh)
  ·rintro σ H4 ⟨o4,rfl,h4,b⟩
   rw[ab,ab,aq (ac _)] at h4
   refine⟨_,rfl,k d ks H4 (fun c o hc=>?_) hdH h4 knd klt kal⟩
   exact b c o (cq hc hdH) (s23 _ _ hc)
def iK:Sp:=fun vs H Q _=>∃(q:V) (a:Addr) (ss:List Str) (ts:List (Str × Str)) (zs:List Int),vs=[q,.ref a]/\Web H q ss ts/\H a=some (.tup (cx zs))/\zs.length=ss.length/\∀H',Same H H'->Q (.bl true) H'
theorem nu {f:Addr}{fd:FuncData}(F:Fun K "are_wholes" "are_wholes" eV f fd) (B:Blt mg) (cis_whole:Cal P w K mg base 1 "is_whole" ["thing"] gu):FnOk P w K mg base CX0 2 f fd ["web", "numbers"] iK := by
 refine F.ok scWholes (fun vs H Q E h=>?_) (fun cdv A outer s H vs Q E hr h=>?_)
 ·obtain⟨q,a,ss,ts,zs,rfl,_⟩:=h
  rfl
 ·obtain⟨q,n,ss,ts,zs,rfl,W,hn,hl,k⟩:=h
  have nd:=scWholes.nd
  have h60:=W.len
  obtain⟨q,a,b,rfl,hq,ha⟩:=Web.at W
  have il:(cx zs).length=zs.length:=ab ..
  refine⟨_,(cp (cz (fX (dA (dg hr.units) (dC K B (ce (pv 1) cf)) (dC K B (ce (cu (cA K hr.units) (pv 0) ci (fun _ _=>rfl)) cf)) (cE _)) (gc (gG rfl B (ce (cN (ck eV) ["web","numbers"] ["number"] [] ["number"] rfl (dN K (pv 1)) (fun _ _ _ _ _=>(cB (i:=0) (show (["number"]:List Str).Nodup by decide) rfl (Or.inl rfl))) (fun _ _ _ _ _=>cY) (fun _ _ _ _ _=>(cr cis_whole (hr.mono (by decide)) rfl (ce (pv 0) cf)))) cf)))))),?_⟩
  refine⟨_,rfl,_,_,rfl,(SqA.len (K:=K) (H:=H) (a:=n) (.inr hn)),_,rfl,.tup (.of hq) rfl ⟨_,_,rfl,(SqA.len (K:=K) (H:=H) (a:=a) (.inr ha)),.sc rfl ⟨_,rfl,cK (fun _=>?_) (fun h=>absurd (by rw[il,ab,hl];exact ai rfl) h)⟩⟩⟩
  refine⟨_,rfl,n,rfl,⟨_,.of hn⟩,?_⟩
  refine ev (cx zs) (fun D i acc σ' H'=>∃o,σ'=[o]/\acc=List.map V.bl (List.replicate i true)/\Same H H'/\H D=none) fun D hD=>⟨?_,?_,?_,?_⟩
  ·exact⟨none,rfl,rfl,Same.new hD,hD⟩
  ·rintro i acc σ' H' _ ⟨o,rfl,_,sm,_⟩ _
   exact .of (sm _ _ hn)
  ·rintro i acc σ' H' x hx ⟨o,rfl,rfl,sm,hD0⟩ hacc
   have hil:=(ak.mp hx).1
   rw[il] at hil
   obtain⟨z,hz,rfl⟩:=i8 hx
   refine eF ?_
   exact⟨_,rfl,z,rfl,hacc,by rw[ab,bj];exact cw (by omega),_,rfl,by rw[bX,aj];rfl,cX sm hD0,hD0⟩
  ·rintro acc σ' H2 ⟨o,rfl,rfl,s2,hD0⟩ hacc
   refine⟨D,_,rfl,hacc,?_⟩
   have e:(List.replicate (cx zs).length true).all id=true:=by rw[aW];intro x hx;exact(List.mem_replicate.mp hx).2
   rw[e]
   exact k H2 s2
def lH:Sp:=fun vs H Q _=>∃(q:V) (a:Addr) (ss:List Str) (es:List (Nat × Nat)) (zs:List Int),vs=[q,.ref a]/\Web H q ss (es.map (nmP ss))/\eA ss es/\MG.Ris es/\H a=some (.tup (cx zs))/\zs.length=ss.length/\∀l H',Same H H'->H l=none->H' l=some (.dK (cS ss (cx zs)))->Q (.ref l) H'
theorem on {f:Addr}{fd:FuncData}(F:Fun K "weights_by_thing" "weights_by_thing" gA f fd) (B:Blt mg) (Zz:mg "zip"=none) (crefuse_ring:Cal P w K mg base 7 "refuse_ring" ["web"] gz) (care_wholes:Cal P w K mg base 2 "are_wholes" ["web", "numbers"] iK):FnOk P w K mg base CX0 8 f fd ["web", "weights"] lH := by
 refine F.ok scWeigh (fun vs H Q E h=>?_) (fun cdv A outer s H vs Q E hr h=>?_)
 ·obtain⟨q,a,ss,es,zs,rfl,_⟩:=h
  rfl
 ·obtain⟨q,n,ss,es,zs,rfl,W,val,hf,hn,hl,k⟩:=h
  have nd:=scWeigh.nd
  have h60:=W.len
  refine⟨_,(cg (dU (cr crefuse_ring (hr.mono (by decide)) rfl (ce (pv 0) cf)))
   (cg (cM (PW.pt (dW (di (df (oN K "list" "tuple" B (ce (pv 1) (ce (fu (ce (iI B) (ce (ia B) cf))) cf))))) (eE (di (df (cr care_wholes (hr.mono (by decide)) rfl (ce (pv 0) (ce (pv 1) cf)))))))) (cp jA) cH)
   (cp (cz (qM K rfl hr.units B Zz (ce (cu (cA K hr.units) (pv 0) ci (fun _ _=>rfl)) (ce (pv 1) cf))))))),?_⟩
  refine⟨_,rfl,q,ss,es,rfl,W,val,hf,fun H1 s1=>?_⟩
  refine⟨_,rfl,(by show 2<=sizeLine;decide),fun tp htp=>?_⟩
  have s0:=Same.new (o:=.tup [V.ty "list",V.ty "tuple"]) htp
  have A0:SqA (upd H1 tp (.tup [V.ty "list",V.ty "tuple"])) n (cx zs):=SqA.same (.inr (s1 _ _ hn)) s0
  obtain⟨t,ty,_,_,_,t4,t5⟩:=fq (K:=K) A0.thg
  have kl:=ol t4 t5
  rw[A0.lt] at kl
  refine⟨_,tp,t,_,rfl,cn,ty,kl,_,rfl,?_⟩
  refine cK (fun h=>absurd h (by decide)) (fun _=>?_)
  have s01:=s1.trans s0
  generalize upd H1 tp (.tup [V.ty "list",V.ty "tuple"])=H2 at s01 ⊢
  refine⟨_,rfl,_,rfl,q,n,ss,_,zs,rfl,W.same s01,s01 _ _ hn,hl,fun H3 s3=>⟨_,rfl,cK (fun h=>absurd h (by decide)) (fun _=>?_)⟩⟩
  have s13:=s01.trans s3
  obtain⟨q,a,b,rfl,hq,ha⟩:=Web.at (W.same s13)
  refine⟨_,rfl,.tup (.of hq) rfl ⟨_,rfl,a,n,ss,cx zs,rfl,.of ha,.of (s13 _ _ hn),by unfold cx;rw[ab,hl],by omega,fun l H4 hl4 s4 h4=>?_⟩⟩
  rw[kE ss _ W.nd] at h4
  exact k l H4 (s13.trans s4) (cP s13 hl4) h4
def jK:Sp:=fun vs H Q _=>∃(q:V) (ss:List Str) (ts:List (Str × Str)),vs=[q]/\Web H q ss ts/\∀l H',Same H H'->H l=none->H' l=some (.lst (cx (List.replicate ss.length 1)))->Q (.ref l) H'
theorem scOnes:FnScope ["web"] ["web"] (ck iC):=⟨rfl,rfl,rfl,by decide +kernel,rfl,by decide +kernel,by decide +kernel⟩
theorem tE {f:Addr}{fd:FuncData}(F:Fun K "ones" "ones" iC f fd) (B:Blt mg):FnOk P w K mg base CX0 1 f fd ["web"] jK := by
 refine F.ok scOnes (fun vs H Q E h=>?_) (fun cdv A outer s H vs Q E hr h=>?_)
 ·obtain⟨q,ss,ts,rfl,_⟩:=h
  rfl
 ·obtain⟨q,ss,ts,rfl,W,k⟩:=h
  have nd:=scOnes.nd
  have h60:=W.len
  obtain⟨q,a,b,rfl,hq,ha⟩:=Web.at W
  refine⟨_,(cp (cz (cN (ck iC) ["web"] ["thing"] [] ["thing"] rfl (dN K (cu (cA K hr.units) (pv 0) ci (fun _ _=>rfl))) (fun _ _ _ _ _=>(cB (i:=0) (show (["thing"]:List Str).Nodup by decide) rfl (Or.inl rfl))) (fun _ _ _ _ _=>cY) (fun _ _ _ _ _=>ci)))),?_⟩
  refine⟨_,rfl,.tup (.of hq) rfl ⟨_,rfl,⟨_,.of ha⟩,?_⟩⟩
  refine ev (List.map V.str ss) (fun D i acc σ' H'=>∃o,σ'=[o]/\acc=List.replicate i (V.int 1)/\Same H H'/\H D=none) fun D hD=>⟨?_,?_,?_,?_⟩
  ·exact⟨none,rfl,rfl,Same.new hD,hD⟩
  ·rintro i acc σ' H' _ ⟨o,rfl,_,sm,_⟩ _
   exact .of (sm _ _ ha)
  ·rintro i acc σ' H' x hx ⟨o,rfl,rfl,sm,hD0⟩ hacc
   have hil:=(ak.mp hx).1
   rw[ab] at hil
   refine eF ?_
   exact⟨hacc,by rw[bj];exact cw (by omega),_,rfl,by rw[bX],cX sm hD0,hD0⟩
  ·rintro acc σ' H2 ⟨o,rfl,rfl,s2,hD0⟩ hacc
   rw[ab] at hacc
   exact k D H2 s2 hD0 (by unfold cx;rw[List.map_replicate];exact hacc)
def nl:Expr->Scope
 | .Lambda _ _ sc _=>sc
 | _=>{ kind:=.module,names:=[],isGenerator:=false,isCoroutine:=false }
def lamP:Expr->Pos
 | .Lambda _ _ _ p=>p
 | _=>⟨0,0,0,0⟩
def lamK:Stmt->Expr
 | .Return (some (.Call _ _ (⟨_,e,_⟩::_) _)) _=>e
 | _=>.Name "x" ⟨0,0,0,0⟩
def me:Expr:=lamK ((cD fz).getD 0 (.Pass ⟨0,0,0,0⟩))
def nD:List Str:=["found"]
def qlD:Str:=(Str.ofString "deepest_among"++Str.ofString ".<locals>.")++Str.ofString "<lambda>"
theorem hfD:∀y∈(nl me).names,y.2=NameKind.free->(ck fz).names.lookup y.1=some .cell:=by decide +kernel
theorem hnD:∀(j:Nat) (y:Str),nD[j]? = some y->(nl me).names.lookup y=some .free/\(ck fz).names.lookup y=some .cell/\∃i,([1]:List Nat)[j]? = some i/\(["things","found"]:List Str)[i]? = some y
 | 0,y,h=>by cases h;exact⟨by decide +kernel,by decide +kernel,1,rfl,rfl⟩
 | j+1,y,h=>by cases h
theorem lsD:LamScope (nl me):=⟨rfl,rfl,rfl,by decide +kernel⟩
theorem uL {σ:St}{i:Nat}{x:V}(h1:σ[i]? = some (some x)):∀(n k:Nat) (v:V),([i]:List Nat)[n]? = some k->([x]:List V)[n]? = some v->σ[k]? = some (some v)
 | 0,k,v,a,b=>by cases a;cases b;exact h1
 | n+1,k,v,a,b=>by cases a
def SameK (Pt:Addr) (H H':Hp):Prop:=∀b u,b≠Pt->H b=some u->H' b=some u
theorem SameK.trans {Pt:Addr}{H H1 H2:Hp}(a:SameK Pt H H1) (b:SameK Pt H1 H2):SameK Pt H H2:=fun c u n e=>b c u n (a c u n e)
theorem SameK.of {Pt:Addr}{H H':Hp}(s:Same H H'):SameK Pt H H':=fun b u _ e=>s b u e
def TbK (Pt:Addr) (H:Hp):Prop:=∃ps,CTab H Pt ps (lamP me) qlD
theorem TbK.same {Pt:Addr}{H H':Hp}(h:TbK Pt H) (s:Same H H'):TbK Pt H':=let ⟨ps,c⟩:=h;⟨ps,c.same s⟩
theorem TbK.ne {Pt b:Addr}{H:Hp}(h:TbK Pt H) {u:HO}(e:H b=some u) (n:∀ps,u≠.tbl ps):b≠Pt:=fun z=>by
 obtain⟨ps,c⟩:=h
 rw[z,c.at_] at e
 exact n ps (ae e).symm
theorem SameK.at {Pt b:Addr}{H H':Hp}{u:HO}(s:SameK Pt H H') (h:TbK Pt H) (e:H b=some u) (n:∀ps,u≠.tbl ps:=by intro ps z;cases z):H' b=some u:=s b u (h.ne e n) e
theorem SameK.free {Pt b:Addr}{H H':Hp}(s:SameK Pt H H') (h:TbK Pt H) (h':TbK Pt H') (e:H' b=none):H b=none := by
 cases q:H b with
 | none=>rfl
 | some u =>
  by_cases z:b=Pt
  ·obtain⟨ps,c⟩:=h'
   rw[z,c.at_] at e;cases e
  ·rw[s b u z q] at e;cases e
theorem SameK.cor {Pt:Addr}{H H':Hp}(s:SameK Pt H H') (h:TbK Pt H):Same (cor H) H':=let ⟨_,c⟩:=h;si c.at_ s
theorem Web.cor {H:Hp}{v:V}{ss:List Str}{ts:List (Str × Str)}(W:Web H v ss ts):Web (L2.cor H) v ss ts:=⟨W.rep.cor,W.nd,W.nm,W.len,W.few,W.inn⟩
theorem fP {Pt:Addr}{H H':Hp}{v:V}{ss:List Str}{ts:List (Str × Str)}(W:Web H v ss ts) (s:SameK Pt H H') (h:TbK Pt H):Web H' v ss ts:=Web.same (Web.cor W) (s.cor h)
theorem TbK.upd {Pt l:Addr}{H:Hp}{ys zs:List V}(h:TbK Pt H) (e:H l=some (.lst ys)):TbK Pt (L2.upd H l (.lst zs)):=by
 obtain⟨ps,c⟩:=h
 refine⟨ps,c.tri,by rw[cm (d4 c.at_ e (by intro z;cases z))];exact c.at_,c.code.imp id fun ⟨c',oc,g1,g2,g3⟩=>⟨c',oc,g1,by rw[cm (d4 g2 e (by intro z;cases z))];exact g2,g3⟩⟩
def i7 (Pt:Addr):Sp:=fun vs H Q _=>∃(a d:Addr) (ss:List Str) (D:Nat->Int) (ks us:List Nat),vs=[.ref a,.ref d]/\(H a=some (.lst (List.map V.str (us.map (nmA ss))))∨H a=some (.tup (List.map V.str (us.map (nmA ss)))))/\H d=some (.dK (ee ss D ks))/\ss.Nodup/\(∀x∈ks,x<ss.length)/\(∀u∈us,u∈ks)/\us≠[]/\TbK Pt H /\
 ∀v H',v∈us->(∀u∈us,D u<=D v)->SameK Pt H H'->TbK Pt H'->Q (.str (nmA ss v)) H'
theorem scDeepA:FnScope ["things","found"] ["things","found"] (ck fz):=⟨rfl,rfl,rfl,by decide +kernel,rfl,by decide +kernel,by decide +kernel⟩
theorem qy {f c Pt:Addr}{fd:FuncData}(F:Fun K "deepest_among" "deepest_among" fz f fd) (hC:fd.code=.ref c) (hCd:∀h:Heap, K.In h -> W.CodeHd h c Pt) (hBm:base.BuiltinsAt mg Pt) (B:Blt mg):FnOk P w K mg base CX0 3 f fd ["things", "found"] (i7 Pt) := by
 refine F.okC hC scDeepA (fun vs H Q E h=>?_) (fun A outer s H vs Q E hr h=>?_)
 ·obtain⟨a,d,ss,D,ks,us,rfl,_⟩:=h
  rfl
 ·obtain⟨a,d,ss,D,ks,us,rfl,ha,hd,snd,klt,uk,une,⟨ps,C1⟩,k⟩:=h
  have nd:=scDeepA.nd
  have HFD:=fun y hy hf=>jy (n:=s.heap.objs.size+1) (hfD y hy hf)
  refine⟨_,(cp (cz (sF (k:=1) (sc:=nl me) (N:=nD) (is:=[1]) rfl (hr.mono (by decide)) B HFD (fun _=>rfl) hnD (pv 0) (uj (qual:=qlD) rfl (m5 HFD).1 rfl rfl hCd hBm)))),?_⟩
  refine⟨_,rfl,ps,C1,fun HA g c' oc ctv ps' hg0 hgA hcA hoc hPA htr hcode hoth hsm=>?_⟩
  have tb:TbK Pt H:=⟨ps,C1⟩
  have hdA:=SameK.at hsm tb hd
  have get:∀ {i:Nat} {x:V},(List.map V.str (us.map (nmA ss)))[i]? = some x->∃u,us[i]? = some u/\x=.str (nmA ss u):=fun {i x} hx=>by
   rw[ag,ag] at hx
   cases q:us[i]? with
   | none=>rw[q] at hx;cases hx
   | some u=>rw[q] at hx;exact⟨u,rfl,(ae hx).symm⟩
  refine⟨a,g,List.map V.str (us.map (nmA ss)),fun i=>D (us.getD i 0),[.ref d],fun l v Hx Qx _=>Hx g=HA g/\Hx c'=HA c'/\KnC Hx l/\Hx d=some (.dK (ee ss D ks))/\∃u,u∈ks/\v=.str (nmA ss u)/\Qx (.int (D u)) Hx,rfl,rfl,?_,?_,rfl,uL rfl,fun l C=>?_,fun l C U i x hx=>?_,fun i x hx best=>?_⟩
  ·rcases ha with ha | ha
   ·exact .inl (.of (SameK.at hsm tb ha))
   ·exact .inr (.of (SameK.at hsm tb ha))
  ·rw[ab,ab];exact bY.mpr une
  ·refine sw (x:="thing") lsD C hoc (by decide +kernel) (fun u=>rfl) (fun v H Q E h=>⟨h.1.trans hgA,h.2.1.trans hcA,h.2.2.1⟩) (fun _ _ _ _ _ _ _ z=>z.elim) (fun A outer s v Hx Qx Ex hr hx=>?_)
   obtain⟨h1,h2,h3,h4,u,hu,rfl,h5⟩:=hx
   have hd':lessC Hx l d=some (.dK (ee ss D ks)):=by rw[cU (h3.out h4 (by intro o z;cases z))];exact h4
   refine⟨_,cu (cA K hr.units) (pv 1) (pv 0) (fun _ _=>rfl),?_⟩
   exact⟨_,rfl,_,rfl,.dic (.inl ⟨ee ss D ks,.inr (nmA ss u),.inl hd',rfl,(gi snd D klt hu).symm⟩) fun _=>by rw[pF h3];exact h5⟩
  ·obtain⟨u,hu,rfl⟩:=get hx
   refine⟨(kF U hgA).trans hgA.symm,(kF U hcA).trans hcA.symm,tu,kF U hdA,u,uk u (av hu),rfl,?_,rfl⟩
   show V.int (D u)=V.int (D (us.getD i 0))
   rw[aE,hu];rfl
  ·obtain⟨v,hv,rfl⟩:=get hx
   refine k v HA (av hv) (fun u hu=>?_) hsm ⟨ps',CTab.made (ps:=ps) (H:=H) hPA htr hcode hcA hoc⟩
   obtain⟨j,hj,ej⟩:=bG.mp hu
   have this:D (us.getD j 0)<=D (us.getD i 0):=(best j (by rw[ab,ab];exact hj)).1
   rw[aE,aE,hv,ap hj,ej] at this
   exact this
theorem tV (ss:List Str) (us:List Nat) (a:Nat):atI (List.map V.str ((us++[a]).map (nmA ss))) (-1)=some (.str (nmA ss a)):=by
 rw[aj,aj]
 exact jz _ _
theorem kS {α:Type}(l:List α) (g:α->Bool) (i:Nat) (x:α) (h:l[i]? = some x):(l.take (i+1)).filter g=(l.take i).filter g++(if g x=true then [x] else []):=by
 rw[aw,h,bq]
 by_cases q:g x=true
 ·simp[q]
 ·simp[q]
theorem kJ {n:Nat}{es:List (Nat × Nat)}(h:MG.Ris es) (val:∀e∈es,e.1<n/\e.2<n):∃r:Nat->Nat,(∀e∈es,r e.1<r e.2)/\∀v,v<n->r v<=n:=by
 obtain⟨D,hD⟩:=MG.depth_ex h (fun _=>1)
 have L:=hD.lay (n:=n) val (fun _ _=>rfl)
 refine⟨fun v=>(D v-1).toNat,fun e he=>?_,fun v hv=>?_⟩
 ·have h1:=hD.ge e.1
  have h2:=hD.up e he
  show (D e.1-1).toNat<(D e.2-1).toNat
  omega
 ·exact bd (L.lt val v hv)
def dH (W:Nat->Int):List Nat->Int
 | []=>0
 | x::l=>W x+dH W l
theorem ir (W:Nat->Int):∀l m,dH W (l++m)=dH W l+dH W m
 | [],m=>by show dH W m=0+dH W m;omega
 | x::l,m=>by show W x+dH W (l++m)=W x+dH W l+dH W m;rw[ir W l m];omega
theorem mv (W:Nat->Int):∀l,dH W l.reverse=dH W l
 | []=>rfl
 | x::l=>by rw[List.reverse_cons,ir,mv W l];show dH W l+(W x+0)=W x+dH W l;omega
def kn:Sp:=fun vs H Q _=>∃(q:V) (d:Addr) (ss:List Str) (es:List (Nat × Nat)) (D:Nat->Int) (ks:List Nat) (v:Nat),vs=[q,.ref d,.str (nmA ss v)]/\Web H q ss (es.map (nmP ss))/\eA ss es/\H d=some (.dK (ee ss D ks))/\(∀x∈ks,x<ss.length)/\(∀x,x<ss.length->x∈ks) /\
 ∀(l:Addr) (us:List Nat) (H':Hp),Same H H'->H l=none->H' l=some (.lst (List.map V.str (us.map (nmA ss))))->us.length<=ss.length->(∀u,u∈us ↔ (u,v)∈es/\0<D u)->Q (.ref l) H'
theorem scWorth:FnScope ["web","found","thing"] ["web","found","thing"] (ck gF):=⟨rfl,rfl,rfl,by decide +kernel,rfl,by decide +kernel,by decide +kernel⟩
theorem pW {f:Addr}{fd:FuncData}(F:Fun K "worth_taking" "worth_taking" gF f fd) (B:Blt mg) (cpriors:Cal P w K mg base 2 "priors" ["web", "one"] (fQ true)):FnOk P w K mg base CX0 3 f fd ["web", "found", "thing"] kn := by
 refine F.ok scWorth (fun vs H Q E h=>?_) (fun cdv A outer s H vs Q E hr h=>?_)
 ·obtain⟨q,d,ss,es,D,ks,v,rfl,_⟩:=h
  rfl
 ·obtain⟨q, d, ss, es, Dd, ks, v, rfl, W, val, hd, klt, kall, k⟩ := h
  have nd:=scWorth.nd
  refine⟨_,(cp (cz (cN (ck gF) ["web","found","thing"] ["prior"] [1] ["prior","found"] rfl (cV K (cr cpriors (hr.mono (by decide)) rfl (ce (pv 0) (ce (pv 2) cf)))) (fun _ _ _ _ _=>(cB (i:=0) (show (["prior","found"]:List Str).Nodup by decide) rfl (Or.inl rfl))) (fun _ _ _ _ _=>(fh (cC ii (cu (cA K hr.units) (pv 1) (pv 0) (fun _ _=>rfl)) ci (cE _)))) (fun _ _ _ _ _=>(pv 0))))),?_⟩
  obtain⟨us,eus,ul,um⟩:=jU W.nd W.nm val v
  have h60:=W.len
  refine⟨_,rfl,_,rfl,q,ss,_,_,rfl,W,fun l1 H1 s1 hl1 hc1=>⟨l1,rfl,⟨_,.of hc1⟩,?_⟩⟩
  have hc1:H1 l1=some (.lst (List.map V.str (us.map (nmA ss)))):=by rw[<- eus];exact hc1
  have ex:List.map V.str (dQ ss (if true then dk (es.map (nmP ss)) else es.map (nmP ss)) (nmA ss v))=List.map V.str (us.map (nmA ss)):=by rw[<- eus];rfl
  refine dI (List.map V.str (us.map (nmA ss))) (fun D i acc σ' H'=>∃o,σ'=[o,some (.ref d)]/\acc=List.map V.str (((us.take i).filter fun u=>decide (0<Dd u)).map (nmA ss))/\Same H1 H'/\H1 D=none) fun D' hD=>⟨?_,?_,?_,?_⟩
  ·exact⟨none,rfl,rfl,Same.new hD,hD⟩
  ·rintro i acc σ' H' _ ⟨o,rfl,_,sm,_⟩ _
   exact .of (sm _ _ hc1)
  ·rintro i acc σ' H' x hx ⟨o,rfl,rfl,sm,hD0⟩ hacc
   rw[ag,ag] at hx
   obtain⟨u,hu,rfl⟩:∃u,us[i]? = some u/\V.str (nmA ss u)=x:=by
    cases q:us[i]? with
    | none=>rw[q] at hx;cases hx
    | some e=>rw[q] at hx;exact⟨e,rfl,ae hx⟩
   have hil:=(ak.mp hu).1
   have hun:=(val _ ((um u).mp (av hu))).1
   have hd':=sm _ _ (s1 _ _ hd)
   refine⟨_,rfl,_,rfl,.dic (.inl ⟨ee ss Dd ks,.inr (nmA ss u),.inl hd',rfl,(gi W.nd Dd klt (kall u hun)).symm⟩) ⟨_,_,rfl,rfl,_,rfl,?_⟩⟩
   have fl:=bh (fun u=>decide (0<Dd u)) (us.take i)
   have tl:(us.take i).length<=i:=by rw[aJ];omega
   refine cK (fun h1=>?_) (fun h1=>?_)
   ·refine⟨_,rfl,hacc,?_,_,rfl,?_,cX sm hD0,hD0⟩
    ·rw[ab,ab];exact cw (by omega)
    ·rw[kS us _ i u hu,if_pos h1,aj,aj];rfl
   ·refine⟨hacc,_,rfl,?_,sm,hD0⟩
    rw[kS us _ i u hu,if_neg h1,List.append_nil]
  ·rintro acc σ' H2 ⟨o,rfl,rfl,s2,hD0⟩ hacc
   rw[ab,ab,aq (ac _)] at hacc
   have fl:=bh (fun u=>decide (0<Dd u)) us
   refine k D' (us.filter fun u=>decide (0<Dd u)) H2 (s1.trans s2) (cP s1 hD0) hacc (by omega) fun u=>?_
   rw[aK,um u,decide_eq_true_iff]
def lM (Pt:Addr):Sp:=fun vs H Q _=>∃(q:V) (d:Addr) (ss:List Str) (es:List (Nat × Nat)) (Ww D:Nat->Int) (ks:List Nat) (v:Nat),vs=[q,.ref d,.str (nmA ss v)]/\Web H q ss (es.map (nmP ss))/\eA ss es/\H d=some (.dK (ee ss D ks))/\(∀x∈ks,x<ss.length)/\(∀x,x<ss.length->x∈ks)/\MG.Ris es/\MG.IsD es Ww D/\v<ss.length/\TbK Pt H /\
 ∀(l:Addr) (xs:List Nat) (H':Hp),SameK Pt H H'->H l=none->H' l=some (.lst (List.map V.str (xs.map (nmA ss))))->dH Ww xs=D v->xs≠[]->(∀i a b,xs[i]? = some a->xs[i+1]? = some b->(a,b)∈es)->(∀x∈xs,x<ss.length)->TbK Pt H'->Q (.ref l) H'
theorem scWayB:FnScope ["web","found","last","told","worth"] ["web","found","last"] (ck iU):=⟨rfl,rfl,rfl,by decide +kernel,rfl,by decide +kernel,by decide +kernel⟩
theorem tZ {f Pt:Addr}{fd:FuncData}(F:Fun K "way_back" "way_back" iU f fd) (B:Blt mg) (cdeepest_among:Cal P w K mg base 3 "deepest_among" ["things", "found"] (i7 Pt)) (cworth_taking:Cal P w K mg base 3 "worth_taking" ["web", "found", "thing"] kn):FnOk P w K mg base CX0 4 f fd ["web", "found", "last"] (lM Pt) := by
 refine F.ok scWayB (fun vs H Q E h=>?_) (fun cdv A outer s H vs Q E hr h=>?_)
 ·obtain⟨q,d,ss,es,Ww,D,ks,v,rfl,_⟩:=h
  rfl
 ·obtain⟨q, d, ss, es, Ww, D, ks, v, rfl, W, val, hd, klt, kall, ris, dep, hv, tb, k⟩ := h
  obtain⟨r,hr1,hr2⟩:=kJ ris val
  have nd:=scWayB.nd
  refine⟨_,(cg (cy (i:=3) nd rfl (Or.inl rfl) (cZ (ce (pv 2) cf)))
   (cg (cy (i:=4) nd rfl (Or.inl rfl) (cr cworth_taking (hr.mono (by decide)) rfl (ce (pv 0) (ce (pv 1) (ce (pv 2) cf)))))
   (cg (jB PassesOwn.never (cC ii (dC K B (ce (pv 4) cf)) ci (cE _)) (cg (dU (fN K (pv 3) (ce (cr cdeepest_among (hr.mono (by decide)) rfl (ce (pv 4) (ce (pv 1) cf))) cf)))
   (cp (cy (i:=4) nd rfl (Or.inl rfl) (cr cworth_taking (hr.mono (by decide)) rfl (ce (pv 0) (ce (pv 1) (ce (cu (cA K hr.units) (pv 3) (jO iR ci) (fun _ _=>rfl)) cf))))))))
   (cg (dU (pe K (pv 3)))
   (cp (cz (pv 3))))))),?_⟩
  have h60:=W.len
  refine⟨_,rfl,(by show 1<=sizeLine;decide),fun l hl=>?_⟩
  have s1:=Same.new (o:=.lst [V.str (nmA ss v)]) hl
  have e1:upd H l (.lst [V.str (nmA ss v)]) l=some (.lst [V.str (nmA ss v)]):=cn
  generalize upd H l (.lst [V.str (nmA ss v)])=H1 at s1 e1 ⊢
  refine⟨_,rfl,_,rfl,_,rfl,q,d,ss,es,D,ks,v,rfl,W.same s1,val,s1 _ _ hd,klt,kall,fun le us H2 s2 hle0 hle ul um=>?_⟩
  refine⟨fun m σ H'=>∃(ys us:List Nat) (u:Nat) (le:Addr),σ=[some q,some (.ref d),some (.str (nmA ss v)),some (.ref l),some (.ref le)]/\SameK Pt H H'/\TbK Pt H'/\H' l=some (.lst (List.map V.str ((ys++[u]).map (nmA ss))))/\H' le=some (.lst (List.map V.str (us.map (nmA ss))))/\us.length<=ss.length/\(∀w,w∈us ↔ (w,u)∈es/\0<D w)/\u<ss.length/\dH Ww ys+D u=D v/\ys.length+r u<=r v/\(∀i a b,(ys++[u])[i]? = some a->(ys++[u])[i+1]? = some b->(b,a)∈es)/\(∀x∈ys++[u],x<ss.length)/\m=r u,
   ⟨r v,[],us,v,le,rfl,SameK.of (s1.trans s2),(tb.same s1).same s2,s2 _ _ e1,hle,ul,um,hv,(by show 0+D v=D v;omega),(by show 0+r v<=r v;omega),?_,fun x hx=>?_,rfl⟩,?_⟩
  ·intro i a b ha hb
   have:=(ak.mp hb).1
   simp at this
  ·have:x=v:=by simpa using hx
   rw[this];exact hv
  clear s2 hle0 hle ul um s1 e1 us le
  rintro m σ H3 ⟨ys,us,u,le,rfl,s3,t3,hl3,hle3,ul,um,hu,hlen,hrk,chn,hin,hm⟩
  have dv:=hr2 v hv
  refine⟨_,rfl,_,_,rfl,Or.inl ⟨_,.of hle3,rfl⟩,_,_,rfl,rfl,_,rfl,?_⟩
  refine cK (fun hc=>?_) (fun hc=>?_)
  ·have hc:(0:Int)<((List.map V.str (us.map (nmA ss))).length:Nat) := ax hc
   rw[ab,ab] at hc
   have une:us≠[]:=fun z=>by rw[z] at hc;simp at hc
   refine⟨fun σ H'=>∃(ys us:List Nat) (u:Nat) (le:Addr),σ=[some q,some (.ref d),some (.str (nmA ss v)),some (.ref l),some (.ref le)]/\SameK Pt H H'/\TbK Pt H'/\H' l=some (.lst (List.map V.str ((ys++[u]).map (nmA ss))))/\H' le=some (.lst (List.map V.str (us.map (nmA ss))))/\us.length<=ss.length/\(∀w,w∈us ↔ (w,u)∈es/\0<D w)/\u<ss.length/\dH Ww ys+D u=D v/\ys.length+r u<=r v/\(∀i a b,(ys++[u])[i]? = some a->(ys++[u])[i+1]? = some b->(b,a)∈es)/\(∀x∈ys++[u],x<ss.length)/\r u<m,fun σ' H' ⟨ys,us,u,le,q1,q2,q3,q4,q5,q6,q7,q8,q9,qA,qB,qC,qD⟩=>⟨r u,qD,ys,us,u,le,q1,q2,q3,q4,q5,q6,q7,q8,q9,qA,qB,qC,rfl⟩,?_⟩
   have hd3:=s3.at tb hd
   refine⟨_,rfl,.inl ⟨rfl,_,.of hl3⟩,?_⟩
   refine⟨_,rfl,_,rfl,le,d,ss,D,ks,us,rfl,.inl hle3,hd3,W.nd,klt,fun x hx=>kall x (val _ ((um x).mp hx).1).1,une,t3,fun w H4 hw hmax s4 t4=>?_⟩
   obtain⟨hwe,hwp⟩:=(um w).mp hw
   have hwn:=(val _ hwe).1
   have dw:=dep.top (v:=u) (M:=D w) (by omega) (fun x hx=>by
    by_cases z:0<D x
    ·exact hmax x ((um x).mpr ⟨hx,z⟩)
    ·omega) (.inr ⟨w,hwe,rfl⟩)
   have rw_:=hr1 _ hwe
   dsimp only at rw_
   have hl4:=s4.at t3 hl3
   refine⟨l,_,_,rfl,rfl,hl4,?_,?_⟩
   ·rw[ab,ab,aU]
    show ys.length+1<sizeLine
    exact cw (by omega)
   have e5:upd H4 l (.lst (List.map V.str ((ys++[u]).map (nmA ss))++[V.str (nmA ss w)])) l=some (.lst (List.map V.str (((ys++[u])++[w]).map (nmA ss)))):=by
    rw[cn,aj (l₁:=ys++[u]),aj (l₁:=(ys++[u]).map (nmA ss))];rfl
   have s34:=s3.trans s4
   have s5:SameK Pt H (upd H4 l (.lst (List.map V.str ((ys++[u]).map (nmA ss))++[V.str (nmA ss w)]))):=fun b o nb hb=>by rw[cm (cq hb hl)];exact s34 b o nb hb
   have t5:TbK Pt (upd H4 l (.lst (List.map V.str ((ys++[u]).map (nmA ss))++[V.str (nmA ss w)]))):=t4.upd hl4
   generalize upd H4 l (.lst (List.map V.str ((ys++[u]).map (nmA ss))++[V.str (nmA ss w)]))=H5 at e5 s5 t5 ⊢
   refine⟨_,rfl,_,rfl,_,rfl,_,rfl,.lst (.of e5) (tV ss (ys++[u]) w) ⟨q,d,ss,es,D,ks,w,rfl,fP W s5 tb,val,s5.at tb hd,klt,kall,fun le2 us2 H6 s6 hle20 hle2 ul2 um2=>?_⟩⟩
   refine⟨ys++[u],us2,w,le2,rfl,s5.trans (SameK.of s6),t5.same s6,s6 _ _ e5,hle2,ul2,um2,hwn,?_,?_,?_,?_,by omega⟩
   ·rw[ir]
    show dH Ww ys+(Ww u+0)+D w=D v
    omega
   ·rw[aU]
    show ys.length+1+r w<=r v
    omega
   ·intro i a b ha hb
    have hbl:=(ak.mp hb).1
    rw[aU (as:=ys++[u])] at hbl
    have hbl:i+1<(ys++[u]).length+1:=hbl
    rw[bD (by omega)] at ha
    by_cases z:i+1<(ys++[u]).length
    ·rw[bD z] at hb
     exact chn i a b ha hb
    ·have z:i+1=(ys++[u]).length:=by omega
     rw[bx (by omega),z,Nat.sub_self] at hb
     have hb:w=b:=ae hb
     subst hb
     have zi:i=ys.length:=by rw[aU] at z;have z:i+1=ys.length+1:=z;omega
     subst zi
     rw[bx (ac _),Nat.sub_self] at ha
     have ha:u=a:=ae ha
     subst ha
     exact hwe
   ·intro x hx
    rcases ar.mp hx with hx | hx
    ·exact hin x hx
    ·rw[aQ.mp hx];exact hwn
  ·have hc:¬ (0:Int)<((List.map V.str (us.map (nmA ss))).length:Nat) := fun z => hc (ai z)
   rw[ab,ab] at hc
   have un:us=[]:=List.eq_nil_of_length_eq_zero (by omega)
   have du:=dep.top (v:=u) (M:=0) (Int.le_refl _) (fun x hx=>by
    by_cases z:0<D x
    ·have:=(um x).mpr ⟨hx,z⟩
     rw[un] at this;cases this
    ·omega) (.inl rfl)
   refine⟨_,rfl,.inl ⟨rfl,_,.of hl3⟩,l,_,rfl,rfl,hl3,?_⟩
   have e4:upd H3 l (.lst (List.map V.str ((ys++[u]).map (nmA ss))).reverse) l=some (.lst (List.map V.str ((ys++[u]).reverse.map (nmA ss)))):=by
    rw[cn,<- List.map_reverse,<- List.map_reverse]
   have s4:SameK Pt H (upd H3 l (.lst (List.map V.str ((ys++[u]).map (nmA ss))).reverse)):=fun b o nb hb=>by rw[cm (cq hb hl)];exact s3 b o nb hb
   have t4:TbK Pt (upd H3 l (.lst (List.map V.str ((ys++[u]).map (nmA ss))).reverse)):=t3.upd hl3
   refine⟨_,rfl,k l (ys++[u]).reverse _ s4 hl e4 ?_ (by simp) (fun i a b ha hb=>?_) (fun x hx=>hin x (List.mem_reverse.mp hx)) t4⟩
   ·rw[mv,ir]
    show dH Ww ys+(Ww u+0)=D v
    omega
   ·have hbl:=(ak.mp hb).1
    rw[List.length_reverse] at hbl
    rw[List.getElem?_reverse (by omega)] at ha hb
    refine chn ((ys++[u]).length-1-(i+1)) b a hb ?_
    rw[show (ys++[u]).length-1-(i+1)+1=(ys++[u]).length-1-i by omega]
    exact ha
def IsW (H:Hp) (x:V) (n:Nat) (zs:List Int):Prop:=zs.length=n/\∃a,x=.ref a/\(H a=some (.lst (cx zs))∨H a=some (.tup (cx zs)))
def fL:Sp:=fun vs H Q _=>∃(q x:V) (ss:List Str) (es:List (Nat × Nat)) (zs:List Int),vs=[q,x]/\Web H q ss (es.map (nmP ss))/\eA ss es/\MG.Ris es/\IsW H x ss.length zs/\∀l H',Same H H'->H l=none->H' l=some (.dK (cS ss (cx zs)))->Q (.ref l) H'
theorem pC {f:Addr}{fd:FuncData}{k:Nat}(F:FnOk P w K mg base CX0 k f fd ["web","weights"] mT) (G:FnOk P w K mg base CX0 k f fd ["web","weights"] lH):FnOk P w K mg base CX0 k f fd ["web","weights"] fL :=
 ⟨fun vs H Q E ⟨_,_,_,_,_,e,_⟩=>by rw[e];rfl,fun A outer s H args us vs Q E hr he hb hv ⟨q,x,ss,es,zs,e,W,val,ris,⟨hl,a,ex,ha⟩,k⟩=>by
  subst ex
  rcases ha with ha | ha
  ·exact F.run A outer s H args us vs Q E hr he hb hv ⟨q,a,ss,es,zs,e,W,val,ris,ha,hl,k⟩
  ·exact G.run A outer s H args us vs Q E hr he hb hv ⟨q,a,ss,es,zs,e,W,val,ris,ha,hl,k⟩⟩
def jv:Sp:=fun vs H Q _=>∃(q x:V) (ss:List Str) (es:List (Nat × Nat)) (zs:List Int),vs=[q,x]/\Web H q ss (es.map (nmP ss))/\eA ss es/\MG.Ris es/\IsW H x ss.length zs /\
 ∀l D H',MG.IsD es (wOf zs) D->Same H H'->H l=none->H' l=some (.lst (cx ((List.range ss.length).map D)))->Q (.ref l) H'
theorem scDepths:FnScope ["web","weights"] ["web","weights"] (ck gk):=⟨rfl,rfl,rfl,by decide +kernel,rfl,by decide +kernel,by decide +kernel⟩
theorem pw {f:Addr}{fd:FuncData}(F:Fun K "depths" "depths" gk f fd) (B:Blt mg) (cweights_by_thing:Cal P w K mg base 8 "weights_by_thing" ["web","weights"] fL) (cdepths_by_thing:Cal P w K mg base 9 "depths_by_thing" ["web","weighed"] jb) (cby_places:Cal P w K mg base 1 "by_places" ["web","found"] j5):FnOk P w K mg base CX0 10 f fd ["web","weights"] jv:=by
 refine F.ok scDepths (fun vs H Q E h=>?_) (fun cdv A outer s H vs Q E hr h=>?_)
 ·obtain⟨q,a,ss,es,zs,rfl,_⟩:=h
  rfl
 ·obtain⟨q,x,ss,es,zs,rfl,W,val,hf,ha,k⟩:=h
  have nd:=scDepths.nd
  obtain⟨D,hD⟩:=MG.depth_ex hf (wOf zs)
  refine⟨_,(cp (cz (cr cby_places (hr.mono (by decide)) rfl (ce (pv 0) (ce (cr cdepths_by_thing (hr.mono (by decide)) rfl (ce (pv 0) (ce (cr cweights_by_thing (hr.mono (by decide)) rfl (ce (pv 0) (ce (pv 1) cf))) cf))) cf))))),?_⟩
  refine⟨_,rfl,_,rfl,_,rfl,_,rfl,q,x,ss,es,zs,rfl,W,val,hf,ha,fun d H1 s1 hd0 hd=>?_⟩
  refine⟨q,d,ss,es,zs,D,rfl,W.same s1,val,hf,hd,ha.1,hD,fun e ks H2 s2 he0 he knd klt kal=>?_⟩
  refine⟨q,e,ss,_,D,ks,rfl,(W.same s1).same s2,he,klt,kal,fun l H3 s3 hl0 hl3=>?_⟩
  exact k l D H3 hD ((s1.trans s2).trans s3) (cP s1 (cP s2 hl0)) hl3
theorem qY (ss:List Str):List.map V.str ((List.range ss.length).map (nmA ss))=List.map V.str ss:=by rw[<- rF ss]
def nq (n:Nat) (D:Nat->Int) (v:Nat):Prop:=v<n/\∀u,u<n->D u<=D v
def ij (es:List (Nat × Nat)) (xs:List Nat):Prop:=∀i a b,xs[i]? = some a->xs[i+1]? = some b->(a,b)∈es
def fZ (Pt:Addr):Sp:=fun vs H Q _=>∃(q wx:V) (ss:List Str) (es:List (Nat × Nat)) (zs:List Int) (D:Nat->Int),vs=[q,wx]/\Web H q ss (es.map (nmP ss))/\eA ss es/\MG.Ris es/\IsW H wx ss.length zs/\MG.IsD es (wOf zs) D/\TbK Pt H /\
 (ss.length=0->∀H',SameK Pt H H'->TbK Pt H'->Q .non H') /\
 ∀(t l l2:Addr) (xs:List Nat) (v:Nat) (H':Hp),SameK Pt H H'->H l=none->H l2=none->H' t=some (.tup [.int (D v),.ref l,.ref l2])->H' l2=some (.lst (cx ((List.range ss.length).map D)))->H' l=some (.lst (List.map V.str (xs.map (nmA ss))))->nq ss.length D v->dH (wOf zs) xs=D v->xs≠[]->ij es xs->(∀x∈xs,x<ss.length)->TbK Pt H'->Q (.ref t) H'
theorem scDeepest:FnScope ["web","weights","found","last"] ["web","weights"] (ck fE):=⟨rfl,rfl,rfl,by decide +kernel,rfl,by decide +kernel,by decide +kernel⟩
theorem nk {f Pt:Addr}{fd:FuncData}(F:Fun K "deepest" "deepest" fE f fd) (B:Blt mg) (cweights_by_thing:Cal P w K mg base 8 "weights_by_thing" ["web", "weights"] fL) (cdepths_by_thing:Cal P w K mg base 9 "depths_by_thing" ["web", "weighed"] jb) (cby_places:Cal P w K mg base 1 "by_places" ["web", "found"] j5)
    (cdeepest_among:Cal P w K mg base 3 "deepest_among" ["things","found"] (i7 Pt)) (cway_back:Cal P w K mg base 4 "way_back" ["web","found","last"] (lM Pt)):FnOk P w K mg base CX0 10 f fd ["web","weights"] (fZ Pt):=by
 refine F.ok scDeepest (fun vs H Q E h=>?_) (fun cdv A outer s H vs Q E hr h=>?_)
 ·obtain⟨q,wx,ss,es,zs,D,rfl,_⟩:=h
  rfl
 ·obtain⟨q, wx, ss, es, zs, D, rfl, W, val, ris, ha, hD, tb, k0, k⟩ := h
  have nd:=scDeepest.nd
  refine⟨_,(cg (cy (i:=2) nd rfl (Or.inl rfl) (cr cdepths_by_thing (hr.mono (by decide)) rfl (ce (pv 0) (ce (cr cweights_by_thing (hr.mono (by decide)) rfl (ce (pv 0) (ce (pv 1) cf))) cf))))
   (cg (cM (cC (dg hr.units) (ml B (ce (pv 2) cf)) ci (cE _)) (cp (cz ft)) cH)
   (cg (cy (i:=3) nd rfl (Or.inl rfl) (cr cdeepest_among (hr.mono (by decide)) rfl (ce (cu (cA K hr.units) (pv 0) ci (fun _ _=>rfl)) (ce (pv 2) cf))))
   (cp (cz (fu (ce (cu (cA K hr.units) (pv 2) (pv 3) (fun _ _=>rfl)) (ce (cr cway_back (hr.mono (by decide)) rfl (ce (pv 0) (ce (pv 2) (ce (pv 3) cf)))) (ce (cr cby_places (hr.mono (by decide)) rfl (ce (pv 0) (ce (pv 2) cf))) cf))))))))),?_⟩
  have hrl:=ha.1
  refine⟨_,rfl,_,rfl,_,rfl,q,wx,ss,es,zs,rfl,W,val,ris,ha,fun dz H1 s1 hdz0 hdz=>⟨q,dz,ss,es,zs,D,rfl,W.same s1,val,ris,hdz,hrl,hD,fun d ks H2 s2 hd0 hd knd klt kall=>?_⟩⟩
  have s12:=s1.trans s2
  have tl:(ee ss D ks).length=ks.length:=ab ..
  refine⟨_,rfl,d,_,rfl,hd,.sc rfl ⟨_,rfl,?_⟩⟩
  refine cK (fun h1=>?_) (fun h1=>?_)
  ·have h1:(((ee ss D ks).length:Nat):Int)=0:=V.int.inj (ax h1)
   refine k0 ?_ H2 (SameK.of s12) (tb.same s12)
   refine Nat.eq_zero_of_not_pos fun z=>?_
   have:=List.length_pos_of_mem (kall 0 z)
   omega
  ·have hn:0<ss.length:=by
      refine Nat.pos_of_ne_zero fun z=>h1 (ai ?_)
      have:ks=[]:=List.eq_nil_iff_forall_not_mem.mpr fun x hx=>by have:=klt x hx;omega
      rw[this];rfl
   obtain⟨qa,wa,wb,xs2,rfl,hq,hwa,hwb,_⟩:=eD W.rep
   have tb2:=tb.same s12
   refine⟨_,rfl,.tup (.of (s12 _ _ hq)) rfl ⟨_,rfl,wa,d,ss,D,ks,List.range ss.length,rfl,.inr (by rw[qY];exact s12 _ _ hwa),hd,W.nd,klt,fun u hu=>kall u (aN.mp hu),fun z=>?_,tb2,fun v H3 hv hmax s3 t3=>?_⟩⟩
   ·have:=congrArg List.length z
    rw[aF] at this
    have:ss.length=0:=this
    omega
   have hv:=aN.mp hv
   have best:nq ss.length D v:=⟨hv,fun u hu=>hmax u (aN.mpr hu)⟩
   have hd3:=s3.at tb2 hd
   have s13:SameK Pt H H3:=(SameK.of s12).trans s3
   have W3:=fP W s13 tb
   refine⟨_,rfl,_,rfl,.dic (.inl ⟨ee ss D ks,.inr (nmA ss v),.inl hd3,rfl,(gi W.nd D klt (kall v hv)).symm⟩) ⟨_,rfl,_,rfl,_,rfl,.ref qa,d,ss,es,wOf zs,D,ks,v,rfl,W3,val,hd3,klt,kall,ris,hD,hv,t3,fun l xs H4 s4 hl0 hl hlen hne chn hin t4=>?_⟩⟩
   have hd4:=s4.at t3 hd3
   have s14:=s13.trans s4
   refine⟨_,rfl,_,rfl,.ref qa,d,ss,_,D,ks,rfl,fP W s14 tb,hd4,klt,kall,fun l2 H5 s5 hl20 hl2=>⟨(by show 3<=sizeLine;decide),fun t ht=>?_⟩⟩
   have s6:=s5.trans (Same.new (o:=.tup [V.int (D v),V.ref l,V.ref l2]) ht)
   exact k t l l2 xs v _ (s14.trans (SameK.of s6)) (s13.free tb t3 hl0) (s14.free tb t4 hl20) cn ((Same.new ht) _ _ hl2) (s6 _ _ hl) best hlen hne chn hin (t4.same s6)
theorem scBuilt:FnScope ["_law_pen","_law_menu","_law_size","_law_names_here","_law_count"] ["_law_pen"] (ck ib):=⟨rfl,rfl,rfl,by decide +kernel,rfl,by decide +kernel,by decide +kernel⟩
theorem rn {f:Addr}{fd:FuncData}(F:Fun K "_law_built" "_law_built" ib f fd) (B:Blt mg) (c_law_take:Cal P w K mg base 1 "_law_take" ["_law_pen", "_law_many"] (hU K)) (c_law_names:Cal P w K mg base 2 "_law_names" ["_law_pen", "_law_many"] (kD K))
    (c_law_ties:Cal P w K mg base 2 "_law_ties" ["_law_pen","_law_size","_law_count"] (mG K)):FnOk P w K mg base CX0 3 f fd ["_law_pen"] (ke K):=by
 refine F.ok scBuilt (fun vs H Q E h=>?_) (fun cdv A outer s H vs Q E hr h=>?_)
 ·obtain⟨p,a,rfl,_⟩:=h
  rfl
 ·obtain⟨p, a, rfl, hP, k⟩ := h
  have nd:=scBuilt.nd
  refine⟨_,(cg (cy (i:=1) nd rfl (Or.inl rfl) (cr c_law_take (hr.mono (by decide)) rfl (ce (pv 0) (ce ci cf))))
   (cg (cy (i:=2) nd rfl (Or.inl rfl) (cG cO ci (cr c_law_take (hr.mono (by decide)) rfl (ce (pv 0) (ce ci cf)))))
   (cg (cM (cC (dg hr.units) (pv 1) ci (cE _)) (cp (cy (i:=2) nd rfl (Or.inl rfl) (cG gD ci (cr c_law_take (hr.mono (by decide)) rfl (ce (pv 0) (ce ci cf)))))) cH)
   (cg (cM (cC (dg hr.units) (pv 1) ci (cE _)) (cp (cy (i:=2) nd rfl (Or.inl rfl) (cr c_law_take (hr.mono (by decide)) rfl (ce (pv 0) (ce ci cf))))) cH)
   (cg (cy (i:=3) nd rfl (Or.inl rfl) (cr c_law_names (hr.mono (by decide)) rfl (ce (pv 0) (ce (pv 2) cf))))
   (cg (cy (i:=4) nd rfl (Or.inl rfl) (cr c_law_take (hr.mono (by decide)) rfl (ce (pv 0) (ce (cG cO (cG fv ci (pv 2)) ci) cf))))
   (cg (cM (cC ii (pv 2) ci (cE _)) (cp (cy (i:=4) nd rfl (Or.inl rfl) (cr c_law_take (hr.mono (by decide)) rfl (ce (pv 0) (ce ci cf))))) cH)
   (cp (cz (fu (ce (pv 3) (ce (cr c_law_ties (hr.mono (by decide)) rfl (ce (pv 0) (ce (pv 2) (ce (pv 4) cf)))) cf)))))))))))),?_⟩
  refine⟨_,rfl,p,a,8,rfl,hP,by decide,by decide,fun r1 H1 h10 h11 v1 e1=>?_⟩
  have b1:=But.of_eq e1
  refine⟨_,rfl,p,a,9,rfl,hP.but b1 v1,by decide,by decide,fun r2 H2 h20 h21 v2 e2=>.int ?_⟩
  have b2:=b1.trans (But.of_eq e2)
  obtain⟨m0,em0⟩:=be (show 0<=4+r2 by omega)
  have hm:m0<=60:=by omega
  rw[em0]
  refine⟨_,rfl,.sc rfl ⟨_,rfl,?_⟩⟩
  refine cK (fun _=>?a) (fun _=>?b)
  case' a =>
   refine⟨_,rfl,p,a,21,rfl,hP.but b2 v2,by decide,by decide,fun r3 H3 h30 h31 v3 e3=>⟨_,_,rfl,rfl,?_⟩⟩
   have b2:=b2.trans (But.of_eq e3)
   have v2:=v3
   obtain⟨m,em⟩:=be (show 0<=60-r3 by omega)
   have hm:m<=60:=by omega
   dsimp only
   rw[em]
  case' b =>
   obtain⟨m,rfl⟩:∃m,m=m0:=⟨_,rfl⟩
  all_goals
   refine⟨_,rfl,.sc rfl ⟨_,rfl,?_⟩⟩
   refine cK (fun _=>?_) (fun _=>?_)
   all_goals first
    | (refine⟨_,rfl,p,a,4,rfl,hP.but b2 v2,by decide,by decide,fun r4 H4 h40 h41 v4 e4=>?_⟩
       have b2:=b2.trans (But.of_eq e4)
       have v2:=v4
       obtain⟨m,rfl⟩:=be h40
       have hm:m<=60:=by omega)
    | skip
   all_goals
    refine⟨_,rfl,_,rfl,p,a,m,rfl,hP.but b2 v2,hm,fun ln ss H5 hl5 hnd5 hnm5 hln5 hnp5 v5 b5=>?_⟩
    have b6:=b2.trans b5
    refine⟨_,rfl,_,rfl,_,_,rfl,rfl,.inl ⟨by decide,by decide⟩,.int ⟨p,a,_,rfl,hP.but b6 v5,by omega,by omega,fun r7 H7 h70 h71 v7 e7=>?_⟩⟩
    have hln7:=(e7 ln hnp5).trans hln5
    have b7:=b6.trans (But.of_eq e7)
    obtain⟨c0,rfl⟩:=be h70
    refine⟨_,rfl,_,_,rfl,rfl,_,rfl,?_⟩
    refine cK (fun hb=>?_) (fun _=>?_)
    all_goals first
     | (refine⟨_,rfl,p,a,401,rfl,hP.but b7 v7,by decide,by decide,fun r8 H8 h80 h81 v8 e8=>?_⟩
        have hln7:=(e8 ln hnp5).trans hln7
        have b7:=b7.trans (But.of_eq e8)
        have v7:=v8
        obtain⟨c,rfl⟩:=be h80
        have hb:(12:Int)<(m:Int):=ax hb
        have hc:c<=400/\(m=0->c=0):=by omega)
     | (have hc:c0<=400/\(m=0->c0=0):=by omega
        obtain⟨c,rfl⟩:∃c,c=c0:=⟨_,rfl⟩)
    all_goals
     refine⟨_,rfl,_,rfl,_,rfl,_,rfl,p,a,m,c,rfl,hP.but b7 v7,hm,hc.1,hc.2,fun lt refs es H9 hlt rp hval hris hlen hltp v9 b9=>⟨(by show 2<=sizeLine;decide),fun q hq=>?_⟩⟩
     have hln9:=b9 ln _ hnp5 hln7
     have b9:=b7.trans b9
     have s2:=Same.new (o:=.tup [V.ref ln,V.ref lt]) hq
     have hpq:=v9.ne hq
     exact k q ln lt ss es _ cn ⟨s2 _ _ hln9,hnd5,hnm5,by omega,⟨refs,s2 _ _ hlt,rp.same s2⟩,(fun e he=>by rw[hl5];exact hval e he),by omega⟩ hris hnp5 hltp (v9.upd hpq) (b9.at (b9.free (Ne.symm hpq) hq))
def nz (K:W.Frag):Sp:=fun vs H Q _=>∃(p a:Addr) (n:Nat),vs=[.ref p,.int (n:Int)]/\Pen K H p a/\n<=60/\∀l zs H',H' l=some (.lst (cx zs))->zs.length=n->(∀z∈zs,z.natAbs<=10 ^ 30)->l≠p->PenV H' p a->But p H H'->Q (.ref l) H'
theorem scWts:FnScope ["_law_pen","_law_size","_law_menu","_law_found","_law_k","_law_small","_law_great"] ["_law_pen","_law_size"] (ck ki):=⟨rfl,rfl,rfl,by decide +kernel,rfl,by decide +kernel,by decide +kernel⟩
theorem vm {f:Addr}{fd:FuncData}(F:Fun K "_law_weights" "_law_weights" ki f fd) (B:Blt mg) (c_law_take:Cal P w K mg base 1 "_law_take" ["_law_pen", "_law_many"] (hU K)):FnOk P w K mg base CX0 2 f fd ["_law_pen", "_law_size"] (nz K) := by
 refine F.ok scWts (fun vs H Q E h=>?_) (fun cdv A outer s H vs Q E hr h=>?_)
 ·obtain⟨p,a,n,rfl,_⟩:=h
  rfl
 ·obtain⟨p, a, n, rfl, hP, hn, k⟩ := h
  have nd:=scWts.nd
  refine⟨_,(cg (cy (i:=2) nd rfl (Or.inl rfl) (cr c_law_take (hr.mono (by decide)) rfl (ce (pv 0) (ce ci cf))))
   (cg (cy (i:=3) nd rfl (Or.inl rfl) (cZ cf))
   (cg (dD PassesOwn.never rfl (dY rfl B.range (ce (pv 1) cf)) (cB (i:=4) nd rfl (Or.inl rfl)) (cg (cy (i:=5) nd rfl (Or.inl rfl) (cG gD (cr c_law_take (hr.mono (by decide)) rfl (ce (pv 0) (ce ci cf))) ci))
   (cg (cy (i:=6) nd rfl (Or.inl rfl) (cG fv (cu (cA K hr.units) (cZ (ce ci (ce (jO iR ci) cf))) (cr c_law_take (hr.mono (by decide)) rfl (ce (pv 0) (ce ci cf))) (fun _ _=>rfl)) (cG gD (cG gD (cG pA ci ci) ci) (cr c_law_take (hr.mono (by decide)) rfl (ce (pv 0) (ce ci cf))))))
   (cp (dU (fN K (pv 3) (ce (cu (cA K hr.units) (cZ (ce (pv 5) (ce (jL B (ce (pv 5) cf)) (ce (cG gD (cG d6 (pv 5) ci) ci) (ce (cG gD (jO iR ci) (jL B (ce (pv 5) cf))) (ce (cu (cA K hr.units) (cZ (ce (pv 5) (ce (pv 6) cf))) (cr c_law_take (hr.mono (by decide)) rfl (ce (pv 0) (ce ci cf))) (fun _ _=>rfl)) (ce ci cf gX) vn) oI) oI) u7) uw)) (pv 2) (fun _ _=>rfl)) cf)))))))
   (cp (cz (pv 3)))))),?_⟩
  refine⟨_,rfl,p,a,6,rfl,hP,by decide,by decide,fun r1 H1 h10 h11 v1 e1=>?_⟩
  have b1:=But.of_eq e1
  obtain⟨mn,rfl⟩:=be h10
  have hmn:mn<6:=by omega
  refine⟨(by show 0<=sizeLine;decide),fun lf hlf=>?_⟩
  have hpf:=v1.ne hlf
  have hf0:=b1.free (Ne.symm hpf) hlf
  refine⟨_,rfl,_,rfl,by omega,by omega,?_⟩
  refine fi (fun i σ H'=>∃o4 o5 o6 zs,σ=[some (.ref p),some (.int (n:Int)),some (.int (mn:Int)),some (.ref lf),o4,o5,o6]/\H' lf=some (.lst (cx zs))/\zs.length=i/\(∀z∈zs,z.natAbs<=10 ^ 30)/\PenV H' p a/\But p H H')
   ⟨none,none,none,[],rfl,cn,rfl,(fun z hz=>by cases hz),v1.upd hpf,b1.at hf0⟩ ?_ ?_
  ·rintro i σ H2 hi ⟨o4,o5,o6,zs,rfl,hf2,hzl,hzs,v2,b2⟩
   have hi:i<n:=by simpa using hi
   refine⟨_,rfl,p,a,41,rfl,hP.but b2 v2,by decide,by decide,fun r3 H3 h30 h31 v3 e3=>⟨_,_,rfl,rfl,?_⟩⟩
   have b3:=b2.trans (But.of_eq e3)
   have hf3:H3 lf=some (.lst (cx zs)):=(e3 lf (Ne.symm hpf)).trans hf2
   obtain⟨sm,hsm⟩:∃sm,sm=r3-20:=⟨_,rfl⟩
   try dsimp only
   rw[<- hsm]
   refine⟨_,rfl,(by show 2<=sizeLine;decide),fun l1 hl1=>?_⟩
   have hp1:=v3.ne hl1
   have nf1:lf≠l1:=cq hf3 hl1
   have b3':=b3.at (o:=.lst [V.int 1,V.int (-1)]) (b3.free (Ne.symm hp1) hl1)
   refine⟨_,rfl,p,a,2,rfl,hP.but b3' (v3.upd hp1),by decide,by decide,fun r4 H4 h40 h41 v4 e4=>?_⟩
   have hl14:H4 l1=some (.lst [V.int 1,V.int (-1)]):=(e4 l1 (Ne.symm hp1)).trans cn
   have hf4:H4 lf=some (.lst (cx zs)):=by rw[e4 lf (Ne.symm hpf),cm nf1];exact hf3
   have b4:=b3'.trans (But.of_eq e4)
   obtain⟨sg,esg,hsg⟩:∃sg:Int,atI [V.int 1,V.int (-1)] r4=some (.int sg)/\(sg=1∨sg=-1):=by
    have hr:r4=0∨r4=1:=by omega
    rcases hr with rfl | rfl
    ·exact⟨1,rfl,.inl rfl⟩
    ·exact⟨-1,rfl,.inr rfl⟩
   refine .lst (.of hl14) esg ?_
   refine⟨_,_,rfl,rfl,⟨by decide,by decide,by decide⟩,?_⟩
   refine⟨_,_,rfl,rfl,_,rfl,p,a,5,rfl,hP.but b4 v4,by decide,by decide,fun r5 H5 h50 h51 v5 e5=>⟨_,_,rfl,rfl,_,_,rfl,rfl,.inl (by rcases hsg with rfl | rfl <;> exact⟨by decide,by decide⟩),?_⟩⟩
   have hf5:H5 lf=some (.lst (cx zs)):=(e5 lf (Ne.symm hpf)).trans hf4
   have b5:=b4.trans (But.of_eq e5)
   obtain⟨gr,hgr⟩:∃gr:Int,gr=sg * ((10:Int) ^ (30:Int).toNat-1-r5):=⟨_,rfl⟩
   try dsimp only
   rw[<- hgr]
   have grb:gr.natAbs<=10 ^ 30:=by
    have e30:(10:Int) ^ (30:Int).toNat=1000000000000000000000000000000:=by decide
    have e31:(10:Nat) ^ 30=1000000000000000000000000000000:=by decide
    rw[e30] at hgr
    rw[e31]
    rcases hsg with rfl | rfl <;> omega
   clear hgr hsg esg
   refine⟨_,rfl,.inl ⟨rfl,_,.of hf5⟩,?_⟩
   refine⟨_,rfl,_,rfl,_,rfl,_,rfl,_,_,rfl,rfl,(by show (0:Int)<3;decide),_,_,rfl,rfl,?_⟩
   refine⟨_,rfl,_,rfl,_,rfl,_,_,rfl,rfl,?_⟩
   refine⟨_,rfl,_,rfl,(by show 2<=sizeLine;decide),fun l2 hl2=>?_⟩
   have hp2:=v5.ne hl2
   have nf2:lf≠l2:=cq hf5 hl2
   have b5':=b5.at (o:=.lst [V.int sm,V.int gr]) (b5.free (Ne.symm hp2) hl2)
   refine⟨_,rfl,p,a,2,rfl,hP.but b5' (v5.upd hp2),by decide,by decide,fun r6 H6 h60 h61 v6 e6=>?_⟩
   have hl26:H6 l2=some (.lst [V.int sm,V.int gr]):=(e6 l2 (Ne.symm hp2)).trans cn
   have hf6:H6 lf=some (.lst (cx zs)):=by rw[e6 lf (Ne.symm hpf),cm nf2];exact hf5
   have b6:=b5'.trans (But.of_eq e6)
   have smb:sm.natAbs<=10 ^ 30:=by
    have e31:(10:Nat) ^ 30=1000000000000000000000000000000:=by decide
    rw[e31];omega
   obtain⟨ch,ech,hch⟩:∃ch:Int,atI [V.int sm,V.int gr] r6=some (.int ch)/\ch.natAbs<=10 ^ 30:=by
    have hr:r6=0∨r6=1:=by omega
    rcases hr with rfl | rfl
    ·exact⟨sm,rfl,smb⟩
    ·exact⟨gr,rfl,grb⟩
   refine .lst (.of hl26) ech ⟨(by show 6<=sizeLine;decide),fun l3 hl3=>?_⟩
   have nf3:lf≠l3:=cq hf6 hl3
   have hp3:=v6.ne hl3
   obtain⟨z,ez,hz⟩:∃z:Int,atI [V.int sm,V.int (if sm<0 then -sm else sm),V.int (sm % 3-1),V.int (-1-(if sm<0 then -sm else sm)),V.int ch,V.int 1] (mn:Int)=some (.int z)/\z.natAbs<=10 ^ 30:=by
    have e31:(10:Nat) ^ 30=1000000000000000000000000000000:=by decide
    have hr:mn=0∨mn=1∨mn=2∨mn=3∨mn=4∨mn=5:=by omega
    rcases hr with rfl | rfl | rfl | rfl | rfl | rfl
    ·exact⟨_,rfl,smb⟩
    ·refine⟨_,rfl,?_⟩
     rw[e31];split <;> omega
    ·refine⟨_,rfl,?_⟩
     rw[e31];omega
    ·refine⟨_,rfl,?_⟩
     rw[e31];split <;> omega
    ·exact⟨_,rfl,hch⟩
    ·refine⟨_,rfl,?_⟩
     rw[e31];decide
   refine⟨_,rfl,.lst (.of cn) ez ⟨lf,_,_,rfl,rfl,(by rw[cm nf3];exact hf6),(by unfold cx;rw[ab,hzl];exact cw (by omega)),?_⟩⟩
   refine⟨_,_,_,zs++[z],rfl,?_,by rw[aU,hzl];rfl,?_,(v6.upd hp3).upd hpf,(b6.at (b6.free (Ne.symm hp3) hl3)).at hf0⟩
   ·rw[cn];unfold cx;rw[aj];rfl
   ·intro y hy
    rcases ar.mp hy with g | g
    ·exact hzs y g
    ·rw[aQ.mp g];exact hz
  ·rintro σ H2 ⟨o4,o5,o6,zs,rfl,hf2,hzl,hzs,v2,b2⟩
   have hzl:zs.length=n:=by simpa using hzl
   exact⟨_,rfl,k lf zs H2 hf2 hzl hzs (Ne.symm hpf) v2 b2⟩
def lX:Sp:=fun vs H Q _=>∃(wl t:Addr) (zs:List Int) (refs:List V) (es:List (Nat × Nat)) (D:Nat->Int) (L:Nat->Nat),vs=[.ref wl,.ref t]/\H wl=some (.lst (cx zs))/\H t=some (.lst refs)/\RepAll H refs (es.map et)/\(∀e∈es,e.1<zs.length/\e.2<zs.length)/\zs.length<=60/\MG.IsD es (wOf zs) D/\MG.IsL es zs.length L /\
 ∀l H',Same H H'->H l=none->H' l=some (.lst (cx ((List.range zs.length).map D)))->Q (.ref l) H'
theorem scLDep:FnScope ["_law_weights_here","_law_ties_here","_law_found","_law_turn","_law_one","_law_other"] ["_law_weights_here","_law_ties_here"] (ck fJ):=⟨rfl,rfl,rfl,by decide +kernel,rfl,by decide +kernel,by decide +kernel⟩
theorem u4 {n j:Nat}(h:j<n):ixN n (j:Int)=some j:=by
 unfold ixN
 rw[if_pos (by omega),if_pos (by omega),bz]
theorem kM {F:List Int}{i:Nat}(h:i<F.length):atI (cx F) (i:Int)=some (.int (F.getD i 0)):=eR (by simp[cx,h,aE])
theorem qe (F:List Int) (i:Nat) (x:Int):(cx F).set i (V.int x)=cx (F.set i x):=by unfold cx;rw[List.map_set]
theorem qo (zs:List Int):zs=(List.range zs.length).map (wOf zs):=by
 apply List.ext_getElem
 ·rw[ab,aF]
 ·intro i h1 h2
  rw[List.getElem_map,List.getElem_range]
  unfold wOf
  rw[aE,ap h1];rfl
theorem sd {f:Addr}{fd:FuncData}(F:Fun K "_law_depths" "_law_depths" fJ f fd) (B:Blt mg):FnOk P w K mg base CX0 1 f fd ["_law_weights_here", "_law_ties_here"] lX := by
 refine F.ok scLDep (fun vs H Q E h=>?_) (fun cdv A outer s H vs Q E hr h=>?_)
 ·obtain⟨wl,t,zs,refs,es,D,L,rfl,_⟩:=h
  rfl
 ·obtain⟨wl, t, zs, refs, es, D, L, rfl, hw, ht, rp, hev, hn, hD, hL, k⟩ := h
  have nd:=scLDep.nd
  refine⟨_,(cg (cy (i:=2) nd rfl (Or.inl rfl) (mE K rfl B (ce (pv 0) cf)))
   (cg (dD PassesOwn.never rfl (dY rfl B.range (ce (dC K B (ce (pv 0) cf)) cf)) (cB (i:=3) nd rfl (Or.inl rfl)) (cp (dD PassesOwn.never rfl (cV K (pv 1)) (gm (n:=2) K rfl (dL (cB (i:=4) nd rfl (Or.inl rfl)) (dL (cB (i:=5) nd rfl (Or.inl rfl)) gs))) (cp (dX (nv rfl B (ce (cu (cA K hr.units) (pv 2) (pv 5) (fun _ _=>rfl)) (ce (cG cO (cu (cA K hr.units) (pv 2) (pv 4) (fun _ _=>rfl)) (cu (cA K hr.units) (pv 0) (pv 5) (fun _ _=>rfl))) cf))) (ei (pv 2) (pv 5) (eU hr.units)))))))
   (cp (cz (pv 2))))),?_⟩
  have rlen:=rp.len
  rw[ab] at rlen
  have il:(cx zs).length=zs.length:=ab ..
  refine⟨_,rfl,_,rfl,.seq (.inl (.of hw)) fun l hl=>?_⟩
  have s1:=Same.new (o:=.lst (cx zs)) hl
  have e1:upd H l (.lst (cx zs)) l=some (.lst (cx ((List.range zs.length).map (wOf zs)))):=by rw[cn,<- qo]
  generalize upd H l (.lst (cx zs))=H2 at s1 e1 ⊢
  refine⟨_,rfl,_,_,rfl,SqA.len (K:=K) (.inl (s1 _ _ hw)),_,rfl,by rw[il];omega,by rw[il];omega,?_⟩
  rw[il]
  refine fi (fun r σ H'=>∃o3 o4 o5 F,σ=[some (.ref wl),some (.ref t),some (.ref l),o3,o4,o5]/\Same H H'/\H' l=some (.lst (cx F))/\MG.LayD es zs.length (wOf zs) D L r 0 F)
   ⟨none,none,none,_,rfl,s1,e1,MG.LayD.start hD hL⟩ ?_ ?_
  ·rintro r σ H3 hr ⟨o3, o4, o5, F, rfl, s3, e3, lay⟩
   refine⟨_,rfl,t,rfl,⟨_,.of (s3 _ _ ht)⟩,?_⟩
   refine fH (xs:=refs) (fun j σ H'=>∃o4 o5 F,σ=[some (.ref wl),some (.ref t),some (.ref l),some (.int (0+(r:Nat))),o4,o5]/\Same H H'/\H' l=some (.lst (cx F))/\MG.LayD es zs.length (wOf zs) D L r j F) ?_ ?_ ?_ ?_
   ·exact⟨o4,o5,F,rfl,s3,e3,lay⟩
   ·rintro j σ H' hj ⟨o4,o5,F,rfl,sm,_⟩
    exact .of (sm _ _ ht)
   ·rintro j x σ H4 hx ⟨o4,o5,F,rfl,s4,e4,lay⟩
    obtain⟨d,hd,rd⟩:=(rp.same s4).get hx
    rw[ag] at hd
    obtain⟨e,he,rfl⟩:∃e,es[j]? = some e/\et e=d:=by
     cases q:es[j]? with
     | none=>rw[q] at hd;cases hd
     | some e=>rw[q] at hd;exact⟨e,rfl,ae hd⟩
    obtain⟨ta,rfl,hta⟩:=jW rd
    have hval:=hev e (av he)
    have l1:e.1<F.length:=by rw[lay.len];exact hval.1
    have l2:e.2<F.length:=by rw[lay.len];exact hval.2
    have lay':=lay.step hD hev he
    refine⟨ta,_,rfl,.of hta,rfl,_,_,rfl,_,_,rfl,rfl,?_⟩
    refine⟨_,rfl,_,rfl,.lst (.of e4) (kM l2) ⟨_,rfl,_,rfl,.lst (.of e4) (kM l1) ⟨_,rfl,_,rfl,.lst (.of (s4 _ _ hw)) (kM hval.2) (.int ⟨_,_,rfl,?_⟩)⟩⟩⟩
    have em:(if F.getD e.1 0+zs.getD e.2 0 > F.getD e.2 0 then F.getD e.1 0+zs.getD e.2 0 else F.getD e.2 0)=max (F.getD e.2 0) (F.getD e.1 0+wOf zs e.2):=by unfold wOf;split <;> omega
    try dsimp only
    rw[em]
    refine⟨_,rfl,_,rfl,.lst (j:=e.2) e4 (by unfold cx;rw[ab];exact u4 l2) ?_⟩
    rw[qe]
    exact⟨_,_,_,rfl,cX s4 hl,cn,lay'⟩
   ·rintro σ H4 ⟨o4,o5,F,rfl,s4,e4,lay⟩
    rw[rlen] at lay
    exact⟨_,_,_,F,rfl,s4,e4,lay.round hD hL⟩
  ·rintro σ H4 ⟨o3,o4,o5,F,rfl,s4,e4,lay⟩
   rw[bz] at lay
   rw[lay.all hL hev] at e4
   exact⟨_,rfl,k l H4 s4 hl e4⟩
theorem vS {s:Str}(h:Nm s):s.length<=sizeLine:=bd (cw (by have:=h.2.1;omega))
theorem kW {n:Nat}{es:List (Nat × Nat)}(ris:MG.Ris es) (val:∀e ∈ es, e.1<n /\ e.2<n) {xs:List Nat}(ch:ij es xs) (hx:∀x ∈ xs, x<n):xs.length <= n+1 := by
 obtain⟨r,h1,h2⟩:=kJ ris val
 have key:∀i x,xs[i]? = some x->i<=r x:=by
  intro i
  induction i with
  | zero=>intro x _;omega
  | succ i ih =>
   intro y hy
   have hi:=(ak.mp hy).1
   have g:xs[i]? = some xs[i]:=ap (by omega)
   have a:=ih _ g
   have b:=h1 _ (ch i _ _ g hy)
   dsimp only at b
   omega
 by_cases q:xs=[]
 ·rw[q];exact aL _
 ·have hp:=bY.mpr q
  have g:xs[xs.length-1]? = some xs[xs.length-1]:=ap (by omega)
  have a:=key _ _ g
  have b:=h2 _ (hx _ (av g))
  omega
theorem og {n:Nat}{es:List (Nat × Nat)}(ris:MG.Ris es) {xs:List Nat}(ch:ij es xs) {i j x:Nat}(hi:xs[i]? = some x) (hj:xs[j]? = some x):¬ i<j := by
 obtain⟨r,h1⟩:=ris
 have key:∀k y,xs[i+k]? = some y->r x+k<=r y:=by
  intro k
  induction k with
  | zero=>intro y hy;rw[Nat.add_zero,hi] at hy;cases hy;omega
  | succ k ih =>
   intro y hy
   have hk:=(ak.mp hy).1
   have g:xs[i+k]? = some xs[i+k]:=ap (by omega)
   have a:=ih _ g
   have b:=h1 _ (ch (i+k) _ _ g hy)
   dsimp only at b
   omega
 intro hlt
 have:=key (j-i) x (by rw[show i+(j-i)=j by omega];exact hj)
 omega
theorem qW {ss:List Str}{es:List (Nat × Nat)}(nd:ss.Nodup) (ris:MG.Ris es) {xs:List Nat}(ch:ij es xs) (hx:∀x ∈ xs, x<ss.length) (hne:xs ≠ []) {a b:Nat}(h0:xs[0]? = some a) (hb:xs.getLast? = some b) :
    ik (es.map (nmP ss)) (nmA ss a) (nmA ss b) (xs.map (nmA ss))=true:=by
 have hp:=bY.mpr hne
 have hl:xs[xs.length-1]? = some b:=by rw[<- hb,List.getLast?_eq_getElem?]
 have ha:=hx a (av h0)
 have hbn:=hx b (av hl)
 unfold ik
 by_cases q:a=b
 ·subst q
  rw[if_pos rfl]
  have e1:¬ 0<xs.length-1:=og (n:=0) ris ch h0 hl
  have e2:xs=[a]:=by
   cases xs with
   | nil=>exact absurd rfl hne
   | cons x r =>
    have hr:r=[]:=List.length_eq_zero_iff.mp (by have:(x::r).length=r.length+1:=rfl;omega)
    subst hr
    cases h0;rfl
  rw[e2];exact ai rfl
 ·have hnq:¬ nmA ss a=nmA ss b := fun z => q (g9 nd ha hbn z)
  rw[if_neg hnq]
  have h2:2<=(xs.map (nmA ss)).length:=by
   rw[ab]
   refine Nat.lt_of_not_le fun z=>q ?_
   have:xs.length-1=0:=by omega
   rw[this,h0] at hl
   exact ae hl
  rw[ai h2,ag,h0,List.getLast?_map,hb,bp]
  rw[show decide (Option.map (nmA ss) (some a)=some (nmA ss a))=true from ai rfl,show decide (Option.map (nmA ss) (some b)=some (nmA ss b))=true from ai rfl,bp,bp,aW]
  intro e he
  obtain⟨i,hi,hie⟩:=bG.mp he
  have g:(List.zip (xs.map (nmA ss)) ((xs.map (nmA ss)).drop 1))[i]? = some e:=by rw[ap hi,hie]
  rw[bH,List.getElem?_drop,ag,ag] at g
  obtain⟨g1,g2⟩:=g
  cases c1:xs[i]? with
  | none=>rw[c1] at g1;cases g1
  | some u =>
   cases c2:xs[1+i]? with
   | none=>rw[c2] at g2;cases g2
   | some v =>
    rw[c1] at g1;rw[c2] at g2
    have e1:nmA ss u=e.1:=ae g1
    have e2:nmA ss v=e.2:=ae g2
    have:=ch i u v c1 (by rw[Nat.add_comm];exact c2)
    refine ai (al.mpr ⟨(u,v),this,?_⟩)
    unfold nmP
    exact Prod.ext e1 e2
theorem kj {zs:List Int}:∀xs:List Nat,(xs.map (wOf zs)).sum=dH (wOf zs) xs
 | []=>rfl
 | x::xs=>by rw[aV,List.sum_cons,kj xs];rfl
def jE:Sp:=fun vs H Q _=>∃(q:V) (d l:Addr) (ss:List Str) (es:List (Nat × Nat)) (zs:List Int) (xs:List Nat),vs=[q,.ref d,.ref l,.int (dH (wOf zs) xs)]/\Web H q ss (es.map (nmP ss))/\eA ss es/\MG.Ris es/\H d=some (.dK (cS ss (cx zs)))/\zs.length=ss.length/\H l=some (.lst (List.map V.str (xs.map (nmA ss))))/\xs≠[]/\(∀x∈xs,x<ss.length)/\ij es xs/\∀H',Same H H'->Q (.bl true) H'
theorem scWayW:FnScope ["web","weighed","things","weight"] ["web","weighed","things","weight"] (ck iF):=⟨rfl,rfl,rfl,by decide +kernel,rfl,by decide +kernel,by decide +kernel⟩
theorem rY {f:Addr}{fd:FuncData}(F:Fun K "way_weighs" "way_weighs" iF f fd) (B:Blt mg) (Zs:mg "sum"=none) (clists_things:Cal P w K mg base 2 "lists_things" ["web", "thing"] kL) (cis_way:Cal P w K mg base 2 "is_way" ["web", "one", "other", "things"] kq):FnOk P w K mg base CX0 3 f fd ["web", "weighed", "things", "weight"] jE := by
 refine F.ok scWayW (fun vs H Q E h=>?_) (fun cdv A outer s H vs Q E hr h=>?_)
 ·obtain⟨q,d,l,ss,es,zs,xs,rfl,_⟩:=h
  rfl
 ·obtain⟨q, d, l, ss, es, zs, xs, rfl, W, val, ris, hd, hzl, hl, hne, hx, ch, k⟩ := h
  have nd:=scWayW.nd
  have h60:=W.len
  have xl:=kW ris val ch hx
  have hp:=bY.mpr hne
  have inn:∀w∈xs.map (nmA ss),w∈ss:=fun w hw=>by
   obtain⟨x,hx',rfl⟩:=al.mp hw
   exact mem_getD (hx x hx')
  refine⟨_,(cg (cM (PW.pt (dW (di (df (cr clists_things (hr.mono (by decide)) rfl (ce (pv 0) (ce (pv 2) cf))))) (eE (cC (dg hr.units) (dC K B (ce (pv 2) cf)) ci (cE _))))) (cp (cz dl)) cH)
   (cg (cM (di (df (cr cis_way (hr.mono (by decide)) rfl (ce (pv 0) (ce (cu (cA K hr.units) (pv 2) ci (fun _ _=>rfl)) (ce (cu (cA K hr.units) (pv 2) (jO iR ci) (fun _ _=>rfl)) (ce (pv 2) cf))))))) (cp (cz dl)) cH)
   (cp (cz (dA (dg hr.units) (pj K rfl Zs (ce (cN (ck iF) ["web","weighed","things","weight"] ["thing"] [1] ["thing","weighed"] rfl (cV K (pv 2)) (fun _ _ _ _ _=>(cB (i:=0) (show (["thing","weighed"]:List Str).Nodup by decide) rfl (Or.inl rfl))) (fun _ _ _ _ _=>cY) (fun _ _ _ _ _=>(cu (cA K hr.units) (pv 1) (pv 0) (fun _ _=>rfl)))) cf)) (pv 3) (cE _)))))),?_⟩
  refine⟨_,rfl,_,rfl,q,ss,_,.ref l,rfl,W,.lst hl,fun a ys e hy=>?_,fun H1 s1=>⟨_,rfl,?_⟩⟩
  ·cases e
   rw[hl] at hy
   cases hy
   refine⟨by rw[ab,ab];omega,fun v hv=>?_⟩
   obtain⟨w,hw,rfl⟩:=al.mp hv
   exact .str (vS (W.nm w (inn w hw)))
  rw[lV hl,p3 inn]
  refine dP ?_
  refine⟨_,rfl,_,_,rfl,Or.inl ⟨_,.of (s1 _ _ hl),rfl⟩,.sc rfl ⟨_,rfl,cK (fun h=>?_) (fun _=>?_)⟩⟩
  ·have h:=V.int.inj (ax h)
   rw[ab,ab] at h
   omega
  have l1:=s1 _ _ hl
  have W1:=W.same s1
  obtain⟨a0,ha0⟩:∃a0,xs[0]? = some a0:=⟨xs[0],ap hp⟩
  obtain⟨b0,hb0⟩:∃b0,xs.getLast? = some b0:=⟨xs.getLast hne,ca hne⟩
  have ini:xs=xs.dropLast++[b0]:=by
   have e:=List.dropLast_concat_getLast hne
   rw[ca hne] at hb0
   cases hb0
   exact e.symm
  have at0:atI (List.map V.str (xs.map (nmA ss))) 0=some (.str (nmA ss a0)):=eR (j:=0) (by rw[ag,ag,ha0];rfl)
  have atL:atI (List.map V.str (xs.map (nmA ss))) (-1)=some (.str (nmA ss b0)):=by
   rw[ini,aj,aj];exact jz _ _
  have ha0n:=hx a0 (av ha0)
  refine⟨_,rfl,_,rfl,.lst (.of l1) at0 ⟨_,rfl,_,rfl,.lst (.of l1) atL ⟨_,rfl,q,ss,_,_,_,l,_,rfl,W1,W.nm _ (mem_getD ha0n),l1,inn,by rw[ab];omega,fun H2 s2=>?_⟩⟩⟩
  rw[qW W.nd ris ch hx hne ha0 hb0]
  refine⟨_,rfl,dP ?_⟩
  have s12:=s1.trans s2
  have l2:=s12 _ _ hl
  have d2:=s12 _ _ hd
  refine⟨_,rfl,l,rfl,⟨_,.of l2⟩,?_⟩
  refine dI (List.map V.str (xs.map (nmA ss))) (fun D i acc σ' H'=>∃o,σ'=[o,some (.ref d)]/\acc=List.map V.int ((xs.take i).map (wOf zs))/\Same H2 H'/\H2 D=none) fun D hD=>⟨?_,?_,?_,?_⟩
  ·exact⟨none,rfl,rfl,Same.new hD,hD⟩
  ·rintro i acc σ' H' _ ⟨o,rfl,_,sm,_⟩ _
   exact .of (sm _ _ l2)
  ·rintro i acc σ' H' x hxi ⟨o,rfl,rfl,sm,hD0⟩ hacc
   rw[ag,ag] at hxi
   obtain⟨u,hu,rfl⟩:∃u,xs[i]? = some u/\V.str (nmA ss u)=x:=by
    cases c:xs[i]? with
    | none=>rw[c] at hxi;cases hxi
    | some e=>rw[c] at hxi;exact⟨e,rfl,ae hxi⟩
   have hil:=(ak.mp hu).1
   have hun:=hx u (av hu)
   refine eF ?_
   refine⟨_,rfl,_,rfl,.dic (.inl ⟨_,.inr (nmA ss u),.inl (sm _ _ d2),rfl,(eO W.nd (fD hun) (gq (by omega))).symm⟩) ⟨hacc,?_,_,rfl,?_,cX sm hD0,hD0⟩⟩
   ·rw[ab,ab,aJ];exact cw (by omega)
   ·rw[aw,hu,aj,aj];rfl
  ·rintro acc σ' H3 ⟨o,rfl,rfl,s3,hD0⟩ hacc
   rw[ab,ab,aq (ac _)] at hacc
   refine⟨D,_,rfl,.of hacc,?_⟩
   rw[kj]
   refine⟨_,rfl,.sc rfl ?_⟩
   show Q (.bl (decide (V.int (dH (wOf zs) xs)=V.int (dH (wOf zs) xs)))) _
   rw[ai rfl]
   exact k _ (s12.trans s3)
theorem ko {n v:Nat}{D:Nat->Int}(h:v<n):(cx ((List.range n).map D))[v]? = some (.int (D v)):=by
 unfold cx
 rw[ag,ag,bV h];rfl
def iy:Sp:=fun vs H Q _=>∃(q:V) (d lb:Addr) (ss:List Str) (es:List (Nat × Nat)) (zs:List Int) (D:Nat->Int) (M:Int),vs=[q,.ref d,.ref lb,.int M]/\Web H q ss (es.map (nmP ss))/\eA ss es/\H d=some (.dK (cS ss (cx zs)))/\zs.length=ss.length/\H lb=some (.lst (cx ((List.range ss.length).map D)))/\MG.IsD es (wOf zs) D/\(∀u,u<ss.length->D u<=M)/\∀H',Same H H'->Q (.bl true) H'
theorem scBounds:FnScope ["web","weighed","bounds","most","bound"] ["web","weighed","bounds","most"] (ck fk):=⟨rfl,rfl,rfl,by decide +kernel,rfl,by decide +kernel,by decide +kernel⟩
theorem pL {f:Addr}{fd:FuncData}(F:Fun K "are_bounds" "are_bounds" fk f fd) (B:Blt mg) (Zz:mg "zip"=none) (care_wholes:Cal P w K mg base 2 "are_wholes" ["web", "numbers"] io):FnOk P w K mg base CX0 3 f fd ["web", "weighed", "bounds", "most"] iy := by
 refine F.ok scBounds (fun vs H Q E h=>?_) (fun cdv A outer s H vs Q E hr h=>?_)
 ·obtain⟨q,d,lb,ss,es,zs,D,M,rfl,_⟩:=h
  rfl
 ·obtain⟨q, d, lb, ss, es, zs, D, M, rfl, W, val, hd, hzl, hb, hD, hM, k⟩ := h
  have nd:=scBounds.nd
  have h60:=W.len
  have bl:((List.range ss.length).map D).length=ss.length:=by rw[ab,aF]
  refine⟨_,(cg (cM (PW.pt (dW (di (df (gf K "list" B (ce (pv 2) (ce (iI B) cf))))) (eE (di (df (cr care_wholes (hr.mono (by decide)) rfl (ce (pv 0) (ce (pv 2) cf)))))))) (cp (cz dl)) cH)
   (cg (cy (i:=4) nd rfl (Or.inr rfl) (m4 K rfl hr.units B Zz (ce (cu (cA K hr.units) (pv 0) ci (fun _ _=>rfl)) (ce (pv 2) cf))))
   (cg (cM (di (df (gG rfl B (ce (cN (ck fk) ["web","weighed","bounds","most","bound"] ["thing"] [3,1,4] ["thing","most","weighed","bound"] rfl (dN K (cu (cA K hr.units) (pv 0) ci (fun _ _=>rfl))) (fun _ _ _ _ _=>(cB (i:=0) (show (["thing","most","weighed","bound"]:List Str).Nodup by decide) rfl (Or.inl rfl))) (fun _ _ _ _ _=>cY) (fun _ _ _ _ _=>(lY iM iM (cu (cA K hr.units) (pv 2) (pv 0) (fun _ _=>rfl)) (cu (cA K hr.units) (pv 3) (pv 0) (fun _ _=>rfl)) (pv 1)))) cf)))) (cp (cz dl)) cH)
   (cp (cz (gG rfl B (ce (cN (ck fk) ["web","weighed","bounds","most","bound"] ["tie"] [4,1] ["tie","bound","weighed"] rfl (dN K (cu (cA K hr.units) (pv 0) ci (fun _ _=>rfl))) (fun _ _ _ _ _=>(cB (i:=0) (show (["tie","bound","weighed"]:List Str).Nodup by decide) rfl (Or.inl rfl))) (fun _ _ _ _ _=>cY) (fun _ _ _ _ _=>(dA iM (cG cO (cu (cA K hr.units) (pv 1) (cu (cA K hr.units) (pv 0) ci (fun _ _=>rfl)) (fun _ _=>rfl)) (cu (cA K hr.units) (pv 2) (cu (cA K hr.units) (pv 0) ci (fun _ _=>rfl)) (fun _ _=>rfl))) (cu (cA K hr.units) (pv 1) (cu (cA K hr.units) (pv 0) ci (fun _ _=>rfl)) (fun _ _=>rfl)) (cE _)))) cf))))))),?_⟩
  obtain⟨t,ty,_,_,_,t4,_⟩:=fq (K:=K) (Thg.lst hb)
  rw[iO hb] at t4
  refine⟨_,rfl,_,t,_,rfl,ty,t4,_,rfl,dP ?_⟩
  refine⟨_,rfl,_,rfl,q,lb,ss,_,_,rfl,W,hb,bl,fun H1 s1=>⟨_,rfl,dP ?_⟩⟩
  have W1:=W.same s1
  obtain⟨q',wa,wb,xs,e0,hq,hwa,hwb,rp⟩:=eD W1.rep
  cases e0
  refine⟨_,rfl,.tup (.of hq) rfl ⟨_,rfl,wa,lb,ss,cx ((List.range ss.length).map D),rfl,.of hwa,.of (s1 _ _ hb),by unfold cx;rw[ab,bl],by omega,fun l H2 hl0 s2 hl2=>?_⟩⟩
  rw[kE ss _ W.nd] at hl2
  have s12:=s1.trans s2
  have d2:=s12 _ _ hd
  refine⟨_,rfl,.tup (.of (s2 _ _ hq)) rfl ⟨wa,rfl,⟨_,.of (s2 _ _ hwa)⟩,?_⟩⟩
  refine ev (List.map V.str ss) (fun C i acc σ' H'=>∃o,σ'=[o,some (.int M),some (.ref d),some (.ref l)]/\acc=List.map V.bl (List.replicate i true)/\Same H2 H'/\H2 C=none) fun C hC=>⟨?_,?_,?_,?_⟩
  ·exact⟨none,rfl,rfl,Same.new hC,hC⟩
  ·rintro i acc σ' H' _ ⟨o,rfl,_,sm,_⟩ _
   exact .of (sm _ _ (s2 _ _ hwa))
  ·rintro i acc σ' H' x hx ⟨o,rfl,rfl,sm,hC0⟩ hacc
   obtain⟨z,hz,rfl⟩:=kG hx
   have hil:=(ak.mp hz).1
   refine eF ?_
   have g1:=eO W.nd hz (gq (zs:=zs) (v:=i) (by omega))
   have g2:=eO W.nd hz (ko (D:=D) hil)
   refine⟨_,rfl,_,rfl,.dic (.inl ⟨_,.inr z,.inl (sm _ _ d2),rfl,g1.symm⟩) ⟨_,rfl,_,rfl,.dic (.inl ⟨_,.inr z,.inl (sm _ _ hl2),rfl,g2.symm⟩) (.int ⟨_,rfl,cK (fun _=>⟨_,rfl,.int ?_⟩) (fun h=>absurd (ai (hD.ge i)) h)⟩)⟩⟩
   rw[ai (hM i hil)]
   exact⟨hacc,by rw[ab,bj];exact cw (by omega),_,rfl,by rw[bX,aj];rfl,cX sm hC0,hC0⟩
  ·rintro acc σ' H3 ⟨o,rfl,rfl,s3,hC0⟩ hacc
   refine⟨C,_,rfl,hacc,?_⟩
   have e:(List.replicate (List.map V.str ss).length true).all id=true:=by rw[aW];intro x hx;exact(List.mem_replicate.mp hx).2
   rw[e]
   refine⟨_,rfl,dP ?_⟩
   have s13:=s12.trans s3
   have d3:=s3 _ _ d2
   have l3:=s3 _ _ hl2
   have rlen:=rp.len
   rw[ab] at rlen
   have few:=W.few
   rw[ab] at few
   have wb3:=s3 _ _ (s2 _ _ hwb)
   have rp3:=(rp.same s2).same s3
   refine⟨_,rfl,.tup (.of (s3 _ _ (s2 _ _ hq))) rfl ⟨wb,rfl,⟨_,.of wb3⟩,?_⟩⟩
   refine ev xs (fun C i acc σ' H'=>∃o,σ'=[o,some (.ref l),some (.ref d)]/\acc=List.map V.bl (List.replicate i true)/\Same H3 H'/\H3 C=none) fun C hC=>⟨?_,?_,?_,?_⟩
   ·exact⟨none,rfl,rfl,Same.new hC,hC⟩
   ·rintro i acc σ' H' _ ⟨o,rfl,_,sm,_⟩ _
    exact .of (sm _ _ wb3)
   ·rintro i acc σ' H' x hx ⟨o,rfl,rfl,sm,hC0⟩ hacc
    have hil:=(ak.mp hx).1
    rw[rlen,ab] at hil
    obtain⟨e,ta,he,rfl,hta⟩:=jq (rp3.same sm) hx
    rw[ag,ap hil] at he
    have he:nmP ss es[i]=e:=ae he
    have hin:es[i]∈es:=bu hil
    obtain⟨v1,v2⟩:=val _ hin
    have hup:=hD.up _ hin
    subst he
    refine eF ?_
    have c1:=eO W.nd (fD v1) (ko (D:=D) v1)
    have c2:=eO W.nd (fD v2) (ko (D:=D) v2)
    have c3:=eO W.nd (fD v2) (gq (zs:=zs) (v:=es[i].2) (by omega))
    refine⟨_,rfl,_,rfl,.tup (.of hta) rfl (.dic (.inl ⟨_,.inr (nmA ss es[i].1),.inl (sm _ _ l3),rfl,c1.symm⟩) ⟨_,rfl,_,rfl,.tup (.of hta) rfl (.dic (.inl ⟨_,.inr (nmA ss es[i].2),.inl (sm _ _ d3),rfl,c3.symm⟩) (.int ⟨_,rfl,_,rfl,.tup (.of hta) rfl (.dic (.inl ⟨_,.inr (nmA ss es[i].2),.inl (sm _ _ l3),rfl,c2.symm⟩) (.int ?_))⟩))⟩)⟩
    rw[ai hup]
    exact⟨hacc,by rw[ab,bj];exact cw (by omega),_,rfl,by rw[bX,aj];rfl,cX sm hC0,hC0⟩
   ·rintro acc σ' H4 ⟨o,rfl,rfl,s4,hC0⟩ hacc
    refine⟨C,_,rfl,hacc,?_⟩
    have e:(List.replicate xs.length true).all id=true:=by rw[aW];intro x hx;exact(List.mem_replicate.mp hx).2
    rw[e]
    exact k _ (s13.trans s4)
def hI:Sp:=fun vs H Q _=>∃(q wx:V) (t l l2:Addr) (ss:List Str) (es:List (Nat × Nat)) (zs:List Int) (D:Nat->Int) (xs:List Nat) (v:Nat),vs=[q,wx,.ref t]/\Web H q ss (es.map (nmP ss))/\eA ss es/\MG.Ris es/\IsW H wx ss.length zs/\MG.IsD es (wOf zs) D/\H t=some (.tup [.int (D v),.ref l,.ref l2])/\H l=some (.lst (List.map V.str (xs.map (nmA ss))))/\H l2=some (.lst (cx ((List.range ss.length).map D)))/\nq ss.length D v/\dH (wOf zs) xs=D v/\xs≠[]/\ij es xs/\(∀x∈xs,x<ss.length)/\∀H',Same H H'->Q (.bl true) H'
def kx:Sp:=fun vs H Q _=>∃(q wx:V) (es:List (Nat × Nat)) (zs:List Int),vs=[q,wx,.non]/\Web H q [] (es.map (nmP []))/\eA [] es/\MG.Ris es/\IsW H wx 0 zs/\∀H',Same H H'->Q (.bl true) H'
theorem scShowD:FnScope ["web","weights","told","weighed"] ["web","weights","told"] (ck fF):=⟨rfl,rfl,rfl,by decide +kernel,rfl,by decide +kernel,by decide +kernel⟩
theorem mz {f:Addr}{fd:FuncData}(F:Fun K "shows_deepest" "shows_deepest" fF f fd) (B:Blt mg) (cweights_by_thing:Cal P w K mg base 8 "weights_by_thing" ["web", "weights"] fL) (cis_whole:Cal P w K mg base 1 "is_whole" ["thing"] gu) (cway_weighs:Cal P w K mg base 3 "way_weighs" ["web", "weighed", "things", "weight"] jE) (care_bounds:Cal P w K mg base 3 "are_bounds" ["web", "weighed", "bounds", "most"] iy):FnOk P w K mg base CX0 9 f fd ["web", "weights", "told"] hI := by
 refine F.ok scShowD (fun vs H Q E h=>?_) (fun cdv A outer s H vs Q E hr h=>?_)
 ·obtain⟨q,wx,t,l,l2,ss,es,zs,D,xs,v,rfl,_⟩:=h
  rfl
 ·obtain⟨q,wx,t,l,l2,ss,es,zs,D,xs,v,rfl,W,val,ris,hw,hD,ht,hl,hl2,best,hsum,hne,ch,hx,k⟩:=h
  have nd:=scShowD.nd
  have hv:=best.1
  refine⟨_,(cg (cy (i:=3) nd rfl (Or.inl rfl) (cr cweights_by_thing (hr.mono (by decide)) rfl (ce (pv 0) (ce (pv 1) cf))))
   (cg (cM (cC (dg hr.units) (ml B (ce (pv 3) cf)) ci (cE _)) (cp (cz (dA iP (pv 2) ft (cE _)))) cH)
   (cg (cM (PW.pt (dW (di (df (gf K "tuple" B (ce (pv 2) (ce (ia B) cf))))) (dW (cC (eJ hr.units) (dC K B (ce (pv 2) cf)) ci (cE _)) (eE (di (df (cr cis_whole (hr.mono (by decide)) rfl (ce (cu (cA K hr.units) (pv 2) ci (fun _ _=>rfl)) cf)))))))) (cp (cz dl)) cH)
   (cp (cz (fX (cr cway_weighs (hr.mono (by decide)) rfl (ce (pv 0) (ce (pv 3) (ce (cu (cA K hr.units) (pv 2) ci (fun _ _=>rfl)) (ce (cu (cA K hr.units) (pv 2) ci (fun _ _=>rfl)) cf))))) (gc (cr care_bounds (hr.mono (by decide)) rfl (ce (pv 0) (ce (pv 3) (ce (cu (cA K hr.units) (pv 2) ci (fun _ _=>rfl)) (ce (cu (cA K hr.units) (pv 2) ci (fun _ _=>rfl)) cf)))))))))))),?_⟩
  refine⟨_,rfl,_,rfl,q,wx,ss,es,zs,rfl,W,val,ris,hw,fun d H1 s1 hd0 hd=>?_⟩
  have zl:(cS ss (cx zs)).length=ss.length:=by
   unfold cS cx
   rw[List.length_zip,ab,ab,hw.1,Nat.min_self]
  refine⟨_,rfl,d,_,rfl,hd,.sc rfl ⟨_,rfl,cK (fun h=>?_) (fun _=>?_)⟩⟩
  ·have h:=V.int.inj (ax h)
   rw[zl] at h
   omega
  have t1:=s1 _ _ ht
  obtain⟨tt,ty,_,_,_,_,t5⟩:=fq (K:=K) (Thg.tup t1)
  rw[jV t1] at t5
  refine⟨_,rfl,_,tt,_,rfl,ty,t5,_,rfl,dP ?_⟩
  refine⟨_,rfl,_,_,rfl,SqA.len (K:=K) (.inr t1),.sc rfl ⟨_,rfl,dP ?_⟩⟩
  refine⟨_,rfl,.tup (.of t1) rfl ⟨_,rfl,_,rfl,dP ?_⟩⟩
  have W1:=W.same s1
  refine⟨_,rfl,_,rfl,_,rfl,.tup (.of t1) rfl ⟨_,rfl,.tup (.of t1) rfl ⟨q,d,l,ss,es,zs,xs,by rw[hsum];rfl,W1,val,ris,hd,hw.1,s1 _ _ hl,hne,hx,ch,fun H2 s2=>⟨_,rfl,cK (fun _=>?_) (fun h=>absurd rfl h)⟩⟩⟩⟩
  have t2:=s2 _ _ t1
  exact⟨_,rfl,_,rfl,_,rfl,.tup (.of t2) rfl ⟨_,rfl,.tup (.of t2) rfl ⟨q,d,l2,ss,es,zs,D,D v,rfl,W1.same s2,val,s2 _ _ hd,hw.1,s2 _ _ (s1 _ _ hl2),hD,best.2,fun H3 s3=>k _ ((s1.trans s2).trans s3)⟩⟩⟩
theorem rk {f:Addr}{fd:FuncData}(F:Fun K "shows_deepest" "shows_deepest" fF f fd) (B:Blt mg) (cweights_by_thing:Cal P w K mg base 8 "weights_by_thing" ["web", "weights"] fL) (cis_whole:Cal P w K mg base 1 "is_whole" ["thing"] gu) (cway_weighs:Cal P w K mg base 3 "way_weighs" ["web", "weighed", "things", "weight"] jE) (care_bounds:Cal P w K mg base 3 "are_bounds" ["web", "weighed", "bounds", "most"] iy):FnOk P w K mg base CX0 9 f fd ["web", "weights", "told"] kx := by
 refine F.ok scShowD (fun vs H Q E h=>?_) (fun cdv A outer s H vs Q E hr h=>?_)
 ·obtain⟨q,wx,es,zs,rfl,_⟩:=h
  rfl
 ·obtain⟨q,wx,es,zs,rfl,W,val,ris,hw,k⟩:=h
  have nd:=scShowD.nd
  refine⟨_,(cg (cy (i:=3) nd rfl (Or.inl rfl) (cr cweights_by_thing (hr.mono (by decide)) rfl (ce (pv 0) (ce (pv 1) cf))))
   (cg (cM (cC (dg hr.units) (ml B (ce (pv 3) cf)) ci (cE _)) (cp (cz (dA iP (pv 2) ft (cE _)))) cH)
   (cg (cM (PW.pt (dW (di (df (gf K "tuple" B (ce (pv 2) (ce (ia B) cf))))) (dW (cC (eJ hr.units) (dC K B (ce (pv 2) cf)) ci (cE _)) (eE (di (df (cr cis_whole (hr.mono (by decide)) rfl (ce (cu (cA K hr.units) (pv 2) ci (fun _ _=>rfl)) cf)))))))) (cp (cz dl)) cH)
   (cp (cz (fX (cr cway_weighs (hr.mono (by decide)) rfl (ce (pv 0) (ce (pv 3) (ce (cu (cA K hr.units) (pv 2) ci (fun _ _=>rfl)) (ce (cu (cA K hr.units) (pv 2) ci (fun _ _=>rfl)) cf))))) (gc (cr care_bounds (hr.mono (by decide)) rfl (ce (pv 0) (ce (pv 3) (ce (cu (cA K hr.units) (pv 2) ci (fun _ _=>rfl)) (ce (cu (cA K hr.units) (pv 2) ci (fun _ _=>rfl)) cf)))))))))))),?_⟩
  refine⟨_,rfl,_,rfl,q,wx,[],es,zs,rfl,W,val,ris,hw,fun d H1 s1 hd0 hd=>?_⟩
  refine⟨_,rfl,d,_,rfl,hd,.sc rfl ⟨_,rfl,cK (fun _=>?_) (fun h=>absurd rfl h)⟩⟩
  exact⟨_,rfl,.non (k _ s1)⟩
theorem tX {n:Nat}{es:List (Nat × Nat)}{r:Nat->Nat}(h1:∀e∈es,r e.1<r e.2) (h2:∀v,v<n->r v<=n) (val:∀e∈es,e.1<n/\e.2<n):MG.Ris (MG.swp es):=by
 refine⟨fun v=>n-r v,fun e he=>?_⟩
 have hm:(e.2,e.1)∈es:=MG.mem_swp.mp he
 have a:=h1 _ hm
 have b:=h2 _ (val _ hm).2
 have c:=h2 _ (val _ hm).1
 dsimp only at a b c ⊢
 omega
theorem mW {n:Nat}{es:List (Nat × Nat)}{r:Nat -> Nat}(h1:∀e ∈ es, r e.1<r e.2) (h2:∀v, v<n -> r v <= n) (val:∀e ∈ es, e.1<n /\ e.2<n) {W D D':Nat -> Int}(hD:MG.IsD es W D) (hD':MG.IsD (MG.swp es) W D') {M:Int}(hM:∀u, u<n -> D u <= M) :
    ∀m k,k<n->n-r k<=m->D k+D' k-W k<=M:=by
 intro m
 induction m with
 | zero =>
  intro k hk hm
  rcases hD'.eq k with e | ⟨u,hu,e⟩
  ·have:=hM k hk;omega
  ·have hm':(k,u)∈es:=MG.mem_swp.mp hu
   have a:=h1 _ hm'
   have b:=h2 _ (val _ hm').2
   dsimp only at a b
   omega
 | succ m ih =>
  intro k hk hm
  rcases hD'.eq k with e | ⟨u,hu,e⟩
  ·have:=hM k hk;omega
  ·have hm':(k,u)∈es:=MG.mem_swp.mp hu
   have a:=h1 _ hm'
   have b:=h2 _ (val _ hm').2
   have c:=hD.up _ hm'
   dsimp only at a b c
   have:=ih u (val _ hm').2 (by omega)
   omega
theorem pG {n:Nat}{es:List (Nat × Nat)}{r:Nat->Nat}(h1:∀e∈es,r e.1<r e.2) (h2:∀v,v<n->r v<=n) (val:∀e∈es,e.1<n/\e.2<n) {W D D':Nat->Int}(hD:MG.IsD es W D) (hD':MG.IsD (MG.swp es) W D') {v k:Nat}(hv:v<n) (hk:k<n) (bv:∀u,u<n->D u<=D v) (bk:∀u,u<n->D' u<=D' k):D v=D' k:=by
 have a:=mW h1 h2 val hD hD' bv (n-r k) k hk (ac _)
 have ge:=hD.ge k
 have sv:∀e∈MG.swp es,e.1<n/\e.2<n:=fun e he=>(val _ (MG.mem_swp (a:=e.1) (b:=e.2).mp he)).symm
 have h1':∀e∈MG.swp es,n-r e.1<n-r e.2:=fun e he=>by
  have hm:(e.2,e.1)∈es:=MG.mem_swp.mp he
  have a:=h1 _ hm
  have b:=h2 _ (val _ hm).2
  dsimp only at a b
  omega
 have ss:MG.IsD (MG.swp (MG.swp es)) W D:=by
  refine⟨hD.ge,fun e he=>hD.up e (by have:=MG.mem_swp.mp (MG.mem_swp.mp he);exact this),fun v=>?_⟩
  rcases hD.eq v with e | ⟨u,hu,e⟩
  ·exact .inl e
  ·exact .inr ⟨u,MG.mem_swp.mpr (MG.mem_swp.mpr hu),e⟩
 have b:=mW (r:=fun v=>n-r v) h1' (fun v _=>Nat.sub_le _ _) sv hD' ss bk (n-(n-r v)) v hv (ac _)
 have ge':=hD'.ge v
 omega
def gE (h:Nat):Sp:=fun vs H Q _=>∃(wl t:Addr) (zs:List Int) (refs:List V) (es:List (Nat × Nat)) (r:Nat->Nat) (D':Nat->Int) (one:Nat),vs=[.ref wl,.ref t,.int (one:Int)]/\H wl=some (.lst (cx zs))/\H t=some (.lst refs)/\RepAll H refs (es.map et)/\(∀e∈es,e.1<zs.length/\e.2<zs.length)/\one<zs.length/\(∀e∈es,r e.1<r e.2)/\(∀v,v<zs.length->r v<=zs.length)/\zs.length-r one<h/\MG.IsD (MG.swp es) (wOf zs) D'/\∀H',Same H H'->Q (.int (D' one)) H'
theorem scMost:FnScope ["_law_weights_here","_law_ties_here","_law_one","_law_found","_law_first","_law_last"] ["_law_weights_here","_law_ties_here","_law_one"] (ck ie):=⟨rfl,rfl,rfl,by decide +kernel,rfl,by decide +kernel,by decide +kernel⟩
theorem rg {f:Addr}{fd:FuncData}{h:Nat}(F:Fun K "_law_most" "_law_most" ie f fd) (B:Blt mg) (c_law_most:Cal P w K mg base h "_law_most" ["_law_weights_here", "_law_ties_here", "_law_one"] (gE h)):FnOk P w K mg base CX0 (h+1) f fd ["_law_weights_here", "_law_ties_here", "_law_one"] (gE (h+1)) := by
 refine F.ok scMost (fun vs H Q E h=>?_) (fun cdv A outer s H vs Q E hr h=>?_)
 ·obtain⟨wl,t,zs,refs,es,r,D',one,rfl,_⟩:=h
  rfl
 ·obtain⟨wl, t, zs, refs, es, r, D', one, rfl, hw, ht, rp, val, h1n, h1, h2, hh, hD, k⟩ := h
  have nd:=scMost.nd
  refine⟨_,(cg (cy (i:=3) nd rfl (Or.inl rfl) (cu (cA K hr.units) (pv 0) (pv 2) (fun _ _=>rfl)))
   (cg (dD PassesOwn.never rfl (cV K (pv 1)) (gm (n:=2) K rfl (dL (cB (i:=4) nd rfl (Or.inl rfl)) (dL (cB (i:=5) nd rfl (Or.inl rfl)) gs))) (cp (cM (cC (dg hr.units) (pv 4) (pv 2) (cE _)) (cp (cy (i:=3) nd rfl (Or.inl rfl) (nv rfl B (ce (pv 3) (ce (cG cO (cu (cA K hr.units) (pv 0) (pv 2) (fun _ _=>rfl)) (cr c_law_most (hr.mono (ac _)) rfl (ce (pv 0) (ce (pv 1) (ce (pv 5) cf))))) cf))))) cH)))
   (cp (cz (pv 3))))),?_⟩
  have atw:∀v,v<zs.length->atI (cx zs) (v:Int)=some (.int (wOf zs v)):=fun v hv=>eR (gq hv)
  refine⟨_,rfl,_,rfl,.lst (.of hw) (atw one h1n) ?_⟩
  refine⟨_,rfl,t,rfl,⟨_,.of ht⟩,?_⟩
  have rlen:=rp.len
  rw[ab] at rlen
  refine fH (xs:=refs) (fun i σ H'=>∃(o4 o5:Option V) (m:Int),σ=[some (.ref wl),some (.ref t),some (.int (one:Int)),some (.int (wOf zs one+m)),o4,o5]/\Same H H'/\0<=m/\(∀j,j<i->∀e,es[j]? = some e->e.1=one->D' e.2<=m)/\(m=0∨∃u,(one,u)∈es/\m=D' u)) ?_ ?_ ?_ ?_
  ·exact⟨none,none,0,by rw[Int.add_zero];rfl,Same.refl H,Int.le_refl _,fun j hj=>by omega,.inl rfl⟩
  ·rintro i σ H' hi ⟨_,_,_,rfl,sm,_⟩
   exact .of (sm _ _ ht)
  ·rintro i x σ H1 hx ⟨o4, o5, m, rfl, s1, m0, hall, hm⟩
   obtain⟨d,hd,rd⟩:=(rp.same s1).get hx
   rw[ag] at hd
   obtain⟨e,he,rfl⟩:∃e,es[i]? = some e/\et e=d:=by
    cases q:es[i]? with
    | none=>rw[q] at hd;cases hd
    | some e=>rw[q] at hd;exact⟨e,rfl,ae hd⟩
   obtain⟨ta,rfl,hta⟩:=jW rd
   have hin:=av he
   have hval:=val e hin
   refine⟨ta,_,rfl,.of hta,rfl,_,_,rfl,_,_,rfl,rfl,?_⟩
   refine⟨_,rfl,_,rfl,.sc rfl ⟨_,rfl,cK (fun hq=>?_) (fun hq=>?_)⟩⟩
   ·have hq:e.1=one := by have := V.int.inj (ax hq); omega
    have hr:=h1 e hin
    have hr2:=h2 e.2 hval.2
    rw[hq] at hr
    refine⟨_,rfl,_,rfl,_,rfl,.lst (.of (s1 _ _ hw)) (atw one h1n) ⟨_,rfl,_,rfl,_,rfl,wl,t,zs,refs,es,r,D',e.2,rfl,s1 _ _ hw,s1 _ _ ht,rp.same s1,val,hval.2,h1,h2,by omega,hD,fun H2 s2=>.int ⟨_,_,rfl,?_⟩⟩⟩
    have hmx:(if wOf zs one+D' e.2 > wOf zs one+m then wOf zs one+D' e.2 else wOf zs one+m)=wOf zs one+(if D' e.2 > m then D' e.2 else m):=by
     by_cases q:D' e.2 > m
     ·rw[if_pos q,if_pos (by omega)]
     ·rw[if_neg q,if_neg (by omega)]
    dsimp only
    rw[hmx]
    have mm:m<=(if D' e.2 > m then D' e.2 else m)/\D' e.2<=(if D' e.2 > m then D' e.2 else m):=by
     by_cases q:D' e.2 > m
     ·rw[if_pos q];omega
     ·rw[if_neg q];omega
    refine⟨_,_,(if D' e.2 > m then D' e.2 else m),rfl,s1.trans s2,by omega,fun j hj f hf hf1=>?_,?_⟩
    ·by_cases q:j<i
     ·have:=hall j q f hf hf1;omega
     ·have:j=i:=by omega
      subst this
      rw[he] at hf
      cases hf
      exact mm.2
    ·by_cases q:D' e.2 > m
     ·rw[if_pos q]
      exact .inr ⟨e.2,by rw[<- hq];exact hin,rfl⟩
     ·rw[if_neg q]
      exact hm
   ·have hq:e.1≠one:=fun z=>hq (ai (by rw[z]))
    refine⟨_,_,m,rfl,s1,m0,fun j hj f hf=>?_,hm⟩
    by_cases q:j<i
    ·exact hall j q f hf
    ·have:j=i:=by omega
     subst this
     rw[he] at hf
     cases hf
     exact fun z=>absurd z hq
  ·rintro σ H1 ⟨o4,o5,m,rfl,s1,m0,hall,hm⟩
   rw[rlen] at hall
   have e:=hD.top (v:=one) (M:=m) m0 (fun u hu=>by
    have hm':(one,u)∈es:=MG.mem_swp.mp hu
    obtain⟨j,hj,ej⟩:=bG.mp hm'
    exact hall j hj (one,u) (by rw[ap hj,ej]) rfl) (hm.imp id fun ⟨u,hu,e⟩=>⟨u,MG.mem_swp.mpr hu,e⟩)
   refine⟨_,rfl,?_⟩
   rw[e]
   exact k H1 s1
theorem na {f:Addr}{fd:FuncData}(F:Fun K "_law_most" "_law_most" ie f fd) (B:Blt mg) (mkc:∀h,FnOk P w K mg base CX0 h f fd ["_law_weights_here","_law_ties_here","_law_one"] (gE h)->Cal P w K mg base h "_law_most" ["_law_weights_here","_law_ties_here","_law_one"] (gE h)):∀h,FnOk P w K mg base CX0 h f fd ["_law_weights_here","_law_ties_here","_law_one"] (gE h)
 | 0=>⟨fun vs H Q E ⟨_,_,_,_,_,_,_,_,e,_⟩=>by rw[e];rfl,fun A outer s H args us vs Q E hr he hb hv ⟨_,_,_,_,_,_,_,_,_,_,_,_,_,_,_,_,hh,_⟩=>absurd hh (Nat.not_lt_zero _)⟩
 | h+1=>rg F B (mkc h (na F B mkc h))
theorem eG {σ:St}{H:Hp}{k:List V->Hp->Prop}(h:k [] H):ma σ H k:=h
theorem sV {es:List (Nat × Nat)}{n:Nat}{W D:Nat -> Int}{L:Nat -> Nat}{M:Int}(hM:0 <= M) (hD:MG.IsD es W D) (hL:MG.IsL es n L) (val:∀e ∈ es, e.1<n /\ e.2<n) (hW:∀v, v<n -> W v <= M):∀k v, v<n -> L v <= k -> D v <= ((k:Int)+1) * M := by
 intro k
 induction k with
 | zero =>
  intro v hv h0
  rcases hD.eq v with e | ⟨u,hu,_⟩
  ·have:=hW v hv;simp;omega
  ·have:L u+1<=L v:=hL.up _ hu
   omega
 | succ k ih =>
  intro v hv hk
  have e1:((k+1:Nat):Int)+1=((k:Int)+1)+1:=by omega
  rw[e1,Int.add_mul,Int.one_mul]
  have hnn:0<=((k:Int)+1) * M:=Int.mul_nonneg (by omega) hM
  have hw:=hW v hv
  rcases hD.eq v with e | ⟨u,hu,e⟩
  ·omega
  ·have h1:L u+1<=L v:=hL.up _ hu
   have:=ih u (val _ hu).1 (by omega)
   omega
theorem lU {xs:List Str}{i:Nat}{x:V}(h:(List.map V.str xs)[i]? = some x):∃z,xs[i]? = some z/\x=.str z:=by
 rw[ag] at h
 cases q:xs[i]? with
 | none=>rw[q] at h;cases h
 | some e=>rw[q] at h;exact⟨e,rfl,(ae h).symm⟩
theorem iD {ss:List Str}{xs:List Nat}{i:Nat}{x:V}(h:(List.map V.str (xs.map (nmA ss)))[i]? = some x):∃a,xs[i]? = some a/\x=.str (nmA ss a):=by
 obtain⟨z,hz,rfl⟩:=lU h
 rw[ag] at hz
 cases q:xs[i]? with
 | none=>rw[q] at hz;cases hz
 | some a=>rw[q] at hz;exact⟨a,rfl,congrArg V.str (ae hz).symm⟩
theorem lI (ls:List Str):PyData.eqv (fm ls) (.list [])=decide (ls=[]):=by
 cases ls with
 | nil=>rfl
 | cons e r=>rfl
def kt (Pt:Addr):Sp:=fun vs H Q _=>∃(wq n wl t:Addr) (ss:List Str) (es:List (Nat × Nat)) (zs:List Int),vs=[.ref wq,.ref n,.ref wl,.ref t]/\Web H (.ref wq) ss (es.map (nmP ss))/\Built H n t ss es/\MG.Ris es/\H wl=some (.lst (cx zs))/\zs.length=ss.length/\(∀z∈zs,z.natAbs<=10 ^ 30)/\0<ss.length/\TbK Pt H/\∀H',SameK Pt H H'->TbK Pt H'->Q (.bl true) H'
theorem scRight:FnScope ["_law_web_here","_law_names_here","_law_weights_here","_law_ties_here","_law_due","_law_told","_law_weighs","_law_some","_law_shown"] ["_law_web_here","_law_names_here","_law_weights_here","_law_ties_here"] (ck fb):=⟨rfl,rfl,rfl,by decide +kernel,rfl,by decide +kernel,by decide +kernel⟩
theorem qT {f Pt:Addr}{fd:FuncData}(F:Fun K "_law_right" "_law_right" fb f fd) (B:Blt mg) (Zz:mg "zip"=none) (Zs:mg "sum"=none) (c_law_depths:Cal P w K mg base 1 "_law_depths" ["_law_weights_here", "_law_ties_here"] lX) (cdeepest:Cal P w K mg base 10 "deepest" ["web", "weights"] (fZ Pt)) (c_law_same:Cal P w K mg base 1 "_law_same" ["_law_found", "_law_due"] mi) (c_law_most:Cal P w K mg base 61 "_law_most" ["_law_weights_here", "_law_ties_here", "_law_one"] (gE 61)) (cshows_deepest:Cal P w K mg base 9 "shows_deepest" ["web", "weights", "told"] hI):FnOk P w K mg base CX0 62 f fd ["_law_web_here", "_law_names_here", "_law_weights_here", "_law_ties_here"] (kt Pt) := by
 refine F.ok scRight (fun vs H Q E h=>?_) (fun cdv A outer s H vs Q E hr h=>?_)
 ·obtain⟨wq,n,wl,t,ss,es,zs,rfl,_⟩:=h
  rfl
 ·obtain⟨wq,n,wl,t,ss,es,zs,rfl,W,hB,ris,hw,hzl,hbd,hpos,tb,k⟩:=h
  have nd:=scRight.nd
  have h60:=hB.len
  have val:eA ss es:=hB.val
  obtain⟨D,hD⟩:=MG.depth_ex ris (wOf zs)
  obtain⟨D1,hD1⟩:=MG.depth_ex ris (fun _=>1)
  have hL:=hD1.lay (n:=zs.length) (by rw[hzl];exact val) (fun _ _=>rfl)
  obtain⟨refs,ht,rp⟩:=hB.ti
  refine⟨_,(cg (cy (i:=4) nd rfl (Or.inl rfl) (cr c_law_depths (hr.mono (by decide)) rfl (ce (pv 2) (ce (pv 3) cf))))
   (cg (cy (i:=5) nd rfl (Or.inl rfl) (cr cdeepest (hr.mono (by decide)) rfl (ce (pv 0) (ce (mE K rfl B (ce (pv 2) cf)) cf))))
   (cg (cM (PW.pt (dW (di (df (gf K "tuple" B (ce (pv 5) (ce (ia B) cf))))) (dW (cC (eJ hr.units) (dC K B (ce (pv 5) cf)) ci (cE _)) (eE (di (df (cr c_law_same (hr.mono (by decide)) rfl (ce (cu (cA K hr.units) (pv 5) ci (fun _ _=>rfl)) (ce (jT K rfl B (ce (pv 4) cf)) cf))))))))) (cp (cz dl)) cH)
   (cg (cM (PW.pt (dW (di (df (gf K "list" B (ce (cu (cA K hr.units) (pv 5) ci (fun _ _=>rfl)) (ce (iI B) cf))))) (dW (cC (dg hr.units) (cu (cA K hr.units) (pv 5) ci (fun _ _=>rfl)) (cZ cf) (cE _)) (eE (cC (eJ hr.units) (cN (ck fb) ["_law_web_here","_law_names_here","_law_weights_here","_law_ties_here","_law_due","_law_told","_law_weighs","_law_some","_law_shown"] ["_law_one"] [1] ["_law_one","_law_names_here"] rfl (cV K (cu (cA K hr.units) (pv 5) ci (fun _ _=>rfl))) (fun _ _ _ _ _=>(cB (i:=0) (show (["_law_one","_law_names_here"]:List Str).Nodup by decide) rfl (Or.inl rfl))) (fun _ _ _ _ _=>(fh (cC (gI K hr.units) (pv 0) (pv 1) (by with_unfolding_all rfl)))) (fun _ _ _ _ _=>(pv 0))) (cZ cf) (cE _)))))) (cp (cz dl)) cH)
   (cg (cM (cC (eJ hr.units) (cN (ck fb) ["_law_web_here","_law_names_here","_law_weights_here","_law_ties_here","_law_due","_law_told","_law_weighs","_law_some","_law_shown"] ["_law_pair"] [0] ["_law_pair","_law_web_here"] rfl (pS K rfl Zz (ce (cu (cA K hr.units) (pv 5) ci (fun _ _=>rfl)) (ce (ip (nW K) (cu (cA K hr.units) (pv 5) ci (fun _ _=>rfl)) (iV ci) i6) cf))) (fun _ _ _ _ _=>(cB (i:=0) (show (["_law_pair","_law_web_here"]:List Str).Nodup by decide) rfl (Or.inl rfl))) (fun _ _ _ _ _=>(fh (cC (nr hr.units) (pv 0) (cu (cA K hr.units) (pv 1) ci (fun _ _=>rfl)) (by with_unfolding_all rfl)))) (fun _ _ _ _ _=>(pv 0))) (cZ cf) (cE _)) (cp (cz dl)) cH)
   (cg (cy (i:=6) nd rfl (Or.inl rfl) (pj K rfl Zs (ce (cN (ck fb) ["_law_web_here","_law_names_here","_law_weights_here","_law_ties_here","_law_due","_law_told","_law_weighs","_law_some","_law_shown"] ["_law_one"] [2,1] ["_law_one","_law_weights_here","_law_names_here"] rfl (cV K (cu (cA K hr.units) (pv 5) ci (fun _ _=>rfl))) (fun _ _ _ _ _=>(cB (i:=0) (show (["_law_one","_law_weights_here","_law_names_here"]:List Str).Nodup by decide) rfl (Or.inl rfl))) (fun _ _ _ _ _=>cY) (fun _ _ _ _ _=>(cu (cA K hr.units) (pv 1) (tU K (pv 2) (ce (pv 0) cf)) (fun _ _=>rfl)))) cf)))
   (cg (cM (PW.pt (dW (cC (eJ hr.units) (pv 6) (cu (cA K hr.units) (pv 5) ci (fun _ _=>rfl)) (cE _)) (eE (di (df (cr c_law_same (hr.mono (by decide)) rfl (ce (cu (cA K hr.units) (pv 5) ci (fun _ _=>rfl)) (ce (pv 4) cf)))))))) (cp (cz dl)) cH)
   (cg (cM (cC gU (dC K B (ce (pv 1) cf)) ci (cE _)) (cg (m7 (i:=7) nd rfl rfl (by rfl) (ck fb) ["_law_web_here","_law_names_here","_law_weights_here","_law_ties_here","_law_due","_law_told","_law_weighs","_law_some","_law_shown"] ["_law_k"] [2,3] ["_law_k","_law_weights_here","_law_ties_here"] rfl (dY rfl B.range (ce (dC K B (ce (pv 1) cf)) cf)) (fun _ _ _ _ _=>(cB (i:=0) (show (["_law_k","_law_weights_here","_law_ties_here"]:List Str).Nodup by decide) rfl (Or.inl rfl))) (fun _ _ _ _ _=>cY) (fun _ _ _ _ _=>(cr c_law_most (hr.mono (by decide)) rfl (ce (pv 1) (ce (pv 2) (ce (pv 0) cf))))))
   (cp (cM (cC (eJ hr.units) (jT K rfl B (ce (pv 7) cf)) (cu (cA K hr.units) (pv 5) ci (fun _ _=>rfl)) (cE _)) (cp (cz dl)) cH))) cH)
   (cg (cy (i:=8) nd rfl (Or.inl rfl) (cr cshows_deepest (hr.mono (by decide)) rfl (ce (pv 0) (ce (kd K B (ce (pv 2) cf)) (ce (pv 5) cf)))))
   (cg (dU (sr K (cu (cA K hr.units) (pv 5) ci (fun _ _=>rfl))))
   (cg (dU (fN K (cu (cA K hr.units) (pv 5) ci (fun _ _=>rfl)) (ce ci cf)))
   (cp (cz (dA iP (pv 8) dl (cE _))))))))))))))),?_⟩
  refine⟨_,rfl,_,rfl,wl,t,zs,refs,es,D,_,rfl,hw,ht,rp,by rw[hzl];exact val,by omega,hD,hL,fun ld H1 s1 hld0 hld=>?_⟩
  have w1:=s1 _ _ hw
  refine⟨_,rfl,_,rfl,_,rfl,.seq (.inl (.of w1)) fun lc hlc=>?_⟩
  have s2:=Same.new (o:=.lst (cx zs)) hlc
  have e2:upd H1 lc (.lst (cx zs)) lc=some (.lst (cx zs)):=cn
  generalize upd H1 lc (.lst (cx zs))=H2 at s2 e2 ⊢
  have s12:=s1.trans s2
  have tb2:=tb.same s12
  refine⟨.ref wq,.ref lc,ss,es,zs,D,rfl,W.same s12,val,ris,⟨hzl,lc,rfl,.inl e2⟩,hD,tb2,fun h0=>by omega,fun tt l l2 xs v H3 s3 hl0 hl20 htt hl23 hl3 best hsum hne ch hx t3=>?_⟩
  obtain⟨ty1,tyo,_,_,_,_,t5⟩:=fq (K:=K) (Thg.tup htt)
  rw[jV htt] at t5
  refine⟨_,rfl,_,ty1,_,rfl,tyo,t5,_,rfl,dP ?_⟩
  refine⟨_,rfl,_,_,rfl,SqA.len (K:=K) (.inr htt),.sc rfl ⟨_,rfl,dP ?_⟩⟩
  rw[hzl] at hld
  have ld3:=s3.at tb2 (s2 _ _ hld)
  have wz:∀u,u<ss.length->(wOf zs u).natAbs<=10 ^ 30:=fun u hu=>hbd _ (by unfold wOf;rw[aE,ap (by omega)];exact bu _)
  have hDb:∀u,u<ss.length->(D u).natAbs<10 ^ 40:=fun u hu=>by
   have hL':=hL
   rw[hzl] at hL'
   have a:=sV (M:=10 ^ 30) (by decide) hD hL' val (fun v hv=>by have:=wz v hv;omega) 60 u hu (by have:=hL'.lt val u hu;omega)
   have b:=hD.ge u
   have c:=wz u hu
   have e:(((60:Nat):Int)+1) * 10 ^ 30=61000000000000000000000000000000:=by decide
   rw[e] at a
   omega
  have hv:=best.1
  refine⟨_,rfl,.tup (.of htt) rfl ⟨_,rfl,eG ⟨ld,_,rfl,.of ld3,by rw[ab,aF];exact hpos,fun M hM hMx=>?_⟩⟩⟩
  have eM:M=D v:=by
   obtain⟨u,hu,rfl⟩:=al.mp hM
   have a:=best.2 u (aN.mp hu)
   have b:=hMx (D v) (al.mpr ⟨v,aN.mpr hv,rfl⟩)
   omega
  subst eM
  refine eG ⟨_,_,.int (D v),rfl,.int _,.int _,(pf (hDb v hv)).shw (by decide) (by decide),⟨_,rfl,dP ?_⟩⟩
  obtain⟨ty2,tyo2,_,_,_,t4,_⟩:=fq (K:=K) (Thg.lst hl3)
  rw[iO hl3] at t4
  refine⟨_,rfl,.tup (.of htt) rfl ⟨_,ty2,_,rfl,tyo2,t4,_,rfl,dP ?_⟩⟩
  have nmx:∀s∈xs.map (nmA ss),Nm s:=fun s hs=>by
   obtain⟨x,hx',rfl⟩:=al.mp hs
   exact W.nm _ (mem_getD (hx x hx'))
  refine⟨_,rfl,.tup (.of htt) rfl ⟨(by show 0<=sizeLine;decide),fun le hle=>?_⟩⟩
  have s4:=Same.new (o:=.lst []) hle
  have e4:upd H3 le (.lst []) le=some (.lst []):=cn
  generalize upd H3 le (.lst [])=H4 at s4 e4 ⊢
  refine .tr (gK (s4 _ _ hl3)) (.lst e4 .nil) (gJ nmx) (by rfl) ⟨_,rfl,?_⟩
  rw[lI]
  refine cK (fun h=>?_) (fun _=>?_)
  ·have h:xs.map (nmA ss)=[]:=ax h
   exact absurd (List.map_eq_nil_iff.mp h) hne
  have htt4:=s4 _ _ htt
  have hl4:=s4 _ _ hl3
  have s24:SameK Pt H2 H4:=s3.trans (SameK.of s4)
  have s04:SameK Pt H H4:=(SameK.of s12).trans s24
  have n4:=s04.at tb hB.nm
  refine⟨_,rfl,.tup (.of htt4) rfl ⟨l,rfl,⟨_,.of hl4⟩,?_⟩⟩
  refine dI (List.map V.str (xs.map (nmA ss))) (fun D i acc σ' H'=>∃o,σ'=[o,some (.ref n)]/\acc=[]/\Same H4 H'/\H4 D=none) fun D1 hD1'=>⟨?_,?_,?_,?_⟩
  ·exact⟨none,rfl,rfl,Same.new hD1',hD1'⟩
  ·rintro i acc σ' H' _ ⟨o,rfl,_,sm,_⟩ _
   exact .of (sm _ _ hl4)
  ·rintro i acc σ' H' x hxi ⟨o,rfl,rfl,sm,hD0⟩ hacc
   obtain⟨u,hu,rfl⟩:=iD hxi
   refine⟨_,rfl,_,rfl,.seq (.inl (.of (sm _ _ n4))) rfl (kY _) ⟨_,rfl,?_⟩⟩
   rw[uf,ai (show nmA ss u∈ss from mem_getD (hx u (av hu)))]
   exact dP ⟨hacc,_,rfl,rfl,sm,hD0⟩
  rintro acc σ' H5 ⟨o,rfl,rfl,s5,_⟩ hacc
  refine⟨(by show 0<=sizeLine;decide),fun n2 hn2=>?_⟩
  have s6:=Same.new (o:=.lst []) hn2
  refine .tr (da:=.list []) (db:=.list []) (.lst (s6 _ _ hacc) .nil) (.lst cn .nil) (by rfl) (by rfl) ⟨_,rfl,dP ?_⟩
  have s46:=s5.trans s6
  generalize upd H5 n2 (.lst [])=H6 at s46 ⊢
  clear s6 hn2 hacc s5
  have htt6:=s46 _ _ htt4
  have hl6:=s46 _ _ hl4
  refine⟨_,rfl,.tup (.of htt6) rfl ⟨_,rfl,.tup (.of htt6) rfl ⟨_,rfl,.lst (.of hl6) fun l7 hl7=>?_⟩⟩⟩
  rw[show (1:Int)=((1:Nat):Int) from rfl,oU,<- List.map_drop,<- List.map_drop]
  have s7:=Same.new (o:=.lst (List.map V.str ((xs.drop 1).map (nmA ss)))) hl7
  have e7:upd H6 l7 (.lst (List.map V.str ((xs.drop 1).map (nmA ss)))) l7=some (.lst (List.map V.str ((xs.drop 1).map (nmA ss)))):=cn
  have s47:=s46.trans s7
  generalize upd H6 l7 (.lst (List.map V.str ((xs.drop 1).map (nmA ss))))=H7 at s47 e7 ⊢
  clear s7 hl7
  have s07:SameK Pt H H7:=s04.trans (SameK.of s47)
  have hl7:=s47 _ _ hl4
  have htt7:=s47 _ _ htt4
  have W7:=fP W s07 tb
  obtain⟨wq',wa,wb,xs2,e0,hwq,hwa,hwb,rpw⟩:=eD W7.rep
  cases e0
  have nme:∀e∈es.map (nmP ss),Nm e.1/\Nm e.2:=fun e he=>⟨W.nm _ (W.inn e he).1,W.nm _ (W.inn e he).2⟩
  refine eG ⟨l,l7,_,_,rfl,.of hl7,.of e7,?_⟩
  refine lR (List.map V.str (xs.map (nmA ss))) (List.map V.str ((xs.drop 1).map (nmA ss))) (fun D i acc σ' H'=>∃o,σ'=[o,some (.ref wq)]/\acc=[]/\Same H7 H'/\H7 D=none) fun D2 hD2=>⟨?_,?_,?_,?_⟩
  ·exact⟨none,rfl,rfl,Same.new hD2,hD2⟩
  ·rintro i acc σ' H' _ ⟨o,rfl,_,sm,_⟩ _
   exact⟨.of (sm _ _ hl7),.of (sm _ _ e7)⟩
  ·rintro i acc σ' H' x y pp hxy ⟨o,rfl,rfl,sm,hD0⟩ hacc hpp
   rw[bH] at hxy
   obtain⟨u,hu,rfl⟩:=iD hxy.1
   obtain⟨v',hv',rfl⟩:=iD hxy.2
   rw[List.getElem?_drop,Nat.add_comm] at hv'
   have huv:=ch i u v' hu hv'
   have hmem:(nmA ss u,nmA ss v')∈es.map (nmP ss):=al.mpr ⟨(u,v'),huv,rfl⟩
   have sp:=Same.new (o:=.tup [V.str (nmA ss u),V.str (nmA ss v')]) hpp
   have smp:=sm.trans sp
   have cl2:=lJ (nme _ hmem)
   refine⟨_,rfl,_,rfl,.tup (.of (smp _ _ hwq)) rfl ⟨wb,xs2,_,cQ (nmA ss u,nmA ss v'),rfl,smp _ _ hwb,rpw.same smp,jk cn,iG nme,cl2,(by show 1<=16;decide),_,rfl,?_⟩⟩
   rw[show ((es.map (nmP ss)).map cQ).any (fun e=>PyData.eqv e (cQ (nmA ss u,nmA ss v')))=true from bU.mpr ⟨_,al.mpr ⟨_,hmem,rfl⟩,SeqAt.eqv_refl _ cl2⟩]
   exact dP ⟨sp _ _ hacc,_,rfl,rfl,smp,hD0⟩
  rintro acc σ' H8 ⟨o,rfl,rfl,s8,_⟩ hacc
  refine⟨(by show 0<=sizeLine;decide),fun n3 hn3=>?_⟩
  have s9:=Same.new (o:=.lst []) hn3
  refine .tr (da:=.list []) (db:=.list []) (.lst (s9 _ _ hacc) .nil) (.lst cn .nil) (by rfl) (by rfl) ⟨_,rfl,dP ?_⟩
  have s79:=s8.trans s9
  generalize upd H8 n3 (.lst [])=H9 at s79 ⊢
  clear s9 hn3 hacc s8
  have s49:=s47.trans s79
  have s09:SameK Pt H H9:=s07.trans (SameK.of s79)
  have htt9:=s49 _ _ htt4
  have hl9:=s49 _ _ hl4
  have n9:=s09.at tb hB.nm
  have w9:=s09.at tb hw
  have xl:=kW ris val ch hx
  refine⟨_,rfl,.tup (.of htt9) rfl ⟨l,rfl,⟨_,.of hl9⟩,?_⟩⟩
  refine dI (List.map V.str (xs.map (nmA ss))) (fun D i acc σ' H'=>∃o,σ'=[o,some (.ref wl),some (.ref n)]/\acc=List.map V.int ((xs.take i).map (wOf zs))/\Same H9 H'/\H9 D=none) fun D3 hD3=>⟨?_,?_,?_,?_⟩
  ·exact⟨none,rfl,rfl,Same.new hD3,hD3⟩
  ·rintro i acc σ' H' _ ⟨o,rfl,_,sm,_⟩ _
   exact .of (sm _ _ hl9)
  ·rintro i acc σ' H' x hxi ⟨o,rfl,rfl,sm,hD0⟩ hacc
   obtain⟨u,hu,rfl⟩:=iD hxi
   have hil:=(ak.mp hu).1
   have hun:=hx u (av hu)
   refine eF ?_
   refine⟨_,rfl,_,rfl,.inl ⟨rfl,_,.of (sm _ _ n9)⟩,_,rfl,eG ⟨n,List.map V.str ss,_,u,.str (nmA ss u),rfl,rfl,sm _ _ n9,rfl,kY _,by rw[ag,fD hun];rfl,?_,fun m z' hm hz'=>?_,?_⟩⟩
   ·show (nmA ss u==nmA ss u)=true
    simp
   ·obtain⟨c,hc,rfl⟩:=lU hz'
    show (c==nmA ss u)=false
    rw[beq_eq_false_iff_ne]
    rintro rfl
    have h1:=(List.getElem?_inj (ak.mp hc).1 W.nd).mp (hc.trans (fD hun).symm)
    omega
   ·refine .lst (.of (sm _ _ w9)) (eR (gq (by omega))) ⟨hacc,?_,_,rfl,?_,cX sm hD0,hD0⟩
    ·rw[ab,ab,aJ];exact cw (by omega)
    ·rw[aw,hu,aj,aj];rfl
  rintro acc σ' HA ⟨o,rfl,rfl,sA,_⟩ hacc
  rw[ab,ab,aq (ac _)] at hacc
  refine eG ⟨_,_,rfl,.of hacc,?_⟩
  rw[kj,hsum]
  have s4A:=s49.trans sA
  have s0A:SameK Pt H HA:=s09.trans (SameK.of sA)
  have httA:=s4A _ _ htt4
  refine⟨_,rfl,_,rfl,.tup (.of httA) rfl (.sc rfl ⟨_,rfl,cK (fun h=>?_) (fun _=>?_)⟩)⟩
  ·have h:(!decide (V.int (D v)=V.int (D v)))=true:=h
   rw[ai rfl] at h
   cases h
  have hl2A:=s4A _ _ (s4 _ _ hl23)
  have ldA:=s4A _ _ (s4 _ _ ld3)
  have bnd:∀x∈(List.range ss.length).map D,x.natAbs<10 ^ 40:=fun x hx'=>by
   obtain⟨u,hu,rfl⟩:=al.mp hx'
   exact hDb u (aN.mp hu)
  refine⟨_,rfl,.tup (.of httA) rfl ⟨_,rfl,eG ⟨_,_,rA ((List.range ss.length).map D),rfl,.lst hl2A (im _),.lst ldA (im _),p9 bnd (by rw[ab,aF];exact h60),⟨_,rfl,dP ?_⟩⟩⟩⟩
  have nA:=s0A.at tb hB.nm
  have wA:=s0A.at tb hw
  have tA:=s0A.at tb ht
  have rpA:=(RepAll.cor rp).same (s0A.cor tb)
  obtain⟨r,hr1,hr2⟩:=kJ ris val
  obtain⟨D',hD'⟩:=MG.depth_ex (tX hr1 hr2 val) (wOf zs)
  have hln:(List.map V.str ss).length=ss.length:=ab ..
  refine⟨_,rfl,_,_,rfl,Or.inl ⟨_,.of nA,rfl⟩,.int ⟨_,rfl,cK (fun _=>?_) (fun _=>?_)⟩⟩
  ·refine⟨_, rfl, _, _, rfl, Or.inl ⟨_, .of nA, rfl⟩, eG ⟨_, rfl, by omega, by omega, ?_⟩⟩
   refine iw (fun C i acc σ' H'=>∃o,σ'=[o,some (.ref wl),some (.ref t)]/\acc=List.map V.int ((List.range i).map D')/\Same HA H'/\HA C=none) fun C hC=>⟨?_,?_,?_⟩
   ·exact⟨none,rfl,rfl,Same.new hC,hC⟩
   ·rintro i acc σ' H' hi ⟨o,rfl,rfl,sm,hC0⟩ hacc
    have hi:i<ss.length:=by
     have:i<(List.map V.str ss).length:=by simpa using hi
     rwa [hln] at this
    refine eF ?_
    refine⟨_,rfl,_,rfl,_,rfl,eG ⟨wl,t,zs,refs,es,r,D',i,by rw[Int.zero_add];rfl,sm _ _ wA,sm _ _ tA,rpA.same sm,by rw[hzl];exact val,by omega,hr1,by rw[hzl];exact hr2,by omega,hD',fun H5' s5'=>⟨s5' _ _ hacc,?_,_,rfl,?_,cX (sm.trans s5') hC0,hC0⟩⟩⟩
    ·rw[ab,ab,aF];exact cw (by omega)
    ·rw[List.range_succ,aj,aj];rfl
   rintro acc σ' HB ⟨o,rfl,rfl,sB,_⟩ hacc
   refine⟨_,rfl,eG ⟨C,_,rfl,.of hacc,?_,fun M hM hMx=>?_⟩⟩
   ·rw[ab,aF]
    show 0<(((List.map V.str ss).length:Nat):Int).toNat
    rw[hln];omega
   have eM:M=D v:=by
    obtain⟨u,hu,rfl⟩:=al.mp hM
    have hu:u<ss.length:=by
     have:=aN.mp hu
     simpa using this
    refine(pG hr1 hr2 val hD hD' hv hu best.2 fun u' hu'=>?_).symm
    exact hMx (D' u') (al.mpr ⟨u',aN.mpr (by simpa using hu'),rfl⟩)
   subst eM
   have httB:=sB _ _ httA
   refine⟨_,rfl,.tup (.of httB) rfl (.sc rfl ⟨_,rfl,cK (fun h=>?_) (fun _=>?_)⟩)⟩
   ·have h:(!decide (V.int (D v)=V.int (D v)))=true:=h
    rw[ai rfl] at h
    cases h
   obtain⟨HZ,eZ,sZ⟩:∃HZ,HZ=HB/\Same HA HZ:=⟨HB,rfl,sB⟩
   rw[<- eZ]
   have httZ:=sZ _ _ httA
   have hlZ:=sZ _ _ (s4A _ _ hl4)
   have hl2Z:=sZ _ _ hl2A
   have wZ:=sZ _ _ wA
   have s0Z:SameK Pt H HZ:=s0A.trans (SameK.of sZ)
   have tbZ:TbK Pt HZ:=((t3.same s4).same s4A).same sZ
   refine⟨_,rfl,_,rfl,wl,_,rfl,.of wZ,fun tw htw=>?_⟩
   have sW:=Same.new (o:=.tup (cx zs)) htw
   have eW:upd HZ tw (.tup (cx zs)) tw=some (.tup (cx zs)):=cn
   generalize upd HZ tw (.tup (cx zs))=HW at sW eW ⊢
   refine⟨_,rfl,eG ⟨.ref wq,.ref tw,tt,l,l2,ss,es,zs,D,xs,v,rfl,(fP W s0Z tb).same sW,val,ris,⟨hzl,tw,rfl,.inr eW⟩,hD,sW _ _ httZ,sW _ _ hlZ,sW _ _ hl2Z,best,hsum,hne,ch,hx,fun HE sE=>?_⟩⟩
   have sZE:=sW.trans sE
   have httE:=sZE _ _ httZ
   have hlE:=sZE _ _ hlZ
   have hl2E:=sZE _ _ hl2Z
   have tbE:=tbZ.same sZE
   have s0E:SameK Pt H HE:=s0Z.trans (SameK.of sZE)
   have fl:H l=none:=cP s12 hl0
   have fl2:H l2=none:=cP s12 hl20
   have nll:l2≠l:=fun z=>by rw[z,hlE] at hl2E;cases xs with
    | nil=>exact hne rfl
    | cons a b=>cases h:(List.range ss.length).map D with
     | nil=>rw[List.map_eq_nil_iff,List.range_eq_nil] at h;omega
     | cons c d=>rw[h] at hl2E;cases hl2E
   refine⟨_,rfl,.tup (.of httE) rfl ⟨.inl ⟨rfl,_,.of hlE⟩,l,_,rfl,rfl,hlE,?_⟩⟩
   have ntl:tt≠l:=d4 httE hlE (by intro z;cases z)
   have httF:upd HE l (.lst []) tt=some (.tup [.int (D v),.ref l,.ref l2]):=by rw[cm ntl];exact httE
   have hl2F:upd HE l (.lst []) l2=some (.lst (cx ((List.range ss.length).map D))):=by rw[cm nll];exact hl2E
   have tbF:TbK Pt (upd HE l (.lst [])):=tbE.upd hlE
   have s0F:SameK Pt H (upd HE l (.lst [])):=fun b o nb hb=>by rw[cm (cq hb fl)];exact s0E b o nb hb
   generalize upd HE l (.lst [])=HF at httF hl2F tbF s0F ⊢
   refine⟨_,rfl,.tup (.of httF) rfl ⟨.inl ⟨rfl,_,.of hl2F⟩,l2,_,_,rfl,rfl,hl2F,(by unfold cx;rw[ab,ab,aF];exact cw (by omega)),?_⟩⟩
   refine⟨_,rfl,.bl ?_⟩
   exact k _ (fun b o nb hb=>by rw[cm (cq hb fl2)];exact s0F b o nb hb) (tbF.upd hl2F)
  obtain⟨HZ,eZ,sZ⟩:∃HZ,HZ=HA/\Same HA HZ:=⟨HA,rfl,Same.refl HA⟩
  rw[<- eZ]
  have httZ:=sZ _ _ httA
  have hlZ:=sZ _ _ (s4A _ _ hl4)
  have hl2Z:=sZ _ _ hl2A
  have wZ:=sZ _ _ wA
  have s0Z:SameK Pt H HZ:=s0A.trans (SameK.of sZ)
  have tbZ:TbK Pt HZ:=((t3.same s4).same s4A).same sZ
  refine⟨_,rfl,_,rfl,wl,_,rfl,.of wZ,fun tw htw=>?_⟩
  have sW:=Same.new (o:=.tup (cx zs)) htw
  have eW:upd HZ tw (.tup (cx zs)) tw=some (.tup (cx zs)):=cn
  generalize upd HZ tw (.tup (cx zs))=HW at sW eW ⊢
  refine⟨_,rfl,eG ⟨.ref wq,.ref tw,tt,l,l2,ss,es,zs,D,xs,v,rfl,(fP W s0Z tb).same sW,val,ris,⟨hzl,tw,rfl,.inr eW⟩,hD,sW _ _ httZ,sW _ _ hlZ,sW _ _ hl2Z,best,hsum,hne,ch,hx,fun HE sE=>?_⟩⟩
  have sZE:=sW.trans sE
  have httE:=sZE _ _ httZ
  have hlE:=sZE _ _ hlZ
  have hl2E:=sZE _ _ hl2Z
  have tbE:=tbZ.same sZE
  have s0E:SameK Pt H HE:=s0Z.trans (SameK.of sZE)
  have fl:H l=none:=cP s12 hl0
  have fl2:H l2=none:=cP s12 hl20
  have nll:l2≠l:=fun z=>by rw[z,hlE] at hl2E;cases xs with
   | nil=>exact hne rfl
   | cons a b=>cases h:(List.range ss.length).map D with
    | nil=>rw[List.map_eq_nil_iff,List.range_eq_nil] at h;omega
    | cons c d=>rw[h] at hl2E;cases hl2E
  refine⟨_,rfl,.tup (.of httE) rfl ⟨.inl ⟨rfl,_,.of hlE⟩,l,_,rfl,rfl,hlE,?_⟩⟩
  have ntl:tt≠l:=d4 httE hlE (by intro z;cases z)
  have httF:upd HE l (.lst []) tt=some (.tup [.int (D v),.ref l,.ref l2]):=by rw[cm ntl];exact httE
  have hl2F:upd HE l (.lst []) l2=some (.lst (cx ((List.range ss.length).map D))):=by rw[cm nll];exact hl2E
  have tbF:TbK Pt (upd HE l (.lst [])):=tbE.upd hlE
  have s0F:SameK Pt H (upd HE l (.lst [])):=fun b o nb hb=>by rw[cm (cq hb fl)];exact s0E b o nb hb
  generalize upd HE l (.lst [])=HF at httF hl2F tbF s0F ⊢
  refine⟨_,rfl,.tup (.of httF) rfl ⟨.inl ⟨rfl,_,.of hl2F⟩,l2,_,_,rfl,rfl,hl2F,(by unfold cx;rw[ab,ab,aF];exact cw (by omega)),?_⟩⟩
  refine⟨_,rfl,.bl ?_⟩
  exact k _ (fun b o nb hb=>by rw[cm (cq hb fl2)];exact s0F b o nb hb) (tbF.upd hl2F)
def lN:Sp:=fun vs H Q _=>∃(q:V) (ss:List Str) (es:List (Nat × Nat)),vs=[q]/\Web H q ss (es.map (nmP ss))/\eA ss es/\MG.Ris es/\∀l D H',MG.IsD es (wOf (List.replicate ss.length 1)) D->Same H H'->H l=none->H' l=some (.lst (cx ((List.range ss.length).map fun v=>D v-1)))->Q (.ref l) H'
theorem scLayP:FnScope ["web"] ["web"] (ck fK):=⟨rfl,rfl,rfl,by decide +kernel,rfl,by decide +kernel,by decide +kernel⟩
theorem tG {f:Addr}{fd:FuncData}(F:Fun K "layers" "layers" fK f fd) (B:Blt mg) (cdepths:Cal P w K mg base 10 "depths" ["web", "weights"] jv) (cones:Cal P w K mg base 1 "ones" ["web"] jK):FnOk P w K mg base CX0 11 f fd ["web"] lN := by
 refine F.ok scLayP (fun vs H Q E h=>?_) (fun cdv A outer s H vs Q E hr h=>?_)
 ·obtain⟨q,ss,es,rfl,_⟩:=h
  rfl
 ·obtain⟨q,ss,es,rfl,W,val,hf,k⟩:=h
  have nd:=scLayP.nd
  have h60:=W.len
  refine⟨_,(cp (cz (cN (ck fK) ["web"] ["depth"] [] ["depth"] rfl (cV K (cr cdepths (hr.mono (by decide)) rfl (ce (pv 0) (ce (cr cones (hr.mono (by decide)) rfl (ce (pv 0) cf)) cf)))) (fun _ _ _ _ _=>(cB (i:=0) (show (["depth"]:List Str).Nodup by decide) rfl (Or.inl rfl))) (fun _ _ _ _ _=>cY) (fun _ _ _ _ _=>(cG gD (pv 0) ci))))),?_⟩
  refine⟨_,rfl,_,rfl,q,ss,_,rfl,W,fun lo H1 s1 hlo0 hlo=>?_⟩
  refine⟨q,.ref lo,ss,es,_,rfl,W.same s1,val,hf,⟨bj,lo,rfl,.inl hlo⟩,fun ld Dd H2 hD s2 hld0 hld=>?_⟩
  refine⟨_,rfl,⟨_,.of hld⟩,?_⟩
  have il:(cx ((List.range ss.length).map Dd)).length=ss.length:=by unfold cx;rw[ab,ab,aF]
  refine dI (cx ((List.range ss.length).map Dd)) (fun C i acc σ' H'=>∃o,σ'=[o]/\acc=cx ((List.range i).map fun v=>Dd v-1)/\Same H2 H'/\H2 C=none) fun C hC=>⟨?_,?_,?_,?_⟩
  ·exact⟨none,rfl,rfl,Same.new hC,hC⟩
  ·rintro i acc σ' H' _ ⟨o,rfl,_,sm,_⟩ _
   exact .of (sm _ _ hld)
  ·rintro i acc σ' H' x hx ⟨o,rfl,rfl,sm,hC0⟩ hacc
   obtain⟨z,hz,rfl⟩:=i8 hx
   have hil:=(ak.mp hz).1
   rw[ab,aF] at hil
   rw[ag,bV hil] at hz
   have hz:Dd i=z:=ae hz
   subst hz
   refine eF ?_
   refine⟨_,rfl,_,_,rfl,rfl,hacc,by unfold cx;rw[ab,ab,aF];exact cw (by omega),_,rfl,?_,cX sm hC0,hC0⟩
   unfold cx
   rw[List.range_succ,aj,aj];rfl
  ·rintro acc σ' H3 ⟨o,rfl,rfl,s3,hC0⟩ hacc
   rw[il] at hacc
   have s12:=s1.trans s2
   exact k _ Dd H3 hD (s12.trans s3) (cP s12 hC0) hacc
def mD (Pt:Addr):Sp:=fun vs H Q _=>∃(q:V) (ss:List Str) (es:List (Nat × Nat)),vs=[q]/\Web H q ss (es.map (nmP ss))/\eA ss es/\MG.Ris es/\0<ss.length/\TbK Pt H/\∀l D xs v H',MG.IsD es (wOf (List.replicate ss.length 1)) D->SameK Pt H H'->TbK Pt H'->H l=none->H' l=some (.lst (List.map V.str (xs.map (nmA ss))))->nq ss.length D v->dH (wOf (List.replicate ss.length 1)) xs=D v->xs≠[]->ij es xs->(∀x∈xs,x<ss.length)->Q (.ref l) H'
theorem scLonP:FnScope ["web","found"] ["web"] (ck fV):=⟨rfl,rfl,rfl,by decide +kernel,rfl,by decide +kernel,by decide +kernel⟩
theorem tF {f Pt:Addr}{fd:FuncData}(F:Fun K "longest" "longest" fV f fd) (B:Blt mg) (cdeepest:Cal P w K mg base 10 "deepest" ["web", "weights"] (fZ Pt)) (cones:Cal P w K mg base 1 "ones" ["web"] jK):FnOk P w K mg base CX0 11 f fd ["web"] (mD Pt) := by
 refine F.ok scLonP (fun vs H Q E h=>?_) (fun cdv A outer s H vs Q E hr h=>?_)
 ·obtain⟨q,ss,es,rfl,_⟩:=h
  rfl
 ·obtain⟨q,ss,es,rfl,W,val,ris,hp,tb,k⟩:=h
  have nd:=scLonP.nd
  obtain⟨D,hD⟩:=MG.depth_ex ris (wOf (List.replicate ss.length 1))
  refine⟨_,(cg (cy (i:=1) nd rfl (Or.inl rfl) (cr cdeepest (hr.mono (by decide)) rfl (ce (pv 0) (ce (cr cones (hr.mono (by decide)) rfl (ce (pv 0) cf)) cf))))
   (cg (cM (cC iP (pv 1) ft (cE _)) (cp (cz (cZ cf))) cH)
   (cp (cz (cu (cA K hr.units) (pv 1) ci (fun _ _=>rfl)))))),?_⟩
  refine⟨_,rfl,_,rfl,q,ss,_,rfl,W,fun lo H1 s1 hlo0 hlo=>⟨q,.ref lo,ss,es,_,D,rfl,W.same s1,val,ris,⟨bj,lo,rfl,.inl hlo⟩,hD,tb.same s1,fun hn=>by omega,fun t l l2 xs v H2 s2 hl0 _ ht _ hl best hsum hne chn hin t2=>?_⟩⟩
  refine⟨_,rfl,.non ⟨_,rfl,cK (fun h=>?_) (fun _=>?_)⟩⟩
  ·have h:V.ref t=V.non:=ax h
   cases h
  ·exact⟨_,rfl,.tup (.of ht) rfl (k l D xs v H2 hD ((SameK.of s1).trans s2) t2 (cP s1 hl0) hl best hsum hne chn hin)⟩
theorem t6 (n:Nat):(List.replicate ((n:Int)).toNat [V.int 1]).flatten=cx (List.replicate n 1):=by
 rw[bz]
 unfold cx
 induction n with
 | zero=>rfl
 | succ n ih=>rw[bF,bT,ih,bF,aV];rfl
theorem qm {es:List (Nat × Nat)}{W D D':Nat -> Int}(ris:MG.Ris es) (h:MG.IsD es W D) (h':MG.IsD es W D'):∀v, D v=D' v := by
 obtain⟨r,hr⟩:=ris
 have key:∀k v, r v <= k -> D v=D' v := by
  intro k
  induction k with
  | zero =>
   intro v hv
   have a:D v=W v:=(h.eq v).elim id fun ⟨u,hu,_⟩=>absurd (show r u<r v from hr _ hu) (by omega)
   have b:D' v=W v:=(h'.eq v).elim id fun ⟨u,hu,_⟩=>absurd (show r u<r v from hr _ hu) (by omega)
   rw[a,b]
  | succ k ih =>
   intro v hv
   have g:=h.ge v
   have g':=h'.ge v
   rcases h.eq v with a | ⟨u,hu,a⟩ <;> rcases h'.eq v with b | ⟨u',hu',b⟩
   ·rw[a,b]
   ·have h1:r u'<r v:=hr _ hu'
    have e:=ih u' (by omega)
    have q:D u'+W v<=D v:=h.up _ hu'
    omega
   ·have h1:r u<r v:=hr _ hu
    have e:=ih u (by omega)
    have q:D' u+W v<=D' v:=h'.up _ hu
    omega
   ·have h1:r u'<r v:=hr _ hu'
    have e:=ih u' (by omega)
    have q:D u'+W v<=D v:=h.up _ hu'
    have h2:r u<r v:=hr _ hu
    have e2:=ih u (by omega)
    have q2:D' u+W v<=D' v:=h'.up _ hu
    omega
 exact fun v=>key _ v (ac _)
def ja:Sp:=fun vs H Q E=>hI vs H Q E∨kx vs H Q E
theorem qj {f:Addr}{fd:FuncData}{k:Nat}{ps:List Str}(F:FnOk P w K mg base CX0 k f fd ps hI) (G:FnOk P w K mg base CX0 k f fd ps kx):FnOk P w K mg base CX0 k f fd ps ja :=
 ⟨fun vs H Q E q=>q.elim (F.len vs H Q E) (G.len vs H Q E),fun A outer s H args us vs Q E hr he hb hv hs=>hs.elim (F.run A outer s H args us vs Q E hr he hb hv) (G.run A outer s H args us vs Q E hr he hb hv)⟩
def nB (Pt:Addr) (K:W.Frag):Sp:=fun vs H Q _=>∃(a:Addr) (ns:List Int),vs=[.ref a]/\SqL K H a (ns.map V.int)/\H Pt=some (.tbl #[])/\∀H',Q (.bl true) H'
theorem scLaw:FnScope ["_law_script","_law_pen","_law_names_here","_law_ties_here","_law_web_here","_law_weights_here","_law_again","_law_ones","_law_floors","_law_many","_law_by_ones"] ["_law_script"] (ck gM):=⟨rfl,rfl,rfl,by decide +kernel,rfl,by decide +kernel,by decide +kernel⟩
theorem u6 {f Pt:Addr}{fd:FuncData}(F:Fun K "law" "law" gM f fd) (B:Blt mg)
    (c_law_built:Cal P w K mg base 3 "_law_built" ["_law_pen"] (ke K)) (c_law_web:Cal P w K mg base 1 "_law_web" ["_law_names_here","_law_ties_here"] nU) (c_law_weights:Cal P w K mg base 2 "_law_weights" ["_law_pen","_law_size"] (nz K)) (cdeepest:Cal P w K mg base 10 "deepest" ["web","weights"] (fZ Pt)) (cshows_deepest:Cal P w K mg base 9 "shows_deepest" ["web","weights","told"] ja)
    (c_law_right:Cal P w K mg base 62 "_law_right" ["_law_web_here","_law_names_here","_law_weights_here","_law_ties_here"] (kt Pt)) (clayers:Cal P w K mg base 11 "layers" ["web"] lN) (clongest:Cal P w K mg base 11 "longest" ["web"] (mD Pt)) :
    FnOk P w K mg base CX0 63 f fd ["_law_script"] (nB Pt K):=by
 refine F.ok scLaw (fun vs H Q E h=>?_) (fun cdv A outer s H vs Q E hr h=>?_)
 ·obtain⟨a,ns,rfl,_⟩:=h
  rfl
 ·obtain⟨a,ns,rfl,hS,hT,k⟩:=h
  have nd:=scLaw.nd
  refine⟨_,(cg (cy (i:=1) nd rfl (Or.inl rfl) (cZ (ce (ip (nW K) (pv 0) i6 (iV ci)) (ce ci (ce ci cf)))))
   (cg (dX (cr c_law_built (hr.mono (by decide)) rfl (ce (pv 1) cf)) (gm (n:=2) K rfl (dL (cB (i:=2) nd rfl (Or.inl rfl)) (dL (cB (i:=3) nd rfl (Or.inl rfl)) gs))))
   (cg (cy (i:=4) nd rfl (Or.inl rfl) (cr c_law_web (hr.mono (by decide)) rfl (ce (pv 2) (ce (pv 3) cf))))
   (cg (cy (i:=5) nd rfl (Or.inl rfl) (cr c_law_weights (hr.mono (by decide)) rfl (ce (pv 1) (ce (dC K B (ce (pv 2) cf)) cf))))
   (cg (cM (cC (dg hr.units) (pv 2) (cZ cf) (cE _)) (cg (cM (PW.pt (dW (cC gL (cr cdeepest (hr.mono (by decide)) rfl (ce (pv 4) (ce (cZ cf) cf))) ft (cE _)) (eE (cC gL (cr cdeepest (hr.mono (by decide)) rfl (ce (pv 4) (ce (fu cf) cf))) ft (cE _))))) (cp (cz dl)) cH)
   (cp (cz (dA iP (cr cshows_deepest (hr.mono (by decide)) rfl (ce (pv 4) (ce (cZ cf) (ce ft cf)))) dl (cE _))))) cH)
   (cg (dD PassesOwn.never rfl (dY rfl B.range (ce ci cf)) (cB (i:=6) nd rfl (Or.inl rfl)) (cp (cM (di (df (cr c_law_right (hr.mono (by decide)) rfl (ce (pv 4) (ce (pv 2) (ce (pv 5) (ce (pv 3) cf))))))) (cp (cz dl)) cH)))
   (cg (cy (i:=7) nd rfl (Or.inl rfl) (cG u9 (cZ (ce ci cf)) (dC K B (ce (pv 2) cf))))
   (cg (cy (i:=8) nd rfl (Or.inl rfl) (cr clayers (hr.mono (by decide)) rfl (ce (pv 4) cf)))
   (cg (cy (i:=9) nd rfl (Or.inl rfl) (cG cO (jT K rfl B (ce (pv 8) cf)) ci))
   (cg (cy (i:=10) nd rfl (Or.inl rfl) (fu (ce (pv 9) (ce (cr clongest (hr.mono (by decide)) rfl (ce (pv 4) cf)) (ce (cN (ck gM) ["_law_script","_law_pen","_law_names_here","_law_ties_here","_law_web_here","_law_weights_here","_law_again","_law_ones","_law_floors","_law_many","_law_by_ones"] ["_law_floor"] [] ["_law_floor"] rfl (cV K (pv 8)) (fun _ _ _ _ _=>(cB (i:=0) (show (["_law_floor"]:List Str).Nodup by decide) rfl (Or.inl rfl))) (fun _ _ _ _ _=>cY) (fun _ _ _ _ _=>(cG cO (pv 0) ci))) cf)))))
   (cg (cM (cC (eJ hr.units) (cu (cA K hr.units) (cr cdeepest (hr.mono (by decide)) rfl (ce (pv 4) (ce (pv 7) cf))) ci (fun _ _=>rfl)) (pv 9) (cE _)) (cp (cz dl)) cH)
   (cg (cM (cC gL (cr cshows_deepest (hr.mono (by decide)) rfl (ce (pv 4) (ce (pv 7) (ce (pv 10) cf)))) dl (cE _)) (cp (cz dl)) cH)
   (cp (cz (dA (dg hr.units) (pv 4) (cr c_law_web (hr.mono (by decide)) rfl (ce (pv 2) (ce (pv 3) cf))) (cE _)))))))))))))))),?_⟩
  obtain⟨ns',hns⟩:∃ns',gy (ns.map V.int) none (some 63)=List.map V.int ns':=⟨_,by unfold gy;rw[<- List.map_drop,<- List.map_take]⟩
  refine⟨_,rfl,_,rfl,.lst hS fun a0 ha0=>?_⟩
  rw[hns]
  refine⟨(by show 3<=sizeLine;decide),fun p hp=>?_⟩
  have hP:Pen K (upd (upd H a0 (.lst (List.map V.int ns'))) p (.lst [.ref a0,.int 0,.int 0])) p a0:=Pen.new (ns:=ns') (.of cn) hp ⟨0,0,cn,by decide,by decide⟩
  have hT1:upd H a0 (.lst (List.map V.int ns')) Pt=some (.tbl #[]):=by rw[cm (cq hT ha0)];exact hT
  have nPp:Pt≠p:=cq hT1 hp
  have hT2:upd (upd H a0 (.lst (List.map V.int ns'))) p (.lst [.ref a0,.int 0,.int 0]) Pt=some (.tbl #[]):=by rw[cm nPp];exact hT1
  generalize upd (upd H a0 (.lst (List.map V.int ns'))) p (.lst [.ref a0,.int 0,.int 0])=H2 at hP hT2 ⊢
  refine⟨_,rfl,p,a0,rfl,hP,fun q n t ss es H3 hq hB hris hnp htp v3 b3=>⟨q,_,rfl,.of hq,rfl,_,_,rfl,_,_,rfl,rfl,?_⟩⟩
  have hT3:=b3 Pt _ nPp hT2
  refine⟨_,rfl,_,rfl,n,t,ss,es,rfl,hB,fun wq H4 s4 rw4=>?_⟩
  have W4:=vf hB rw4
  have hB4:=hB.same s4
  have hT4:=s4 _ _ hT3
  have hP4:=hP.but (b3.trans (But.of_same s4)) (t9 s4 v3)
  have h60:=hB.len
  have val:eA ss es:=hB.val
  have hln:(List.map V.str ss).length=ss.length:=ab ..
  clear hB rw4 hq b3 v3 hT hT1 hT2 hT3 hS hP s4
  refine⟨_,rfl,_,rfl,_,_,rfl,Or.inl ⟨_,.of hB4.nm,rfl⟩,?_⟩
  rw[hln]
  refine eG ⟨p,a0,ss.length,rfl,hP4,h60,fun wl zs H5 hw hzl hbd nwp v5 b5=>?_⟩
  obtain⟨ysC,hpC⟩:=rG hP4.2
  have W5:=sX hpC b5 W4
  have hB5:=hB4.but hpC b5 hnp htp
  have hT5:=b5 _ _ nPp hT4
  have tb5:TbK Pt H5:=⟨#[],trivial,hT5,.inl rfl⟩
  clear W4 hB4 hT4 hP4 hpC b5
  refine⟨_,rfl,(by show 0<=sizeLine;decide),fun le hle=>?_⟩
  have s6:=Same.new (o:=.lst []) hle
  have e6:upd H5 le (.lst []) le=some (.lst []):=cn
  generalize upd H5 le (.lst [])=H6 at s6 e6 ⊢
  have W6:=W5.same s6
  have hB6:=hB5.same s6
  have tb6:=tb5.same s6
  have hw6:=s6 _ _ hw
  refine .tr (gK hB6.nm) (.lst e6 .nil) (gJ hB6.ok) (by rfl) ⟨_,rfl,?_⟩
  rw[lI]
  refine cK (fun h=>?_) (fun h=>?_)
  ·have h:ss=[]:=ax h
   subst h
   have wz:∀(H':Hp) (b:Addr),(H' b=some (.lst [])∨H' b=some (.tup []))->IsW H' (.ref b) ([]:List Str).length []:=fun H' b hb=>⟨rfl,b,rfl,hb⟩
   obtain⟨D,hD⟩:=MG.depth_ex hris (wOf [])
   refine⟨_,rfl,(by show 0<=sizeLine;decide),fun l7 hl7=>?_⟩
   have s7:=Same.new (o:=.lst []) hl7
   have e7:upd H6 l7 (.lst []) l7=some (.lst []):=cn
   generalize upd H6 l7 (.lst [])=H7 at s7 e7 ⊢
   refine eG ⟨.ref wq,.ref l7,[],es,[],D,rfl,W6.same s7,val,hris,wz _ _ (.inl e7),hD,tb6.same s7,fun _ H8 s8 t8=>.non ⟨_,rfl,dP ?_⟩,fun _ _ _ _ v _ _ _ _ _ _ _ best=>absurd best.1 (Nat.not_lt_zero _)⟩
   have s68:SameK Pt H6 H8:=(SameK.of s7).trans s8
   refine⟨_,rfl,(by show 0<=sizeLine;decide),fun l9 hl9=>?_⟩
   have s9:=Same.new (o:=.tup []) hl9
   have e9:upd H8 l9 (.tup []) l9=some (.tup []):=cn
   generalize upd H8 l9 (.tup [])=H9 at s9 e9 ⊢
   have W8:=fP W6 s68 tb6
   refine eG ⟨.ref wq,.ref l9,[],es,[],D,rfl,W8.same s9,val,hris,wz _ _ (.inr e9),hD,t8.same s9,fun _ HA sA tA=>.non ⟨_,rfl,dP ?_⟩,fun _ _ _ _ v _ _ _ _ _ _ _ best=>absurd best.1 (Nat.not_lt_zero _)⟩
   have s6A:SameK Pt H6 HA:=(s68.trans (SameK.of s9)).trans sA
   refine⟨_,rfl,(by show 0<=sizeLine;decide),fun lB hlB=>?_⟩
   have sB:=Same.new (o:=.lst []) hlB
   have eB:upd HA lB (.lst []) lB=some (.lst []):=cn
   generalize upd HA lB (.lst [])=HB at sB eB ⊢
   show ja [.ref wq,.ref lB,.non] HB _ _
   refine Or.inr ⟨.ref wq,.ref lB,es,[],rfl,(fP W6 s6A tb6).same sB,val,hris,wz _ _ (.inl eB),fun HC sC=>.bl (k _)⟩
  ·have h:ss ≠ [] := fun z => h (ai z)
   have hpos:0<ss.length:=bY.mpr h
   have builtK:∀H',SameK Pt H6 H'->Built H' n t ss es:=fun H' sK=>by
    obtain⟨refs,ht,rp⟩:=hB6.ti
    exact⟨sK.at tb6 hB6.nm,hB6.nd,hB6.ok,hB6.len,⟨refs,sK.at tb6 ht,(RepAll.cor rp).same (sK.cor tb6)⟩,hB6.val,hB6.few⟩
   refine⟨_,rfl,by decide,by decide,?_⟩
   refine fi (fun i σ H'=>∃o6,σ=[some (.ref a),some (.ref p),some (.ref n),some (.ref t),some (.ref wq),some (.ref wl),o6,none,none,none,none]/\SameK Pt H6 H'/\TbK Pt H') ⟨none,rfl,SameK.of (Same.refl _),tb6⟩ ?_ ?_
   ·rintro i σ HI hi ⟨o6,rfl,sI,tI⟩
    refine⟨_,rfl,_,rfl,_,rfl,_,rfl,eG ⟨wq,n,wl,t,ss,es,zs,rfl,fP W6 sI tb6,builtK HI sI,hris,sI.at tb6 hw6,hzl,hbd,hpos,tI,fun HJ sJ tJ=>⟨_,rfl,dP ?_⟩⟩⟩
    exact⟨_,rfl,sI.trans sJ,tJ⟩
   ·rintro σ HI ⟨o6,rfl,sI,tI⟩
    have nI:=sI.at tb6 hB6.nm
    have WI:=fP W6 sI tb6
    have hBI:=builtK HI sI
    clear hw hw6 builtK W5 hB5 tb5 sI e6 s6 hle hT5 nwp v5 W6 hB6
    refine⟨(by show 1<=sizeLine;decide),fun la hla=>?_⟩
    have sa:=Same.new (o:=.lst [.int 1]) hla
    have ea:upd HI la (.lst [.int 1]) la=some (.lst [.int 1]):=cn
    generalize upd HI la (.lst [.int 1])=HJ at sa ea ⊢
    refine⟨_,rfl,_,_,rfl,Or.inl ⟨_,.of (sa _ _ nI),rfl⟩,la,_,_,rfl,rfl,ea,by rw[hln];omega,by rw[hln];omega,?_,fun lo hlo=>?_⟩
    ·rw[hln]
     show 1 * ((ss.length:Nat):Int).toNat<=sizeLine
     rw[bz,Nat.one_mul]
     exact aO h60 (by decide)
    rw[hln,t6]
    have sb:=Same.new (o:=.lst (cx (List.replicate ss.length 1))) hlo
    have eb:upd HJ lo (.lst (cx (List.replicate ss.length 1))) lo=some (.lst (cx (List.replicate ss.length 1))):=cn
    generalize upd HJ lo (.lst (cx (List.replicate ss.length 1)))=HK at sb eb ⊢
    have sIK:=sa.trans sb
    have tK:=tI.same sIK
    refine⟨_,rfl,.ref wq,ss,es,rfl,WI.same sIK,val,hris,fun lf D HL hD sL hlf0 hlf=>?_⟩
    have tL:=tK.same sL
    have sIL:=sIK.trans sL
    refine⟨_,rfl,eG ⟨lf,_,rfl,.of hlf,by rw[ab,aF];exact hpos,fun M hM hMx=>.int ?_⟩⟩
    obtain⟨u,hu,rfl⟩:=al.mp hM
    have hu:u<ss.length:=aN.mp hu
    have bestU:∀v,v<ss.length->D v<=D u:=fun v hv=>by
     have:=hMx (D v-1) (al.mpr ⟨v,aN.mpr hv,rfl⟩)
     omega
    rw[show D u-1+1=D u by omega]
    clear hM hMx
    refine⟨_,rfl,_,rfl,.ref wq,ss,es,rfl,WI.same sIL,val,hris,hpos,tL,fun ll D2 xs v HM hD2 sM tM hll0 hll best hsum hne ch hx=>?_⟩
    have eq2:=qm hris hD2 hD
    have hsu:dH (wOf (List.replicate ss.length 1)) xs=D u:=by
     have h1:=best.2 u hu
     have h2:=bestU v best.1
     rw[eq2,eq2] at h1
     rw[hsum,eq2]
     omega
    have hlfM:=sM.at tL hlf
    have il:(cx ((List.range ss.length).map fun v=>D v-1)).length=ss.length:=by unfold cx;rw[ab,ab,aF]
    refine⟨_,rfl,lf,rfl,⟨_,.of hlfM⟩,?_⟩
    refine dI (cx ((List.range ss.length).map fun v=>D v-1)) (fun C i acc σ' H'=>∃o,σ'=[o]/\acc=cx ((List.range i).map D)/\Same HM H'/\HM C=none) fun C hC=>⟨?_,?_,?_,?_⟩
    ·exact⟨none,rfl,rfl,Same.new hC,hC⟩
    ·rintro i acc σ' H' _ ⟨o,rfl,_,sm,_⟩ _
     exact .of (sm _ _ hlfM)
    ·rintro i acc σ' H' x hx' ⟨o,rfl,rfl,sm,hC0⟩ hacc
     obtain⟨z,hz,rfl⟩:=i8 hx'
     have hil:=(ak.mp hz).1
     rw[ab,aF] at hil
     rw[ag,bV hil] at hz
     have hz:D i-1=z:=ae hz
     subst hz
     refine eF ?_
     refine⟨_,rfl,.int ⟨hacc,by unfold cx;rw[ab,ab,aF];exact cw (by omega),_,rfl,?_,cX sm hC0,hC0⟩⟩
     unfold cx
     rw[List.range_succ,aj,aj,show D i-1+1=D i by omega];rfl
    rintro acc σ' HN ⟨o,rfl,rfl,sN,hC0⟩ hacc
    rw[il] at hacc
    refine⟨(by show 3<=sizeLine;decide),fun tq htq=>?_⟩
    have sQ:=Same.new (o:=.tup [V.int (D u),V.ref ll,V.ref C]) htq
    have eQ:upd HN tq (.tup [V.int (D u),V.ref ll,V.ref C]) tq=some (.tup [V.int (D u),V.ref ll,V.ref C]):=cn
    generalize upd HN tq (.tup [V.int (D u),V.ref ll,V.ref C])=HQ at sQ eQ ⊢
    have sMQ:=sN.trans sQ
    have tQ:=tM.same sMQ
    have sLQ:SameK Pt HL HQ:=sM.trans (SameK.of sMQ)
    have loQ:=sLQ.at tL (sL _ _ eb)
    have llQ:=sMQ _ _ hll
    have lcQ:=sQ _ _ hacc
    have WQ:=fP (WI.same sIL) sLQ tL
    refine⟨_,rfl,_,rfl,eG ⟨.ref wq,.ref lo,ss,es,_,D,rfl,WQ,val,hris,⟨bj,lo,rfl,.inl loQ⟩,hD,tQ,fun h0=>by omega,fun t2 l2 l3 xs2 v2 HR sR _ _ ht2 _ _ best2 _ _ _ _ tR=>.tup (.of ht2) rfl ⟨_,rfl,.sc rfl ⟨_,rfl,cK (fun h=>?_) (fun _=>?_)⟩⟩⟩⟩
    ·exfalso
     have h:(!decide (V.int (D v2)=V.int (D u)))=true:=h
     have h1:=best2.2 u hu
     have h2:=bestU v2 best2.1
     rw[show D v2=D u by omega,ai rfl] at h
     cases h
    refine⟨_,rfl,_,rfl,_,rfl,eG (Or.inl ⟨.ref wq,.ref lo,tq,ll,C,ss,es,_,D,xs,u,rfl,fP WQ sR tQ,val,hris,⟨bj,lo,rfl,.inl (sR.at tQ loQ)⟩,hD,sR.at tQ eQ,sR.at tQ llQ,sR.at tQ lcQ,⟨hu,bestU⟩,hsu,hne,ch,hx,fun HS sS=>?_⟩)⟩
    refine .bl ⟨_,rfl,dP ?_⟩
    have sIS:SameK Pt HI HS:=((SameK.of sIL).trans sLQ).trans (sR.trans (SameK.of sS))
    obtain⟨refs,ht,rp⟩:=hBI.ti
    have WS:=fP WI sIS tI
    refine⟨_,rfl,_,rfl,_,rfl,n,t,ss,es,rfl,⟨sIS.at tI hBI.nm,hBI.nd,hBI.ok,hBI.len,⟨refs,sIS.at tI ht,(RepAll.cor rp).same (sIS.cor tI)⟩,hBI.val,hBI.few⟩,fun wq2 H9 s9 r9=>?_⟩
    refine .tr (WS.rep.same s9) r9 (kb WS) (kb WS) ?_
    have e:PyData.eqv (gP ss (es.map (nmP ss))) (gP ss (es.map (nmP ss)))=true:=nj (kb WS)
    show Q (.bl (PyData.eqv (gP ss (es.map (nmP ss))) (gP ss (es.map (nmP ss))))) _
    rw[e]
    exact k _
theorem ar1 {us:List Value}(h:us.length=1):∃a,us=[a]:=List.length_eq_one_iff.mp h
theorem ar2 {us:List Value}(h:us.length=2):∃a1 a2,us=[a1,a2]:=by
 obtain⟨a1,t,rfl⟩:=cb h
 obtain⟨a2,rfl⟩:=ar1 (Nat.succ.inj h)
 exact⟨a1,a2,rfl⟩
theorem ar3 {us:List Value}(h:us.length=3):∃a1 a2 a3,us=[a1,a2,a3]:=by
 obtain⟨a1,t,rfl⟩:=cb h
 obtain⟨a2,a3,rfl⟩:=ar2 (Nat.succ.inj h)
 exact⟨a1,a2,a3,rfl⟩
theorem ar4 {us:List Value}(h:us.length=4):∃a1 a2 a3 a4,us=[a1,a2,a3,a4]:=by
 obtain⟨a1,t,rfl⟩:=cb h
 obtain⟨a2,a3,a4,rfl⟩:=ar3 (Nat.succ.inj h)
 exact⟨a1,a2,a3,a4,rfl⟩
theorem rE {K:W.Frag}{h:Heap}{c Pt:Addr}{o2:Obj}{ws:Array Value}{file:Str}{tf tg tt:Tok}{flags text:Int}{inF:Bool}(lZ:K.lookup c=some o2) (qZ1:o2.cls=.type "code") (qZ2:o2.data=.fields ws) (qZ3:ws[11]? = some (.ref Pt)) (qZ4:ws.getD 11 .none=.ref Pt) (qZ5:ws.getD 18 .none=.str file tf) (qZ6:ws.getD 7 .none=.int flags tg) (qZ7:ws.getD 9 .none=.bool inF) (qZ8:ws.getD 10 .none=.int text tt) (qZ9:c≠Pt) (X:K.In h):W.CodeHd h c Pt:=⟨o2,ws,file,tf,flags,tg,inF,text,tt,X _ _ lZ,qZ1,qZ2,qZ3,qZ4,qZ5,qZ6,qZ7,qZ8,qZ9⟩
theorem hd_ex {K:W.Frag}{h:Heap}{fa:Addr}{x:FuncData}{oc:Value}{od:Option Addr}{sl:Array (Option Value)}{c Pt:Addr}{o2:Obj}{ws:Array Value}{file:Str}{tf tg tt:Tok}{flags text:Int}{inF:Bool}(X:K.In h) (a1:W.nsIn K mainGlobals "deepest_among"=some (some (.ref fa))) (l1:K.lookup fa=some ⟨oc,od,.func x,sl⟩) (eZ:x.code=.ref c) (lZ:K.lookup c=some o2) (qZ1:o2.cls=.type "code") (qZ2:o2.data=.fields ws) (qZ3:ws[11]? = some (.ref Pt)) (qZ4:ws.getD 11 .none=.ref Pt) (qZ5:ws.getD 18 .none=.str file tf) (qZ6:ws.getD 7 .none=.int flags tg) (qZ7:ws.getD 9 .none=.bool inF) (qZ8:ws.getD 10 .none=.int text tt) (qZ9:c≠Pt):∃c,W.CodeHd h c Pt:=⟨c,rE lZ qZ1 qZ2 qZ3 qZ4 qZ5 qZ6 qZ7 qZ8 qZ9 X⟩
theorem all_mk {l:W.OpenLaw}{w:World}{K:W.Frag}{h:Heap}{mg:Str->Option Value}{fa f1 f2 f3 f4 f5 f6 f7 f8 f9 f10 f11 f12 f13 f14 f15 f16 f17 f18 f19 f20 f21 f22 f23 f24 f25 f26 f27 f28 f29 f30 f31 f32 f33 f34 f35 f36 f37 f38 f39 f40 f41:Addr}(X:K.In h) (G:h.Ns mainGlobals mg) (hfa:mg "law"=some (.ref fa))
    {od1 an1 od2 an2 od3 an3 od4 an4 od5 an5 od6 an6 od7 an7 od8 an8 od9 an9 od10 an10 od11 an11 od12 an12 od13 an13 od14 an14 od15 an15 od16 an16 od17 an17 od18 an18 od19 an19 od20 an20 od21 an21 od22 an22 od23 an23 od24 an24 od25 an25 od26 an26 od27 an27 od28 an28 od29 an29 od30 an30 od31 an31 od32 an32 od33 an33 od34 an34 od35 an35 od36 an36 od37 an37 od38 an38 od39 an39 od40 an40 od41 an41:Option Addr} {sl1 sl2 sl3 sl4 sl5 sl6 sl7 sl8 sl9 sl10 sl11 sl12 sl13 sl14 sl15 sl16 sl17 sl18 sl19 sl20 sl21 sl22 sl23 sl24 sl25 sl26 sl27 sl28 sl29 sl30 sl31 sl32 sl33 sl34 sl35 sl36 sl37 sl38 sl39 sl40 sl41:Array (Option Value)} {oc1 kV1 dc1 pm1 cd1 ct1 oc2 kV2 dc2 pm2 cd2 ct2 oc3 kV3 dc3 pm3 cd3 ct3 oc4 kV4 dc4 pm4 cd4 ct4 oc5 kV5 dc5 pm5 cd5 ct5 oc6 kV6 dc6 pm6 cd6 ct6 oc7 kV7 dc7 pm7 cd7 ct7 oc8 kV8 dc8 pm8 cd8 ct8 oc9 kV9 dc9 pm9 cd9 ct9 oc10 kV10 dc10 pm10 cd10 ct10 oc11 kV11 dc11 pm11 cd11 ct11 oc12 kV12 dc12 pm12 cd12 ct12 oc13 kV13 dc13 pm13 cd13 ct13 oc14 kV14 dc14 pm14 cd14 ct14 oc15 kV15 dc15 pm15 cd15 ct15 oc16 kV16 dc16 pm16 cd16 ct16 oc17 kV17 dc17 pm17 cd17 ct17 oc18 kV18 dc18 pm18 cd18 ct18 oc19 kV19 dc19 pm19 cd19 ct19 oc20 kV20 dc20 pm20 cd20 ct20 oc21 kV21 dc21 pm21 cd21 ct21 oc22 kV22 dc22 pm22 cd22 ct22 oc23 kV23 dc23 pm23 cd23 ct23 oc24 kV24 dc24 pm24 cd24 ct24 oc25 kV25 dc25 pm25 cd25 ct25 oc26 kV26 dc26 pm26 cd26 ct26 oc27 kV27 dc27 pm27 cd27 ct27 oc28 kV28 dc28 pm28 cd28 ct28 oc29 kV29 dc29 pm29 cd29 ct29 oc30 kV30 dc30 pm30 cd30 ct30 oc31 kV31 dc31 pm31 cd31 ct31 oc32 kV32 dc32 pm32 cd32 ct32 oc33 kV33 dc33 pm33 cd33 ct33 oc34 kV34 dc34 pm34 cd34 ct34 oc35 kV35 dc35 pm35 cd35 ct35 oc36 kV36 dc36 pm36 cd36 ct36 oc37 kV37 dc37 pm37 cd37 ct37 oc38 kV38 dc38 pm38 cd38 ct38 oc39 kV39 dc39 pm39 cd39 ct39 oc40 kV40 dc40 pm40 cd40 ct40 oc41 kV41 dc41 pm41 cd41 ct41:Value}
    (a1:W.nsIn K mainGlobals "is_name"=some (some (.ref f1))) (l1:K.lookup f1=some ⟨oc1,od1,.func (W.fnOf "is_name" "is_name" (cF fU) (cD fU) (ck fU) .none kV1 dc1 pm1 an1 cd1 ct1),sl1⟩) (c1:W.codeIn K cd1 "is_name"=true) (k1:W.keepIn K (.ref f1)=true)
    (a2:W.nsIn K mainGlobals "is_whole"=some (some (.ref f2))) (l2:K.lookup f2=some ⟨oc2,od2,.func (W.fnOf "is_whole" "is_whole" (cF fT) (cD fT) (ck fT) .none kV2 dc2 pm2 an2 cd2 ct2),sl2⟩) (c2:W.codeIn K cd2 "is_whole"=true) (k2:W.keepIn K (.ref f2)=true)
    (a3:W.nsIn K mainGlobals "nexts"=some (some (.ref f3))) (l3:K.lookup f3=some ⟨oc3,od3,.func (W.fnOf "nexts" "nexts" (cF gb) (cD gb) (ck gb) .none kV3 dc3 pm3 an3 cd3 ct3),sl3⟩) (c3:W.codeIn K cd3 "nexts"=true) (k3:W.keepIn K (.ref f3)=true)
    (a4:W.nsIn K mainGlobals "priors"=some (some (.ref f4))) (l4:K.lookup f4=some ⟨oc4,od4,.func (W.fnOf "priors" "priors" (cF fj) (cD fj) (ck fj) .none kV4 dc4 pm4 an4 cd4 ct4),sl4⟩) (c4:W.codeIn K cd4 "priors"=true) (k4:W.keepIn K (.ref f4)=true)
    (a5:W.nsIn K mainGlobals "places_of"=some (some (.ref f5))) (l5:K.lookup f5=some ⟨oc5,od5,.func (W.fnOf "places_of" "places_of" (cF gn) (cD gn) (ck gn) .none kV5 dc5 pm5 an5 cd5 ct5),sl5⟩) (c5:W.codeIn K cd5 "places_of"=true) (k5:W.keepIn K (.ref f5)=true)
    (a6:W.nsIn K mainGlobals "lists_things"=some (some (.ref f6))) (l6:K.lookup f6=some ⟨oc6,od6,.func (W.fnOf "lists_things" "lists_things" (cF gB) (cD gB) (ck gB) .none kV6 dc6 pm6 an6 cd6 ct6),sl6⟩) (c6:W.codeIn K cd6 "lists_things"=true) (k6:W.keepIn K (.ref f6)=true)
    (a7:W.nsIn K mainGlobals "nexts_of_all"=some (some (.ref f7))) (l7:K.lookup f7=some ⟨oc7,od7,.func (W.fnOf "nexts_of_all" "nexts_of_all" (cF ff) (cD ff) (ck ff) .none kV7 dc7 pm7 an7 cd7 ct7),sl7⟩) (c7:W.codeIn K cd7 "nexts_of_all"=true) (k7:W.keepIn K (.ref f7)=true)
    (a8:W.nsIn K mainGlobals "priors_of_all"=some (some (.ref f8))) (l8:K.lookup f8=some ⟨oc8,od8,.func (W.fnOf "priors_of_all" "priors_of_all" (cF eY) (cD eY) (ck eY) .none kV8 dc8 pm8 an8 cd8 ct8),sl8⟩) (c8:W.codeIn K cd8 "priors_of_all"=true) (k8:W.keepIn K (.ref f8)=true)
    (a9:W.nsIn K mainGlobals "steps_from"=some (some (.ref f9))) (l9:K.lookup f9=some ⟨oc9,od9,.func (W.fnOf "steps_from" "steps_from" (cF hX) (cD hX) (ck hX) .none kV9 dc9 pm9 an9 cd9 ct9),sl9⟩) (c9:W.codeIn K cd9 "steps_from"=true) (k9:W.keepIn K (.ref f9)=true)
    (a10:W.nsIn K mainGlobals "is_way"=some (some (.ref f10))) (l10:K.lookup f10=some ⟨oc10,od10,.func (W.fnOf "is_way" "is_way" (cF gx) (cD gx) (ck gx) .none kV10 dc10 pm10 an10 cd10 ct10),sl10⟩) (c10:W.codeIn K cd10 "is_way"=true) (k10:W.keepIn K (.ref f10)=true)
    (a11:W.nsIn K mainGlobals "ring_by"=some (some (.ref f11))) (l11:K.lookup f11=some ⟨oc11,od11,.func (W.fnOf "ring_by" "ring_by" (cF i3) (cD i3) (ck i3) .none kV11 dc11 pm11 an11 cd11 ct11),sl11⟩) (c11:W.codeIn K cd11 "ring_by"=true) (k11:W.keepIn K (.ref f11)=true)
    (a12:W.nsIn K mainGlobals "ring_of"=some (some (.ref f12))) (l12:K.lookup f12=some ⟨oc12,od12,.func (W.fnOf "ring_of" "ring_of" (cF gp) (cD gp) (ck gp) .none kV12 dc12 pm12 an12 cd12 ct12),sl12⟩) (c12:W.codeIn K cd12 "ring_of"=true) (k12:W.keepIn K (.ref f12)=true)
    (a13:W.nsIn K mainGlobals "refuse_ring"=some (some (.ref f13))) (l13:K.lookup f13=some ⟨oc13,od13,.func (W.fnOf "refuse_ring" "refuse_ring" (cF gt) (cD gt) (ck gt) .none kV13 dc13 pm13 an13 cd13 ct13),sl13⟩) (c13:W.codeIn K cd13 "refuse_ring"=true) (k13:W.keepIn K (.ref f13)=true)
    (a14:W.nsIn K mainGlobals "order_anew"=some (some (.ref f14))) (l14:K.lookup f14=some ⟨oc14,od14,.func (W.fnOf "order_anew" "order_anew" (cF iu) (cD iu) (ck iu) .none kV14 dc14 pm14 an14 cd14 ct14),sl14⟩) (c14:W.codeIn K cd14 "order_anew"=true) (k14:W.keepIn K (.ref f14)=true)
    (a15:W.nsIn K mainGlobals "is_due"=some (some (.ref f15))) (l15:K.lookup f15=some ⟨oc15,od15,.func (W.fnOf "is_due" "is_due" (cF gC) (cD gC) (ck gC) .none kV15 dc15 pm15 an15 cd15 ct15),sl15⟩) (c15:W.codeIn K cd15 "is_due"=true) (k15:W.keepIn K (.ref f15)=true)
    (a16:W.nsIn K mainGlobals "depths"=some (some (.ref f16))) (l16:K.lookup f16=some ⟨oc16,od16,.func (W.fnOf "depths" "depths" (cF gk) (cD gk) (ck gk) .none kV16 dc16 pm16 an16 cd16 ct16),sl16⟩) (c16:W.codeIn K cd16 "depths"=true) (k16:W.keepIn K (.ref f16)=true)
    (a17:W.nsIn K mainGlobals "deepest"=some (some (.ref f17))) (l17:K.lookup f17=some ⟨oc17,od17,.func (W.fnOf "deepest" "deepest" (cF fE) (cD fE) (ck fE) .none kV17 dc17 pm17 an17 cd17 ct17),sl17⟩) (c17:W.codeIn K cd17 "deepest"=true) (k17:W.keepIn K (.ref f17)=true)
    (a18:W.nsIn K mainGlobals "shows_deepest"=some (some (.ref f18))) (l18:K.lookup f18=some ⟨oc18,od18,.func (W.fnOf "shows_deepest" "shows_deepest" (cF fF) (cD fF) (ck fF) .none kV18 dc18 pm18 an18 cd18 ct18),sl18⟩) (c18:W.codeIn K cd18 "shows_deepest"=true) (k18:W.keepIn K (.ref f18)=true)
    (a19:W.nsIn K mainGlobals "weights_by_thing"=some (some (.ref f19))) (l19:K.lookup f19=some ⟨oc19,od19,.func (W.fnOf "weights_by_thing" "weights_by_thing" (cF gA) (cD gA) (ck gA) .none kV19 dc19 pm19 an19 cd19 ct19),sl19⟩) (c19:W.codeIn K cd19 "weights_by_thing"=true) (k19:W.keepIn K (.ref f19)=true)
    (a20:W.nsIn K mainGlobals "are_wholes"=some (some (.ref f20))) (l20:K.lookup f20=some ⟨oc20,od20,.func (W.fnOf "are_wholes" "are_wholes" (cF eV) (cD eV) (ck eV) .none kV20 dc20 pm20 an20 cd20 ct20),sl20⟩) (c20:W.codeIn K cd20 "are_wholes"=true) (k20:W.keepIn K (.ref f20)=true)
    (a21:W.nsIn K mainGlobals "by_places"=some (some (.ref f21))) (l21:K.lookup f21=some ⟨oc21,od21,.func (W.fnOf "by_places" "by_places" (cF iq) (cD iq) (ck iq) .none kV21 dc21 pm21 an21 cd21 ct21),sl21⟩) (c21:W.codeIn K cd21 "by_places"=true) (k21:W.keepIn K (.ref f21)=true)
    (a22:W.nsIn K mainGlobals "depths_by_thing"=some (some (.ref f22))) (l22:K.lookup f22=some ⟨oc22,od22,.func (W.fnOf "depths_by_thing" "depths_by_thing" (cF gw) (cD gw) (ck gw) .none kV22 dc22 pm22 an22 cd22 ct22),sl22⟩) (c22:W.codeIn K cd22 "depths_by_thing"=true) (k22:W.keepIn K (.ref f22)=true)
    (a23:W.nsIn K mainGlobals "deepest_among"=some (some (.ref f23))) (l23:K.lookup f23=some ⟨oc23,od23,.func (W.fnOf "deepest_among" "deepest_among" (cF fz) (cD fz) (ck fz) .none kV23 dc23 pm23 an23 cd23 ct23),sl23⟩) (c23:W.codeIn K cd23 "deepest_among"=true) (k23:W.keepIn K (.ref f23)=true)
    (a24:W.nsIn K mainGlobals "way_back"=some (some (.ref f24))) (l24:K.lookup f24=some ⟨oc24,od24,.func (W.fnOf "way_back" "way_back" (cF iU) (cD iU) (ck iU) .none kV24 dc24 pm24 an24 cd24 ct24),sl24⟩) (c24:W.codeIn K cd24 "way_back"=true) (k24:W.keepIn K (.ref f24)=true)
    (a25:W.nsIn K mainGlobals "worth_taking"=some (some (.ref f25))) (l25:K.lookup f25=some ⟨oc25,od25,.func (W.fnOf "worth_taking" "worth_taking" (cF gF) (cD gF) (ck gF) .none kV25 dc25 pm25 an25 cd25 ct25),sl25⟩) (c25:W.codeIn K cd25 "worth_taking"=true) (k25:W.keepIn K (.ref f25)=true)
    (a26:W.nsIn K mainGlobals "way_weighs"=some (some (.ref f26))) (l26:K.lookup f26=some ⟨oc26,od26,.func (W.fnOf "way_weighs" "way_weighs" (cF iF) (cD iF) (ck iF) .none kV26 dc26 pm26 an26 cd26 ct26),sl26⟩) (c26:W.codeIn K cd26 "way_weighs"=true) (k26:W.keepIn K (.ref f26)=true)
    (a27:W.nsIn K mainGlobals "are_bounds"=some (some (.ref f27))) (l27:K.lookup f27=some ⟨oc27,od27,.func (W.fnOf "are_bounds" "are_bounds" (cF fk) (cD fk) (ck fk) .none kV27 dc27 pm27 an27 cd27 ct27),sl27⟩) (c27:W.codeIn K cd27 "are_bounds"=true) (k27:W.keepIn K (.ref f27)=true)
    (a28:W.nsIn K mainGlobals "layers"=some (some (.ref f28))) (l28:K.lookup f28=some ⟨oc28,od28,.func (W.fnOf "layers" "layers" (cF fK) (cD fK) (ck fK) .none kV28 dc28 pm28 an28 cd28 ct28),sl28⟩) (c28:W.codeIn K cd28 "layers"=true) (k28:W.keepIn K (.ref f28)=true)
    (a29:W.nsIn K mainGlobals "longest"=some (some (.ref f29))) (l29:K.lookup f29=some ⟨oc29,od29,.func (W.fnOf "longest" "longest" (cF fV) (cD fV) (ck fV) .none kV29 dc29 pm29 an29 cd29 ct29),sl29⟩) (c29:W.codeIn K cd29 "longest"=true) (k29:W.keepIn K (.ref f29)=true)
    (a30:W.nsIn K mainGlobals "ones"=some (some (.ref f30))) (l30:K.lookup f30=some ⟨oc30,od30,.func (W.fnOf "ones" "ones" (cF iC) (cD iC) (ck iC) .none kV30 dc30 pm30 an30 cd30 ct30),sl30⟩) (c30:W.codeIn K cd30 "ones"=true) (k30:W.keepIn K (.ref f30)=true)
    (a31:W.nsIn K mainGlobals "_law_take"=some (some (.ref f31))) (l31:K.lookup f31=some ⟨oc31,od31,.func (W.fnOf "_law_take" "_law_take" (cF i4) (cD i4) (ck i4) .none kV31 dc31 pm31 an31 cd31 ct31),sl31⟩) (c31:W.codeIn K cd31 "_law_take"=true) (k31:W.keepIn K (.ref f31)=true)
    (a32:W.nsIn K mainGlobals "_law_names"=some (some (.ref f32))) (l32:K.lookup f32=some ⟨oc32,od32,.func (W.fnOf "_law_names" "_law_names" (cF ga) (cD ga) (ck ga) .none kV32 dc32 pm32 an32 cd32 ct32),sl32⟩) (c32:W.codeIn K cd32 "_law_names"=true) (k32:W.keepIn K (.ref f32)=true)
    (a33:W.nsIn K mainGlobals "_law_ties"=some (some (.ref f33))) (l33:K.lookup f33=some ⟨oc33,od33,.func (W.fnOf "_law_ties" "_law_ties" (cF iW) (cD iW) (ck iW) .none kV33 dc33 pm33 an33 cd33 ct33),sl33⟩) (c33:W.codeIn K cd33 "_law_ties"=true) (k33:W.keepIn K (.ref f33)=true)
    (a34:W.nsIn K mainGlobals "_law_built"=some (some (.ref f34))) (l34:K.lookup f34=some ⟨oc34,od34,.func (W.fnOf "_law_built" "_law_built" (cF ib) (cD ib) (ck ib) .none kV34 dc34 pm34 an34 cd34 ct34),sl34⟩) (c34:W.codeIn K cd34 "_law_built"=true) (k34:W.keepIn K (.ref f34)=true)
    (a35:W.nsIn K mainGlobals "_law_web"=some (some (.ref f35))) (l35:K.lookup f35=some ⟨oc35,od35,.func (W.fnOf "_law_web" "_law_web" (cF jr) (cD jr) (ck jr) .none kV35 dc35 pm35 an35 cd35 ct35),sl35⟩) (c35:W.codeIn K cd35 "_law_web"=true) (k35:W.keepIn K (.ref f35)=true)
    (a36:W.nsIn K mainGlobals "_law_same"=some (some (.ref f36))) (l36:K.lookup f36=some ⟨oc36,od36,.func (W.fnOf "_law_same" "_law_same" (cF jc) (cD jc) (ck jc) .none kV36 dc36 pm36 an36 cd36 ct36),sl36⟩) (c36:W.codeIn K cd36 "_law_same"=true) (k36:W.keepIn K (.ref f36)=true)
    (a37:W.nsIn K mainGlobals "_law_weights"=some (some (.ref f37))) (l37:K.lookup f37=some ⟨oc37,od37,.func (W.fnOf "_law_weights" "_law_weights" (cF ki) (cD ki) (ck ki) .none kV37 dc37 pm37 an37 cd37 ct37),sl37⟩) (c37:W.codeIn K cd37 "_law_weights"=true) (k37:W.keepIn K (.ref f37)=true)
    (a38:W.nsIn K mainGlobals "_law_depths"=some (some (.ref f38))) (l38:K.lookup f38=some ⟨oc38,od38,.func (W.fnOf "_law_depths" "_law_depths" (cF fJ) (cD fJ) (ck fJ) .none kV38 dc38 pm38 an38 cd38 ct38),sl38⟩) (c38:W.codeIn K cd38 "_law_depths"=true) (k38:W.keepIn K (.ref f38)=true)
    (a39:W.nsIn K mainGlobals "_law_most"=some (some (.ref f39))) (l39:K.lookup f39=some ⟨oc39,od39,.func (W.fnOf "_law_most" "_law_most" (cF ie) (cD ie) (ck ie) .none kV39 dc39 pm39 an39 cd39 ct39),sl39⟩) (c39:W.codeIn K cd39 "_law_most"=true) (k39:W.keepIn K (.ref f39)=true)
    (a40:W.nsIn K mainGlobals "_law_right"=some (some (.ref f40))) (l40:K.lookup f40=some ⟨oc40,od40,.func (W.fnOf "_law_right" "_law_right" (cF fb) (cD fb) (ck fb) .none kV40 dc40 pm40 an40 cd40 ct40),sl40⟩) (c40:W.codeIn K cd40 "_law_right"=true) (k40:W.keepIn K (.ref f40)=true)
    (a41:W.nsIn K mainGlobals "law"=some (some (.ref f41))) (l41:K.lookup f41=some ⟨oc41,od41,.func (W.fnOf "law" "law" (cF gM) (cD gM) (ck gM) .none kV41 dc41 pm41 an41 cd41 ct41),sl41⟩) (c41:W.codeIn K cd41 "law"=true) (k41:W.keepIn K (.ref f41)=true)
    (z1:W.nsIn K mainGlobals "len"=some none) (z2:W.nsIn K mainGlobals "range"=some none) (z3:W.nsIn K mainGlobals "abs"=some none) (z4:W.nsIn K mainGlobals "all"=some none) (z5:W.nsIn K mainGlobals "repr"=some none) (z6:W.nsIn K mainGlobals "isinstance"=some none) (z7:W.nsIn K mainGlobals "str"=some none) (z8:W.nsIn K mainGlobals "int"=some none) (z9:W.nsIn K mainGlobals "bool"=some none) (z10:W.nsIn K mainGlobals "enumerate"=some none) (z11:W.nsIn K mainGlobals "list"=some none) (z12:W.nsIn K mainGlobals "tuple"=some none) (z13:W.nsIn K mainGlobals "dict"=some none) (z14:W.nsIn K mainGlobals "min"=some none) (z15:W.nsIn K mainGlobals "max"=some none) (z16:W.nsIn K mainGlobals "zip"=some none) (z17:W.nsIn K mainGlobals "sum"=some none)
    {tk1:Tok} (y1:W.nsIn K mainGlobals "MOST_SIGNS"=some (some (.int 8 tk1)))
    {c Pt:Addr} {o2:Obj} {ws:Array Value} {file:Str} {tf tg tt:Tok} {flags text:Int} {inF:Bool} (eZ:cd23=.ref c) (lZ:K.lookup c=some o2) (qZ1:o2.cls=.type "code") (qZ2:o2.data=.fields ws) (qZ3:ws[11]? = some (.ref Pt)) (qZ4:ws.getD 11 .none=.ref Pt) (qZ5:ws.getD 18 .none=.str file tf) (qZ6:ws.getD 7 .none=.int flags tg) (qZ7:ws.getD 9 .none=.bool inF) (qZ8:ws.getD 10 .none=.int text tt) (qZ9:c≠Pt)
    : ∃fd:FuncData,(∀(s:Shared) (v:Value),BindsTo s fd ⟨[v],[]⟩ [("_law_script",v)])/\∀base:Heap,K.In base->base.Ns mainGlobals mg->base.BuiltinsAt mg Pt->FnOk l.prog w K mg base CX0 63 fa fd ["_law_script"] (nB Pt K):=by
 have e:=hfa.symm.trans (W.mg_of X G a41)
 cases e
 have B:Blt mg:=⟨W.mg_none_of X G z1,W.mg_none_of X G z2,W.mg_none_of X G z3,W.mg_none_of X G z4,W.mg_none_of X G z5,W.mg_none_of X G z6,W.mg_none_of X G z7,W.mg_none_of X G z8,W.mg_none_of X G z9,W.mg_none_of X G z10,W.mg_none_of X G z11,W.mg_none_of X G z12,W.mg_none_of X G z13,W.mg_none_of X G z14,W.mg_none_of X G z15⟩
 have Zzip:=W.mg_none_of X G z16
 have Zsum:=W.mg_none_of X G z17
 have TMOST_SIGNS:=W.mg_of X G y1
 have F1:=cJ (st:=fU) l1 c1 k1
 have F2:=cJ (st:=fT) l2 c2 k2
 have F3:=cJ (st:=gb) l3 c3 k3
 have F4:=cJ (st:=fj) l4 c4 k4
 have F5:=cJ (st:=gn) l5 c5 k5
 have F6:=cJ (st:=gB) l6 c6 k6
 have F7:=cJ (st:=ff) l7 c7 k7
 have F8:=cJ (st:=eY) l8 c8 k8
 have F9:=cJ (st:=hX) l9 c9 k9
 have F10:=cJ (st:=gx) l10 c10 k10
 have F11:=cJ (st:=i3) l11 c11 k11
 have F12:=cJ (st:=gp) l12 c12 k12
 have F13:=cJ (st:=gt) l13 c13 k13
 have F14:=cJ (st:=iu) l14 c14 k14
 have F15:=cJ (st:=gC) l15 c15 k15
 have F16:=cJ (st:=gk) l16 c16 k16
 have F17:=cJ (st:=fE) l17 c17 k17
 have F18:=cJ (st:=fF) l18 c18 k18
 have F19:=cJ (st:=gA) l19 c19 k19
 have F20:=cJ (st:=eV) l20 c20 k20
 have F21:=cJ (st:=iq) l21 c21 k21
 have F22:=cJ (st:=gw) l22 c22 k22
 have F23:=cJ (st:=fz) l23 c23 k23
 have F24:=cJ (st:=iU) l24 c24 k24
 have F25:=cJ (st:=gF) l25 c25 k25
 have F26:=cJ (st:=iF) l26 c26 k26
 have F27:=cJ (st:=fk) l27 c27 k27
 have F28:=cJ (st:=fK) l28 c28 k28
 have F29:=cJ (st:=fV) l29 c29 k29
 have F30:=cJ (st:=iC) l30 c30 k30
 have F31:=cJ (st:=i4) l31 c31 k31
 have F32:=cJ (st:=ga) l32 c32 k32
 have F33:=cJ (st:=iW) l33 c33 k33
 have F34:=cJ (st:=ib) l34 c34 k34
 have F35:=cJ (st:=jr) l35 c35 k35
 have F36:=cJ (st:=jc) l36 c36 k36
 have F37:=cJ (st:=ki) l37 c37 k37
 have F38:=cJ (st:=fJ) l38 c38 k38
 have F39:=cJ (st:=ie) l39 c39 k39
 have F40:=cJ (st:=fb) l40 c40 k40
 have F41:=cJ (st:=gM) l41 c41 k41
 have b1:=F1.binds (ps:=["thing"]) fun _ _ _ _ _ _ us hl=>by obtain⟨_,rfl⟩:=ar1 hl;rfl
 have b2:=F2.binds (ps:=["thing"]) fun _ _ _ _ _ _ us hl=>by obtain⟨_,rfl⟩:=ar1 hl;rfl
 have b3:=F3.binds (ps:=["web","one"]) fun _ _ _ _ _ _ us hl=>by obtain⟨_,_,rfl⟩:=ar2 hl;rfl
 have b4:=F4.binds (ps:=["web","one"]) fun _ _ _ _ _ _ us hl=>by obtain⟨_,_,rfl⟩:=ar2 hl;rfl
 have b5:=F5.binds (ps:=["things"]) fun _ _ _ _ _ _ us hl=>by obtain⟨_,rfl⟩:=ar1 hl;rfl
 have b6:=F6.binds (ps:=["web","thing"]) fun _ _ _ _ _ _ us hl=>by obtain⟨_,_,rfl⟩:=ar2 hl;rfl
 have b7:=F7.binds (ps:=["web"]) fun _ _ _ _ _ _ us hl=>by obtain⟨_,rfl⟩:=ar1 hl;rfl
 have b8:=F8.binds (ps:=["web"]) fun _ _ _ _ _ _ us hl=>by obtain⟨_,rfl⟩:=ar1 hl;rfl
 have b9:=F9.binds (ps:=["table","starts"]) fun _ _ _ _ _ _ us hl=>by obtain⟨_,_,rfl⟩:=ar2 hl;rfl
 have b10:=F10.binds (ps:=["web","one","other","things"]) fun _ _ _ _ _ _ us hl=>by obtain⟨_,_,_,_,rfl⟩:=ar4 hl;rfl
 have b11:=F11.binds (ps:=["web","one","other"]) fun _ _ _ _ _ _ us hl=>by obtain⟨_,_,_,rfl⟩:=ar3 hl;rfl
 have b12:=F12.binds (ps:=["web"]) fun _ _ _ _ _ _ us hl=>by obtain⟨_,rfl⟩:=ar1 hl;rfl
 have b13:=F13.binds (ps:=["web"]) fun _ _ _ _ _ _ us hl=>by obtain⟨_,rfl⟩:=ar1 hl;rfl
 have b14:=F14.binds (ps:=["web"]) fun _ _ _ _ _ _ us hl=>by obtain⟨_,rfl⟩:=ar1 hl;rfl
 have b15:=F15.binds (ps:=["thing","table","told"]) fun _ _ _ _ _ _ us hl=>by obtain⟨_,_,_,rfl⟩:=ar3 hl;rfl
 have b16:=F16.binds (ps:=["web","weights"]) fun _ _ _ _ _ _ us hl=>by obtain⟨_,_,rfl⟩:=ar2 hl;rfl
 have b17:=F17.binds (ps:=["web","weights"]) fun _ _ _ _ _ _ us hl=>by obtain⟨_,_,rfl⟩:=ar2 hl;rfl
 have b18:=F18.binds (ps:=["web","weights","told"]) fun _ _ _ _ _ _ us hl=>by obtain⟨_,_,_,rfl⟩:=ar3 hl;rfl
 have b19:=F19.binds (ps:=["web","weights"]) fun _ _ _ _ _ _ us hl=>by obtain⟨_,_,rfl⟩:=ar2 hl;rfl
 have b20:=F20.binds (ps:=["web","numbers"]) fun _ _ _ _ _ _ us hl=>by obtain⟨_,_,rfl⟩:=ar2 hl;rfl
 have b21:=F21.binds (ps:=["web","found"]) fun _ _ _ _ _ _ us hl=>by obtain⟨_,_,rfl⟩:=ar2 hl;rfl
 have b22:=F22.binds (ps:=["web","weighed"]) fun _ _ _ _ _ _ us hl=>by obtain⟨_,_,rfl⟩:=ar2 hl;rfl
 have b23:=F23.binds (ps:=["things","found"]) fun _ _ _ _ _ _ us hl=>by obtain⟨_,_,rfl⟩:=ar2 hl;rfl
 have b24:=F24.binds (ps:=["web","found","last"]) fun _ _ _ _ _ _ us hl=>by obtain⟨_,_,_,rfl⟩:=ar3 hl;rfl
 have b25:=F25.binds (ps:=["web","found","thing"]) fun _ _ _ _ _ _ us hl=>by obtain⟨_,_,_,rfl⟩:=ar3 hl;rfl
 have b26:=F26.binds (ps:=["web","weighed","things","weight"]) fun _ _ _ _ _ _ us hl=>by obtain⟨_,_,_,_,rfl⟩:=ar4 hl;rfl
 have b27:=F27.binds (ps:=["web","weighed","bounds","most"]) fun _ _ _ _ _ _ us hl=>by obtain⟨_,_,_,_,rfl⟩:=ar4 hl;rfl
 have b28:=F28.binds (ps:=["web"]) fun _ _ _ _ _ _ us hl=>by obtain⟨_,rfl⟩:=ar1 hl;rfl
 have b29:=F29.binds (ps:=["web"]) fun _ _ _ _ _ _ us hl=>by obtain⟨_,rfl⟩:=ar1 hl;rfl
 have b30:=F30.binds (ps:=["web"]) fun _ _ _ _ _ _ us hl=>by obtain⟨_,rfl⟩:=ar1 hl;rfl
 have b31:=F31.binds (ps:=["_law_pen","_law_many"]) fun _ _ _ _ _ _ us hl=>by obtain⟨_,_,rfl⟩:=ar2 hl;rfl
 have b32:=F32.binds (ps:=["_law_pen","_law_many"]) fun _ _ _ _ _ _ us hl=>by obtain⟨_,_,rfl⟩:=ar2 hl;rfl
 have b33:=F33.binds (ps:=["_law_pen","_law_size","_law_count"]) fun _ _ _ _ _ _ us hl=>by obtain⟨_,_,_,rfl⟩:=ar3 hl;rfl
 have b34:=F34.binds (ps:=["_law_pen"]) fun _ _ _ _ _ _ us hl=>by obtain⟨_,rfl⟩:=ar1 hl;rfl
 have b35:=F35.binds (ps:=["_law_names_here","_law_ties_here"]) fun _ _ _ _ _ _ us hl=>by obtain⟨_,_,rfl⟩:=ar2 hl;rfl
 have b36:=F36.binds (ps:=["_law_found","_law_due"]) fun _ _ _ _ _ _ us hl=>by obtain⟨_,_,rfl⟩:=ar2 hl;rfl
 have b37:=F37.binds (ps:=["_law_pen","_law_size"]) fun _ _ _ _ _ _ us hl=>by obtain⟨_,_,rfl⟩:=ar2 hl;rfl
 have b38:=F38.binds (ps:=["_law_weights_here","_law_ties_here"]) fun _ _ _ _ _ _ us hl=>by obtain⟨_,_,rfl⟩:=ar2 hl;rfl
 have b39:=F39.binds (ps:=["_law_weights_here","_law_ties_here","_law_one"]) fun _ _ _ _ _ _ us hl=>by obtain⟨_,_,_,rfl⟩:=ar3 hl;rfl
 have b40:=F40.binds (ps:=["_law_web_here","_law_names_here","_law_weights_here","_law_ties_here"]) fun _ _ _ _ _ _ us hl=>by obtain⟨_,_,_,_,rfl⟩:=ar4 hl;rfl
 refine⟨W.fnOf "law" "law" (cF gM) (cD gM) (ck gM) .none kV41 dc41 pm41 an41 cd41 ct41,fun s v=>.of_eq rfl,fun base XB GB hBm=>?_⟩
 have hC:=eZ
 have hCd:=fun (h:Heap) (XH:K.In h)=>rE lZ qZ1 qZ2 qZ3 qZ4 qZ5 qZ6 qZ7 qZ8 qZ9 XH
 have c__law_take:Cal l.prog w K mg base 1 "_law_take" ["_law_pen","_law_many"] (hU K):=⟨_,_,tm F31 B,W.mg_of X G a31,k31,b31⟩
 have c__law_names:Cal l.prog w K mg base 2 "_law_names" ["_law_pen","_law_many"] (kD K):=⟨_,_,rj F32 B c__law_take,W.mg_of X G a32,k32,b32⟩
 have c__law_ties:Cal l.prog w K mg base 2 "_law_ties" ["_law_pen","_law_size","_law_count"] (mG K):=⟨_,_,tv F33 B c__law_take,W.mg_of X G a33,k33,b33⟩
 have c__law_built:Cal l.prog w K mg base 3 "_law_built" ["_law_pen"] (ke K):=⟨_,_,rn F34 B c__law_take c__law_names c__law_ties,W.mg_of X G a34,k34,b34⟩
 have c__law_web:Cal l.prog w K mg base 1 "_law_web" ["_law_names_here","_law_ties_here"] nU:=⟨_,_,uW F35 B,W.mg_of X G a35,k35,b35⟩
 have c__law_same:Cal l.prog w K mg base 1 "_law_same" ["_law_found","_law_due"] mi:=⟨_,_,ue F36 B,W.mg_of X G a36,k36,b36⟩
 have c_places_of:Cal l.prog w K mg base 1 "places_of" ["things"] fY:=⟨_,_,jS F5 B,W.mg_of X G a5,k5,b5⟩
 have c_places_ofN:Cal l.prog w K mg base 1 "places_of" ["things"] ic:=⟨_,_,(jS F5 B).imp nH,W.mg_of X G a5,k5,b5⟩
 have c_nexts:Cal l.prog w K mg base 2 "nexts" ["web","one"] (fQ false):=⟨_,_,p4 F3 B c_places_ofN,W.mg_of X G a3,k3,b3⟩
 have c_priors:Cal l.prog w K mg base 2 "priors" ["web","one"] (fQ true):=⟨_,_,oF F4 B c_places_ofN,W.mg_of X G a4,k4,b4⟩
 have c_nexts_of_all:Cal l.prog w K mg base 3 "nexts_of_all" ["web"] (ig false):=⟨_,_,jG F7 B c_nexts,W.mg_of X G a7,k7,b7⟩
 have c_steps_from:Cal l.prog w K mg base 1 "steps_from" ["table","starts"] jn:=⟨_,_,qZ F9 B,W.mg_of X G a9,k9,b9⟩
 have c_ring_by:Cal l.prog w K mg base 5 "ring_by" ["web","one","other"] p6:=⟨_,_,vL,W.mg_of X G a11,k11,b11⟩
 have c_ring_of:Cal l.prog w K mg base 6 "ring_of" ["web"] ju:=⟨_,_,nG F12 B c_steps_from c_nexts_of_all c_ring_by,W.mg_of X G a12,k12,b12⟩
 have c_refuse_ring:Cal l.prog w K mg base 7 "refuse_ring" ["web"] gz:=⟨_,_,oT F13 B c_ring_of,W.mg_of X G a13,k13,b13⟩
 have c_priors_of_allK:Cal l.prog w K mg base 3 "priors_of_all" ["web"] jJ:=⟨_,_,sY F8 B c_priors,W.mg_of X G a8,k8,b8⟩
 have c_is_due:Cal l.prog w K mg base 1 "is_due" ["thing","table","told"] j8:=⟨_,_,qc F15 B,W.mg_of X G a15,k15,b15⟩
 have c_order_anew:Cal l.prog w K mg base 8 "order_anew" ["web"] lK:=⟨_,_,tW F14 B c_refuse_ring c_priors_of_allK c_is_due,W.mg_of X G a14,k14,b14⟩
 have c_is_whole:Cal l.prog w K mg base 1 "is_whole" ["thing"] gu:=⟨_,_,qI F2 B,W.mg_of X G a2,k2,b2⟩
 have c_is_name:Cal l.prog w K mg base 1 "is_name" ["thing"] jj:=⟨_,_,py F1 B TMOST_SIGNS,W.mg_of X G a1,k1,b1⟩
 have c_lists_things:Cal l.prog w K mg base 2 "lists_things" ["web","thing"] kL:=⟨_,_,qb F6 B c_places_of c_is_name,W.mg_of X G a6,k6,b6⟩
 have c_is_way:Cal l.prog w K mg base 2 "is_way" ["web","one","other","things"] kq:=⟨_,_,oa F10 B Zzip c_places_of,W.mg_of X G a10,k10,b10⟩
 have c_are_wholes:Cal l.prog w K mg base 2 "are_wholes" ["web","numbers"] io:=⟨_,_,ox F20 B c_is_whole,W.mg_of X G a20,k20,b20⟩
 have c_are_wholesT:Cal l.prog w K mg base 2 "are_wholes" ["web","numbers"] iK:=⟨_,_,nu F20 B c_is_whole,W.mg_of X G a20,k20,b20⟩
 have c_weights_by_thing:Cal l.prog w K mg base 8 "weights_by_thing" ["web","weights"] fL:=⟨_,_,pC (ql F19 B Zzip c_refuse_ring c_are_wholes) (on F19 B Zzip c_refuse_ring c_are_wholesT),W.mg_of X G a19,k19,b19⟩
 have c_by_places:Cal l.prog w K mg base 1 "by_places" ["web","found"] j5:=⟨_,_,sx F21 B,W.mg_of X G a21,k21,b21⟩
 have c_depths_by_thing:Cal l.prog w K mg base 9 "depths_by_thing" ["web","weighed"] jb:=⟨_,_,rq F22 B c_priors_of_allK c_order_anew,W.mg_of X G a22,k22,b22⟩
 have c_ones:Cal l.prog w K mg base 1 "ones" ["web"] jK:=⟨_,_,tE F30 B,W.mg_of X G a30,k30,b30⟩
 have c_deepest_among:Cal l.prog w K mg base 3 "deepest_among" ["things","found"] (i7 Pt):=⟨_,_,qy F23 hC hCd hBm B,W.mg_of X G a23,k23,b23⟩
 have c_worth_taking:Cal l.prog w K mg base 3 "worth_taking" ["web","found","thing"] kn:=⟨_,_,pW F25 B c_priors,W.mg_of X G a25,k25,b25⟩
 have c_way_back:Cal l.prog w K mg base 4 "way_back" ["web","found","last"] (lM Pt):=⟨_,_,tZ F24 B c_deepest_among c_worth_taking,W.mg_of X G a24,k24,b24⟩
 have c_depths:Cal l.prog w K mg base 10 "depths" ["web","weights"] jv:=⟨_,_,pw F16 B c_weights_by_thing c_depths_by_thing c_by_places,W.mg_of X G a16,k16,b16⟩
 have c_deepest:Cal l.prog w K mg base 10 "deepest" ["web","weights"] (fZ Pt):=⟨_,_,nk F17 B c_weights_by_thing c_depths_by_thing c_by_places c_deepest_among c_way_back,W.mg_of X G a17,k17,b17⟩
 have c_layers:Cal l.prog w K mg base 11 "layers" ["web"] lN:=⟨_,_,tG F28 B c_depths c_ones,W.mg_of X G a28,k28,b28⟩
 have c_longest:Cal l.prog w K mg base 11 "longest" ["web"] (mD Pt):=⟨_,_,tF F29 B c_deepest c_ones,W.mg_of X G a29,k29,b29⟩
 have c_way_weighs:Cal l.prog w K mg base 3 "way_weighs" ["web","weighed","things","weight"] jE:=⟨_,_,rY F26 B Zsum c_lists_things c_is_way,W.mg_of X G a26,k26,b26⟩
 have c_are_bounds:Cal l.prog w K mg base 3 "are_bounds" ["web","weighed","bounds","most"] iy:=⟨_,_,pL F27 B Zzip c_are_wholes,W.mg_of X G a27,k27,b27⟩
 have c_shows_deepest:Cal l.prog w K mg base 9 "shows_deepest" ["web","weights","told"] hI:=⟨_,_,mz F18 B c_weights_by_thing c_is_whole c_way_weighs c_are_bounds,W.mg_of X G a18,k18,b18⟩
 have c_shows_deepestY:Cal l.prog w K mg base 9 "shows_deepest" ["web","weights","told"] ja:=⟨_,_,qj (mz F18 B c_weights_by_thing c_is_whole c_way_weighs c_are_bounds) (rk F18 B c_weights_by_thing c_is_whole c_way_weighs c_are_bounds),W.mg_of X G a18,k18,b18⟩
 have c__law_weights:Cal l.prog w K mg base 2 "_law_weights" ["_law_pen","_law_size"] (nz K):=⟨_,_,vm F37 B c__law_take,W.mg_of X G a37,k37,b37⟩
 have c__law_depths:Cal l.prog w K mg base 1 "_law_depths" ["_law_weights_here","_law_ties_here"] lX:=⟨_,_,sd F38 B,W.mg_of X G a38,k38,b38⟩
 have c__law_most:Cal l.prog w K mg base 61 "_law_most" ["_law_weights_here","_law_ties_here","_law_one"] (gE 61):=⟨_,_,na F39 B (fun _ o=>⟨_,_,o,W.mg_of X G a39,k39,b39⟩) 61,W.mg_of X G a39,k39,b39⟩
 have c__law_right:Cal l.prog w K mg base 62 "_law_right" ["_law_web_here","_law_names_here","_law_weights_here","_law_ties_here"] (kt Pt):=⟨_,_,qT F40 B Zzip Zsum c__law_depths c_deepest c__law_same c__law_most c_shows_deepest,W.mg_of X G a40,k40,b40⟩
 exact u6 F41 B c__law_built c__law_web c__law_weights c_deepest c_shows_deepestY c__law_right c_layers c_longest
theorem walk {l:W.OpenLaw}{q:Program}{loose:List Str}{XP:(Str -> Option Value) -> Heap -> Prop}{YP:World -> Heap -> Prop}{d:DefRec}{K:Params -> W.Frag}{Pt:Addr}(hn:l.most=some 63) (hdf:d.params.defaults=[])
    (hY:∀(w:World) (h:Heap),YP w h->(K w.params).In h) (hT:∀(w:World) (h:Heap),YP w h->h.get? Pt=some (W.tabObj #[])) (hKP:∀w:World,(K w.params).lookup Pt=none) (hC:∀(w:World) (h:Heap),(K w.params).In h->∃c,W.CodeHd h c Pt)
    (F:∀(w:World) (mg:Str->Option Value) (fa:Addr) (h:Heap),(K w.params).In h->h.Ns mainGlobals mg->mg d.name=some (.ref fa) ->
     ∃fd:FuncData,(∀(s:Shared) (u:Value),BindsTo s fd ⟨[u],[]⟩ [("_law_script",u)])/\∀base:Heap,(K w.params).In base->base.Ns mainGlobals mg->base.BuiltinsAt mg Pt->FnOk l.prog w (K w.params) mg base CX0 63 fa fd ["_law_script"] (nB Pt (K w.params))) :
    W.WalkO q loose XP YP l.row.toRowW d [] (fun f vs=>PySem.call f vs):=by
 refine Att.attach_call hn hdf fun w s₀ s₁ mg mb fa o pm cd doc a vs ns G Y ho hd hcd hmg hobj hints hlen hg=>?_
 have KX:=hY w _ Y
 obtain⟨fd,hb,hF⟩:=F w mg fa _ KX G.T.g hmg
 obtain⟨c,hc⟩:=hC w _ KX
 exact ow KX G.T.g G.T.b G.T.builtins G.T.nolimit hg G.T.bmain (hT w _ Y) (hKP w) hc hobj hints (aO hlen (by decide)) ⟨rfl,by decide,by decide,rfl⟩ hF hb (fun H hO hS=>⟨a,ns,rfl,hS,hO,fun _=>rfl⟩) fun H e s' z=>z
end
end K24
open PySem PySem.W PyProof.Rows
set_option maxRecDepth 100000 in
set_option maxHeartbeats 0 in
theorem PySem.Challenge.cw_orderkeep_k24_whole_deepest_told_holds : PySem.Challenge.rw_orderkeep_k24_whole_deepest_told.Holds := by
 w_on;o_law;k_head;(case hw=>w_witness2)
 k_fill
 refine K24.walk (l:=PySem.Challenge.rw_orderkeep_k24_whole_deepest_told) rfl rfl (fun w h Y=>Y.1) (fun w h Y=>Y.2 _ (.head _)) ?KP ?HC ?F
 case KP=>exact fun w=>rfl
 case HC =>
  intro w h KX
  refine' K24.hd_ex KX ?a1 ?l1 ?eZ ?lZ ?qZ1 ?qZ2 ?qZ3 ?qZ4 ?qZ5 ?qZ6 ?qZ7 ?qZ8 ?qZ9
  (case a1=>k_is)
  (case l1=>k_is)
  (case eZ=>exact rfl)
  (case lZ=>k_is)
  (case qZ1=>exact rfl)
  (case qZ2=>exact rfl)
  (case qZ3=>exact rfl)
  (case qZ4=>exact rfl)
  (case qZ5=>exact rfl)
  (case qZ6=>exact rfl)
  (case qZ7=>exact rfl)
  (case qZ8=>exact rfl)
  (case qZ9=>decide)
 case F =>
  intro w mg fa h KX G hmg
  refine' K24.all_mk KX G hmg ?a1 ?l1 ?c1 ?k1 ?a2 ?l2 ?c2 ?k2 ?a3 ?l3 ?c3 ?k3 ?a4 ?l4 ?c4 ?k4 ?a5 ?l5 ?c5 ?k5 ?a6 ?l6 ?c6 ?k6 ?a7 ?l7 ?c7 ?k7 ?a8 ?l8 ?c8 ?k8 ?a9 ?l9 ?c9 ?k9 ?a10 ?l10 ?c10 ?k10 ?a11 ?l11 ?c11 ?k11 ?a12 ?l12 ?c12 ?k12 ?a13 ?l13 ?c13 ?k13 ?a14 ?l14 ?c14 ?k14 ?a15 ?l15 ?c15 ?k15 ?a16 ?l16 ?c16 ?k16 ?a17 ?l17 ?c17 ?k17 ?a18 ?l18 ?c18 ?k18 ?a19 ?l19 ?c19 ?k19 ?a20 ?l20 ?c20 ?k20 ?a21 ?l21 ?c21 ?k21 ?a22 ?l22 ?c22 ?k22 ?a23 ?l23 ?c23 ?k23 ?a24 ?l24 ?c24 ?k24 ?a25 ?l25 ?c25 ?k25 ?a26 ?l26 ?c26 ?k26 ?a27 ?l27 ?c27 ?k27 ?a28 ?l28 ?c28 ?k28 ?a29 ?l29 ?c29 ?k29 ?a30 ?l30 ?c30 ?k30 ?a31 ?l31 ?c31 ?k31 ?a32 ?l32 ?c32 ?k32 ?a33 ?l33 ?c33 ?k33 ?a34 ?l34 ?c34 ?k34 ?a35 ?l35 ?c35 ?k35 ?a36 ?l36 ?c36 ?k36 ?a37 ?l37 ?c37 ?k37 ?a38 ?l38 ?c38 ?k38 ?a39 ?l39 ?c39 ?k39 ?a40 ?l40 ?c40 ?k40 ?a41 ?l41 ?c41 ?k41 ?z1 ?z2 ?z3 ?z4 ?z5 ?z6 ?z7 ?z8 ?z9 ?z10 ?z11 ?z12 ?z13 ?z14 ?z15 ?z16 ?z17 ?y1 ?eZ ?lZ ?qZ1 ?qZ2 ?qZ3 ?qZ4 ?qZ5 ?qZ6 ?qZ7 ?qZ8 ?qZ9
  (case a1=>k_is)
  (case l1=>k_is)
  (case c1=>k_is)
  (case k1=>k_is)
  (case a2=>k_is)
  (case l2=>k_is)
  (case c2=>k_is)
  (case k2=>k_is)
  (case a3=>k_is)
  (case l3=>k_is)
  (case c3=>k_is)
  (case k3=>k_is)
  (case a4=>k_is)
  (case l4=>k_is)
  (case c4=>k_is)
  (case k4=>k_is)
  (case a5=>k_is)
  (case l5=>k_is)
  (case c5=>k_is)
  (case k5=>k_is)
  (case a6=>k_is)
  (case l6=>k_is)
  (case c6=>k_is)
  (case k6=>k_is)
  (case a7=>k_is)
  (case l7=>k_is)
  (case c7=>k_is)
  (case k7=>k_is)
  (case a8=>k_is)
  (case l8=>k_is)
  (case c8=>k_is)
  (case k8=>k_is)
  (case a9=>k_is)
  (case l9=>k_is)
  (case c9=>k_is)
  (case k9=>k_is)
  (case a10=>k_is)
  (case l10=>k_is)
  (case c10=>k_is)
  (case k10=>k_is)
  (case a11=>k_is)
  (case l11=>k_is)
  (case c11=>k_is)
  (case k11=>k_is)
  (case a12=>k_is)
  (case l12=>k_is)
  (case c12=>k_is)
  (case k12=>k_is)
  (case a13=>k_is)
  (case l13=>k_is)
  (case c13=>k_is)
  (case k13=>k_is)
  (case a14=>k_is)
  (case l14=>k_is)
  (case c14=>k_is)
  (case k14=>k_is)
  (case a15=>k_is)
  (case l15=>k_is)
  (case c15=>k_is)
  (case k15=>k_is)
  (case a16=>k_is)
  (case l16=>k_is)
  (case c16=>k_is)
  (case k16=>k_is)
  (case a17=>k_is)
  (case l17=>k_is)
  (case c17=>k_is)
  (case k17=>k_is)
  (case a18=>k_is)
  (case l18=>k_is)
  (case c18=>k_is)
  (case k18=>k_is)
  (case a19=>k_is)
  (case l19=>k_is)
  (case c19=>k_is)
  (case k19=>k_is)
  (case a20=>k_is)
  (case l20=>k_is)
  (case c20=>k_is)
  (case k20=>k_is)
  (case a21=>k_is)
  (case l21=>k_is)
  (case c21=>k_is)
  (case k21=>k_is)
  (case a22=>k_is)
  (case l22=>k_is)
  (case c22=>k_is)
  (case k22=>k_is)
  (case a23=>k_is)
  (case l23=>k_is)
  (case c23=>k_is)
  (case k23=>k_is)
  (case a24=>k_is)
  (case l24=>k_is)
  (case c24=>k_is)
  (case k24=>k_is)
  (case a25=>k_is)
  (case l25=>k_is)
  (case c25=>k_is)
  (case k25=>k_is)
  (case a26=>k_is)
  (case l26=>k_is)
  (case c26=>k_is)
  (case k26=>k_is)
  (case a27=>k_is)
  (case l27=>k_is)
  (case c27=>k_is)
  (case k27=>k_is)
  (case a28=>k_is)
  (case l28=>k_is)
  (case c28=>k_is)
  (case k28=>k_is)
  (case a29=>k_is)
  (case l29=>k_is)
  (case c29=>k_is)
  (case k29=>k_is)
  (case a30=>k_is)
  (case l30=>k_is)
  (case c30=>k_is)
  (case k30=>k_is)
  (case a31=>k_is)
  (case l31=>k_is)
  (case c31=>k_is)
  (case k31=>k_is)
  (case a32=>k_is)
  (case l32=>k_is)
  (case c32=>k_is)
  (case k32=>k_is)
  (case a33=>k_is)
  (case l33=>k_is)
  (case c33=>k_is)
  (case k33=>k_is)
  (case a34=>k_is)
  (case l34=>k_is)
  (case c34=>k_is)
  (case k34=>k_is)
  (case a35=>k_is)
  (case l35=>k_is)
  (case c35=>k_is)
  (case k35=>k_is)
  (case a36=>k_is)
  (case l36=>k_is)
  (case c36=>k_is)
  (case k36=>k_is)
  (case a37=>k_is)
  (case l37=>k_is)
  (case c37=>k_is)
  (case k37=>k_is)
  (case a38=>k_is)
  (case l38=>k_is)
  (case c38=>k_is)
  (case k38=>k_is)
  (case a39=>k_is)
  (case l39=>k_is)
  (case c39=>k_is)
  (case k39=>k_is)
  (case a40=>k_is)
  (case l40=>k_is)
  (case c40=>k_is)
  (case k40=>k_is)
  (case a41=>k_is)
  (case l41=>k_is)
  (case c41=>k_is)
  (case k41=>k_is)
  (case z1=>k_is)
  (case z2=>k_is)
  (case z3=>k_is)
  (case z4=>k_is)
  (case z5=>k_is)
  (case z6=>k_is)
  (case z7=>k_is)
  (case z8=>k_is)
  (case z9=>k_is)
  (case z10=>k_is)
  (case z11=>k_is)
  (case z12=>k_is)
  (case z13=>k_is)
  (case z14=>k_is)
  (case z15=>k_is)
  (case z16=>k_is)
  (case z17=>k_is)
  (case y1=>k_is)
  (case eZ=>exact rfl)
  (case lZ=>k_is)
  (case qZ1=>exact rfl)
  (case qZ2=>exact rfl)
  (case qZ3=>exact rfl)
  (case qZ4=>exact rfl)
  (case qZ5=>exact rfl)
  (case qZ6=>exact rfl)
  (case qZ7=>exact rfl)
  (case qZ8=>exact rfl)
  (case qZ9=>decide)
end
