import PyProof.Rows.All
import Wide.All
import OpenK.AllK
import Wide.FinOn
import Lean
import PyProof.EqAt
import PyProof.EqKinds
import PyProof.TupleCall
import PyProof.Rows.SumAny
import PyProof.StationsW
import PyProof.ExcClass3
import OpenK.KOwn
import KE.KTryDeep
import KE.KIsAll
import PyProof.ExcAttrAll.ValueError
import PyProof.ExcBaseAll.ValueError
import PyProof.InstStoreFacts
import PyProof.RulesTry
import PyProof.Rows.SortStr
import PyProof.TupleOfSeq
import KE.KxWritten
import PyProof.Conv_bool
import KE.KStrOpen
import PyProof.Rows.FStr
import PyProof.SetRoads
import PyProof.DictKinds
import PyProof.Rows.Range3
import PyProof.FactsAll.tuple_2
import PyProof.CollectIter
import PyProof.TupleOfGen
import KE.KSortTup
import PyProof.StrOps
import PyProof.StrLawsIn
import KE.KMinKey
import PyProof.AttrMissHeap
import KE.KDictOf
import PyProof.StrOps2
import PyProof.DictWalks
import KE.KDictList
import PyProof.Rows.ZipGen
import PySem.Challenge.RW_orderkeep_k44_rings_looked_at
namespace PySem.W.Fast
def tw3111066195937402771:=Nat
def tw252192087665150556:=Nat
def tw13795311596291285827:=Nat
def tw6279047666222997612:=Nat
def tw6383470318634766715:=Nat
def tw423234855987357594:=Nat
def tw12381202996606830130:=Nat
def tw6975707485585644288:=Nat
def tw14291309992489618882:=Nat
def tw15006629118512105016:=Nat
def tw15089172201066428108:=Nat
def tw2588753870939576:=Nat
def tw9467399980296143004:=Nat
def tw337596045586400041:=Nat
def tw9010352085168239094:=Nat
def tw52015068204619787:=Nat
def tw415764587046598302:=Nat
def tw8682322621879056963:=Nat
def tw8472289716067459622:=Nat
def tw1433845662684164518:=Nat
def tw14581372334095864760:=Nat
def tw928158320209479549:=Nat
def tw915296306545377251:=Nat
def tw424580695590129224:=Nat
def tw15679140366467174026:=Nat
def tw5500094452886819005:=Nat
def tw6234296320507037345:=Nat
def tw6208348075393335475:=Nat
def tw8300170025285659856:=Nat
def tw9114469284381964354:=Nat
def tw8548426665549185140:=Nat
def tw6443202482057099752:=Nat
def tw3526291294394270576:=Nat
def tw16060497032573388371:=Nat
def tw2747181208965296482:=Nat
def tw2793879634601950325:=Nat
def tw15146099268310010857:=Nat
def tw5607002642685807294:=Nat
def tw5038784306527757613:=Nat
def tw15605695431447313232:=Nat
def tw13035828113300311158:=Nat
def tw10043357892659715209:=Nat
def tw16114351463622026548:=Nat
def tw11952857632994291565:=Nat
def tw16278288034860639047:=Nat
def tw10795539819833068043:=Nat
def tw10763822367743234197:=Nat
def tw13176101564905205320:=Nat
def tw16911455616378143936:=Nat
def tw10680761705663938482:=Nat
def tw2948482107991859992:=Nat
def tw6567213309707539430:=Nat
def tw9561728535563655619:=Nat
def tw17365538263842701764:=Nat
def tw14702609055941017066:=Nat
def tw5648688632524539586:=Nat
def tw4894404384788726830:=Nat
def tw2288050665422217962:=Nat
def tw5670767767266604408:=Nat
def tw16177567276235731759:=Nat
def tw907019088447140175:=Nat
def tw13359418751489883363:=Nat
def tw17562095490017699957:=Nat
def tw1687524481827709087:=Nat
def tw12091413581239335974:=Nat
def tw15643462302191234759:=Nat
def tw616237434480306623:=Nat
def tw17085981356109804506:=Nat
def tw14020663740731624857:=Nat
def tw1410833271591592243:=Nat
def tw10105385784266699159:=Nat
def tw1544281102262776991:=Nat
def tw17043589434077247641:=Nat
def tw10473865060066877268:=Nat
def tw491981315304327163:=Nat
def tw15254778989409171636:=Nat
def tw790483620402058382:=Nat
def tw8448087477112744474:=Nat
def tw15195044230096602333:=Nat
def tw12353310508218467488:=Nat
def tw7462809407549199296:=Nat
def tw3747255773864315062:=Nat
def tw8593855816292433364:=Nat
def tw16466487601160584115:=Nat
def tw11366226499900309277:=Nat
def tw11860259019005578103:=Nat
def tw10313670788740390544:=Nat
def tw7826098792743710935:=Nat
def tw12192943427548715972:=Nat
def tw14386261548935520763:=Nat
def tw6519275339087676958:=Nat
def tw4608190843973981551:=Nat
def tw5641045512763925354:=Nat
def tw15522434507608380910:=Nat
def tw1624947358747634284:=Nat
def tw13673804704076674023:=Nat
def tw3039016143056334166:=Nat
def tw12146689214859044265:=Nat
def tw17706049576039943808:=Nat
def tw16933117496925439675:=Nat
def tw10912411800210565570:=Nat
def tw14106115067584637772:=Nat
def tw12023764249586613653:=Nat
def tw4512336066712015124:=Nat
def tw12992851010891575646:=Nat
def tw14961157484356102798:=Nat
def tw10996835508917026999:=Nat
def tw2585337884987729007:=Nat
def tw8657585769657679945:=Nat
def tw839483234150389347:=Nat
def tw8407256466112488386:=Nat
def tw5347899977778598789:=Nat
def tw13047089409025358875:=Nat
def tw33403440157079034:=Nat
def tw14208308974344053378:=Nat
def tw18211013446737904744:=Nat
def tw277768715625580495:=Nat
def tw3582395398407649443:=Nat
def tw7278165163797659283:=Nat
def tw1624047305875203087:=Nat
def tw2956684580196864195:=Nat
def tw14753836695386492412:=Nat
def tw8876001482728684912:=Nat
def tw17132477582295652752:=Nat
def tw17030248686018205648:=Nat
def tw297546318474331253:=Nat
def tw7435057951627203729:=Nat
def tw11865650421945917324:=Nat
def tw6210094179005648260:=Nat
def tw15652732437203296982:=Nat
def tw1729782155445304105:=Nat
def tw10993483618016558906:=Nat
def tw17589784203542335365:=Nat
def tw4035826700307719465:=Nat
def tw4150807654006326556:=Nat
def tw6168768409803598472:=Nat
def tw9738068173510272028:=Nat
def tw3500453314063067255:=Nat
def tw10953652019963938211:=Nat
def tw2480700997847739324:=Nat
def tw13064306572603971723:=Nat
def tw14614660052632310668:=Nat
def tw15337166564196583246:=Nat
def tw8395228144485947315:=Nat
def tw6407673538464924358:=Nat
def tw12098800303792267071:=Nat
def tw10098034105992413853:=Nat
def tw6822885150937136134:=Nat
def tw4006252102149314668:=Nat
def tw12215131177224272176:=Nat
def tw11216106279866830238:=Nat
def tw9406279643296125062:=Nat
def tw13203301053388515458:=Nat
def tw6831393976527953776:=Nat
def tw8689638237305183725:=Nat
def tw11997773719410179403:=Nat
def tw2110658356843228360:=Nat
def tw11449571545765720188:=Nat
def tw7849246456667397613:=Nat
def tw16797662217173954416:=Nat
def tw7307785328102278121:=Nat
def tw10736843325285838071:=Nat
def tw8175219720944075701:=Nat
def tw12017667639129543017:=Nat
def tw15035904344826291257:=Nat
def tw2831660511018670901:=Nat
def tw7111692806068393216:=Nat
def tw9715878393743373698:=Nat
def tw13681426188953783474:=Nat
def tw16528673516601238374:=Nat
def tw3640676833021368864:=Nat
def tw11348884062403676323:=Nat
def tw3263965731061651473:=Nat
def tw1037709522153609750:=Nat
def tw4360615199396860257:=Nat
def tw18175421852583837534:=Nat
def tw15440004924740012823:=Nat
def tw4395340287953732897:=Nat
def tw2738945842024025079:=Nat
def tw3049854210140714343:=Nat
def tw17769179089476757100:=Nat
def tw14030119593631387754:=Nat
def tw9039677025376935991:=Nat
def tw1166081702081851533:=Nat
def tw1863239185929692109:=Nat
def tw5920885035169117511:=Nat
def tw17843391035576607358:=Nat
def tw1073223189139856382:=Nat
def tw2475021201688473124:=Nat
def tw13506465799452533795:=Nat
def tw10170641078418908643:=Nat
def tw5286351005669648931:=Nat
def tw710264723639059107:=Nat
def tw13644600531257457988:=Nat
def tw5160033718862242147:=Nat
def tw2113923446911110221:=Nat
def tw11263576535414488827:=Nat
def tw13205555221602997653:=Nat
def tw16569571896837781054:=Nat
def tw8788701268524319930:=Nat
def tw15069162161190217553:=Nat
def tw6431644393140140853:=Nat
def tw14229785456205025743:=Nat
def tw11885161473391620168:=Nat
def tw17155653991362567667:=Nat
def tw12950996169150295854:=Nat
def tw13688352313293884594:=Nat
def tw15939092526206130560:=Nat
def tw3284976562044881481:=Nat
def tw11159219021906027419:=Nat
def tw13072543453276020656:=Nat
def tw3862800203111996043:=Nat
def tw6559798481596161775:=Nat
def tw5918380810476646295:=Nat
def tw12803492701000037653:=Nat
def tw10184086876702189022:=Nat
def tw8967312628889696330:=Nat
def tw2591667122084383796:=Nat
def tw5048995819304410925:=Nat
def tw15760356594797799317:=Nat
def tw10759721894657998772:=Nat
def tw7069198127760372806:=Nat
def tw12425784388448368345:=Nat
def tw11413982364208575817:=Nat
def tw6952840670616672548:=Nat
def tw5527367069509174964:=Nat
def tw14332569135443284838:=Nat
def tw11155752314894267607:=Nat
def tw256190915138683001:=Nat
def tw14838880762351477621:=Nat
def tw14194479091195765466:=Nat
def tw5392599584726241359:=Nat
def tw15421130770809187385:=Nat
def tw3255666544440082558:=Nat
def tw806403205900978620:=Nat
def tw7803857030129553733:=Nat
def tw14022362916963877487:=Nat
def tw577683329466003322:=Nat
def tw1841864977855937548:=Nat
def tw7807538837093860844:=Nat
def tw12809803530506623997:=Nat
def tw8463246162684283628:=Nat
def tw12362745462700482859:=Nat
def tw4916554230430071676:=Nat
def tw17702794704607105605:=Nat
def tw17289792633763157410:=Nat
def tw2487453824234632872:=Nat
def tw14999567774423766841:=Nat
def tw827622344480785805:=Nat
def tw6162817200050668693:=Nat
def tw14359984053620213460:=Nat
def tw11061764352117262549:=Nat
def tw10247222030993862281:=Nat
def tw2693948855349636370:=Nat
def tw15500624211615571902:=Nat
def tw15203479357217948111:=Nat
def tw14058352270403386283:=Nat
end PySem.W.Fast
section
open PySem PySem.Spec PyProof.Rows
abbrev wJ:=@wpAny_bind
abbrev wK:=@List.length_map
abbrev wM:=@Nat.le_refl
abbrev wN:=@wpAny_pure
abbrev wO:=@List.getElem?_eq_some_iff
abbrev wP:=@List.mem_of_getElem?
abbrev wQ:=@decide_eq_true
abbrev wR:=@Option.some.inj
abbrev wS:=@List.getElem?_eq_getElem
abbrev wT:=@Heap.lt_size
abbrev wV:=@Nat.le_trans
abbrev wW:=@List.getElem?_map
abbrev wX:=@List.mem_map
abbrev wY:=@List.mem_cons
abbrev wZ:=@List.map_append
abbrev w6:=@List.length_append
abbrev w8:=@List.mem_append
abbrev xa:=@List.mem_singleton
abbrev xb:=@Heap.get?_push_of_some
abbrev xc:=@List.length_cons
abbrev xf:=@of_decide_eq_true
abbrev xg:=@List.take_add_one
abbrev xh:=@List.size_toArray
abbrev xi:=@decide_eq_false
abbrev xj:=@Int.eq_ofNat_of_zero_le
abbrev xk:=@List.take_of_length_le
abbrev xl:=@Heap.get?_push_size
abbrev xm:=@Nat.ne_of_lt
abbrev xn:=@List.mem_filter
abbrev xo:=@List.mem_cons_of_mem
abbrev xp:=@Bool.eq_iff_iff
abbrev xq:=@Bool.false_ne_true
abbrev xr:=@List.map_cons
abbrev xt:=@Nat.zero_le
abbrev xu:=@List.length_drop
abbrev xv:=@List.getElem?_zip_eq_some
abbrev xw:=@Nat.lt_of_lt_of_le
abbrev xx:=@List.length_take
abbrev xz:=@wpAny_field
abbrev xA:=@List.getElem?_drop
abbrev xB:=@List.nodup_cons
abbrev xC:=@Bool.and_eq_true
abbrev xD:=@List.length_zip
abbrev xE:=@List.getD_eq_getElem?_getD
abbrev xF:=@wpAny_holding
abbrev xG:=@List.mem_append_right
abbrev xH:=@List.append_nil
abbrev xI:=@List.getElem?_of_mem
abbrev xJ:=@List.head?_eq_getElem?
abbrev xK:=@List.lookup_cons
abbrev xL:=@List.mem_flatMap
abbrev xM:=@List.all_eq_true
abbrev xN:=@List.map_drop
abbrev xO:=@List.getLast?_eq_getElem?
abbrev xP:=@wpAny_mono
abbrev xQ:=@List.mem_filterMap
abbrev xR:=@List.any_cons
abbrev xS:=@List.length_range
abbrev xT:=@List.mem_append_left
abbrev xU:=@List.getElem?_append_left
abbrev xV:=@List.length_reverse
abbrev xW:=@wpAny_seqItems
abbrev xX:=@wpAny_setField_rec
abbrev xY:=@List.nodup_append
abbrev xZ:=@List.map_take
abbrev x3:=@Nat.succ_le_succ
abbrev x4:=@Nat.succ_pos
abbrev x5:=@List.mem_cons_self
abbrev x6:=@Nat.lt_of_le_of_lt
abbrev x8:=@Int.emod_nonneg
abbrev x9:=@List.drop_of_length_le
abbrev ya:=@List.length_pos_of_mem
abbrev yb:=@List.filter_append
abbrev yc:=@Nat.lt_irrefl
abbrev yd:=@List.getElem?_append_right
abbrev yg:=@List.length_singleton
abbrev yh:=@List.find?_cons
abbrev yi:=@List.forIn_cons
abbrev yj:=@Bool.false_eq_true
abbrev yk:=@List.getElem_mem
abbrev yl:=@List.any_eq_true
abbrev ym:=@List.drop_eq_getElem_cons
abbrev yn:=@List.take_append_drop
abbrev yo:=@List.mem_reverse
abbrev yp:=@List.length_filter_le
abbrev yq:=@Int.toNat_natCast
abbrev yt:=@List.reverse_cons
abbrev yu:=@Int.emod_lt_of_pos
abbrev yv:=@List.getElem?_inj
abbrev yx:=@List.mem_of_mem_drop
abbrev yy:=@List.not_mem_nil
abbrev yz:=@Option.isSome_iff_exists
abbrev yA:=@List.length_replicate
abbrev yB:=@List.length_filterMap_le
abbrev yC:=@List.mem_of_find?_eq_some
abbrev yD:=@List.mem_of_getLast?
abbrev yE:=@List.getLast?_eq_none_iff
abbrev yF:=@List.exists_cons_of_length_eq_add_one
end
noncomputable section
set_option autoImplicit true
set_option Elab.async false
set_option linter.all false
set_option maxRecDepth 100000
namespace L2
open PySem PySem.Spec PyProof.Rows
abbrev _root_.LS:=List Str
abbrev _root_.LW:=List Value
abbrev _root_.QS:=Value->Shared->Prop
abbrev _root_.MS:=Str->Option Value
abbrev _root_.AO_:=List (Addr × Obj)
abbrev _root_.OV:=Option Value
abbrev Key:=Sum Int Str
def iH:Key->Value->Bool
 | .inl k,v=>Value.isInt k v
 | .inr x,v=>Value.isStrOf x v
def keyH (w:World):Key->Int
 | .inl k=>hashInt k
 | .inr x=>hashStr w x
theorem bY:∀ {k:Key}{v:Value},iH k v=true->(∃i t,k=Sum.inl i/\v=Value.int i t)∨(∃x t,k=Sum.inr x/\v=Value.str x t)
 | .inl i,v,h=>by
  obtain⟨t,e⟩:=Value.isInt_shape (k:=i) (v:=v) h;exact .inl ⟨i,t,rfl,e⟩
 | .inr x,v,h=>by
  obtain⟨t,e⟩:=Value.isStrOf_shape (x:=x) (v:=v) h;exact .inr ⟨x,t,rfl,e⟩
theorem qh (i:Int) (t:Tok):iH (.inl i) (.int i t)=true:=by simp[iH,Value.isInt]
theorem pT (x:Str) (t:Tok):iH (.inr x) (.str x t)=true:=by simp[iH,Value.isStrOf]
theorem vt (a b:Int):decide ((Sum.inl a:Key)=Sum.inl b)=(a==b):=by
 by_cases e:a=b
 ·subst e;simp
 ·have h:¬ (Sum.inl a:Key)=Sum.inl b:=λq=>e (Sum.inl.inj q);rw[xi h];exact(beq_eq_false_iff_ne.mpr e).symm
theorem u8 (a b:Str):decide ((Sum.inr a:Key)=Sum.inr b)=decide (a=b):=by
 by_cases e:a=b
 ·subst e;simp
 ·have h:¬ (Sum.inr a:Key)=Sum.inr b:=λq=>e (Sum.inr.inj q);rw[xi h,xi e]
theorem vy (a:Int) (b:Str):decide ((Sum.inl a:Key)=Sum.inr b)=false:=xi (λq=>nomatch q)
theorem uz (a:Str) (b:Int):decide ((Sum.inr a:Key)=Sum.inl b)=false:=xi (λq=>nomatch q)
def cc (prog:Program) (w:World):PySem.KeyKind prog w Key where
 is:=iH
 hash:=keyH w
 inj:=λv a b ha hb=>by
  rcases bY ha with⟨i,t,rfl,rfl⟩ | ⟨x,t,rfl,rfl⟩
  ·rcases bY hb with⟨j,u,rfl,e⟩ | ⟨y,u,rfl,e⟩
   ·injection e with e1 _;rw[e1]
   ·exact nomatch e
  ·rcases bY hb with⟨j,u,rfl,e⟩ | ⟨y,u,rfl,e⟩
   ·exact nomatch e
   ·injection e with e1 _;rw[e1]
 byValue:=λk v h=>by rcases bY h with⟨i,t,rfl,rfl⟩ | ⟨x,t,rfl,rfl⟩ <;> rfl
 pyHash:=λhv h=>by
  rcases bY hv with⟨i,t,rfl,rfl⟩ | ⟨x,t,rfl,rfl⟩
  ·exact wpAny_pyHash_int h
  ·exact wpAny_pyHash_str h
 eqBool:=λhu hv h=>by
  rcases bY hu with⟨i,t,rfl,rfl⟩ | ⟨x,t,rfl,rfl⟩
  ·rcases bY hv with⟨j,u,rfl,rfl⟩ | ⟨y,u,rfl,rfl⟩
   ·rw[vt] at h;exact wpAny_eqBool_int h
   ·rw[vy] at h;exact SeqAt.EqAt.int_str i t y u _ _ _ _ h
  ·rcases bY hv with⟨j,u,rfl,rfl⟩ | ⟨y,u,rfl,rfl⟩
   ·rw[uz] at h;exact SeqAt.EqAt.str_int x t j u _ _ _ _ h
   ·rw[u8] at h;exact wpAny_eqBool_str h
 «strs»:=λk x t v h=>by
  rcases bY h with⟨i,u,rfl,e⟩ | ⟨y,u,rfl,e⟩
  ·exact nomatch e
  ·injection e with e1 _;subst e1;cases v <;> rfl
theorem my (prog:Program) (w:World) (i:Int) (t:Tok):(cc prog w).is (.inl i) (.int i t)=true:=qh i t
theorem mE (prog:Program) (w:World) (x:Str) (t:Tok):(cc prog w).is (.inr x) (.str x t)=true:=pT x t
inductive V where
 | non | bl (b:Bool) | int (i:Int) | str (x:Str) | byt (b:Array UInt8) | flt (b:UInt64) | ref (a:Addr) | ty (n:String)
 deriving DecidableEq
abbrev _root_.LV:=List V
abbrev _root_.KV_:=List (Key × V)
def RelV:V->Value->Prop
 | .non,u=>u=Value.none
 | .bl b,u=>u=Value.bool b
 | .int i,u=>∃t,u=Value.int i t
 | .str x,u=>∃t,u=Value.str x t
 | .byt b,u=>∃t,u=Value.bytes b t
 | .flt b,u=>∃t,u=Value.float b t
 | .ref a,u=>u=Value.ref a
 | .ty n,u=>u=Value.type n
abbrev Vals:LV->LW->Prop:=Paired RelV
theorem Vals.length (r:Vals xs us):xs.length=us.length:=Paired.length r
theorem Vals.get:∀ {xs:LV}{us:LW}{i:Nat}{x:V},Vals xs us->xs[i]? = some x->∃u,us[i]? = some u/\RelV x u
 | _,_,_,_,.nil,e=>by simp at e
 | _,_,0,_,.cons r _,e=>by simp at e;subst e;exact⟨_,rfl,r⟩
 | _,_,i+1,x,.cons _ t,e=>by
  obtain⟨u,h1,h2⟩:=Vals.get (i:=i) (x:=x) t (by simpa using e);exact⟨u,by simpa using h1,h2⟩
theorem Vals.set (r:RelV x u):∀ {xs:LV}{us:LW}(i:Nat),Vals xs us->Vals (xs.set i x) (us.set i u)
 | _,_,_,.nil=>.nil
 | _,_,0,.cons _ t=>.cons r t
 | _,_,i+1,.cons q t=>.cons q (Vals.set r i t)
theorem Vals.append:∀ {xs ys:LV}{us ws:LW},Vals xs us->Vals ys ws->Vals (xs++ys) (us++ws)
 | _,_,_,_,.nil,s=>s
 | _,_,_,_,.cons r t,s=>.cons r (Vals.append t s)
theorem Vals.take:∀ {xs:LV}{us:LW}(n:Nat),Vals xs us->Vals (xs.take n) (us.take n)
 | _,_,0,_=>.nil
 | _,_,_+1,.nil=>.nil
 | _,_,n+1,.cons r t=>.cons r (Vals.take n t)
theorem Vals.drop:∀ {xs:LV}{us:LW}(n:Nat),Vals xs us->Vals (xs.drop n) (us.drop n)
 | _,_,0,r=>r
 | _,_,_+1,.nil=>.nil
 | _,_,n+1,.cons _ t=>Vals.drop n t
def RelO:Option V->OV->Prop
 | some v,some u=>RelV v u
 | none,none=>True
 | _,_=>False
def KV:List (κ × V)->List (κ × Value)->Prop:=Paired λ(p:κ × V) (q:κ × Value)=>p.1=q.1/\RelV p.2 q.2
def kV:Key->V
 | .inl i=>.int i
 | .inr x=>.str x
inductive HO where
    | lst (xs:LV)
    | tup (xs:LV)
    | dK (kvs:KV_) | dT (kvs:List (List Key × V))
    | set (S:Int->Bool) (n:Nat)
    | ins (C dx:Addr) (fs:List (Str × V))
    | own (x:Addr)
    | xd (fs:List (Str × V))
    | met (f x:Addr)
    | rng (lo hi:Int)
    | frz (o:Obj) (u:HO)
    | tbl (ps:Array Value)
    | ext (φ:Heap->Prop)
abbrev Hp:=Addr->Option HO
def upd (H:Hp) (a:Addr) (o:HO):Hp:=λb=>if b=a then some o else H b
theorem aj:upd H a o a=some o:=by unfold upd;rw[if_pos rfl]
theorem az (h:b≠a):upd H a o b=H b:=by unfold upd;rw[if_neg h]
theorem jV:upd (upd H a o) a u=upd H a u:=by
 funext b;unfold upd;split <;> rfl
theorem cC {H:Hp}{a b:Addr}{o u:HO}(h:H a=some o) (h':H b=some u) (d:o≠u):a≠b:=by
 intro e;subst e;rw[h] at h';exact d (wR h')
theorem aJ {H:Hp}{a b:Addr}{o:HO}(h:H a=some o) (h':H b=none):a≠b:=by
 intro e;subst e;rw[h] at h';cases h'
def TupN (h:Heap) (a:Addr) (items:Array Value):Prop:=∃o,h.get? a=some o/\o.cls=.type "tuple"/\∃n,o.data=.seq items n/\o.dict=none
theorem TupN.tup (x:TupN h a items):IsTup h a items:=let ⟨o,e,c,n,d,_⟩:=x;⟨o,e,c,n,d⟩
theorem TupN.new (h:Heap) (items:Array Value):TupN (h.push { cls:=.type "tuple",data:=.seq items }) h.objs.size items:=⟨_,xl _ rfl,rfl,_,rfl,rfl⟩
section
variable (P:Program) (w:World)
def ObjOk (H:Hp) (h:Heap) (a:Addr):HO -> Prop
 | .lst xs=>xs.length<=sizeLine/\∃(its:LW) (n:Nat),Vals xs its/\h.get? a=some { cls:=.type "list",data:=.seq its.toArray n }
 | .tup xs=>xs.length<=sizeLine/\∃its:LW,Vals xs its/\TupN h a its.toArray
 | .dK kvs=>kvs.length<=sizeLine/\(a==sysModules)=false/\∃vs,KV kvs vs/\h.DictOf (cc P w) a vs
 | .dT kvs=>kvs.length<=sizeLine/\(a==sysModules)=false/\∃xs:List (List Key × Addr × Value),
     Paired (λ(p:List Key × V) (q:List Key × Addr × Value)=>p.1=q.1/\H q.2.1=some (.tup (p.1.map kV))/\RelV p.2 q.2.2) kvs xs /\
     ∃o es ep,h.get? a=some o/\o.ExactDict/\o.data=.dict es ep/\es.toList=xs.map (entryOfKey (tupleKind (cc P w)))/\(xs.map (·.1)).Nodup
 | .set S n=>h.SetOf (intKind P w) a S n
 | .ins C dx fs=>H dx=some (.own a)/\fs.length<=1000/\dx≠a/\h.get? a=some (W.instObj C dx) /\
     ∃mA,h.Ns1 dx mA/\(∀f,RelO (fs.lookup f) (mA f))/\PySem.Within mA (fs.map (·.1))
 | .own _=>∃o,h.get? a=some o
 | .xd fs=>∃mA,h.Ns1 a mA/\∀f,RelO (fs.lookup f) (mA f)
 | .rng lo hi=>∃t u v,h.get? a=some { cls:=.type "range",data:=.fields #[.int lo t,.int hi u,.int 1 v] }
 | .frz o u=>h.get? a=some o/\ObjOk H h a u
 | .tbl ps=>h.get? a=some { cls:=.none,data:=.fields ps }
 | .met f x=>h.get? a=some (W.methodObj (.ref f) (.ref x))
 | .ext φ=>φ h/\(∃o,h.get? a=some o)/\∀h1 h2:Heap,φ h1->(∀o,h1.get? a=some o->h2.get? a=some o)->φ h2
def HOk (H:Hp) (h:Heap):Prop:=∀a o,H a=some o->ObjOk P w H h a o
end
section
variable {P:Program}{w:World}{H H':Hp}{h h':Heap}{a:Addr}{o:HO}
theorem ObjOk.lt (x:ObjOk P w H h a o):a<h.objs.size:=by
 cases o with
 | lst xs=>obtain⟨_,_,_,_,e⟩:=x;exact wT e
 | tup xs=>obtain⟨_,_,_,p⟩:=x;exact p.tup.lt
 | dK kvs=>obtain⟨_,_,_,_,o,_,_,e,_⟩:=x;exact wT e
 | dT kvs=>obtain⟨_,_,_,_,o,_,_,e,_⟩:=x;exact wT e
 | set S n=>obtain⟨o,_,_,_,e,_⟩:=x;exact wT e
 | ins C dx fs=>obtain⟨_,_,_,e,_⟩:=x;exact wT e
 | own y=>obtain⟨_,e⟩:=x;exact wT e
 | xd fs=>obtain⟨_,⟨_,_,_,e,_⟩,_⟩:=x;exact wT e
 | rng lo hi=>obtain⟨_,_,_,e⟩:=x;exact wT e
 | frz ob u=>obtain⟨e,_⟩:=x;exact wT e
 | tbl ps=>exact wT (show h.get? a=some _ from x)
 | met f y=>exact wT (show h.get? a=some _ from x)
 | ext φ=>obtain⟨_,⟨_,e⟩,_⟩:=x;exact wT e
theorem Paired.mapP:∀ {l₁:List α}{l₂:List β},Paired F l₁ l₂->(∀a b,F a b->G a b)->Paired G l₁ l₂
 | _,_,.nil,_=>.nil
 | _,_,.cons r t,f=>.cons (f _ _ r) (Paired.mapP t f)
theorem ObjOk.stay (x:ObjOk P w H h a o) (k:∀b u,(b=a∨H b=some (.own a))->h.get? b=some u->h'.get? b=some u)
    (F:∀b,H b=some (.own a)->H' b=some (.own a)) (B:∀b xs,H b=some (.tup xs)->H' b=some (.tup xs)):ObjOk P w H' h' a o:=by
 induction o with
 | lst xs=>obtain⟨z,l,n,r,e⟩:=x;exact⟨z,l,n,r,k _ _ (.inl rfl) e⟩
 | tup xs=>obtain⟨z,l,r,g,e,c⟩:=x;exact⟨z,l,r,g,k _ _ (.inl rfl) e,c⟩
 | dK kvs=>obtain⟨z,y,D,r,g,i,j,e,c⟩:=x;exact⟨z,y,D,r,g,i,j,k _ _ (.inl rfl) e,c⟩
 | dT kvs =>
  obtain⟨z,y,xs,r,g,i,j,e,c⟩:=x;exact⟨z,y,xs,Paired.mapP r λp q z=>⟨z.1,B _ _ z.2.1,z.2.2⟩,g,i,j,k _ _ (.inl rfl) e,c⟩
 | set S n=>obtain⟨g,i,j,t,e,c⟩:=x;exact⟨g,i,j,t,k _ _ (.inl rfl) e,c⟩
 | ins C dx fs =>
  obtain⟨d,z,G,e,m,⟨s,i,j,E,c⟩,r⟩:=x;exact⟨F _ d,z,G,k _ _ (.inl rfl) e,m,⟨s,i,j,k _ _ (.inr d) E,c⟩,r⟩
 | own y=>obtain⟨g,e⟩:=x;exact⟨g,k _ _ (.inl rfl) e⟩
 | xd fs=>obtain⟨m,⟨s,i,j,e,c⟩,r⟩:=x;exact⟨m,⟨s,i,j,k _ _ (.inl rfl) e,c⟩,r⟩
 | rng lo hi=>obtain⟨t,u,v,e⟩:=x;exact⟨t,u,v,k _ _ (.inl rfl) e⟩
 | frz g u ih=>obtain⟨e,q⟩:=x;exact⟨k _ _ (.inl rfl) e,ih q⟩
 | tbl ps =>
  have e:h.get? a=some { cls:=.none,data:=.fields ps }:=x;show h'.get? a=some { cls:=.none,data:=.fields ps };exact k a _ (.inl rfl) e
 | met f y =>
  have e:h.get? a=some (W.methodObj (.ref f) (.ref y)):=x;show h'.get? a=some (W.methodObj (.ref f) (.ref y));exact k a _ (.inl rfl) e
 | ext φ=>obtain⟨p,⟨o,e⟩,A⟩:=x;exact⟨A _ _ p λo q=>k _ _ (.inl rfl) q,⟨o,k _ _ (.inl rfl) e⟩,A⟩
theorem HOk.lt (x:HOk P w H h) (e:H a=some o):a<h.objs.size:=(x a o e).lt
theorem HOk.fresh (x:HOk P w H h) (e:h.objs.size<=a):H a=none:=by
 cases q:H a with
 | none=>rfl
 | some u=>exact absurd (xw (x.lt q) e) (yc _)
theorem HOk.kept (x:HOk P w H h) (k:∀b u,h.get? b=some u->h'.get? b=some u):HOk P w H h':=λa o e =>
 (x a o e).stay (λb u _ q=>k b u q) (λ_ q=>q) λ_ _ q=>q
theorem HOk.laid (x:HOk P w H h) (k:∀b u,h.get? b=some u->h'.get? b=some u) (i:h.objs.size<=a) (d:ObjOk P w (upd H a o) h' a o):HOk P w (upd H a o) h':=λb u e=>by
 have f:=x.fresh i;by_cases g:b=a
 ·subst g;rw[aj] at e;cases e;exact d
 ·rw[az g] at e;exact(x b u e).stay (λc v _ q=>k c v q) (λc q=>by rw[az (aJ q f)];exact q) λc j q=>by rw[az (aJ q f)];exact q
end
def Rd (H:Hp) (a:Addr) (u:HO):Prop:=H a=some u∨∃o,H a=some (.frz o u)
theorem Rd.ok (r:Rd H a u) (x:HOk P w H h):ObjOk P w H h a u:=by
 rcases r with r | ⟨o,r⟩
 ·exact x a u r
 ·obtain⟨_,q⟩:=x a _ r;exact q
def Mut:Option HO->Prop
 | some (.lst _)=>True
 | some (.dK _)=>True
 | some (.dT _)=>True
 | some (.set _ _)=>True
 | some (.ins _ _ _)=>True
 | some (.ext _)=>True
 | _=>False
section
variable {P:Program}{w:World}{H:Hp}{h h':Heap}{x e:Addr}{o':HO}
theorem HOk.write (s:HOk P w H h) (g:Mut (H x)) (he:e=x ∨ H e=some (.own x)) (k:∀b u, b ≠ e -> h.get? b=some u -> h'.get? b=some u) (n:∃u, h'.get? e=some u)
    (m:ObjOk P w (upd H x o') h' x o'):HOk P w (upd H x o') h':=λb u q=>by
 have d:∀c y,H c=some (.own y)->c≠x:=λc y r z=>by subst z;rw[r] at g;exact g
 have f:∀c i,H c=some (.tup i)->c≠x:=λc i r z=>by subst z;rw[r] at g;exact g
 by_cases l:b=x
 ·subst l;rw[aj] at q;cases q;exact m
 ·rw[az l] at q;by_cases a:b=e
  ·have o:H b=some (.own x):=by
      rcases he with z | z
      ·exact absurd (a.trans z) l
      ·rw[a];exact z
   rw[q] at o;cases o;obtain⟨v,p⟩:=n;exact⟨v,by rw[a];exact p⟩
  ·refine(s b u q).stay (λc v j r=>k c v ?_ r) (λc r=>by rw[az (d c b r)];exact r) λc i r=>by rw[az (f c i r)];exact r
   rcases j with rfl | j
   ·exact a
   ·rintro rfl;rcases he with z | z
    ·exact d c b j z
    ·rw[j] at z;cases z;exact l rfl
end
structure Un (fs ex:List Addr) (H H':Hp) (h h':Heap):Prop where
 keep:∀b o,h.get? b=some o->H b=none->b∉fs->b∉ex->h'.get? b=some o
 slot:∀b o,h.get? b=some o->H b=none->b∈fs->b∉ex->∃sl,h'.get? b=some { o with slots:=sl }
 free:∀b o,h.get? b=some o->H b=none->b∉ex->H' b=none
 there:∀b o,h.get? b=some o->b∉ex->∃o',h'.get? b=some o'
 tups:∀b xs,H b=some (.tup xs)->H' b=some (.tup xs)
 frzs:∀b o u,H b=some (.frz o u)->H' b=some (.frz o u)
 tbls:∀b ps,H b=some (.tbl ps)->∃more,H' b=some (.tbl (ps++more))
section
variable {fs fs' ex ex':List Addr}{H H1 H2:Hp}{h h1 h2 h':Heap}{a x e:Addr}{o:HO}
theorem Un.any (u:Un fs ex H H1 h h1) (q:h.get? b=some z) (n:H b=none) (a:b∉ex):∃sl,h1.get? b=some { z with slots:=sl }:=by
 by_cases c:b∈fs
 ·exact u.slot b z q n c a
 ·exact⟨z.slots,u.keep b z q n c a⟩
theorem Un.kept (k:∀b u,h.get? b=some u->h'.get? b=some u):Un fs ex H H h h' :=
 ⟨λb a q _ _ _=>k b a q,λb a q _ _ _=>⟨a.slots,k b a q⟩,λ_ _ _ n _=>n,λb a q _=>⟨a,k b a q⟩,λ_ _ q=>q,λ_ _ _ q=>q,λ_ c q=>⟨#[],by rw[q];simp⟩⟩
theorem Un.refl:Un fs ex H H h h:=Un.kept λ_ _ q=>q
theorem Un.laid (k:∀b u,h.get? b=some u->h'.get? b=some u) (hp:h.objs.size<=a) (hn:H a=none):Un fs ex H (upd H a o) h h' where
 keep:=λb u q _ _ _=>k b u q
 slot:=λb u q _ _ _=>⟨u.slots,k b u q⟩
 free:=λb u q n _=>by rw[az (xm (xw (wT q) hp))];exact n
 there:=λb u q _=>⟨u,k b u q⟩
 tups:=λb xs q=>by rw[az (aJ q hn)];exact q
 frzs:=λb u xs q=>by rw[az (aJ q hn)];exact q
 tbls:=λb ps q=>⟨#[],by rw[az (aJ q hn),q];simp⟩
theorem Un.write (c:Mut (H x)) (he:e=x∨H e=some (.own x)) (k:∀b u,b≠e->h.get? b=some u->h'.get? b=some u) (f:∃u,h'.get? e=some u):Un fs ex H (upd H x o) h h':=by
 have g:∀b,H b=none->b≠x:=λb n z=>by subst z;rw[n] at c;exact c
 have i:∀b,H b=none->b≠e:=λb n z=>by
  subst z;rcases he with r | r
  ·exact g b n r
  ·rw[n] at r;cases r
 have d:∀b u,H b=some u->¬ Mut (some u)->b≠x:=λb u q l z=>by subst z;rw[q] at c;exact l c
 refine⟨λb u q n _ _=>k b u (i b n) q,λb u q n _ _=>⟨u.slots,k b u (i b n) q⟩,λb u q n _=>by rw[az (g b n)];exact n,λb u q _=>?_,
  λb j q=>by rw[az (d b _ q λz=>z)];exact q,λb u j q=>by rw[az (d b _ q λz=>z)];exact q,λb m q=>⟨#[],by rw[az (d b _ q λz=>z),q];simp⟩⟩
 by_cases a:b=e
 ·subst a;exact f
 ·exact⟨u,k b u a q⟩
end
def trk (h:Heap) (H:Hp):List Addr:=(List.range h.objs.size).filter λa=>(H a).isSome
def gV (h:Heap) (H:Hp):Heap:=W.hideAll h (trk h H)
theorem qc (h:Heap) (H:Hp):(gV h H).objs.size=h.objs.size:=W.hideAll_size _ _
theorem qS (e:h.get? b=some o) (n:H b=none):(gV h H).get? b=some o :=
 W.hideAll_get _ e λa=>by
  have q:(H b).isSome=true:=(xn.mp a).2;rw[n] at q;simp at q
theorem tL (e:(gV h H).get? b=some o):h.get? b=some o/\H b=none:=by
 have a:h.get? b=some o:=W.of_hideAll (trk h H) e;refine⟨a,?_⟩;cases q:H b with
 | none=>rfl
 | some x =>
  have c:b∈trk h H:=xn.mpr ⟨List.mem_range.mpr (wT a),by simp[q]⟩;have z:(gV h H).get? b=none:=W.hideAll_none (trk h H) c;rw[z] at e;cases e
def tK (g h:Heap) (L:Addr):AO_:=(List.range h.objs.size).filterMap λa=>if a=L∨(g.get? a).isSome=true then none else (h.get? a).map λo=>(a,o)
def aM (g h:Heap) (L d:Addr):AO_:=(tK g h L).filter λp=>decide (p.1≠d)
structure Mod (K:W.Frag) (mg:MS) (base:Heap):Prop where
 kin:K.In base
 glob:base.Ns mainGlobals mg
 blt:∃mb,base.Ns builtinsNs mb/\∀x:Str,x≠"__name__"->mb x=bootBuiltins x
 nolimit:base.NoLimit
structure Cx where
 prog:Program
 w:World
 K:W.Frag
 mg:MS
 base:Heap
 A:Around
 N:LS
 s₀:Shared
 H₀:Hp
 env:Env
 outer:List Env
 stack:List Env
 ex:List Addr
 fn:Str->Bool
 calm:Bool
 pn:AO_
 xe:QS
def frs (l:List Env):List Addr:=l.filterMap (·.frame)
abbrev Cx.fs (X:Cx):List Addr:=frs X.outer
def Vis (sc:Scope) (x:Str):Prop:=sc.names.lookup x=some .local∨sc.names.lookup x=some .cell∨sc.names.lookup x=some .free
def Loc (sc:Scope) (x:Str):Prop:=sc.names.lookup x=some .local∨sc.names.lookup x=some .cell
def Look (env:Env) (h:Heap) (m:MS) (x:Str) (u:Value):Prop :=
 (env.kindOf x=some .local/\m x=some u)∨((env.kindOf x=some .cell∨env.kindOf x=some .free)/\∃c,env.cells.lookup x=some c/\h.IsCell c (some u))
structure Cx.Ok (X:Cx):Prop where
 mod:Mod X.K X.mg X.base
 kind:X.env.scope.kind=.function
 glob:X.env.globals=mainGlobals
 blt:X.env.builtins=builtinsNs
 above:X.s₀.heap.objs.size<=X.env.locals
 inj:∀x y c,X.env.cells.lookup x=some c->X.env.cells.lookup y=some c->x=y
 has:∀x,(X.env.kindOf x=some .cell∨X.env.kindOf x=some .free)->∃c,X.env.cells.lookup x=some c
 cab:∀x c,X.fn x=true->X.env.cells.lookup x=some c->X.s₀.heap.objs.size<=c
 hd:X.calm=true->X.A.handled=none
 frames:X.A.frames=some X.stack
 stk:X.stack=X.outer∨(X.stack=X.env::X.outer/\X.env.frame=some X.env.locals)
 exf:∀b∈X.ex,b≠X.env.locals/\∀x c,X.env.cells.lookup x=some c->c≠b
 bs:∀b o,X.base.get? b=some o->X.s₀.heap.get? b=some o/\X.H₀ b=none
 bsz:X.base.objs.size<=X.s₀.heap.objs.size
 noex:∀b o,X.base.get? b=some o->b∉X.ex
 exfs:∀b∈X.ex,b∉X.fs
 funs:X.s₀.heap.FunFrames X.base X.outer
 frf:∀b∈X.fs,X.H₀ b=none
structure Inv (X:Cx) (pins:AO_) (σ:List (Option V)) (H:Hp) (s:Shared):Prop where
 ok:X.Ok
 os:s.os=X.s₀.os
 bare:AllBare s.gens
 base:Un X.fs X.ex X.H₀ H X.s₀.heap s.heap
 loc:∃m,s.heap.Ns X.env.locals m/\∀(i:Nat) (x:Str) (v:V),X.N[i]? = some x->σ[i]? = some (some v)->Vis X.env.scope x->∃u,RelV v u/\Look X.env s.heap m x u
 cell:∀x c,X.env.cells.lookup x=some c->∃v,s.heap.IsCell c v
 free:H X.env.locals=none
 freeC:∀x c,X.env.cells.lookup x=some c->H c=none
 pin:∀p∈X.pn++pins,s.heap.get? p.1=some p.2/\H p.1=none/\p.1≠X.env.locals/\p.1∉X.fs/\∀v,p.2.data≠.cell v
 hok:HOk X.prog X.w H s.heap
 len:σ.length=X.N.length
section
variable {X:Cx}{pins:AO_}{σ:List (Option V)}{H H':Hp}{s:Shared}{h':Heap}
theorem Cx.Ok.nofr (c:X.Ok) (e:X.base.get? b=some o):b∉X.fs:=λa=>by
 have:=(c.funs.mem a).1;rw[e] at this;cases this
theorem Inv.bs (I:Inv X pins σ H s):∀b o,X.base.get? b=some o->s.heap.get? b=some o/\H b=none:=λb o e =>
 ⟨I.base.keep b o (I.ok.bs b o e).1 (I.ok.bs b o e).2 (I.ok.nofr e) (I.ok.noex b o e),I.base.free b o (I.ok.bs b o e).1 (I.ok.bs b o e).2 (I.ok.noex b o e)⟩
theorem Inv.bk (I:Inv X pins σ H s):∀b o,X.base.get? b=some o->s.heap.get? b=some o:=λb o e=>(I.bs b o e).1
theorem Inv.mod (I:Inv X pins σ H s):Mod X.K X.mg X.base:=I.ok.mod
theorem Inv.kIn (I:Inv X pins σ H s):X.K.In s.heap:=I.ok.mod.kin.keeps I.bk
theorem Inv.lt (I:Inv X pins σ H s):X.env.locals<s.heap.objs.size:=let ⟨_,a,_⟩:=I.loc;a.lt
theorem Inv.sz (I:Inv X pins σ H s):X.s₀.heap.objs.size<=s.heap.objs.size:=wV I.ok.above (Nat.le_of_lt I.lt)
theorem Inv.nofs (I:Inv X pins σ H s) (h:s.heap.objs.size<=a):a∉X.fs:=λb=>by
 obtain⟨_,o,c,_⟩:=I.ok.funs.mem b;exact absurd (xw (wT c) (wV I.sz h)) (yc _)
theorem Inv.cne (I:Inv X pins σ H s):∀x c,X.env.cells.lookup x=some c->c≠X.env.locals:=λx c e z=>by
 obtain⟨v,o,d,f⟩:=I.cell x c e;obtain⟨m,⟨i,g,h,b,a,_⟩,_⟩:=I.loc;rw[z,b] at d;cases d;rw[a] at f;cases f
theorem Inv.funs (I:Inv X pins σ H s):s.heap.FunFrames X.base X.outer := by
 have c:∀(l:List Env),(∀b∈frs l,b∈X.fs)->X.s₀.heap.FunFrames X.base l->s.heap.FunFrames X.base l:=by
  intro l
  induction l with
  | nil=>intro _ _;trivial
  | cons env r ih =>
   intro g i;obtain⟨n,⟨L,o,f,j,m,k⟩,h⟩:=i;have a:L∈X.fs:=g L (by unfold frs;rw[List.filterMap_cons,f];exact x5);obtain⟨p,e⟩:=I.base.slot L o m (I.ok.frf L a) a λz=>I.ok.exfs L z a;exact⟨n,⟨L,_,f,j,e,k⟩,ih (λb d=>g b (by unfold frs;rw[List.filterMap_cons,f];exact xo _ d)) h⟩
 exact c X.outer (λ_ d=>d) I.ok.funs
theorem Inv.stack (I:Inv X pins σ H s):s.heap.FunFrames X.base X.stack:=by
 rcases I.ok.stk with e | ⟨e,b⟩
 ·rw[e];exact I.funs
 ·rw[e];obtain⟨m,a,_⟩:=I.loc;refine .cons (by rw[I.ok.kind];decide) b a ?_ I.funs;exact Heap.get?_none_of_le (wV I.ok.bsz I.ok.above)
theorem Inv.stkSub (I:Inv X pins σ H s):∀b∈frs X.stack,b∈X.env.locals::X.fs:=λb a=>by
 rcases I.ok.stk with e | ⟨e,c⟩
 ·rw[e] at a;exact xo _ a
 ·rw[e] at a;unfold frs at a;rw[List.filterMap_cons,c] at a;exact a
theorem Inv.stkFree (I:Inv X pins σ H s):∀b∈frs X.stack,H b=none:=λb a=>by
 rcases wY.mp (I.stkSub b a) with e | a
 ·rw[e];exact I.free
 ·obtain⟨_,o,c,_⟩:=I.ok.funs.mem a;exact I.base.free b o c (I.ok.frf b a) λz=>I.ok.exfs b z a
theorem Inv.step {g':Array GenState}{t':Nat}{d':Drawn}{ch:List Addr}(I:Inv X pins σ H s)
    (g:∀b∈ch,(b∈X.ex∨X.s₀.heap.objs.size<=b)/\b≠X.env.locals/\(∀x c,X.env.cells.lookup x=some c->c≠b)/\∀p∈X.pn++pins,p.1≠b)
    (t:∀b o,b≠X.env.locals->b∉X.fs->b∉ch->s.heap.get? b=some o->H b=none->h'.get? b=some o)
    (A:∀b o,b≠X.env.locals->b∈X.fs->b∉ch->s.heap.get? b=some o->H b=none->∃sl,h'.get? b=some { o with slots:=sl }) (f:∀b o,b∉ch->s.heap.get? b=some o->H b=none->H' b=none)
    (C:∀b o,b∉ch->s.heap.get? b=some o->∃o',h'.get? b=some o')
    (K:∀b xs,H b=some (.tup xs)->H' b=some (.tup xs)) (F:∀b o u,H b=some (.frz o u)->H' b=some (.frz o u)) (E:∀b ps,H b=some (.tbl ps)->∃O,H' b=some (.tbl (ps++O)))
    (ns:∀m,s.heap.Ns X.env.locals m->h'.Ns X.env.locals m) (M:HOk X.prog X.w H' h') (V:AllBare g') :
    Inv X pins σ H' { s with heap:=h',gens:=g',drawn:=d',toks:=t' }:=by
 have G:∀b o,X.s₀.heap.get? b=some o->b≠X.env.locals:=λb o e=>xm (xw (wT e) I.ok.above);have y:∀b o,X.s₀.heap.get? b=some o->b∉X.ex->b∉ch:=λb o e a B=>by
  rcases (g b B).1 with z | z
  ·exact a z
  ·exact absurd (xw (wT e) z) (yc _)
 have j:∀x c,X.env.cells.lookup x=some c->∀v,s.heap.IsCell c v->h'.IsCell c v:=λx c e v ⟨o,D,N⟩=>by
  have h:c∉ch:=λz=>(g c z).2.2.1 x c e rfl;by_cases P:c∈X.fs
  ·obtain⟨sl,q⟩:=A c o (I.cne x c e) P h D (I.freeC x c e);exact⟨_,q,N⟩
  ·exact⟨o,t c o (I.cne x c e) P h D (I.freeC x c e),N⟩
 refine⟨I.ok,I.os,V,⟨λb o e n B a=>?_,λb o e n B a=>?_,λb o e n a=>?_,λb o e a=>?_,λb xs e=>K b xs (I.base.tups b xs e),λb o xs e=>F b o xs (I.base.frzs b o xs e),λb ps e=>?_⟩,?_,λx c e=>?_,?_,λx c e=>?_,λp S=>?_,M,I.len⟩
 ·exact t b o (G b o e) B (y b o e a) (I.base.keep b o e n B a) (I.base.free b o e n a)
 ·obtain⟨sl,w⟩:=I.base.slot b o e n B a;obtain⟨L,J⟩:=A b _ (G b o e) B (y b o e a) w (I.base.free b o e n a);exact⟨L,J⟩
 ·obtain⟨o',w⟩:=I.base.there b o e a;exact f b o' (y b o e a) w (I.base.free b o e n a)
 ·obtain⟨o',w⟩:=I.base.there b o e a;exact C b o' (y b o e a) w
 ·obtain⟨W,w⟩:=I.base.tbls b ps e;obtain⟨Z,J⟩:=E b _ w;exact⟨W++Z,by rw[J,Array.append_assoc]⟩
 ·obtain⟨m,U,T⟩:=I.loc;refine⟨m,ns m U,λi x v w J Y=>?_⟩;obtain⟨u,r,l⟩:=T i x v w J Y;refine⟨u,r,?_⟩;rcases l with l | ⟨k,c,e,z⟩
  ·exact .inl l
  ·exact .inr ⟨k,c,e,j x c e _ z⟩
 ·obtain⟨v,z⟩:=I.cell x c e;exact⟨v,j x c e v z⟩
 ·obtain⟨m,⟨o,_,_,D,_⟩,_⟩:=I.loc;exact f _ o (λz=>(g _ z).2.1 rfl) D I.free
 ·obtain⟨v,o,D,N⟩:=I.cell x c e;exact f c o (λz=>(g c z).2.2.1 x c e rfl) D (I.freeC x c e)
 ·obtain⟨e,n,Q,R,d⟩:=I.pin p S;have h:p.1∉ch:=λz=>(g p.1 z).2.2.2 p S rfl;exact⟨t p.1 p.2 Q R h e n,f p.1 p.2 h e n,Q,R,d⟩
theorem Inv.un {t':Nat}(I:Inv X pins σ H s) (u:Un X.fs [] H H' s.heap h') (d:HOk X.prog X.w H' h'):Inv X pins σ H' { s with heap:=h',toks:=t' }:=by
 obtain⟨m,⟨o,l,t,h,r⟩,_⟩:=id I.loc;obtain⟨p,i⟩:=u.any h I.free (by simp);exact I.step (g':=s.gens) (d':=s.drawn) (ch:=[]) (λ_ z=>nomatch z) (λb o _ g _ e n=>u.keep b o e n g (by simp)) (λb o _ g _ e n=>u.slot b o e n g (by simp)) (λb o _ e n=>u.free b o e n (by simp)) (λb o _ e=>u.there b o e (by simp)) u.tups u.frzs u.tbls (λq k=>by
  obtain⟨v,f,c,a,j⟩:=k;rw[h] at a;cases a;exact⟨_,f,c,i,j⟩) d I.bare
theorem Inv.call {g':Array GenState}{t':Nat}{d':Drawn}{ch:List Addr}(I:Inv X pins σ H s) (u:Un (frs X.stack) ch H H' s.heap h') (h:HOk X.prog X.w H' h') (t:AllBare g')
    (f:∀b∈ch,(b∈X.ex∨X.s₀.heap.objs.size<=b)/\b≠X.env.locals/\(∀x c,X.env.cells.lookup x=some c->c≠b)/\∀p∈X.pn++pins,p.1≠b) :
    Inv X pins σ H' { s with heap:=h',gens:=g',drawn:=d',toks:=t' }:=by
 obtain⟨m,⟨o,w,B,k,r⟩,_⟩:=id I.loc;obtain⟨A,i⟩:=u.any k I.free λz=>(f _ z).2.1 rfl;exact I.step (ch:=ch) f (λb o i v a e n=>u.keep b o e n (λz=>(wY.mp (I.stkSub b z)).elim i v) a) (λb o _ _ a e n=>u.any e n a) (λb o a e n=>u.free b o e n a) (λb o a e=>u.there b o e a) u.tups u.frzs u.tbls (λy q=>by
  obtain⟨C,j,g,d,l⟩:=q;rw[k] at d;cases d;exact⟨_,j,g,i,l⟩) h t
theorem Inv.turned {t':Nat}(I:Inv X pins σ H s) (k:∀b o,b≠B->s.heap.get? b=some o->h'.get? b=some o) (i:H B=none) (f:B≠X.env.locals)
    (h:B∈X.ex∨X.s₀.heap.objs.size<=B) (A:∀x c,X.env.cells.lookup x=some c->c≠B) (l:∀p∈X.pn++pins,p.1≠B):Inv X pins σ H { s with heap:=h',toks:=t' }:=by
 have d:∀b u,H b=some u->b≠B:=λb u e z=>by rw[z,i] at e;cases e
 refine I.step (g':=s.gens) (d':=s.drawn) (ch:=[B]) (λb y=>?_) (λb o _ _ a e _=>k b o (λz=>a (by simp[z])) e) (λb o _ _ a e _=>⟨o.slots,k b o (λz=>a (by simp[z])) e⟩) (λ_ _ _ _ n=>n)
  (λb o a e=>⟨o,k b o (λz=>a (by simp[z])) e⟩) (λ_ _ e=>e) (λ_ _ _ e=>e) (λb C e=>⟨#[],by rw[e];simp⟩) (λm t=>?_) (λb u e=>?_) I.bare
 ·have e:b=B:=by simpa using y
  subst e;exact⟨h,f,A,l⟩
 ·obtain⟨o,g,j,w,r⟩:=t;exact⟨o,g,j,k _ o (Ne.symm f) w,r⟩
 ·refine(I.hok b u e).stay (λc v a q=>k c v ?_ q) (λ_ q=>q) λ_ _ q=>q;rcases a with z | z
  ·rw[z];exact d b u e
  ·exact d c _ z
theorem Inv.tok (I:Inv X pins σ H s) (t:Nat):Inv X pins σ H { s with toks:=t }:=I.un (h':=s.heap) (t':=t) Un.refl I.hok
theorem Inv.kept (I:Inv X pins σ H s) (k:∀b u,s.heap.get? b=some u->h'.get? b=some u):Inv X pins σ H { s with heap:=h',toks:=t' }:=I.un (Un.kept k) (I.hok.kept k)
theorem Inv.laid (I:Inv X pins σ H s) (k:∀b u,s.heap.get? b=some u->h'.get? b=some u) (c:s.heap.objs.size<=a) (d:ObjOk X.prog X.w (upd H a o) h' a o) :
    Inv X pins σ (upd H a o) { s with heap:=h',toks:=t' }:=I.un (Un.laid k c (I.hok.fresh c)) (I.hok.laid k c d)
theorem Inv.write (I:Inv X pins σ H s) (d:Mut (H x)) (he:e=x∨H e=some (.own x)) (k:∀b u,b≠e->s.heap.get? b=some u->h'.get? b=some u) (a:∃u,h'.get? e=some u)
    (c:ObjOk X.prog X.w (upd H x o) h' x o):Inv X pins σ (upd H x o) { s with heap:=h',toks:=t' }:=I.un (Un.write d he k a) (I.hok.write d he k a c)
theorem Inv.pins_of (I:Inv X pins σ H s) (h:∀p∈q,s.heap.get? p.1=some p.2/\H p.1=none/\p.1≠X.env.locals/\p.1∉X.fs/\∀v,p.2.data≠.cell v):Inv X q σ H s :=
 ⟨I.ok,I.os,I.bare,I.base,I.loc,I.cell,I.free,I.freeC,λp a=>(w8.mp a).elim (λz=>I.pin p (xT _ z)) (h p),I.hok,I.len⟩
theorem lX {N:LS}(c:N.Nodup) {i j:Nat}{x:Str}(a:N[i]? = some x) (b:N[j]? = some x):i=j:=by
 obtain⟨f,e⟩:=wO.mp a;obtain⟨g,d⟩:=wO.mp b;exact(List.getElem_inj c).mp (e.trans d.symm)
theorem kG {M:Model}{i:Nat}{x:Str}{Q:Unit -> Shared -> Prop}(I:Inv X pins σ H s) (hN:X.N.Nodup) (O:X.N[i]? = some x) (w:Loc X.env.scope x) (r:RelV v u)
    (h:∀s',Inv X pins (σ.set i (some v)) H s'->(∃a,Heap.SameBut a s.heap s'.heap/\(a=X.env.locals∨X.env.cells.lookup x=some a))->Q () s') (hf:X.fn x=true∨X.env.scope.names.lookup x=some .local:=by first | exact .inl rfl | exact .inr rfl | assumption):wpAny M A (storeName X.env x u) Q E s:=by
 obtain⟨m,hn,hl⟩:=id I.loc;have U:(X.env.scope.kind==.class||(X.env.scope.kind==.module&&X.env.locals != X.env.globals))=false:=by rw[I.ok.kind];rfl
 have D:i<σ.length:=by rw[I.len];exact(wO.mp O).1
 have L:=I.cne;have l:∀ {a:Addr} {N:Heap},(∃o,s.heap.get? a=some o/\H a=none)->Heap.SameBut a s.heap N->HOk X.prog X.w H N:=λ{a N} ha f b ob e=>by
  obtain⟨_,_,B⟩:=ha;refine(I.hok b ob e).stay (λc V t q=>(f.2 c ?_).trans q) (λ_ q=>q) λ_ _ q=>q;rintro rfl;rcases t with rfl | t
  ·rw[B] at e;cases e
  ·rw[B] at t;cases t
 rcases w with F | F
 ·refine wpAny_storeName_local F hn (λN a0 f => ?_) U;obtain⟨oL,_,_,a1,_⟩:=id hn;refine h _ ⟨I.ok,I.os,I.bare,⟨λb o e n K w=>?_,λb o e n K w=>?_,I.base.free,λb o e w=>?_,I.base.tups,I.base.frzs,I.base.tbls⟩,⟨_,a0,λj y v' g C e3=>?_⟩,λy c e=>?_,I.free,I.freeC,λp hp=>?_,l ⟨oL,a1,I.free⟩ f,by simpa using I.len⟩ ⟨_,f,.inl rfl⟩
  ·exact(f.2 b (xm (xw (wT e) I.ok.above))).trans (I.base.keep b o e n K w)
  ·obtain⟨sl,g⟩:=I.base.slot b o e n K w;exact⟨sl,(f.2 b (xm (xw (wT e) I.ok.above))).trans g⟩
  ·obtain⟨o',g⟩:=I.base.there b o e w;exact⟨o',(f.2 b (xm (xw (wT e) I.ok.above))).trans g⟩
  ·by_cases J:j=i
   ·subst J;rw[O] at g;cases g;rw[List.getElem?_set_self D] at C;cases C;exact⟨u,r,.inl ⟨F,by simp⟩⟩
   ·rw[List.getElem?_set_ne (Ne.symm J)] at C;obtain⟨Z,r',q⟩:=hl j y v' g C e3;refine⟨Z,r',?_⟩;rcases q with⟨k,e⟩ | ⟨k,c,e,z⟩
    ·refine .inl ⟨k,?_⟩;have:y≠x:=λe=>J (lX hN g (e ▸ O));simp[this,e]
    ·exact .inr ⟨k,c,e,z.sameBut f (L y c e)⟩
  ·obtain⟨V,z⟩:=I.cell y c e;exact⟨V,z.sameBut f (L y c e)⟩
  ·obtain⟨e,n,W,nf,d⟩:=I.pin p hp;exact⟨(f.2 p.1 W).trans e,n,W,nf,d⟩
 ·have G:X.fn x=true := by
     rcases hf with z | z
     ·exact z
     ·rw[z] at F;cases F
  obtain⟨c,t⟩:=I.ok.has x (.inl F);obtain⟨V,z⟩:=I.cell x c t;refine wpAny_storeName_cell I.ok.kind F t z (λN T f=>?_);obtain⟨oc,P,S⟩:=id z;refine h { s with heap:=N } ⟨I.ok,I.os,I.bare,⟨λb o e n K w=>?_,λb o e n K w=>?_,I.base.free,λb o e w=>?_,I.base.tups,I.base.frzs,I.base.tbls⟩,⟨m,hn.sameBut f (Ne.symm (L x c t)),λj y v' g C e3=>?_⟩,λy Y e=>?_,I.free,I.freeC,λp hp=>?_,l ⟨oc,P,I.freeC x c t⟩ f,by simpa using I.len⟩ ⟨c,f,.inr t⟩
  ·exact(f.2 b (xm (xw (wT e) (I.ok.cab x c G t)))).trans (I.base.keep b o e n K w)
  ·obtain⟨sl,g⟩:=I.base.slot b o e n K w;exact⟨sl,(f.2 b (xm (xw (wT e) (I.ok.cab x c G t)))).trans g⟩
  ·obtain⟨o',g⟩:=I.base.there b o e w;exact⟨o',(f.2 b (xm (xw (wT e) (I.ok.cab x c G t)))).trans g⟩
  ·by_cases J:j=i
   ·subst J;rw[O] at g;cases g;rw[List.getElem?_set_self D] at C;cases C;exact⟨u,r,.inr ⟨.inl F,c,t,T⟩⟩
   ·rw[List.getElem?_set_ne (Ne.symm J)] at C;obtain⟨Z,r',q⟩:=hl j y v' g C e3;refine⟨Z,r',?_⟩;rcases q with q | ⟨k,Y,e,z'⟩
    ·exact .inl q
    ·refine .inr ⟨k,Y,e,z'.sameBut f ?_⟩;rintro rfl;exact J (lX hN g (I.ok.inj _ _ _ e t ▸ O))
  ·by_cases R:Y=c
   ·subst R;exact⟨_,T⟩
   ·obtain⟨w2,z2⟩:=I.cell y Y e;exact⟨w2,z2.sameBut f R⟩
  ·obtain⟨e,n,W,nf,d⟩:=I.pin p hp;refine⟨(f.2 p.1 ?_).trans e,n,W,nf,d⟩;intro q;rw[q,P] at e;have q':oc=p.2:=wR e;exact d V (by rw[<- q'];exact S)
theorem gS (I:Inv X pins σ H s) (b:X.N.Nodup) (c:X.N[i]? = some x) (a:Loc X.env.scope x) (r:RelV v u)
    (h:∀s',Inv X pins (σ.set i (some v)) H s'->Q () s') (d:X.fn x=true∨X.env.scope.names.lookup x=some .local:=by first | exact .inl rfl | exact .inr rfl | assumption):wpAny M A (storeName X.env x u) Q E s :=
 kG I b c a r (λs' e _=>h s' e) d
theorem Inv.call' (I:Inv X pins σ H s) (h:s'.os=s.os) (u:Un (frs X.stack) ch H H' s.heap s'.heap) (a:HOk X.prog X.w H' s'.heap) (f:AllBare s'.gens)
    (d:∀b∈ch,(b∈X.ex∨X.s₀.heap.objs.size<=b)/\b≠X.env.locals/\(∀x c,X.env.cells.lookup x=some c->c≠b)/\∀p∈X.pn++pins,p.1≠b):Inv X pins σ H' s':=by
 obtain⟨i,g',d',t',g⟩:=s';have e:g=s.os:=h;subst e;exact I.call (g':=g') (t':=t') (d':=d') u a f d
end
abbrev XK:=Value->Option Addr->Hp->Prop
abbrev St:=List (Option V)
abbrev _root_.SH:=St->Hp->Prop
abbrev VK:=V->Hp->Prop
abbrev TE:=St->Hp->VK->Prop
abbrev TT:=St->Hp->(Bool->Hp->Prop)->Prop
abbrev TA:=St->Hp->(LV->Hp->Prop)->Prop
structure Ends where
 nx:SH
 rt:VK
 bk:SH:=λ_ _=>False
 ct:SH:=λ_ _=>False
abbrev TS:=Ends->SH
def EP (X:Cx) (pins:AO_) (σ:St) (Q:VK) (u:Value) (s':Shared):Prop:=∃v H',Inv X pins σ H' s'/\RelV v u/\Q v H'
def TP (X:Cx) (pins:AO_) (σ:St) (Q:Bool->Hp->Prop) (b:Bool) (s':Shared):Prop:=∃H',Inv X pins σ H' s'/\Q b H'
def AP (X:Cx) (pins:AO_) (σ:St) (Q:LV->Hp->Prop) (us:LW) (s':Shared):Prop:=∃vs H',Inv X pins σ H' s'/\Vals vs us/\Q vs H'
def SP (X:Cx) (pins:AO_) (D:Ends) (f:Flow) (s':Shared):Prop :=
 match f with
 | .next=>∃σ' H',Inv X pins σ' H' s'/\D.nx σ' H'
 | .brk=>∃σ' H',Inv X pins σ' H' s'/\D.bk σ' H'
 | .cont=>∃σ' H',Inv X pins σ' H' s'/\D.ct σ' H'
 | .ret u=>∃v σ' H',Inv X pins σ' H' s'/\RelV v u/\D.rt v H'
def PE (X:Cx) (e:Expr) (t:TE):Prop :=
 ∀(pins:AO_) (s:Shared) (σ:St) (H:Hp) (Q:VK),Inv X pins σ H s->t σ H Q->wpAny (model X.prog X.w) X.A (eval e X.env) (EP X pins σ Q) X.xe s
def PT (X:Cx) (e:Expr) (t:TT):Prop :=
 ∀(pins:AO_) (s:Shared) (σ:St) (H:Hp) (Q:Bool->Hp->Prop),Inv X pins σ H s->t σ H Q->wpAny (model X.prog X.w) X.A (isTrue e X.env (eval e X.env)) (TP X pins σ Q) X.xe s
def PW (X:Cx) (e:Expr) (t:TT):Prop :=
 ∀(whole:Sem Value) (pins:AO_) (s:Shared) (σ:St) (H:Hp) (Q:Bool->Hp->Prop),Inv X pins σ H s->t σ H Q->wpAny (model X.prog X.w) X.A (isTrue e X.env whole) (TP X pins σ Q) X.xe s
theorem PW.pt (h:PW X e t):PT X e t:=h _
def PA (X:Cx) (es:List Expr) (t:TA):Prop :=
 ∀(pos:Pos) (pins:AO_) (s:Shared) (σ:St) (H:Hp) (Q:LV->Hp->Prop),Inv X pins σ H s->t σ H Q->wpAny (model X.prog X.w) X.A (spliced (backTo pos (starEach es X.env))) (AP X pins σ Q) X.xe s
def PS (X:Cx) (st:Stmt) (t:TS):Prop :=
 ∀(pins:AO_) (s:Shared) (σ:St) (H:Hp) (D:Ends),Inv X pins σ H s->t D σ H->wpAny (model X.prog X.w) X.A (exec st X.env) (SP X pins D) X.xe s
def PSs (X:Cx) (st:List Stmt) (t:TS):Prop :=
 ∀(pins:AO_) (s:Shared) (σ:St) (H:Hp) (D:Ends),Inv X pins σ H s->t D σ H->wpAny (model X.prog X.w) X.A (execs st X.env) (SP X pins D) X.xe s
theorem thn (h:wpAny M A t Q E s) (b:∀a s,Q a s->q a s):wpAny M A t q E s:=xP h b λ_ _ x=>x
section
variable {X:Cx}
def dD (i:Nat):TE:=λσ H Q=>∃v,σ[i]? = some (some v)/\Q v H
def tC (v:V):TE:=λ_ H Q=>Q v H
theorem vz (q:X.N[i]? = some x) (t:Vis X.env.scope x) (j:(x==("__debug__":Str))=false:=by decide) (g:(x==("__classdict__":Str))=false:=by decide):PE X (.Name x pos) (dD i):=by
 intro f s w H Q I h;obtain⟨v,e,h⟩:=h;obtain⟨m,o,n⟩:=I.loc;obtain⟨u,r,l⟩:=n i x v q e t;have b:EP X f w Q u s:=⟨v,H,I,r,h⟩
 rcases l with⟨d,p⟩ | ⟨d,c,k,a⟩
 ·exact wpAny_Name (wpAny_loadName_local I.ok.kind d o p b) j
 ·rcases d with d | d
  ·exact wpAny_Name (wpAny_loadName_cell I.ok.kind d k a b) j
  ·exact wpAny_Name (wpAny_loadName_free I.ok.kind d k a b g) j
theorem ac {i j pos}:PE X (.Constant (.int i) j pos) (tC (.int i)):=λ_ _ _ H _ I h=>wpAny_Constant_int ⟨.int i,H,I.tok _,⟨_,rfl⟩,h⟩
theorem dU {b j pos}:PE X (.Constant (.bool b) j pos) (tC (.bl b)):=λ_ _ _ H _ I h=>Constant_bool ⟨.bl b,H,I,rfl,h⟩
theorem bj {j pos}:PE X (.Constant .none j pos) (tC .non):=λ_ _ _ H _ I h=>Constant_none ⟨.non,H,I,rfl,h⟩
theorem aR {x j pos}:PE X (.Constant (.str x) j pos) (tC (.str x)):=λ_ _ _ H _ I h=>Calls.Constant_str ⟨.str x,H,I.tok _,⟨_,rfl⟩,h⟩
def Gl (X:Cx) (x:Str):Prop:=X.env.kindOf x=some .globalImplicit
theorem mY (I:Inv X pins σ H s) (a:Gl X x) (b:X.mg x=some u) (h:Q u s)
    (c:(x==("__debug__":Str))=false:=by decide):wpAny (model X.prog X.w) X.A (eval (.Name x pos) X.env) Q E s :=
 Calls.Name_function_global I.ok.kind a (Calls.loadGlobal_global (by rw[I.ok.glob];exact I.mod.glob.keeps I.bk) b h) c
theorem fL (I:Inv X pins σ H s) (c:Gl X x) (a:X.mg x=none) (e:bootBuiltins x=some u) (h:Q u s)
    (d:x≠"__name__":=by decide) (g:(x==("__debug__":Str))=false:=by decide):wpAny (model X.prog X.w) X.A (eval (.Name x pos) X.env) Q E s:=by
 obtain⟨i,b,f⟩:=I.mod.blt;exact Calls.Name_function_global I.ok.kind c (Calls.loadGlobal_builtin (by rw[I.ok.glob];exact I.mod.glob.keeps I.bk) a (by rw[I.ok.blt];exact b.keeps I.bk) ((f x d).trans e) h) g
theorem bU (b:Gl X x) (a:X.mg x=some u) (r:RelV v u) (c:(x==("__debug__":Str))=false:=by decide):PE X (.Name x pos) (tC v) :=
 λ_ _ _ H _ I h=>mY I b a ⟨v,H,I,r,h⟩ c
theorem kd (b:Gl X x) (a:X.mg x=none) (d:bootBuiltins x=some u) (r:RelV v u) (c:x≠"__name__":=by decide) (e:(x==("__debug__":Str))=false:=by decide):PE X (.Name x pos) (tC v) :=
 λ_ _ _ H _ I h=>fL I b a d ⟨v,H,I,r,h⟩ c e
variable {a b:Expr}{ta tb:TE}{pos:Pos}
def tB (t:TE):TT:=λσ H Q=>t σ H λx H1=>∃c,x=.bl c/\Q c H1
theorem eS (h:PE X e t) (he:∀z,isTrue e X.env z=(do let v ← z;standAt e.pos;holding [v] (truthy v)):=by intro _;rfl):PT X e (tB t):=by
 intro a s g H Q I c;refine isTrue_plain (thn (h a s g H _ I c) λv k ⟨x,i,b,j,f⟩=>?_) (he _);obtain⟨d,rfl,q⟩:=f;cases j;exact wpAny_truthy_bool ⟨i,b,q⟩
variable {tA tB':TT}{aM:List Expr}
def uH (t u:TT):TT:=λσ H Q=>t σ H λc H1=>if c=true then u σ H1 Q else Q false H1
def tOr (t u:TT):TT:=λσ H Q=>t σ H λc H1=>if c=true then Q true H1 else u σ H1 Q
def tNot (t:TT):TT:=λσ H Q=>t σ H λc H1=>Q (!c) H1
theorem bO (f:PT X a tA):PW X (.BoolOp .And [a] pos) tA:=by
 intro i b s d H Q I h;refine isTrue_and (thn (f b s d H Q I h) λc g e=>?_);cases c with
 | true=>exact isTrue_and_nil e
 | false=>exact e
theorem cA (f:PT X a tA):PW X (.BoolOp .Or [a] pos) tA:=by
 intro i b s d H Q I h;refine isTrue_or (thn (f b s d H Q I h) λc g e=>?_);cases c with
 | false=>exact isTrue_or_nil e
 | true=>exact e
theorem cj (m:PT X a tA) (l:PW X (.BoolOp .And (b::aM) pos) tB'):PW X (.BoolOp .And (a::b::aM) pos) (uH tA tB'):=by
 intro k d s i H Q I h;refine isTrue_and (thn (m d s i H _ I h) λc j ⟨f,e,g⟩=>?_);cases c with
 | true=>exact l k d j i f Q e g
 | false=>exact⟨f,e,g⟩
theorem cM (m:PT X a tA) (l:PW X (.BoolOp .Or (b::aM) pos) tB'):PW X (.BoolOp .Or (a::b::aM) pos) (tOr tA tB'):=by
 intro k d s i H Q I h;refine isTrue_or (thn (m d s i H _ I h) λc j ⟨f,e,g⟩=>?_);cases c with
 | true=>exact⟨f,e,g⟩
 | false=>exact l k d j i f Q e g
theorem gp (f:PT X a tA):PT X (.UnaryOp .Not a pos) (tNot tA):=by
 intro b s e H Q I h;exact isTrue_not (f b s e H (λc d=>Q (!c) d) I h)
def wb (ta tb:TE):TE:=λσ H Q=>ta σ H λx H1=>∃c,x=.bl c/\if c=true then tb σ H1 Q else Q (.bl false) H1
def tOrV (ta tb:TE):TE:=λσ H Q=>ta σ H λx H1=>∃c,x=.bl c/\if c=true then Q (.bl true) H1 else tb σ H1 Q
def wm (ta:TE):TE:=λσ H Q=>ta σ H λx H1=>∃c,x=.bl c/\Q (.bl (!c)) H1
theorem uM {q}(h:PE X a t):PE X (.BoolOp q [a] pos) t:=λb s d H Q I c=>BoolOp_one (h b s d H Q I c)
theorem vV (m:PE X a ta) (k:PE X (.BoolOp .And (b::aM) pos) tb):PE X (.BoolOp .And (a::b::aM) pos) (wb ta tb):=by
 intro d s i H Q I h;refine BoolOp_and (thn (m d s i H _ I h) λv j ⟨x,g,f,l,e⟩=>?_);obtain⟨c,rfl,e⟩:=e;cases l;refine wpAny_truthy_bool ?_;cases c with
 | true=>exact k d j i g Q f e
 | false=>exact⟨.bl false,g,f,rfl,e⟩
theorem pe_or (m:PE X a ta) (k:PE X (.BoolOp .Or (b::aM) pos) tb):PE X (.BoolOp .Or (a::b::aM) pos) (tOrV ta tb):=by
 intro d s i H Q I h;refine BoolOp_or (thn (m d s i H _ I h) λv j ⟨x,g,f,l,e⟩=>?_);obtain⟨c,rfl,e⟩:=e;cases l;refine wpAny_truthy_bool ?_;cases c with
 | false=>exact k d j i g Q f e
 | true=>exact⟨.bl true,g,f,rfl,e⟩
theorem uI (j:PE X a ta):PE X (.UnaryOp .Not a pos) (wm ta):=by
 intro b s g H Q I h;refine UnaryOp_ (thn (j b s g H _ I h) λv k ⟨x,f,e,i,d⟩=>?_);obtain⟨c,rfl,d⟩:=d;cases i;exact not_of (wpAny_truthy_bool ⟨.bl (!c),f,e,rfl,d⟩)
def tIf (t:TT) (ta tb:TE):TE:=λσ H Q=>t σ H λc H1=>if c=true then ta σ H1 Q else tb σ H1 Q
theorem rX (l:PT X c tA) (n:PE X a ta) (m:PE X b tb):PE X (.IfExp c a b pos) (tIf tA ta tb):=by
 intro e s f H Q I h;refine wpAny_IfExp (thn (l e s f H _ I h) λd i ⟨j,g,k⟩=>?_);cases d with
 | true=>exact n e i f j Q g k
 | false=>exact m e i f j Q g k
end
def SqL (K:W.Frag) (H:Hp) (a:Addr) (xs:LV):Prop :=
 Rd H a (.lst xs) ∨
  ∃(o:Obj) (its:Array Value) (n:Nat),K.lookup a=some o/\o.cls=.type "list"/\o.dict=none/\o.data=.seq its n/\its.size<=sizeLine/\Vals xs its.toList
def SqT (K:W.Frag) (H:Hp) (a:Addr) (xs:LV):Prop :=
 Rd H a (.tup xs) ∨
  ∃(o:Obj) (its:Array Value) (n:Nat),K.lookup a=some o/\o.cls=.type "tuple"/\o.data=.seq its n/\its.size<=sizeLine/\Vals xs its.toList
def absV:Value->Option V
 | .none=>some .non
 | .bool b=>some (.bl b)
 | .int i _=>some (.int i)
 | .str x _=>some (.str x)
 | .bytes b _=>some (.byt b)
 | .float b _=>some (.flt b)
 | .ref a=>some (.ref a)
 | .type n=>some (.ty n)
 | _=>none
theorem RelV.abs (r:RelV x u):absV u=some x:=by
 cases x with
 | non=>cases r;rfl
 | bl _=>cases r;rfl
 | int _=>obtain⟨t,rfl⟩:=r;rfl
 | str _=>obtain⟨t,rfl⟩:=r;rfl
 | byt _=>obtain⟨t,rfl⟩:=r;rfl
 | flt _=>obtain⟨t,rfl⟩:=r;rfl
 | ref _=>cases r;rfl
 | ty _=>cases r;rfl
theorem RelV.inj (r:RelV x u) (q:RelV y u):x=y:=wR (r.abs.symm.trans q.abs)
theorem Vals.inj:∀ {xs ys:LV}{us:LW},Vals xs us->Vals ys us->xs=ys
 | _,_,_,.nil,.nil=>rfl
 | _,_,_,.cons r t,.cons r' t'=>by rw[r.inj r',Vals.inj t t']
section
variable {X:Cx}{pins:AO_}{σ:St}{H:Hp}{s:Shared}{a:Addr}{xs ys:LV}
theorem SqL.of {K:W.Frag}(h:H a=some (.lst xs)):SqL K H a xs:=.inl (.inl h)
theorem SqT.of {K:W.Frag}(h:H a=some (.tup xs)):SqT K H a xs:=.inl (.inl h)
theorem Inv.list (I:Inv X pins σ H s) (h:SqL X.K H a xs):∃q:LW,Vals xs q/\PlainL s.heap a q.toArray/\xs.length<=sizeLine:=by
 rcases h with h | ⟨o,q,n,d,c,f,b,g,r⟩
 ·obtain⟨z,q,n,r,e⟩:=h.ok I.hok;exact⟨q,r,⟨_,n,e,rfl,rfl,rfl⟩,z⟩
 ·refine⟨q.toList,r,⟨o,n,I.kIn a o d,c,f,by simpa using b⟩,?_⟩;have e:=r.length;simp only[Array.length_toList] at e;omega
theorem Inv.tuple (I:Inv X pins σ H s) (h:SqT X.K H a xs):∃q:LW,Vals xs q/\IsTup s.heap a q.toArray/\xs.length<=sizeLine:=by
 rcases h with h | ⟨o,q,n,d,c,b,f,r⟩
 ·obtain⟨z,q,r,p⟩:=h.ok I.hok;exact⟨q,r,p.tup,z⟩
 ·refine⟨q.toList,r,⟨o,I.kIn a o d,c,n,by simpa using b⟩,?_⟩;have e:=r.length;simp only[Array.length_toList] at e;omega
theorem Inv.list_inj (I:Inv X pins σ H s) (h:SqL X.K H a xs) (h':SqL X.K H a ys):xs=ys:=by
 obtain⟨c,r,⟨o,n,e,_,_,d⟩,_⟩:=I.list h;obtain⟨b,j,⟨l,k,g,_,_,f⟩,_⟩:=I.list h';rw[e] at g;cases g;rw[d] at f;injection f with i _;have:c=b:=by simpa using congrArg Array.toList i
 subst this;exact r.inj j
theorem Inv.tuple_inj (I:Inv X pins σ H s) (h:SqT X.K H a xs) (h':SqT X.K H a ys):xs=ys:=by
 obtain⟨c,r,⟨o,e,_,n,d⟩,_⟩:=I.tuple h;obtain⟨b,j,⟨l,g,_,k,f⟩,_⟩:=I.tuple h';rw[e] at g;cases g;rw[d] at f;injection f with i _;have:c=b:=by simpa using congrArg Array.toList i
 subst this;exact r.inj j
end
abbrev Cx.wish (X:Cx) (E:QS):Cx:={ X with xe:=E }
abbrev Cx.nox (X:Cx):Cx:=X.wish λ_ _=>False
theorem Cx.Ok.wish {X:Cx}(a:X.Ok) (E:QS):(X.wish E).Ok :=
 ⟨a.mod,a.kind,a.glob,a.blt,a.above,a.inj,a.has,a.cab,a.hd,a.frames,a.stk,a.exf,a.bs,a.bsz,a.noex,a.exfs,a.funs,a.frf⟩
theorem Cx.Ok.unwish {X:Cx}{E:QS}(a:(X.wish E).Ok):X.Ok :=
 ⟨a.mod,a.kind,a.glob,a.blt,a.above,a.inj,a.has,a.cab,a.hd,a.frames,a.stk,a.exf,a.bs,a.bsz,a.noex,a.exfs,a.funs,a.frf⟩
section
variable {X:Cx}{pins:AO_}{σ:St}{H:Hp}{s:Shared}{E:QS}
theorem Inv.wish (I:Inv X pins σ H s) (E:QS):Inv (X.wish E) pins σ H s:=⟨I.ok.wish E,I.os,I.bare,I.base,I.loc,I.cell,I.free,I.freeC,I.pin,I.hok,I.len⟩
theorem Inv.unwish (I:Inv (X.wish E) pins σ H s):Inv X pins σ H s:=⟨I.ok.unwish,I.os,I.bare,I.base,I.loc,I.cell,I.free,I.freeC,I.pin,I.hok,I.len⟩
theorem SP.unwish (h:SP (X.wish E) pins D f s'):SP X pins D f s':=by
 cases f with
 | next=>obtain⟨a,b,I,q⟩:=h;exact⟨a,b,I.unwish,q⟩
 | brk=>obtain⟨a,b,I,q⟩:=h;exact⟨a,b,I.unwish,q⟩
 | cont=>obtain⟨a,b,I,q⟩:=h;exact⟨a,b,I.unwish,q⟩
 | ret u=>obtain⟨v,a,b,I,r,q⟩:=h;exact⟨v,a,b,I.unwish,r,q⟩
theorem PSs.nox {st:List Stmt}{t:TS}(h:PSs X.nox st t):PSs X st t:=λa s c H D I b =>
 xP (h a s c H D (I.wish _) b) (λ_ _ q=>q.unwish) λ_ _ z=>False.elim z
end
section
variable {X:Cx}{st:Stmt}{aM:List Stmt}{t u:TS}{e:Expr}{te:TE}{pos:Pos}
def su:TS:=λD σ H=>D.nx σ H
def uS (t u:TS):TS:=λD σ H=>t { D with nx:=u D } σ H
theorem aF:PSs X [] su:=λ_ _ a H _ I h=>wpAny_execs_nil ⟨a,H,I,h⟩
theorem ae (c:PS X st t) (i:PSs X aM u):PSs X (st::aM) (uS t u):=by
 intro a s g H D I h;refine wpAny_execs_cons (thn (c a s g H { D with nx:=u D } I h) λf d q=>?_);cases f with
 | next =>
  obtain⟨b,e,j,q⟩:=q;exact i a d b e D j q
 | ret v=>exact q
 | brk=>exact q
 | cont=>exact q
theorem ag (b:PS X st t):PSs X [st] t:=by
 intro a s c H D I h;refine wpAny_execs_cons (thn (b a s c H D I h) λf d q=>?_);cases f with
 | next=>exact wpAny_execs_nil q
 | ret v=>exact q
 | brk=>exact q
 | cont=>exact q
theorem Inv.quiet (I:Inv X pins σ H s):interactive X.env=false:=by simp[interactive,I.ok.kind]
def wG (te:TE):TS:=λD σ H=>te σ H λ_ H1=>D.nx σ H1
theorem bX (he:PE X e te) (c:swapsWith e none pos.line X.env=pure false:=by rfl):PS X (.Expr e pos) (wG te):=by
 intro a s b H D I h;exact wpAny_Expr_any (thn (he a s b H _ I h) λv i ⟨x,f,d,j,g⟩=>⟨b,f,d,g⟩) I.quiet c
def uJ (te:TE):TS:=λD σ H=>te σ H D.rt
theorem av (he:PE X e te):PS X (.Return (some e) pos) (uJ te):=by
 intro a s b H D I h;exact wpAny_Return_some (thn (he a s b H _ I h) λv i ⟨x,d,c,g,f⟩=>⟨x,b,d,c,g,f⟩)
def tIfS (c:TT) (t u:TS):TS:=λD σ H=>c σ H λb H1=>if b=true then t D σ H1 else u D σ H1
theorem aU (l:PT X c tc) (n:PSs X a t) (m:PSs X b u):PS X (.If c a b pos) (tIfS tc t u):=by
 intro e s f H D I h;refine wpAny_If (thn (l e s f H _ I h) λd i ⟨j,g,k⟩=>?_);cases d with
 | true=>exact n e i f j D g k
 | false=>exact m e i f j D g k
end
abbrev TG:=V->St->Hp->(SH)->Prop
abbrev TGs:=LV->St->Hp->(SH)->Prop
def PG (X:Cx) (target:Expr) (t:TG):Prop :=
 ∀(pins:AO_) (s:Shared) (σ:St) (H:Hp) (v:V) (u:Value) (Q:SH),Inv X pins σ H s->RelV v u->t v σ H Q ->
  wpAny (model X.prog X.w) X.A (assign target X.env u) (λ_ s'=>∃σ' H',Inv X pins σ' H' s'/\Q σ' H') X.xe s
def PGs (X:Cx) (ts:List Expr) (t:TGs):Prop :=
 ∀(pins:AO_) (s:Shared) (σ:St) (H:Hp) (vs:LV) (us:LW) (Q:SH),Inv X pins σ H s->Vals vs us->t vs σ H Q ->
  wpAny (model X.prog X.w) X.A (assignInOrder ((assignEach ts X.env).map (·.2)) us) (λ_ s'=>∃σ' H',Inv X pins σ' H' s'/\Q σ' H') X.xe s
abbrev vJ:=V->V->V->Hp->(Hp->Prop)->Prop
def qC (X:Cx) (t:vJ):Prop :=
 ∀(pins:AO_) (s:Shared) (σ:St) (H:Hp) (o i v:V) (ov iv u:Value) (Q:Hp->Prop),Inv X pins σ H s->RelV o ov->RelV i iv->RelV v u->t o i v H Q ->
  wpAny (model X.prog X.w) X.A (setItem ov iv u) (λ_ s'=>∃H',Inv X pins σ H' s'/\Q H') X.xe s
section
variable {X:Cx}{pos:Pos}
def cg (i:Nat):TG:=λv σ H Q=>Q (σ.set i (some v)) H
theorem aA (c:X.N.Nodup) (d:X.N[i]? = some x) (b:Loc X.env.scope x) (e:X.fn x=true∨X.env.scope.names.lookup x=some .local:=by first | exact .inl rfl | exact .inr rfl | assumption):PG X (.Name x pos) (cg i):=by
 intro a s j H v u Q I r h;exact wpAny_assign_Name (gS I c d b r (λg f=>⟨_,H,f,h⟩) e)
def uK:TGs:=λvs σ H Q=>vs=[]/\Q σ H
def nQ (t:TG) (u:TGs):TGs:=λvs σ H Q=>∃v r,vs=v::r/\t v σ H λσ' H'=>u r σ' H' Q
theorem bS:PGs X [] uK:=by
 intro a s b H c d Q I r h;obtain⟨e,h⟩:=h;subst e;cases r;exact assignInOrder_nil ⟨b,H,I,h⟩
theorem aO (f:PG X e t) (m:PGs X es u)
    (i:(assignEach (e::es) X.env).map (·.2)=assign e X.env::(assignEach es X.env).map (·.2):=by rfl):PGs X (e::es) (nQ t u):=by
 intro a s g H n o Q I r h;obtain⟨v,p,c,h⟩:=h;subst c;cases r with
 | cons r rr =>
  rw[i];refine assignInOrder_cons (thn (f a s g H _ _ _ I r h) λ_ j ⟨b,d,k,l⟩=>?_);exact m a j b d _ _ Q k rr l
def qR (K:W.Frag) (n:Nat) (t:TGs):TG:=λv σ H Q=>∃a xs,v=.ref a/\SqT K H a xs/\xs.length=n/\t xs σ H Q
theorem ux (A:X.calm=true) (h:PGs X es t)
    (p:(assignEach es X.env).length=n:=by rfl) (d:(assignEach es X.env).findIdx? (·.1)=none:=by rfl):PG X (.Tuple es k pos) (qR X.K n t):=by
 intro c s i H v u Q I r f;obtain⟨a,x,j,z,m,f⟩:=f;subst j;cases r;obtain⟨B,g,l,C⟩:=I.tuple z;refine assign_Tuple_tuple (I.ok.hd A) l (by simp[p,<- m,g.length]) d λq w=>?_;have y:Inv X c i H { s with heap:=q }:=I.kept (t':=s.toks) λb o e=>w b o (xm (wT e)) e;exact h c _ i H x _ Q y (by simpa using g) f
def gSub (to ti:TE) (t:vJ):TG:=λv σ H Q=>to σ H λo H1=>ti σ H1 λi H2=>t o i v H2 λH3=>Q σ H3
theorem gi (n:PE X o to) (c:PE X i B) (l:qC X t)
    (f:∀v,assign (.Subscript o i pos) X.env v=(do
     let q ← holding [v] (eval o X.env)
     let z ← holding [v,q] (eval i X.env)
     standAt pos
     holding [v,q,z] (setItem q z v)
     release [v,q,z] []):=by intro _;rfl):PG X (.Subscript o i pos) (gSub to B t):=by
 intro a s b H v u Q I r h;rw[f];refine wJ (xF (thn (n a s b H _ I h) λq m ⟨x,e,w,p,F⟩=>?_));refine wJ (xF (thn (c a m b e _ w F) λz A ⟨y,C,g,j,E⟩=>?_));refine wJ (wpAny_standAt (wJ (xF (thn (l a A b C x y v q z u _ g p j r E) λ_ G ⟨d,k,D⟩=>?_))));exact wpAny_release ⟨b,d,k,D⟩
def rS (te:TE) (g:TG):TS:=λD σ H=>te σ H λx H1=>g x σ H1 D.nx
theorem df (he:PE X e te) (j:PG X tg g) (f:swapsWithSole [tg] e pos.line X.env=pure false:=by rfl) (m:swappedStores [tg] e X.env=pure none:=by rfl)
    (d:(assignEach [tg] X.env).map (·.2)=[assign tg X.env]:=by rfl):PS X (.Assign [tg] e pos) (rS te g):=by
 intro a s b H D I h;refine wpAny_Assign_stores (thn (he a s b H _ I h) λv i ⟨x,c,l,k,n⟩=>?_) f m;rw[d];exact thn (j a i b c x v _ l k n) λ_ o q=>q
theorem ao (k:X.N.Nodup) (b:X.N[i]? = some x) (j:Loc X.env.scope x) (he:PE X e te) (g:swapsWith e (some (.Name x q)) pos.line X.env=pure false:=by rfl) (o:X.fn x=true∨X.env.scope.names.lookup x=some .local:=by first | exact .inl rfl | exact .inr rfl | assumption) :
    PS X (.Assign [.Name x q] e pos) (rS te (cg i)):=by
 intro a s f H D I h;refine wpAny_Assign_Name (thn (he a s f H _ I h) λv p ⟨y,c,m,l,n⟩=>?_) g;exact gS m k b j l (λr d=>⟨_,c,d,n⟩) o
def tPar (i j:Nat) (ta:TA):TS:=λD σ H=>ta σ H λvs H1=>∃v w,vs=[v,w]/\D.nx ((σ.set i (some v)).set j (some w)) H1
theorem vw {G B z}(W:X.calm=true) (C:X.N.Nodup) (F:X.N[i]? = some x) (N:X.N[j]? = some y) (l:i ≠ j)
    (u:X.env.scope.names.lookup x=some .local) (A:X.env.scope.names.lookup y=some .local) (L:PA X [a,b] ta)
    (Y:swappedStores [.Tuple [.Name x px,.Name y J] G O] (.Tuple [a,b] B z) X.env=pure (some [x,y]))
    (R:swapsWithSole [.Tuple [.Name x px,.Name y J] G O] (.Tuple [a,b] B z) pos.line X.env=pure false:=by rfl) :
    PS X (.Assign [.Tuple [.Name x px,.Name y J] G O] (.Tuple [a,b] B z) pos) (tPar i j ta):=by
 intro c s t H D I h;rw[exec_Assign_arm];refine wJ (wpAny_standAt ?_);rw[R];refine wJ (wN ?_);rw[if_neg (by decide)];refine wJ (Tuple_ (thn (L _ c s t H _ I h) λS d ⟨vs,r,V,T,n⟩=>?_));obtain⟨v,w,K,n⟩:=n;subst K;obtain⟨g, f, rfl, P, m⟩:∃g f, S=[g, f] /\ RelV v g /\ RelV w f := by
  cases T with
  | cons p q =>
   cases q with
   | cons p' q' =>
    cases q';exact⟨_,_,rfl,p,p'⟩
 refine wpAny_newObj_type ?_ (by show 2<=sizeLine;decide);have M:Inv X c t r { d with heap:=d.heap.push { cls:=.type "tuple",data:=.seq [g,f].toArray } }:=V.kept (t':=d.toks) λb o e=>xb _ e;rw[Y];refine wJ (wN ?_);show wpAny (model X.prog X.w) X.A (do rule "assign.swapped-stores";let items ← unpackItems (.ref d.heap.objs.size) 2 none;assignInOrder [λv=>bindName X.env y v,λv=>bindName X.env x v] items.reverse;pure Flow.next) _ _ _;refine wJ (wpAny_rule (wJ (unpackItems_tuple (items:=#[g,f]) (I.ok.hd W) (IsTup.new d.heap _) λh' k=>?_)));have Q:=M.kept (h':=h') (t':=d.toks) λb o e=>k b o (xm (wT e)) e;show wpAny _ _ (assignInOrder [λv=>bindName X.env y v,λv=>bindName X.env x v] [f,g] >>= λ_=>pure Flow.next) _ _ _;refine wJ (assignInOrder_cons (wpAny_bindName (gS Q C N (.inl A) m (λs2 U=>?_) (.inr A))));refine assignInOrder_cons (wpAny_bindName (gS U C F (.inl u) P (λZ E=>assignInOrder_nil (wN ?_)) (.inr u)));rw[List.set_comm _ _ (Ne.symm l)] at E;exact⟨_,r,E,n⟩
end
section
variable {X:Cx}{pos:Pos}
def uP (c:TT) (tb:TS):TS:=λD σ H=>∃W:Nat->SH,(∃m,W m σ H)/\∀m σ H,W m σ H ->
 c σ H λb H1=>if b=true then ∃N:SH,(∀σ' H',N σ' H'->∃m',m'<m/\W m' σ' H')/\tb { D with nx:=N,ct:=N,bk:=D.nx } σ H1 else D.nx σ H1
theorem gm (y:PassesOwn (model X.prog X.w) X.A X.env X.xe) (K:PT X c tc) (F:PSs X q tb):PS X (.While c q [] pos) (uP tc tb) := by
 intro d s B H D I h;obtain⟨W,⟨z,A⟩,i⟩:=h;refine wpAny_While (codeAny_whileLoop (λn J=>∃σ' H',Inv X d σ' H' J/\W n σ' H') ?_ z ⟨B,H,I,A⟩);rintro n E ⟨e,t,G,C⟩;refine wpAny_passesOwn y (thn (K d E e t _ G (i n e t C)) λb L ⟨x,u,k⟩=>?_);cases b with
 | true =>
  obtain⟨N,w,k⟩:=k;rw[if_pos rfl];refine wpAny_passesOwn y (thn (F d L e x _ u k) λf M j=>?_);cases f with
  | next =>
   obtain⟨a,g,o,r⟩:=j;obtain⟨l,p,m⟩:=w a g r;exact⟨l,p,a,g,o,m⟩
  | cont =>
   obtain⟨a,g,o,r⟩:=j;obtain⟨l,p,m⟩:=w a g r;exact⟨l,p,a,g,o,m⟩
  | brk=>exact j
  | ret v=>exact j
 | false =>
  rw[if_neg xq];exact wpAny_execs_nil ⟨e,x,u,k⟩
end
structure It where
 go:Nat->Hp->Prop
 yld:Nat->Hp->V->Hp->Prop
 stop:Nat->Hp->Prop
def fq (X:Cx) (pins:AO_) (H:Hp) (b:Addr):Prop :=
 H b=none/\b≠X.env.locals/\b∉X.fs/\(b∈X.ex∨X.s₀.heap.objs.size<=b)/\(∀x c,X.env.cells.lookup x=some c->c≠b)/\∀p∈X.pn++pins,p.1≠b
theorem Inv.fpOk (I:Inv X pins σ H s) (a:s.heap.objs.size<=b) (d:H' b=none):fq X pins H' b:=by
 refine⟨d,Nat.ne_of_gt (xw I.lt a),I.nofs a,.inr (wV I.sz a),λx c e z=>?_,λp f z=>?_⟩
 ·obtain⟨v,q⟩:=I.cell x c e;exact absurd (xw q.lt (by rw[z];exact a)) (yc _)
 ·exact absurd (xw (wT (I.pin p f).1) (by rw[z];exact a)) (yc _)
structure Turn (P:Program) (w:World) (K:W.Frag) (tg:Expr) (J:It) (fp:List Addr) (it:Addr) (tn:Nat -> Heap -> Prop):Prop where
 mem:it∈fp
 obj:∀i h,tn i h->∀b∈fp,∃o,h.get? b=some o/\∀v,o.data≠.cell v
 keep:∀i h h',tn i h->(∀b∈fp,∀o,h.get? b=some o->h'.get? b=some o)->tn i h'
 item:∀(X:Cx),X.prog=P->X.w=w->X.K=K->X.calm=true->∀(i:Nat) (pins:AO_) (s:Shared) (σ:St) (H:Hp) (E:QS),Inv X pins σ H s->(∀b∈fp,fq X pins H b)->tn i s.heap->J.go i H ->
  wpAny (model P w) X.A (pyNext (.ref it)) (λr s1=>∃u,r=some u /\
   wpAny (model P w) X.A (letOwnedTupleGo tg (.ref it) u) (λ_ s2=>∃x H',Inv X pins σ H' s2/\RelV x u/\J.yld i H x H'/\tn (i+1) s2.heap/\∀b∈fp,H' b=none) E s1) E s
 done:∀(X:Cx),X.prog=P->X.w=w->X.K=K->X.calm=true->∀(i:Nat) (pins:AO_) (s:Shared) (σ:St) (H:Hp) (E:QS),Inv X pins σ H s->(∀b∈fp,fq X pins H b)->tn i s.heap->J.stop i H ->
  wpAny (model P w) X.A (pyNext (.ref it)) (λr s1=>r=none/\Inv X pins σ H s1) E s
 self:∀(A:Around) (i:Nat) (s:Shared) (Q:QS) (E:QS),tn i s.heap->Q (.ref it) s->wpAny (model P w) A (pyIter (.ref it)) Q E s
abbrev TI:=St->Hp->(It->Hp->Prop)->Prop
def PIE (X:Cx) (pins:AO_) (σ:St) (tg:Expr) (R:It->Hp->Prop) (itv:Value) (s2:Shared):Prop :=
 ∃(it:Addr) (fp:List Addr) (tn:Nat->Heap->Prop) (J:It) (H':Hp),itv=.ref it/\Inv X pins σ H' s2/\Turn X.prog X.w X.K tg J fp it tn/\tn 0 s2.heap/\(∀b∈fp,fq X pins H' b)/\R J H'
def PI (X:Cx) (tg iter:Expr) (wi:TI):Prop :=
 ∀(pins:AO_) (s:Shared) (σ:St) (H:Hp) (R:It->Hp->Prop),Inv X pins σ H s->wi σ H R ->
  wpAny (model X.prog X.w) X.A (eval iter X.env) (λv s1=>wpAny (model X.prog X.w) X.A (pyIter v) (PIE X pins σ tg R) X.xe s1) X.xe s
theorem oF (d:s.heap.get? z=some o) (c:o.cls=.type n) (e:o.data=.fields q)
    (b:["enumerate","zip","dict_itemiterator","dict_reverseitemiterator","odict_iterator","itertools.zip_longest","itertools.pairwise"].contains n=false) (a:Q () s):wpAny M A (letOwnedTupleGo tg (.ref z) u) Q E s:=by
 unfold letOwnedTupleGo;cases tg <;> first
  | exact wN a
  | (cases u <;> first
      | exact wN a
      | (refine wJ (wpAny_load d ?_)
         rw[c,e];show wpAny M A (if (["enumerate","zip","dict_itemiterator","dict_reverseitemiterator","odict_iterator","itertools.zip_longest","itertools.pairwise"].contains n&&q[0]?==some (rawInt _))=true then _ else _) Q E s;rw[if_neg (by intro h;rw[b,Bool.false_and] at h;cases h)];exact wN a))
def Itl (K:W.Frag) (a:Addr):It :=
 ⟨λi H=>∃xs x,SqL K H a xs/\xs[i]? = some x,λi H x H'=>H'=H/\∀xs,SqL K H a xs->xs[i]? = some x,λi H=>∃xs,SqL K H a xs/\xs.length<=i⟩
def Itt (K:W.Frag) (a:Addr):It :=
 ⟨λi H=>∃xs x,SqT K H a xs/\xs[i]? = some x,λi H x H'=>H'=H/\∀xs,SqT K H a xs->xs[i]? = some x,λi H=>∃xs,SqT K H a xs/\xs.length<=i⟩
def Itr (lo:Int) (n:Nat):It:=⟨λi _=>i<n,λi H x H'=>H'=H/\x=.int (lo+i),λi _=>n<=i⟩
theorem kE {P:Program}{w:World}{K:W.Frag}{tg:Expr}(a it:Addr):Turn P w K tg (Itl K a) [it] it (λi h=>h.IsListIter it a i) where
 mem:=by simp
 obj:=λi h st b hb=>by
  have e:b=it:=by simpa using hb
  subst e;obtain⟨o,e,c,d⟩:=st;exact⟨o,e,λv z=>by rw[d] at z;cases z⟩
 keep:=λi h h' st k=>st.at λo e=>k it (by simp) o e
 item:=by
  intro X hP hw hK hc i pins s σ H E I hf st hg;subst hP hw hK;obtain⟨xs,x,hq,hx⟩:=hg;obtain⟨its,rv,p,hz⟩:=I.list hq;obtain⟨u,hu,ru⟩:=rv.get hx;obtain⟨f0,f1,f2,f3,f4,f5⟩:=hf it (by simp);refine wpAny_pyNext_list_item st p.isList (x:=u) (by simpa using hu) λh' st' sb=>?_;have I1:Inv X pins σ H { s with heap:=h' }:=I.turned (t':=s.toks) (λb o hb e=>(sb.2 b hb).trans e) f0 f1 f3 f4 f5;obtain⟨o,e,c,d⟩:=id st';exact⟨u,rfl,oF (s:={ s with heap:=h' }) e c d (by decide) ⟨x,H,I1,ru,⟨rfl,λys hy=>by rw[I.list_inj hy hq];exact hx⟩,st',λb hb=>(hf b hb).1⟩⟩
 done:=by
  intro X hP hw hK hc i pins s σ H E I hf st hg;subst hP hw hK;obtain⟨xs,hq,hx⟩:=hg;obtain⟨its,rv,p,hz⟩:=I.list hq;obtain⟨f0,f1,f2,f3,f4,f5⟩:=hf it (by simp);have hl:=rv.length;exact wpAny_pyNext_list_end (I.ok.hd hc) st p.isList (by simp;omega) λh' eb=>⟨rfl,I.turned (t':=s.toks) (λb o hb e=>eb b o hb e) f0 f1 f3 f4 f5⟩
 self:=λ_ _ _ _ _ st h=>wpAny_pyIter_listiter st h
theorem jy {P:Program}{w:World}{K:W.Frag}{tg:Expr}(a it:Addr):Turn P w K tg (Itt K a) [it] it (λi h=>h.IsTupleIter it a i) where
 mem:=by simp
 obj:=λi h st b hb=>by
  have e:b=it:=by simpa using hb
  subst e;obtain⟨o,e,c,d⟩:=st;exact⟨o,e,λv z=>by rw[d] at z;cases z⟩
 keep:=λi h h' st k=>st.at λo e=>k it (by simp) o e
 item:=by
  intro X hP hw hK hc i pins s σ H E I hf st hg;subst hP hw hK;obtain⟨xs,x,hq,hx⟩:=hg;obtain⟨its,rv,p,hz⟩:=I.tuple hq;obtain⟨u,hu,ru⟩:=rv.get hx;obtain⟨f0,f1,f2,f3,f4,f5⟩:=hf it (by simp);refine wpAny_pyNext_tuple_item st (show s.heap.IsTuple a its.toArray from p) (x:=u) (by simpa using hu) λh' st' sb=>?_;have I1:Inv X pins σ H { s with heap:=h' }:=I.turned (t':=s.toks) (λb o hb e=>(sb.2 b hb).trans e) f0 f1 f3 f4 f5;obtain⟨o,e,c,d⟩:=id st';exact⟨u,rfl,oF (s:={ s with heap:=h' }) e c d (by decide) ⟨x,H,I1,ru,⟨rfl,λys hy=>by rw[I.tuple_inj hy hq];exact hx⟩,st',λb hb=>(hf b hb).1⟩⟩
 done:=by
  intro X hP hw hK hc i pins s σ H E I hf st hg;subst hP hw hK;obtain⟨xs,hq,hx⟩:=hg;obtain⟨its,rv,p,hz⟩:=I.tuple hq;obtain⟨f0,f1,f2,f3,f4,f5⟩:=hf it (by simp);have hl:=rv.length;exact wpAny_pyNext_tuple_end (I.ok.hd hc) st (show s.heap.IsTuple a its.toArray from p) (by simp;omega) λh' eb=>⟨rfl,I.turned (t':=s.toks) (λb o hb e=>eb b o hb e) f0 f1 f3 f4 f5⟩
 self:=λ_ _ _ _ _ st h=>wpAny_pyIter_tupleiter st h
theorem oM {P:Program}{w:World}{K:W.Frag}{tg:Expr}(it:Addr) (lo:Int) (n:Nat):Turn P w K tg (Itr lo n) [it] it (λi h => IsRangeIter h it (lo+(i:Nat) * 1) ((n:Int)-(i:Nat)) 1) where
 mem:=by simp
 obj:=λi h st b hb=>by
  have e:b=it:=by simpa using hb
  subst e;exact⟨_,st,λv z=>by
   have z':Data.fields _=Data.cell v:=z;cases z'⟩
 keep:=λi h h' st k=>k it (by simp) _ st
 item:=by
  intro X hP hw hK hc i pins s σ H E I hf st hg;subst hP hw hK;obtain⟨f0,f1,f2,f3,f4,f5⟩:=hf it (by simp);have W:=Walks.range (prog:=X.prog) (w:=X.w) (I.ok.hd hc) it lo 1 n;refine W.item i s _ _ hg st λv h' tk hv st' kk=>?_;obtain⟨t,rfl⟩:=hv;have I1:Inv X pins σ H { s with heap:=h',toks:=tk }:=I.turned (λb o hb e=>kk b o (by simpa using hb) e) f0 f1 f3 f4 f5;refine⟨_,rfl,oF (s:={ s with heap:=h',toks:=tk }) (n:="range_iterator") st' rfl rfl (by decide) ⟨.int (lo+i),H,I1,⟨t,?_⟩,⟨rfl,rfl⟩,st',λb hb=>(hf b hb).1⟩⟩;rw[Int.mul_one]
 done:=by
  intro X hP hw hK hc i pins s σ H E I hf st hg;subst hP hw hK;obtain⟨f0,f1,f2,f3,f4,f5⟩:=hf it (by simp);exact wpAny_pyNext_range_end (I.ok.hd hc) st (by have:n<=i:=hg;omega) λh' eb=>⟨rfl,I.turned (t':=s.toks) (λb o hb e=>eb b o hb e) f0 f1 f3 f4 f5⟩
 self:=λ_ _ _ _ _ st h=>wpAny_pyIter_rangeiter st h
section
variable {X:Cx}{tg:Expr}
def sx (K:W.Frag) (tl:TE):TI:=λσ H R=>tl σ H λx H1=>∃a,x=.ref a/\(∃xs,SqL K H1 a xs)/\R (Itl K a) H1
def u5 (K:W.Frag) (tl:TE):TI:=λσ H R=>tl σ H λx H1=>∃a,x=.ref a/\(∃xs,SqT K H1 a xs)/\R (Itt K a) H1
theorem sZ {l:Expr}{tl:TE}(i:PE X l tl):PI X tg l (sx X.K tl):=by
 intro c s t H R I h;refine thn (i c s t H _ I h) λv d ⟨x,g,f,j,r⟩=>?_;obtain⟨a,e,⟨w,m⟩,q⟩:=r;subst e;cases j;obtain⟨n,u,p,y⟩:=f.list m;refine wpAny_pyIter_list p.isList ?_;refine⟨d.heap.objs.size,[d.heap.objs.size],_,_,g,rfl,f.kept (t':=d.toks) λb o e=>xb _ e,kE a _,⟨_,xl _ rfl,rfl,rfl⟩,λb k=>?_,q⟩;have e:b=d.heap.objs.size:=by simpa using k
 subst e;exact f.fpOk (wM _) (f.hok.fresh (wM _))
theorem vj {l:Expr}{tl:TE}(j:PE X l tl):PI X tg l (u5 X.K tl):=by
 intro c s t H R I h;refine thn (j c s t H _ I h) λv d ⟨x,i,f,k,r⟩=>?_;obtain⟨a,e,⟨w,n⟩,q⟩:=r;subst e;cases k;obtain⟨g,u,p,y⟩:=f.tuple n;refine wpAny_pyIter_tuple (show d.heap.IsTuple a g.toArray from p) ?_;refine⟨d.heap.objs.size,[d.heap.objs.size],_,_,i,rfl,f.kept (t':=d.toks) λb o e=>xb _ e,jy a _,⟨_,xl _ rfl,rfl,rfl⟩,λb m=>?_,q⟩;have e:b=d.heap.objs.size:=by simpa using m
 subst e;exact f.fpOk (wM _) (f.hok.fresh (wM _))
theorem rJ {R:It->Hp->Prop}{lo hi:Int}{tk:Nat}(I:Inv X pins σ H s) (c:-(2 ^ 62)<=lo) (j:lo<2 ^ 62) (f:-(2 ^ 62)<=hi) (g:hi<2 ^ 62)
    (q:R (Itr lo (hi-lo).toNat) H):wpAny (model X.prog X.w) X.A (pyIter (.ref s.heap.objs.size)) (PIE X pins σ tg R) E { s with heap:=s.heap.push { cls:=.type "range",data:=.fields #[.int lo t,.int hi u,.int 1 v] },toks:=tk }:=by
 refine wpAny_pyIter_range (IsRange.new ..) (small_one c j f g) ?_;have a:Inv X pins σ H { s with heap:=s.heap.push { cls:=.type "range",data:=.fields #[.int lo t,.int hi u,.int 1 v] },toks:=tk }:=I.kept λb o e=>xb _ e;refine⟨(s.heap.push { cls:=.type "range",data:=.fields #[.int lo t,.int hi u,.int 1 v] }).objs.size,[(s.heap.push { cls:=.type "range",data:=.fields #[.int lo t,.int hi u,.int 1 v] }).objs.size],_,_,H,rfl,
  a.kept (t':=tk) λb o e=>xb _ e,oM _ lo (hi-lo).toNat,?_,λb i=>?_,q⟩
 ·have h:lo+((0:Nat):Int) * 1=lo:=by simp
  have d:(((hi-lo).toNat:Nat):Int)-((0:Nat):Int)=Builtin.Range.rangeSize lo hi 1:=by rw[rangeSize_one];split <;> omega
  show IsRangeIter _ _ (lo+((0:Nat):Int) * 1) ((((hi-lo).toNat:Nat):Int)-((0:Nat):Int)) 1;rw[h,d];exact xl _ rfl
 ·have e:b=(s.heap.push { cls:=.type "range",data:=.fields #[.int lo t,.int hi u,.int 1 v] }).objs.size:=by simpa using i
  subst e;exact a.fpOk (wM _) (a.hok.fresh (wM _))
def wh (ta:TA):TI:=λσ H R=>ta σ H λvs H1=>∃j:Int,vs=[.int j]/\-(2 ^ 62)<=j/\j<2 ^ 62/\R (Itr 0 j.toNat) H1
theorem dq (i:Gl X "range") (g:X.mg "range"=none) (d:PA X [a] ta) (f:starEach [a] X.env=[(false,eval a X.env)]:=by rfl):PI X tg (.Call (.Name "range" p) [a] [] pos) (wh ta):=by
 intro b s n H R I h;refine Call_ (fL I i g boot_range (PyProof.Rows.callWith_type1 (thn (d pos b s n H _ I h) λw v ⟨u,o,l,k,c⟩=>?_) f rfl));obtain⟨j,e,c,m,q⟩:=c;subst e;cases k with
 | cons r rr =>
  cases rr;obtain⟨t,rfl⟩:=r;exact call_range_1 (rJ l (by omega) (by omega) c m (by simpa using q))
def tFor (wi:TI) (g:TG) (tb:TS):TS:=λD σ H=>wi σ H λJ H1=>∃W:Nat->Nat->SH,(∃m,W 0 m σ H1)/\∀i m σ H,W i m σ H ->
 (J.stop i H/\D.nx σ H)∨(J.go i H/\∃N:SH,(∀σ' H',N σ' H'->∃m',m'<m/\W (i+1) m' σ' H')/\∀x H',J.yld i H x H'->g x σ H' λσ2 H2=>tb { D with nx:=N,ct:=N,bk:=D.nx } σ2 H2)
def ia (fp:List Addr) (h:Heap):AO_:=fp.filterMap λb=>(h.get? b).map λo=>(b,o)
theorem fP (a:b∈q) (e:h.get? b=some o):(b,o)∈ia q h:=xQ.mpr ⟨b,a,by rw[e];rfl⟩
theorem qd (d:p∈ia z h):p.1∈z/\h.get? p.1=some p.2:=by
 obtain⟨b,a,e⟩:=xQ.mp d;cases q:h.get? b with
 | none=>rw[q] at e;cases e
 | some o =>
  rw[q] at e;have c:(b,o)=p:=wR e;subst c;exact⟨a,q⟩
theorem Inv.pinned (I:Inv X pins σ H s) (i:∀b∈q,fq X pins H b) (h:∀b∈q,∃o,s.heap.get? b=some o/\∀v,o.data≠.cell v):Inv X (pins++ia q s.heap) σ H s :=
 I.pins_of λp j=>(w8.mp j).elim (λz=>I.pin p (xG _ z)) λz=>by
  obtain⟨a,e⟩:=qd z;obtain⟨k,f,g,_⟩:=i p.1 a;obtain⟨o,c,d⟩:=h p.1 a;rw[e] at c;cases c;exact⟨e,k,f,g,d⟩
theorem Inv.unpinned (I:Inv X (pins++q) σ H s):Inv X pins σ H s:=I.pins_of λp a=>I.pin p (xG _ (xT _ a))
theorem bL (L:PassesOwn (model X.prog X.w) X.A X.env X.xe) (hc:X.calm=true) (hi:PI X tg iter wi) (hg:PG X tg g) (t:PSs X G tb)
    (hs:∀x,foldedSetIterable iter X.env x=pure x:=by intro _;rfl):PS X (.For tg iter G [] pos) (tFor wi g tb):=by
 intro a s σ H D I h;refine wpAny_For (thn (hi a s σ H _ I h) λv s1 h1=>thn h1 λa0 s2 h2=>?_) hs;obtain⟨it,B,tn,J,H2,e,I2,T,U,f2,W,⟨m0,w0⟩,z⟩:=h2;subst e;have j:∀ {H':Hp},(∀b∈B,H' b=none)->∀b∈B,fq X a H' b:=λhn b t=>⟨hn b t,(f2 b t).2⟩
 refine codeAny_forLoop_any (λn s'=>∃i σ' H',Inv X a σ' H' s'/\tn i s'.heap/\(∀b∈B,H' b=none)/\W i n σ' H') ?_ m0 ⟨0,σ,H2,I2,U,λb t=>(f2 b t).1,w0⟩;rintro n s3 ⟨i,q,M,V,A,K,w3⟩;rcases z i n q M w3 with⟨F,qn⟩ | ⟨go,N,hN,E⟩
 ·refine wpAny_passesOwn L (thn (T.done X rfl rfl rfl hc i a s3 q M X.xe V (j K) A F) λr s4 ⟨S,I4⟩=>?_);subst S;exact wpAny_execs_nil ⟨q,M,I4,qn⟩
 ·refine wpAny_passesOwn L (thn (T.item X rfl rfl rfl hc i a s3 q M X.xe V (j K) A go) λr s4 ⟨u,S,h4⟩=>?_);subst S;refine wpAny_passesOwn L (thn h4 λ_ Z ⟨x,Y,I5,r5,y5,y,O⟩=>?_);have Q:=I5.pinned (j O) (T.obj _ _ y);refine wpAny_passesOwn L (thn (hg _ Z q Y x u _ Q r5 (E x Y y5)) λ_ s6 ⟨R,H6,I6,q6⟩=>?_);refine wpAny_passesOwn L (thn (t _ s6 R H6 _ I6 q6) λf P w=>?_);have k:∀ {c:St} {l:Hp},Inv X (a++ia B Z.heap) c l P->N c l->∃m,m<n/\∃i σ' H',Inv X a σ' H' P/\tn i P.heap/\(∀b∈B,H' b=none)/\W i m σ' H':=λ{c l} p C=>by
   obtain⟨m',hm,w7⟩:=hN c l C;refine⟨m',hm,i+1,c,l,p.unpinned,T.keep _ _ _ y λb t o e=>(p.pin (b,o) (xG _ (xG _ (fP t e)))).1,λb t=>?_,w7⟩;obtain⟨o,e,d⟩:=T.obj _ _ y b t;exact(p.pin (b,o) (xG _ (xG _ (fP t e)))).2.1
  cases f with
  | next=>obtain⟨c,l,p,C⟩:=w;exact k p C
  | cont=>obtain⟨c,l,p,C⟩:=w;exact k p C
  | brk=>obtain⟨c,l,p,w⟩:=w;exact⟨c,l,p.unpinned,w⟩
  | ret v=>obtain⟨x7,c,l,p,r7,w⟩:=w;exact⟨x7,c,l,p.unpinned,r7,w⟩
end
theorem qY {K:W.Frag}{a:Addr}{xs:LV}{g:TG}{tb:TS}{D:Ends}{σ:St}{H:Hp}(Pv:Nat -> St -> Hp -> Prop) (d:Pv 0 σ H) (f:∀i σ H, i <= xs.length -> Pv i σ H -> SqL K H a xs)
    (c:∀i x σ H,xs[i]? = some x->Pv i σ H->g x σ H λσ2 H2=>tb { D with nx:=Pv (i+1),ct:=Pv (i+1),bk:=D.nx } σ2 H2) (k:∀σ H,Pv xs.length σ H->D.nx σ H) :
    ∃W:Nat->Nat->SH,(∃m,W 0 m σ H)/\∀i m σ H,W i m σ H ->
     ((Itl K a).stop i H/\D.nx σ H)∨((Itl K a).go i H/\∃N:SH,(∀σ' H',N σ' H'->∃z,z<m/\W (i+1) z σ' H')/\∀x H',(Itl K a).yld i H x H'->g x σ H' λσ2 H2=>tb { D with nx:=N,ct:=N,bk:=D.nx } σ2 H2):=by
 refine⟨λi m σ H=>m=xs.length-i/\i<=xs.length/\Pv i σ H,⟨xs.length,by simp,xt _,d⟩,?_⟩;rintro i m σ H ⟨rfl,j,p⟩;have q:=f i σ H j p;by_cases b:i<xs.length
 ·refine .inr ⟨⟨xs,xs[i],q,by simp[b]⟩,Pv (i+1),λσ' H' h=>⟨xs.length-(i+1),by omega,rfl,b,h⟩,λx H' y=>?_⟩;obtain⟨e,y⟩:=y;subst e;exact c i x σ _ (y xs q) p
 ·have e:i=xs.length:=by omega
  subst e;exact .inl ⟨⟨xs,q,wM _⟩,k σ H p⟩
theorem tP {K:W.Frag}{a:Addr}{xs:LV}{g:TG}{tb:TS}{D:Ends}{σ:St}{H:Hp}(Pv:Nat -> St -> Hp -> Prop) (d:Pv 0 σ H) (f:∀i σ H, i <= xs.length -> Pv i σ H -> SqT K H a xs)
    (c:∀i x σ H,xs[i]? = some x->Pv i σ H->g x σ H λσ2 H2=>tb { D with nx:=Pv (i+1),ct:=Pv (i+1),bk:=D.nx } σ2 H2) (k:∀σ H,Pv xs.length σ H->D.nx σ H) :
    ∃W:Nat->Nat->SH,(∃m,W 0 m σ H)/\∀i m σ H,W i m σ H ->
     ((Itt K a).stop i H/\D.nx σ H)∨((Itt K a).go i H/\∃N:SH,(∀σ' H',N σ' H'->∃z,z<m/\W (i+1) z σ' H')/\∀x H',(Itt K a).yld i H x H'->g x σ H' λσ2 H2=>tb { D with nx:=N,ct:=N,bk:=D.nx } σ2 H2):=by
 refine⟨λi m σ H=>m=xs.length-i/\i<=xs.length/\Pv i σ H,⟨xs.length,by simp,xt _,d⟩,?_⟩;rintro i m σ H ⟨rfl,j,p⟩;have q:=f i σ H j p;by_cases b:i<xs.length
 ·refine .inr ⟨⟨xs,xs[i],q,by simp[b]⟩,Pv (i+1),λσ' H' h=>⟨xs.length-(i+1),by omega,rfl,b,h⟩,λx H' y=>?_⟩;obtain⟨e,y⟩:=y;subst e;exact c i x σ _ (y xs q) p
 ·have e:i=xs.length:=by omega
  subst e;exact .inl ⟨⟨xs,q,wM _⟩,k σ H p⟩
theorem pG {lo:Int}{n:Nat}{g:TG}{tb:TS}{D:Ends}{σ:St}{H:Hp}(Pv:Nat -> St -> Hp -> Prop) (c:Pv 0 σ H)
    (b:∀i σ H,i<n->Pv i σ H->g (.int (lo+i)) σ H λσ2 H2=>tb { D with nx:=Pv (i+1),ct:=Pv (i+1),bk:=D.nx } σ2 H2) (f:∀σ H,Pv n σ H->D.nx σ H) :
    ∃W:Nat->Nat->SH,(∃m,W 0 m σ H)/\∀i m σ H,W i m σ H ->
     ((Itr lo n).stop i H/\D.nx σ H)∨((Itr lo n).go i H/\∃N:SH,(∀σ' H',N σ' H'->∃q,q<m/\W (i+1) q σ' H')/\∀x H',(Itr lo n).yld i H x H'->g x σ H' λσ2 H2=>tb { D with nx:=N,ct:=N,bk:=D.nx } σ2 H2):=by
 refine⟨λi m σ H=>m=n-i/\i<=n/\Pv i σ H,⟨n,by simp,xt _,c⟩,?_⟩;rintro i m σ H ⟨rfl,h,p⟩;by_cases a:i<n
 ·refine .inr ⟨a,Pv (i+1),λσ' H' d=>⟨n-(i+1),by omega,rfl,a,d⟩,λx H' y=>?_⟩;obtain⟨e,y⟩:=y;subst e y;exact b i σ _ a p
 ·have e:i=n:=by omega
  subst e;exact .inl ⟨wM _,f σ H p⟩
abbrev R2:=V->V->Hp->VK->Prop
def OpR (X:Cx) (f:Value->Value->Sem Value) (r:R2):Prop :=
 ∀(pins:AO_) (s:Shared) (σ:St) (H:Hp) (x y:V) (v u:Value) (Q:VK),Inv X pins σ H s->RelV x v->RelV y u->r x y H Q ->
  wpAny (model X.prog X.w) X.A (f v u) (EP X pins σ Q) X.xe s
def UnR (X:Cx) (f:Value->Sem Value) (r:V->Hp->VK->Prop):Prop :=
 ∀(pins:AO_) (s:Shared) (σ:St) (H:Hp) (x:V) (v:Value) (Q:VK),Inv X pins σ H s->RelV x v->r x H Q ->
  wpAny (model X.prog X.w) X.A (f v) (EP X pins σ Q) X.xe s
def du (X:Cx) (f:Value) (r:LV->Hp->VK->Prop):Prop :=
 ∀(pins:AO_) (s:Shared) (σ:St) (H:Hp) (xs:LV) (us:LW) (Q:VK),Inv X pins σ H s->Vals xs us->r xs H Q ->
  wpAny (model X.prog X.w) X.A (call f us) (EP X pins σ Q) X.xe s
def tOp (r:R2) (ta tb:TE):TE:=λσ H Q=>ta σ H λx H1=>tb σ H1 λy H2=>r x y H2 Q
def tUn (r:V->Hp->VK->Prop) (ta:TE):TE:=λσ H Q=>ta σ H λx H1=>r x H1 Q
def rI (C:Int->Int->Prop) (g:Int->Int->V):R2:=λx y H Q=>∃i j,x=.int i/\y=.int j/\C i j/\Q (g i j) H
def rI0 (g:Int->Int->V):R2:=λx y H Q=>∃i j,x=.int i/\y=.int j/\Q (g i j) H
def rU (g:Int->V):V->Hp->VK->Prop:=λx H Q=>∃i,x=.int i/\Q (g i) H
section
variable {X:Cx}{a b c:Expr}{ta tb tc:TE}{pos:Pos}
theorem sk (n:PE X a ta) (l:PE X b tb) {R:V->V->Hp->Prop}(I:Inv X pins σ H s)
    (h:ta σ H λx H1=>tb σ H1 λy H2=>R x y H2) {f:Value->Value->Sem Value}
    (m:∀v u B x y H2,Inv X pins σ H2 B->RelV x v->RelV y u->R x y H2->wpAny (model X.prog X.w) X.A (f v u) Q X.xe B) :
    wpAny (model X.prog X.w) X.A (eval a X.env) (λv z=>wpAny (model X.prog X.w) X.A (eval b X.env) (λu q=>wpAny (model X.prog X.w) X.A (f v u) Q X.xe q) X.xe z) X.xe s:=by
 refine thn (n pins s σ H _ I h) λv e ⟨x,H1,c,k,j⟩=>?_;refine thn (l pins e σ H1 _ c j) λu B ⟨y,H2,d,i,g⟩=>?_;exact m v u B x y H2 d k i g
theorem aG {z:Operator}{r:R2}(j:OpR X (binaryOp z) r) (f:PE X a ta) (k:PE X b tb):PE X (.BinOp a z b pos) (tOp r ta tb):=by
 intro c s i H Q I h;exact wpAny_BinOp (sk f k I h λv u l x y m g d e q=>j c l i m x y v u Q g d e q)
theorem dN (g:UnR X (unaryOp q) r) (k:PE X a ta):PE X (.UnaryOp q a pos) (tUn r ta):=by
 intro b s c H Q I h;exact UnaryOp_ (thn (k b s c H _ I h) λv e ⟨x,f,d,j,i⟩=>g b e c f x v Q d j i)
theorem opI {f:Value->Value->Sem Value}{C:Int->Int->Prop}{g:Int->Int->Int}
    (a:∀(i j:Int) (t u:Tok) (s:Shared) (Q:QS) (E:QS),C i j->Q (.int (g i j) s.toks) { s with toks:=s.toks+1 }->wpAny (model X.prog X.w) X.A (f (.int i t) (.int j u)) Q E s) :
    OpR X f (rI C λi j=>.int (g i j)):=by
 intro b s l H x y v u Q I e k h;obtain⟨i,j,rfl,rfl,d,q⟩:=h;obtain⟨t,rfl⟩:=e;obtain⟨c,rfl⟩:=k;exact a i j t c s _ _ d ⟨.int (g i j),H,I.tok _,⟨_,rfl⟩,q⟩
theorem uO {f:Value->Value->Sem Value}{g:Int->Int->Int}
    (a:∀(i j:Int) (t u:Tok) (s:Shared) (Q:QS) (E:QS),Q (.int (g i j) s.toks) { s with toks:=s.toks+1 }->wpAny (model X.prog X.w) X.A (f (.int i t) (.int j u)) Q E s) :
    OpR X f (rI0 λi j=>.int (g i j)):=by
 intro b s k H x y v u Q I d e h;obtain⟨i,j,rfl,rfl,q⟩:=h;obtain⟨t,rfl⟩:=d;obtain⟨c,rfl⟩:=e;exact a i j t c s _ _ ⟨.int (g i j),H,I.tok _,⟨_,rfl⟩,q⟩
theorem rG {f:Value->Value->Sem Value}{g:Int->Int->Bool}
    (a:∀(i j:Int) (t u:Tok) (s:Shared) (Q:QS) (E:QS),Q (.bool (g i j)) s->wpAny (model X.prog X.w) X.A (f (.int i t) (.int j u)) Q E s) :
    OpR X f (rI0 λi j=>.bl (g i j)):=by
 intro b s k H x y v u Q I d e h;obtain⟨i,j,rfl,rfl,q⟩:=h;obtain⟨t,rfl⟩:=d;obtain⟨c,rfl⟩:=e;exact a i j t c s _ _ ⟨.bl (g i j),H,I,rfl,q⟩
def CDiv (i j:Int):Prop:=0<j/\j<1073741824
def CPow (i j:Int):Prop:=0<=j/\j<=1000000/\i.natAbs<2 ^ 64
def CMul (i j:Int):Prop:=(-(2 ^ 64)<i/\i<2 ^ 64)∨(-(2 ^ 64)<j/\j<2 ^ 64)
theorem CMul.ok (h:CMul i j):IntMulOk i j:=by
 rcases h with⟨a,b⟩ | ⟨a,b⟩
 ·exact .of_left (intBits_le_64 a b)
 ·exact .of_right (intBits_le_64 a b)
theorem uB:OpR X (binaryOp .Add) (rI0 λi j=>.int (i+j)):=uO λ_ _ _ _ _ _ _ q=>add_int q
theorem u6:OpR X (binaryOp .Sub) (rI0 λi j=>.int (i-j)):=uO λ_ _ _ _ _ _ _ q=>sub_int q
theorem fG:OpR X (binaryOp .Mult) (rI CMul λi j=>.int (i * j)):=opI λ_ _ _ _ _ _ _ a q=>mul_int q a.ok
theorem iy:OpR X (binaryOp .FloorDiv) (rI CDiv λi j=>.int (i / j)):=opI λi j _ _ _ _ _ a q=>by
 have b:(0:Int)<j:=a.1;have c:j<1073741824:=a.2;exact floordiv_int (by omega) (by rw[Int.fdiv_eq_ediv_of_nonneg i (by omega)];exact q) (.inl (PyProof.noPylong_small (by omega)))
theorem dj:OpR X (binaryOp .Mod) (rI (λ_ j=>0<j) λi j=>.int (i % j)):=opI λi j _ _ _ _ _ a q=>by
 have b:(0:Int)<j:=a;exact mod_int' (by omega) (by rw[Int.fmod_eq_emod_of_nonneg i (by omega)];exact q)
theorem vi:OpR X (binaryOp .Pow) (rI CPow λi j=>.int (i ^ j.toNat)):=opI λ_ _ _ _ _ _ _ a q=>pow_int_small a.1 a.2.1 a.2.2 q
theorem unI {f:Value->Sem Value}{g:Int->Int}
    (a:∀(i:Int) (t:Tok) (s:Shared) (Q:QS) (E:QS),Q (.int (g i) s.toks) { s with toks:=s.toks+1 }->wpAny (model X.prog X.w) X.A (f (.int i t)) Q E s) :
    UnR X f (rU λi=>.int (g i)):=by
 intro b s d H x v Q I c h;obtain⟨i,rfl,q⟩:=h;obtain⟨t,rfl⟩:=c;exact a i t s _ _ ⟨.int (g i),H,I.tok _,⟨_,rfl⟩,q⟩
theorem de:UnR X (unaryOp .USub) (rU λi=>.int (-i)):=unI λ_ _ _ _ _ q=>neg_int q
end
def ry:V->V->Bool
 | .non,.non=>true | .non,.int _=>true | .int _,.non=>true | .non,.bl _=>true | .bl _,.non=>true | .non,.str _=>true | .str _,.non=>true
 | .int _,.int _=>true | .bl _,.bl _=>true | .str _,.str _=>true | .byt _,.byt _=>true
 | .int _,.str _=>true | .str _,.int _=>true | .bl _,.str _=>true | .str _,.bl _=>true
 | _,_=>false
def rEq:R2:=λx y H Q=>ry x y=true/\Q (.bl (decide (x=y))) H
def rNe:R2:=λx y H Q=>ry x y=true/\Q (.bl (!decide (x=y))) H
theorem nk:decide (V.int i=V.int j)=(i==j):=by
 rw[xp];simp
theorem pd:decide (V.bl i=V.bl j)=(i==j):=by
 rw[xp];simp
theorem mT:decide (V.str i=V.str j)=(i==j):=by
 rw[xp];simp
theorem mZ:decide (V.byt i=V.byt j)=(i.toList==j.toList):=by
 rw[xp];cases i;cases j;simp
section
variable {X:Cx}{a b c:Expr}{ta tb tc:TE}{pos:Pos}
theorem ba (I:Inv X pins σ H s) (q:Q (.bl k) H) (e:k=z):EP X pins σ Q (.bool z) s:=by
 subst e;exact⟨.bl k,H,I,rfl,q⟩
theorem wE:OpR X (compareOp .Eq) rEq:=by
 intro e s f H x y v u Q I d a h;obtain⟨c,q⟩:=h;cases x with
 | non =>
  cases d;cases y with
  | non=>cases a;exact PySem.EqNone.eq_none_none (ba I q (by simp))
  | bl j=>cases a;exact PySem.EqNone.eq_none_bool (ba I q (by simp))
  | int j=>obtain⟨b,rfl⟩:=a;exact PySem.EqNone.eq_none_int (ba I q (by simp))
  | str j=>obtain⟨b,rfl⟩:=a;exact PySem.EqNone.eq_none_str (ba I q (by simp))
  | _=>exact absurd (show false=true from c) xq
 | bl i =>
  cases d;cases y with
  | non=>cases a;exact PySem.EqNone.eq_bool_none (ba I q (by simp))
  | bl j=>cases a;exact eq_bool (ba I q pd)
  | str j=>obtain⟨b,rfl⟩:=a;exact PySem.EqMixed.eq_bool_str (ba I q (by simp))
  | _=>exact absurd (show false=true from c) xq
 | int i =>
  obtain⟨t,rfl⟩:=d;cases y with
  | non=>cases a;exact PySem.EqNone.eq_int_none (ba I q (by simp))
  | int j=>obtain⟨b,rfl⟩:=a;exact eq_int (ba I q nk)
  | str j=>obtain⟨b,rfl⟩:=a;exact PySem.EqMixed.eq_int_str (ba I q (by simp))
  | _=>exact absurd (show false=true from c) xq
 | str i =>
  obtain⟨t,rfl⟩:=d;cases y with
  | non=>cases a;exact PySem.EqNone.eq_str_none (ba I q (by simp))
  | bl j=>cases a;exact PySem.EqMixed.eq_str_bool (ba I q (by simp))
  | int j=>obtain⟨b,rfl⟩:=a;exact PySem.EqMixed.eq_str_int (ba I q (by simp))
  | str j=>obtain⟨b,rfl⟩:=a;exact eq_str (ba I q mT)
  | _=>exact absurd (show false=true from c) xq
 | byt i =>
  obtain⟨t,rfl⟩:=d;cases y with
  | byt j=>obtain⟨b,rfl⟩:=a;exact W.eq_bytes (ba I q mZ)
  | _=>exact absurd (show false=true from c) xq
 | _=>cases y <;> exact absurd (show false=true from c) xq
theorem wr:OpR X (compareOp .NotEq) rNe:=by
 intro e s f H x y v u Q I d a h;obtain⟨c,q⟩:=h;cases x with
 | non =>
  cases d;cases y with
  | non=>cases a;exact PySem.EqNone.ne_none_none (ba I q (by simp))
  | bl j=>cases a;exact PySem.EqNone.ne_none_bool (ba I q (by simp))
  | int j=>obtain⟨b,rfl⟩:=a;exact PySem.EqNone.ne_none_int (ba I q (by simp))
  | str j=>obtain⟨b,rfl⟩:=a;exact PySem.EqNone.ne_none_str (ba I q (by simp))
  | _=>exact absurd (show false=true from c) xq
 | bl i =>
  cases d;cases y with
  | non=>cases a;exact PySem.EqNone.ne_bool_none (ba I q (by simp))
  | bl j=>cases a;exact ne_bool (ba I q (congrArg not pd))
  | str j=>obtain⟨b,rfl⟩:=a;exact PySem.EqMixed.ne_bool_str (ba I q (by simp))
  | _=>exact absurd (show false=true from c) xq
 | int i =>
  obtain⟨t,rfl⟩:=d;cases y with
  | non=>cases a;exact PySem.EqNone.ne_int_none (ba I q (by simp))
  | int j=>obtain⟨b,rfl⟩:=a;exact ne_int (ba I q (congrArg not nk))
  | str j=>obtain⟨b,rfl⟩:=a;exact PySem.EqMixed.ne_int_str (ba I q (by simp))
  | _=>exact absurd (show false=true from c) xq
 | str i =>
  obtain⟨t,rfl⟩:=d;cases y with
  | non=>cases a;exact PySem.EqNone.ne_str_none (ba I q (by simp))
  | bl j=>cases a;exact PySem.EqMixed.ne_str_bool (ba I q (by simp))
  | int j=>obtain⟨b,rfl⟩:=a;exact PySem.EqMixed.ne_str_int (ba I q (by simp))
  | str j=>obtain⟨b,rfl⟩:=a;exact ne_str (ba I q (congrArg not mT))
  | _=>exact absurd (show false=true from c) xq
 | byt i =>
  obtain⟨t,rfl⟩:=d;cases y with
  | byt j=>obtain⟨b,rfl⟩:=a;exact W.ne_bytes (ba I q (congrArg not mZ))
  | _=>exact absurd (show false=true from c) xq
 | _=>cases y <;> exact absurd (show false=true from c) xq
theorem wu:OpR X (compareOp .Lt) (rI0 λi j=>.bl (decide (i<j))):=rG λ_ _ _ _ _ _ _ q=>lt_int q
theorem gX:OpR X (compareOp .Gt) (rI0 λi j=>.bl (decide (j<i))):=rG λ_ _ _ _ _ _ _ q=>gt_int q
theorem wk:OpR X (compareOp .GtE) (rI0 λi j=>.bl (decide (j<=i))):=rG λ_ _ _ _ _ _ _ q=>ge_int q
theorem qf:OpR X (compareOp .Lt) (λx y H Q=>∃i j,x=.str i/\y=.str j/\Q (.bl (decide (i.cps.toList<j.cps.toList))) H):=by
 intro a s e H x y v u Q I b c h;obtain⟨i,j,rfl,rfl,q⟩:=h;obtain⟨t,rfl⟩:=b;obtain⟨d,rfl⟩:=c;exact lt_str (ba I q rfl)
theorem uZ:OpR X (compareOp .Is) (λx y H Q=>y=.non/\Q (.bl (decide (x=.non))) H):=by
 intro a s d H x y v u Q I b c h;obtain⟨rfl,q⟩:=h;cases c;refine is_none_gen (ba I q ?_);cases x <;> first
  | (cases b;rfl)
  | (obtain⟨t,rfl⟩:=b;rfl)
theorem sY:OpR X (compareOp .IsNot) (λx y H Q=>y=.non/\Q (.bl (!decide (x=.non))) H):=by
 intro a s d H x y v u Q I b c h;obtain⟨rfl,q⟩:=h;cases c;refine isnot_none_gen (ba I q ?_);cases x <;> first
  | (cases b;rfl)
  | (obtain⟨t,rfl⟩:=b;rfl)
theorem aw (b:Expr) (h:q≠.In:=by decide) (c:q≠.NotIn:=by decide):behindInMarks q b=false:=by
 have d:(q==CmpOp.In)=false:=by cases q <;> first | rfl | exact absurd rfl h
 have a:(q==CmpOp.NotIn)=false:=by cases q <;> first | rfl | exact absurd rfl c
 cases b <;> simp[behindInMarks,d,a]
theorem eR {z:CmpOp}{r:R2}(k:OpR X (compareOp z) r) (f:PE X a ta) (l:PE X b tb) (j:behindInMarks z b=false):PE X (.Compare a [z] [b] pos) (tOp r ta tb):=by
 intro c s i H Q I h;exact wpAny_Compare1 (sk f l I h λv u m x y n g d e q=>k c m i n x y v u Q g d e q) j
def sP (t:TE):TT:=λσ H Q=>t σ H λx H'=>∃k,x=.bl k/\Q k H'
theorem ak (w:OpR X (compareOp q) r) (l:PE X a ta) (B:PE X b tb) (p:behindInMarks q b=false):PT X (.Compare a [q] [b] pos) (sP (tOp r ta tb)):=by
 intro d s f H Q I h;refine wpAny_isTrue_Compare1 (thn (l d s f H _ I h) λv t ⟨x,j,C,A,J⟩=>thn (B d t f j _ C J) λu D ⟨y,E,m,n,G⟩ =>
  thn (w d D f E x y v u _ m A n G) λc K ⟨z,i,o,g,k,e,F⟩=>?_) p
 subst e;cases g;exact wpAny_truthy_bool ⟨i,o,F⟩
theorem gN:(sizeLine:Nat)<2 ^ 63:=by rw[sizeLine_eq];decide
theorem oI:OpR X (binaryOp .Add) (λx y H Q=>∃i j,x=.str i/\y=.str j/\i.length+j.length<=sizeLine/\Q (.str (i++j)) H):=by
 intro a s g H x y v u Q I d e h;obtain⟨i,j,rfl,rfl,c,q⟩:=h;obtain⟨t,rfl⟩:=d;obtain⟨b,rfl⟩:=e;exact add_str (λb f=>⟨.str (i++j),H,I.tok _,⟨_,rfl⟩,q⟩) c
theorem cK (r:Vals [x] us):∃u,us=[u]/\RelV x u:=by
 cases r with
 | cons r1 r2=>cases r2;exact⟨_,rfl,r1⟩
theorem gx (r:Vals [x,y] us):∃u q,us=[u,q]/\RelV x u/\RelV y q:=by
 cases r with
 | cons r1 r2 =>
  cases r2 with
  | cons r3 r4=>cases r4;exact⟨_,_,rfl,r1,r3⟩
theorem rR:du X (.builtin "abs") (λxs H Q=>∃i,xs=[.int i]/\Q (.int (if i<0 then -i else i)) H):=by
 intro a s d H xs b Q I r h;obtain⟨i,rfl,q⟩:=h;obtain⟨u,rfl,t,rfl⟩:=cK r;exact call_abs_int λu c=>⟨.int (if i<0 then -i else i),H,I.tok _,⟨_,rfl⟩,q⟩
theorem pq (c:X.calm=true):du X (.builtin "min") (λxs H Q=>∃i j,xs=[.int i,.int j]/\Q (.int (if j<i then j else i)) H):=by
 intro b s m H xs f Q I r h;obtain⟨i,j,rfl,q⟩:=h;obtain⟨u,g,rfl,⟨t,rfl⟩,⟨d,rfl⟩⟩:=gx r;refine min_two_ints (I.ok.hd c) λe l k=>⟨_,H,I.kept k,?_,q⟩
 by_cases a:j<i
 ·rw[if_pos a,if_pos a];exact⟨_,rfl⟩
 ·rw[if_neg a,if_neg a];exact⟨_,rfl⟩
theorem kS:du X (.type "int") (λxs H Q=>(∃i,xs=[.int i]/\Q (.int i) H)∨∃k,xs=[.bl k]/\Q (.int (if k then 1 else 0)) H):=by
 intro a s d H xs c Q I r h;rcases h with⟨i,rfl,q⟩ | ⟨k,rfl,q⟩
 ·obtain⟨u,rfl,t,rfl⟩:=cK r;exact call_int_int ⟨.int i,H,I,⟨_,rfl⟩,q⟩
 ·obtain⟨u,rfl,b⟩:=cK r;cases b;exact call_int_bool ⟨.int (if k then 1 else 0),H,I.tok _,⟨_,rfl⟩,q⟩
def vm (K:W.Frag) (x:V) (H:Hp) (n:Nat):Prop :=
 match x with
 | .str y=>y.length<=sizeLine/\n=y.length
 | .byt y=>y.size<=sizeLine/\n=y.size
 | .ref p=>(∃xs,SqL K H p xs/\n=xs.length)∨∃xs,SqT K H p xs/\n=xs.length
 | _=>False
theorem rO:du X (.builtin "len") (λxs H Q => ∃x n, xs=[x] /\ vm X.K x H n /\ Q (.int n) H) := by
 intro j s o H xs w Q I r h;obtain⟨x,n,rfl,e,q⟩:=h;obtain⟨u,rfl,c⟩:=cK r;have m:=gN;have v:sizeLine=16777216:=sizeLine_eq;cases x with
 | str y =>
  obtain⟨t,rfl⟩:=c;obtain⟨k,b⟩:y.length<=sizeLine/\n=y.length:=e;subst b;exact len_str (by omega) ⟨.int _,H,I.tok _,⟨_,rfl⟩,q⟩
 | byt y =>
  obtain⟨t,rfl⟩:=c;obtain⟨k,b⟩:y.size<=sizeLine/\n=y.size:=e;subst b;exact W.len_bytes (by omega) ⟨.int _,H,I.tok _,⟨_,rfl⟩,q⟩
 | ref p =>
  cases c;have b:(∃xs,SqL X.K H p xs/\n=xs.length)∨∃xs,SqT X.K H p xs/\n=xs.length:=e;rcases b with⟨xs,f,b⟩ | ⟨xs,f,b⟩
  ·subst b;obtain⟨i,d,g,l⟩:=I.list f;have a:=d.length;exact Calls.call_len_list g.isList (by simp only[xh];omega) ⟨.int xs.length,H,I.tok _,⟨_,by simp only[xh];rw[a]⟩,q⟩
  ·subst b;obtain⟨i,d,g,l⟩:=I.tuple f;have a:=d.length;exact len_tuple g (by simp only[xh];omega) ⟨.int xs.length,H,I.tok _,⟨_,by simp only[xh];rw[a]⟩,q⟩
 | _=>exact(show False from e).elim
end
structure ObjM (h:Heap) (x dx C:Addr) (mA:MS):Prop where
 obj:h.get? x=some (W.instObj C dx)
 ns:h.Ns1 dx mA
 ne:dx≠x
theorem qg {h:Heap}{dx:Addr}{B:Str -> OV}(n:h.Ns1 dx B):∃od, h.get? dx=some od /\ ∀name, W.lookIn name od=some (B name) := by
 obtain⟨o,c,l,i,k,j,_,f⟩:=n;refine⟨o,i,λname=>?_⟩;have e:=f name;unfold nsFind findBy at e;rw[<- Array.find?_toList] at e;unfold W.lookIn;rw[k];dsimp only
 split
 ·rename_i y q
  rw[q] at e;exact congrArg some e
 ·rename_i q
  rw[q] at e;have a:c.toList.any (·.refKey)=false:=by
   rw[List.any_eq_false];intro y d;obtain⟨z,t,b⟩:=j y (Array.mem_toList_iff.mp d);simp[DictEntry.refKey,b]
  have g:¬ c.toList.any (·.refKey)=true:=by rw[a];exact xq
  rw[if_neg g];exact congrArg some e
theorem ObjM.look (I:ObjM h x dx C q):∃od,W.InstAt h x (W.instObj C dx) C (some od)/\∀name,W.lookIn name od=some (q name) :=
 let ⟨od,b,a⟩:=qg I.ns
 ⟨od,⟨I.obj,rfl,rfl,b⟩,a⟩
theorem RelO.some_of (r:RelO (some v) o):∃u,o=some u/\RelV v u:=by
 cases o with
 | none=>exact(show False from r).elim
 | some u=>exact⟨u,rfl,r⟩
section
variable {P:Program}{w:World}{H H':Hp}{h h':Heap}{a C dx:Addr}{fs fs':List (Str × V)}
theorem td (b:HOk P w H h) (e:H a=some (.ins C dx fs)):∃B,ObjM h a dx C B/\(∀f,RelO (fs.lookup f) (B f))/\PySem.Within B (fs.map (·.1))/\fs.length<=1000/\H dx=some (.own a):=by
 obtain⟨d,z,g,c,B,n,r,q⟩:=(show ObjOk P w H h a (.ins C dx fs) from b a _ e)
 exact⟨B,⟨c,n,g⟩,r,q,z,d⟩
end
structure Cls (K:W.Frag) (C:Addr):Prop where
 pg:W.plainGet K C Str.empty=true
 hd:W.hasDictIn K C=true
 po:W.plainOver K C=true
 sa:W.findIn K (.ref C) "__setattr__"=some (some (.builtin "object.__setattr__"))
theorem Cls.get {K:W.Frag}{C:Addr}(c:Cls K C) (f:Str):W.plainGet K C f=true:=c.pg
section
variable {X:Cx}{pins:AO_}{σ:St}{H:Hp}{s:Shared}{A:Around}{E:QS}{Q:QS}{c:Value}{b:Bool}
inductive TyOf (K:W.Frag) (H:Hp):V -> Value -> Prop where
 | non:TyOf K H .non (.type "NoneType")
 | bl (x:Bool):TyOf K H (.bl x) (.type "bool")
 | int (i:Int):TyOf K H (.int i) (.type "int")
 | str (x:Str):TyOf K H (.str x) (.type "str")
 | flt (x:UInt64):TyOf K H (.flt x) (.type "float")
 | lst {a:Addr} {xs:LV} (e:H a=some (.lst xs)):TyOf K H (.ref a) (.type "list")
 | frz {a:Addr} {o:Obj} {xs:LV} (e:H a=some (.frz o (.lst xs))):TyOf K H (.ref a) (.type "list")
 | tup {a:Addr} {xs:LV} (e:H a=some (.tup xs)):TyOf K H (.ref a) (.type "tuple")
 | dK {a:Addr} {kvs:KV_} (e:H a=some (.dK kvs)):TyOf K H (.ref a) (.type "dict")
 | dT {a:Addr} {kvs:List (List Key × V)} (e:H a=some (.dT kvs)):TyOf K H (.ref a) (.type "dict")
 | ins {a C dx:Addr} {fs:List (Str × V)} (e:H a=some (.ins C dx fs)) (cl:Cls K C) (ha:W.findIn K (.ref C) "__class__"=some (some (.builtin "object.__class__")))
     (hn:W.specialIn K (.builtin "object.__class__") "__get__"=some (some (.builtin "getset_descriptor.__get__"))) (htk:W.takesIn K (.builtin "object.__class__")=some true)
     (hm:W.mroIn K C (.type "object")=some true):TyOf K H (.ref a) (.ref C)
theorem pJ (I:Inv X pins σ H s) (d:RelV x u) (m:TyOf X.K H x t) (e:W.kitOne X.K t c=some b) (h:∀tk,Q (.bool b) { s with toks:=tk }) :
    wpAny (model X.prog X.w) A (call (.builtin "isinstance") [u,c]) Q E s:=by
 cases m with
 | non=>cases (show u=Value.none from d);exact W.kia_one W.kitx_none I.kIn True.intro e (λz=>nomatch z) h
 | bl y=>cases (show u=Value.bool y from d);exact W.kia_one W.kitx_bool I.kIn True.intro e (λz=>nomatch z) h
 | int i=>obtain⟨t,q⟩:=(show ∃t,u=Value.int i t from d);cases q;exact W.kia_one W.kitx_int I.kIn True.intro e (λz=>nomatch z) h
 | str y=>obtain⟨t,q⟩:=(show ∃t,u=Value.str y t from d);cases q;exact W.kia_one W.kitx_str I.kIn True.intro e (λz=>nomatch z) h
 | flt y=>obtain⟨t,q⟩:=(show ∃t,u=Value.float y t from d);cases q;exact W.kia_one W.kitx_float I.kIn True.intro e (λz=>nomatch z) h
 | @lst a g ea =>
  cases (show u=Value.ref a from d);obtain⟨_,_,n,_,f⟩:=(show ObjOk X.prog X.w H s.heap a (.lst g) from I.hok a _ ea)
  exact W.kia_one W.kitx_list I.kIn ⟨_,f,rfl⟩ e (λz=>nomatch z) h
 | @frz a ob g ea =>
  cases (show u=Value.ref a from d);obtain⟨_,_,_,n,_,f⟩:=(show ObjOk X.prog X.w H s.heap a (.frz ob (.lst g)) from I.hok a _ ea)
  exact W.kia_one W.kitx_list I.kIn ⟨_,f,rfl⟩ e (λz=>nomatch z) h
 | @tup a g ea =>
  cases (show u=Value.ref a from d);obtain⟨_,_,_,p⟩:=(show ObjOk X.prog X.w H s.heap a (.tup g) from I.hok a _ ea)
  obtain⟨o,f,j,_⟩:=p;exact W.kia_one W.kitx_tuple I.kIn ⟨o,f,j⟩ e (λz=>nomatch z) h
 | @dK a kvs ea =>
  cases (show u=Value.ref a from d);obtain⟨_,_,r,_,p⟩:=(show ObjOk X.prog X.w H s.heap a (.dK kvs) from I.hok a _ ea)
  obtain⟨o,k,l,f,j,_⟩:=p;exact W.kia_one W.kitx_dict I.kIn ⟨o,f,j.1⟩ e (λz=>nomatch z) h
 | @dT a kvs ea =>
  cases (show u=Value.ref a from d);obtain⟨_,_,g,_,o,k,l,f,j,_⟩:=(show ObjOk X.prog X.w H s.heap a (.dT kvs) from I.hok a _ ea)
  exact W.kia_one W.kitx_dict I.kIn ⟨o,f,j.1⟩ e (λz=>nomatch z) h
 | @ins a C dx fs ea cl ha hn htk hm =>
  cases (show u=Value.ref a from d);obtain⟨w,O,_⟩:=td I.hok ea;obtain⟨v,J,_⟩:=O.look;exact W.kia_one (W.kitx_own (cl.get _) cl.hd ha hn htk hm) I.kIn J e (λz=>nomatch z) h
end
structure Room (k:Nat) (A:Around):Prop where
 hd:A.handled=none
 dp:A.depth+3 * k+5<recursionLimit
 un:A.units+16 * k+200<cLine
 gd:A.guards=some []
theorem Room.mono (r:Room k A) (h:j<=k):Room j A:=⟨r.hd,by have:=r.dp;omega,by have:=r.un;omega,r.gd⟩
theorem Room.deeper (r:Room (k+1) A) (env:Env):Room k (A.deeper env) :=
 ⟨r.hd,by have:=r.dp;show A.depth+1+3 * k+5<_;omega,by have:=r.un;show A.units+3+16 * k+200<_;omega,r.gd⟩
theorem Room.depth (r:Room k A):A.depth<recursionLimit:=by have:=r.dp;omega
theorem Room.units (r:Room k A):A.units+64<cLine:=by have:=r.un;omega
def fg:TA:=λ_ H Q=>Q [] H
def bJ (ta:TE) (tr:TA):TA:=λσ H Q=>ta σ H λx H1=>tr σ H1 λxs H2=>Q (x::xs) H2
section
variable {X:Cx}{e:Expr}{es:List Expr}{te:TE}{t:TA}{pos:Pos}
theorem ab:PA X [] fg:=λ_ _ _ _ H Q I h=>Calls.spliced_nil ⟨[],H,I,.nil,h⟩
theorem aa (g:PE X e te) (d:PA X es t) (k:starEach (e::es) X.env=(false,eval e X.env)::starEach es X.env:=by rfl):PA X (e::es) (bJ te t):=by
 intro b a s c H Q I h;rw[k];show wpAny _ _ (spliced ((false,eval e X.env)::backTo b (starEach es X.env))) _ _ s;refine Calls.spliced_cons (thn (g a s c H _ I h) λu l ⟨x,f,o,n,r⟩=>?_);exact thn (d b a l c f _ o r) λv w ⟨m,p,i,j,q⟩=>⟨x::m,p,i,.cons n j,q⟩
def tTup (t:TA):TE:=λσ H Q=>t σ H λxs H1=>xs.length<=sizeLine/\∀p,H1 p=none->Q (.ref p) (upd H1 p (.tup xs))
def qK (t:TA):TE:=λσ H Q=>t σ H λxs H1=>xs.length<=sizeLine/\∀p,H1 p=none->Q (.ref p) (upd H1 p (.lst xs))
theorem aL {x1}(h:PA X es t):PE X (.Tuple es x1 pos) (tTup t):=by
 intro a s g H Q I k;refine wpAny_Tuple_spliced (thn (h pos a s g H _ I k) λj c ⟨i,d,f,r,z,q⟩=>⟨by rw[<- r.length];exact z,?_⟩);have l:d c.heap.objs.size=none:=f.hok.fresh (wM _);refine⟨.ref c.heap.objs.size,upd d c.heap.objs.size (.tup i),f.laid (t':=c.toks) (λb u e=>xb _ e) (wM _) ?_,rfl,q _ l⟩;exact⟨z,j,r,⟨_,xl _ rfl,rfl,_,rfl,rfl⟩⟩
theorem aQ (h:PA X es t):PE X (.List es pos) (qK t):=by
 intro a s g H Q I k;refine wpAny_List_spliced (thn (h pos a s g H _ I k) λj c ⟨i,d,f,r,z,q⟩=>⟨by rw[<- r.length];exact z,?_⟩);have l:d c.heap.objs.size=none:=f.hok.fresh (wM _);refine⟨.ref c.heap.objs.size,upd d c.heap.objs.size (.lst i),f.laid (t':=c.toks) (λb u e=>xb _ e) (wM _) ?_,rfl,q _ l⟩;exact⟨z,j,0,r,xl _ rfl⟩
end
abbrev Sp:=LV->Hp->VK->XK->Prop
abbrev CXT:=List Env->Hp->Shared->XK->QS
structure Env0 (P:Program) (w:World) (K:W.Frag) (mg:MS) (base:Heap) (A:Around) (outer:List Env) (s:Shared) (H:Hp):Prop where
 frames:A.frames=some outer
 mod:Mod K mg base
 bs:∀b o,base.get? b=some o->s.heap.get? b=some o/\H b=none
 bsz:base.objs.size<=s.heap.objs.size
 funs:s.heap.FunFrames base outer
 frf:∀b∈frs outer,H b=none
 hok:HOk P w H s.heap
 bare:AllBare s.gens
def CE (outer:List Env) (P:Program) (w:World) (H:Hp) (s:Shared) (Q:VK) (u:Value) (s':Shared):Prop :=
 ∃v H',s'.os=s.os/\AllBare s'.gens/\Un (frs outer) [] H H' s.heap s'.heap/\HOk P w H' s'.heap/\RelV v u/\Q v H'
def CR (CX:CXT) (outer:List Env) (P:Program) (w:World) (H:Hp) (s:Shared) (Q:VK) (E:XK) (r:Result) (s':Shared):Prop :=
 match r with
 | .ok (.ret u)=>CE outer P w H s Q u s'
 | .ok _=>False
 | .error e=>CX outer H s E e s'
structure FnOk (P:Program) (w:World) (K:W.Frag) (mg:MS) (base:Heap) (CX:CXT) (k:Nat) (f:Addr) (fd:FuncData) (ps:LS) (sp:Sp):Prop where
 len:∀vs H Q E,sp vs H Q E->vs.length=ps.length
 run:∀(A:Around) (outer:List Env) (s:Shared) (H:Hp) (args:Args) (us:LW) (vs:LV) (Q:VK) (E:XK),Room k A->Env0 P w K mg base A outer s H->BindsTo s fd args (ps.zip us)->Vals vs us->sp vs H Q E ->
  codeAny (model P w) A (.call (.ref f) args) (CR CX outer P w H s Q E) s
section
variable {X:Cx}{pins:AO_}{σ:St}{H:Hp}{s s':Shared}
theorem Inv.env0 (I:Inv X pins σ H s):Env0 X.prog X.w X.K X.mg X.base X.A X.stack s H :=
 ⟨I.ok.frames,I.ok.mod,I.bs,wV I.ok.bsz I.sz,I.stack,I.stkFree,I.hok,I.bare⟩
theorem Inv.after (I:Inv X pins σ H s) (h:CE X.stack X.prog X.w H s Q u s'):EP X pins σ Q u s':=by
 obtain⟨v,i,f,a,j,c,r,q⟩:=h;obtain⟨k,g,d,t,e⟩:=s';obtain rfl:e=s.os:=f;exact⟨v,i,I.call (h':=k) (g':=g) (d':=d) (t':=t) (ch:=[]) j c a (λb z=>absurd z (by simp)),r,q⟩
end
def iA (sp:Sp) (dvs:LV) (E:XK) (t:TA):TE:=λσ H Q=>t σ H λvs H1=>sp (vs++dvs) H1 Q E
def Binds (K:W.Frag) (fd:FuncData) (ps:LS) (ds:LW):Prop :=
 ∀(s:Shared) (us:LW),K.In s.heap->(us++ds).length=ps.length->BindsTo s fd ⟨us,[]⟩ (ps.zip (us++ds))
theorem Binds.all {K:W.Frag}{fd:FuncData}{ps:LS}(h:∀us:LW,us.length=ps.length->bindArgs fd ⟨us,[]⟩=pure (ps.zip us)):Binds K fd ps []:=λs us _ a=>by
 rw[xH] at a ⊢;exact .of_eq (h us a)
def jE (CX:CXT) (X:Cx) (E:XK):Prop:=∀(pins:AO_) (σ:St) (H:Hp) (s:Shared) (e:Value) (s':Shared),Inv X pins σ H s->CX X.stack H s E e s'->X.xe e s'
section
variable {X:Cx}{CX:CXT}{k:Nat}{f C:Addr}{fd:FuncData}{ps:LS}{sp:Sp}{dvs:LV}{ds:LW}{E:XK}{x m:Str}{p pos apos:Pos}{e o:Expr}{es:List Expr}{ta:TE}{t:TA}
theorem pH (F:FnOk X.prog X.w X.K X.mg X.base CX k f fd ps sp) (i:Room k X.A) (j:Binds X.K fd ps ds) (l:Vals dvs ds) (c:jE CX X E)
    (I:Inv X pins σ H s) (r:Vals q us) (h:sp (q++dvs) H Q E):wpAny (model X.prog X.w) X.A (call (.ref f) us) (EP X pins σ Q) X.xe s:=by
 have b:Vals (q++dvs) (us++ds):=r.append l;have g:(us++ds).length=ps.length:=by rw[<- b.length];exact F.len _ _ _ _ h
 refine wpAny_call (codeAny_mono (F.run X.A X.stack s H ⟨us,[]⟩ (us++ds) (q++dvs) Q E i I.env0 (j s us I.kIn g) b h) λr d a=>?_);cases r with
 | error e=>exact c pins σ H s e d I a
 | ok fl =>
  cases fl with
  | ret u=>exact I.after a
  | next=>exact False.elim a
  | brk=>exact False.elim a
  | cont=>exact False.elim a
theorem ue (F:FnOk X.prog X.w X.K X.mg X.base CX k f fd ps sp) (c:Room k X.A) (m:Gl X x) (l:X.mg x=some (.ref f)) (o:W.keepIn X.K (.ref f)=true) (n:Binds X.K fd ps ds) (i:Vals dvs ds) (j:jE CX X E)
    (d:PA X (e::es) t) (hdb:(x==("__debug__":Str))=false:=by decide) (he:starEach (e::es) X.env=(false,eval e X.env)::starEach es X.env:=by rfl) (hpl:(backTo pos (starEach es X.env)).any (·.1)=false:=by rfl) :
    PE X (.Call (.Name x p) (e::es) [] pos) (iA sp dvs E t):=by
 intro a s g H Q I h;refine wpAny_Call_Name_kw (mY I m l ?_ hdb);refine W.callWith_K (h₀:=X.base) I.ok.mod.kin o (thn (d pos a s g H _ I h) λy w ⟨v,u,b,r,q⟩=>⟨b.kIn,?_⟩) he hpl;exact pH F c n i j b r q
end
structure FnScope (N P:LS) (sc:Scope):Prop where
 kind:sc.kind=.function
 co:sc.isCoroutine=false
 gen:sc.isGenerator=false
 nd:N.Nodup
 pre:N.take P.length=P
 par:∀x∈P,sc.names.lookup x=some .local∨sc.names.lookup x=some .cell
 nofree:∀y∈sc.names,y.2≠.free
theorem kK {kindOf:Str -> Option NameKind}{x:Str}:∀ {binds:List (Str × Value)}{m:Str -> OV}, (∀v, (x, v) ∉ binds) -> bindL kindOf binds m x=m x
 | [],_,_=>rfl
 | (n,v)::r,m,h=>by
  unfold bindL;rw[kK λw hw=>h w (xo _ hw)]
  split
  ·have:x≠n:=by rintro rfl;exact h v x5
   simp[this]
  ·rfl
theorem kL {kindOf:Str -> Option NameKind}{x:Str}:∀ {binds:List (Str × Value)}{m:Str -> OV}, (∀v, (x, v) ∉ binds) -> bindC kindOf binds m x=m x
 | [],_,_=>rfl
 | (n,v)::r,m,h=>by
  unfold bindC;rw[kL λw hw=>h w (xo _ hw)]
  split
  ·rfl
  ·have:x≠n:=by rintro rfl;exact h v x5
   simp[this]
theorem kA {kindOf:Str->Option NameKind}{x:Str}:∀ {P:LS}{vs:LW}{i:Nat}{m:MS},P.Nodup->P[i]? = some x->vs[i]? = some v->kindOf x=some .local ->
    bindL kindOf (P.zip vs) m x=some v
 | [],_,_,_,_,h,_,_=>by simp at h
 | _::_,[],_,_,_,_,h,_=>by simp at h
 | p::P,w::vs,0,m,nd,h1,h2,hk=>by
  simp at h1 h2;subst h1;subst h2;show bindL kindOf ((p,w)::P.zip vs) m p=_;unfold bindL;rw[kK λv hv=>(xB.mp nd).1 (List.of_mem_zip hv).1,if_pos hk];simp
 | p::P,w::vs,i+1,m,nd,h1,h2,hk=>by
  show bindL kindOf ((p,w)::P.zip vs) m x=_;unfold bindL;exact kA (i:=i) (xB.mp nd).2 (by simpa using h1) (by simpa using h2) hk
theorem kR {kindOf:Str->Option NameKind}{x:Str}:∀ {P:LS}{vs:LW}{i:Nat}{m:MS},P.Nodup->P[i]? = some x->vs[i]? = some v->kindOf x≠some .local ->
    bindC kindOf (P.zip vs) m x=some v
 | [],_,_,_,_,h,_,_=>by simp at h
 | _::_,[],_,_,_,_,h,_=>by simp at h
 | p::P,w::vs,0,m,nd,h1,h2,hk=>by
  simp at h1 h2;subst h1;subst h2;show bindC kindOf ((p,w)::P.zip vs) m p=_;unfold bindC;rw[kL λv hv=>(xB.mp nd).1 (List.of_mem_zip hv).1,if_neg hk];simp
 | p::P,w::vs,i+1,m,nd,h1,h2,hk=>by
  show bindC kindOf ((p,w)::P.zip vs) m x=_;unfold bindC;exact kR (i:=i) (xB.mp nd).2 (by simpa using h1) (by simpa using h2) hk
def start (N:LS) (vs:LV):St:=vs.map some++List.replicate (N.length-vs.length) none
def jR (CX:CXT) (P:Program) (w:World) (K:W.Frag) (mg:MS) (base:Heap) (N:LS) (qual:Str) (scope:Scope) (f:Addr) (cd:Value) (A:Around) (outer:List Env) (s:Shared) (H:Hp) (E:XK):Cx where
 prog:=P
 w:=w
 K:=K
 mg:=mg
 base:=base
 A:=A.deeper (envOfC qual scope s.heap.objs.size f cd)
 N:=N
 s₀:=s
 H₀:=H
 env:=envOfC qual scope s.heap.objs.size f cd
 outer:=outer
 stack:=envOfC qual scope s.heap.objs.size f cd::outer
 ex:=[]
 calm:=true
 fn:=λ_=>true
 pn:=[]
 xe:=λe s'=>wpAny (model P w) (A.deeper (envOfC qual scope s.heap.objs.size f cd)) (leaving (envOfC qual scope s.heap.objs.size f cd) e) (λ_ s''=>CX outer H s E e s'') (λe' s''=>CX outer H s E e' s'') s'
theorem mw {z:Scope}{n:Nat}{x:Str}(h:z.names.lookup x=some .cell):∃c,(cellsFrom n z.names []).lookup x=some c:=by
 have q:=W.cellsFrom_some z.names n [] (.inl h);exact yz.mp q
theorem pS {CX:CXT}{P:Program}{w:World}{K:W.Frag}{mg:Str -> OV}{base:Heap}{N ps:LS}{G:Str}{scope:Scope}{f:Addr}{J:Value}{A:Around}{B:List Env}{s O:Shared}{H:Hp}{E:XK}{us:LW}{I:LV}
    (S:FnScope N ps scope) (Q:A.handled=none) (g:Env0 P w K mg base A B s H) (T:I.length=ps.length) (r:Vals I us)
    (x:InCallC s s.heap.objs.size (bindL (envOfC G scope s.heap.objs.size f J).kindOf (ps.zip us) λ_=>none) (cellsFrom (s.heap.objs.size+1) scope.names []) (bindC (envOfC G scope s.heap.objs.size f J).kindOf (ps.zip us) λ_=>none) O) :
    Inv (jR CX P w K mg base N G scope f J A B s H E) [] (start N I) H O:=by
 have R:ps.length<=N.length:=by have:=congrArg List.length S.pre;rw[xx] at this;omega
 obtain⟨C,X,rfl,F⟩:=x.done;have j:∀b:Addr,b∉(jR CX P w K mg base N G scope f J A B s H E).ex:=λb z=>absurd (show b∈([]:List Addr) from z) (by simp);refine⟨⟨g.mod,S.kind,rfl,rfl,wM _,λy z c C d=>?_,λy l=>?_,λy c _ h=>?_,λ_=>Q,Around.frames_deeper g.frames,.inr ⟨rfl,rfl⟩,λb z=>absurd z (j b),g.bs,g.bsz,λb _ _=>j b,λb z=>absurd z (j b),g.funs,g.frf⟩,
  rfl,g.bare,Un.kept F,⟨_,x.toInCall.ns,λi y v C d U=>?_⟩,λy c h=>⟨_,x.cell y c h⟩,g.hok.fresh (wM _),λy c h=>?_,λp o=>absurd (show p∈([]:AO_) from o) (by simp),g.hok.kept F,?_⟩
 ·exact name_of_addr x.apart (PySem.mem_of_lookup C) (PySem.mem_of_lookup d)
 ·have l:scope.names.lookup y=some .cell∨scope.names.lookup y=some .free:=l;rcases l with l | l
  ·exact mw l
  ·exact absurd rfl (S.nofree _ (PySem.mem_of_lookup l))
 ·exact Nat.le_of_lt (x.above y c (PySem.mem_of_lookup h))
 ·have t:i<I.length := by
     unfold start at d;by_cases t:i<I.length
     ·exact t
     ·rw[yd (by simpa using t)] at d;rw[List.getElem?_replicate] at d
      split at d <;> cases d
  have L:I[i]? = some v:=by
   unfold start at d;rw[xU (by simpa using t),wW] at d;cases e:I[i]? with
   | none=>rw[e] at d;cases d
   | some a=>rw[e] at d;cases d;rfl
  obtain⟨u,D,M⟩:=r.get L;have o:ps[i]? = some y:=by rw[<- S.pre,List.getElem?_take_of_lt (by omega)];exact C
  have m:ps.Nodup:=by rw[<- S.pre];exact S.nd.sublist (List.take_sublist _ _)
  refine⟨u,M,?_⟩;rcases S.par y (wP o) with k | k
  ·exact .inl ⟨k,kA m o D k⟩
  ·obtain⟨c,e⟩:=mw (n:=s.heap.objs.size+1) k;refine .inr ⟨.inl k,c,e,?_⟩;have q:=x.cell y c e;rw[kR m o D (by show scope.names.lookup y≠_;rw[k];decide)] at q;exact q
 ·exact g.hok.fresh (Nat.le_of_lt (x.above y c (PySem.mem_of_lookup h)))
 ·unfold start;show _=N.length;rw[w6,wK,yA];omega
theorem wc {CX:CXT}{P:Program}{w:World}{K:W.Frag}{mg:Str -> OV}{base:Heap}{k:Nat}{f:Addr}{name B:Str}{O:Arguments}{U:List Stmt}{scope:Scope}{dV kV a0 pm G ct oc:Value}{an od:Option Addr}
    {a1:Array (OV)} {N ps:LS} {sp:Sp} (lk:K.lookup f=some ⟨oc,od,.func (W.fnOf name B O U scope dV kV a0 pm an G ct),a1⟩) (C:W.codeIn K G B=true) (S:FnScope N ps scope)
    (h:∀Y H Q E,sp Y H Q E->Y.length=ps.length)
    (d:∀(A:Around) (z:List Env) (s:Shared) (H:Hp) (Y:LV) (Q:VK) (E:XK),Room k (A.deeper (envOfC B scope s.heap.objs.size f G))->sp Y H Q E ->
     ∃t,PSs (jR CX P w K mg base N B scope f G A z s H E) U t/\t { nx:=λ_ H'=>Q .non H',rt:=Q } (start N Y) H) :
    FnOk P w K mg base CX (k+1) f (W.fnOf name B O U scope dV kV a0 pm an G ct) ps sp:=by
 refine⟨h,λA z s H L us Y Q E m i hb r l=>?_⟩;have hl:=h _ _ _ _ l;have M:K.In s.heap:=i.mod.kin.keeps λb o e=>(i.bs b o e).1;have p:s.heap.NoLimit:=i.mod.nolimit.keeps λb o e=>(i.bs b o e).1;have c:∀y∈ps.zip us,scope.names.lookup y.1=some .local∨(scope.names.lookup y.1=some .cell/\((cellsFrom (s.heap.objs.size+1) scope.names []).lookup y.1).isSome=true):=λ⟨n,v⟩ hy=>by
  rcases S.par n (List.of_mem_zip hy).1 with q | q
  ·exact .inl q
  ·exact .inr ⟨q,W.cellsFrom_some _ _ _ (.inl q)⟩
 refine codeAny_call_function m.depth (M _ _ lk) rfl S.co S.gen rfl (W.codeRec_of M C) (hb _ _ _ _ ?_);refine wpAny_newFunctionEnv_cells S.kind c λZ T R x=>?_;subst T;refine⟨p.keeps x.toInCall.keep,codeAny_func ?_⟩;obtain⟨t,ht,hq⟩:=d A z s H Y Q E (m.deeper _) l;have I:Inv (jR CX P w K mg base N B scope f G A z s H E) [] (start N Y) H R:=pS S m.hd i hl r x;refine xP (ht [] R (start N Y) H _ I hq) (λX F g=>?_) λe F g=>g;have j:∀ {a:St} {H':Hp} {v:V} {u:Value},Inv (jR CX P w K mg base N B scope f G A z s H E) [] a H' F->RelV v u->Q v H'->CE z P w H s Q u F :=
  λ{a H' v u} J D q=>⟨v,H',J.os,J.bare,J.base,J.hok,D,q⟩
 cases X with
 | ret u =>
  obtain⟨v,a,H',J,D,q⟩:=g;exact j J D q
 | next =>
  obtain⟨a,H',J,q⟩:=g;exact j (v:=V.non) (u:=Value.none) J rfl q
 | brk =>
  obtain⟨_,_,_,q⟩:=g;exact False.elim q
 | cont =>
  obtain⟨_,_,_,q⟩:=g;exact False.elim q
section
variable {X:Cx}{x:Str}{p pos:Pos}{e:Expr}{es:List Expr}{t:TA}{id T:String}{r:LV->Hp->VK->Prop}
def tCB (r:LV->Hp->VK->Prop) (t:TA):TE:=λσ H Q=>t σ H λvs H1=>r vs H1 Q
theorem dt (q:du X (.builtin id) r) (k:Gl X x) (j:X.mg x=none) (l:bootBuiltins x=some (.builtin id)) (d:PA X (e::es) t) (f:x≠"__name__":=by decide) (hdb:(x==("__debug__":Str))=false:=by decide)
    (he:starEach (e::es) X.env=(false,eval e X.env)::starEach es X.env:=by rfl) (hpl:(backTo pos (starEach es X.env)).any (·.1)=false:=by rfl):PE X (.Call (.Name x p) (e::es) [] pos) (tCB r t):=by
 intro a s b H Q I h;refine wpAny_Call_Name_kw (fL I k j l ?_ f hdb);exact PyProof.Rows.callWith_builtin1 (thn (d pos a s b H _ I h) λm i ⟨g,c,o,n,u⟩=>q a i b c g m Q o n u) he hpl
theorem fM (q:du X (.type T) r) (k:Gl X x) (j:X.mg x=none) (l:bootBuiltins x=some (.type T)) (d:PA X (e::es) t) (f:x≠"__name__":=by decide) (hdb:(x==("__debug__":Str))=false:=by decide)
    (he:starEach (e::es) X.env=(false,eval e X.env)::starEach es X.env:=by rfl) (hpl:(backTo pos (starEach es X.env)).any (·.1)=false:=by rfl):PE X (.Call (.Name x p) (e::es) [] pos) (tCB r t):=by
 intro a s b H Q I h;refine wpAny_Call_Name_kw (fL I k j l ?_ f hdb);exact PyProof.Rows.callWith_type1 (thn (d pos a s b H _ I h) λm i ⟨g,c,o,n,u⟩=>q a i b c g m Q o n u) he hpl
end
end L2
namespace HT
open PySem PyProof.Rows
section
open PySem.SeqAt
open PySem.AutoSeq1 (wpAny_loadPart')
open PySem.MeetsSeq PySem.MeetsSeq2 PySem.MeetsSeq3
end
section
variable {prog:Program}{w:World}{A:Around}{E:QS}{s:Shared}
theorem cat_tup (v:IsTup s.heap t vs.toArray) (x:IsTup s.heap b ws.toArray) (o:vs ≠ [])
    (u:ws=[]->Q (.ref t) s) (y:ws≠[]->Q (.ref s.heap.objs.size) { s with heap:=s.heap.push { cls:=.type "tuple",data:=.seq (vs++ws).toArray } })
    (hsz:vs.length+ws.length<=sizeLine):wpAny (model prog w) A (binaryOp .Add (.ref t) (.ref b)) Q E s:=by
 obtain⟨⟨cls,p,data,k⟩,h,q,n,l⟩:=id v;obtain⟨⟨m,c,j,f⟩,a,g,r,d⟩:=id x;simp only at q l g d;subst q l g d;have e:vs.toArray++ws.toArray=(vs++ws).toArray:=by simp
 by_cases i:ws=[]
 ·exact concat_meets ⟨_,h,rfl⟩ ⟨_,a,rfl⟩ noFill_tuple_add seq_tuple_add PySem.F.slot_tuple_add PySem.F.entry_tuple_add (PySem.F.args_tuple_add_2 _ _)
     (tuple_addW1 t b vs.toArray ws.toArray n r p c k f (by simpa using o) (by simp[i])) ⟨h,a,u i⟩
 ·refine concat_meets ⟨_,h,rfl⟩ ⟨_,a,rfl⟩ noFill_tuple_add seq_tuple_add PySem.F.slot_tuple_add PySem.F.entry_tuple_add (PySem.F.args_tuple_add_2 _ _)
     (tuple_addW2 t b vs.toArray ws.toArray n r p c k f (by simpa using o) (by simpa using i) (by rw[xh,xh];exact hsz)) ⟨h,a,?_⟩
  rw[e];exact y i
def sIx (n d:Nat):Option Int->Nat
 | none=>d
 | some v=>if v<0 then (v+(n:Int)).toNat else min v.toNat n
theorem sIx_none (n d:Nat):sIx n d none=d:=rfl
theorem sIx_nat (n d k:Nat):sIx n d (some (k:Int))=min k n:=by
 show (if (k:Int)<0 then ((k:Int)+(n:Int)).toNat else min (k:Int).toNat n)=min k n;rw[if_neg (by omega),yq]
theorem va (n d:Nat) (b:d<=n) (o:Option Int):sIx n d o<=n:=by
 cases o with
 | none=>exact b
 | some v =>
  show (if v<0 then (v+(n:Int)).toNat else min v.toNat n)<=n;by_cases a:v<0
  ·rw[if_pos a];omega
  ·rw[if_neg a];exact Nat.min_le_right _ _
theorem nI (v:Int) (n d:Nat):(if v<0 then max (v+(n:Int)) 0 else min v (n:Int))=((sIx n d (some v):Nat):Int):=by
 show (if v<0 then max (v+(n:Int)) 0 else min v (n:Int))=(((if v<0 then (v+(n:Int)).toNat else min v.toNat n):Nat):Int)
 by_cases a:v<0
 ·simp only[if_pos a];omega
 ·simp only[if_neg a];omega
theorem oo (b a:Option Int) (n:Nat):Builtin.Slice.sliceAdjust b a 1 (n:Int)=(((sIx n 0 b:Nat):Int),((sIx n n a:Nat):Int)):=by
 have c:¬ ((1:Int)<0):=by omega
 unfold Builtin.Slice.sliceAdjust;simp only[c,if_false];refine Prod.ext ?_ ?_
 ·cases b with
  | none=>rfl
  | some v=>exact nI v n 0
 ·cases a with
  | none=>rfl
  | some v=>exact nI v n n
theorem oj (i j:Nat):Builtin.Slice.slicePlaces (i:Int) (j:Int) 1=j-i:=by
 unfold Builtin.Slice.slicePlaces;have a:(1:Int) > 0:=by omega
 simp only[a,if_true,Int.ediv_one]
 split <;> omega
theorem jI (p:IsPart v o) (h:Q o s):wpAny (model prog w) A (Builtin.Slice.slicePartIndex v) Q E s:=by
 cases p with
 | none=>exact slicePart_none h
 | int i t=>exact slicePart_int h
theorem gq {lo hi:Option Int}{n:Nat}{Q:Int × Int × Nat->Shared->Prop}(c:s.heap.IsSliceOf B z q .none) (f:IsPart z lo) (d:IsPart q hi)
    (h:Q (((sIx n 0 lo:Nat):Int),1,sIx n n hi-sIx n 0 lo) s):wpAny (model prog w) A (Builtin.Slice.sliceApplied (.ref B) (pure (n:Int))) Q E s:=by
 obtain⟨g,b,e,a⟩:=id c;unfold Builtin.Slice.sliceApplied Builtin.Slice.sliceFields;refine wJ (wJ (xz b a (x:=z) rfl (wJ (xz b a (x:=q) rfl (wJ (xz b a (x:=.none) rfl (wN ?_)))))));refine wJ (slicePart_none ?_);show wpAny _ _ (if ((1:Int)==0)=true then _ else _) _ _ s;rw[if_neg (by decide)];refine wJ (jI f (wJ (jI d (wJ (wN ?_)))));show wpAny _ _ (match Builtin.Slice.sliceAdjust lo hi 1 (n:Int) with | (lo,hi)=>pure (lo,(1:Int),Builtin.Slice.slicePlaces lo hi 1)) _ _ s;rw[oo lo hi n];show wpAny _ _ (pure (((sIx n 0 lo:Nat):Int),(1:Int),Builtin.Slice.slicePlaces ((sIx n 0 lo:Nat):Int) ((sIx n n hi:Nat):Int) 1)) _ _ s;rw[oj];exact wN h
theorem qH (xs:Array Value) (i k:Nat):((List.range k).filterMap λ(m:Nat)=>xs[((i:Int)+(m:Int) * 1).toNat]?).toArray=((xs.toList.drop i).take k).toArray:=by
 have e:(λ(m:Nat)=>xs[((i:Int)+(m:Int) * 1).toNat]?)=λm=>xs[i+m]?:=by
  funext m
  have:((i:Int)+(m:Int) * 1).toNat=i+m:=by omega
  rw[this]
 rw[e];have:=pick_run xs i k;rw[List.filterMap_map] at this;have a:((λx=>xs[x]?) ∘ λx=>i+x)=λm=>xs[i+m]?:=rfl;rw[a] at this;rw[this]
theorem getItem_tuple_cut {items:Array Value}{lo hi:Option Int}(b:IsTup s.heap t items) (g:s.heap.IsSliceOf z G B .none) (l:IsPart G lo) (k:IsPart B hi)
    (n:¬ (sIx items.size 0 lo=0/\sIx items.size items.size hi=items.size))
    (h:Q (.ref s.heap.objs.size) { s with heap:=s.heap.push { cls:=.type "tuple",data:=.seq ((items.toList.drop (sIx items.size 0 lo)).take (sIx items.size items.size hi-sIx items.size 0 lo)).toArray } })
    (hsz:items.size<=sizeLine):wpAny (model prog w) A (getItem (.ref t) (.ref z)) Q E s:=by
 have a:sizeOk (.seq ((items.toList.drop (sIx items.size 0 lo)).take (sIx items.size items.size hi-sIx items.size 0 lo)).toArray):=by
  show ((items.toList.drop (sIx items.size 0 lo)).take (sIx items.size items.size hi-sIx items.size 0 lo)).toArray.size<=sizeLine;rw[xh,xx,xu,Array.length_toList];omega
 have o:sIx items.size items.size hi<=items.size:=va _ _ (wM _) hi;obtain⟨j,e,f,i⟩:=id g;have c:s.TypeIs (.ref z) "slice":=⟨j,e,f⟩
 unfold getItem
 try with_reducible refine xF ?_
 first | refine wJ (wN ?_) | skip
 refine wJ (wpAny_sequenceKey b.typeIs (by decide) ?_);refine wJ (wpAny_callSpecial?_slot (name:=Str.ofString "__getitem__") b.typeIs PyProof.Rows.slot_tuple_getitem
  (wpAny_call_entry PyProof.Rows.slot_tuple_getitem b.typeIs entry_tuple_getitem ?_ (args_tuple_getitem _ _)))
 show wpAny _ _ (Builtin.Tuple.tupleItemsOf (.ref t) >>= _) _ _ s;refine wJ (tupleItemsOf_ b ?_);refine wJ (wpAny_typeOf c ?_);rw[if_pos (by decide)];refine wJ (gq g l k ?_);have d:¬ ((((sIx items.size 0 lo:Nat):Int)==0&&(1:Int)==1&&(sIx items.size items.size hi-sIx items.size 0 lo)==items.size)=true):=by
  intro q;rw[xC,xC] at q;have r:((sIx items.size 0 lo:Nat):Int)=0:=eq_of_beq q.1.1;have p:sIx items.size items.size hi-sIx items.size 0 lo=items.size:=eq_of_beq q.2;exact n ⟨by omega,by omega⟩
 show wpAny _ _ (if (((sIx items.size 0 lo:Nat):Int)==0&&(1:Int)==1&&(sIx items.size items.size hi-sIx items.size 0 lo)==items.size)=true then _ else _) _ _ s;rw[if_neg d,qH]
 first
  | exact wJ (m:=Builtin.Tuple.tupleExact _) (wpAny_newObj_type (wN ⟨_,rfl,wN h⟩) a)
  | exact wJ (m:=Builtin.Tuple.tupleExact _) (wpAny_newObj_type (wJ (wN (wN ⟨_,rfl,wN h⟩))) a)
  | exact wJ (wJ (m:=Builtin.Tuple.tupleExact _) (wpAny_newObj_type (wN (wN ⟨_,rfl,wN h⟩)) a))
  | exact wJ (wJ (m:=Builtin.Tuple.tupleExact _) (wpAny_newObj_type (wN ⟨_,rfl,wN h⟩) a))
end
end HT
namespace L2
open PySem PySem.Spec PyProof.Rows
abbrev TO:=St->Hp->(Option Int->Hp->Prop)->Prop
def PO (X:Cx) (e:Option Expr) (t:TO):Prop :=
 ∀(pins:AO_) (s:Shared) (σ:St) (H:Hp) (Q:Option Int->Hp->Prop),Inv X pins σ H s->t σ H Q ->
  wpAny (model X.prog X.w) X.A (evalPart e X.env) (λu s'=>∃o H',Inv X pins σ H' s'/\IsPart u o/\Q o H') X.xe s
def uq:TO:=λ_ H Q=>Q none H
def wC (t:TE):TO:=λσ H Q=>t σ H λx H1=>∃i,x=.int i/\Q (some i) H1
section
variable {X:Cx}{e:Expr}{te:TE}{lo hi:Option Expr}{tl th:TO}{pos p2:Pos}
theorem ce:PO X none uq:=by
 intro a s b H Q I h;rw[evalPart_none];exact wN ⟨none,H,I,.none,h⟩
theorem bi (h:PE X e te):PO X (some e) (wC te):=by
 intro a s g H Q I c;rw[evalPart_some];refine thn (h a s g H _ I c) λu k ⟨x,f,b,j,d⟩=>?_;obtain⟨i,rfl,q⟩:=d;obtain⟨t,rfl⟩:=j;exact⟨some i,f,b,.int i t,q⟩
def SlR (X:Cx) (r:V->Option Int->Option Int->Hp->VK->Prop):Prop :=
 ∀(pins:AO_) (s:Shared) (σ:St) (H:Hp) (x:V) (v vl vu:Value) (lo hi:Option Int) (sl:Addr) (Q:VK),Inv X pins σ H s->RelV x v->s.heap.IsSliceOf sl vl vu .none->IsPart vl lo->IsPart vu hi->r x lo hi H Q ->
  ∃T id,typeLookup (.type T) "__getitem__"=pure (some (.builtin id))/\s.TypeIs v T/\wpAny (model X.prog X.w) X.A (getItem v (.ref sl)) (EP X pins σ Q) X.xe s
def tSl (r:V->Option Int->Option Int->Hp->VK->Prop) (te:TE) (tl th:TO):TE:=λσ H Q=>te σ H λx H1=>tl σ H1 λl H2=>th σ H2 λu H3=>r x l u H3 Q
theorem bq (m:SlR X r) (he:PE X e te) (p:PO X lo tl) (j:PO X hi th):PE X (.Subscript e (.Slice lo hi none p2) pos) (tSl r te tl th):=by
 intro a s d H Q I h;refine Subscript_ (thn (he a s d H _ I h) λv w ⟨x,k,E,C,L⟩=>?_);refine wpAny_Slice (thn (p a w d k _ E L) λg F ⟨l,G,n,B,K⟩=>thn (j a F d G _ n K) λf c ⟨u,i,t,A,J⟩=>?_);rw[evalPart_none];refine wN ?_;have D:Inv X a d i { c with heap:=c.heap.push { cls:=.type "slice",data:=.fields #[g,f,.none] } }:=t.kept (t':=c.toks) λb N q=>xb _ q;obtain⟨T,M,y,o,z⟩:=m a { c with heap:=c.heap.push { cls:=.type "slice",data:=.fields #[g,f,.none] } } d i x v g f l u c.heap.objs.size Q D C (Heap.IsSliceOf.new ..) B A J;show wpAny (model X.prog X.w) X.A (subscriptTail e (.Slice lo hi none p2) v (.ref c.heap.objs.size)) (EP X a d Q) X.xe { c with heap:=c.heap.push { cls:=.type "slice",data:=.fields #[g,f,.none] } };exact tail_any (ops:=[.ref c.heap.objs.size,v]) o y z (by with_unfolding_all rfl)
def cX (xs:LV) (lo hi:Option Int):LV:=(xs.drop (HT.sIx xs.length 0 lo)).take (HT.sIx xs.length xs.length hi-HT.sIx xs.length 0 lo)
theorem iJ (xs:LV) (b a:Option Int):(cX xs b a).length<=xs.length:=by
 unfold cX;rw[xx,xu];omega
def rSlT (K:W.Frag):V->Option Int->Option Int->Hp->VK->Prop:=λx lo hi H Q=>∃a xs,x=.ref a/\SqT K H a xs /\
 ¬ (HT.sIx xs.length 0 lo=0/\HT.sIx xs.length xs.length hi=xs.length)/\∀p,H p=none->Q (.ref p) (upd H p (.tup (cX xs lo hi)))
theorem lB:SlR X (rSlT X.K):=by
 intro i s A H x v B z e f w Q I l m t p h;obtain⟨a,d,rfl,n,u,q⟩:=h;cases l;obtain⟨g,r,j,k⟩:=I.tuple n;have c:g.toArray.size=d.length:=by rw[xh];exact r.length.symm
 refine⟨"tuple",_,PyProof.Rows.slot_tuple_getitem.lookup,j.typeIs,?_⟩;refine HT.getItem_tuple_cut j m t p (by rw[c];exact u) ?_ (by rw[c];exact k);rw[c];refine⟨.ref s.heap.objs.size,_,I.laid (t':=s.toks) (o:=.tup (cX d e f)) (λb y q=>xb _ q) (wM _) ?_,rfl,q _ (I.hok.fresh (wM _))⟩;exact⟨wV (iJ d e f) k,_,(r.drop (HT.sIx d.length 0 e)).take (HT.sIx d.length d.length f-HT.sIx d.length 0 e),TupN.new _ _⟩
def wt (K:W.Frag):R2:=λx y H Q=>∃a b xs ys,x=.ref a/\y=.ref b/\SqT K H a xs/\SqT K H b ys/\xs≠[]/\xs.length+ys.length<=sizeLine /\
 (ys=[]->Q (.ref a) H)/\(ys≠[]->∀p,H p=none->Q (.ref p) (upd H p (.tup (xs++ys))))
theorem Vals.nil_iff (r:Vals xs us):us=[] ↔ xs=[]:=by
 cases r with
 | nil=>simp
 | cons _ _=>simp
theorem ui:OpR X (binaryOp .Add) (wt X.K):=by
 intro g s B H x y v u Q I i j h;obtain⟨a,b,n,l,rfl,rfl,k,p,m,f,A,r⟩:=h;cases i;cases j;obtain⟨t,d,p1,_⟩:=I.tuple k;obtain⟨e,c,p2,_⟩:=I.tuple p;refine HT.cat_tup p1 p2 (λz=>m (d.nil_iff.mp z)) (λz=>⟨.ref a,H,I,rfl,A (c.nil_iff.mp z)⟩) (λz=>?_) (by rw[<- d.length,<- c.length];exact f);refine⟨.ref s.heap.objs.size,_,I.laid (t':=s.toks) (o:=.tup (n++l)) (λb C q=>xb _ q) (wM _) ?_,rfl,r (λw=>z (c.nil_iff.mpr w)) _ (I.hok.fresh (wM _))⟩;exact⟨by rw[w6];exact f,_,d.append c,TupN.new _ _⟩
end
def ixN (n:Nat) (i:Int):Option Nat:=if 0<=i then (if i<n then some i.toNat else none) else if -(n:Int)<=i then some (i+n).toNat else none
def atI {α:Type}(xs:List α) (i:Int):Option α:=(ixN xs.length i).bind λj=>xs[j]?
theorem nv (h:ixN n i=some j):seqIndex? i n=some j /\ j<n /\ -(n:Int) <= i /\ i<n := by
 unfold ixN at h;by_cases b:0<=i
 ·rw[if_pos b] at h;by_cases a:i<n
  ·rw[if_pos a] at h;have e:i.toNat=j:=wR h;exact⟨by rw[seqIndex_of b a,e],by omega,by omega,a⟩
  ·rw[if_neg a] at h;cases h
 ·rw[if_neg b] at h;by_cases a:-(n:Int)<=i
  ·rw[if_pos a] at h;have e:(i+n).toNat=j:=wR h;exact⟨by rw[seqIndex_neg (by omega) a,e],by omega,a,by omega⟩
  ·rw[if_neg a] at h;cases h
theorem kf (h:atI xs i=some v):∃j,seqIndex? i xs.length=some j/\xs[j]? = some v/\j<xs.length/\-(xs.length:Int)<=i/\i<xs.length:=by
 unfold atI at h;cases e:ixN xs.length i with
 | none=>rw[e] at h;cases h
 | some j =>
  rw[e] at h;obtain⟨a,c,b,d⟩:=nv e;exact⟨j,a,h,c,b,d⟩
theorem bf {α:Type}{xs:List α}{j:Nat}{v:α}(h:xs[j]? = some v):atI xs (j:Int)=some v:=by
 have a:j<xs.length:=(wO.mp h).1;have e:ixN xs.length (j:Int)=some j:=by
  unfold ixN;rw[if_pos (by omega),if_pos (by omega)];simp
 unfold atI;rw[e];exact h
theorem iT (xs:List α) (v:α):atI (xs++[v]) (-1)=some v:=by
 have a:(xs++[v]).length=xs.length+1:=by simp
 have e:ixN (xs++[v]).length (-1)=some xs.length:=by
  unfold ixN;rw[a,if_neg (by decide),if_pos (by omega)];congr 1;omega
 unfold atI;rw[e];show (xs++[v])[xs.length]? = some v;simp
def mS (b:Expr):Prop:=∀o i,subscripted b false o i=operate [o,i] (getItem o i)
def IxR (X:Cx) (r:R2):Prop :=
 ∀(value slice:Expr) (pins:AO_) (s:Shared) (σ:St) (H:Hp) (x y:V) (v u:Value) (Q:VK),Inv X pins σ H s->RelV x v->RelV y u->r x y H Q ->
  subscripted slice false v u=operate [v,u] (getItem v u)->wpAny (model X.prog X.w) X.A (subscriptTail value slice v u) (EP X pins σ Q) X.xe s
def MtR (X:Cx) (id:String) (r:V->LV->Hp->VK->Prop):Prop :=
 ∀(pins:AO_) (s:Shared) (σ:St) (H:Hp) (x:V) (xs:LV) (v:Value) (us:LW) (Q:VK),Inv X pins σ H s->RelV x v->Vals xs us->r x xs H Q ->
  wpAny (model X.prog X.w) X.A (call (.builtin id) (v::us)) (EP X pins σ Q) X.xe s
section
variable {X:Cx}{a b:Expr}{ta tb:TE}{pos:Pos}
theorem af (f:IxR X r) (g:PE X a ta) (l:PE X b tb) (k:mS b):PE X (.Subscript a b pos) (tOp r ta tb):=by
 intro c s j H Q I h;exact Subscript_ (sk g l I h λv u m x y n i d e q=>f a b c m j n x y v u Q i d e q (k _ _))
def rIxL (K:W.Frag):R2:=λx y H Q=>∃p xs i v,x=.ref p/\y=.int i/\SqL K H p xs/\atI xs i=some v/\Q v H
def rIxT (K:W.Frag):R2:=λx y H Q=>∃p xs i v,x=.ref p/\y=.int i/\SqT K H p xs/\atI xs i=some v/\Q v H
def rIxS:R2:=λx y H Q=>∃z i c,x=.str z/\y=.int i/\z.length<=sizeLine/\atI z.cps.toList i=some c/\Q (.str ⟨#[c]⟩) H
theorem tO:IxR X (rIxL X.K) := by
 intro e f a s m H x y v u Q I C D h n;obtain⟨p,O,i,z,rfl,rfl,K,B,q⟩:=h;cases C;obtain⟨t,rfl⟩:=D;obtain⟨l,r,k,P⟩:=I.list K;obtain⟨j,c,L,N,E,F⟩:=kf B;obtain⟨w,o,g⟩:=r.get L;have G:=r.length;have M:=gN;have b:EP X a m Q w s:=⟨z,H,I,g,q⟩
 by_cases A:0<=i
 ·have d:i.toNat=j:=by
     rw[seqIndex_of A F] at c;exact wR c
  exact item_listR k.isList A (by omega) (by rw[d];simpa using o) b n
 ·have d:(i+(l.toArray.size:Int)).toNat=j:=by
     rw[seqIndex_neg (by omega) E] at c;rw[xh,<- G];exact wR c
  exact subscriptTail_builtinR (x:=w) k.isList.typeIs slot_list_getitem.lookup
   (wpAny_getItem_list_neg (Q:=λr J=>r=w/\EP X a m Q r J) k.isList (by omega) (by rw[xh] <;> omega) (by omega) (by rw[d];simpa using o) ⟨rfl,b⟩) n
theorem uQ:IxR X (rIxT X.K):=by
 intro b c a s f H x y v u Q I l m h A;obtain⟨p,M,i,z,rfl,rfl,D,k,q⟩:=h;cases l;obtain⟨t,rfl⟩:=m;obtain⟨E,r,g,N⟩:=I.tuple D;obtain⟨j,n,F,L,G,J⟩:=kf k;obtain⟨w,B,d⟩:=r.get F;have o:=r.length;have K:=gN;have e:EP X a f Q w s:=⟨z,H,I,d,q⟩
 exact subscriptTail_builtinR (x:=w) g.typeIs slot_tuple_getitem.lookup
  (getItem_tuple (j:=j) (Q:=λr C=>r=w/\EP X a f Q r C) g (by omega) (by omega) (by rw[xh,<- o];exact n) (by simpa using B) ⟨rfl,e⟩) A
theorem uC:IxR X rIxS:=by
 intro a b e s D H x y v u Q I g l h p;obtain⟨z,i,c,rfl,rfl,E,f,q⟩:=h;obtain⟨t,rfl⟩:=g;obtain⟨A,rfl⟩:=l;obtain⟨j,d,w,C,m,n⟩:=kf f;have o:z.cps.toList.length=z.length:=by simp[Str.length]
 rw[o] at d m n;have B:=gN;exact tail_any (typeIs_str s z t) slot_str_getitem.lookup (getItem_str (c:=c) (by
  have k:decide (i < -(2 ^ 63:Int))=false:=xi (by omega);have r:decide (i ≥ 2 ^ 63)=false:=xi (by omega);rw[k,r,Bool.or_false]) (by rw[d];simpa using w) ⟨.str ⟨#[c]⟩,H,I.tok _,⟨_,rfl⟩,q⟩) p
theorem nX (its:LW) (n j:Nat) (u:Value):Obj.mapSeq (·.setIfInBounds j u) { cls:=.type "list",data:=.seq its.toArray n }={ cls:=.type "list",data:=.seq (its.set j u).toArray n }:=by
 simp[Obj.mapSeq]
theorem Inv.lst (I:Inv X pins σ H s) (h:H p=some (.lst xs)) :
    ∃(its:LW) (n:Nat),Vals xs its/\s.heap.get? p=some { cls:=.type "list",data:=.seq its.toArray n }/\xs.length<=sizeLine:=by
 obtain⟨z,its,n,r,e⟩:=I.hok p _ h;exact⟨its,n,r,e,z⟩
theorem Inv.lstUpd {xs ys:LV}{its its':LW}{n n':Nat}{f:Obj->Obj}(I:Inv X pins σ H s) (h:H p=some (.lst xs))
    (d:s.heap.get? p=some { cls:=.type "list",data:=.seq its.toArray n }) (a:f { cls:=.type "list",data:=.seq its.toArray n }={ cls:=.type "list",data:=.seq its'.toArray n' }) (r:Vals ys its') (c:ys.length<=sizeLine) (t:Nat) :
    Inv X pins σ (upd H p (.lst ys)) { s with heap:=s.heap.update p f,toks:=t }:=by
 have e:(s.heap.update p f).get? p=some { cls:=.type "list",data:=.seq its'.toArray n' }:=by rw[Heap.get?_update_self f d (by rw[a] <;> rfl),a]
 refine I.write (x:=p) (e:=p) (by rw[h];trivial) (.inl rfl) (λb u g q=>(Heap.get?_update_other _ _ (Ne.symm g)).trans q) ⟨_,e⟩ ?_;exact⟨c,its',n',r,e⟩
def wg:V->V->V->Hp->(Hp->Prop)->Prop:=λo i v H Q=>∃p xs k j,o=.ref p/\i=.int k/\H p=some (.lst xs)/\ixN xs.length k=some j/\Q (upd H p (.lst (xs.set j v)))
theorem rE:qC X wg := by
 intro b s B H o i v F J u Q I E y A h;obtain⟨p,C,k,j,rfl,rfl,x,z,q⟩:=h;cases E;obtain⟨t,rfl⟩:=y;obtain⟨a,n,r,e,D⟩:=I.lst x;obtain⟨c,K,l,g⟩:=nv z;have d:=r.length;have G:=gN;have m:Inv X b B (upd H p (.lst (C.set j v))) { s with heap:=s.heap.update p (Obj.mapSeq (·.setIfInBounds j u)) } :=
  I.lstUpd x e (nX a n j u) (r.set A j) (by rw[List.length_set];exact D) s.toks
 by_cases w:0<=k
 ·have f:k.toNat=j:=by
     rw[seqIndex_of w g] at c;exact wR c
  exact W.ki_setAt e w (by omega) (by rw[xh,<- d];exact g) (by rw[f];exact⟨_,m,q⟩)
 ·have f:(k+(a.toArray.size:Int)).toNat=j:=by
     rw[seqIndex_neg (by omega) l] at c;rw[xh,<- d];exact wR c
  exact W.ki_setBack e (by omega) (by rw[xh,<- d];exact l) (by omega) (by rw[f];exact⟨_,m,q⟩)
theorem mq (b a:Option Int) (n:Nat):(sliceBounds b a none n).1=((HT.sIx n 0 b:Nat):Int) /\ (sliceBounds b a none n).2.1=((HT.sIx n n a:Nat):Int) /\ (sliceBounds b a none n).2.2=1 := by
 refine⟨?_,?_,rfl⟩
 ·cases b with
  | none=>simp[sliceBounds,HT.sIx]
  | some i =>
   simp only[sliceBounds,HT.sIx,Option.getD_none,show (1:Int) > 0 by decide,if_true];by_cases h:i<0
   ·simp only[h,if_true] <;> omega
   ·simp only[h,if_false] <;> omega
 ·cases a with
  | none=>simp[sliceBounds,HT.sIx]
  | some i =>
   simp only[sliceBounds,HT.sIx,Option.getD_none,show (1:Int) > 0 by decide,if_true];by_cases h:i<0
   ·simp only[h,if_true] <;> omega
   ·simp only[h,if_false] <;> omega
theorem kY (a:LW) (b c:Option Int):slicePick a.toArray b c none=((a.drop (HT.sIx a.length 0 b)).take (HT.sIx a.length a.length c-HT.sIx a.length 0 b)).toArray:=by
 obtain⟨d,f,e⟩:=mq b c a.toArray.size;unfold slicePick;rw[d,f,e];simp only[sliceRange_one,pick_run,xh] <;> rfl
def rSlL (K:W.Frag):V->Option Int->Option Int->Hp->VK->Prop:=λx lo hi H Q=>∃a xs,x=.ref a/\SqL K H a xs/\∀p,H p=none->Q (.ref p) (upd H p (.lst (cX xs lo hi)))
theorem uc:SlR X (rSlL X.K):=by
 intro g s z H x v A y e f u Q I j k p n h;obtain⟨a,c,rfl,l,q⟩:=h;cases j;obtain⟨t,r,i,m⟩:=I.list l;have d:=r.length;refine⟨"list",_,slot_list_getitem.lookup,i.isList.typeIs,?_⟩;refine wpAny_getItem_list_slice i.isList k p n .none (by simp) ?_ (by rw[xh] <;> omega);rw[kY,<- d];refine⟨.ref s.heap.objs.size,_,I.laid (t':=s.toks) (o:=.lst (cX c e f)) (λb w q=>xb _ q) (wM _) ?_,rfl,q _ (I.hok.fresh (wM _))⟩;exact⟨wV (iJ c e f) m,_,0,(r.drop (HT.sIx c.length 0 e)).take (HT.sIx c.length c.length f-HT.sIx c.length 0 e),xl _ rfl⟩
def dO:V->Bool
 | .non=>true
 | .bl _=>true
 | .int _=>true
 | .str _=>true
 | _=>false
def eqV:V->V->Bool
 | .non,.non=>true
 | .bl a,.bl b=>a==b
 | .bl a,.int b=>(if a then 1 else 0)==b
 | .int a,.bl b=>a==(if b then 1 else 0)
 | .int a,.int b=>a==b
 | .str a,.str b=>a==b
 | _,_=>false
theorem uU (f:RelV y u) (c:RelV x v) (g:dO y=true) (e:dO x=true):SeqAt.EqAt A s u v (eqV y x):=by
 cases y with
 | non =>
  cases f;cases x with
  | non=>cases c;exact SeqAt.EqAt.same _
  | bl b=>cases c;exact SeqAt.EqAt.none_bool b
  | int b=>obtain⟨t,rfl⟩:=c;exact SeqAt.EqAt.none_int b t
  | str b=>obtain⟨t,rfl⟩:=c;exact SeqAt.EqAt.none_str b t
  | _=>exact absurd (show false=true from e) xq
 | bl a =>
  cases f;cases x with
  | non=>cases c;exact SeqAt.EqAt.bool_none a
  | bl b=>cases c;exact SeqAt.EqAt.bool_bool a b
  | int b=>obtain⟨t,rfl⟩:=c;exact SeqAt.EqAt.bool_int a b t
  | str b=>obtain⟨t,rfl⟩:=c;exact SeqAt.EqAt.bool_str a b t
  | _=>exact absurd (show false=true from e) xq
 | int a =>
  obtain⟨d,rfl⟩:=f;cases x with
  | non=>cases c;exact SeqAt.EqAt.int_none a d
  | bl b=>cases c;exact SeqAt.EqAt.int_bool a d b
  | int b=>obtain⟨t,rfl⟩:=c;exact SeqAt.EqAt.int_int a d b t
  | str b=>obtain⟨t,rfl⟩:=c;exact SeqAt.EqAt.int_str a d b t
  | _=>exact absurd (show false=true from e) xq
 | str a =>
  obtain⟨d,rfl⟩:=f;cases x with
  | non=>cases c;exact SeqAt.EqAt.str_none a d
  | bl b=>cases c;exact SeqAt.EqAt.str_bool a d b
  | int b=>obtain⟨t,rfl⟩:=c;exact SeqAt.EqAt.str_int a d b t
  | str b=>obtain⟨t,rfl⟩:=c;exact SeqAt.EqAt.str_str a d b t
  | _=>exact absurd (show false=true from e) xq
 | _=>exact absurd (show false=true from g) xq
def eqU (x:V) (u:Value):Bool:=match u with
 | .none=>eqV .non x
 | .bool b=>eqV (.bl b) x
 | .int i _=>eqV (.int i) x
 | .str z _=>eqV (.str z) x
 | _=>false
theorem lD (r:RelV y u) (f:dO y=true):eqU x u=eqV y x:=by
 cases y with
 | non=>cases r;rfl
 | bl b=>cases r;rfl
 | int i=>obtain⟨t,rfl⟩:=r;rfl
 | str z=>obtain⟨t,rfl⟩:=r;rfl
 | _=>exact absurd (show false=true from f) xq
theorem gJ:∀ {xs:LV}{us:LW},Vals xs us->xs.all dO=true->us.any (eqU x)=xs.any λy=>eqV y x
 | _,_,.nil,_=>rfl
 | y::xs,u::us,.cons r t,f=>by
  rw[List.all_cons,xC] at f;rw[xR,xR,lD r f.1,gJ t f.2]
theorem ff (rx:RelV x v) (fx:dO x=true):∀ {xs:LV}{us:LW},Vals xs us->xs.all dO=true->∀u∈us,SeqAt.EqAt A s u v (eqU x u)
 | _,_,.nil,_=>λu hu=>by cases hu
 | y::xs,u::us,.cons r t,f=>λu' hu=>by
  rw[List.all_cons,xC] at f;rcases wY.mp hu with rfl | hu
  ·rw[lD r f.1];exact uU r rx f.1 fx
  ·exact ff rx fx t f.2 u' hu
def inV (x:V) (xs:LV):Bool:=xs.any λy=>eqV y x
def rIn (K:W.Frag) (neg:Bool):R2:=λx y H Q=>∃p xs,y=.ref p/\(SqL K H p xs∨SqT K H p xs)/\dO x=true/\xs.all dO=true/\Q (.bl (if neg then !inV x xs else inV x xs)) H
theorem pw:OpR X (compareOp .In) (rIn X.K false):=by
 intro g s m H x y v u Q I i j h;obtain⟨p,l,rfl,b,f,c,q⟩:=h;cases j;rcases b with b | b
 ·obtain⟨a,r,d,k⟩:=I.list b;refine SeqAt.in_listAt (eqU x) d.isList (λw e=>ff i f r c w (by simpa using e)) ⟨.bl _,H,I,rfl,?_⟩;rw[show a.toArray.any (eqU x)=a.any (eqU x) by simp,gJ r c];exact q
 ·obtain⟨a,r,d,k⟩:=I.tuple b;refine SeqAt.in_tupleAt (eqU x) d (λw e=>ff i f r c w (by simpa using e)) ⟨.bl _,H,I,rfl,?_⟩;rw[show a.toArray.any (eqU x)=a.any (eqU x) by simp,gJ r c];exact q
theorem lM:OpR X (compareOp .NotIn) (rIn X.K true):=by
 intro g s m H x y v u Q I i j h;obtain⟨p,l,rfl,b,f,c,q⟩:=h;cases j;rcases b with b | b
 ·obtain⟨a,r,d,k⟩:=I.list b;refine SeqAt.notIn_listAt (eqU x) d.isList (λw e=>ff i f r c w (by simpa using e)) ⟨.bl _,H,I,rfl,?_⟩;rw[show a.toArray.any (eqU x)=a.any (eqU x) by simp,gJ r c];exact q
 ·obtain⟨a,r,d,k⟩:=I.tuple b;refine SeqAt.notIn_tupleAt (eqU x) d (λw e=>ff i f r c w (by simpa using e)) ⟨.bl _,H,I,rfl,?_⟩;rw[show a.toArray.any (eqU x)=a.any (eqU x) by simp,gJ r c];exact q
theorem lG:du X (.type "list") (λxs H Q => ∃p ys, xs=[.ref p] /\ (SqL X.K H p ys ∨ SqT X.K H p ys) /\ ∀l, H l=none -> Q (.ref l) (upd H l (.lst ys))) := by
 intro g s A H xs B Q I r h;obtain⟨p,ys,rfl,t,q⟩:=h;obtain⟨u,rfl,z⟩:=cK r;cases z;have m:∀(a:LW),Vals ys a->ys.length<=sizeLine->∀(c:Heap) (f:Nat),(∀b o',s.heap.get? b=some o'->c.get? b=some o') ->
     c.get? s.heap.objs.size=some { cls:=.type "list",dict:=none,data:=.seq a.toArray f,slots:=#[] }->EP X g A Q (.ref s.heap.objs.size) { s with heap:=c }:=λa d k c f i e =>
  ⟨.ref s.heap.objs.size,_,I.laid (t':=s.toks) i (wM _) (show ObjOk X.prog X.w _ c _ (.lst ys) from⟨k,a,f,d,e⟩),rfl,q _ (I.hok.fresh (wM _))⟩
 rcases t with t | t
 ·obtain⟨a,d,x,k⟩:=I.list t;have j:=d.length;obtain⟨o,w,y,n,v⟩:=x.isList;exact call_list_seq p (.inl rfl) w y v (λc f i e=>m a d k c f i e) (by simp only[xh] <;> omega)
 ·obtain⟨a,d,x,k⟩:=I.tuple t;have j:=d.length;obtain⟨o,w,y,n,v⟩:=x;exact call_list_seq p (.inr rfl) w y v (λc f i e=>m a d k c f i e) (by simp only[xh] <;> omega)
theorem lh:du X (.type "tuple") (λxs H Q => ∃p ys, xs=[.ref p] /\ ((SqL X.K H p ys /\ ∀l, H l=none -> Q (.ref l) (upd H l (.tup ys))) ∨ (SqT X.K H p ys /\ Q (.ref p) H))) := by
 intro a s n H xs x Q I r h;obtain⟨p,ys,rfl,h⟩:=h;obtain⟨u,rfl,t⟩:=cK r;cases t;rcases h with⟨i,q⟩ | ⟨i,q⟩
 ·obtain⟨c,f,g,k⟩:=I.list i;have j:=f.length;refine call_tuple_list g.isList (λd w=>?_) (by simp only[xh] <;> omega);have m:Inv X a n H { s with heap:=d }:=I.kept (t':=s.toks) w;have v:Inv X a n (upd H d.objs.size (.tup ys)) { s with heap:=d.push { cls:=.type "tuple",data:=.seq c.toArray } } :=
   m.laid (t':=s.toks) (λb o e=>xb _ e) (wM _) (show ObjOk X.prog X.w _ _ _ (.tup ys) from⟨k,c,f,TupN.new _ _⟩)
  exact⟨.ref d.objs.size,_,v,rfl,q _ (m.hok.fresh (wM _))⟩
 ·obtain⟨c,f,g,k⟩:=I.tuple i;exact call_tuple_same g ⟨.ref p,H,I,rfl,q⟩
def tyV (K:W.Frag) (T:String) (x:V) (H:Hp):Prop := match x with
 | .str _=>T="str"
 | .int _=>T="int"
 | .ref p=>(T="list"/\∃xs,SqL K H p xs)∨(T="tuple"/\∃o,K.lookup p=some o/\o.cls=.type "tuple"/\o.dict=none) ∨
     (T="dict"/\((∃kvs,H p=some (.dK kvs))∨∃kvs,H p=some (.dT kvs)))∨(T="set"/\∃S n,H p=some (.set S n))
 | _=>False
theorem pL (I:Inv X pins σ H s) (r:RelV x v) (f:tyV X.K T x H) :
    s.TypeIs v T/\∀a,v=.ref a->∃q,s.heap.get? a=some q/\q.dict=none:=by
 cases x with
 | str z =>
  obtain⟨t,rfl⟩:=r;cases (show T="str" from f);exact⟨typeIs_str s z t,λ_ e=>nomatch e⟩
 | int i =>
  obtain⟨t,rfl⟩:=r;cases (show T="int" from f);exact⟨typeIs_int s i t,λ_ e=>nomatch e⟩
 | ref p =>
  cases r;rcases f with⟨rfl,w,l⟩ | ⟨rfl,o,b,m,g⟩ | ⟨rfl,b⟩ | ⟨rfl,S,n,b⟩
  ·obtain⟨u,_,k,_⟩:=I.list l;refine⟨k.isList.typeIs,λa e=>?_⟩;cases e;obtain⟨o,n,e,c,g,_⟩:=k;exact⟨o,e,g⟩
  ·refine⟨⟨o,I.kIn p o b,m⟩,λa e=>?_⟩;cases e;exact⟨o,I.kIn _ o b,g⟩
  ·have z:∃o, s.heap.get? p=some o /\ o.ExactDict := by
      rcases b with⟨j,b⟩ | ⟨j,b⟩
      ·obtain⟨_,_,_,_,o,_,_,e,d,_⟩:=I.hok p _ b;exact⟨o,e,d⟩
      ·obtain⟨_,_,_,_,o,_,_,e,d,_⟩:=I.hok p _ b;exact⟨o,e,d⟩
   obtain⟨o,e,d⟩:=z;refine⟨⟨o,e,d.1⟩,λa h=>?_⟩;cases h;exact⟨o,e,d.2.1⟩
  ·obtain⟨o,_,_,_,e,d,_⟩:=I.hok p _ b;refine⟨⟨o,e,d.1⟩,λa h=>?_⟩;cases h;exact⟨o,e,d.2.1⟩
 | _=>exact False.elim f
def vN (K:W.Frag) (T:String) (r:V->LV->Hp->VK->Prop) (to:TE):TE:=λσ H Q=>to σ H λx H1=>tyV K T x H1/\r x [] H1 Q
def tBM (K:W.Frag) (T:String) (r:V->LV->Hp->VK->Prop) (to:TE) (t:TA):TE:=λσ H Q=>to σ H λx H1=>tyV K T x H1/\t σ H1 λxs H2=>r x xs H2 Q
variable {o e:Expr}{es:List Expr}{to:TE}{t:TA}{name:Str}{apos cpos:Pos}{T id:String}{r:V->LV->Hp->VK->Prop}
theorem vd (j:PlainAttrs T) (d:Slot T name id) (e:typeOf (.builtin id)=pure (.type "method_descriptor")) (n:MtR X id r) (q:PE X o to)
    (c:attributeBase o name X.env (eval o X.env)=eval o X.env:=by rfl) (b:(apos.endLine==cpos.line)=true:=by rfl):PE X (.Call (.Attribute o name apos) [] [] cpos) (vN X.K T r to):=by
 intro a s f H Q I h;refine wpAny_Call_method0_late c b (thn (q a s f H _ I h) λv p ⟨x,k,i,g,m,t⟩=>?_);obtain⟨l,u⟩:=pL i g m;exact⟨T,id,j,d,e,l,u,Calls.callWith_builtin rfl (PySem.evalArgs_none (n a p f k x [] v [] Q i g .nil t))⟩
theorem oG (n:PlainAttrs T) (f:Slot T name id) (j:typeOf (.builtin id)=pure (.type "method_descriptor")) (D:MtR X id r) (F:PE X o to) (q:PA X (e :: es) t)
    (d:attributeBase o name X.env (eval o X.env)=eval o X.env:=by rfl)
    (g:((backTo cpos (starEach (e::es) X.env)).all (λx=>!x.1)&&(backToKw cpos (keywordEach [] X.env)).all (λx=>x.1.isSome)
     && decide ((e::es).length+([]:List Keyword).length+(if ([]:List Keyword).isEmpty then 0 else 1)<30))=true:=by rfl)
    (c:(apos.endLine==cpos.line)=true:=by rfl) (B:starEach (e::es) X.env=(false,eval e X.env)::starEach es X.env:=by rfl) (b:(backTo cpos (starEach es X.env)).any (·.1)=false:=by rfl) :
    PE X (.Call (.Attribute o name apos) (e::es) [] cpos) (tBM X.K T r to t):=by
 intro a s i H Q I h;refine wpAny_Call_method_late d g c rfl (thn (F a s i H _ I h) λv C ⟨x,p,m,l,y,L⟩=>?_);obtain⟨w,M⟩:=pL m l y;refine⟨T,id,n,f,j,w,M,?_⟩;have k:=q cpos a C i p _ m L;rw[B] at k ⊢;refine Calls.callWith_builtin (by show (false||(backTo cpos (starEach es X.env)).any (·.1))=false;rw[b] <;> rfl) (Calls.evalArgs_plain ?_);exact thn k λE G ⟨A,J,u,z,K⟩=>D a G i J x A v E Q u l z K
end
def MtM (X:Cx) (id:String) (r:V->LV->Hp->VK->Prop):Prop :=
 ∀(pins:AO_) (s:Shared) (σ:St) (H:Hp) (x:V) (xs:LV) (v:Value) (us:LW) (Q:VK),Inv X pins σ H s->RelV x v->Vals xs us->r x xs H Q ->
  wpAny (model X.prog X.w) X.A (call (.builtin id) (v::us)) (EP X pins σ Q) X.xe s
theorem Vals.one:∀ {x:V}{us:LW},Vals [x] us->∃u,us=[u]/\RelV x u
 | _,_,.cons r .nil=>⟨_,rfl,r⟩
theorem Vals.zero:∀ {us:LW},Vals [] us->us=[]
 | _,.nil=>rfl
theorem Vals.reverse (h:Vals xs us):Vals xs.reverse us.reverse:=by
 induction h with
 | nil=>exact .nil
 | cons r t ih=>rw[yt,yt];exact Vals.append ih (.cons r .nil)
section
variable {X:Cx}{pins:AO_}{σ:St}{H:Hp}{s:Shared}{l b:Addr}{xs ys zs:LV}
theorem Inv.lset {its its':LW}{n:Nat}{f:Array Value->Array Value}{t':Nat}(I:Inv X pins σ H s) (a:H l=some (.lst xs))
    (e:s.heap.get? l=some { cls:=.type "list",data:=.seq its.toArray n }) (h:f its.toArray=its'.toArray) (d:Vals ys its') (c:ys.length<=sizeLine) :
    Inv X pins σ (upd H l (.lst ys)) { s with heap:=s.heap.update l (Obj.mapSeq f),toks:=t' }:=by
 have q:=PySem.IsL.update e f;rw[h] at q;refine I.write (x:=l) (e:=l) (by rw[a];exact trivial) (.inl rfl) (λi u g b=>(Heap.get?_update_other s.heap (Obj.mapSeq f) (Ne.symm g)).trans b) ⟨_,q⟩ ?_;exact⟨c,its',_,d,q⟩
theorem Inv.lnew (I:Inv X pins σ H s) (b:Vals ys its) (a:ys.length<=sizeLine) :
    Inv X pins σ (upd H s.heap.objs.size (.lst ys)) { s with heap:=s.heap.push { cls:=.type "list",data:=.seq its.toArray },toks:=t' } :=
 I.laid (λ_ _ q=>xb _ q) (wM _) ⟨a,its,0,b,xl _ rfl⟩
theorem Inv.fresh (I:Inv X pins σ H s):H s.heap.objs.size=none:=I.hok.fresh (wM _)
theorem Inv.lstM (I:Inv X pins σ H s) (a:H l=some (.lst xs)):xs.length<=sizeLine/\∃(its:LW) (n:Nat),Vals xs its/\xs.length=its.length/\s.heap.get? l=some { cls:=.type "list",data:=.seq its.toArray n }:=by
 obtain⟨z,its,n,r,e⟩:=I.hok l _ a;exact⟨z,its,n,r,r.length,e⟩
end
section
variable {X:Cx}
def mR:V->LV->Hp->VK->Prop:=λx vs H Q=>∃l xs y,x=.ref l/\vs=[y]/\H l=some (.lst xs)/\xs.length<sizeLine/\Q .non (upd H l (.lst (xs++[y])))
theorem kQ:MtM X "list.append" mR:=by
 intro c s p H x j v o Q I d f h;obtain⟨l,k,y,rfl,rfl,b,m,q⟩:=h;cases d;obtain⟨u,rfl,g⟩:=f.one;obtain⟨z,a,n,r,i,e⟩:=I.lstM b;refine call_meets F.slot_list_append ⟨_,e,rfl⟩ F.entry_list_append (F.args_list_append_2 _ _) (PySem.list_append l a.toArray n u (by rw[xh];omega)) ⟨e,?_⟩;refine⟨.non,_,I.lset (its':=a++[u]) b e (by simp) (r.append (.cons g .nil)) ?_,rfl,q⟩;rw[w6,yg];omega
def jj:V->LV->Hp->VK->Prop:=λx vs H Q=>∃l xs,x=.ref l/\vs=[]/\H l=some (.lst xs)/\Q .non (upd H l (.lst xs.reverse))
theorem nN:MtM X "list.reverse" jj:=by
 intro d s o H x j v m Q I f g h;obtain⟨l,k,rfl,rfl,c,q⟩:=h;cases f;have b:=g.zero;subst b;obtain⟨z,a,n,r,i,e⟩:=I.lstM c;refine call_meets F.slot_list_reverse ⟨_,e,rfl⟩ F.entry_list_reverse (F.args_list_reverse_1 _) (AutoSeq1.list_reverse_list_0 l a.toArray n (by rw[xh];omega)) ⟨e,?_⟩;refine⟨.non,_,I.lset (its':=a.reverse) c e (by simp) r.reverse ?_,rfl,q⟩;rw[xV];omega
def rCat:R2:=λx y H Q=>∃l b xs zs,x=.ref l/\y=.ref b/\H l=some (.lst xs)/\H b=some (.lst zs)/\xs.length+zs.length<=sizeLine/\∀p,H p=none->Q (.ref p) (upd H p (.lst (xs++zs)))
theorem uA:OpR X (binaryOp .Add) rCat:=by
 intro d s w H x y v u Q I g i h;obtain⟨l,b,B,A,rfl,rfl,f,k,C,q⟩:=h;cases g;cases i;obtain⟨z,c,n,r,t,e⟩:=I.lstM f;obtain⟨D,a,E,o,m,p⟩:=I.lstM k;refine PySem.P.add_list e p ?_ (by rw[xh,xh];omega);have j:c.toArray++a.toArray=(c++a).toArray:=by simp
 rw[j];exact⟨.ref _,_,I.lnew (t':=s.toks) (r.append o) (by rw[w6];omega),rfl,q _ I.fresh⟩
end
section
variable {κ:Type} [DecidableEq κ]
def bn (kvs:List (κ × V)) (k:κ):Option V:=(kvs.find? λkv=>decide (kv.1=k)).map (·.2)
def bh (kvs:List (κ × V)) (k:κ) (v:V):List (κ × V) :=
 if (kvs.any λkv=>decide (kv.1=k))=true then kvs.map (λkv=>if kv.1=k then (kv.1,v) else kv) else kvs++[(k,v)]
theorem rY:bn ([]:List (κ × V)) k=none:=rfl
theorem cv {p:κ × V}{r:List (κ × V)}{k:κ}(e:p.1=k):bn (p::r) k=some p.2:=by simp[bn,yh,e]
theorem cz {p:κ × V}{r:List (κ × V)}{k:κ}(e:¬ p.1=k):bn (p::r) k=bn r k:=by simp[bn,yh,e]
theorem ft (k:κ):∀kvs:List (κ × V),(kvs.any λkv=>decide (kv.1=k))=(bn kvs k).isSome
 | []=>rfl
 | p::r=>by
  rw[xR];by_cases e:p.1=k
  ·simp only[cv e,wQ e,Bool.true_or,Option.isSome_some]
  ·rw[cz e,xi e,Bool.false_or];exact ft k r
theorem lY (k j:κ) (y:V):∀kvs:List (κ × V), bn (kvs.map λkv => if kv.1=k then (kv.1, y) else kv) j=(bn kvs j).map λx => if j=k then y else x
 | []=>rfl
 | p::r=>by
  have ih:=lY k j y r;rw[xr];by_cases h:p.1=k
  ·rw[if_pos h];by_cases e:p.1=j
   ·rw[cv (p:=(p.1,y)) e,cv e,Option.map_some,if_pos (e.symm.trans h)]
   ·rw[cz (p:=(p.1,y)) e,cz e,ih]
  ·rw[if_neg h];by_cases e:p.1=j
   ·rw[cv (p:=p) e,cv e,Option.map_some,if_neg (λz=>h (e.trans z))]
   ·rw[cz (p:=p) e,cz e,ih]
theorem kF (k j:κ) (y:V):∀kvs:List (κ × V),bn kvs k=none->bn (kvs++[(k,y)]) j=if j=k then some y else bn kvs j
 | [],_=>by
  by_cases e:k=j
  ·rw[if_pos e.symm];exact cv (p:=(k,y)) e
  ·rw[if_neg (λz=>e z.symm)];exact cz (p:=(k,y)) e
 | p::r,hn=>by
  rw[List.cons_append];have hk:¬ p.1=k:=λz=>by rw[cv z] at hn;cases hn
  rw[cz hk] at hn;have ih:=kF k j y r hn;by_cases e:p.1=j
  ·rw[cv e,cv e,if_neg (λz=>hk (e.trans z))]
  ·rw[cz e,cz e,ih]
theorem gj (kvs:List (κ × V)) (k j:κ) (y:V):bn (bh kvs k y) j=if j=k then some y else bn kvs j := by
 unfold bh;by_cases a:(kvs.any λc=>decide (c.1=k))=true
 ·rw[if_pos a,lY];rw[ft] at a;by_cases e:j=k
  ·obtain⟨x,b⟩:=yz.mp a;rw[if_pos e,e,b,Option.map_some,if_pos rfl]
  ·rw[if_neg e];cases bn kvs j with
   | none=>rfl
   | some x=>rw[Option.map_some,if_neg e]
 ·rw[if_neg a];refine kF k j y kvs ?_;rw[ft] at a;cases q:bn kvs k with
  | none=>rfl
  | some x=>rw[q] at a;exact(a rfl).elim
theorem cD (kvs:List (κ × V)) (k:κ) (v:V):(bh kvs k v).length<=kvs.length+1:=by
 unfold bh
 split
 ·rw[wK];omega
 ·rw[w6,xc,List.length_nil];omega
theorem rD {kvs:List (κ × V)}{k:κ}(v:V) (h:bn kvs k=none):bh kvs k v=kvs++[(k,v)]:=by
 unfold bh;rw[ft,h];exact if_neg (by decide)
theorem RelO.isSome_eq (r:RelO o u):o.isSome=u.isSome:=by
 cases o with
 | none=>cases u with
  | none=>rfl
  | some _=>exact(show False from r).elim
 | some _=>cases u with
  | none=>exact(show False from r).elim
  | some _=>rfl
theorem KV.val {kvs:List (κ × V)}{B:List (κ × Value)}(r:KV kvs B) (k:κ):RelO (bn kvs k) (valueAt B k) := by
 unfold KV at r
 induction r with
 | nil=>exact True.intro
 | @cons p q ps qs h t ih =>
  obtain⟨c,d⟩:=h;by_cases e:p.1=k
  ·have a:q.1=k:=c.symm.trans e;have b:valueAt (q::qs) k=some q.2:=by simp[valueAt,yh,a]
   rw[cv e,b];exact d
  ·have a:¬ q.1=k:=λz=>e (c.trans z);have b:valueAt (q::qs) k=valueAt qs k:=by simp[valueAt,yh,a]
   rw[cz e,b];exact ih
theorem KV.any (r:KV kvs z) (k:κ):(kvs.any λq=>decide (q.1=k))=z.any λq=>decide (q.1=k):=by
 unfold KV at r
 induction r with
 | nil=>rfl
 | cons h t ih=>rw[xR,xR,ih,h.1]
theorem KV.repl (r:KV kvs G) (k:κ) (b:RelV y u) :
    KV (kvs.map λB=>if B.1=k then (B.1,y) else B) (G.map λB=>if B.1=k then (B.1,u) else B):=by
 unfold KV at r ⊢
 induction r with
 | nil=>exact .nil
 | @cons p q ps qs h t ih =>
  rw[xr,xr];refine .cons ?_ ih;obtain⟨a,c⟩:=h;by_cases e:p.1=k
  ·rw[if_pos e,if_pos (a.symm.trans e)];exact⟨a,b⟩
  ·rw[if_neg e,if_neg (λz=>e (a.trans z))];exact⟨a,c⟩
theorem KV.put (r:KV kvs q) (k:κ) (a:RelV y u):KV (bh kvs k y) (stored q k u):=by
 unfold bh stored;rw[r.any k];by_cases e:(q.any λb=>decide (b.1=k))=true
 ·rw[if_pos e,if_pos e];exact r.repl k a
 ·rw[if_neg e,if_neg e];exact Paired.snoc r ⟨rfl,a⟩
theorem KV.length (r:KV kvs q):kvs.length=q.length:=Paired.length r
end
theorem hG (r:RelV (kV k) u):(cc P w).is k u=true:=by
 cases k with
 | inl i=>obtain⟨t,e⟩:=(show ∃t,u=Value.int i t from r);subst e;exact my P w i t
 | inr x=>obtain⟨t,e⟩:=(show ∃t,u=Value.str x t from r);subst e;exact mE P w x t
theorem kC:∀ {ks:List Key}{us:LW},Vals (ks.map kV) us->ItemsAre (cc P w) ks us
 | [],_,r=>by rw[List.map_nil] at r;cases r;exact .nil
 | k::ks,_,r=>by
  rw[xr] at r;cases r with
  | cons h t=>exact .cons (hG h) (kC t)
abbrev KT (H:Hp):List (List Key × V)->List (List Key × Addr × Value)->Prop:=Paired λp q=>p.1=q.1/\H q.2.1=some (.tup (p.1.map kV))/\RelV p.2 q.2.2
theorem KT.val {kvs:List (List Key × V)}{xs:List (List Key × Addr × Value)}(r:KT H kvs xs) (k:List Key):RelO (bn kvs k) ((atKey xs k).map (·.2)) := by
 induction r with
 | nil=>exact True.intro
 | @cons p q ps qs h t ih =>
  obtain⟨c,_,d⟩:=h;by_cases e:p.1=k
  ·have a:q.1=k:=c.symm.trans e;have b:atKey (q::qs) k=some q.2:=by simp[atKey,yh,a]
   rw[cv e,b];exact d
  ·have a:¬ q.1=k:=λz=>e (c.trans z);have b:atKey (q::qs) k=atKey qs k:=by simp[atKey,yh,a]
   rw[cz e,b];exact ih
theorem KT.repl (r:KT H kvs xs) (k:List Key) (d:RelV y u) :
    KT H (kvs.map λB=>if B.1=k then (B.1,y) else B) (xs.map (putAt k u)):=by
 induction r with
 | nil=>exact .nil
 | @cons p q ps qs h t ih =>
  rw[xr,xr];refine .cons ?_ ih;obtain⟨a,b,c⟩:=h;unfold putAt;by_cases e:p.1=k
  ·rw[if_pos e,if_pos (a.symm.trans e)];exact⟨a,b,d⟩
  ·rw[if_neg e,if_neg (λz=>e (a.trans z))];exact⟨a,b,c⟩
theorem KT.put (r:KT H kvs xs) (k:List Key) (d:H b=some (.tup (k.map kV))) (a:RelV y u) :
    KT H (bh kvs k y) (storedH xs k b u):=by
 have e:(kvs.any λc=>decide (c.1=k))=(atKey xs k).isSome:=by rw[ft,(r.val k).isSome_eq,Option.isSome_map]
 unfold bh storedH;rw[e];by_cases q:(atKey xs k).isSome=true
 ·rw[if_pos q,if_pos q];exact r.repl k a
 ·rw[if_neg q,if_neg q];exact Paired.snoc r ⟨rfl,d,a⟩
theorem KT.keeps (r:KT H kvs xs) (a:∀b ys,H b=some (.tup ys)->H' b=some (.tup ys)):KT H' kvs xs :=
 Paired.mapP r λ_ _ z=>⟨z.1,a _ _ z.2.1,z.2.2⟩
section
variable {P:Program}{w:World}{H:Hp}{h:Heap}{a:Addr}
theorem sS (b:HOk P w H h) (e:Rd H a u):ObjOk P w H h a u:=e.ok b
theorem iG (b:HOk P w H h) (e:Rd H a (.dK kvs)):kvs.length<=sizeLine/\(a==sysModules)=false/\∃q,KV kvs q/\h.DictOf (cc P w) a q :=
 show ObjOk P w H h a (.dK kvs) from sS b e
theorem nW (b:HOk P w H h) (e:H a=some (.dK kvs)):kvs.length<=sizeLine/\(a==sysModules)=false/\∃q,KV kvs q/\h.DictOf (cc P w) a q:=iG b (.inl e)
theorem gI (d:HOk P w H h) (e:H a=some (.tup (ks.map kV))):(tupleKind (cc P w)).is h ks a:=by
 obtain⟨_,b,r,o,c,g,n,f,_⟩:=(show ObjOk P w H h a (.tup (ks.map kV)) from d a _ e)
 exact⟨o,b.toArray,n,c,g,f,by simpa using kC r⟩
theorem jN (d:HOk P w H h) (e:Rd H a (.dT kvs)):kvs.length <= sizeLine /\ (a==sysModules)=false /\
    ∃xs,KT H kvs xs/\h.DictOfH (tupleKind (cc P w)) a xs:=by
 obtain⟨z,y,xs,r,o,g,i,f,n,j,k,s⟩:=(show ObjOk P w H h a (.dT kvs) from sS d e)
 refine⟨z,y,xs,r,o,g,i,f,n,j,k,λx b=>?_,s⟩;have c:∀ {l:List (List Key × V)} {m:List (List Key × Addr × Value)}, KT H l m -> ∀x ∈ m, (tupleKind (cc P w)).is h x.1 x.2.1 := by
  intro l m q
  induction q with
  | nil=>intro x b;exact nomatch b
  | @cons p q ps qs hq t ih =>
   intro x b;rcases wY.mp b with e | b
   ·subst e;exact gI d (by rw[<- hq.1];exact hq.2.1)
   ·exact ih x b
 exact c r x b
theorem sW (b:HOk P w H h) (e:H a=some (.dT kvs)):kvs.length<=sizeLine/\(a==sysModules)=false /\
    ∃xs,KT H kvs xs/\h.DictOfH (tupleKind (cc P w)) a xs:=jN b (.inl e)
end
def ki (H:Hp) (a:Addr) (y:V) (r:Option V):Prop :=
 (∃kvs k,Rd H a (.dK kvs)/\y=kV k/\r=bn kvs k)∨∃kvs k b,Rd H a (.dT kvs)/\y=.ref b/\H b=some (.tup (k.map kV))/\r=bn kvs k
def DPut (H:Hp) (a:Addr) (y v:V) (H':Hp):Prop :=
 (∃kvs k,H a=some (.dK kvs)/\y=kV k/\kvs.length<sizeLine/\H'=upd H a (.dK (bh kvs k v))) ∨
 ∃kvs k b,H a=some (.dT kvs)/\y=.ref b/\H b=some (.tup (k.map kV))/\kvs.length<sizeLine/\H'=upd H a (.dT (bh kvs k v))
theorem DPut.k {kvs:KV_}{k:Key}(e:H a=some (.dK kvs)) (b:kvs.length<sizeLine):DPut H a (kV k) v (upd H a (.dK (bh kvs k v))):=.inl ⟨kvs,k,e,rfl,b,rfl⟩
section
variable {X:Cx}{pins:AO_}{σ:St}{H:Hp}{s:Shared}{a:Addr}{y v:V}{u r:Value}{o:Option V}{A:Around}{E:QS}
theorem Inv.big (I:Inv X pins σ H s):sysModules<s.heap.objs.size:=by
 have h:mainGlobals<s.heap.objs.size:=(I.mod.glob.keeps I.bk).lt;exact Nat.lt_trans (by decide) h
theorem pi (t:A.units+1<cLine) (I:Inv X pins σ H s) (g:ki H a y (some v)) (r:RelV y u) (h:∀q s',Inv X pins σ H s'->RelV v q->Q q s') :
    wpAny (model X.prog X.w) A (getItem (.ref a) u) Q E s:=by
 rcases g with⟨j,k,e,i,l⟩ | ⟨j,k,b,e,i,C,l⟩
 ·subst i;obtain⟨z,w,x,d,m⟩:=iG I.hok e;obtain⟨q,n,c⟩:=RelO.some_of (v:=v) (o:=valueAt x k) (by rw[l];exact d.val k);exact wpAny_getItem_of (hG r) m.mapOf n (h q _ (I.tok _) c)
 ·subst i;cases (show u=Value.ref b from r);obtain⟨z,w,B,d,m⟩:=jN I.hok e;obtain⟨q,n,c⟩:=RelO.some_of (v:=v) (o:=(atKey B k).map (·.2)) (by rw[l];exact d.val k);obtain⟨p,D,f⟩:=Option.map_eq_some_iff.mp n;refine wpAny_getItem_heap (tupleKind_room_in1 t) (gI I.hok C) m D ?_;rw[f];exact h q _ (I.tok _) c
theorem d_in (n:A.units+1<cLine) (I:Inv X pins σ H s) (g:ki H a y o) (m:RelV y u) (h:∀s',Inv X pins σ H s'->Q (.bool o.isSome) s') :
    wpAny (model X.prog X.w) A (compareOp .In u (.ref a)) Q E s:=by
 rcases g with⟨f,k,e,d,l⟩ | ⟨f,k,b,e,d,p,l⟩
 ·subst d;obtain⟨z,i,r,c,j⟩:=iG I.hok e;refine wpAny_in_of (hG m) i j.mapOf ?_;rw[<- (c.val k).isSome_eq,<- l];exact h _ (I.tok _)
 ·subst d;cases (show u=Value.ref b from m);obtain⟨z,i,t,c,j⟩:=jN I.hok e;refine wpAny_in_heap (tupleKind_room_in1 n) (gI I.hok p) i j ?_;have q:=(c.val k).isSome_eq;rw[Option.isSome_map] at q;rw[<- q,<- l];exact h _ (I.tok _)
theorem tG (n:A.units+1<cLine) (I:Inv X pins σ H s) (g:ki H a y o) (m:RelV y u) (h:∀s',Inv X pins σ H s'->Q (.bool (!o.isSome)) s') :
    wpAny (model X.prog X.w) A (compareOp .NotIn u (.ref a)) Q E s:=by
 rcases g with⟨f,k,e,d,l⟩ | ⟨f,k,b,e,d,p,l⟩
 ·subst d;obtain⟨z,i,r,c,j⟩:=iG I.hok e;refine wpAny_notIn_of (hG m) i j.mapOf ?_;rw[<- (c.val k).isSome_eq,<- l];exact h _ (I.tok _)
 ·subst d;cases (show u=Value.ref b from m);obtain⟨z,i,t,c,j⟩:=jN I.hok e;refine wpAny_notIn_heap (tupleKind_room_in1 n) (gI I.hok p) i j ?_;have q:=(c.val k).isSome_eq;rw[Option.isSome_map] at q;rw[<- q,<- l];exact h _ (I.tok _)
theorem fX (I:Inv X pins σ H s) (d:Mut (H a)) (f:Heap.SameBut a s.heap h') (he:∃q,h'.get? a=some q) (c:ObjOk X.prog X.w (upd H a B) h' a B) :
    Inv X pins σ (upd H a B) { s with heap:=h',toks:=t' } :=
 I.write (x:=a) (e:=a) d (.inl rfl) (λb q g z=>(f.2 b g).trans z) he c
theorem lS (z:kvs.length<=sizeLine) (c:(a==sysModules)=false) (b:KV kvs q) (d:h'.DictOf (cc P w) a q) :
    ObjOk P w H' h' a (.dK kvs):=⟨z,c,q,b,d⟩
theorem qb (L:A.units+1<cLine) (I:Inv X pins σ H s) (g:DPut H a y v H') (B:RelV y u) (D:RelV v r) (h:∀s',Inv X pins σ H' s'->Q () s') :
    wpAny (model X.prog X.w) A (setItem (.ref a) u r) Q E s:=by
 rcases g with⟨d,k,e,m,l,w⟩ | ⟨d,k,b,e,m,G,l,w⟩
 ·subst m w;obtain⟨z,o,R,f,x⟩:=nW I.hok e;have t:R.length<=sizeLine:=by rw[<- f.length];exact z
  have n:(bh d k v).length<=sizeLine:=by have:=cD d k v;omega
  refine wpAny_setItem_pairs (hsz:=t) (hG B) x λC i p=>h _ ?_;have K:∃q,C.get? a=some q:=let ⟨q,_,_,j,_⟩:=i;⟨q,j⟩;exact fX I (by rw[e];exact True.intro) p K (lS n o (f.put k D) i)
 ·subst m w;cases (show u=Value.ref b from B);obtain⟨z,o,S,f,x⟩:=sW I.hok e;have t:S.length<=sizeLine:=by rw[<- Paired.length f];exact z
  have n:(bh d k v).length<=sizeLine:=by have:=cD d k v;omega
  refine wpAny_setItem_heap (hsz:=t) (tupleKind_room_in1 L) (gI I.hok G) x λC i p=>h _ ?_;obtain⟨q,J,O,j,T,P,M,_,N⟩:=i;refine fX I (by rw[e];exact True.intro) p ⟨q,j⟩ ⟨n,o,_,(f.put k G D).keeps λc U F=>?_,q,J,O,j,T,P,M,N⟩;rw[az (cC F e (λz=>nomatch z))];exact F
end
section
variable {X:Cx}{pins:AO_}{σ:St}{H:Hp}{s:Shared}{a:Addr}{kvs:KV_}{k:Key}{u:Value}{A:Around}{E:QS}
theorem wa (I:Inv X pins σ H s) (e:Rd H a (.dK kvs)) (h:∀t s',Inv X pins σ H s'->Q (.int kvs.length t) s'):wpAny (model X.prog X.w) A (call (.builtin "len") [.ref a]) Q E s:=by
 obtain⟨z,c,f,b,d⟩:=iG I.hok e;refine call_len_dict c d (by rw[<- b.length];rw[sizeLine_eq] at z;omega) ?_;rw[<- b.length];exact h _ _ (I.tok _)
end
theorem mL (I:Inv X pins σ H s) (g:ki H a y o):s.TypeIs (.ref a) "dict":=by
 rcases g with⟨c,k,e,_,_⟩ | ⟨c,k,b,e,_,_,_⟩
 ·obtain⟨_,_,f,_,d⟩:=iG I.hok e;exact d.typeIs
 ·obtain⟨_,_,h,_,d⟩:=jN I.hok e;exact d.typeIs
theorem ji (h:Heap) (a:sysModules<h.objs.size):ObjOk P w H (h.push { cls:=.type "dict",data:=.dict #[] }) h.objs.size (.dK []) :=
 ⟨xt _,beq_eq_false_iff_ne.mpr (Ne.symm (xm a)),[],.nil,Heap.DictOf.new h⟩
def vZ:TE:=λ_ H Q=>∀p,H p=none->Q (.ref p) (upd H p (.dK []))
section
variable {X:Cx}{pos:Pos}
theorem jb:PE X (.Dict [] [] pos) vZ:=λb s c H Q I h =>
 wpAny_Dict_empty ⟨.ref s.heap.objs.size,_,I.laid (a:=s.heap.objs.size) (o:=.dK []) (t':=s.toks) (λ_ _ q=>xb _ q) (wM _) (ji s.heap I.big),rfl,h _ (I.hok.fresh (wM _))⟩
end
def lO:List (TE × TE)->St->Hp->(List (V × V)->Hp->Prop)->Prop
 | [],_,H,Q=>Q [] H
 | (tk,tv)::r,σ,H,Q=>tk σ H λx H1=>tv σ H1 λy H2=>lO r σ H2 λps H3=>Q ((x,y)::ps) H3
abbrev VV:List (V × V)->List (Value × Value)->Prop:=Paired λp q=>RelV p.1 q.1/\RelV p.2 q.2
def PPs (X:Cx) (pos:Pos) (keys:List (Option Expr)) (values:List Expr) (trs:List (TE × TE)):Prop :=
 ∀(pins:AO_) (s:Shared) (σ:St) (H:Hp) (Q:List (V × V)->Hp->Prop),Inv X pins σ H s->lO trs σ H Q ->
  wpAny (model X.prog X.w) X.A (evalPairs (pairTrees keys values X.env pos)) (λvs s'=>∃ps H',Inv X pins σ H' s'/\VV ps vs/\Q ps H') X.xe s
theorem ug:PPs X pos [] [] []:=λa s b H Q I h=>pairTrees_nil_walk ⟨[],H,I,.nil,h⟩
theorem rB (D:PE X k z) (o:PE X v G) (i:PPs X pos ks B q) :
    PPs X pos (some k::ks) (v::B) ((z,G)::q):=λa s b H Q I h =>
 pairTrees_cons_walk (thn (D a s b H _ I h) λu n ⟨x,e,p,d,C⟩=>thn (o a n b e _ p C) λJ r ⟨y,t,j,f,w⟩ =>
  thn (i a r b t _ j w) λF E ⟨l,g,m,c,A⟩=>⟨(x,y)::l,g,m,.cons ⟨d,f⟩ c,A⟩)
def fN (kvs more:KV_):KV_:=more.foldl (λacc kv=>bh acc kv.1 kv.2) kvs
theorem KV.merge:∀ {z:KV_}{G:List (Key × Value)}{kvs:KV_}{B:List (Key × Value)}, KV z G -> KV kvs B -> KV (fN kvs z) (merged B G) := by
 intro z G kvs B r;unfold KV at r
 induction r generalizing kvs B with
 | nil=>intro q;exact q
 | @cons p q ps qs h t ih =>
  intro a;have e:KV (bh kvs p.1 p.2) (stored B q.1 q.2):=by
   have:=a.put p.1 h.2;rw[<- h.1];exact this
  exact ih e
theorem hV:∀(more kvs:KV_),(fN kvs more).length<=kvs.length+more.length
 | [],kvs=>by show kvs.length<=kvs.length+0;omega
 | p::r,kvs=>by
  have h1:=hV r (bh kvs p.1 p.2);have h2:=cD kvs p.1 p.2;show (fN (bh kvs p.1 p.2) r).length<=_;rw[xc];omega
theorem jz:∀ {kvs:KV_}{ws:List (Value × Value)}, VV (kvs.map λkv => (kV kv.1, kv.2)) ws -> ∃rs, Carries (cc P w) ws rs /\ KV kvs rs
 | [],_,r=>by rw[List.map_nil] at r;cases r;exact⟨[],True.intro,.nil⟩
 | p::kvs,_,r=>by
  rw[xr] at r;cases r with
  | @cons a b as bs h t =>
   obtain⟨rs,c,q⟩:=jz (P:=P) (w:=w) t;obtain⟨b1,b2⟩:=b;exact⟨(p.1,b2)::rs,⟨hG h.1,rfl,c⟩,.cons ⟨rfl,h.2⟩ q⟩
def wA (trs:List (TE × TE)):TE:=λσ H Q=>∀p,H p=none->lO trs σ (upd H p (.dK [])) λps H2=>H2 p=some (.dK [])/\∃kvs:KV_,ps=kvs.map (λkv=>(kV kv.1,kv.2))/\kvs.length<=15/\Q (.ref p) (upd H2 p (.dK (fN [] kvs)))
theorem tX (h:PPs X pos B G J) (f:B.all (·.isSome)=true) (p:B.length=G.length) (F:B≠[])
    (i:B.length<=15):PE X (.Dict B G pos) (wA J):=by
 intro g s v H Q I q;have r:=I.hok.fresh (wM s.heap.objs.size);have E:=I.laid (a:=s.heap.objs.size) (o:=.dK []) (h':=s.heap.push { cls:=.type "dict",data:=.dict #[] }) (t':=s.toks) (λ_ _ q=>xb _ q) (wM _) (ji s.heap I.big);refine wpAny_Dict_walk (knd:=cc X.prog X.w) f p F i (thn (h g _ v _ _ E (q _ r)) λN R ⟨T,S,k,j,e,b,u,O,L⟩=>?_);subst u;obtain⟨C,c,t⟩:=jz (P:=X.prog) (w:=X.w) j;obtain⟨z,x,M,m,D⟩:=nW k.hok e;cases m;refine⟨C,c,D,λh' d y=>⟨.ref s.heap.objs.size,_,?_,rfl,L⟩⟩;have A:(fN [] b).length<=sizeLine:=by
  have n:=hV b [];rw[List.length_nil] at n;rw[sizeLine_eq];omega
 have l:∃q,h'.get? s.heap.objs.size=some q:=let ⟨q,_,_,K,_⟩:=d;⟨q,K⟩;exact fX k (by rw[e];exact True.intro) y l (lS A x (t.merge .nil) d)
end L2
namespace Att
open PySem PySem.W PySem.Calls PyProof.Rows
theorem jo:∀(ns:List Int) (q:LW), WellAll P h q (ns.map WData.int) -> IntsAre q ns := by
 intro ns
 induction ns with
 | nil =>
  intro q w;rw[List.map_nil] at w;cases w;exact .nil
 | cons n ns ih =>
  intro q w;rw[xr] at w;cases w with
  | cons a b =>
   cases a;exact .cons _ _ (ih _ b)
theorem pz {l:OpenLaw}{n:Nat}(o:l.most=some n) {P:Params}{args:List WData}{z:LW}
    (b:l.row.toRowW.claim.pre args=true) (i:WellAll P h z args) :
    ∃a vs ns,z=[Value.ref a]/\args=[WData.list (ns.map WData.int)]/\h.get? a=some { cls:=.type "list",data:=.seq vs.toArray }/\IntsAre vs ns/\ns.length<=n:=by
 have g:WShape.hasAll [] args [.list .int]=true:=(pre_splitW b).1;have j:l.pre.holds [] { args:=args }=true:=(pre_splitW b).2;obtain⟨d,r,rfl,k,s⟩:=hasAllW_cons g;obtain rfl:=hasAllW_nil s;obtain⟨t,rfl,p⟩:=hasW_list k;obtain⟨ns,rfl⟩:=items_int p;have c:ns.length<=n:=by
  unfold OpenLaw.pre at j;have e:(WTm.not (.lt (.lit (.int (n:Int))) (.len (.arg 0)))).holds [] { args:=[.list (ns.map .int)] }=true:=by
   have e:=(holds_andW j).1;rw[o] at e;exact e
  have f:=condW_of e (w_not (w_lt w_lit (w_len_list (w_arg rfl))));rw[wK] at f;refine Nat.le_of_not_lt λq=>?_;have m:(n:Int)<((ns.length:Nat):Int):=by omega
  first
   | (rw[wQ m] at f;exact absurd f (by decide))
   | (simp at f;omega)
 cases i with
 | cons w1 w2 =>
  cases w2;cases w1 with
  | list ho hall=>exact⟨_,_,ns,rfl,rfl,ho,jo ns _ hall,c⟩
theorem pZ (l:OpenLaw) (args:List WData):l.row.toRowW.claim.post args (.bool true) args=true :=
 postW_of (r:=l.row.toRowW) (X:=(true==true))
  (show WShape.has [] (.bool true) .bool=true by first | rfl | decide | simp[WShape.has,WShape.arms,WShape.armsAll])
  (show (WTm.eq .res (.lit (.bool true))).value [] { args:=args,res:=some (.bool true),after:=args }=some (.bool (true==true)) from w_eq_bool (w_res rfl) w_lit) rfl
theorem attach_call {l:OpenLaw}{n:Nat}{I:LS}{XP:(Str -> OV) -> Heap -> Prop}{YP:World -> Heap -> Prop}{d:DefRec}
    (y:l.most=some n) (j:d.params.defaults=[])
    (c:∀(w:World) (B z:Shared) (mg mb:MS) (O:Addr) (o:Obj) (pm U J:Value) (a:Addr) (vs:LW) (ns:List Int),
     Ground q I [] XP w B mg mb z.heap->YP w z.heap ->
     z.heap.get? O=some o->o.data=.func (docDef d.name d.params d.body d.scope pm U J)->z.heap.CodeRec U d.name->mg d.name=some (.ref O) ->
     z.heap.get? a=some { cls:=.type "list",data:=.seq vs.toArray }->IntsAre vs ns->ns.length<=n->z.gens=#[] ->
     codeAny (model l.prog w) callerA (.call (.ref O) ⟨[.ref a],[]⟩) (λr s'=>r=.ok (.ret (.bool true))/\OldK z.heap s'.heap/\s'.os=z.os/\AllBare s'.gens) z) :
    WalkO q I XP YP l.row.toRowW d [] (λf vs=>PySem.call f vs):=by
 intro w B z mg mb G Y O o pm U J L kV H C k s m E p u N h t v i F;obtain rfl:L=.none:=Dflts.none s j;obtain rfl:kV=.none:=Dflts.noKw s;obtain⟨a,vs,ns,rfl,rfl,g,b,e⟩:=pz y h i;refine enter_call (codeAny_mono (c w B z mg mb O o pm U J a vs ns G Y H (fd_plain C) k m g b e E) λr s' K=>?_);obtain⟨rfl,M,A,x⟩:=K;exact⟨.inl ⟨.bool true,.bool true,[],rfl,λ_=>rfl,.bool true,pZ l _,λ_=>⟨List.Pairwise.nil,λ_ D=>(nomatch D)⟩⟩,M,A,x⟩
end Att
namespace L2
open PySem PySem.Spec PyProof.Rows
theorem kN:∀ {vs:LW}{ns:List Int},IntsAre vs ns->Vals (ns.map V.int) vs
 | _,_,.nil=>.nil
 | _,_,.cons n t h=>.cons ⟨t,rfl⟩ (kN h)
def qW (H:Hp):Prop:=∀b,H b=none∨∃o xs,H b=some (.frz o (.lst xs))
theorem qD {P:Program}{w:World}{K:W.Frag}{mg U:Str -> OV}{CX:CXT}{k:Nat}{O a:Addr}{fd:FuncData}{x:Str}{sp:Sp}{B:Shared}{vs:LW}{ns:List Int}
    (KX:K.In B.heap) (E:B.heap.Ns mainGlobals mg) (f:B.heap.Ns builtinsNs U) (N:∀x:Str,x≠"__name__"->U x=bootBuiltins x) (I:B.heap.NoLimit) (hg:B.gens=#[])
    (J:B.heap.get? a=some { cls:=.type "list",data:=.seq vs.toArray }) (S:IntsAre vs ns) (Y:ns.length<=sizeLine) (hr:Room k callerA)
    (F:∀base:Heap,K.In base->base.Ns mainGlobals mg->FnOk P w K mg base CX k O fd [x] sp) (j:∀(s:Shared) (u:Value),BindsTo s fd ⟨[u],[]⟩ [(x,u)])
    (Q:∀H:Hp,qW H->SqL K H a (ns.map V.int)->sp [.ref a] H (λv _=>v=.bl true) λ_ _ _=>False)
    (L:∀H e s',CX [] H B (λ_ _ _=>False) e s'->False) :
    codeAny (model P w) callerA (.call (.ref O) ⟨[.ref a],[]⟩) (λr s'=>r=.ok (.ret (.bool true))/\OldK B.heap s'.heap/\s'.os=B.os/\AllBare s'.gens) B:=by
 have Z:=kN S;have G:=S.length;have i:∀H:Hp, qW H -> SqL K H a (ns.map V.int) -> HOk P w H B.heap -> (∀b, H b ≠ none -> b=a) -> (H a ≠ none -> K.lookup a=none) ->
     codeAny (model P w) callerA (.call (.ref O) ⟨[.ref a],[]⟩) (λr s'=>r=.ok (.ret (.bool true))/\OldK B.heap s'.heap/\s'.os=B.os/\AllBare s'.gens) B:=by
  intro H hO hS p X hK;have c:∀ {b:Addr} {o:Obj},B.heap.get? b=some o->H b=none->(gV B.heap H).get? b=some o:=λe n=>qS e n;have M:∀ {b:Addr} {o:Obj} {l:Array DictEntry} {y:Nat},B.heap.get? b=some o->o.data=.dict l y->H b=none:=λ{b o l y} e d=>by
   cases q:H b with
   | none=>rfl
   | some u =>
    have R:b=a:=X b (by rw[q];simp);subst R;rw[J] at e;cases e;have d':Data.seq vs.toArray _=Data.dict l y:=d;cases d'
  have g:∀ {b:Addr} {m:MS},B.heap.Ns b m->(gV B.heap H).Ns b m:=λ{b m} ⟨o,l,y,e,d,r⟩=>⟨o,l,y,c e (M e d),d,r⟩
  have D:K.In (gV B.heap H):=λb o e=>c (KX b o e) (by
   cases q:H b with
   | none=>rfl
   | some u =>
    have R:b=a:=X b (by rw[q];simp);subst R;rw[hK (by rw[q];simp)] at e;cases e)
  have hM:Mod K mg (gV B.heap H):=⟨D,g E,⟨U,g f,N⟩,let ⟨mc,h1,h2⟩:=I;⟨mc,g h1,h2⟩⟩
  have e0:Env0 P w K mg (gV B.heap H) callerA [] B H:=⟨rfl,hM,λb o e=>tL e,Nat.le_of_eq (qc _ _),trivial,λb f=>absurd (show b∈([]:List Addr) from f) (by simp),p,.of_eq hg⟩
  refine codeAny_mono ((F _ D (g E)).run callerA [] B H ⟨[.ref a],[]⟩ [.ref a] [.ref a] _ _ hr e0 (j B (.ref a)) (.cons rfl .nil) (Q H hO hS)) λr s' h=>?_;cases r with
  | error e=>exact(L H e s' h).elim
  | ok fl =>
   cases fl with
   | next=>exact False.elim h
   | brk=>exact False.elim h
   | cont=>exact False.elim h
   | ret u =>
    obtain⟨v,H',os,A,un,t,r',q⟩:=h;have q':v=.bl true:=q;subst q';obtain rfl:u=Value.bool true:=r';refine⟨rfl,OldK.of_keep λb o e=>?_,os,A⟩;cases q:H b with
    | none=>exact un.keep b o e q (by intro z;exact absurd (show b∈([]:List Addr) from z) (by simp)) (by simp)
    | some u =>
     rcases hO b with z | ⟨ob,xs,z⟩
     ·rw[q] at z;cases z
     ·have z2:=un.frzs b ob _ z;obtain⟨T,_⟩:=p b _ z;obtain⟨e2,_⟩:=t b _ z2;rw[e] at T;cases T;exact e2
 cases hk:K.lookup a with
 | some o =>
  have e:=KX a o hk;rw[J] at e;cases e;refine i (λ_=>none) (λ_=>.inl rfl) (.inr ⟨_,vs.toArray,_,hk,rfl,rfl,rfl,by rw[xh,G];exact Y,by simpa using Z⟩) (λb u z=>by have C:(none:Option HO)=some u:=z;cases C) (λb z=>absurd rfl z) λz=>absurd rfl z
 | none =>
  refine i (λb=>if b=a then some (.frz { cls:=.type "list",data:=.seq vs.toArray } (.lst (ns.map V.int))) else none) (λb=>?_) (.inl (.inr ⟨{ cls:=.type "list",data:=.seq vs.toArray },if_pos rfl⟩)) (λb u z=>?_) (λb z=>?_) λ_=>hk
  ·by_cases f:b=a
   ·exact .inr ⟨_,_,if_pos f⟩
   ·exact .inl (if_neg f)
  ·by_cases f:b=a
   ·have C:=(if_pos f).symm.trans z;cases C;subst f;exact⟨J,by rw[wK];exact Y,vs,_,Z,J⟩
   ·have C:=(if_neg f).symm.trans z;cases C
  ·by_cases f:b=a
   ·exact f
   ·exact absurd (if_neg f) z
theorem walk_of {l:W.OpenLaw}{n k:Nat}{z:LS}{U:(Str -> OV) -> Heap -> Prop}{J:World -> Heap -> Prop}{d:DefRec}{K:Params -> W.Frag}{CX:World -> CXT}{sp:World -> Sp}{x:Str}
    (O:l.most=some n) (p:n<=sizeLine) (j:d.params.defaults=[]) (D:Room k callerA)
    (E:∀(w:World) (h:Heap),J w h->(K w.params).In h)
    (F:∀(w:World) (mg:MS) (B:Addr) (h:Heap),(K w.params).In h->h.Ns mainGlobals mg->mg d.name=some (.ref B) ->
     ∃fd:FuncData,(∀(s:Shared) (u:Value),BindsTo s fd ⟨[u],[]⟩ [(x,u)]) /\
      ∀base:Heap,(K w.params).In base->base.Ns mainGlobals mg->FnOk l.prog w (K w.params) mg base (CX w) k B fd [x] (sp w))
    (t:∀(w:World) (H:Hp) (a:Addr) (ns:List Int),ns.length<=n->qW H->SqL (K w.params) H a (ns.map V.int)->sp w [.ref a] H (λv _=>v=.bl true) λ_ _ _=>False)
    (m:∀(w:World) (H:Hp) (s:Shared) (e:Value) (s':Shared),CX w [] H s (λ_ _ _=>False) e s'->False) :
    W.WalkO q z U J l.row.toRowW d [] (λf I=>PySem.call f I):=by
 refine Att.attach_call O j λw A g mg X B o T cd C a I ns G Y Z S M r i c b P=>?_;have y:=E w _ Y;obtain⟨fd,Q,L⟩:=F w mg B _ y G.T.g r;exact qD y G.T.g G.T.b G.T.builtins G.T.nolimit P i c (wV b p) D L Q (λH R N=>t w H a ns b R N) λH e s'=>m w H g e s'
def er (s:Stmt):Arguments:=match s with
 | .FunctionDef _ a _ _ _ _ _ _ _ _=>a
 | _=>{ posonlyargs:=[],args:=[],vararg:=none,kwonlyargs:=[],kw_defaults:=[],kwarg:=none,defaults:=[] }
def cF (s:Stmt):List Stmt:=match s with
 | .FunctionDef _ _ b _ _ _ _ _ _ _=>b
 | _=>[]
def am (s:Stmt):Scope:=match s with
 | .FunctionDef _ _ _ _ _ _ sc _ _ _=>sc
 | _=>{ kind:=.function,names:=[],isGenerator:=false,isCoroutine:=false }
abbrev CX0:CXT:=λ_ _ _ _ _ _=>False
abbrev E0:XK:=λ_ _ _=>False
theorem hH:jE CX0 X E0:=λ_ _ _ _ _ _ _ h=>h.elim
structure Fun (K:W.Frag) (x qual:Str) (st:Stmt) (f:Addr) (fd:FuncData):Prop where
 ex:∃(oc:Value) (od:Option Addr) (kV doc pm:Value) (an:Option Addr) (cdv ct:Value) (osl:Array (OV)),
  fd=W.fnOf x qual (er st) (cF st) (am st) .none kV doc pm an cdv ct/\K.lookup f=some ⟨oc,od,.func fd,osl⟩/\W.codeIn K cdv qual=true
 kp:W.keepIn K (.ref f)=true
section
variable {P:Program}{w:World}{K:W.Frag}{mg:MS}{base:Heap}
theorem Fun.ok {x B:Str}{st:Stmt}{f:Addr}{fd:FuncData}{N ps:LS}{k:Nat}{sp:Sp}(F:Fun K x B st f fd) (S:FnScope N ps (am st)) (b:∀I H Q E, sp I H Q E -> I.length=ps.length)
    (a:∀(G:Value) (A:Around) (z:List Env) (s:Shared) (H:Hp) (I:LV) (Q:VK) (E:XK),Room k (A.deeper (envOfC B (am st) s.heap.objs.size f G))->sp I H Q E ->
     ∃t,PSs (jR CX0 P w K mg base N B (am st) f G A z s H E).nox (cF st) t/\t { nx:=λ_ H'=>Q .non H',rt:=Q } (start N I) H):FnOk P w K mg base CX0 (k+1) f fd ps sp:=by
 obtain⟨n,o,kV,g,l,m,G,p,j,rfl,e,c⟩:=F.ex;refine wc e c S b λA z s H I Q E i d=>?_;obtain⟨t,h,q⟩:=a G A z s H I Q E i d;exact⟨t,h.nox,q⟩
theorem Fun.binds {x q:Str}{st:Stmt}{f:Addr}{fd:FuncData}{ps:LS}(F:Fun K x q st f fd)
    (h:∀(kV z G:Value) (I:Option Addr) (B ct:Value) (us:LW),us.length=ps.length->bindArgs (W.fnOf x q (er st) (cF st) (am st) .none kV z G I B ct) ⟨us,[]⟩=pure (ps.zip us)):Binds K fd ps []:=by
 obtain⟨e,c,kV,z,G,I,B,ct,b,rfl,d,a⟩:=F.ex;exact .all (h kV z G I B ct)
theorem vo {x q:Str}{st:Stmt}{f:Addr}{O:Value}{od J:Option Addr}{G:Array (OV)}{kV B I z ct:Value}(l:K.lookup f=some ⟨O,od,.func (W.fnOf x q (er st) (cF st) (am st) .none kV B I J z ct),G⟩)
    (c:W.codeIn K z q=true) (k:W.keepIn K (.ref f)=true):Fun K x q st f (W.fnOf x q (er st) (cF st) (am st) .none kV B I J z ct):=⟨⟨O,od,kV,B,I,J,z,ct,G,rfl,l,c⟩,k⟩
end
theorem aH (h:n<=1000):n<sizeLine:=x6 h (by decide)
section
variable {X:Cx}
theorem pv (i:Nat) (b:X.N[i]? = some x:=by rfl) (c:Vis X.env.scope x:=by first | exact Or.inl rfl | exact Or.inr (Or.inl rfl) | exact Or.inr (Or.inr rfl)) (d:(x==("__debug__":Str))=false:=by decide)
    (a:(x==("__classdict__":Str))=false:=by decide):PE X (.Name x pos) (dD i):=vz b c d a
theorem pV:du X (.builtin "len") (λxs H Q=>∃a kvs,xs=[V.ref a]/\H a=some (.dK kvs)/\Q (.int kvs.length) H):=by
 intro b s i H xs g Q I r h;obtain⟨a,kvs,rfl,e,q⟩:=h;obtain⟨u,rfl,c⟩:=cK r;cases c;exact wa I (.inl e) λt f d=>⟨.int kvs.length,H,d,⟨t,rfl⟩,q⟩
end
theorem fu {A B:Prop}(h:B):if false=true then A else B:=by
 rw[if_neg xq];exact h
theorem vf {A B:Prop}(h:A):if true=true then A else B:=by
 rw[if_pos rfl];exact h
theorem aD {c A B:Prop} [Decidable c] (a:c->A) (b:¬ c->B):if c then A else B:=by
 by_cases h:c
 ·rw[if_pos h];exact a h
 ·rw[if_neg h];exact b h
def Same (H H':Hp):Prop:=∀b o,H b=some o->H' b=some o
theorem Same.refl (H:Hp):Same H H:=λ_ _ h=>h
theorem Same.trans (a:Same H H1) (b:Same H1 H2):Same H H2:=λc o h=>b c o (a c o h)
end L2
set_option maxHeartbeats 4000000
namespace L2
open PySem PySem.Spec PyProof.Rows
theorem jT {env:Env}{f:Str × NameKind -> List (Str × Addr) -> Sem (ForInStep (List (Str × Addr)))}
    (f1:∀n k r,k≠NameKind.free->f (n,k) r=pure (.yield r))
    (f2:∀n c r,env.cells.lookup n=some c->f (n,NameKind.free) r=pure (.yield ((n,c)::r))) :
    ∀(names:List (Str × NameKind)) (acc:List (Str × Addr)),
    (∀y∈names,y.2=NameKind.free->∃c,env.cells.lookup y.1=some c) ->
    (∀x c,acc.lookup x=some c->env.cells.lookup x=some c) ->
    ∃cl,forIn names acc f=(pure cl:Sem (List (Str × Addr)))/\(∀x c,cl.lookup x=some c->env.cells.lookup x=some c) /\
     (∀x,(acc.lookup x).isSome=true->(cl.lookup x).isSome=true)/\∀y∈names,y.2=NameKind.free->(cl.lookup y.1).isSome=true
 | [],acc,_,h=>⟨acc,by rw[List.forIn_nil],h,λ_ q=>q,λy hy=>nomatch hy⟩
 | (n, k) :: r, acc, hn, h => by
  by_cases hk:k=NameKind.free
  ·subst hk;obtain⟨c,hc⟩:=hn (n,.free) x5 rfl;have hc':env.cells.lookup n=some c:=hc;obtain⟨cl,e,a,b,d⟩:=jT f1 f2 r ((n,c)::acc) (λy hy=>hn y (xo _ hy)) (λx c' q=>by
    rw[xK] at q;cases e:x==n with
    | true =>
     rw[e] at q;cases q;rw[show x=n from LawfulBEq.eq_of_beq e];exact hc'
    | false =>
     rw[e] at q;exact h x c' q)
   refine⟨cl,?_,a,λx q=>b x ?_,λy hy hf=>?_⟩
   ·rw[yi,f2 n c acc hc',pure_bind];exact e
   ·rw[xK];cases x==n with
    | true=>rfl
    | false=>exact q
   ·rcases wY.mp hy with rfl | hy
    ·refine b _ ?_;rw[xK];simp
    ·exact d y hy hf
  ·obtain⟨cl,e,a,b,d⟩:=jT f1 f2 r acc (λy hy=>hn y (xo _ hy)) h;refine⟨cl,?_,a,b,λy hy hf=>?_⟩
   ·rw[yi,f1 n k acc hk,pure_bind];exact e
   ·rcases wY.mp hy with rfl | hy
    ·exact absurd hf hk
    ·exact d y hy hf
theorem nq {scope:Scope}{env:Env}(i:∀y ∈ scope.names, y.2=NameKind.free -> ∃c, env.cells.lookup y.1=some c) :
    ∃B,closureFor scope env=pure B/\(∀x c,B.lookup x=some c->env.cells.lookup x=some c) /\
     ∀y∈scope.names,y.2=NameKind.free->∃c,B.lookup y.1=some c:=by
 have j:=jT (env:=env) (f:=λ(x:Str × NameKind) (r:List (Str × Addr))=>match x with
     | (name,kind)=>if (kind==NameKind.free)=true then do let c ← cellOf env name;pure (ForInStep.yield ((name,c)::r)) else pure (ForInStep.yield r))
  (λn k r h=>by
   have z:(k==NameKind.free)=false:=by simpa using h
   simp only[z,yj,if_false])
  (λn c r g=>by simp only[beq_self_eq_true,if_true,cellOf,g,pure_bind])
  scope.names [] i (λx c q=>by cases q)
 obtain⟨B,e,a,_,d⟩:=j;refine⟨B,?_,a,λy b z=>yz.mp (d y b z)⟩;simp only[closureFor]
 first
  | exact e
  | (simp only[bind_pure];exact e)
  | (refine Eq.trans ?_ e;simp only[bind_pure])
def cxC (X:Cx) (scope:Scope) (N:LS) (cl:List (Str × Addr)) (C:Addr) (s₀:Shared) (H₀:Hp) (ex:List Addr):Cx where
 prog:=X.prog
 w:=X.w
 K:=X.K
 mg:=X.mg
 base:=X.base
 A:=X.A
 N:=N
 s₀:=s₀
 H₀:=H₀
 env:=compEnvC scope cl C X.env
 outer:=X.stack
 stack:=X.stack
 ex:=ex
 fn:=λ_=>false
 calm:=X.calm
 pn:=[]
 xe:=λ_ _=>False
def cS (k:Nat) (fr:List Nat) (σ:St):St:=List.replicate k none++fr.map λi=>(σ[i]?).join
def u3 (osc scope:Scope) (NX:LS) (fr:List Nat):Bool:=fr.all λi=>match NX[i]? with
 | some x=>(decide (osc.names.lookup x=some .cell)||decide (osc.names.lookup x=some .free))&&decide (scope.names.lookup x=some .free)
 | none=>false
structure CompSc (osc scope:Scope) (NX own:LS) (fr:List Nat) (N:LS):Prop where
 kind:scope.kind=.function
 nocell:∀y∈scope.names,y.2≠NameKind.cell
 loc:∀y∈scope.names,y.2=NameKind.local->scope.names.lookup y.1=some .local
 free:∀y∈scope.names,y.2=NameKind.free->osc.names.lookup y.1=some .cell∨osc.names.lookup y.1=some .free
 names:N.map some=own.map some++fr.map λi=>NX[i]?
 outer:u3 osc scope NX fr=true
def ie (osc scope:Scope) (NX own:LS) (fr:List Nat) (N:LS):Bool :=
 decide (scope.kind=.function)&&(scope.names.all (λy=>decide (y.2≠NameKind.cell))&&(scope.names.all (λy=>decide (y.2=NameKind.local->scope.names.lookup y.1=some .local)) &&
  (scope.names.all (λy=>decide (y.2=NameKind.free->(osc.names.lookup y.1=some .cell∨osc.names.lookup y.1=some .free)))&&(decide (N.map some=own.map some++fr.map λi=>NX[i]?)&&u3 osc scope NX fr))))
theorem CompSc.of (h:ie q scope B z fr N=true):CompSc q scope B z fr N:=by
 unfold ie at h;simp only[xC,decide_eq_true_eq,xM] at h;obtain⟨a,e,c,d,f,b⟩:=h;exact⟨a,e,c,d,f,b⟩
theorem CompSc.len (S:CompSc z scope B q fr N):N.length=q.length+fr.length:=by
 have h:=congrArg List.length S.names;simpa using h
theorem fc {env:Env}:∀ {names:List (Str × NameKind)}{x:Str}, names.lookup x=some .free ->
    (names.map λ(n,k)=>if (k==NameKind.free&&env.scope.kind==.function&&env.kindOf n==some .cell) then (n,NameKind.cell) else (n,k)).lookup x=some .cell ∨
    (names.map λ(n,k)=>if (k==NameKind.free&&env.scope.kind==.function&&env.kindOf n==some .cell) then (n,NameKind.cell) else (n,k)).lookup x=some .free
 | [],_,h=>by simp at h
 | (n,k)::r,x,h=>by
  have ih:=@fc env r x;cases hx:x==n with
  | true =>
   simp only[xK,hx] at h;cases h;simp only[xr]
   split
   ·left;simp[xK,hx]
   ·right;simp[xK,hx]
  | false =>
   simp only[xK,hx] at h;simp only[xr]
   split
   ·simp only[xK,hx];exact ih h
   ·simp only[xK,hx];exact ih h
theorem jr {env:Env}:∀ {names:List (Str × NameKind)}{x:Str}{k':NameKind},
    (names.map λ(n,k)=>if (k==NameKind.free&&env.scope.kind==.function&&env.kindOf n==some .cell) then (n,NameKind.cell) else (n,k)).lookup x=some k' ->
    k'=.cell∨k'=.free->(∀y∈names,y.2≠NameKind.cell)->∃y∈names,y.1=x/\y.2=.free
 | [],_,_,h,_,_=>by simp at h
 | (n, k) :: r, x, k', h, hk, nc => by
  have ih:=@jr env r x k';simp only[xr] at h;cases hx:x==n with
  | true =>
   have ex:x=n:=LawfulBEq.eq_of_beq hx;refine⟨(n,k),x5,ex.symm,?_⟩;have nck:k≠.cell:=nc (n,k) x5;by_cases z:k=.free
   ·exact z
   ·have zb:(k==NameKind.free)=false:=by simpa using z
    simp only[zb,Bool.false_and,yj,if_false,xK,hx] at h;cases h;rcases hk with q | q
    ·exact absurd q nck
    ·exact absurd q z
  | false =>
   have h':(r.map λ(n,k)=>if (k==NameKind.free&&env.scope.kind==.function&&env.kindOf n==some .cell) then (n,NameKind.cell) else (n,k)).lookup x=some k':=by
    split at h
    ·simpa only[xK,hx] using h
    ·simpa only[xK,hx] using h
   obtain⟨y,hy,a,b⟩:=ih h' hk λz hz=>nc z (xo _ hz);exact⟨y,xo _ hy,a,b⟩
section
variable {X:Cx}{pins:AO_}{σ:St}{H:Hp}{s:Shared}
def PTs (X:Cx) (ifs:List Expr) (t:TT):Prop :=
 ∀(pins:AO_) (s:Shared) (σ:St) (H:Hp) (Q:Bool->Hp->Prop),Inv X pins σ H s->t σ H Q ->
  wpAny (model X.prog X.w) X.A (forIn ifs true λc r=>if r=true then do let ok ← isTrue c X.env (eval c X.env);pure (ForInStep.yield ok) else pure (ForInStep.yield r)) (TP X pins σ Q) X.xe s
def gR:TT:=λ_ H Q=>Q true H
theorem bT:PTs X [] gR:=λ_ _ _ H _ I h=>wpAny_tests_nil ⟨H,I,h⟩
theorem cm (h:PT X c t):PTs X [c] t:=λa s b H Q I q=>wpAny_tests_one (h a s b H Q I q)
theorem nx (h:wpAny M A t Q (λ_ _=>False) s) (b:∀a s,Q a s->q a s):wpAny M A t q E s :=
 xP h b λ_ _ f=>f.elim
theorem qo {scope:Scope}{B:LS}{fr:List Nat}{N:LS}{G:List (Str × Addr)}{s3 s4:Shared}{I:Hp}{Y:List Addr}{m:Str -> OV}
    (hc:X.calm=true) (S:CompSc X.env.scope scope X.N B fr N)
    (t:∀x c,G.lookup x=some c->X.env.cells.lookup x=some c) (W:∀y∈scope.names,y.2=NameKind.free->∃c,G.lookup y.1=some c)
    (a:Inv X pins σ I s3) (U:∀b∈Y,fq X pins I b/\b<s3.heap.objs.size)
    (H:∀b o,s3.heap.get? b=some o->s4.heap.get? b=some o) (hn:s4.heap.Ns s3.heap.objs.size m) (ho:s4.os=s3.os) (hg:s4.gens=s3.gens) :
    Inv (cxC X scope N G s3.heap.objs.size s3 I Y) [] (cS B.length fr σ) I s4:=by
 have s:(compEnvC scope G s3.heap.objs.size X.env).scope.kind=.function:=by
  show (relabel scope X.env).kind=.function;exact S.kind
 refine⟨⟨a.ok.mod,s,a.ok.glob,a.ok.blt,wM _,?_,?_,?_,a.ok.hd,a.ok.frames,.inl rfl,?_,?_,?_,?_,?_,a.stack,a.stkFree⟩,ho,?_,Un.kept H,⟨m,hn,?_⟩,?_,?_,?_,?_,a.hok.kept H,?_⟩
 ·exact λx y c n d=>a.ok.inj x y c (t x c n) (t y c d)
 ·intro x hx;have O:(relabel scope X.env).names.lookup x=some .cell∨(relabel scope X.env).names.lookup x=some .free:=hx;obtain⟨D,M,K⟩:∃D,(relabel scope X.env).names.lookup x=some D/\(D=NameKind.cell∨D=NameKind.free):=by
   rcases O with q | q
   ·exact⟨_,q,.inl rfl⟩
   ·exact⟨_,q,.inr rfl⟩
  obtain⟨y,hy,e,Z⟩:=jr (env:=X.env) M K S.nocell;subst e;exact W y hy Z
 ·exact λx c h=>by cases h
 ·intro b C;obtain⟨f,P⟩:=U b C;refine⟨xm P,λx c h=>f.2.2.2.2.1 x c (t x c h)⟩
 ·exact λb o e=>a.bs b o e
 ·exact wV a.ok.bsz a.sz
 ·intro b o e C;obtain⟨f,P⟩:=U b C;rcases f.2.2.2.1 with z | z
  ·exact a.ok.noex b o e z
  ·exact absurd (xw (wT e) (wV a.ok.bsz z)) (yc _)
 ·intro b C;obtain⟨f,P⟩:=U b C;show b∉frs X.stack;intro z;rcases wY.mp (a.stkSub b z) with q | q
  ·exact f.2.1 q
  ·exact f.2.2.1 q
 ·rw[hg];exact a.bare
 ·intro i x v n d h3;have n:N[i]? = some x:=n;obtain⟨m0,a0,L⟩:=a.loc;have hi:B.length<=i:=by
   refine Nat.le_of_not_lt λq=>?_;unfold cS at d;rw[xU (by simpa using q),List.getElem?_replicate] at d
   split at d <;> cases d
  obtain⟨j,rfl⟩:=Nat.exists_eq_add_of_le hi;have g:(fr.map λi=>(σ[i]?).join)[j]? = some (some v):=by
   unfold cS at d;rw[yd (by simp)] at d;simpa using d
  rw[wW] at g;cases ej:fr[j]? with
  | none=>rw[ej] at g;cases g
  | some k =>
   rw[ej] at g;have E:(σ[k]?).join=some v:=wR g;have R:σ[k]? = some (some v):=by
    cases q:σ[k]? with
    | none=>rw[q] at E;cases E
    | some o=>rw[q] at E;exact congrArg some E
   have V:X.N[k]? = some x:=by
    have q:=congrArg (λl=>l[B.length+j]?) S.names;simp only[wW,n,yd (show (B.map some).length<=B.length+j by simp),wK,Nat.add_sub_cancel_left,ej,Option.map_some] at q;exact(wR q).symm
   have Q:=xM.mp S.outer k (wP ej);rw[V] at Q;simp only[xC,Bool.or_eq_true,decide_eq_true_eq] at Q;obtain⟨A,w⟩:=Q;have T:Vis X.env.scope x:=.inr A;obtain⟨u,r,l⟩:=L k x v V R T;refine⟨u,r,?_⟩;rcases l with⟨l,_⟩ | ⟨_,c,e,z⟩
   ·have l:X.env.scope.names.lookup x=some .local:=l;rcases A with q | q
    ·rw[l] at q;cases q
    ·rw[l] at q;cases q
   ·obtain⟨F,J⟩:=W (x,.free) (PySem.mem_of_lookup w) rfl;have J:G.lookup x=some F:=J;have ec:F=c:=wR ((t x F J).symm.trans e);subst ec;refine .inr ⟨fc (env:=X.env) w,F,J,?_⟩;obtain⟨o,n,d⟩:=z;exact⟨o,H _ _ n,d⟩
 ·intro x c e;obtain⟨v,o,n,d⟩:=a.cell x c (t x c e);exact⟨v,o,H _ _ n,d⟩
 ·exact a.hok.fresh (wM _)
 ·exact λx c e=>a.freeC x c (t x c e)
 ·intro p hp;exact absurd hp (by simp[cxC])
 ·show (cS B.length fr σ).length=N.length;rw[S.len];simp[cS]
end
section
variable {prog:Program}{w:World}{A:Around}{R:Result->Shared->Prop}{s:Shared}
theorem pW (J:Nat -> Shared -> Prop)
    (a:∀k s, J k s -> ∀E:Value -> Shared -> Prop, wpAny (model prog w) A (pyNext G) (λr B => match r with
     | none=>R (.ok .next) B
     | some v => wpAny (model prog w) A (letOwnedTupleGo tg G v) (λ_ O => wpAny (model prog w) A (assign tg env v) (λ_ s3 =>
         wpAny (model prog w) A (forIn ifs true λc r=>if r=true then do let q ← isTrue c env (eval c env);pure (ForInStep.yield q) else pure (ForInStep.yield r)) (λq s4 =>
          if q=true then wpAny (model prog w) A (eval elt env) (λx U=>wpAny (model prog w) A (call (.builtin "list.append") [z,x]) (λ_ I=>∃m,m<k/\J m I) E U) E s4
          else ∃m,m<k/\J m s4) E s3) E O) E B) E s)
    (k:Nat) (h:J k s):codeAny (model prog w) A (.compLoop (.ListComp elt [⟨tg,iter,ifs,0⟩] scope pos) 0 G z env) R s:=by
 refine codeAny_loop rfl J (λk s i=>?_) k h;show wpAny _ A ((compTurn (.ListComp elt [⟨tg,iter,ifs,0⟩] scope pos) 0 G z env).onRaise (λe=>do noteFrame e env;theTreesLotGoes e)) _ _ s;refine wpAny_noted ?_;rw[compTurn_list];refine wJ (wpAny_standAt (wJ (thn (a k s i _) λr B b=>?_)));cases r with
 | none=>exact wN b
 | some v =>
  refine wJ (thn b λ_ O j=>wJ (thn j λ_ s3 g=>wJ (thn g λq s4 d=>?_)));cases q with
  | false=>exact wN ⟨rfl,d⟩
  | true=>exact wJ (wJ (thn d λx U l=>wJ (thn l λ_ I f=>wN (wN ⟨rfl,f⟩))))
end
def cr (k:Nat) (fr:List Nat) (g:TG) (tc:TT) (te:TE) (J:It) (σ:St) (H1:Hp) (Q:VK):Prop :=
 ∀D,H1 D=none->∃W:Nat->Nat->LV->SH,(∃m,W 0 m [] (cS k fr σ) (upd H1 D (.lst [])))/\∀i m acc σ' H',W i m acc σ' H'->H' D=some (.lst acc) ->
  (J.stop i H'/\Q (.ref D) H')∨(J.go i H'/\∃N:LV->SH,(∀acc' σ2 H2,N acc' σ2 H2->∃m',m'<m/\W (i+1) m' acc' σ2 H2)/\∀x H2,J.yld i H' x H2->g x σ' H2 λσ2 H3=>tc σ2 H3 λb H4 =>
   if b=true then te σ2 H4 λy H5=>H5 D=some (.lst acc)/\acc.length<sizeLine/\N (acc++[y]) σ2 (upd H5 D (.lst (acc++[y])))
   else H4 D=some (.lst acc)/\N acc σ2 H4)
def nV (k:Nat) (fr:List Nat) (wi:TI) (g:TG) (tc:TT) (te:TE):TE:=λσ H Q=>wi σ H λJ H1=>cr k fr g tc te J σ H1 Q
section
variable {X:Cx}{pins:AO_}{σ:St}{H:Hp}{s:Shared}{tg elt iter:Expr}{ifs:List Expr}{scope:Scope}{pos:Pos}
theorem jG {a3:LS}{fr:List Nat}{N:LS}{Y:List (Str × Addr)}{I:List Addr}{J:It}{tn:Nat -> Heap -> Prop}{POST:Value -> Addr -> Result -> Shared -> Prop}
    (hc:X.calm=true) (S:CompSc X.env.scope scope X.N a3 fr N)
    (c1:∀x c,Y.lookup x=some c->X.env.cells.lookup x=some c) (c2:∀y∈scope.names,y.2=NameKind.free->∃c,Y.lookup y.1=some c)
    (hg:∀C O U ex,PG (cxC X scope N Y C O U ex) tg g) (ht:∀C O U ex,PTs (cxC X scope N Y C O U ex) ifs tc) (he:∀C O U ex,PE (cxC X scope N Y C O U ex) elt te)
    (I2:Inv X pins σ H2 B) (T:Turn X.prog X.w X.K tg J I it tn) (t2:tn 0 B.heap) (F:∀b∈I,fq X pins H2 b) (q:cr a3.length fr g tc te J σ H2 Q)
    (b2:∀D C s' H' m,Inv X pins σ H' s'->fq X pins H' C->s'.heap.Ns C m->Q (.ref D) H'->POST (.ref D) C (.ok .next) s') :
    wpAny (model X.prog X.w) X.A (newList []) (λG s3=>wpAny (model X.prog X.w) X.A (newFunctionEnv scope X.env.globals Y [] X.env.qual none .none (some X.env)) (λa0 s4 =>
     codeAny (model X.prog X.w) X.A (.compStart (.ListComp elt [⟨tg,iter,ifs,0⟩] scope pos) 0 (.ref it) G { a0 with scope:=relabel scope X.env }) (POST G a0.locals) s4) E s3) E B:=by
 refine wpAny_newObj_type (wpAny_newFunctionEnv S.nocell (by intro y hy;simp at hy) (λh4 a6 M=>?_) S.kind);dsimp only at a6 M ⊢;have hD:H2 B.heap.objs.size=none:=I2.hok.fresh (wM _);obtain⟨W,⟨m0,w0⟩,V⟩:=q B.heap.objs.size hD;have I3:Inv X pins σ (upd H2 B.heap.objs.size (.lst [])) { B with heap:=B.heap.push { cls:=.type "list",dict:=none,data:=.seq ([]:LW).toArray },toks:=B.toks } :=
  I2.laid (λb u q=>xb _ q) (wM _) ⟨xt _,[],_,.nil,xl _ rfl⟩
 generalize L:B.heap.push { cls:=.type "list",dict:=none,data:=.seq ([]:LW).toArray }=f at *;have z3:f.objs.size=B.heap.objs.size+1:=by rw[<- L,Heap.size_push]
 have Z:∀b o,B.heap.get? b=some o->f.get? b=some o:=λb o e=>by rw[<- L];exact xb _ e
 have A:∀b o,f.get? b=some o->h4.get? b=some o:=λb o e=>M.extBut b o (xm (wT e)) (xb _ e);have a5:∀b∈I,b<B.heap.objs.size:=λb a=>by
  obtain⟨o,e,_⟩:=T.obj _ _ t2 b a;exact wT e
 have f3:∀b∈I,fq X pins (upd H2 B.heap.objs.size (.lst [])) b/\b<f.objs.size:=λb a=>by
  refine⟨⟨?_,(F b a).2⟩,by rw[z3];exact Nat.lt_succ_of_lt (a5 b a)⟩;rw[az (xm (a5 b a))];exact(F b a).1
 generalize l:({ B with heap:=f,toks:=B.toks }:Shared)=s3 at I3;have s:s3.heap=f:=by rw[<- l]
 have c4:({ B with heap:=f }:Shared)=s3:=l;have I4:=qo (s3:=s3) (s4:={ s3 with heap:=h4,toks:=s3.toks+([]:List (Str × Value)).length }) hc S c1 c2 I3 (by rw[s];exact f3) (by rw[s];exact A) (m:=λx=>([]:List (Str × Value)).reverse.lookup x) (by rw[s];exact a6) rfl rfl;rw[s] at I4;have j:∀ {H':Hp} {s':Shared} {d:St} {pl:AO_},Inv (cxC X scope N Y f.objs.size s3 (upd H2 B.heap.objs.size (.lst [])) I) pl d H' s'->(∀p∈pl,p.1∉I)->(∀b∈I,H' b=none)->∀b∈I,fq (cxC X scope N Y f.objs.size s3 (upd H2 B.heap.objs.size (.lst [])) I) pl H' b:=λ{H' s' d pl} I' c3 hn b a=>by
  refine⟨hn b a,xm (f3 b a).2,I'.ok.exfs b a,.inl a,λx c e=>(F b a).2.2.2.2.1 x c (c1 x c e),λp hp=>?_⟩;intro z;exact c3 p (by simpa [cxC] using hp) (z ▸ a)
 have w:∀s4:Shared, s4={ s3 with heap := h4, toks := s3.toks+([]:List (Str × Value)).length } ->
     codeAny (model X.prog X.w) X.A (.compLoop (.ListComp elt [⟨tg,iter,ifs,0⟩] scope pos) 0 (.ref it) (.ref B.heap.objs.size) (compEnvC scope Y f.objs.size X.env)) (POST (.ref B.heap.objs.size) f.objs.size) s4:=by
  rintro s4 rfl;refine pW (λn s'=>∃i G d H',Inv (cxC X scope N Y f.objs.size s3 (upd H2 B.heap.objs.size (.lst [])) I) [] d H' s'/\tn i s'.heap/\(∀b∈I,H' b=none)/\H' B.heap.objs.size=some (.lst G)/\W i n G d H') ?_ m0
   ⟨0,[],_,_,I4,T.keep _ _ _ t2 λb a o e=>A b o (Z b o e),λb a=>(f3 b a).1.1,aj,w0⟩
  rintro n s5 ⟨i,G,t,P,I5,t5,K,d5,w5⟩ E';rcases V i n G t P w5 d5 with⟨a7,qn⟩ | ⟨go,NN,a9,a4⟩
  ·refine thn (T.done (cxC X scope N Y f.objs.size s3 (upd H2 B.heap.objs.size (.lst [])) I) rfl rfl rfl hc i [] s5 t P E' I5 (j I5 (by simp) K) t5 a7) λr s6 ⟨hr,H⟩=>?_;subst hr;obtain⟨m6,n6,_⟩:=id H.loc;have J6:Inv X pins σ P s6:=I3.call' (ch:=I) H.os H.base H.hok H.bare λb a=>⟨(F b a).2.2.2.1,(F b a).2.1,(F b a).2.2.2.2.1,(F b a).2.2.2.2.2⟩
   exact b2 _ _ s6 P m6 J6 (I2.fpOk (by rw[z3];exact Nat.le_succ _) H.free) n6 qn
  ·refine thn (T.item (cxC X scope N Y f.objs.size s3 (upd H2 B.heap.objs.size (.lst [])) I) rfl rfl rfl hc i [] s5 t P E' I5 (j I5 (by simp) K) t5 go) λr s6 ⟨u,hr,h6⟩=>?_;subst hr;refine thn h6 λ_ s7 ⟨x,H7,I7,r7,y7,t7,c0⟩=>?_;have b7:=I7.pinned (j I7 (by simp) c0) (T.obj _ _ t7);have h:∀ {s':Shared} {H':Hp} {d:St},Inv (cxC X scope N Y f.objs.size s3 (upd H2 B.heap.objs.size (.lst [])) I) ([]++ia I s7.heap) d H' s'->tn (i+1) s'.heap/\∀b∈I,H' b=none:=λ{s' H' d} I'=>by
    refine⟨T.keep _ _ _ t7 λb a o e=>(I'.pin (b,o) (xG _ (xG _ (fP a e)))).1,λb a=>?_⟩;obtain⟨o,e,_⟩:=T.obj _ _ t7 b a;exact(I'.pin (b,o) (xG _ (xG _ (fP a e)))).2.1
   refine nx (hg _ _ _ _ _ s7 t H7 x u _ b7 r7 (a4 x H7 y7)) λ_ s8 ⟨k,H8,I8,q8⟩=>?_;refine nx (ht _ _ _ _ _ s8 k H8 _ I8 q8) λok s9 ⟨H9,I9,q9⟩=>?_;cases ok with
   | false =>
    obtain⟨d9,n9⟩:=q9;obtain⟨m',hm,w9⟩:=a9 _ _ _ n9;obtain⟨a1,a2⟩:=h I9;exact⟨m',hm,i+1,G,k,H9,I9.unpinned,a1,a2,d9,w9⟩
   | true =>
    rw[if_pos rfl];refine nx (he _ _ _ _ _ s9 k H9 _ I9 q9) λy b5 ⟨v,a8,b4,b3,b0,b1,b6⟩=>?_;obtain⟨m',hm,b9⟩:=a9 _ _ _ b6;refine nx (kQ _ b5 k a8 (.ref B.heap.objs.size) [v] (.ref B.heap.objs.size) [y] (λ_ H'=>H'=upd a8 B.heap.objs.size (.lst (G++[v]))) b4 rfl (.cons b3 .nil) ⟨_,G,v,rfl,rfl,b0,b1,rfl⟩) λ_ c6 ⟨_,c5,R,_,b8⟩=>?_;subst b8;obtain⟨a1,a2⟩:=h R;exact⟨m',hm,i+1,_,k,_,R.unpinned,a1,a2,aj,b9⟩
 exact codeAny_compStart_list (w _ (by rw[<- l])) (T.self _ 0 _ _ _ (T.keep _ _ _ t2 λb a o e=>A b o (Z b o e)) (w _ (by rw[<- l])))
theorem jY (d:Scope) (p c:LS) (j:List Nat) (N:LS) (hc:X.calm=true)
    (w:PI X tg iter wi) (U:∀G C z B ex,PG (cxC X scope N G C z B ex) tg g) (K:∀G C z B ex,PTs (cxC X scope N G C z B ex) ifs tc) (he:∀G C z B ex,PE (cxC X scope N G C z B ex) elt te)
    (P:∀x,foldedSetIterable iter X.env x=pure x:=by intro _;rfl) (f:X.env.scope=d:=by rfl) (k:X.N=p:=by rfl) (L:ie d scope p c j N=true:=by decide +kernel) :
    PE X (.ListComp elt [⟨tg,iter,ifs,0⟩] scope pos) (nV c.length j wi g tc te):=by
 intro a s n H Q I h;have S:CompSc X.env.scope scope X.N c j N:=by rw[f,k];exact CompSc.of L
 obtain⟨G,i,c1,R⟩:=nq (scope:=scope) (env:=X.env) λy O r=>I.ok.has y.1 (S.free y O r);rw[eval_ListComp];refine wpAny_comprehension_free (use:=none) rfl P i S.kind S.loc (thn (w a s n H _ I h) λv s1 F=>thn F λV s2 h2=>?_);obtain⟨it,fp,tn,J,H2,e,E,T,Z,A,q⟩:=h2;subst e;refine jG (POST:=λl C=>compPost (model X.prog X.w) X.A X.xe none (EP X a n Q) l C) hc S c1 R (U G) (K G) (he G) E T Z A q λD C s' H' m M fC t q'=>?_;refine⟨m,t,λh' sb=>⟨.ref D,H',?_,rfl,q'⟩⟩;obtain⟨u,Y,_,g3,g4,g5⟩:=fC;exact M.turned (t':=s'.toks) (λb o W e=>(sb.2 b W).trans e) u Y g3 g4 g5
theorem dA (hN:X.N.Nodup) (p:X.N[i]? = some x) (K:X.env.scope.names.lookup x=some .local)
    (l:swapsWith (.ListComp elt [⟨tg,iter,ifs,0⟩] scope pos) (some (.Name x px)) U.line X.env=pure true)
    (k:Scope) (P d:LS) (E:List Nat) (N:LS) (hc:X.calm=true)
    (hi:PI X tg iter wi) (hg:∀O C B G ex,PG (cxC X scope N O C B G ex) tg g) (ht:∀O C B G ex,PTs (cxC X scope N O C B G ex) ifs tc) (he:∀O C B G ex,PE (cxC X scope N O C B G ex) elt te)
    (Y:∀x,foldedSetIterable iter X.env x=pure x:=by intro _;rfl) (j:X.env.scope=k:=by rfl) (t:X.N=P:=by rfl) (V:ie k scope P d E N=true:=by decide +kernel) :
    PS X (.Assign [.Name x px] (.ListComp elt [⟨tg,iter,ifs,0⟩] scope pos) U) (rS (nV d.length E wi g tc te) (cg i)):=by
 intro c s σ H D I h;have S:CompSc X.env.scope scope X.N d E N:=by rw[j,t];exact CompSc.of V
 obtain⟨O,n,c1,c2⟩:=nq (scope:=scope) (env:=X.env) λy Z hf=>I.ok.has y.1 (S.free y Z hf);rw[exec_Assign_Name_used _ _ _ _ l];refine wJ (wpAny_standAt (wJ ?_));show wpAny _ X.A (do let _ ← comprehension (.ListComp elt [⟨tg,iter,ifs,0⟩] scope pos) scope X.env _ (newList []) false (eval iter X.env) (some (assign (.Name x px) X.env))) _ _ s;refine wJ (thn (wpAny_comprehension_free (use:=some (assign (.Name x px) X.env)) (Q:=λ_ f=>SP X c D .next f) rfl Y n S.kind S.loc (thn (hi c s σ H _ I h) λv s1 h1=>thn h1 λa0 s2 h2=>?_)) λ_ f hq=>wN (wN hq));obtain⟨it,fp,tn,J,H2,e,I2,T,t2,f2,q⟩:=h2;subst e;refine jG (POST:=λu C=>compPost (model X.prog X.w) X.A X.xe (some (assign (.Name x px) X.env)) (λ_ f=>SP X c D .next f) u C) hc S c1 c2 (hg O) (ht O) (he O) I2 T t2 f2 q λr C f H' m I' fC R q'=>?_;show wpAny _ X.A (assign (.Name x px) X.env (.ref r)) _ _ f;refine wpAny_assign_Name (kG I' hN p (.inl K) (show RelV (.ref r) (.ref r) from rfl) (λs3 W F=>?_) (.inr K));obtain⟨a,F,ha⟩:=F;obtain⟨g0,L,g2,g3,M,g5⟩:=fC;have aC:C≠a:=by
  rcases ha with z | z
  ·rw[z];exact L
  ·exact λw=>M x a z w.symm
 refine⟨m,R.sameBut F aC,λh' A=>⟨_,H',?_,q'⟩⟩;exact W.turned (t':=s3.toks) (λb o hb e=>(A.2 b hb).trans e) g0 L g3 M g5
end
def Ite (K:W.Frag) (a:Addr):It :=
 ⟨λi H=>∃xs x,SqL K H a xs/\xs[i]? = some x,λi H v H'=>∃p x,H p=none/\v=.ref p/\(∀xs,SqL K H a xs->xs[i]? = some x)/\H'=upd H p (.tup [.int i,x]),λi H=>∃xs,SqL K H a xs/\xs.length<=i⟩
theorem qp {P:Program}{w:World}{K:W.Frag}{elts:List Expr}{k:Nat}{tp:Pos}(a e it:Addr) (hne:e ≠ it) :
    Turn P w K (.Tuple elts k tp) (Ite K a) [e,it] e (λi h=>(∃old,IsEnum h e it i old)/\h.IsListIter it a i) where
 mem:=by simp
 obj:=λi h st b hb=>by
  obtain⟨⟨old,he⟩,hit⟩:=st;have hb:b=e∨b=it:=by simpa using hb
  rcases hb with z | z
  ·subst z;exact⟨_,he,λv z=>by cases z⟩
  ·subst z;obtain⟨o,e1,c,d⟩:=hit;exact⟨o,e1,λv z=>by rw[d] at z;cases z⟩
 keep:=λi h h' st kk=>by
  obtain⟨⟨old,he⟩,hit⟩:=st;exact⟨⟨old,kk e (by simp) _ he⟩,hit.at λo q=>kk it (by simp) o q⟩
 item := by
  intro X hP hw hK hc i pins s σ H E I hf st hg;subst hP hw hK;obtain⟨⟨old,he⟩,hit⟩:=st;obtain⟨xs,x,hq,hx⟩:=hg;obtain⟨its,rv,p,hz⟩:=I.list hq;obtain⟨u,hu,ru⟩:=rv.get hx;obtain⟨f0,f1,f2,f3,f4,f5⟩:=hf e (by simp);obtain⟨g0,g1,g2,g3,g4,g5⟩:=hf it (by simp);refine wpAny_pyNext_enum_item he hit p.isList (x:=u) (by simpa using hu) hne λh1 ho hit1 ht1 hz1 k1=>?_;have hel:e<s.heap.objs.size:=wT he;have hil:it<s.heap.objs.size:=by obtain⟨o,q,_⟩:=hit;exact wT q
  refine⟨_,rfl,wpAny_letOwnedTupleGo_enum ho λh2 he2 sb2=>?_⟩;have sb2:Heap.SameBut e h1 h2:=sb2;have T2:h2.get? s.heap.objs.size=some { cls:=.type "tuple",data:=.seq #[.int i s.toks,u] }:=(sb2.2 _ (Nat.ne_of_gt hel)).trans ht1;have hp:H s.heap.objs.size=none:=I.hok.fresh (wM _);have nit:∀b v,H b=some v->b≠e/\b≠it:=λb v q=>⟨λz=>(by rw[z,f0] at q;cases q),λz=>(by rw[z,g0] at q;cases q)⟩
  have kk:∀b o,b≠e->b≠it->s.heap.get? b=some o->h2.get? b=some o:=λb o n1 n2 q=>(sb2.2 b n1).trans (k1 b o n1 n2 q);have up:∀b v,H b=some v->upd H s.heap.objs.size (.tup [.int i,x]) b=some v:=λb v q=>by rw[az (aJ q hp)];exact q
  have I1:Inv X pins σ (upd H s.heap.objs.size (.tup [.int i, x])) { s with heap := h2, gens := s.gens, drawn := s.drawn, toks := s.toks+1 } := by
   refine I.step (g':=s.gens) (d':=s.drawn) (ch:=[e,it]) (λb hb=>?_) (λb o _ _ hb q _=>kk b o (λz=>hb (by simp[z])) (λz=>hb (by simp[z])) q) (λb o _ _ hb q _=>⟨o.slots,kk b o (λz=>hb (by simp[z])) (λz=>hb (by simp[z])) q⟩) (λb o _ q n=>?_)
    (λb o hb q=>⟨o,kk b o (λz=>hb (by simp[z])) (λz=>hb (by simp[z])) q⟩) (λb ys q=>up b _ q) (λb o v q=>up b _ q) (λb ps q=>⟨#[],by rw[up b _ q];simp⟩) (λm hm=>?_) (λb v q=>?_) I.bare
   ·have hb:b=e∨b=it:=by simpa using hb
    rcases hb with z | z
    ·subst z;exact⟨f3,f1,f4,f5⟩
    ·subst z;exact⟨g3,g1,g4,g5⟩
   ·rw[az (xm (wT q))];exact n
   ·obtain⟨o,es,ep,ho,r⟩:=hm;exact⟨o,es,ep,kk _ o (Ne.symm f1) (Ne.symm g1) ho,r⟩
   ·by_cases hb:b=s.heap.objs.size
    ·subst hb;rw[aj] at q;have q':HO.tup [V.int i,x]=v:=wR q;subst q';exact⟨by show 2<=sizeLine;decide,[.int i s.toks,u],.cons ⟨_,rfl⟩ (.cons ru .nil),⟨_,T2,rfl,_,rfl,rfl⟩⟩
    ·rw[az hb] at q;refine(I.hok b v q).stay (λc v' hc q'=>?_) (λc q=>up c _ q) λc ys q=>up c _ q;rcases hc with z | z
     ·rw[z] at q' ⊢;exact kk b v' (nit b v q).1 (nit b v q).2 q'
     ·exact kk c v' (nit c _ z).1 (nit c _ z).2 q'
  refine⟨.ref s.heap.objs.size,upd H s.heap.objs.size (.tup [.int i,x]),I1,rfl,⟨_,x,hp,rfl,λys hy=>by rw[I.list_inj hy hq];exact hx,rfl⟩,⟨⟨u,?_⟩,?_⟩,λb hb=>?_⟩
  ·exact(by simpa using he2)
  ·exact hit1.at λo q=>(sb2.2 it (Ne.symm hne)).trans q
  ·have hb:b=e∨b=it:=by simpa using hb
   rcases hb with z | z
   ·rw[z,az (xm hel)];exact f0
   ·rw[z,az (xm hil)];exact g0
 done:=by
  intro X hP hw hK hc i pins s σ H E I hf st hg;subst hP hw hK;obtain⟨⟨old,he⟩,hit⟩:=st;obtain⟨xs,hq,hx⟩:=hg;obtain⟨its,rv,p,hz⟩:=I.list hq;obtain⟨g0,g1,g2,g3,g4,g5⟩:=hf it (by simp);have hl:=rv.length;exact wpAny_pyNext_enum_end (I.ok.hd hc) he hit p.isList (by simp;omega) λh' eb=>⟨rfl,I.turned (t':=s.toks) (λb o hb q=>eb b o hb q) g0 g1 g3 g4 g5⟩
 self:=λ_ _ _ _ _ st h=>by
  obtain⟨⟨old,he⟩,_⟩:=st;exact wpAny_pyIter_enum he h
def sR (K:W.Frag) (ta:TA):TI:=λσ H R=>ta σ H λvs H1=>∃a,vs=[.ref a]/\(∃xs,SqL K H1 a xs)/\R (Ite K a) H1
theorem uk {X:Cx}{elts:List Expr}{k:Nat}{tp:Pos}{a:Expr}{ta:TA}{p pos:Pos}(x:Gl X "enumerate") (v:X.mg "enumerate"=none) (m:PA X [a] ta) (t:starEach [a] X.env=[(false,eval a X.env)]:=by rfl) :
    PI X (.Tuple elts k tp) (.Call (.Name "enumerate" p) [a] [] pos) (sR X.K ta):=by
 intro f s r H R I h;refine Call_ (fL I x v boot_enumerate (PyProof.Rows.callWith_type1 (thn (m pos f s r H _ I h) λL c ⟨G,l,d,A,E⟩=>?_) t rfl));obtain⟨a,e,⟨J,C⟩,q⟩:=E;subst e;obtain⟨u,rfl,w⟩:=cK A;cases w;obtain⟨D,F,y,K⟩:=d.list C;refine call_enumerate_list y.isList λn j g B o=>?_;refine wpAny_pyIter_enum (s:={ c with heap:=n }) j ?_;refine⟨_,[c.heap.objs.size+1,c.heap.objs.size],_,_,l,rfl,d.kept (t':=c.toks) o,qp a _ _ (Nat.succ_ne_self _),⟨⟨_,j⟩,g⟩,λb i=>?_,q⟩;have i:b=c.heap.objs.size+1∨b=c.heap.objs.size:=by simpa using i
 rcases i with z | z
 ·subst z;exact d.fpOk (Nat.le_succ _) (d.hok.fresh (Nat.le_succ _))
 ·subst z;exact d.fpOk (wM _) (d.hok.fresh (wM _))
mutual
inductive Rep (H:Hp):V->PyData->Prop
 | non:Rep H .non .none
 | bl (b:Bool):Rep H (.bl b) (.bool b)
 | int (i:Int):Rep H (.int i) (.int i)
 | str (x:Str):Rep H (.str x) (.str x)
 | lst {a:Addr} {xs:LV} {ds:List PyData}:H a=some (.lst xs)->RepAll H xs ds->Rep H (.ref a) (.list ds)
 | tup {a:Addr} {xs:LV} {ds:List PyData}:H a=some (.tup xs)->RepAll H xs ds->Rep H (.ref a) (.tuple ds)
inductive RepAll (H:Hp):LV->List PyData->Prop
 | nil:RepAll H [] []
 | cons {x:V} {xs:LV} {d:PyData} {ds:List PyData}:Rep H x d->RepAll H xs ds->RepAll H (x::xs) (d::ds)
end
mutual
theorem Rep.reads (ok:HOk P w H h):∀ {v:V}{d:PyData}{u:Value},Rep H v d->RelV v u->∃as,Reads h u d as
 | _,_,_,.non,r=>by cases r;exact⟨_,.none⟩
 | _,_,_,.bl b,r=>by cases r;exact⟨_,.bool b⟩
 | _,_,_,.int i,r=>by obtain⟨t,rfl⟩:=r;exact⟨_,.int i t⟩
 | _,_,_,.str x,r=>by obtain⟨t,rfl⟩:=r;exact⟨_,.str x t⟩
 | _,_,_,.lst (a:=a) (xs:=xs) e rs,r=>by
  cases r;obtain⟨_,its,n,rv,eh⟩:=(show ObjOk P w H h a (.lst xs) from ok a _ e)
  obtain⟨as,z⟩:=RepAll.reads ok rs rv;exact⟨_,.list eh rfl rfl (by simpa using z)⟩
 | _,_,_,.tup (a:=a) (xs:=xs) e rs,r=>by
  cases r;obtain⟨_,its,rv,o,eh,hc,n,hd,_⟩:=(show ObjOk P w H h a (.tup xs) from ok a _ e)
  obtain⟨as,z⟩:=RepAll.reads ok rs rv;exact⟨_,.tuple eh hc hd (by simpa using z)⟩
theorem RepAll.reads (ok:HOk P w H h):∀ {vs:LV}{ds:List PyData}{us:LW}, RepAll H vs ds -> Vals vs us -> ∃as, ReadsAll h us ds as
 | _,_,_,.nil,r=>by cases r;exact⟨_,.nil⟩
 | _,_,_,.cons q qs,r=>by
  cases r with
  | cons r1 r2 =>
   obtain⟨as,z⟩:=Rep.reads ok q r1;obtain⟨bs,zs⟩:=RepAll.reads ok qs r2;exact⟨_,.cons z zs⟩
end
mutual
theorem Rep.same (s:Same H H'):∀ {v:V}{d:PyData},Rep H v d->Rep H' v d
 | _,_,.non=>.non
 | _,_,.bl b=>.bl b
 | _,_,.int i=>.int i
 | _,_,.str x=>.str x
 | _,_,.lst e rs=>.lst (s _ _ e) (rs.same s)
 | _,_,.tup e rs=>.tup (s _ _ e) (rs.same s)
theorem RepAll.same (s:Same H H'):∀ {vs:LV}{ds:List PyData},RepAll H vs ds->RepAll H' vs ds
 | _,_,.nil=>.nil
 | _,_,.cons q qs=>.cons (q.same s) (qs.same s)
end
section
variable {X:Cx}
def shp (d:PyData):Prop:=SeqAt.shaped d=true
def rEqD:R2:=λx y H Q=>∃da db,Rep H x da/\Rep H y db/\shp da/\shp db/\Q (.bl (PyData.eqv da db)) H
def rNeD:R2:=λx y H Q=>∃da db,Rep H x da/\Rep H y db/\shp da/\shp db/\Q (.bl (!PyData.eqv da db)) H
theorem u7 (b:X.A.units+64<cLine):OpR X (compareOp .Eq) rEqD:=by
 intro a s p H x y v u Q I c d h;obtain⟨m,n,j,e,i,k,q⟩:=h;obtain⟨o,g⟩:=j.reads I.hok c;obtain⟨l,f⟩:=e.reads I.hok d;exact eq_dataH g f i k b ⟨.bl _,H,I,rfl,q⟩
theorem vx (b:X.A.units+64<cLine):OpR X (compareOp .NotEq) rNeD:=by
 intro a s p H x y v u Q I c d h;obtain⟨m,n,j,e,i,k,q⟩:=h;obtain⟨o,g⟩:=j.reads I.hok c;obtain⟨l,f⟩:=e.reads I.hok d;exact ne_dataH g f i k b ⟨.bl _,H,I,rfl,q⟩
theorem oY (c:List Bool):((List.range c.length).all λi=>c.getD i false)=c.all id:=by
 rw[xp,xM,xM]
 constructor
 ·intro h b d;obtain⟨i,a,rfl⟩:=List.mem_iff_getElem.mp d;have:=h i (by simpa using a);simpa [xE,a] using this
 ·intro h i a;have a:i<c.length:=by simpa using a
  have:=h c[i] (yk a);simpa [xE,a] using this
theorem mN {z:List Bool}{q:LW}(r:Vals (z.map V.bl) q) {i:Nat}(e:q[i]? = some v):v=.bool (z.getD i false):=by
 have a:=r.length;rw[wK] at a;have d:i<z.length:=by rw[a];exact(wO.mp e).1
 obtain⟨u,b,c⟩:=r.get (i:=i) (x:=V.bl (z.getD i false)) (by rw[wW];simp[xE,d]);rw[e] at b;cases b;exact c
theorem mK (x:X.calm=true):du X (.builtin "all") (λxs H Q=>∃p z,xs=[.ref p]/\H p=some (.lst (List.map V.bl z))/\Q (.bl (z.all id)) H):=by
 intro l s C H xs F Q I r h;obtain⟨p,z,rfl,e,q⟩:=h;obtain⟨u,rfl,w⟩:=cK r;cases w;obtain⟨E,a,n,k,d⟩:=(show ObjOk X.prog X.w H s.heap p (.lst (List.map V.bl z)) from I.hok p _ e)
 have t:s.heap.IsList p a.toArray:=⟨_,d,rfl,n,rfl⟩
 have c:a.length=z.length:=by have:=k.length;rw[wK] at this;exact this.symm
 have g:p<s.heap.objs.size:=wT d;refine call_all_walk (wpAny_pyIter_list t ?_);refine⟨s.heap.objs.size,[s.heap.objs.size,p],[s.heap.objs.size],a.toArray.size,_,_,λi=>z.getD i false,rfl,
  Walks.list (A:=X.A.in1) (I.ok.hd x) _ p (xm g) a.toArray,⟨⟨_,xl _ rfl,rfl,rfl⟩,⟨_,xb _ d,rfl,n,rfl⟩⟩,?_,λB K y=>?_⟩
 ·intro i v G J D f j;have f:a[i]? = some v:=by simpa using f
  rw[mN k f];exact wN j
 ·refine⟨.bl _,H,I.kept λb o m=>y b o (by simpa using xm (wT m)) (xb _ m),rfl,?_⟩;rw[xh,c,oY];exact q
theorem nE:∀ {ys:LS}{us:LW}, Vals (ys.map V.str) us -> StrsAre us ys
 | [],us,r=>by cases r;exact .nil
 | y::ys,us,r=>by
  cases r with
  | cons r1 r2 =>
   obtain⟨t,rfl⟩:=r1;exact .cons y t (nE r2)
def sT:V->LV->Hp->VK->Prop:=λx xs H Q=>∃z p ys,x=.str z/\xs=[.ref p]/\H p=some (.lst (List.map V.str ys))/\(ys.map (·.length)).sum+ys.length * z.length<=16777216/\Q (.str (Txt.join z ys)) H
theorem tM:MtR X "str.join" sT:=by
 intro c s r H x m v o Q I g a h;obtain⟨z,p,i,rfl,rfl,e,l,q⟩:=h;obtain⟨t,rfl⟩:=g;obtain⟨u,rfl,j⟩:=cK a;cases j;obtain⟨_,b,n,a,d⟩:=(show ObjOk X.prog X.w H s.heap p (.lst (List.map V.str i)) from I.hok p _ e)
 exact join_list (D:=p) (items:=b.toArray) ⟨_,d,rfl,n,rfl⟩ (by simpa using nE a) l λf k=>⟨.str _,H,I.tok k,⟨f,rfl⟩,q⟩
def rSlS:V->Option Int->Option Int->Hp->VK->Prop:=λx lo hi H Q=>∃z,x=.str z/\z.length<=sizeLine/\Q (.str (Txt.slice z lo hi)) H
theorem vU:SlR X rSlS:=by
 intro b s A H x v D C w n B Q I p r y m h;obtain⟨z,rfl,e,q⟩:=h;obtain⟨t,rfl⟩:=p;refine⟨"str",_,PySem.F.slot_str_getitem.lookup,typeIs_str _ _ _,?_⟩;obtain⟨o,c,f,d⟩:=r;have a:∀g k,EP X b A Q (.str (Txt.slice z w n) g) { s with toks:=k }:=λg k=>⟨.str _,H,I.tok k,⟨g,rfl⟩,q⟩
 cases y with
 | none=>cases m with
  | none=>exact wpAny_getItem_str_slice (l:=none) (u:=none) (st:=none) ⟨o,c,f,d⟩ rfl (post_val_or_str ⟨wV (Txt.slice_le z _ _) e,a⟩)
  | int j tj=>exact wpAny_getItem_str_slice (l:=none) (u:=some (j,tj)) (st:=none) ⟨o,c,f,d⟩ rfl (post_val_or_str ⟨wV (Txt.slice_le z _ _) e,a⟩)
 | int i ti=>cases m with
  | none=>exact wpAny_getItem_str_slice (l:=some (i,ti)) (u:=none) (st:=none) ⟨o,c,f,d⟩ rfl (post_val_or_str ⟨wV (Txt.slice_le z _ _) e,a⟩)
  | int j tj=>exact wpAny_getItem_str_slice (l:=some (i,ti)) (u:=some (j,tj)) (st:=none) ⟨o,c,f,d⟩ rfl (post_val_or_str ⟨wV (Txt.slice_le z _ _) e,a⟩)
def vO (K:W.Frag) (c:String):LV->Hp->VK->Prop:=λxs H Q=>∃x t b,xs=[x,.ty c]/\TyOf K H x t/\W.kitOne K t (.type c)=some b/\Q (.bl b) H
theorem rN (c:String):du X (.builtin "isinstance") (vO X.K c):=by
 intro d s m H j k Q I r h;obtain⟨x,t,b,rfl,f,e,q⟩:=h;obtain⟨u,l,rfl,g,a⟩:=gx r;cases a;exact pJ I g f e λi=>⟨.bl b,H,I.tok i,rfl,q⟩
def wB:LV->Hp->VK->Prop:=λxs H Q=>∃x d,xs=[x]/\Rep H x d/\d.showable=true/\d.hasDict=false/\d.depth<=16/\d.shown.length<=sizeLine/\Q (.str d.shown) H
theorem km (o:X.A.guards=some []) (z:X.A.units+64<cLine):du X (.builtin "repr") wB:=by
 intro g s w H B C Q I r h;obtain⟨x,d,rfl,j,k,n,p,l,q⟩:=h;obtain⟨u,rfl,f⟩:=cK r;have rd:=j.reads I.hok f;have c:∀a,u=.ref a->wpAny (model X.prog X.w) X.A (call (.builtin "repr") [.ref a]) (EP X g w Q) X.xe s:=λa e=>by
  subst e;obtain⟨D,rd⟩:=rd;exact repr_of_reads' rd k (PyData.noDict_hsm n) o (by omega) (λ_ _ e=>e) (λA m E v=>⟨.str _,H,I.kept v,⟨m,rfl⟩,q⟩) l
 cases j with
 | non=>cases f;exact PySem.P.repr_of_none ⟨.str _,H,I.tok _,⟨_,rfl⟩,q⟩
 | bl b=>cases f;exact PySem.P.repr_of_bool ⟨.str _,H,I.tok _,⟨_,rfl⟩,q⟩
 | int i =>
  obtain⟨t,rfl⟩:=f;exact PySem.P.repr_of_int (by simpa [PyData.showable] using k) ⟨.str _,H,I.tok _,⟨_,rfl⟩,q⟩
 | str y =>
  obtain⟨t,rfl⟩:=f;exact PySem.P.repr_of_str ⟨.str _,H,I.tok _,⟨_,rfl⟩,q⟩ l
 | lst e rs=>cases f;exact c _ rfl
 | tup e rs=>cases f;exact c _ rfl
def rH:V->Bool
 | .non | .bl _ | .int _ | .str _=>true
 | _=>false
def flD:V->PyData
 | .bl b=>.bool b
 | .int i=>.int i
 | .str x=>.str x
 | _=>.none
theorem qF (f:rH v=true) (r:RelV v u):Reads h u (flD v) []:=by
 cases v with
 | non=>cases r;exact .none
 | bl b=>cases r;exact .bool b
 | int i=>obtain⟨t,rfl⟩:=r;exact .int i t
 | str x=>obtain⟨t,rfl⟩:=r;exact .str x t
 | _=>cases f
theorem lR:∀ {kvs:KV_}{vs:List (Key × Value)}{es:List DictEntry}, KV kvs vs -> Pairs (cc P w) es vs -> kvs.all (λp => rH p.2)=true ->
    ReadsAll h (es.map (·.key)) ((kvs.map λp=>(flD (kV p.1),flD p.2)).map (·.1)) []/\ReadsAll h (es.map (·.val)) ((kvs.map λp=>(flD (kV p.1),flD p.2)).map (·.2)) []
 | [],_,_,r,q,_=>by
  cases r;cases q;exact⟨.nil,.nil⟩
 | p :: kvs, vs, es, r, q, f => by
  cases r with
  | @cons _ b _ vs' r1 r2 =>
   cases q with
   | cons qk qv q2 =>
    rw[List.all_cons,xC] at f;obtain⟨a1,a2⟩:=lR r2 q2 f.2
    rename_i en es'
    have k1:Reads h en.key (flD (kV p.1)) []:=by
     have hk:=qk;rw[<- r1.1] at hk;rcases bY hk with⟨i,t,e1,e2⟩ | ⟨x,t,e1,e2⟩
     ·rw[e1,e2];exact .int i t
     ·rw[e1,e2];exact .str x t
    have v1:Reads h en.val (flD p.2) []:=by
     rw[qv];exact qF f.1 r1.2
    exact⟨.cons k1 a1,.cons v1 a2⟩
def jD (kvs:KV_):PyData:=.dict (kvs.map λp=>(flD (kV p.1),flD p.2))
inductive ReprR (H:Hp):V->VK->Prop
 | tr {x:V} {d:PyData} {Q:VK}:Rep H x d->d.showable=true->d.hasDict=false->d.depth<=16->d.shown.length<=sizeLine->Q (.str d.shown) H->ReprR H x Q
 | dc {a:Addr} {kvs:KV_} {Q:VK}:H a=some (.dK kvs)->kvs.all (λp=>rH p.2)=true->(jD kvs).showable=true->(jD kvs).depth<=16->(jD kvs).shown.length<=sizeLine->Q (.str (jD kvs).shown) H->ReprR H (.ref a) Q
def pA:LV->Hp->VK->Prop:=λxs H Q=>∃x,xs=[x]/\ReprR H x Q
theorem oK (d:X.A.guards=some []) (i:X.A.units+64<cLine):du X (.builtin "repr") pA:=by
 intro c s p H F y Q I r h;obtain⟨x,rfl,h⟩:=h;cases h with
 | tr rep hs hd hdp hz q=>exact km d i c s p H _ y Q I r ⟨_,_,rfl,rep,hs,hd,hdp,hz,q⟩
 | @dc a kvs _ e f hs hdp hz q =>
  obtain⟨u,rfl,v⟩:=cK r;cases v;obtain⟨_,b,E,m,o,B,D,l,A,n,_,k,_⟩:=(show ObjOk X.prog X.w H s.heap a (.dK kvs) from I.hok a _ e)
  obtain⟨w,j⟩:=lR (h:=s.heap) m k f;have rd:Reads s.heap (.ref a) (jD kvs) (a::[]++[]):=.dict l A.1 n w j;refine repr_of_reads' rd hs (λ_ t=>?_) d (by omega) (λ_ _ e=>e) (λC g G z=>⟨.str _,H,I.kept z,⟨g,rfl⟩,q⟩) hz;have:sysModules=a:=by simpa using t
  rw[this] at b;simp at b
theorem fT (ok:HOk P w H h):∀ {xs:LV}{ds:List PyData}{us:LW}, RepAll H xs ds -> Vals xs us -> PyData.canLayAll0 ds=true -> us.any (λu => PyData.eqv (SeqAt.readOf h u) d)=ds.any λe => PyData.eqv e d
 | _,_,_,.nil,r,_=>by cases r;rfl
 | _,_,_,.cons q qs,r,hl=>by
  cases r with
  | cons r1 r2 =>
   have hl':=Bool.and_eq_true_iff.mp (show (PyData.canLay0 _&&PyData.canLayAll0 _)=true from hl);obtain⟨as,z⟩:=q.reads ok r1;rw[xR,xR,SeqAt.readOf_eq hl'.1 z,fT ok qs r2 hl'.2]
theorem fS {P:Program}{w:World}{H:Hp}{A:Around}{s:Shared}(ok:HOk P w H s.heap) {d:PyData}{x:V}{v:Value}{bs:List Addr}(zx:Reads s.heap v d bs) (hd:d.canLay0=true) (hu:A.units+d.depth<cLine) :
    ∀ {xs:LV} {ds:List PyData} {us:LW},RepAll H xs ds->Vals xs us->PyData.canLayAll0 ds=true->∀u∈us,SeqAt.EqAt A s u v (PyData.eqv (SeqAt.readOf s.heap u) d)
 | _,_,_,.nil,r,_=>by cases r;intro u hu;cases hu
 | _, _, _, .cons q qs, r, hl => by
  cases r with
  | cons r1 r2 =>
   have hl':=Bool.and_eq_true_iff.mp (show (PyData.canLay0 _&&PyData.canLayAll0 _)=true from hl);intro u hm;rcases wY.mp hm with rfl | hm
   ·obtain⟨as,z⟩:=q.reads ok r1;rw[SeqAt.readOf_eq hl'.1 z];exact SeqAt.eqAt_reads _ _ _ _ _ _ _ _ z zx hl'.1 hd (x6 (Nat.add_le_add_left (Nat.min_le_right _ _) _) hu)
   ·exact fS (x:=x) ok zx hd hu qs r2 hl'.2 u hm
def vq (neg:Bool):R2:=λx y H Q=>∃p xs ds d,y=.ref p/\H p=some (.lst xs)/\RepAll H xs ds/\Rep H x d/\PyData.canLayAll0 ds=true/\d.canLay0=true/\d.depth<=16 /\
 Q (.bl (if neg then !(ds.any λe=>PyData.eqv e d) else ds.any λe=>PyData.eqv e d)) H
theorem vT (z:X.A.units+64<cLine):OpR X (compareOp .In) (vq false):=by
 intro i s B H x y v u Q I k l h;obtain⟨p,m,A,d,rfl,e,g,r,b,c,dp,q⟩:=h;cases l;obtain⟨_,a,n,f,j⟩:=(show ObjOk X.prog X.w H s.heap p (.lst m) from I.hok p _ e)
 obtain⟨C,o⟩:=r.reads I.hok k;refine SeqAt.in_listAt (λu=>PyData.eqv (SeqAt.readOf s.heap u) d) ⟨_,j,rfl,n,rfl⟩ (λw t=>fS (x:=x) I.hok o c (by show X.A.units+1+d.depth<cLine;omega) g f b w (by simpa using t)) ⟨.bl _,H,I,rfl,?_⟩;rw[show a.toArray.any (λu=>PyData.eqv (SeqAt.readOf s.heap u) d)=a.any (λu=>PyData.eqv (SeqAt.readOf s.heap u) d) by simp,fT I.hok g f b];exact q
theorem pQ (z:X.A.units+64<cLine):OpR X (compareOp .NotIn) (vq true):=by
 intro i s B H x y v u Q I k l h;obtain⟨p,m,A,d,rfl,e,g,r,b,c,dp,q⟩:=h;cases l;obtain⟨_,a,n,f,j⟩:=(show ObjOk X.prog X.w H s.heap p (.lst m) from I.hok p _ e)
 obtain⟨C,o⟩:=r.reads I.hok k;refine SeqAt.notIn_listAt (λu=>PyData.eqv (SeqAt.readOf s.heap u) d) ⟨_,j,rfl,n,rfl⟩ (λw t=>fS (x:=x) I.hok o c (by show X.A.units+1+d.depth<cLine;omega) g f b w (by simpa using t)) ⟨.bl _,H,I,rfl,?_⟩;rw[show a.toArray.any (λu=>PyData.eqv (SeqAt.readOf s.heap u) d)=a.any (λu=>PyData.eqv (SeqAt.readOf s.heap u) d) by simp,fT I.hok g f b];exact q
end
structure Cal (P:Program) (w:World) (K:W.Frag) (mg:MS) (base:Heap) (k:Nat) (x:Str) (ps:LS) (sp:Sp):Prop where
 ex:∃(f:Addr) (fd:FuncData),FnOk P w K mg base CX0 k f fd ps sp/\mg x=some (.ref f)/\W.keepIn K (.ref f)=true/\Binds K fd ps []
section
variable {X:Cx}{x:Str}{ps:LS}{sp:Sp}{k j:Nat}{p pos:Pos}{e:Expr}{es:List Expr}{t:TA}
theorem ai (c:Cal X.prog X.w X.K X.mg X.base k x ps sp) (h:Room k X.A) (d:Gl X x) (j:PA X (e::es) t)
    (a:starEach (e::es) X.env=(false,eval e X.env)::starEach es X.env:=by rfl) (hpl:(backTo pos (starEach es X.env)).any (·.1)=false:=by rfl) (hdb:(x==("__debug__":Str))=false:=by decide) :
    PE X (.Call (.Name x p) (e::es) [] pos) (iA sp [] E0 t):=by
 obtain⟨f,l,G,i,g,b⟩:=c.ex;exact ue G h d i g b .nil hH j (hdb:=hdb) (he:=a) (hpl:=hpl)
end
section
variable {X:Cx}
inductive AddR (H:Hp):V->V->VK->Prop
 | int {i j:Int} {Q:VK}:Q (.int (i+j)) H->AddR H (.int i) (.int j) Q
 | str {i j:Str} {Q:VK}:i.length+j.length<=sizeLine->Q (.str (i++j)) H->AddR H (.str i) (.str j) Q
 | lst {l b:Addr} {xs zs:LV} {Q:VK}:H l=some (.lst xs)->H b=some (.lst zs)->xs.length+zs.length<=sizeLine->(∀p,H p=none->Q (.ref p) (upd H p (.lst (xs++zs))))->AddR H (.ref l) (.ref b) Q
theorem aT:OpR X (binaryOp .Add) (λx y H Q=>AddR H x y Q):=by
 intro a s d H x y v u Q I b c h;cases h with
 | int q=>exact uB a s d H _ _ v u Q I b c ⟨_,_,rfl,rfl,q⟩
 | str hz q=>exact oI a s d H _ _ v u Q I b c ⟨_,_,rfl,rfl,hz,q⟩
 | lst h1 h2 hz q=>exact uA a s d H _ _ v u Q I b c ⟨_,_,_,_,rfl,rfl,h1,h2,hz,q⟩
inductive EqR (neg:Bool) (H:Hp):V->V->VK->Prop
 | sc {x y:V} {Q:VK}:ry x y=true->Q (.bl (if neg then !decide (x=y) else decide (x=y))) H->EqR neg H x y Q
 | tr {x y:V} {da db:PyData} {Q:VK}:Rep H x da->Rep H y db->shp da->shp db->Q (.bl (if neg then !PyData.eqv da db else PyData.eqv da db)) H->EqR neg H x y Q
theorem aY (e:X.A.units+64<cLine):OpR X (compareOp .Eq) (λx y H Q=>EqR false H x y Q):=by
 intro a s d H x y v u Q I b c h;cases h with
 | sc h q=>exact wE a s d H _ _ v u Q I b c ⟨h,q⟩
 | tr ra rb sa sb q=>exact u7 e a s d H _ _ v u Q I b c ⟨_,_,ra,rb,sa,sb,q⟩
theorem cI (e:X.A.units+64<cLine):OpR X (compareOp .NotEq) (λx y H Q=>EqR true H x y Q):=by
 intro a s d H x y v u Q I b c h;cases h with
 | sc h q=>exact wr a s d H _ _ v u Q I b c ⟨h,q⟩
 | tr ra rb sa sb q=>exact vx e a s d H _ _ v u Q I b c ⟨_,_,ra,rb,sa,sb,q⟩
inductive SlX (K:W.Frag) (H:Hp):V->Option Int->Option Int->VK->Prop
 | str {z:Str} {lo hi:Option Int} {Q:VK}:z.length<=sizeLine->Q (.str (Txt.slice z lo hi)) H->SlX K H (.str z) lo hi Q
 | lst {a:Addr} {xs:LV} {lo hi:Option Int} {Q:VK}:SqL K H a xs->(∀p,H p=none->Q (.ref p) (upd H p (.lst (cX xs lo hi))))->SlX K H (.ref a) lo hi Q
theorem sl_X:SlR X (λx lo hi H Q=>SlX X.K H x lo hi Q):=by
 intro a s f H x v e c lo hi d Q I i b j g h;cases h with
 | str hz q=>exact vU a s f H _ v e c lo hi d Q I i b j g ⟨_,rfl,hz,q⟩
 | lst h1 q=>exact uc a s f H _ v e c lo hi d Q I i b j g ⟨_,_,rfl,h1,q⟩
end
section
variable {X:Cx}
inductive CmR (f:Int->Int->Bool) (g:Str->Str->Bool) (H:Hp):V->V->VK->Prop
 | int {i j:Int} {Q:VK}:Q (.bl (f i j)) H->CmR f g H (.int i) (.int j) Q
 | str {i j:Str} {Q:VK}:Q (.bl (g i j)) H->CmR f g H (.str i) (.str j) Q
theorem eW:OpR X (compareOp .Lt) (λx y H Q=>CmR (λi j=>decide (i<j)) (λi j=>decide (i.cps.toList<j.cps.toList)) H x y Q):=by
 intro a s d H x y v u Q I b c h;cases h with
 | int q=>exact wu a s d H _ _ v u Q I b c ⟨_,_,rfl,rfl,q⟩
 | str q=>exact qf a s d H _ _ v u Q I b c ⟨_,_,rfl,rfl,q⟩
inductive IsB (neg:Bool) (H:Hp):V->V->VK->Prop
 | int {i:Int} {b:Bool} {Q:VK}:Q (.bl neg) H->IsB neg H (.int i) (.bl b) Q
 | bl {c b:Bool} {Q:VK}:Q (.bl (if neg then !decide (c=b) else decide (c=b))) H->IsB neg H (.bl c) (.bl b) Q
 | non {x:V} {Q:VK}:Q (.bl (if neg then !decide (x=.non) else decide (x=.non))) H->IsB neg H x .non Q
theorem gu:OpR X (compareOp .IsNot) (λx y H Q=>IsB true H x y Q):=by
 intro a s f H x y v u Q I d e h;cases h with
 | int q =>
  obtain⟨t,rfl⟩:=d;cases e;exact wpAny_isNot_other (by rfl) (by intro z;cases z) ⟨.bl _,H,I,rfl,q⟩
 | @bl c b _ q =>
  cases d;cases e;exact wpAny_isNot_plain (by rfl) (ba I q (by cases c <;> cases b <;> rfl))
 | non q=>exact sY a s f H _ _ v u Q I d e ⟨rfl,q⟩
theorem ib:OpR X (compareOp .Is) (λx y H Q=>IsB false H x y Q):=by
 intro a s f H x y v u Q I d e h;cases h with
 | int q =>
  obtain⟨t,rfl⟩:=d;cases e;exact wpAny_is_other (by rfl) (by intro z;cases z) ⟨.bl _,H,I,rfl,q⟩
 | @bl c b _ q =>
  cases d;cases e;exact wpAny_is_plain (by rfl) (ba I q (by cases c <;> cases b <;> rfl))
 | non q=>exact uZ a s f H _ _ v u Q I d e ⟨rfl,q⟩
theorem vY (K:W.Frag) (g:PE X o to) (i:PA X [e] t)
    (c:attributeBase o "join" X.env (eval o X.env)=eval o X.env:=by rfl)
    (d:((backTo cpos (starEach [e] X.env)).all (λx=>!x.1)&&(backToKw cpos (keywordEach [] X.env)).all (λx=>x.1.isSome)
     && decide ([e].length+([]:List Keyword).length+(if ([]:List Keyword).isEmpty then 0 else 1)<30))=true:=by rfl)
    (b:(apos.endLine==cpos.line)=true:=by rfl) (f:starEach [e] X.env=(false,eval e X.env)::starEach [] X.env:=by rfl) (a:(backTo cpos (starEach [] X.env)).any (·.1)=false:=by rfl) (h:X.K=K:=by rfl) :
    PE X (.Call (.Attribute o "join" apos) [e] [] cpos) (tBM K "str" sT to t):=h ▸ oG PySem.F.plainAttrs_str PySem.F.slot_str_join PySem.F.type_str_join tM g i c d b f a
theorem cT (K:W.Frag) (g:PE X o to) (i:PA X [e] t)
    (c:attributeBase o "append" X.env (eval o X.env)=eval o X.env:=by rfl)
    (d:((backTo cpos (starEach [e] X.env)).all (λx=>!x.1)&&(backToKw cpos (keywordEach [] X.env)).all (λx=>x.1.isSome)
     && decide ([e].length+([]:List Keyword).length+(if ([]:List Keyword).isEmpty then 0 else 1)<30))=true:=by rfl)
    (b:(apos.endLine==cpos.line)=true:=by rfl) (f:starEach [e] X.env=(false,eval e X.env)::starEach [] X.env:=by rfl) (a:(backTo cpos (starEach [] X.env)).any (·.1)=false:=by rfl) (h:X.K=K:=by rfl) :
    PE X (.Call (.Attribute o "append" apos) [e] [] cpos) (tBM K "list" mR to t):=h ▸ oG PySem.F.plainAttrs_list PySem.F.slot_list_append PySem.F.type_list_append kQ g i c d b f a
theorem eX (K:W.Frag) (a:X.K=K:=by rfl):SlR X (λx lo hi H Q=>SlX K H x lo hi Q):=a ▸ sl_X
theorem be (K:W.Frag) (a:PE X l tl) (b:X.K=K:=by rfl):PI X tg l (sx K tl):=b ▸ sZ a
theorem bH (K:W.Frag) (a:PE X l tl) (b:X.K=K:=by rfl):PI X tg l (u5 K tl):=b ▸ vj a
end
theorem gs {i:Nat}{A B:SH}(h:A (σ.set i (some v)) H):cg i v σ H λσ2 z=>gR σ2 z λb q=>if b=true then A σ2 q else B σ2 q:=by
 show (if true=true then A (σ.set i (some v)) H else B (σ.set i (some v)) H);rw[if_pos rfl];exact h
section
variable {K:W.Frag}{k:Nat}{fr:List Nat}{g:TG}{tc:TT}{te:TE}{σ:St}{H1:Hp}{Q:VK}
theorem gO (xs:LV) (f:Hp -> Prop) (n:∀i H, f H -> i<xs.length -> J.go i H) (r:∀i H x H', f H -> i<xs.length -> J.yld i H x H' -> H'=H /\ xs[i]? = some x) (j:∀H, f H -> J.stop xs.length H)
    (c:Addr->Nat->LV->SH)
    (h:∀D,H1 D=none->c D 0 [] (cS k fr σ) (upd H1 D (.lst []))/\(∀i q σ' H',i<=xs.length->c D i q σ' H'->H' D=some (.lst q)->f H') /\
     (∀i q σ' H' x,xs[i]? = some x->c D i q σ' H'->H' D=some (.lst q)->g x σ' H' λσ2 G=>tc σ2 G λb z =>
      if b=true then te σ2 z λy B=>B D=some (.lst q)/\q.length<sizeLine/\c D (i+1) (q++[y]) σ2 (upd B D (.lst (q++[y]))) else z D=some (.lst q)/\c D (i+1) q σ2 z) /\
     ∀q σ' H',c D xs.length q σ' H'->H' D=some (.lst q)->Q (.ref D) H'):cr k fr g tc te J σ H1 Q:=by
 intro D F;obtain⟨C,l,w,v⟩:=h D F;refine⟨λi m q σ' H'=>m=xs.length-i/\i<=xs.length/\c D i q σ' H',⟨xs.length,by simp,xt _,C⟩,?_⟩;rintro i m q σ' H' ⟨rfl,u,p⟩ a;have o:=l i q σ' H' u p a;by_cases d:i<xs.length
 ·refine .inr ⟨n i H' o d,c D (i+1),λt σ2 s E=>⟨xs.length-(i+1),by omega,rfl,d,E⟩,λx s y=>?_⟩;obtain⟨e,A⟩:=r i H' x s o d y;subst e;exact w i q σ' s x A p a
 ·have e:i=xs.length:=by omega
  subst e;exact .inl ⟨j H' o,v q σ' H' p a⟩
def fo (n:Nat):LV:=(List.range n).map λi=>V.int (0+(i:Nat))
theorem eV (f:Addr -> Nat -> LV -> St -> Hp -> Prop)
    (h:∀D,H1 D=none->f D 0 [] (cS k fr σ) (upd H1 D (.lst [])) /\
     (∀i q σ' H',i<n->f D i q σ' H'->H' D=some (.lst q)->g (.int (0+(i:Nat))) σ' H' λσ2 G=>tc σ2 G λb z =>
      if b=true then te σ2 z λy B=>B D=some (.lst q)/\q.length<sizeLine/\f D (i+1) (q++[y]) σ2 (upd B D (.lst (q++[y]))) else z D=some (.lst q)/\f D (i+1) q σ2 z) /\
     ∀q σ' H',f D n q σ' H'->H' D=some (.lst q)->Q (.ref D) H'):cr k fr g tc te (Itr 0 n) σ H1 Q:=by
 have j:(fo n).length=n:=by simp[fo]
 refine gO (fo n) (λ_=>True) (λi H _ d=>by rw[j] at d;exact d) (λi H x H' _ d y=>⟨y.1,?_⟩) (λH _=>by show n<=(fo n).length;rw[j];exact wM _) f λD o=>?_
 ·rw[j] at d;rw[y.2];simp[fo,d]
 ·obtain⟨a,b,c⟩:=h D o;refine⟨a,λ_ _ _ _ _ _ _=>trivial,λi q σ' H' x m p l=>?_,by rw[j];exact c⟩;have d:i<n:=by rw[<- j];exact(wO.mp m).1
  have e:x=V.int (0+(i:Nat)):=by
   simp[fo,d] at m;rw[<- m];simp
  subst e;exact b i q σ' H' d p l
theorem cP (xs:LV) (c:Addr -> Nat -> LV -> St -> Hp -> Prop)
    (h:∀D,H1 D=none->c D 0 [] (cS k fr σ) (upd H1 D (.lst []))/\(∀i z σ' H',i<=xs.length->c D i z σ' H'->H' D=some (.lst z)->SqL K H' a xs) /\
     (∀i z σ' H' x,xs[i]? = some x->c D i z σ' H'->H' D=some (.lst z)->g x σ' H' λσ2 I=>tc σ2 I λb B =>
      if b=true then te σ2 B λy G=>G D=some (.lst z)/\z.length<sizeLine/\c D (i+1) (z++[y]) σ2 (upd G D (.lst (z++[y]))) else B D=some (.lst z)/\c D (i+1) z σ2 B) /\
     ∀z σ' H',c D xs.length z σ' H'->H' D=some (.lst z)->Q (.ref D) H'):cr k fr g tc te (Itl K a) σ H1 Q :=
 gO xs (λH=>SqL K H a xs) (λi H q d=>⟨xs,xs[i],q,by simp[d]⟩) (λi H x H' q d y=>⟨y.1,y.2 xs q⟩) (λH q=>⟨xs,q,wM _⟩) c h
theorem dC (xs:LV) (c:Addr -> Nat -> LV -> St -> Hp -> Prop)
    (h:∀D,H1 D=none->c D 0 [] (cS k fr σ) (upd H1 D (.lst []))/\(∀i z σ' H',i<=xs.length->c D i z σ' H'->H' D=some (.lst z)->SqT K H' a xs) /\
     (∀i z σ' H' x,xs[i]? = some x->c D i z σ' H'->H' D=some (.lst z)->g x σ' H' λσ2 I=>tc σ2 I λb B =>
      if b=true then te σ2 B λy G=>G D=some (.lst z)/\z.length<sizeLine/\c D (i+1) (z++[y]) σ2 (upd G D (.lst (z++[y]))) else B D=some (.lst z)/\c D (i+1) z σ2 B) /\
     ∀z σ' H',c D xs.length z σ' H'->H' D=some (.lst z)->Q (.ref D) H'):cr k fr g tc te (Itt K a) σ H1 Q :=
 gO xs (λH=>SqT K H a xs) (λi H q d=>⟨xs,xs[i],q,by simp[d]⟩) (λi H x H' q d y=>⟨y.1,y.2 xs q⟩) (λH q=>⟨xs,q,wM _⟩) c h
end
def But (p:Addr) (H H':Hp):Prop:=∀b o,b≠p->H b=some o->H' b=some o
theorem But.refl (p:Addr) (H:Hp):But p H H:=λ_ _ _ h=>h
theorem But.trans (a:But p H H1) (b:But p H1 H2):But p H H2:=λc o n h=>b c o n (a c o n h)
theorem But.upd:But p H (upd H p o):=λb a n h=>by rw[az n];exact h
theorem But.of_same (s:Same H H'):But p H H':=λb o _ h=>s b o h
theorem Same.new (h:H p=none):Same H (upd H p o):=λb a e=>by rw[az (aJ e h)];exact e
theorem Rd.but (b:But p H H') (n:a≠p) (h:Rd H a u):Rd H' a u:=by
 rcases h with h | ⟨o,h⟩
 ·exact .inl (b _ _ n h)
 ·exact .inr ⟨o,b _ _ n h⟩
theorem SqL.but {K:W.Frag}{p:Addr}{H H':Hp}(b:But p H H') {a:Addr}{xs:LV}(n:a≠p) (h:SqL K H a xs):SqL K H' a xs:=by
 rcases h with h | h
 ·exact .inl (h.but b n)
 ·exact .inr h
structure Blt (mg:MS):Prop where
 len:mg "len"=none
 range:mg "range"=none
 abs:mg "abs"=none
 all:mg "all"=none
 repr:mg "repr"=none
 isinstance:mg "isinstance"=none
 str:mg "str"=none
 int:mg "int"=none
 bool:mg "bool"=none
 enumerate:mg "enumerate"=none
 list:mg "list"=none
 tuple:mg "tuple"=none
 dict:mg "dict"=none
 min:mg "min"=none
 max:mg "max"=none
section
variable {X:Cx}{p pos:Pos}{e f:Expr}{t:TA}
def uL (K:W.Frag):LV->Hp->VK->Prop:=λxs H Q=>∃x n,xs=[x]/\vm K x H n/\Q (.int n) H
def rAbs:LV->Hp->VK->Prop:=λxs H Q=>∃i,xs=[.int i]/\Q (.int (if i<0 then -i else i)) H
def rM:LV->Hp->VK->Prop:=λxs H Q=>∃p bs,xs=[.ref p]/\H p=some (.lst (List.map V.bl bs))/\Q (.bl (bs.all id)) H
theorem aW (K:W.Frag) (B:Blt X.mg) (c:PA X [e] t) (a:Gl X "len":=by rfl) (he:starEach [e] X.env=(false,eval e X.env)::starEach [] X.env:=by rfl) (hpl:(backTo pos (starEach [] X.env)).any (·.1)=false:=by rfl) (b:X.K=K:=by rfl):PE X (.Call (.Name "len" p) [e] [] pos) (tCB (uL K) t) :=
 b ▸ dt rO a B.len PySem.boot_len c (by decide) (by decide) he hpl
theorem nR (B:Blt X.mg) (b:PA X [e] t) (a:Gl X "abs":=by rfl) (he:starEach [e] X.env=(false,eval e X.env)::starEach [] X.env:=by rfl) (hpl:(backTo pos (starEach [] X.env)).any (·.1)=false:=by rfl):PE X (.Call (.Name "abs" p) [e] [] pos) (tCB rAbs t) :=
 dt rR a B.abs boot_abs b (by decide) (by decide) he hpl
theorem oA (b:X.calm=true) (B:Blt X.mg) (c:PA X [e] t) (a:Gl X "all":=by rfl) (he:starEach [e] X.env=(false,eval e X.env)::starEach [] X.env:=by rfl) (hpl:(backTo pos (starEach [] X.env)).any (·.1)=false:=by rfl):PE X (.Call (.Name "all" p) [e] [] pos) (tCB rM t) :=
 dt (mK b) a B.all boot_all c (by decide) (by decide) he hpl
theorem jp (gd:X.A.guards=some []) (a:X.A.units+64<cLine) (B:Blt X.mg) (c:PA X [e] t) (b:Gl X "repr":=by rfl) (he:starEach [e] X.env=(false,eval e X.env)::starEach [] X.env:=by rfl) (hpl:(backTo pos (starEach [] X.env)).any (·.1)=false:=by rfl):PE X (.Call (.Name "repr" p) [e] [] pos) (tCB pA t) :=
 dt (oK gd a) b B.repr boot_repr c (by decide) (by decide) he hpl
theorem og (K:W.Frag) (c:String) (B:Blt X.mg) (d:PA X [e,f] t) (a:Gl X "isinstance":=by rfl) (he:starEach [e,f] X.env=(false,eval e X.env)::starEach [f] X.env:=by rfl) (hpl:(backTo pos (starEach [f] X.env)).any (·.1)=false:=by rfl) (b:X.K=K:=by rfl):PE X (.Call (.Name "isinstance" p) [e,f] [] pos) (tCB (vO K c) t) :=
 b ▸ dt (rN c) a B.isinstance boot_isinstance d (by decide) (by decide) he hpl
theorem ww (B:Blt X.mg) (a:Gl X "str":=by rfl):PE X (.Name "str" p) (tC (.ty "str")):=kd a B.str PyProof.Rows.boot_str rfl
theorem uT (B:Blt X.mg) (a:Gl X "list":=by rfl):PE X (.Name "list" p) (tC (.ty "list")):=kd a B.list (show bootBuiltins "list"=some (.type "list") by decide +kernel) rfl
end
end L2
namespace L2
open PySem PySem.Spec PyProof.Rows PySem.Builtin PySem.Builtin.Str
def Asc (z:Str):Prop:=∀c∈z.cps.toList,c<128
theorem bv (x y:Str):(x++y).length=x.length+y.length:=by
 show (x.cps++y.cps).size=x.cps.size+y.cps.size;rw[Array.size_append]
theorem u4 {ys:LS}{n:Nat}(h:∀y∈ys,y.length<=n):(ys.map (·.length)).sum<=ys.length * n:=by
 induction ys with
 | nil=>simp
 | cons y r ih =>
  have b:=h y (by simp);have c:=ih λz a=>h z (xo _ a);simp only[xr,List.sum_cons,xc];rw[Nat.succ_mul];omega
theorem wy {α:Type}{xs:List α}{j:Int}(b:0<=j) (c:j<xs.length):∃v,atI xs j=some v/\v∈xs:=by
 obtain⟨k,rfl⟩:=xj b;have a:k<xs.length:=by omega
 exact⟨xs[k],bf (by simp[a]),yk a⟩
theorem u9 {ns:List Int}{j:Int}(b:0<=j) (a:j<(ns.map V.int).length):∃c,atI (ns.map V.int) j=some (.int c):=by
 obtain⟨v,e,m⟩:=wy b a;obtain⟨c,_,rfl⟩:=wX.mp m;exact⟨c,e⟩
theorem kM (x:Int):-(2 ^ 64)<x % 2147483647/\x % 2147483647<2 ^ 64:=by
 have a:=x8 x (show (2147483647:Int)≠0 by decide);have b:=yu x (show (0:Int)<2147483647 by decide);omega
def PenV (H:Hp) (p a:Addr):Prop:=∃(i n:Int),H p=some (.lst [.ref a,.int i,.int n])/\0<=i/\0<=n
def Pen (K:W.Frag) (H:Hp) (p a:Addr):Prop:=(∃ns:List Int,∀H',But p H H'->SqL K H' a (ns.map V.int))/\PenV H p a
theorem Pen.but {K:W.Frag}{H H':Hp}{p a:Addr}(h:Pen K H p a) (b:But p H H') (v:PenV H' p a):Pen K H' p a:=⟨let ⟨c,q⟩:=h.1;⟨c,λe d=>q e (b.trans d)⟩,v⟩
theorem Pen.new {K:W.Frag}{H:Hp}{p a:Addr}{ns:List Int}{o:HO}(h:SqL K H a (ns.map V.int)) (d:H p=none) (v:PenV (upd H p o) p a):Pen K (upd H p o) p a := by
 refine⟨⟨ns,λj b=>?_⟩,v⟩;rcases h with h | h
 ·have n:a≠p:=by
     rcases h with h | ⟨i,h⟩
     ·exact aJ h d
     ·exact aJ h d
  have s:Same H (upd H p o):=Same.new d;exact SqL.but (λc f g e=>b c f g (s c f e)) n (.inl h)
 ·exact .inr h
theorem PenV.upd (h:PenV H p a) (n:p≠D):PenV (L2.upd H D o) p a:=let ⟨i,m,e,q⟩:=h;⟨i,m,by rw[az n];exact e,q⟩
theorem PenV.ne (h:PenV H p a) (e:H D=none):p≠D:=let ⟨_,_,q,_⟩:=h;aJ q e
theorem But.at (b:But p H H') (d:H D=none):But p H (L2.upd H' D o):=λc a n h=>by rw[az (aJ h d)];exact b c a n h
theorem But.of_eq (h:∀b,b≠p->H' b=H b):But p H H':=λb o n e=>(h b n).trans e
theorem But.free (b:But p H H') (n:D≠p) (h:H' D=none):H D=none:=by
 cases e:H D with
 | none=>rfl
 | some o=>rw[b D o n e] at h;cases h
def ci (K:W.Frag):Sp:=λvs H Q _=>∃(p a:Addr) (m:Int),vs=[.ref p,.int m]/\Pen K H p a/\0<m/\m<1073741824/\∀r H',0<=r->r<m->PenV H' p a->(∀b,b≠p->H' b=H b)->Q (.int r) H'
end L2
namespace L2
open PySem PySem.Spec PyProof.Rows
section
variable {X:Cx}
inductive InR (K:W.Frag) (neg:Bool) (H:Hp):V -> V -> VK -> Prop
 | dic {a:Addr} {y:V} {o:Option V} {Q:VK}:ki H a y o->Q (.bl (if neg then !o.isSome else o.isSome)) H->InR K neg H y (.ref a) Q
 | seq {p:Addr} {x:V} {xs:LV} {Q:VK}:(SqL K H p xs∨SqT K H p xs)->dO x=true->xs.all dO=true->Q (.bl (if neg then !inV x xs else inV x xs)) H->InR K neg H x (.ref p) Q
 | tr {p:Addr} {x:V} {xs:LV} {ds:List PyData} {d:PyData} {Q:VK}:H p=some (.lst xs)->RepAll H xs ds->Rep H x d->PyData.canLayAll0 ds=true->d.canLay0=true->d.depth<=16 ->
     Q (.bl (if neg then !(ds.any λe=>PyData.eqv e d) else ds.any λe=>PyData.eqv e d)) H->InR K neg H x (.ref p) Q
theorem fH (K:W.Frag) (i:X.A.units+64<cLine) (j:X.K=K:=by rfl):OpR X (compareOp .In) (λx y H Q=>InR K false H x y Q):=by
 subst j;intro a s f H x y v u Q I b d h;cases h with
 | dic g q =>
  cases d;exact d_in (by omega) I g b λl k=>⟨.bl _,H,k,rfl,q⟩
 | seq hq fx fs q=>exact pw a s f H _ _ v u Q I b d ⟨_,_,rfl,hq,fx,fs,q⟩
 | tr e rs r cs c dp q=>exact vT i a s f H _ _ v u Q I b d ⟨_,_,_,_,rfl,e,rs,r,cs,c,dp,q⟩
theorem bw (K:W.Frag) (i:X.A.units+64<cLine) (j:X.K=K:=by rfl):OpR X (compareOp .NotIn) (λx y H Q=>InR K true H x y Q):=by
 subst j;intro a s f H x y v u Q I b d h;cases h with
 | dic g q =>
  cases d;exact tG (by omega) I g b λl k=>⟨.bl _,H,k,rfl,q⟩
 | seq hq fx fs q=>exact lM a s f H _ _ v u Q I b d ⟨_,_,rfl,hq,fx,fs,q⟩
 | tr e rs r cs c dp q=>exact pQ i a s f H _ _ v u Q I b d ⟨_,_,_,_,rfl,e,rs,r,cs,c,dp,q⟩
inductive IxX (K:W.Frag) (H:Hp):V->V->VK->Prop
 | lst {p:Addr} {xs:LV} {i:Int} {v:V} {Q:VK}:SqL K H p xs->atI xs i=some v->Q v H->IxX K H (.ref p) (.int i) Q
 | tup {p:Addr} {xs:LV} {i:Int} {v:V} {Q:VK}:SqT K H p xs->atI xs i=some v->Q v H->IxX K H (.ref p) (.int i) Q
 | str {z:Str} {i:Int} {c:Nat} {Q:VK}:z.length<=sizeLine->atI z.cps.toList i=some c->Q (.str ⟨#[c]⟩) H->IxX K H (.str z) (.int i) Q
 | dic {a:Addr} {y v:V} {Q:VK}:ki H a y (some v)->Q v H->IxX K H (.ref a) y Q
theorem ah (K:W.Frag) (o:X.A.units+64<cLine) (l:X.K=K:=by rfl):IxR X (λx y H Q=>IxX K H x y Q):=by
 subst l;intro b a c s k H x y v u Q I f i h d;cases h with
 | lst hq e q=>exact tO b a c s k H _ _ v u Q I f i ⟨_,_,_,_,rfl,rfl,hq,e,q⟩ d
 | tup hq e q=>exact uQ b a c s k H _ _ v u Q I f i ⟨_,_,_,_,rfl,rfl,hq,e,q⟩ d
 | str hz e q=>exact uC b a c s k H _ _ v u Q I f i ⟨_,_,_,rfl,rfl,hz,e,q⟩ d
 | dic g q =>
  cases f;exact tail_any (mL I g) PySem.F.slot_dict_getitem.lookup (pi (by omega) I g i λp n m j=>⟨_,H,m,j,q⟩) d
inductive SetX (H:Hp):V->V->V->(Hp->Prop)->Prop
 | lst {p:Addr} {xs:LV} {k:Int} {j:Nat} {v:V} {Q:Hp->Prop}:H p=some (.lst xs)->ixN xs.length k=some j->Q (upd H p (.lst (xs.set j v)))->SetX H (.ref p) (.int k) v Q
 | dic {a:Addr} {y v:V} {H':Hp} {Q:Hp->Prop}:DPut H a y v H'->Q H'->SetX H (.ref a) y v Q
theorem gP (m:X.A.units+64<cLine):qC X (λo i v H Q=>SetX H o i v Q):=by
 intro a s j H o i v f k u Q I b d c h;cases h with
 | lst e ej q=>exact rE a s j H _ _ _ f k u Q I b d c ⟨_,_,_,_,rfl,rfl,e,ej,q⟩
 | dic g q =>
  cases b;exact qb (by omega) I g d c λn l=>⟨_,l,q⟩
theorem bN (K:W.Frag) (d:X.calm=true) (h:PGs X es t)
    (b:(assignEach es X.env).length=n:=by rfl) (a:(assignEach es X.env).findIdx? (·.1)=none:=by rfl) (c:X.K=K:=by rfl):PG X (.Tuple es k pos) (qR K n t):=c ▸ ux d h b a
theorem qN (K:W.Frag) (d:Gl X "enumerate") (c:X.mg "enumerate"=none) (f:PA X [a] ta) (b:starEach [a] X.env=[(false,eval a X.env)]:=by rfl) (e:X.K=K:=by rfl) :
    PI X (.Tuple elts k tp) (.Call (.Name "enumerate" p) [a] [] pos) (sR K ta):=e ▸ uk d c f b
variable {p pos p2 pos2:Pos}{e f:Expr}{t:TA}
end
section
variable {X:Cx}{p pos p2 pos2:Pos}{e f:Expr}{t:TA}
def sr (K:W.Frag):LV->Hp->VK->Prop:=λxs H Q=>∃a ys,xs=[.ref a]/\SqL K H a ys/\∀l,H l=none->Q (.ref l) (upd H l (.tup ys))
theorem dg (K:W.Frag) (B:Blt X.mg) (k:PA X [e] t) (c:Gl X "tuple":=by rfl) (he:starEach [e] X.env=(false,eval e X.env)::starEach [] X.env:=by rfl) (hpl:(backTo pos (starEach [] X.env)).any (·.1)=false:=by rfl) (j:X.K=K:=by rfl) :
    PE X (.Call (.Name "tuple" p) [e] [] pos) (tCB (sr K) t):=by
 subst j;refine fM (r:=sr X.K) (λb s i H l f Q I r h=>?_) c B.tuple (show bootBuiltins "tuple"=some (.type "tuple") by decide +kernel) k (by decide) (by decide) he hpl;obtain⟨a,g,rfl,d,q⟩:=h;exact lh b s i H _ f Q I r ⟨a,g,rfl,.inl ⟨d,q⟩⟩
inductive LstR (K:W.Frag) (H:Hp):V->VK->Prop
 | seq {a:Addr} {ys:LV} {Q:VK}:(SqL K H a ys∨SqT K H a ys)->(∀l,H l=none->Q (.ref l) (upd H l (.lst ys)))->LstR K H (.ref a) Q
 | rng {a:Addr} {n:Nat} {Q:VK}:H a=some (.rng 0 (n:Int))->n<=1000->(∀l,H l=none->Q (.ref l) (upd H l (.lst (fo n))))->LstR K H (.ref a) Q
def u0 (K:W.Frag):LV->Hp->VK->Prop:=λxs H Q=>∃x,xs=[x]/\LstR K H x Q
theorem rh (c:q.length=n) (h:∀i v, q[i]? = some v -> ∃t, v=Value.int (0+(i:Nat) * 1) t):Vals (fo n) q := by
 subst c;have b:∀(q:LW) (k:Nat), (∀i v, q[i]? = some v -> ∃t, v=Value.int (0+((k+i:Nat):Int)) t) -> Vals ((List.range' k q.length).map λi => V.int (0+(i:Nat))) q := by
  intro q
  induction q with
  | nil=>intro k _;exact .nil
  | cons u r ih =>
   intro k h;rw[xc,List.range'_succ,xr];refine .cons ?_ (ih (k+1) λi v e=>?_)
   ·obtain⟨t,e⟩:=h 0 u rfl;exact⟨t,by rw[e,Nat.add_zero]⟩
   ·obtain⟨t,a⟩:=h (i+1) v (by simpa using e);exact⟨t,by rw[a,show ((k+(i+1):Nat):Int)=((k+1+i:Nat):Int) by omega]⟩
 have:=b q 0 λi v e=>by
  obtain⟨t,a⟩:=h i v e;exact⟨t,by rw[a,Int.mul_one,Nat.zero_add]⟩
 rw[fo,List.range_eq_range'];exact this
theorem vg (K:W.Frag) (z:X.calm=true) (B:Blt X.mg) (g:PA X [e] t) (l:Gl X "list":=by rfl) (he:starEach [e] X.env=(false,eval e X.env)::starEach [] X.env:=by rfl) (hpl:(backTo pos (starEach [] X.env)).any (·.1)=false:=by rfl) (y:X.K=K:=by rfl) :
    PE X (.Call (.Name "list" p) [e] [] pos) (tCB (u0 K) t):=by
 subst y;refine fM (r:=u0 X.K) (λc s C H G w Q I r h=>?_) l B.list (show bootBuiltins "list"=some (.type "list") by decide +kernel) g (by decide) (by decide) he hpl;obtain⟨x,rfl,h⟩:=h;cases h with
 | seq hq q=>exact lG c s C H _ w Q I r ⟨_,_,rfl,hq,q⟩
 | @rng a n _ ea hn q =>
  obtain⟨u,rfl,k⟩:=cK r;cases k;obtain⟨E,J,L,f⟩:=(show ObjOk X.prog X.w H s.heap a (.rng 0 (n:Int)) from I.hok a _ ea)
  refine call_list_range (n:=n) (I.ok.hd z) f (small_one (by decide) (by decide) (by omega) (by omega)) (by rw[rangeSize_one];split <;> omega) (by omega) λF M b A D j d=>?_;have m:Vals (fo n) b.toList:=rh (by simpa using d.1) λi v e=>d.2 i v (by simpa using e);refine⟨.ref _,_,I.laid (o:=.lst (fo n)) D (wM _) ⟨?_,b.toList,A,m,by simpa using j⟩,rfl,q _ (I.hok.fresh (wM _))⟩;have:(fo n).length=n:=by simp[fo]
  rw[this];exact Nat.le_of_lt (aH hn)
theorem jK (b:X.calm=true) (B:Blt X.mg) (c:PA X [e,f] t) (a:Gl X "min":=by rfl) (he:starEach [e,f] X.env=(false,eval e X.env)::starEach [f] X.env:=by rfl) (hpl:(backTo pos (starEach [f] X.env)).any (·.1)=false:=by rfl) :
    PE X (.Call (.Name "min" p) [e,f] [] pos) (tCB (λxs H Q=>∃i j,xs=[.int i,.int j]/\Q (.int (if j<i then j else i)) H) t) :=
 dt (pq b) a B.min (show bootBuiltins "min"=some (.builtin "min") by decide +kernel) c (by decide) (by decide) he hpl
theorem vk {q:LW}{k:Nat}{x:Int}(a:x=(k:Int)) (b:k<=q.length) :
    (λxs:Array Value=>have k:=if x<0 then (x+(xs.size:Int)).toNat else min x.toNat xs.size;(xs.extract 0 k).push u++xs.extract k) q.toArray=(q.take k++u::q.drop k).toArray:=by
 subst a;simp only[xh];rw[if_neg (by omega),yq,Nat.min_eq_left b];simp[List.extract_eq_drop_take];exact xk (by rw[xu];omega)
def nG:V->LV->Hp->VK->Prop:=λx vs H Q=>∃l xs i k y,x=.ref l/\vs=[.int i,y]/\i=((k:Nat):Int)/\H l=some (.lst xs)/\k<=xs.length/\xs.length<sizeLine/\Q .non (upd H l (.lst (xs.take k++y::xs.drop k)))
theorem qi:MtR X "list.insert" nG:=by
 intro f s C H x D v J Q I j p h;obtain⟨l,E,i,k,y,rfl,rfl,g,c,L,G,q⟩:=h;cases j;obtain⟨K,d,rfl,A,u⟩:=gx p;obtain⟨t,rfl⟩:=A;obtain⟨z,a,n,r,B,e⟩:=I.lstM c;have w:a.length<=sizeLine:=by omega
 have b:Builtin.List.listFitsIndex i=true:=by
  have m:i<2 ^ 63:=by have:=gN;omega
  exact fitsIndex_both (by omega) m
 have o:=PySem.AutoSeq1.list_insert_list_int_val_1 l a.toArray n i t d (by simp[b]) (by rw[xh];exact w);refine call_meets F.slot_list_insert ⟨_,e,rfl⟩ F.entry_list_insert (F.args_list_insert_3 _ _ _) o ⟨e,?_⟩;refine⟨.non,_,I.lset (its':=a.take k++d::a.drop k) c e (vk g (by omega)) (Vals.append (r.take k) (.cons u (r.drop k))) ?_,rfl,q⟩;simp only[w6,xc,xx,xu];omega
theorem fi (K:W.Frag) (h:PE X o to) (j:PA X [e, f] t)
    (c:attributeBase o "insert" X.env (eval o X.env)=eval o X.env:=by rfl)
    (d:((backTo cpos (starEach [e,f] X.env)).all (λx=>!x.1)&&(backToKw cpos (keywordEach [] X.env)).all (λx=>x.1.isSome)
     && decide ([e,f].length+([]:List Keyword).length+(if ([]:List Keyword).isEmpty then 0 else 1)<30))=true:=by rfl)
    (b:(apos.endLine==cpos.line)=true:=by rfl) (g:starEach [e,f] X.env=(false,eval e X.env)::starEach [f] X.env:=by rfl) (a:(backTo cpos (starEach [f] X.env)).any (·.1)=false:=by rfl) (i:X.K=K:=by rfl) :
    PE X (.Call (.Attribute o "insert" apos) [e,f] [] cpos) (tBM K "list" nG to t):=i ▸ oG PySem.F.plainAttrs_list PySem.F.slot_list_insert PySem.F.type_list_insert qi h j c d b g a
end
def Nm (s:Str):Prop:=1<=s.length/\s.length<=8/\∀c∈s.cps.toList,97<=c/\c<=122
theorem Nm.asc (h:Nm s):Asc s:=λc a=>by have:=h.2.2 c a;omega
def aK (e:Str × Str):PyData:=.tuple [.str e.1,.str e.2]
section
variable {H H':Hp}
theorem Rep.tupI (h:Rep H v (.tuple ds)):∃a xs,v=.ref a/\H a=some (.tup xs)/\RepAll H xs ds:=by
 cases h with
 | tup e r=>exact⟨_,_,rfl,e,r⟩
theorem Rep.strI (h:Rep H v (.str s)):v=.str s:=by cases h;rfl
theorem RepAll.nilI (h:RepAll H xs []):xs=[]:=by cases h;rfl
theorem RepAll.consI (h:RepAll H xs (d::ds)):∃y ys,xs=y::ys/\Rep H y d/\RepAll H ys ds:=by
 cases h with
 | cons a b=>exact⟨_,_,rfl,a,b⟩
theorem RepAll.strs:∀ {xs:LV}{ss:LS},RepAll H xs (ss.map PyData.str)->xs=ss.map V.str
 | _,[],h=>by rw[h.nilI];rfl
 | _,s::ss,h=>by
  obtain⟨y,ys,rfl,a,b⟩:=RepAll.consI h;rw[a.strI,RepAll.strs b];rfl
theorem RepAll.of_strs:∀(ss:LS),RepAll H (ss.map V.str) (ss.map PyData.str)
 | []=>.nil
 | s::ss=>.cons (.str s) (RepAll.of_strs ss)
theorem RepAll.len (h:RepAll H xs ds):xs.length=ds.length:=by
 induction ds generalizing xs with
 | nil=>rw[h.nilI];rfl
 | cons d ds ih =>
  obtain⟨y,c,rfl,a,b⟩:=h.consI;simp[ih b]
theorem RepAll.get {xs:LV}{ds:List PyData}(h:RepAll H xs ds) {i:Nat}(e:xs[i]? = some x):∃d,ds[i]? = some d/\Rep H x d:=by
 induction ds generalizing xs i with
 | nil=>rw[h.nilI] at e;simp at e
 | cons d ds ih =>
  obtain⟨y,c,rfl,a,b⟩:=h.consI;cases i with
  | zero=>simp at e;subst e;exact⟨d,rfl,a⟩
  | succ i=>simpa using ih b (by simpa using e)
theorem RepAll.append (h:RepAll H xs ds) (g:RepAll H ys es):RepAll H (xs++ys) (ds++es):=by
 induction ds generalizing xs with
 | nil=>rw[h.nilI];exact g
 | cons d ds ih =>
  obtain⟨y,c,rfl,a,b⟩:=h.consI;exact .cons a (ih b)
theorem RepAll.take (h:RepAll H xs ds):∀k,RepAll H (xs.take k) (ds.take k):=by
 induction ds generalizing xs with
 | nil=>intro k;rw[h.nilI];simp;exact .nil
 | cons d ds ih =>
  obtain⟨y,c,rfl,a,b⟩:=h.consI;intro k;cases k with
  | zero=>exact .nil
  | succ k=>exact .cons a (ih b k)
theorem RepAll.drop (h:RepAll H xs ds):∀k,RepAll H (xs.drop k) (ds.drop k):=by
 induction ds generalizing xs with
 | nil=>intro k;rw[h.nilI];simp;exact .nil
 | cons d ds ih =>
  obtain⟨y,c,rfl,a,b⟩:=h.consI;intro k;cases k with
  | zero=>exact .cons a b
  | succ k=>exact ih b k
theorem ku (h:Rep H v (aK e)):∃a,v=.ref a/\H a=some (.tup [.str e.1,.str e.2]):=by
 obtain⟨a,g,rfl,b,r⟩:=Rep.tupI h;obtain⟨y,i,rfl,f,r⟩:=r.consI;obtain⟨z,j,rfl,c,r⟩:=r.consI;have d:=RepAll.nilI r;subst d;rw[f.strI,c.strI] at b;exact⟨a,rfl,b⟩
theorem bx (h:H a=some (.tup [.str s,.str t])):Rep H (.ref a) (aK (s,t)):=.tup h (.cons (.str _) (.cons (.str _) .nil))
end
end L2
namespace MG
variable {α:Type}
def ol (R:α->α->Prop):Nat->α->α->Prop
 | 0,x,y=>x=y
 | n+1,x,y=>∃z,ol R n x z/\R z y
def Rch (R:α->α->Prop) (x y:α):Prop:=∃n,ol R n x y
def Dst (R:α->α->Prop) (x:α) (d:Nat) (y:α):Prop:=ol R d x y/\∀k,k<d->¬ ol R k x y
variable {R:α->α->Prop}{x:α}
theorem Rch.refl:Rch R x x:=⟨0,rfl⟩
theorem Rch.step (h:Rch R x y) (r:R y z):Rch R x z:=by
 obtain⟨n,w⟩:=h;exact⟨n+1,y,w,r⟩
theorem Rch.closed {S:α -> Prop}(b:S x) (a:∀y z, S y -> R y z -> S z) {y:α}(h:Rch R x y):S y := by
 obtain⟨n,w⟩:=h
 induction n generalizing y with
 | zero => have:x=y := w
           subst this;exact b
 | succ n ih =>
  obtain⟨z,w,r⟩:=w;exact a z y (ih w) r
end MG
namespace L2
open PySem PySem.Spec PyProof.Rows
theorem cE (h:Nm s):PyData.canLay0 (.str s)=true:=by
 show (s.cps.all (·<0x110000))=true;rw[<- Array.all_toList,xM];intro c a;have:=h.2.2 c a;exact wQ (by omega)
theorem gQ:∀ss:LS,PyData.depthAll (ss.map PyData.str)=0
 | []=>rfl
 | s::ss=>by
  show max (PyData.depth (.str s)) (PyData.depthAll (ss.map PyData.str))=0;rw[gQ ss];rfl
theorem iI:∀(ts:LS) (k:Nat) (acc:Str), (∀t ∈ ts, t.length <= n) -> (textFrom k acc ts).length <= acc.length+ts.length * (n+2)
 | [],k,acc,_=>by show acc.length<=acc.length+0 * _;omega
 | t::r,k,acc,h=>by
  have h1:=iI r (k+1) (acc++(if k > 0 then ", " else "":String)++t) λu hu=>h u (xo _ hu);have h2:=h t (by simp);have e:(acc++(if k > 0 then ", " else "":String)++t).length<=acc.length+2+t.length:=by
   rw[bv,bv];have:(Str.ofString (if k > 0 then ", " else "":String)).length<=2:=by split <;> decide
   show acc.length+(Str.ofString (if k > 0 then ", " else "":String)).length+t.length<=_;omega
  show (textFrom (k+1) (acc++(if k > 0 then ", " else "":String)++t) r).length<=acc.length+(r.length+1) * (n+2);rw[Nat.succ_mul];omega
theorem Nm.repr (h:Nm s):(reprText s).length<=82:=by
 have:=StrLaws.reprText_len s λc a=>Nat.lt_trans (h.asc c a) (by decide);have:=h.2.1;omega
structure Shw (d:PyData):Prop where
 sh:shp d
 sb:d.showable=true
 hd:d.hasDict=false
 dp:d.depth<=16
 ln:d.shown.length<=sizeLine
theorem qL {K:W.Frag}{a:Addr}{xs:LV}{g:TG}{tb:TS}{D:Ends}{σ:St}{H:Hp}(Pv:Nat -> St -> Hp -> Prop) (d:Pv 0 σ H) (f:∀i σ H, i <= xs.length -> Pv i σ H -> SqL K H a xs)
    (c:∀i x σ H p,xs[i]? = some x->Pv i σ H->H p=none->g (.ref p) σ (upd H p (.tup [.int i,x])) λσ2 H2=>tb { D with nx:=Pv (i+1),ct:=Pv (i+1),bk:=D.nx } σ2 H2) (n:∀σ H,Pv xs.length σ H->D.nx σ H) :
    ∃W:Nat->Nat->SH,(∃m,W 0 m σ H)/\∀i m σ H,W i m σ H ->
     ((Ite K a).stop i H/\D.nx σ H)∨((Ite K a).go i H/\∃N:SH,(∀σ' H',N σ' H'->∃B,B<m/\W (i+1) B σ' H')/\∀x H',(Ite K a).yld i H x H'->g x σ H' λσ2 H2=>tb { D with nx:=N,ct:=N,bk:=D.nx } σ2 H2):=by
 refine⟨λi m σ H=>m=xs.length-i/\i<=xs.length/\Pv i σ H,⟨xs.length,by simp,xt _,d⟩,?_⟩;rintro i m σ H ⟨rfl,k,p⟩;have q:=f i σ H k p;by_cases b:i<xs.length
 ·refine .inr ⟨⟨xs,xs[i],q,by simp[b]⟩,Pv (i+1),λσ' H' j=>⟨xs.length-(i+1),by omega,rfl,b,j⟩,λx H' y=>?_⟩;obtain⟨r,z,l,rfl,h,rfl⟩:=y;exact c i z σ H r (h xs q) p l
 ·have e:i=xs.length:=by omega
  subst e;exact .inl ⟨⟨xs,q,wM _⟩,n σ H p⟩
def Tie (ts:List (Str × Str)) (a b:Str):Prop:=(a,b)∈ts
end L2
namespace MG
variable {α:Type}{R:α->α->Prop}{x:α}
def swp (es:List (Nat × Nat)):List (Nat × Nat):=es.map λe=>(e.2,e.1)
theorem mem_swp:(a,b)∈swp es ↔ (b,a)∈es:=by
 unfold swp;rw[wX]
 constructor
 ·rintro⟨⟨x,y⟩,h,e⟩;cases e;exact h
 ·intro h;exact⟨(b,a),h,rfl⟩
def Arr (es:List (Nat × Nat)) (a b:Nat):Prop:=(a,b)∈es
def To (es:List (Nat × Nat)) (goal k a:Nat):Prop:=Dst (Arr (swp es)) goal k a
variable {es:List (Nat × Nat)}{goal:Nat}
end MG
namespace MG
variable {es:List (Nat × Nat)}
def uV (es:List (Nat × Nat)) (e:Nat × Nat):Prop:=∃k,To es e.1 k e.2
end MG
namespace L2
open PySem PySem.Spec PyProof.Rows
theorem dn (s:Same H H') (h:H' b=none):H b=none:=by
 cases q:H b with
 | none=>rfl
 | some o=>rw[s _ _ q] at h;cases h
theorem bu (s:Same H H') (h:H b=none):Same H (upd H' b o):=λc d a=>by
 rw[az (aJ a h)];exact s _ _ a
theorem ap (s:Same H H') (v:PenV H p a):PenV H' p a:=let ⟨i,m,e,q⟩:=v;⟨i,m,s _ _ e,q⟩
section
variable {X:Cx}{p pos p2 pos2:Pos}{e f:Expr}{t:TA}
theorem sd {xs:LV}{us:LW}(r:Vals xs us) {j:Nat}(e:us[j]? = some u):∃x,xs[j]? = some x/\RelV x u:=by
 induction r generalizing j with
 | nil=>simp at e
 | @cons a b as bs h t ih =>
  cases j with
  | zero=>simp at e;subst e;exact⟨a,rfl,h⟩
  | succ j=>simpa using ih (by simpa using e)
end
end L2
namespace MG
section
variable {α:Type} [DecidableEq α]
def ix:List α->α->Nat
 | [],_=>0
 | a::r,x=>if a=x then 0 else ix r x+1
theorem nK (a:α) (r:List α):ix (a::r) a=0:=by show (if a=a then 0 else _)=0;rw[if_pos rfl]
theorem ng (r:List α) (h:a≠x):ix (a::r) x=ix r x+1:=by show (if a=x then 0 else _)=_;rw[if_neg h]
theorem ix_at (f:l.Nodup):∀ {i:Nat}{x:α}, l[i]? = some x -> ix l x=i := by
 induction l with
 | nil=>intro i x e;simp at e
 | cons a r ih =>
  intro i x e;have ⟨d,g⟩:=xB.mp f;cases i with
  | zero=>simp at e;subst e;exact nK a r
  | succ i =>
   have b:r[i]? = some x:=by simpa using e
   have c:=wP b;rw[ng r (λq:a=x=>d (q ▸ c)),ih g b]
theorem at_ix {l:List α}{x:α}(h:x ∈ l):l[ix l x]? = some x := by
 induction l with
 | nil=>cases h
 | cons a r ih =>
  by_cases q:a=x
  ·subst q;rw[nK];rfl
  ·rw[ng r q];rcases wY.mp h with h | h
   ·exact absurd h.symm q
   ·simpa using ih h
theorem ix_lt {l:List α}{x:α}(h:x∈l):ix l x<l.length:=(wO.mp (at_ix h)).1
theorem ix_inj {l:List α}{x y:α}(h:x∈l) (g:y∈l) (e:ix l x=ix l y):x=y:=by
 have a:=at_ix h;rw[e,at_ix g] at a;exact(wR a).symm
end
variable {es:List (Nat × Nat)}
end MG
namespace L2
open PySem PySem.Spec PyProof.Rows
open PySem.AutoSeq1 (wpAny_loadPart')
section
variable {prog:Program}{w:World}{A:Around}{E:QS}{s:Shared}
theorem oJ (e:s.heap.IsTupleIter q z i) (c:s.heap.IsTuple z B) (f:B[i]? = some y)
    (j:∀h',h'.IsTupleIter q z (i+1)->Heap.SameBut q s.heap h'->Q y { s with heap:=h' }):wpAny (model prog w) A (Builtin.SmallTypes.nextOf (.ref q)) Q E s:=by
 obtain⟨l,a,h,b⟩:=id e;obtain⟨m,d,_,k,g⟩:=c;unfold Builtin.SmallTypes.nextOf;refine wJ (wpAny_callSpecial?_slot (name:=Str.ofString "__next__") e.typeIs F.slot_tuple_iterator_next (wpAny_call_entry F.slot_tuple_iterator_next e.typeIs F.entry_tuple_iterator_next ?_ (F.args_tuple_iterator_next_1 _)));show wpAny _ _ (field (.ref q) 0 >>= _) _ _ s;refine wJ (xz a b (x:=.ref z) rfl ?_);show wpAny _ _ (if (Value.ref z==Value.none)=true then _ else _) _ _ s;rw[if_neg (show ¬ ((Value.ref z==Value.none)=true) from xq)];show wpAny _ _ (field (.ref q) 1 >>= _) _ _ s;refine wJ (xz a b (x:=.int i 0) rfl (wJ (xW d g ?_)));simp only[yq,f];refine wJ (wpAny_setField a b (by simp) (wN ⟨y,rfl,wN (j _ ?_ (Heap.SameBut.update ..))⟩));exact⟨_,Heap.get?_update_self _ a (Obj.isFreed_of_fields (Obj.data_mapFields b _)),(Obj.cls_mapFields ..).trans h,by rw[Obj.data_mapFields b];simp[rawInt]⟩
theorem oR (h:A.handled=none) (f:s.heap.IsTupleIter q z i) (c:s.heap.IsTuple z B) (j:B[i]? = none)
    (l:∀h' e,Heap.ExtBut q s.heap h'->(∃o,h'.get? e=some o/\o.cls=.type "StopIteration")->E (.ref e) { s with heap:=h' }):wpAny (model prog w) A (Builtin.SmallTypes.nextOf (.ref q)) Q E s:=by
 obtain⟨t,b,p,g⟩:=id f;obtain⟨r,d,_,n,k⟩:=c;unfold Builtin.SmallTypes.nextOf;refine wJ (wpAny_callSpecial?_slot (name:=Str.ofString "__next__") f.typeIs F.slot_tuple_iterator_next (wpAny_call_entry F.slot_tuple_iterator_next f.typeIs F.entry_tuple_iterator_next ?_ (F.args_tuple_iterator_next_1 _)));show wpAny _ _ (field (.ref q) 0 >>= _) _ _ s;refine wJ (xz b g (x:=.ref z) rfl ?_);show wpAny _ _ (if (Value.ref z==Value.none)=true then _ else _) _ _ s;rw[if_neg (show ¬ ((Value.ref z==Value.none)=true) from xq)];show wpAny _ _ (field (.ref q) 1 >>= _) _ _ s;refine wJ (xz b g (x:=.int i 0) rfl (wJ (xW d k ?_)));simp only[yq,j];refine wJ (wpAny_rule (wJ (wpAny_setField b g (by simp) ?_)));show wpAny _ _ (newExc (.type "StopIteration") [] >>= _) _ _ _;refine wJ ?_;simp only[newExc,newTuple];refine wJ (wpAny_newObj_type (wJ (m:=firstArgMember _ _) (wpAny_of_eq (a:=Value.none) (by first | rfl | (simp only[firstArgMember];rfl)) ?_)) (by size_fits));refine wpAny_newObj_type ?_ (by size_fits);simp only[raiseNew];refine wJ (wpAny_handled ?_)
 first | rw[show A.in1.handled=none from h] | rw[h]
 refine wJ (wN (wpAny_throw (l _ _ (((Heap.SameBut.update ..).extBut.push _).push _) ⟨_,xl _ rfl,rfl⟩)))
end
end L2
namespace L2
open PySem PySem.Spec PyProof.Rows
abbrev Zp (h:Heap) (z TI TO:Addr) (f0:Value) (f1:Bool):Prop:=h.get? z=some { cls:=.type "zip",dict:=none,data:=.fields #[f0,.bool f1,.bool false,.ref TI,.ref TO],slots:=#[] }
def F0 (f0:Value):Prop:=f0=.none∨∃T:Nat,f0=rawInt (T:Int)
def ItI:Bool->Heap->Addr->Addr->Nat->Prop
 | true,h,i,l,k=>h.IsTupleIter i l k
 | false,h,i,l,k=>h.IsListIter i l k
def SqI:Bool->Heap->Addr->Array Value->Prop
 | true,h,l,xs=>h.IsTuple l xs
 | false,h,l,xs=>h.IsList l xs
theorem ItI.at (j:ItI t h i l k) (f:∀o,h.get? i=some o->h'.get? i=some o):ItI t h' i l k:=by
 cases t
 ·exact Heap.IsListIter.at (h:=h) j f
 ·exact Heap.IsTupleIter.at (h:=h) j f
theorem SqI.at (j:SqI t h l xs) (f:∀o,h.get? l=some o->h'.get? l=some o):SqI t h' l xs:=by
 cases t
 ·exact Heap.IsList.at (h:=h) j f
 ·exact Heap.IsTuple.at (h:=h) j f
section
variable {prog:Program}{w:World}{A:Around}{E:QS}{s:Shared}
theorem oT (h:Q (s.heap.get? a) s):wpAny (model prog w) A (loadIfAlive a) Q E s:=λ_ _ _=>h
theorem nF {z TI TO:Addr}{B:Value}{q:Bool}(f:F0 B) (a:Zp s.heap z TI TO B q) {Q:Bool -> Shared -> Prop}(h:∀b G h', Zp h' z TI TO B G -> Heap.SameBut z s.heap h' -> Q b { s with heap := h' }) :
    wpAny (model prog w) A (Builtin.SmallTypes.ownedTupleIsFree (.ref z)) Q E s:=by
 unfold Builtin.SmallTypes.ownedTupleIsFree;rcases f with rfl | ⟨T,rfl⟩
 ·exact wJ (xz a rfl (x:=.none) rfl (wN (h true q s.heap a (Heap.SameBut.refl ..))))
 ·refine wJ (xz a rfl (x := rawInt (T:Int)) rfl ?_);refine wJ (oT ?_);cases s.heap.get? (T:Int).toNat with
  | none=>exact wN (h true q s.heap a (Heap.SameBut.refl ..))
  | some o =>
   show wpAny _ _ (field (.ref z) 1 >>= _) _ _ _;refine wJ (xz a rfl (x:=.bool q) rfl ?_);cases q with
   | true=>exact wN (h false true s.heap a (Heap.SameBut.refl ..))
   | false =>
    show wpAny _ _ (setField (.ref z) 1 (.bool true) >>= _) _ _ _;exact wJ (xX a (by simp) λe c d=>wN (h false true e c d))
theorem dM (c:ItI t s.heap q B i) (a:SqI t s.heap B z) (b:z[i]? = some y)
    (d:∀h',ItI t h' q B (i+1)->Heap.SameBut q s.heap h'->Q y { s with heap:=h' }):wpAny (model prog w) A (Builtin.SmallTypes.nextOf (.ref q)) Q E s:=by
 cases t
 ·exact wpAny_nextOf_list_item c a b d
 ·exact oJ c a b d
theorem gy (d:A.handled=none) (c:ItI t s.heap z B i) (a:SqI t s.heap B q) (b:q[i]? = none)
    (f:∀h' e,Heap.ExtBut z s.heap h'->(∃o,h'.get? e=some o/\o.cls=.type "StopIteration")->E (.ref e) { s with heap:=h' }):wpAny (model prog w) A (Builtin.SmallTypes.nextOf (.ref z)) Q E s:=by
 cases t
 ·exact wpAny_nextOf_list_end d c a b f
 ·exact oR d c a b f
theorem si {t1 t2:Bool}{z TI TO B G l1 Y:Addr}{k1 k2:Nat}{f0:Value}{f1:Bool}{xs ys:Array Value}{x y a b:Value}{Q:Value -> Shared -> Prop}(D:ZipApart z TI TO B G l1 Y) (hf:F0 f0)
    (hz:Zp s.heap z TI TO f0 f1) (a7:IsPair s.heap TI (.ref B) (.ref G)) (T:IsPair s.heap TO a b)
    (h1:ItI t1 s.heap B l1 k1) (h2:ItI t2 s.heap G Y k2) (V:SqI t1 s.heap l1 xs) (U:SqI t2 s.heap Y ys) (hx:xs[k1]? = some x) (hy:ys[k2]? = some y)
    (hQ:∀h' a0 q,F0 a0->Zp h' z TI TO a0 q->(∃a b,IsPair h' TO a b)->ItI t1 h' B l1 (k1+1)->ItI t2 h' G Y (k2+1)->IsPair h' s.heap.objs.size x y ->
     (∀c o,c≠z->c≠TO->c≠B->c≠G->s.heap.get? c=some o->h'.get? c=some o)->Q (.ref s.heap.objs.size) { s with heap:=h' }) :
    wpAny (model prog w) A (Builtin.«zip.__next__» ⟨[.ref z],[]⟩) (λa6 s'=>∃v,a6=.done (.ret v)/\Q v s') E s:=by
 show wpAny _ _ (field (.ref z) 2 >>= _) _ _ _;refine wJ (xz hz rfl (x:=.bool false) rfl ?_);show wpAny _ _ (field (.ref z) 3 >>= _) _ _ _;refine wJ (xz hz rfl (x:=.ref TI) rfl (wJ (xW a7 rfl ?_)));refine wJ (nF hf hz λa3 q N K L=>?_);have O:N.objs.size=s.heap.objs.size:=L.1;cases a3 with
 | true =>
  simp only[if_true];refine wJ (wpAny_rule ?_);refine wJ (xz (s:={ s with heap:=N }) K rfl (x:=.ref TO) rfl ?_);refine wJ (xX (s:={ s with heap:=N }) K (by simp) λg1 I a1=>?_)
  replace I:Zp g1 z TI TO .ellipsis q:=I
  refine wJ ?_;simp only[List.zipIdx_cons,List.zipIdx_nil,yi,List.forIn_nil];refine wJ (wJ (wpAny_onRaise ?_));show wpAny _ _ (Builtin.SmallTypes.nextOf (.ref B) >>= _) _ _ _;have up1:∀c o,c≠z->s.heap.get? c=some o->g1.get? c=some o:=λc o n e=>a1.extBut _ _ n (L.extBut _ _ n e);refine wJ (dM (h1.at λo e=>up1 _ o D.i1z e) (V.at λo e=>up1 _ o D.l1z e) hx λg2 j1 f=>wN ?_);have u:IsPair g2 TO a b:=f.extBut _ _ D.TOi1 (up1 _ _ D.TOz T);refine wJ (xW u rfl (wJ (wpAny_updateSeq_pair u λg3 j l=>?_)))
  replace j:IsPair g3 TO x b:=j
  refine wJ (wpAny_letGo (wN (wJ (wJ (wpAny_onRaise ?_)))));show wpAny _ _ (Builtin.SmallTypes.nextOf (.ref G) >>= _) _ _ _;have M:∀c o,c≠z->c≠B->c≠TO->s.heap.get? c=some o->g3.get? c=some o:=λc o n1 n2 n3 e=>l.extBut _ _ n3 (f.extBut _ _ n2 (up1 _ _ n1 e));refine wJ (dM (h2.at λo e=>M _ o D.i2z D.i12.symm D.TOi2.symm e) (U.at λo e=>M _ o D.l2z D.l2i1 D.l2TO e) hy λr j2 d=>wN ?_);have F:IsPair r TO x b:=d.extBut _ _ D.TOi2 j;refine wJ (xW F rfl (wJ (wpAny_updateSeq_pair F λh g i=>?_)))
  replace g:IsPair h TO x y:=g
  refine wJ (wpAny_letGo (wN (wN ?_)));refine wJ (xW g rfl (wJ (wpAny_newTuple ?_)));have H:h.objs.size=s.heap.objs.size:=by rw[i.1,d.1,l.1,f.1,a1.1,O]
  have R:Zp h z TI TO .ellipsis q:=i.extBut _ _ D.TOz.symm (d.extBut _ _ D.i2z.symm (l.extBut _ _ D.TOz.symm (f.extBut _ _ D.i1z.symm I)));have a5:ItI t1 h B l1 (k1+1):=j1.at λo e=>i.extBut _ _ D.TOi1.symm (d.extBut _ _ D.i12 (l.extBut _ _ D.TOi1.symm e));have a8:ItI t2 h G Y (k2+1):=j2.at λo e=>i.extBut _ _ D.TOi2.symm e;have a4:∀c o,c≠z->c≠TO->c≠B->c≠G->s.heap.get? c=some o->h.get? c=some o:=λc o t W P S e=>i.extBut _ _ W (d.extBut _ _ S (M _ _ t P W e));have C:z<h.objs.size:=wT R;show wpAny _ _ (Builtin.SmallTypes.ownedTupleHandOut (.ref z) (.ref h.objs.size) >>= _) _ _ _;refine wJ ?_;unfold Builtin.SmallTypes.ownedTupleHandOut;have a2:Zp (h.push { cls:=.type "tuple",data:=.seq #[x,y] }) z TI TO .ellipsis q:=xb _ R;refine wJ (xX a2 (by simp) λg7 J X=>?_)
  replace J:Zp g7 z TI TO (rawInt h.objs.size) q:=J
  refine xX J (by simp) λg8 p Z=>?_
  replace p:Zp g8 z TI TO (rawInt h.objs.size) false:=p
  have up:∀c o,c≠z->h.get? c=some o->g8.get? c=some o:=λc o t e=>Z.extBut _ _ t (X.extBut _ _ t (xb _ e));have k:IsPair g8 h.objs.size x y:=Z.extBut _ _ (Nat.ne_of_gt C) (X.extBut _ _ (Nat.ne_of_gt C) (xl _ rfl));refine wN ⟨_,rfl,?_⟩;show Q (.ref h.objs.size) _;rw[H] at p k ⊢;exact hQ g8 _ _ (.inr ⟨_,rfl⟩) p ⟨x,y,up _ _ D.TOz g⟩ (a5.at λo e=>up _ o D.i1z e) (a8.at λo e=>up _ o D.i2z e) k λc o t W P S e=>up c o t (a4 c o t W P S e)
 | false =>
  simp only[yj,if_false];refine wJ ?_;rw[<- Array.forIn_toList];simp only[yi,List.forIn_nil];refine wJ (wJ (xF ?_));show wpAny _ _ (Builtin.SmallTypes.nextOf (.ref B) >>= _) _ _ _;have up1:∀c o,c≠z->s.heap.get? c=some o->N.get? c=some o:=λc o n e=>L.extBut _ _ n e;refine wJ (dM (s:={ s with heap:=N }) (h1.at λo e=>up1 _ o D.i1z e) (V.at λo e=>up1 _ o D.l1z e) hx λg2 j1 f=>wN ?_)
  replace f:Heap.SameBut B N g2:=f
  refine wN (wJ (wJ (xF ?_)));show wpAny _ _ (Builtin.SmallTypes.nextOf (.ref G) >>= _) _ _ _;have m:∀c o,c≠z->c≠B->s.heap.get? c=some o->g2.get? c=some o:=λc o n1 n2 e=>f.extBut _ _ n2 (up1 _ _ n1 e);refine wJ (dM (h2.at λo e=>m _ o D.i2z D.i12.symm e) (U.at λo e=>m _ o D.l2z D.l2i1 e) hy λr j2 d=>wN ?_)
  replace d:Heap.SameBut G g2 r:=d
  refine wN (wN ?_);show wpAny _ _ (newTuple [x,y] >>= _) _ _ _;refine wJ (wpAny_newTuple (wN ⟨_,rfl,?_⟩));have H:r.objs.size=s.heap.objs.size:=by rw[d.1,f.1,O]
  show Q (.ref r.objs.size) _;have pu:∀c o,r.get? c=some o->(r.push { cls:=.type "tuple",data:=.seq #[x,y] }).get? c=some o:=λc o e=>xb _ e;have k:IsPair (r.push { cls:=.type "tuple",data:=.seq #[x,y] }) r.objs.size x y:=xl _ rfl;rw[H] at k ⊢;exact hQ _ _ _ hf (pu _ _ (d.extBut _ _ D.i2z.symm (f.extBut _ _ D.i1z.symm K))) ⟨a,b,pu _ _ (d.extBut _ _ D.TOi2 (m _ _ D.TOz D.TOi1 T))⟩ (j1.at λo e=>pu _ o (d.extBut _ _ D.i12 e)) (j2.at λo e=>pu _ o e) k λc o t W P S e=>pu _ _ (d.extBut _ _ S (m _ _ t P e))
theorem tN {t1 t2:Bool}{z TI TO B I l1 l2:Addr}{U O:Nat}{f0:Value}{f1:Bool}{xs ys:Array Value}{a b:Value}{Q:Fin -> Shared -> Prop}(R:A.handled=none) (D:ZipApart z TI TO B I l1 l2) (hf:F0 f0)
    (Z:Zp s.heap z TI TO f0 f1) (a0:IsPair s.heap TI (.ref B) (.ref I)) (W:IsPair s.heap TO a b)
    (P:ItI t1 s.heap B l1 U) (h2:ItI t2 s.heap I l2 O) (j:SqI t1 s.heap l1 xs) (L:SqI t2 s.heap l2 ys) (p:xs[U]? = none∨ys[O]? = none)
    (S:∀h' e,(∀c o,c≠z->c≠TO->c≠B->c≠I->s.heap.get? c=some o->h'.get? c=some o)->(∃o,h'.get? e=some o/\o.cls=.type "StopIteration")->E (.ref e) { s with heap:=h' }) :
    wpAny (model prog w) A (Builtin.«zip.__next__» ⟨[.ref z],[]⟩) Q E s:=by
 show wpAny _ _ (field (.ref z) 2 >>= _) _ _ _;refine wJ (xz Z rfl (x:=.bool false) rfl ?_);show wpAny _ _ (field (.ref z) 3 >>= _) _ _ _;refine wJ (xz Z rfl (x:=.ref TI) rfl (wJ (xW a0 rfl ?_)));refine wJ (nF hf Z λX F G H K=>?_);cases X with
 | true =>
  simp only[if_true];refine wJ (wpAny_rule ?_);refine wJ (xz (s:={ s with heap:=G }) H rfl (x:=.ref TO) rfl ?_);refine wJ (xX (s:={ s with heap:=G }) H (by simp) λg1 i a1=>?_)
  replace i:Zp g1 z TI TO .ellipsis F:=i
  refine wJ ?_;simp only[List.zipIdx_cons,List.zipIdx_nil,yi,List.forIn_nil];refine wJ (wJ (wpAny_onRaise ?_));show wpAny _ _ (Builtin.SmallTypes.nextOf (.ref B) >>= _) _ _ _;have up1:∀c o,c≠z->s.heap.get? c=some o->g1.get? c=some o:=λc o n e=>a1.extBut _ _ n (K.extBut _ _ n e);cases hx:xs[U]? with
  | none =>
   refine wJ (gy R (P.at λo e=>up1 _ o D.i1z e) (j.at λo e=>up1 _ o D.l1z e) hx λr e d t=>?_);obtain⟨T,f,h⟩:=t;have N:Zp r z TI TO .ellipsis F:=d _ _ D.i1z.symm i;have y:e≠z:=λq=>by subst q;rw[N] at f;cases f;simp at h
   exact xX N (by simp) λg3 _ g=>S g3 e (λc o l _ u _ q=>g.extBut _ _ l (d _ _ u (up1 _ _ l q))) ⟨T,g.extBut _ _ y f,h⟩
  | some x =>
   have Y:ys[O]? = none:=by rcases p with q | q;rw[hx] at q;cases q;exact q
   refine wJ (dM (P.at λo e=>up1 _ o D.i1z e) (j.at λo e=>up1 _ o D.l1z e) hx λr j1 d=>wN ?_);have m:IsPair r TO a b:=d.extBut _ _ D.TOi1 (up1 _ _ D.TOz W);refine wJ (xW m rfl (wJ (wpAny_updateSeq_pair m λg3 a2 g=>?_)));refine wJ (wpAny_letGo (wN (wJ (wJ (wpAny_onRaise ?_)))));show wpAny _ _ (Builtin.SmallTypes.nextOf (.ref I) >>= _) _ _ _;have C:∀c o,c≠z->c≠B->c≠TO->s.heap.get? c=some o->g3.get? c=some o:=λc o n1 n2 n3 e=>g.extBut _ _ n3 (d.extBut _ _ n2 (up1 _ _ n1 e));refine wJ (gy R (h2.at λo e=>C _ o D.i2z D.i12.symm D.TOi2.symm e) (L.at λo e=>C _ o D.l2z D.l2i1 D.l2TO e) Y λg4 e k t=>?_);obtain⟨T,f,h⟩:=t;have M:Zp g4 z TI TO .ellipsis F:=k _ _ D.i2z.symm (g.extBut _ _ D.TOz.symm (d.extBut _ _ D.i1z.symm i));have y:e≠z:=λq=>by subst q;rw[M] at f;cases f;simp at h
   exact xX M (by simp) λg5 _ J=>S g5 e (λc o l c2 u V q=>J.extBut _ _ l (k _ _ V (C _ _ l u c2 q))) ⟨T,J.extBut _ _ y f,h⟩
 | false =>
  simp only[yj,if_false];refine wJ ?_;rw[<- Array.forIn_toList];simp only[yi,List.forIn_nil];refine wJ (wJ (xF ?_));show wpAny _ _ (Builtin.SmallTypes.nextOf (.ref B) >>= _) _ _ _;have up1:∀c o,c≠z->s.heap.get? c=some o->G.get? c=some o:=λc o n e=>K.extBut _ _ n e;cases hx:xs[U]? with
  | none =>
   refine wJ (gy (s:={ s with heap:=G }) R (P.at λo e=>up1 _ o D.i1z e) (j.at λo e=>up1 _ o D.l1z e) hx λr e d t=>?_);exact S r e (λc o l _ u _ q=>d _ _ u (up1 _ _ l q)) t
  | some x =>
   have Y:ys[O]? = none:=by rcases p with q | q;rw[hx] at q;cases q;exact q
   refine wJ (dM (s:={ s with heap:=G }) (P.at λo e=>up1 _ o D.i1z e) (j.at λo e=>up1 _ o D.l1z e) hx λr j1 d=>wN ?_)
   replace d:Heap.SameBut B G r:=d
   refine wN (wJ (wJ (xF ?_)));show wpAny _ _ (Builtin.SmallTypes.nextOf (.ref I) >>= _) _ _ _;have v:∀c o,c≠z->c≠B->s.heap.get? c=some o->r.get? c=some o:=λc o n1 n2 e=>d.extBut _ _ n2 (up1 _ _ n1 e);refine wJ (gy R (h2.at λo e=>v _ o D.i2z D.i12.symm e) (L.at λo e=>v _ o D.l2z D.l2i1 e) Y λg4 e k t=>?_);exact S g4 e (λc o l c2 u V q=>k _ _ V (v _ _ l u q)) t
end
theorem gH (c:s.TypeIs (.ref z) "zip")
    (h:wpAny (model prog w) A.in1 (Builtin.«zip.__next__» ⟨[.ref z],[]⟩) (λB s'=>∃v,B=.done (.ret v)/\Q (some v) s') (λe s'=>(∃o,s'.heap.get? (match e with | .ref a=>a | _=>0)=some o/\o.cls=.type "StopIteration")/\(∃a,e=.ref a)/\Q none s') s) :
    wpAny (model prog w) A (pyNext (.ref z)) Q E s:=by
 unfold pyNext;refine wJ (wpAny_attempt (wpAny_callSpecial?_slot (name:=Str.ofString "__next__") c F.slot_zip_next (wpAny_call_entry F.slot_zip_next c F.entry_zip_next (xP h (λB s' ⟨v,e,q⟩=>⟨v,e,wN q⟩) λe s' q=>?_) (F.args_zip_next_1 _))));obtain⟨⟨o,d,f⟩,⟨a,rfl⟩,q⟩:=q;exact wJ (wpAny_isInstance (T:="StopIteration") (b:=true) ⟨o,d,f⟩ isSubtype_stop (wN q))
def SqK:Bool->W.Frag->Hp->Addr->LV->Prop
 | true,K,H,a,xs=>SqT K H a xs
 | false,K,H,a,xs=>SqL K H a xs
theorem ItI.obj (j:ItI t h i l k):∃o,h.get? i=some o/\∀v,o.data≠.cell v:=by
 cases t
 ·obtain⟨o,e,_,d⟩:Heap.IsListIter h i l k:=j;exact⟨o,e,λv q=>by rw[d] at q;cases q⟩
 ·obtain⟨o,e,_,d⟩:Heap.IsTupleIter h i l k:=j;exact⟨o,e,λv q=>by rw[d] at q;cases q⟩
theorem Inv.sqK (I:Inv X pins σ H s) (h:SqK t X.K H a xs):∃q:LW,Vals xs q/\SqI t s.heap a q.toArray:=by
 cases t
 ·obtain⟨q,r,p,_⟩:=I.list h;exact⟨q,r,p.isList⟩
 ·obtain⟨q,r,p,_⟩:=I.tuple h;exact⟨q,r,p⟩
theorem Inv.sqK_inj (I:Inv X pins σ H s) (h:SqK t X.K H a xs) (h':SqK t X.K H a ys):xs=ys:=by
 cases t
 ·exact I.list_inj h h'
 ·exact I.tuple_inj h h'
def Itg (t1 t2:Bool) (K:W.Frag) (a b:Addr):It :=
 ⟨λi H=>∃xs ys x y,SqK t1 K H a xs/\SqK t2 K H b ys/\xs[i]? = some x/\ys[i]? = some y,
  λi H v H'=>∃p x y,H p=none/\v=.ref p/\(∀xs,SqK t1 K H a xs->xs[i]? = some x)/\(∀ys,SqK t2 K H b ys->ys[i]? = some y)/\H'=upd H p (.tup [x,y]),
  λi H=>∃xs ys,SqK t1 K H a xs/\SqK t2 K H b ys/\(xs.length<=i∨ys.length<=i)⟩
theorem kX {t1 t2:Bool}{P:Program}{w:World}{K:W.Frag}{nm:Str}{tp:Pos}(a b z TI TO i1 i2:Addr) (D:ZipApart z TI TO i1 i2 a b) :
    Turn P w K (.Name nm tp) (Itg t1 t2 K a b) [z,TI,TO,i1,i2] z (λi h=>(∃f0 f1,F0 f0/\Zp h z TI TO f0 f1)/\IsPair h TI (.ref i1) (.ref i2)/\(∃c d,IsPair h TO c d)/\ItI t1 h i1 a i/\ItI t2 h i2 b i) where
 mem:=by simp
 obj:=λi h st c hc=>by
  obtain⟨⟨f0,f1,_,hz⟩,hTI,⟨u,v,hTO⟩,h1,h2⟩:=st;obtain⟨o1,e1,d1⟩:=h1.obj;obtain⟨o2,e2,d2⟩:=h2.obj;have hc:c=z∨c=TI∨c=TO∨c=i1∨c=i2:=by simpa using hc
  rcases hc with rfl | rfl | rfl | rfl | rfl
  ·exact⟨_,hz,λv q=>by cases q⟩
  ·exact⟨_,hTI,λv q=>by cases q⟩
  ·exact⟨_,hTO,λv q=>by cases q⟩
  ·exact⟨_,e1,d1⟩
  ·exact⟨_,e2,d2⟩
 keep:=λi h h' st k=>by
  obtain⟨⟨f0,f1,hf,hz⟩,hTI,⟨u,v,hTO⟩,h1,h2⟩:=st;exact⟨⟨f0,f1,hf,k z (by simp) _ hz⟩,k TI (by simp) _ hTI,⟨u,v,k TO (by simp) _ hTO⟩,h1.at λo e=>k i1 (by simp) o e,h2.at λo e=>k i2 (by simp) o e⟩
 item := by
  intro X hP hw hK hc i pins s σ H E I hf st hg;subst hP hw hK;obtain⟨⟨f0,f1,hf0,hz⟩,hTI,⟨ta,tb,hTO⟩,h1,h2⟩:=st;obtain⟨xs,ys,x,y,hqa,hqb,hx,hy⟩:=hg;obtain⟨its,rv,pa⟩:=I.sqK hqa;obtain⟨jts,rw',pb⟩:=I.sqK hqb;obtain⟨u,hu,ru⟩:=rv.get hx;obtain⟨v,hv,rv'⟩:=rw'.get hy;refine gH ⟨_,hz,rfl⟩ (si D hf0 hz hTI hTO h1 h2 pa pb (x:=u) (y:=v) (by simpa using hu) (by simpa using hv) λh' f0' f1' hf' hz' hTO' j1 j2 hpr k=>⟨_,rfl,?_⟩);refine wN (s:={ s with heap:=h' }) ?_;have hp:H s.heap.objs.size=none:=I.hok.fresh (wM _);have fr:∀c∈[z,TI,TO,i1,i2],H c=none:=λc hc=>(hf c hc).1;have nit:∀c o,H c=some o->c≠z/\c≠TO/\c≠i1/\c≠i2:=λc o q=>by refine⟨?_,?_,?_,?_⟩ <;> (intro e;rw[e,fr _ (by simp)] at q;cases q)
  have up:∀c o,H c=some o->upd H s.heap.objs.size (.tup [x,y]) c=some o:=λc o q=>by rw[az (aJ q hp)];exact q
  have kk:∀c o,c∉[z,TO,i1,i2]->s.heap.get? c=some o->h'.get? c=some o:=λc o n q=>k c o (λe=>n (by simp[e])) (λe=>n (by simp[e])) (λe=>n (by simp[e])) (λe=>n (by simp[e])) q;have mem5:∀c∈[z,TO,i1,i2],c∈[z,TI,TO,i1,i2]:=λc hc=>by simp at hc ⊢;rcases hc with e | e | e | e <;> simp[e]
  have hlt:∀c∈[z,TI,TO,i1,i2],c<s.heap.objs.size:=λc hc=>by
   have hc:c=z∨c=TI∨c=TO∨c=i1∨c=i2:=by simpa using hc
   rcases hc with rfl | rfl | rfl | rfl | rfl
   ·exact wT hz
   ·exact wT hTI
   ·exact wT hTO
   ·obtain⟨o,e,_⟩:=h1.obj;exact wT e
   ·obtain⟨o,e,_⟩:=h2.obj;exact wT e
  have I1:Inv X pins σ (upd H s.heap.objs.size (.tup [x, y])) { s with heap := h', gens := s.gens, drawn := s.drawn, toks := s.toks } := by
   refine I.step (g':=s.gens) (d':=s.drawn) (ch:=[z,TO,i1,i2]) (λc hc=>?_) (λc o _ _ n q _=>kk c o n q) (λc o _ _ n q _=>⟨o.slots,kk c o n q⟩) (λc o _ q n=>?_) (λc o n q=>⟨o,kk c o n q⟩) (λc ys q=>up c _ q) (λc o v q=>up c _ q) (λc ps q=>⟨#[],by rw[up c _ q];simp⟩) (λm hm=>?_) (λc o q=>?_) I.bare
   ·obtain⟨_,g1,_,g3,g4,g5⟩:=hf c (mem5 c hc);exact⟨g3,g1,g4,g5⟩
   ·rw[az (xm (wT q))];exact n
   ·obtain⟨o,es,ep,ho,r⟩:=hm;refine⟨o,es,ep,kk _ o (λn=>?_) ho,r⟩;exact(hf _ (mem5 _ n)).2.1 rfl
   ·by_cases hb:c=s.heap.objs.size
    ·subst hb;rw[aj] at q;have q':HO.tup [x,y]=o:=wR q;subst q';exact⟨by show 2<=sizeLine;decide,[u,v],.cons ru (.cons rv' .nil),⟨_,hpr,rfl,_,rfl,rfl⟩⟩
    ·rw[az hb] at q;refine(I.hok c o q).stay (λd o' hd q'=>?_) (λd q=>up d _ q) λd ys q=>up d _ q;rcases hd with e | e
     ·rw[e] at q' ⊢;obtain⟨n1,n2,n3,n4⟩:=nit c o q;exact k c o' n1 n2 n3 n4 q'
     ·obtain⟨n1,n2,n3,n4⟩:=nit d _ e;exact k d o' n1 n2 n3 n4 q'
  refine⟨.ref s.heap.objs.size,upd H s.heap.objs.size (.tup [x,y]),I1,rfl,⟨_,x,y,hp,rfl,λzs hz=>by rw[I.sqK_inj hz hqa];exact hx,λzs hz=>by rw[I.sqK_inj hz hqb];exact hy,rfl⟩,⟨⟨f0',f1',hf',hz'⟩,?_,hTO',j1,j2⟩,λc hc=>?_⟩
  ·exact k TI _ D.TIz D.TITO D.TIi1 D.TIi2 hTI
  ·rw[az (xm (hlt c hc))];exact fr c hc
 done:=by
  intro X hP hw hK hc i pins s σ H E I hf st hg;subst hP hw hK;obtain⟨⟨f0,f1,hf0,hz⟩,hTI,⟨ta,tb,hTO⟩,h1,h2⟩:=st;obtain⟨xs,ys,hqa,hqb,hxy⟩:=hg;obtain⟨its,rv,pa⟩:=I.sqK hqa;obtain⟨jts,rw',pb⟩:=I.sqK hqb;have l1:=rv.length;have l2:=rw'.length;have hend:its.toArray[i]? = none∨jts.toArray[i]? = none:=by
   rcases hxy with q | q
   ·exact .inl (by simp;omega)
   ·exact .inr (by simp;omega)
  refine gH ⟨_,hz,rfl⟩ (tN (A:=X.A.in1) (show X.A.in1.handled=none from I.ok.hd hc) D hf0 hz hTI hTO h1 h2 pa pb hend λh' e k he=>⟨he,⟨e,rfl⟩,rfl,?_⟩);have fr:∀c∈[z,TI,TO,i1,i2],H c=none:=λc hc=>(hf c hc).1;have nit:∀c o,H c=some o->c≠z/\c≠TO/\c≠i1/\c≠i2:=λc o q=>by refine⟨?_,?_,?_,?_⟩ <;> (intro e;rw[e,fr _ (by simp)] at q;cases q)
  have kk:∀c o,c∉[z,TO,i1,i2]->s.heap.get? c=some o->h'.get? c=some o:=λc o n q=>k c o (λe=>n (by simp[e])) (λe=>n (by simp[e])) (λe=>n (by simp[e])) (λe=>n (by simp[e])) q;have mem5:∀c∈[z,TO,i1,i2],c∈[z,TI,TO,i1,i2]:=λc hc=>by simp at hc ⊢;rcases hc with e | e | e | e <;> simp[e]
  refine I.step (h':=h') (g':=s.gens) (d':=s.drawn) (t':=s.toks) (ch:=[z,TO,i1,i2]) (λc hc=>?_) (λc o _ _ n q _=>kk c o n q) (λc o _ _ n q _=>⟨o.slots,kk c o n q⟩) (λc o _ q n=>n) (λc o n q=>⟨o,kk c o n q⟩) (λc ys q=>q) (λc o v q=>q) (λc ps q=>⟨#[],by rw[q];simp⟩) (λm hm=>?_) (λc o q=>?_) I.bare
  ·obtain⟨_,g1,_,g3,g4,g5⟩:=hf c (mem5 c hc);exact⟨g3,g1,g4,g5⟩
  ·obtain⟨o,es,ep,ho,r⟩:=hm;refine⟨o,es,ep,kk _ o (λn=>?_) ho,r⟩;exact(hf _ (mem5 _ n)).2.1 rfl
  ·refine(I.hok c o q).stay (λd o' hd q'=>?_) (λd q=>q) λd ys q=>q;rcases hd with e | e
   ·rw[e] at q' ⊢;obtain⟨n1,n2,n3,n4⟩:=nit c o q;exact k c o' n1 n2 n3 n4 q'
   ·obtain⟨n1,n2,n3,n4⟩:=nit d _ e;exact k d o' n1 n2 n3 n4 q'
 self:=λA i s Q E st h=>by
  obtain⟨⟨f0,f1,hf0,hz⟩,_⟩:=st;have hT:s.TypeIs (.ref z) "zip":=⟨_,hz,rfl⟩
  refine wpAny_pyIter_slot hT F.slot_zip_iter (wpAny_call_entry F.slot_zip_iter hT F.entry_zip_iter ?_ (F.args_zip_iter_1 _));show wpAny _ _ (ret (.ref z)) _ _ s;exact wN ⟨_,rfl,"zip",_,hT,F.slot_zip_next.lookup,h⟩
def Itz (K:W.Frag) (a b:Addr):It :=
 ⟨λi H=>∃xs ys x y,SqL K H a xs/\SqL K H b ys/\xs[i]? = some x/\ys[i]? = some y,
  λi H v H'=>∃p x y,H p=none/\v=.ref p/\(∀xs,SqL K H a xs->xs[i]? = some x)/\(∀ys,SqL K H b ys->ys[i]? = some y)/\H'=upd H p (.tup [x,y]),
  λi H=>∃xs ys,SqL K H a xs/\SqL K H b ys/\(xs.length<=i∨ys.length<=i)⟩
theorem rF {P:Program}{w:World}{K:W.Frag}{nm:Str}{tp:Pos}(a b z TI TO f e:Addr) (D:ZipApart z TI TO f e a b) :
    Turn P w K (.Name nm tp) (Itz K a b) [z,TI,TO,f,e] z (λi h=>(∃q B,F0 q/\Zp h z TI TO q B)/\IsPair h TI (.ref f) (.ref e)/\(∃c d,IsPair h TO c d)/\h.IsListIter f a i/\h.IsListIter e b i) :=
 kX (t1:=false) (t2:=false) a b z TI TO f e D
def uy (K:W.Frag) (ta:TA):TI:=λσ H R=>ta σ H λvs H1=>∃a b xs ys,vs=[.ref a,.ref b]/\SqL K H1 a xs/\SqL K H1 b ys/\R (Itz K a b) H1
theorem pE (K:W.Frag) {X:Cx}{nm:Str}{tp:Pos}{a b:Expr}{ta:TA}{p pos:Pos}(Q:Gl X "zip") (M:X.mg "zip"=none) (D:PA X [a,b] ta) (L:starEach [a,b] X.env=(false,eval a X.env)::starEach [b] X.env:=by rfl) (hpl:(backTo pos (starEach [b] X.env)).any (·.1)=false:=by rfl) (Z:X.K=K:=by rfl) :
    PI X (.Name nm tp) (.Call (.Name "zip" p) [a,b] [] pos) (uy K ta):=by
 subst Z;intro k s G H R I h;refine Call_ (fL I Q M (show bootBuiltins "zip"=some (.type "zip") by decide +kernel) (PyProof.Rows.callWith_type1 (thn (D pos k s G H _ I h) λus f ⟨vs,C,j,r,V⟩=>?_) L hpl));obtain⟨v,n,xs,ys,e,o,l,q⟩:=V;subst e;obtain⟨u1,u2,rfl,r,J⟩:=gx r;cases r;cases J;obtain⟨U,rv,A,_⟩:=j.list o;obtain⟨E,N,B,_⟩:=j.list l;have S:v<f.heap.objs.size:=by obtain⟨_,e,_⟩:=A.isList;exact wT e
 have F:n<f.heap.objs.size:=by obtain⟨_,e,_⟩:=B.isList;exact wT e
 refine call_zip_2 A.isList B.isList λg O x m u y _ Y=>?_;have T:=rF (P:=X.prog) (w:=X.w) (K:=X.K) (nm:=nm) (tp:=tp) v n _ _ _ _ _ (zipApart_new S F);have z:(∃f0 f1,F0 f0/\Zp g (f.heap.objs.size+4) (f.heap.objs.size+2) (f.heap.objs.size+3) f0 f1)/\IsPair g (f.heap.objs.size+2) (.ref f.heap.objs.size) (.ref (f.heap.objs.size+1))/\(∃c d,IsPair g (f.heap.objs.size+3) c d)/\g.IsListIter f.heap.objs.size v 0/\g.IsListIter (f.heap.objs.size+1) n 0:=⟨⟨_,_,.inl rfl,O⟩,x,⟨_,_,m⟩,u,y⟩
 refine T.self X.A 0 { f with heap:=g } _ _ z ?_;refine⟨_,_,_,_,C,rfl,j.kept (t':=f.toks) Y,T,z,λb t=>?_,q⟩;have t:b=f.heap.objs.size+4∨b=f.heap.objs.size+2∨b=f.heap.objs.size+3∨b=f.heap.objs.size∨b=f.heap.objs.size+1:=by simpa using t
 have i:f.heap.objs.size<=b:=by rcases t with e | e | e | e | e <;> rw[e] <;> first | exact wM _ | exact Nat.le_add_right _ _
 exact j.fpOk i (j.hok.fresh i)
theorem qX {K:W.Frag}{k:Nat}{fr:List Nat}{g:TG}{tc:TT}{te:TE}{σ:St}{H1:Hp}{Q:VK}{a b:Addr}(xs ys:LV) (d:Addr -> Nat -> LV -> St -> Hp -> Prop)
    (h:∀D,H1 D=none->d D 0 [] (cS k fr σ) (upd H1 D (.lst []))/\(∀i z σ' H',i<=(xs.zip ys).length->d D i z σ' H'->H' D=some (.lst z)->SqL K H' a xs/\SqL K H' b ys) /\
     (∀i z σ' H' x y p,(xs.zip ys)[i]? = some (x,y)->d D i z σ' H'->H' D=some (.lst z)->H' p=none->g (.ref p) σ' (upd H' p (.tup [x,y])) λσ2 I=>tc σ2 I λb B =>
      if b=true then te σ2 B λy G=>G D=some (.lst z)/\z.length<sizeLine/\d D (i+1) (z++[y]) σ2 (upd G D (.lst (z++[y]))) else B D=some (.lst z)/\d D (i+1) z σ2 B) /\
     ∀z σ' H',d D (xs.zip ys).length z σ' H'->H' D=some (.lst z)->Q (.ref D) H'):cr k fr g tc te (Itz K a b) σ H1 Q:=by
 intro D J;obtain⟨C,l,u,t⟩:=h D J;refine⟨λi m z σ' H'=>m=(xs.zip ys).length-i/\i<=(xs.zip ys).length/\d D i z σ' H',⟨(xs.zip ys).length,by simp,xt _,C⟩,?_⟩;rintro i m z σ' H' ⟨rfl,s,p⟩ c;obtain⟨f,j⟩:=l i z σ' H' s p c;have L:(xs.zip ys).length=min xs.length ys.length:=xD;by_cases n:i<(xs.zip ys).length
 ·refine .inr ⟨⟨xs,ys,xs[i]'(by omega),ys[i]'(by omega),f,j,by simp,by simp⟩,d D (i+1),λo σ2 H E=>⟨(xs.zip ys).length-(i+1),by omega,rfl,n,E⟩,λv H r=>?_⟩;obtain⟨q,x,y,F,rfl,A,w,rfl⟩:=r;refine u i z σ' H' x y q ?_ p c F;rw[xv];exact⟨A xs f,w ys j⟩
 ·have e:i=(xs.zip ys).length:=by omega
  subst e;exact .inl ⟨⟨xs,ys,f,j,by omega⟩,t z σ' H' p c⟩
def lz (c:Nat):Bool:=decide (97<=c)&&decide (c<=122)
def uE:V->Bool
 | .str z=>decide (1<=z.length)&&(decide (z.length<=8)&&z.cps.toList.all lz)
 | _=>false
theorem isNm_iff:uE (.str z)=true ↔ Nm z:=by
 show (decide (1<=z.length)&&(decide (z.length<=8)&&z.cps.toList.all lz))=true ↔ _;rw[xC,xC,decide_eq_true_iff,decide_eq_true_iff,xM];unfold Nm
 constructor
 ·rintro⟨a,e,d⟩;refine⟨a,e,λc b=>?_⟩;have h:=d c b;unfold lz at h;rw[xC,decide_eq_true_iff,decide_eq_true_iff] at h;exact h
 ·rintro⟨a,e,d⟩;refine⟨a,e,λc b=>?_⟩;unfold lz;rw[xC,decide_eq_true_iff,decide_eq_true_iff];exact d c b
section
variable {X:Cx}{p pos p2 pos2:Pos}{e f:Expr}{t:TA}
inductive IntR (H:Hp):V->VK->Prop
 | int {i:Int} {Q:VK}:Q (.int i) H->IntR H (.int i) Q
 | bl {b:Bool} {Q:VK}:Q (.int (if b then 1 else 0)) H->IntR H (.bl b) Q
theorem oy (B:Blt X.mg) (f:PA X [e] t) (d:Gl X "int":=by rfl) (he:starEach [e] X.env=(false,eval e X.env)::starEach [] X.env:=by rfl) (hpl:(backTo pos (starEach [] X.env)).any (·.1)=false:=by rfl) :
    PE X (.Call (.Name "int" p) [e] [] pos) (tCB (λxs H Q=>∃x,xs=[x]/\IntR H x Q) t):=by
 refine fM (r:=λxs H Q=>∃x,xs=[x]/\IntR H x Q) (λa s c H xs b Q I r h=>?_) d B.int PyProof.Rows.boot_int f (by decide) (by decide) he hpl;obtain⟨x,rfl,h⟩:=h;cases h with
 | int q=>exact kS a s c H _ b Q I r (.inl ⟨_,rfl,q⟩)
 | bl q=>exact kS a s c H _ b Q I r (.inr ⟨_,rfl,q⟩)
theorem ut (B:Blt X.mg) (a:Gl X "tuple":=by rfl):PE X (.Name "tuple" p) (tC (.ty "tuple")):=kd a B.tuple (show bootBuiltins "tuple"=some (.type "tuple") by decide +kernel) rfl
end
section
variable {X:Cx}{p pos:Pos}{e:Expr}{t:TA}
def wv:LV->Hp->VK->Prop:=λxs H Q=>∃a kvs,xs=[V.ref a]/\H a=some (.dK kvs)/\Q (.int kvs.length) H
theorem uw (B:Blt X.mg) (b:PA X [e] t) (a:Gl X "len":=by rfl) (he:starEach [e] X.env=(false,eval e X.env)::starEach [] X.env:=by rfl) (hpl:(backTo pos (starEach [] X.env)).any (·.1)=false:=by rfl):PE X (.Call (.Name "len" p) [e] [] pos) (tCB wv t) :=
 dt pV a B.len PySem.boot_len b (by decide) (by decide) he hpl
end
end L2
namespace L2
open PySem PySem.Spec PyProof.Rows PySem.Builtin PySem.Builtin.Str
theorem tU (i j n:Nat):(strSliceIndices (some (i:Int)) (some (j:Int)) 1 n).length<=j-i:=by
 unfold strSliceIndices sliceRange;simp only[show (1:Int) > 0 by decide,if_true,wK,xS]
 split <;> (try simp only[Int.ediv_one]) <;> (repeat' split) <;> (try simp only[wK,xS,Int.ediv_one,List.length_nil]) <;> omega
theorem il (z:Str) (i j:Nat):(Txt.slice z (some (i:Int)) (some (j:Int))).length<=j-i:=by
 unfold Txt.slice;have h:=tU i j z.length
 split
 ·rename_i q
  have q:(strSliceIndices (some (i:Int)) (some (j:Int)) 1 z.length).length=z.length:=by simpa using q
  omega
 ·show (List.filterMap _ _).toArray.size<=_;rw[xh];exact wV (yB _ _) h
theorem gf {z:Str}{j:Nat}(h:j<=z.length):(Txt.slice z none (some (j:Int))).length=j:=by
 have e:Txt.slice z none (some (j:Int))=StrLaws.sliceText z none (some (j:Int)):=rfl;rw[e,StrLaws.sliceText_to ⟨by omega,by simp[Str.length] at h ⊢;omega⟩];show (List.take _ _).toArray.size=j;rw[xh];simp[Str.length] at h ⊢;omega
theorem kO (z:Str) (j:Nat):(Txt.slice z none (some (j:Int))).length<=j:=by
 by_cases h:j<=z.length
 ·exact Nat.le_of_eq (gf h)
 ·exact wV (Txt.slice_le z _ _) (by omega)
theorem uf (h:(x++⟨#[c]⟩++y:Str)=x++⟨#[d]⟩++y):c=d:=by
 have h:(x.cps++#[c]++y.cps).toList=(x.cps++#[d]++y.cps).toList:=congrArg (λs:Str=>s.cps.toList) h;simp only[Array.toList_append,List.append_assoc,List.append_cancel_left_eq] at h;simpa using h
theorem ro (h:(x++⟨#[c]⟩++⟨#[d]⟩++y:Str)=x++⟨#[q]⟩++⟨#[d']⟩++y):c=q/\d=d':=by
 have h:(x.cps++#[c]++#[d]++y.cps).toList=(x.cps++#[q]++#[d']++y.cps).toList:=congrArg (λs:Str=>s.cps.toList) h;simp only[Array.toList_append,List.append_assoc,List.append_cancel_left_eq] at h;simpa using h
def Lo (t:Str):Prop:=∀x∈t.cps.toList,97<=x/\x<=122
theorem Lo.nil:Lo "":=λc a=>by
 have a:c∈("":Str).cps.toList:=a;rw[show ("":Str).cps.toList=[] by decide +kernel] at a;cases a
theorem Lo.one (h:97<=c/\c<=122):Lo ⟨#[c]⟩:=λd a=>by
 have:d=c:=by simpa using a
 omega
theorem Lo.app (d:Lo x) (b:Lo y):Lo (x++y):=λc a=>by
 have a:c∈(x.cps++y.cps).toList:=a;rw[Array.toList_append] at a;rcases w8.mp a with h | h
 ·exact d c h
 ·exact b c h
theorem Lo.slice (h:Lo x) (l u:Option Int):Lo (Txt.slice x l u):=by
 unfold Txt.slice
 split
 ·exact h
 ·intro c a;have a:c∈(List.filterMap (x.cps[·]?) (strSliceIndices l u 1 x.length)).toArray.toList:=a;rw[List.toList_toArray] at a;obtain⟨i,_,e⟩:=xQ.mp a;exact h c (by simpa using Array.mem_of_getElem? e)
theorem Lo.joinS (hs:Lo sep):∀ {ys:LS},(∀y∈ys,Lo y)->Lo (Str.join sep ys)
 | [],_=>λc hc=>by
  have hc:c∈(#[]:Array Nat).toList:=hc;simp at hc
 | [y],h=>h y (by simp)
 | y::z::r,h=>by
  show Lo (y++sep++Str.join sep (z::r));exact((h y (by simp)).app hs).app (Lo.joinS hs λx hx=>h x (xo _ hx))
theorem Lo.join (a:Lo q) (h:∀y∈ys,Lo y):Lo (Txt.join q ys):=by
 unfold Txt.join;rw[StrLaws.glued_eq_join];exact Lo.joinS a h
theorem Lo.nm (h:Lo z) (a:1<=z.length) (b:z.length<=8):Nm z:=⟨a,b,h⟩
def abc (j:Int):Str:=⟨#[97+j.toNat]⟩
theorem jL (b:0<=j) (a:j<26):Lo (abc j):=Lo.one (by omega)
theorem dz (j:Int):(abc j).length=1:=rfl
theorem lH (b:0<=j) (c:j<26):atI ("abcdefghijklmnopqrstuvwxyz":Str).cps.toList j=some (97+j.toNat):=by
 obtain⟨k,rfl⟩:=xj b;have a:k<26:=by omega
 exact(by decide +kernel:∀k:Nat,k<26->atI ("abcdefghijklmnopqrstuvwxyz":Str).cps.toList (k:Int)=some (97+(k:Int).toNat)) k a
theorem qV (h:∀y∈ys,y.length=1):(Txt.join "" ys).length=ys.length:=by
 have b:("":Str).length=0:=by decide +kernel
 unfold Txt.join;rw[size_glued,b,Nat.mul_zero,Nat.add_zero]
 induction ys with
 | nil=>rfl
 | cons y r ih =>
  have c:=h y (by simp);have d:=ih λz a=>h z (xo _ a);simp only[xr,List.sum_cons,xc];omega
theorem hF (f:Nat->α) (m:Nat) (h:∀i j,i<j->j<m->f i≠f j):((List.range m).map f).Nodup:=by
 rw[List.nodup_iff_pairwise_ne,List.pairwise_map];refine List.Pairwise.imp_of_mem ?_ (List.pairwise_lt_range (n:=m));intro a b e d c;exact h a b c (List.mem_range.mp d)
theorem eY (f:Nat->α) (i:Nat):(List.range (i+1)).map f=(List.range i).map f++[f i]:=by rw[List.range_succ,wZ];rfl
theorem jw (h:x∈(List.range m).map f):∃i,i<m/\x=f i:=by
 obtain⟨i,a,e⟩:=wX.mp h;exact⟨i,List.mem_range.mp a,e.symm⟩
theorem rZ (a:LS) (c:a.Nodup) (d:i<a.length) (b:j<a.length) (h:a.getD i ""=a.getD j ""):i=j:=by
 rw[xE,xE,wS d,wS b] at h;exact(List.getElem_inj c).mp h
theorem cu:starEach (.Constant c j p::es) env=(false,eval (.Constant c j p) env)::starEach es env:=rfl
end L2
namespace L2
open PySem PySem.Spec PyProof.Rows
def SqA (H:Hp) (a:Addr) (xs:LV):Prop:=H a=some (.lst xs)∨H a=some (.tup xs)
theorem SqA.same (h:SqA H a xs) (s:Same H H'):SqA H' a xs:=by
 rcases h with h | h
 ·exact .inl (s _ _ h)
 ·exact .inr (s _ _ h)
theorem gb:∀ds:List PyData,PyData.shownAll ds=ds.map PyData.shown
 | []=>rfl
 | d::ds=>by
  show PyData.shown d::PyData.shownAll ds=_;rw[gb ds];rfl
structure Sw (d:PyData) (n k:Nat):Prop where
 lay:d.canLay0=true
 sb:d.showable=true
 dp:d.depth<=k
 ln:d.shown.length<=n
theorem Sw.mono (h:Sw d n k) (a:n<=q) (b:k<=z):Sw d q z:=⟨h.lay,h.sb,wV h.dp b,wV h.ln a⟩
theorem Sw.all:∀ {ds:List PyData}, (∀d ∈ ds, Sw d n k) -> PyData.canLayAll0 ds=true /\ PyData.showableAll ds=true /\ PyData.depthAll ds <= k
 | [],_=>⟨rfl,rfl,xt _⟩
 | d::ds,h=>by
  obtain⟨a,b,c⟩:=Sw.all λx hx=>h x (xo _ hx);have q:=h d (by simp);refine⟨?_,?_,?_⟩
  ·show (PyData.canLay0 d&&PyData.canLayAll0 ds)=true;rw[q.lay,a];rfl
  ·show (PyData.showable d&&PyData.showableAll ds)=true;rw[q.sb,b];rfl
  ·show max (PyData.depth d) (PyData.depthAll ds)<=k;have:=q.dp;omega
theorem Sw.list (h:∀d∈ds,Sw d n k):Sw (.list ds) (2+ds.length * (n+2)) (k+1):=by
 obtain⟨a,b,c⟩:=Sw.all h;refine⟨a,b,(by show PyData.depthAll ds+1<=k+1;omega),?_⟩;show (listText (PyData.shownAll ds)).length<=_;rw[gb];have f:=iI (n:=n) (ds.map PyData.shown) 0 "[" λt i=>by
  obtain⟨e,g,rfl⟩:=wX.mp i;exact(h e g).ln
 rw[wK] at f;have j:(Str.ofString "[").length=1:=rfl;have l:(Str.ofString "]").length=1:=rfl;have f:(textFrom 0 (Str.ofString "[") (ds.map PyData.shown)).length<=(Str.ofString "[").length+ds.length * (n+2):=f;show (textFrom 0 "[" (ds.map PyData.shown)++"]").length<=_;rw[bv];show (textFrom 0 (Str.ofString "[") (ds.map PyData.shown)).length+(Str.ofString "]").length<=_;omega
theorem Sw.shw (h:Sw d n k) (c:k<=16) (b:n<=sizeLine):Shw d:=by
 have a:shp d:=by
  show (PyData.canLay0 d&&decide (PyData.depth d<=64))=true;have:=h.dp;rw[h.lay,wQ (by omega)];rfl
 exact⟨a,h.sb,PyData.hasDict_of_canLay _ (SeqAt.canLay_of_shaped a),wV h.dp c,wV h.ln b⟩
theorem Sw.nm (h:Nm s):Sw (.str s) 82 0:=⟨cE h,rfl,wM 0,h.repr⟩
theorem mX:∀(ts:LS),(∀t∈ts,t.length<=n)->(Str.join ", " ts).length<=ts.length * (n+2)
 | [],_=>xt _
 | [y],h=>by
  have:=h y (by simp);show y.length<=1 * (n+2);omega
 | y::z::r,h=>by
  have h1:=mX (z::r) λt ht=>h t (xo _ ht);have h2:=h y (by simp);have h3:(Str.ofString ", ").length=2:=rfl;show (y++", "++Str.join ", " (z::r)).length<=((z::r).length+1) * (n+2);rw[bv,bv,Nat.succ_mul];show y.length+(Str.ofString ", ").length+_<=_;omega
theorem Sw.tuple (h:∀d∈ds,Sw d n k):Sw (.tuple ds) (3+ds.length * (n+2)) (k+1):=by
 obtain⟨a,b,c⟩:=Sw.all h;refine⟨a,b,(by show PyData.depthAll ds+1<=k+1;omega),?_⟩;show (tupleText (PyData.shownAll ds)).length<=_;rw[gb];have f:=mX (n:=n) (ds.map PyData.shown) λt i=>by
  obtain⟨e,g,rfl⟩:=wX.mp i;exact(h e g).ln
 rw[wK] at f;have l:(Str.ofString "(").length=1:=rfl;have j:∀b:Bool,(Str.ofString (if b then ",)" else ")":String)).length<=2:=by intro b;cases b <;> decide
 show (("(":Str)++Str.join ", " (ds.map PyData.shown)++(if (ds.map PyData.shown).length==1 then ",)" else ")":String)).length<=_;rw[bv,bv];have m:=j ((ds.map PyData.shown).length==1);show (Str.ofString "(").length+_+(Str.ofString (if (ds.map PyData.shown).length==1 then ",)" else ")":String)).length<=_;omega
theorem Sw.pair (b:Nm e.1) (c:Nm e.2):Sw (aK e) 171 1:=Sw.tuple (n:=82) (k:=0) (ds:=[.str e.1,.str e.2]) (λd a=>by
 rcases wY.mp a with rfl | a
 ·exact Sw.nm b
 ·rw[xa.mp a];exact Sw.nm c)
def vh (b:Bool) (ds:List PyData):PyData:=if b then .list ds else .tuple ds
theorem Sw.seq (b:Bool) (h:∀d∈ds,Sw d n k) (a:ds.length<=m):Sw (vh b ds) (3+m * (n+2)) (k+1):=by
 have:=Nat.mul_le_mul_right (n+2) a;cases b with
 | true=>exact(Sw.list h).mono (by omega) (wM _)
 | false=>exact(Sw.tuple h).mono (by omega) (wM _)
section
variable {X:Cx}{p pos p2 pos2:Pos}{e f:Expr}{t:TA}
theorem mB:MtR X "list.reverse" jj:=nN
theorem ph (K:W.Frag) (d:PE X o to) (b:attributeBase o "reverse" X.env (eval o X.env)=eval o X.env:=by rfl) (a:(apos.endLine==cpos.line)=true:=by rfl) (c:X.K=K:=by rfl) :
    PE X (.Call (.Attribute o "reverse" apos) [] [] cpos) (vN K "list" jj to):=c ▸ vd PySem.F.plainAttrs_list PySem.F.slot_list_reverse PySem.F.type_list_reverse mB d b a
end
theorem dG (xs:LV) (k:Nat):cX xs (some (k:Int)) none=xs.drop k:=by
 unfold cX;rw[HT.sIx_nat,HT.sIx_none];by_cases h:k<=xs.length
 ·rw[Nat.min_eq_left h,xk (by rw[xu];omega)]
 ·rw[Nat.min_eq_right (by omega),x9 (wM _),x9 (by omega)];simp
theorem jq {α:Type}{M:Model}{m:Sem (Option α)}{P:α->Shared->Prop}
    (h:wpAny M A m (λr B=>∃u,r=some u/\wpAny M A (pure ():Sem Unit) (λ_ G=>P u G) E B) E s):wpAny M A m (λr B=>∃u,r=some u/\P u B) E s:=by
 intro b p a;exact Sem.wp_mono M b m (λr c B ⟨u,e,q⟩=>⟨u,e,q b c a⟩) (λ_ _ _ z=>z) p s (h b p a)
theorem Inv.atA (I:Inv X pins σ H s) (A':Around) (a:A'.handled=X.A.handled) (b:A'.frames=X.A.frames):Inv { X with A:=A' } pins σ H s :=
 ⟨⟨I.ok.mod,I.ok.kind,I.ok.glob,I.ok.blt,I.ok.above,I.ok.inj,I.ok.has,I.ok.cab,λc=>a.trans (I.ok.hd c),b.trans I.ok.frames,I.ok.stk,I.ok.exf,I.ok.bs,I.ok.bsz,I.ok.noex,I.ok.exfs,I.ok.funs,I.ok.frf⟩,
  I.os,I.bare,I.base,I.loc,I.cell,I.free,I.freeC,I.pin,I.hok,I.len⟩
theorem Inv.ofA (a:X.Ok) (I:Inv { X with A:=A' } pins σ H s):Inv X pins σ H s :=
 ⟨a,I.os,I.bare,I.base,I.loc,I.cell,I.free,I.freeC,I.pin,I.hok,I.len⟩
theorem js:typeLookup (.type "tuple") "keys"=pure none:=am_miss_of_fast (by decide +kernel)
section
variable {prog:Program}{w:World}{A:Around}{E:QS}{s:Shared}
theorem lA 
    (m:s.heap.get? a=some o) (n:o.cls=.type "tuple") (f:o.data=.seq xs k) (l:o.dict=none) (t:A.handled=none)
    (h:∀h' tk,(∀b q,s.heap.get? b=some q->h'.get? b=some q)->Q none { s with heap:=h',toks:=tk }) :
    wpAny (model prog w) A (getAttr? (.ref a) "keys") Q E s:=by
 obtain⟨c,x,v,r⟩:=o;simp only at n f l;subst n f l;obtain⟨y,g,d,tk,u⟩:=s;have p:∀i,(⟨y,g,d,i,u⟩:Shared).TypeIs (.ref a) "tuple":=λ_=>⟨_,m,rfl⟩
 have D:=sub_AttributeError;have I:=F.slot_tuple_getattribute.lookup;have G:=F.slot_tuple_getattribute.bind (.ref a);have H:=am_tuple_getattr_none;unfold getAttr? getAttrBy? getAttrBy
 repeat (any_goals (first | assumption | exact p _ | ((with_reducible show wpAny _ _ (call (Value.builtin "tuple.__getattribute__") _ _) _ _ _);refine call_meets F.slot_tuple_getattribute (p _) am_entry_tuple_getattribute (F.args_tuple_getattribute_2 _ _) (meets_getattribute_miss_tuple a xs k r "keys" _ js (by decide +kernel)) ⟨m,t,λh' i e j=>?_⟩) | wp_step))
 obtain⟨B,z,C⟩:=j.there;show wpAny _ _ (getattributeRaised _ _ _ _ _ _ _) _ _ _;unfold getattributeRaised
 repeat (any_goals (first | assumption | wp_step))
 exact h _ _ j.keeps
end
namespace DU
theorem entry_loop:entryFor table "dict.update.loop"=some Builtin.«dict.update.loop»:=entryFor_of_fast (by kernel_rfl)
theorem plain_loop:plainId "dict.update.loop"=true:=by decide +kernel
end DU
section
variable {X:Cx}{pins:AO_}{σ:St}{H:Hp}{s:Shared}{a:Addr}{y v:V}{u r:Value}{A:Around}{E:QS}
theorem pN (N:A.units<cLine) (I:Inv X pins σ H s) (g:DPut H a y v H') (D:RelV y u) (G:RelV v r) (h:∀s',Inv X pins σ H' s'->(∀b o,b≠a->s.heap.get? b=some o->s'.heap.get? b=some o)->Q () s') :
    wpAny (model X.prog X.w) A (dictSet a u r) Q E s:=by
 rcases g with⟨d,k,e,p,l,B⟩ | ⟨d,k,b,e,p,K,l,B⟩
 ·subst p B;obtain⟨z,w,T,f,C⟩:=nW I.hok e;have x:T.length<=sizeLine:=by rw[<- f.length];exact z
  have t:(bh d k v).length<=sizeLine:=by have:=cD d k v;omega
  refine wpAny_dictSet_pairs (hsz:=x) (hG D) C λF i j=>h _ ?_ λb o n q=>j.extBut _ _ n q;have M:∃q,F.get? a=some q:=let ⟨q,_,_,m,_⟩:=i;⟨q,m⟩;exact fX I (by rw[e];exact True.intro) j M (lS t w (f.put k G) i)
 ·subst p B;cases (show u=Value.ref b from D);obtain⟨z,w,U,f,C⟩:=sW I.hok e;have x:U.length<=sizeLine:=by rw[<- Paired.length f];exact z
  have t:(bh d k v).length<=sizeLine:=by have:=cD d k v;omega
  refine wpAny_dictSet_heap (hsz:=x) N (gI I.hok K) C λF i j=>h _ ?_ λb o n q=>j.extBut _ _ n q;obtain⟨q,L,R,m,V,S,O,_,P⟩:=i;refine fX I (by rw[e];exact True.intro) j ⟨q,m⟩ ⟨t,w,_,(f.put k K G).keeps λc W J=>?_,q,L,R,m,V,S,O,P⟩;rw[az (cC J e (λz=>nomatch z))];exact J
theorem DPut.at_ (g:DPut H a y v H'):(∃o,H a=some o)/\∀b,b≠a->H' b=H b:=by
 rcases g with⟨c,k,e,f,l,d⟩ | ⟨c,k,b,e,f,h,l,d⟩
 ·exact⟨⟨_,e⟩,λb n=>by rw[d,az n]⟩
 ·exact⟨⟨_,e⟩,λb n=>by rw[d,az n]⟩
end
theorem oW (T:Turn X.prog X.w X.K (.Name nm tp) J O G tn) (P:X.calm=true) (hu:X.A.units+64<cLine) (d:Addr) (n:Nat) (f:Nat -> Hp -> Prop)
    (go:∀i H,i<n->f i H->J.go i H/\∀x H1,J.yld i H x H1->∃b k v H2,x=.ref b/\SqT X.K H1 b [k,v]/\DPut H1 d k v H2/\f (i+1) H2)
    (g:∀H,f n H->J.stop n H):∀(k i:Nat) (j:Int) (s:Shared) (H:Hp),n-i=k->i<=n->Inv X pins σ H s->(∀b∈O,fq X pins H b)->tn i s.heap->f i H ->
     (∀H' s',Inv X pins σ H' s'->f n H'->R (.ok (.ret .none)) s')->codeAny (model X.prog X.w) X.A.in1 (.builtin "dict.update.loop" ⟨[.ref d,.ref G,rawInt j,.none],[]⟩) R s:=by
 intro k
 induction k with
 | zero =>
  intro i j s H hk Y I p w l t;have D:i=n:=by omega
  subst D;refine codeAny_builtin DU.entry_loop ?_;rw[Around.under_plainId DU.plain_loop _];show wpAny _ X.A.in1.in1 (pyNext (.ref G) >>= _) _ _ s;refine wJ (xP (T.done { X with A:=X.A.in1.in1 } rfl rfl rfl P i pins s σ H _ (I.atA _ rfl rfl) p w (g H l)) (λr K ⟨e,c⟩=>?_) λ_ _ z=>z);subst e;show wpAny _ _ (Builtin.Dict.addKeywords d [] >>= _) _ _ _;exact wJ (wN (wN (t H K (Inv.ofA I.ok c) l)))
 | succ k ih =>
  intro i j s H hk Y I p w l t;have h:i<n:=by omega
  obtain⟨hg,hy⟩:=go i H h l;refine codeAny_builtin DU.entry_loop ?_;rw[Around.under_plainId DU.plain_loop _];show wpAny _ X.A.in1.in1 (pyNext (.ref G) >>= _) _ _ s;refine wJ (xP (jq (T.item { X with A:=X.A.in1.in1 } rfl rfl rfl P i pins s σ H _ (I.atA _ rfl rfl) p w hg)) (λr K ⟨u,e,x,H1,c,Z,U,t1,F⟩=>?_) λ_ _ z=>z);subst e
  replace c:=Inv.ofA I.ok c
  obtain⟨b,kk,v,H2,ex,sq,dp,V⟩:=hy x H1 U;subst ex;cases (show u=Value.ref b from Z);obtain⟨a0,rv,pt,hz⟩:=c.tuple sq;obtain⟨S,M,e2,r1,r2⟩:=gx rv;subst e2;obtain⟨o,L,C,m,y⟩:=pt;show wpAny _ _ (holding [Value.ref b] _ >>= _) _ _ _;refine wJ (xF ?_);show wpAny _ _ (Sem.tryCatch (Builtin.Dict.pairItems (Value.ref b)) _ >>= _) _ _ _;refine wJ (wpAny_tryCatch ?_);unfold Builtin.Dict.pairItems;refine wJ (wpAny_typeOf (T:="tuple") ⟨o,L,C⟩ ?_);simp only[show ((Value.type "tuple"==Value.type "list")||(Value.type "tuple"==Value.type "tuple"))=true from rfl,if_true];unfold seqItems?;refine wJ (wJ (wpAny_load L ?_));rw[y];refine wN (wN ?_);show wpAny _ _ (holding [S,M] (dictSet d S M)) _ _ _;have B:X.A.in1.in1.units<cLine:=by show X.A.units+1+1<cLine;omega
  refine xF (pN B c dp r1 r2 λs2 I2 E=>?_);have N:∀b∈O,b≠d:=λb a q=>by
   obtain⟨o,Q⟩:=dp.at_.1;rw[<- q,F b a] at Q;cases Q
  refine wN ⟨plainId_quiet DU.plain_loop _,ih (i+1) (j+1) s2 H2 (by omega) h I2 (λb a=>?_) (T.keep _ _ _ t1 λb a o q=>E b o (N b a) q) V t⟩;obtain⟨_,W,f2,f3,f4,f5⟩:=p b a;exact⟨(dp.at_.2 b (N b a)).trans (F b a),W,f2,f3,f4,f5⟩
theorem Rd.fresh (r:Rd H a u) (b:H l=none):Rd (upd H l o) a u:=by
 have n:a≠l:=λe=>by subst e;rcases r with r | ⟨_,r⟩ <;> rw[b] at r <;> cases r
 unfold Rd;rw[az n];exact r
theorem SqT.fresh {K:W.Frag}{H:Hp}{a l:Addr}{xs:LV}{o:HO}(r:SqT K H a xs) (b:H l=none):SqT K (upd H l o) a xs:=by
 rcases r with r | r
 ·exact Or.inl (r.fresh b)
 ·exact Or.inr r
theorem SqL.fresh {K:W.Frag}{H:Hp}{a l:Addr}{xs:LV}{o:HO}(r:SqL K H a xs) (b:H l=none):SqL K (upd H l o) a xs:=by
 rcases r with r | r
 ·exact Or.inl (r.fresh b)
 ·exact Or.inr r
theorem se [DecidableEq κ]:∀(ps:List (κ × V)) (m:List (κ × V)),(ps.foldl (λm q=>bh m q.1 q.2) m).length<=m.length+ps.length:=by
 intro ps
 induction ps with
 | nil=>intro m;exact wM _
 | cons q r ih =>
  intro m;have a:=ih (bh m q.1 q.2);have b:=cD m q.1 q.2;rw[List.foldl_cons,xc];omega
def mkK [DecidableEq κ] (ps:List (κ × V)):List (κ × V):=ps.foldl (λm q=>bh m q.1 q.2) []
theorem vv [DecidableEq κ] (ps:List (κ × V)):(mkK ps).length<=ps.length:=by
 have:=se ps [];rw[List.length_nil,Nat.zero_add] at this;exact this
theorem rQ [DecidableEq κ] (ps:List (κ × V)) (i:Nat) (q:κ × V) (h:ps[i]? = some q):mkK (ps.take (i+1))=bh (mkK (ps.take i)) q.1 q.2:=by
 unfold mkK;rw[xg,h,List.foldl_append]
 rfl
namespace SP
open PySem.Builtin PySem.Builtin.Str PySem.StrLaws
abbrev one (c:Nat):Str:=⟨#[c]⟩
end SP
end L2
namespace L2
open PySem PySem.Spec PyProof.Rows
section
variable {X:Cx}
theorem lg (a:LW):slicePick a.toArray none none (some (-1))=a.reverse.toArray := by
 unfold slicePick;have m:sliceBounds none none (some (-1)) a.toArray.size=((a.length:Int)-1,-1,-1):=by simp[sliceBounds]
 rw[m];show (List.filterMap _ (sliceRange ((a.length:Int)-1) (-1) (-1))).toArray=_;have l:sliceRange ((a.length:Int)-1) (-1) (-1)=(List.range a.length).map λk => a.length-1-k := by
  unfold sliceRange;have i:(if (-1:Int) > 0 then (if (a.length:Int)-1 < -1 then (-1-((a.length:Int)-1)+-1-1) / -1 else 0) else (if (a.length:Int)-1 > -1 then ((a.length:Int)-1 - -1 - -1-1) / (-(-1)) else 0))=(a.length:Int):=by
   rw[if_neg (by decide)];by_cases h:(a.length:Int)-1 > -1
   ·rw[if_pos h];show ((a.length:Int)-1 - -1 - -1-1) / 1=_;rw[Int.ediv_one];omega
   ·rw[if_neg h];omega
  show List.map _ (List.range (Int.toNat _))=_;rw[i,yq];refine List.map_congr_left λk d=>?_;have:=List.mem_range.mp d;omega
 rw[l];congr 1;apply List.ext_getElem?;intro j;have b:∀c:List Nat, (∀k ∈ c, k<a.length) -> List.filterMap (λx => a.toArray[x]?) (c.map λk => a.length-1-k)=c.map λk => a.getD (a.length-1-k) .none := by
  intro c
  induction c with
  | nil=>intro _;rfl
  | cons k r ih =>
   intro h;have d:=h k (by simp);rw[xr,xr,List.filterMap_cons];have e:a.toArray[a.length-1-k]? = some (a.getD (a.length-1-k) .none):=by
    rw[xE,List.getElem?_toArray,wS (by omega)]
    rfl
   rw[e,ih λx g=>h x (xo _ g)]
 have b:=b (List.range a.length) λk d=>List.mem_range.mp d;rw[b,wW];by_cases f:j<a.length
 ·rw[List.getElem?_range f,List.getElem?_reverse f,wS (by omega)];show some (a.getD (a.length-1-j) .none)=_;rw[xE,wS (by omega)]
  rfl
 ·rw[List.getElem?_eq_none (by simpa using f),List.getElem?_eq_none (by rw[xV];omega)]
  rfl
def rRev (K:W.Frag) (te:TE) (ts:TO):TE:=λσ H Q=>te σ H λx H1=>ts σ H1 λi H2=>∃a xs,i=some (-1)/\x=.ref a/\SqL K H2 a xs/\∀l,H2 l=none->Q (.ref l) (upd H2 l (.lst xs.reverse))
theorem uR (K:W.Frag) {e st:Expr}{te:TE}{ts:TO}{z pos:Pos}(he:PE X e te) (g:PO X (some st) ts) (L:X.K=K:=by rfl):PE X (.Subscript e (.Slice none none (some st) z) pos) (rRev K te ts):=by
 subst L;intro c s f H Q I h;refine Subscript_ (thn (he c s f H _ I h) λv y ⟨x,p,D,C,J⟩=>?_);refine wpAny_Slice ?_;rw[evalPart_none];refine wN (wN ?_);refine thn (g c y f p _ D J) λm d ⟨i,E,t,n,F⟩=>?_;obtain⟨a,A,rfl,rfl,w,q⟩:=F;cases C;have j:Inv X c f E { d with heap:=d.heap.push { cls:=.type "slice",data:=.fields #[.none,.none,m] } }:=t.kept (t':=d.toks) λb u q=>xb _ q;obtain⟨G,r,k,B⟩:=j.list w;have l:=r.length;show wpAny (model X.prog X.w) X.A (subscriptTail e (.Slice none none (some st) z) (.ref a) (.ref d.heap.objs.size)) (EP X c f Q) X.xe { d with heap:=d.heap.push { cls:=.type "slice",data:=.fields #[.none,.none,m] } };refine tail_any (ops:=[.ref a,.ref d.heap.objs.size]) k.isList.typeIs slot_list_getitem.lookup ?_ (by with_unfolding_all rfl);refine wpAny_getItem_list_slice k.isList (Heap.IsSliceOf.new ..) .none .none n (by simp) ?_ (by rw[xh] <;> omega);rw[lg];refine⟨.ref _,_,j.laid (t':=d.toks) (o:=.lst A.reverse) (λb u q=>xb _ q) (wM _) ?_,rfl,q _ (j.hok.fresh (wM _))⟩;exact⟨by rw[xV];exact B,_,0,r.reverse,xl _ rfl⟩
variable {p pos:Pos}{e:Expr}{t:TA}
end
end L2
namespace MG
variable {es:List (Nat × Nat)}{goal:Nat}
theorem Rch.tr (a:Rch R x y) (b:Rch R y z):Rch R x z :=
 Rch.closed (S:=λu=>Rch R x u) a (λu v h r=>h.step r) b
end MG
set_option maxHeartbeats 400000
namespace L2
open PySem PySem.Spec PyProof.Rows
section
variable {X:Cx}
def wp (neg:Bool):V->V->Hp->VK->Prop:=λx y H Q=>∃p xs ds d,y=.ref p/\H p=some (.tup xs)/\RepAll H xs ds/\Rep H x d/\PyData.canLayAll0 ds=true/\d.canLay0=true/\d.depth<=16/\Q (.bl (if neg then !(ds.any λe=>PyData.eqv e d) else ds.any λe=>PyData.eqv e d)) H
theorem ko (t:X.A.units+64<cLine):OpR X (compareOp .In) (wp false):=by
 intro g s B H x y v u Q I k l h;obtain⟨p,xs,z,d,rfl,e,j,r,f,c,dp,q⟩:=h;cases l;obtain⟨b,i,m,_⟩:=I.tuple (a:=p) (xs:=xs) (.of e);obtain⟨A,n⟩:=r.reads I.hok k;refine SeqAt.in_tupleAt (λu=>PyData.eqv (SeqAt.readOf s.heap u) d) m (λw o=>fS (x:=x) I.hok n c (by show X.A.units+1+d.depth<cLine;omega) j i f w (by simpa using o)) ⟨.bl _,H,I,rfl,?_⟩;rw[show b.toArray.any (λu=>PyData.eqv (SeqAt.readOf s.heap u) d)=b.any (λu=>PyData.eqv (SeqAt.readOf s.heap u) d) by simp,fT I.hok j i f];exact q
end
end L2
set_option maxHeartbeats 4000000
namespace L2
open PySem PySem.Spec PyProof.Rows
def dR (ks:LS) (ys:LV):KV_:=(ks.map Sum.inr).zip ys
theorem pI {kvs:KV_}{k:Key}(h:k∉kvs.map (·.1)):bh kvs k v=kvs++[(k,v)]:=by
 unfold bh;rw[if_neg];intro z;obtain⟨a,b,e⟩:=yl.mp z;exact h (wX.mpr ⟨a,b,xf e⟩)
theorem tZ:∀(ks:LS) (ys:LV), ks.Nodup -> mkK (dR ks ys)=dR ks ys := by
 have b:∀(ks:LS) (ys:LV) (m:KV_), ks.Nodup -> (∀k ∈ ks, (Sum.inr k:Key) ∉ m.map (·.1)) -> (dR ks ys).foldl (λm q => bh m q.1 q.2) m=m ++ dR ks ys := by
  intro ks
  induction ks with
  | nil=>intro ys m _ _;unfold dR;simp
  | cons k ks ih =>
   intro ys m a c;cases ys with
   | nil=>unfold dR;simp
   | cons y ys =>
    obtain⟨f,g⟩:=xB.mp a;have e:dR (k::ks) (y::ys)=(.inr k,y)::dR ks ys:=rfl;rw[e,List.foldl_cons];show List.foldl _ (bh m (.inr k) y) _=_;rw[pI (c k (by simp)),ih ys _ g (λx d=>?_)]
    ·simp
    ·rw[wZ,w8];rintro (z | z)
     ·exact c x (xo _ d) z
     ·have:(Sum.inr x:Key)=Sum.inr k:=by simpa using z
      exact f (Sum.inr.inj this ▸ d)
 intro ks ys a;unfold mkK;rw[b ks ys [] a (λk _ h=>by cases h)]
 rfl
theorem mm:∀ {ks:LS}{ys:LV}{i:Nat}{k:Str}{y:V},ks.Nodup->ks[i]? = some k->ys[i]? = some y->bn (dR ks ys) (.inr k)=some y
 | [],_,_,_,_,_,h,_=>by simp at h
 | k::ks,[],_,_,_,_,_,h=>by simp at h
 | k::ks,y::ys,0,k',y',nd,h1,h2=>by
  have e1:k=k':=by simpa using h1
  have e2:y=y':=by simpa using h2
  subst e1 e2;exact cv (p:=(Sum.inr k,y)) rfl
 | k::ks,y::ys,i+1,k',y',nd,h1,h2=>by
  obtain⟨n1,n2⟩:=xB.mp nd;have h1:ks[i]? = some k':=by simpa using h1
  have h2:ys[i]? = some y':=by simpa using h2
  have ne:¬ (Sum.inr k:Key)=Sum.inr k':=λz=>n1 (by rw[Sum.inr.inj z];exact wP h1);show bn ((Sum.inr k,y)::dR ks ys) _=_;rw[cz ne];exact mm n2 h1 h2
theorem uF {G T:Prop}(m:T->G) (t:T):G:=m t
end L2
namespace MG
def mx:List Int->Int
 | []=>0
 | x::l=>max x (mx l)
def dp (es:List (Nat × Nat)) (W:Nat->Int):Nat->Nat->Int
 | 0,_=>0
 | k+1,v=>W v+mx ((es.filter λe=>decide (e.2=v)).map λe=>dp es W k e.1)
end MG
namespace L2
open PySem PySem.Spec PyProof.Rows
section
variable {prog:Program}{w:World}{A:Around}{E:QS}{s:Shared}
abbrev jh (h:Heap) (l:Addr):Heap:=h.push { cls:=.type "tuple_iterator",data:=.fields #[.ref l,.int 0 0] }
abbrev kc (h:Heap) (l m:Addr):Heap:=(jh h l).push { cls:=.type "tuple_iterator",data:=.fields #[.ref m,.int 0 0] }
abbrev jP (h:Heap) (l m:Addr):Heap:=(kc h l m).push { cls:=.type "tuple",data:=.seq #[.ref h.objs.size,.ref (jh h l).objs.size] }
abbrev lJ (h:Heap) (l m:Addr):Heap:=(jP h l m).push { cls:=.type "tuple",data:=.seq #[.none,.none] }
abbrev jU (h:Heap) (l m:Addr):Heap:=(lJ h l m).push { cls:=.type "zip",data:=.fields #[.none,.bool false,.bool false,.ref (kc h l m).objs.size,.ref (jP h l m).objs.size] }
theorem mD (l m:Addr) (xs ys:Array Value):Meets (Builtin.«zip.__new__» ⟨[.type "zip",.ref l,.ref m],[]⟩) (λ_ R s=>s.heap.IsTuple l xs/\s.heap.IsTuple m ys/\R (.ok (.ret (.ref (lJ s.heap l m).objs.size))) { s with heap:=jU s.heap l m }) :=
 .of_wp λg w A R s h=>by
  obtain⟨d,f,c,e,a⟩:=s;obtain⟨j,i,h⟩:=h;have b:=sub_zip;have n:Heap.IsTuple (Shared.heap ⟨d,f,c,e,a⟩) l xs:=j;have k:Heap.IsTuple (Shared.heap ⟨jh d l,f,c,e,a⟩) m ys:=Heap.IsTuple.push i _
  wp_walk using wpAny_pyIter_tuple n,wpAny_pyIter_tuple k
  exact⟨_,rfl,h⟩
theorem oz (x:s.heap.IsTuple l xs) (u:s.heap.IsTuple m ys)
    (h:∀h',Zp h' (s.heap.objs.size+4) (s.heap.objs.size+2) (s.heap.objs.size+3) .none false->IsPair h' (s.heap.objs.size+2) (.ref s.heap.objs.size) (.ref (s.heap.objs.size+1))->IsPair h' (s.heap.objs.size+3) .none .none ->
     h'.IsTupleIter s.heap.objs.size l 0->h'.IsTupleIter (s.heap.objs.size+1) m 0->(∀c o,s.heap.get? c=some o->h'.get? c=some o)->Q (.ref (s.heap.objs.size+4)) { s with heap:=h' }) :
    wpAny (model prog w) A (call (.type "zip") [.ref l,.ref m]) Q E s:=by
 have e:(jh s.heap l).objs.size=s.heap.objs.size+1:=Heap.size_push ..;have d:(kc s.heap l m).objs.size=s.heap.objs.size+2:=(Heap.size_push ..).trans (by rw[e]);have b:(jP s.heap l m).objs.size=s.heap.objs.size+3:=(Heap.size_push ..).trans (by rw[d]);have i:(lJ s.heap l m).objs.size=s.heap.objs.size+4:=(Heap.size_push ..).trans (by rw[b]);have p:∀ {c:Addr} {o:Obj},(lJ s.heap l m).get? c=some o->(jU s.heap l m).get? c=some o:=λq=>xb _ q;have g:∀ {c:Addr} {o:Obj},(jP s.heap l m).get? c=some o->(jU s.heap l m).get? c=some o:=λq=>p (xb _ q);have f:∀ {c:Addr} {o:Obj},(kc s.heap l m).get? c=some o->(jU s.heap l m).get? c=some o:=λq=>g (xb _ q);have k:∀ {c:Addr} {o:Obj},(jh s.heap l).get? c=some o->(jU s.heap l m).get? c=some o:=λq=>f (xb _ q);have a:(jU s.heap l m).get? (lJ s.heap l m).objs.size=some { cls:=.type "zip",data:=.fields #[.none,.bool false,.bool false,.ref (kc s.heap l m).objs.size,.ref (jP s.heap l m).objs.size] }:=xl _ rfl;have r:=p (xl (jP s.heap l m) (o:={ cls:=.type "tuple",data:=.seq #[.none,.none] }) rfl);have j:=g (xl (kc s.heap l m) (o:={ cls:=.type "tuple",data:=.seq #[.ref s.heap.objs.size,.ref (jh s.heap l).objs.size] }) rfl);have n:=f (xl (jh s.heap l) (o:={ cls:=.type "tuple_iterator",data:=.fields #[.ref m,.int 0 0] }) rfl);have v:=k (xl s.heap (o:={ cls:=.type "tuple_iterator",data:=.fields #[.ref l,.int 0 0] }) rfl);rw[d,b,i] at a;rw[b] at r;rw[e,d] at j;rw[e] at n;refine callType_new F.called_zip (by decide) (F.typeCall_zip_2 _ _) (F.newCall_zip_2 _ _) (λt=>F.args_object_init_3 t _ _) F.entry_zip_new (mD l m xs ys) ⟨x,u,?_⟩;show _/\_;rw[i];exact⟨⟨_,a,rfl⟩,h _ a j r ⟨_,v,rfl,rfl⟩ ⟨_,n,rfl,rfl⟩ λc o q=>k (xb _ q)⟩
end
def jC (K:W.Frag) (a b:Addr):It :=
 ⟨λi H=>∃xs ys x y,SqT K H a xs/\SqT K H b ys/\xs[i]? = some x/\ys[i]? = some y,
  λi H v H'=>∃p x y,H p=none/\v=.ref p/\(∀xs,SqT K H a xs->xs[i]? = some x)/\(∀ys,SqT K H b ys->ys[i]? = some y)/\H'=upd H p (.tup [x,y]),
  λi H=>∃xs ys,SqT K H a xs/\SqT K H b ys/\(xs.length<=i∨ys.length<=i)⟩
section
variable {X:Cx}
def vb (K:W.Frag):R2:=λx y H Q=>∃a b xs ys,x=.ref a/\y=.ref b/\SqT K H a xs/\SqT K H b ys/\xs.length+ys.length<=sizeLine /\
 (xs=[]->Q (.ref b) H)/\(xs≠[]->ys=[]->Q (.ref a) H)/\(xs≠[]->ys≠[]->∀p,H p=none->Q (.ref p) (upd H p (.tup (xs++ys))))
theorem hU (K:W.Frag) (U:X.K=K:=by rfl):OpR X (binaryOp .Add) (vb K):=by
 subst U;intro i s L H x y v u Q I o p h;obtain⟨a,b,w,J,rfl,rfl,q,B,M,R,T,S⟩:=h;by_cases e:w=[]
 ·cases o;cases p;obtain⟨g,N,p1,_⟩:=I.tuple q;obtain⟨c,V,p2,_⟩:=I.tuple B;have E:g=[]:=N.nil_iff.mpr e;obtain⟨⟨D,O,r,G⟩,A,C,n,t⟩:=id p1;obtain⟨⟨z,k,l,m⟩,f,j,P,d⟩:=id p2;simp only at C t j d;subst C t j d;exact concat_meets ⟨_,A,rfl⟩ ⟨_,f,rfl⟩ noFill_tuple_add seq_tuple_add F.slot_tuple_add F.entry_tuple_add (F.args_tuple_add_2 _ _) (tuple_addW0 a b g.toArray c.toArray n P O k G m (by simp[E])) ⟨A,f,⟨.ref b,H,I,rfl,R e⟩⟩
 ·exact ui i s L H _ _ v u Q I o p ⟨a,b,w,J,rfl,rfl,q,B,e,M,T e,S e⟩
end
section
variable {prog:Program}{w:World}{A:Around}{E:QS}{s:Shared}
theorem tT {elts:List Expr}{x1}{pos:Pos}{z TI TO T:Addr}{B:Value}{G:Bool}{Q:Unit->Shared->Prop}(e:F0 B) (b:Zp s.heap z TI TO B G)
    (c:∀h' q,F0 q->Zp h' z TI TO q G->Heap.SameBut z s.heap h'->Q () { s with heap:=h' }):wpAny (model prog w) A (letOwnedTupleGo (.Tuple elts x1 pos) (.ref z) (.ref T)) Q E s:=by
 unfold letOwnedTupleGo;refine wJ (wpAny_load b ?_);show wpAny _ A (if (["enumerate","zip","dict_itemiterator","dict_reverseitemiterator","odict_iterator","itertools.zip_longest","itertools.pairwise"].contains "zip"&&_)=true then _ else _) Q E s
 split
 ·refine wJ (wpAny_rule ?_);show wpAny _ A (setField (.ref z) 0 .none) Q E s;exact xX b (by simp) λh' a d=>c h' _ (.inl rfl) a d
 ·exact wN (c s.heap B e b (Heap.SameBut.refl _ _))
end
theorem jA {t1 t2:Bool}{P:Program}{w:World}{K:W.Frag}{elts:List Expr}{x1}{tp:Pos}(a b z TI TO j k:Addr) (D:ZipApart z TI TO j k a b) :
    Turn P w K (.Tuple elts x1 tp) (Itg t1 t2 K a b) [z,TI,TO,j,k] z (λi h=>(∃B G,F0 B/\Zp h z TI TO B G)/\IsPair h TI (.ref j) (.ref k)/\(∃c d,IsPair h TO c d)/\ItI t1 h j a i/\ItI t2 h k b i):=by
 have T:=kX (t1:=t1) (t2:=t2) (P:=P) (w:=w) (K:=K) (nm:="x") (tp:=tp) a b z TI TO j k D;refine⟨T.mem,T.obj,T.keep,?_,T.done,T.self⟩;intro X hP hw hK t i g s Z H E I S st hg;refine thn (T.item X hP hw hK t i g s Z H E I S st hg) λr s1 ⟨u,hr,h⟩=>⟨u,hr,?_⟩
 have R:wpAny (model P w) X.A (letOwnedTupleGo (.Name "x" tp) (.ref z) u >>= λ_=>letOwnedTupleGo (.Tuple elts x1 tp) (.ref z) u) (λ_ f=>∃x A,Inv X g Z A f/\RelV x u/\(Itg t1 t2 K a b).yld i H x A/\((∃B G,F0 B/\Zp f.heap z TI TO B G)/\IsPair f.heap TI (.ref j) (.ref k)/\(∃c d,IsPair f.heap TO c d)/\ItI t1 f.heap j a (i+1)/\ItI t2 f.heap k b (i+1))/\∀c∈[z,TI,TO,j,k],A c=none) E s1:=by
  refine wJ (thn h λ_ f ⟨x,A,F,rx,U,tn,V⟩=>?_);obtain⟨p,x0,y0,hp,rfl,a0,a1,rfl⟩:=id U;cases rx;obtain⟨⟨B,G,O,hz⟩,M,⟨ta,tb,C⟩,h1,h2⟩:=tn;refine tT O hz λh' Q J L sb=>?_;have l:∀c o,c≠z->f.heap.get? c=some o->h'.get? c=some o:=λc o n e=>sb.extBut c o n e;have nz:∀c o,upd H p (.tup [x0,y0]) c=some o->c≠z:=λc o q e=>by rw[e,V z (by simp)] at q;cases q
  refine⟨.ref p,_,?_,rfl,U,⟨⟨Q,G,J,L⟩,l _ _ D.TIz M,⟨ta,tb,l _ _ D.TOz C⟩,h1.at λo e=>l _ o D.i1z e,h2.at λo e=>l _ o D.i2z e⟩,V⟩;have y:∀c o,c∉[z]->f.heap.get? c=some o->h'.get? c=some o:=λc o n e=>l c o (λq=>n (by simp[q])) e;refine F.step (h':=h') (g':=f.gens) (d':=f.drawn) (t':=f.toks) (ch:=[z]) (λc t=>?_) (λc o _ _ n q _=>y c o n q) (λc o _ _ n q _=>⟨o.slots,y c o n q⟩) (λc o _ q n=>n) (λc o n q=>⟨o,y c o n q⟩) (λc ys q=>q) (λc o v q=>q) (λc ps q=>⟨#[],by rw[q];simp⟩) (λm hm=>?_) (λc o q=>?_) F.bare
  ·have t:c=z:=by simpa using t
   subst t;obtain⟨_,g1,_,g3,g4,g5⟩:=S c (by simp);exact⟨g3,g1,g4,g5⟩
  ·obtain⟨o,es,ep,ho,r⟩:=hm;refine⟨o,es,ep,y _ o (λn=>?_) ho,r⟩;exact(S _ (by rw[xa.mp n];simp)).2.1 rfl
  ·refine(F.hok c o q).stay (λd Y hd N=>?_) (λd q=>q) λd ys q=>q;rcases hd with e | e
   ·rw[e] at N ⊢;exact l c Y (nz c o q) N
   ·exact l d Y (nz d _ e) N
 exact R
theorem qx {P:Program}{w:World}{K:W.Frag}{elts:List Expr}{x1}{tp:Pos}(a b z TI TO f e:Addr) (D:ZipApart z TI TO f e a b) :
    Turn P w K (.Tuple elts x1 tp) (Itz K a b) [z,TI,TO,f,e] z (λi h=>(∃q B,F0 q/\Zp h z TI TO q B)/\IsPair h TI (.ref f) (.ref e)/\(∃c d,IsPair h TO c d)/\h.IsListIter f a i/\h.IsListIter e b i) :=
 jA (t1:=false) (t2:=false) a b z TI TO f e D
theorem tF (K:W.Frag) {X:Cx}{elts:List Expr}{x1}{tp:Pos}{a b:Expr}{ta:TA}{p pos:Pos}(Q:Gl X "zip") (M:X.mg "zip"=none) (D:PA X [a,b] ta) (L:starEach [a,b] X.env=(false,eval a X.env)::starEach [b] X.env:=by rfl) (hpl:(backTo pos (starEach [b] X.env)).any (·.1)=false:=by rfl) (Z:X.K=K:=by rfl) :
    PI X (.Tuple elts x1 tp) (.Call (.Name "zip" p) [a,b] [] pos) (uy K ta):=by
 subst Z;intro k s G H R I h;refine Call_ (fL I Q M (show bootBuiltins "zip"=some (.type "zip") by decide +kernel) (PyProof.Rows.callWith_type1 (thn (D pos k s G H _ I h) λus f ⟨vs,C,j,r,V⟩=>?_) L hpl));obtain⟨v,n,xs,ys,e,o,l,q⟩:=V;subst e;obtain⟨u1,u2,rfl,r,J⟩:=gx r;cases r;cases J;obtain⟨U,rv,A,_⟩:=j.list o;obtain⟨E,N,B,_⟩:=j.list l;have S:v<f.heap.objs.size:=by obtain⟨_,e,_⟩:=A.isList;exact wT e
 have F:n<f.heap.objs.size:=by obtain⟨_,e,_⟩:=B.isList;exact wT e
 refine call_zip_2 A.isList B.isList λg O x m u y _ Y=>?_;have T:=qx (P:=X.prog) (w:=X.w) (K:=X.K) (elts:=elts) (x1:=x1) (tp:=tp) v n _ _ _ _ _ (zipApart_new S F);have z:(∃f0 f1,F0 f0/\Zp g (f.heap.objs.size+4) (f.heap.objs.size+2) (f.heap.objs.size+3) f0 f1)/\IsPair g (f.heap.objs.size+2) (.ref f.heap.objs.size) (.ref (f.heap.objs.size+1))/\(∃c d,IsPair g (f.heap.objs.size+3) c d)/\g.IsListIter f.heap.objs.size v 0/\g.IsListIter (f.heap.objs.size+1) n 0:=⟨⟨_,_,.inl rfl,O⟩,x,⟨_,_,m⟩,u,y⟩
 refine T.self X.A 0 { f with heap:=g } _ _ z ?_;refine⟨_,_,_,_,C,rfl,j.kept (t':=f.toks) Y,T,z,λb t=>?_,q⟩;have t:b=f.heap.objs.size+4∨b=f.heap.objs.size+2∨b=f.heap.objs.size+3∨b=f.heap.objs.size∨b=f.heap.objs.size+1:=by simpa using t
 have i:f.heap.objs.size<=b:=by rcases t with e | e | e | e | e <;> rw[e] <;> first | exact wM _ | exact Nat.le_add_right _ _
 exact j.fpOk i (j.hok.fresh i)
theorem nC {K:W.Frag}{a b:Addr}{xs ys:LV}{g:TG}{tb:TS}{D:Ends}{σ:St}{H:Hp}(Pv:Nat -> St -> Hp -> Prop) (o:Pv 0 σ H) (r:∀i σ H, i <= (xs.zip ys).length -> Pv i σ H -> SqL K H a xs /\ SqL K H b ys)
    (f:∀i x y p σ H,(xs.zip ys)[i]? = some (x,y)->Pv i σ H->H p=none->g (.ref p) σ (upd H p (.tup [x,y])) λσ2 H2=>tb { D with nx:=Pv (i+1),ct:=Pv (i+1),bk:=D.nx } σ2 H2) (A:∀σ H,Pv (xs.zip ys).length σ H->D.nx σ H) :
    ∃W:Nat->Nat->SH,(∃m,W 0 m σ H)/\∀i m σ H,W i m σ H ->
     ((Itz K a b).stop i H/\D.nx σ H)∨((Itz K a b).go i H/\∃N:SH,(∀σ' H',N σ' H'->∃z,z<m/\W (i+1) z σ' H')/\∀x H',(Itz K a b).yld i H x H'->g x σ H' λσ2 H2=>tb { D with nx:=N,ct:=N,bk:=D.nx } σ2 H2):=by
 refine⟨λi m σ H=>m=(xs.zip ys).length-i/\i<=(xs.zip ys).length/\Pv i σ H,⟨(xs.zip ys).length,by simp,xt _,o⟩,?_⟩;rintro i m σ H ⟨rfl,k,p⟩;obtain⟨c,d⟩:=r i σ H k p;have l:(xs.zip ys).length=min xs.length ys.length:=xD;by_cases s:i<(xs.zip ys).length
 ·have n:i<xs.length:=by omega
  have w:i<ys.length:=by omega
  refine .inr ⟨⟨xs,ys,xs[i],ys[i],c,d,wS n,wS w⟩,Pv (i+1),λσ' H' q=>⟨(xs.zip ys).length-(i+1),by omega,rfl,by omega,q⟩,?_⟩;rintro x H' ⟨q,u,v,t,rfl,h,j,rfl⟩;exact f i u v q σ H (by rw[xv];exact⟨h xs c,j ys d⟩) p t
 ·have e:i=(xs.zip ys).length:=by omega
  refine .inl ⟨⟨xs,ys,c,d,by omega⟩,A σ H (e ▸ p)⟩
section
open PySem.W PySem.Calls Builtin Builtin.ObjectAttr Builtin.Getset_descriptor
variable {K:Frag}{x C:Addr}{h:Heap}{M:Model}
variable {prog:Program}{w:World}{A:Around}{E:QS}{s:Shared}
end
section
open PySem.W Builtin Builtin.ObjectAttr
variable {prog:Program}{w:World}{A:Around}{E:QS}{s:Shared}{K:Frag}{x C t:Addr}{f:Str}{v:Value}
end
section
open PySem.W PySem.Calls Builtin Builtin.ObjectAttr
variable {K:Frag}{x C:Addr}{h:Heap}{M:Model}{prog:Program}{w:World}{A:Around}{E:QS}{s:Shared}{ox od:Obj}{f:Str}{u:Value}
end
end L2
namespace L2
open PySem
theorem dF {R J:SH}{G:Prop}(a:(∀σ H,J σ H->R σ H)->G) (aM:∀σ H,J σ H->R σ H):G:=a aM
end L2
namespace MG
variable {es:List (Nat × Nat)}{goal:Nat}
def NoR (es:List (Nat × Nat)):Prop:=∀e∈es,¬ uV es e
end MG
namespace L2
open PySem PySem.Spec PyProof.Rows PySem.W
def up1 (c:Nat):Nat:=if 97<=c/\c<=122 then c-32 else c
end L2
namespace L2
open PySem PySem.Spec PyProof.Rows
namespace SU
theorem qZ (a:Value):checkTypeCall "set" ⟨[a],[]⟩=pure ():=by kernel_rfl
theorem tR (a:Value):checkBuiltinCall "set.__new__" ⟨[.type "set",a],[]⟩=pure ():=by kernel_rfl
theorem entry_loop:entryFor table "set.update.loop"=some Builtin.«set.update.loop»:=entryFor_of_tree (by kernel_rfl)
theorem plain_loop:plainId "set.update.loop"=true:=by decide +kernel
section
variable {prog:Program}{w:World}{A:Around}{E:QS}{s:Shared}
theorem rq (a:Value) 
    (h:∀led:Bool,Q₁ (.ref s.heap.objs.size) { s with heap:=s.heap.push { cls:=.type "set",dict:=none,data:=.set #[] 0 (.fresh 0 0 led) } }) :
    codeAny (model prog w) A (.call (.builtin "set.__new__") ⟨[.type "set",a],[]⟩) (wants Q₁ E) s:=by
 refine codeAny_call_builtin F.plain_set_new F.entry_set_new (wpAny_of_eq (tR a) ?_);unfold Builtin.«set.__new__» Builtin.Frozenset.newClass;have b:=sub_set_self;obtain⟨f,g,d,e,c⟩:=s;dsimp only
 wp_walk
 refine wpAny_askSetting (wN ?_);dsimp only;simp only[newObj];refine wJ (wpAny_alloc (wN ?_));exact wN (h _)
theorem oB (c:s.TypeIs self "set") (d:Q () s):wpAny M A (checkBuiltinCall "set.__init__" ⟨[self,a],[]⟩) Q E s:=by
 simp only[checkBuiltinCall,kind_set_init,split_set_init,sig_set_init];refine wJ (wpAny_isInstance c sub_set_self ?_);simp only[Bool.not_true,yj,if_false];unfold Bind.checkArgs;dsimp only;refine wJ (PyProof.Rows.printed_name (by decide) ?_);refine wJ (PyProof.Rows.printed_star (self:=self) rfl c λb=>?_);rw[show (if (Manifest.Receiver.self==Manifest.Receiver.none)=true then [self,a].length else [self,a].length-1)=1 from rfl,List.map_nil];have e:Bind.check ⟨.positional,"set","*",.self,[⟨"iterable",.posOnly,false⟩]⟩ "set" b 1 []=pure ():=by
  simp[Bind.check,Bind.checkCount,Bind.isPositional];exact λz=>absurd z (by decide)
 exact wpAny_of_eq e d
set_option maxHeartbeats 4000000 in
theorem call1 (h:∀led:Bool, wpAny (model prog w) A.in1.in1 (Builtin.«set.__init__» ⟨[.ref s.heap.objs.size, a], []⟩)
        (λz s'=>match z with | .done f=>wants (λr q=>r=.none/\Q (.ref s.heap.objs.size) q) E (.ok f) s' | .again B=>B.quiet=true/\codeAny (model prog w) A.in1 B (wants (λr q=>r=.none/\Q (.ref s.heap.objs.size) q) E) s')
        (λe s'=>wants (λr q=>r=.none/\Q (.ref s.heap.objs.size) q) E (.error e) s') { s with heap:=s.heap.push { cls:=.type "set",dict:=none,data:=.set #[] 0 (.fresh 0 0 led) } }) :
    wpAny (model prog w) A (call (.type "set") [a]) Q E s:=by
 obtain⟨c,y,l⟩:=F.called_set.mro;have j:=F.called_set.made;have k:=F.called_set.sub;refine wpAny_call (codeAny_of_tree (show wpAny _ _ (callAny (.type "set") _) _ _ _ from wN ⟨Code.quiet_builtin _ (by decide +kernel),codeAny_builtin F.entry_type_call ?_⟩));rw[Around.under_plain (weight_type_call_type "set" [a] []) rfl];have C:=F.called_set.notType;have H:=F.called_set.canCreate;have o:=qZ a
 repeat (any_goals (first | assumption | wp_step))
 refine codeAny_mono (rq (E:=E) a (Q₁:=λg b=>∃led:Bool,g=.ref s.heap.objs.size/\b={ s with heap:=s.heap.push { cls:=.type "set",dict:=none,data:=.set #[] 0 (.fresh 0 0 led) } }) λled=>⟨led,rfl,rfl⟩) λr b i=>?_;cases r with
 | error e=>exact i
 | ok fl =>
  cases fl with
  | ret g =>
   obtain⟨led,v,m⟩:=i;subst v m;have x:Shared.TypeIs { s with heap:=s.heap.push { cls:=.type "set",dict:=none,data:=.set #[] 0 (.fresh 0 0 led) } } (.ref s.heap.objs.size) "set":=⟨_,xl _ rfl,rfl⟩
   have t:=F.called_set.init.lookup;have p:=F.called_set.init.bind (.ref s.heap.objs.size)
   repeat (any_goals (first | assumption | wp_step))
   refine codeAny_mono (codeAny_call_builtin (R:=wants (λr q=>r=.none/\Q (.ref s.heap.objs.size) q) E) F.called_set.init.plain F.entry_set_init (oB x (h led))) λn G d=>?_;cases n with
   | error e=>exact d
   | ok fl2 =>
    cases fl2 with
    | ret r =>
     obtain⟨u,D⟩:=d;subst u
     repeat (any_goals (first | assumption | wp_step))
    | _=>exact d.elim
  | _=>exact i.elim
theorem cut_set (b:s.TypeIs (.ref a) "set") (h:Q "set" s):wpAny (model prog w) A (typeNameOfCut n (.ref a)) Q E s:=by
 unfold typeNameOfCut shownTypeOf;refine wJ (wJ (wpAny_typeOf b ?_));simp only[show (Value.type "set"==Value.type "builtin_function_or_method")=false by decide,yj,if_false];refine wN ?_;rw[show typeNameCut n (.type "set")=typeName (.type "set") from rfl];exact wpAny_of_eq (by kernel_rfl:typeName (.type "set")=pure "set") h
theorem any_list (a:s.TypeIs (.ref b) "list") (h:Q false s):wpAny (model prog w) A (Builtin.Frozenset.isAnySet (.ref b)) Q E s:=by
 unfold Builtin.Frozenset.isAnySet;refine wJ (wpAny_isInstance a (by rw[isSubtype_type];kernel_rfl:isSubtype (.type "list") (.type "set")=pure false) ?_);exact wpAny_isInstance a (by rw[isSubtype_type];kernel_rfl:isSubtype (.type "list") (.type "frozenset")=pure false) h
end
end SU
def gz (P:Program) (w:World) (a:Addr) (S:Str->Bool) (n:Nat):HO:=.ext λh=>h.SetOf (strKind P w) a S n
theorem mU (x:h.SetOf (strKind P w) a S n):ObjOk P w H h a (gz P w a S n):=by
 refine⟨x,let ⟨o,_,_,_,b,_⟩:=x;⟨o,b⟩,λe f y k=>?_⟩;obtain⟨o,c,d,t,b,r⟩:=y;exact⟨o,c,d,t,k _ b,r⟩
def sw:LV->Hp->VK->Prop:=λvs H Q=>∃(a:Addr) (P:Program) (w:World) (S:Str->Bool) (n:Nat),vs=[.ref a]/\H a=some (gz P w a S n)/\Q (.int n) H
section
variable {X:Cx}{p pos:Pos}{e:Expr}{t:TA}
theorem qj:du X (.builtin "len") sw:=by
 intro f s x H y z Q I r h;obtain⟨a,P,w,S,n,rfl,g,q⟩:=h;obtain⟨u,rfl,l⟩:=cK r;cases l;have d:=I.hok a _ g;have b:s.heap.SetOf (strKind P w) a S n:=d.1;obtain⟨o,e,v,A,m,c,j,_,_,p,t,i⟩:=b;have k:e.size<4096:=p;refine call_len_set m c j t (by omega) ?_;subst i;exact⟨.int e.size,H,(I.tok _).tok _,⟨_,rfl⟩,q⟩
theorem uG (B:Blt X.mg) (b:PA X [e] t) (a:Gl X "len":=by rfl) (he:starEach [e] X.env=(false,eval e X.env)::starEach [] X.env:=by rfl) (hpl:(backTo pos (starEach [] X.env)).any (·.1)=false:=by rfl):PE X (.Call (.Name "len" p) [e] [] pos) (tCB sw t) :=
 dt qj a B.len PySem.boot_len b (by decide) (by decide) he hpl
end
def uW (K:W.Frag) (ta:TA):TI:=λσ H R=>ta σ H λvs H1=>∃a b xs ys,vs=[.ref a,.ref b]/\SqT K H1 a xs/\SqT K H1 b ys/\R (jC K a b) H1
theorem mH {P:Program}{w:World}{K:W.Frag}{elts:List Expr}{x1}{tp:Pos}(a b z TI TO f e:Addr) (D:ZipApart z TI TO f e a b) :
    Turn P w K (.Tuple elts x1 tp) (jC K a b) [z,TI,TO,f,e] z (λi h=>(∃q B,F0 q/\Zp h z TI TO q B)/\IsPair h TI (.ref f) (.ref e)/\(∃c d,IsPair h TO c d)/\h.IsTupleIter f a i/\h.IsTupleIter e b i) :=
 jA (t1:=true) (t2:=true) a b z TI TO f e D
theorem oO (K:W.Frag) {X:Cx}{elts:List Expr}{x1}{tp:Pos}{a b:Expr}{ta:TA}{p pos:Pos}(S:Gl X "zip") (N:X.mg "zip"=none) (F:PA X [a,b] ta) (M:starEach [a,b] X.env=(false,eval a X.env)::starEach [b] X.env:=by rfl) (hpl:(backTo pos (starEach [b] X.env)).any (·.1)=false:=by rfl) (Z:X.K=K:=by rfl) :
    PI X (.Tuple elts x1 tp) (.Call (.Name "zip" p) [a,b] [] pos) (uW K ta):=by
 subst Z;intro k s J H R I h;refine Call_ (fL I S N (show bootBuiltins "zip"=some (.type "zip") by decide +kernel) (PyProof.Rows.callWith_type1 (thn (F pos k s J H _ I h) λus f ⟨vs,E,j,u,V⟩=>?_) M hpl));obtain⟨m,l,xs,ys,e,t,n,q⟩:=V;subst e;obtain⟨u1,u2,rfl,u,L⟩:=gx u;cases u;cases L;obtain⟨A,rv,C,_⟩:=j.tuple t;obtain⟨r,O,D,_⟩:=j.tuple n;have U:m<f.heap.objs.size:=by obtain⟨_,e,_⟩:=C;exact wT e
 have G:l<f.heap.objs.size:=by obtain⟨_,e,_⟩:=D;exact wT e
 refine oz (show f.heap.IsTuple m A.toArray from C) (show f.heap.IsTuple l r.toArray from D) λg Q y o x z Y=>?_;have T:=mH (P:=X.prog) (w:=X.w) (K:=X.K) (elts:=elts) (x1:=x1) (tp:=tp) m l _ _ _ _ _ (zipApart_new U G);have B:(∃f0 f1,F0 f0/\Zp g (f.heap.objs.size+4) (f.heap.objs.size+2) (f.heap.objs.size+3) f0 f1)/\IsPair g (f.heap.objs.size+2) (.ref f.heap.objs.size) (.ref (f.heap.objs.size+1))/\(∃c d,IsPair g (f.heap.objs.size+3) c d)/\g.IsTupleIter f.heap.objs.size m 0/\g.IsTupleIter (f.heap.objs.size+1) l 0:=⟨⟨_,_,.inl rfl,Q⟩,y,⟨_,_,o⟩,x,z⟩
 refine T.self X.A 0 { f with heap:=g } _ _ B ?_;refine⟨_,_,_,_,E,rfl,j.kept (t':=f.toks) Y,T,B,λb v=>?_,q⟩;have v:b=f.heap.objs.size+4∨b=f.heap.objs.size+2∨b=f.heap.objs.size+3∨b=f.heap.objs.size∨b=f.heap.objs.size+1:=by simpa using v
 have i:f.heap.objs.size<=b:=by rcases v with e | e | e | e | e <;> rw[e] <;> first | exact wM _ | exact Nat.le_add_right _ _
 exact j.fpOk i (j.hok.fresh i)
section
variable {X:Cx}
def rNil (K:W.Frag) (neg:Bool):V->V->Hp->VK->Prop:=λx y H Q=>∃a b xs,x=.ref a/\y=.ref b/\SqL K H a xs/\H b=some (.lst [])/\Q (.bl (if neg then !xs.isEmpty else xs.isEmpty)) H
theorem gc (K:W.Frag) (p:X.A.units+64<cLine) (L:X.K=K := by rfl):OpR X (compareOp .Eq) (rNil K false) := by
 subst L;intro m s N H x y v u Q I w z h;obtain⟨a,b,xs,rfl,rfl,A,F,q⟩:=h;cases w;cases z;obtain⟨i,j,l,O⟩:=I.list A;obtain⟨B,g,k,_⟩:=I.list (a:=b) (xs:=[]) (.of F);cases g;have J:=j.length;cases xs with
 | nil =>
  cases j;obtain⟨o,e,c,n,d⟩:=l.isList;obtain⟨M,D,C,P,t⟩:=k.isList;have G:Reads s.heap (.ref a) (.list []) _:=.list e c d (by simpa using ReadsAll.nil);have E:Reads s.heap (.ref b) (.list []) _:=.list D C t (by simpa using ReadsAll.nil);exact eq_dataH G E rfl rfl p ⟨.bl _,H,I,rfl,q⟩
 | cons x r =>
  have f:(i.toArray.size != ([]:LW).toArray.size)=true:=by
   rw[bne_iff_ne,xh,<- J];simp
  exact SeqAt.eq_list_lengthsAt l.isList k.isList f (by omega) ⟨.bl false,H,I,rfl,q⟩
end
section
variable {X:Cx}
def wD (K:W.Frag):V->V->Hp->VK->Prop:=λx y H Q=>∃a b xs,x=.ref a/\y=.ref b/\SqT K H a xs/\H b=some (.tup [])/\Q (.bl xs.isEmpty) H
theorem kU (K:W.Frag) (z:X.A.units+64<cLine) (t:X.K=K := by rfl):OpR X (compareOp .Eq) (wD K) := by
 subst t;intro g s D H x y v u Q I j k h;obtain⟨a,b,xs,rfl,rfl,l,p,q⟩:=h;cases j;cases k;obtain⟨c,d,o,B⟩:=I.tuple l;obtain⟨m,f,n,_⟩:=I.tuple (a:=b) (xs:=[]) (.of p);cases f;have C:=d.length;refine SeqAt.eq_tupleAt (e:=λ_=>true) (show s.heap.IsTuple a c.toArray from o) (show s.heap.IsTuple b (List.toArray []) from n) (by omega) (λi A w=>absurd w (by simp)) ⟨.bl _,H,I,rfl,?_⟩;have e:((List.range (min c.toArray.size (List.toArray ([]:LW)).size)).all (λ_=>true)&&c.toArray.size==(List.toArray ([]:LW)).size)=xs.isEmpty:=by
  cases xs with
  | nil=>cases d;rfl
  | cons x r =>
   cases c with
   | nil=>cases d
   | cons y q=>simp
 rw[e];exact q
end
end L2
open PySem
namespace PySem.SeqAt
theorem tuple_indexAt (l:Addr) (items:Array Value) (n:Nat) (dd:Option Addr) (sl:Array (OV)) (x:Value) (e:Value -> Bool) (j:Nat) (I:j<items.size)
    (p:e items[j]=true) (f:∀m (z:m<items.size),m<j->e items[m]=false) :
    Meets (Builtin.«tuple.index» ⟨[.ref l,x],[]⟩)
     (λA R s=>s.heap.get? l=some { cls:=.type "tuple",dict:=dd,data:=.seq items n,slots:=sl }/\(∀y,y∈items->EqAt A.in1 s y x (e y))/\R (.ok (.ret (.int j s.toks))) { s with toks:=s.toks+1 }) :=
 .of_wp λa w A R s h => by
  obtain⟨H,g,d,G,D⟩:=s;obtain⟨C,t,h⟩:=h;unfold Builtin.«tuple.index»;simp only[Std.Legacy.Range.forIn_eq_forIn_range']
  wp_walk using wpAny_loadPart' C,wpAny_forIn_list _ (λaM b r=>b.1=none/\r=⟨H,g,d,G,D⟩/\∃i,i<=j/\aM=List.range' i (items.size-i)) _
  ·rintro i aM ⟨u,B⟩ r ⟨E,rfl,k,F,c⟩;have o:0<items.size-k:=by omega
   obtain⟨m,z⟩:∃m,items.size-k=m+1:=⟨_,(Nat.succ_pred_eq_of_pos o).symm⟩
   rw[z,List.range'_succ] at c;obtain⟨rfl,rfl⟩:=List.cons.inj c;have v:items[i]? = some (items[i]'(by omega)):=by simp
   rw[v];refine wJ (t _ (Array.getElem_mem (by omega)) a w _ _ ?_);by_cases q:i=j
   ·subst q;rw[p]
    wp_walk
    exact⟨_,rfl,h⟩
   ·rw[f i (by omega) (by omega)]
    wp_walk
    refine⟨rfl,rfl,i+1,by omega,?_⟩;rw[show items.size-(i+1)=m by omega]
  ·rintro⟨u,B⟩ r ⟨E,rfl,k,F,c⟩;exfalso;have:=congrArg List.length c;simp at this;omega
  ·refine⟨rfl,rfl,0,xt _,?_⟩;rw[Std.Legacy.Range.size];simp
end PySem.SeqAt
namespace HT
open PySem PySem.Spec PyProof.Rows
variable {prog:Program}{w:World}{A:Around}{E:QS}{s:Shared}
theorem pair_back (g:IsTup s.heap t #[a,b]) (j:s.heap.IsSliceOf q .none .none (.int (-1) k))
    (h:Q (.ref s.heap.objs.size) { s with heap:=s.heap.push { cls:=.type "tuple",data:=.seq #[b,a] } }):wpAny (model prog w) A (getItem (.ref t) (.ref q)) Q E s:=by
 obtain⟨o,d,i,f⟩:=id j;have n:s.TypeIs (.ref q) "slice":=⟨o,d,i⟩
 have c:sizeOk (.seq #[b,a]):=by show (2:Nat)<=sizeLine;decide
 unfold getItem
 try with_reducible refine xF ?_
 first | refine wJ (wN ?_) | skip
 refine wJ (wpAny_sequenceKey g.typeIs (by decide) (wJ (wpAny_callSpecial?_slot (name:=Str.ofString "__getitem__") g.typeIs slot_tuple_getitem (wpAny_call_entry slot_tuple_getitem g.typeIs entry_tuple_getitem ?_ (args_tuple_getitem _ _)))));show wpAny _ _ (Builtin.Tuple.tupleItemsOf (.ref t) >>= _) _ _ s;refine wJ (tupleItemsOf_ g (wJ (wpAny_typeOf n ?_)));rw[if_pos (by decide)];refine wJ ?_;unfold Builtin.Slice.sliceApplied Builtin.Slice.sliceFields;refine wJ (wJ (xz d f (x:=.none) rfl (wJ (xz d f (x:=.none) rfl (wJ (xz d f (x:=.int (-1) k) rfl (wN ?_)))))));refine wJ (slicePart_int ?_);show wpAny _ _ (if ((-1:Int)==0)=true then _ else _) _ _ s;rw[if_neg (by decide)];refine wJ (slicePart_none (wJ (slicePart_none (wJ (wN ?_)))));refine wN ?_;have l:((-1:Int)<0)=True:=by simp
 have p:Builtin.Slice.slicePlaces (((#[a,b]:Array Value).size:Int)-1) (-1) (-1)=2:=by show Builtin.Slice.slicePlaces (2-1) (-1) (-1)=2;decide
 simp only[Option.getD_some,l,if_true];rw[p];have e:(List.filterMap (λk:Nat=>(#[a,b]:Array Value)[((1:Int)+(k:Int) * (-1)).toNat]?) (List.range 2)).toArray=#[b,a]:=rfl;show wpAny _ _ (if ((1:Int)==0&&(-1:Int)==1&&(2:Nat)==2)=true then _ else (do let x ← Builtin.Tuple.tupleExact (List.filterMap (λk:Nat=>(#[a,b]:Array Value)[((1:Int)+(k:Int) * (-1)).toNat]?) (List.range 2)).toArray;ret x)) _ _ s;rw[if_neg (by decide),e]
 first
  | exact wJ (m:=Builtin.Tuple.tupleExact _) (wpAny_newObj_type (wN ⟨_,rfl,wN h⟩) c)
  | exact wJ (m:=Builtin.Tuple.tupleExact _) (wpAny_newObj_type (wJ (wN (wN ⟨_,rfl,wN h⟩))) c)
  | exact wJ (wJ (m:=Builtin.Tuple.tupleExact _) (wpAny_newObj_type (wN (wN ⟨_,rfl,wN h⟩)) c))
  | exact wJ (wJ (m:=Builtin.Tuple.tupleExact _) (wpAny_newObj_type (wN ⟨_,rfl,wN h⟩) c))
end HT
namespace L2
open PySem PySem.Spec PyProof.Rows
section
variable {X:Cx}
def wo (K:W.Frag) (te:TE) (ts:TO):TE:=λσ H Q=>te σ H λx H1=>ts σ H1 λi H2=>∃a y z,i=some (-1)/\x=.ref a/\SqT K H2 a [y,z]/\∀l,H2 l=none->Q (.ref l) (upd H2 l (.tup [z,y]))
theorem uj (K:W.Frag) {e st:Expr}{te:TE}{ts:TO}{B pos:Pos}(he:PE X e te) (g:PO X (some st) ts) (P:X.K=K:=by rfl):PE X (.Subscript e (.Slice none none (some st) B) pos) (wo K te ts):=by
 subst P;intro c s f H Q I h;refine Subscript_ (thn (he c s f H _ I h) λv E ⟨x,p,F,j,N⟩=>wpAny_Slice ?_);rw[evalPart_none];refine wN (wN (thn (g c E f p _ F N) λA d ⟨i,J,u,n,L⟩=>?_));obtain⟨a,y,z,rfl,rfl,D,q⟩:=L;cases j;obtain⟨k,rfl⟩:∃k,A=.int (-1) k:=by
  cases n with
  | int i t=>exact⟨_,rfl⟩
 have l:Inv X c f J { d with heap:=d.heap.push { cls:=.type "slice",data:=.fields #[.none,.none,.int (-1) k] } }:=u.kept (t':=d.toks) λb C q=>xb _ q;obtain⟨M,r,m,R⟩:=l.tuple D;obtain⟨O,G,rfl,j,w⟩:=gx r;show wpAny (model X.prog X.w) X.A (subscriptTail e (.Slice none none (some st) B) (.ref a) (.ref d.heap.objs.size)) (EP X c f Q) X.xe { d with heap:=d.heap.push { cls:=.type "slice",data:=.fields #[.none,.none,.int (-1) k] } };refine tail_any (ops:=[.ref a,.ref d.heap.objs.size]) m.typeIs slot_tuple_getitem.lookup ?_ (by with_unfolding_all rfl);refine HT.pair_back m (Heap.IsSliceOf.new ..) ?_;refine⟨.ref _,_,l.laid (t':=d.toks) (o:=.tup [z,y]) (λb C q=>xb _ q) (wM _) ?_,rfl,q _ (l.hok.fresh (wM _))⟩;exact⟨by show (2:Nat)<=sizeLine;decide,[G,O],.cons w (.cons j .nil),TupN.new _ _⟩
def ke:V->LV->Hp->VK->Prop:=λx vs H Q=>∃l xs y j z,x=.ref l/\vs=[y]/\H l=some (.tup xs)/\dO y=true/\xs.all dO=true/\xs[j]? = some z/\eqV z y=true/\(∀(m:Nat) z',m<j->xs[m]? = some z'->eqV z' y=false)/\Q (.int ((j:Nat):Int)) H
theorem hW (a b:Value):argsOk "tuple.index" ⟨[a,b],[]⟩:=by
 unfold argsOk;rw[signature?_of (id:="tuple.index") (n:=['x','e','d','n','i']) (o:=['e','l','p','u','t']) (by kernel_rfl) F.owner_tuple];kernel_rfl
theorem pB:MtR X "tuple.index" ke:=by
 intro K s σ H x vs v us Q I M N h;obtain⟨l,G,y,j,z,rfl,rfl,L,T,C,B,P,k,q⟩:=h;cases M;obtain⟨u,rfl,O⟩:=cK N;obtain⟨Z,a,r,⟨oc,od,W,R⟩,e,J,n,E,_⟩:=(show ObjOk X.prog X.w H s.heap l (.tup G) from I.hok l _ L)
 simp only at J E;subst J E;have V:=(wO.mp B).1;have D:=r.length;have d:∀m (i:m<a.length),∃c,G[m]? = some c/\eqU y a[m]=eqV c y:=λm i=>by
  obtain⟨c,f,S⟩:=sd r (wS i);exact⟨c,f,lD S (xM.mp C c (wP f))⟩
 have t:j<a.toArray.size:=by simpa using (by omega:j<a.length)
 refine call_meets F.slot_tuple_index ⟨_,e,rfl⟩ F.entry_tuple_index (hW _ _) (SeqAt.tuple_indexAt l a.toArray n _ _ u (eqU y) j t ?_ ?_) ⟨e,λw U=>ff O T r C w (by simpa using U),⟨.int _,H,?_,⟨_,rfl⟩,q⟩⟩
 ·obtain⟨c,g,A⟩:=d j (by omega);rw[B] at g;cases g;simpa using A.trans P
 ·intro m i p;obtain⟨c,g,A⟩:=d m (by simpa using i);simpa using A.trans (k m c p g)
 ·exact I.kept λb o Y=>Y
end
theorem oh (G:X.calm=true) (K:X.A.units+64<cLine) {xs:LV}{oi:Nat->HO}(I:Inv X pins σ H s) (A:H p=some (.tup xs)) (h0:oi 0=.dK [])
    (w:∀(i:Nat) (x:V),xs[i]? = some x->∃b k v,x=V.ref b/\SqT X.K H b [k,v]/\∀l,H l=none->DPut (upd H l (oi i)) l k v (upd H l (oi (i+1)))) (q:∀l,H l=none->Q (.ref l) (upd H l (oi xs.length))) :
    wpAny (model X.prog X.w) X.A (call (.type "dict") [.ref p]) (EP X pins σ Q) X.xe s:=by
 refine callType_codes (Q₁:=λg c=>g=.ref s.heap.objs.size/\c={ s with heap:=s.heap.push { cls:=.type "dict",data:=.dict #[] } }) F.kt_called_dict (F.kt_typeCall_dict_1 _) F.entry_dict_init (kt_code_dict_new _ ⟨rfl,rfl⟩) ?_;rintro g c ⟨rfl,rfl⟩;have r:H s.heap.objs.size=none:=I.hok.fresh (wM _);have j:p≠s.heap.objs.size:=aJ A r;have D:Inv X pins σ (upd H s.heap.objs.size (oi 0)) { s with heap:=s.heap.push { cls:=.type "dict",data:=.dict #[] } }:=by
  refine I.laid (a:=s.heap.objs.size) (o:=oi 0) (t':=s.toks) (λ_ _ q=>xb _ q) (wM _) ?_;rw[h0];exact ji s.heap I.big
 have E:(⟨s.heap.push { cls:=.type "dict",data:=.dict #[] },s.gens,s.drawn,s.toks,s.os⟩:Shared).TypeIs (.ref s.heap.objs.size) "dict":=⟨_,xl _ rfl,rfl⟩
 refine⟨E,F.args_dict_init_2 _ _,?_⟩;unfold Builtin.«dict.__init__» Builtin.Dict.selfAndRest;refine wJ (wJ (wpAny_notOrdered_dict E ?_));show wpAny _ _ (pure (s.heap.objs.size,[Value.ref p])) _ _ _;refine wN ?_;show wpAny _ _ (Builtin.Dict.updateFrom "dict.__init__" s.heap.objs.size (.ref p) [] .none) _ _ _;unfold Builtin.Dict.updateFrom;have N:X.A.in1.in1.handled=none:=I.ok.hd G;have f:upd H s.heap.objs.size (oi 0) p=some (.tup xs):=by rw[az j];exact A
 obtain⟨hz,a0,rv,o,C,h,n,y,z⟩:=(show ObjOk X.prog X.w _ _ p (.tup xs) from D.hok p _ f)
 refine wJ (wpAny_typeOf (T:="tuple") ⟨o,C,h⟩ ?_);rw[if_pos (by decide)];refine wJ (lA C h y z N λh' J O=>?_);have m:=D.kept (h':=h') (t':=J) O;refine wJ (wpAny_rule (wJ ?_));obtain⟨B,Z,u,S⟩:=m.tuple (SqT.of f);refine wpAny_pyIter_tuple u ?_;refine wN ⟨plainId_quiet DU.plain_loop _,?_⟩;have d:∀i,SqT X.K (upd H s.heap.objs.size (oi i)) p xs:=λi=>.of (by rw[az j];exact A);refine oW (nm:="x") (tp:=default) (jy p h'.objs.size) G K s.heap.objs.size xs.length (λi t=>t=upd H s.heap.objs.size (oi i)) (λi t L e=>?_) (λt e=>?_) _ 0 0 _ _ rfl (xt _) (m.kept (t':=J) λb o e=>xb _ e) (λb Y=>?_) ⟨_,xl _ rfl,rfl,rfl⟩ rfl λt s' R e=>?_
 ·subst e;refine⟨⟨xs,xs[i],d i,wS L⟩,λx H1 ⟨M,U⟩=>?_⟩;subst M;obtain⟨b,k,v,W,P,dp⟩:=w i x (U xs (d i));exact⟨b,k,v,_,W,P.fresh r,dp _ r,rfl⟩
 ·subst e;exact⟨xs,d _,wM _⟩
 ·have e:b=h'.objs.size:=by simpa using Y
  subst e;exact m.fpOk (wM _) (m.hok.fresh (wM _))
 ·subst e;exact⟨rfl,.ref _,_,R,rfl,q _ r⟩
def lQ (K:W.Frag):LV->Hp->VK->Prop:=λvs H Q=>∃p xs,∃ps:KV_,vs=[.ref p]/\H p=some (.tup xs)/\xs.length=ps.length/\xs.length<=1000 /\
 (∀(i:Nat) (q:Key × V) (x:V),ps[i]? = some q->xs[i]? = some x->∃b,x=V.ref b/\SqT K H b [kV q.1,q.2])/\∀l,H l=none->Q (.ref l) (upd H l (.dK (mkK ps)))
section
variable {X:Cx}{p pos:Pos}{e:Expr}{t:TA}
theorem fW (K:W.Frag) (F:X.calm=true) (o:X.A.units+64<cLine) (B:Blt X.mg) (w:PA X [e] t) (C:Gl X "dict":=by rfl) (he:starEach [e] X.env=(false,eval e X.env)::starEach [] X.env:=by rfl) (hpl:(backTo pos (starEach [] X.env)).any (·.1)=false:=by rfl) (G:X.K=K:=by rfl) :
    PE X (.Call (.Name "dict" p) [e] [] pos) (tCB (lQ K) t):=by
 subst G;refine fM (r:=lQ X.K) (λn s M H z O Q I r h=>?_) C B.dict (show bootBuiltins "dict"=some (.type "dict") by decide +kernel) w (by decide) (by decide) he hpl;obtain⟨p,z,c,rfl,E,j,N,J,q⟩:=h;obtain⟨u,rfl,A⟩:=cK r;cases A;have L:1000<sizeLine:=by decide
 refine oh F o (oi:=λi=>.dK (mkK (c.take i))) I E rfl (λi x m=>?_) λl f=>?_
 ·have g:i<c.length:=by rw[<- j];exact(wO.mp m).1
  obtain⟨b,D,y⟩:=J i c[i] x (wS g) m;refine⟨b,kV c[i].1,c[i].2,D,y,λl f=>?_⟩;have d:=DPut.k (H:=upd H l (.dK (mkK (c.take i)))) (a:=l) (kvs:=mkK (c.take i)) (k:=c[i].1) (v:=c[i].2) aj (by have:=vv (c.take i);rw[xx] at this;omega);rw[jV,<- rQ c i c[i] (wS g)] at d;exact d
 ·rw[j,List.take_length];exact q l f
end
end L2
namespace L2
open PySem
abbrev Kn:=List (Str × LS)
def br (ks:Kn):LS:=ks.flatMap (·.2)
def bg (ks:Kn) (u:Str):Str:=((ks.find? λk=>decide (u∈k.2)).map (·.1)).getD ""
theorem cO {xs ys:LS}(a:xs.Nodup) (h:∀x∈xs,x∈ys):xs.length<=ys.length:=by
 induction xs generalizing ys with
 | nil=>exact xt _
 | cons x xs ih =>
  rw[xB] at a;have c:=h x (by simp);have p:=(List.perm_cons_erase c).length_eq;rw[xc] at p ⊢;have:=ih (ys:=ys.erase x) a.2 λz b=>(List.mem_erase_of_ne (λq:z=x=>a.1 (q ▸ b))).mpr (h z (xo _ b));omega
structure Tre (us:LS) (ks:Kn):Prop where
 perm:(br ks).Perm us
 nd:us.Nodup
 nm:∀u∈us,Nm u
 len:us.length<=60
 top:("":Str)∈ks.map (·.1)
 kn:(ks.map (·.1)).Nodup
 sub:∀k∈ks,k.1=""∨k.1∈us
 up:∀k∈ks,∀u∈k.2,k.1=""∨MG.ix us k.1<MG.ix us u
section
variable {us:LS}{ks:Kn}
theorem Tre.knd (T:Tre us ks):(br ks).Nodup:=T.perm.nodup_iff.mpr T.nd
theorem Tre.has (T:Tre us ks) (h:u∈us):∃k∈ks,u∈k.2:=by
 have:=T.perm.mem_iff.mpr h;exact xL.mp this
theorem Tre.isIn (T:Tre us ks) (b:k∈ks) (a:u∈k.2):u∈us:=T.perm.mem_iff.mp (xL.mpr ⟨k,b,a⟩)
theorem em:∀ {ks:Kn}, (br ks).Nodup -> ∀ {k k':Str × LS}{u:Str}, k ∈ ks -> k' ∈ ks -> u ∈ k.2 -> u ∈ k'.2 -> k=k'
 | [],_,_,_,_,h,_,_,_=>by cases h
 | q :: ks, nd, k, k', u, h, h', hu, hu' => by
  have nd:(q.2++br ks).Nodup:=nd;rw[xY] at nd;obtain⟨_,n2,n3⟩:=nd;rcases wY.mp h with e | g
  ·rcases wY.mp h' with e' | g'
   ·rw[e,e']
   ·subst e;exact absurd rfl (n3 u hu u (xL.mpr ⟨k',g',hu'⟩))
  ·rcases wY.mp h' with e' | g'
   ·subst e';exact absurd rfl (n3 u hu' u (xL.mpr ⟨k,g,hu⟩))
   ·exact em n2 g g' hu hu'
theorem nJ:∀ {ks:Kn}, (ks.map (·.1)).Nodup -> ∀ {k k':Str × LS}, k ∈ ks -> k' ∈ ks -> k.1=k'.1 -> k=k'
 | [],_,_,_,h,_,_=>by cases h
 | q :: ks, nd, k, k', h, h', e0 => by
  rw[xr,xB] at nd;rcases wY.mp h with e | g
  ·rcases wY.mp h' with e' | g'
   ·rw[e,e']
   ·subst e;exact absurd (e0 ▸ wX.mpr ⟨k',g',rfl⟩) nd.1
  ·rcases wY.mp h' with e' | g'
   ·subst e';exact absurd (e0 ▸ wX.mpr ⟨k,g,rfl⟩) nd.1
   ·exact nJ nd.2 g g' e0
theorem Tre.par (T:Tre us ks) (b:k∈ks) (a:u∈k.2):bg ks u=k.1:=by
 unfold bg;cases q:ks.find? λk=>decide (u∈k.2) with
 | none =>
  have:=List.find?_eq_none.mp q k b;exact absurd (wQ a) this
 | some k' =>
  have c:=List.find?_some q;have d:=yC q;rw[em T.knd b d a (xf c)];rfl
theorem Tre.par_in (T:Tre us ks) (h:u∈us):(bg ks u=""∨bg ks u∈us)/\bg ks u∈ks.map (·.1):=by
 obtain⟨k,a,b⟩:=T.has h;rw[T.par a b];exact⟨T.sub k a,wX.mpr ⟨k,a,rfl⟩⟩
theorem Tre.kid (T:Tre us ks) (h:u∈us) (d:(bg ks u,c)∈ks):u∈c:=by
 obtain⟨k,a,b⟩:=T.has h;rw[T.par a b] at d;have:k=(k.1,c):=nJ T.kn a d rfl;rw[this] at b;exact b
theorem Tre.few (T:Tre us ks):ks.length<=61:=by
 have:=cO (ys:=""::us) T.kn λx a=>by
  obtain⟨k,b,rfl⟩:=wX.mp a;rcases T.sub k b with q | q
  ·rw[q];simp
  ·exact xo _ q
 rw[wK,xc] at this;have:=T.len;omega
def rkU (us:LS) (u:Str):Nat:=if u="" then 0 else MG.ix us u+1
theorem Tre.nn (T:Tre us ks) (h:u∈us):u≠"":=λz=>by
 have:=(T.nm u h).1;rw[z] at this;exact absurd this (by decide)
theorem Tre.rk (T:Tre us ks) (h:u∈us):rkU us (bg ks u)<rkU us u:=by
 obtain⟨k,b,a⟩:=T.has h;rw[T.par b a];unfold rkU;rw[if_neg (T.nn h)];rcases T.up k b u a with q | q
 ·rw[if_pos q];omega
 ·split
  ·omega
  ·omega
theorem Tre.rk60 (T:Tre us ks) (h:u∈us):rkU us u<=60:=by
 unfold rkU;rw[if_neg (T.nn h)];have:=MG.ix_lt h;have:=T.len;omega
def jg (par:Str->Str):Nat->Str->LS
 | 0,_=>[]
 | n+1,u=>if u="" then [] else jg par n (par u)++[u]
theorem Tre.stable (T:Tre us ks):∀(n m:Nat) (u:Str), u="" ∨ u ∈ us -> rkU us u<n -> rkU us u<m -> jg (bg ks) n u=jg (bg ks) m u
 | 0,_,_,_,h,_=>absurd h (Nat.not_lt_zero _)
 | _,0,_,_,_,h=>absurd h (Nat.not_lt_zero _)
 | n+1,m+1,u,hu,h1,h2=>by
  show (if u="" then [] else jg (bg ks) n (bg ks u)++[u])=(if u="" then [] else jg (bg ks) m (bg ks u)++[u])
  by_cases q:u=""
  ·rw[if_pos q,if_pos q]
  ·have hu:u∈us:=hu.resolve_left q;have:=T.rk hu;rw[if_neg q,if_neg q,T.stable n m (bg ks u) (T.par_in hu).1 (by omega) (by omega)]
def lin (ks:Kn) (u:Str):LS:=jg (bg ks) 100 u
theorem uo:lin ks ""=[]:=rfl
theorem Tre.lin (T:Tre us ks) (h:u∈us):lin ks u=L2.lin ks (bg ks u)++[u]:=by
 have a:=T.rk h;have b:=T.rk60 h;show (if u="" then [] else jg (bg ks) 99 (bg ks u)++[u])=_;rw[if_neg (T.nn h),T.stable 99 100 (bg ks u) (T.par_in h).1 (by omega) (by omega)];rfl
theorem Tre.lin_ind (T:Tre us ks) {P:Str -> Prop}(c:P "") (b:∀u ∈ us, P (bg ks u) -> P u):∀u:Str, u="" ∨ u ∈ us -> P u := by
 have d:∀n u, rkU us u<n -> u="" ∨ u ∈ us -> P u := by
  intro n
  induction n with
  | zero=>intro u h;omega
  | succ n ih =>
   intro u h a;by_cases q:u=""
   ·rw[q];exact c
   ·have a:=a.resolve_left q;have:=T.rk a;exact b u a (ih _ (by omega) (T.par_in a).1)
 intro u a;exact d _ u (Nat.lt_succ_self _) a
theorem Tre.lin_in (T:Tre us ks):∀u:Str,u=""∨u∈us->∀z∈L2.lin ks u,z∈us:=by
 refine T.lin_ind (P:=λu=>∀z∈L2.lin ks u,z∈us) (λz a=>by cases a) λu b c z a=>?_;rw[T.lin b] at a;rcases w8.mp a with q | q
 ·exact c z q
 ·rw[xa.mp q];exact b
theorem Tre.lin_len (T:Tre us ks):∀u:Str,u=""∨u∈us->(L2.lin ks u).length<=rkU us u:=by
 refine T.lin_ind (P:=λu=>(L2.lin ks u).length<=rkU us u) (xt _) λu a b=>?_;rw[T.lin a,w6];have:=T.rk a;show _+1<=_;omega
def Chn (par:Str->Str):Str->LS->Prop
 | _,[]=>True
 | k,x::r=>par x=k/\Chn par x r
theorem Chn.snoc:∀ {k:Str}{l:LS},Chn par k l->par u=(l.getLast?).getD k->Chn par k (l++[u])
 | k,[],_,h=>⟨h,trivial⟩
 | k,[x],c,h=>⟨c.1,h,trivial⟩
 | k,x::y::r,c,h=>⟨c.1,Chn.snoc (l:=y::r) c.2 (by rw[List.getLast?_cons_cons] at h;rw[h];cases q:(y::r).getLast? with | none=>simp at q | some z=>rfl)⟩
theorem Tre.lin_last (T:Tre us ks):∀u:Str,u=""∨u∈us->((L2.lin ks u).getLast?).getD ""=u:=by
 refine T.lin_ind (P:=λu=>((L2.lin ks u).getLast?).getD ""=u) rfl λu a _=>?_;rw[T.lin a];simp
theorem Tre.lin_chn (T:Tre us ks):∀u:Str,u=""∨u∈us->Chn (bg ks) "" (L2.lin ks u):=by
 refine T.lin_ind (P:=λu=>Chn (bg ks) "" (L2.lin ks u)) trivial λu a b=>?_;rw[T.lin a];exact b.snoc (T.lin_last _ (T.par_in a).1).symm
def prt:Str->LS->LS->Option (Str × Str × Str)
 | k,x::a,y::b=>if x=y then prt x a b else some (k,x,y)
 | _,_,_=>none
theorem iO:∀ {k:Str}{a b:LS}{q x y:Str}, Chn par k a -> Chn par k b -> prt k a b=some (q, x, y) -> par x=q /\ par y=q /\ x ∈ a /\ y ∈ b /\ x ≠ y
 | k,[],_,_,_,_,_,_,h=>by simp[prt] at h
 | k,_::_,[],_,_,_,_,_,h=>by simp[prt] at h
 | k,u::a,v::b,q,x,y,ca,cb,h=>by
  have h:(if u=v then prt u a b else some (k,u,v))=some (q,x,y):=h;by_cases e:u=v
  ·rw[if_pos e] at h;rw[<- e] at cb;obtain⟨h1,h2,h3,h4,h5⟩:=iO ca.2 cb.2 h;exact⟨h1,h2,xo _ h3,xo _ h4,h5⟩
  ·rw[if_neg e] at h;injection h with h;injection h with h1 h;injection h with h2 h3;subst h1 h2 h3;exact⟨ca.1,cb.1,by simp,by simp,e⟩
theorem lC:∀(k:Str) (a b:LS), prt k b a=(prt k a b).map λt => (t.1, t.2.2, t.2.1)
 | k,[],b=>by cases b <;> rfl
 | k,x::a,[]=>rfl
 | k,x::a,y::b=>by
  show (if y=x then prt y b a else some (k,y,x))=(if x=y then prt x a b else some (k,x,y)).map _;by_cases e:x=y
  ·subst e;rw[if_pos rfl,if_pos rfl];exact lC x a b
  ·rw[if_neg (λz=>e z.symm),if_neg e];rfl
def bt (ks:Kn) (u v:Str):Option (Str × Str × Str):=prt "" (lin ks u) (lin ks v)
theorem Tre.part (T:Tre us ks) (a:u∈us) (b:v∈us) (h:bt ks u v=some (q,x,y)):bg ks x=q/\bg ks y=q/\x∈us/\y∈us/\x≠y:=by
 obtain⟨c,f,d,e,g⟩:=iO (T.lin_chn u (.inr a)) (T.lin_chn v (.inr b)) h;exact⟨c,f,T.lin_in u (.inr a) x d,T.lin_in v (.inr b) y e,g⟩
abbrev tp (a:LS):LS:=("":Str)::a
def Gon (a b:LS) (i:Nat):Prop:=i=0∨(1<=i/\prt "" a b=prt ((tp a).getD (i-1) "") ((tp a).drop i) ((tp b).drop i))
theorem Gon.step (g:Gon a b i) (c:(tp a)[i]? = some x) (h:(tp b)[i]? = some x):Gon a b (i+1):=by
 right
 refine⟨by omega,?_⟩;rcases g with rfl | ⟨j,g⟩
 ·rfl
 ·have d:=(wO.mp c)
  have f:=(wO.mp h)
  have e:(tp a).getD (i+1-1) ""=x:=by rw[Nat.add_sub_cancel,xE,c];rfl
  rw[g,ym d.1,ym f.1,d.2,f.2,e];show (if x=x then _ else _)=_;rw[if_pos rfl]
theorem Gon.stop (g:Gon a b i) (h:i=min (a.length+1) (b.length+1)):prt "" a b=none := by
 rcases g with rfl | ⟨c,g⟩
 ·omega
 ·rw[g];by_cases q:a.length<=b.length
  ·rw[x9 (l:=tp a) (by rw[xc];omega)];rfl
  ·rw[x9 (l:=tp b) (by rw[xc];omega)];cases (tp a).drop i <;> rfl
theorem Gon.part (g:Gon a b i) (c:(tp a)[i]? = some x) (d:(tp b)[i]? = some y) (h:x≠y):1<=i/\prt "" a b=some ((tp a).getD (i-1) "",x,y):=by
 rcases g with rfl | ⟨j,g⟩
 ·exfalso;injection c with c;injection d with d;exact h (c.symm.trans d)
 ·have e:=(wO.mp c)
  have f:=(wO.mp d)
  refine⟨j,?_⟩;rw[g,ym e.1,ym f.1,e.2,f.2];show (if x=y then _ else _)=_;rw[if_neg h]
end
def fb (k:Str × LS):PyData:=.tuple [.str k.1,.tuple (k.2.map PyData.str)]
def cB (ks:Kn):PyData:=.tuple (ks.map fb)
def cZ (ps:List (Str × Str)):PyData:=.tuple (ps.map aK)
def aZ (ks:Kn) (ts ws wn:List (Str × Str)):PyData:=.tuple [cB ks,cZ ts,cZ ws,cZ wn]
section
variable {H H':Hp}
theorem ka (h:Rep H v (fb k)):∃ta B,v=.ref ta/\H ta=some (.tup [.str k.1,.ref B])/\H B=some (.tup (k.2.map V.str)):=by
 obtain⟨q,r,rfl,n,e⟩:=Rep.tupI h;obtain⟨y,p,rfl,j,c⟩:=e.consI;obtain⟨z,s,rfl,f,a⟩:=c.consI;have d:=RepAll.nilI a;subst d;have m:=Rep.strI j;subst m;obtain⟨b,o,rfl,l,g⟩:=Rep.tupI f;have i:=RepAll.strs g;subst i;exact⟨q,b,rfl,n,l⟩
theorem iV {z:LV}{ks:Kn}(b:RepAll H z (ks.map fb)) {i:Nat}{x:V}(c:z[i]? = some x):∃k ta B,ks[i]? = some k/\x=.ref ta/\H ta=some (.tup [.str k.1,.ref B])/\H B=some (.tup (k.2.map V.str)):=by
 obtain⟨d,a,rd⟩:=b.get c;rw[wW] at a;cases q:ks[i]? with
 | none=>rw[q] at a;cases a
 | some e =>
  rw[q] at a;have a:fb e=d:=wR a;rw[<- a] at rd;obtain⟨ta,B,f,h,g⟩:=ka rd;exact⟨e,ta,B,rfl,f,h,g⟩
theorem gg (h:Rep H v (cB ks)):∃a q,v=.ref a/\H a=some (.tup q)/\RepAll H q (ks.map fb):=Rep.tupI h
theorem bo (h:Rep H v (cZ ps)):∃a q,v=.ref a/\H a=some (.tup q)/\RepAll H q (ps.map aK):=Rep.tupI h
theorem bc (h:Rep H v (aZ ks ts B wn)):∃q a b c d,v=.ref q/\H q=some (.tup [.ref a,.ref b,.ref c,.ref d])/\Rep H (.ref a) (cB ks)/\Rep H (.ref b) (cZ ts)/\Rep H (.ref c) (cZ B)/\Rep H (.ref d) (cZ wn):=by
 obtain⟨q,w,rfl,s,n⟩:=Rep.tupI h;obtain⟨y,t,rfl,i,l⟩:=n.consI;obtain⟨z,u,rfl,f,j⟩:=l.consI;obtain⟨A,k,rfl,g,r⟩:=j.consI;obtain⟨x,o,rfl,e,p⟩:=r.consI;have m:=RepAll.nilI p;subst m;obtain⟨a,_,rfl,_⟩:=Rep.tupI i;obtain⟨b,_,rfl,_⟩:=Rep.tupI f;obtain⟨c,_,rfl,_⟩:=Rep.tupI g;obtain⟨d,_,rfl,_⟩:=Rep.tupI e;exact⟨q,a,b,c,d,rfl,s,i,f,g,e⟩
theorem ic (f:H q=some (.tup [.ref a,.ref b,.ref c,.ref d])) (i:Rep H (.ref a) (cB ks)) (h:Rep H (.ref b) (cZ ts)) (g:Rep H (.ref c) (cZ z)) (e:Rep H (.ref d) (cZ wn)):Rep H (.ref q) (aZ ks ts z wn) :=
 .tup f (.cons i (.cons h (.cons g (.cons e .nil))))
theorem aP (c:H p=some (.lst ys)) (b:But p H H') (h:H a=some (.tup xs)):H' a=some (.tup xs):=b a _ (cC h c (by intro z;cases z)) h
theorem aN (c:H p=some (.lst ys)) (b:But p H H') (h:Rep H v (aK e)):Rep H' v (aK e):=by
 obtain⟨a,rfl,d⟩:=ku h;exact bx (aP c b d)
theorem aS (k:∀ {v:V}{e:α},Rep H v (f e)->Rep H' v (f e)):∀ {es:List α}{xs:LV},RepAll H xs (es.map f)->RepAll H' xs (es.map f)
 | [],xs,h=>by rw[RepAll.nilI h];exact .nil
 | e::es,xs,h=>by
  obtain⟨y,ys',rfl,a,c⟩:=RepAll.consI h;exact .cons (k a) (aS k c)
theorem gk (c:H p=some (.lst ys)) (b:But p H H') (h:Rep H v (cZ ps)):Rep H' v (cZ ps):=by
 obtain⟨a,e,rfl,d,r⟩:=bo h;exact .tup (aP c b d) (aS (aN c b) r)
theorem gB (a:H p=some (.lst ys)) (b:But p H H') (h:Rep H v (fb k)):Rep H' v (fb k):=by
 obtain⟨e,f,rfl,c,d⟩:=ka h;exact .tup (aP a b c) (.cons (.str _) (.cons (.tup (aP a b d) (RepAll.of_strs _)) .nil))
theorem dI (c:H p=some (.lst ys)) (b:But p H H') (h:Rep H v (cB ks)):Rep H' v (cB ks):=by
 obtain⟨a,e,rfl,d,r⟩:=gg h;exact .tup (aP c b d) (aS (gB c b) r)
theorem aI (f:H p=some (.lst ys)) (b:But p H H') (h:Rep H v (aZ ks ts z wn)):Rep H' v (aZ ks ts z wn):=by
 obtain⟨q,a,c,d,e,rfl,i,l,k,j,g⟩:=bc h;exact ic (aP f b i) (dI f b l) (gk f b k) (gk f b j) (gk f b g)
end
def ArK (kvs:KV_) (us:LS) (ks:Kn):Prop:=∀u∈us,bn kvs (.inr u)=some (.str (bg ks u))
theorem fv (a b:Kn):br (a++b)=br a++br b:=List.flatMap_append
theorem gw {ks:Kn}{i:Nat}{k:Str × LS}(h:ks[i]? = some k):br (ks.take (i+1))=br (ks.take i)++k.2:=by
 rw[xg,h,fv];show _++([k].flatMap (·.2))=_;simp
structure ArN (H H':Hp) (d:Addr) (ks:Kn) (i j:Nat) (kvs:KV_):Prop where
 sm:Same H H'
 at_:H' d=some (.dK kvs)
 len:kvs.length<=(br (ks.take i)).length+j
 old:∀k∈ks.take i,∀u∈k.2,bn kvs (.inr u)=some (.str k.1)
 cur:∀k,ks[i]? = some k->∀u∈k.2.take j,bn kvs (.inr u)=some (.str k.1)
section
variable {H H':Hp}{d:Addr}{ks:Kn}{i j:Nat}{kvs:KV_}
theorem ArN.put (h:ArN H H' d ks i j kvs) (v:H d=none) (p:(br ks).Nodup) {k:Str × LS}(m:ks[i]? = some k) {u:Str}(r:k.2[j]? = some u) :
    ArN H (upd H' d (.dK (bh kvs (.inr u) (.str k.1)))) d ks i (j+1) (bh kvs (.inr u) (.str k.1)):=by
 have n:(br (ks.take i)++k.2).Nodup:=by
  rw[<- gw m];have e:br ks=br (ks.take (i+1))++br (ks.drop (i+1)):=by rw[<- fv,yn]
  rw[e] at p;exact(xY.mp p).1
 obtain⟨_,w,t⟩:=xY.mp n;have l:=wP r;refine⟨λb o s=>?_,aj,?_,λg a f c=>?_,λg a f c=>?_⟩
 ·rw[az (aJ s v)];exact h.sm _ _ s
 ·have:=cD kvs (.inr u) (V.str k.1);have:=h.len;omega
 ·rw[gj,if_neg (λz=>t f (xL.mpr ⟨g,a,c⟩) u l (by injection z))];exact h.old g a f c
 ·rw[m] at a;cases a;rw[xg,r] at c;rw[gj];by_cases q:f=u
  ·subst q;rw[if_pos rfl]
  ·rw[if_neg (λz=>q (by injection z))];rcases w8.mp c with z | z
   ·exact h.cur k m f z
   ·exact absurd (by simpa using z) q
theorem ArN.next (h:ArN H H' d ks i j kvs) {k:Str × LS}(e:ks[i]? = some k) (f:j=k.2.length):ArN H H' d ks (i+1) 0 kvs := by
 subst f;refine⟨h.sm,h.at_,?_,λc a u b=>?_,λc _ u b=>by simp at b⟩
 ·rw[gw e,w6];exact h.len
 ·rw[xg,e] at a;rcases w8.mp a with z | z
  ·exact h.old c z u b
  ·have:c=k:=by simpa using z
   subst this;exact h.cur c e u (by rw[xk (wM _)];exact b)
theorem ArN.room (h:ArN H H' d ks i j kvs) {k:Str × LS}(b:ks[i]? = some k) (c:j<k.2.length) (a:(br ks).length<=60):kvs.length<=60:=by
 have e:br ks=br (ks.take (i+1))++br (ks.drop (i+1)):=by rw[<- fv,yn]
 rw[e,gw b,w6,w6] at a;have:=h.len;omega
theorem ArN.fin (h:ArN H H' d ks i 0 kvs) (T:Tre us ks) (e:i=ks.length):ArK kvs us ks:=λu c=>by
 obtain⟨k,b,a⟩:=T.has c;rw[T.par b a];subst e;exact h.old k (by rw[xk (wM _)];exact b) u a
end
def PrtV (H:Hp) (v:V):Option (Str × Str × Str)->Prop
 | none=>v=.non
 | some (k,x,y)=>∃t,v=.ref t/\H t=some (.tup [.str k,.str x,.str y])
theorem PrtV.same (h:PrtV H v o) (s:Same H H'):PrtV H' v o:=by
 cases o with
 | none=>exact h
 | some q=>obtain⟨t,e,a⟩:=h;exact⟨t,e,s _ _ a⟩
abbrev KL:=List (Addr × Addr × (Str × LS))
structure KLs (H:Hp) (L p:Addr) (kl:KL):Prop where
 l:H L=some (.lst (kl.map λq=>V.ref q.1))
 t:∀q∈kl,H q.1=some (.tup [.str q.2.2.1,.ref q.2.1])
 c:∀q∈kl,H q.2.1=some (.lst (List.map V.str q.2.2.2))
 nd:(kl.map λq=>q.2.1).Nodup
 nl:∀q∈kl,q.2.1≠L/\q.2.1≠p
 lp:L≠p
abbrev ck (kl:KL):Kn:=kl.map λq=>q.2.2
section
variable {H H':Hp}{L p:Addr}{kl:KL}
theorem KLs.draw (h:KLs H L p kl) (c:H p=some (.lst ys)) (b:But p H H'):KLs H' L p kl :=
 ⟨b _ _ h.lp h.l,λq a=>aP c b (h.t q a),λq a=>b _ _ (h.nl q a).2 (h.c q a),h.nd,h.nl,h.lp⟩
theorem KLs.same (h:KLs H L p kl) (s:Same H H'):KLs H' L p kl:=⟨s _ _ h.l,λq a=>s _ _ (h.t q a),λq a=>s _ _ (h.c q a),h.nd,h.nl,h.lp⟩
theorem fU {α:Type}{l:List α}{j:Nat}{b x:α}(h:x∈l.set j b):x=b∨∃m,m≠j/\l[m]? = some x:=by
 obtain⟨m,a⟩:=xI h;by_cases q:m=j
 ·subst q;rw[List.getElem?_set] at a;rw[if_pos rfl] at a
  split at a
  ·exact .inl (wR a).symm
  ·cases a
 ·rw[List.getElem?_set_ne (Ne.symm q)] at a;exact .inr ⟨m,q,a⟩
theorem fz {α β:Type}{f:α->β}{l:List α}{j:Nat}{x y:α}(h:l[j]? = some x) (e:f y=f x):(l.set j y).map f=l.map f:=by
 rw[List.map_set,e];refine List.ext_getElem? λm=>?_;rw[List.getElem?_set]
 split
 ·rename_i q
  subst q;have:=(wO.mp h).1;rw[wK,if_pos this,wW,h];rfl
 ·rfl
theorem KLs.put (h:KLs H L p kl) {j:Nat}{nm:Str}{ch ch':LS}(c:kl[j]? = some (ta, B, (nm, ch))) :
    KLs (upd H B (.lst (List.map V.str ch'))) L p (kl.set j (ta,B,(nm,ch'))):=by
 have d:=wP c;have i:=h.nl _ d;have k:=h.c _ d;have n:((kl.set j (ta,B,(nm,ch'))).map λq=>q.1)=kl.map λq=>q.1:=fz c rfl;have l:((kl.set j (ta,B,(nm,ch'))).map λq=>q.2.1)=kl.map λq=>q.2.1:=fz c rfl;refine⟨?_,λq b=>?_,λq b=>?_,by rw[l];exact h.nd,λq b=>?_,h.lp⟩
 ·rw[az (Ne.symm i.1),h.l];have:=congrArg (List.map V.ref) n;rw[List.map_map,List.map_map] at this;exact congrArg (λz=>some (HO.lst z)) this.symm
 ·rcases fU b with rfl | ⟨m,_,a⟩
  ·have:=h.t _ d;rw[az (cC this k (by intro z;cases z))];exact this
  ·have:=h.t _ (wP a);rw[az (cC this k (by intro z;cases z))];exact this
 ·rcases fU b with rfl | ⟨m, e, a⟩
  ·exact aj
  ·have f:q.2.1≠B:=λz=>by
      have g:(kl.map λq=>q.2.1)[m]? = some B:=by rw[wW,a];exact congrArg some z
      have o:(kl.map λq=>q.2.1)[j]? = some B:=by rw[wW,c];rfl
      exact e ((yv (wO.mp g).1 h.nd).mp (g.trans o.symm))
   rw[az f];exact h.c _ (wP a)
 ·rcases fU b with rfl | ⟨m,_,a⟩
  ·exact i
  ·exact h.nl _ (wP a)
theorem cW {α:Type}{l:List α}{k:Nat}{x y:α}(h:y∈l.take k++x::l.drop k):y=x∨y∈l:=by
 rcases w8.mp h with q | q
 ·exact .inr (List.mem_of_mem_take q)
 ·rcases wY.mp q with q | q
  ·exact .inl q
  ·exact .inr (yx q)
theorem dX (l:List α) (k:Nat) (x:α):(l.take k++x::l.drop k).Perm (x::l):=by
 have:=List.perm_middle (a:=x) (l₁:=l.take k) (l₂:=l.drop k);rw[yn] at this;exact this
theorem KLs.ins (h:KLs H L p kl) {k:Nat}{u:Str}(d:H ta=some (.tup [.str u, .ref B])) (e:H B=some (.lst [])) (b:B ∉ kl.map λq => q.2.1) (c:B ≠ L) (f:B ≠ p) :
    KLs (upd H L (.lst ((kl.map λq=>V.ref q.1).take k++V.ref ta::(kl.map λq=>V.ref q.1).drop k))) L p (kl.take k++(ta,B,(u,[]))::kl.drop k):=by
 refine⟨?_,λq a=>?_,λq a=>?_,?_,λq a=>?_,h.lp⟩
 ·rw[aj];simp[xZ,xN]
 ·rcases cW a with rfl | a
  ·rw[az (cC d h.l (by intro z;cases z))];exact d
  ·have:=h.t q a;rw[az (cC this h.l (by intro z;cases z))];exact this
 ·rcases cW a with rfl | a
  ·rw[az c];exact e
  ·rw[az (h.nl q a).1];exact h.c q a
 ·have p:=(dX kl k (ta,B,(u,[]))).map λq:Addr × Addr × (Str × LS)=>q.2.1;refine p.nodup_iff.mpr ?_;rw[xr,xB];exact⟨b,h.nd⟩
 ·rcases cW a with rfl | a
  ·exact⟨c,f⟩
  ·exact h.nl q a
end
structure TrN (us:LS) (i:Nat) (ks:Kn):Prop where
 perm:(br ks).Perm (us.take i)
 top:("":Str)∈ks.map (·.1)
 kn:(ks.map (·.1)).Nodup
 sub:∀k∈ks,k.1=""∨k.1∈us.take i
 up:∀k∈ks,∀u∈k.2,k.1=""∨MG.ix us k.1<MG.ix us u
section
variable {us:LS}{i:Nat}{ks:Kn}
theorem TrN.start:TrN us 0 [("",[])]:=⟨by show ([]:LS).Perm _;rw[List.take_zero],by simp,by simp,λk a=>by rw[xa.mp a];exact .inl rfl,λk a u b=>by rw[xa.mp a] at b;cases b⟩
theorem ma (pc:ch'.Perm (u::ch)):∀ {ks:Kn}{j:Nat},ks[j]? = some (nm,ch)->(br (ks.set j (nm,ch'))).Perm (u::br ks)
 | [],j,h=>by simp at h
 | k::ks,0,h=>by
  have h:k=(nm,ch):=by simpa using h
  subst h;show (ch'++br ks).Perm (u::(ch++br ks));exact(pc.append_right _)
 | k::ks,j+1,h=>by
  have h:ks[j]? = some (nm,ch):=by simpa using h
  have ih:=ma pc (ks:=ks) (j:=j) h;show (k.2++br (ks.set j (nm,ch'))).Perm (u::(k.2++br ks));exact(ih.append_left _).trans List.perm_middle
theorem TrN.step (h:TrN us i ks) (s:us.Nodup) {u:Str}(d:us[i]? = some u) {j:Nat}{nm:Str}{ch ch':LS}(g:ks[j]? = some (nm, ch)) (pc:ch'.Perm (u :: ch)):TrN us (i+1) (ks.set j (nm, ch')) := by
 have w:=(wO.mp d).1;have t:us.take (i+1)=us.take i++[u]:=by rw[xg,d];rfl
 have b:=wP g;have f:((ks.set j (nm,ch')).map λk=>k.1)=ks.map λk=>k.1:=fz g rfl;have o:MG.ix us u=i:=MG.ix_at s d;have p:∀x∈us.take i,MG.ix us x<i:=λx a=>by
  obtain⟨m,b⟩:=xI a;have n:=(wO.mp b).1;rw[xx] at n;rw[List.getElem?_take_of_lt (by omega)] at b;rw[MG.ix_at s b];omega
 refine⟨?_,by rw[f];exact h.top,by rw[f];exact h.kn,λk r=>?_,λk r x a=>?_⟩
 ·rw[t];refine(ma (j:=j) pc g).trans (((h.perm.cons u)).trans ?_);exact(List.perm_append_singleton u _).symm
 ·have:k.1∈ks.map λk=>k.1:=by rw[<- f];exact wX.mpr ⟨k,r,rfl⟩
  obtain⟨v,c,e⟩:=wX.mp this;rw[<- e,t];rcases h.sub v c with q | q
  ·exact .inl q
  ·exact .inr (xT _ q)
 ·rcases fU r with rfl | ⟨m, _, l⟩
  ·rcases wY.mp (pc.mem_iff.mp a) with rfl | a
   ·rcases h.sub _ b with q | q
    ·exact .inl q
    ·right
     rw[o];exact p _ q
   ·exact h.up _ b x a
  ·exact h.up _ (wP l) x a
theorem TrN.knot (h:TrN us (i+1) ks) (m:us.Nodup) (n:∀u ∈ us, u ≠ "") {u:Str}(f:us[i]? = some u) (c:u ∉ ks.map (·.1)) (k:Nat):TrN us (i+1) (ks.take k ++ (u, []) :: ks.drop k) := by
 have l:=wP f;have j:=dX ks k (u,([]:LS));have g:=j.map λk:Str × LS=>k.1;refine⟨?_,g.mem_iff.mpr (xo _ h.top),g.nodup_iff.mpr (by rw[xr,xB];exact⟨c,h.kn⟩),λq b=>?_,λq b x d=>?_⟩
 ·have e:br (ks.take k++(u,[])::ks.drop k)=br ks:=by
     have a:br ((u,([]:LS))::ks.drop k)=br (ks.drop k):=rfl;rw[fv,a,<- fv,yn]
  rw[e];exact h.perm
 ·rcases cW b with rfl | b
  ·right
   show u∈us.take (i+1);rw[xg,f];simp
  ·exact h.sub q b
 ·rcases cW b with rfl | b
  ·cases d
  ·exact h.up q b x d
theorem TrN.fin (h:TrN us us.length ks) (b:us.Nodup) (nm:∀u∈us,Nm u) (a:us.length<=60):Tre us ks :=
 ⟨by have:=h.perm;rwa [xk (wM _)] at this,b,nm,a,h.top,h.kn,λk c=>by have:=h.sub k c;rwa [xk (wM _)] at this,h.up⟩
end
theorem kI:∀ {ks:Kn}{refs:LV}, RepAll H refs (ks.map fb) -> ∃ls:LV, ls.length=ks.length /\ ∀(i:Nat) (k:Str × LS), ks[i]? = some k -> ∃ta la, refs[i]? = some (.ref ta) /\ ls[i]? = some (.ref la) /\ H ta=some (.tup [.str k.1, .ref la]) /\ H la=some (.tup (k.2.map V.str))
 | [],refs,_=>⟨[],rfl,λi k h=>by simp at h⟩
 | k::ks,refs,h=>by
  obtain⟨y,ys,rfl,r1,r2⟩:=RepAll.consI h;obtain⟨ta,la,rfl,h1,h2⟩:=ka r1;obtain⟨ls,hl,ih⟩:=kI r2;refine⟨.ref la::ls,by rw[xc,xc,hl],λi k' hk=>?_⟩;cases i with
  | zero =>
   have:k=k':=by simpa using hk
   subst this;exact⟨ta,la,rfl,rfl,h1,h2⟩
  | succ i=>exact ih i k' (by simpa using hk)
theorem qI (xs:LS) (ys:LV) (h:ys.length=xs.length):(dR xs ys).length=xs.length:=by
 unfold dR;rw[xD,wK];omega
theorem tD {xs:LS}{ys:LV}{i:Nat}{q:Key × V}(h:(dR xs ys)[i]? = some q):∃x,xs[i]? = some x/\q.1=.inr x/\ys[i]? = some q.2:=by
 unfold dR at h;rw[xv,wW] at h;cases e:xs[i]? with
 | none=>rw[e] at h;cases h.1
 | some x =>
  rw[e] at h;exact⟨x,rfl,(wR h.1).symm,h.2⟩
theorem dQ {us:LS}(R:Rep H (.ref a) (cB ks)) (T:Tre us ks)
    (h:∀D B,H D=none->(∀k∈ks,∃z,bn B (.inr k.1)=some (.ref z)/\H z=some (.tup (k.2.map V.str)))->Q (.ref D) (upd H D (.dK B))):lQ K [.ref a] H Q:=by
 obtain⟨N,f,F,w,m⟩:=gg R;cases F;obtain⟨s,y,d⟩:=kI m;have b:=m.len;rw[wK] at b;have A:=T.few;have C:(dR (ks.map (·.1)) s).length=ks.length:=by rw[qI _ _ (by rw[wK];exact y),wK]
 refine⟨a,f,dR (ks.map (·.1)) s,rfl,w,by rw[C];exact b,by omega,λi q x I o=>?_,λD L=>?_⟩
 ·obtain⟨u,c,M,n⟩:=tD I;rw[wW] at c;cases e:ks[i]? with
  | none=>rw[e] at c;cases c
  | some k =>
   rw[e] at c;obtain⟨g,z,p,j,r,t⟩:=d i k e;rw[p] at o;rw[j] at n;have E:V.ref g=x:=wR o;have G:V.ref z=q.2:=wR n;have v:k.1=u:=wR c;refine⟨g,E.symm,.of ?_⟩;rw[M,<- G,<- v];exact r
 ·refine h D _ L λk J=>?_;obtain⟨i,l⟩:=xI J;obtain⟨g,z,p,j,r,t⟩:=d i k l;refine⟨z,?_,t⟩;rw[tZ _ _ T.kn];exact mm T.kn (by rw[wW,l];rfl) j
theorem cf:∀ {ps:List (Str × Str)},(∀e∈ps,Nm e.1/\Nm e.2)->PyData.canLayAll0 (ps.map aK)=true
 | [],_=>rfl
 | e::ps,h=>by
  have:=h e (by simp);show (PyData.canLay0 (aK e)&&PyData.canLayAll0 (ps.map aK))=true;rw[cf λx hx=>h x (xo _ hx)];show ((PyData.canLay0 (.str e.1)&&(PyData.canLay0 (.str e.2)&&true))&&true)=true;rw[cE this.1,cE this.2];rfl
theorem cJ (h:Nm e.1/\Nm e.2):PyData.canLay0 (aK e)=true:=by
 show (PyData.canLay0 (.str e.1)&&(PyData.canLay0 (.str e.2)&&true))=true;rw[cE h.1,cE h.2];rfl
theorem bp (xs:LS):(List.map V.str xs).all dO=true:=by
 rw[List.all_map,xM];intro x _;rfl
theorem dZ (x:Str) (xs:LS):inV (V.str x) (List.map V.str xs)=decide (x∈xs):=by
 rw[xp,decide_eq_true_iff];unfold inV;rw[List.any_map,yl]
 constructor
 ·rintro⟨y,a,q⟩;have q:(y==x)=true:=q;have q:y=x:=by simpa using q
  exact q ▸ a
 ·intro h;refine⟨x,h,?_⟩;show (x==x)=true;simp
def tBMT (r:V->LV->Hp->VK->Prop) (to:TE) (t:TA):TE:=λσ H Q=>to σ H λx H1=>(∃p xs,x=.ref p/\H1 p=some (.tup xs))/\t σ H1 λxs H2=>r x xs H2 Q
theorem kP (J:PE X o to) (w:PA X [e] t)
    (f:attributeBase o "index" X.env (eval o X.env)=eval o X.env:=by rfl)
    (g:((backTo cpos (starEach [e] X.env)).all (λx=>!x.1)&&(backToKw cpos (keywordEach [] X.env)).all (λx=>x.1.isSome)
     && decide ([e].length+([]:List Keyword).length+(if ([]:List Keyword).isEmpty then 0 else 1)<30))=true:=by rfl)
    (d:(apos.endLine==cpos.line)=true:=by rfl) (C:starEach [e] X.env=(false,eval e X.env)::starEach [] X.env:=by rfl) (c:(backTo cpos (starEach [] X.env)).any (·.1)=false:=by rfl) :
    PE X (.Call (.Attribute o "index" apos) [e] [] cpos) (tBMT ke to t):=by
 intro b s i H Q I h;refine wpAny_Call_method_late f g d rfl (thn (J b s i H _ I h) λv q ⟨x,k,r,K,⟨p,D,G,R⟩,P⟩=>?_);subst G;cases K;obtain⟨_,N,S,m,j,E,n,T,u⟩:=(show ObjOk X.prog X.w k q.heap p (.tup D) from r.hok p _ R)
 refine⟨"tuple","tuple.index",PySem.F.plainAttrs_tuple,PySem.F.slot_tuple_index,PySem.F.type_tuple_index,⟨m,j,E⟩,λa z=>?_,?_⟩
 ·cases z;exact⟨m,j,u⟩
 ·have l:=w cpos b q i k _ r P;rw[C] at l ⊢;refine Calls.callWith_builtin (by show (false||(backTo cpos (starEach [] X.env)).any (·.1))=false;rw[c] <;> rfl) (Calls.evalArgs_plain (thn l λF L ⟨B,M,y,A,O⟩=>?_));exact pB b L i M (.ref p) B (.ref p) F Q y rfl A O
abbrev Prs:=List (Str × Str)
def bZ:Prs->Prs->Prs
 | acc,[]=>acc
 | acc,x::xs=>if x∈acc then bZ acc xs else bZ (acc++[x]) xs
theorem dm:∀(xs ys acc:Prs),bZ acc (xs++ys)=bZ (bZ acc xs) ys
 | [],ys,acc=>rfl
 | x::xs,ys,acc=>by
  show (if x∈acc then bZ acc (xs++ys) else bZ (acc++[x]) (xs++ys))=bZ (if x∈acc then bZ acc xs else bZ (acc++[x]) xs) ys
  split
  ·exact dm xs ys acc
  ·exact dm xs ys (acc++[x])
theorem fJ:∀(xs acc:Prs) (e:Str × Str), e ∈ bZ acc xs ↔ e ∈ acc ∨ e ∈ xs
 | [],acc,e=>by simp[bZ]
 | x :: xs, acc, e => by
  show e∈(if x∈acc then bZ acc xs else bZ (acc++[x]) xs) ↔ _
  split
  ·rename_i h
   rw[fJ xs acc e,wY]
   constructor
   ·rintro (q | q)
    ·exact .inl q
    ·exact .inr (.inr q)
   ·rintro (q | rfl | q)
    ·exact .inl q
    ·exact .inl h
    ·exact .inr q
  ·rw[fJ xs _ e,w8,xa,wY,or_assoc]
def fe (ks:Kn) (knot:Str) (e:Str × Str):Option (Str × Str):=match bt ks e.1 e.2 with
 | some (q,x,y)=>if q=knot then some (x,y) else none
 | none=>none
def gA (last:Bool) (c:LS) (u:Str):Prs:=(c.filter λv=>decide (v≠u)).map λv=>if last then (v,u) else (u,v)
def wL (c:LS) (wn:Prs) (word:Str):LS:=(wn.filter λe=>decide (e.1=word)&&decide (e.2∈c)).map (·.2)
def wU (c:LS) (wn:Prs) (word:Str):LS:=c.filter λu=>decide ((word,u)∈wn)
def cL (ks:Kn) (ts wn:Prs) (knot:Str) (c:LS):Prs:=bZ [] (ts.filterMap (fe ks knot)++((wU c wn "first").flatMap (gA false c)++(wU c wn "last").flatMap (gA true c)))
def FL (k:Str × LS) (e:Str × Str):Prop:=(e.1="first"/\k.2.head? = some e.2)∨(e.1="last"/\k.2.getLast? = some e.2)
theorem FL.mem (h:FL k e):e.2∈k.2:=by
 rcases h with⟨_,h⟩ | ⟨_,h⟩
 ·exact List.mem_of_head? h
 ·exact yD h
structure WnX (ks:Kn) (wn:Prs):Prop where
 nd:wn.Nodup
 at_:∀e∈wn,∃k∈ks,FL k e
theorem vI {l m:LS}(b:l.Nodup) (nm:m.Nodup) (h:∀x ∈ l, ∀y ∈ l, x=y) (e:∀x, x ∈ l ↔ x ∈ m):l=m := by
 match l,m with
 | [],[]=>rfl
 | [],y::m=>exact absurd ((e y).mpr (by simp)) (by simp)
 | x::l,[]=>exact absurd ((e x).mp (by simp)) (by simp)
 | x :: l, y :: m =>
  have d:l=[]:=by
   cases l with
   | nil=>rfl
   | cons z l =>
    have:=h x (by simp) z (by simp);rw[xB] at b;exact absurd (this ▸ (by simp:z∈z::l)) b.1
  have a:y=x:=h y ((e y).mpr (by simp)) x (by simp);have c:m=[]:=by
   cases m with
   | nil=>rfl
   | cons z m =>
    have f:=h z ((e z).mpr (by simp)) x (by simp);rw[xB] at nm;exact absurd ((a.trans f.symm) ▸ (by simp:z∈z::m)) nm.1
  rw[d,c,a]
theorem oU:∀ {l:Prs},(∀e∈l,e.1=word)->l.Nodup->(l.map (·.2)).Nodup
 | [],_,_=>List.nodup_nil
 | e::l,h,nd=>by
  rw[xB] at nd;rw[xr,xB];refine⟨λz=>?_,oU (λx hx=>h x (xo _ hx)) nd.2⟩;obtain⟨f,hf,q⟩:=wX.mp z;have:f=e:=Prod.ext ((h f (xo _ hf)).trans (h e (by simp)).symm) q;exact nd.1 (this ▸ hf)
theorem pX {us:LS}(T:Tre us ks) (W:WnX ks wn) {k:Str × LS}(w:k ∈ ks) (s:k.2.Nodup) {q:Str}(A:q="first" ∨ q="last"):wU k.2 wn q=wL k.2 wn q := by
 have g:∀u∈k.2,(q,u)∈wn->FL k (q,u):=λu r h=>by
  obtain⟨z,j,f⟩:=W.at_ _ h;have:=em T.knd w j r f.mem;rw[this];exact f
 have c:∀ {x y:Str},FL k (q,x)->FL k (q,y)->x=y:=λ{x y} m i=>by
  have n:("first":Str)≠"last":=by decide
  rcases m with⟨l,a⟩ | ⟨l,a⟩
  ·rcases i with⟨_,b⟩ | ⟨o,_⟩
   ·exact wR (a.symm.trans b)
   ·exact absurd (l.symm.trans o) n
  ·rcases i with⟨o,_⟩ | ⟨_,b⟩
   ·exact absurd (o.symm.trans l) n
   ·exact wR (a.symm.trans b)
 have p:∀x,x∈wU k.2 wn q ↔ x∈k.2/\(q,x)∈wn:=λx=>by unfold wU;rw[xn,decide_eq_true_iff]
 have v:∀x,x∈wL k.2 wn q ↔ x∈k.2/\(q,x)∈wn:=λx=>by
  unfold wL;rw[wX]
  constructor
  ·rintro⟨e,d,rfl⟩;rw[xn,xC,decide_eq_true_iff,decide_eq_true_iff] at d;obtain⟨a,b,t⟩:=d;exact⟨t,b ▸ a⟩
  ·rintro⟨a,b⟩;exact⟨(q,x),xn.mpr ⟨b,by rw[xC,decide_eq_true_iff,decide_eq_true_iff];exact⟨rfl,a⟩⟩,rfl⟩
 refine vI (s.filter _) ?_ (λx m y i=>?_) (λx=>(p x).trans (v x).symm)
 ·unfold wL;exact oU (λe d=>by rw[xn,xC,decide_eq_true_iff,decide_eq_true_iff] at d;exact d.2.1) (W.nd.filter _)
 ·have a:=(p x).mp m;have b:=(p y).mp i;exact c (g x a.1 a.2) (g y b.1 b.2)
end L2
namespace MG
variable {es:List (Nat × Nat)}{s n P t L:Nat}{me par:Nat->Nat}{rw:Nat->List Nat}
inductive Chn (P:Nat) (me par:Nat->Nat):Nat->Nat->List Nat->Prop
 | done:Chn P me par P 0 []
 | step {j m:Nat} {w:List Nat}:0<j->Chn P me par j m w->Chn P me par (par j) (m+1) (me j::w)
end MG
open PySem
namespace L2
open PySem
def kdO (ks:Kn) (u:Str):LS:=((ks.find? λk=>decide (k.1=u)).map (·.2)).getD []
section
variable {us:LS}{ks:Kn}
def rd (ks:Kn):Nat->Str->LS
 | 0,u=>[u]
 | n+1,u=>u::(kdO ks u).flatMap (rd ks n)
def RD (ks:Kn) (u:Str):LS:=rd ks 61 u
end
end L2
namespace L2
open PySem PySem.Spec PyProof.Rows
section
variable {X:Cx}
def tV (K:W.Frag):V->V->Hp->VK->Prop:=λx y H Q=>∃a b xs,x=.ref a/\y=.ref b/\SqT K H a xs/\H b=some (.tup [])/\Q (.bl (!xs.isEmpty)) H
theorem pf (K:W.Frag) (z:X.A.units+64<cLine) (t:X.K=K := by rfl):OpR X (compareOp .NotEq) (tV K) := by
 subst t;intro g s D H x y v u Q I j k h;obtain⟨a,b,xs,rfl,rfl,l,p,q⟩:=h;cases j;cases k;obtain⟨c,d,o,B⟩:=I.tuple l;obtain⟨m,f,n,_⟩:=I.tuple (a:=b) (xs:=[]) (.of p);cases f;have C:=d.length;refine SeqAt.RcNeAt.tuples (e:=λ_=>true) (show s.heap.IsTuple a c.toArray from o) (show s.heap.IsTuple b (List.toArray []) from n) (by omega) (λi A w=>absurd w (by simp)) X.prog X.w X.xe _ ⟨.bl _,H,I,rfl,?_⟩;have e:(!((List.range (min c.toArray.size (List.toArray ([]:LW)).size)).all (λ_=>true)&&c.toArray.size==(List.toArray ([]:LW)).size))=!xs.isEmpty:=by
  cases xs with
  | nil=>cases d;rfl
  | cons x r =>
   cases c with
   | nil=>cases d
   | cons y q=>simp
 rw[e];exact q
end
def oN (f:Addr) (sp:Sp) (E:XK) (tf:TE) (t:TA):TE:=λσ H Q=>tf σ H λv H1=>v=.ref f/\t σ H1 λvs H2=>sp (vs++[]) H2 Q E
theorem fy (F:FnOk X.prog X.w X.K X.mg X.base CX k f fd ps sp) (i:Room k X.A) (x:W.keepIn X.K (.ref f)=true) (p:Binds X.K fd ps []) (m:jE CX X E)
    (A:PE X z B) (l:PA X (e::es) t) (he:starEach (e::es) X.env=(false,eval e X.env)::starEach es X.env:=by rfl) (hpl:(backTo pos (starEach es X.env)).any (·.1)=false:=by rfl)
    (b:eval (.Call z (e::es) [] pos) X.env=(eval z X.env >>= λv=>callWith pos v [] (backTo pos (starEach (e::es) X.env)) (backToKw pos (keywordEach [] X.env))):=by rfl) :
    PE X (.Call z (e::es) [] pos) (oN f sp E B t):=by
 intro a s g H Q I h;rw[b];refine wJ (thn (A a s g H _ I h) λu n ⟨v,j,d,o,y,w⟩=>?_);subst y;obtain rfl:u=Value.ref f:=o;refine W.callWith_K (h₀:=X.base) d.ok.mod.kin x (thn (l pos a n g j _ d w) λD G ⟨C,J,c,r,q⟩=>⟨c.kIn,?_⟩) he hpl;exact pH F i p .nil m c r q
open _root_.HT PySem.SeqAt PySem.MeetsSeq PySem.MeetsSeq2 PySem.MeetsSeq3
namespace HTW
variable {prog:Program}{w:World}{A:Around}{E:QS}{s:Shared}
theorem getItem_tuple_whole {items:Array Value}{lo hi:Option Int}(b:IsTup s.heap t items) (f:s.heap.IsSliceOf q B z .none) (m:IsPart B lo) (l:IsPart z hi)
    (k:sIx items.size 0 lo=0) (g:sIx items.size items.size hi=items.size)
    (h:Q (.ref t) s):wpAny (model prog w) A (getItem (.ref t) (.ref q)) Q E s:=by
 obtain⟨j,d,e,i⟩:=id f;have c:s.TypeIs (.ref q) "slice":=⟨j,d,e⟩
 unfold getItem
 try with_reducible refine xF ?_
 first | refine wJ (wN ?_) | skip
 refine wJ (wpAny_sequenceKey b.typeIs (by decide) ?_);refine wJ (wpAny_callSpecial?_slot (name:=Str.ofString "__getitem__") b.typeIs PyProof.Rows.slot_tuple_getitem
  (wpAny_call_entry PyProof.Rows.slot_tuple_getitem b.typeIs entry_tuple_getitem ?_ (args_tuple_getitem _ _)))
 show wpAny _ _ (Builtin.Tuple.tupleItemsOf (.ref t) >>= _) _ _ s;refine wJ (tupleItemsOf_ b ?_);refine wJ (wpAny_typeOf c ?_);rw[if_pos (by decide)];refine wJ (gq f m l ?_);have a:(((sIx items.size 0 lo:Nat):Int)==0&&(1:Int)==1&&(sIx items.size items.size hi-sIx items.size 0 lo)==items.size)=true:=by rw[k,g];simp
 show wpAny _ _ (if (((sIx items.size 0 lo:Nat):Int)==0&&(1:Int)==1&&(sIx items.size items.size hi-sIx items.size 0 lo)==items.size)=true then _ else _) _ _ s;rw[if_pos a];unfold Builtin.Tuple.tupleIsExact;refine wJ (wJ (wpAny_typeOf b.typeIs (wN ?_)));rw[if_pos (by decide)];refine wJ (wpAny_rule (wN ⟨_,rfl,wN h⟩))
end HTW
section
variable {X:Cx}
theorem pM {xs:LV}{lo hi:Option Int}(b:HT.sIx xs.length 0 lo=0) (a:HT.sIx xs.length xs.length hi=xs.length):cX xs lo hi=xs:=by
 unfold cX;rw[b,a,List.drop_zero,Nat.sub_zero,xk (wM _)]
def wF:V->Option Int->Option Int->Hp->VK->Prop:=λx lo hi H Q=>∃a xs,x=.ref a/\H a=some (.tup xs)/\∀p H',Same H H'->H' p=some (.tup (cX xs lo hi))->Q (.ref p) H'
theorem ky:SlR X wF:=by
 intro d s w H x v y u m i t Q I j l o n h;obtain⟨a,c,rfl,f,q⟩:=h;by_cases e:HT.sIx c.length 0 m=0/\HT.sIx c.length c.length i=c.length
 ·cases j;obtain⟨g,r,k,A⟩:=I.tuple (.of f);have b:g.toArray.size=c.length:=by rw[xh];exact r.length.symm
  refine⟨"tuple",_,PyProof.Rows.slot_tuple_getitem.lookup,k.typeIs,?_⟩;refine HTW.getItem_tuple_whole k l o n (by rw[b];exact e.1) (by rw[b];exact e.2) ?_;exact⟨.ref a,H,I,rfl,q a H (Same.refl H) (by rw[pM e.1 e.2];exact f)⟩
 ·exact lB d s w H _ v y u m i t Q I j l o n ⟨a,c,rfl,.of f,e,λp z=>q p _ (Same.new z) aj⟩
def vc:R2:=λx y H Q=>∃a b xs ys,x=.ref a/\y=.ref b/\H a=some (.tup xs)/\H b=some (.tup ys)/\xs.length+ys.length<=sizeLine/\∀p H',Same H H'->H' p=some (.tup (xs++ys))->Q (.ref p) H'
theorem jk:OpR X (binaryOp .Add) vc:=by
 intro c s m H x y v u Q I g i h;obtain⟨a,b,k,j,rfl,rfl,d,f,l,q⟩:=h;refine hU X.K rfl c s m H _ _ v u Q I g i ⟨a,b,k,j,rfl,rfl,.of d,.of f,l,λe=>q b H (Same.refl H) (by rw[e];exact f),λ_ e=>q a H (Same.refl H) (by rw[e,xH];exact d),λ_ _ p n=>q p _ (Same.new n) aj⟩
end
end L2
namespace L2
open PySem PySem.Spec PyProof.Rows
section
variable {X:Cx}{e e':Expr}{te te':TE}
theorem p1 (b:PE X e te) (a:starEach [e] X.env=(false,eval e X.env)::starEach [] X.env:=by rfl):PA X [e] (bJ te fg):=aa b ab a
theorem p2 (d:PE X e te) (c:PE X e' te') (b:starEach [e,e'] X.env=(false,eval e X.env)::starEach [e'] X.env:=by rfl) (a:starEach [e'] X.env=(false,eval e' X.env)::starEach [] X.env:=by rfl):PA X [e,e'] (bJ te (bJ te' fg)):=aa d (aa c ab a) b
theorem px (K:W.Frag) (b:Room k X.A) (f:PE X e te) (c:PE X e' te') (a:mS e':=by exact λ_ _=>rfl) (d:X.K=K:=by rfl):PE X (.Subscript e e' pos) (tOp (λx y H Q=>IxX K H x y Q) te te'):=af (ah K b.units d) f c a
theorem pc (c:Cal X.prog X.w X.K X.mg X.base k x ps sp) (f:Room j X.A) (g:PA X (e::es) t) (d:k<=j:=by decide) (b:Gl X x:=by exact rfl)
    (a:starEach (e::es) X.env=(false,eval e X.env)::starEach es X.env:=by rfl) (hpl:(backTo pos (starEach es X.env)).any (·.1)=false:=by rfl) (hdb:(x==("__debug__":Str))=false:=by decide) :
    PE X (.Call (.Name x p) (e::es) [] pos) (iA sp [] E0 t):=ai c (f.mono d) b g a hpl hdb
end
theorem szl (n:Nat) (h:n<=sizeLine:=by decide):n<=sizeLine:=h
@[elab_as_elim] theorem nw {M:Hp->Prop}(h:H a=none) (k:∀H',Same H H'->H' a=some o->M H'):M (upd H a o):=k _ (Same.new h) aj
example {H:Hp} {a:Addr} {xs:LV} {Q:V->Hp->Prop} (h:H a=none) (q:∀H',Same H H'->H' a=some (.lst xs)->Q .non H'):Q .non (upd H a (.lst xs)):=by
 refine nw h λH2 s2 e2=>?_;exact q H2 s2 e2
end L2
namespace L2
open PySem PySem.W PyProof.Rows
section
variable {lt:Nat->Nat->Bool}{N:Nat}
theorem gd {p:Array Nat}{i:Nat}:p.getD i 0=(p[i]?).getD 0:=by simp
end
end L2
namespace L2
open PySem PySem.Spec PyProof.Rows
section
variable {X:Cx}{elt iter:Expr}{ifs:List Expr}{scope:Scope}{pos px:Pos}{x:Str}{r:LS}{wi:TI}{tc:TT}{te:TE}
theorem cp (a:Scope) (c:LS) (d:List Nat) (x:Str) (r:LS) (m:PI X (.Name x px) iter wi) (h:∀ {B C q z ex},PTs (cxC X scope (x::r) B C q z ex) ifs tc) (he:∀ {B C q z ex},PE (cxC X scope (x::r) B C q z ex) elt te)
    (j:(x::r).Nodup:=by decide) (l:X.calm=true:=by rfl) (f:∀ {B C q z ex},(cxC X scope (x::r) B C q z ex).env.scope.names.lookup x=some .local:=by intros;rfl)
    (g:∀x,foldedSetIterable iter X.env x=pure x:=by intro _;rfl) (b:X.env.scope=a:=by rfl) (e:X.N=c:=by rfl) (k:ie a scope c [x] d (x::r)=true:=by decide +kernel) :
    PE X (.ListComp elt [⟨.Name x px,iter,ifs,0⟩] scope pos) (nV 1 d wi (cg 0) tc te) :=
 jY a c [x] d (x::r) l m (λ_ _ _ _ _=>aA (i:=0) j rfl (Or.inl f) (Or.inr f)) (λ_ _ _ _ _=>h) (λ_ _ _ _ _=>he) g b e k
end
section
open Builtin Builtin.Str
end
def dl:LS->Nat
 | []=>0
 | x::l=>if x∈l then dl l else dl l+1
theorem ga (x:Str) (l:LS):dl (x::l)=if x∈l then dl l else dl l+1:=rfl
theorem ll:∀l:LS,dl l<=l.length
 | []=>wM _
 | x::l=>by have:=ll l;unfold dl;rw[xc];split <;> omega
theorem pC:∀l:LS, dl l=1 ↔ ∃z ∈ l, ∀x ∈ l, x=z
 | []=>⟨λh=>(by cases h),λ⟨_,h,_⟩=>(by cases h)⟩
 | x :: l => by
  rw[ga];by_cases q:x∈l
  ·rw[if_pos q,pC];exact⟨λ⟨z,hz,h⟩=>⟨z,.tail _ hz,λy hy=>(wY.mp hy).elim (λe=>e ▸ h x q) (h y)⟩,λ⟨z,hz,h⟩=>⟨z,(wY.mp hz).elim (λe=>e ▸ q) id,λy hy=>h y (.tail _ hy)⟩⟩
  ·rw[if_neg q];cases l with
   | nil=>exact⟨λ_=>⟨x,.head _,λy hy=>(xa.mp hy)⟩,λ_=>rfl⟩
   | cons y l =>
    have:dl (y::l)≠0:=by
     clear q
     induction l generalizing y with
     | nil=>rw[ga,if_neg (by simp)];omega
     | cons a l ih=>rw[ga];split <;> first | exact ih a | omega
    exact⟨λh=>by omega,λ⟨z,hz,h⟩=>absurd (show x∈y::l by rw[h x (.head _),<- h y (.tail _ (.head _))];exact .head _) q⟩
def nO (P:Program) (w:World) (H:Hp) (l:Addr) (ys:LS) (i:Nat) (H':Hp):Prop:=∃S n,H'=upd H l (gz P w l S n)/\(∀k,S k=true ↔ k∈ys.take i)/\n=dl (ys.take i).reverse
theorem oV {X:Cx}{pins:AO_}{σ:St}{nm:Str}{tp:Pos}{J:It}{O:List Addr}{G:Addr}{U:Nat -> Heap -> Prop}(T:Turn X.prog X.w X.K (.Name nm tp) J O G U) (W:X.calm=true) (d:Addr) (l:Hp) (ys:LS) (hy:ys.length <= 1000) (a0:l d=none)
    (go:∀i H,i<ys.length->nO X.prog X.w l d ys i H->J.go i H/\∀x H1,J.yld i H x H1->H1=H/\∃z,x=.str z/\ys[i]? = some z)
    (t:∀H,nO X.prog X.w l d ys ys.length H->J.stop ys.length H) {R:Result->Shared->Prop}:∀(k i:Nat) (s:Shared) (H:Hp),ys.length-i=k->i<=ys.length->Inv X pins σ H s->(∀b∈O,fq X pins H b)->U i s.heap->nO X.prog X.w l d ys i H ->
     (∀H' s',Inv X pins σ H' s'->nO X.prog X.w l d ys ys.length H'->R (.ok (.ret .none)) s')->codeAny (model X.prog X.w) X.A.in1 (.builtin "set.update.loop" ⟨[.ref d,.ref G],[]⟩) R s:=by
 intro k
 induction k with
 | zero =>
  intro i s H hk hi I D K w F;have N:i=ys.length:=by omega
  subst N;refine codeAny_builtin SU.entry_loop ?_;rw[Around.under_plainId SU.plain_loop _];show wpAny _ X.A.in1.in1 (pyNext (.ref G) >>= _) _ _ s;refine wJ (xP (T.done { X with A:=X.A.in1.in1 } rfl rfl rfl W _ pins s σ H _ (I.atA _ rfl rfl) D K (t H w)) (λr g ⟨e,p⟩=>?_) λ_ _ z=>z);subst e;exact wN (F H g (Inv.ofA I.ok p) w)
 | succ k ih =>
  intro i s H hk hi I D K w F;have v:i<ys.length:=by omega
  obtain⟨hg,M⟩:=go i H v w;refine codeAny_builtin SU.entry_loop ?_;rw[Around.under_plainId SU.plain_loop _];show wpAny _ X.A.in1.in1 (pyNext (.ref G) >>= _) _ _ s;refine wJ (xP (jq (T.item { X with A:=X.A.in1.in1 } rfl rfl rfl W i pins s σ H _ (I.atA _ rfl rfl) D K hg)) (λr g ⟨u,e,x,H1,p,rx,Z,t1,P⟩=>?_) λ_ _ z=>z);subst e
  replace p:=Inv.ofA I.ok p
  obtain⟨m,z,ex,Q⟩:=M x H1 Z;subst ex m;obtain⟨Y,rfl⟩:=rx;obtain⟨S,n,m,L,hn⟩:=w;have E:=p.hok d _ (by rw[m];exact aj);have C:g.heap.SetOf (strKind X.prog X.w) d S n:=E.1;show wpAny _ _ (holding [Value.str z Y] (setAdd d (.str z Y)) >>= _) _ _ _;refine wJ (xF ?_);unfold setAdd;refine xF (wJ ((strKind X.prog X.w).pyHash (k:=z) (strKind_is _ _ _ _) ?_));refine wpAny_setAddHashed_of (s:={ g with toks:=g.toks+1 }) (strKind_is _ _ _ _) rfl C (x6 (by have:=ll (ys.take i).reverse;rw[xV,xx] at this;omega:n+1<=1001) (by decide)) λh' y a=>?_;have B:∀k,(S k||decide (k=z))=true ↔ k∈ys.take (i+1):=λk=>by
   rw[Bool.or_eq_true,decide_eq_true_iff,L k,xg,Q,w8];exact⟨λh=>h.imp id λh=>by rw[h];simp,λh=>h.imp id λh=>by simpa using h⟩
  have I2:Inv X pins σ (upd H1 d (gz X.prog X.w d (λf=>S f||decide (f=z)) (if S z then n else n+1))) { g with heap:=h',toks:=g.toks+1 }:=fX (t':=g.toks+1) p (by rw[m,aj];exact True.intro) y (let ⟨o,_,_,_,ho,_⟩:=a;⟨o,ho⟩) (mU a);have eu:upd H1 d (gz X.prog X.w d (λf=>S f||decide (f=z)) (if S z then n else n+1))=upd l d (gz X.prog X.w d (λf=>S f||decide (f=z)) (if S z then n else n+1)):=by rw[m,jV]
  have V:∀b∈O,b≠d:=λb j q=>by
   have:=P b j;rw[q,m,aj] at this;cases this
  refine wN ⟨plainId_quiet SU.plain_loop _,ih (i+1) _ _ (by omega) v I2 (λb j=>?_) (T.keep _ _ _ t1 λb j o q=>(y.2 b (V b j)).trans q) ⟨_,_,eu,B,?_⟩ F⟩
  ·obtain⟨_,f1,f2,f3,f4,f5⟩:=D b j;exact⟨by rw[az (V b j)];exact P b j,f1,f2,f3,f4,f5⟩
  ·rw[xg,Q,Option.toList_some,List.reverse_append,hn];show _=dl (z::(ys.take i).reverse);rw[ga];cases c:S z with
   | true=>rw[if_pos rfl,if_pos (yo.mpr ((L z).mp c))]
   | false=>rw[if_neg (by decide),if_neg (λq=>by rw[(L z).mpr (yo.mp q)] at c;cases c)]
theorem pY {X:Cx}(C:X.calm=true) {pins:AO_}{s:Shared}{σ:St}{H:Hp}{p:Addr}{ys:LS}{Q:VK}(I:Inv X pins σ H s) (u:SqL X.K H p (List.map V.str ys)) (L:ys.length<=1000)
    (q:∀l S,H l=none->Q (.ref l) (upd H l (gz X.prog X.w l S (dl ys.reverse)))):wpAny (model X.prog X.w) X.A (call (.type "set") [.ref p]) (EP X pins σ Q) X.xe s:=by
 refine SU.call1 λc=>?_;have f:H s.heap.objs.size=none:=I.hok.fresh (wM _);have d:(⟨s.heap.push { cls:=.type "set",dict:=none,data:=.set #[] 0 (.fresh 0 0 c) },s.gens,s.drawn,s.toks,s.os⟩:Shared).TypeIs (.ref s.heap.objs.size) "set":=⟨_,xl _ rfl,rfl⟩
 have m:(s.heap.push { cls:=.type "set",dict:=none,data:=.set #[] 0 (.fresh 0 0 c) }).SetOf (strKind X.prog X.w) s.heap.objs.size (λ_=>false) 0:=by
  refine⟨_,#[],0,_,xl _ rfl,⟨rfl,rfl,rfl⟩,rfl,(λx r=>by cases r),(λk=>⟨(λh=>by cases h),λ⟨e,D,_⟩=>by cases D⟩),by decide,?_,rfl⟩;cases c <;> rfl
 have t:Inv X pins σ (upd H s.heap.objs.size (gz X.prog X.w s.heap.objs.size (λ_=>false) 0)) { s with heap:=s.heap.push { cls:=.type "set",dict:=none,data:=.set #[] 0 (.fresh 0 0 c) } } :=
  I.laid (a:=s.heap.objs.size) (t':=s.toks) (λ_ _ q=>xb _ q) (wM _) (mU m)
 unfold Builtin.«set.__init__»;have R:X.A.in1.in1.handled=none:=I.ok.hd C;refine wJ (wN (wJ (SU.cut_set d (wJ (wN (wJ (wN (wJ ?_))))))));unfold setUsed;refine wJ (wpAny_setState_of (xl _ rfl) rfl (by cases c <;> rfl) (wN ?_));rw[if_neg (by cases c <;> decide)];show wpAny _ _ (Builtin.Frozenset.updateFrom "set.__init__" s.heap.objs.size (.ref p) >>= _) _ _ _;refine wJ ?_;unfold Builtin.Frozenset.updateFrom;obtain⟨O,U,z,W⟩:=t.list (u.fresh f);obtain⟨o,n,y,g,G,F⟩:=id z;refine wJ (SU.any_list ⟨o,y,g⟩ ?_);rw[if_neg (by decide)];refine wJ (wpAny_typeOf (T:="list") ⟨o,y,g⟩ ?_);rw[if_neg (by decide)];refine wJ (wpAny_pyIter_list z.isList ?_);refine wJ (wpAny_runValue ?_);refine oV (X:={ X with A:=X.A.in1 }) (pins:=pins) (σ:=σ) (nm:="x") (tp:=default) (kE p _) C s.heap.objs.size H ys L f (λi B v e=>?_) (λB e=>?_) _ 0 _ _ rfl (xt _) ((t.kept (t':=s.toks) λb o e=>xb _ e).atA _ rfl rfl) (λb N=>?_) ⟨_,xl _ rfl,rfl,rfl⟩ ⟨_,0,rfl,(λk=>⟨(λh=>by cases h),(λh=>by cases h)⟩),rfl⟩ λB Y K J=>?_
 ·obtain⟨S,n,rfl,_⟩:=e;have j:=u.fresh (o:=gz X.prog X.w s.heap.objs.size S n) f;have r:(List.map V.str ys)[i]? = some (.str ys[i]):=by rw[wW,wS v];rfl
  refine⟨⟨_,_,j,r⟩,λx P ⟨E,M⟩=>⟨E,ys[i],?_,wS v⟩⟩;have:=M _ j;rw[r] at this;exact(wR this).symm
 ·obtain⟨S,n,rfl,_⟩:=e;exact⟨_,u.fresh f,by rw[wK];exact wM _⟩
 ·have e:b=(s.heap.push { cls:=.type "set",dict:=none,data:=.set #[] 0 (.fresh 0 0 c) }).objs.size:=by simpa using N
  subst e;exact(t.atA X.A.in1 rfl rfl).fpOk (wM _) (t.hok.fresh (wM _))
 ·obtain⟨S,n,rfl,_,w⟩:=J;rw[xk (wM _)] at w;subst w;exact wN (wN ⟨rfl,.ref _,_,Inv.ofA I.ok K,rfl,q _ S f⟩)
def sU (K:W.Frag):LV->Hp->VK->Prop:=λvs H Q=>∃p ys,vs=[.ref p]/\SqL K H p (List.map V.str ys)/\ys.length<=1000/\∀(l:Addr) (P:Program) (w:World) (S:Str->Bool),H l=none->Q (.ref l) (upd H l (gz P w l S (dl ys.reverse)))
def uN:LV->Hp->VK->Prop:=λxs H Q=>∃p bs,xs=[.ref p]/\H p=some (.lst (List.map V.bl bs))/\Q (.bl (bs.any id)) H
theorem pO (c:List Bool):((List.range c.length).any λi=>c.getD i false)=c.any id:=by
 rw[xp,yl,yl]
 constructor
 ·rintro⟨i,a,h⟩;have a:i<c.length:=by simpa using a
  exact⟨c[i],yk a,by simpa [xE,a] using h⟩
 ·rintro⟨b,d,h⟩;obtain⟨i,a,rfl⟩:=List.mem_iff_getElem.mp d;exact⟨i,by simpa using a,by simpa [xE,a] using h⟩
section
variable {X:Cx}{p pos:Pos}{e:Expr}{t:TA}
theorem uY (K:W.Frag) (j:X.calm=true) (Z:X.mg "set"=none) (b:PA X [e] t) (g:Gl X "set":=by rfl) (he:starEach [e] X.env=(false,eval e X.env)::starEach [] X.env:=by rfl) (hpl:(backTo pos (starEach [] X.env)).any (·.1)=false:=by rfl) (k:X.K=K:=by rfl) :
    PE X (.Call (.Name "set" p) [e] [] pos) (tCB (sU K) t):=by
 subst k;refine fM (r:=sU X.K) (λa s v H n o Q I r h=>?_) g Z (show bootBuiltins "set"=some (.type "set") by decide +kernel) b (by decide) (by decide) he hpl;obtain⟨p,m,rfl,i,d,q⟩:=h;obtain⟨u,rfl,f⟩:=cK r;cases f;exact pY j I i d λl S c=>q l _ _ S c
theorem mF (y:X.calm=true):du X (.builtin "any") uN:=by
 intro m s C H E G Q I r h;obtain⟨p,f,rfl,e,q⟩:=h;obtain⟨u,rfl,x⟩:=cK r;cases x;obtain⟨F,a,n,l,d⟩:=(show ObjOk X.prog X.w H s.heap p (.lst (List.map V.bl f)) from I.hok p _ e)
 have w:s.heap.IsList p a.toArray:=⟨_,d,rfl,n,rfl⟩
 have c:a.length=f.length:=by have:=l.length;rw[wK] at this;exact this.symm
 have j:p<s.heap.objs.size:=wT d;refine call_any_walk (wpAny_pyIter_list w ?_);refine⟨s.heap.objs.size,[s.heap.objs.size,p],[s.heap.objs.size],a.toArray.size,_,_,λi=>f.getD i false,rfl,
  Walks.list (A:=X.A.in1) (I.ok.hd y) _ p (xm j) a.toArray,⟨⟨_,xl _ rfl,rfl,rfl⟩,⟨_,xb _ d,rfl,n,rfl⟩⟩,?_,λB L z=>?_⟩
 ·intro i v J K D g k;have g:a[i]? = some v:=by simpa using g
  rw[mN l g];exact wN k
 ·refine⟨.bl _,H,I.kept λb o t=>z b o (by simpa using xm (wT t)) (xb _ t),rfl,?_⟩;rw[xh,c,pO];exact q
theorem wH (b:X.calm=true) (Z:X.mg "any"=none) (c:PA X [e] t) (a:Gl X "any":=by rfl) (he:starEach [e] X.env=(false,eval e X.env)::starEach [] X.env:=by rfl) (hpl:(backTo pos (starEach [] X.env)).any (·.1)=false:=by rfl):PE X (.Call (.Name "any" p) [e] [] pos) (tCB uN t) :=
 dt (mF b) a Z boot_any c (by decide) (by decide) he hpl
end
theorem we (b:PI X tg e z) (c:PI X tg e q):PI X tg e λσ H R=>z σ H R∨q σ H R:=by
 intro a s σ H R I h;exact h.elim (b a s σ H R I) (c a s σ H R I)
theorem oX {K:W.Frag}{a b:Addr}{xs ys:LV}{g:TG}{tb:TS}{D:Ends}{σ:St}{H:Hp}(Pv:Nat -> St -> Hp -> Prop) (o:Pv 0 σ H) (r:∀i σ H, i <= (xs.zip ys).length -> Pv i σ H -> SqT K H a xs /\ SqT K H b ys)
    (f:∀i x y p σ H,(xs.zip ys)[i]? = some (x,y)->Pv i σ H->H p=none->g (.ref p) σ (upd H p (.tup [x,y])) λσ2 H2=>tb { D with nx:=Pv (i+1),ct:=Pv (i+1),bk:=D.nx } σ2 H2) (A:∀σ H,Pv (xs.zip ys).length σ H->D.nx σ H) :
    ∃W:Nat->Nat->SH,(∃m,W 0 m σ H)/\∀i m σ H,W i m σ H ->
     ((jC K a b).stop i H/\D.nx σ H)∨((jC K a b).go i H/\∃N:SH,(∀σ' H',N σ' H'->∃z,z<m/\W (i+1) z σ' H')/\∀x H',(jC K a b).yld i H x H'->g x σ H' λσ2 H2=>tb { D with nx:=N,ct:=N,bk:=D.nx } σ2 H2):=by
 refine⟨λi m σ H=>m=(xs.zip ys).length-i/\i<=(xs.zip ys).length/\Pv i σ H,⟨(xs.zip ys).length,by simp,xt _,o⟩,?_⟩;rintro i m σ H ⟨rfl,k,p⟩;obtain⟨c,d⟩:=r i σ H k p;have l:(xs.zip ys).length=min xs.length ys.length:=xD;by_cases s:i<(xs.zip ys).length
 ·have n:i<xs.length:=by omega
  have w:i<ys.length:=by omega
  refine .inr ⟨⟨xs,ys,xs[i],ys[i],c,d,wS n,wS w⟩,Pv (i+1),λσ' H' q=>⟨(xs.zip ys).length-(i+1),by omega,rfl,by omega,q⟩,?_⟩;rintro x H' ⟨q,u,v,t,rfl,h,j,rfl⟩;exact f i u v q σ H (by rw[xv];exact⟨h xs c,j ys d⟩) p t
 ·have e:i=(xs.zip ys).length:=by omega
  refine .inl ⟨⟨xs,ys,c,d,by omega⟩,A σ H (e ▸ p)⟩
end L2
namespace K44
open PySem L2
def top (i:Nat):Stmt:=PySem.Challenge.pw_orderkeep_k44_rings_looked_at.main.body.getD i (.Pass ⟨0,0,0,0⟩)
abbrev ii:Stmt:=top 1
abbrev kj:Stmt:=top 2
abbrev kb:Stmt:=top 4
abbrev ig:Stmt:=top 5
abbrev iX:Stmt:=top 6
abbrev md:Stmt:=top 7
abbrev gY:Stmt:=top 8
abbrev iq:Stmt:=top 9
abbrev fQ:Stmt:=top 11
abbrev fB:Stmt:=top 12
abbrev dE:Stmt:=top 13
abbrev dB:Stmt:=top 14
abbrev gt:Stmt:=top 15
abbrev iz:Stmt:=top 16
abbrev kg:Stmt:=top 17
abbrev iW:Stmt:=top 18
abbrev gC:Stmt:=top 19
abbrev hY:Stmt:=top 20
abbrev fZ:Stmt:=top 21
abbrev rg:Stmt:=top 23
abbrev ou:Stmt:=top 24
abbrev dh:Stmt:=top 25
abbrev lj:Stmt:=top 26
abbrev kh:Stmt:=top 27
abbrev ow:Stmt:=top 28
abbrev gE:Stmt:=top 29
abbrev jB:Stmt:=top 30
abbrev jm:Stmt:=top 31
abbrev lP:Stmt:=top 32
abbrev nY:Stmt:=top 33
abbrev jc:Stmt:=top 34
abbrev mh:Stmt:=top 35
abbrev gG:Stmt:=top 36
abbrev jt:Stmt:=top 37
abbrev lF:Stmt:=top 38
abbrev jQ:Stmt:=top 39
abbrev gW:Stmt:=top 40
abbrev fI:Stmt:=top 41
abbrev ge:Stmt:=top 42
abbrev ij:Stmt:=top 43
abbrev kz:Stmt:=top 44
abbrev iB:Stmt:=top 45
abbrev oq:Stmt:=top 46
abbrev iR:Stmt:=top 47
abbrev iU:Stmt:=top 48
section
variable {P:Program}{w:World}{K:W.Frag}{mg:MS}{base:Heap}
section
variable {g:TG}{tb:TS}{D:Ends}{R:VK}{σ:St}{H:Hp}
theorem dr (Pv:Nat -> St -> Hp -> Prop) (e:Pv 0 σ H) (f:∀i σ H, i <= xs.length -> Pv i σ H -> SqT K H a xs)
    (b:∀ {B:SH},∀i x σ H,xs[i]? = some x->Pv i σ H->g x σ H λσ2 H2=>tb { nx:=Pv (i+1),rt:=R,bk:=B,ct:=Pv (i+1) } σ2 H2) (h:∀σ H,Pv xs.length σ H->D.nx σ H) (d:D.rt=R:=by rfl) :
    ∃W:Nat->Nat->SH,(∃m,W 0 m σ H)/\∀i m σ H,W i m σ H ->
     ((Itt K a).stop i H/\D.nx σ H)∨((Itt K a).go i H/\∃N:SH,(∀σ' H',N σ' H'->∃q,q<m/\W (i+1) q σ' H')/\∀x H',(Itt K a).yld i H x H'->g x σ H' λσ2 H2=>tb { D with nx:=N,ct:=N,bk:=D.nx } σ2 H2) :=
 tP Pv e f (λi x σ H c p=>d ▸ b i x σ H c p) h
theorem dJ (Pv:Nat -> St -> Hp -> Prop) (e:Pv 0 σ H) (f:∀i σ H, i <= xs.length -> Pv i σ H -> SqL K H a xs)
    (b:∀ {B:SH},∀i x σ H,xs[i]? = some x->Pv i σ H->g x σ H λσ2 H2=>tb { nx:=Pv (i+1),rt:=R,bk:=B,ct:=Pv (i+1) } σ2 H2) (h:∀σ H,Pv xs.length σ H->D.nx σ H) (d:D.rt=R:=by rfl) :
    ∃W:Nat->Nat->SH,(∃m,W 0 m σ H)/\∀i m σ H,W i m σ H ->
     ((Itl K a).stop i H/\D.nx σ H)∨((Itl K a).go i H/\∃N:SH,(∀σ' H',N σ' H'->∃q,q<m/\W (i+1) q σ' H')/\∀x H',(Itl K a).yld i H x H'->g x σ H' λσ2 H2=>tb { D with nx:=N,ct:=N,bk:=D.nx } σ2 H2) :=
 qY Pv e f (λi x σ H c p=>d ▸ b i x σ H c p) h
theorem gZ (Pv:Nat -> St -> Hp -> Prop) (d:Pv 0 σ H)
    (a:∀ {B:SH},∀i σ H,i<n->Pv i σ H->g (.int (lo+i)) σ H λσ2 H2=>tb { nx:=Pv (i+1),rt:=R,bk:=B,ct:=Pv (i+1) } σ2 H2) (e:∀σ H,Pv n σ H->D.nx σ H) (c:D.rt=R:=by rfl) :
    ∃W:Nat->Nat->SH,(∃m,W 0 m σ H)/\∀i m σ H,W i m σ H ->
     ((Itr lo n).stop i H/\D.nx σ H)∨((Itr lo n).go i H/\∃N:SH,(∀σ' H',N σ' H'->∃q,q<m/\W (i+1) q σ' H')/\∀x H',(Itr lo n).yld i H x H'->g x σ H' λσ2 H2=>tb { D with nx:=N,ct:=N,bk:=D.nx } σ2 H2) :=
 pG Pv d (λi σ H b p=>c ▸ a i σ H b p) e
end
def ny (K:W.Frag):Sp:=λvs H Q _=>∃(p a:Addr) (m:Nat),vs=[.ref p,.int (m:Int)]/\Pen K H p a/\m<=60 /\
 ∀l ss H',ss.length=m->ss.Nodup->(∀s∈ss,Nm s)->H' l=some (.lst (List.map V.str ss))->H l=none->l≠p->PenV H' p a->But p H H'->Q (.ref l) H'
def sy (K:W.Frag):Sp:=λvs H Q _=>∃(a:Addr) (ns:List Int),vs=[.ref a]/\SqL K H a (ns.map V.int)/\∀p H',Pen K H' p a->Q (.ref p) H'
theorem scPen:FnScope ["_law_script"] ["_law_script"] (am rg):=⟨rfl,rfl,rfl,by decide +kernel,rfl,by decide +kernel,by decide +kernel⟩
theorem vX (F:Fun K "_law_pen" "_law_pen" rg f fd) (B:Blt mg):FnOk P w K mg base CX0 1 f fd ["_law_script"] (sy K):=by
 refine F.ok scPen (λc H Q E h=>?_) (λe A b s H c Q E j h=>?_)
 ·obtain⟨a,ns,rfl,_⟩:=h
  rfl
 ·obtain⟨a,ns,rfl,d,k⟩:=h;have i:=scPen.nd;refine⟨_,(ag (av (aQ (aa (pv 0) (aa ac (aa ac ab)))))),?_⟩;refine⟨_,rfl,(by show 3<=sizeLine;decide),λp g=>?_⟩;exact k p _ (Pen.new (ns:=ns) d g ⟨0,0,aj,by decide,by decide⟩)
theorem scDraw:FnScope ["_law_pen_here","_law_most","_law_found","_law_place","_law_cell","_law_first","_law_second"] ["_law_pen_here","_law_most"] (am ou):=⟨rfl,rfl,rfl,by decide +kernel,rfl,by decide +kernel,by decide +kernel⟩
theorem sX (F:Fun K "_law_draw" "_law_draw" ou f fd) (B:Blt mg):FnOk P w K mg base CX0 1 f fd ["_law_pen_here", "_law_most"] (ci K) := by
 refine F.ok scDraw (λN H Q E h=>?_) (λO A z s H N Q E e h=>?_)
 ·obtain⟨p,a,m,rfl,_⟩:=h
  rfl
 ·obtain⟨p, a, m, rfl, ⟨⟨ns, M⟩, i, n, u, J, G⟩, l, v, k⟩ := h;have C:∀(r:Hp) (o:HO),(∀b,b≠p->r b=H b)->∀b,b≠p->(upd r p o) b=H b:=λr o q b n=>by rw[az n];exact q b n
  have t:=scDraw.nd;refine⟨_,(ae (aU (ak gX (af (ah K e.units) (pv 0) ac (λ_ _=>rfl)) ac (aw _)) (ae (ao (i:=2) t rfl (Or.inl rfl) (aG dj (af (ah K e.units) (pv 0) ac (λ_ _=>rfl)) (pv 1)))
   (ae (df (aG iy (af (ah K e.units) (pv 0) ac (λ_ _=>rfl)) (pv 1)) (gi (pv 0) ac (gP e.units)))
   (ag (av (pv 2))))) aF)
   (ae (ao (i:=3) t rfl (Or.inl rfl) (af (ah K e.units) (pv 0) ac (λ_ _=>rfl)))
   (ae (df (aG aT (pv 3) ac) (gi (pv 0) ac (gP e.units)))
   (ae (ao (i:=4) t rfl (Or.inl rfl) ac)
   (ae (aU (ak gX (aW K B (aa (af (ah K e.units) (pv 0) ac (λ_ _=>rfl)) ab)) ac (aw _)) (ag (ao (i:=4) t rfl (Or.inl rfl) (af (ah K e.units) (af (ah K e.units) (pv 0) ac (λ_ _=>rfl)) (aG dj (pv 3) (aW K B (aa (af (ah K e.units) (pv 0) ac (λ_ _=>rfl)) ab))) (λ_ _=>rfl)))) aF)
   (ae (aU (PW.pt (cj (ak eW (pv 3) (aW K B (aa (af (ah K e.units) (pv 0) ac (λ_ _=>rfl)) ab)) (aw _)) (bO (ak wk (nR B (aa (pv 4) ab)) (aG vi ac ac) (aw _))))) (ae (df (aG iy (nR B (aa (pv 4) ab)) (pv 1)) (gi (pv 0) ac (gP e.units)))
   (ag (av (aG dj (nR B (aa (pv 4) ab)) (pv 1))))) aF)
   (ae (ao (i:=5) t rfl (Or.inl rfl) (aG dj (aG fG (aG aT (aG aT (aG dj (pv 4) ac) (aG fG ac (pv 3))) ac) ac) ac))
   (ae (ao (i:=6) t rfl (Or.inl rfl) (aG dj (aG aT (aG aT (aG fG (pv 5) (pv 5)) (aG fG ac (pv 3))) ac) ac))
   (ag (av (aG dj (aG iy (pv 6) ac) (pv 1)))))))))))),?_⟩
  refine⟨_,rfl,.lst (.of u) rfl ⟨_,_,rfl,rfl,_,rfl,?_⟩⟩;refine aD (λh=>?_) (λh=>?_)
  ·refine⟨_,rfl,.lst (.of u) rfl ⟨_,rfl,_,_,rfl,rfl,l,?_⟩⟩;refine⟨_,rfl,.lst (.of u) rfl ⟨_,rfl,_,_,rfl,rfl,⟨l,v⟩,?_⟩⟩;refine⟨_,rfl,.lst (j:=2) u rfl ?_⟩;refine⟨_,rfl,?_⟩;exact k _ _ (x8 _ (by omega)) (yu _ l) ⟨i,n / m,aj,J,Int.ediv_nonneg G (by omega)⟩ (C H _ λ_ _=>rfl)
  ·refine⟨_, rfl, .lst (.of u) rfl ?_⟩;refine⟨_,rfl,.int ?_⟩;refine⟨_,rfl,.lst (j:=1) u rfl ?_⟩;have d:(upd H p (.lst ([V.ref a,V.int i,V.int n].set 1 (V.int (i+1))))) p=some (.lst [.ref a,.int (i+1),.int n]):=aj;have g:SqL K (upd H p (.lst ([V.ref a,V.int i,V.int n].set 1 (V.int (i+1))))) a (ns.map V.int):=M _ But.upd;have y:∀b,b≠p->(upd H p (.lst ([V.ref a,V.int i,V.int n].set 1 (V.int (i+1))))) b=H b:=C H _ λ_ _=>rfl;generalize upd H p (.lst ([V.ref a,V.int i,V.int n].set 1 (V.int (i+1))))=r at d g y ⊢;have x:∀c:Int,0<=c->Q (.int (c % m)) r:=λc I=>k _ _ (x8 _ (by omega)) (yu _ l) ⟨i+1,n,d,by omega,G⟩ y;refine⟨_,rfl,.lst (.of d) rfl ⟨_,_,rfl,Or.inl ⟨_,g,rfl⟩,_,_,rfl,rfl,_,rfl,?_⟩⟩;refine aD (λh=>?a) (λh=>?b)
   case' a =>
    have D:(0:Int)<((ns.map V.int).length:Nat):=xf h;obtain⟨c,I⟩:=u9 (ns:=ns) (j:=i % ((ns.map V.int).length:Nat)) (x8 _ (by omega)) (yu _ D);refine⟨_,rfl,.lst (.of d) rfl ⟨_,rfl,_,rfl,.lst (.of d) rfl ⟨_,_,rfl,Or.inl ⟨_,g,rfl⟩,_,_,rfl,rfl,D,.lst g I ?_⟩⟩⟩
   all_goals
    refine⟨_,rfl,_,rfl,.lst (.of d) rfl ⟨_,_,rfl,Or.inl ⟨_,g,rfl⟩,.int ⟨_,rfl,?_⟩⟩⟩;refine aD (λL=>?_) (λL=>?_)
    ·refine⟨_,rfl,_,rfl,_,_,rfl,rfl,⟨by decide,by decide,by decide⟩,_,_,rfl,rfl,_,rfl,?_⟩;refine aD (λR=>?_) (λR=>?_)
     ·refine⟨_,rfl,_,rfl,_,rfl,_,_,rfl,rfl,⟨l,v⟩,?_⟩;refine⟨_,rfl,.lst (j:=2) d rfl ?_⟩;refine⟨_,rfl,_,rfl,_,rfl,_,_,rfl,rfl,l,?_⟩;refine k _ _ (x8 _ (by omega)) (yu _ l) ⟨i+1,_,aj,by omega,Int.ediv_nonneg (by split <;> omega) (by omega)⟩ (C r _ y)
     ·refine⟨_,rfl,_,_,rfl,rfl,(by show (0:Int)<_;decide),_,rfl,_,_,rfl,rfl,.inl ⟨by decide,by decide⟩,.int (.int ⟨_,_,rfl,rfl,.inr ⟨by decide,by decide⟩,_,_,rfl,rfl,(by show (0:Int)<_;decide),?_⟩)⟩;refine⟨_,rfl,_,rfl,_,_,rfl,rfl,.inl (kM _),_,rfl,_,_,rfl,rfl,.inl ⟨by decide,by decide⟩,.int (.int ⟨_,_,rfl,rfl,(by show (0:Int)<_;decide),?_⟩)⟩;refine⟨_,rfl,_,_,rfl,rfl,⟨by decide,by decide⟩,_,rfl,_,_,rfl,rfl,l,?_⟩;exact x _ (Int.ediv_nonneg (x8 _ (by decide)) (by decide))
    ·refine⟨_,rfl,_,_,rfl,rfl,(by show (0:Int)<_;decide),_,rfl,_,_,rfl,rfl,.inl ⟨by decide,by decide⟩,.int (.int ⟨_,_,rfl,rfl,.inr ⟨by decide,by decide⟩,_,_,rfl,rfl,(by show (0:Int)<_;decide),?_⟩)⟩;refine⟨_,rfl,_,rfl,_,_,rfl,rfl,.inl (kM _),_,rfl,_,_,rfl,rfl,.inl ⟨by decide,by decide⟩,.int (.int ⟨_,_,rfl,rfl,(by show (0:Int)<_;decide),?_⟩)⟩;refine⟨_,rfl,_,_,rfl,rfl,⟨by decide,by decide⟩,_,rfl,_,_,rfl,rfl,l,?_⟩;exact x _ (Int.ediv_nonneg (x8 _ (by decide)) (by decide))
abbrev letters:Str:="abcdefghijklmnopqrstuvwxyz"
def dH:LS:=["top","group","tie","wait","first","last","thing","untie","drop","want","unwant","many"]
def vn:LS:=["lay","ring","place","bar","house"]
def wordsL:LS:=dH++vn
theorem qA:∀s∈wordsL,uE (.str s)=true:=by decide +kernel
theorem mI:wordsL.Nodup:=by decide +kernel
theorem pD:wordsL.length=17:=by decide +kernel
def aE:Stmt->Expr
 | .Assign _ e _=>e
 | _=>.Name "" ⟨0,0,0,0⟩
def wz:Stmt->Expr->Stmt
 | .Assign ts _ p,e=>.Assign ts e p
 | s,_=>s
@[irreducible] def jd:Expr:=aE ((cF dh).getD 1 (.Pass ⟨0,0,0,0⟩))
theorem uh:cF dh=(cF dh).set 1 (wz ((cF dh).getD 1 (.Pass ⟨0,0,0,0⟩)) jd):=by unfold jd;rfl
theorem ve {t:Option Expr}{l:Nat}{env:Env}:swapsWith jd t l env=pure false:=by unfold jd;rfl
theorem vS {X:Cx}:PE X jd (qK (bJ (tC (.str "top")) (bJ (tC (.str "group")) (bJ (tC (.str "tie")) (bJ (tC (.str "wait")) (bJ (tC (.str "first")) (bJ (tC (.str "last")) (bJ (tC (.str "thing")) (bJ (tC (.str "untie")) (bJ (tC (.str "drop")) (bJ (tC (.str "want")) (bJ (tC (.str "unwant")) (bJ (tC (.str "many")) fg))))))))))))):=by
 have e:∃q x w u k v z t l y d a c m o s n i j h p r f g b,jd=.List [.Constant (.str "top") m x,.Constant (.str "group") o w,.Constant (.str "tie") s u,.Constant (.str "wait") n k,.Constant (.str "first") i v,.Constant (.str "last") j z,.Constant (.str "thing") h t,.Constant (.str "untie") p l,.Constant (.str "drop") r y,.Constant (.str "want") f d,.Constant (.str "unwant") g a,.Constant (.str "many") b c] q:=by
  unfold jd;exact⟨_,_,_,_,_,_,_,_,_,_,_,_,_,_,_,_,_,_,_,_,_,_,_,_,_,rfl⟩
 obtain⟨q,x,w,u,k,v,z,t,l,y,d,a,c,m,o,s,n,i,j,h,p,r,f,g,b,e⟩:=e;rw[e]
 with_reducible exact aQ (aa aR (aa aR (aa aR (aa aR (aa aR (aa aR (aa aR (aa aR (aa aR (aa aR (aa aR (aa aR ab cu) cu) cu) cu) cu) cu) cu) cu) cu) cu) cu) cu)
theorem eU {q:LS}{i:Nat}(h:i<q.length):atI (List.map V.str q) (i:Int)=some (.str (q.getD i "")):=bf (by simp[h,xE])
theorem tW {f:Nat->Str}{m i:Nat}(h:i<m):((List.range m).map f).getD i ""=f i:=by rw[xE,wW,List.getElem?_range h];rfl
theorem scNames:FnScope ["_law_pen_here","_law_many","_law_letters","_law_words","_law_base","_law_size","_law_at","_law_turn","_law_manner","_law_signs","_law_head","_law_tail"] ["_law_pen_here","_law_many"] (am dh):=⟨rfl,rfl,rfl,by decide +kernel,rfl,by decide +kernel,by decide +kernel⟩
theorem rT {f:Addr}{fd:FuncData}(F:Fun K "_law_names" "_law_names" dh f fd) (B:Blt mg) (r:Cal P w K mg base 1 "_law_draw" ["_law_pen_here", "_law_most"] (ci K)):FnOk P w K mg base CX0 2 f fd ["_law_pen_here", "_law_many"] (ny K) := by
 refine F.ok scNames (λvs H Q E h=>?_) (λf3 A d2 s H vs Q E hr h=>?_)
 ·obtain⟨p,a,m,rfl,_⟩:=h
  rfl
 ·obtain⟨p, a, m, rfl, hP, hm, k⟩ := h;have nd:=scNames.nd;have v0:=hP.2;have lL:letters.length<=sizeLine:=by decide +kernel
  rw[uh];refine⟨_,(ae (ao (i:=2) nd rfl (Or.inr rfl) aR)
   (ae (ao (i:=3) nd rfl (Or.inr rfl) vS ve)
   (ae (ao (i:=3) nd rfl (Or.inr rfl) (aG aT (pv 3) (aQ (aa aR (aa aR (aa aR (aa aR (aa aR ab cu) cu) cu) cu) cu))))
   (ae (ao (i:=4) nd rfl (Or.inr rfl) (vY K aR (aa (cp (am dh) ["_law_pen_here","_law_many","_law_letters","_law_words","_law_base","_law_size","_law_at","_law_turn","_law_manner","_law_signs","_law_head","_law_tail"] [2,0] "_law_k" ["_law_letters","_law_pen_here"] (dq rfl B.range (aa ac ab)) bT (af (ah K hr.units) (pv 1) (ai r (hr.mono (by decide)) rfl (aa (pv 2) (aa ac ab))) (λ_ _=>rfl))) ab)))
   (ae (ao (i:=5) nd rfl (Or.inr rfl) (aG aT ac (ai r (hr.mono (by decide)) rfl (aa (pv 0) (aa ac ab)))))
   (ae (ao (i:=6) nd rfl (Or.inr rfl) (ai r (hr.mono (by decide)) rfl (aa (pv 0) (aa (pv 5) ab))))
   (ae (ao (i:=7) nd rfl (Or.inr rfl) (ai r (hr.mono (by decide)) rfl (aa (pv 0) (aa ac ab))))
   (ae (ao (i:=8) nd rfl (Or.inl rfl) (ai r (hr.mono (by decide)) rfl (aa (pv 0) (aa ac ab))))
   (ae (aU (PW.pt (cj (ak (aY hr.units) (pv 8) ac (aw _)) (bO (ak eW (pv 1) ac (aw _))))) (ag (av (cp (am dh) ["_law_pen_here","_law_many","_law_letters","_law_words","_law_base","_law_size","_law_at","_law_turn","_law_manner","_law_signs","_law_head","_law_tail"] [4,7] "_law_k" ["_law_base","_law_turn"] (dq rfl B.range (aa (pv 1) ab)) bT (bq (eX K) (pv 1) ce (bi (aG aT (aG dj (aG aT (pv 2) (aG fG ac (pv 0))) ac) ac)))))) aF)
   (ae (aU (PW.pt (cj (ak (aY hr.units) (pv 8) ac (aw _)) (bO (ak eW (pv 1) ac (aw _))))) (ag (av (cp (am dh) ["_law_pen_here","_law_many","_law_letters","_law_words","_law_base","_law_size","_law_at","_law_turn","_law_manner","_law_signs","_law_head","_law_tail"] [3,7] "_law_k" ["_law_words","_law_turn"] (dq rfl B.range (aa (pv 1) ab)) bT (af (ah K hr.units) (pv 1) (aG dj (aG aT (pv 2) (pv 0)) ac) (λ_ _=>rfl))))) aF)
   (ae (ao (i:=9) nd rfl (Or.inr rfl) (cp (am dh) ["_law_pen_here","_law_many","_law_letters","_law_words","_law_base","_law_size","_law_at","_law_turn","_law_manner","_law_signs","_law_head","_law_tail"] [2,7] "_law_k" ["_law_letters","_law_turn"] (dq rfl B.range (aa (pv 1) ab)) bT (af (ah K hr.units) (pv 1) (aG dj (aG aT (pv 2) (aG fG ac (pv 0))) ac) (λ_ _=>rfl))))
   (ae (aU (ak eW (pv 1) ac (aw _)) (ag (av (cp (am dh) ["_law_pen_here","_law_many","_law_letters","_law_words","_law_base","_law_size","_law_at","_law_turn","_law_manner","_law_signs","_law_head","_law_tail"] [4,5,6] "_law_sign" ["_law_base","_law_size","_law_at"] (be K (pv 9)) bT (aG aT (aG aT (bq (eX K) (pv 1) ce (bi (pv 3))) (pv 0)) (bq (eX K) (pv 1) (bi (aG aT (pv 3) ac)) (bi (pv 2))))))) aF)
   (ae (ao (i:=10) nd rfl (Or.inr rfl) (bq (eX K) (pv 4) ce (bi (aG dj (pv 6) ac))))
   (ae (ao (i:=11) nd rfl (Or.inr rfl) (bq (eX K) (pv 4) (bi (aG dj (pv 6) ac)) (bi (aG dj (pv 5) ac))))
   (ag (av (cp (am dh) ["_law_pen_here","_law_many","_law_letters","_law_words","_law_base","_law_size","_law_at","_law_turn","_law_manner","_law_signs","_law_head","_law_tail"] [11,10,2,9] "_law_k" ["_law_tail","_law_head","_law_letters","_law_signs"] (dq rfl B.range (aa (pv 1) ab)) bT (aG aT (aG aT (aG aT (pv 2) (af (ah K hr.units) (pv 4) (pv 0) (λ_ _=>rfl))) (af (ah K hr.units) (pv 3) (aG iy (pv 0) ac) (λ_ _=>rfl))) (pv 1))))))))))))))))))),?_⟩
  refine⟨(by show 12<=sizeLine;decide),λl1 c5=>?_⟩;have n1:=v0.ne c5;have b1:=(But.refl p H).at (o:=.lst (List.map V.str dH)) c5;have v1:=v0.upd (o:=.lst (List.map V.str dH)) n1;have e1:upd H l1 (.lst (List.map V.str dH)) l1=some (.lst (List.map V.str dH)):=aj;show uS _ _ _ _ (upd H l1 (.lst (List.map V.str dH)));generalize upd H l1 (.lst (List.map V.str dH))=H1 at b1 v1 e1 ⊢;refine⟨_,rfl,(by show 5<=sizeLine;decide),λl2 a6=>?_⟩;have n2:=v1.ne a6;have b2:=b1.at (o:=.lst ([V.str "lay",V.str "ring",V.str "place",V.str "bar",V.str "house"])) (b1.free (Ne.symm n2) a6);have v2:=v1.upd (o:=.lst ([V.str "lay",V.str "ring",V.str "place",V.str "bar",V.str "house"])) n2;refine .lst (by rw[az (aJ e1 a6)];exact e1) aj (by show 17<=sizeLine;decide) λR a2=>?_;have n3:=v2.ne a2;have b3:=b2.at (o:=.lst (List.map V.str dH++[V.str "lay",V.str "ring",V.str "place",V.str "bar",V.str "house"])) (b2.free (Ne.symm n3) a2);have v3:=v2.upd (o:=.lst (List.map V.str dH++[V.str "lay",V.str "ring",V.str "place",V.str "bar",V.str "house"])) n3;have e3:upd (upd H1 l2 (.lst ([V.str "lay",V.str "ring",V.str "place",V.str "bar",V.str "house"]))) R (.lst (List.map V.str dH++[V.str "lay",V.str "ring",V.str "place",V.str "bar",V.str "house"])) R=some (.lst (List.map V.str wordsL)):=by rw[aj];rfl
  have N:R≠p:=Ne.symm n3;have d9:H R=none:=b2.free (Ne.symm n3) a2;generalize upd (upd H1 l2 (.lst ([V.str "lay",V.str "ring",V.str "place",V.str "bar",V.str "house"]))) R (.lst (List.map V.str dH++[V.str "lay",V.str "ring",V.str "place",V.str "bar",V.str "house"]))=H3 at b3 v3 e3 ⊢;refine⟨rfl,_,rfl,by decide,by decide,?_⟩
  let c3:Addr->Nat->LV->SH:=λD i C u I=>∃o ys,u=[o,some (.str letters),some (.ref p)]/\C=List.map V.str ys/\ys.length=i/\(∀y∈ys,y.length=1/\Lo y)/\I R=some (.lst (List.map V.str wordsL))/\PenV I p a/\But p H I/\H D=none/\p≠D/\R≠D
  refine eV c3 λD S=>⟨?_,?_,?_⟩
  ·have l:=v3.ne S;have d:=b3.free (Ne.symm l) S;have J:=aJ e3 S;exact⟨none,[],rfl,rfl,rfl,(λy W=>by cases W),by rw[az J];exact e3,v3.upd l,b3.at d,d,l,J⟩
  ·rintro i C u I T ⟨o, ys, rfl, rfl, hl, X, hw, v, b, d, l, J⟩ g;refine gs ?_;refine⟨_,rfl,_,rfl,p,a,26,rfl,hP.but b v,by decide,by decide,λr5 H5 c7 a8 v5 e5=>?_⟩;refine .str lL (lH c7 a8) ⟨(e5 D (Ne.symm l)).trans g,?_,_,ys++[abc r5],rfl,by simp[abc],by simp[hl],?_,?_,v5.upd l,(b.trans (But.of_eq e5)).at d,d,l,J⟩
   ·rw[wK,hl];exact aH (by simp at T;omega)
   ·intro y W;rcases w8.mp W with W | W
    ·exact X y W
    ·have:y=abc r5:=by simpa using W
     subst this;exact⟨rfl,jL c7 a8⟩
   ·rw[az J];exact(e5 R N).trans hw
  ·rintro C u H5 ⟨o, ys, rfl, rfl, hl, X, a7, v5, b5, d, l, J⟩ g;have Y:Lo (Txt.join "" ys):=Lo.join Lo.nil λy W=>(X y W).2;have d5:(Txt.join "" ys).length=8:=by rw[qV λy W=>(X y W).1];simpa using hl
   have e0:("":Str).length=0:=by decide +kernel
   have c2:=u4 (n:=1) λy W=>Nat.le_of_eq (X y W).1;refine⟨_,D,ys,rfl,rfl,g,by rw[e0];have:=hl;simp at this;omega,?_⟩;generalize Txt.join "" ys=z at Y d5 ⊢;have hz:z.length<=sizeLine:=Nat.le_of_lt (aH (by omega));clear g X hl c2;refine⟨_,rfl,p,a,8,rfl,hP.but b5 v5,by decide,by decide,λr6 H6 c9 e4 v6 e6=>.int ?_⟩;have b6:=b5.trans (But.of_eq e6);refine⟨_,rfl,_,rfl,p,a,_,rfl,hP.but b6 v6,by omega,by omega,λr7 H7 d3 f6 v7 e7=>?_⟩;have b7:=b6.trans (But.of_eq e7);refine⟨_,rfl,p,a,26,rfl,hP.but b7 v7,by decide,by decide,λr8 H8 d1 f4 v8 e8=>?_⟩;have b8:=b7.trans (But.of_eq e8);refine⟨_,rfl,p,a,4,rfl,hP.but b8 v8,by decide,by decide,λr9 H9 f1 f0 v9 e9=>?_⟩;have b9:=b8.trans (But.of_eq e9);have b0:H9 R=some (.lst (List.map V.str wordsL)):=by rw[e9 R N,e8 R N,e7 R N,e6 R N];exact a7
   obtain⟨U,rfl⟩:=xj c9;obtain⟨G,rfl⟩:=xj d3;obtain⟨L,rfl⟩:=xj d1;clear e6 e7 e8 e9 v5 v6 v7 v8 b5 b6 b7 b8 a7;have a1:∀(D:Addr) (ss:LS) (I:Hp),I D=some (.lst (List.map V.str ss))->ss.length=m->ss.Nodup->(∀s∈ss,Nm s)->H D=none->p≠D->PenV I p a->But p H I->Q (.ref D) I:=λD ss I h1 h2 h3 h4 h5 h6 h7 h8=>k D ss I h2 h3 h4 h1 h5 (Ne.symm h6) h7 h8;have d8:=pD;have aM:∀(H9:Hp),PenV H9 p a->But p H H9->∀σ:St,σ=[some (.ref p),some (.int (m:Int)),some (.str letters),some (.ref R),some (.str z),some (.int (1+(U:Int))),some (.int (G:Int)),some (.int (L:Int)),some (.int r9),none,none,none]->True:=λ_ _ _ _ _=>trivial;refine⟨_,rfl,.sc rfl ⟨_,rfl,?_⟩⟩;apply uF;intro O;refine aD (λd0=>?a) (λd0=>O)
   case' a =>
    refine⟨_,rfl,.int ⟨_,rfl,?_⟩⟩;refine aD (λh9=>?c) (λh9=>O)
    case c =>
     have h9:(m:Int)<9:=xf h9;refine⟨_,rfl,_,rfl,by omega,by omega,?_⟩
     let b4:Addr->Nat->LV->SH:=λD i C u I=>∃o,u=[o,some (.str z),some (.int (L:Int))]/\C=List.map V.str ((List.range i).map λk=>Txt.slice z none (some (((L+3 * k) % 8+1:Nat):Int)))/\PenV I p a/\But p H I/\H D=none/\p≠D
     refine eV b4 λD S=>⟨?_,?_,?_⟩
     ·have l:=v9.ne S;have d:=b9.free (Ne.symm l) S;exact⟨none,rfl,rfl,v9.upd l,b9.at d,d,l⟩
     ·rintro i C u I T ⟨o,rfl,rfl,v,b,d,l⟩ g;refine gs ?_;refine⟨_,rfl,_,rfl,_,rfl,_,_,rfl,rfl,.inl ⟨by decide,by decide⟩,.int ⟨_,_,rfl,rfl,(by show (0:Int)<_;decide),.int ⟨_,rfl,.str hz ?_⟩⟩⟩;rw[show ((L:Int)+3 * (0+(i:Nat):Int)) % 8+1=(((L+3 * i) % 8+1:Nat):Int) by omega];refine⟨g,?_,_,rfl,?_,v.upd l,b.at d,d,l⟩
      ·rw[wK,wK,xS];exact aH (by simp at T;omega)
      ·rw[eY,wZ];rfl
     ·rintro C u I ⟨o,rfl,rfl,v,b,d,l⟩ g;have a5:((m:Int)-0).toNat=m:=by omega
      refine a1 D _ I g (by simp) (hF _ _ λi j a4 Y e=>?_) (λs hs=>?_) d l v b
      ·have e:=congrArg Str.length e;rw[gf (by omega),gf (by omega)] at e;simp at Y;omega
      ·obtain⟨i,T,rfl⟩:=jw hs;have hl:=gf (z:=z) (j:=(L+3 * i) % 8+1) (by omega);exact(Y.slice _ _).nm (by rw[hl];omega) (by rw[hl];omega)
   all_goals
    refine⟨_,rfl,.sc rfl ⟨_,rfl,?_⟩⟩;apply uF;intro O;refine aD (λd7=>?_) (λd7=>O);refine⟨_,rfl,.int ⟨_,rfl,?_⟩⟩;refine aD (λa3=>?_) (λa3=>O)
    ·
        have a3:(m:Int)<18:=xf a3;refine⟨_,rfl,_,rfl,by omega,by omega,?_⟩
        let c6:Addr->Nat->LV->SH:=λD i C u I=>∃o,u=[o,some (.ref R),some (.int (L:Int))]/\C=List.map V.str ((List.range i).map λk=>wordsL.getD ((L+k) % 17) "")/\I R=some (.lst (List.map V.str wordsL))/\PenV I p a/\But p H I/\H D=none/\p≠D/\R≠D
        refine eV c6 λD S=>⟨?_,?_,?_⟩
        ·have l:=v9.ne S;have d:=b9.free (Ne.symm l) S;have J:=aJ b0 S;exact⟨none,rfl,rfl,by rw[az J];exact b0,v9.upd l,b9.at d,d,l,J⟩
        ·rintro i C u I T ⟨o,rfl,rfl,hw,v,b,d,l,J⟩ g;refine gs ?_;refine⟨_,rfl,_,rfl,_,rfl,.int ⟨_,_,rfl,rfl,(by show (0:Int)<_;decide),?_⟩⟩;refine .lst (.of hw) (show atI _ (((L:Int)+(0+(i:Nat):Int)) % 17)=some (.str (wordsL.getD ((L+i) % 17) "")) from by
          rw[show ((L:Int)+(0+(i:Nat):Int)) % 17=(((L+i) % 17:Nat):Int) by omega];exact eU (by omega)) ⟨g,?_,_,rfl,?_,by rw[az J];exact hw,v.upd l,b.at d,d,l,J⟩
         ·rw[wK,wK,xS];exact aH (by simp at T;omega)
         ·rw[eY,wZ];rfl
        ·rintro C u I ⟨o, rfl, rfl, hw, v, b, d, l, J⟩ g;refine a1 D _ I g (by simp) (hF _ _ λi j a4 Y e=>?_) (λs hs=>?_) d l v b
         ·have e:=rZ wordsL mI (by omega) (by omega) e;simp at Y;omega
         ·obtain⟨i,T,rfl⟩:=jw hs;have c4:(L+i) % 17<wordsL.length:=by omega
          have c0:wordsL.getD ((L+i) % 17) ""∈wordsL:=by
           rw[xE,wS c4];exact yk c4
          exact isNm_iff.mp (qA _ c0)
    all_goals
     refine⟨_,rfl,_,rfl,by omega,by omega,?_⟩
     let c8:Addr->Nat->LV->SH:=λD i C u I=>∃o,u=[o,some (.str letters),some (.int (L:Int))]/\C=List.map V.str ((List.range i).map λk=>abc (((L+5 * k) % 26:Nat):Int))/\PenV I p a/\But p H I/\H D=none/\p≠D
     refine eV c8 λD S=>⟨?_,?_,?_⟩
     ·have l:=v9.ne S;have d:=b9.free (Ne.symm l) S;exact⟨none,rfl,rfl,v9.upd l,b9.at d,d,l⟩
     ·rintro i C u I T ⟨o,rfl,rfl,v,b,d,l⟩ g;refine gs ?_;refine⟨_,rfl,_,rfl,_,rfl,_,_,rfl,rfl,.inl ⟨by decide,by decide⟩,.int ⟨_,_,rfl,rfl,(by show (0:Int)<_;decide),?_⟩⟩;refine .str lL (show atI _ (((L:Int)+5 * (0+(i:Nat):Int)) % 26)=some (97+(((L+5 * i) % 26:Nat):Int).toNat) from by
       rw[show ((L:Int)+5 * (0+(i:Nat):Int)) % 26=(((L+5 * i) % 26:Nat):Int) by omega];exact lH (by omega) (by omega)) ⟨g,?_,_,rfl,?_,v.upd l,b.at d,d,l⟩
      ·rw[wK,wK,xS];exact aH (by simp at T;omega)
      ·rw[eY,wZ];rfl
     ·rintro C u HA ⟨o, rfl, rfl, vA, bA, f2, f5⟩ g;have a5:((m:Int)-0).toNat=m:=by omega
      have g:HA D=some (.lst (List.map V.str ((List.range m).map λk=>abc (((L+5 * k) % 26:Nat):Int)))):=by first | exact g | (rw[a5] at g;exact g)
      refine⟨_,rfl,.int ⟨_,rfl,?_⟩⟩;refine aD (λa0=>?_) (λa0=>?_)
      ·have a0:(m:Int)<27 := xf a0;refine⟨_,rfl,_,rfl,⟨_,.of g⟩,?_⟩
       let a9:Addr->Nat->LV->SH:=λD i C u I=>∃o,u=[o,some (.str z),some (.int (1+(U:Int))),some (.int (G:Int))]/\C=List.map V.str ((List.range i).map λk=>Txt.slice z none (some (G:Int))++abc (((L+5 * k) % 26:Nat):Int)++Txt.slice z (some ((G:Int)+1)) (some (1+(U:Int))))/\Same HA I/\HA D=none
       refine cP (List.map V.str ((List.range m).map λk=>abc (((L+5 * k) % 26:Nat):Int))) a9 λD S=>⟨?_,?_,?_,?_⟩
       ·exact⟨none,rfl,rfl,Same.new S,S⟩
       ·rintro i C u I _ ⟨o,rfl,_,Z,_⟩ _;exact .of (Z _ _ g)
       ·rintro i C u I x hx ⟨o,rfl,rfl,Z,d⟩ t;rw[wW,wW] at hx;have d4:i<m:=by
         by_cases q:i<m
         ·exact q
         ·rw[List.getElem?_eq_none (by rw[xS];omega)] at hx;cases hx
        rw[List.getElem?_range d4] at hx;have hx:V.str (abc (((L+5 * i) % 26:Nat):Int))=x:=wR hx;subst hx;refine gs ?_;have l1:=kO z G;have l2:=il z (G+1) (1+U);rw[show ((G+1:Nat):Int)=(G:Int)+1 by omega,show ((1+U:Nat):Int)=1+(U:Int) by omega] at l2;have d6:8<=sizeLine:=by decide
        refine⟨_,rfl,_,rfl,_,rfl,.str hz ⟨_,rfl,.str ?_ ⟨_,rfl,_,rfl,.int ⟨_,rfl,_,rfl,_,rfl,.str hz (.str ?_ ⟨t,?_,_,rfl,?_,?_,d⟩)⟩⟩⟩⟩
        ·rw[dz];omega
        ·rw[bv,dz];omega
        ·rw[wK,wK,xS];exact aH (by omega)
        ·rw[eY,wZ];rfl
        ·exact bu Z d
       ·rintro C u I ⟨o,rfl,rfl,Z,d⟩ t;rw[wK,wK,xS] at t;refine a1 _ _ I t (by simp) (hF _ _ λi j a4 Y e=>?_) (λs hs=>?_) (bA.free (Ne.symm (vA.ne d)) d) (vA.ne d) (ap Z vA) (bA.trans (But.of_same Z))
        ·have e:=uf e;omega
        ·obtain⟨i,T,rfl⟩:=jw hs;have l1:=gf (z:=z) (j:=G) (by omega);have l2:=il z (G+1) (1+U);rw[show ((G+1:Nat):Int)=(G:Int)+1 by omega,show ((1+U:Nat):Int)=1+(U:Int) by omega] at l2;refine(((Y.slice _ _).app (jL (by omega) (by omega))).app (Y.slice _ _)).nm ?_ ?_
         ·rw[bv,bv,dz];omega
         ·rw[bv,bv,dz];omega
      ·have a0:¬ (m:Int)<27 := λq => a0 (wQ q);refine⟨_,rfl,_,rfl,_,_,rfl,rfl,(by show (0:Int)<_;decide),_,rfl,.str hz ?_⟩;refine⟨_,rfl,_,rfl,_,_,rfl,rfl,(by show (0:Int)<_;decide),_,rfl,_,rfl,_,_,rfl,rfl,(by show (0:Int)<_;decide),_,rfl,.str hz ?_⟩;have t1:=kO z (G % 6);have t2:=il z (G % 6) ((1+U) % 7);rw[show ((G % 6:Nat):Int)=(G:Int) % 6 by omega] at t1 t2;rw[show (((1+U) % 7:Nat):Int)=(1+(U:Int)) % 7 by omega] at t2;have g1:=Y.slice none (some ((G:Int) % 6));have g2:=Y.slice (some ((G:Int) % 6)) (some ((1+(U:Int)) % 7));have ht:(Txt.slice z none (some ((G:Int) % 6))).length+(Txt.slice z (some ((G:Int) % 6)) (some ((1+(U:Int)) % 7))).length<=6:=by omega
       have d6:8<=sizeLine:=by decide
       refine⟨_,rfl,_,rfl,by omega,by omega,?_⟩;generalize Txt.slice z none (some ((G:Int) % 6))=hd at t1 g1 ht ⊢;generalize Txt.slice z (some ((G:Int) % 6)) (some ((1+(U:Int)) % 7))=tl at t2 g2 ht ⊢;refine eV (λD' i C u I=>∃o,u=[o,some (.str tl),some (.str hd),some (.str letters),some (.ref D)]/\C=List.map V.str ((List.range i).map λk=>hd++abc (((L+5 * k) % 26:Nat):Int)++abc ((k / 26:Nat):Int)++tl)/\Same HA I/\HA D'=none) λD' c1=>⟨?_,?_,?_⟩
       ·exact⟨none,rfl,rfl,Same.new c1,c1⟩
       ·rintro i C u I T ⟨o,rfl,rfl,Z,M⟩ t;have T:i<m:=by simpa using T
        refine gs ?_;refine⟨_,rfl,_,rfl,_,rfl,.lst (.of (Z _ _ g)) (show atI _ (0+(i:Nat):Int)=some (.str (abc (((L+5 * i) % 26:Nat):Int))) from by
         rw[Int.zero_add,eU (by simpa using T),tW T]) (.str (by rw[dz];omega) ⟨_,rfl,_,rfl,_,_,rfl,rfl,⟨by decide,by decide⟩,.str lL (show atI _ ((0+(i:Nat):Int) / 26)=some (97+((i / 26:Nat):Int).toNat) from by
         rw[show (0+(i:Nat):Int) / 26=((i / 26:Nat):Int) by omega];exact lH (by omega) (by omega)) (.str ?_ ⟨_,rfl,.str ?_ ⟨t,?_,_,rfl,?_,?_,M⟩⟩)⟩)⟩
        ·rw[bv,dz];show _+1+1<=sizeLine;omega
        ·rw[bv,bv,dz];show _+1+1+_<=sizeLine;omega
        ·rw[wK,wK,xS];exact aH (by omega)
        ·rw[eY,wZ];rfl
        ·exact bu Z M
       ·rintro C u I ⟨o,rfl,rfl,Z,M⟩ t;have t:I D'=some (.lst (List.map V.str ((List.range m).map λk=>hd++abc (((L+5 * k) % 26:Nat):Int)++abc ((k / 26:Nat):Int)++tl))):=by first | exact t | (rw[a5] at t;exact t)
        refine a1 D' _ I t (by simp) (hF _ _ λi j a4 Y e=>?_) (λs hs=>?_) (bA.free (Ne.symm (vA.ne M)) M) (vA.ne M) (ap Z vA) (bA.trans (But.of_same Z))
        ·obtain⟨e1,e2⟩:=ro e;omega
        ·obtain⟨i,T,rfl⟩:=jw hs;refine(((g1.app (jL (by omega) (by omega))).app (jL (by omega) (by omega))).app g2).nm ?_ ?_
         ·rw[bv,bv,bv,dz];omega
         ·rw[bv,bv,bv,dz,dz];omega
theorem bM {z:LV}{ps:List (Str × Str)}(b:RepAll H z (ps.map aK)) {j:Nat}(c:z[j]? = some x):∃e ta,ps[j]? = some e/\x=.ref ta/\H ta=some (.tup [.str e.1,.str e.2]):=by
 obtain⟨d,a,rd⟩:=b.get c;rw[wW] at a;cases q:ps[j]? with
 | none=>rw[q] at a;cases a
 | some e =>
  rw[q] at a;have a:aK e=d:=wR a;rw[<- a] at rd;obtain⟨ta,f,g⟩:=ku rd;exact⟨e,ta,rfl,f,g⟩
theorem bI {z:LS}{i:Nat}(h:(List.map V.str z)[i]? = some x):∃s,z[i]? = some s/\V.str s=x:=by
 rw[wW] at h;cases q:z[i]? with
 | none=>rw[q] at h;cases h
 | some e=>rw[q] at h;exact⟨e,rfl,wR h⟩
theorem so {A B:SH}(a:x=.ref q) (c:SqT K H q [u,v]) (h:A ((σ.set 0 (some u)).set 1 (some v)) H) :
    qR K 2 (nQ (cg 0) (nQ (cg 1) uK)) x σ H λσ2 G=>gR σ2 G λb z=>if b=true then A σ2 z else B σ2 z:=by
 subst a;refine⟨q,_,rfl,c,rfl,_,_,rfl,_,_,rfl,rfl,?_⟩;show (if true=true then A ((σ.set 0 (some u)).set 1 (some v)) H else B ((σ.set 0 (some u)).set 1 (some v)) H);rw[if_pos rfl];exact h
theorem aV (v:PenV H p a):∃ys,H p=some (.lst ys):=let ⟨_,_,e,_⟩:=v;⟨_,e⟩
theorem bW {q:LS}{i:Nat}(h:i<q.length):q.getD i ""∈q:=by
 rw[xE,wS h];exact yk h
def cw:Sp:=λvs H Q _=>∃(a:Addr) (us:LS) (ks:Kn),vs=[.ref a]/\Rep H (.ref a) (cB ks)/\Tre us ks/\∀d kvs H',Same H H'->H d=none->H' d=some (.dK kvs)->ArK kvs us ks->Q (.ref d) H'
theorem scAround:FnScope ["_law_knots","_law_found","_law_name","_law_some","_law_unit"] ["_law_knots"] (am kh):=⟨rfl,rfl,rfl,by decide +kernel,rfl,by decide +kernel,by decide +kernel⟩
theorem qm (F:Fun K "_law_around" "_law_around" kh f fd) (B:Blt mg):FnOk P w K mg base CX0 1 f fd ["_law_knots"] cw := by
 refine F.ok scAround (λvs H Q E h=>?_) (λa0 A J s H vs Q E S h=>?_)
 ·obtain⟨a,us,z,rfl,_⟩:=h
  rfl
 ·obtain⟨a, us, z, rfl, R, T, k⟩ := h;have I:=scAround.nd;refine⟨_,(ae (ao (i:=1) I rfl (Or.inl rfl) jb)
   (ae (bL PassesOwn.never rfl (bH K (pv 0)) (bN (n:=2) K rfl (aO (aA (i:=2) I rfl (Or.inl rfl)) (aO (aA (i:=3) I rfl (Or.inl rfl)) bS))) (ag (bL PassesOwn.never rfl (bH K (pv 3)) (aA (i:=4) I rfl (Or.inl rfl)) (ag (df (pv 2) (gi (pv 1) (pv 4) (gP S.units)))))))
   (ag (av (pv 1))))),?_⟩
  obtain⟨a',v,e0,U,W⟩:=gg R;cases e0;have m:=W.len;rw[wK] at m;have M:(br z).length<=60:=by rw[T.perm.length_eq];exact T.len
  intro d L;have X:=Same.new (o:=.dK []) L;refine⟨_,rfl,a,rfl,⟨_,.of (X _ _ U)⟩,?_⟩
  let q:Nat->SH:=λi l g=>∃D G e b,l=[some (.ref a),some (.ref d),D,G,e]/\ArN H g d z i 0 b
  refine dr (R:=Q) (xs:=v) q ?_ ?_ ?_ ?_
  ·exact⟨none,none,none,[],rfl,X,aj,xt _,(λk t=>by simp at t),λk _ u C=>by simp at C⟩
  ·rintro i l g hi ⟨D,G,e,b,rfl,c⟩;exact .of (c.sm _ _ U)
  ·rintro _ i x l g hx ⟨D,G,e,b,rfl,c⟩;obtain⟨Y,Z,O,t,rfl,N,p⟩:=iV W hx;refine⟨Z,_,rfl,.of (c.sm _ _ N),rfl,_,_,rfl,_,_,rfl,rfl,?_⟩;refine⟨_,rfl,O,rfl,⟨_,.of (c.sm _ _ p)⟩,?_⟩
   let r:Nat->SH:=λj l g=>∃e b,l=[some (.ref a),some (.ref d),some (.str Y.1),some (.ref O),e]/\ArN H g d z i j b
   refine dr (R:=Q) (xs:=Y.2.map V.str) r ?_ ?_ ?_ ?_
   ·exact⟨e,b,rfl,c⟩
   ·rintro j l g hj ⟨e,b,rfl,c⟩;exact .of (c.sm _ _ p)
   ·rintro _ j y l g hy ⟨e,b,rfl,c⟩;obtain⟨u,C,rfl⟩:=bI hy;have S:=c.room t (wO.mp C).1 M;exact⟨_,rfl,_,rfl,_,rfl,.dic (DPut.k (k:=.inr u) c.at_ (aH (by omega))) ⟨_,_,rfl,c.put L T.knd t C⟩⟩
   ·rintro l g ⟨e,b,rfl,c⟩;rw[wK] at c;exact⟨_,_,_,b,rfl,c.next t rfl⟩
  ·rintro l g ⟨D,G,e,b,rfl,c⟩;exact⟨_,rfl,k d b g c.sm L c.at_ (c.fin T m)⟩
def jW:Sp:=λvs H Q _=>∃(q:Addr) (us:LS) (ks:Kn) (ts ws wn:List (Str × Str)),vs=[.ref q]/\Rep H (.ref q) (aZ ks ts ws wn)/\Tre us ks/\∀d kvs H',Same H H'->H d=none->H' d=some (.dK kvs)->ArK kvs us ks->Q (.ref d) H'
theorem scHomes:FnScope ["house","table","knot","child"] ["house"] (am md):=⟨rfl,rfl,rfl,by decide +kernel,rfl,by decide +kernel,by decide +kernel⟩
theorem sg (F:Fun K "homes" "homes" md f fd) (B:Blt mg):FnOk P w K mg base CX0 1 f fd ["house"] jW := by
 refine F.ok scHomes (λvs H Q E h=>?_) (λa0 A M s H vs Q E v h=>?_)
 ·obtain⟨q,us,I,ts,ws,Z,rfl,_⟩:=h
  rfl
 ·obtain⟨q, us, I, ts, ws, Z, rfl, R, T, k⟩ := h;have O:=scHomes.nd;refine⟨_,(ae (ao (i:=1) O rfl (Or.inl rfl) jb)
   (ae (bL PassesOwn.never rfl (bH K (af (ah K v.units) (pv 0) ac (λ_ _=>rfl))) (aA (i:=2) O rfl (Or.inl rfl)) (ag (bL PassesOwn.never rfl (bH K (af (ah K v.units) (pv 2) ac (λ_ _=>rfl))) (aA (i:=3) O rfl (Or.inl rfl)) (ag (df (af (ah K v.units) (pv 2) ac (λ_ _=>rfl)) (gi (pv 1) (pv 3) (gP v.units)))))))
   (ag (av (pv 1))))),?_⟩
  obtain⟨q',a,b,c,d4,U,hq,R1,_⟩:=bc R;cases U;obtain⟨a',G,U,X,Y⟩:=gg R1;cases U;have p:=Y.len;rw[wK] at p;have S:(br I).length<=60:=by rw[T.perm.length_eq];exact T.len
  intro d N;have W:=Same.new (o:=.dK []) N;refine⟨_,rfl,.tup (.of (W _ _ hq)) rfl ⟨a,rfl,⟨_,.of (W _ _ X)⟩,?_⟩⟩
  let z:Nat->SH:=λi n m=>∃L l e,n=[some (.ref q),some (.ref d),L,l]/\ArN H m d I i 0 e
  refine dr (R:=Q) (xs:=G) z ?_ ?_ ?_ ?_
  ·exact⟨none,none,[],rfl,W,aj,xt _,(λk D=>by simp at D),λk _ u J=>by simp at J⟩
  ·rintro i n m hi ⟨L,l,e,rfl,g⟩;exact .of (g.sm _ _ X)
  ·rintro _ i x n m hx ⟨L,l,e,rfl,g⟩;obtain⟨kn,ta,la,D,rfl,C,t⟩:=iV Y hx;refine⟨_,rfl,.tup (.of (g.sm _ _ C)) rfl ⟨la,rfl,⟨_,.of (g.sm _ _ t)⟩,?_⟩⟩
   let r:Nat->SH:=λj n m=>∃l e,n=[some (.ref q),some (.ref d),some (.ref ta),l]/\ArN H m d I i j e
   refine dr (R:=Q) (xs:=kn.2.map V.str) r ?_ ?_ ?_ ?_
   ·exact⟨l,e,rfl,g⟩
   ·rintro j n m hj ⟨l,e,rfl,g⟩;exact .of (g.sm _ _ t)
   ·rintro _ j y n m hy ⟨l,e,rfl,g⟩;obtain⟨u,J,rfl⟩:=bI hy;have v:=g.room D (wO.mp J).1 S;exact⟨_,rfl,.tup (.of (g.sm _ _ C)) rfl ⟨_,rfl,_,rfl,.dic (DPut.k (k:=.inr u) g.at_ (aH (by omega))) ⟨_,_,rfl,g.put N T.knd D J⟩⟩⟩
   ·rintro n m ⟨l,e,rfl,g⟩;rw[wK] at g;exact⟨_,_,e,rfl,g.next D rfl⟩
  ·rintro n m ⟨L,l,e,rfl,g⟩;exact⟨_,rfl,k d e m g.sm N g.at_ (g.fin T p)⟩
theorem at0:atI (List.map V.str (x::r)) 0=some (.str x):=bf (j:=0) rfl
def ir (f:Kn->Str->LS):Sp:=λvs H Q _=>∃(d:Addr) (kvs:KV_) (us:LS) (ks:Kn) (u:Str),vs=[.ref d,.str u]/\H d=some (.dK kvs)/\ArK kvs us ks/\Tre us ks/\u∈us/\∀l H',Same H H'->H l=none->H' l=some (.lst (List.map V.str (f ks u)))->Q (.ref l) H'
theorem scLine:FnScope ["table","one","line"] ["table","one"] (am iq):=⟨rfl,rfl,rfl,by decide +kernel,rfl,by decide +kernel,by decide +kernel⟩
theorem ud (F:Fun K "line_down" "line_down" iq f fd) (B:Blt mg):FnOk P w K mg base CX0 1 f fd ["table", "one"] (ir lin) := by
 refine F.ok scLine (λZ H Q E h=>?_) (λa0 A O s H Z Q E p h=>?_)
 ·obtain⟨d,g,l,c,u,rfl,_⟩:=h
  rfl
 ·obtain⟨d, g, l, c, u, rfl, U, S, T, J, k⟩ := h;have nd:=scLine.nd;refine⟨_,(ae (ao (i:=2) nd rfl (Or.inl rfl) (aQ (aa (pv 1) ab)))
   (ae (gm PassesOwn.never (ak (cI p.units) (af (ah K p.units) (pv 0) (af (ah K p.units) (pv 2) (dN de ac) (λ_ _=>rfl)) (λ_ _=>rfl)) aR (aw _)) (ag (bX (cT K (pv 2) (aa (af (ah K p.units) (pv 0) (af (ah K p.units) (pv 2) (dN de ac) (λ_ _=>rfl)) (λ_ _=>rfl)) ab)))))
   (ae (bX (ph K (pv 2)))
   (ag (av (pv 2)))))),?_⟩
  refine⟨_,rfl,(by show 1<=sizeLine;decide),λj e=>?_⟩;have s0:=Same.new (o:=.lst [V.str u]) e
  let G:Nat->SH:=λm W n=>∃(x:Str) (r:LS),m=rkU l x/\W=[some (.ref d),some (.str u),some (.ref j)]/\n j=some (.lst (List.map V.str (r.reverse++[x])))/\x∈l/\lin c u=lin c (bg c x)++(x::r)/\Same H n
  refine⟨G,
   ⟨_,u,[],rfl,rfl,aj,J,T.lin J,s0⟩,?_⟩
  rintro m W H1 ⟨x,r,rfl,rfl,b,L,a,M⟩;have C:atI (List.map V.str (r.reverse++[x])) (-1)=some (.str x):=by rw[wZ];exact iT _ _
  have pl:=T.lin_len u (.inr J);have Y:=T.rk60 J;have v:=congrArg List.length a;rw[w6,xc] at v;refine⟨_,rfl,_,rfl,_,rfl,.lst (.of b) C (.dic (.inl ⟨g,.inr x,.inl (M _ _ U),rfl,(S x L).symm⟩) (.sc rfl ⟨_,rfl,?_⟩))⟩;refine aD (λh=>?_) (λh=>?_)
  ·have R:bg c x≠"":=λz=>by rw[z] at h;exact absurd h (by decide)
   have D:=(T.par_in L).1.resolve_left R;have N:=T.rk L
   let t:SH:=λI n=>∃(y:Str) (r:LS),rkU l y<rkU l x/\I=[some (.ref d),some (.str u),some (.ref j)]/\n j=some (.lst (List.map V.str (r.reverse++[y])))/\y∈l/\lin c u=lin c (bg c y)++(y::r)/\Same H n
   refine⟨t,
    λI n ⟨y,r,X,h2⟩=>⟨_,X,y,r,rfl,h2⟩,?_⟩
   refine⟨_,rfl,.inl ⟨rfl,_,.of b⟩,_,rfl,_,rfl,_,rfl,.lst (.of b) C (.dic (.inl ⟨g,.inr x,.inl (M _ _ U),rfl,(S x L).symm⟩) ⟨j,_,_,rfl,rfl,b,by rw[wK,w6,xV];exact aH (by show _+1<=_;omega),?_⟩)⟩;refine⟨bg c x,x::r,N,rfl,?_,D,?_,bu M e⟩
   ·rw[aj,yt];simp
   ·rw[a,T.lin D,List.append_assoc];rfl
  ·have hz:bg c x="":=Classical.byContradiction λz=>h (by rw[if_pos rfl,xi (λq=>z (V.str.inj q))];rfl);rw[hz,uo,List.nil_append] at a;refine⟨_,rfl,.inl ⟨rfl,_,.of b⟩,j,_,rfl,rfl,b,?_⟩;refine⟨_,rfl,k j _ (bu M e) e ?_⟩;rw[aj,a,<- List.map_reverse,List.reverse_append,List.reverse_reverse];rfl
theorem scPath:FnScope ["_law_around_here","_law_unit","_law_path_here"] ["_law_around_here","_law_unit"] (am ow):=⟨rfl,rfl,rfl,by decide +kernel,rfl,by decide +kernel,by decide +kernel⟩
theorem ur (F:Fun K "_law_path" "_law_path" ow f fd) (B:Blt mg):FnOk P w K mg base CX0 1 f fd ["_law_around_here", "_law_unit"] (ir λks u => tp (lin ks u)) := by
 refine F.ok scPath (λX H Q E h=>?_) (λa0 A J s H X Q E D h=>?_)
 ·obtain⟨d,v,j,ks,u,rfl,_⟩:=h
  rfl
 ·obtain⟨d, v, j, ks, u, rfl, W, S, T, G, k⟩ := h;have Y:=scPath.nd;refine⟨_,(ae (ao (i:=2) Y rfl (Or.inl rfl) (aQ (aa (pv 1) ab)))
   (ae (gm PassesOwn.never (ak (cI D.units) (af (ah K D.units) (pv 2) ac (λ_ _=>rfl)) aR (aw _)) (ag (bX (fi K (pv 2) (aa ac (aa (af (ah K D.units) (pv 0) (af (ah K D.units) (pv 2) ac (λ_ _=>rfl)) (λ_ _=>rfl)) ab))))))
   (ag (av (pv 2))))),?_⟩
  refine⟨_,rfl,(by show 1<=sizeLine;decide),λe c=>?_⟩;have s0:=Same.new (o:=.lst [V.str u]) c
  let n:Nat->SH:=λm N l=>∃(x:Str) (r:LS),m=rkU j x/\N=[some (.ref d),some (.str u),some (.ref e)]/\l e=some (.lst (List.map V.str (x::r)))/\(x=""∨x∈j)/\tp (lin ks u)=tp (lin ks x)++r/\Same H l
  refine⟨n,
   ⟨_,u,[],rfl,rfl,aj,.inr G,(xH _).symm,s0⟩,?_⟩
  rintro m N O ⟨x,r,rfl,rfl,a,g,b,L⟩;have pl:=T.lin_len u (.inr G);have U:=T.rk60 G;have t:=congrArg List.length b;rw[w6,xc,xc] at t;refine⟨_,rfl,.lst (.of a) at0 (.sc rfl ⟨_,rfl,?_⟩)⟩;refine aD (λh=>?_) (λh=>?_)
  ·have M:x≠"":=λz=>by rw[z] at h;exact absurd h (by decide)
   have g:=g.resolve_left M;have I:=T.rk g
   let p:SH:=λC l=>∃(y:Str) (r:LS),rkU j y<rkU j x/\C=[some (.ref d),some (.str u),some (.ref e)]/\l e=some (.lst (List.map V.str (y::r)))/\(y=""∨y∈j)/\tp (lin ks u)=tp (lin ks y)++r/\Same H l
   refine⟨p,
    λC l ⟨y,r,R,h2⟩=>⟨_,R,y,r,rfl,h2⟩,?_⟩
   refine⟨_,rfl,.inl ⟨rfl,_,.of a⟩,_,rfl,_,rfl,.lst (.of a) at0 (.dic (.inl ⟨v,.inr x,.inl (L _ _ W),rfl,(S x g).symm⟩) ⟨e,_,_,0,_,rfl,rfl,rfl,a,xt _,by rw[wK,xc];exact aH (by omega),?_⟩)⟩;refine⟨bg ks x,x::r,I,rfl,aj,(T.par_in g).1,?_,bu L c⟩;rw[b,T.lin g];show ("":Str)::(_++_)++_=("":Str)::_++_;simp
  ·have Z:x="":=Classical.byContradiction λz=>h (by rw[if_pos rfl,xi (λq=>z (V.str.inj q))];rfl);subst Z;refine⟨_,rfl,k e _ L c ?_⟩;show O e=some (.lst (List.map V.str (tp (lin ks u))));rw[b];exact a
def dv:Sp:=λvs H Q _=>∃(d:Addr) (kvs:KV_) (us:LS) (ks:Kn) (u v:Str),vs=[.ref d,.str u,.str v]/\H d=some (.dK kvs)/\ArK kvs us ks/\Tre us ks/\u∈us/\v∈us/\∀x H',Same H H'->PrtV H' x (bt ks u v)->Q x H'
theorem scPartBy:FnScope ["table","one","other","knot","pair"] ["table","one","other"] (am gY):=⟨rfl,rfl,rfl,by decide +kernel,rfl,by decide +kernel,by decide +kernel⟩
theorem on (F:Fun K "parting_by" "parting_by" gY f fd) (B:Blt mg) (Zz:mg "zip"=none) (a:Cal P w K mg base 1 "line_down" ["table", "one"] (ir lin)):FnOk P w K mg base CX0 2 f fd ["table", "one", "other"] dv := by
 refine F.ok scPartBy (λvs H Q E h=>?_) (λa2 A O s H vs Q E g h=>?_)
 ·obtain⟨d,m,U,b,u,v,rfl,_⟩:=h
  rfl
 ·obtain⟨d, m, U, b, u, v, rfl, Z, Y, T, hu, hv, k⟩ := h;have R:=scPartBy.nd;refine⟨_,(ae (ao (i:=3) R rfl (Or.inl rfl) aR)
   (ae (bL PassesOwn.never rfl (pE K rfl Zz (aa (ai a (g.mono (by decide)) rfl (aa (pv 0) (aa (pv 1) ab))) (aa (ai a (g.mono (by decide)) rfl (aa (pv 0) (aa (pv 2) ab))) ab))) (aA (i:=4) R rfl (Or.inl rfl)) (ae (aU (ak (cI g.units) (af (ah K g.units) (pv 4) ac (λ_ _=>rfl)) (af (ah K g.units) (pv 4) ac (λ_ _=>rfl)) (aw _)) (ag (av (aL (aa (pv 3) (aa (af (ah K g.units) (pv 4) ac (λ_ _=>rfl)) (aa (af (ah K g.units) (pv 4) ac (λ_ _=>rfl)) ab)))))) aF)
   (ag (ao (i:=3) R rfl (Or.inl rfl) (af (ah K g.units) (pv 4) ac (λ_ _=>rfl))))))
   (ag (av bj)))),?_⟩
  refine⟨_,rfl,_,rfl,d,m,U,b,u,rfl,Z,Y,T,hu,λla H1 S a1 M=>?_⟩;refine⟨_,rfl,_,rfl,d,m,U,b,v,rfl,S _ _ Z,Y,T,hv,λlb H2 X a0 D=>?_⟩;have j:=X _ _ M;refine⟨la,lb,_,_,rfl,.of j,.of D,?_⟩
  let I:Nat->SH:=λi J C=>∃L,J=[some (.ref d),some (.str u),some (.str v),some (.str ((tp (lin b u)).getD i "")),L]/\Same H2 C/\bt b u v=prt ((tp (lin b u)).getD i "") ((lin b u).drop i) ((lin b v).drop i)
  refine nC (xs:=List.map V.str (lin b u)) (ys:=List.map V.str (lin b v)) I ?_ ?_ ?_ ?_
  ·exact⟨none,rfl,Same.refl H2,rfl⟩
  ·rintro i J C hi ⟨L,rfl,r,_⟩;exact⟨.of (r _ _ j),.of (r _ _ D)⟩
  ·rintro i x y p J C n ⟨L,rfl,r,c⟩ N;rw[xv] at n;obtain⟨x,hx,rfl⟩:=bI n.1;obtain⟨y,hy,rfl⟩:=bI n.2;have sp:=Same.new (o:=.tup [V.str x,V.str y]) N;have G:upd C p (.tup [V.str x,V.str y]) p=some (.tup [V.str x,V.str y]):=aj;have l1:=wO.mp hx;have l2:=wO.mp hy;rw[ym l1.1,ym l2.1,l1.2,l2.2] at c;have c:bt b u v=if x=y then prt x ((lin b u).drop (i+1)) ((lin b v).drop (i+1)) else some ((tp (lin b u)).getD i "",x,y):=c
   refine⟨_,rfl,.tup (.of G) rfl ⟨_,rfl,.tup (.of G) rfl (.sc rfl ⟨_,rfl,?_⟩)⟩⟩;refine aD (λh=>?_) (λh=>?_)
   ·have W:x≠y:=λz=>by rw[z,if_pos rfl,wQ rfl] at h;cases h
    rw[if_neg W] at c;refine⟨_,rfl,_,rfl,.tup (.of G) rfl ⟨_,rfl,.tup (.of G) rfl ⟨(by show 3<=sizeLine;decide),λt ht=>?_⟩⟩⟩;refine k (.ref t) _ (((S.trans X).trans r).trans (sp.trans (Same.new ht))) ?_;rw[c];exact⟨t,rfl,aj⟩
   ·have he:x=y:=Classical.byContradiction λz=>h (by rw[if_pos rfl,xi (λq=>z (V.str.inj q))];rfl);rw[if_pos he] at c;have e:(tp (lin b u)).getD (i+1) ""=x:=by rw[xE];show ((lin b u)[i]?).getD ""=x;rw[hx];rfl
    refine⟨_,rfl,.tup (.of G) rfl ⟨some (.ref p),?_,r.trans sp,?_⟩⟩
    ·rw[e];rfl
    ·rw[e];exact c
  ·rintro J C ⟨L, rfl, r, c⟩;have hn:bt b u v=none:=by
    rw[c,xD,wK,wK];by_cases q:(lin b u).length<=(lin b v).length
    ·rw[x9 (l:=lin b u) (by omega)];rfl
    ·rw[x9 (l:=lin b v) (by omega)];cases (lin b u).drop (min (lin b u).length (lin b v).length) <;> rfl
   refine k .non C ((S.trans X).trans r) ?_;rw[hn];rfl
def mu:Sp:=λvs H Q _=>∃(q:Addr) (us:LS) (ks:Kn) (ts ws wn:List (Str × Str)) (u v:Str),vs=[.ref q,.str u,.str v]/\Rep H (.ref q) (aZ ks ts ws wn)/\Tre us ks/\u∈us/\v∈us/\∀x H',Same H H'->PrtV H' x (bt ks u v)->Q x H'
theorem scPart:FnScope ["house","one","other"] ["house","one","other"] (am iX):=⟨rfl,rfl,rfl,by decide +kernel,rfl,by decide +kernel,by decide +kernel⟩
theorem tu (F:Fun K "parting" "parting" iX f fd) (B:Blt mg) (b:Cal P w K mg base 1 "homes" ["house"] jW) (a:Cal P w K mg base 2 "parting_by" ["table","one","other"] dv):FnOk P w K mg base CX0 3 f fd ["house","one","other"] mu:=by
 refine F.ok scPart (λy H Q E h=>?_) (λJ A e s H y Q E l h=>?_)
 ·obtain⟨q,g,c,n,m,j,u,v,rfl,_⟩:=h
  rfl
 ·obtain⟨q,g,c,n,m,j,u,v,rfl,R,T,o,D,k⟩:=h;have M:=scPart.nd;refine⟨_,(ag (av (ai a (l.mono (by decide)) rfl (aa (ai b (l.mono (by decide)) rfl (aa (pv 0) ab)) (aa (pv 1) (aa (pv 2) ab)))))),?_⟩;refine⟨_,rfl,q,g,c,n,m,j,rfl,R,T,λd i L z p t r=>?_⟩;exact⟨_,rfl,_,rfl,d,i,g,c,u,v,rfl,t,r,T,o,D,λx I G C=>k x I (z.trans G) C⟩
theorem scLPart:FnScope ["_law_around_here","_law_one","_law_other","_law_here","_law_there","_law_at"] ["_law_around_here","_law_one","_law_other"] (am gE):=⟨rfl,rfl,rfl,by decide +kernel,rfl,by decide +kernel,by decide +kernel⟩
theorem rC (F:Fun K "_law_parting" "_law_parting" gE f fd) (B:Blt mg) (c:Cal P w K mg base 1 "_law_path" ["_law_around_here", "_law_unit"] (ir λks u => tp (lin ks u))):FnOk P w K mg base CX0 2 f fd ["_law_around_here", "_law_one", "_law_other"] dv := by
 refine F.ok scLPart (λvs H Q E h=>?_) (λa2 A M s H vs Q E l h=>?_)
 ·obtain⟨d,p,R,ks,u,v,rfl,_⟩:=h
  rfl
 ·obtain⟨d, p, R, ks, u, v, rfl, hd, ar, T, hu, hv, k⟩ := h;have G:=scLPart.nd;refine⟨_,(ae (ao (i:=3) G rfl (Or.inl rfl) (ai c (l.mono (by decide)) rfl (aa (pv 0) (aa (pv 1) ab))))
   (ae (ao (i:=4) G rfl (Or.inl rfl) (ai c (l.mono (by decide)) rfl (aa (pv 0) (aa (pv 2) ab))))
   (ae (ao (i:=5) G rfl (Or.inl rfl) ac)
   (ae (gm PassesOwn.never (PW.pt (cj (ak eW (pv 5) (jK rfl B (aa (aW K B (aa (pv 3) ab)) (aa (aW K B (aa (pv 4) ab)) ab))) (aw _)) (bO (ak (aY l.units) (af (ah K l.units) (pv 3) (pv 5) (λ_ _=>rfl)) (af (ah K l.units) (pv 4) (pv 5) (λ_ _=>rfl)) (aw _))))) (ag (ao (i:=5) G rfl (Or.inl rfl) (aG aT (pv 5) ac))))
   (ae (aU (ak (aY l.units) (pv 5) (jK rfl B (aa (aW K B (aa (pv 3) ab)) (aa (aW K B (aa (pv 4) ab)) ab))) (aw _)) (ag (av bj)) aF)
   (ag (av (aL (aa (af (ah K l.units) (pv 3) (aG u6 (pv 5) ac) (λ_ _=>rfl)) (aa (af (ah K l.units) (pv 3) (pv 5) (λ_ _=>rfl)) (aa (af (ah K l.units) (pv 4) (pv 5) (λ_ _=>rfl)) ab))))))))))),?_⟩
  refine⟨_,rfl,_,rfl,d,p,R,ks,u,rfl,hd,ar,T,hu,λY H1 s1 a1 L=>?_⟩;refine⟨_,rfl,_,rfl,d,p,R,ks,v,rfl,s1 _ _ hd,ar,T,hv,λlb H2 s2 a0 g=>?_⟩;have e:=s2 _ _ L;have C:=s1.trans s2;have W:(List.map V.str (tp (lin ks u))).length=(lin ks u).length+1:=by rw[wK,xc]
  have U:(List.map V.str (tp (lin ks v))).length=(lin ks v).length+1:=by rw[wK,xc]
  let r:Nat->SH:=λm σ I=>∃i:Nat,m=(lin ks u).length+2-i/\σ=[some (.ref d),some (.str u),some (.str v),some (.ref Y),some (.ref lb),some (.int (i:Int))]/\i<=min ((lin ks u).length+1) ((lin ks v).length+1)/\Gon (lin ks u) (lin ks v) i/\I=H2
  refine⟨r,
   ⟨_,0,rfl,rfl,xt _,.inl rfl,rfl⟩,?_⟩
  rintro m σ H3 ⟨i,rfl,rfl,Z,o,rfl⟩;have n:∀a b:Nat,(if ((b:Nat):Int)<((a:Nat):Int) then ((b:Nat):Int) else ((a:Nat):Int))=((min a b:Nat):Int):=λa b=>by split <;> omega
  refine⟨_,rfl,_,rfl,_,_,rfl,Or.inl ⟨_,.of e,rfl⟩,_,rfl,_,_,rfl,Or.inl ⟨_,.of g,rfl⟩,_,_,rfl,.int ⟨_,rfl,?_⟩⟩;rw[W,U,n];have mn:∀j,j<min ((lin ks u).length+1) ((lin ks v).length+1)->∃x y,(tp (lin ks u))[j]? = some x/\(tp (lin ks v))[j]? = some y:=λj hj =>
   ⟨_,_,wS (by rw[xc];omega),wS (by rw[xc];omega)⟩
  refine aD (λh=>?_) (λh=>?_)
  ·have h:(i:Int)<((min ((lin ks u).length+1) ((lin ks v).length+1):Nat):Int) := xf h;have Z:i<min ((lin ks u).length+1) ((lin ks v).length+1):=by omega
   obtain⟨x,y,O,N⟩:=mn i Z;have ax:atI (List.map V.str (tp (lin ks u))) (i:Int)=some (.str x):=bf (by rw[wW,O];rfl);have ay:atI (List.map V.str (tp (lin ks v))) (i:Int)=some (.str y):=bf (by rw[wW,N];rfl);refine⟨_,rfl,_,rfl,.lst (.of e) ax ⟨_,rfl,_,rfl,.lst (.of g) ay (.sc rfl ⟨_,rfl,?_⟩)⟩⟩;refine aD (λJ=>?_) (λJ=>?_)
   ·have he:x=y:=Classical.byContradiction λz=>by rw[if_neg (by decide),xi (λq=>z (V.str.inj q))] at J;cases J
    subst he;refine⟨λD I=>D=[some (.ref d),some (.str u),some (.str v),some (.ref Y),some (.ref lb),some (.int ((i+1:Nat):Int))]/\I=H3,λD I ⟨h1,X⟩=>⟨(lin ks u).length+2-(i+1),by omega,i+1,rfl,h1,by omega,o.step O N,X⟩,?_⟩;exact⟨_,rfl,.int ⟨rfl,rfl⟩⟩
   ·have S:x ≠ y := λz => J (by rw[z, if_neg (by decide), wQ rfl]);obtain⟨h1,hp⟩:=o.part O N S;refine⟨_,rfl,_,rfl,_,_,rfl,Or.inl ⟨_,.of e,rfl⟩,_,rfl,_,_,rfl,Or.inl ⟨_,.of g,rfl⟩,_,_,rfl,.sc rfl ⟨_,rfl,?_⟩⟩;rw[W,U,n];refine aD (λh=>?_) (λ_=>?_)
    ·exfalso;have h:V.int (i:Int)=V.int ((min ((lin ks u).length+1) ((lin ks v).length+1):Nat):Int):=xf h;have:=V.int.inj h;omega
    ·have aq:atI (List.map V.str (tp (lin ks u))) ((i:Int)-1)=some (.str ((tp (lin ks u)).getD (i-1) "")):=by
        rw[show (i:Int)-1=((i-1:Nat):Int) by omega];exact eU (by rw[xc];omega)
     refine⟨_,rfl,_,rfl,_,_,rfl,rfl,.lst (.of e) aq ⟨_,rfl,_,rfl,.lst (.of e) ax ⟨_,rfl,_,rfl,.lst (.of g) ay ⟨(by show 3<=sizeLine;decide),λt ht=>?_⟩⟩⟩⟩;refine k (.ref t) _ (C.trans (Same.new ht)) ?_;show PrtV _ _ (prt "" (lin ks u) (lin ks v));rw[hp];exact⟨t,rfl,aj⟩
  ·have h:¬ (i:Int)<((min ((lin ks u).length+1) ((lin ks v).length+1):Nat):Int):=λz=>h (wQ z);have hz:=o.stop (by omega);refine fu ?_;refine⟨_,rfl,_,rfl,_,_,rfl,Or.inl ⟨_,.of e,rfl⟩,_,rfl,_,_,rfl,Or.inl ⟨_,.of g,rfl⟩,_,_,rfl,.sc rfl ⟨_,rfl,?_⟩⟩;rw[W,U,n];refine aD (λ_=>?_) (λX=>?_)
   ·refine k .non H3 C ?_;show PrtV _ _ (prt "" (lin ks u) (lin ks v));rw[hz];rfl
   ·exfalso;refine X ?_;rw[if_neg (by decide),decide_eq_true_iff];congr 1;omega
def Dpt (ks:Kn) (dp:Int):Prop:=∃d:Str->Nat,d ""=0/\(∀k∈ks,∀u∈k.2,u∈ks.map (·.1)->d u=d k.1+1)/\∀k∈ks,(d k.1:Int)<=dp
structure Lvl (lv:KV_) (dp:Int) (ks:Kn):Prop where
 has:∀k∈ks,∃m:Nat,bn lv (.inr k.1)=some (.int (m:Int))/\(m:Int)<=dp
 up:∀k∈ks,∀u∈k.2,u∈ks.map (·.1)->∀m:Nat,bn lv (.inr k.1)=some (.int (m:Int))->bn lv (.inr u)=some (.int ((m:Int)+1))
 top:bn lv (.inr "")=some (.int 0)
theorem Lvl.start (h:0<=dp):Lvl [(.inr "",.int 0)] dp [("",[])] :=
 ⟨λk a=>by rw[xa.mp a];exact⟨0,rfl,h⟩,λk a u b=>(by rw[xa.mp a] at b;cases b),rfl⟩
theorem Lvl.set (h:Lvl B dp ks) (l:ks[j]? = some (nm, ch)) (n:u ∉ ks.map (·.1)) (o:∀x ∈ z, x=u ∨ x ∈ ch):Lvl B dp (ks.set j (nm, z)) := by
 have p:(ks.set j (nm,z)).map (λk=>k.1)=ks.map λk=>k.1:=fz l rfl;have d:∀k∈ks.set j (nm,z),∃c∈ks,c.1=k.1/\∀x∈k.2,x=u∨x∈c.2:=λk b=>by
  rcases List.mem_or_eq_of_mem_set b with b | rfl
  ·exact⟨k,b,rfl,λx f=>.inr f⟩
  ·exact⟨(nm,ch),wP l,rfl,o⟩
 refine⟨λk b=>?_,λk b x f g m i=>?_,h.top⟩
 ·obtain⟨c,a,e,_⟩:=d k b;rw[<- e];exact h.has c a
 ·obtain⟨c,a,e,q⟩:=d k b;rw[p] at g;rcases q x f with rfl | q
  ·exact absurd g n
  ·rw[<- e] at i;exact h.up c a x q g m i
theorem Lvl.knot {G:KV_}{dp:Int}{B:Nat}{nm u:Str}{ch:LS}(h:Lvl G dp ks) (p:u ∉ ks.map (·.1)) (v:u ≠ "") (n:(nm, ch) ∈ ks) (j:u ∈ ch) (s:(br ks).Nodup) (t:bn G (.inr nm)=some (.int (B:Int))) (w:(B:Int)<dp) (c:Nat):Lvl (bh G (.inr u) (.int ((B:Int)+1))) dp (ks.take c ++ (u, []) :: ks.drop c) := by
 have d:∀x:Str,x≠u->bn (bh G (.inr u) (.int ((B:Int)+1))) (.inr x)=bn G (.inr x):=λx i=>by rw[gj,if_neg (λz=>i (by injection z))]
 have f:bn (bh G (.inr u) (.int ((B:Int)+1))) (.inr u)=some (.int ((B:Int)+1)):=by rw[gj,if_pos rfl]
 have o:∀k∈ks,k.1≠u:=λk n z=>p (z ▸ wX.mpr ⟨k,n,rfl⟩);refine⟨λk a=>?_,λk a x i r m b=>?_,by rw[d _ (Ne.symm v)];exact h.top⟩
 ·rcases cW a with rfl | a
  ·exact⟨B+1,f,by omega⟩
  ·rw[d _ (o k a)];exact h.has k a
 ·rcases cW a with rfl | g
  ·cases i
  ·rw[d _ (o k g)] at b;by_cases q:x=u
   ·subst q;have e:k=(nm,ch):=em s g n i j;subst e;rw[t] at b;have e:(B:Int)=(m:Int):=V.int.inj (wR b);rw[f,e]
   ·rw[d _ q];refine h.up k g x i ?_ m b;obtain⟨y,l,rfl⟩:=wX.mp r;rcases cW l with rfl | l
    ·exact absurd rfl q
    ·exact wX.mpr ⟨y,l,rfl⟩
theorem Lvl.fin (h:Lvl q dp ks):Dpt ks dp:=by
 obtain⟨d,c⟩:∃d:Str->Nat,∀x (m:Nat),bn q (.inr x)=some (.int (m:Int))->d x=m:=⟨λx=>match bn q (.inr x) with | some (.int m)=>m.toNat | _=>0,λx m a=>by simp[a]⟩
 refine⟨d,c _ 0 h.top,λk b u e f=>?_,λk b=>?_⟩
 ·obtain⟨m,a,_⟩:=h.has k b;rw[c _ m a,c u (m+1) (h.up k b u e f m a)]
 ·obtain⟨m,a,g⟩:=h.has k b;rw[c _ m a];exact g
def qw (K:W.Frag):Sp:=λvs H Q _=>∃(p a n:Addr) (us:LS) (dp:Int),vs=[.ref p,.ref n,.int dp]/\Pen K H p a/\H n=some (.lst (List.map V.str us))/\n≠p/\us.Nodup/\(∀u∈us,Nm u)/\us.length<=60/\0<=dp /\
 ∀q ks H',Rep H' (.ref q) (cB ks)->Tre us ks->(ks.map (·.1)).head? = some ("":Str)->Dpt ks dp->PenV H' p a->But p H H'->Q (.ref q) H'
theorem scTree:FnScope ["_law_pen_here","_law_names_here","_law_deep","_law_knots","_law_levels","_law_name","_law_knot","_law_some"] ["_law_pen_here","_law_names_here","_law_deep"] (am lj):=⟨rfl,rfl,rfl,by decide +kernel,rfl,by decide +kernel,by decide +kernel⟩
theorem tx (F:Fun K "_law_tree" "_law_tree" lj f fd) (B:Blt mg) (t:Cal P w K mg base 1 "_law_draw" ["_law_pen_here", "_law_most"] (ci K)):FnOk P w K mg base CX0 2 f fd ["_law_pen_here", "_law_names_here", "_law_deep"] (qw K) := by
 refine F.ok scTree (λvs H Q E h=>?_) (λl7 A i7 s H vs Q E hr h=>?_)
 ·obtain⟨p,a,n,us,dp,rfl,_⟩:=h
  rfl
 ·obtain⟨p,a,n,us,dp,rfl,hP,hn,h7,a4,i1,f6,j7,k⟩:=h;have nd:=scTree.nd;have v0:=hP.2;refine⟨_,(ae (ao (i:=3) nd rfl (Or.inl rfl) (aQ (aa (aL (aa aR (aa (aQ ab) ab))) ab)))
   (ae (ao (i:=4) nd rfl (Or.inl rfl) (tX (rB aR ac ug) rfl rfl (by simp) (by decide)))
   (ae (bL PassesOwn.never rfl (be K (pv 1)) (aA (i:=5) nd rfl (Or.inl rfl)) (ae (df (af (ah K hr.units) (pv 3) (ai t (hr.mono (by decide)) rfl (aa (pv 0) (aa (aW K B (aa (pv 3) ab)) ab))) (λ_ _=>rfl)) (bN (n:=2) K rfl (aO (aA (i:=6) nd rfl (Or.inl rfl)) (aO (aA (i:=7) nd rfl (Or.inl rfl)) bS))))
   (ae (bX (fi K (pv 7) (aa (ai t (hr.mono (by decide)) rfl (aa (pv 0) (aa (aG aT (aW K B (aa (pv 7) ab)) ac) ab))) (aa (pv 5) ab))))
   (ag (aU (PW.pt (cj (ak eW (af (ah K hr.units) (pv 4) (pv 6) (λ_ _=>rfl)) (pv 2) (aw _)) (bO (ak (aY hr.units) (ai t (hr.mono (by decide)) rfl (aa (pv 0) (aa ac ab))) ac (aw _))))) (ae (df (aG aT (af (ah K hr.units) (pv 4) (pv 6) (λ_ _=>rfl)) ac) (gi (pv 4) (pv 5) (gP hr.units)))
   (ag (bX (fi K (pv 3) (aa (aG aT ac (ai t (hr.mono (by decide)) rfl (aa (pv 0) (aa (aW K B (aa (pv 3) ab)) ab)))) (aa (aL (aa (pv 5) (aa (aQ ab) ab))) ab)))))) aF)))))
   (ag (av (dg K B (aa (jY (am lj) ["_law_pen_here","_law_names_here","_law_deep","_law_knots","_law_levels","_law_name","_law_knot","_law_some"] ["_law_name","_law_some"] [] ["_law_name","_law_some"] rfl (be K (pv 3)) (λ_ _ _ _ _=>(bN (n:=2) K rfl (aO (aA (i:=0) (show (["_law_name","_law_some"]:LS).Nodup by decide) rfl (Or.inl rfl)) (aO (aA (i:=1) (show (["_law_name","_law_some"]:LS).Nodup by decide) rfl (Or.inl rfl)) bS)))) (λ_ _ _ _ _=>bT) (λ_ _ _ _ _=>(aL (aa (pv 0) (aa (dg K B (aa (pv 1) ab)) ab))))) ab))))))),?_⟩
  have nn:∀u∈us,u≠"":=λu hu z=>by have:=(i1 u hu).1;rw[z] at this;exact absurd this (by decide)
  refine⟨(by show 0<=sizeLine;decide),λl0 h0=>?_⟩;have b0:But p H (upd H l0 (.lst [])):=(But.refl p H).at h0;have e0:upd H l0 (.lst []) l0=some (.lst []):=aj;have v1:PenV (upd H l0 (.lst [])) p a:=v0.upd (v0.ne h0);have i5:l0≠p:=Ne.symm (v0.ne h0);generalize upd H l0 (.lst [])=H1 at b0 e0 v1 ⊢;refine⟨(by show 2<=sizeLine;decide),λt0 j0=>?_⟩;have s2:=Same.new (o:=.tup [V.str "",V.ref l0]) j0;have et:upd H1 t0 (.tup [V.str "",V.ref l0]) t0=some (.tup [V.str "",V.ref l0]):=aj;have e0:=s2 _ _ e0;have v2:=ap s2 v1;have b2:=b0.trans (But.of_same (p:=p) s2);generalize upd H1 t0 (.tup [V.str "",V.ref l0])=H2 at et e0 v2 b2 ⊢;refine⟨(by show 1<=sizeLine;decide),λL hL=>?_⟩;have s3:=Same.new (o:=.lst [V.ref t0]) hL;have eL:upd H2 L (.lst [V.ref t0]) L=some (.lst [V.ref t0]):=aj;have k8:l0≠L:=aJ e0 hL;have d1:L≠p:=Ne.symm (v2.ne hL);have e0:=s3 _ _ e0;have et:=s3 _ _ et;have v3:=ap s3 v2;have b3:=b2.trans (But.of_same (p:=p) s3);generalize upd H2 L (.lst [V.ref t0])=H3 at eL et e0 v3 b3 ⊢;have d:KLs H3 L p [(t0,l0,("",[]))]:=⟨eL,λq C=>by rw[xa.mp C];exact et,λq C=>by rw[xa.mp C];exact e0,by simp,λq C=>by rw[xa.mp C];exact⟨k8,i5⟩,d1⟩
  intro D hD;refine⟨aj,[(.inr "",.int 0)],rfl,(by decide),?_⟩;rw[jV];have s4:=Same.new (o:=.dK (fN [] [((.inr "":Key),V.int 0)])) hD;have eD:upd H3 D (.dK (fN [] [((.inr "":Key),V.int 0)])) D=some (.dK [((.inr "":Key),V.int 0)]):=aj;have d:=d.same s4;have v4:=ap s4 v3;have b4:=b3.trans (But.of_same (p:=p) s4);have hf:H D=none:=b3.free (Ne.symm (v3.ne hD)) hD;generalize upd H3 D (.dK (fN [] [((.inr "":Key),V.int 0)]))=H4 at eD d v4 b4 ⊢;have k4:H L=none:=b2.free d1 hL;have j6:H l0=none:=h0;refine⟨_,rfl,n,rfl,⟨_,.of (b4 n _ h7 hn)⟩,?_⟩
  let g3:Nat->SH:=λi σ J=>∃(o5 o6 o7:Option V) (l:KL) (G:KV_),σ=[some (.ref p),some (.ref n),some (.int dp),some (.ref L),some (.ref D),o5,o6,o7]/\KLs J L p l/\TrN us i (ck l)/\J D=some (.dK G)/\G.length<=i+1/\l.length<=i+1/\Lvl G dp (ck l)/\(∀q∈l,H q.2.1=none)/\PenV J p a/\But p H J/\((ck l).map λk=>k.1).head? = some ("":Str)
  refine dJ (R:=Q) (xs:=List.map V.str us) g3 ?_ ?_ ?_ ?_
  ·refine⟨none,none,none,_,_,rfl,d,TrN.start,eD,wM _,wM _,Lvl.start j7,λq C=>?_,v4,b4,rfl⟩
   ·rw[xa.mp C];exact j6
  ·rintro i σ J hi ⟨o5,o6,o7,l,G,rfl,_,_,_,_,_,_,_,_,b,_⟩;exact .of (b n _ h7 hn)
  ·rintro _ i x σ H5 hx ⟨o5, o6, o7, l, G, rfl, d, tr, f1, k9, f2, a8, frs, v5, b5, e4⟩;obtain⟨u,hu,rfl⟩:=bI hx;have j2:=(wO.mp hu).1;have g0:=wP hu;obtain⟨l6,g6⟩:=aV v5;have e2:(l.map λq=>V.ref q.1).length=l.length:=wK ..;have l2:0<l.length:=by
    have:=ya tr.top;rw[wK,wK] at this;exact this
   refine⟨_,rfl,_,rfl,_,rfl,_,_,rfl,Or.inl ⟨_,.of d.l,rfl⟩,p,a,_,rfl,hP.but b5 v5,by rw[e2];omega,by rw[e2];omega,λr H6 i4 i6 v6 e6=>?_⟩;have f0:=But.of_eq e6;have d:=d.draw g6 f0;have g8:H6 D=some (.dK G):=f0 D _ (cC f1 g6 (by intro z;cases z)) f1;have b6:=b5.trans f0;obtain⟨j,rfl⟩:=xj i4;rw[e2] at i6;obtain⟨⟨ta,O,I,g⟩,hj⟩:∃q,l[j]? = some q:=⟨_,wS (by omega)⟩
   have Y:=wP hj;have S:(ck l)[j]? = some (I,g):=by rw[wW,hj];rfl
   have g9:=d.t _ Y;have a1:=d.c _ Y;have g5:=d.nl _ Y;refine .lst (.of d.l) (bf (by rw[wW,hj];rfl)) ⟨ta,_,rfl,.of g9,rfl,_,_,rfl,_,_,rfl,rfl,?_⟩;have m0:g.length<=i:=by
    have h1:=tr.perm.length_eq;rw[xx] at h1;have h3:g.length<=(br (ck l)).length:=by
     have:=(List.sublist_flatten_of_mem (L:=(ck l).map (·.2)) (wX.mpr ⟨(I,g),wP S,rfl⟩)).length_le;rw[<- List.flatMap_def] at this;exact this
    omega
   have b1:(List.map V.str g).length=g.length:=wK ..;obtain⟨l9,f7⟩:=aV v6;refine⟨_,rfl,.inl ⟨rfl,_,.of a1⟩,_,rfl,_,rfl,_,_,rfl,Or.inl ⟨_,.of a1,rfl⟩,.int ⟨p,a,_,rfl,hP.but b6 v6,by rw[b1];omega,by rw[b1];omega,λr2 H7 i8 k6 v7 e7=>?_⟩⟩;have e5:=But.of_eq e7;have d:=d.draw f7 e5;have g2:H7 D=some (.dK G):=e5 D _ (cC g8 f7 (by intro z;cases z)) g8;have b7:=b6.trans e5;have a1:=d.c _ Y;obtain⟨m,rfl⟩:=xj i8;rw[b1] at k6;refine⟨_,rfl,O,_,_,m,_,rfl,rfl,rfl,a1,by rw[b1];omega,by rw[b1];exact aH (by omega),?_⟩;have e8:(List.map V.str g).take m++V.str u::(List.map V.str g).drop m=List.map V.str (g.take m++u::g.drop m):=by simp[xZ,xN]
   rw[e8];have pc:=dX g m u;have a3:=tr.step a4 hu S pc;have d:=d.put (ch':=g.take m++u::g.drop m) hj;have a7:ck (l.set j (ta,O,(I,g.take m++u::g.drop m)))=(ck l).set j (I,g.take m++u::g.drop m):=List.map_set ..;rw[<- a7] at a3;have Z:upd H7 O (.lst (List.map V.str (g.take m++u::g.drop m))) D=some (.dK G):=by rw[az (cC g2 a1 (by intro z;cases z))];exact g2
   have v8:=v7.upd (o:=.lst (List.map V.str (g.take m++u::g.drop m))) (Ne.symm g5.2);have b8:=b7.at (o:=.lst (List.map V.str (g.take m++u::g.drop m))) (frs _ Y);generalize upd H7 O (.lst (List.map V.str (g.take m++u::g.drop m)))=H8 at d Z v8 b8 ⊢;have e1:((l.set j (ta,O,(I,g.take m++u::g.drop m))).map λq=>q.2.1)=l.map λq=>q.2.1:=fz hj rfl;have en:((ck (l.set j (ta,O,(I,g.take m++u::g.drop m)))).map λk=>k.1)=(ck l).map λk=>k.1:=by rw[a7];exact fz S rfl
   have c3:∀q∈l.set j (ta,O,(I,g.take m++u::g.drop m)),H q.2.1=none:=λq C=>by
    have:q.2.1∈l.map λq=>q.2.1:=by rw[<- e1];exact wX.mpr ⟨q,C,rfl⟩
    obtain⟨q',j3,e⟩:=wX.mp this;rw[<- e];exact frs q' j3
   have U:u∉(ck (l.set j (ta,O,(I,g.take m++u::g.drop m)))).map (·.1):=λz=>by
    rw[en] at z;obtain⟨k',i3,e⟩:=wX.mp z;rcases tr.sub k' i3 with q | q
    ·exact nn u g0 (e.symm.trans q)
    ·rw[e] at q;obtain⟨m',f3⟩:=xI q;have k5:=(wO.mp f3).1;rw[xx] at k5;rw[List.getElem?_take_of_lt (by omega)] at f3;have:=(yv (by omega) a4).mp (f3.trans hu.symm);omega
   have c2:u∉(ck l).map (·.1):=λz=>U (by rw[en];exact z);have a6:Lvl G dp (ck (l.set j (ta,O,(I,g.take m++u::g.drop m)))):=by
    rw[a7];exact a8.set S c2 λx hx=>(wY.mp (pc.mem_iff.mp hx))
   have c9:(I,g.take m++u::g.drop m)∈ck (l.set j (ta,O,(I,g.take m++u::g.drop m))):=by
    rw[a7];exact wP (i:=j) (by rw[List.getElem?_set,if_pos rfl,if_pos (wO.mp S).1])
   have f4:u∈g.take m++u::g.drop m:=pc.mem_iff.mpr (x5 ..);have a0:((ck (l.set j (ta,O,(I,g.take m++u::g.drop m)))).map λk=>k.1).head? = some ("":Str):=by rw[en];exact e4
   have d9:(l.set j (ta,O,(I,g.take m++u::g.drop m))).length<=i+1:=by rw[List.length_set];exact f2
   obtain⟨lm,d4,_⟩:=a8.has (I,g) (wP S);clear e8 a7 en e1 a8 frs S hj Y tr g9 a1 g5 c2;generalize l.set j (ta,O,(I,g.take m++u::g.drop m))=y at d a3 c3 a6 U d9 a0 c9;have d3:∀J,KLs J L p y->J D=some (.dK G)->PenV J p a->But p H J->∃(o5 o6 o7:Option V) (l:KL) (G:KV_),[some (V.ref p),some (.ref n),some (.int dp),some (.ref L),some (.ref D),some (.str u),some (.str I),some (.ref O)]=[some (V.ref p),some (.ref n),some (.int dp),some (.ref L),some (.ref D),o5,o6,o7]/\KLs J L p l/\TrN us (i+1) (ck l)/\J D=some (.dK G)/\G.length<=i+1+1/\l.length<=i+1+1/\Lvl G dp (ck l)/\(∀q∈l,H q.2.1=none)/\PenV J p a/\But p H J/\((ck l).map λk=>k.1).head? = some ("":Str) :=
    λJ h1 h2 h3 h4=>⟨_,_,_,y,G,rfl,h1,a3,h2,by omega,by omega,a6,c3,h3,h4,a0⟩
   refine⟨_,rfl,_,rfl,.dic (.inl ⟨G,.inr I,.inl Z,rfl,d4.symm⟩) ⟨_,rfl,.int ⟨_,rfl,?_⟩⟩⟩;refine aD (λe3=>?_) (λ_=>?_)
   ·have e3:(lm:Int)<dp := xf e3;obtain⟨l8,d5⟩:=aV v8;refine⟨_,rfl,p,a,3,rfl,hP.but b8 v8,by decide,by decide,λr3 H9 l5 l4 v9 e9=>.sc rfl ⟨_,rfl,?_⟩⟩;have d0:=But.of_eq e9;have d:=d.draw d5 d0;have a2:H9 D=some (.dK G):=d0 D _ (cC Z d5 (by intro z;cases z)) Z;have b9:=b8.trans d0;refine aD (λ_=>?_) (λ_=>?_)
    ·refine⟨_,rfl,_,rfl,.dic (.inl ⟨G,.inr I,.inl a2,rfl,d4.symm⟩) (.int ⟨_,rfl,_,rfl,.dic (DPut.k (k:=.inr u) a2 (aH (by omega))) ?_⟩)⟩;have d6:upd H9 D (.dK (bh G (.inr u) (.int (lm+1)))) D=some (.dK (bh G (.inr u) (.int (lm+1)))):=aj;have h9:D≠p:=cC Z d5 (by intro z;cases z);have N:KLs (upd H9 D (.dK (bh G (.inr u) (.int (lm+1))))) L p y :=
      ⟨by rw[az (cC d.l a2 (by intro z;cases z))];exact d.l,λq C=>by rw[az (cC (d.t q C) a2 (by intro z;cases z))];exact d.t q C,λq C=>by rw[az (cC (d.c q C) a2 (by intro z;cases z))];exact d.c q C,d.nd,d.nl,d.lp⟩
     have vA:=v9.upd (o:=.dK (bh G (.inr u) (.int (lm+1)))) (Ne.symm h9);have bA:=b9.at (o:=.dK (bh G (.inr u) (.int (lm+1)))) hf;have j9:=cD G (.inr u) (V.int (lm+1));have c7:∀c,Lvl (bh G (.inr u) (.int (lm+1))) dp ((ck y).take c++(u,[])::(ck y).drop c):=a6.knot U (nn u g0) c9 f4 (a3.perm.nodup_iff.mpr ((List.take_sublist _ _).nodup a4)) d4 e3;clear d3 d;generalize bh G (.inr u) (V.int (lm+1))=d2 at d6 N vA bA j9 c7 ⊢;generalize upd H9 D (.dK d2)=HA at d6 N vA bA ⊢;obtain⟨l3,k1⟩:=aV vA;have a9:(y.map λq=>V.ref q.1).length=y.length:=wK ..;have k7:0<y.length:=by
      have:=ya a3.top;rw[wK,wK] at this;exact this
     refine⟨_,rfl,.inl ⟨rfl,_,.of N.l⟩,_,rfl,_,rfl,_,_,rfl,Or.inl ⟨_,.of N.l,rfl⟩,p,a,_,rfl,hP.but bA vA,by rw[a9];omega,by rw[a9];omega,λr4 HB j8 k3 vB eB=>.int ?_⟩;have d8:=But.of_eq eB;have c5:=N.draw k1 d8;have j4:HB D=some (.dK d2):=d8 D _ h9 d6;have bB:=bA.trans d8;obtain⟨c,rfl⟩:=xj j8;rw[a9] at k3;refine⟨_,rfl,(by show 0<=sizeLine;decide),λW c0=>?_⟩;have s1:=Same.new (o:=.lst []) c0;have el:upd HB W (.lst []) W=some (.lst []):=aj;have h8:W≠p:=Ne.symm (vB.ne c0);have i9:W≠L:=Ne.symm (aJ c5.l c0);have j1:W∉y.map λq=>q.2.1:=λz=>by
      obtain⟨q,C,e⟩:=wX.mp z;have:=c5.c q C;rw[e,c0] at this;cases this
     have j5:H W=none:=bB.free h8 c0;have c8:=c5.same s1;have h5:=s1 _ _ j4;have vC:=ap s1 vB;have bC:=bB.trans (But.of_same (p:=p) s1);generalize upd HB W (.lst [])=HC at el c8 h5 vC bC ⊢;refine⟨(by show 2<=sizeLine;decide),λtn k2=>?_⟩;have s2:=Same.new (o:=.tup [V.str u,V.ref W]) k2;have i0:upd HC tn (.tup [V.str u,V.ref W]) tn=some (.tup [V.str u,V.ref W]):=aj;have el:=s2 _ _ el;have X:=c8.same s2;have d7:=s2 _ _ h5;have vD:=ap s2 vC;have bD:=bC.trans (But.of_same (p:=p) s2);generalize upd HC tn (.tup [V.str u,V.ref W])=HD at i0 el X d7 vD bD ⊢;refine⟨L,_,_,c+1,_,rfl,rfl,by omega,X.l,by rw[a9];omega,by rw[a9];exact aH (by omega),?_⟩;have g4:=X.ins (k:=c+1) i0 el j1 i9 h8;have ek:ck (y.take (c+1)++(tn,W,(u,[]))::y.drop (c+1))=(ck y).take (c+1)++(u,[])::(ck y).drop (c+1):=by simp[xZ,xN]
     have g7:=a3.knot a4 nn hu U (c+1);rw[<- ek] at g7;refine⟨_,_,_,y.take (c+1)++(tn,W,(u,[]))::y.drop (c+1),d2,rfl,g4,g7,?_,by omega,?_,by rw[ek];exact c7 _,λq C=>?_,vD.upd (Ne.symm d1),bD.at k4,?_⟩
     ·rw[az (cC d7 X.l (by intro z;cases z))];exact d7
     ·rw[(dX y (c+1) (tn,W,(u,([]:LS)))).length_eq,xc];omega
     ·rcases cW C with rfl | C
      ·exact j5
      ·exact c3 q C
     ·rw[ek];cases hz:ck y with
      | nil=>rw[hz] at a0;cases a0
      | cons k0 kr=>rw[hz] at a0;exact a0
    ·exact d3 H9 d a2 v9 b9
   ·exact d3 H8 d Z v8 b8
  ·rintro σ H5 ⟨o5, o6, o7, l, G, rfl, d, tr, f1, k9, f2, a8, frs, v5, b5, e4⟩;rw[wK] at tr f2;have T:=tr.fin a4 i1 f6;refine⟨_,rfl,L,rfl,⟨_,.of d.l⟩,?_⟩
   let f8:Addr->Nat->LV->SH:=λD2 i c1 c6 J=>∃(o0 o1:Option V),c6=[o0,o1]/\RepAll J c1 (((ck l).take i).map fb)/\Same H5 J/\H5 D2=none
   refine cP (l.map λq=>V.ref q.1) f8 λD2 i2=>⟨?_,?_,?_,?_⟩
   ·exact⟨none,none,rfl,.nil,Same.new i2,i2⟩
   ·rintro i c1 c6 J _ ⟨o0,o1,rfl,_,sm,_⟩ _;exact .of (sm _ _ d.l)
   ·rintro i c1 c6 J v hv ⟨o0,o1,rfl,rp,sm,c4⟩ a5;rw[wW] at hv;obtain⟨⟨ta,O,I,g⟩,C,e⟩:∃q,l[i]? = some q/\V.ref q.1=v:=by
     cases q:l[i]? with
     | none=>rw[q] at hv;cases hv
     | some e=>rw[q] at hv;exact⟨e,rfl,wR hv⟩
    have h6:=wP C;have j2:=(wO.mp C).1;have f9:=rp.len;rw[wK,xx] at f9;refine so e.symm (.of (sm _ _ (d.t _ h6))) ?_;refine⟨_,rfl,_,rfl,O,_,rfl,.of (sm _ _ (d.c _ h6)),λl1 h1=>⟨(by show 2<=sizeLine;decide),λt1 g1=>?_⟩⟩;have s1:=(Same.new (o:=.tup (List.map V.str g)) h1).trans (Same.new (o:=.tup [V.str I,V.ref l1]) g1);have r1:Rep (upd (upd J l1 (.tup (List.map V.str g))) t1 (.tup [V.str I,V.ref l1])) (.ref t1) (fb (I,g)):=.tup aj (.cons (.str _) (.cons (.tup (Same.new g1 _ _ aj) (RepAll.of_strs g)) .nil));have M:=s1 _ _ a5;have rp:=rp.same s1;have f5:=sm.trans s1;generalize upd (upd J l1 (.tup (List.map V.str g))) t1 (.tup [V.str I,V.ref l1])=H6 at M rp f5 r1 ⊢;refine⟨M,aH (by omega),_,_,rfl,?_,bu f5 c4,c4⟩;have ei:(ck l)[i]? = some (I,g):=by rw[wW,C];rfl
    rw[xg,ei,wZ];exact RepAll.append (aS (gB M But.upd) rp) (.cons (gB M But.upd r1) .nil)
   ·rintro c1 c6 H6 ⟨o0,o1,rfl,rp,sm,c4⟩ a5;rw[wK,<- wK (f:=λq:Addr × Addr × (Str × LS)=>q.2.2),xk (wM _)] at rp;refine⟨D2,_,rfl,.of a5,λq C=>?_⟩;have sq:=Same.new (o:=.tup c1) C;have s5:=sm.trans sq;exact k q (ck l) _ (.tup aj (rp.same sq)) T e4 a8.fin (ap s5 v5) (b5.trans (But.of_same (p:=p) s5))
theorem scReached:FnScope ["_law_edges_here","_law_one","_law_found","_law_at","_law_here","_law_there"] ["_law_edges_here","_law_one"] (am jm):=⟨rfl,rfl,rfl,by decide +kernel,rfl,by decide +kernel,by decide +kernel⟩
def gU:Sp:=λvs H Q _=>∃(wq:Addr) (refs:LV) (ss:LS) (ts:List (Str × Str)) (one:Str),vs=[.ref wq,.str one]/\H wq=some (.lst refs)/\RepAll H refs (ts.map aK)/\(∀e∈ts,e.1∈ss/\e.2∈ss)/\one∈ss/\ss.length<=60 /\
 ∀l (seen:LS) H',Same H H'->H l=none->H' l=some (.lst (List.map V.str seen))->(∀t,t∈seen ↔ MG.Rch (Tie ts) one t)->seen.length<=60->Q (.ref l) H'
theorem qa (F:Fun K "_law_reached" "_law_reached" jm f fd) (B:Blt mg):FnOk P w K mg base CX0 1 f fd ["_law_edges_here", "_law_one"] gU := by
 refine F.ok scReached (λvs H Q E h=>?_) (λb5 A a8 s H vs Q E hr h=>?_)
 ·obtain⟨wq,Z,ss,T,one,rfl,_⟩:=h
  rfl
 ·obtain⟨wq, Z, ss, T, one, rfl, hb, rp, a9, a6, hn, k⟩ := h;have nd:=scReached.nd;refine⟨_,(ae (ao (i:=2) nd rfl (Or.inl rfl) (aQ (aa (pv 1) ab)))
   (ae (ao (i:=3) nd rfl (Or.inl rfl) ac)
   (ae (gm PassesOwn.never (ak eW (pv 3) (aW K B (aa (pv 2) ab)) (aw _)) (ae (bL PassesOwn.never rfl (be K (pv 0)) (bN (n:=2) K rfl (aO (aA (i:=4) nd rfl (Or.inl rfl)) (aO (aA (i:=5) nd rfl (Or.inl rfl)) bS))) (ag (aU (PW.pt (cj (ak (aY hr.units) (pv 4) (af (ah K hr.units) (pv 2) (pv 3) (λ_ _=>rfl)) (aw _)) (bO (ak (bw K hr.units) (pv 5) (pv 2) (by with_unfolding_all rfl))))) (ag (bX (cT K (pv 2) (aa (pv 5) ab)))) aF)))
   (ag (ao (i:=3) nd rfl (Or.inl rfl) (aG aT (pv 3) ac)))))
   (ag (av (pv 2)))))),?_⟩
  have a0:=rp.len;rw[wK] at a0;refine⟨_,rfl,(by show 1<=sizeLine;decide),λl0 a1=>?_⟩;have a2:∀y,MG.Rch (Tie T) one y->y∈ss:=λy r=>MG.Rch.closed (S:=λy=>y∈ss) a6 (λa b _ r=>(a9 _ r).2) r
  let a7:Nat->SH:=λm σ U=>∃(l:Nat) (g:LS) (J L:Option V),m+l=ss.length/\σ=[some (.ref wq),some (.str one),some (.ref l0),some (.int ((l:Nat):Int)),J,L]/\Same H U/\U l0=some (.lst (List.map V.str g))/\g.Nodup/\(∀x∈g,MG.Rch (Tie T) one x)/\one∈g/\l<=g.length/\∀i x,i<l->g[i]? = some x->∀y,(x,y)∈T->y∈g
  refine⟨a7,
   ⟨ss.length,0,[one],none,none,by omega,rfl,Same.new a1,aj,by simp,(λx D=>(show x=one by simpa using D) ▸ MG.Rch.refl),by simp,by omega,λi x hi=>by omega⟩,?_⟩
  rintro m σ H1 ⟨l,g,J,L,hm,rfl,O,N,G,C,u,b4,v⟩;have b1:g.length<=ss.length:=G.length_le_of_subset λx D=>a2 x (C x D);have b6:(List.map V.str g).length=g.length:=wK ..;refine⟨_,rfl,_,rfl,_,_,rfl,Or.inl ⟨_,.of N,rfl⟩,.int ⟨_,rfl,?_⟩⟩;refine aD (λhc=>?_) (λhc=>?_)
  ·have hc:(l:Int)<((List.map V.str g).length:Nat) := xf hc;have I:l<g.length:=by omega
   obtain⟨z,X⟩:∃z,g[l]? = some z:=⟨_,wS I⟩
   have rz:=C z (wP X)
   let a5:SH:=λa3 U=>∃(g:LS) (J L:Option V),a3=[some (.ref wq),some (.str one),some (.ref l0),some (.int ((l+1:Nat):Int)),J,L]/\Same H U/\U l0=some (.lst (List.map V.str g))/\g.Nodup/\(∀x∈g,MG.Rch (Tie T) one x)/\one∈g/\l+1<=g.length/\∀i x,i<l+1->g[i]? = some x->∀y,(x,y)∈T->y∈g
   refine⟨a5,
    λa3 U ⟨g,J,L,p⟩=>⟨m-1,by omega,l+1,g,J,L,by omega,p⟩,?_⟩
   refine⟨_,rfl,wq,rfl,⟨_,.of (O _ _ hb)⟩,?_⟩
   let a4:Nat->SH:=λj σ U=>∃(g:LS) (J L:Option V),σ=[some (.ref wq),some (.str one),some (.ref l0),some (.int ((l:Nat):Int)),J,L]/\Same H U/\U l0=some (.lst (List.map V.str g))/\g.Nodup/\(∀x∈g,MG.Rch (Tie T) one x)/\one∈g/\l<g.length/\g[l]? = some z/\(∀i x,i<l->g[i]? = some x->∀y,(x,y)∈T->y∈g)/\∀f∈T.take j,f.1=z->f.2∈g
   refine dJ (R:=Q) (xs:=Z) a4 ?_ ?_ ?_ ?_
   ·exact⟨g,J,L,rfl,O,N,G,C,u,I,X,v,λe he=>by simp at he⟩
   ·rintro j σ U hj ⟨g,J,L,rfl,O,_⟩;exact .of (O _ _ hb)
   ·rintro _ j x σ U D ⟨g, J, L, rfl, O, N, G, C, u, I, X, v, W⟩;obtain⟨d,hd,rd⟩:=(rp.same O).get D;rw[wW] at hd;obtain⟨e,he,rfl⟩:∃e,T[j]? = some e/\aK e=d:=by
     cases q:T[j]? with
     | none=>rw[q] at hd;cases hd
     | some e=>rw[q] at hd;exact⟨e,rfl,wR hd⟩
    obtain⟨ta,rfl,b3⟩:=ku rd;have b0:=wP he;have b1:g.length<=ss.length:=G.length_le_of_subset λx D=>a2 x (C x D);have Y:(e.1=z->e.2∈g)->∀f∈T.take (j+1),f.1=z->f.2∈g:=λh f M q=>by
     rw[xg,he,w8] at M;rcases M with M | M
     ·exact W f M q
     ·have:f=e:=by simpa using M
      subst this;exact h q
    have b2:atI (List.map V.str g) (l:Int)=some (.str z):=bf (by rw[wW,X];rfl);refine⟨ta,_,rfl,.of b3,rfl,_,_,rfl,_,_,rfl,rfl,?_⟩;refine⟨_,rfl,_,rfl,_,rfl,.lst (.of N) b2 (.sc rfl ⟨_,rfl,?_⟩)⟩;refine aD (λh1=>?_) (λh1=>?_)
    ·have h1:e.1=z := V.str.inj (xf h1);refine⟨_,rfl,_,rfl,.seq (.inl (.of N)) rfl (bp _) ⟨_,rfl,?_⟩⟩;rw[dZ];refine aD (λh2=>?_) (λh2=>?_)
     ·have h2:e.2 ∉ g := by simpa using h2
      refine⟨_,rfl,.inl ⟨rfl,_,.of N⟩,?_⟩;refine⟨_,rfl,l0,_,_,rfl,rfl,N,by rw[wK];exact aH (by omega),?_⟩;refine⟨g++[e.2],_,_,rfl,?_,?_,?_,?_,?_,?_,?_,?_,?_⟩
      ·intro c o hc;rw[az (aJ hc a1)];exact O _ _ hc
      ·rw[aj];simp
      ·rw[xY];refine⟨G,by simp,λa ha b hb=>?_⟩;have:b=e.2:=by simpa using hb
       subst this;rintro rfl;exact h2 ha
      ·intro x D;rcases w8.mp D with D | D
       ·exact C x D
       ·have:x=e.2:=by simpa using D
        subst this;exact MG.Rch.step rz (by rw[<- h1];exact b0)
      ·exact xT _ u
      ·simp;omega
      ·rw[xU I];exact X
      ·intro i x hi D y hy;rw[xU (by omega)] at D;exact xT _ (v i x hi D y hy)
      ·intro f M q;rw[xg,he,w8] at M;rcases M with M | M
       ·exact xT _ (W f M q)
       ·have:f=e:=by simpa using M
        subst this;simp
     ·have h2:e.2∈g:=by simpa using h2
      exact⟨g,_,_,rfl,O,N,G,C,u,I,X,v,Y λ_=>h2⟩
    ·have h1:e.1≠z:=λq=>h1 (wQ (by rw[q]));exact fu ⟨g,_,_,rfl,O,N,G,C,u,I,X,v,Y λq=>absurd q h1⟩
   ·rintro σ U ⟨g,J,L,rfl,O,N,G,C,u,I,X,v,W⟩;rw[a0,xk (wM _)] at W;refine⟨_,rfl,.int ⟨g,J,L,rfl,O,N,G,C,u,I,λi x hi D y hy=>?_⟩⟩;by_cases q:i<l
    ·exact v i x q D y hy
    ·have:i=l:=by omega
     subst this;rw[X] at D;cases D;exact W _ hy rfl
  ·have hc:¬ (l:Int)<((List.map V.str g).length:Nat):=λq=>hc (wQ q);refine⟨_,rfl,k l0 g H1 O a1 N (λt=>⟨C t,λr=>?_⟩) (by omega)⟩;refine MG.Rch.closed (S:=λy=>y∈g) u (λa b ha r=>?_) r;obtain⟨j,hj,ej⟩:=List.mem_iff_getElem.mp ha;exact v j a (by omega) (by rw[wS hj,ej]) b r
def fm (us:LS) (wn:List (Str × Str)):Prop:=∀e∈wn,(e.1="first"∨e.1="last")/\e.2∈us
def FX (k:Str × LS) (e:Str × Str):Prop:=FL k e/\(e.1="last"->1<k.2.length)
def nj (K:W.Frag):Sp:=λvs H Q _=>∃(p a n:Addr) (us:LS) (ks:Kn),vs=[.ref p,.ref n]/\Pen K H p a/\Rep H (.ref n) (cB ks)/\Tre us ks /\
 ∀l refs wn H',H' l=some (.lst refs)->RepAll H' refs (wn.map aK)->WnX ks wn->(∀e∈wn,∃k∈ks,FX k e)->wn.length<=122->l≠p->PenV H' p a->But p H H'->Q (.ref l) H'
theorem scWants:FnScope ["_law_pen_here","_law_knots","_law_found","_law_knot","_law_some"] ["_law_pen_here","_law_knots"] (am lP):=⟨rfl,rfl,rfl,by decide +kernel,rfl,by decide +kernel,by decide +kernel⟩
theorem qM (a:(br ks).Nodup) (c:ks[i]? = some q) (d:k∈ks.take i) (b:u∈k.2) (f:u∈q.2):False:=by
 have e:br ks=br (ks.take (i+1))++br (ks.drop (i+1)):=by rw[<- fv,yn]
 rw[e,gw c] at a;have:=(xY.mp (xY.mp a).1).2.2 u (xL.mpr ⟨k,d,b⟩) u f;exact this rfl
theorem WnX.ok (T:Tre us ks) (W:WnX ks wn):fm us wn:=λe a=>by
 obtain⟨k,b,f⟩:=W.at_ e a;exact⟨by rcases f with⟨q,_⟩ | ⟨q,_⟩;exact .inl q;exact .inr q,T.isIn b f.mem⟩
theorem tE {xs:LV}{ps:List (Str × Str)}(r:RepAll H xs (ps.map aK)) {e:Str × Str}(a:Rep H v (aK e)) (m:Nat):RepAll H (xs.take m++v::xs.drop m) ((ps.take m++e::ps.drop m).map aK):=by
 rw[wZ,xr,xZ,xN];exact RepAll.append (r.take m) (.cons a (r.drop m))
theorem sj (F:Fun K "_law_wants" "_law_wants" lP f fd) (B:Blt mg) (c:Cal P w K mg base 1 "_law_draw" ["_law_pen_here", "_law_most"] (ci K)):FnOk P w K mg base CX0 2 f fd ["_law_pen_here", "_law_knots"] (nj K) := by
 refine F.ok scWants (λvs H Q E h=>?_) (λe6 A c6 s H vs Q E hr h=>?_)
 ·obtain⟨p,a,n,us,Z,rfl,_⟩:=h
  rfl
 ·obtain⟨p, a, n, us, Z, rfl, hP, R, T, k⟩ := h;have nd:=scWants.nd;have v0:=hP.2;refine⟨_,(ae (ao (i:=2) nd rfl (Or.inl rfl) (aQ ab))
   (ae (bL PassesOwn.never rfl (bH K (pv 1)) (bN (n:=2) K rfl (aO (aA (i:=3) nd rfl (Or.inl rfl)) (aO (aA (i:=4) nd rfl (Or.inl rfl)) bS))) (ae (aU (PW.pt (cj (ak gX (aW K B (aa (pv 4) ab)) ac (aw _)) (bO (ak (aY hr.units) (ai c (hr.mono (by decide)) rfl (aa (pv 0) (aa ac ab))) ac (aw _))))) (ag (bX (fi K (pv 2) (aa (ai c (hr.mono (by decide)) rfl (aa (pv 0) (aa (aG aT (aW K B (aa (pv 2) ab)) ac) ab))) (aa (aL (aa aR (aa (af (ah K hr.units) (pv 4) ac (λ_ _=>rfl)) ab))) ab))))) aF)
   (ag (aU (PW.pt (cj (ak gX (aW K B (aa (pv 4) ab)) ac (aw _)) (bO (ak (aY hr.units) (ai c (hr.mono (by decide)) rfl (aa (pv 0) (aa ac ab))) ac (aw _))))) (ag (bX (fi K (pv 2) (aa (ai c (hr.mono (by decide)) rfl (aa (pv 0) (aa (aG aT (aW K B (aa (pv 2) ab)) ac) ab))) (aa (aL (aa aR (aa (af (ah K hr.units) (pv 4) (dN de ac) (λ_ _=>rfl)) ab))) ab))))) aF))))
   (ag (av (pv 2))))),?_⟩
  obtain⟨n',b8,e0,hn,rp⟩:=gg R;cases e0;obtain⟨d8,a1⟩:=aV v0;have a4:=rp.len;rw[wK] at a4;have e2:=T.few;refine⟨(by show 0<=sizeLine;decide),λl a0=>?_⟩;have N:l≠p:=Ne.symm (v0.ne a0);have b0:But p H (upd H l (.lst [])):=(But.refl p H).at a0;have v1:PenV (upd H l (.lst [])) p a:=v0.upd (v0.ne a0);have e1:upd H l (.lst []) l=some (.lst []):=aj;generalize upd H l (.lst [])=H1 at b0 v1 e1 ⊢;refine⟨_,rfl,n,rfl,⟨_,.of (aP a1 b0 hn)⟩,?_⟩
  let c1:Nat->SH:=λi σ Y=>∃(o3 o4:Option V) (g:LV) (d:List (Str × Str)),σ=[some (.ref p),some (.ref n),some (.ref l),o3,o4]/\Y l=some (.lst g)/\RepAll Y g (d.map aK)/\(d.Nodup/\∀e∈d,∃k∈Z.take i,FX k e)/\d.length<=2 * i/\PenV Y p a/\But p H Y
  refine dr (R:=Q) (xs:=b8) c1 ?_ ?_ ?_ ?_
  ·exact⟨none,none,[],[],rfl,e1,.nil,⟨List.nodup_nil,λe r=>by cases r⟩,wM _,v1,b0⟩
  ·rintro i σ Y hi ⟨o3,o4,g,d,rfl,_,_,_,_,_,b⟩;exact .of (aP a1 b hn)
  ·rintro _ i x σ H2 hx ⟨o3, o4, g, d, rfl, c5, b9, D, e8, v2, b2⟩;obtain⟨y,ta,la,hk,rfl,d5,d6⟩:=iV rp hx;have e5:=(wO.mp hk).1;have e7:∀u∈y.2,u∈us:=λu hu=>T.isIn (wP hk) hu;have c2:(List.map V.str y.2).length=y.2.length:=wK ..;refine⟨ta,_,rfl,.of (aP a1 b2 d5),rfl,_,_,rfl,_,_,rfl,rfl,?_⟩;have b7:∀(w u:Str) (O:Hp) (g:LV) (d:List (Str × Str)) (t:Addr) (m:Nat),O l=some (.lst g)->RepAll O g (d.map aK)->d.Nodup->(w,u)∉d->O t=some (.tup [.str w,.str u])->PenV O p a->But p H O ->
       upd O l (.lst (g.take m++V.ref t::g.drop m)) l=some (.lst (g.take m++V.ref t::g.drop m))/\RepAll (upd O l (.lst (g.take m++V.ref t::g.drop m))) (g.take m++V.ref t::g.drop m) ((d.take m++(w,u)::d.drop m).map aK)/\(d.take m++(w,u)::d.drop m).Nodup/\(d.take m++(w,u)::d.drop m).length=d.length+1/\PenV (upd O l (.lst (g.take m++V.ref t::g.drop m))) p a/\But p H (upd O l (.lst (g.take m++V.ref t::g.drop m))):=by
    intro w u O g d t m hf rf d4 d2 ht v b;refine⟨aj,aS (aN hf But.upd) (tE rf (bx ht) m),?_,(dX d m (w,u)).length_eq,v.upd (Ne.symm N),b.at a0⟩;exact(dX d m (w,u)).nodup_iff.mpr (xB.mpr ⟨d2,d4⟩)
   have c4:∀ {u:Str} {e:Str × Str},u∈y.2->e.2=u->(∃k∈Z.take i,FX k e)->False:=λ{u e} hu r ⟨k,a5,f⟩=>qM T.knd hk a5 (r ▸ f.1.mem) hu;have d0:∀ {e:Str × Str},(∃k∈Z.take i,FX k e)->∃k∈Z.take (i+1),FX k e:=λ⟨k,a5,f⟩=>⟨k,by rw[xg];exact xT _ a5,f⟩
   have a3:y∈Z.take (i+1):=by rw[xg,hk];simp
   have a2:∀Y,But p H Y->Y la=some (.tup (y.2.map V.str)):=λY b=>aP a1 b d6;apply dF (J:=λσ HZ=>∃(g:LV) (d:List (Str × Str)),σ=[some (.ref p),some (.ref n),some (.ref l),some (.str y.1),some (.ref la)]/\HZ l=some (.lst g)/\RepAll HZ g (d.map aK)/\(d.Nodup/\∀e∈d,(∃k∈Z.take i,FX k e)∨(e.1="first"/\FX y e))/\d.length<=2 * i+1/\PenV HZ p a/\But p H HZ)
   ·intro aM;refine⟨_,rfl,_,_,rfl,Or.inr ⟨_,.of (a2 _ b2),rfl⟩,_,_,rfl,rfl,_,rfl,?_⟩;rw[c2];refine aD (λh=>?_) (λ_=>fu ?_)
    ·have h:(0:Int)<((y.2.length:Nat):Int):=xf h;obtain⟨u,hu⟩:∃u,y.2[0]? = some u:=⟨_,wS (by omega)⟩
     obtain⟨d3,a6⟩:=aV v2;refine⟨_,rfl,p,a,4,rfl,hP.but b2 v2,by decide,by decide,λr3 O c9 d1 v3 e3=>.sc rfl ⟨_,rfl,?_⟩⟩;have I:=But.of_eq e3;have b3:=b2.trans I;have C:=I l _ N c5;have L:=aS (aN a6 I) b9;have S:=L.len;rw[wK] at S;refine aD (λ_=>?_) (λ_=>?_)
     ·obtain⟨c7,a7⟩:=aV v3;refine⟨_,rfl,.inl ⟨rfl,_,.of C⟩,_,rfl,_,rfl,_,_,rfl,Or.inl ⟨_,.of C,rfl⟩,.int ⟨p,a,_,rfl,hP.but b3 v3,by omega,by omega,λr4 H4 a9 d7 v4 e4=>?_⟩⟩;have M:=But.of_eq e4;have b4:=b3.trans M;have U:=M l _ N C;have b1:=aS (aN a7 M) L;obtain⟨m,rfl⟩:=xj a9;refine⟨_,rfl,.tup (.of (a2 _ b4)) (show atI (List.map V.str y.2) 0=some (.str u) from bf (j:=0) (by rw[wW,hu];rfl)) ⟨(by show 2<=sizeLine;decide),λt ht=>?_⟩⟩;have W:=Same.new (o:=.tup [V.str "first",V.str u]) ht;have v5:=ap W v4;have b5:=b4.trans (But.of_same (p:=p) W);refine⟨l,_,_,m,_,rfl,rfl,rfl,W _ _ U,by omega,aH (by omega),?_⟩;obtain⟨g1,g2,g3,g4,g5,g6⟩:=b7 "first" u _ g d t m (W _ _ U) (b1.same W) D.1 (λz=>c4 (wP hu) rfl (D.2 _ z)) aj v5 b5;have a8:FX y ("first",u):=⟨.inl ⟨rfl,by rw[xJ];exact hu⟩,λz=>absurd z (by show ¬ ("first":Str)="last";decide)⟩
      dsimp only;exact aM _ _ ⟨_,_,rfl,g1,g2,⟨g3,λe r=>by rcases cW r with rfl | r;exact .inr ⟨rfl,a8⟩;exact .inl (D.2 e r)⟩,by omega,g5,g6⟩
     ·exact aM _ _ ⟨g,d,rfl,C,L,⟨D.1,λe r=>.inl (D.2 e r)⟩,by omega,v3,b3⟩
    ·exact aM _ _ ⟨g,d,rfl,c5,b9,⟨D.1,λe r=>.inl (D.2 e r)⟩,by omega,v2,b2⟩
   ·rintro σ H6 ⟨g, d, rfl, c3, c0, G, d9, v6, b6⟩;have X:∀e,((∃k∈Z.take i,FX k e)∨(e.1="first"/\FX y e))->∃k∈Z.take (i+1),FX k e:=λe h=>by
     rcases h with h | h
     ·exact d0 h
     ·exact⟨y,a3,h.2⟩
    refine⟨_,rfl,_,_,rfl,Or.inr ⟨_,.of (a2 _ b6),rfl⟩,_,_,rfl,rfl,_,rfl,?_⟩;rw[c2];refine aD (λh=>?_) (λ_=>fu ?_)
    ·have h:(1:Int)<((y.2.length:Nat):Int):=xf h;obtain⟨zs,u,hz⟩:∃zs u,y.2=zs++[u]:=⟨_,_,(List.dropLast_concat_getLast (λq=>by rw[q] at h;exact absurd h (by decide))).symm⟩
     obtain⟨d3,a6⟩:=aV v6;refine⟨_,rfl,p,a,4,rfl,hP.but b6 v6,by decide,by decide,λr3 O c9 d1 v3 e3=>.sc rfl ⟨_,rfl,?_⟩⟩;have I:=But.of_eq e3;have b3:=b6.trans I;have C:=I l _ N c3;have L:=aS (aN a6 I) c0;have S:=L.len;rw[wK] at S;refine aD (λ_=>?_) (λ_=>?_)
     ·obtain⟨c7,a7⟩:=aV v3;refine⟨_,rfl,.inl ⟨rfl,_,.of C⟩,_,rfl,_,rfl,_,_,rfl,Or.inl ⟨_,.of C,rfl⟩,.int ⟨p,a,_,rfl,hP.but b3 v3,by omega,by omega,λr4 H4 a9 d7 v4 e4=>?_⟩⟩;have M:=But.of_eq e4;have b4:=b3.trans M;have U:=M l _ N C;have b1:=aS (aN a7 M) L;obtain⟨m,rfl⟩:=xj a9;refine⟨_,rfl,_,rfl,.tup (.of (a2 _ b4)) (show atI (List.map V.str y.2) (-1)=some (.str u) from by rw[hz,wZ];exact iT _ _) ⟨(by show 2<=sizeLine;decide),λt ht=>?_⟩⟩;have W:=Same.new (o:=.tup [V.str "last",V.str u]) ht;have v5:=ap W v4;have b5:=b4.trans (But.of_same (p:=p) W);refine⟨l,_,_,m,_,rfl,rfl,rfl,W _ _ U,by omega,aH (by omega),?_⟩;have c8:u∈y.2:=by rw[hz];simp
      obtain⟨g1,g2,g3,g4,g5,g6⟩:=b7 "last" u _ g d t m (W _ _ U) (b1.same W) G.1 (λz=>by rcases G.2 _ z with w | w;exact c4 c8 rfl w;exact absurd w.1 (by show ¬ ("last":Str)="first";decide)) aj v5 b5;have a8:FX y ("last",u):=⟨.inr ⟨rfl,by rw[hz];simp⟩,λ_=>by omega⟩
      exact⟨_,_,_,_,rfl,g1,g2,⟨g3,λe r=>by rcases cW r with rfl | r;exact⟨y,a3,a8⟩;exact X e (G.2 e r)⟩,by omega,g5,g6⟩
     ·exact⟨_,_,g,d,rfl,C,L,⟨G.1,λe r=>X e (G.2 e r)⟩,by omega,v3,b3⟩
    ·exact⟨_,_,g,d,rfl,c3,c0,⟨G.1,λe r=>X e (G.2 e r)⟩,by omega,v6,b6⟩
  ·rintro σ Y ⟨o3,o4,g,d,rfl,hf,rf,ok,hl,v,b⟩;rw[a4,xk (wM _)] at ok;exact⟨_,rfl,k l g d Y hf rf ⟨ok.1,λe r=>let ⟨k,hk,f⟩:=ok.2 e r;⟨k,hk,f.1⟩⟩ ok.2 (by omega) N v b⟩
theorem cq (T:Tre us ks) (a:k∈ks):k.2.Nodup:=by
 have:=T.knd;unfold br at this;rw[List.flatMap_def] at this;exact(List.sublist_flatten_of_mem (wX.mpr ⟨k,a,rfl⟩)).nodup this
theorem mV (g:H l=some (.tup (c.map V.str))) (f:c.Nodup) (d:x∈c) (q:Q (.int ((MG.ix c x:Nat):Int)) H):ke (.ref l) [.str x] H Q:=by
 refine⟨l,_,.str x,MG.ix c x,.str x,rfl,rfl,g,rfl,bp c,by rw[wW,MG.at_ix d];rfl,by show (x==x)=true;simp,λm j i h=>?_,q⟩;obtain⟨z,a,rfl⟩:=bI h;have b:z≠x:=λe=>by rw[e] at a;have:=MG.ix_at f a;omega
 show (z==x)=false;simpa using b
theorem aB (h:k [] H):fg σ H k:=h
def Fw (ks:Kn) (e:Str × Str):Prop:=∃kk∈ks,∃x y,bt ks e.1 e.2=some (kk.1,x,y)/\x∈kk.2/\y∈kk.2/\x∈lin ks e.1/\y∈lin ks e.2/\MG.ix kk.2 x<MG.ix kk.2 y
def cV (us:LS) (ks:Kn) (ts:List (Str × Str)):Prop:=∀e∈ts,e.1∈us/\e.2∈us/\(bt ks e.1 e.2≠none/\Fw ks e)
theorem iQ (e f:Str × Str):PyData.eqv (aK e) (aK f)=decide (e=f):=by
 obtain⟨a,b⟩:=e;obtain⟨c,d⟩:=f;show ((a==c)&&((b==d)&&true))=_;rw[Bool.and_true,xp];simp only[xC,beq_iff_eq,decide_eq_true_eq,Prod.mk.injEq]
theorem gh (ps:Prs) (x:Str × Str):((ps.map aK).any λe=>PyData.eqv e (aK x))=decide (x∈ps):=by
 rw[List.any_map,xp,yl,decide_eq_true_iff]
 constructor
 ·rintro⟨e,a,q⟩;have q:PyData.eqv (aK e) (aK x)=true:=q;rw[iQ,decide_eq_true_iff] at q;exact q ▸ a
 ·intro h;exact⟨x,h,by show PyData.eqv (aK x) (aK x)=true;rw[iQ];simp⟩
theorem iC {ps:Prs}{x:Str × Str}(h:(if true=true then !((ps.map aK).any λe=>PyData.eqv e (aK x)) else (ps.map aK).any λe=>PyData.eqv e (aK x))=true):x∉ps:=by
 rw[if_pos rfl,gh] at h;simpa using h
theorem mQ {ps:Prs}{x:Str × Str}(h:¬ (if true=true then !((ps.map aK).any λe=>PyData.eqv e (aK x)) else (ps.map aK).any λe=>PyData.eqv e (aK x))=true):x∈ps:=by
 rw[if_pos rfl,gh] at h;simpa using h
theorem jx (h:ps.Nodup) (n:e∉ps):(ps++[e]).Nodup:=by
 rw[xY];exact⟨h,by simp,λa d b c z=>n (by rw[<- xa.mp c,<- z];exact d)⟩
def qy (K:W.Frag):Sp:=λvs H Q _=>∃(p a n un:Addr) (us:LS) (ks:Kn) (many:Nat),vs=[.ref p,.ref n,.ref un,.int (many:Int)]/\Pen K H p a/\Rep H (.ref n) (cB ks)/\Tre us ks/\H un=some (.lst (List.map V.str us))/\un≠p/\(0<many->0<us.length)/\many<=200 /\
 ∀l refs ts H',H' l=some (.lst refs)->RepAll H' refs (ts.map aK)->cV us ks ts->ts.Nodup->ts.length<=many->l≠p->PenV H' p a->But p H H'->Q (.ref l) H'
theorem scKept:FnScope ["_law_pen_here","_law_knots","_law_units","_law_many","_law_found","_law_around_here","_law_k","_law_one","_law_other","_law_told","_law_some"] ["_law_pen_here","_law_knots","_law_units","_law_many"] (am nY):=⟨rfl,rfl,rfl,by decide +kernel,rfl,by decide +kernel,by decide +kernel⟩
theorem tQ {f:Addr}{fd:FuncData}(F:Fun K "_law_kept" "_law_kept" nY f fd) (B:Blt mg) (b:Cal P w K mg base 1 "_law_draw" ["_law_pen_here", "_law_most"] (ci K)) (g:Cal P w K mg base 1 "_law_around" ["_law_knots"] cw) (c:Cal P w K mg base 2 "_law_parting" ["_law_around_here", "_law_one", "_law_other"] dv):FnOk P w K mg base CX0 3 f fd ["_law_pen_here", "_law_knots", "_law_units", "_law_many"] (qy K) := by
 refine F.ok scKept (λvs H Q E h=>?_) (λh8 A f5 s H vs Q E O h=>?_)
 ·obtain⟨p,a,n,un,N,X,l,rfl,_⟩:=h
  rfl
 ·obtain⟨p,a,n,un,N,X,l,rfl,hP,R,T,a3,Y,a6,hm,k⟩:=h;have nd:=scKept.nd;have v0:=hP.2;obtain⟨h6,g7⟩:=aV v0;have h5:=T.len;have L:(List.map V.str N).length=N.length:=wK ..;refine⟨_,(ae (ao (i:=4) nd rfl (Or.inl rfl) (aQ ab))
   (ae (ao (i:=5) nd rfl (Or.inl rfl) (ai g (O.mono (by decide)) rfl (aa (pv 1) ab)))
   (ae (bL PassesOwn.never rfl (dq rfl B.range (aa (pv 3) ab)) (aA (i:=6) nd rfl (Or.inl rfl)) (ae (ao (i:=7) nd rfl (Or.inl rfl) (af (ah K O.units) (pv 2) (ai b (O.mono (by decide)) rfl (aa (pv 0) (aa (aW K B (aa (pv 2) ab)) ab))) (λ_ _=>rfl)))
   (ae (ao (i:=8) nd rfl (Or.inl rfl) (af (ah K O.units) (pv 2) (ai b (O.mono (by decide)) rfl (aa (pv 0) (aa (aW K B (aa (pv 2) ab)) ab))) (λ_ _=>rfl)))
   (ae (ao (i:=9) nd rfl (Or.inl rfl) (ai c (O.mono (by decide)) rfl (aa (pv 5) (aa (pv 7) (aa (pv 8) ab)))))
   (ag (aU (ak gu (pv 9) bj (aw _)) (ae (ao (i:=10) nd rfl (Or.inl rfl) (af (ah K O.units) (fW K rfl O.units B (aa (pv 1) ab)) (af (ah K O.units) (pv 9) ac (λ_ _=>rfl)) (λ_ _=>rfl)))
   (ae (aU (ak gX (kP (pv 10) (aa (af (ah K O.units) (pv 9) ac (λ_ _=>rfl)) ab)) (kP (pv 10) (aa (af (ah K O.units) (pv 9) ac (λ_ _=>rfl)) ab)) (aw _)) (ag (vw (i:=7) (j:=8) rfl nd rfl rfl (by decide) rfl rfl (aa (pv 8) (aa (pv 7) ab)) rfl)) aF)
   (ag (aU (ak (bw K O.units) (aL (aa (pv 7) (aa (pv 8) ab))) (pv 4) (by with_unfolding_all rfl)) (ag (bX (cT K (pv 4) (aa (aL (aa (pv 7) (aa (pv 8) ab))) ab)))) aF)))) aF))))))
   (ag (av (pv 4)))))),?_⟩
  refine⟨(by show 0<=sizeLine;decide),λU b2=>?_⟩;have a9:U≠p:=Ne.symm (v0.ne b2);have s1:=Same.new (o:=.lst []) b2;have e1:upd H U (.lst []) U=some (.lst []):=aj;generalize upd H U (.lst [])=H1 at s1 e1 ⊢;refine⟨_,rfl,n,N,X,rfl,R.same s1,T,λd c5 H2 s2 f7 hd ar=>?_⟩;have f1:=s1.trans s2;have v2:=ap f1 v0;obtain⟨h9,g1⟩:=aV v2;have f4:d≠p:=cC hd g1 (by intro z;cases z);have h4:d≠U:=cC hd (s2 _ _ e1) (by intro z;cases z);have i1:H d=none:=dn s1 f7;refine⟨_,rfl,_,rfl,by omega,by omega,?_⟩;rw[show ((l:Nat):Int).toNat=l from rfl]
  let d3:Nat->SH:=λi σ H'=>∃(o6 o7 o8 o9 b0:Option V) (fr:LV) (S:List (Str × Str)),σ=[some (.ref p),some (.ref n),some (.ref un),some (.int (l:Int)),some (.ref U),some (.ref d),o6,o7,o8,o9,b0]/\H' U=some (.lst fr)/\RepAll H' fr (S.map aK)/\cV N X S/\S.Nodup/\S.length<=i/\H' d=some (.dK c5)/\PenV H' p a/\But p H H'
  refine gZ (R:=Q) d3 ?_ ?_ ?_
  ·exact⟨none,none,none,none,none,[],[],rfl,s2 _ _ e1,.nil,(λe he=>by cases he),List.nodup_nil,wM _,hd,v2,But.of_same f1⟩
  ·rintro _ i σ H3 hi ⟨o6,o7,o8,o9,b0,fr,S,rfl,a2,a5,r,W,e3,c1,v3,b3⟩;have hi:i<l:=hi;have a6:=a6 (by omega);obtain⟨h7,g2⟩:=aV v3;refine⟨_,rfl,_,rfl,_,rfl,_,_,rfl,Or.inl ⟨_,.of (b3 un _ Y a3),rfl⟩,p,a,_,rfl,hP.but b3 v3,by rw[L];omega,by rw[L];omega,λr4 H4 g4 h0 v4 e4=>?_⟩;have f0:=But.of_eq e4;have b4:=b3.trans f0;obtain⟨j1,rfl⟩:=xj g4;rw[L] at h0;have c6:j1<N.length:=by omega
   obtain⟨i2,i0⟩:=aV v4;refine .lst (.of (b4 un _ Y a3)) (eU c6) ⟨_,rfl,_,rfl,_,rfl,_,_,rfl,Or.inl ⟨_,.of (b4 un _ Y a3),rfl⟩,p,a,_,rfl,hP.but b4 v4,by rw[L];omega,by rw[L];omega,λr5 H5 g5 f3 v5 e5=>?_⟩;have e0:=But.of_eq e5;have c0:=f0.trans e0;have b5:=b4.trans e0;obtain⟨j2,rfl⟩:=xj g5;rw[L] at f3;have d1:j2<N.length:=by omega
   have hu:=bW c6;have hv:=bW d1;refine .lst (.of (b5 un _ Y a3)) (eU d1) ?_;generalize N.getD j1 ""=u at hu ⊢;generalize N.getD j2 ""=v at hv ⊢;have b1:=c0 d _ f4 c1;have c9:=c0 U _ a9 a2;have d9:=aS (aN g2 c0) a5;refine⟨_,rfl,_,rfl,_,rfl,d,c5,N,X,u,v,rfl,b1,ar,T,hu,hv,λx H6 s6 px=>?_⟩;have v6:=ap s6 v5;have b6:=b5.trans (But.of_same (p:=p) s6);have f2:=s6 _ _ b1;have e6:=s6 _ _ c9;have d2:=d9.same s6;clear b1 c9 d9 c1 a2 a5;refine⟨_,rfl,.non ⟨_,rfl,?_⟩⟩;cases hpo:bt X u v with
   | none =>
    rw[hpo] at px;cases px;exact fu ⟨_,_,_,_,_,fr,S,rfl,e6,d2,r,W,by omega,f2,v6,b6⟩
   | some t3 =>
    obtain⟨kq,x1,y1⟩:=t3;rw[hpo] at px;obtain⟨t,rfl,ht⟩:=px;obtain⟨d7,f8,c4,f6,g0⟩:=T.part hu hv hpo;obtain⟨_,_,lx,ly,_⟩:=iO (T.lin_chn u (.inr hu)) (T.lin_chn v (.inr hv)) hpo;refine vf ?_;obtain⟨C,y,G⟩:=wX.mp (T.par_in c4).2;rw[d7] at G;have h1:(bg X x1,C.2)=C:=by rw[d7,<- G]
    have e2:(bg X y1,C.2)=C:=by rw[f8,<- G]
    have cx:=T.kid c4 (by rw[h1];exact y);have cy:=T.kid f6 (by rw[e2];exact y);refine⟨_,rfl,?_⟩;refine aB (dQ (dI g7 b6 R) T λD dk hD h2=>?_);obtain⟨la,d8,g8⟩:=h2 C y;rw[G] at d8;have s7:=Same.new (o:=.dK dk) hD;have v7:=ap s7 v6;have b7:=b6.trans (But.of_same (p:=p) s7);have a1:=s7 _ _ ht;have m:=s7 _ _ g8;refine⟨_,rfl,.tup (.of a1) rfl (.dic (.inl ⟨dk,.inr kq,.inl aj,rfl,d8.symm⟩) ?_)⟩;have cn:=cq T y;have c2:=s7 _ _ e6;have a0:=d2.same s7;have c7:=s7 _ _ f2;generalize upd H6 D (.dK dk)=H7 at s7 v7 b7 a1 m c2 a0 c7 ⊢;apply dF (J:=λσ HZ=>∃(M I:Str),σ=[some (.ref p),some (.ref n),some (.ref un),some (.int (l:Int)),some (.ref U),some (.ref d),some (.int (0+(i:Nat):Int)),some (.str M),some (.str I),some (.ref t),some (.ref la)]/\M∈N/\I∈N/\(bt X M I≠none/\Fw X (M,I))/\HZ=H7)
    ·intro aM;refine⟨_,rfl,⟨la,_,rfl,m⟩,_,rfl,.tup (.of a1) rfl (aB (mV m cn cx ⟨_,rfl,⟨la,_,rfl,m⟩,_,rfl,.tup (.of a1) rfl (aB (mV m cn cy ⟨_,_,rfl,rfl,_,rfl,?_⟩))⟩))⟩;refine aD (λd4=>?_) (λc8=>?_)
     ·have d4:((MG.ix C.2 y1:Nat):Int)<((MG.ix C.2 x1:Nat):Int):=xf d4;have c3:bt X v u=some (kq,y1,x1):=by unfold bt;rw[lC];unfold bt at hpo;rw[hpo];rfl
      refine⟨_,rfl,_,rfl,_,_,rfl,?_⟩;exact aM _ _ ⟨v,u,rfl,hv,hu,⟨(by rw[c3];intro z;cases z),C,y,y1,x1,by rw[G];exact c3,cy,cx,ly,lx,by omega⟩,rfl⟩
     ·have c8:¬ ((MG.ix C.2 y1:Nat):Int)<((MG.ix C.2 x1:Nat):Int):=λz=>c8 (wQ z);have i3:MG.ix C.2 x1≠MG.ix C.2 y1:=λz=>g0 (MG.ix_inj cx cy z);exact aM _ _ ⟨u,v,rfl,hu,hv,⟨(by rw[hpo];intro z;cases z),C,y,x1,y1,by rw[G];exact hpo,cx,cy,lx,ly,by omega⟩,rfl⟩
    ·rintro σ HZ ⟨M, I, rfl, e8, d6, g3, rfl⟩;have f9:∀e∈S,Nm e.1/\Nm e.2:=λe he=>⟨T.nm _ (r e he).1,T.nm _ (r e he).2.1⟩
     have d0:=a0.len;rw[wK] at d0;refine⟨_,rfl,_,rfl,(by show 2<=sizeLine;decide),λtq h3=>?_⟩;have s8:=Same.new (o:=.tup [V.str M,V.str I]) h3;refine⟨_,rfl,.tr (d:=aK (M,I)) (s8 _ _ c2) (a0.same s8) (bx aj) (cf f9) (cJ ⟨T.nm _ e8,T.nm _ d6⟩) (by show 1<=16;decide) ⟨_,rfl,?_⟩⟩;have v8:=ap s8 v7;have b8:=b7.trans (But.of_same (p:=p) s8);have Z:=s8 _ _ c2;have a8:=a0.same s8;have a7:=s8 _ _ c7;generalize upd HZ tq (.tup [V.str M,V.str I])=H8 at v8 b8 Z a8 a7 ⊢;refine aD (λg6=>?_) (λ_=>?_)
     ·refine⟨_,rfl,.inl ⟨rfl,_,.of Z⟩,_,rfl,_,rfl,(by show 2<=sizeLine;decide),λt2 g9=>?_⟩;have s9:=Same.new (o:=.tup [V.str M,V.str I]) g9;have e9:upd H8 t2 (.tup [V.str M,V.str I]) t2=some (.tup [V.str M,V.str I]):=aj;have v9:=ap s9 v8;have b9:=b8.trans (But.of_same (p:=p) s9);have a4:=s9 _ _ Z;have d5:=a8.same s9;have e7:=s9 _ _ a7;generalize upd H8 t2 (.tup [V.str M,V.str I])=H9 at v9 b9 a4 d5 e7 e9 ⊢;refine⟨U,_,_,rfl,rfl,a4,aH (by omega),?_⟩;refine⟨_,_,_,_,_,fr++[.ref t2],S++[(M,I)],rfl,aj,?_,λe he=>?_,jx W (iC g6),by rw[w6];show _+1<=_;omega,by rw[az h4];exact e7,v9.upd (Ne.symm a9),b9.at b2⟩
      ·rw[wZ];exact RepAll.append (aS (aN a4 But.upd) d5) (.cons (aN a4 But.upd (bx e9)) .nil)
      ·rcases w8.mp he with q | q
       ·exact r e q
       ·rw[xa.mp q];exact⟨e8,d6,g3⟩
     ·exact⟨_,_,_,_,_,fr,S,rfl,Z,a8,r,W,by omega,a7,v8,b8⟩
  ·rintro σ H3 ⟨o6,o7,o8,o9,b0,fr,S,rfl,a2,a5,r,W,e3,c1,v3,b3⟩;exact⟨_,rfl,k U fr S H3 a2 a5 r W e3 a9 v3 b3⟩
def gF (us:LS) (ps:List (Str × Str)):Prop:=∀e∈ps,e.1∈us/\e.2∈us
def eP:Sp:=λvs H Q _=>∃(q:Addr) (us:LS) (ks:Kn) (ts ws wn:List (Str × Str)) (knot:Str) (c:LS),vs=[.ref q,.str knot]/\Rep H (.ref q) (aZ ks ts ws wn)/\Tre us ks/\cV us ks ts/\WnX ks wn/\(knot,c)∈ks/\ts.length<=200/\wn.length<=122 /\
 ∀(l:Addr) (refs:LV) (H':Hp),Same H H'->H l=none->H' l=some (.lst refs)->RepAll H' refs ((cL ks ts wn knot c).map aK)->(cL ks ts wn knot c).length<=100000->gF us (cL ks ts wn knot c)->Q (.ref l) H'
theorem scEdges:FnScope ["_law_house_here","_law_knot","_law_some","_law_around_here","_law_found","_law_one","_law_other","_law_told","_law_word","_law_unit","_law_pair"] ["_law_house_here","_law_knot"] (am jB):=⟨rfl,rfl,rfl,by decide +kernel,rfl,by decide +kernel,by decide +kernel⟩
structure Fnd (H H':Hp) (lf:Addr) (us:LS) (fr:LV) (ps:List (Str × Str)) (n:Nat):Prop where
 f:H' lf=some (.lst fr)
 r:RepAll H' fr (ps.map aK)
 i:gF us ps
 l:ps.length<=n
 s:Same H H'
theorem Fnd.more (h:Fnd H H' q us fr ps n) (s:Same H' H2) (a:n<=m):Fnd H H2 q us fr ps m:=⟨s _ _ h.f,h.r.same s,h.i,wV h.l a,h.s.trans s⟩
theorem Fnd.app (h:Fnd H H' z us fr ps n) (c:H' t=some (.tup [.str x,.str y])) (b:x∈us) (a:y∈us) (f:H z=none):Fnd H (upd H' z (.lst (fr++[.ref t]))) z us (fr++[.ref t]) (ps++[(x,y)]) (n+1):=by
 refine⟨aj,?_,λe d=>?_,by rw[w6];have:=h.l;show _+1<=_;omega,bu h.s f⟩
 ·rw[wZ];exact RepAll.append (aS (aN h.f But.upd) h.r) (.cons (aN h.f But.upd (bx c)) .nil)
 ·rcases w8.mp d with q | q
  ·exact h.i e q
  ·rw[xa.mp q];exact⟨b,a⟩
theorem Fnd.len (h:Fnd H H' q us fr ps n):fr.length<=n:=by
 have:=h.r.len;rw[wK] at this;have:=h.l;omega
abbrev wds:LS:=["first","last"]
theorem nH {i:Nat}(h:[V.str "first",V.str "last"][i]? = some x):∃q:Str,x=.str q/\wds[i]? = some q:=by
 have e:[V.str "first",V.str "last"]=List.map V.str wds:=rfl;rw[e] at h;obtain⟨q,a,b⟩:=bI h;exact⟨q,b.symm,a⟩
abbrev rm (c:LS) (wn:Prs) (w:Str):Prs:=(wL c wn w).flatMap (gA (decide (w="last")) c)
theorem qG (F:Fun K "_law_edges" "_law_edges" jB f fd) (B:Blt mg) (N:Cal P w K mg base 1 "_law_around" ["_law_knots"] cw) (J:Cal P w K mg base 2 "_law_parting" ["_law_around_here", "_law_one", "_law_other"] dv):FnOk P w K mg base CX0 3 f fd ["_law_house_here", "_law_knot"] eP := by
 refine F.ok scEdges (λvs H Q E h=>?_) (λi8 A g3 s H vs Q E hr h=>?_)
 ·obtain⟨q,us,ks,ts,ws,wn,g,c0,rfl,_⟩:=h
  rfl
 ·obtain⟨q, us, ks, ts, ws, wn, g, c0, rfl, R, T, h7, WX, a6, tl, wl, k⟩ := h;have h5:=WnX.ok T WX;have nd:=scEdges.nd;refine⟨_,(ae (ao (i:=2) nd rfl (Or.inr rfl) (af (ah K hr.units) (fW K rfl hr.units B (aa (af (ah K hr.units) (pv 0) ac (λ_ _=>rfl)) ab)) (pv 1) (λ_ _=>rfl)))
   (ae (ao (i:=3) nd rfl (Or.inl rfl) (ai N (hr.mono (by decide)) rfl (aa (af (ah K hr.units) (pv 0) ac (λ_ _=>rfl)) ab)))
   (ae (ao (i:=4) nd rfl (Or.inl rfl) (aQ ab))
   (ae (bL PassesOwn.never rfl (bH K (af (ah K hr.units) (pv 0) ac (λ_ _=>rfl))) (bN (n:=2) K rfl (aO (aA (i:=5) nd rfl (Or.inl rfl)) (aO (aA (i:=6) nd rfl (Or.inl rfl)) bS))) (ae (ao (i:=7) nd rfl (Or.inl rfl) (ai J (hr.mono (by decide)) rfl (aa (pv 3) (aa (pv 5) (aa (pv 6) ab)))))
   (ag (aU (PW.pt (cj (ak (aY hr.units) (af (ah K hr.units) (pv 7) ac (λ_ _=>rfl)) (pv 1) (aw _)) (bO (ak (bw K hr.units) (bq lB (pv 7) (bi ac) ce) (pv 4) (by with_unfolding_all rfl))))) (ag (bX (cT K (pv 4) (aa (bq lB (pv 7) (bi ac) ce) ab)))) aF))))
   (ae (bL PassesOwn.never rfl (bH K (aL (aa aR (aa aR ab)))) (aA (i:=8) nd rfl (Or.inr rfl)) (ag (bL PassesOwn.never rfl (be K (jY (am jB) ["_law_house_here","_law_knot","_law_some","_law_around_here","_law_found","_law_one","_law_other","_law_told","_law_word","_law_unit","_law_pair"] ["_law_sort","_law_unit"] [8,2] ["_law_sort","_law_unit","_law_word","_law_some"] rfl (bH K (af (ah K hr.units) (pv 0) ac (λ_ _=>rfl))) (λ_ _ _ _ _=>(bN (n:=2) K rfl (aO (aA (i:=0) (show (["_law_sort","_law_unit","_law_word","_law_some"]:LS).Nodup by decide) rfl (Or.inl rfl)) (aO (aA (i:=1) (show (["_law_sort","_law_unit","_law_word","_law_some"]:LS).Nodup by decide) rfl (Or.inl rfl)) bS)))) (λ_ _ _ _ _=>(cm (PW.pt (cj (ak (aY hr.units) (pv 0) (pv 2) (aw _)) (bO (ak (fH K hr.units) (pv 1) (pv 3) (by with_unfolding_all rfl))))))) (λ_ _ _ _ _=>(pv 1)))) (aA (i:=9) nd rfl (Or.inl rfl)) (ag (bL PassesOwn.never rfl (bH K (pv 2)) (aA (i:=6) nd rfl (Or.inl rfl)) (ae (ao (i:=10) nd rfl (Or.inl rfl) (af (ah K hr.units) (aQ (aa (aL (aa (pv 9) (aa (pv 6) ab))) (aa (aL (aa (pv 6) (aa (pv 9) ab))) ab))) (oy B (aa (eR (aY hr.units) (pv 8) aR (aw _)) ab)) (λ_ _=>rfl)))
   (ag (aU (PW.pt (cj (ak (cI hr.units) (pv 6) (pv 9) (aw _)) (bO (ak (bw K hr.units) (pv 10) (pv 4) (by with_unfolding_all rfl))))) (ag (bX (cT K (pv 4) (aa (pv 10) ab)))) aF))))))))
   (ag (av (pv 4)))))))),?_⟩
  have d5:∀ {O:List (Str × Str)},gF us O->∀e∈O,Nm e.1/\Nm e.2:=λh e he=>⟨T.nm _ (h e he).1,T.nm _ (h e he).2⟩
  have sz:200000<sizeLine:=by decide
  have i3:=T.len;obtain⟨q',a,b,c,d4,e0,hq,R1,R2,_,R4⟩:=bc R;cases e0;obtain⟨W,c8⟩:∃W:Str × LS,W=(g,c0):=⟨_,rfl⟩
  have g6:W.1=g:=by rw[c8]
  have h0:c0=W.2:=by rw[c8]
  rw[<- c8] at a6;rw[h0] at k;refine⟨_,rfl,.tup (.of hq) rfl (aB (dQ R1 T λD dk hD h9=>?_))⟩;obtain⟨la,f5,c7⟩:=h9 W a6;rw[g6] at f5;have s1:=Same.new (o:=.dK dk) hD;refine⟨_,rfl,.dic (.inl ⟨dk,.inr g,.inl aj,rfl,f5.symm⟩) ?_⟩;generalize upd H D (.dK dk)=H1 at s1 ⊢;refine⟨_,rfl,.tup (.of (s1 _ _ hq)) rfl ⟨a,us,ks,rfl,R1.same s1,T,λd d3 H2 s2 i6 hd ar=>?_⟩⟩;have g0:=s1.trans s2;refine⟨(by show 0<=sizeLine;decide),λlf c5=>?_⟩;have s3:=Same.new (o:=.lst []) c5;have b2:=g0.trans s3;have c2:H lf=none:=dn g0 c5;have g9:d≠lf:=aJ hd c5;have e4:Fnd H (upd H2 lf (.lst [])) lf us [] [] 0:=⟨aj,.nil,(λe he=>by cases he),wM _,b2⟩
  have f8:=s3 _ _ hd;generalize upd H2 lf (.lst [])=H3 at b2 e4 f8 ⊢;obtain⟨b',rb,e0,hb,d0⟩:=bo R2;cases e0;obtain⟨i9,h4,e0,f2,e7⟩:=bo R4;cases e0;have b0:=d0.len;have a9:=e7.len;rw[wK] at b0 a9;refine⟨_,rfl,.tup (.of (b2 _ _ hq)) rfl ⟨b,rfl,⟨_,.of (b2 _ _ hb)⟩,?_⟩⟩
  let e5:Nat->SH:=λi σ M=>∃(o5 Z o7:Option V) (G:LV) (O:List (Str × Str)),σ=[some (.ref q),some (.str g),some (.ref la),some (.ref d),some (.ref lf),o5,Z,o7,none,none,none]/\Fnd H M lf us G O i/\M d=some (.dK d3)/\O=bZ [] ((ts.take i).filterMap (fe ks g))
  refine dr (R:=Q) (xs:=rb) e5 ?_ ?_ ?_ ?_
  ·exact⟨none,none,none,[],[],rfl,e4,f8,rfl⟩
  ·rintro i σ M hi ⟨o5,Z,o7,G,O,rfl,l,_⟩;exact .of (l.s _ _ hb)
  ·rintro _ i x σ H4 hx ⟨o5, Z, o7, G, O, rfl, l, b7, a4⟩;obtain⟨e,ta,he,rfl,c6⟩:=bM d0 hx;have i7:=(wO.mp he).1;obtain⟨hu,hv,h6⟩:=h7 e (wP he);refine⟨ta,_,rfl,.of (l.s _ _ c6),rfl,_,_,rfl,_,_,rfl,rfl,?_⟩;refine⟨_,rfl,_,rfl,_,rfl,d,d3,us,ks,e.1,e.2,rfl,b7,ar,T,hu,hv,λy H5 s5 px=>?_⟩;cases hpo:bt ks e.1 e.2 with
   | none=>exact absurd hpo h6.1
   | some t3 =>
    obtain⟨kq,x1,y1⟩:=t3;rw[hpo] at px;obtain⟨t,rfl,ht⟩:=px;obtain⟨_,_,d1,d9,_⟩:=T.part hu hv hpo;have f7:=l.more s5 (wM _);have f3:=s5 _ _ b7;have eb:fe ks g e=if kq=g then some (x1,y1) else none:=by unfold fe;rw[hpo]
    have d6:(ts.take (i+1)).filterMap (fe ks g)=(ts.take i).filterMap (fe ks g)++(fe ks g e).toList:=by
     rw[xg,he,List.filterMap_append];cases h:fe ks g e <;> simp[h]
    have b1:bZ [] ((ts.take (i+1)).filterMap (fe ks g))=bZ O (if kq=g then some (x1,y1) else none:Option (Str × Str)).toList:=by rw[d6,eb,dm,<- a4]
    clear d6 eb;have b6:cX [V.str kq,V.str x1,V.str y1] (some 1) none=[V.str x1,V.str y1]:=rfl;refine⟨_,rfl,.tup (.of ht) rfl ⟨_,rfl,.sc rfl ⟨_,rfl,?_⟩⟩⟩;refine aD (λhq=>?_) (λhq=>?_)
    ·have hq:kq=g:=Classical.byContradiction λz=>by rw[if_neg (by decide),xi (λw=>z (V.str.inj w))] at hq;cases hq
     rw[if_pos hq] at b1;refine⟨_,rfl,_,rfl,t,_,rfl,.of ht,(λz=>absurd (show HT.sIx 3 0 (some 1)=0 from z.1) (by decide)),λt2 h8=>?_⟩;rw[b6];have s6:=Same.new (o:=.tup [V.str x1,V.str y1]) h8;have a5:=f7.more s6 (wM _);have d8:=a5.len;refine⟨_,rfl,.tr (d:=aK (x1,y1)) a5.f a5.r (bx aj) (cf (d5 a5.i)) (cJ ⟨T.nm _ d1,T.nm _ d9⟩) (by show 1<=16;decide) ⟨_,rfl,?_⟩⟩;have e6:=s6 _ _ ht;have c9:=s6 _ _ f3;generalize upd H5 t2 (.tup [V.str x1,V.str y1])=H6 at a5 e6 c9 ⊢;refine aD (λr=>?_) (λr=>?_)
     ·have r:=iC r;refine⟨_,rfl,.inl ⟨rfl,_,.of a5.f⟩,_,rfl,_,rfl,t,_,rfl,.of e6,(λz=>absurd (show HT.sIx 3 0 (some 1)=0 from z.1) (by decide)),λt7 g5=>?_⟩;rw[b6];have s7:=Same.new (o:=.tup [V.str x1,V.str y1]) g5;have d2:=a5.more s7 (wM _);refine aB ⟨lf,_,_,rfl,rfl,d2.f,by omega,?_⟩;exact⟨_,_,_,_,_,rfl,d2.app aj d1 d9 c2,by rw[az g9];exact s7 _ _ c9,by rw[b1];exact(if_neg r).symm⟩
     ·have r:=mQ r;exact⟨_,_,_,G,O,rfl,a5.more (Same.refl _) (by omega),c9,by rw[b1];exact(if_pos r).symm⟩
    ·have hq:kq≠g:=λz=>hq (by rw[if_neg (by decide),z,wQ rfl]);rw[if_neg hq] at b1;exact fu ⟨_,_,_,G,O,rfl,f7.more (Same.refl _) (by omega),f3,b1.symm⟩
  ·rintro σ H4 ⟨o5, Z, o7, G, O, rfl, l, _, a4⟩;rw[b0,xk (wM _)] at a4;refine⟨(by show 2<=sizeLine;decide),λtw i2=>?_⟩;have s5:=Same.new (o:=.tup [V.str "first",V.str "last"]) i2;have p:upd H4 tw (.tup [V.str "first",V.str "last"]) tw=some (.tup [V.str "first",V.str "last"]):=aj;have l:=l.more s5 (wM _);generalize upd H4 tw (.tup [V.str "first",V.str "last"])=H5 at p l ⊢;refine⟨tw,rfl,⟨_,.of p⟩,?_⟩;have f1:∀u∈W.2,u∈us:=λu hu=>T.isIn a6 hu;have i4:W.2.length<=60:=by
    have:=cO (cq T a6) f1;omega
   let e8:Nat->SH:=λi σ M=>∃(o5 Z o7 o8 o9 C:Option V) (G:LV) (O:List (Str × Str)),σ=[some (.ref q),some (.str g),some (.ref la),some (.ref d),some (.ref lf),o5,Z,o7,o8,o9,C]/\Fnd H M lf us G O (200+i * 7320)/\O=bZ (bZ [] (ts.filterMap (fe ks g))) ((wds.take i).flatMap (rm W.2 wn))/\M tw=some (.tup [V.str "first",V.str "last"])
   refine dr (R:=Q) (xs:=[V.str "first",V.str "last"]) e8 ?_ ?_ ?_ ?_
   ·exact⟨_,_,_,_,_,_,G,O,rfl,l.more (Same.refl _) (by omega),a4,p⟩
   ·rintro i σ M hi ⟨o5,Z,o7,o8,o9,C,G,O,rfl,_,_,p⟩;exact .of p
   ·rintro _ i x σ H6 hx ⟨o5, Z, o7, o8, o9, C, G, O, rfl, l, a4, p⟩;have j1:i<2:=(wO.mp hx).1;obtain⟨X,rfl,g2⟩:=nH hx;have d7:=l.f;refine⟨_,rfl,.tup (.of (l.s _ _ hq)) rfl ⟨d4,rfl,⟨_,.of (l.s _ _ f2)⟩,?_⟩⟩;refine dC h4 (λD2 j b5 b3 M=>∃(o0 o1:Option V) (zs:LS),b3=[o0,o1,some (.str X),some (.ref la)]/\b5=List.map V.str zs/\zs=wL W.2 (wn.take j) X/\zs.length<=j/\Same H6 M/\H6 D2=none) λD2 g1=>⟨?_,?_,?_,?_⟩
    ·exact⟨none,none,[],rfl,rfl,rfl,wM _,Same.new g1,g1⟩
    ·rintro j b5 b3 M _ ⟨o0,o1,zs,rfl,_,_,_,sm,_⟩ _;exact .of (sm _ _ (l.s _ _ f2))
    ·rintro j b5 b3 M v hv ⟨o0, o1, zs, rfl, rfl, a8, zl, sm, Y⟩ U;obtain⟨e,ta,he,rfl,c6⟩:=bM e7 hv;have g4:=(wO.mp he).1;have sH:=l.s.trans sm;refine⟨ta,_,rfl,.of (sH _ _ c6),rfl,_,_,rfl,_,_,rfl,rfl,?_⟩;have a7:wL W.2 (wn.take (j+1)) X=wL W.2 (wn.take j) X++(if (decide (e.1=X)&&decide (e.2∈W.2))=true then [e.2] else []):=by
      unfold wL;rw[xg,he,yb,wZ];congr 1;show List.map _ (List.filter _ [e])=_;rw[List.filter_cons,List.filter_nil]
      split <;> rfl
     refine⟨_,rfl,_,rfl,.sc rfl ⟨_,rfl,?_⟩⟩;refine aD (λhw=>?_) (λhw=>fu ?_)
     ·have hw:e.1=X:=Classical.byContradiction λz=>by rw[if_neg (by decide),xi (λw=>z (V.str.inj w))] at hw;cases hw
      rw[wQ hw,Bool.true_and] at a7;refine⟨_,rfl,_,rfl,.seq (.inr (.of (sH _ _ c7))) rfl (bp _) ⟨_,rfl,?_⟩⟩;rw[if_neg (show ¬ false=true by decide),dZ];refine aD (λhc=>?_) (λhc=>?_)
      ·rw[if_pos hc] at a7;exact⟨_,rfl,U,by rw[wK];exact aH (by omega),_,_,zs++[e.2],rfl,by rw[wZ];rfl,by rw[a7,<- a8],by rw[w6];show _+1<=_;omega,bu sm Y,Y⟩
      ·rw[if_neg hc,xH] at a7;exact⟨U,_,_,zs,rfl,rfl,by rw[a7];exact a8,by omega,sm,Y⟩
     ·have hw:e.1≠X:=λz=>hw (by rw[if_neg (by decide),z,wQ rfl]);rw[xi hw,Bool.false_and,if_neg (by decide),xH] at a7;exact⟨U,_,_,zs,rfl,rfl,by rw[a7];exact a8,by omega,sm,Y⟩
    ·rintro b5 b3 H7 ⟨o0, o1, zs, rfl, rfl, c3, zl, sm, Y⟩ U;rw[a9,xk (wM _)] at c3;have a8:∀z∈zs,z∈us:=λz hz=>by
      rw[c3] at hz;unfold wL at hz;obtain⟨e,he,rfl⟩:=wX.mp hz;exact(h5 e (xn.mp he).1).2
     have l:=l.more sm (wM _);have p:=sm _ _ p;have g8:D2≠lf:=Ne.symm (aJ d7 Y);refine⟨D2,rfl,⟨_,.of U⟩,?_⟩;have i5:zs.length<=122:=by omega
     let e9:Nat->SH:=λj σ M=>∃(Z o9 C:Option V) (G:LV) (a0:List (Str × Str)),σ=[some (.ref q),some (.str g),some (.ref la),some (.ref d),some (.ref lf),o5,Z,o7,some (.str X),o9,C]/\Fnd H M lf us G a0 (200+i * 7320+j * 60)/\a0=bZ O ((zs.take j).flatMap (gA (decide (X="last")) W.2))/\M tw=some (.tup [V.str "first",V.str "last"])/\M D2=some (.lst (List.map V.str zs))
     refine dJ (R:=Q) (xs:=List.map V.str zs) e9 ?_ ?_ ?_ ?_
     ·exact⟨_,_,_,G,O,rfl,l.more (Same.refl _) (by omega),rfl,p,U⟩
     ·rintro j σ M hj ⟨Z,o9,C,G,a0,rfl,_,_,_,I⟩;exact .of I
     ·rintro _ j x σ H8 hx ⟨Z, o9, C, G, a0, rfl, l, a3, p, I⟩;obtain⟨S,c4,rfl⟩:=bI hx;have g4:=(wO.mp c4).1;have b8:=a8 S (wP c4);refine⟨_,rfl,la,rfl,⟨_,.of (l.s _ _ c7)⟩,?_⟩
      let f6:Nat->SH:=λm σ M=>∃(Z C:Option V) (G:LV) (a1:List (Str × Str)),σ=[some (.ref q),some (.str g),some (.ref la),some (.ref d),some (.ref lf),o5,Z,o7,some (.str X),some (.str S),C]/\Fnd H M lf us G a1 (200+i * 7320+j * 60+m)/\a1=bZ a0 (gA (decide (X="last")) (W.2.take m) S)/\M tw=some (.tup [V.str "first",V.str "last"])/\M D2=some (.lst (List.map V.str zs))
      refine dr (R:=Q) (xs:=W.2.map V.str) f6 ?_ ?_ ?_ ?_
      ·exact⟨_,_,G,a0,rfl,l,rfl,p,I⟩
      ·rintro m σ M hm ⟨Z,C,G,a1,rfl,l,_⟩;exact .of (l.s _ _ c7)
      ·rintro _ m y σ H9 hy ⟨Z, C, G, a1, rfl, l, L, p, I⟩;obtain⟨ot,c1,rfl⟩:=bI hy;have j0:=(wO.mp c1).1;have b9:=f1 ot (wP c1);refine⟨_,rfl,_,rfl,(by show 2<=sizeLine;decide),λt1 h1=>?_⟩;have sA:=Same.new (o:=.tup [V.str S,V.str ot]) h1;have e1:upd H9 t1 (.tup [V.str S,V.str ot]) t1=some (.tup [V.str S,V.str ot]):=aj;generalize upd H9 t1 (.tup [V.str S,V.str ot])=HA at sA e1 ⊢;refine⟨_,rfl,_,rfl,(by show 2<=sizeLine;decide),λt2 h2=>?_⟩;have sB:=Same.new (o:=.tup [V.str ot,V.str S]) h2;have e2:upd HA t2 (.tup [V.str ot,V.str S]) t2=some (.tup [V.str ot,V.str S]):=aj;have e1:=sB _ _ e1;have b4:=sA.trans sB;generalize upd HA t2 (.tup [V.str ot,V.str S])=HB at b4 e1 e2 ⊢;refine⟨(by show 2<=sizeLine;decide),λl3 h3=>?_⟩;have sC:=Same.new (o:=.lst [V.ref t1,V.ref t2]) h3;have e3:upd HB l3 (.lst [V.ref t1,V.ref t2]) l3=some (.lst [V.ref t1,V.ref t2]):=aj;have e1:=sC _ _ e1;have e2:=sC _ _ e2;have l:=l.more (b4.trans sC) (wM _);have p:=(b4.trans sC) _ _ p;have I:=(b4.trans sC) _ _ I;generalize upd HB l3 (.lst [V.ref t1,V.ref t2])=HC at e1 e2 e3 l p I ⊢;refine⟨_,rfl,.sc rfl ⟨_,rfl,.bl ?_⟩⟩;obtain⟨tp,x2,y2,g7,f0,f9,f4,i1⟩:∃tp x2 y2,atI [V.ref t1,V.ref t2] (if (if false=true then !decide (V.str X=V.str "last") else decide (V.str X=V.str "last"))=true then 1 else 0)=some (.ref tp)/\HC tp=some (.tup [V.str x2,V.str y2])/\x2∈us/\y2∈us/\(x2,y2)=(if (decide (X="last"))=true then (ot,S) else (S,ot)):=by
        have i0:(if false=true then !decide (V.str X=V.str "last") else decide (V.str X=V.str "last"))=decide (X="last"):=by
         rw[if_neg (by decide),xp,decide_eq_true_iff,decide_eq_true_iff];exact⟨λz=>V.str.inj z,λz=>by rw[z]⟩
        rw[i0];by_cases hb:decide (X="last")=true
        ·rw[if_pos hb,if_pos hb];exact⟨t2,ot,S,rfl,e2,b9,b8,rfl⟩
        ·rw[if_neg hb,if_neg hb];exact⟨t1,S,ot,rfl,e1,b8,b9,rfl⟩
       refine .lst (.of e3) g7 ?_;have d8:=l.len;have a2:gA (decide (X="last")) (W.2.take (m+1)) S=gA (decide (X="last")) (W.2.take m) S++(if ot=S then [] else [(x2,y2)]):=by
        unfold gA;rw[xg,c1,yb,wZ];congr 1;show List.map _ (List.filter _ [ot])=_;rw[List.filter_cons,List.filter_nil,i1];by_cases hz:ot=S
        ·rw[if_neg (by simpa using hz),if_pos hz];rfl
        ·rw[if_pos (by simpa using hz),if_neg hz];rfl
       refine⟨_,rfl,_,rfl,.sc rfl ⟨_,rfl,?_⟩⟩;refine aD (λhz=>?_) (λhz=>fu ?_)
       ·have hz:ot≠S:=λz=>by rw[if_pos rfl,z,wQ rfl] at hz;cases hz
        rw[if_neg hz] at a2;refine⟨_,rfl,_,rfl,.tr (d:=aK (x2,y2)) l.f l.r (bx f0) (cf (d5 l.i)) (cJ ⟨T.nm _ f9,T.nm _ f4⟩) (by show 1<=16;decide) ⟨_,rfl,?_⟩⟩;refine aD (λr=>?_) (λr=>?_)
        ·have r:=iC r;refine⟨_,rfl,.inl ⟨rfl,_,.of l.f⟩,_,rfl,aB ⟨lf,_,_,rfl,rfl,l.f,by omega,?_⟩⟩;exact⟨_,_,_,_,rfl,l.app f0 f9 f4 c2,by rw[a2,dm,<- L];exact(if_neg r).symm,by rw[az (cC p l.f (by intro z;cases z))];exact p,by rw[az g8];exact I⟩
        ·have r:=mQ r;exact⟨_,_,G,a1,rfl,l.more (Same.refl _) (by omega),by rw[a2,dm,<- L];exact(if_pos r).symm,p,I⟩
       ·have hz:ot=S:=Classical.byContradiction λz=>hz (by rw[if_pos rfl,xi (λw=>z (V.str.inj w))];rfl);rw[if_pos hz,xH] at a2;exact⟨_,_,G,a1,rfl,l.more (Same.refl _) (by omega),by rw[a2];exact L,p,I⟩
      ·rintro σ H9 ⟨Z,C,G,a1,rfl,l,L,p,I⟩;rw[wK] at l L;rw[xk (wM _)] at L;refine⟨_,_,_,G,a1,rfl,l.more (Same.refl _) (by omega),?_,p,I⟩;rw[xg,c4,List.flatMap_append,dm,<- a3,L];congr 1;simp
     ·rintro σ H8 ⟨Z,o9,C,G,a0,rfl,l,a3,p,I⟩;rw[wK] at l a3;rw[xk (wM _)] at a3;refine⟨_,_,_,_,_,_,G,a0,rfl,l.more (Same.refl _) (by omega),?_,p⟩;rw[xg,g2,List.flatMap_append,dm,<- a4,a3,c3];congr 1;simp
   ·rintro σ M ⟨o5,Z,o7,o8,o9,C,G,O,rfl,l,a4,_⟩;have cn:=cq T a6;have ev:O=cL ks ts wn g W.2:=by
     rw[a4];unfold cL;rw[dm,pX T WX a6 cn (.inl rfl),pX T WX a6 cn (.inr rfl)];show bZ _ (rm W.2 wn "first"++(rm W.2 wn "last"++[]))=_;rw[xH]
     rfl
    have h2:=l.l;have h3:([V.str "first",V.str "last"]:LV).length=2:=rfl;subst ev;exact⟨_,rfl,k lf G M l.s c2 l.f l.r (by omega) l.i⟩
def WsR (ks:Kn) (ts wn ws:Prs):Prop:=∀e∈ws,∃k∈ks,∃x y,bt ks e.1 e.2=some (k.1,x,y)/\x∈k.2/\y∈k.2/\MG.Rch (Tie (cL ks ts wn k.1 k.2)) y x
def kW (K:W.Frag):Sp:=λvs H Q _=>∃(p a q un:Addr) (us:LS) (ks:Kn) (ts ws wn:List (Str × Str)),vs=[.ref p,.ref q,.ref un]/\Pen K H p a/\Rep H (.ref q) (aZ ks ts ws wn)/\Tre us ks/\cV us ks ts/\WnX ks wn/\ts.length<=200/\wn.length<=122/\H un=some (.lst (List.map V.str us))/\un≠p /\
 ∀(l:Addr) (refs:LV) (ps:List (Str × Str)) (H':Hp),H' l=some (.lst refs)->RepAll H' refs (ps.map aK)->gF us ps->ps.Nodup->WsR ks ts wn ps->ps.length<=6->l≠p->PenV H' p a->But p H H'->Q (.ref l) H'
theorem scWaiting:FnScope ["_law_pen_here","_law_house_here","_law_units","_law_found","_law_k","_law_pair","_law_told"] ["_law_pen_here","_law_house_here","_law_units"] (am jc):=⟨rfl,rfl,rfl,by decide +kernel,rfl,by decide +kernel,by decide +kernel⟩
theorem nP (F:Fun K "_law_waiting" "_law_waiting" jc f fd) (B:Blt mg) (c:Cal P w K mg base 1 "_law_draw" ["_law_pen_here", "_law_most"] (ci K)) (n:Cal P w K mg base 1 "_law_around" ["_law_knots"] cw) (l:Cal P w K mg base 2 "_law_parting" ["_law_around_here", "_law_one", "_law_other"] dv) (u:Cal P w K mg base 3 "_law_edges" ["_law_house_here", "_law_knot"] eP) (m:Cal P w K mg base 1 "_law_reached" ["_law_edges_here", "_law_one"] gU) :
    FnOk P w K mg base CX0 4 f fd ["_law_pen_here","_law_house_here","_law_units"] (kW K):=by
 refine F.ok scWaiting (λvs H Q E h=>?_) (λj0 A g0 s H vs Q E j h=>?_)
 ·obtain⟨p,a,q,un,g,ks,ts,ws,wn,rfl,_⟩:=h
  rfl
 ·obtain⟨p, a, q, un, g, ks, ts, ws, wn, rfl, hP, R, T, f1, g4, tl, wl, a0, Z, k⟩ := h;have nd:=scWaiting.nd;have v0:=hP.2;obtain⟨i3,f3⟩:=aV v0;have d0:=T.len;have L:(List.map V.str g).length=g.length:=wK ..;refine⟨_,(ae (ao (i:=3) nd rfl (Or.inl rfl) (aQ ab))
   (ae (bL PassesOwn.never rfl (dq rfl B.range (aa (jK rfl B (aa (aW K B (aa (pv 2) ab)) (aa (ai c (j.mono (by decide)) rfl (aa (pv 0) (aa ac ab))) ab))) ab)) (aA (i:=4) nd rfl (Or.inl rfl)) (ae (ao (i:=5) nd rfl (Or.inl rfl) (aL (aa (af (ah K j.units) (pv 2) (ai c (j.mono (by decide)) rfl (aa (pv 0) (aa (aW K B (aa (pv 2) ab)) ab))) (λ_ _=>rfl)) (aa (af (ah K j.units) (pv 2) (ai c (j.mono (by decide)) rfl (aa (pv 0) (aa (aW K B (aa (pv 2) ab)) ab))) (λ_ _=>rfl)) ab))))
   (ae (aU (PW.pt (cj (ak gX (aW K B (aa (af (ah K j.units) (pv 1) ac (λ_ _=>rfl)) ab)) ac (aw _)) (bO (ak (aY j.units) (ai c (j.mono (by decide)) rfl (aa (pv 0) (aa ac ab))) ac (aw _))))) (ag (ao (i:=5) nd rfl (Or.inl rfl) (uj K (af (ah K j.units) (af (ah K j.units) (pv 1) ac (λ_ _=>rfl)) (ai c (j.mono (by decide)) rfl (aa (pv 0) (aa (aW K B (aa (af (ah K j.units) (pv 1) ac (λ_ _=>rfl)) ab)) ab))) (λ_ _=>rfl)) (bi (dN de ac))))) aF)
   (ae (ao (i:=6) nd rfl (Or.inl rfl) (ai l (j.mono (by decide)) rfl (aa (ai n (j.mono (by decide)) rfl (aa (af (ah K j.units) (pv 1) ac (λ_ _=>rfl)) ab)) (aa (af (ah K j.units) (pv 5) ac (λ_ _=>rfl)) (aa (af (ah K j.units) (pv 5) ac (λ_ _=>rfl)) ab)))))
   (ag (aU (PW.pt (cj (ak gu (pv 6) bj (aw _)) (bO (ak (bw K j.units) (pv 5) (pv 3) (by with_unfolding_all rfl))))) (ag (aU (ak (fH K j.units) (af (ah K j.units) (pv 6) ac (λ_ _=>rfl)) (ai m (j.mono (by decide)) rfl (aa (ai u (j.mono (by decide)) rfl (aa (pv 1) (aa (af (ah K j.units) (pv 6) ac (λ_ _=>rfl)) ab))) (aa (af (ah K j.units) (pv 6) ac (λ_ _=>rfl)) ab))) (by with_unfolding_all rfl)) (ag (bX (cT K (pv 3) (aa (pv 5) ab)))) aF)) aF))))))
   (ag (av (pv 3))))),?_⟩
  refine⟨(by show 0<=sizeLine;decide),λD a5=>?_⟩;have a3:D≠p:=Ne.symm (v0.ne a5);have b1:But p H (upd H D (.lst [])):=(But.refl p H).at a5;have v1:PenV (upd H D (.lst [])) p a:=v0.upd (v0.ne a5);have e1:upd H D (.lst []) D=some (.lst []):=aj;generalize upd H D (.lst [])=H1 at b1 v1 e1 ⊢;refine⟨_,rfl,_,_,rfl,Or.inl ⟨_,.of (b1 un _ Z a0),rfl⟩,_,rfl,p,a,6,rfl,hP.but b1 v1,by decide,by decide,λr H2 j5 i8 v2 e2=>⟨_,_,rfl,_,rfl,?_⟩⟩;rw[L];obtain⟨cn,f7,i6⟩:∃cn:Nat,(if r<((g.length:Nat):Int) then r else ((g.length:Nat):Int))=(cn:Int)/\cn<=6/\cn<=g.length:=by
   split
   ·exact⟨r.toNat,by omega,by omega,by omega⟩
   ·exact⟨g.length,rfl,by omega,wM _⟩
  rw[f7];refine⟨by omega,by omega,?_⟩;rw[show ((cn:Nat):Int).toNat=cn from rfl];have f0:=But.of_eq e2;have b2:=b1.trans f0
  let d7:Nat->SH:=λi σ G=>∃(o4 o5 o6:Option V) (Y:LV) (C:List (Str × Str)),σ=[some (.ref p),some (.ref q),some (.ref un),some (.ref D),o4,o5,o6]/\G D=some (.lst Y)/\RepAll G Y (C.map aK)/\gF g C/\C.Nodup/\WsR ks ts wn C/\C.length<=i/\PenV G p a/\But p H G
  refine gZ (R:=Q) d7 ?_ ?_ ?_
  ·exact⟨none,none,none,[],[],rfl,f0 D _ a3 e1,.nil,(λe X=>by cases X),List.nodup_nil,(λe X=>by cases X),wM _,v2,b2⟩
  ·rintro _ i σ H3 hi ⟨o4, o5, o6, Y, C, rfl, c3, a9, S, a8, a6, h8, v3, b3⟩;have hi:i<cn:=hi;have i1:0<g.length:=by omega
   obtain⟨i4,g5⟩:=aV v3;have g3:∀e∈C,Nm e.1/\Nm e.2:=λe X=>⟨T.nm _ (S e X).1,T.nm _ (S e X).2⟩
   have d4:=a9.len;rw[wK] at d4;have e3:∀G,But p H3 G->G D=some (.lst Y)/\RepAll G Y (C.map aK):=λG b=>⟨b D _ a3 c3,aS (aN g5 b) a9⟩
   apply dF (J:=λσ HZ=>∃(t:Addr) (x y:Str),σ=[some (.ref p),some (.ref q),some (.ref un),some (.ref D),some (.int (0+(i:Nat):Int)),some (.ref t),o6]/\x∈g/\y∈g/\HZ t=some (.tup [.str x,.str y])/\PenV HZ p a/\But p H3 HZ)
   ·intro aM;refine⟨_,rfl,_,rfl,_,rfl,_,_,rfl,Or.inl ⟨_,.of (b3 un _ Z a0),rfl⟩,p,a,_,rfl,hP.but b3 v3,by rw[L];omega,by rw[L];omega,λr4 H4 g8 h7 v4 e4=>?_⟩;have f4:=But.of_eq e4;have b4:=b3.trans f4;obtain⟨j1,rfl⟩:=xj g8;rw[L] at h7;have d3:j1<g.length:=by omega
    refine .lst (.of (b4 un _ Z a0)) (eU d3) ⟨_,rfl,_,rfl,_,rfl,_,_,rfl,Or.inl ⟨_,.of (b4 un _ Z a0),rfl⟩,p,a,_,rfl,hP.but b4 v4,by rw[L];omega,by rw[L];omega,λr5 H5 h1 f6 v5 e5=>?_⟩;have f2:=f4.trans (But.of_eq e5);have b5:=b3.trans f2;obtain⟨j2,rfl⟩:=xj h1;rw[L] at f6;have d6:j2<g.length:=by omega
    refine .lst (.of (b5 un _ Z a0)) (eU d6) ⟨(by show 2<=sizeLine;decide),λt ht=>?_⟩;have s6:=Same.new (o:=.tup [V.str (g.getD j1 ""),V.str (g.getD j2 "")]) ht;have e6:upd H5 t (.tup [V.str (g.getD j1 ""),V.str (g.getD j2 "")]) t=some (.tup [V.str (g.getD j1 ""),V.str (g.getD j2 "")]):=aj;have v6:=ap s6 v5;have M:=f2.trans (But.of_same (p:=p) s6);have hx:=bW d3;have hy:=bW d6;generalize upd H5 t (.tup [V.str (g.getD j1 ""),V.str (g.getD j2 "")])=H6 at e6 v6 M ⊢;have b6:=b3.trans M;obtain⟨q',a1,g9,c1,d1,e0,a2,R1,R2,_⟩:=bc (aI f3 b6 R);cases e0;obtain⟨i0,rb,e0,c0,c7⟩:=bo R2;cases e0;have c2:=c7.len;rw[wK] at c2;refine⟨_,rfl,.tup (.of a2) rfl (aB ⟨_,_,rfl,Or.inr ⟨_,.of c0,rfl⟩,_,_,rfl,rfl,_,rfl,?_⟩)⟩;refine aD (λh=>?_) (λ_=>fu ?_)
    ·have h:(0:Int)<((rb.length:Nat):Int):=xf h;refine⟨_,rfl,p,a,2,rfl,hP.but b6 v6,by decide,by decide,λr7 H7 i5 j7 v7 e7=>.sc rfl ⟨_,rfl,?_⟩⟩;have W:=But.of_eq e7;have c5:=M.trans W;have b7:=b3.trans c5;obtain⟨j8,O⟩:=aV v6;refine aD (λ_=>?_) (λ_=>?_)
     ·refine⟨_,rfl,.tup (.of (aP O W a2)) rfl ⟨_,rfl,_,rfl,.tup (.of (aP O W a2)) rfl (aB ⟨_,_,rfl,Or.inr ⟨_,.of (aP O W c0),rfl⟩,aB ⟨p,a,_,rfl,hP.but b7 v7,by omega,by omega,λr8 H8 f9 j4 v8 e8=>?_⟩⟩)⟩⟩;obtain⟨i9,j6⟩:=aV v7;have d9:=But.of_eq e8;have d2:=W.trans d9;have h3:=c5.trans d9;obtain⟨j3,rfl⟩:=xj f9;obtain⟨z,hz⟩:∃z,rb[j3]? = some z:=⟨_,wS (by omega)⟩
      obtain⟨e,te,X,rfl,f8⟩:=bM c7 hz;have c9:=f1 e (wP X);refine .tup (.of (aP O d2 c0)) (bf hz) ⟨_,rfl,_,rfl,te,_,_,rfl,rfl,.of (aP O d2 f8),λt9 h5=>?_⟩;have s9:=Same.new (o:=.tup [V.str e.2,V.str e.1]) h5;dsimp only[cg];exact aM _ _ ⟨t9,e.2,e.1,rfl,c9.2.1,c9.1,aj,ap s9 v8,h3.trans (But.of_same (p:=p) s9)⟩
     ·exact aM _ _ ⟨t,_,_,rfl,hx,hy,aP O W e6,v7,c5⟩
    ·exact aM _ _ ⟨t,_,_,rfl,hx,hy,e6,v6,M⟩
   ·rintro σ H6 ⟨t, x, y, rfl, hx, hy, a4, v6, M⟩;have b6:=b3.trans M;have R6:=aI f3 b6 R;obtain⟨c6,c4⟩:=e3 H6 M;obtain⟨q',a1,g9,c1,d1,e0,a2,R1,R2,_⟩:=bc R6;cases e0;refine⟨_,rfl,.tup (.of a2) rfl (aB ⟨a1,g,ks,rfl,R1,T,λd g1 H7 s7 i7 hd ar=>?_⟩)⟩;refine⟨_,rfl,.tup (.of (s7 _ _ a4)) rfl ⟨_,rfl,.tup (.of (s7 _ _ a4)) rfl (aB ⟨d,g1,g,ks,x,y,rfl,hd,ar,T,hx,hy,λv H8 s8 px=>?_⟩)⟩⟩;have I:=s7.trans s8;have b0:∀G (o:V),Same H6 G->∃(o4 o5 o6:Option V) (Y:LV) (C:List (Str × Str)),[some (V.ref p),some (V.ref q),some (V.ref un),some (V.ref D),some (.int (0+(i:Nat):Int)),some (.ref t),some o]=[some (V.ref p),some (.ref q),some (.ref un),some (.ref D),o4,o5,o6]/\G D=some (.lst Y)/\RepAll G Y (C.map aK)/\gF g C/\C.Nodup/\WsR ks ts wn C/\C.length<=i+1/\PenV G p a/\But p H G:=λG o s =>
     ⟨_,_,_,Y,C,rfl,s _ _ c6,c4.same s,S,a8,a6,by omega,ap s v6,b6.trans (But.of_same (p:=p) s)⟩
    refine⟨_,rfl,.non ⟨_,rfl,?_⟩⟩;cases hpo:bt ks x y with
    | none =>
     rw[hpo] at px;cases px;exact fu (fu (b0 H8 _ I))
    | some t3 =>
     obtain⟨kq,x1,y1⟩:=t3;rw[hpo] at px;obtain⟨tt,rfl,b8⟩:=px;obtain⟨e9,g2,c8,d5,_⟩:=T.part hx hy hpo;refine vf ?_;refine⟨_,rfl,_,rfl,.tr (d:=aK (x,y)) (I _ _ c6) (c4.same I) (bx (I _ _ a4)) (cf g3) (cJ ⟨T.nm _ hx,T.nm _ hy⟩) (by show 1<=16;decide) ⟨_,rfl,?_⟩⟩;refine aD (λh4=>?_) (λ_=>?_)
     ·obtain⟨kk, f5, d8⟩ := wX.mp (T.par_in c8).2;rw[e9] at d8;have N:(kq,kk.2)∈ks:=by rw[<- d8];exact f5
      refine⟨_,rfl,.tup (.of b8) rfl ⟨_,rfl,_,rfl,.tup (.of b8) rfl (aB ⟨q,g,ks,ts,ws,wn,kq,kk.2,rfl,R6.same I,T,f1,g4,N,tl,wl,λle re H9 s9 h9 h0 g6 _ h2=>?_⟩)⟩⟩;refine⟨_,rfl,.tup (.of (s9 _ _ b8)) rfl (aB ⟨le,re,g,_,y1,rfl,h0,g6,h2,d5,d0,λlr fs HA sA i2 g7 h6 _=>?_⟩)⟩;have U:=(I.trans s9).trans sA;refine .seq (.inl (.of g7)) rfl (bp _) ⟨_,rfl,?_⟩;rw[dZ];refine aD (λb9=>?_) (λ_=>?_)
      ·have b9:x1 ∈ fs := by simpa using b9
       have a7:=U _ _ c6;refine⟨_,rfl,.inl ⟨rfl,_,.of a7⟩,_,rfl,aB ⟨D,_,_,rfl,rfl,a7,aH (by omega),?_⟩⟩;refine⟨_,_,_,Y++[.ref t],C++[(x,y)],rfl,aj,?_,λe X=>?_,jx a8 (iC h4),λe X=>?_,by rw[w6];show _+1<=_;omega,(ap U v6).upd (Ne.symm a3),(b6.trans (But.of_same (p:=p) U)).at a5⟩
       ·rw[wZ];exact RepAll.append (aS (aN a7 But.upd) (c4.same U)) (.cons (aN a7 But.upd (bx (U _ _ a4))) .nil)
       ·rcases w8.mp X with w | w
        ·exact S e w
        ·rw[xa.mp w];exact⟨hx,hy⟩
       ·rcases w8.mp X with w | w
        ·exact a6 e w
        ·rw[xa.mp w];refine⟨(kq,kk.2),N,x1,y1,hpo,T.kid c8 (by rw[e9];exact N),T.kid d5 (by rw[g2];exact N),(h6 x1).mp b9⟩
      ·exact b0 HA _ U
     ·exact b0 H8 _ I
  ·rintro σ H3 ⟨o4,o5,o6,Y,C,rfl,c3,a9,S,a8,a6,h8,v3,b3⟩;exact⟨_,rfl,k D Y C H3 c3 a9 S a8 a6 (by omega) a3 v3 b3⟩
def nB (K:W.Frag):Sp:=λvs H Q _=>∃(p a un:Addr) (us:LS) (dp:Int),vs=[.ref p,.ref un,.int dp]/\Pen K H p a/\H un=some (.lst (List.map V.str us))/\un≠p/\us.Nodup/\(∀u∈us,Nm u)/\us.length<=60/\0<=dp /\
 ∀(q:Addr) (ks:Kn) (ts ws wn:List (Str × Str)) (H':Hp),Rep H' (.ref q) (aZ ks ts ws wn)->Tre us ks->(ks.map (·.1)).head? = some ("":Str)->Dpt ks dp->cV us ks ts->ts.Nodup->gF us ws->ws.Nodup->WsR ks ts wn ws->WnX ks wn->(∀e∈wn,∃k∈ks,FX k e)->ts.length<=40->ws.length<=6->wn.length<=122->PenV H' p a->But p H H'->Q (.ref q) H'
theorem scHouse:FnScope ["_law_pen_here","_law_units","_law_deep","_law_knots","_law_wants_here","_law_ties","_law_house_here"] ["_law_pen_here","_law_units","_law_deep"] (am mh):=⟨rfl,rfl,rfl,by decide +kernel,rfl,by decide +kernel,by decide +kernel⟩
theorem qQ (F:Fun K "_law_house" "_law_house" mh f fd) (B:Blt mg) (l:Cal P w K mg base 1 "_law_draw" ["_law_pen_here", "_law_most"] (ci K)) (j:Cal P w K mg base 2 "_law_tree" ["_law_pen_here", "_law_names_here", "_law_deep"] (qw K)) (c:Cal P w K mg base 2 "_law_wants" ["_law_pen_here", "_law_knots"] (nj K)) (d:Cal P w K mg base 3 "_law_kept" ["_law_pen_here", "_law_knots", "_law_units", "_law_many"] (qy K)) (b:Cal P w K mg base 4 "_law_waiting" ["_law_pen_here", "_law_house_here", "_law_units"] (kW K)) :
    FnOk P w K mg base CX0 5 f fd ["_law_pen_here","_law_units","_law_deep"] (nB K):=by
 refine F.ok scHouse (λvs H Q E h=>?_) (λf1 A c5 s H vs Q E hr h=>?_)
 ·obtain⟨p,a,L,q,dp,rfl,_⟩:=h
  rfl
 ·obtain⟨p,a,L,q,dp,rfl,S,u,m,c4,e6,a1,d5,k⟩:=h;have nd:=scHouse.nd;have v0:=S.2;have d9:(List.map V.str q).length=q.length:=wK ..;refine⟨_,(ae (ao (i:=3) nd rfl (Or.inl rfl) (ai j (hr.mono (by decide)) rfl (aa (pv 0) (aa (pv 1) (aa (pv 2) ab)))))
   (ae (ao (i:=4) nd rfl (Or.inl rfl) (ai c (hr.mono (by decide)) rfl (aa (pv 0) (aa (pv 3) ab))))
   (ae (ao (i:=5) nd rfl (Or.inl rfl) (ai d (hr.mono (by decide)) rfl (aa (pv 0) (aa (pv 3) (aa (pv 1) (aa (ai l (hr.mono (by decide)) rfl (aa (pv 0) (aa (aG aT (jK rfl B (aa ac (aa (aG fG ac (aW K B (aa (pv 1) ab))) ab))) ac) ab))) ab))))))
   (ae (ao (i:=6) nd rfl (Or.inl rfl) (aL (aa (pv 3) (aa (dg K B (aa (pv 5) ab)) (aa (aL ab) (aa (dg K B (aa (pv 4) ab)) ab))))))
   (ag (av (aL (aa (pv 3) (aa (dg K B (aa (pv 5) ab)) (aa (dg K B (aa (ai b (hr.mono (by decide)) rfl (aa (pv 0) (aa (pv 6) (aa (pv 1) ab)))) ab)) (aa (dg K B (aa (pv 4) ab)) ab))))))))))),?_⟩
  refine⟨_,rfl,_,rfl,_,rfl,p,a,L,q,dp,rfl,S,u,m,c4,e6,a1,d5,λR ks H1 R1 T d6 d4 v1 b1=>?_⟩;refine⟨_,rfl,_,rfl,p,a,R,q,ks,rfl,S.but b1 v1,R1,T,λlw rw wn H2 c3 c9 a7 e0 wl a3 v2 b6=>?_⟩;have b2:=b1.trans b6;obtain⟨f5,a0⟩:=aV v1;obtain⟨f2,d2⟩:=aV v2;refine⟨_,rfl,_,rfl,_,rfl,_,rfl,_,rfl,_,_,rfl,Or.inl ⟨_,.of (b2 L _ m u),rfl⟩,_,_,rfl,rfl,.inl ⟨by decide,by decide⟩,_,_,rfl,.int ?_⟩;rw[d9];obtain⟨Y,e4,e7⟩:∃Y:Nat,(if 2 * ((q.length:Nat):Int)<40 then 2 * ((q.length:Nat):Int) else 40)+1=(Y:Int)/\1<=Y/\Y<=41/\Y<=2 * q.length+1:=by
   split
   ·exact⟨2 * q.length+1,by omega,by omega,by omega,by omega⟩
   ·exact⟨41,rfl,by decide,by decide,by omega⟩
  rw[e4];refine⟨p,a,_,rfl,S.but b2 v2,by omega,by omega,λr H3 d7 f0 v3 e3=>?_⟩;have M:=But.of_eq e3;have b0:=b6.trans M;have b3:=b2.trans M;obtain⟨a2,rfl⟩:=xj d7;refine⟨p,a,R,L,q,ks,a2,rfl,S.but b3 v3,dI a0 b0 R1,T,b3 L _ m u,m,(λ_=>by omega),by omega,λlt x ts H4 a9 Z b7 e5 tl f3 v4 N=>?_⟩;have a5:=M.trans N;have c2:=b0.trans N;have b4:=b3.trans N;have R4:=dI a0 c2 R1;have z:=a5 lw _ a3 c3;have C:=aS (aN d2 a5) c9;refine⟨_,rfl,_,rfl,lt,_,rfl,.of a9,λW h1=>?_⟩;have s5:=Same.new (o:=.tup x) h1;have I:upd H4 W (.tup x) W=some (.tup x):=aj;generalize upd H4 W (.tup x)=H5 at s5 I ⊢;refine⟨(by show 0<=sizeLine;decide),λX h2=>?_⟩;have s6:=Same.new (o:=.tup []) h2;have e2:upd H5 X (.tup []) X=some (.tup []):=aj;have I:=s6 _ _ I;have O:=s5.trans s6;generalize upd H5 X (.tup [])=H6 at O I e2 ⊢;refine⟨_,rfl,lw,_,rfl,.of (O _ _ z),λU h3=>?_⟩;have s7:=Same.new (o:=.tup rw) h3;have b5:upd H6 U (.tup rw) U=some (.tup rw):=aj;have I:=s7 _ _ I;have e2:=s7 _ _ e2;have a6:=O.trans s7;generalize upd H6 U (.tup rw)=H7 at a6 I e2 b5 ⊢;refine⟨(by show 4<=sizeLine;decide),λhh d1=>?_⟩;have s8:=Same.new (o:=.tup [V.ref R,V.ref W,V.ref X,V.ref U]) d1;have g:=a6.trans s8;have RH:Rep (upd H7 hh (.tup [V.ref R,V.ref W,V.ref X,V.ref U])) (.ref hh) (aZ ks ts [] wn) :=
   ic aj (R4.same g) (.tup (s8 _ _ I) (Z.same g)) (.tup (s8 _ _ e2) .nil) (.tup (s8 _ _ b5) (C.same g))
  generalize upd H7 hh (.tup [V.ref R,V.ref W,V.ref X,V.ref U])=H8 at g RH ⊢;have v8:=ap g v4;have b8:=b4.trans (But.of_same (p:=p) g);refine⟨_,rfl,_,rfl,lt,_,rfl,.of (g _ _ a9),λt9 h9=>?_⟩;have s9:=Same.new (o:=.tup x) h9;have e9:upd H8 t9 (.tup x) t9=some (.tup x):=aj;have v9:=ap s9 v8;have b9:=b8.trans (But.of_same (p:=p) s9);have t:=g.trans s9;generalize upd H8 t9 (.tup x)=H9 at s9 e9 v9 b9 t ⊢;obtain⟨f4,v⟩:=aV v9;refine⟨_,rfl,_,rfl,_,rfl,p,a,hh,L,q,ks,ts,[],wn,rfl,S.but b9 v9,RH.same s9,T,b7,a7,by omega,wl,b9 L _ m u,m,λlx rx wx HA d0 d3 a8 d8 c6 c7 e8 vA n=>?_⟩;have bA:=b9.trans n;refine⟨lx,_,rfl,.of d0,λtB hB=>?_⟩;have G:=Same.new (o:=.tup rx) hB;have eB:upd HA tB (.tup rx) tB=some (.tup rx):=aj;have c1:=G _ _ (aP v n e9);have a4:=(dI v n (R4.same t)).same G;have c0:=(aS (aN v n) (Z.same t)).same G;have D:=d3.same G;have y:=G _ _ (n lw _ a3 (t _ _ z));have J:=(aS (aN v n) (C.same t)).same G;have vB:=ap G vA;have bB:=bA.trans (But.of_same (p:=p) G);generalize upd HA tB (.tup rx)=HB at eB c1 a4 c0 D y J vB bB ⊢;refine⟨_,rfl,lw,_,rfl,.of y,λtC hC=>?_⟩;have sC:=Same.new (o:=.tup rw) hC;refine⟨(by show 4<=sizeLine;decide),λhq c8=>?_⟩;have sD:=Same.new (o:=.tup [V.ref R,V.ref t9,V.ref tB,V.ref tC]) c8;have e:=sC.trans sD;refine k hq ks ts wx wn _ (ic aj (a4.same e) (.tup (e _ _ c1) (c0.same e)) (.tup (e _ _ eB) (D.same e)) (.tup (sD _ _ aj) (J.same e))) T d6 d4 b7 e5 a8 d8 c6 a7 e0 (by omega) c7 wl (ap e vB) (bB.trans (But.of_same (p:=p) e))
def dS:Option (Str × Str × Str)->PyData
 | none=>.none
 | some (k,x,y)=>.tuple [.str k,.str x,.str y]
theorem iw {H:Hp}{v:V}{o:Option (Str × Str × Str)}(h:PrtV H v o):Rep H v (dS o):=by
 cases o with
 | none =>
  have h:v=.non:=h;rw[h];exact .non
 | some t =>
  obtain⟨q,rfl,a⟩:=h;exact .tup a (.cons (.str _) (.cons (.str _) (.cons (.str _) .nil)))
def jJ:Sp:=λvs H Q _=>∃(q:Addr) (us:LS) (ks:Kn) (ts ws wn:Prs) (k:Str × LS),vs=[.ref q,.str k.1]/\Rep H (.ref q) (aZ ks ts ws wn)/\Tre us ks/\k∈ks/\∀l H',Same H H'->H l=none->H' l=some (.lst (List.map V.str k.2))->Q (.ref l) H'
theorem scChildren:FnScope ["house","knot"] ["house","knot"] (am ig):=⟨rfl,rfl,rfl,by decide +kernel,rfl,by decide +kernel,by decide +kernel⟩
theorem mG {f:Addr}{fd:FuncData}(F:Fun K "children" "children" ig f fd) (B:Blt mg):FnOk P w K mg base CX0 1 f fd ["house","knot"] jJ:=by
 refine F.ok scChildren (λy H Q E h=>?_) (λL A n s H y Q E i h=>?_)
 ·obtain⟨q,z,u,J,x,v,j,rfl,_⟩:=h
  rfl
 ·obtain⟨q,z,u,J,x,v,j,rfl,R,T,e,k⟩:=h;have U:=scChildren.nd;refine⟨_,(ag (av (vg K rfl B (aa (af (ah K i.units) (fW K rfl i.units B (aa (af (ah K i.units) (pv 0) ac (λ_ _=>rfl)) ab)) (pv 1) (λ_ _=>rfl)) ab)))),?_⟩;obtain⟨V,a,b,c,S,G,I,C,_⟩:=bc R;cases G;refine⟨_,rfl,.tup (.of I) rfl (aB (dQ C T λD r M m=>?_))⟩;obtain⟨N,p,g⟩:=m j e;have d:=Same.new (o:=.dK r) M;refine⟨_,rfl,.dic (.inl ⟨r,.inr j.1,.inl aj,rfl,p.symm⟩) ?_⟩;generalize upd H D (.dK r)=O at d ⊢;refine aB ⟨_,rfl,.seq (.inr (.of (d _ _ g))) λl t=>?_⟩;exact k l _ (d.trans (Same.new t)) (dn d t) aj
theorem ua {H:Hp}{v:V}{o:Option (Str × Str × Str)}(h:Rep H v (dS o)):PrtV H v o:=by
 cases o with
 | none =>
  have h:Rep H v .none:=h;cases h
  rfl
 | some t =>
  obtain⟨k,x,y⟩:=t;obtain⟨q,c,rfl,b,a⟩:=Rep.tupI h;have a:RepAll H c (List.map PyData.str [k,x,y]):=a;have e:=RepAll.strs a;subst e;exact⟨q,rfl,b⟩
theorem jH {H H':Hp}{p:Addr}{ys:LV}(c:H p=some (.lst ys)) (b:But p H H') {v:V}{o:Option (Str × Str × Str)}(h:Rep H v (dS o)):Rep H' v (dS o):=by
 have g:=ua h;refine iw ?_;cases o with
 | none=>exact g
 | some t=>obtain⟨q,e,a⟩:=g;exact⟨q,e,aP c b a⟩
abbrev T3:=Str × Str × Str
def t3D (t:T3):PyData:=.tuple [.str t.1,.str t.2.1,.str t.2.2]
theorem nu (o:Option T3) (t:T3):PyData.eqv (dS o) (t3D t)=decide (o=some t):=by
 cases o with
 | none=>rfl
 | some q =>
  obtain⟨a,b,c⟩:=q;obtain⟨d,e,f⟩:=t;show ((a==d)&&((b==e)&&((c==f)&&true)))=_;rw[Bool.and_true,xp];simp only[xC,beq_iff_eq,decide_eq_true_eq,Option.some.injEq,Prod.mk.injEq]
def Kt (t:T3):Prop:=(t.1=""∨Nm t.1)/\Nm t.2.1/\Nm t.2.2
theorem vp {z:Str}(h:z=""∨Nm z):PyData.canLay0 (.str z)=true:=by
 rcases h with rfl | h
 ·decide +kernel
 ·exact cE h
theorem jF {t:T3}(h:Kt t):shp (t3D t):=by
 show ((PyData.canLay0 (.str t.1)&&(PyData.canLay0 (.str t.2.1)&&(PyData.canLay0 (.str t.2.2)&&true)))&&decide (PyData.depthAll (List.map PyData.str [t.1,t.2.1,t.2.2])+1<=64))=true;rw[vp h.1,cE h.2.1,cE h.2.2,gQ];rfl
theorem nh {o:Option T3}(h:∀t,o=some t->Kt t):shp (dS o):=by
 cases o with
 | none=>show SeqAt.shaped .none=true;decide +kernel
 | some q=>exact jF (h q rfl)
theorem kx {us:LS}{ks:Kn}(T:Tre us ks) {u v:Str}(d:u∈us) (e:v∈us) {t:T3}(h:bt ks u v=some t):Kt t:=by
 obtain⟨q,x,y⟩:=t;obtain⟨c,_,a,b,_⟩:=T.part d e h;refine⟨?_,T.nm _ a,T.nm _ b⟩;show q=""∨Nm q;rw[<- c];rcases (T.par_in a).1 with w | w
 ·exact .inl w
 ·exact .inr (T.nm _ w)
theorem eT {H:Hp}{v:V}{t:T3}(h:Rep H v (t3D t)):∃q,v=.ref q/\H q=some (.tup [.str t.1,.str t.2.1,.str t.2.2]):=by
 obtain⟨q,d,rfl,b,a⟩:=Rep.tupI h;have a:RepAll H d (List.map PyData.str [t.1,t.2.1,t.2.2]):=a;have c:=RepAll.strs a;subst c;exact⟨q,rfl,b⟩
theorem dy {H:Hp}{q:Addr}{t:T3}(h:H q=some (.tup [.str t.1,.str t.2.1,.str t.2.2])):Rep H (.ref q) (t3D t):=.tup h (.cons (.str _) (.cons (.str _) (.cons (.str _) .nil)))
theorem ey {H H':Hp}{p:Addr}{ys:LV}(c:H p=some (.lst ys)) (b:But p H H') {v:V}{t:T3}(h:Rep H v (t3D t)):Rep H' v (t3D t):=by
 obtain⟨q,rfl,a⟩:=eT h;exact dy (aP c b a)
def jf:Sp:=λvs H Q _=>∃(q:Addr) (us:LS) (ks:Kn) (ts ws wn:Prs) (u:Str),vs=[.ref q,.str u]/\Rep H (.ref q) (aZ ks ts ws wn)/\Tre us ks/\u∈us/\∀H',Same H H'->Q (.str (bg ks u)) H'
theorem scKnotOf:FnScope ["house","one"] ["house","one"] (am kb):=⟨rfl,rfl,rfl,by decide +kernel,rfl,by decide +kernel,by decide +kernel⟩
theorem pR {f:Addr}{fd:FuncData}(F:Fun K "knot_of" "knot_of" kb f fd) (B:Blt mg) (a:Cal P w K mg base 1 "homes" ["house"] jW):FnOk P w K mg base CX0 2 f fd ["house","one"] jf:=by
 refine F.ok scKnotOf (λv H Q E h=>?_) (λy A b s H v Q E i h=>?_)
 ·obtain⟨q,l,e,m,j,g,u,rfl,_⟩:=h
  rfl
 ·obtain⟨q,l,e,m,j,g,u,rfl,R,T,n,k⟩:=h;have z:=scKnotOf.nd;refine⟨_,(ag (av (af (ah K i.units) (ai a (i.mono (by decide)) rfl (aa (pv 0) ab)) (pv 1) (λ_ _=>rfl)))),?_⟩;refine⟨_,rfl,q,l,e,m,j,g,rfl,R,T,λd c o x p t r=>?_⟩;exact⟨_,rfl,.dic (.inl ⟨c,.inr u,.inl t,rfl,(r u n).symm⟩) (k o x)⟩
theorem lu {K:W.Frag}{H:Hp}{a:Addr}{xs:LV}(h:SqA H a xs):SqL K H a xs∨SqT K H a xs:=h.imp (λz=>.of z) (λz=>.of z)
theorem iS:Nm "first":=by refine⟨by decide +kernel,by decide +kernel,?_⟩;decide +kernel
theorem jS:Nm "last":=by refine⟨by decide +kernel,by decide +kernel,?_⟩;decide +kernel
theorem gK {z:Str}(h:z="first"∨z="last"):Nm z:=by
 rcases h with rfl | rfl
 ·exact iS
 ·exact jS
theorem wI {K:W.Frag}{H:Hp}{a:Addr}{xs:LV}{i:Int}{x:V}{Q:VK}(h:SqA H a xs) (e:atI xs i=some x) (q:Q x H):IxX K H (.ref a) (.int i) Q:=by
 rcases h with h | h
 ·exact .lst (.of h) e q
 ·exact .tup (.of h) e q
theorem fw {x:Str}{l:LS}:inV (.str x) (List.map V.str l)=decide (x∈l):=by
 unfold inV;rw[List.any_map]
 induction l with
 | nil=>rfl
 | cons y l ih =>
  rw[xR,ih];show ((y==x)||decide (x∈l))=_;by_cases q:x=y
  ·subst q;simp
  ·rw[show (y==x)=false from beq_eq_false_iff_ne.mpr (λz=>q z.symm)];simp[q]
def kD:Sp:=λvs H Q _=>∃(q mem:Addr) (ks:Kn) (ts ws wn:Prs) (ms:LS),vs=[.ref q,.ref mem]/\Rep H (.ref q) (aZ ks ts ws wn)/\SqA H mem (List.map V.str ms)/\wn.length<=1000/\∀x H',Same H H'->Rep H' (.ref x) (aZ ks ts ws (wn.filter λe=>!decide (e.2∈ms)))->Q (.ref x) H'
theorem scWithout:FnScope ["house","members","wants"] ["house","members"] (am dB):=⟨rfl,rfl,rfl,by decide +kernel,rfl,by decide +kernel,by decide +kernel⟩
theorem oa {f:Addr}{fd:FuncData}(F:Fun K "without_wants_of" "without_wants_of" dB f fd) (B:Blt mg):FnOk P w K mg base CX0 1 f fd ["house", "members"] kD := by
 refine F.ok scWithout (λvs H Q E h=>?_) (λa1 A T s H vs Q E u h=>?_)
 ·obtain⟨q,I,ks,ts,ws,L,n,rfl,_⟩:=h
  rfl
 ·obtain⟨q, I, ks, ts, ws, L, n, rfl, R, hm, wl, k⟩ := h;have nd:=scWithout.nd;refine⟨_,(ae (dA (i:=2) nd rfl rfl (by rfl) (am dB) ["house","members","wants"] ["want"] [1] ["want","members"] rfl (bH K (af (ah K u.units) (pv 0) ac (λ_ _=>rfl))) (λ_ _ _ _ _=>(aA (i:=0) (show (["want","members"]:LS).Nodup by decide) rfl (Or.inl rfl))) (λ_ _ _ _ _=>(cm (ak (bw K u.units) (af (ah K u.units) (pv 0) ac (λ_ _=>rfl)) (pv 1) (by with_unfolding_all rfl)))) (λ_ _ _ _ _=>(pv 0)))
   (ag (av (aL (aa (af (ah K u.units) (pv 0) ac (λ_ _=>rfl)) (aa (af (ah K u.units) (pv 0) ac (λ_ _=>rfl)) (aa (af (ah K u.units) (pv 0) ac (λ_ _=>rfl)) (aa (dg K B (aa (pv 2) ab)) ab)))))))),?_⟩
  obtain⟨q',a,b,c3,d4,e0,O,R1,R2,R3,R4⟩:=bc R;cases e0;obtain⟨w4,J,e4,hw,Z⟩:=Rep.tupI R4;cases e4;have p:=Z.len;rw[wK] at p;refine⟨_,rfl,.tup (.of O) rfl ⟨_,rfl,⟨_,.of hw⟩,?_⟩⟩
  let C:Addr->Nat->LV->SH:=λD i c l W=>∃o,l=[o,some (.ref I)]/\RepAll H c (((L.take i).filter λe=>!decide (e.2∈n)).map aK)/\c.length<=i/\Same H W/\H D=none
  refine dC J C λD hD=>⟨?_,?_,?_,?_⟩
  ·exact⟨none,rfl,.nil,wM _,Same.new hD,hD⟩
  ·rintro i c l W _ ⟨o,rfl,_,_,v,_⟩ _;exact .of (v _ _ hw)
  ·rintro i c l W x hx ⟨o, rfl, g, al, v, m⟩ j;obtain⟨e,ta,X,rfl,G⟩:=bM Z hx;have a0:=(wO.mp X).1;have d:(L.take (i+1)).filter (λe=>!decide (e.2∈n))=(L.take i).filter (λe=>!decide (e.2∈n))++(if e.2∈n then [] else [e]):=by
    rw[xg,X,yb];congr 1;show List.filter _ [e]=_;by_cases z:e.2∈n <;> simp[z]
   dsimp only[cg];refine⟨_,rfl,.tup (.of (v _ _ G)) rfl ⟨_,rfl,.seq (lu (hm.same v)) rfl (bp _) ⟨_,rfl,?_⟩⟩⟩;rw[fw,if_pos rfl];refine aD (λt=>?_) (λt=>?_)
   ·have t:e.2∉n:=by simpa using t
    rw[if_neg t] at d;refine⟨_,rfl,j,aH (by omega),_,rfl,?_,?_,bu v m,m⟩
    ·rw[d,wZ];exact RepAll.append g (.cons (.tup G (.cons (.str _) (.cons (.str _) .nil))) .nil)
    ·rw[w6];exact x3 al
   ·have t:e.2∈n:=by simpa using t
    rw[if_pos t,xH] at d;exact⟨j,_,rfl,by rw[d];exact g,by omega,v,m⟩
  ·rintro c l Y ⟨o,rfl,g,al,N,m⟩ j;rw[p,xk (wM _)] at g;refine⟨_,rfl,.tup (.of (N _ _ O)) rfl ⟨_,rfl,.tup (.of (N _ _ O)) rfl ⟨_,rfl,.tup (.of (N _ _ O)) rfl ⟨_,rfl,D,_,rfl,.of j,λM S=>aB ⟨by show 4<=sizeLine;decide,λx0 r=>?_⟩⟩⟩⟩⟩;have s2:=N.trans (Same.new (o:=.tup c) S);have U:upd Y M (.tup c) M=some (.tup c):=aj;generalize upd Y M (.tup c)=H2 at s2 U r;have y:=s2.trans (Same.new (o:=.tup [.ref a,.ref b,.ref c3,.ref M]) r);refine k x0 _ y (.tup aj (.cons (R1.same y) (.cons (R2.same y) (.cons (R3.same y) (.cons ?_ .nil)))));exact .tup (by rw[az (aJ U r)];exact U) (g.same y)
theorem iY {us:LS}{ks:Kn}(T:Tre us ks) {k q:Str × LS}(d:k∈ks) (a:q∈ks) (e:k.1=q.1):k=q:=by
 obtain⟨i,b⟩:=xI d;obtain⟨j,c⟩:=xI a;have l:=(wO.mp b).1;have:=(yv (by rw[wK];exact l) T.kn).mp (show (ks.map (·.1))[i]? = (ks.map (·.1))[j]? by rw[wW,wW,b,c];exact congrArg some e);subst this;exact wR (b.symm.trans c)
theorem dW {us:LS}{ks:Kn}(T:Tre us ks) {ts wn:Prs}(r:cV us ks ts) (W:WnX ks wn) {k:Str × LS}(s:k ∈ ks):∀e ∈ cL ks ts wn k.1 k.2, MG.ix k.2 e.1<MG.ix k.2 e.2 := λe a => by
 have l:=cq T s;have h:∀ {b u:Str},u∈wU k.2 wn b->FL k (b,u)/\u∈k.2:=λ{b u} c=>by
  unfold wU at c;rw[xn,decide_eq_true_iff] at c;obtain⟨D,p,f⟩:=W.at_ _ c.2;have:=em T.knd s p c.1 f.mem;rw[this];exact⟨f,this ▸ c.1⟩
 have n:("first":Str)≠"last":=by decide
 unfold cL at a;rw[fJ,w8,w8] at a;rcases a with a | a | a | a
 ·cases a
 ·obtain⟨z,j,q⟩:=xQ.mp a;obtain⟨c,A,_,w,o,x,y,C,_,_,_,_,t⟩:=r z j;unfold fe at q;rw[C] at q;have q:(if w.1=k.1 then some (x,y) else none)=some e:=q;by_cases j:w.1=k.1
  ·rw[if_pos j] at q;have q:=wR q;subst q;have:=iY T o s j;subst this;exact t
  ·rw[if_neg j] at q;cases q
 ·obtain⟨u,c,a⟩:=xL.mp a;obtain⟨f,i⟩:=h c;obtain⟨v,d,g⟩:=wX.mp a;have g:(u,v)=e:=g;subst g;rw[xn,decide_eq_true_iff] at d;rcases f with⟨_,f⟩ | ⟨f,_⟩
  ·have m:k.2[0]? = some u:=by rw[<- xJ];exact f
   have:=(yv (wO.mp m).1 l).mp (m.trans (MG.at_ix i).symm);have B:MG.ix k.2 v≠MG.ix k.2 u:=λz=>d.2 (MG.ix_inj d.1 i z);show MG.ix k.2 u<MG.ix k.2 v;omega
  ·exact absurd f n
 ·obtain⟨u,c,a⟩:=xL.mp a;obtain⟨f,i⟩:=h c;obtain⟨v,d,g⟩:=wX.mp a;have g:(v,u)=e:=g;subst g;rw[xn,decide_eq_true_iff] at d;rcases f with⟨f,_⟩ | ⟨_,f⟩
  ·exact absurd f (Ne.symm n)
  ·have m:k.2[k.2.length-1]? = some u:=by rw[<- xO];exact f
   have:=(yv (wO.mp m).1 l).mp (m.trans (MG.at_ix i).symm);have B:MG.ix k.2 v≠MG.ix k.2 u:=λz=>d.2 (MG.ix_inj d.1 i z);have t:=MG.ix_lt d.1;show MG.ix k.2 v<MG.ix k.2 u;omega
def di (p:Prop):Bool:=@decide p (Classical.propDecidable p)
theorem nM {p:Prop}(h:p):di p=true:=by unfold di;exact @decide_eq_true p (Classical.propDecidable p) h
theorem dw {p:Prop}(h:¬ p):di p=false:=by unfold di;exact @decide_eq_false p (Classical.propDecidable p) h
theorem fA {p:Prop}:di p=true ↔ p:=⟨λh=>Classical.byContradiction λz=>(by rw[dw z] at h;cases h),nM⟩
def K3 (t:T3):Prop:=Nm t.1/\Nm t.2.1/\Nm t.2.2
theorem ik:Nm "tie":=by refine⟨by decide +kernel,by decide +kernel,?_⟩;decide +kernel
theorem jO {κ:Type} [DecidableEq κ] (kvs:List (κ × V)) (k:κ) (v:V):(bh kvs k v).length=if (bn kvs k).isSome=true then kvs.length else kvs.length+1:=by
 cases q:bn kvs k with
 | none=>rw[rD v q,w6,if_neg (by decide)];rfl
 | some x =>
  unfold bh;rw[ft,q];simp
theorem dL {α:Type}{g:α->PyData}{z:LV}{ps:List α}(b:RepAll H z (ps.map g)) {j:Nat}(c:z[j]? = some x):∃e,ps[j]? = some e/\Rep H x (g e):=by
 obtain⟨d,a,rd⟩:=b.get c;rw[wW] at a;cases q:ps[j]? with
 | none=>rw[q] at a;cases a
 | some e =>
  rw[q] at a;exact⟨e,rfl,(wR a) ▸ rd⟩
theorem aX (h:D.nx σ H):su D σ H:=h
theorem au (h:Q (σ.set i (some v)) H):cg i v σ H Q:=h
theorem um {te:TE}{l:Addr}{xs:LV}{fr:List Nat}{σ aM:St}{H:Hp}{Q:VK}(q:H l=some (.tup xs)) (r:cS 1 fr σ=none::aM) (u:xs.length<=1000) (m:∀x∈xs,∀H' Q,Same H H'->(∀H2,Same H' H2->Q (.bl true) H2)->te (some x::aM) H' Q) (k:∀H',Same H H'->Q (.bl true) H') :
    cr 1 fr (cg 0) gR te (Itt K l) σ H λx H1=>fg σ H1 λys H2=>rM (x::ys) H2 Q:=by
 let g:Addr->Nat->LV->SH:=λD i c d H'=>∃o,d=o::aM/\c=List.replicate i (V.bl true)/\Same H H'/\H D=none
 refine dC xs g λD p=>⟨?_,?_,?_,?_⟩
 ·exact⟨none,r,rfl,Same.new p,p⟩
 ·rintro i c d H' _ ⟨o,rfl,_,j,_⟩ _;exact .of (j _ _ q)
 ·rintro i c d H' x n ⟨o,rfl,rfl,j,f⟩ a;have s:=(wO.mp n).1;refine gs ?_;refine m x (wP n) H' _ j λH2 h=>?_;exact⟨h _ _ a,by rw[yA];exact aH (by omega),_,rfl,by rw[List.replicate_succ'],bu (j.trans h) f,f⟩
 ·rintro c d H2 ⟨o,rfl,rfl,h,f⟩ a;refine⟨D,List.replicate xs.length true,rfl,by rw[List.map_replicate];exact a,?_⟩;have e:(List.replicate xs.length true).all id=true:=by rw[xM];exact λb t=>(List.mem_replicate.mp t).2
  rw[e];exact k H2 h
theorem uu {te:TE}{l:Addr}{xs:LV}{fr:List Nat}{σ aM:St}{H:Hp}{Q:VK}(q:H l=some (.lst xs)) (r:cS 1 fr σ=none::aM) (u:xs.length<=1000) (m:∀x∈xs,∀H' Q,Same H H'->(∀H2,Same H' H2->Q (.bl true) H2)->te (some x::aM) H' Q) (k:∀H',Same H H'->Q (.bl true) H') :
    cr 1 fr (cg 0) gR te (Itl K l) σ H λx H1=>fg σ H1 λys H2=>rM (x::ys) H2 Q:=by
 let g:Addr->Nat->LV->SH:=λD i c d H'=>∃o,d=o::aM/\c=List.replicate i (V.bl true)/\Same H H'/\H D=none
 refine cP xs g λD p=>⟨?_,?_,?_,?_⟩
 ·exact⟨none,r,rfl,Same.new p,p⟩
 ·rintro i c d H' _ ⟨o,rfl,_,j,_⟩ _;exact .of (j _ _ q)
 ·rintro i c d H' x n ⟨o,rfl,rfl,j,f⟩ a;have s:=(wO.mp n).1;refine gs ?_;refine m x (wP n) H' _ j λH2 h=>?_;exact⟨h _ _ a,by rw[yA];exact aH (by omega),_,rfl,by rw[List.replicate_succ'],bu (j.trans h) f,f⟩
 ·rintro c d H2 ⟨o,rfl,rfl,h,f⟩ a;refine⟨D,List.replicate xs.length true,rfl,by rw[List.map_replicate];exact a,?_⟩;have e:(List.replicate xs.length true).all id=true:=by rw[xM];exact λb t=>(List.mem_replicate.mp t).2
  rw[e];exact k H2 h
theorem scPlaces:FnScope ["things","places","place","thing"] ["things"] (am ii):=⟨rfl,rfl,rfl,by decide +kernel,rfl,by decide +kernel,by decide +kernel⟩
def kT:Sp:=λvs H Q _=>∃(a:Addr) (xs:LS),vs=[.ref a]/\H a=some (.lst (List.map V.str xs))/\xs.length<=1000/\∀d kvs H',Same H H'->H d=none->H' d=some (.dK kvs)->kvs.length=dl xs.reverse->Q (.ref d) H'
theorem oD (F:Fun K "places_of" "places_of" ii f fd) (B:Blt mg):FnOk P w K mg base CX0 1 f fd ["things"] kT := by
 refine F.ok scPlaces (λT H Q E h=>?_) (λX A G s H T Q E S h=>?_)
 ·obtain⟨a,xs,rfl,_⟩:=h
  rfl
 ·obtain⟨a, xs, rfl, M, Z, k⟩ := h;have J:=scPlaces.nd;have sz:200000<sizeLine:=by decide
  refine⟨_,(ae (ao (i:=1) J rfl (Or.inl rfl) jb)
   (ae (bL PassesOwn.never rfl (qN K rfl B.enumerate (aa (pv 0) ab)) (bN (n:=2) K rfl (aO (aA (i:=2) J rfl (Or.inl rfl)) (aO (aA (i:=3) J rfl (Or.inl rfl)) bS))) (ag (df (pv 2) (gi (pv 1) (pv 3) (gP S.units)))))
   (ag (av (pv 1))))),?_⟩
  intro d I;have O:=Same.new (o:=.dK []) I;refine⟨_,rfl,a,rfl,⟨_,.of (O _ _ M)⟩,?_⟩
  let l:Nat->SH:=λi v j=>∃u r c,v=[some (.ref a),some (.ref d),u,r]/\Same H j/\j d=some (.dK c)/\c.length=dl (xs.take i).reverse/\(∀s,(bn c (.inr s)).isSome=true ↔ s∈xs.take i)
  refine qL (xs:=List.map V.str xs) l ?_ ?_ ?_ ?_
  ·refine⟨none,none,[],rfl,O,aj,rfl,λs=>?_⟩;simp[rY]
  ·rintro i v j Y ⟨u,r,c,rfl,m,_⟩;exact .of (m _ _ M)
  ·rintro i x v j p U ⟨u, r, c, rfl, m, y, e, g⟩ R;obtain⟨t,D,rfl⟩:=bI U;have W:=(wO.mp D).1;have L:d≠p:=aJ y R;have C:=ll (xs.take i).reverse;rw[xV,xx] at C;refine⟨p,_,rfl,.of aj,rfl,_,_,rfl,_,_,rfl,rfl,?_⟩;refine⟨_,rfl,_,rfl,_,rfl,.dic (DPut.k (k:=.inr t) (by rw[az L];exact y) (by omega)) ⟨_,_,_,rfl,?_,aj,?_,?_⟩⟩
   ·intro b o N;rw[az (aJ N I)];exact Same.new R _ _ (m _ _ N)
   ·rw[xg,D,Option.toList_some,List.reverse_append];show _=dl (t::(xs.take i).reverse);rw[ga,jO c (.inr t),e];by_cases q:t∈xs.take i
    ·rw[if_pos ((g t).mpr q),if_pos (yo.mpr q)]
    ·rw[if_neg (λz=>q ((g t).mp z)),if_neg (λz=>q (yo.mp z))]
   ·intro s;rw[gj,xg,D,w8];by_cases q:s=t
    ·subst q;simp
    ·rw[if_neg (λz=>q (Sum.inr.inj z)),g s];simp[q]
  ·rintro v j ⟨u,r,c,rfl,m,y,e,_⟩;rw[wK,xk (wM _)] at e;exact⟨_,rfl,k d c j m I y e⟩
def sv:Sp:=λvs H Q _=>∃(a:Addr) (ss:LS),vs=[.ref a]/\H a=some (.lst (List.map V.str ss))/\ss.length<=1000/\∀H',Same H H'->Q (.bl (decide ss.Nodup)) H'
theorem mP:∀l:LS,dl l=l.length ↔ l.Nodup
 | []=>⟨λ_=>.nil,λ_=>rfl⟩
 | x::l=>by
  have:=ll l;rw[ga,xc,xB];by_cases q:x∈l
  ·rw[if_pos q];exact⟨λh=>by omega,λh=>absurd q h.1⟩
  ·rw[if_neg q,<- mP l];exact⟨λh=>⟨q,by omega⟩,λh=>by omega⟩
theorem scUnl:FnScope ["things"] ["things"] (am kj):=⟨rfl,rfl,rfl,by decide +kernel,rfl,by decide +kernel,by decide +kernel⟩
theorem vW (F:Fun K "are_unlike" "are_unlike" kj f fd) (B:Blt mg) (b:Cal P w K mg base 1 "places_of" ["things"] kT):FnOk P w K mg base CX0 2 f fd ["things"] sv := by
 refine F.ok scUnl (λr H Q E h=>?_) (λu A j s H r Q E l h=>?_)
 ·obtain⟨a,g,rfl,_⟩:=h
  rfl
 ·obtain⟨a,g,rfl,n,i,k⟩:=h;have v:=scUnl.nd;refine⟨_,(ag (av (eR (aY l.units) (uw B (aa (ai b (l.mono (by decide)) rfl (aa (pv 0) ab)) ab)) (aW K B (aa (pv 0) ab)) (aw _)))),?_⟩;refine⟨_,rfl,a,g,rfl,n,i,λd c m o p q e=>⟨d,c,rfl,q,_,rfl,_,_,rfl,.inl ⟨_,.of (o _ _ n),rfl⟩,.sc rfl ?_⟩⟩;have t:decide (V.int (c.length:Nat)=V.int ((List.map V.str g).length:Nat))=decide g.Nodup:=by
   rw[xp,decide_eq_true_iff,decide_eq_true_iff,<- (List.reverse_perm g).nodup_iff,<- mP,xV,e,wK];exact⟨λz=>Int.ofNat.inj (V.int.inj z),λz=>by rw[z]⟩
  show Q (.bl (decide (V.int (c.length:Nat)=V.int ((List.map V.str g).length:Nat)))) m;rw[t];exact k m o
def lI:Sp:=λvs H Q _=>∃(q:Addr) (s:T3),vs=[.ref q]/\Rep H (.ref q) (t3D s)/\∀H',Same H H'->Q (.bl true) H'
theorem scIsStep:FnScope ["step"] ["step"] (am iz):=⟨rfl,rfl,rfl,by decide +kernel,rfl,by decide +kernel,by decide +kernel⟩
theorem oS (F:Fun K "is_step" "is_step" iz f fd) (B:Blt mg):FnOk P w K mg base CX0 1 f fd ["step"] lI := by
 refine F.ok scIsStep (λg H Q E h=>?_) (λj A b s H g Q E e h=>?_)
 ·obtain⟨q,t,rfl,_⟩:=h
  rfl
 ·obtain⟨q,t,rfl,R,k⟩:=h;have l:=scIsStep.nd;refine⟨_,(ae (aU (PW.pt (cM (gp (eS (og K "tuple" B (aa (pv 0) (aa (ut B) ab))))) (cA (ak (cI e.units) (aW K B (aa (pv 0) ab)) ac (aw _))))) (ag (av dU)) aF)
   (ag (av (oA rfl B (aa (cp (am iz) ["step"] [] "word" [] (bH K (pv 0)) bT (og K "str" B (aa (pv 0) (aa (ww B) ab)))) ab))))),?_⟩
  obtain⟨m,i,a⟩:=eT R;cases i;refine⟨_,rfl,_,_,true,rfl,.tup a,rfl,_,rfl,fu ?_⟩;refine⟨_,rfl,_,_,rfl,Or.inr ⟨_,.of a,rfl⟩,.sc rfl ⟨_,rfl,aD (λh=>absurd h (by show ¬ (!decide (V.int 3=V.int 3))=true;decide)) λ_=>aX ?_⟩⟩;refine⟨_,rfl,_,rfl,⟨_,.of a⟩,?_⟩;refine um a rfl (by show 3<=1000;decide) (λx c d Q n q=>?_) k;have:∃z,x=V.str z:=by
   simp only[wY,yy,or_false] at c;rcases c with rfl | rfl | rfl <;> exact⟨_,rfl⟩
  obtain⟨z,rfl⟩:=this;exact⟨_,rfl,_,_,true,rfl,.str _,rfl,q d (Same.refl d)⟩
def RgH (H:Hp) (a:Addr) (ss:List T3):Prop:=∃refs,H a=some (.lst refs)/\RepAll H refs (ss.map t3D)
def fO:Sp:=λvs H Q _=>∃(a:Addr) (ss:List T3),vs=[.ref a]/\RgH H a ss/\ss.length<=200/\∀H',Same H H'->Q (.bl (decide (2<=ss.length))) H'
theorem scAreSteps:FnScope ["ring"] ["ring"] (am gt):=⟨rfl,rfl,rfl,by decide +kernel,rfl,by decide +kernel,by decide +kernel⟩
theorem mM (F:Fun K "are_steps" "are_steps" gt f fd) (B:Blt mg) (b:Cal P w K mg base 1 "is_step" ["step"] lI):FnOk P w K mg base CX0 2 f fd ["ring"] fO := by
 refine F.ok scAreSteps (λu H Q E h=>?_) (λD A e s H u Q E p h=>?_)
 ·obtain⟨a,g,rfl,_⟩:=h
  rfl
 ·obtain⟨a,g,rfl,⟨c,d,l⟩,m,k⟩:=h;have J:=scAreSteps.nd;refine⟨_,(ae (aU (PW.pt (cM (gp (eS (og K "list" B (aa (pv 0) (aa (uT B) ab))))) (cA (ak eW (aW K B (aa (pv 0) ab)) ac (aw _))))) (ag (av dU)) aF)
   (ag (av (oA rfl B (aa (cp (am gt) ["ring"] [] "step" [] (be K (pv 0)) bT (ai b (p.mono (by decide)) rfl (aa (pv 0) ab))) ab))))),?_⟩
  have n:=l.len;rw[wK] at n;refine⟨_,rfl,_,_,true,rfl,.lst d,rfl,_,rfl,fu ?_⟩;refine⟨_,rfl,_,_,rfl,Or.inl ⟨_,.of d,rfl⟩,.int ⟨_,rfl,aD (λh=>?_) λh=>aX ?_⟩⟩
  ·have h:((c.length:Nat):Int)<2:=xf h;rw[show decide (2<=g.length)=false from xi (by omega)] at k;exact k H (Same.refl H)
  ·have h:¬ ((c.length:Nat):Int)<2:=λz=>h (wQ z);rw[show decide (2<=g.length)=true from wQ (by omega)] at k;refine⟨_,rfl,_,rfl,⟨_,.of d⟩,?_⟩;refine uu d rfl (by omega) (λx v L Q G q=>?_) k;obtain⟨i,o⟩:=xI v;obtain⟨s,I,j⟩:=dL l o;obtain⟨t,rfl,r⟩:=eT j;exact⟨_,rfl,t,s,rfl,j.same G,λC y=>q C y⟩
def bV (s:T3):Str:=if s.1="first" then s.2.1 else s.2.2
def gv:Sp:=λvs H Q _=>∃(q:Addr) (s:T3),vs=[.ref q]/\Rep H (.ref q) (t3D s)/\∀H',Same H H'->Q (.str (bV s)) H'
theorem scWanting:FnScope ["step"] ["step"] (am iW):=⟨rfl,rfl,rfl,by decide +kernel,rfl,by decide +kernel,by decide +kernel⟩
theorem op (F:Fun K "wanting" "wanting" iW f fd) (B:Blt mg):FnOk P w K mg base CX0 1 f fd ["step"] gv := by
 refine F.ok scWanting (λd H Q E h=>?_) (λi A b s H d Q E a h=>?_)
 ·obtain⟨q,t,rfl,_⟩:=h
  rfl
 ·obtain⟨q,t,rfl,R,k⟩:=h;have j:=scWanting.nd;refine⟨_,(ag (av (rX (ak (aY a.units) (af (ah K a.units) (pv 0) ac (λ_ _=>rfl)) aR (aw _)) (af (ah K a.units) (pv 0) ac (λ_ _=>rfl)) (af (ah K a.units) (pv 0) ac (λ_ _=>rfl))))),?_⟩;obtain⟨l,g,c⟩:=eT R;cases g;refine⟨_,rfl,.tup (.of c) rfl (.sc rfl ⟨_,rfl,?_⟩)⟩;rw[if_neg (show ¬ false=true by decide)];refine aD (λh=>?_) (λh=>?_)
  ·have h:t.1="first":=V.str.inj (xf h);refine⟨_,rfl,.tup (.of c) rfl ?_⟩;have e:bV t=t.2.1:=if_pos h;rw[<- e];exact k H (Same.refl H)
  ·have h:t.1≠"first":=λz=>h (wQ (congrArg V.str z));refine⟨_,rfl,.tup (.of c) rfl ?_⟩;have e:bV t=t.2.2:=if_neg h;rw[<- e];exact k H (Same.refl H)
def pwO (ks:Kn) (s:T3):Option T3:=match ks.find? λk=>decide (bV s∈k.2) with
 | some k=>if s.2.1=s.2.2∨s.2.1∉k.2∨s.2.2∉k.2 then none else some (k.1,s.2.1,s.2.2)
 | none=>none
theorem rK (T:Tre us ks) (b:k∈ks) (a:u∈k.2):(ks.find? λk=>decide (u∈k.2))=some k:=by
 obtain⟨c,e⟩:∃c,(ks.find? λk=>decide (u∈k.2))=some c:=yz.mp ((List.find?_isSome (p:=λk:Str × LS=>decide (u∈k.2))).mpr ⟨k,b,wQ a⟩);rw[e,em T.knd (yC e) b (xf (List.find?_some (p:=λk:Str × LS=>decide (u∈k.2)) e)) a]
theorem jv (T:Tre us ks) (b:k∈ks) (a:bV s∈k.2):pwO ks s=if s.2.1=s.2.2∨s.2.1∉k.2∨s.2.2∉k.2 then none else some (k.1,s.2.1,s.2.2):=by
 unfold pwO;rw[rK T b a]
def kw:Sp:=λvs H Q _=>∃(q a:Addr) (us:LS) (ks:Kn) (ts ws wn:Prs) (s:T3),vs=[.ref q,.ref a]/\Rep H (.ref q) (aZ ks ts ws wn)/\Tre us ks/\Rep H (.ref a) (t3D s)/\bV s∈us/\∀x H',Same H H'->PrtV H' x (pwO ks s)->Q x H'
theorem scPartW:FnScope ["house","step","knot","row"] ["house","step"] (am gC):=⟨rfl,rfl,rfl,by decide +kernel,rfl,by decide +kernel,by decide +kernel⟩
theorem qO (F:Fun K "part_of_want" "part_of_want" gC f fd) (B:Blt mg) (d:Cal P w K mg base 1 "wanting" ["step"] gv) (g:Cal P w K mg base 2 "knot_of" ["house", "one"] jf) (c:Cal P w K mg base 1 "children" ["house", "knot"] jJ):FnOk P w K mg base CX0 3 f fd ["house", "step"] kw := by
 refine F.ok scPartW (λvs H Q E h=>?_) (λa0 A C s H vs Q E j h=>?_)
 ·obtain⟨q,a,D,r,G,y,u,t,rfl,_⟩:=h
  rfl
 ·obtain⟨q, a, D, r, G, y, u, t, rfl, R, T, S, J, k⟩ := h;have N:=scPartW.nd;refine⟨_,(ae (ao (i:=2) N rfl (Or.inl rfl) (ai g (j.mono (by decide)) rfl (aa (pv 0) (aa (ai d (j.mono (by decide)) rfl (aa (pv 1) ab)) ab))))
   (ae (ao (i:=3) N rfl (Or.inl rfl) (ai c (j.mono (by decide)) rfl (aa (pv 0) (aa (pv 2) ab))))
   (ae (aU (PW.pt (cM (ak (aY j.units) (af (ah K j.units) (pv 1) ac (λ_ _=>rfl)) (af (ah K j.units) (pv 1) ac (λ_ _=>rfl)) (aw _)) (cM (ak (bw K j.units) (af (ah K j.units) (pv 1) ac (λ_ _=>rfl)) (pv 3) (by with_unfolding_all rfl)) (cA (ak (bw K j.units) (af (ah K j.units) (pv 1) ac (λ_ _=>rfl)) (pv 3) (by with_unfolding_all rfl)))))) (ag (av bj)) aF)
   (ag (av (aL (aa (pv 2) (aa (af (ah K j.units) (pv 1) ac (λ_ _=>rfl)) (aa (af (ah K j.units) (pv 1) ac (λ_ _=>rfl)) ab))))))))),?_⟩
  obtain⟨a',e0,X⟩:=eT S;cases e0;obtain⟨n,I,o⟩:=T.has J;have b:=jv T I o;refine⟨_,rfl,_,rfl,a,t,rfl,S,λH1 O=>aB ⟨q,D,r,G,y,u,bV t,rfl,R.same O,T,J,λH2 s2=>?_⟩⟩;refine au ?_;dsimp only;rw[T.par I o];have p:=O.trans s2;refine⟨_,rfl,_,rfl,q,D,r,G,y,u,n,rfl,R.same p,T,I,λl v W U M=>?_⟩;have m:=p.trans W;have e:=m _ _ X;refine au ?_;dsimp only;have L:∀z:Str,(if true=true then !inV (.str z) (List.map V.str n.2) else inV (.str z) (List.map V.str n.2))=!decide (z∈n.2):=λz=>by rw[if_pos rfl,fw]
  refine⟨_,rfl,.tup (.of e) rfl ⟨_,rfl,.tup (.of e) rfl (.sc rfl ⟨_,rfl,?_⟩)⟩⟩;refine aD (λh=>?_) (λh=>?_)
  ·have h:t.2.1=t.2.2:=V.str.inj (xf h);rw[if_pos (.inl h)] at b;show (if true=true then _ else _);rw[if_pos rfl];exact k _ v m (by rw[b];rfl)
  ·have Y:t.2.1 ≠ t.2.2 := λz => h (wQ (congrArg V.str z));refine⟨_,rfl,.tup (.of e) rfl ⟨_,rfl,.seq (.inl (.of M)) rfl (bp _) ⟨_,rfl,?_⟩⟩⟩;rw[L];refine aD (λh=>?_) (λh=>?_)
   ·have h:t.2.1∉n.2:=by simpa using h
    rw[if_pos (.inr (.inl h))] at b;show (if true=true then _ else _);rw[if_pos rfl];exact k _ v m (by rw[b];rfl)
   ·have h2:t.2.1∈n.2:=by simpa using h
    refine⟨_,rfl,.tup (.of e) rfl ⟨_,rfl,.seq (.inl (.of M)) rfl (bp _) ⟨_,rfl,?_⟩⟩⟩;rw[L];refine aD (λh=>?_) (λh=>?_)
    ·have h:t.2.2∉n.2:=by simpa using h
     rw[if_pos (.inr (.inr h))] at b;exact k _ v m (by rw[b];rfl)
    ·have Z:t.2.2∈n.2:=by simpa using h
     rw[if_neg (λz=>z.elim Y λz=>z.elim (λz=>z h2) (λz=>z Z))] at b;refine aX ?_;refine⟨_,rfl,_,rfl,.tup (.of e) rfl ⟨_,rfl,.tup (.of e) rfl ⟨szl 3,λx hx=>?_⟩⟩⟩;exact k _ _ (m.trans (Same.new hx)) (by rw[b];exact⟨_,rfl,aj⟩)
def pOf (ks:Kn) (ts wn:Prs) (s:T3):Option T3:=if s.1="tie"/\(s.2.1,s.2.2)∈ts then bt ks s.2.1 s.2.2 else if (s.1,bV s)∈wn then pwO ks s else none
def gn:Sp:=λvs H Q _=>∃(q a:Addr) (us:LS) (ks:Kn) (ts ws wn:Prs) (s:T3),vs=[.ref q,.ref a]/\Rep H (.ref q) (aZ ks ts ws wn)/\Tre us ks/\cV us ks ts/\fm us wn/\Rep H (.ref a) (t3D s)/\K3 s/\∀x H',Same H H'->PrtV H' x (pOf ks ts wn s)->Q x H'
theorem scPartOf:FnScope ["house","step"] ["house","step"] (am kg):=⟨rfl,rfl,rfl,by decide +kernel,rfl,by decide +kernel,by decide +kernel⟩
theorem oQ (F:Fun K "part_of" "part_of" kg f fd) (B:Blt mg) (j:Cal P w K mg base 1 "wanting" ["step"] gv) (l:Cal P w K mg base 3 "parting" ["house", "one", "other"] mu) (c:Cal P w K mg base 3 "part_of_want" ["house", "step"] kw):FnOk P w K mg base CX0 4 f fd ["house", "step"] gn := by
 refine F.ok scPartOf (λvs H Q E h=>?_) (λa3 A S s H vs Q E i h=>?_)
 ·obtain⟨q,a,Y,y,v,O,o,t,rfl,_⟩:=h
  rfl
 ·obtain⟨q, a, Y, y, v, O, o, t, rfl, R, T, n, p, Rt, D, k⟩ := h;have nd:=scPartOf.nd;refine⟨_,(ae (aU (PW.pt (cj (ak (aY i.units) (af (ah K i.units) (pv 1) ac (λ_ _=>rfl)) aR (aw _)) (bO (ak (ko i.units) (aL (aa (af (ah K i.units) (pv 1) ac (λ_ _=>rfl)) (aa (af (ah K i.units) (pv 1) ac (λ_ _=>rfl)) ab))) (af (ah K i.units) (pv 0) ac (λ_ _=>rfl)) (by with_unfolding_all rfl))))) (ag (av (ai l (i.mono (by decide)) rfl (aa (pv 0) (aa (af (ah K i.units) (pv 1) ac (λ_ _=>rfl)) (aa (af (ah K i.units) (pv 1) ac (λ_ _=>rfl)) ab)))))) aF)
   (ae (aU (ak (ko i.units) (aL (aa (af (ah K i.units) (pv 1) ac (λ_ _=>rfl)) (aa (ai j (i.mono (by decide)) rfl (aa (pv 1) ab)) ab))) (af (ah K i.units) (pv 0) ac (λ_ _=>rfl)) (by with_unfolding_all rfl)) (ag (av (ai c (i.mono (by decide)) rfl (aa (pv 0) (aa (pv 1) ab))))) aF)
   (ag (av bj)))),?_⟩
  obtain⟨a',r,u⟩:=eT Rt;cases r;obtain⟨q',a0,b,c3,d4,r,hq,_,R2,_,R4⟩:=bc R;cases r;obtain⟨b',rb,r,hb,M⟩:=bo R2;cases r;obtain⟨a2,a1,r,N,U⟩:=bo R4;cases r;have G:PyData.canLayAll0 (v.map aK)=true:=cf λe C=>⟨T.nm _ (n e C).1,T.nm _ (n e C).2.1⟩
  have I:PyData.canLayAll0 (o.map aK)=true:=cf λe C=>⟨gK (p e C).1,T.nm _ (p e C).2⟩
  have Z:Nm (bV t):=by unfold bV;split;exact D.2.1;exact D.2.2
  apply dF (J:=λσ HZ=>σ=[some (.ref q),some (.ref a)]/\Same H HZ/\pOf y v o t=if (t.1,bV t)∈o then pwO y t else none)
  ·intro aM;refine⟨_,rfl,.tup (.of u) rfl (.sc rfl ⟨_,rfl,?_⟩)⟩;rw[if_neg (show ¬ false=true by decide)];refine aD (λh=>?_) (λh=>?_)
   ·have h:t.1="tie":=V.str.inj (xf h);refine⟨_,rfl,.tup (.of u) rfl ⟨_,rfl,.tup (.of u) rfl ⟨szl 2,λx X=>?_⟩⟩⟩;refine nw X λH1 m e1=>?_;refine⟨_,rfl,.tup (.of (m _ _ hq)) rfl ⟨b,rb,_,aK ((t.2.1,t.2.2):Str × Str),rfl,m _ _ hb,M.same m,bx e1,G,cJ ⟨D.2.1,D.2.2⟩,(by show 1<=16;decide),_,rfl,?_⟩⟩;rw[if_neg (show ¬ false=true by decide),gh];refine aD (λd=>?_) (λd=>?_)
    ·have d:=xf d;refine⟨_,rfl,_,rfl,.tup (.of (m _ _ u)) rfl ⟨_,rfl,.tup (.of (m _ _ u)) rfl (aB ⟨q,Y,y,v,O,o,t.2.1,t.2.2,rfl,R.same m,T,(n _ d).1,(n _ d).2.1,λx H2 s2 hp=>?_⟩)⟩⟩;exact k x H2 (m.trans s2) (by unfold pOf;rw[if_pos ⟨h,d⟩];exact hp)
    ·have d:(t.2.1,t.2.2)∉v:=λz=>d (wQ z);exact aM _ _ ⟨rfl,m,if_neg λz=>d z.2⟩
   ·have h:t.1≠"tie":=λz=>h (wQ (congrArg V.str z));show (if false=true then _ else _);rw[if_neg (by decide)];exact aM _ _ ⟨rfl,Same.refl H,if_neg λz=>h z.1⟩
  ·rintro σ H1 ⟨rfl,m,L⟩;refine⟨_,rfl,.tup (.of (m _ _ u)) rfl ⟨_,rfl,a,t,rfl,Rt.same m,λH2 s2=>aB ⟨szl 2,λx X=>?_⟩⟩⟩;have W:=m.trans s2;refine nw X λH3 s3 e3=>?_;have g:=W.trans s3;refine⟨_,rfl,.tup (.of (g _ _ hq)) rfl ⟨d4,a1,_,aK ((t.1,bV t):Str × Str),rfl,g _ _ N,U.same g,bx e3,I,cJ ⟨D.1,Z⟩,(by show 1<=16;decide),_,rfl,?_⟩⟩;rw[if_neg (show ¬ false=true by decide),gh];refine aD (λd=>?_) (λd=>?_)
   ·have d:=xf d;rw[if_pos d] at L;refine⟨_,rfl,_,rfl,q,a,Y,y,v,O,o,t,rfl,R.same g,T,Rt.same g,(p _ d).2,λx H4 s4 hp=>?_⟩;exact k x H4 (g.trans s4) (by rw[L];exact hp)
   ·have d:(t.1,bV t)∉o:=λz=>d (wQ z);rw[if_neg d] at L;refine aX ?_;exact k _ H3 g (by rw[L];rfl)
theorem gT {te:TE}{l:Addr}{xs:LV}{fr:List Nat}{σ aM:St}{H:Hp}{Q:VK}(ys:LV) (q:ys.length=xs.length) (r:H l=some (.lst xs)) (p:cS 1 fr σ=none::aM) (t:xs.length<=1000)
    (j:∀(i:Nat) (x y:V),xs[i]? = some x->ys[i]? = some y->∀H' Q,Same H H'->(∀H2,Same H' H2->Q y H2)->te (some x::aM) H' Q) (k:∀D H',Same H H'->H D=none->H' D=some (.lst ys)->Q (.ref D) H'):cr 1 fr (cg 0) gR te (Itl K l) σ H Q:=by
 let e:Addr->Nat->LV->SH:=λD i d b H'=>∃o,b=o::aM/\d=ys.take i/\Same H H'/\H D=none
 refine cP xs e λD n=>⟨?_,?_,?_,?_⟩
 ·exact⟨none,p,rfl,Same.new n,n⟩
 ·rintro i d b H' _ ⟨o,rfl,_,g,_⟩ _;exact .of (g _ _ r)
 ·rintro i d b H' x m ⟨o,rfl,rfl,g,c⟩ a;have s:=(wO.mp m).1;obtain⟨y,f⟩:∃y,ys[i]? = some y:=⟨_,wS (by omega)⟩
  refine gs ?_;refine j i x y m f H' _ g λH2 h=>?_;exact⟨h _ _ a,by rw[xx];exact aH (by omega),_,rfl,by rw[xg,f];rfl,bu (g.trans h) c,c⟩
 ·rintro d b H2 ⟨o,rfl,rfl,h,c⟩ a;rw[<- q,xk (wM _)] at a;exact k D H2 h c a
theorem pF {te:TE}{a b:Addr}{xs ys:LV}{fr:List Nat}{σ aM:St}{H:Hp}{Q:VK}(g:LV) (w:g.length=(xs.zip ys).length) (u:H a=some (.lst xs)) (C:H b=some (.lst ys)) (v:cS 1 fr σ=none::aM) (G:xs.length<=1000)
    (r:∀(i:Nat) (x y z:V) (p:Addr),(xs.zip ys)[i]? = some (x,y)->g[i]? = some z->∀H' Q,Same H H'->H' p=some (.tup [x,y])->(∀H2,Same H' H2->Q z H2)->te (some (.ref p)::aM) H' Q) (k:∀D H',Same H H'->H D=none->H' D=some (.lst g)->Q (.ref D) H'):cr 1 fr (cg 0) gR te (Itz K a b) σ H Q:=by
 have I:(xs.zip ys).length<=1000:=by rw[xD];omega
 let j:Addr->Nat->LV->SH:=λD i d e H'=>∃o,e=o::aM/\d=g.take i/\Same H H'/\H D=none
 refine qX xs ys j λD s=>⟨?_,?_,?_,?_⟩
 ·exact⟨none,v,rfl,Same.new s,s⟩
 ·rintro i d e H' _ ⟨o,rfl,_,m,_⟩ _;exact⟨.of (m _ _ u),.of (m _ _ C)⟩
 ·rintro i d e H' x y p h ⟨o,rfl,rfl,m,f⟩ c E;have A:=(wO.mp h).1;obtain⟨z,l⟩:∃z,g[i]? = some z:=⟨_,wS (by omega)⟩
  refine nw E λH2 q B=>?_;refine gs ?_;refine r i x y z p h l H2 _ (m.trans q) B λF t=>?_;have n:=q.trans t;exact⟨n _ _ c,by rw[xx];exact aH (by omega),_,rfl,by rw[xg,l];rfl,bu (m.trans n) f,f⟩
 ·rintro d e H2 ⟨o,rfl,rfl,q,f⟩ c;rw[<- w,xk (wM _)] at c;exact k D H2 q f c
def lT (qs:List T3):Prop:=∃z∈qs.map (·.1),∀x∈qs.map (·.1),x=z
def oH (qs:List T3):Prop:=∀e∈qs.zip (qs.drop 1),e.1.2.2=e.2.2.1
def hI (qs:List T3):Prop:=lT qs/\oH qs/\(qs.map (·.2.1)).Nodup
def fE (ps:List (Option T3)):Prop:=∃qs,ps=qs.map some/\hI qs
def PsH (H:Hp) (l:Addr) (ps:List (Option T3)):Prop:=∃refs,H l=some (.lst refs)/\RepAll H refs (ps.map dS)
def KtO (ps:List (Option T3)):Prop:=∀t,some t∈ps->Kt t
def ja:Sp:=λvs H Q _=>∃(l:Addr) (ps:List (Option T3)),vs=[.ref l]/\PsH H l ps/\KtO ps/\ps.length<=200/\∀H',Same H H'->Q (.bl (di (fE ps))) H'
theorem some_of:∀ps:List (Option T3),none∉ps->∃qs:List T3,ps=qs.map some
 | [],_=>⟨[],rfl⟩
 | none::_,h=>absurd (.head _) h
 | some t::ps,h=>let ⟨qs,e⟩:=some_of ps λz=>h (.tail _ z);⟨t::qs,by rw[e];rfl⟩
theorem cH {q z:List T3}(h:q.map some=z.map some):q=z:=by
 have:=congrArg (List.filterMap id) h;simpa [List.filterMap_map] using this
theorem tI (h:KtO ps):PyData.canLayAll0 (ps.map dS)=true:=by
 induction ps with
 | nil=>rfl
 | cons o ps ih =>
  have a:PyData.canLay0 (dS o)=true:=(Bool.and_eq_true_iff.mp (nh (o:=o) λt e=>h t (by rw[e];exact .head _))).1;show (PyData.canLay0 (dS o)&&PyData.canLayAll0 (ps.map dS))=true;rw[a,ih λt b=>h t (.tail _ b)];rfl
theorem rP (ps:List (Option T3)):((ps.map dS).any λe=>PyData.eqv e .none)=decide (none∈ps):=by
 induction ps with
 | nil=>rfl
 | cons o ps ih =>
  rw[xr,xR,ih];cases o with
  | none=>simp[dS,PyData.eqv]
  | some t=>simp[dS,PyData.eqv]
theorem iF {z:LV}{B:List T3}(c:RepAll H z ((B.map some).map dS)) {i:Nat}(f:z[i]? = some x):∃t q,B[i]? = some t/\x=.ref q/\H q=some (.tup [.str t.1,.str t.2.1,.str t.2.2]):=by
 obtain⟨o,b,d⟩:=dL c f;rw[wW] at b;cases q:B[i]? with
 | none=>rw[q] at b;cases b
 | some t =>
  rw[q] at b;cases b;obtain⟨a,e,g⟩:=eT d;exact⟨t,a,rfl,e,g⟩
theorem iu (h:xs.getLast? = some v):atI xs (-1)=some v:=by
 obtain⟨a,rfl⟩:=List.getLast?_eq_some_iff.mp h;exact iT a v
theorem nT {q:List T3}:fE (q.map some) ↔ hI q:=⟨λ⟨_,e,z⟩=>cH e ▸ z,λz=>⟨q,rfl,z⟩⟩
theorem scIsLine:FnScope ["parts"] ["parts"] (am fZ):=⟨rfl,rfl,rfl,by decide +kernel,rfl,by decide +kernel,by decide +kernel⟩
theorem qu (F:Fun K "is_line" "is_line" fZ f fd) (B:Blt mg) (Zz:mg "zip"=none) (Zs:mg "set"=none) (d:Cal P w K mg base 2 "are_unlike" ["things"] sv):FnOk P w K mg base CX0 3 f fd ["parts"] ja := by
 refine F.ok scIsLine (λvs H Q E h=>?_) (λa6 A W s H vs Q E o h=>?_)
 ·obtain⟨l,Y,rfl,_⟩:=h
  rfl
 ·obtain⟨l, Y, rfl, ⟨j, C, rp⟩, kt, pl, k⟩ := h;have nd:=scIsLine.nd;have N:=rp.len;rw[wK] at N;refine⟨_,(ae (aU (PW.pt (cM (ak (fH K o.units) bj (pv 0) (by with_unfolding_all rfl)) (cA (ak (cI o.units) (uG B (aa (uY K rfl Zs (aa (cp (am fZ) ["parts"] [] "part" [] (be K (pv 0)) bT (af (ah K o.units) (pv 0) ac (λ_ _=>rfl))) ab)) ab)) ac (aw _))))) (ag (av dU)) aF)
   (ae (aU (gp (eS (oA rfl B (aa (cp (am fZ) ["parts"] [] "pair" [] (pE K rfl Zz (aa (pv 0) (aa (bq (eX K) (pv 0) (bi ac) ce) ab))) bT (eR (aY o.units) (af (ah K o.units) (af (ah K o.units) (pv 0) ac (λ_ _=>rfl)) ac (λ_ _=>rfl)) (af (ah K o.units) (af (ah K o.units) (pv 0) ac (λ_ _=>rfl)) ac (λ_ _=>rfl)) (aw _))) ab)))) (ag (av dU)) aF)
   (ag (av (ai d (o.mono (by decide)) rfl (aa (cp (am fZ) ["parts"] [] "part" [] (be K (pv 0)) bT (af (ah K o.units) (pv 0) ac (λ_ _=>rfl))) ab)))))),?_⟩
  refine⟨_,rfl,.tr C rp .non (tI kt) rfl (by decide) ⟨_,rfl,?_⟩⟩;rw[if_neg (show ¬ false=true by decide),rP];refine aD (λh=>?_) (λh=>?_)
  ·have h:=xf h;show (if true=true then _ else _);rw[if_pos rfl];rw[dw (show ¬ fE Y from λ⟨c,e,_⟩=>by rw[e] at h;simp at h)] at k;exact k H (Same.refl H)
  ·have h:none∉Y:=λz=>h (wQ z);obtain⟨c,rfl⟩:=some_of _ h;have ql:c.length<=200:=by simpa using pl
   rw[wK] at N;have X:fE (c.map some) ↔ hI c:=nT;have T:∀ {n:Hp},Same H n->∀ {i:Nat} {x:V},j[i]? = some x->∃t q,c[i]? = some t/\x=.ref q/\n q=some (.tup [.str t.1,.str t.2.1,.str t.2.2]):=λv i x L=>iF (rp.same v) L;refine⟨_,rfl,_,rfl,⟨_,.of C⟩,?_⟩;refine gT (c.map λt=>V.str t.1) (by rw[wK,N]) C rfl (by omega) (λi x y L J n Q v q=>?_) λD H1 s1 a7 hD=>?_
   ·obtain⟨t,a,R,rfl,O⟩:=T v L;rw[wW,R] at J;cases J;exact⟨_,rfl,.tup (.of O) rfl (q n (Same.refl n))⟩
   refine aB ⟨D,c.map (·.1),rfl,.of (by rw[List.map_map];exact hD),by rw[wK];omega,λsl P' w' S U=>aB ⟨sl,P',w',S,_,rfl,aj,.sc rfl ⟨_,rfl,?_⟩⟩⟩;refine nw U λH2 s2 _=>?_;have I:=s1.trans s2;have one:decide (V.int ((dl (c.map (·.1)).reverse:Nat):Int)=V.int 1)=true ↔ lT c:=by
    rw[decide_eq_true_iff];unfold lT;have:dl (c.map (·.1)).reverse=1 ↔ ∃z∈c.map (·.1),∀x∈c.map (·.1),x=z:=by rw[pC];simp only[yo]
    rw[<- this];exact⟨λz=>Int.ofNat.inj (V.int.inj z),λz=>by rw[z];rfl⟩
   rw[if_pos rfl];refine aD (λh=>?_) (λh=>?_)
   ·have h:¬ lT c:=λz=>by rw[one.mpr z] at h;cases h
    rw[dw (show ¬ fE (c.map some) from λz=>h (X.mp z).1)] at k;exact k H2 I
   have h1:lT c:=Classical.byContradiction λz=>h (by rw[show decide (V.int ((dl (c.map (·.1)).reverse:Nat):Int)=V.int 1)=false from Bool.eq_false_iff.mpr λy=>z (one.mp y)];rfl);refine aX ?_;dsimp only;have rz:(j.zip (j.drop 1)).length=(c.zip (c.drop 1)).length:=by simp[xD,N]
   have a1:=I _ _ C;refine⟨_,rfl,_,rfl,_,rfl,.lst (.of a1) λl2 M=>?_⟩;rw[show (1:Int)=((1:Nat):Int) from rfl,dG];refine nw M λH3 s3 e3=>?_;have g:=I.trans s3;refine aB ⟨l,l2,_,_,rfl,.of (g _ _ C),.of e3,?_⟩;refine pF ((c.zip (c.drop 1)).map λe=>V.bl (decide (e.1.2.2=e.2.2.1))) (by rw[wK,rz]) (g _ _ C) e3 rfl (by omega) (λi x y z p r hz n Q v hp q=>?_) λD2 H4 s4 a5 a3=>?_
   ·rw[xv] at r;obtain⟨t,a,R,rfl,O⟩:=T (g.trans v) r.1;rw[xA] at r;obtain⟨u,b,hu,rfl,hb⟩:=T (g.trans v) r.2;have a2:(c.zip (c.drop 1))[i]? = some (t,u):=by rw[xv,xA];exact⟨R,hu⟩
    rw[wW,a2] at hz;cases hz;refine⟨_,rfl,.tup (.of hp) rfl (.tup (.of O) rfl ⟨_,rfl,.tup (.of hp) rfl (.tup (.of hb) rfl (.sc rfl ?_))⟩)⟩;rw[if_neg (show ¬ false=true by decide),show decide (V.str t.2.2=V.str u.2.1)=decide (t.2.2=u.2.1) from by rw[xp,decide_eq_true_iff,decide_eq_true_iff];exact⟨V.str.inj,congrArg _⟩];exact q n (Same.refl n)
   have m:=g.trans s4;refine aB ⟨D2,(c.zip (c.drop 1)).map λe=>decide (e.1.2.2=e.2.2.1),rfl,by rw[List.map_map];exact a3,_,rfl,?_⟩;have G:((c.zip (c.drop 1)).map λe=>decide (e.1.2.2=e.2.2.1)).all id=true ↔ oH c:=by
    rw[xM];exact⟨λh e Z=>xf (h _ (wX.mpr ⟨e,Z,rfl⟩)),λh b hb=>let ⟨e,Z,eb⟩:=wX.mp hb;eb ▸ wQ (h e Z)⟩
   generalize ((c.zip (c.drop 1)).map λe=>decide (e.1.2.2=e.2.2.1)).all id=tb at G ⊢;refine aD (λh=>?_) (λh=>?_)
   ·have h:¬ oH c:=λz=>by rw[G.mpr z] at h;cases h
    rw[dw (show ¬ fE (c.map some) from λz=>h (X.mp z).2.1)] at k;exact k H4 m
   have h2:oH c:=G.mp (by cases tb with | true=>rfl | false=>exact absurd rfl h);refine aX ?_;dsimp only;refine⟨_,rfl,_,rfl,⟨_,.of (m _ _ C)⟩,?_⟩;refine gT (c.map λt=>V.str t.2.1) (by rw[wK,N]) (m _ _ C) rfl (by omega) (λi x y L J n Q v q=>?_) λD3 H5 s5 a4 a0=>?_
   ·obtain⟨t,a,R,rfl,O⟩:=T (m.trans v) L;rw[wW,R] at J;cases J;exact⟨_,rfl,.tup (.of O) rfl (q n (Same.refl n))⟩
   refine aB ⟨D3,c.map (·.2.1),rfl,by rw[List.map_map];exact a0,by rw[wK];omega,λH6 s6=>?_⟩;rw[show decide ((c.map (·.2.1)).Nodup)=di (fE (c.map some)) from by
    rw[xp,decide_eq_true_iff,fA,X];exact⟨λz=>⟨h1,h2,z⟩,λz=>z.2.2⟩]
   exact k H6 ((m.trans s5).trans s6)
def cG (ps:List (Option T3)):Prop:=∃qs,ps=qs.map some/\hI qs/\qs.getLast?.map (·.2.2)=qs.head?.map (·.2.1)
def fR:Sp:=λvs H Q _=>∃(l:Addr) (ps:List (Option T3)),vs=[.ref l]/\PsH H l ps/\KtO ps/\ps.length<=200/\ps≠[]/\∀H',Same H H'->Q (.bl (di (cG ps))) H'
theorem scIsClosed:FnScope ["parts"] ["parts"] (am hY):=⟨rfl,rfl,rfl,by decide +kernel,rfl,by decide +kernel,by decide +kernel⟩
theorem mC (F:Fun K "is_closed" "is_closed" hY f fd) (B:Blt mg) (b:Cal P w K mg base 3 "is_line" ["parts"] ja):FnOk P w K mg base CX0 4 f fd ["parts"] fR := by
 refine F.ok scIsClosed (λN H Q E h=>?_) (λW A t s H N Q E d h=>?_)
 ·obtain⟨l,o,rfl,_⟩:=h
  rfl
 ·obtain⟨l, o, rfl, G, T, O, U, k⟩ := h;have Y:=scIsClosed.nd;refine⟨_,(ag (av (vV (ai b (d.mono (by decide)) rfl (aa (pv 0) ab)) (uM (eR (aY d.units) (af (ah K d.units) (af (ah K d.units) (pv 0) (dN de ac) (λ_ _=>rfl)) ac (λ_ _=>rfl)) (af (ah K d.units) (af (ah K d.units) (pv 0) ac (λ_ _=>rfl)) ac (λ_ _=>rfl)) (aw _)))))),?_⟩;refine⟨_,rfl,l,o,rfl,G,T,O,λD n=>⟨_,rfl,?_⟩⟩;obtain⟨a,M,q⟩:=G;by_cases e:fE o
  ·rw[nM e, if_pos rfl];obtain⟨g,rfl,z⟩:=e;have C:=q.len;rw[wK,wK] at C;have Z:0<g.length:=by
    cases g with
    | nil=>exact absurd rfl U
    | cons=>exact x4 _
   have v:a[0]? = some a[0]:=wS (by omega);have r:a[a.length-1]? = some a[a.length-1]:=wS (by omega);have m:=n _ _ M;obtain⟨I,X,i,R,x⟩:=iF (q.same n) v;obtain⟨L,a1,c,J,p⟩:=iF (q.same n) r;rw[C,<- xO] at c;rw[<- xO,J] at r;rw[R] at v;have S:decide (V.str L.2.2=V.str I.2.1)=di (cG (g.map some)):=by
    rw[xp,decide_eq_true_iff,fA];refine⟨λy=>⟨g,rfl,z,?_⟩,λ⟨rs,y,_,u⟩=>?_⟩
    ·rw[c,xJ,i];exact congrArg some (V.str.inj y)
    ·rw[<- cH y,c,xJ,i] at u;exact congrArg V.str (wR u)
   refine⟨_,rfl,_,rfl,.lst (.of m) (iu r) (.tup (.of p) rfl ⟨_,rfl,.lst (.of m) (bf (j:=0) v) (.tup (.of x) rfl (.sc rfl ?_))⟩)⟩;rw[if_neg (show ¬ false=true by decide),S];exact k D n
  ·rw[dw e,if_neg (by decide)];rw[dw (show ¬ cG o from λ⟨g,y,z,_⟩=>e ⟨g,y,z⟩)] at k;exact k D n
theorem lV {te:TE}{l:Addr}{xs:LV}{fr:List Nat}{σ aM:St}{H:Hp}{Q:VK}(h:List (Option T3)) (z:h.length=xs.length) (s:H l=some (.lst xs)) (t:cS 1 fr σ=none::aM) (B:xs.length<=1000)
    (p:∀(i:Nat) (x:V) (o:Option T3),xs[i]? = some x->h[i]? = some o->∀H' Q,Same H H'->(∀v H2,Same H' H2->PrtV H2 v o->Q v H2)->te (some x::aM) H' Q) (k:∀D H',Same H H'->H D=none->PsH H' D h->Q (.ref D) H'):cr 1 fr (cg 0) gR te (Itl K l) σ H Q:=by
 let g:Addr->Nat->LV->SH:=λD i c d H'=>∃o,d=o::aM/\RepAll H' c ((h.take i).map dS)/\Same H H'/\H D=none
 refine cP xs g λD r=>⟨?_,?_,?_,?_⟩
 ·exact⟨none,t,.nil,Same.new r,r⟩
 ·rintro i c d H' _ ⟨o,rfl,_,n,_⟩ _;exact .of (n _ _ s)
 ·rintro i c d H' x q ⟨o,rfl,f,n,e⟩ b;have u:=(wO.mp q).1;obtain⟨y,j⟩:∃y,h[i]? = some y:=⟨_,wS (by omega)⟩
  have A:=f.len;rw[wK,xx] at A;refine gs ?_;refine p i x y q j H' _ n λv H2 m w=>?_;have a:=m _ _ b;refine⟨a,aH (by omega),_,rfl,?_,bu (n.trans m) e,e⟩;rw[xg,j,wZ];exact RepAll.append (aS (jH a But.upd) (f.same m)) (.cons (jH a But.upd (iw w)) .nil)
 ·rintro c d H2 ⟨o,rfl,f,m,e⟩ b;rw[<- z,xk (wM _)] at f;exact k D H2 m e ⟨c,b,f⟩
theorem qt (T:Tre us ks) (a:cV us ks ts) (h:K3 s) (e:pOf ks ts wn s=some t):Kt t := by
 unfold pOf at e
 split at e
 ·next z=>exact kx T (a _ z.2).1 (a _ z.2).2.1 e
 ·split at e
  ·unfold pwO at e
   split at e
   ·next k q =>
    split at e
    ·cases e
    ·cases e;exact⟨(T.sub k (yC q)).imp id (T.nm _),h.2.1,h.2.2⟩
   ·cases e
  ·cases e
theorem wf (T:Tre us ks) (h:K3 s) (e:pwO ks s=some t):Kt t := by
 unfold pwO at e
 split at e
 ·next k q =>
  split at e
  ·cases e
  ·cases e;exact⟨(T.sub k (yC q)).imp id (T.nm _),h.2.1,h.2.2⟩
 ·cases e
theorem kJ {K:W.Frag}{σ:St}{H I:Hp}{Q:VK}{D:Ends}{q d O:Addr}{v:V}{us:LS}{ks:Kn}{ts J wn:Prs}{G:List T3}{o:Option T3}{aM:St}(R:Rep H (.ref q) (aZ ks ts J wn)) (T:Tre us ks) (c:cV us ks ts) (g:fm us wn)
    (n:∀s∈G,K3 s) (sl:G.length<=190) (A:Same H I) (pv:PrtV I v o) (U:∀t,o=some t->Kt t) (hd:I d=some (.lst [v])) {B:LV} (X:I O=some (.lst (B.drop 1))) (C:RepAll H B (G.map t3D))
    (hs:cS 1 [0] σ=none::some (.ref q)::aM) (Y:∀l H',D.nx (σ.set 4 (some (.ref l))) H'=uJ (iA fR [] E0 (bJ (dD 4) fg)) { nx:=λ_ H'=>Q V.non H',rt:=Q } (σ.set 4 (some (.ref l))) H') (hl:4<σ.length)
    (k:∀H',Same H H'->Q (.bl (di (cG (o::(G.drop 1).map (pOf ks ts wn))))) H') :
    cr 1 [0] (cg 0) gR (iA gn [] E0 (bJ (dD 1) (bJ (dD 0) fg))) (Itl K O) σ I λy H2=>AddR H2 (.ref d) y λx H1=>cg 4 x σ H1 D.nx:=by
 have u:=C.len;rw[wK] at u;refine lV ((G.drop 1).map (pOf ks ts wn)) (by rw[wK,xu,xu,u]) X hs (by rw[xu];omega) (λi x e L r H' Q' sm Z=>?_) λD2 H6 F a0 ⟨N,j,M⟩=>?_
 ·rw[xA] at L;obtain⟨t,f,w⟩:=dL C L;rw[wW,xA,f] at r;cases r;obtain⟨a,rfl,ha⟩:=eT w;have E:=A.trans sm;exact⟨_,rfl,_,rfl,q,a,us,ks,ts,J,wn,t,rfl,R.same E,T,c,g,w.same E,n t (wP f),λx H2 s2 m=>Z x H2 s2 m⟩
 ·have fl:=M.len;rw[wK,wK,xu] at fl;refine .lst (F _ _ hd) j (wV (by show 1+N.length<=1000;omega) (szl 1000)) λp m=>?_;refine nw m λH7 P S=>?_;have b:=F.trans P;refine au ?_;rw[Y];refine⟨_,by rw[List.getElem?_set_self hl],p,o::(G.drop 1).map (pOf ks ts wn),rfl,⟨v::N,S,.cons (iw (pv.same b)) (M.same P)⟩,λt f=>?_,by rw[xc,wK,xu];omega,(by intro z;cases z),λH8 s8=>k H8 ((A.trans b).trans s8)⟩;rcases wY.mp f with e | e
  ·exact U t e.symm
  ·obtain⟨s,h,e⟩:=wX.mp e;exact qt T c (n s (yx h)) e
def jX (ks:Kn) (ts wn:Prs) (one other:Str) (ss:List T3):Prop:=2<=ss.length/\ss.head? = some (("tie":Str),one,other)/\cG (bt ks one other::(ss.drop 1).map (pOf ks ts wn))
def kB:Sp:=λvs H Q _=>∃(q r:Addr) (us:LS) (ks:Kn) (ts ws wn:Prs) (one other:Str) (ss:List T3),vs=[.ref q,.str one,.str other,.ref r]/\Rep H (.ref q) (aZ ks ts ws wn)/\Tre us ks/\cV us ks ts/\fm us wn/\one∈us/\other∈us/\RgH H r ss/\(∀s∈ss,K3 s)/\ss.length<=190/\∀H',Same H H'->Q (.bl (di (jX ks ts wn one other ss))) H'
theorem scTieRing:FnScope ["house","one","other","ring","parts"] ["house","one","other","ring"] (am fQ):=⟨rfl,rfl,rfl,by decide +kernel,rfl,by decide +kernel,by decide +kernel⟩
theorem oE {f:Addr}{fd:FuncData}(F:Fun K "is_tie_ring" "is_tie_ring" fQ f fd) (B:Blt mg) (b:Cal P w K mg base 2 "are_steps" ["ring"] fO) (g:Cal P w K mg base 3 "parting" ["house", "one", "other"] mu) (m:Cal P w K mg base 4 "part_of" ["house", "step"] gn) (c:Cal P w K mg base 4 "is_closed" ["parts"] fR):FnOk P w K mg base CX0 5 f fd ["house", "one", "other", "ring"] kB := by
 refine F.ok scTieRing (λvs H Q E h=>?_) (λa2 A X s H vs Q E n h=>?_)
 ·obtain⟨q,r,us,p,D,ws,C,one,a,x,rfl,_⟩:=h
  rfl
 ·obtain⟨q,r,us,p,D,ws,C,one,a,x,rfl,R,T,Y,O,V,h2,G,k3,sl,k⟩:=h;have nd:=scTieRing.nd;refine⟨_,(ae (aU (PW.pt (cM (gp (eS (ai b (n.mono (by decide)) rfl (aa (pv 3) ab)))) (cA (ak (cI n.units) (af (ah K n.units) (pv 3) ac (λ_ _=>rfl)) (aL (aa aR (aa (pv 1) (aa (pv 2) ab)))) (aw _))))) (ag (av dU)) aF)
   (ae (ao (i:=4) nd rfl (Or.inl rfl) (aG aT (aQ (aa (ai g (n.mono (by decide)) rfl (aa (pv 0) (aa (pv 1) (aa (pv 2) ab)))) ab)) (cp (am fQ) ["house","one","other","ring","parts"] [0] "step" ["house"] (be K (bq (eX K) (pv 3) (bi ac) ce)) bT (ai m (n.mono (by decide)) rfl (aa (pv 1) (aa (pv 0) ab))))))
   (ag (av (ai c (n.mono (by decide)) rfl (aa (pv 4) ab)))))),?_⟩
  refine⟨_,rfl,r,x,rfl,G,by omega,λH1 L=>⟨_,rfl,?_⟩⟩;obtain⟨o,n,U⟩:=G;have rl:=U.len;rw[wK] at rl;by_cases M:2<=x.length
  case neg =>
   rw[xi M];show (if true=true then _ else _);rw[if_pos rfl];rw[dw (show ¬ jX p D C one a x from λz=>M z.1)] at k;exact k H1 L
  rw[wQ M];show (if false=true then _ else _);rw[if_neg (by decide)];have h0:o[0]? = some o[0]:=wS (by omega);obtain⟨t,J,N⟩:=dL (U.same L) h0;obtain⟨a0,e0,a3⟩:=eT N;rw[e0] at h0 N;have tk:=k3 t (wP J);rw[<- xJ] at J;refine⟨_,rfl,.lst (.of (L _ _ n)) (bf (j:=0) h0) ⟨_,rfl,_,rfl,szl 3,λy hy=>?_⟩⟩;refine nw hy λH2 s2 Z=>?_;have u:=L.trans s2;refine .tr (N.same s2) (dy (t:=(("tie":Str),one,a)) Z) (jF ⟨.inr tk.1,tk.2⟩) (jF ⟨.inr ik,T.nm _ V,T.nm _ h2⟩) ⟨_,rfl,?_⟩;rw[if_pos rfl,show PyData.eqv (t3D t) (t3D (("tie":Str),one,a))=decide (some t=some (("tie":Str),one,a)) from nu (some t) _];refine aD (λh=>?_) (λh=>?_)
  ·have h:some t≠some (("tie":Str),one,a):=by simpa using h
   rw[dw (show ¬ jX p D C one a x from λz=>h (J.symm.trans z.2.1))] at k;exact k H2 u
  have h:some t=some (("tie":Str),one,a):=Classical.byContradiction λz=>h (by rw[xi z];rfl);refine aX ?_;dsimp only;refine⟨_,rfl,_,rfl,_,rfl,q,us,p,D,ws,C,one,a,rfl,R.same u,T,V,h2,λv H3 s3 pv=>aB ⟨szl 1,λd hd=>?_⟩⟩;refine nw hd λH4 s4 e4=>?_;have I:=(u.trans s3).trans s4;refine⟨_,rfl,_,rfl,.lst (.of (I _ _ n)) λl2 W=>?_⟩;rw[show (1:Int)=((1:Nat):Int) from rfl,dG];refine nw W λH5 S e5=>?_;have a1:=I.trans S;refine⟨_,rfl,⟨_,.of e5⟩,?_⟩;refine kJ (Q:=Q) R T Y O k3 sl a1 (pv.same (s4.trans S)) (λt e=>kx T V h2 e) (S _ _ e4) e5 U rfl (λl H'=>rfl) (show 4<5 by decide) λH' sm=>?_;rw[show di (cG (bt p one a::(x.drop 1).map (pOf p D C)))=di (jX p D C one a x) from by
   rw[xp,fA,fA];exact⟨λz=>⟨M,J.trans h,z⟩,λz=>z.2.2⟩]
  exact k H' sm
def hJ (ks:Kn) (ts wn:Prs) (word one:Str) (ss:List T3):Prop:=2<=ss.length/\∃s,ss.head? = some s/\s.1=word/\bV s=one/\cG (pwO ks s::(ss.drop 1).map (pOf ks ts wn))
def ju:Sp:=λvs H Q _=>∃(q r:Addr) (us:LS) (ks:Kn) (ts ws wn:Prs) (word one:Str) (ss:List T3),vs=[.ref q,.str word,.str one,.ref r]/\Rep H (.ref q) (aZ ks ts ws wn)/\Tre us ks/\cV us ks ts/\fm us wn/\one∈us/\RgH H r ss/\(∀s∈ss,K3 s)/\ss.length<=190/\∀H',Same H H'->Q (.bl (di (hJ ks ts wn word one ss))) H'
theorem scWantRing:FnScope ["house","word","one","ring","parts"] ["house","word","one","ring"] (am fB):=⟨rfl,rfl,rfl,by decide +kernel,rfl,by decide +kernel,by decide +kernel⟩
theorem mJ (F:Fun K "is_want_ring" "is_want_ring" fB f fd) (B:Blt mg) (c:Cal P w K mg base 2 "are_steps" ["ring"] fO) (n:Cal P w K mg base 1 "wanting" ["step"] gv) (b:Cal P w K mg base 3 "part_of_want" ["house", "step"] kw) (o:Cal P w K mg base 4 "part_of" ["house", "step"] gn) (g:Cal P w K mg base 4 "is_closed" ["parts"] fR):FnOk P w K mg base CX0 5 f fd ["house", "word", "one", "ring"] ju := by
 refine F.ok scWantRing (λvs H Q E h=>?_) (λa4 A Z s H vs Q E m h=>?_)
 ·obtain⟨q,r,us,u,I,ws,D,a,one,x,rfl,_⟩:=h
  rfl
 ·obtain⟨q,r,us,u,I,ws,D,a,one,x,rfl,R,T,a1,U,h1,L,k3,sl,k⟩:=h;have nd:=scWantRing.nd;refine⟨_,(ae (aU (PW.pt (cM (gp (eS (ai c (m.mono (by decide)) rfl (aa (pv 3) ab)))) (cM (ak (cI m.units) (af (ah K m.units) (af (ah K m.units) (pv 3) ac (λ_ _=>rfl)) ac (λ_ _=>rfl)) (pv 1) (aw _)) (cA (ak (cI m.units) (ai n (m.mono (by decide)) rfl (aa (af (ah K m.units) (pv 3) ac (λ_ _=>rfl)) ab)) (pv 2) (aw _)))))) (ag (av dU)) aF)
   (ae (ao (i:=4) nd rfl (Or.inl rfl) (aG aT (aQ (aa (ai b (m.mono (by decide)) rfl (aa (pv 0) (aa (af (ah K m.units) (pv 3) ac (λ_ _=>rfl)) ab))) ab)) (cp (am fB) ["house","word","one","ring","parts"] [0] "step" ["house"] (be K (bq (eX K) (pv 3) (bi ac) ce)) bT (ai o (m.mono (by decide)) rfl (aa (pv 1) (aa (pv 0) ab))))))
   (ag (av (ai g (m.mono (by decide)) rfl (aa (pv 4) ab)))))),?_⟩
  refine⟨_,rfl,r,x,rfl,L,by omega,λH1 G=>⟨_,rfl,?_⟩⟩;obtain⟨C,m,X⟩:=L;have rl:=X.len;rw[wK] at rl;by_cases S:2<=x.length
  case neg =>
   rw[xi S];show (if true=true then _ else _);rw[if_pos rfl];rw[dw (show ¬ hJ u I D a one x from λz=>S z.1)] at k;exact k H1 G
  rw[wQ S];show (if false=true then _ else _);rw[if_neg (by decide)];have N:C[0]? = some C[0]:=wS (by omega);obtain⟨t,J,O⟩:=dL X N;obtain⟨a0,e0,a3⟩:=eT O;rw[e0] at N O;have tk:=k3 t (wP J);rw[<- xJ] at J;refine⟨_,rfl,.lst (.of (G _ _ m)) (bf (j:=0) N) (.tup (.of (G _ _ a3)) rfl ⟨_,rfl,.sc rfl ⟨_,rfl,?_⟩⟩)⟩;rw[if_pos rfl];refine aD (λh=>?_) (λh=>?_)
  ·have h:t.1≠a:=λz=>by rw[z,wQ rfl] at h;cases h
   show (if true=true then _ else _);rw[if_pos rfl];rw[dw (show ¬ hJ u I D a one x from λ⟨_,s,e,z,_⟩=>by rw[J] at e;cases e;exact h z)] at k;exact k H1 G
  have ew:t.1=a:=Classical.byContradiction λz=>h (by rw[xi (λy=>z (V.str.inj y))];rfl);refine⟨_,rfl,.lst (.of (G _ _ m)) (bf (j:=0) N) (aB ⟨a0,t,rfl,O.same G,λH2 s2=>⟨_,rfl,.sc rfl ⟨_,rfl,?_⟩⟩⟩)⟩;have p:=G.trans s2;rw[if_pos rfl];refine aD (λh=>?_) (λh=>?_)
  ·have h:bV t≠one:=λz=>by rw[z,wQ rfl] at h;cases h
   rw[dw (show ¬ hJ u I D a one x from λ⟨_,s,e,_,z,_⟩=>by rw[J] at e;cases e;exact h z)] at k;exact k H2 p
  have eo:bV t=one:=Classical.byContradiction λz=>h (by rw[xi (λy=>z (V.str.inj y))];rfl);refine aX ?_;dsimp only;refine⟨_,rfl,_,rfl,.lst (.of (p _ _ m)) (bf (j:=0) N) (aB ⟨q,a0,us,u,I,ws,D,t,rfl,R.same p,T,O.same p,eo ▸ h1,λv H3 s3 pv=>aB ⟨szl 1,λd hd=>?_⟩⟩)⟩;refine nw hd λH4 s4 e4=>?_;have M:=(p.trans s3).trans s4;refine⟨_,rfl,_,rfl,.lst (.of (M _ _ m)) λl2 Y=>?_⟩;rw[show (1:Int)=((1:Nat):Int) from rfl,dG];refine nw Y λH5 W e5=>?_;have a2:=M.trans W;refine⟨_,rfl,⟨_,.of e5⟩,?_⟩;refine kJ (Q:=Q) R T a1 U k3 sl a2 (pv.same (s4.trans W)) (λt' e=>wf T tk e) (W _ _ e4) e5 X rfl (λl H'=>rfl) (show 4<5 by decide) λH' sm=>?_;rw[show di (cG (pwO u t::(x.drop 1).map (pOf u I D)))=di (hJ u I D a one x) from by
   rw[xp,fA,fA];exact⟨λz=>⟨S,t,J,ew,eo,z⟩,λ⟨_,s,e,_,_,z⟩=>by rw[J] at e;cases e;exact z⟩]
  exact k H' sm
def bd (wn:Prs) (mn:LS):Prs:=wn.filter λe=>!decide (e.2∈mn)
def cR (ks:Kn) (ts wn:Prs) (mn:LS) (ss:List T3):Prop:=2<=ss.length/\∃qs,ss.map (pOf ks ts (bd wn mn))=qs.map some/\hI qs/\(∃a b,qs.head? = some a/\qs.getLast? = some b/\a.1=bg ks (mn.getD 0 "")/\a.2.1∈mn/\b.2.2∈mn)/\∀p∈qs.drop 1,p.2.1∉mn
def iM:Sp:=λvs H Q _=>∃(q mem r:Addr) (us:LS) (ks:Kn) (ts ws wn:Prs) (mn:LS) (ss:List T3),vs=[.ref q,.ref mem,.ref r]/\Rep H (.ref q) (aZ ks ts ws wn)/\Tre us ks/\cV us ks ts/\fm us wn/\wn.length<=1000/\SqA H mem (List.map V.str mn)/\mn≠[]/\(∀m∈mn,m∈us)/\RgH H r ss/\(∀s∈ss,K3 s)/\ss.length<=190/\∀H',Same H H'->Q (.bl (di (cR ks ts wn mn ss))) H'
theorem scGroupRing:FnScope ["house","members","ring","rest","parts"] ["house","members","ring"] (am dE):=⟨rfl,rfl,rfl,by decide +kernel,rfl,by decide +kernel,by decide +kernel⟩
theorem mj (F:Fun K "is_group_ring" "is_group_ring" dE f fd) (B:Blt mg) (Zy:mg "any"=none) (J:Cal P w K mg base 2 "are_steps" ["ring"] fO) (c:Cal P w K mg base 1 "without_wants_of" ["house", "members"] kD) (N:Cal P w K mg base 4 "part_of" ["house", "step"] gn) (M:Cal P w K mg base 3 "is_line" ["parts"] ja) (S:Cal P w K mg base 2 "knot_of" ["house", "one"] jf):FnOk P w K mg base CX0 5 f fd ["house", "members", "ring"] iM := by
 refine F.ok scGroupRing (λvs H Q E h=>?_) (λc3 A b7 s H vs Q E I h=>?_)
 ·obtain⟨q,b0,r,us,m,G,ws,o,g,C,rfl,_⟩:=h
  rfl
 ·obtain⟨q,b0,r,us,m,G,ws,o,g,C,rfl,R,T,a9,b8,wl,hm,b6,a6,b1,k3,sl,k⟩:=h;have nd:=scGroupRing.nd;refine⟨_,(ae (aU (gp (eS (ai J (I.mono (by decide)) rfl (aa (pv 2) ab)))) (ag (av dU)) aF)
   (ae (ao (i:=3) nd rfl (Or.inr rfl) (ai c (I.mono (by decide)) rfl (aa (pv 0) (aa (pv 1) ab))))
   (ae (dA (i:=4) nd rfl rfl (by rfl) (am dE) ["house","members","ring","rest","parts"] ["step"] [3] ["step","rest"] rfl (be K (pv 2)) (λ_ _ _ _ _=>(aA (i:=0) (show (["step","rest"]:LS).Nodup by decide) rfl (Or.inl rfl))) (λ_ _ _ _ _=>bT) (λ_ _ _ _ _=>(ai N (I.mono (by decide)) rfl (aa (pv 1) (aa (pv 0) ab)))))
   (ae (aU (PW.pt (cM (gp (eS (ai M (I.mono (by decide)) rfl (aa (pv 4) ab)))) (cA (ak (cI I.units) (af (ah K I.units) (af (ah K I.units) (pv 4) ac (λ_ _=>rfl)) ac (λ_ _=>rfl)) (ai S (I.mono (by decide)) rfl (aa (pv 0) (aa (af (ah K I.units) (pv 1) ac (λ_ _=>rfl)) ab))) (aw _))))) (ag (av dU)) aF)
   (ae (aU (PW.pt (cM (ak (bw K I.units) (af (ah K I.units) (af (ah K I.units) (pv 4) ac (λ_ _=>rfl)) ac (λ_ _=>rfl)) (pv 1) (by with_unfolding_all rfl)) (cA (ak (bw K I.units) (af (ah K I.units) (af (ah K I.units) (pv 4) (dN de ac) (λ_ _=>rfl)) ac (λ_ _=>rfl)) (pv 1) (by with_unfolding_all rfl))))) (ag (av dU)) aF)
   (ag (av (uI (wH rfl Zy (aa (cp (am dE) ["house","members","ring","rest","parts"] [1] "part" ["members"] (be K (bq (eX K) (pv 4) (bi ac) ce)) bT (eR (fH K I.units) (af (ah K I.units) (pv 0) ac (λ_ _=>rfl)) (pv 1) (by with_unfolding_all rfl))) ab)))))))))),?_⟩
  refine⟨_,rfl,r,C,rfl,b1,by omega,λH1 s1=>⟨_,rfl,?_⟩⟩;obtain⟨c1,I,rp⟩:=b1;have rl:=rp.len;rw[wK] at rl;refine aD (λh=>?_) (λh=>aX ?_)
  ·have h:¬ 2<=C.length:=λz=>by rw[wQ z] at h;cases h
   rw[dw (show ¬ cR m G o g C from λz=>h z.1)] at k;exact k H1 s1
  have e2:2<=C.length:=Classical.byContradiction λz=>h (by rw[xi z];rfl);dsimp only;refine⟨_,rfl,_,rfl,q,b0,m,G,ws,o,g,rfl,R.same s1,hm.same s1,wl,λx H2 s2 Rx=>?_⟩;refine au ?_;dsimp only;have a4:=s1.trans s2;have a7:=a4 _ _ I;have a8:fm us (bd o g):=λe he=>b8 e (xn.mp he).1;refine⟨_,rfl,_,rfl,⟨_,.of a7⟩,?_⟩;refine lV (C.map (pOf m G (bd o g))) (by rw[wK,rl]) a7 rfl (by omega) (λi x' e hx he H' Q' sm qq=>?_) λD H3 s3 c4 X=>?_
  ·obtain⟨t,ht,rx⟩:=dL (rp.same a4) hx;rw[wW,ht] at he;cases he;obtain⟨a,rfl,ha⟩:=eT rx;exact⟨_,rfl,_,rfl,x,a,us,m,G,ws,bd o g,t,rfl,Rx.same sm,T,a9,a8,rx.same sm,k3 t (wP ht),λv H2 s2 X=>qq v H2 s2 X⟩
  refine au ?_;dsimp only;have b4:=a4.trans s3;have pl:(C.map (pOf m G (bd o g))).length<=190:=by rw[wK];exact sl
  have pe:2<=(C.map (pOf m G (bd o g))).length:=by rw[wK];exact e2
  have kt:KtO (C.map (pOf m G (bd o g))):=λt ht=>by
   obtain⟨s,hs,e⟩:=wX.mp ht;exact qt T a9 (k3 s hs) e
  have U:cR m G o g C ↔ ∃L,C.map (pOf m G (bd o g))=L.map some/\hI L/\(∃a b,L.head? = some a/\L.getLast? = some b/\a.1=bg m (g.getD 0 "")/\a.2.1∈g/\b.2.2∈g)/\∀p∈L.drop 1,p.2.1∉g:=⟨λz=>z.2,λz=>⟨e2,z⟩⟩
  generalize C.map (pOf m G (bd o g))=ps at X pl pe kt U;refine⟨_,rfl,D,ps,rfl,X,kt,by omega,λH4 s4=>⟨_,rfl,?_⟩⟩;have W:=b4.trans s4;obtain⟨fr,hD,fp⟩:=X;by_cases el:fE ps
  case neg =>
   rw[dw el];show (if true=true then _ else _);rw[if_pos rfl];rw[dw (show ¬ cR m G o g C from λz=>let ⟨L,e,l,_⟩:=U.mp z;el ⟨L,e,l⟩)] at k;exact k H4 W
  rw[nM el];show (if false=true then _ else _);rw[if_neg (by decide)];obtain⟨L,rfl,lp⟩:=el;have U:cR m G o g C ↔ (∃a b,L.head? = some a/\L.getLast? = some b/\a.1=bg m (g.getD 0 "")/\a.2.1∈g/\b.2.2∈g)/\∀p∈L.drop 1,p.2.1∉g:=U.trans ⟨λ⟨_,e,_,z⟩=>cH e ▸ z,λz=>⟨L,rfl,lp,z⟩⟩;have fl:=fp.len;rw[wK,wK] at fl;rw[wK] at pl pe;have a5:=s4 _ _ hD;have h0:fr[0]? = some fr[0]:=wS (by omega);have h1:fr[fr.length-1]? = some fr[fr.length-1]:=wS (by omega);obtain⟨Y,a0,a2,e0,b3⟩:=iF (fp.same s4) h0;obtain⟨t1,a1,Z,e1,b5⟩:=iF (fp.same s4) h1;rw[fl,<- xO] at Z;rw[<- xO,e1] at h1;rw[e0] at h0;rw[<- xJ] at a2;obtain⟨d,n,rfl⟩:∃d n,g=d::n:=by
   cases g with
   | nil=>exact absurd rfl b6
   | cons a b=>exact⟨a,b,rfl⟩
  have U:cR m G o (d::n) C ↔ (Y.1=bg m d/\Y.2.1∈d::n/\t1.2.2∈d::n)/\∀p∈L.drop 1,p.2.1∉d::n:=U.trans ⟨λ⟨⟨a,b,x,y,z⟩,u⟩=>⟨by rw[a2] at x;rw[Z] at y;cases x;cases y;exact z,u⟩,λ⟨z,u⟩=>⟨⟨Y,t1,a2,Z,z⟩,u⟩⟩;refine⟨_,rfl,.lst (.of a5) (bf (j:=0) h0) (.tup (.of b3) rfl ⟨_,rfl,_,rfl,wI (hm.same W) at0 (aB ⟨q,us,m,G,ws,o,d,rfl,R.same W,T,a6 d (.head _),λH5 s5=>.sc rfl ⟨_,rfl,?_⟩⟩)⟩)⟩;have O:=W.trans s5;rw[if_pos rfl];refine aD (λh=>?_) (λh=>aX ?_)
  ·have h:Y.1≠bg m d:=λz=>by rw[z,wQ rfl] at h;cases h
   rw[dw (show ¬ cR m G o (d::n) C from λz=>h (U.mp z).1.1)] at k;exact k H5 O
  have g1:Y.1=bg m d:=Classical.byContradiction λz=>h (by rw[xi (λy=>z (V.str.inj y))];rfl);dsimp only;have ni:∀z:Str,(if true=true then !inV (.str z) (List.map V.str (d::n)) else inV (.str z) (List.map V.str (d::n)))=!decide (z∈d::n):=λz=>by rw[if_pos rfl,fw]
  have a3:=s5 _ _ a5;refine⟨_,rfl,.lst (.of a3) (bf (j:=0) h0) (.tup (.of (s5 _ _ b3)) rfl ⟨_,rfl,.seq (lu (hm.same O)) rfl (bp _) ⟨_,rfl,?_⟩⟩)⟩;rw[ni];refine aD (λh=>?_) (λh=>?_)
  ·have h:Y.2.1∉d::n:=λz=>by rw[wQ z] at h;cases h
   show (if true=true then _ else _);rw[if_pos rfl];rw[dw (show ¬ cR m G o (d::n) C from λz=>h (U.mp z).1.2.1)] at k;exact k H5 O
  have g2:Y.2.1∈d::n:=Classical.byContradiction λz=>h (by rw[xi z];rfl);refine⟨_,rfl,_,rfl,.lst (.of a3) (iu h1) (.tup (.of (s5 _ _ b5)) rfl ⟨_,rfl,.seq (lu (hm.same O)) rfl (bp _) ⟨_,rfl,?_⟩⟩)⟩;rw[ni];refine aD (λh=>?_) (λh=>aX ?_)
  ·have h:t1.2.2∉d::n:=λz=>by rw[wQ z] at h;cases h
   rw[dw (show ¬ cR m G o (d::n) C from λz=>h (U.mp z).1.2.2)] at k;exact k H5 O
  have g3:t1.2.2∈d::n:=Classical.byContradiction λz=>h (by rw[xi z];rfl);dsimp only;refine⟨_,rfl,_,rfl,.lst (.of a3) λl2 c0=>?_⟩;rw[show (1:Int)=((1:Nat):Int) from rfl,dG];refine nw c0 λH6 s6 e6=>?_;have b2:=O.trans s6;refine⟨_,rfl,⟨_,.of e6⟩,?_⟩;refine gT ((L.drop 1).map λt=>V.bl (decide (t.2.1∈d::n))) (by rw[wK,xu,xu,fl]) e6 rfl (by rw[xu];omega) (λi x' y hx hy H' Q sm qq=>?_) λD3 H7 s7 c2 b9=>?_
  ·rw[xA] at hx;obtain⟨t,a,ht,rfl,ha⟩:=iF (fp.same (((s4.trans s5).trans s6).trans sm)) hx;rw[wW,xA,ht] at hy;cases hy;refine⟨_,rfl,.tup (.of ha) rfl ⟨_,rfl,.seq (lu (hm.same (b2.trans sm))) rfl (bp _) ?_⟩⟩;rw[if_neg (show ¬ false=true by decide),fw];exact qq H' (Same.refl H')
  refine aB ⟨D3,(L.drop 1).map λt=>decide (t.2.1∈d::n),rfl,by rw[List.map_map];exact b9,_,rfl,?_⟩;rw[show (!((L.drop 1).map λt=>decide (t.2.1∈d::n)).any id)=di (cR m G o (d::n) C) from by
   rw[xp,fA,U,Bool.not_eq_true',Bool.eq_false_iff,Ne,yl];refine⟨λz=>⟨⟨g1,g2,g3⟩,λp X y=>z ⟨true,wX.mpr ⟨p,X,wQ y⟩,rfl⟩⟩,λ⟨_,u⟩ ⟨b,hb,eb⟩=>?_⟩;obtain⟨p,X,e⟩:=wX.mp hb;subst e;exact u p X (xf eb)]
  exact k H7 (b2.trans s7)
def cY (ks:Kn) (ts wn:Prs) (t s:T3):Prop:=(s.1="tie"/\(s.2.1,s.2.2)∈ts/\bt ks s.2.1 s.2.2=some t)∨(s=(("first":Str),t.2.1,t.2.2)/\(("first":Str),t.2.1)∈wn)∨(s=(("last":Str),t.2.1,t.2.2)/\(("last":Str),t.2.2)∈wn)
def ip (ks:Kn) (t:T3) (e:Str × Str):Option T3:=if bt ks e.1 e.2=some t then some (("tie":Str),e.1,e.2) else none
def eZ (t:T3) (word one:Str) (e:Str × Str):Option T3:=if e=(word,one) then some (word,t.2.1,t.2.2) else none
def fK (ks:Kn) (ts wn:Prs) (t:T3):List T3:=ts.filterMap (ip ks t)++wn.filterMap (eZ t "first" t.2.1)++wn.filterMap (eZ t "last" t.2.2)
theorem mem_stepsL:s ∈ fK ks ts wn t ↔ cY ks ts wn t s := by
 unfold fK cY;rw[w8,w8,xQ,xQ,xQ];have c:∀(a one:Str),(∃e∈wn,eZ t a one e=some s) ↔ (s=(a,t.2.1,t.2.2)/\(a,one)∈wn):=λa one=>by
  constructor
  ·rintro⟨e,b,q⟩;unfold eZ at q
   split at q
   ·next z=>cases q;exact⟨rfl,z ▸ b⟩
   ·cases q
  ·rintro⟨rfl,h⟩;exact⟨_,h,if_pos rfl⟩
 rw[c,c,or_assoc];refine or_congr ⟨?_,?_⟩ Iff.rfl
 ·rintro⟨e,b,q⟩;unfold ip at q
  split at q
  ·next z=>cases q;exact⟨rfl,b,z⟩
  ·cases q
 ·rintro⟨d,g,f⟩;exact⟨_,g,by unfold ip;rw[if_pos f,<- d]⟩
theorem eF {ys:LV}(a:H p=some (.lst ys)) (b:But p H H') {q:LV}{z:List T3}(h:RepAll H q (z.map t3D)):RepAll H' q (z.map t3D):=aS (ey a b) h
theorem jZ {tc:TT}{te:TE}{l:Addr}{xs:LV}{fr:List Nat}{σ aM:St}{H:Hp}{Q:VK}(m:List (Option T3)) (J:m.length=xs.length) (E:H l=some (.tup xs)) (F:cS 1 fr σ=none :: aM) (M:xs.length <= 1000)
    (t:∀(i:Nat) (x:V) (o:Option T3),xs[i]? = some x->m[i]? = some o->∀H' (A:V->Hp->Prop) (N:Hp->Prop),Same H H'->(∀s v H2,o=some s->Same H' H2->Rep H2 v (t3D s)->A v H2)->(o=none->∀H2,Same H' H2->N H2)->tc (some x::aM) H' λb z=>if b=true then te (some x::aM) z A else N z)
    (k:∀D H',Same H H'->H D=none->RgH H' D (m.filterMap id)->Q (.ref D) H'):cr 1 fr (cg 0) tc te (Itt K l) σ H Q:=by
 let p:Addr->Nat->LV->SH:=λD i d h H'=>∃o,h=o::aM/\RepAll H' d (((m.take i).filterMap id).map t3D)/\Same H H'/\H D=none
 refine dC xs p λD B=>⟨?_,?_,?_,?_⟩
 ·exact⟨none,F,.nil,Same.new B,B⟩
 ·rintro i d h H' _ ⟨o,rfl,_,r,_⟩ _;exact .of (r _ _ E)
 ·rintro i d h H' x w ⟨o,rfl,n,r,g⟩ c;have G:=(wO.mp w).1;obtain⟨y,q⟩:∃y,m[i]? = some y:=⟨_,wS (by omega)⟩
  have L:=n.len;have C:=yB (f:=(id:Option T3->Option T3)) (l:=m.take i);rw[wK] at L;rw[xx] at C;have u:(m.take (i+1)).filterMap id=(m.take i).filterMap id++y.toList:=by
   rw[xg,q,List.filterMap_append];cases y <;> rfl
  refine t i x y w q H' _ _ r (λs v H2 e j I=>?_) λe H2 j=>?_
  ·have a:=j _ _ c;refine⟨a,aH (by omega),_,rfl,?_,bu (r.trans j) g,g⟩;rw[u,e,wZ];exact RepAll.append (eF a But.upd (n.same j)) (.cons (ey a But.upd I) .nil)
  ·refine⟨j _ _ c,_,rfl,?_,r.trans j,g⟩;rw[u,e,Option.toList_none,xH];exact n.same j
 ·rintro d h H2 ⟨o,rfl,n,j,g⟩ c;rw[<- J,xk (wM _)] at n;exact k D H2 j g ⟨d,c,n⟩
theorem mi (a:Nm e.1) (b:Nm e.2):shp (aK e):=by
 show ((PyData.canLay0 (.str e.1)&&(PyData.canLay0 (.str e.2)&&true))&&decide (PyData.depthAll (List.map PyData.str [e.1,e.2])+1<=64))=true;rw[cE a,cE b,gQ];rfl
def lK:Sp:=λvs H Q _=>∃(q:Addr) (us:LS) (ks:Kn) (ts ws wn:Prs) (t:T3),vs=[.ref q,.str t.1,.str t.2.1,.str t.2.2]/\Rep H (.ref q) (aZ ks ts ws wn)/\Tre us ks/\cV us ks ts/\fm us wn/\ts.length<=200/\wn.length<=122/\Kt t /\
 ∀l H',Same H H'->H l=none->RgH H' l (fK ks ts wn t)->(fK ks ts wn t).length<=1000->Q (.ref l) H'
theorem scLSteps:FnScope ["_law_house_here","_law_knot","_law_here","_law_there","_law_around_here","_law_found"] ["_law_house_here","_law_knot","_law_here","_law_there"] (am gG):=⟨rfl,rfl,rfl,by decide +kernel,rfl,by decide +kernel,by decide +kernel⟩
theorem pj (F:Fun K "_law_steps" "_law_steps" gG f fd) (B:Blt mg) (n:Cal P w K mg base 1 "_law_around" ["_law_knots"] cw) (g:Cal P w K mg base 2 "_law_parting" ["_law_around_here", "_law_one", "_law_other"] dv):FnOk P w K mg base CX0 3 f fd ["_law_house_here", "_law_knot", "_law_here", "_law_there"] lK := by
 refine F.ok scLSteps (λvs H Q E h=>?_) (λb5 A a6 s H vs Q E I h=>?_)
 ·obtain⟨q,us,Z,ts,ws,W,t,rfl,_⟩:=h
  rfl
 ·obtain⟨q, us, Z, ts, ws, W, t, rfl, R, T, a9, a5, tl, wl, kt, k⟩ := h;have nd:=scLSteps.nd;refine⟨_,(ae (ao (i:=4) nd rfl (Or.inr rfl) (ai n (I.mono (by decide)) rfl (aa (af (ah K I.units) (pv 0) ac (λ_ _=>rfl)) ab)))
   (ae (dA (i:=5) nd rfl rfl (by rfl) (am gG) ["_law_house_here","_law_knot","_law_here","_law_there","_law_around_here","_law_found"] ["_law_tie_here"] [4,1,2,3] ["_law_tie_here","_law_around_here","_law_knot","_law_here","_law_there"] rfl (bH K (af (ah K I.units) (pv 0) ac (λ_ _=>rfl))) (λ_ _ _ _ _=>(aA (i:=0) (show (["_law_tie_here","_law_around_here","_law_knot","_law_here","_law_there"]:LS).Nodup by decide) rfl (Or.inl rfl))) (λ_ _ _ _ _=>(cm (ak (aY I.units) (ai g (I.mono (by decide)) rfl (aa (pv 1) (aa (af (ah K I.units) (pv 0) ac (λ_ _=>rfl)) (aa (af (ah K I.units) (pv 0) ac (λ_ _=>rfl)) ab)))) (aL (aa (pv 2) (aa (pv 3) (aa (pv 4) ab)))) (aw _)))) (λ_ _ _ _ _=>(aG (hU K) (aL (aa aR ab)) (pv 0))))
   (ae (ao (i:=5) nd rfl (Or.inl rfl) (aG aT (pv 5) (cp (am gG) ["_law_house_here","_law_knot","_law_here","_law_there","_law_around_here","_law_found"] [2,3] "_law_want_here" ["_law_here","_law_there"] (bH K (af (ah K I.units) (pv 0) ac (λ_ _=>rfl))) (cm (ak (aY I.units) (pv 0) (aL (aa aR (aa (pv 1) ab))) (aw _))) (aL (aa aR (aa (pv 1) (aa (pv 2) ab)))))))
   (ag (av (aG aT (pv 5) (cp (am gG) ["_law_house_here","_law_knot","_law_here","_law_there","_law_around_here","_law_found"] [2,3] "_law_want_here" ["_law_here","_law_there"] (bH K (af (ah K I.units) (pv 0) ac (λ_ _=>rfl))) (cm (ak (aY I.units) (pv 0) (aL (aa aR (aa (pv 2) ab))) (aw _))) (aL (aa aR (aa (pv 1) (aa (pv 2) ab))))))))))),?_⟩
  obtain⟨q',a,b,c3,d4,Y,hq,R1,R2,_,R4⟩:=bc R;cases Y;obtain⟨b',rb,Y,hb,a2⟩:=bo R2;cases Y;obtain⟨b7,b6,Y,O,a0⟩:=bo R4;cases Y;have D:=a2.len;have r:=a0.len;rw[wK] at D r;have S:∀ {c one:Str},(c="first"∨c="last")->Nm one->∀ {e:Str × Str} {ta z:Addr} {M:Hp} {Qk:VK},e∈W->M ta=some (.tup [.str e.1,.str e.2])->M z=some (.tup [.str c,.str one])->Qk (.bl (decide (e=(c,one)))) M->EqR false M (.ref ta) (.ref z) Qk:=by
   intro c one hw L e ta z M Qk G m ez hk;refine .tr (bx m) (bx ez) (mi (gK (a5 e G).1) (T.nm _ (a5 e G).2)) (mi (e:=(c,one)) (gK hw) L) ?_;rw[if_neg (show ¬ false=true by decide),iQ];exact hk
  refine⟨_,rfl,.tup (.of hq) rfl (aB ⟨a,us,Z,rfl,R1,T,λd a7 H1 s1 b3 hd ar=>?_⟩)⟩;refine au ?_;dsimp only;refine⟨_,rfl,.tup (.of (s1 _ _ hq)) rfl ⟨b,rfl,⟨_,.of (s1 _ _ hb)⟩,?_⟩⟩;refine jZ (ts.map (ip Z t)) (by rw[wK,D]) (s1 _ _ hb) rfl (by omega) (λi x o X L H' A N U j V=>?_) λD1 H2 s2 b0 g1=>?_
  ·obtain⟨e,ta,G,rfl,m⟩:=bM a2 X;rw[wW,G] at L;cases L;obtain⟨hu,hv,_⟩:=a9 e (wP G);have m:=s1 _ _ m;refine⟨_,rfl,_,rfl,.tup (.of (U _ _ m)) rfl ⟨_,rfl,.tup (.of (U _ _ m)) rfl (aB ⟨d,a7,us,Z,e.1,e.2,rfl,U _ _ hd,ar,T,hu,hv,λy H3 s3 py=>?_⟩)⟩⟩;refine⟨_,rfl,_,rfl,_,rfl,szl 3,λz hz=>?_⟩;refine nw hz λM C e4=>?_;refine .tr (iw (py.same C)) (dy e4) (nh λt h=>kx T hu hv h) (jF kt) ⟨_,rfl,?_⟩;rw[if_neg (show ¬ false=true by decide),nu];have u:=s3.trans C;unfold ip at j V;refine aD (λh=>?_) (λh=>?_)
   ·have h:=xf h;rw[if_pos h] at j;refine⟨szl 1,λl1 a8=>?_⟩;refine nw a8 λH5 s5 e5=>?_;refine⟨_,rfl,l1,ta,_,_,rfl,rfl,.of e5,.of ((U.trans (u.trans s5)) _ _ m),szl 3,(λh=>by cases h),(λ_ h=>by cases h),λ_ _ x X=>?_⟩;exact j _ _ _ rfl ((u.trans s5).trans (Same.new X)) (dy (t:=(("tie":Str),e.1,e.2)) aj)
   ·exact V (if_neg λz=>h (wQ z)) _ u
  refine au ?_;dsimp only;have J:=s1.trans s2;refine⟨_,rfl,_,rfl,.tup (.of (J _ _ hq)) rfl ⟨d4,rfl,⟨_,.of (J _ _ O)⟩,?_⟩⟩;refine jZ (W.map (eZ t "first" t.2.1)) (by rw[wK,r]) (J _ _ O) rfl (by omega) (λi x o X L H' A N U j V=>?_) λD2 H3 s3 b2 g2=>?_
  ·obtain⟨e,ta,G,rfl,m⟩:=bM a0 X;rw[wW,G] at L;cases L;unfold eZ at j V;refine⟨_,rfl,_,rfl,szl 2,λz hz=>nw hz λM C e4=>S (.inl rfl) kt.2.1 (wP G) ((J.trans (U.trans C)) _ _ m) e4 ⟨_,rfl,?_⟩⟩;refine aD (λh=>?_) (λh=>?_)
   ·rw[if_pos (xf h)] at j;exact⟨_,rfl,_,rfl,szl 3,λp hp=>j _ _ _ rfl (C.trans (Same.new hp)) (dy (t:=(("first":Str),t.2.1,t.2.2)) aj)⟩
   ·exact V (if_neg λz=>h (wQ z)) _ C
  obtain⟨f1,e1,r1⟩:=g1;obtain⟨f2,e2,r2⟩:=g2;have Y:(ts.map (ip Z t)).filterMap id=ts.filterMap (ip Z t):=by rw[List.filterMap_map];rfl
  have a3:∀c one,(W.map (eZ t c one)).filterMap id=W.filterMap (eZ t c one):=λc one=>by rw[List.filterMap_map];rfl
  rw[Y] at r1;rw[a3] at r2;have l1:=r1.len;have l2:=r2.len;have q1:=yB (f:=ip Z t) (l:=ts);have q2:∀c one,(W.filterMap (eZ t c one)).length<=W.length:=λc one=>yB _ _;have b8:=q2 "first" t.2.1;rw[wK] at l1 l2;refine .lst (s3 _ _ e1) e2 (wV (by omega) (szl 1000)) λp hp=>?_;refine nw hp λM C e4=>?_;refine au ?_;dsimp only;have u:=s3.trans C;have v:=J.trans u;refine⟨_,rfl,_,rfl,.tup (.of (v _ _ hq)) rfl ⟨d4,rfl,⟨_,.of (v _ _ O)⟩,?_⟩⟩;refine jZ (W.map (eZ t "last" t.2.2)) (by rw[wK,r]) (v _ _ O) rfl (by omega) (λi x o X L H' A N U j V=>?_) λD3 H5 s5 b1 g3=>?_
  ·obtain⟨e,ta,G,rfl,m⟩:=bM a0 X;rw[wW,G] at L;cases L;unfold eZ at j V;refine⟨_,rfl,_,rfl,szl 2,λz hz=>nw hz λM C e4=>S (.inr rfl) kt.2.2 (wP G) ((v.trans (U.trans C)) _ _ m) e4 ⟨_,rfl,?_⟩⟩;refine aD (λh=>?_) (λh=>?_)
   ·rw[if_pos (xf h)] at j;exact⟨_,rfl,_,rfl,szl 3,λp hp=>j _ _ _ rfl (C.trans (Same.new hp)) (dy (t:=(("last":Str),t.2.1,t.2.2)) aj)⟩
   ·exact V (if_neg λz=>h (wQ z)) _ C
  obtain⟨f3,e3,r3⟩:=g3;rw[a3] at r3;have l3:=r3.len;have b4:=q2 "last" t.2.2;rw[wK] at l3;refine .lst (s5 _ _ e4) e3 (wV (by rw[w6];omega) (szl 1000)) λp2 a4=>?_;refine nw a4 λH6 s6 e6=>?_;have a1:=s5.trans s6;refine k p2 H6 (v.trans a1) (dn (v.trans s5) a4) ⟨_,e6,?_⟩ ?_
  ·unfold fK;rw[wZ,wZ];exact RepAll.append (RepAll.append (r1.same (u.trans a1)) (r2.same (C.trans a1))) (r3.same s6)
  ·unfold fK;rw[w6,w6];omega
structure Walkd (es:Prs) (here:Str) (goals row:LS):Prop where
 hd:row.head? = some here
 two:2<=row.length
 chain:∀e∈row.zip (row.drop 1),e∈es
 last:∃g∈goals,row.getLast? = some g
 inner:∀x∈(row.drop 1).dropLast,x∉goals
def swp (es:Prs):Prs:=es.map λe=>(e.2,e.1)
theorem mem_swp:(a,b)∈swp es ↔ (b,a)∈es:=by
 unfold swp;rw[wX];exact⟨λ⟨e,c,q⟩=>by cases q;exact c,λh=>⟨_,h,rfl⟩⟩
theorem tS:MG.Rch (Tie (swp es)) a b ↔ MG.Rch (Tie es) b a :=
 ⟨λh=>MG.Rch.closed (S:=λy=>MG.Rch (Tie es) y a) MG.Rch.refl (λy z s r=>(MG.Rch.refl.step (mem_swp.mp r)).tr s) h,
  λh=>MG.Rch.closed (S:=λy=>MG.Rch (Tie (swp es)) y b) MG.Rch.refl (λy z s r=>(MG.Rch.refl.step (mem_swp.mpr r)).tr s) h⟩
theorem kH (h:MG.Rch (Tie es) a b):a=b∨∃c,(a,c)∈es/\MG.Rch (Tie es) c b :=
 MG.Rch.closed (S:=λy=>a=y∨∃c,(a,c)∈es/\MG.Rch (Tie es) c y) (.inl rfl) (λy z s r=>s.elim (λe=>.inr ⟨z,by rw[e];exact r,MG.Rch.refl⟩) λ⟨c,d,f⟩=>.inr ⟨c,d,f.step r⟩) h
theorem iD (a:∀Q:Bool->Hp->Prop,Q b1 H->ta σ H Q) (b:∀Q:Bool->Hp->Prop,Q b2 H->tb σ H Q) (q:Q (b1||b2) H):tOr ta tb σ H Q:=by
 refine a _ ?_;cases b1 with
 | true=>exact q
 | false=>exact b _ q
theorem lW (a:∀Q:Bool->Hp->Prop,Q b1 H->ta σ H Q) (b:∀Q:Bool->Hp->Prop,Q b2 H->tb σ H Q) (q:Q (b1&&b2) H):uH ta tb σ H Q:=by
 refine a _ ?_;cases b1 with
 | true=>exact b _ q
 | false=>exact q
theorem iE (n:l≠p) (v:PenV H p a):PenV (upd H l o) p a:=let ⟨i,m,e,q⟩:=v;⟨i,m,by rw[az (Ne.symm n)];exact e,q⟩
theorem gM (h:q l=none) (b:But p q H):But p q (upd H l o):=λc u n e=>by rw[az (aJ e h)];exact b c u n e
theorem nS (h:row≠[]):((row++[y]).drop 1).dropLast=row.drop 1:=by
 cases row with
 | nil=>exact absurd rfl h
 | cons a r=>simp
theorem pU {row:LS}{z:Str}(c:row.getLast? = some z) (d:2<=row.length):row.drop 1=(row.drop 1).dropLast++[z]:=by
 obtain⟨b,rfl⟩:=List.getLast?_eq_some_iff.mp c;cases b with
 | nil=>exact absurd (show 2<=1 from d) (by decide)
 | cons a r=>simp
theorem nZ {es:Prs}{row:LS}{z y:Str}(d:row.getLast? = some z) (k:∀e∈row.zip (row.drop 1),e∈es) (h:(z,y)∈es):∀e∈(row++[y]).zip ((row++[y]).drop 1),e∈es:=by
 intro e g;obtain⟨i,a⟩:=xI g;rw[xv,xA] at a;have f:=(wO.mp a.2).1;rw[w6,yg] at f;have c:row[i]? = some e.1:=by rw[<- a.1,xU (by omega)]
 by_cases q:1+i<row.length
 ·have b:row[1+i]? = some e.2:=by rw[<- a.2,xU q]
  exact k e (wP (i:=i) (by rw[xv,xA];exact⟨c,b⟩))
 ·have j:1+i=row.length:=by omega
  rw[xO,show row.length-1=i from by omega,c] at d;have b:some y=some e.2:=by rw[<- a.2,yd (by omega),j,Nat.sub_self];rfl
  rw[show e=(z,y) from Prod.ext (wR d) (wR b).symm];exact h
def gL (K:W.Frag):Sp:=λvs H Q _=>∃(p a eq gl:Addr) (here:Str) (refs:LV) (es:Prs) (ss goals:LS) (rk:Str->Nat),vs=[.ref p,.ref eq,.str here,.ref gl]/\Pen K H p a/\H eq=some (.lst refs)/\RepAll H refs (es.map aK)/\(∀e∈es,e.1∈ss/\e.2∈ss)/\here∈ss/\(∀s∈ss,Nm s)/\ss.length<=60/\es.length<=100000/\eq≠p/\gl≠p/\H gl=some (.lst (List.map V.str goals))/\(∀g∈goals,g∈ss)/\goals.length<=60/\(∀e∈es,rk e.1<rk e.2/\rk e.2<60) /\
 ((∀e∈es,e.1=here->∀g∈goals,¬ MG.Rch (Tie es) e.2 g)->∀H',PenV H' p a->But p H H'->Q .non H') /\
 (∀l row H',Walkd es here goals row->(∀x∈row,x∈ss)->H l=none->l≠p->H' l=some (.lst (List.map V.str row))->PenV H' p a->But p H H'->Q (.ref l) H')
theorem scWalk:FnScope ["_law_pen_here","_law_edges_here","_law_here","_law_goals","_law_turned","_law_reaching","_law_goal","_law_found","_law_some"] ["_law_pen_here","_law_edges_here","_law_here","_law_goals"] (am jt):=⟨rfl,rfl,rfl,by decide +kernel,rfl,by decide +kernel,by decide +kernel⟩
theorem tY {f:Addr}{fd:FuncData}(F:Fun K "_law_walk" "_law_walk" jt f fd) (B:Blt mg) (S:Cal P w K mg base 1 "_law_draw" ["_law_pen_here", "_law_most"] (ci K)) (G:Cal P w K mg base 1 "_law_reached" ["_law_edges_here", "_law_one"] gU):FnOk P w K mg base CX0 2 f fd ["_law_pen_here", "_law_edges_here", "_law_here", "_law_goals"] (gL K) := by
 refine F.ok scWalk (λvs H Q E h=>?_) (λi1 A f6 s H vs Q E hr h=>?_)
 ·obtain⟨p,a,eq,gl,u,Y,N,ss,k,Z,rfl,_⟩:=h
  rfl
 ·obtain⟨p, a, eq, gl, u, Y, N, ss, k, Z, rfl, hP, b6, rp, c9, g0, i2, sl, el, g7, f8, b9, g5, i0, h4, kn, kr⟩ := h;have nd:=scWalk.nd;refine⟨_,(ae (dA (i:=4) nd rfl rfl (by rfl) (am jt) ["_law_pen_here","_law_edges_here","_law_here","_law_goals","_law_turned","_law_reaching","_law_goal","_law_found","_law_some"] ["_law_first","_law_last"] [] ["_law_first","_law_last"] rfl (be K (pv 1)) (λ_ _ _ _ _=>(bN (n:=2) K rfl (aO (aA (i:=0) (show (["_law_first","_law_last"]:LS).Nodup by decide) rfl (Or.inl rfl)) (aO (aA (i:=1) (show (["_law_first","_law_last"]:LS).Nodup by decide) rfl (Or.inl rfl)) bS)))) (λ_ _ _ _ _=>bT) (λ_ _ _ _ _=>(aL (aa (pv 1) (aa (pv 0) ab)))))
   (ae (ao (i:=5) nd rfl (Or.inr rfl) (aQ ab))
   (ae (bL PassesOwn.never rfl (be K (pv 3)) (aA (i:=6) nd rfl (Or.inl rfl)) (ag (ao (i:=5) nd rfl (Or.inr rfl) (aG aT (pv 5) (ai G (hr.mono (by decide)) rfl (aa (pv 4) (aa (pv 6) ab)))))))
   (ae (ao (i:=7) nd rfl (Or.inr rfl) (aQ (aa (pv 2) ab)))
   (ae (gm PassesOwn.never (PW.pt (cM (ak (bw K hr.units) (af (ah K hr.units) (pv 7) (dN de ac) (λ_ _=>rfl)) (pv 3) (by with_unfolding_all rfl)) (cA (ak (aY hr.units) (aW K B (aa (pv 7) ab)) ac (aw _))))) (ae (dA (i:=8) nd rfl rfl (by rfl) (am jt) ["_law_pen_here","_law_edges_here","_law_here","_law_goals","_law_turned","_law_reaching","_law_goal","_law_found","_law_some"] ["_law_first","_law_last"] [5,7] ["_law_first","_law_last","_law_reaching","_law_found"] rfl (be K (pv 1)) (λ_ _ _ _ _=>(bN (n:=2) K rfl (aO (aA (i:=0) (show (["_law_first","_law_last","_law_reaching","_law_found"]:LS).Nodup by decide) rfl (Or.inl rfl)) (aO (aA (i:=1) (show (["_law_first","_law_last","_law_reaching","_law_found"]:LS).Nodup by decide) rfl (Or.inl rfl)) bS)))) (λ_ _ _ _ _=>(cm (PW.pt (cj (ak (aY hr.units) (pv 0) (af (ah K hr.units) (pv 3) (dN de ac) (λ_ _=>rfl)) (aw _)) (bO (ak (fH K hr.units) (pv 1) (pv 2) (by with_unfolding_all rfl))))))) (λ_ _ _ _ _=>(pv 1)))
   (ae (aU (ak (gc K hr.units) (pv 8) (aQ ab) (by with_unfolding_all rfl)) (ag (av bj)) aF)
   (ag (bX (cT K (pv 7) (aa (af (ah K hr.units) (pv 8) (ai S (hr.mono (by decide)) rfl (aa (pv 0) (aa (aW K B (aa (pv 8) ab)) ab))) (λ_ _=>rfl)) ab)))))))
   (ag (av (pv 7)))))))),?_⟩
  have a2:=rp.len;rw[wK] at a2;have g1:(swp N).length=N.length:=wK ..;have d6:∀e∈swp N,e.1∈ss/\e.2∈ss:=λe he=>(c9 _ (mem_swp.mp he)).symm;refine⟨_,rfl,_,rfl,⟨_,.of b6⟩,?_⟩
  let d8:Addr->Nat->LV->SH:=λD i v t C=>∃o1 o2,t=[o1,o2]/\RepAll C v (((swp N).take i).map aK)/\v.length<=i/\Same H C/\H D=none
  refine cP Y d8 λD hD=>⟨?_,?_,?_,?_⟩
  ·exact⟨none,none,rfl,.nil,wM _,Same.new hD,hD⟩
  ·rintro i v t C _ ⟨o1,o2,rfl,_,_,I,_⟩ _;exact .of (I _ _ b6)
  ·rintro i v t C x M ⟨o1,o2,rfl,g4,al,I,L⟩ o;obtain⟨e,ta,he,rfl,c4⟩:=bM rp M;have d4:=(wO.mp M).1;have f3:(swp N)[i]? = some (e.2,e.1):=by unfold swp;rw[wW,he];rfl
   refine so rfl (.of (I _ _ c4)) ?_;refine⟨_,rfl,_,rfl,szl 2,λz hz=>?_⟩;refine nw hz λH2 s2 e2=>?_;have U:=s2 _ _ o;refine⟨U,x6 (by omega:v.length<=100000) (by decide),_,_,rfl,?_,?_,bu (I.trans s2) L,L⟩
   ·rw[xg,f3,wZ];exact RepAll.append (aS (aN U But.upd) (g4.same s2)) (.cons (aN U But.upd (bx e2)) .nil)
   ·rw[w6];exact x3 al
  rintro v t H1 ⟨o1,o2,rfl,c7,al,s1,L⟩ o;rw[a2,<- g1,xk (wM _)] at c7;refine au ?_;dsimp only;refine⟨szl 0,λf9 b4=>?_⟩;refine nw b4 λH2 s2 e2=>?_;have a7:=s1.trans s2;refine au ?_;dsimp only;refine⟨_,rfl,gl,rfl,⟨_,.of (a7 _ _ b9)⟩,?_⟩
  let d3:Nat->SH:=λi σ C=>∃(lr:Addr) (O:LS) (o6:Option V),σ=[some (.ref p),some (.ref eq),some (.str u),some (.ref gl),some (.ref D),some (.ref lr),o6,none,none]/\Same H2 C/\C lr=some (.lst (List.map V.str O))/\H lr=none/\(∀z,z∈O ↔ ∃g∈k.take i,MG.Rch (Tie N) z g)/\O.length<=60 * i
  refine dJ (R:=Q) (xs:=List.map V.str k) d3 ?_ ?_ ?_ ?_
  ·exact⟨f9,[],none,rfl,Same.refl H2,e2,dn s1 b4,λz=>⟨λh=>(by cases h),λ⟨g,h,_⟩=>(by simp at h)⟩,wM _⟩
  ·rintro i σ C hi ⟨lr,O,o6,rfl,I,_⟩;exact .of (I _ _ (a7 _ _ b9))
  ·rintro _ i x σ C M ⟨lr,O,o6,rfl,I,a5,a9,hm,d2⟩;obtain⟨g,hg,rfl⟩:=bI M;have d4:=(wO.mp hg).1;refine au ?_;refine⟨_,rfl,_,rfl,_,rfl,D,v,ss,swp N,g,rfl,I _ _ (s2 _ _ o),c7.same (s2.trans I),d6,g5 g (wP hg),sl,λl a8 H3 s3 i4 h5 c1 sn=>?_⟩;refine .lst (s3 _ _ a5) h5 (by rw[wK,wK];exact wV (by omega:O.length+a8.length<=10000) (szl 10000)) λq hq=>?_;rw[<- wZ];refine nw hq λH4 s4 e4=>au ?_;dsimp only;have f4:=s3.trans s4;refine⟨q,O++a8,_,rfl,I.trans f4,e4,dn (a7.trans (I.trans s3)) hq,λz=>?_,by rw[w6];omega⟩;rw[w8,hm,c1,xg,hg,Option.toList_some,tS];refine⟨λh=>h.elim (λ⟨g',W,T⟩=>⟨g',xT _ W,T⟩) λh=>⟨g,xG _ (.head _),h⟩,λ⟨g',W,T⟩=>?_⟩;rcases w8.mp W with W | W
   ·exact .inl ⟨g',W,T⟩
   ·rw[xa.mp W] at T;exact .inr T
  rintro σ H3 ⟨lr,O,o6,rfl,s3,a5,a9,hm,d2⟩;rw[wK] at hm d2;rw[xk (wM _)] at hm;have c6:=a7.trans s3;refine⟨_,rfl,szl 1,λlf c3=>?_⟩;refine nw c3 λH4 s4 e4=>?_;refine au ?_;dsimp only;have d9:=c6.trans s4;have X:H lf=none:=dn c6 c3;have g9:lr≠lf:=aJ a5 c3;have np:∀ {b:Addr},H b=none->b≠p:=λ{b} h=>Ne.symm (hP.2.ne h);refine⟨λm t C=>∃(d:LS) (z:Str) (o8:Option V),m=60-Z z/\t=[some (.ref p),some (.ref eq),some (.str u),some (.ref gl),some (.ref D),some (.ref lr),o6,some (.ref lf),o8]/\C lf=some (.lst (List.map V.str d))/\C lr=some (.lst (List.map V.str O))/\d.head? = some u/\d.getLast? = some z/\(∀e∈d.zip (d.drop 1),e∈N)/\(∀x∈d,x∈ss)/\(∀x∈(d.drop 1).dropLast,x∉k)/\(d.length=1∨z∈O)/\(2<=d.length->Z z<60)/\d.length<=Z z+1/\PenV C p a/\But p H C,
   ⟨_,[u],u,none,rfl,rfl,e4,s4 _ _ a5,rfl,rfl,(by intro e he;cases he),(λx M=>by rw[xa.mp M];exact g0),(by intro x M;cases M),.inl rfl,(λh=>absurd (show 2<=1 from h) (by decide)),Nat.le_add_left _ _,ap d9 hP.2,But.of_same d9⟩,?_⟩
  rintro m t H5 ⟨d,z,o8,rfl,rfl,a1,d1,a3,hz,e3,a0,b0,h3,i3,i5,v5,b5⟩;have c5:d≠[]:=λq=>by rw[q] at a3;cases a3
  have h9:z∈ss:=a0 z (yD hz);have f1:atI (List.map V.str d) (-1)=some (.str z):=iu (by rw[List.getLast?_map,hz];rfl);have h7:=b5 _ _ f8 b9;refine iD (b1:=!decide (z∈k)) (b2:=decide (d.length=1)) (λQ' q=>?_) (λQ' q=>?_) ?_
  ·refine⟨_,rfl,_,rfl,.lst (.of a1) f1 ⟨_,rfl,.seq (.inl (.of h7)) rfl (bp _) ⟨_,rfl,?_⟩⟩⟩;rw[if_pos rfl,dZ];exact q
  ·refine⟨_,rfl,_,_,rfl,Or.inl ⟨_,.of a1,rfl⟩,.sc rfl ⟨_,rfl,?_⟩⟩;rw[if_neg (show ¬ false=true by decide),show decide (V.int ((List.map V.str d).length:Nat)=V.int 1)=decide (d.length=1) from by
    rw[xp,decide_eq_true_iff,decide_eq_true_iff,wK];exact⟨λy=>Int.ofNat.inj (V.int.inj y),λy=>by rw[y];rfl⟩]
   exact q
  refine aD (λhc=>?_) (λhc=>?_)
  ·have d0:d.length ≠ 1 -> z ∉ k := λy g => by
      rw[wQ g,xi y] at hc;cases hc
   let c8:SH:=λt C=>∃(d:LS) (y:Str) (o8:Option V),(Z z<Z y/\Z y<60)/\t=[some (.ref p),some (.ref eq),some (.str u),some (.ref gl),some (.ref D),some (.ref lr),o6,some (.ref lf),o8]/\C lf=some (.lst (List.map V.str d))/\C lr=some (.lst (List.map V.str O))/\d.head? = some u/\d.getLast? = some y/\(∀e∈d.zip (d.drop 1),e∈N)/\(∀x∈d,x∈ss)/\(∀x∈(d.drop 1).dropLast,x∉k)/\(d.length=1∨y∈O)/\(2<=d.length->Z y<60)/\d.length<=Z y+1/\PenV C p a/\But p H C
   refine⟨c8,
    λt C ⟨d,y,o8,lt,r⟩=>⟨60-Z y,by omega,d,y,o8,rfl,r⟩,?_⟩
   have b3:=b5 _ _ g7 b6;obtain⟨ys,h0⟩:=aV hP.2;have g2:RepAll H5 Y (N.map aK):=aS (aN h0 b5) rp;refine⟨_,rfl,_,rfl,⟨_,.of b3⟩,?_⟩;obtain⟨pr,c2⟩:∃pr:Str × Str->Bool,pr=λe=>decide (e.1=z)&&decide (e.2∈O):=⟨_,rfl⟩
   let e5:Addr->Nat->LV->SH:=λD2 i v t C=>∃o1 o2,t=[o1,o2,some (.ref lr),some (.ref lf)]/\v=List.map V.str (((N.take i).filter pr).map (·.2))/\v.length<=i/\Same H5 C/\H5 D2=none
   refine cP Y e5 λD2 f2=>⟨?_,?_,?_,?_⟩
   ·exact⟨none,none,rfl,rfl,wM _,Same.new f2,f2⟩
   ·rintro i v t C _ ⟨o1,o2,rfl,_,_,I,_⟩ _;exact .of (I _ _ b3)
   ·rintro i v t C x M ⟨o1,o2,rfl,rfl,al,I,L⟩ o;obtain⟨e,ta,he,rfl,c4⟩:=bM g2 M;have d4:=(wO.mp M).1;have J:(N.take (i+1)).filter pr=(N.take i).filter pr++(if pr e=true then [e] else []):=by
     rw[xg,he,yb];congr 1;show List.filter _ [e]=_;by_cases z:pr e=true <;> simp[z]
    refine⟨ta,_,rfl,.of (I _ _ c4),rfl,_,_,rfl,_,_,rfl,rfl,?_⟩;refine lW (b1:=decide (e.1=z)) (b2:=decide (e.2∈O)) (λQ' q=>?_) (λQ' q=>?_) ?_
    ·refine⟨_,rfl,_,rfl,_,rfl,.lst (.of (I _ _ a1)) f1 (.sc rfl ⟨_,rfl,?_⟩)⟩;rw[if_neg (show ¬ false=true by decide),show decide (V.str e.1=V.str z)=decide (e.1=z) from by rw[xp,decide_eq_true_iff,decide_eq_true_iff];exact⟨V.str.inj,congrArg _⟩];exact q
    ·refine⟨_,rfl,_,rfl,.seq (.inl (.of (I _ _ d1))) rfl (bp _) ⟨_,rfl,?_⟩⟩;rw[if_neg (show ¬ false=true by decide),dZ];exact q
    rw[show (decide (e.1=z)&&decide (e.2∈O))=pr e from by rw[c2]];refine aD (λh=>?_) (λh=>?_)
    ·rw[if_pos h] at J;refine⟨_,rfl,o,x6 (by omega:_<=100000) (by decide),_,_,rfl,?_,by rw[w6];exact x3 al,bu I L,L⟩;rw[J,wZ,wZ];rfl
    ·rw[if_neg h,xH] at J;exact⟨o,_,_,rfl,by rw[J],by omega,I,L⟩
   rintro v t H6 ⟨o1,o2,rfl,rfl,al,s6,L⟩ o;rw[a2,xk (wM _)] at o al;obtain⟨wl,d7⟩:∃wl,wl=(N.filter pr).map (·.2):=⟨_,rfl⟩
   have e6:∀y,y∈wl ↔ (z,y)∈N/\y∈O:=λy=>by
    rw[d7,wX]
    constructor
    ·rintro⟨e,he,rfl⟩;obtain⟨W,T⟩:=xn.mp he;rw[c2,xC,decide_eq_true_iff,decide_eq_true_iff] at T;exact⟨T.1 ▸ W,T.2⟩
    ·rintro⟨W,T⟩;exact⟨(z,y),xn.mpr ⟨W,by rw[c2,xC];exact⟨wQ rfl,wQ T⟩⟩,rfl⟩
   rw[<- d7] at o al;refine au ?_;dsimp only;refine⟨_,rfl,szl 0,λe0 g3=>?_⟩;refine nw g3 λH7 s7 e7=>?_;have a6:=s6.trans s7;have c0:=s7 _ _ o;have v7:=ap a6 v5;have b7:=b5.trans (But.of_same (p:=p) a6);refine⟨D2,e0,_,rfl,rfl,.of c0,e7,_,rfl,?_⟩;rw[if_neg (show ¬ false=true by decide)];refine aD (λh=>?_) (λh=>aX ?_)
   ·have wn:wl=[] := by
       cases wl with
       | nil=>rfl
       | cons x r=>cases h
    have no:∀y,(z,y)∈N->y∉O:=λy W T=>by
     have:=(e6 y).mpr ⟨W,T⟩;rw[wn] at this;cases this
    refine kn (λe he e1 g hg r=>?_) H7 v7 b7;by_cases r1:d.length=1
    ·have ez:z=u := by
        cases d with
        | nil=>cases r1
        | cons x r =>
         cases r with
         | nil=>cases a3;cases hz;rfl
         | cons y r=>cases r1
     exact no e.2 (by rw[ez,<- e1];exact he) ((hm _).mpr ⟨g,hg,r⟩)
    ·obtain⟨g',e9,r'⟩:=(hm z).mp (h3.resolve_left r1);rcases kH r' with e | ⟨c,W,T⟩
     ·exact d0 r1 (e ▸ e9)
     ·exact no c W ((hm _).mpr ⟨g',e9,T⟩)
   ·have h8:0<wl.length := by
       cases wl with
       | nil=>exact absurd rfl h
       | cons x r=>exact x4 _
    have a4:(List.map V.str wl).length=wl.length:=wK ..;dsimp only;have f0:=a6 _ _ a1;have h6:D2≠p:=Ne.symm (v5.ne L);have d5:=np X;refine⟨_,rfl,.inl ⟨rfl,_,.of f0⟩,?_⟩;refine⟨_,rfl,_,rfl,_,rfl,_,_,rfl,Or.inl ⟨_,.of c0,rfl⟩,p,a,_,rfl,hP.but b7 v7,by rw[a4];omega,by rw[a4];rw[a4] at al;omega,λr8 H8 f5 g6 v8 e8=>?_⟩;have b8:=b7.trans (But.of_eq e8);obtain⟨j,rfl⟩:=xj f5;rw[a4] at g6;have hj:j<wl.length:=by omega
    have f7:=(e8 _ d5).trans f0;have g8:=(e8 _ (np a9)).trans (a6 _ _ d1);refine .lst (.of ((e8 _ h6).trans c0)) (eU hj) ?_;have yw:wl.getD j ""∈wl:=bW hj;generalize wl.getD j ""=y at yw ⊢;obtain⟨ye,yr⟩:=(e6 y).mp yw;have yf:Z z<Z y/\Z y<60:=h4 _ ye;refine aB ⟨lf,_,_,rfl,rfl,f7,by rw[wK];exact aH (by have:=yf.1;have:=yf.2;omega),?_⟩;refine⟨d++[y],y,_,yf,rfl,by rw[wZ];exact aj,by rw[az g9];exact g8,?_,?_,nZ hz e3 ye,?_,?_,.inr yr,λ_=>yf.2,?_,iE d5 v8,gM X b8⟩
    ·rw[List.head?_append,a3];rfl
    ·rw[List.getLast?_append];rfl
    ·intro x M;rcases w8.mp M with q | q
     ·exact a0 x q
     ·rw[xa.mp q];exact(c9 _ ye).2
    ·rw[nS c5];by_cases r1:d.length=1
     ·intro x M;rw[x9 (by omega)] at M;cases M
     ·have r2:2<=d.length:=by have:=List.length_pos_iff.mpr c5;omega
      rw[pU hz r2];intro x M;rcases w8.mp M with q | q
      ·exact b0 x q
      ·rw[xa.mp q];exact d0 r1
    ·rw[w6,yg];have:=yf.1;omega
  ·rw[Bool.or_eq_true,not_or] at hc;have zg:z∈k:=by simpa using hc.1
   have r1:d.length≠1:=λy=>hc.2 (wQ y);have r2:2<=d.length:=by have:=List.length_pos_iff.mpr c5;omega
   exact⟨_,rfl,kr lf d H5 ⟨a3,r2,e3,⟨z,zg,hz⟩,b0⟩ a0 X (np X) a1 v5 b5⟩
theorem oZ (T:Tre us ks) (a:cV us ks ts) (b:Nm t.2.1) (c:Nm t.2.2) (h:cY ks ts wn t s):K3 s:=by
 rcases h with⟨e,h,_⟩ | ⟨rfl,_⟩ | ⟨rfl,_⟩
 ·exact⟨e ▸ ik,T.nm _ (a _ h).1,T.nm _ (a _ h).2.1⟩
 ·exact⟨iS,b,c⟩
 ·exact⟨jS,b,c⟩
def fF (ks:Kn) (ts wn:Prs) (knot:Str) (row:LS) (ss:List T3):Prop:=ss.length=(row.zip (row.drop 1)).length/\∀(i:Nat) (e:Str × Str) (s:T3),(row.zip (row.drop 1))[i]? = some e->ss[i]? = some s->cY ks ts wn (knot,e.1,e.2) s
def fk (K:W.Frag):Sp:=λvs H Q _=>∃(p a q rw:Addr) (us:LS) (ks:Kn) (ts ws wn:Prs) (knot:Str) (row:LS),vs=[.ref p,.ref q,.str knot,.ref rw]/\Pen K H p a/\Rep H (.ref q) (aZ ks ts ws wn)/\Tre us ks/\cV us ks ts/\fm us wn/\ts.length<=200/\wn.length<=122/\(knot=""∨Nm knot)/\SqA H rw (List.map V.str row)/\rw≠p/\(∀u∈row,Nm u)/\row.length<=100/\(∀e∈row.zip (row.drop 1),∃s,cY ks ts wn (knot,e.1,e.2) s) /\
 ∀l ss H',H l=none->l≠p->RgH H' l ss->fF ks ts wn knot row ss->PenV H' p a->But p H H'->Q (.ref l) H'
theorem scAlong:FnScope ["_law_pen_here","_law_house_here","_law_knot","_law_row","_law_found","_law_here","_law_there","_law_some"] ["_law_pen_here","_law_house_here","_law_knot","_law_row"] (am lF):=⟨rfl,rfl,rfl,by decide +kernel,rfl,by decide +kernel,by decide +kernel⟩
theorem qE (F:Fun K "_law_along" "_law_along" lF f fd) (B:Blt mg) (Zz:mg "zip"=none) (I:Cal P w K mg base 1 "_law_draw" ["_law_pen_here", "_law_most"] (ci K)) (r:Cal P w K mg base 3 "_law_steps" ["_law_house_here", "_law_knot", "_law_here", "_law_there"] lK):FnOk P w K mg base CX0 4 f fd ["_law_pen_here", "_law_house_here", "_law_knot", "_law_row"] (fk K) := by
 refine F.ok scAlong (λvs H Q E h=>?_) (λc9 A c6 s H vs Q E hr h=>?_)
 ·obtain⟨p,a,q,rw,us,ks,ts,ws,wn,g,d,rfl,_⟩:=h
  rfl
 ·obtain⟨p, a, q, rw, us, ks, ts, ws, wn, g, d, rfl, hP, R, T, c3, c2, tl, wl, kn, t, b9, a4, rl, b7, k⟩ := h;have nd:=scAlong.nd;refine⟨_,(ae (ao (i:=4) nd rfl (Or.inl rfl) (aQ ab))
   (ae (bL PassesOwn.never rfl (we (tF K rfl Zz (aa (pv 3) (aa (bq (eX K) (pv 3) (bi ac) ce) ab))) (oO K rfl Zz (aa (pv 3) (aa (bq ky (pv 3) (bi ac) ce) ab)))) (bN (n:=2) K rfl (aO (aA (i:=5) nd rfl (Or.inl rfl)) (aO (aA (i:=6) nd rfl (Or.inl rfl)) bS))) (ae (ao (i:=7) nd rfl (Or.inl rfl) (ai r (hr.mono (by decide)) rfl (aa (pv 1) (aa (pv 2) (aa (pv 5) (aa (pv 6) ab))))))
   (ag (bX (cT K (pv 4) (aa (af (ah K hr.units) (pv 7) (ai I (hr.mono (by decide)) rfl (aa (pv 0) (aa (aW K B (aa (pv 7) ab)) ab))) (λ_ _=>rfl)) ab))))))
   (ag (av (pv 4))))),?_⟩
  refine⟨szl 0,λlf S=>?_⟩;refine nw S λH1 s1 e1=>?_;refine au ?_;dsimp only;have O:=Ne.symm (hP.2.ne S);obtain⟨c8,a2⟩:=aV hP.2;rcases t with t | t
  ·refine .inl ⟨_, rfl, _, rfl, _, rfl, .lst (.of (s1 _ _ t)) λl2 b6 => ?_⟩;rw[show (1:Int)=((1:Nat):Int) from rfl,dG,<- xN];refine nw b6 λH2 s2 U=>?_;have D:=s1.trans s2;have n2:l2≠lf:=λz=>by
    rw[z,s2 _ _ e1] at U;exact absurd b6 (by rw[z,e1];intro w;cases w)
   have a5:l2≠p:=λz=>by
    rw[z,D _ _ a2] at U;exact absurd b6 (by rw[z,s1 _ _ a2];intro w;cases w)
   refine aB ⟨rw,l2,_,_,rfl,.of (D _ _ t),.of U,?_⟩
   let c0:Nat->SH:=λi σ G=>∃(o5 o6 o7:Option V) (c:LV) (o:List T3),σ=[some (.ref p),some (.ref q),some (.str g),some (.ref rw),some (.ref lf),o5,o6,o7]/\G l2=some (.lst (List.map V.str (d.drop 1)))/\G lf=some (.lst c)/\RepAll G c (o.map t3D)/\o.length=i/\(∀(j:Nat) (e:Str × Str) (s:T3),(d.zip (d.drop 1))[j]? = some e->o[j]? = some s->cY ks ts wn (g,e.1,e.2) s)/\PenV G p a/\But p H G
   refine nC (xs:=List.map V.str d) (ys:=List.map V.str (d.drop 1)) c0 ?_ ?_ ?_ ?_
   ·exact⟨none,none,none,[],[],rfl,U,s2 _ _ e1,.nil,rfl,(λj e s _ h=>by cases h),ap D hP.2,But.of_same D⟩
   ·rintro i σ G hi ⟨o5,o6,o7,c,o,rfl,h2,_,_,_,_,_,b⟩;exact⟨.of (b _ _ b9 t),.of h2⟩
   ·rintro i x y pp σ G M ⟨o5, o6, o7, c, o, rfl, h2, hf, rr, Y, N, v, b⟩ a9;rw[xv] at M;obtain⟨u,hu,rfl⟩:=bI M.1;obtain⟨X,W,rfl⟩:=bI M.2;have hz:(d.zip (d.drop 1))[i]? = some (u,X):=by rw[xv];exact⟨hu,W⟩
    have zl:=(wO.mp hz).1;have b8:(d.zip (d.drop 1)).length<=100:=by rw[xD];omega
    have n1:=a4 u (wP hu);have b0:=a4 X (yx (wP W));refine nw a9 λH3 s3 e3=>?_;have v3:=ap s3 v;have b3:=b.trans (But.of_same (p:=p) s3);refine⟨pp,_,rfl,.of e3,rfl,_,_,rfl,_,_,rfl,rfl,?_⟩;refine⟨_,rfl,_,rfl,_,rfl,_,rfl,q,us,ks,ts,ws,wn,(g,u,X),rfl,aI a2 b3 R,T,c3,c2,tl,wl,⟨kn,n1,b0⟩,λl H4 s4 b2 ⟨fr,a0,fp⟩ fl=>?_⟩;refine au ?_;dsimp only;have v4:=ap s4 v3;have b4:=b3.trans (But.of_same (p:=p) s4);have J:=s3.trans s4;have Z:=J _ _ hf;have a8:=fp.len;rw[wK] at a8;obtain⟨s0,a6⟩:=b7 (u,X) (wP hz);have c4:0<(fK ks ts wn (g,u,X)).length:=ya (mem_stepsL.mpr a6);have nl:l≠p:=Ne.symm (v3.ne b2);refine⟨_,rfl,.inl ⟨rfl,_,.of Z⟩,?_⟩;refine⟨_,rfl,_,rfl,_,rfl,_,_,rfl,Or.inl ⟨_,.of a0,rfl⟩,p,a,_,rfl,hP.but b4 v4,by omega,by omega,λr5 H5 b1 c5 v5 e5=>?_⟩;have C:=But.of_eq e5;have b5:=b4.trans C;obtain⟨j,rfl⟩:=xj b1;have hj:j<fr.length:=by omega
    obtain⟨c7,a1⟩:=aV v4;have fj:fr[j]? = some fr[j]:=wS hj;obtain⟨s,hs,rs⟩:=dL fp fj;refine .lst (.of (C _ _ nl a0)) (bf fj) ?_;have L:=(e5 _ O).trans Z;have a3:=rr.len;rw[wK] at a3;refine aB ⟨lf,_,_,rfl,rfl,L,aH (by omega),?_⟩;have a7:=mem_stepsL.mp (wP hs);refine⟨_,_,_,c++[fr[j]],o++[s],rfl,?_,aj,?_,by rw[w6,Y];rfl,?_,iE O v5,gM S b5⟩
    ·rw[az n2];exact(e5 _ a5).trans (J _ _ h2)
    ·rw[wZ];exact RepAll.append (eF L But.upd (eF a1 C (rr.same J))) (.cons (ey L But.upd (ey a1 C rs)) .nil)
    ·intro j' e s' he m;by_cases q':j'<o.length
     ·rw[xU q'] at m;exact N j' e s' he m
     ·have:j'=o.length:=by
         have:=(wO.mp m).1;rw[w6,yg] at this;omega
      subst this;rw[yd (wM _),Nat.sub_self] at m;rw[Y,hz] at he;cases he;cases m;exact a7
   ·rintro σ G ⟨o5,o6,o7,c,o,rfl,_,hf,rr,Y,N,v,b⟩;rw[xD,wK,wK,<- xD] at Y;exact⟨_,rfl,k lf o G S O ⟨c,hf,rr⟩ ⟨Y,N⟩ v b⟩
  ·refine .inr ⟨_, rfl, _, rfl, _, rfl, rw, _, rfl, s1 _ _ t, λl2 H2 s2 U => ?_⟩;rw[show (1:Int)=((1:Nat):Int) from rfl,dG,<- xN] at U;have D:=s1.trans s2;have n2:l2≠lf:=λz=>by
    rw[z,s2 _ _ e1] at U;cases U
   have a5:l2≠p:=λz=>by
    rw[z,D _ _ a2] at U;cases U
   refine aB ⟨rw,l2,_,_,rfl,.of (D _ _ t),.of U,?_⟩
   let c1:Nat->SH:=λi σ G=>∃(o5 o6 o7:Option V) (c:LV) (o:List T3),σ=[some (.ref p),some (.ref q),some (.str g),some (.ref rw),some (.ref lf),o5,o6,o7]/\G l2=some (.tup (List.map V.str (d.drop 1)))/\G lf=some (.lst c)/\RepAll G c (o.map t3D)/\o.length=i/\(∀(j:Nat) (e:Str × Str) (s:T3),(d.zip (d.drop 1))[j]? = some e->o[j]? = some s->cY ks ts wn (g,e.1,e.2) s)/\PenV G p a/\But p H G
   refine oX (xs:=List.map V.str d) (ys:=List.map V.str (d.drop 1)) c1 ?_ ?_ ?_ ?_
   ·exact⟨none,none,none,[],[],rfl,U,s2 _ _ e1,.nil,rfl,(λj e s _ h=>by cases h),ap D hP.2,But.of_same D⟩
   ·rintro i σ G hi ⟨o5,o6,o7,c,o,rfl,h2,_,_,_,_,_,b⟩;exact⟨.of (b _ _ b9 t),.of h2⟩
   ·rintro i x y pp σ G M ⟨o5, o6, o7, c, o, rfl, h2, hf, rr, Y, N, v, b⟩ a9;rw[xv] at M;obtain⟨u,hu,rfl⟩:=bI M.1;obtain⟨X,W,rfl⟩:=bI M.2;have hz:(d.zip (d.drop 1))[i]? = some (u,X):=by rw[xv];exact⟨hu,W⟩
    have zl:=(wO.mp hz).1;have b8:(d.zip (d.drop 1)).length<=100:=by rw[xD];omega
    have n1:=a4 u (wP hu);have b0:=a4 X (yx (wP W));refine nw a9 λH3 s3 e3=>?_;have v3:=ap s3 v;have b3:=b.trans (But.of_same (p:=p) s3);refine⟨pp,_,rfl,.of e3,rfl,_,_,rfl,_,_,rfl,rfl,?_⟩;refine⟨_,rfl,_,rfl,_,rfl,_,rfl,q,us,ks,ts,ws,wn,(g,u,X),rfl,aI a2 b3 R,T,c3,c2,tl,wl,⟨kn,n1,b0⟩,λl H4 s4 b2 ⟨fr,a0,fp⟩ fl=>?_⟩;refine au ?_;dsimp only;have v4:=ap s4 v3;have b4:=b3.trans (But.of_same (p:=p) s4);have J:=s3.trans s4;have Z:=J _ _ hf;have a8:=fp.len;rw[wK] at a8;obtain⟨s0,a6⟩:=b7 (u,X) (wP hz);have c4:0<(fK ks ts wn (g,u,X)).length:=ya (mem_stepsL.mpr a6);have nl:l≠p:=Ne.symm (v3.ne b2);refine⟨_,rfl,.inl ⟨rfl,_,.of Z⟩,?_⟩;refine⟨_,rfl,_,rfl,_,rfl,_,_,rfl,Or.inl ⟨_,.of a0,rfl⟩,p,a,_,rfl,hP.but b4 v4,by omega,by omega,λr5 H5 b1 c5 v5 e5=>?_⟩;have C:=But.of_eq e5;have b5:=b4.trans C;obtain⟨j,rfl⟩:=xj b1;have hj:j<fr.length:=by omega
    obtain⟨c7,a1⟩:=aV v4;have fj:fr[j]? = some fr[j]:=wS hj;obtain⟨s,hs,rs⟩:=dL fp fj;refine .lst (.of (C _ _ nl a0)) (bf fj) ?_;have L:=(e5 _ O).trans Z;have a3:=rr.len;rw[wK] at a3;refine aB ⟨lf,_,_,rfl,rfl,L,aH (by omega),?_⟩;have a7:=mem_stepsL.mp (wP hs);refine⟨_,_,_,c++[fr[j]],o++[s],rfl,?_,aj,?_,by rw[w6,Y];rfl,?_,iE O v5,gM S b5⟩
    ·rw[az n2];exact(e5 _ a5).trans (J _ _ h2)
    ·rw[wZ];exact RepAll.append (eF L But.upd (eF a1 C (rr.same J))) (.cons (ey L But.upd (ey a1 C rs)) .nil)
    ·intro j' e s' he m;by_cases q':j'<o.length
     ·rw[xU q'] at m;exact N j' e s' he m
     ·have:j'=o.length:=by
         have:=(wO.mp m).1;rw[w6,yg] at this;omega
      subst this;rw[yd (wM _),Nat.sub_self] at m;rw[Y,hz] at he;cases he;cases m;exact a7
   ·rintro σ G ⟨o5,o6,o7,c,o,rfl,_,hf,rr,Y,N,v,b⟩;rw[xD,wK,wK,<- xD] at Y;exact⟨_,rfl,k lf o G S O ⟨c,hf,rr⟩ ⟨Y,N⟩ v b⟩
def bm (k:Str) (row:LS):List T3:=(row.zip (row.drop 1)).map λe=>(k,e.1,e.2)
theorem bz (h:(bm k row)[i]? = some t):row[i]? = some t.2.1/\row[i+1]? = some t.2.2/\t.1=k:=by
 unfold bm at h;rw[wW] at h;cases q:(row.zip (row.drop 1))[i]? with
 | none=>rw[q] at h;cases h
 | some e =>
  rw[q] at h;cases h;rw[xv,xA,Nat.add_comm 1 i] at q;exact⟨q.1,q.2,rfl⟩
theorem cN:(bm k row).length=row.length-1:=by
 unfold bm;rw[wK,xD,xu];omega
theorem kZ:(bm k row).map (·.2.1)=row.dropLast:=by
 refine List.ext_getElem? λi=>?_;rw[wW,List.getElem?_dropLast];cases q:(bm k row)[i]? with
 | none =>
  have:=List.getElem?_eq_none_iff.mp q;rw[cN] at this;rw[if_neg (by omega)];rfl
 | some t =>
  have l:=(wO.mp q).1;rw[cN] at l;rw[if_pos l,(bz q).1];rfl
theorem mz (h:row.head? = some y):bm k (x::row)=(k,x,y)::bm k row:=by
 cases row with
 | nil=>cases h
 | cons a r=>cases h;rfl
theorem iK (h:row.getLast? = some z) (b:2<=row.length):∃t,(bm k row).getLast? = some t/\t.2.2=z/\t.1=k:=by
 have l:(bm k row).length-1<(bm k row).length:=by rw[cN];omega
 obtain⟨t,e⟩:∃t,(bm k row)[(bm k row).length-1]? = some t:=⟨_,wS l⟩
 have g:=bz e;refine⟨t,by rw[xO];exact e,?_,g.2.2⟩;rw[xO] at h;have a:=g.2.1;rw[cN,show row.length-1-1+1=row.length-1 from by omega,h] at a;exact(wR a).symm
theorem mo (h:2<=row.length) (d:row.dropLast.Nodup):hI (bm k row):=by
 have b:0<(bm k row).length:=by rw[cN];omega
 refine⟨⟨k,?_,λx c=>?_⟩,λe g=>?_,by rw[kZ];exact d⟩
 ·have e:(bm k row)[0]? = some (bm k row)[0]:=wS b;exact wX.mpr ⟨_,wP e,(bz e).2.2⟩
 ·obtain⟨t,f,rfl⟩:=wX.mp c;obtain⟨i,a⟩:=xI f;exact(bz a).2.2
 ·obtain⟨i,a⟩:=xI g;rw[xv,xA,Nat.add_comm 1 i] at a;exact wR ((bz a.1).2.1.symm.trans (bz a.2).1)
theorem om (c:2<=row.length) (d:row.dropLast.Nodup) (h:row.head? = some z) (f:row.getLast? = some z):cG ((bm k row).map some):=by
 refine⟨_,rfl,mo c d,?_⟩;obtain⟨t,e,i,_⟩:=iK (k:=k) f c;have a:0<(bm k row).length:=by rw[cN];omega
 have g:(bm k row)[0]? = some (bm k row)[0]:=wS a;have b:=(bz g).1;rw[<- xJ,h] at b;rw[e,xJ,g];show some t.2.2=some _;rw[i];exact b
theorem tH (h:none∈ps):¬ fE ps:=λ⟨a,e,_⟩=>by rw[e] at h;simp at h
theorem hZ (h:none∈ps):¬ cG ps:=λ⟨a,e,l,_⟩=>tH h ⟨a,e,l⟩
theorem fY {f:Str->Nat}:∀ {row:LS},(∀e∈row.zip (row.drop 1),f e.1<f e.2)->row.Pairwise λx y=>f x<f y
 | [],_=>.nil
 | [x],_=>List.pairwise_singleton _ _
 | x::y::r,h=>by
  have ih:(y::r).Pairwise λx y=>f x<f y:=fY λe he=>h e (.tail _ he);have xy:f x<f y:=h (x,y) (.head _);refine .cons (λz hz=>?_) ih;rcases wY.mp hz with e | g
  ·rw[e];exact xy
  ·exact Nat.lt_trans xy (List.rel_of_pairwise_cons ih g)
theorem gr {f:Str->Nat}{row:LS}(h:row.Pairwise λx y=>f x<f y):row.Nodup:=h.imp λq e=>by rw[e] at q;omega
theorem qB {f:Str -> Nat}{row:LS}(h:row.Pairwise λx y => f x<f y) (d:2 <= row.length) {y z:Str}(c:row.head? = some y) (b:row.getLast? = some z):f y<f z := by
 cases row with
 | nil=>cases c
 | cons a r =>
  cases c;rw[List.getLast?_cons] at b;have g:r≠[]:=λe=>by rw[e] at d;exact absurd (show 2<=1 from d) (by decide)
  cases q:r.getLast? with
  | none=>exact absurd (yE.mp q) g
  | some w =>
   rw[q] at b;cases b;exact List.rel_of_pairwise_cons h (yD q)
theorem rL (T:Tre us ks) (f:k∈ks) (c:x∈k.2) (b:y∈k.2) (d:x≠y) (h:cY ks ts wn (k.1,x,y) s):pOf ks ts wn s=some (k.1,x,y):=by
 unfold pOf;rcases h with⟨e,a,g⟩ | ⟨rfl,a⟩ | ⟨rfl,a⟩
 ·rw[if_pos ⟨e,a⟩,g]
 ·have w:bV (("first":Str),x,y)=x:=if_pos rfl;rw[if_neg (λz=>absurd z.1 (show ("first":Str)≠"tie" by decide)),w,if_pos a,jv T f (by rw[w];exact c),if_neg (λz=>z.elim d λz=>z.elim (λz=>z c) (λz=>z b))]
 ·have w:bV (("last":Str),x,y)=y:=if_neg (show ("last":Str)≠"first" by decide);rw[if_neg (λz=>absurd z.1 (show ("last":Str)≠"tie" by decide)),w,if_pos a,jv T f (by rw[w];exact b),if_neg (λz=>z.elim d λz=>z.elim (λz=>z c) (λz=>z b))]
theorem dY (g:k ∈ ks) (he:e ∈ cL ks ts wn k.1 k.2):∃s, cY ks ts wn (k.1, e.1, e.2) s := by
 unfold cL at he;rw[fJ,w8,w8] at he;rcases he with he | he | he | he
 ·cases he
 ·obtain⟨z,f,q⟩:=xQ.mp he;refine⟨(("tie":Str),z.1,z.2),.inl ⟨rfl,f,?_⟩⟩;unfold fe at q
  split at q
  ·next a b c w =>
   split at q
   ·next v=>cases q;rw[w,v]
   ·cases q
  ·cases q
 ·obtain⟨u,d,q⟩:=xL.mp he;obtain⟨v,_,rfl⟩:=wX.mp q;exact⟨_,.inr (.inl ⟨rfl,xf (xn.mp d).2⟩)⟩
 ·obtain⟨u,d,q⟩:=xL.mp he;obtain⟨v,_,rfl⟩:=wX.mp q;exact⟨_,.inr (.inr ⟨rfl,xf (xn.mp d).2⟩)⟩
theorem fD (T:Tre us ks) (f:k ∈ ks) (a:∀x ∈ row, x ∈ k.2) (b:row.Pairwise λx y => MG.ix k.2 x<MG.ix k.2 y) (h:fF ks ts wn k.1 row B):B.map (pOf ks ts wn)=(bm k.1 row).map some := by
 refine List.ext_getElem? λi=>?_;rw[wW,wW];unfold bm;rw[wW];cases q:(row.zip (row.drop 1))[i]? with
 | none =>
  have:=List.getElem?_eq_none_iff.mp q;rw[<- h.1] at this;rw[List.getElem?_eq_none_iff.mpr this];rfl
 | some e =>
  have l:=(wO.mp q).1;rw[<- h.1] at l;have c:B[i]? = some B[i]:=wS l;have g:=h.2 i e _ q c;rw[xv,xA] at q;have d:e.1≠e.2:=λz=>by
   have:=List.pairwise_iff_getElem.mp b i (1+i) (wO.mp q.1).1 (wO.mp q.2).1 (by omega);rw[(wO.mp q.1).2,(wO.mp q.2).2,z] at this;omega
  rw[c];show some _=some _;rw[rL T f (a _ (wP q.1)) (a _ (wP q.2)) d g]
def gD (R:List T3->Prop) (ss:List T3):Prop:=R ss/\¬ R ss.reverse/\¬ R (ss.drop 1)/\¬ R (ss.take 1++ss)
theorem iL (h:fF ks ts wn k row z) (c:row.head? = some y) (b:z.head? = some s):∃B,cY ks ts wn (k,y,B) s:=by
 cases row with
 | nil=>cases c
 | cons a r =>
  cases c;rw[xJ] at b;have l:=(wO.mp b).1;rw[h.1] at l;have q:=wS l;have:=h.2 0 _ s q b;rw[xv] at q;have d:y=((y::r).zip ((y::r).drop 1))[0].1:=wR q.1;exact⟨_,by rw[d];exact this⟩
theorem jn (h:fF ks ts wn k row B) (b:row.getLast? = some z) (a:B.getLast? = some s):∃G,cY ks ts wn (k,G,z) s:=by
 rw[xO] at a;have l:=(wO.mp a).1;have e:=h.1;rw[xD,xu] at e;have c:B.length-1<(row.zip (row.drop 1)).length:=by rw[<- h.1];exact l
 have q:=wS c;have:=h.2 _ _ s q a;rw[xv,xA,show 1+(B.length-1)=row.length-1 from by omega,<- xO,b] at q;exact⟨_,by rw[wR q.2];exact this⟩
theorem cQ (h:fF ks ts wn k row q):q.length=row.length-1:=by
 rw[h.1,xD,xu];omega
theorem fh (T:Tre us ks) (b:cV us ks ts) (nm:∀x∈row,Nm x) (c:fF ks ts wn k row q):∀s∈q,K3 s:=λs f=>by
 obtain⟨i,d⟩:=xI f;have e:=(wO.mp d).1;rw[c.1] at e;have a:=wS e;have g:=c.2 i _ s a d;rw[xv,xA] at a;exact oZ T b (nm _ (wP a.1)) (nm _ (wP a.2)) g
theorem nA {f:Str->Nat}{row:LS}(h:row.Pairwise λx y=>f x<f y) {i j:Nat}{x y:Str}(b:row[i]? = some x) (a:row[j]? = some y) (l:i<j):f x<f y:=by
 have:=List.pairwise_iff_getElem.mp h i j (wO.mp b).1 (wO.mp a).1 l
 rwa [(wO.mp b).2,(wO.mp a).2] at this
theorem t8 {f:Str->Nat}{row:LS}(h:row.Pairwise λx y=>f x<f y) {x:Str}(c:row.getLast? = some x):(x::row).dropLast.Nodup:=by
 obtain⟨b,rfl⟩:=List.getLast?_eq_some_iff.mp c;have a:=gr h;rw[show (x::(b++[x])).dropLast=x::b from by rw[<- List.cons_append,List.dropLast_concat]];rw[xY] at a;exact xB.mpr ⟨λq=>a.2.2 x q x (.head _) rfl,a.1⟩
theorem iN {f:Str->Nat}{k x y:Str}{row:LS}(h:row.Pairwise λx y=>f x<f y) (c:2<=row.length) (b:row.head? = some y) (a:row.getLast? = some x):cG (some ((k,x,y):T3)::(bm k row).map some):=by
 have:=om (k:=k) (row:=x::row) (z:=x) (by rw[xc];omega) (t8 h a) rfl (by rw[List.getLast?_cons,a];rfl)
 rwa [mz b] at this
theorem tJ {us:LS}(T:Tre us ks) (o:cV us ks ts) (l:fm us wn) {k:Str × LS}(C:k ∈ ks) {one B x y:Str}(t:bt ks one B=some (k.1, x, y)) (g:x ≠ y) {row:LS}(p:row.head? = some y) (m:row.getLast? = some x) (D:2 <= row.length)
    (r:∀x∈row,x∈k.2) (f:row.Pairwise λx y=>MG.ix k.2 x<MG.ix k.2 y) {G:List T3} (i:fF ks ts wn k.1 row G):gD (jX ks ts wn one B) ((("tie":Str),one,B)::G):=by
 have w:=cQ i;have d:∀ {u v:Str},cY ks ts wn (k.1,u,v) (("tie":Str),one,B)->u=x/\v=y:=λ{u v} h=>by
  rcases h with⟨_,_,h⟩ | ⟨h,_⟩ | ⟨h,_⟩
  ·have h:bt ks one B=some (k.1,u,v):=h;rw[t] at h;cases h;exact⟨rfl,rfl⟩
  ·exact absurd (congrArg Prod.fst h) (show ("tie":Str)≠"first" by decide)
  ·exact absurd (congrArg Prod.fst h) (show ("tie":Str)≠"last" by decide)
 refine⟨⟨by rw[xc];omega,rfl,?_⟩,λ⟨_,h,_⟩=>?_,λ⟨_,h,_⟩=>?_,λ⟨_,_,h⟩=>?_⟩
 ·rw[t];show cG (_::G.map (pOf ks ts wn));rw[fD T C r f i];exact iN f D p m
 ·rw[List.head?_reverse,List.getLast?_cons] at h;cases q:G.getLast? with
  | none =>
   have:=yE.mp q;rw[this] at w;exact absurd w (by show 0≠_;omega)
  | some s =>
   rw[q] at h;cases h;obtain⟨H,n⟩:=jn i m q;exact g (d n).2
 ·obtain⟨H,n⟩:=iL i p h;exact g (d n).1.symm
 ·refine hZ ?_ h;refine .tail _ ?_;show none∈pOf ks ts wn (("tie":Str),one,B)::G.map (pOf ks ts wn);have e:pOf ks ts wn (("tie":Str),one,B)=none:=by
   unfold pOf;have F:¬ ((("tie":Str)="tie")/\(one,B)∈ts):=λz=>by
    obtain⟨_,_,_,A,j,a,b,c,_,_,_,_,I⟩:=o _ z.2;have c:bt ks one B=some (A.1,a,b):=c;rw[t] at c;have E:k=A:=iY T C j (congrArg (λq:Str × Str × Str=>q.1) (wR c));subst E;cases c;have:=qB f D p m;omega
   rw[if_neg F,if_neg λz=>(l _ z).1.elim (λe=>absurd e (show ("tie":Str)≠"first" by decide)) (λe=>absurd e (show ("tie":Str)≠"last" by decide))]
  rw[e];exact .head _
def bK (word unit twin:Str):Str × Str:=if word="last" then (twin,unit) else (unit,twin)
theorem rn {us:LS}(T:Tre us ks) {k:Str × LS}(w:k ∈ ks) {B G I:Str}(n:B="first" ∨ B="last") (j:G ∈ k.2) (r:I ∈ k.2) (v:I ≠ G) (a:∀e ∈ wn, e.2 ≠ G) {row:LS}(u:row.head? = some (bK B G I).2) (p:row.getLast? = some (bK B G I).1) (D:2 <= row.length)
    (m:∀x∈row,x∈k.2) (g:row.Pairwise λx y=>MG.ix k.2 x<MG.ix k.2 y) {J:List T3} (i:fF ks ts wn k.1 row J):gD (hJ ks ts wn B G) ((B,(bK B G I).1,(bK B G I).2)::J):=by
 have o:=cQ i;have d:bV (B,(bK B G I).1,(bK B G I).2)=G:=by
  rcases n with rfl | rfl
  ·exact if_pos rfl
  ·exact if_neg (show ("last":Str)≠"first" by decide)
 have b:∀ {t s:T3},cY ks ts wn t s->s.1=B->bV s=G->False:=λ{t s} h c f=>by
  rcases h with⟨h,_⟩ | ⟨rfl,h⟩ | ⟨rfl,h⟩
  ·rw[h] at c;rcases n with rfl | rfl
   ·exact absurd c (show ("tie":Str)≠"first" by decide)
   ·exact absurd c (show ("tie":Str)≠"last" by decide)
  ·exact a _ h ((if_pos rfl:bV (("first":Str),t.2.1,t.2.2)=t.2.1).symm.trans f)
  ·exact a _ h ((if_neg (show ("last":Str)≠"first" by decide):bV (("last":Str),t.2.1,t.2.2)=t.2.2).symm.trans f)
 have C:pwO ks (B,(bK B G I).1,(bK B G I).2)=some (k.1,(bK B G I).1,(bK B G I).2):=by
  rw[jv T w (by rw[d];exact j),if_neg];unfold bK
  split
  ·exact λz=>z.elim v λz=>z.elim (λz=>z r) (λz=>z j)
  ·exact λz=>z.elim (λz=>v z.symm) λz=>z.elim (λz=>z j) (λz=>z r)
 refine⟨⟨by rw[xc];omega,_,rfl,rfl,d,?_⟩,λ⟨_,s,h,c,f,_⟩=>?_,λ⟨_,s,h,c,f,_⟩=>?_,λ⟨_,s,_,_,_,h⟩=>?_⟩
 ·rw[C];show cG (_::J.map (pOf ks ts wn));rw[fD T w m g i];exact iN g D u p
 ·rw[List.head?_reverse,List.getLast?_cons] at h;cases q:J.getLast? with
  | none =>
   have:=yE.mp q;rw[this] at o;exact absurd o (by show 0≠_;omega)
  | some s' =>
   rw[q] at h;cases h;obtain⟨A,l⟩:=jn i p q;exact b l c f
 ·obtain⟨A,l⟩:=iL i u h;exact b l c f
 ·refine hZ ?_ h;refine .tail _ ?_;have e:pOf ks ts wn (B,(bK B G I).1,(bK B G I).2)=none:=by
   unfold pOf;rw[if_neg,if_neg]
   ·rw[d];exact λz=>a _ z rfl
   ·rintro⟨z,_⟩;have z:B="tie":=z;rcases n with rfl | rfl
    ·exact absurd z (show ("first":Str)≠"tie" by decide)
    ·exact absurd z (show ("last":Str)≠"tie" by decide)
  show none∈pOf ks ts wn (B,(bK B G I).1,(bK B G I).2)::J.map (pOf ks ts wn);rw[e];exact .head _
theorem qe {us:LS}(T:Tre us ks) {k:Str × LS}(H:k ∈ ks) {mn:LS}(D:mn ≠ []) (q:∀m ∈ mn, m ∈ k.2) {row:LS}{y z:Str}(U:row.head? = some y) (M:y ∈ mn) (L:row.getLast? = some z) (P:z ∈ mn) (Z:3 <= row.length) (r:∀x ∈ (row.drop 1).dropLast, x ∉ mn)
    (F:∀x∈row,x∈k.2) (j:row.Pairwise λx y=>MG.ix k.2 x<MG.ix k.2 y) {I:List T3} (G:fF ks ts (bd wn mn) k.1 row I):gD (cR ks ts wn mn) I:=by
 have X:=cQ G;have B:=fD T H F j G;have n:(bm k.1 row).length=row.length-1:=cN;obtain⟨v,E,rfl⟩:∃v E,mn=v::E:=by
  cases mn with
  | nil=>exact absurd rfl D
  | cons a b=>exact⟨a,b,rfl⟩
 have R:∀i,i<row.length->∃x,row[i]? = some x:=λi h=>⟨_,wS h⟩
 have A:∀i,i+1<row.length->∃t,(bm k.1 row)[i]? = some t:=λi h=>⟨_,wS (by rw[n];omega)⟩
 have d:∀ {i:Nat} {x:Str},0<i->i+1<row.length->row[i]? = some x->x∉v::E:=λ{i x} u Y N=>by
  refine r x (wP (i:=i-1) ?_);rw[List.getElem?_dropLast,if_pos (by rw[xu];omega),xA,show 1+(i-1)=i from by omega];exact N
 refine⟨⟨by omega,_,B,mo (by omega) ((gr j).sublist (List.dropLast_sublist _)),?_,λp W=>?_⟩,?_,?_,?_⟩
 ·obtain⟨f,c⟩:=A 0 (by omega);obtain⟨w,K,Q,_⟩:=iK (k:=k.1) L (by omega);have g:=bz c;refine⟨f,w,by rw[xJ];exact c,K,?_,?_,by rw[Q];exact P⟩
  ·rw[g.2.2];exact(T.par H (q v (.head _))).symm
  ·rw[<- xJ,U] at g;rw[<- wR g.1];exact M
 ·obtain⟨i,u⟩:=xI W;rw[xA] at u;have g:=bz u;have l:=(wO.mp u).1;rw[n] at l;exact d (by omega) (by omega) g.1
 ·rintro⟨_,J,e,l,_⟩;rw[List.map_reverse,B,<- List.map_reverse] at e;rw[<- cH e] at l;obtain⟨w,o⟩:=A (row.length-2) (by omega);obtain⟨f,c⟩:=A (row.length-3) (by omega);have S:=bz o;have s:=bz c;have e:=l.2.1 (w,f) (wP (i:=0) (by
   rw[xv,xA,List.getElem?_reverse (by rw[n];omega),List.getElem?_reverse (by rw[n];omega),n];exact⟨by rw[<- o];congr 1,by rw[<- c];congr 1⟩))
  have e:w.2.2=f.2.1:=e;have:=nA j s.1 S.2.1 (by omega);rw[e] at this;omega
 ·rintro⟨h2,J,e,l,⟨a,b,C,_,_,O,_⟩,_⟩;rw[xN,B,<- xN] at e;rw[<- cH e,xJ,xA] at C;have g:=bz C;have l:=(wO.mp C).1;rw[n] at l;exact d (by omega) (by omega) g.1 O
 ·rintro⟨_,J,e,l,_⟩;rw[wZ,xZ,B,<- xZ,<- wZ] at e;rw[<- cH e] at l;obtain⟨f,c⟩:=A 0 (by omega);have s:=bz c;have V:(bm k.1 row).take 1=[f]:=by rw[xg (i:=0),c];rfl
  have e:=l.2.1 (f,f) (wP (i:=0) (by
   rw[V,xv];exact⟨rfl,c⟩))
  have e:f.2.2=f.2.1:=e;have:=nA j s.1 s.2.1 (by omega);rw[e] at this;omega
theorem sV (h:u∈wU c wn q):u∈c:=by
 unfold wU at h;exact(xn.mp h).1
theorem na (a:Bool) (g:∀z∈c,z∈us) (f:u∈us):gF us (gA a c u):=λe d=>by
 unfold gA at d;obtain⟨z,b,rfl⟩:=wX.mp d;have b:=g z (xn.mp b).1;cases a
 ·exact⟨f,b⟩
 ·exact⟨b,f⟩
theorem qJ (T:Tre us ks) (a:k∈ks) (e:u∈us) (f:v∈us) (h:bt ks u v=some (k.1,x,y)):x∈k.2/\y∈k.2:=by
 obtain⟨d,g,c,b,_⟩:=T.part e f h;have a:(k.1,k.2)∈ks:=a;exact⟨T.kid c (by rw[d];exact a),T.kid b (by rw[g];exact a)⟩
theorem ee (T:Tre us ks) (f:cV us ks ts) (i:k ∈ ks):∀e ∈ cL ks ts wn k.1 k.2, e.1 ∈ k.2 /\ e.2 ∈ k.2 := λe a => by
 unfold cL at a;rw[fJ,w8,w8] at a;rcases a with a | a | a | a
 ·cases a
 ·obtain⟨z, b, q⟩ := xQ.mp a;obtain⟨c,d,_⟩:=f z b;unfold fe at q;cases hpo:bt ks z.1 z.2 with
  | none=>rw[hpo] at q;cases q
  | some t3 =>
   obtain⟨g,h,j⟩:=t3;rw[hpo] at q;have q:(if g=k.1 then some (h,j) else none)=some e:=q;by_cases b:g=k.1
   ·rw[if_pos b] at q;have q:=wR q;subst q;rw[b] at hpo;exact qJ T i c d hpo
   ·rw[if_neg b] at q;cases q
 ·obtain⟨u,c,a⟩:=xL.mp a;exact na (us:=k.2) false (λz b=>b) (sV c) e a
 ·obtain⟨u,c,a⟩:=xL.mp a;exact na (us:=k.2) true (λz b=>b) (sV c) e a
structure GdH (us:LS) (ks:Kn) (ts ws wn:Prs):Prop where
 T:Tre us ks
 tok:cV us ks ts
 win:gF us ws
 wsr:WsR ks ts wn ws
 wx:WnX ks wn
 tl:ts.length<=200
 wsl:ws.length<=60
 wl:wn.length<=122
 up:0<us.length
theorem GdH.wok (G:GdH us ks ts q wn):fm us wn:=WnX.ok G.T G.wx
inductive Ask (us:LS) (ks:Kn) (ts wn:Prs) (p:Addr) (H:Hp):Nat->V->PyData->(List T3->Prop)->Prop
 | tie {a:Addr} {one other:Str}:one∈us->other∈us->H a=some (.tup [.str one,.str other])->Ask us ks ts wn p H 0 (.ref a) (aK (one,other)) (jX ks ts wn one other)
 | want {a:Addr} {word one:Str}:(word="first"∨word="last")->one∈us->H a=some (.tup [.str word,.str one])->Ask us ks ts wn p H 1 (.ref a) (aK (word,one)) (hJ ks ts wn word one)
 | group {a:Addr} {mn:LS} {b:Bool}:mn≠[]->(∀m∈mn,m∈us)->mn.length<=60->a≠p->H a=some (if b then .lst (List.map V.str mn) else .tup (List.map V.str mn))->Ask us ks ts wn p H 2 (.ref a) (vh b (mn.map PyData.str)) (cR ks ts wn mn)
theorem Ask.but (h:Ask us ks ts wn p H n v d R) (a:H p=some (.lst ys)) (b:But p H H'):Ask us ks ts wn p H' n v d R:=by
 cases h with
 | tie h1 h2 h3=>exact .tie h1 h2 (aP a b h3)
 | want h1 h2 h3=>exact .want h1 h2 (aP a b h3)
 | group h1 h2 h3 n h4=>exact .group h1 h2 h3 n (b _ _ n h4)
def lE:Sp:=λvs H Q _=>∃(q r p:Addr) (n:Nat) (v:V) (d:PyData) (us:LS) (ks:Kn) (ts ws wn:Prs) (R:List T3->Prop) (ss:List T3),vs=[.ref q,.int (n:Int),v,.ref r]/\Rep H (.ref q) (aZ ks ts ws wn)/\GdH us ks ts ws wn/\Ask us ks ts wn p H n v d R/\RgH H r ss/\(∀s∈ss,K3 s)/\ss.length<=190/\∀H',Same H H'->Q (.bl (di (R ss))) H'
theorem scLook:FnScope ["_law_house_here","_law_sort","_law_asked","_law_ring"] ["_law_house_here","_law_sort","_law_asked","_law_ring"] (am iR):=⟨rfl,rfl,rfl,by decide +kernel,rfl,by decide +kernel,by decide +kernel⟩
theorem tm (F:Fun K "_law_look" "_law_look" iR f fd) (B:Blt mg) (g:Cal P w K mg base 5 "is_tie_ring" ["house", "one", "other", "ring"] kB) (e:Cal P w K mg base 5 "is_want_ring" ["house", "word", "one", "ring"] ju) (c:Cal P w K mg base 5 "is_group_ring" ["house", "members", "ring"] iM):FnOk P w K mg base CX0 6 f fd ["_law_house_here", "_law_sort", "_law_asked", "_law_ring"] lE := by
 refine F.ok scLook (λL H Q E h=>?_) (λN A D s H L Q E i h=>?_)
 ·obtain⟨q,r,p,n,v,d,u,m,y,t,o,R,x,rfl,_⟩:=h
  rfl
 ·obtain⟨q, r, p, n, v, d, u, m, y, t, o, R, x, rfl, I, G, J, j, z, C, k⟩ := h;have O:=scLook.nd;refine⟨_,(ae (aU (ak (aY i.units) (pv 1) ac (aw _)) (ag (av (ai g (i.mono (by decide)) rfl (aa (pv 0) (aa (af (ah K i.units) (pv 2) ac (λ_ _=>rfl)) (aa (af (ah K i.units) (pv 2) ac (λ_ _=>rfl)) (aa (pv 3) ab))))))) aF)
   (ae (aU (ak (aY i.units) (pv 1) ac (aw _)) (ag (av (ai e (i.mono (by decide)) rfl (aa (pv 0) (aa (af (ah K i.units) (pv 2) ac (λ_ _=>rfl)) (aa (af (ah K i.units) (pv 2) ac (λ_ _=>rfl)) (aa (pv 3) ab))))))) aF)
   (ag (av (ai c (i.mono (by decide)) rfl (aa (pv 0) (aa (pv 2) (aa (pv 3) ab)))))))),?_⟩
  have l:=G.wok;cases J with
  | @tie a one other h1 h2 ha =>
   refine⟨_,rfl,.sc rfl ⟨_,rfl,?_⟩⟩;refine aD (λ_=>?_) (λh=>absurd rfl h);exact⟨_,rfl,_,rfl,.tup (.of ha) rfl ⟨_,rfl,.tup (.of ha) rfl ⟨_,rfl,aB ⟨q,r,u,m,y,t,o,one,other,x,rfl,I,G.T,G.tok,l,h1,h2,j,z,C,k⟩⟩⟩⟩
  | @want a word one h1 h2 ha =>
   refine⟨_,rfl,.sc rfl ⟨_,rfl,?_⟩⟩;refine aD (λh=>absurd h (by decide)) (λ_=>aX ?_);refine⟨_,rfl,.sc rfl ⟨_,rfl,?_⟩⟩;refine aD (λ_=>?_) (λh=>absurd rfl h);exact⟨_,rfl,_,rfl,.tup (.of ha) rfl ⟨_,rfl,.tup (.of ha) rfl ⟨_,rfl,aB ⟨q,r,u,m,y,t,o,word,one,x,rfl,I,G.T,G.tok,l,h2,j,z,C,k⟩⟩⟩⟩
  | @group a mn b h1 h2 h3 np ha =>
   refine⟨_,rfl,.sc rfl ⟨_,rfl,?_⟩⟩;refine aD (λh=>absurd h (by decide)) (λ_=>aX ?_);refine⟨_,rfl,.sc rfl ⟨_,rfl,?_⟩⟩;refine aD (λh=>absurd h (by decide)) (λ_=>aX ?_);have M:SqA H a (List.map V.str mn):=by
    cases b
    ·exact .inr ha
    ·exact .inl ha
   exact⟨_,rfl,_,rfl,_,rfl,q,a,r,u,m,y,t,o,mn,x,rfl,I,G.T,G.tok,l,by have:=G.wl;omega,M,h1,h2,j,z,C,k⟩
def Fd (us:LS) (ks:Kn) (ts wn:Prs) (p:Addr) (n:Nat) (Pr:(List T3->Prop)->List T3->Prop) (H:Hp) (v:V):Prop:=v=.non∨∃t as r d R ss,v=.ref t/\H t=some (.tup [as,.ref r])/\Ask us ks ts wn p H n as d R/\RgH H r ss/\r≠p/\(∀s∈ss,K3 s)/\ss.length<=90/\Pr R ss
def dP (K:W.Frag) (n:Nat) (Pr:(List T3->Prop)->List T3->Prop):Sp:=λvs H Q _=>∃(p a q un:Addr) (us:LS) (ks:Kn) (ts ws wn:Prs),vs=[.ref p,.ref q,.ref un]/\Pen K H p a/\Rep H (.ref q) (aZ ks ts ws wn)/\GdH us ks ts ws wn/\H un=some (.lst (List.map V.str us))/\un≠p /\
 ∀v H',Fd us ks ts wn p n Pr H' v->PenV H' p a->But p H H'->Q v H'
def NoR (R:List T3->Prop) (ss:List T3):Prop:=¬ R ss
theorem cU (m:σ[0]? = some (some (.ref p))) (d:σ[j]? = some (some (.ref l))) (n:Pen K H p a) (c:H l=some (.lst (List.map V.str q))) (o:l≠p) (g:0<q.length) (t:q.length<=1000)
    (k:∀(j:Nat) H',j<q.length->PenV H' p a->But p H H'->Q (.str (q.getD j "")) H'):tOp (λx y H Q=>IxX K H x y Q) (dD j) (iA (ci K) [] E0 (bJ (dD 0) (bJ (tCB (uL K) (bJ (dD j) fg)) fg))) σ H Q:=by
 have b:(List.map V.str q).length=q.length:=wK ..;refine⟨_,d,_,m,_,d,_,_,rfl,Or.inl ⟨_,.of c,rfl⟩,p,a,_,rfl,n,by rw[b];omega,by rw[b];omega,λr H' h s v e=>?_⟩;obtain⟨i,rfl⟩:=xj h;rw[b] at s;have f:i<q.length:=by omega
 exact .lst (.of ((e _ o).trans c)) (eU f) (k i H' f v (But.of_eq e))
def uX (K:W.Frag):Sp:=dP K 0 gD
theorem scLTie:FnScope ["_law_pen_here","_law_house_here","_law_units","_law_one","_law_other","_law_told","_law_row","_law_steps_here"] ["_law_pen_here","_law_house_here","_law_units"] (am jQ):=⟨rfl,rfl,rfl,by decide +kernel,rfl,by decide +kernel,by decide +kernel⟩
theorem ub (F:Fun K "_law_tie" "_law_tie" jQ f fd) (B:Blt mg) (b:Cal P w K mg base 1 "_law_draw" ["_law_pen_here", "_law_most"] (ci K)) (y:Cal P w K mg base 1 "_law_around" ["_law_knots"] cw) (v:Cal P w K mg base 2 "_law_parting" ["_law_around_here", "_law_one", "_law_other"] dv) (D:Cal P w K mg base 3 "_law_edges" ["_law_house_here", "_law_knot"] eP) (L:Cal P w K mg base 2 "_law_walk" ["_law_pen_here", "_law_edges_here", "_law_here", "_law_goals"] (gL K)) (I:Cal P w K mg base 4 "_law_along" ["_law_pen_here", "_law_house_here", "_law_knot", "_law_row"] (fk K)):FnOk P w K mg base CX0 5 f fd ["_law_pen_here", "_law_house_here", "_law_units"] (uX K) := by
 refine F.ok scLTie (λvs H Q E h=>?_) (λh8 A e1 s H vs Q E C h=>?_)
 ·obtain⟨p,a,q,un,O,ks,ts,ws,wn,rfl,_⟩:=h
  rfl
 ·obtain⟨p, a, q, un, O, ks, ts, ws, wn, rfl, hP, R, G, d1, a3, k⟩ := h;have nd:=scLTie.nd;refine⟨_,(ae (ao (i:=3) nd rfl (Or.inl rfl) (af (ah K C.units) (pv 2) (ai b (C.mono (by decide)) rfl (aa (pv 0) (aa (aW K B (aa (pv 2) ab)) ab))) (λ_ _=>rfl)))
   (ae (ao (i:=4) nd rfl (Or.inl rfl) (af (ah K C.units) (pv 2) (ai b (C.mono (by decide)) rfl (aa (pv 0) (aa (aW K B (aa (pv 2) ab)) ab))) (λ_ _=>rfl)))
   (ae (aU (PW.pt (cj (ak (pf K C.units) (af (ah K C.units) (pv 1) ac (λ_ _=>rfl)) (aL ab) (by with_unfolding_all rfl)) (bO (ak gX (ai b (C.mono (by decide)) rfl (aa (pv 0) (aa ac ab))) ac (aw _))))) (ag (df (af (ah K C.units) (af (ah K C.units) (pv 1) ac (λ_ _=>rfl)) (ai b (C.mono (by decide)) rfl (aa (pv 0) (aa (aW K B (aa (af (ah K C.units) (pv 1) ac (λ_ _=>rfl)) ab)) ab))) (λ_ _=>rfl)) (bN (n:=2) K rfl (aO (aA (i:=4) nd rfl (Or.inl rfl)) (aO (aA (i:=3) nd rfl (Or.inl rfl)) bS))))) aF)
   (ae (ao (i:=5) nd rfl (Or.inl rfl) (ai v (C.mono (by decide)) rfl (aa (ai y (C.mono (by decide)) rfl (aa (af (ah K C.units) (pv 1) ac (λ_ _=>rfl)) ab)) (aa (pv 3) (aa (pv 4) ab)))))
   (ae (aU (ak ib (pv 5) bj (aw _)) (ag (av bj)) aF)
   (ae (ao (i:=6) nd rfl (Or.inl rfl) (ai L (C.mono (by decide)) rfl (aa (pv 0) (aa (ai D (C.mono (by decide)) rfl (aa (pv 1) (aa (af (ah K C.units) (pv 5) ac (λ_ _=>rfl)) ab))) (aa (af (ah K C.units) (pv 5) ac (λ_ _=>rfl)) (aa (aQ (aa (af (ah K C.units) (pv 5) ac (λ_ _=>rfl)) ab)) ab))))))
   (ae (aU (ak ib (pv 6) bj (aw _)) (ag (av bj)) aF)
   (ae (ao (i:=7) nd rfl (Or.inl rfl) (ai I (C.mono (by decide)) rfl (aa (pv 0) (aa (pv 1) (aa (af (ah K C.units) (pv 5) ac (λ_ _=>rfl)) (aa (pv 6) ab))))))
   (ag (av (aL (aa (aL (aa (pv 3) (aa (pv 4) ab))) (aa (aG aT (aQ (aa (aL (aa aR (aa (pv 3) (aa (pv 4) ab)))) ab)) (pv 7)) ab))))))))))))),?_⟩
  obtain⟨h0,U⟩:=aV hP.2;have T:=G.T;have f0:=T.len;refine cU rfl rfl hP d1 a3 G.up (by omega) λj1 H1 l1 v1 b1=>?_;refine au ?_;dsimp only;refine cU rfl rfl (hP.but b1 v1) (b1 _ _ a3 d1) a3 G.up (by omega) λj2 H2 l2 v2 f9=>?_;have b2:=b1.trans f9;refine au ?_;dsimp only;have i1:=bW l1;have i2:=bW l2;generalize O.getD j1 ""=x1 at i1 ⊢;generalize O.getD j2 ""=x2 at i2 ⊢;apply dF (J:=λσ HZ=>∃(one m:Str),σ=[some (.ref p),some (.ref q),some (.ref un),some (.str one),some (.str m),none,none,none]/\one∈O/\m∈O/\PenV HZ p a/\But p H HZ)
  ·intro aM;obtain⟨q',a0,b0,c3,d4,e0,hq,R1,R2,_,R4⟩:=bc (aI U b2 R);cases e0;obtain⟨b',rb,e0,hb,c1⟩:=bo R2;cases e0;have a4:=c1.len;rw[wK] at a4;refine⟨_,rfl,.tup (.of hq) rfl ⟨szl 0,λz hz=>?_⟩⟩;refine nw hz λH3 s3 e3=>⟨b0,z,rb,rfl,rfl,.of (s3 _ _ hb),e3,_,rfl,?_⟩
   have v3:=ap s3 v2;have b3:=b2.trans (But.of_same (p:=p) s3);refine aD (λnb=>?_) (λ_=>?_)
   ·have g9:0<rb.length:=by
       cases rb with
       | nil=>cases nb
       | cons x r=>exact x4 _
    refine⟨_,rfl,p,a,3,rfl,hP.but b3 v3,by decide,by decide,λr H4 i0 i4 v4 e4=>?_⟩;have W:=But.of_eq e4;have b4:=b3.trans W;obtain⟨h4,a5⟩:=aV v3;refine⟨_,_,rfl,rfl,_,rfl,?_⟩;refine aD (λ_=>?_) (λ_=>aM _ _ ⟨x1,x2,rfl,i1,i2,v4,b4⟩);have c8:=aP a5 W (s3 _ _ hq);have c5:=aP a5 W (s3 _ _ hb);refine⟨_,rfl,.tup (.of c8) rfl ⟨_,rfl,_,rfl,.tup (.of c8) rfl (aB ⟨_,_,rfl,Or.inr ⟨_,.of c5,rfl⟩,p,a,_,rfl,hP.but b4 v4,by have:=G.tl;omega,by have:=G.tl;omega,λr5 H5 g0 h3 v5 e5=>?_⟩)⟩⟩;have a6:=But.of_eq e5;have b5:=b4.trans a6;obtain⟨i5,d2⟩:=aV v4;obtain⟨j,rfl⟩:=xj g0;have hj:j<rb.length:=by omega
    have hz:rb[j]? = some rb[j]:=wS hj;obtain⟨e,te,he,ex,d8⟩:=bM c1 hz;rw[ex] at hz;have tk:=G.tok e (wP he);refine .tup (.of (aP d2 a6 c5)) (bf hz) ⟨te,_,rfl,.of (aP d2 a6 (aP a5 W (s3 _ _ d8))),rfl,_,_,rfl,_,_,rfl,rfl,?_⟩;exact aM _ _ ⟨e.2,e.1,rfl,tk.2.1,tk.1,v5,b5⟩
   ·show (if false=true then _ else _);rw[if_neg (by decide)];exact aM _ _ ⟨x1,x2,rfl,i1,i2,v3,b3⟩
  ·rintro σ H3 ⟨one, m, rfl, h1, h2, v3, b3⟩;obtain⟨q',a0,b0,c3,d4,e0,hq,R1,R2,_,R4⟩:=bc (aI U b3 R);cases e0;refine⟨_,rfl,.tup (.of hq) rfl (aB ⟨a0,O,ks,rfl,R1,T,λd e2 H4 s4 h6 hd ar=>⟨_,rfl,_,rfl,aB ⟨d,e2,O,ks,one,m,rfl,hd,ar,T,h1,h2,λx H5 s5 Z=>?_⟩⟩⟩)⟩;have c7:=s4.trans s5;have b5:=b3.trans (But.of_same (p:=p) c7);have v5:=ap c7 v3;refine au ?_;dsimp only;refine⟨_,rfl,.non ⟨_,rfl,?_⟩⟩;rw[if_neg (show ¬ false=true by decide)];cases hpo:bt ks one m with
   | none =>
    rw[hpo] at Z;have Z:x=.non:=Z;subst Z;refine aD (λ_=>?_) (λh=>(h (wQ (rfl:V.non=V.non))).elim);exact k .non H5 (.inl rfl) v5 b5
   | some t3 =>
    obtain⟨kn,cx,cy⟩:=t3;rw[hpo] at Z;obtain⟨tt,rfl,c6⟩:∃t,x=.ref t/\H5 t=some (.tup [.str kn,.str cx,.str cy]):=Z;refine aD (λh=>absurd (xf h) (by intro z;cases z)) (λ_=>aX ?_);dsimp only;obtain⟨pk,e8,d7,e6,g2⟩:=T.part h1 h2 hpo;obtain⟨M,o,c9⟩:=T.has d7;have g7:kn=M.1:=by rw[<- pk,T.par o c9]
    subst g7;have f3:cy∈M.2:=T.kid (c:=M.2) e6 (by rw[e8];exact o);have R5:=aI U b5 R;refine⟨_,rfl,_,rfl,_,rfl,.tup (.of c6) rfl (aB ⟨q,O,ks,ts,ws,wn,M.1,M.2,rfl,R5,T,G.tok,G.wx,o,G.tl,G.wl,λle a2 H6 s6 c2 f8 f6 el h5=>?_⟩)⟩;have b6:=b5.trans (But.of_same (p:=p) s6);have v6:=ap s6 v5;have N:=s6 _ _ c6;have f5:le≠p:=Ne.symm (v5.ne c2);have Y:=ee (wn:=wn) T G.tok o;have d5:=dW T G.tok G.wx o;have kl:M.2.length<=60:=wV (cO (cq T o) λu hu=>T.isIn o hu) f0;have a7:∀s∈M.2,Nm s:=λs hs=>T.nm s (T.isIn o hs);refine⟨_,rfl,.tup (.of N) rfl ⟨_,rfl,.tup (.of N) rfl ⟨szl 1,λgl c4=>?_⟩⟩⟩;refine nw c4 λH7 s7 e7=>?_;have b7:=b6.trans (But.of_same (p:=p) s7);have v7:=ap s7 v6;have f2:gl≠p:=Ne.symm (v6.ne c4);obtain⟨h7,g1⟩:=aV v7;refine aB ⟨p,a,le,gl,cy,a2,cL ks ts wn M.1 M.2,M.2,[cx],MG.ix M.2,rfl,hP.but b7 v7,s7 _ _ f8,f6.same s7,Y,f3,a7,kl,el,f5,f2,e7,λg hg=>by rw[xa.mp hg];exact c9,by show 1<=60;decide,λe he=>⟨d5 e he,xw (MG.ix_lt (Y e he).2) kl⟩,λ_ H8 v8 S=>?_,λl d3 H8 wd X i3 nl g5 v8 S=>?_⟩
    ·refine au ?_;dsimp only;refine⟨_,rfl,.non ⟨_,rfl,?_⟩⟩;rw[if_neg (show ¬ false=true by decide)];refine aD (λ_=>?_) (λh=>(h (wQ (rfl:V.non=V.non))).elim);exact k .non H8 (.inl rfl) v8 (b7.trans S)
    ·refine au ?_;dsimp only;refine⟨_,rfl,.non ⟨_,rfl,?_⟩⟩;rw[if_neg (show ¬ false=true by decide)];refine aD (λh=>absurd (xf h) (by intro z;cases z)) (λ_=>aX ?_);dsimp only;have b8:=b7.trans S;have c0:=fY (f:=MG.ix M.2) λe he=>d5 e (wd.chain e he);have rl:d3.length<=60:=wV (cO (gr c0) X) kl;refine⟨_,rfl,_,rfl,_,rfl,.tup (.of (aP g1 S (s7 _ _ N))) rfl ⟨_,rfl,aB ⟨p,a,q,l,O,ks,ts,ws,wn,M.1,d3,rfl,hP.but b8 v8,aI U b8 R,T,G.tok,G.wok,G.tl,G.wl,(T.sub M o).imp id (T.nm _),.inl g5,nl,λu hu=>a7 u (X u hu),by omega,λe he=>dY o (wd.chain e he),λla ss H9 g8 h9 hg al v9 d9=>?_⟩⟩⟩;refine au ?_;dsimp only;have b9:=b8.trans d9;obtain⟨ar,f1,d6⟩:=hg;have f7:=d6.len;rw[wK] at f7;have sl:=cQ al;refine⟨_,rfl,_,rfl,szl 2,λt1 e9=>?_⟩;refine nw e9 λHA sA eA=>?_;refine⟨_,rfl,_,rfl,szl 3,λt2 g3=>?_⟩;refine nw g3 λHB sB eB=>⟨szl 1,λl3 g4=>?_⟩
     refine nw g4 λHC sC eC=>⟨_,rfl,?_⟩
     have a1:=(sA.trans sB).trans sC;refine .lst eC (a1 _ _ f1) (wV (by show 1+ar.length<=1000;omega) (szl 1000)) λl4 d0=>?_;have vC:=ap a1 v9;have f4:l4≠p:=Ne.symm (vC.ne d0);refine nw d0 λHD sD eD=>aB ⟨szl 2,λt5 g6=>?_⟩;refine nw g6 λHE sE eE=>?_;have a8:=sD.trans sE;have a9:=a1.trans a8;refine k (.ref t5) HE (.inr ⟨t5,.ref t1,l4,_,_,(("tie":Str),one,m)::ss,rfl,eE,.tie h1 h2 (((sB.trans sC).trans a8) _ _ eA),⟨_,sE _ _ eD,.cons (dy (t:=(("tie":Str),one,m)) ((sC.trans a8) _ _ eB)) (d6.same a9)⟩,f4,λs hs=>?_,by rw[xc];omega,?_⟩) (ap a9 v9) (b9.trans (But.of_same (p:=p) a9))
     ·rcases wY.mp hs with e | hs
      ·rw[e];exact⟨ik,T.nm _ h1,T.nm _ h2⟩
      ·exact fh T G.tok (λx Z=>a7 x (X x Z)) al s hs
     ·obtain⟨g,hg,e⟩:=wd.last;rw[xa.mp hg] at e;exact tJ T G.tok G.wok o hpo g2 wd.hd e wd.two X c0 al
theorem rj {tc:TT}{l:Addr}{c:LS}{fr:List Nat}{σ aM:St}{H:Hp}{Q:VK}(g:Str -> Bool) (t:H l=some (.tup (List.map V.str c))) (u:cS 1 fr σ=none :: aM) (A:c.length <= 1000) (p:∀x ∈ c, ∀H' (B:Bool -> Hp -> Prop), Same H H' -> (∀H2, Same H' H2 -> B (g x) H2) -> tc (some (.str x) :: aM) H' B)
    (k:∀D H',Same H H'->H D=none->H' D=some (.lst (List.map V.str (c.filter g)))->Q (.ref D) H'):cr 1 fr (cg 0) tc (dD 0) (Itt K l) σ H Q:=by
 let m:Addr->Nat->LV->SH:=λD i e f H'=>∃o,f=o::aM/\e=List.map V.str ((c.take i).filter g)/\Same H H'/\H D=none
 refine dC (List.map V.str c) m λD r=>⟨?_,?_,?_,?_⟩
 ·exact⟨none,u,rfl,Same.new r,r⟩
 ·rintro i e f H' _ ⟨o,rfl,_,n,_⟩ _;exact .of (n _ _ t)
 ·rintro i e f H' x v ⟨o,rfl,rfl,n,d⟩ b;obtain⟨y,q,rfl⟩:=bI v;have w:=(wO.mp q).1;have s:=yp g (c.take i);rw[xx] at s;have a:(c.take (i+1)).filter g=(c.take i).filter g++(if g y=true then [y] else []):=by
   rw[xg,q,yb];congr 1;show List.filter _ [y]=_;by_cases z:g y=true <;> simp[z]
  refine au ?_;refine p y (wP q) H' _ n λH2 j=>?_;refine aD (λh=>?_) (λh=>?_)
  ·rw[if_pos h] at a;exact⟨_,rfl,j _ _ b,by rw[wK];exact aH (by omega),_,rfl,by rw[a,wZ];rfl,bu (n.trans j) d,d⟩
  ·rw[if_neg h,xH] at a;exact⟨j _ _ b,_,rfl,by rw[a],n.trans j,d⟩
 ·rintro e f H2 ⟨o,rfl,rfl,j,d⟩ b;rw[wK,xk (wM _)] at b;exact k D H2 j d b
theorem hX {tc:TT}{l:Addr}{c:LS}{fr:List Nat}{σ aM:St}{H:Hp}{Q:VK}(g:Str -> Bool) (t:H l=some (.lst (List.map V.str c))) (u:cS 1 fr σ=none :: aM) (A:c.length <= 1000) (p:∀x ∈ c, ∀H' (B:Bool -> Hp -> Prop), Same H H' -> (∀H2, Same H' H2 -> B (g x) H2) -> tc (some (.str x) :: aM) H' B)
    (k:∀D H',Same H H'->H D=none->H' D=some (.lst (List.map V.str (c.filter g)))->Q (.ref D) H'):cr 1 fr (cg 0) tc (dD 0) (Itl K l) σ H Q:=by
 let m:Addr->Nat->LV->SH:=λD i e f H'=>∃o,f=o::aM/\e=List.map V.str ((c.take i).filter g)/\Same H H'/\H D=none
 refine cP (List.map V.str c) m λD r=>⟨?_,?_,?_,?_⟩
 ·exact⟨none,u,rfl,Same.new r,r⟩
 ·rintro i e f H' _ ⟨o,rfl,_,n,_⟩ _;exact .of (n _ _ t)
 ·rintro i e f H' x v ⟨o,rfl,rfl,n,d⟩ b;obtain⟨y,q,rfl⟩:=bI v;have w:=(wO.mp q).1;have s:=yp g (c.take i);rw[xx] at s;have a:(c.take (i+1)).filter g=(c.take i).filter g++(if g y=true then [y] else []):=by
   rw[xg,q,yb];congr 1;show List.filter _ [y]=_;by_cases z:g y=true <;> simp[z]
  refine au ?_;refine p y (wP q) H' _ n λH2 j=>?_;refine aD (λh=>?_) (λh=>?_)
  ·rw[if_pos h] at a;exact⟨_,rfl,j _ _ b,by rw[wK];exact aH (by omega),_,rfl,by rw[a,wZ];rfl,bu (n.trans j) d,d⟩
  ·rw[if_neg h,xH] at a;exact⟨j _ _ b,_,rfl,by rw[a],n.trans j,d⟩
 ·rintro e f H2 ⟨o,rfl,rfl,j,d⟩ b;rw[wK,xk (wM _)] at b;exact k D H2 j d b
theorem scLWant:FnScope ["_law_pen_here","_law_house_here","_law_units","_law_around_here","_law_word","_law_unit","_law_sort","_law_other","_law_kids","_law_edges_here","_law_twin","_law_ends","_law_row","_law_steps_here"] ["_law_pen_here","_law_house_here","_law_units"] (am gW):=⟨rfl,rfl,rfl,by decide +kernel,rfl,by decide +kernel,by decide +kernel⟩
theorem sf (F:Fun K "_law_want" "_law_want" gW f fd) (B:Blt mg) (c:Cal P w K mg base 1 "_law_draw" ["_law_pen_here", "_law_most"] (ci K)) (C:Cal P w K mg base 1 "_law_around" ["_law_knots"] cw) (I:Cal P w K mg base 3 "_law_edges" ["_law_house_here", "_law_knot"] eP) (N:Cal P w K mg base 2 "_law_walk" ["_law_pen_here", "_law_edges_here", "_law_here", "_law_goals"] (gL K)) (L:Cal P w K mg base 4 "_law_along" ["_law_pen_here", "_law_house_here", "_law_knot", "_law_row"] (fk K)):FnOk P w K mg base CX0 5 f fd ["_law_pen_here", "_law_house_here", "_law_units"] (dP K 1 gD) := by
 refine F.ok scLWant (λvs H Q E h=>?_) (λm7 A h7 s H vs Q E o h=>?_)
 ·obtain⟨p,a,q,un,us,Z,ts,ws,wn,rfl,_⟩:=h
  rfl
 ·obtain⟨p,a,q,un,us,Z,ts,ws,wn,rfl,hP,R,G,k0,e1,k⟩:=h;have Y:=scLWant.nd;refine⟨_,(ae (ao (i:=3) Y rfl (Or.inl rfl) (ai C (o.mono (by decide)) rfl (aa (af (ah K o.units) (pv 1) ac (λ_ _=>rfl)) ab)))
   (ae (ao (i:=4) Y rfl (Or.inl rfl) (af (ah K o.units) (aQ (aa aR (aa aR ab))) (ai c (o.mono (by decide)) rfl (aa (pv 0) (aa ac ab))) (λ_ _=>rfl)))
   (ae (ao (i:=5) Y rfl (Or.inr rfl) (af (ah K o.units) (pv 2) (ai c (o.mono (by decide)) rfl (aa (pv 0) (aa (aW K B (aa (pv 2) ab)) ab))) (λ_ _=>rfl)))
   (ae (bL PassesOwn.never rfl (bH K (af (ah K o.units) (pv 1) ac (λ_ _=>rfl))) (bN (n:=2) K rfl (aO (aA (i:=6) Y rfl (Or.inl rfl)) (aO (aA (i:=7) Y rfl (Or.inl rfl)) bS))) (ag (aU (PW.pt (cM (ak (aY o.units) (pv 7) (pv 5) (aw _)) (cA (PW.pt (cj (ak (aY o.units) (pv 6) (pv 4) (aw _)) (bO (ak (aY o.units) (af (ah K o.units) (pv 3) (pv 7) (λ_ _=>rfl)) (af (ah K o.units) (pv 3) (pv 5) (λ_ _=>rfl)) (aw _)))))))) (ag (av bj)) aF)))
   (ae (dA (i:=8) Y rfl rfl (by rfl) (am gW) ["_law_pen_here","_law_house_here","_law_units","_law_around_here","_law_word","_law_unit","_law_sort","_law_other","_law_kids","_law_edges_here","_law_twin","_law_ends","_law_row","_law_steps_here"] ["_law_kid"] [5] ["_law_kid","_law_unit"] rfl (bH K (af (ah K o.units) (fW K rfl o.units B (aa (af (ah K o.units) (pv 1) ac (λ_ _=>rfl)) ab)) (af (ah K o.units) (pv 3) (pv 5) (λ_ _=>rfl)) (λ_ _=>rfl))) (λ_ _ _ _ _=>(aA (i:=0) (show (["_law_kid","_law_unit"]:LS).Nodup by decide) rfl (Or.inl rfl))) (λ_ _ _ _ _=>(cm (ak (cI o.units) (pv 0) (pv 1) (aw _)))) (λ_ _ _ _ _=>(pv 0)))
   (ae (ao (i:=9) Y rfl (Or.inl rfl) (ai I (o.mono (by decide)) rfl (aa (pv 1) (aa (af (ah K o.units) (pv 3) (pv 5) (λ_ _=>rfl)) ab))))
   (ae (aU (ak (gc K o.units) (pv 8) (aQ ab) (by with_unfolding_all rfl)) (ag (av bj)) aF)
   (ae (ao (i:=10) Y rfl (Or.inl rfl) (af (ah K o.units) (pv 8) (ai c (o.mono (by decide)) rfl (aa (pv 0) (aa (aW K B (aa (pv 8) ab)) ab))) (λ_ _=>rfl)))
   (ae (ao (i:=11) Y rfl (Or.inl rfl) (af (ah K o.units) (aQ (aa (aL (aa (pv 5) (aa (pv 10) ab))) (aa (aL (aa (pv 10) (aa (pv 5) ab))) ab))) (oy B (aa (eR (aY o.units) (pv 4) aR (aw _)) ab)) (λ_ _=>rfl)))
   (ae (ao (i:=12) Y rfl (Or.inl rfl) (ai N (o.mono (by decide)) rfl (aa (pv 0) (aa (pv 9) (aa (af (ah K o.units) (pv 11) ac (λ_ _=>rfl)) (aa (aQ (aa (af (ah K o.units) (pv 11) ac (λ_ _=>rfl)) ab)) ab))))))
   (ae (aU (ak ib (pv 12) bj (aw _)) (ag (av bj)) aF)
   (ae (ao (i:=13) Y rfl (Or.inl rfl) (ai L (o.mono (by decide)) rfl (aa (pv 0) (aa (pv 1) (aa (af (ah K o.units) (pv 3) (pv 5) (λ_ _=>rfl)) (aa (pv 12) ab))))))
   (ag (av (aL (aa (aL (aa (pv 4) (aa (pv 5) ab))) (aa (aG aT (aQ (aa (aG (hU K) (aL (aa (pv 4) ab)) (pv 11)) ab)) (pv 13)) ab))))))))))))))))),?_⟩
  obtain⟨m2,U⟩:=aV hP.2;have T:=G.T;have i2:=T.len;obtain⟨q',a0,b0,c3,d4,e0,hq,R1,R2,_,R4⟩:=bc R;cases e0;obtain⟨m9,f6,e0,j9,f3⟩:=bo R4;cases e0;have X:=f3.len;rw[wK] at X;refine⟨_,rfl,.tup (.of hq) rfl (aB ⟨a0,us,Z,rfl,R1,T,λd c8 H1 s1 i3 hd ar=>?_⟩)⟩;refine au ?_;dsimp only;have v1:=ap s1 hP.2;have b1:=But.of_same (p:=p) s1;refine⟨szl 2,λlw d7=>?_⟩;refine nw d7 λH2 s2 e2=>?_;have v2:=ap s2 v1;have b2:=b1.trans (But.of_same (p:=p) s2);have j3:lw≠p:=Ne.symm (v1.ne d7);refine⟨_,rfl,p,a,2,rfl,hP.but b2 v2,by decide,by decide,λr H3 i7 m6 v3 e3=>?_⟩;have g1:=But.of_eq e3;have b3:=b2.trans g1;have c6:d≠p:=Ne.symm (hP.2.ne i3);have l0:=g1 _ _ c6 (s2 _ _ hd);obtain⟨j,rfl⟩:=xj i7;obtain⟨x,hx⟩:∃x,[V.str "first",V.str "last"][j]? = some x:=⟨_,wS (by show j<2;omega)⟩
  obtain⟨J,rfl,h6⟩:=nH hx;have hw:J="first"∨J="last":=by
   have:=wP h6;simpa [wds] using this
  refine .lst (.of ((e3 _ j3).trans e2)) (bf hx) ?_;refine au ?_;dsimp only;refine cU rfl rfl (hP.but b3 v3) (b3 _ _ e1 k0) e1 G.up (by omega) λj1 H4 l1 v4 h0=>?_;have b4:=b3.trans h0;refine au ?_;dsimp only;have hu:=bW l1;generalize us.getD j1 ""=b at hu ⊢;have c1:=h0 _ _ c6 l0;have f1:=aP U b4 hq;have f5:=aP U b4 j9;have g0:RepAll H4 f6 (wn.map aK):=aS (aN U b4) f3;refine⟨_,rfl,.tup (.of f1) rfl ⟨d4,rfl,⟨_,.of f5⟩,?_⟩⟩
  let f4:Nat->SH:=λi σ O=>∃(o6 o7:Option V),σ=[some (.ref p),some (.ref q),some (.ref un),some (.ref d),some (.str J),some (.str b),o6,o7,none,none,none,none,none,none]/\Same H4 O/\∀e∈wn.take i,e.2≠b
  refine dr (R:=Q) (xs:=f6) f4 ?_ ?_ ?_ ?_
  ·exact⟨none,none,rfl,Same.refl H4,λe he=>by simp at he⟩
  ·rintro i σ O hi ⟨o6,o7,rfl,sm,_⟩;exact .of (sm _ _ f5)
  ·rintro _ i x σ O hx ⟨o6, o7, rfl, sm, j7⟩;obtain⟨e,te,he,rfl,W⟩:=bM g0 hx;have h9:=(G.wok e (wP he)).2;have e5:∀ {u:Str},u∈us->∀ {Q':VK},Q' (.str (bg Z u)) O->IxX K O (.ref d) (.str u) Q':=λ{u} h {Q'} hq=>.dic (.inl ⟨c8,.inr u,.inl (sm _ _ c1),rfl,(ar u h).symm⟩) hq;have S:∀x y:Str,decide (V.str x=V.str y)=decide (x=y):=λx y=>by rw[xp,decide_eq_true_iff,decide_eq_true_iff];exact⟨V.str.inj,congrArg _⟩
   refine⟨te,_,rfl,.of (sm _ _ W),rfl,_,_,rfl,_,_,rfl,rfl,?_⟩;refine iD (b1:=decide (e.2=b)) (b2:=decide (e.1=J)&&decide (bg Z e.2=bg Z b)) (λQ' q'=>?_) (λQ' q'=>?_) ?_
   ·refine⟨_,rfl,_,rfl,.sc rfl ⟨_,rfl,?_⟩⟩;rw[if_neg (show ¬ false=true by decide),S];exact q'
   ·refine lW (b1:=decide (e.1=J)) (b2:=decide (bg Z e.2=bg Z b)) (λQ2 q2=>?_) (λQ2 q2=>?_) q'
    ·refine⟨_,rfl,_,rfl,.sc rfl ⟨_,rfl,?_⟩⟩;rw[if_neg (show ¬ false=true by decide),S];exact q2
    ·refine⟨_,rfl,_,rfl,e5 h9 ⟨_,rfl,_,rfl,e5 hu (.sc rfl ⟨_,rfl,?_⟩)⟩⟩;rw[if_neg (show ¬ false=true by decide),S];exact q2
   ·refine aD (λ_ => ?_) (λh => aX ?_)
    ·exact k .non O (.inl rfl) (ap sm v4) (b4.trans (But.of_same (p:=p) sm))
    ·refine⟨_,_,rfl,sm,λf hf=>?_⟩;rw[xg,he] at hf;rcases w8.mp hf with hf | hf
     ·exact j7 f hf
     ·have:f=e:=by simpa using hf
      subst this;intro z;rw[wQ z] at h;exact h rfl
  rintro σ H5 ⟨o6,o7,rfl,s5,c0⟩;rw[X,xk (wM _)] at c0;have b5:=b4.trans (But.of_same (p:=p) s5);have v5:=ap s5 v4;have f9:=s5 _ _ f1;have f8:=s5 _ _ c1;obtain⟨M,v,a5⟩:=T.has hu;have b6:=T.par v a5;have k3:Rep H5 (.ref a0) (cB Z):=by
   obtain⟨q2,a2,b2,c2,d2,e0,g7,l7,_⟩:=bc (aI U b5 R);cases e0;rw[f9] at g7;cases g7;exact l7
  have h3:∀ {O:Hp},Same H5 O->∀ {Q':VK},Q' (.str M.1) O->IxX K O (.ref d) (.str b) Q':=λ{O} sm {Q'} hq=>.dic (.inl ⟨c8,.inr b,.inl (sm _ _ f8),rfl,(ar b hu).symm⟩) (by rw[b6];exact hq);refine⟨_,rfl,.tup (.of f9) rfl (aB (dQ k3 T λD dk hD k9=>?_))⟩;obtain⟨la,k1,g2⟩:=k9 M v;refine nw hD λH6 s6 e6=>?_;refine⟨_,rfl,_,rfl,h3 s6 (.dic (.inl ⟨dk,.inr M.1,.inl e6,rfl,k1.symm⟩) ?_)⟩;refine⟨la,rfl,⟨_,.of (s6 _ _ g2)⟩,?_⟩;have kl:M.2.length<=60:=wV (cO (cq T v) λu hu=>T.isIn v hu) i2;have a3:∀s∈M.2,Nm s:=λs hs=>T.nm s (T.isIn v hs);have S:∀x y:Str,decide (V.str x=V.str y)=decide (x=y):=λx y=>by rw[xp,decide_eq_true_iff,decide_eq_true_iff];exact⟨V.str.inj,congrArg _⟩
  refine rj (λx=>!decide (x=b)) (s6 _ _ g2) rfl (by omega) (λx hx O Q' sm q'=>?_) λlk H7 s7 e4 g9=>?_
  ·refine⟨_,rfl,_,rfl,.sc rfl ⟨_,rfl,?_⟩⟩;rw[if_pos rfl,S];exact q' O (Same.refl O)
  refine au ?_;dsimp only;obtain⟨wl,c9⟩:∃wl,wl=M.2.filter λx=>!decide (x=b):=⟨_,rfl⟩
  have k8:∀y∈wl,y∈M.2/\y≠b:=λy hy=>by
   rw[c9] at hy;obtain⟨h1,h2⟩:=xn.mp hy;exact⟨h1,by simpa using h2⟩
  have m3:wl.length<=60:=by rw[c9];exact wV (yp _ _) kl
  rw[<- c9] at g9;have a6:=s6.trans s7;have b7:=b5.trans (But.of_same (p:=p) a6);have v7:=ap a6 v5;have i6:lk≠p:=Ne.symm ((ap s6 v5).ne e4);refine⟨_,rfl,_,rfl,_,rfl,h3 a6 (aB ⟨q,us,Z,ts,ws,wn,M.1,M.2,rfl,aI U b7 R,T,G.tok,G.wx,v,G.tl,G.wl,λle c7 H8 s8 d8 k2 j8 el m4=>?_⟩)⟩;refine au ?_;dsimp only;have b8:=b7.trans (But.of_same (p:=p) s8);have v8:=ap s8 v7;have f7:le≠p:=Ne.symm (v7.ne d8);refine⟨_,rfl,szl 0,λe0 j5=>?_⟩;refine nw j5 λH9 s9 e9=>?_;have h4:=s8.trans s9;have b9:=b8.trans (But.of_same (p:=p) s9);have v9:=ap s9 v8;have c4:=h4 _ _ g9;refine⟨lk,e0,_,rfl,rfl,.of c4,e9,_,rfl,?_⟩;rw[if_neg (show ¬ false=true by decide)];refine aD (λ_=>?_) (λh=>aX ?_)
  ·exact k .non H9 (.inl rfl) v9 b9
  have h5:0<wl.length:=by
   cases wl with
   | nil=>exact absurd rfl h
   | cons x r=>exact x4 _
  dsimp only;refine cU rfl rfl (hP.but b9 v9) c4 i6 h5 (by omega) λj2 HA l2 vA g6=>?_;have bA:=b9.trans g6;refine au ?_;dsimp only;obtain⟨a8,f0⟩:=k8 _ (bW l2);generalize wl.getD j2 ""=m at a8 f0 ⊢;refine⟨_,rfl,_,rfl,szl 2,λt1 i1=>?_⟩;refine nw i1 λHB sB eB=>⟨_,rfl,_,rfl,szl 2,λt2 k5=>?_⟩
  refine nw k5 λHC sC eC=>⟨szl 2,λl3 k7=>?_⟩
  refine nw k7 λHD sD eD=>⟨_,rfl,.sc rfl ⟨_,rfl,.bl ?_⟩⟩
  rw[if_neg (show ¬ false=true by decide),S];have d3:=(sB.trans sC).trans sD;have vD:=ap d3 vA;have bD:=bA.trans (But.of_same (p:=p) d3);obtain⟨te,i9,W⟩:∃te,atI [V.ref t1,V.ref t2] (if decide (J="last")=true then 1 else 0)=some (.ref te)/\HD te=some (.tup [.str (bK J b m).1,.str (bK J b m).2]):=by
   unfold bK;by_cases z:J="last"
   ·rw[if_pos z,if_pos (wQ z)];exact⟨t2,rfl,sD _ _ eC⟩
   ·rw[if_neg z,if_neg (λy=>z (xf y))];exact⟨t1,rfl,(sC.trans sD) _ _ eB⟩
  refine .lst (.of eD) i9 ?_;refine au ?_;dsimp only;have a9:=ee (wn:=wn) T G.tok v;have g5:=dW T G.tok G.wx v;have hE:(bK J b m).1∈M.2/\(bK J b m).2∈M.2:=by unfold bK;split;exact⟨a8,a5⟩;exact⟨a5,a8⟩
  have f2:=s9 _ _ k2;have m0:=g6.trans (But.of_same (p:=p) d3);obtain⟨n0,l5⟩:=aV v9;refine⟨_,rfl,_,rfl,_,rfl,.tup (.of W) rfl ⟨_,rfl,.tup (.of W) rfl ⟨szl 1,λgl d9=>?_⟩⟩⟩;refine nw d9 λHE sE eE=>?_;have bE:=bD.trans (But.of_same (p:=p) sE);have d5:=m0.trans (But.of_same (p:=p) sE);have vE:=ap sE vD;have i8:gl≠p:=Ne.symm (vD.ne d9);obtain⟨m8,j0⟩:=aV vE;refine aB ⟨p,a,le,gl,(bK J b m).2,c7,cL Z ts wn M.1 M.2,M.2,[(bK J b m).1],MG.ix M.2,rfl,hP.but bE vE,d5 _ _ f7 f2,aS (aN l5 d5) (j8.same s9),a9,hE.2,a3,kl,el,f7,i8,eE,λg hg=>by rw[xa.mp hg];exact hE.1,by show 1<=60;decide,λe he=>⟨g5 e he,xw (MG.ix_lt (a9 e he).2) kl⟩,λ_ HF vF a4=>?_,λl g4 HF a1 a7 n1 nl k6 vF a4=>?_⟩
  ·refine au ?_;dsimp only;refine⟨_,rfl,.non ⟨_,rfl,?_⟩⟩;rw[if_neg (show ¬ false=true by decide)];refine aD (λ_=>?_) (λh=>(h (wQ (rfl:V.non=V.non))).elim);exact k .non HF (.inl rfl) vF (bE.trans a4)
  refine au ?_;dsimp only;refine⟨_,rfl,.non ⟨_,rfl,?_⟩⟩;rw[if_neg (show ¬ false=true by decide)];refine aD (λh=>absurd (xf h) (by intro z;cases z)) (λ_=>aX ?_);dsimp only;have bF:=bE.trans a4;have d6:=fY (f:=MG.ix M.2) λe he=>g5 e (a1.chain e he);have rl:g4.length<=60:=wV (cO (gr d6) a7) kl;have h8:But p H5 HF:=(((But.of_same (p:=p) a6).trans (But.of_same (p:=p) h4)).trans d5).trans a4;refine⟨_,rfl,_,rfl,_,rfl,_,rfl,.dic (.inl ⟨c8,.inr b,.inl (h8 _ _ c6 f8),rfl,(ar b hu).symm⟩) ⟨_,rfl,aB ⟨p,a,q,l,us,Z,ts,ws,wn,M.1,g4,by rw[b6];rfl,hP.but bF vF,aI U bF R,T,G.tok,G.wok,G.tl,G.wl,(T.sub M v).imp id (T.nm _),.inl k6,nl,λu hu=>a3 u (a7 u hu),by omega,λe he=>dY v (a1.chain e he),λlx ss HG m1 m5 hg al vG e8=>?_⟩⟩⟩;refine au ?_;dsimp only;have bG:=bF.trans e8;obtain⟨fr,j6,g3⟩:=hg;have j4:=g3.len;rw[wK] at j4;have sl:=cQ al;have g8:=aP j0 (a4.trans e8) (sE _ _ W);refine⟨_,rfl,_,rfl,szl 2,λt5 l6=>?_⟩;refine nw l6 λHH sH eH=>⟨_,rfl,szl 1,λt6 i5=>?_⟩
  refine nw i5 λHI sI eI=>⟨_,rfl,t6,te,_,_,rfl,rfl,.of eI,.of ((sH.trans sI) _ _ g8),szl 3,(λh=>by cases h),(λ_ h=>by cases h),λ_ _ t7 i4=>?_⟩
  refine nw i4 λHJ sJ eJ=>⟨szl 1,λl8 l4=>?_⟩
  refine nw l4 λHK sK eK=>⟨_,rfl,?_⟩
  have c5:=((sH.trans sI).trans sJ).trans sK;refine .lst eK (c5 _ _ j6) (wV (by show 1+fr.length<=1000;omega) (szl 1000)) λl9 e7=>?_;have vK:=ap c5 vG;have k4:l9≠p:=Ne.symm (vK.ne e7);refine nw e7 λHL sL eL=>aB ⟨szl 2,λtz i0=>?_⟩;refine nw i0 λHM sM eM=>?_;have d1:=sL.trans sM;have d0:=c5.trans d1;refine k (.ref tz) HM (.inr ⟨tz,.ref t5,l9,_,_,(J,(bK J b m).1,(bK J b m).2)::ss,rfl,eM,.want hw hu ((((sI.trans sJ).trans sK).trans d1) _ _ eH),⟨_,sM _ _ eL,.cons (dy (t:=(J,(bK J b m).1,(bK J b m).2)) ((sK.trans d1) _ _ eJ)) (g3.same d0)⟩,k4,λs hs=>?_,by rw[xc];omega,?_⟩) (ap d0 vG) (bG.trans (But.of_same (p:=p) d0))
  ·rcases wY.mp hs with e | hs
   ·rw[e];exact⟨gK hw,a3 _ hE.1,a3 _ hE.2⟩
   ·exact fh T G.tok (λx hx=>a3 x (a7 x hx)) al s hs
  ·obtain⟨g,hg,e⟩:=a1.last;rw[xa.mp hg] at e;exact rn T v hw a5 a8 f0 c0 a1.hd e a1.two a7 d6 al
def mW (K:W.Frag):Sp:=λvs H Q _=>∃(p a l:Addr) (mn:LS),vs=[.ref p,.ref l]/\Pen K H p a/\H l=some (.lst (List.map V.str mn))/\l≠p/\mn.length<=60 /\
 ∀(x:Addr) (b:Bool) (m2:LS) (H':Hp),m2.Perm mn->x≠p->H' x=some (if b then .lst (List.map V.str m2) else .tup (List.map V.str m2))->PenV H' p a->But p H H'->Q (.ref x) H'
theorem scTurnd:FnScope ["_law_pen_here","_law_some","_law_found","_law_one"] ["_law_pen_here","_law_some"] (am ge):=⟨rfl,rfl,rfl,by decide +kernel,rfl,by decide +kernel,by decide +kernel⟩
theorem qU (F:Fun K "_law_names_turned" "_law_names_turned" ge f fd) (B:Blt mg) (c:Cal P w K mg base 1 "_law_draw" ["_law_pen_here", "_law_most"] (ci K)):FnOk P w K mg base CX0 2 f fd ["_law_pen_here", "_law_some"] (mW K) := by
 refine F.ok scTurnd (λvs H Q E h=>?_) (λa1 A N s H vs Q E Y h=>?_)
 ·obtain⟨p,a,l,M,rfl,_⟩:=h
  rfl
 ·obtain⟨p,a,l,M,rfl,G,hl,nl,ml,k⟩:=h;have nd:=scTurnd.nd;refine⟨_,(ae (ao (i:=2) nd rfl (Or.inl rfl) (aQ ab))
   (ae (bL PassesOwn.never rfl (be K (pv 1)) (aA (i:=3) nd rfl (Or.inl rfl)) (ag (bX (fi K (pv 2) (aa (ai c (Y.mono (by decide)) rfl (aa (pv 0) (aa (aG aT (aW K B (aa (pv 2) ab)) ac) ab))) (aa (pv 3) ab))))))
   (ag (av (af (ah K Y.units) (aQ (aa (pv 2) (aa (dg K B (aa (pv 2) ab)) ab))) (ai c (Y.mono (by decide)) rfl (aa (pv 0) (aa ac ab))) (λ_ _=>rfl)))))),?_⟩
  refine⟨szl 0,λo g=>?_⟩;refine nw g λH1 S e1=>?_;refine au ?_;dsimp only;have e:=Ne.symm (G.2.ne g);refine⟨_,rfl,l,rfl,⟨_,.of (S _ _ hl)⟩,?_⟩
  let u:Nat->SH:=λi L D=>∃(J:Option V) (d:LS),L=[some (.ref p),some (.ref l),some (.ref o),J]/\D o=some (.lst (List.map V.str d))/\d.Perm (M.take i)/\PenV D p a/\But p H D
  refine dJ (R:=Q) (xs:=List.map V.str M) u ?_ ?_ ?_ ?_
  ·exact⟨none,[],rfl,e1,.refl [],ap S G.2,But.of_same S⟩
  ·rintro i L D hi ⟨J,d,rfl,_,_,_,b⟩;exact .of (b _ _ nl hl)
  ·rintro _ i x L D T ⟨J,d,rfl,q,z,v,b⟩;obtain⟨y,hy,rfl⟩:=bI T;have a0:=(wO.mp hy).1;have fl:=z.length_eq;rw[xx] at fl;have X:(List.map V.str d).length=d.length:=wK ..;refine au ?_;refine⟨_,rfl,.inl ⟨rfl,_,.of q⟩,_,rfl,_,rfl,_,_,rfl,Or.inl ⟨_,.of q,rfl⟩,.int ⟨p,a,_,rfl,G.but b v,by omega,by omega,λr4 H4 W a2 v4 e4=>?_⟩⟩;obtain⟨m,rfl⟩:=xj W;have b4:=b.trans (But.of_eq e4);refine⟨_,rfl,aB ⟨o,_,_,m,_,rfl,rfl,rfl,(e4 _ e).trans q,by omega,by rw[X];exact aH (by omega),?_⟩⟩;refine⟨_,d.take m++y::d.drop m,rfl,by rw[wZ,xr,xZ,xN];exact aj,?_,iE e v4,gM g b4⟩;rw[xg,hy];refine(List.perm_middle.trans ?_).trans (List.perm_append_singleton y _).symm;rw[yn];exact .cons y z
  rintro L H2 ⟨J,d,rfl,q,z,U,b2⟩;rw[wK,xk (wM _)] at z;refine⟨_,rfl,_,rfl,aB ⟨o,_,rfl,.of q,λt ht=>?_⟩⟩;refine nw ht λH5 s5 e5=>aB ⟨szl 2,λl2 C=>?_⟩;refine nw C λH6 s6 e6=>?_;have n:=s5.trans s6;have v6:=ap n U;have b6:=b2.trans (But.of_same (p:=p) n);have nt:t≠p:=Ne.symm (U.ne ht);have O:l2≠p:=Ne.symm ((ap s5 U).ne C);refine⟨_,rfl,p,a,2,rfl,G.but b6 v6,by decide,by decide,λr H7 h0 h1 v7 I=>?_⟩;have b7:=b6.trans (But.of_eq I);obtain⟨j,rfl⟩:=xj h0;obtain⟨x,T,bb,nx,Z⟩:∃x,[V.ref o,V.ref t][j]? = some (.ref x)/\∃b:Bool,x≠p/\H7 x=some (if b then .lst (List.map V.str d) else .tup (List.map V.str d)):=by
   match j,h1 with
   | 0,_=>exact⟨o,rfl,true,e,(I _ e).trans (n _ _ q)⟩
   | 1,_=>exact⟨t,rfl,false,nt,(I _ nt).trans (s6 _ _ e5)⟩
   | j+2,h=>omega
  exact .lst (.of ((I _ O).trans e6)) (bf T) (k x bb d H7 z nx Z v7 b7)
theorem jM {I G:Addr}{B:LV}{wn:Prs}{mn:LS}{fr:List Nat}{σ aM:St}{H:Hp}{Q:VK}(p:H I=some (.tup B)) (l:RepAll H B (wn.map aK)) (J:wn.length <= 1000) (A:H G=some (.lst (List.map V.str mn))) (v:cS 1 fr σ=none :: some (.ref G) :: aM)
    (k:∀D q H',Same H H'->H D=none->H' D=some (.lst q)->RepAll H' q ((bd wn mn).map aK)->Q (.ref D) H'):cr 1 fr (cg 0) (sP (tOp (λx y H Q=>InR K true H x y Q) (tOp (λx y H Q=>IxX K H x y Q) (dD 0) (tC (.int 1))) (dD 1))) (dD 0) (Itt K I) σ H Q:=by
 have g:=l.len;rw[wK] at g
 let m:Addr->Nat->LV->SH:=λD i q f H'=>∃o,f=o::some (.ref G)::aM/\RepAll H q ((bd (wn.take i) mn).map aK)/\q.length<=i/\Same H H'/\H D=none
 refine dC B m λD u=>⟨?_,?_,?_,?_⟩
 ·exact⟨none,v,.nil,wM _,Same.new u,u⟩
 ·rintro i q f H' _ ⟨o,rfl,_,_,j,_⟩ _;exact .of (j _ _ p)
 ·rintro i q f H' x w ⟨o, rfl, b, s, j, d⟩ c;obtain⟨e,F,r,rfl,n⟩:=bM l w;have C:=(wO.mp r).1;have a:bd (wn.take (i+1)) mn=bd (wn.take i) mn++(if e.2∈mn then [] else [e]):=by
   unfold bd;rw[xg,r,yb];congr 1;show List.filter _ [e]=_;by_cases z:e.2∈mn <;> simp[z]
  refine au ?_;refine⟨_,rfl,.tup (.of (j _ _ n)) rfl ⟨_,rfl,.seq (.inl (.of (j _ _ A))) rfl (bp _) ⟨_,rfl,?_⟩⟩⟩;rw[fw,if_pos rfl];refine aD (λh=>?_) (λh=>?_)
  ·have h:e.2∉mn:=by simpa using h
   rw[if_neg h] at a;refine⟨_,rfl,c,aH (by omega),_,rfl,?_,?_,bu j d,d⟩
   ·rw[a,wZ];exact RepAll.append b (.cons (.tup n (.cons (.str _) (.cons (.str _) .nil))) .nil)
   ·rw[w6];exact x3 s
  ·have h:e.2∈mn:=by simpa using h
   rw[if_pos h,xH] at a;exact⟨c,_,rfl,by rw[a];exact b,by omega,j,d⟩
 ·rintro q f E ⟨o,rfl,b,s,t,d⟩ c;rw[g,xk (wM _)] at b;exact k D q E t d c (b.same t)
theorem RgH.same (h:RgH H a q) (s:Same H H'):RgH H' a q:=let ⟨r,b,c⟩:=h;⟨r,s _ _ b,c.same s⟩
theorem nL (h:q.Perm mn):bd wn q=bd wn mn:=by
 unfold bd;exact List.filter_congr λe _=>by rw[show decide (e.2∈q)=decide (e.2∈mn) from by rw[xp,decide_eq_true_iff,decide_eq_true_iff];exact h.mem_iff]
theorem GdH.out (G:GdH us ks ts q wn) (mn:LS):WnX ks (bd wn mn)/\fm us (bd wn mn)/\(bd wn mn).length<=122:=by
 have W:WnX ks (bd wn mn):=⟨G.wx.nd.filter _,λe a=>G.wx.at_ e (xn.mp a).1⟩
 exact⟨W,WnX.ok G.T W,wV (yp _ _) G.wl⟩
theorem qz (w:Walkd es z q row) (f:z∈q) (d:∀e∈es,¬ (e.1∈q/\e.2∈q)):3<=row.length:=by
 have h:=w.two;refine Classical.byContradiction λn=>?_;have b:row.length=2:=by omega
 match row,b,w with
 | [x,y],_,w =>
  have a:x=z:=wR w.hd;obtain⟨g,c,e⟩:=w.last;have e:y=g:=wR e;exact d (x,y) (w.chain (x,y) (.head _)) ⟨a ▸ f,e ▸ c⟩
theorem scLGroup:FnScope ["_law_pen_here","_law_house_here","_law_units","_law_knot","_law_kids","_law_members","_law_wants_here","_law_bare","_law_edges_here","_law_here","_law_there","_law_begin","_law_row"] ["_law_pen_here","_law_house_here","_law_units"] (am fI):=⟨rfl,rfl,rfl,by decide +kernel,rfl,by decide +kernel,by decide +kernel⟩
theorem pP (F:Fun K "_law_group" "_law_group" fI f fd) (B:Blt mg) (j:Cal P w K mg base 1 "_law_draw" ["_law_pen_here", "_law_most"] (ci K)) (L:Cal P w K mg base 1 "_law_around" ["_law_knots"] cw) (M:Cal P w K mg base 3 "_law_edges" ["_law_house_here", "_law_knot"] eP) (U:Cal P w K mg base 2 "_law_walk" ["_law_pen_here", "_law_edges_here", "_law_here", "_law_goals"] (gL K)) (C:Cal P w K mg base 2 "_law_names_turned" ["_law_pen_here", "_law_some"] (mW K)) (O:Cal P w K mg base 4 "_law_along" ["_law_pen_here", "_law_house_here", "_law_knot", "_law_row"] (fk K)):FnOk P w K mg base CX0 5 f fd ["_law_pen_here", "_law_house_here", "_law_units"] (dP K 2 gD) := by
 refine F.ok scLGroup (λvs H Q E h=>?_) (λn2 A i8 s H vs Q E J h=>?_)
 ·obtain⟨p,a,q,un,us,ks,ts,ws,wn,rfl,_⟩:=h
  rfl
 ·obtain⟨p,a,q,un,us,ks,ts,ws,wn,rfl,hP,R,G,l4,g2,k⟩:=h;have nd:=scLGroup.nd;refine⟨_,(ae (ao (i:=3) nd rfl (Or.inl rfl) (af (ah K J.units) (ai L (J.mono (by decide)) rfl (aa (af (ah K J.units) (pv 1) ac (λ_ _=>rfl)) ab)) (af (ah K J.units) (pv 2) (ai j (J.mono (by decide)) rfl (aa (pv 0) (aa (aW K B (aa (pv 2) ab)) ab))) (λ_ _=>rfl)) (λ_ _=>rfl)))
   (ae (ao (i:=4) nd rfl (Or.inl rfl) (af (ah K J.units) (fW K rfl J.units B (aa (af (ah K J.units) (pv 1) ac (λ_ _=>rfl)) ab)) (pv 3) (λ_ _=>rfl)))
   (ae (ao (i:=5) nd rfl (Or.inr rfl) (cp (am fI) ["_law_pen_here","_law_house_here","_law_units","_law_knot","_law_kids","_law_members","_law_wants_here","_law_bare","_law_edges_here","_law_here","_law_there","_law_begin","_law_row"] [0] "_law_kid" ["_law_pen_here"] (bH K (pv 4)) (cm (ak (aY J.units) (ai j (J.mono (by decide)) rfl (aa (pv 1) (aa ac ab))) ac (aw _))) (pv 0)))
   (ae (aU (ak (gc K J.units) (pv 5) (aQ ab) (by with_unfolding_all rfl)) (ag (av bj)) aF)
   (ae (ao (i:=6) nd rfl (Or.inl rfl) (dg K B (aa (cp (am fI) ["_law_pen_here","_law_house_here","_law_units","_law_knot","_law_kids","_law_members","_law_wants_here","_law_bare","_law_edges_here","_law_here","_law_there","_law_begin","_law_row"] [5] "_law_want_here" ["_law_members"] (bH K (af (ah K J.units) (pv 1) ac (λ_ _=>rfl))) (cm (ak (bw K J.units) (af (ah K J.units) (pv 0) ac (λ_ _=>rfl)) (pv 1) (by with_unfolding_all rfl))) (pv 0)) ab)))
   (ae (ao (i:=7) nd rfl (Or.inl rfl) (aG jk (bq ky (pv 1) ce (bi ac)) (aL (aa (pv 6) ab))))
   (ae (ao (i:=8) nd rfl (Or.inl rfl) (aQ ab))
   (ae (bL PassesOwn.never rfl (be K (ai M (J.mono (by decide)) rfl (aa (pv 7) (aa (pv 3) ab)))) (bN (n:=2) K rfl (aO (aA (i:=9) nd rfl (Or.inl rfl)) (aO (aA (i:=10) nd rfl (Or.inl rfl)) bS))) (ag (aU (PW.pt (cM (ak (bw K J.units) (pv 9) (pv 5) (by with_unfolding_all rfl)) (cA (ak (bw K J.units) (pv 10) (pv 5) (by with_unfolding_all rfl))))) (ag (bX (cT K (pv 8) (aa (aL (aa (pv 9) (aa (pv 10) ab))) ab)))) aF)))
   (ae (ao (i:=11) nd rfl (Or.inl rfl) (af (ah K J.units) (pv 5) (ai j (J.mono (by decide)) rfl (aa (pv 0) (aa (aW K B (aa (pv 5) ab)) ab))) (λ_ _=>rfl)))
   (ae (ao (i:=12) nd rfl (Or.inl rfl) (ai U (J.mono (by decide)) rfl (aa (pv 0) (aa (pv 8) (aa (pv 11) (aa (pv 5) ab))))))
   (ae (aU (ak ib (pv 12) bj (aw _)) (ag (av bj)) aF)
   (ag (av (aL (aa (ai C (J.mono (by decide)) rfl (aa (pv 0) (aa (pv 5) ab))) (aa (ai O (J.mono (by decide)) rfl (aa (pv 0) (aa (pv 7) (aa (pv 3) (aa (pv 12) ab))))) ab)))))))))))))))),?_⟩
  obtain⟨n0,f2⟩:=aV hP.2;have T:=G.T;have j9:=T.len;obtain⟨q',a0,b0,c3,d4,e0,hq,R1,R2,R3,R4⟩:=bc R;cases e0;obtain⟨n6,n3,e0,n4,k3⟩:=bo R4;cases e0;have e6:=k3.len;rw[wK] at e6;refine⟨_,rfl,.tup (.of hq) rfl (aB ⟨a0,us,ks,rfl,R1,T,λd i9 H1 s1 k0 hd ar=>?_⟩)⟩;have v1:=ap s1 hP.2;have b1:=But.of_same (p:=p) s1;have i7:d≠p:=Ne.symm (hP.2.ne k0);refine cU rfl rfl (hP.but b1 v1) (b1 _ _ g2 l4) g2 G.up (by omega) λj1 H2 l1 v2 h7=>?_;have b2:=b1.trans h7;have hu:=bW l1;generalize us.getD j1 ""=e1 at hu ⊢;obtain⟨Z,I,l0⟩:=T.has hu;have f9:=T.par I l0;refine .dic (.inl ⟨i9,.inr e1,.inl (h7 _ _ i7 hd),rfl,(ar e1 hu).symm⟩) ?_;rw[f9];refine au ?_;dsimp only;have i3:=aP f2 b2 hq;have m5:Rep H2 (.ref a0) (cB ks):=by
   obtain⟨q2,a2,o1,c2,d2,e0,d9,m6,_⟩:=bc (aI f2 b2 R);cases e0;rw[i3] at d9;cases d9;exact m6
  refine⟨_,rfl,.tup (.of i3) rfl (aB (dQ m5 T λD dk hD m3=>?_))⟩;obtain⟨la,l5,l9⟩:=m3 Z I;refine nw hD λH3 s3 e3=>?_;have v3:=ap s3 v2;have b3:=b2.trans (But.of_same (p:=p) s3);have d7:=s3 _ _ l9;refine⟨_,rfl,.dic (.inl ⟨dk,.inr Z.1,.inl e3,rfl,l5.symm⟩) ?_⟩;refine au ?_;dsimp only;have kl:Z.2.length<=60:=wV (cO (cq T I) λu hu=>T.isIn I hu) j9;have f4:∀s∈Z.2,Nm s:=λs hs=>T.nm s (T.isIn I hs);obtain⟨n1,l3⟩:=aV v3;refine⟨_,rfl,la,rfl,⟨_,.of d7⟩,?_⟩
  let h2:Addr->Nat->LV->SH:=λD i d0 c4 H'=>∃o ms,c4=[o,some (.ref p)]/\d0=List.map V.str ms/\(∀m∈ms,m∈Z.2)/\ms.length<=i/\PenV H' p a/\But p H3 H'/\H3 D=none
  refine dC (List.map V.str Z.2) h2 λD hD=>⟨?_,?_,?_,?_⟩
  ·exact⟨none,[],rfl,rfl,(λm hm=>by cases hm),wM _,ap (Same.new hD) v3,But.of_same (Same.new hD),hD⟩
  ·rintro i d0 c4 H' _ ⟨o,ms,rfl,_,_,_,_,b,_⟩ _;exact .of (aP l3 b d7)
  ·rintro i d0 c4 H' x hx ⟨o,ms,rfl,rfl,g6,ml,v,b,a7⟩ a9;obtain⟨y,hy,rfl⟩:=bI hx;have k5:=(wO.mp hy).1;have nD:D≠p:=Ne.symm (v3.ne a7);refine au ?_;refine⟨_,rfl,p,a,3,rfl,hP.but (b3.trans b) v,by decide,by decide,λr H4 n5 o0 v4 e4=>.sc rfl ⟨_,rfl,?_⟩⟩;have b4:=b.trans (But.of_eq e4);have c0:=(e4 _ nD).trans a9;refine aD (λ_=>?_) (λ_=>?_)
   ·refine⟨_,rfl,c0,by rw[wK];exact aH (by omega),_,ms++[y],rfl,by rw[wZ];rfl,λm hm=>?_,by rw[w6];exact x3 ml,iE nD v4,gM a7 b4,a7⟩;rcases w8.mp hm with h | h
    ·exact g6 m h
    ·rw[xa.mp h];exact wP hy
   ·exact⟨c0,_,ms,rfl,rfl,g6,by omega,v4,b4,a7⟩
  rintro d0 c4 H4 ⟨o,mn,rfl,rfl,a3,ml,v4,m4,a7⟩ a9;rw[wK] at ml;have b4:=b3.trans m4;have b8:D≠p:=Ne.symm (v3.ne a7);refine au ?_;dsimp only;refine⟨_,rfl,szl 0,λe0 k8=>?_⟩;refine nw k8 λH5 s5 e5=>?_;have a4:=s5 _ _ a9;have v5:=ap s5 v4;have b5:=b4.trans (But.of_same (p:=p) s5);refine⟨D,e0,_,rfl,rfl,.of a4,e5,_,rfl,?_⟩;rw[if_neg (show ¬ false=true by decide)];refine aD (λ_=>?_) (λh=>aX ?_)
  ·exact k .non H5 (.inl rfl) v5 b5
  have h0:0<mn.length:=by
   cases mn with
   | nil=>exact absurd rfl h
   | cons x r=>exact x4 _
  dsimp only;obtain⟨q5,a5,l6,c5,d5,f5,h6,j6,j8,j5,m7⟩:=bc (aI f2 b5 R);cases f5;obtain⟨n8,n7,f5,h3,i0⟩:=bo m7;cases f5;refine⟨_,rfl,.tup (.of h6) rfl ⟨d5,rfl,⟨_,.of h3⟩,?_⟩⟩;refine jM h3 i0 (by have:=G.wl;omega) a4 rfl λDW g8 H6 s6 m8 j3 k9=>?_;refine aB ⟨DW,g8,rfl,.of j3,λw0 k1=>?_⟩;refine nw k1 λH7 s7 e7=>?_;have i2:=s6.trans s7;refine au ?_;dsimp only;refine⟨_,rfl,_,rfl,q,_,rfl,i2 _ _ h6,λp1 H8 s8 h8=>?_⟩;have h8:H8 p1=some (.tup [.ref a5,.ref l6,.ref c5]):=h8;refine⟨_,rfl,szl 1,λx0 i6=>?_⟩;refine nw i6 λH9 s9 e9=>⟨p1,x0,_,_,rfl,rfl,s9 _ _ h8,e9,szl 4,λX HA sA hA=>?_⟩
  refine au ?_;dsimp only;have a1:=((i2.trans s8).trans s9).trans sA;have RA:Rep HA (.ref X) (aZ ks ts ws (bd wn mn)):=.tup hA (.cons (j6.same a1) (.cons (j8.same a1) (.cons (j5.same a1) (.cons (.tup (((s8.trans s9).trans sA) _ _ e7) (k9.same (((s7.trans s8).trans s9).trans sA))) .nil))));obtain⟨f8,h1,h9⟩:=G.out mn;refine⟨szl 0,λlf b7=>?_⟩;refine nw b7 λHB sB eB=>?_;refine au ?_;dsimp only;have k2:=a1.trans sB;have vA:=ap a1 v5;have c8:lf≠p:=Ne.symm (vA.ne b7);have g7:H lf=none:=by
   cases z:H lf with
   | none=>rfl
   | some o=>rw[a1 _ _ (b5 lf o c8 z)] at b7;cases b7
  refine⟨_,rfl,_,rfl,X,us,ks,ts,ws,bd wn mn,Z.1,Z.2,rfl,RA.same sB,T,G.tok,f8,I,G.tl,h9,λle e8 HC sC g0 h5 f1 el j7=>?_⟩;have a8:=ee (wn:=bd wn mn) T G.tok I;have f3:=dW T G.tok f8 I;have h4:=λe W=>dY (ks:=ks) (ts:=ts) (wn:=bd wn mn) I (e:=e) W;generalize cL ks ts (bd wn mn) Z.1 Z.2=es at f1 el j7 a8 f3 h4;have f6:=k2.trans sC;have vC:=ap f6 v5;have bC:=b5.trans (But.of_same (p:=p) f6);have d6:=f6 _ _ a4;have c1:=sC _ _ eB;have d8:D≠lf:=aJ (a1 _ _ a4) b7;have g4:le≠lf:=Ne.symm (aJ eB g0);have j0:=f1.len;rw[wK] at j0;have im:∀ {z:Str} {H':Hp},But lf HC H'->∀ {Q':VK},Q' (.bl (!decide (z∈mn))) H'->InR K true H' (.str z) (.ref D) Q':=λ{z H'} b {Q'} hq=>.seq (.inl (.of (b _ _ d8 d6))) rfl (bp _) (by rw[if_pos rfl,fw];exact hq);refine⟨le,rfl,⟨_,.of h5⟩,?_⟩
  let g9:Nat->SH:=λi σ H'=>∃(o9 c7:Option V) (fr:LV) (S:Prs),σ=[some (.ref p),some (.ref q),some (.ref un),some (.str Z.1),some (.ref la),some (.ref D),some (.ref w0),some (.ref X),some (.ref lf),o9,c7,none,none]/\H' lf=some (.lst fr)/\RepAll H' fr (S.map aK)/\S.length<=i/\(∀e∈S,e∈es/\¬ (e.1∈mn/\e.2∈mn))/\But lf HC H'
  refine dJ (R:=Q) (xs:=e8) g9 ?_ ?_ ?_ ?_
  ·exact⟨none,none,[],[],rfl,c1,.nil,wM _,(λe W=>by cases W),But.refl lf HC⟩
  ·rintro i σ H' hi ⟨o9,c7,fr,S,rfl,_,_,_,_,b⟩;exact .of (b _ _ g4 h5)
  ·rintro _ i x σ H' hx ⟨o9, c7, fr, S, rfl, hf, rf, fl, N, b⟩;obtain⟨e,ta,W,rfl,l8⟩:=bM f1 hx;have k5:=(wO.mp W).1;have i4:=rf.len;rw[wK] at i4;refine⟨ta,_,rfl,.of (aP c1 b l8),rfl,_,_,rfl,_,_,rfl,rfl,?_⟩;refine iD (b1:=!decide (e.1∈mn)) (b2:=!decide (e.2∈mn)) (λQ' q'=>?_) (λQ' q'=>?_) ?_
   ·exact⟨_,rfl,_,rfl,im b ⟨_,rfl,q'⟩⟩
   ·exact⟨_,rfl,_,rfl,im b ⟨_,rfl,q'⟩⟩
   refine aD (λh=>?_) (λ_=>aX ?_)
   ·refine⟨_, rfl, .inl ⟨rfl, _, .of hf⟩, _, rfl, _, rfl, szl 2, λt ht => ?_⟩;refine nw ht λH2 s2 e2=>aB ⟨lf,_,_,rfl,rfl,s2 _ _ hf,x6 (by omega:_<=100000) (by decide),?_⟩;refine⟨_,_,_,S++[e],rfl,aj,?_,by rw[w6];exact x3 fl,λf k7=>?_,λc u n z=>by rw[az n];exact s2 _ _ (b c u n z)⟩
    ·rw[wZ];exact RepAll.append (aS (aN (s2 _ _ hf) But.upd) (rf.same s2)) (.cons (aN (s2 _ _ hf) But.upd (bx e2)) .nil)
    ·rcases w8.mp k7 with g | g
     ·exact N f g
     ·rw[xa.mp g];refine⟨wP W,λ⟨z1,z2⟩=>?_⟩;rw[wQ z1,wQ z2] at h;cases h
   ·exact⟨_,_,fr,S,rfl,hf,rf,by omega,N,b⟩
  rintro σ HD ⟨o9,c7,fr,S,rfl,k4,l7,flD,N,c6⟩;have vD:PenV HD p a:=let ⟨i,m,e,z⟩:=vC;⟨i,m,c6 _ _ (Ne.symm c8) e,z⟩;have bD:But p H HD:=λc u n z=>c6 c u (aJ z g7) (bC c u n z);have b9:=c6 _ _ d8 d6;have RD:Rep HD (.ref X) (aZ ks ts ws (bd wn mn)):=aI c1 c6 (RA.same (sB.trans sC));obtain⟨o2,g5⟩:=aV vD;dsimp only;refine cU rfl rfl (hP.but bD vD) b9 b8 h0 (by omega) λj2 HE l2 vE b6=>?_;refine au ?_;dsimp only;have bE:=bD.trans b6;have a6:=bW l2;generalize mn.getD j2 ""=c9 at a6 ⊢;refine⟨_,rfl,_,rfl,_,rfl,_,rfl,p,a,lf,D,c9,fr,S,Z.2,mn,MG.ix Z.2,rfl,hP.but bE vE,b6 _ _ c8 k4,aS (aN g5 b6) l7,λe W=>a8 e (N e W).1,a3 _ a6,f4,kl,by omega,c8,b8,b6 _ _ b8 b9,a3,by omega,λe W=>⟨f3 e (N e W).1,xw (MG.ix_lt (a8 e (N e W).1).2) kl⟩,λ_ HF vF d1=>?_,λl i1 HF wd d3 n9 nl m0 vF d1=>?_⟩
  ·refine au ?_;dsimp only;refine⟨_,rfl,.non ⟨_,rfl,?_⟩⟩;rw[if_neg (show ¬ false=true by decide)];refine aD (λ_=>?_) (λh=>(h (wQ (rfl:V.non=V.non))).elim);exact k .non HF (.inl rfl) vF (bE.trans d1)
  refine au ?_;dsimp only;refine⟨_,rfl,.non ⟨_,rfl,?_⟩⟩;rw[if_neg (show ¬ false=true by decide)];refine aD (λh=>absurd (xf h) (by intro z;cases z)) (λ_=>aX ?_);have g1:=b6.trans d1;have bF:=bE.trans d1;have f7:=fY (f:=MG.ix Z.2) λe W=>f3 e (N e (wd.chain e W)).1;have rl:i1.length<=60:=wV (cO (gr f7) d3) kl;refine⟨_,rfl,_,rfl,p,a,D,mn,rfl,hP.but bF vF,g1 _ _ b8 b9,b8,by omega,λx bb m2 HG pm nx hx vG f0=>?_⟩;have bG:=bF.trans f0;have i5:=g1.trans f0;refine⟨_,rfl,_,rfl,_,rfl,_,rfl,aB ⟨p,a,X,l,us,ks,ts,ws,bd wn mn,Z.1,i1,rfl,hP.but bG vG,aI g5 i5 RD,T,G.tok,h1,G.tl,h9,(T.sub Z I).imp id (T.nm _),.inl (f0 _ _ nl m0),nl,λu hu=>f4 u (d3 u hu),by omega,λe W=>h4 e (N e (wd.chain e W)).1,λlx ss HH m9 k6 hg al vH g3=>aB ⟨szl 2,λtz j4=>?_⟩⟩⟩;refine nw j4 λHI sI eI=>?_;have sl:=cQ al;obtain⟨g,m1,eg⟩:=wd.last;have Y:∀m,m∈m2 ↔ m∈mn:=λm=>pm.mem_iff;refine k (.ref tz) HI (.inr ⟨tz,.ref x,lx,_,_,ss,rfl,eI,.group (mn:=m2) (b:=bb) (λz=>by rw[z] at pm;have:=pm.length_eq;simp at this;omega) (λm hm=>T.isIn I (a3 m ((Y m).mp hm))) (by have:=pm.length_eq;omega) nx (sI _ _ (g3 _ _ nx hx)),hg.same sI,k6,fh T G.tok (λx hx=>f4 x (d3 x hx)) al,by omega,?_⟩) (ap sI vH) ((bG.trans g3).trans (But.of_same (p:=p) sI));rw[<- nL pm] at al;exact qe T I (λz=>by rw[z] at pm;have:=pm.length_eq;simp at this;omega) (λm hm=>a3 m ((Y m).mp hm)) wd.hd ((Y _).mpr a6) eg ((Y _).mpr m1) (qz wd a6 λe W=>(N e W).2) (λz hz q=>wd.inner z hz ((Y z).mp q)) d3 f7 al
def iZ:Sp:=λvs H Q _=>∃(q:Addr) (us:LS) (ks:Kn) (ts ws wn:Prs) (u c:Str),vs=[.ref q,.str u,.str c]/\Rep H (.ref q) (aZ ks ts ws wn)/\Tre us ks/\u∈us/\∀H',Same H H'->Q (.bl (decide (c∈tp (lin ks u)))) H'
theorem scWithin:FnScope ["_law_house_here","_law_unit","_law_child"] ["_law_house_here","_law_unit","_law_child"] (am kz):=⟨rfl,rfl,rfl,by decide +kernel,rfl,by decide +kernel,by decide +kernel⟩
theorem oP (F:Fun K "_law_within" "_law_within" kz f fd) (B:Blt mg) (a:Cal P w K mg base 1 "_law_around" ["_law_knots"] cw) (b:Cal P w K mg base 1 "_law_path" ["_law_around_here","_law_unit"] (ir λks u=>tp (lin ks u))):FnOk P w K mg base CX0 2 f fd ["_law_house_here","_law_unit","_law_child"] iZ:=by
 refine F.ok scWithin (λz H Q E h=>?_) (λN A g s H z Q E e h=>?_)
 ·obtain⟨q,i,ks,J,x,o,u,c,rfl,_⟩:=h
  rfl
 ·obtain⟨q,i,ks,J,x,o,u,c,rfl,R,T,p,k⟩:=h;have V:=scWithin.nd;refine⟨_,(ag (av (eR (fH K e.units) (pv 2) (ai b (e.mono (by decide)) rfl (aa (ai a (e.mono (by decide)) rfl (aa (af (ah K e.units) (pv 0) ac (λ_ _=>rfl)) ab)) (aa (pv 1) ab))) (by with_unfolding_all rfl)))),?_⟩;obtain⟨X,n,W,O,U,G,I,D,_⟩:=bc R;cases G;refine⟨_,rfl,_,rfl,.tup (.of I) rfl (aB ⟨n,i,ks,rfl,D,T,λd j S C r y v=>⟨_,rfl,aB ⟨d,j,i,ks,u,rfl,y,v,T,p,λl M L m t=>.seq (.inl (.of t)) rfl (bp _) ?_⟩⟩⟩)⟩;rw[if_neg (show ¬ false=true by decide),dZ];exact k M (C.trans L)
theorem nU (G:GdH us ks ts B wn) (he:e∈B):pOf ks ts wn (("tie":Str),e.1,e.2)=none:=by
 obtain⟨k,g,x,y,m,s,p,j⟩:=G.wsr e he;have o:MG.ix k.2 y<=MG.ix k.2 x:=MG.Rch.closed (S:=λz=>MG.ix k.2 y<=MG.ix k.2 z) (wM _) (λa b h r=>wV h (Nat.le_of_lt (dW G.T G.tok G.wx g _ r))) j;unfold pOf;have l:¬ ((("tie":Str)="tie")/\(e.1,e.2)∈ts):=λz=>by
  obtain⟨_,_,_,f,d,a,b,c,_,_,_,_,n⟩:=G.tok _ z.2;have c:bt ks e.1 e.2=some (f.1,a,b):=c;rw[m] at c;have i:k=f:=iY G.T g d (congrArg (λq:Str × Str × Str=>q.1) (wR c));subst i;cases c;omega
 rw[if_neg l,if_neg λz=>(G.wok _ z).1.elim (λe=>absurd e (show ("tie":Str)≠"first" by decide)) (λe=>absurd e (show ("tie":Str)≠"last" by decide))]
theorem scLLoose:FnScope ["_law_pen_here","_law_house_here","_law_units","_law_loose_here","_law_here","_law_there","_law_knot","_law_child","_law_goal","_law_edges_here","_law_some","_law_row","_law_kid","_law_units_in","_law_one","_law_tie_here"] ["_law_pen_here","_law_house_here","_law_units"] (am ij):=⟨rfl,rfl,rfl,by decide +kernel,rfl,by decide +kernel,by decide +kernel⟩
theorem qr (F:Fun K "_law_loose" "_law_loose" ij f fd) (B:Blt mg) (m:Cal P w K mg base 1 "_law_draw" ["_law_pen_here", "_law_most"] (ci K)) (N:Cal P w K mg base 1 "_law_around" ["_law_knots"] cw) (I:Cal P w K mg base 2 "_law_parting" ["_law_around_here", "_law_one", "_law_other"] dv) (O:Cal P w K mg base 3 "_law_edges" ["_law_house_here", "_law_knot"] eP) (D:Cal P w K mg base 1 "_law_reached" ["_law_edges_here", "_law_one"] gU) (X:Cal P w K mg base 2 "_law_walk" ["_law_pen_here", "_law_edges_here", "_law_here", "_law_goals"] (gL K)) (v:Cal P w K mg base 2 "_law_within" ["_law_house_here", "_law_unit", "_law_child"] iZ) (U:Cal P w K mg base 4 "_law_along" ["_law_pen_here", "_law_house_here", "_law_knot", "_law_row"] (fk K)):FnOk P w K mg base CX0 5 f fd ["_law_pen_here", "_law_house_here", "_law_units"] (dP K 0 NoR) := by
 refine F.ok scLLoose (λvs H Q E h=>?_) (λp8 A k1 s H vs Q E o h=>?_)
 ·obtain⟨p,a,q,un,us,ks,ts,ws,wn,rfl,_⟩:=h
  rfl
 ·obtain⟨p,a,q,un,us,ks,ts,ws,wn,rfl,hP,R,G,k7,l4,k⟩:=h;have nd:=scLLoose.nd;refine⟨_,(ae (ao (i:=3) nd rfl (Or.inl rfl) (aL (aa (af (ah K o.units) (pv 1) ac (λ_ _=>rfl)) (aa (aG jk (af (ah K o.units) (pv 1) ac (λ_ _=>rfl)) (af (ah K o.units) (pv 1) ac (λ_ _=>rfl))) (aa (aL ab) (aa (af (ah K o.units) (pv 1) ac (λ_ _=>rfl)) ab))))))
   (ae (aU (ak (kU K o.units) (af (ah K o.units) (pv 1) ac (λ_ _=>rfl)) (aL ab) (by with_unfolding_all rfl)) (ag (av bj)) aF)
   (ae (df (af (ah K o.units) (af (ah K o.units) (pv 1) ac (λ_ _=>rfl)) (ai m (o.mono (by decide)) rfl (aa (pv 0) (aa (aW K B (aa (af (ah K o.units) (pv 1) ac (λ_ _=>rfl)) ab)) ab))) (λ_ _=>rfl)) (bN (n:=2) K rfl (aO (aA (i:=4) nd rfl (Or.inl rfl)) (aO (aA (i:=5) nd rfl (Or.inl rfl)) bS))))
   (ae (df (ai I (o.mono (by decide)) rfl (aa (ai N (o.mono (by decide)) rfl (aa (af (ah K o.units) (pv 1) ac (λ_ _=>rfl)) ab)) (aa (pv 4) (aa (pv 5) ab)))) (bN (n:=3) K rfl (aO (aA (i:=6) nd rfl (Or.inl rfl)) (aO (aA (i:=7) nd rfl (Or.inr rfl)) (aO (aA (i:=8) nd rfl (Or.inl rfl)) bS)))))
   (ae (ao (i:=9) nd rfl (Or.inl rfl) (ai O (o.mono (by decide)) rfl (aa (pv 1) (aa (pv 6) ab))))
   (ae (ao (i:=10) nd rfl (Or.inl rfl) (ai D (o.mono (by decide)) rfl (aa (pv 9) (aa (pv 8) ab))))
   (ae (ao (i:=11) nd rfl (Or.inr rfl) (aQ (aa (pv 8) ab)))
   (ae (ao (i:=12) nd rfl (Or.inl rfl) (af (ah K o.units) (pv 10) (ai m (o.mono (by decide)) rfl (aa (pv 0) (aa (aW K B (aa (pv 10) ab)) ab))) (λ_ _=>rfl)))
   (ae (aU (ak (cI o.units) (pv 12) (pv 8) (aw _)) (ag (ao (i:=11) nd rfl (Or.inr rfl) (ai X (o.mono (by decide)) rfl (aa (pv 0) (aa (pv 9) (aa (pv 8) (aa (aQ (aa (pv 12) ab)) ab))))))) aF)
   (ae (dA (i:=13) nd rfl rfl (by rfl) (am ij) ["_law_pen_here","_law_house_here","_law_units","_law_loose_here","_law_here","_law_there","_law_knot","_law_child","_law_goal","_law_edges_here","_law_some","_law_row","_law_kid","_law_units_in","_law_one","_law_tie_here"] ["_law_unit"] [7,1] ["_law_unit","_law_child","_law_house_here"] rfl (be K (pv 2)) (λ_ _ _ _ _=>(aA (i:=0) (show (["_law_unit","_law_child","_law_house_here"]:LS).Nodup by decide) rfl (Or.inl rfl))) (λ_ _ _ _ _=>(cm (PW.pt (cM (ak (aY o.units) (pv 0) (pv 1) (aw _)) (cA (eS (ai v (o.mono (by decide)) rfl (aa (pv 2) (aa (pv 0) (aa (pv 1) ab)))))))))) (λ_ _ _ _ _=>(pv 0)))
   (ae (dA (i:=14) nd rfl rfl (by rfl) (am ij) ["_law_pen_here","_law_house_here","_law_units","_law_loose_here","_law_here","_law_there","_law_knot","_law_child","_law_goal","_law_edges_here","_law_some","_law_row","_law_kid","_law_units_in","_law_one","_law_tie_here"] ["_law_unit"] [1,11] ["_law_unit","_law_house_here","_law_row"] rfl (be K (pv 2)) (λ_ _ _ _ _=>(aA (i:=0) (show (["_law_unit","_law_house_here","_law_row"]:LS).Nodup by decide) rfl (Or.inl rfl))) (λ_ _ _ _ _=>(cm (PW.pt (cM (ak (aY o.units) (pv 0) (af (ah K o.units) (pv 2) (dN de ac) (λ_ _=>rfl)) (aw _)) (cA (eS (ai v (o.mono (by decide)) rfl (aa (pv 1) (aa (pv 0) (aa (af (ah K o.units) (pv 2) (dN de ac) (λ_ _=>rfl)) ab)))))))))) (λ_ _ _ _ _=>(pv 0)))
   (ae (ao (i:=15) nd rfl (Or.inl rfl) (aL (aa (af (ah K o.units) (pv 14) (ai m (o.mono (by decide)) rfl (aa (pv 0) (aa (aW K B (aa (pv 14) ab)) ab))) (λ_ _=>rfl)) (aa (af (ah K o.units) (pv 13) (ai m (o.mono (by decide)) rfl (aa (pv 0) (aa (aW K B (aa (pv 13) ab)) ab))) (λ_ _=>rfl)) ab))))
   (ae (aU (PW.pt (cM (ak (fH K o.units) (af (ah K o.units) (pv 15) ac (λ_ _=>rfl)) (pv 13) (by with_unfolding_all rfl)) (cA (ak (ko o.units) (pv 15) (af (ah K o.units) (pv 3) ac (λ_ _=>rfl)) (by with_unfolding_all rfl))))) (ag (av bj)) aF)
   (ag (av (aL (aa (pv 15) (aa (aG aT (aQ (aa (aG (hU K) (aL (aa aR ab)) (pv 15)) (aa (aL (aa aR (aa (pv 4) (aa (pv 5) ab)))) ab))) (ai U (o.mono (by decide)) rfl (aa (pv 0) (aa (pv 1) (aa (pv 6) (aa (pv 11) ab)))))) ab)))))))))))))))))),?_⟩
  obtain⟨p0,d5⟩:=aV hP.2;have T:=G.T;have g2:=T.len;obtain⟨q',a0,b0,c3,d4,e0,hq,R1,R2,R3,R4⟩:=bc R;cases e0;obtain⟨q3,rb,e0,hb,g5⟩:=bo R2;cases e0;obtain⟨q6,rc,e0,hc,f6⟩:=bo R3;cases e0;have n7:=g5.len;have o0:=f6.len;rw[wK] at n7 o0;have:=G.tl;have:=G.wsl;refine⟨_,rfl,.tup (.of hq) rfl ⟨_,rfl,.tup (.of hq) rfl ⟨_,rfl,.tup (.of hq) rfl ?_⟩⟩⟩;refine⟨b0,c3,rb,rc,rfl,rfl,hb,hc,wV (by omega) (szl 1000),λlc H1 s1 n3=>⟨szl 0,λp6 i4=>?_⟩⟩;refine nw i4 λH2 s2 e2=>⟨_,rfl,.tup (.of ((s1.trans s2) _ _ hq)) rfl (aB ⟨szl 4,λtl o3=>?_⟩)⟩
  refine nw o3 λH3 s3 e3=>?_;refine au ?_;dsimp only;have a5:=(s1.trans s2).trans s3;have v3:=ap a5 hP.2;have b3:=But.of_same (p:=p) a5;have g6:=(s2.trans s3) _ _ n3;refine⟨_,rfl,.tup (.of (a5 _ _ hq)) rfl ⟨szl 0,λe0 o2=>?_⟩⟩;refine nw o2 λH4 s4 e4=>?_;have a1:=a5.trans s4;have v4:=ap s4 v3;have h6:=But.of_same (p:=p) s4;have b4:=b3.trans h6;refine⟨c3,e0,rc,rfl,rfl,.of (a1 _ _ hc),e4,_,rfl,?_⟩;refine aD (λ_=>?_) (λh=>aX ?_)
  ·exact k .non H4 (.inl rfl) v4 b4
  have o8:0<rc.length:=by
   cases rc with
   | nil=>exact absurd rfl h
   | cons x r=>exact x4 _
  dsimp only;obtain⟨p7,d3⟩:=aV v4;refine⟨_,rfl,.tup (.of (a1 _ _ hq)) rfl ⟨_,rfl,_,rfl,.tup (.of (a1 _ _ hq)) rfl (aB ⟨_,_,rfl,Or.inr ⟨_,.of (a1 _ _ hc),rfl⟩,p,a,_,rfl,hP.but b4 v4,by omega,by omega,λr5 H5 o4 p9 v5 e5=>?_⟩)⟩⟩;have a4:=But.of_eq e5;have b5:=b4.trans a4;obtain⟨j,rfl⟩:=xj o4;have hj:j<rc.length:=by omega
  have hz:rc[j]? = some rc[j]:=wS hj;obtain⟨e,te,he,ex,n9⟩:=bM f6 hz;rw[ex] at hz;have f4:=wP he;obtain⟨h1,h2⟩:=G.win e f4;refine .tup (.of (aP d3 a4 (a1 _ _ hc))) (bf hz) ⟨te,_,rfl,.of (aP d3 a4 (a1 _ _ n9)),rfl,_,_,rfl,_,_,rfl,rfl,?_⟩;dsimp only;have l9:Rep H5 (.ref a0) (cB ks):=by
   obtain⟨q2,a2,q7,c2,d2,e0,d9,l3,_⟩:=bc (aI d5 b5 R);cases e0;rw[aP d3 a4 (a1 _ _ hq)] at d9;cases d9;exact l3
  refine⟨_,rfl,.tup (.of (aP d3 a4 (a1 _ _ hq))) rfl (aB ⟨a0,us,ks,rfl,l9,T,λd m6 H6 s6 q4 hd ar=>⟨_,rfl,_,rfl,aB ⟨d,m6,us,ks,e.1,e.2,rfl,hd,ar,T,h1,h2,λx H7 s7 hx=>?_⟩⟩⟩)⟩;obtain⟨Z,M,cx,cy,n0,k3,d1,o9⟩:=G.wsr e f4;rw[n0] at hx;obtain⟨tt,rfl,k2⟩:∃t,x=.ref t/\H7 t=some (.tup [.str Z.1,.str cx,.str cy]):=hx;refine⟨tt,_,rfl,.of k2,rfl,_,_,rfl,_,_,rfl,_,_,rfl,rfl,?_⟩;dsimp only;have g4:=s6.trans s7;have b7:=b5.trans (But.of_same (p:=p) g4);have o5:=(h6.trans a4).trans (But.of_same (p:=p) g4);have v7:=ap g4 v5;have kl:Z.2.length<=60:=wV (cO (cq T M) λu hu=>T.isIn M hu) g2;have f0:∀s∈Z.2,Nm s:=λs hs=>T.nm s (T.isIn M hs);refine⟨_,rfl,_,rfl,q,us,ks,ts,ws,wn,Z.1,Z.2,rfl,aI d5 b7 R,T,G.tok,G.wx,M,G.tl,G.wl,λle c0 H8 s8 h7 i7 e8 el n2=>?_⟩;refine au ?_;dsimp only;have Y:=ee (wn:=wn) T G.tok M;have f7:=dW T G.tok G.wx M;have h0:=λe he=>dY (ks:=ks) (ts:=ts) (wn:=wn) M (e:=e) he;generalize cL ks ts wn Z.1 Z.2=es at e8 el n2 Y f7 h0;refine⟨_,rfl,_,rfl,le,c0,Z.2,es,cy,rfl,i7,e8,Y,d1,kl,λls b8 H9 s9 h4 k0 a3 sn=>?_⟩;refine au ?_;dsimp only;refine⟨_,rfl,szl 1,λj1 e1=>?_⟩;refine nw e1 λHA sA eA=>?_;refine au ?_;dsimp only;have j5:=(s8.trans s9).trans sA;have vA:=ap j5 v7;have i6:=o5.trans (But.of_same (p:=p) j5);have m3:ls≠p:=Ne.symm ((ap s8 v7).ne h4);have i5:le≠p:=Ne.symm (v7.ne h7);have d7:j1≠p:=Ne.symm ((ap (s8.trans s9) v7).ne e1);have g1:∀z∈b8,z∈Z.2:=λz hz=>MG.Rch.closed (S:=λy=>y∈Z.2) d1 (λa b _ r=>(Y _ r).2) ((a3 z).mp hz);have h5:0<b8.length:=ya ((a3 cy).mpr MG.Rch.refl);refine cU rfl rfl (hP.but (b3.trans i6) vA) (sA _ _ k0) m3 h5 (by omega) λj2 HB l2 vB f9=>?_;refine au ?_;dsimp only;have c7:=bW l2;generalize b8.getD j2 ""=a9 at c7 ⊢;have j7:=i6.trans f9;obtain⟨p3,m0⟩:=aV vA;obtain⟨p4,d0⟩:=aV v3;have g0:∀x y:Str,decide (V.str x=V.str y)=decide (x=y):=λx y=>by rw[xp,decide_eq_true_iff,decide_eq_true_iff];exact⟨V.str.inj,congrArg _⟩
  apply dF (J:=λσ HZ=>∃(lr:Addr) (C:LS),σ=[some (.ref p),some (.ref q),some (.ref un),some (.ref tl),some (.str e.1),some (.str e.2),some (.str Z.1),some (.str cx),some (.str cy),some (.ref le),some (.ref ls),some (.ref lr),some (.str a9),none,none,none]/\HZ lr=some (.lst (List.map V.str C))/\lr≠p/\C≠[]/\(∀x∈C,x∈Z.2)/\(∀e∈C.zip (C.drop 1),e∈es)/\C.length<=60/\PenV HZ p a/\But p H3 HZ)
  ·intro aM;refine⟨_,rfl,_,rfl,.sc rfl ⟨_,rfl,?_⟩⟩;rw[if_pos rfl,g0];refine aD (λhk=>?_) (λ_=>?_)
   ·have hk:a9≠cy:=by simpa using hk
    refine⟨_,rfl,_,rfl,_,rfl,_,rfl,szl 1,λgl j0=>?_⟩;refine nw j0 λHC sC eC=>?_;have vC:=ap sC vB;have g8:=But.of_same (p:=p) sC;have j4:=f9.trans g8;have b9:=j7.trans g8;have n4:gl≠p:=Ne.symm (vB.ne j0);refine aB ⟨p,a,le,gl,cy,c0,es,Z.2,[a9],MG.ix Z.2,rfl,hP.but (b3.trans b9) vC,j4 _ _ i5 ((s9.trans sA) _ _ i7),aS (aN m0 j4) (e8.same (s9.trans sA)),Y,d1,f0,kl,el,i5,n4,eC,λg hg=>by rw[xa.mp hg];exact g1 _ c7,by show 1<=60;decide,λe he=>⟨f7 e he,xw (MG.ix_lt (Y e he).2) kl⟩,λno HD vD i3=>?_,λl C HD wd a7 q5 nl k5 vD i3=>?_⟩
    ·rcases kH ((a3 a9).mp c7) with z | ⟨c,q1,q2⟩
     ·exact absurd z.symm hk
     ·exact absurd q2 (no _ q1 rfl a9 (.head _))
    ·refine au ?_;dsimp only;have j9:=fY (f:=MG.ix Z.2) λe he=>f7 e (wd.chain e he);exact aM _ _ ⟨l,C,rfl,k5,nl,(λz=>by have:=wd.two;rw[z] at this;exact absurd (show 2<=0 from this) (by decide)),a7,wd.chain,wV (cO (gr j9) a7) kl,vD,b9.trans i3⟩
   ·exact aM _ _ ⟨j1,[cy],rfl,f9 _ _ d7 eA,d7,by simp,λx hx=>by rw[xa.mp hx];exact d1,(by intro e he;cases he),by show 1<=60;decide,vB,j7⟩
  rintro σ HC ⟨lr,C,rfl,g9,h8,m4,a7,k8,rl,vC,b9⟩;have bC:=b3.trans b9;have c4:=bC _ _ l4 k7;have c6:∀ {H':Hp},Same HC H'->∀ {u c:Str},u∈us->∀ {Q':VK},(∀H2,Same H' H2->Q' (.bl (decide (c∈tp (lin ks u)))) H2)->iZ [.ref q,.str u,.str c] H' Q' E0:=λ{H'} sm {u c} hu {Q'} hq=>⟨q,us,ks,ts,ws,wn,u,c,rfl,(aI d5 bC R).same sm,T,hu,hq⟩
  refine⟨_,rfl,_,rfl,⟨_,.of c4⟩,?_⟩;refine hX (λx=>decide (x=cx)||decide (cx∈tp (lin ks x))) c4 rfl (by omega) (λx hx H' Q' sm q'=>?_) λli HD sD j6 e9=>?_
  ·refine⟨_,rfl,_,rfl,.sc rfl ⟨_,rfl,?_⟩⟩;rw[if_neg (show ¬ false=true by decide),g0];by_cases z:x=cx
   ·have:=q' H' (Same.refl H');rw[wQ z] at this ⊢;exact this
   ·rw[xi z] at q' ⊢;exact⟨_,rfl,_,rfl,_,rfl,aB (c6 sm hx λH2 s2=>⟨_,rfl,q' H2 s2⟩)⟩
  refine au ?_;dsimp only;have e6:=sD _ _ c4;obtain⟨z,i0⟩:∃z,C.getLast? = some z:=by
   cases hh:C.getLast? with
   | none=>exact absurd (yE.mp hh) m4
   | some z=>exact⟨z,rfl⟩
  have o1:=a7 z (yD i0);have j8:atI (List.map V.str C) (-1)=some (.str z):=iu (by rw[List.getLast?_map,i0];rfl);refine⟨_,rfl,_,rfl,⟨_,.of e6⟩,?_⟩;refine hX (λx=>decide (x=z)||decide (z∈tp (lin ks x))) e6 rfl (by omega) (λx hx H' Q' sm q'=>?_) λlo HE sE j3 h3=>?_
  ·have d8:=(sD.trans sm) _ _ g9;refine⟨_,rfl,_,rfl,_,rfl,.lst (.of d8) j8 (.sc rfl ⟨_,rfl,?_⟩)⟩;rw[if_neg (show ¬ false=true by decide),g0];by_cases y:x=z
   ·have:=q' H' (Same.refl H');rw[wQ y] at this ⊢;exact this
   ·rw[xi y] at q' ⊢;exact⟨_,rfl,_,rfl,_,rfl,_,rfl,.lst (.of d8) j8 (aB (c6 (sD.trans sm) hx λH2 s2=>⟨_,rfl,q' H2 s2⟩))⟩
  refine au ?_;dsimp only;obtain⟨L1,b6⟩:∃L,L=us.filter λx=>decide (x=cx)||decide (cx∈tp (lin ks x)):=⟨_,rfl⟩
  obtain⟨c9,c8⟩:∃L,L=us.filter λx=>decide (x=z)||decide (z∈tp (lin ks x)):=⟨_,rfl⟩
  rw[<- b6] at e9;rw[<- c8] at h3;have p1:0<L1.length:=ya (a:=cx) (by rw[b6];exact xn.mpr ⟨T.isIn M k3,by rw[wQ rfl];rfl⟩);have p2:0<c9.length:=ya (a:=z) (by rw[c8];exact xn.mpr ⟨T.isIn M o1,by rw[wQ rfl];rfl⟩);have m1:∀x∈L1,x∈us:=λx hx=>by rw[b6] at hx;exact(xn.mp hx).1
  have m2:∀x∈c9,x∈us:=λx hx=>by rw[c8] at hx;exact(xn.mp hx).1
  have c1:L1.length<=60:=by rw[b6];exact wV (yp _ _) g2
  have c2:c9.length<=60:=by rw[c8];exact wV (yp _ _) g2
  clear b6 c8;have f2:=sD.trans sE;have vE:=ap f2 vC;have f5:=b9.trans (But.of_same (p:=p) f2);have f3:li≠p:=Ne.symm (vC.ne j6);have o6:lo≠p:=Ne.symm ((ap sD vC).ne j3);refine cU rfl rfl (hP.but (b3.trans f5) vE) h3 o6 p2 (by omega) λi1 HF l1 vF f1=>?_;refine cU rfl rfl (hP.but ((b3.trans f5).trans f1) vF) (f1 _ _ f3 (sE _ _ e9)) f3 p1 (by omega) λi2 HG n8 vG l7=>?_;have x1:=bW l1;have x2:=bW n8;generalize c9.getD i1 ""=one at x1 ⊢;generalize L1.getD i2 ""=W at x2 ⊢;have e7:=f1.trans l7;have l0:=f5.trans e7;refine aB ⟨szl 2,λt1 n1=>?_⟩;refine nw n1 λHH sH eH=>?_;refine au ?_;dsimp only;have vH:=ap sH vG;have a8:=l0.trans (But.of_same (p:=p) sH);have h9:=sH _ _ (e7 _ _ f3 (sE _ _ e9));refine iD (b1:=decide (one∈L1)) (b2:=decide ((one,W)∈ts++ws)) (λQ' q'=>?_) (λQ' q'=>?_) ?_
  ·refine⟨_,rfl,.tup (.of eH) rfl ⟨_,rfl,.seq (.inl (.of h9)) rfl (bp _) ⟨_,rfl,?_⟩⟩⟩;rw[if_neg (show ¬ false=true by decide),dZ];exact q'
  ·refine⟨_,rfl,_,rfl,.tup (.of (aP d0 a8 e3)) rfl ⟨lc,rb++rc,_,aK ((one,W):Str × Str),rfl,aP d0 a8 g6,?_,bx eH,cf (ps:=ts++ws) λe he=>?_,cJ ⟨T.nm _ (m2 _ x1),T.nm _ (m1 _ x2)⟩,(by show 1<=16;decide),_,rfl,?_⟩⟩
   ·rw[wZ];exact RepAll.append (aS (aN d0 a8) (g5.same a5)) (aS (aN d0 a8) (f6.same a5))
   ·rcases w8.mp he with q | q
    ·exact⟨T.nm _ (G.tok e q).1,T.nm _ (G.tok e q).2.1⟩
    ·exact⟨T.nm _ (G.win e q).1,T.nm _ (G.win e q).2⟩
   ·rw[if_neg (show ¬ false=true by decide),gh];exact q'
  refine aD (λ_=>?_) (λ_=>aX ?_)
  ·exact k .non HH (.inl rfl) vH (b3.trans a8)
  refine⟨_,rfl,szl 1,λt2 k9=>?_⟩;refine nw k9 λHI sI eI=>⟨_,rfl,t2,t1,_,_,rfl,rfl,.of eI,.of (sI _ _ eH),szl 3,(λh=>by cases h),(λ_ h=>by cases h),λ_ _ t3 l8=>?_⟩
  refine nw l8 λHJ sJ eJ=>⟨_,rfl,_,rfl,szl 3,λt4 m7=>?_⟩
  refine nw m7 λHK sK eK=>⟨szl 2,λl5 i9=>?_⟩
  refine nw i9 λHL sL eL=>?_;have d6:=((sI.trans sJ).trans sK).trans sL;have vL:=ap d6 vH;have f8:=a8.trans (But.of_same (p:=p) d6);have m8:l5≠p:=Ne.symm ((ap ((sI.trans sJ).trans sK) vH).ne i9);have m5:But p HC HL:=((((But.of_same (p:=p) f2).trans e7).trans (But.of_same (p:=p) sH))).trans (But.of_same (p:=p) d6);obtain⟨q0,g3⟩:=aV vL;refine⟨_,rfl,_,rfl,_,rfl,_,rfl,aB ⟨p,a,q,lr,us,ks,ts,ws,wn,Z.1,C,rfl,hP.but (b3.trans f8) vL,aI d5 (b3.trans f8) R,T,G.tok,G.wok,G.tl,G.wl,(T.sub Z M).imp id (T.nm _),.inl (m5 _ _ h8 g9),h8,λu hu=>f0 u (a7 u hu),by omega,λf hf=>h0 f (k8 f hf),λlx ss HM o7 p5 ⟨fr,n6,i8⟩ al vM c5=>?_⟩⟩;have n5:=i8.len;rw[wK] at n5;have sl:=cQ al;refine .lst (c5 _ _ m8 eL) n6 (wV (by show 2+fr.length<=1000;omega) (szl 1000)) λl6 g7=>?_;have k4:l6≠p:=Ne.symm (vM.ne g7);refine nw g7 λHN sN eN=>aB ⟨szl 2,λtz m9=>?_⟩;refine nw m9 λHO sO eO=>?_;have a6:=sN.trans sO;have k6:=f8.trans c5;refine k (.ref tz) HO (.inr ⟨tz,.ref t1,l6,_,_,(("tie":Str),one,W)::(("tie":Str),e.1,e.2)::ss,rfl,eO,.tie (m2 _ x1) (m1 _ x2) (a6 _ _ (aP g3 c5 (d6 _ _ eH))),⟨_,sO _ _ eN,.cons (dy (t:=(("tie":Str),one,W)) (a6 _ _ (aP g3 c5 ((sK.trans sL) _ _ eJ)))) (.cons (dy (t:=(("tie":Str),e.1,e.2)) (a6 _ _ (aP g3 c5 (sL _ _ eK)))) (i8.same a6))⟩,k4,λs hs=>?_,by rw[xc,xc];omega,λ⟨_,_,cl⟩=>hZ ?_ cl⟩) (ap a6 vM) ((b3.trans k6).trans (But.of_same (p:=p) a6))
  ·rcases wY.mp hs with e' | hs
   ·rw[e'];exact⟨ik,T.nm _ (m2 _ x1),T.nm _ (m1 _ x2)⟩
   ·rcases wY.mp hs with e' | hs
    ·rw[e'];exact⟨ik,T.nm _ h1,T.nm _ h2⟩
    ·exact fh T G.tok (λx hx=>f0 x (a7 x hx)) al s hs
  ·refine .tail _ ?_;show none∈pOf ks ts wn (("tie":Str),e.1,e.2)::ss.map (pOf ks ts wn);rw[nU G f4];exact .head _
theorem lZ {mn:LS}{s:T3}(a:s.1="first"∨s.1="last") (b:bV s∈mn):pOf ks ts (bd wn mn) s=none:=by
 unfold pOf;rw[if_neg,if_neg]
 ·intro z;have:=(xn.mp z).2;rw[wQ b] at this;cases this
 ·rintro⟨z,_⟩;rw[z] at a;exact a.elim (λe=>absurd e (show ("tie":Str)≠"first" by decide)) (λe=>absurd e (show ("tie":Str)≠"last" by decide))
theorem mf (a:s∈q) (h:pOf ks ts (bd wn mn) s=none):¬ cR ks ts wn mn q:=λ⟨_,b,e,_⟩=>by
 have:=wX.mpr ⟨s,a,h⟩;rw[e] at this;simp at this
theorem scLOwn:FnScope ["_law_pen_here","_law_house_here","_law_units","_law_word","_law_unit","_law_knot","_law_edges_here","_law_pair","_law_steps_here"] ["_law_pen_here","_law_house_here","_law_units"] (am oq):=⟨rfl,rfl,rfl,by decide +kernel,rfl,by decide +kernel,by decide +kernel⟩
theorem ul (F:Fun K "_law_own" "_law_own" oq f fd) (B:Blt mg) (c:Cal P w K mg base 1 "_law_draw" ["_law_pen_here", "_law_most"] (ci K)) (y:Cal P w K mg base 1 "_law_around" ["_law_knots"] cw) (L:Cal P w K mg base 3 "_law_edges" ["_law_house_here", "_law_knot"] eP) (M:Cal P w K mg base 4 "_law_along" ["_law_pen_here", "_law_house_here", "_law_knot", "_law_row"] (fk K)):FnOk P w K mg base CX0 5 f fd ["_law_pen_here", "_law_house_here", "_law_units"] (dP K 2 NoR) := by
 refine F.ok scLOwn (λvs H Q E h=>?_) (λi6 A f2 s H vs Q E J h=>?_)
 ·obtain⟨p,a,q,un,us,ks,ts,ws,wn,rfl,_⟩:=h
  rfl
 ·obtain⟨p,a,q,un,us,ks,ts,ws,wn,rfl,hP,R,G,i7,i1,k⟩:=h;have nd:=scLOwn.nd;refine⟨_,(ae (aU (ak (kU K J.units) (af (ah K J.units) (pv 1) ac (λ_ _=>rfl)) (aL ab) (by with_unfolding_all rfl)) (ag (av bj)) aF)
   (ae (df (af (ah K J.units) (af (ah K J.units) (pv 1) ac (λ_ _=>rfl)) (ai c (J.mono (by decide)) rfl (aa (pv 0) (aa (aW K B (aa (af (ah K J.units) (pv 1) ac (λ_ _=>rfl)) ab)) ab))) (λ_ _=>rfl)) (bN (n:=2) K rfl (aO (aA (i:=3) nd rfl (Or.inl rfl)) (aO (aA (i:=4) nd rfl (Or.inr rfl)) bS))))
   (ae (ao (i:=5) nd rfl (Or.inl rfl) (af (ah K J.units) (ai y (J.mono (by decide)) rfl (aa (af (ah K J.units) (pv 1) ac (λ_ _=>rfl)) ab)) (pv 4) (λ_ _=>rfl)))
   (ae (dA (i:=6) nd rfl rfl (by rfl) (am oq) ["_law_pen_here","_law_house_here","_law_units","_law_word","_law_unit","_law_knot","_law_edges_here","_law_pair","_law_steps_here"] ["_law_pair"] [4] ["_law_pair","_law_unit"] rfl (be K (ai L (J.mono (by decide)) rfl (aa (pv 1) (aa (pv 5) ab)))) (λ_ _ _ _ _=>(aA (i:=0) (show (["_law_pair","_law_unit"]:LS).Nodup by decide) rfl (Or.inl rfl))) (λ_ _ _ _ _=>(cm (ak (bw K J.units) (pv 1) (pv 0) (by with_unfolding_all rfl)))) (λ_ _ _ _ _=>(pv 0)))
   (ae (aU (ak (gc K J.units) (pv 6) (aQ ab) (by with_unfolding_all rfl)) (ag (av bj)) aF)
   (ae (ao (i:=7) nd rfl (Or.inl rfl) (af (ah K J.units) (pv 6) (ai c (J.mono (by decide)) rfl (aa (pv 0) (aa (aW K B (aa (pv 6) ab)) ab))) (λ_ _=>rfl)))
   (ae (ao (i:=8) nd rfl (Or.inl rfl) (ai M (J.mono (by decide)) rfl (aa (pv 0) (aa (pv 1) (aa (pv 5) (aa (pv 7) ab))))))
   (ae (aU (ak (aY J.units) (pv 3) aR (aw _)) (ag (av (aL (aa (aQ (aa (pv 4) (aa (af (ah K J.units) (pv 7) ac (λ_ _=>rfl)) ab))) (aa (aG aT (aQ (aa (aL (aa aR (aa (pv 4) (aa (af (ah K J.units) (pv 7) ac (λ_ _=>rfl)) ab)))) ab)) (pv 8)) ab))))) aF)
   (ag (av (aL (aa (aQ (aa (af (ah K J.units) (pv 7) ac (λ_ _=>rfl)) (aa (pv 4) ab))) (aa (aG aT (pv 8) (aQ (aa (aL (aa aR (aa (af (ah K J.units) (pv 7) ac (λ_ _=>rfl)) (aa (pv 4) ab)))) ab))) ab))))))))))))),?_⟩
  obtain⟨h9,a5⟩:=aV hP.2;have T:=G.T;have g1:=T.len;obtain⟨q',a0,b0,c3,d4,e0,hq,R1,R2,R3,R4⟩:=bc R;cases e0;obtain⟨i8,Y,e0,hd,d5⟩:=bo R4;cases e0;have f7:=d5.len;rw[wK] at f7;have:=G.wl;refine⟨_,rfl,.tup (.of hq) rfl ⟨szl 0,λe0 g3=>?_⟩⟩;refine nw g3 λH1 s1 e1=>?_;have v1:=ap s1 hP.2;have b1:=But.of_same (p:=p) s1;refine⟨d4,e0,Y,rfl,rfl,.of (s1 _ _ hd),e1,_,rfl,?_⟩;refine aD (λ_=>?_) (λh=>aX ?_)
  ·exact k .non H1 (.inl rfl) v1 b1
  have h8:0<Y.length:=by
   cases Y with
   | nil=>exact absurd rfl h
   | cons x r=>exact x4 _
  dsimp only;refine⟨_,rfl,.tup (.of (s1 _ _ hq)) rfl ⟨_,rfl,_,rfl,.tup (.of (s1 _ _ hq)) rfl (aB ⟨_,_,rfl,Or.inr ⟨_,.of (s1 _ _ hd),rfl⟩,p,a,_,rfl,hP.but b1 v1,by omega,by omega,λr5 H2 g8 i0 v2 e2=>?_⟩)⟩⟩;have g7:=But.of_eq e2;have b2:=b1.trans g7;obtain⟨j,rfl⟩:=xj g8;have hj:j<Y.length:=by omega
  have hz:Y[j]? = some Y[j]:=wS hj;obtain⟨e,te,he,ex,f1⟩:=bM d5 hz;rw[ex] at hz;have g2:=wP he;obtain⟨hw,hu⟩:=G.wok e g2;refine .tup (.of (aP a5 b2 hd)) (bf hz) ⟨te,_,rfl,.of (aP a5 b2 f1),rfl,_,_,rfl,_,_,rfl,rfl,?_⟩;dsimp only;obtain⟨q2,a2,i9,c2,d2,f9,h2,h4,_⟩:=bc (aI a5 b2 R);cases f9;obtain⟨kk,l,g6⟩:=T.has hu;have d0:=T.par l g6;refine⟨_,rfl,.tup (.of h2) rfl (aB ⟨a2,us,ks,rfl,h4,T,λd f5 H3 s3 i2 h3 ar=>⟨_,rfl,.dic (.inl ⟨f5,.inr e.2,.inl h3,rfl,(ar e.2 hu).symm⟩) ?_⟩⟩)⟩;rw[d0];refine au ?_;dsimp only;have v3:=ap s3 v2;have b3:=b2.trans (But.of_same (p:=p) s3);have kl:kk.2.length<=60:=wV (cO (cq T l) λu hu=>T.isIn l hu) g1;have Z:∀s∈kk.2,Nm s:=λs hs=>T.nm s (T.isIn l hs);refine⟨_,rfl,_,rfl,q,us,ks,ts,ws,wn,kk.1,kk.2,rfl,aI a5 b3 R,T,G.tok,G.wx,l,G.tl,G.wl,λle c0 H4 s4 h5 e4 c6 el g0=>?_⟩;have b9:=ee (wn:=wn) T G.tok l;have e3:=λe he=>dY (ks:=ks) (ts:=ts) (wn:=wn) l (e:=e) he;have h0:=dW T G.tok G.wx l;generalize cL ks ts wn kk.1 kk.2=es at c6 el g0 b9 h0 e3;have v4:=ap s4 v3;have b4:=b3.trans (But.of_same (p:=p) s4);have f8:=c6.len;rw[wK] at f8;refine⟨le,rfl,⟨_,.of e4⟩,?_⟩
  let d8:Addr->Nat->LV->SH:=λD i C a6 H'=>∃o,a6=[o,some (.str e.2)]/\(∀v∈C,∃f ta,v=.ref ta/\f∈es/\H4 ta=some (.tup [.str f.1,.str f.2]))/\C.length<=i/\Same H4 H'/\H4 D=none
  refine cP c0 d8 λD hD=>⟨?_,?_,?_,?_⟩
  ·exact⟨none,rfl,(λv hv=>by cases hv),wM _,Same.new hD,hD⟩
  ·rintro i C a6 H' _ ⟨o,rfl,_,_,sm,_⟩ _;exact .of (sm _ _ e4)
  ·rintro i C a6 H' x hx ⟨o,rfl,X,al,sm,a4⟩ I;obtain⟨f,ta,hf,rfl,a8⟩:=bM c6 hx;have i4:=(wO.mp hf).1;refine au ?_;refine⟨_,rfl,_,rfl,.seq (.inr (.of (sm _ _ a8))) rfl rfl ⟨_,rfl,?_⟩⟩;refine aD (λ_=>?_) (λ_=>?_)
   ·refine⟨_,rfl,I,x6 (by omega:_<=100000) (by decide),_,rfl,λv hv=>?_,by rw[w6];exact x3 al,bu sm a4,a4⟩;rcases w8.mp hv with g | g
    ·exact X v g
    ·rw[xa.mp g];exact⟨f,ta,rfl,wP hf,a8⟩
   ·exact⟨I,_,rfl,X,by omega,sm,a4⟩
  rintro C a6 H5 ⟨o,rfl,X,al,s5,a4⟩ I;refine au ?_;dsimp only;have v5:=ap s5 v4;have b5:=b4.trans (But.of_same (p:=p) s5);have nD:D≠p:=Ne.symm (v4.ne a4);refine⟨_,rfl,szl 0,λe6 f0=>?_⟩;refine nw f0 λH6 s6 f3=>?_;have v6:=ap s6 v5;have b6:=b5.trans (But.of_same (p:=p) s6);refine⟨D,e6,_,rfl,rfl,.of (s6 _ _ I),f3,_,rfl,?_⟩;rw[if_neg (show ¬ false=true by decide)];refine aD (λ_=>?_) (λh=>aX ?_)
  ·exact k .non H6 (.inl rfl) v6 b6
  have h6:0<C.length:=by
   cases C with
   | nil=>exact absurd rfl h
   | cons x r=>exact x4 _
  dsimp only;refine⟨_,rfl,_,rfl,_,rfl,_,_,rfl,Or.inl ⟨_,.of (s6 _ _ I),rfl⟩,p,a,_,rfl,hP.but b6 v6,by omega,by omega,λr7 H7 f6 j0 v7 e7=>?_⟩;have e8:=But.of_eq e7;have b7:=b6.trans e8;obtain⟨j7,rfl⟩:=xj f6;have d1:j7<C.length:=by omega
  have d3:C[j7]? = some C[j7]:=wS d1;obtain⟨f,ta,ef,hf,a8⟩:=X _ (yk d1);rw[ef] at d3;obtain⟨j1,f4⟩:=aV v6;have U:=aP f4 e8 ((s5.trans s6) _ _ a8);refine .lst (.of ((e7 _ nD).trans (s6 _ _ I))) (bf d3) ?_;refine au ?_;dsimp only;have g5:ta≠p:=λz=>by
   obtain⟨i,m,e,_⟩:=v7;rw[z,e] at U;cases U
  obtain⟨a7,a9⟩:=b9 f hf;refine⟨_,rfl,_,rfl,_,rfl,_,rfl,aB ⟨p,a,q,ta,us,ks,ts,ws,wn,kk.1,[f.1,f.2],rfl,hP.but b7 v7,aI a5 b7 R,T,G.tok,G.wok,G.tl,G.wl,(T.sub kk l).imp id (T.nm _),.inr U,g5,λu hu=>?_,by show 2<=100;decide,λg hg=>?_,λlx ss H8 h7 i5 ⟨fr,d7,c7⟩ e5 v8 d6=>?_⟩⟩
  ·simp only[wY,yy,or_false] at hu;rcases hu with rfl | rfl
   ·exact Z _ a7
   ·exact Z _ a9
  ·have:g=f:=by simpa using hg
   rw[this];exact e3 f hf
  refine au ?_;dsimp only;have b8:=b7.trans d6;obtain⟨i3,g9⟩:=aV v7;have W:=aP g9 d6 U;have g4:=c7.len;rw[wK] at g4;have sl:ss.length=1:=cQ e5;have d9:=fh T G.tok (λx hx=>(by simp only[wY,yy,or_false] at hx;rcases hx with rfl | rfl;exact Z _ a7;exact Z _ a9)) e5;have eu:=T.nm _ hu;refine⟨_,rfl,.sc rfl ⟨_,rfl,?_⟩⟩;rw[if_neg (show ¬ false=true by decide)];refine aD (λh1=>?_) (λh1=>aX ?_)
  ·refine⟨_,rfl,_,rfl,.tup (.of W) rfl ⟨szl 2,λl1 a1=>?_⟩⟩;refine nw a1 λH9 s9 e9=>⟨_,rfl,_,rfl,.tup (.of (s9 _ _ W)) rfl ⟨szl 3,λt2 c8=>?_⟩⟩
   refine nw c8 λHA sA eA=>⟨szl 1,λl3 c9=>?_⟩
   refine nw c9 λHB sB eB=>⟨_,rfl,?_⟩
   have O:=(s9.trans sA).trans sB;refine .lst eB (O _ _ d7) (wV (by show 1+fr.length<=1000;omega) (szl 1000)) λl4 a3=>?_;have vB:=ap O v8;have c1:l1≠p:=Ne.symm (v8.ne a1);have c5:l4≠p:=Ne.symm (vB.ne a3);refine nw a3 λHC sC eC=>aB ⟨szl 2,λtz c4=>?_⟩;refine nw c4 λHD sD eD=>?_;have N:=sC.trans sD;have S:=O.trans N;refine k (.ref tz) HD (.inr ⟨tz,.ref l1,l4,_,_,(("first":Str),e.2,f.1)::ss,rfl,eD,.group (mn:=[e.2,f.2]) (b:=true) (by simp) (λm hm=>?_) (by show 2<=60;decide) c1 (((sA.trans sB).trans N) _ _ e9),⟨_,sD _ _ eC,.cons (dy (t:=(("first":Str),e.2,f.1)) ((sB.trans N) _ _ eA)) (c7.same S)⟩,c5,λs hs=>?_,by rw[xc];omega,mf (.head _) (lZ (.inl rfl) (by rw[show bV (("first":Str),e.2,f.1)=e.2 from if_pos rfl];exact .head _))⟩) (ap S v8) (b8.trans (But.of_same (p:=p) S))
   ·simp only[wY,yy,or_false] at hm;rcases hm with rfl | rfl
    ·exact hu
    ·exact T.isIn l a9
   ·rcases wY.mp hs with e' | hs
    ·rw[e'];exact⟨iS,eu,Z _ a7⟩
    ·exact d9 s hs
  ·refine⟨_,rfl,.tup (.of W) rfl ⟨_,rfl,szl 2,λl1 a1=>?_⟩⟩;refine nw a1 λH9 s9 e9=>⟨_,rfl,_,rfl,.tup (.of (s9 _ _ W)) rfl ⟨_,rfl,szl 3,λt2 c8=>?_⟩⟩
   refine nw c8 λHA sA eA=>⟨szl 1,λl3 c9=>?_⟩
   refine nw c9 λHB sB eB=>?_;have O:=(s9.trans sA).trans sB;refine .lst (O _ _ d7) eB (wV (by show fr.length+1<=1000;omega) (szl 1000)) λl4 a3=>?_;have vB:=ap O v8;have c1:l1≠p:=Ne.symm (v8.ne a1);have c5:l4≠p:=Ne.symm (vB.ne a3);refine nw a3 λHC sC eC=>aB ⟨szl 2,λtz c4=>?_⟩;refine nw c4 λHD sD eD=>?_;have N:=sC.trans sD;have S:=O.trans N;refine k (.ref tz) HD (.inr ⟨tz,.ref l1,l4,_,_,ss++[(("last":Str),f.2,e.2)],rfl,eD,.group (mn:=[f.1,e.2]) (b:=true) (by simp) (λm hm=>?_) (by show 2<=60;decide) c1 (((sA.trans sB).trans N) _ _ e9),⟨_,sD _ _ eC,by rw[wZ];exact RepAll.append (c7.same S) (.cons (dy (t:=(("last":Str),f.2,e.2)) ((sB.trans N) _ _ eA)) .nil)⟩,c5,λs hs=>?_,by rw[w6];show ss.length+1<=90;omega,mf (xG _ (.head _)) (lZ (.inr rfl) (by rw[show bV (("last":Str),f.2,e.2)=e.2 from if_neg (show ("last":Str)≠"first" by decide)];exact .tail _ (.head _)))⟩) (ap S v8) (b8.trans (But.of_same (p:=p) S))
   ·simp only[wY,yy,or_false] at hm;rcases hm with rfl | rfl
    ·exact T.isIn l a7
    ·exact hu
   ·rcases w8.mp hs with hs | hs
    ·exact d9 s hs
    ·rw[xa.mp hs];exact⟨jS,Z _ a9,eu⟩
theorem lU (n d:Nat):HT.sIx n d (some (-1))=n-1:=by
 show (if (-1:Int)<0 then ((-1:Int)+(n:Int)).toNat else min (-1:Int).toNat n)=n-1;rw[if_pos (by decide)];omega
theorem qP (xs:LV) (z:V):cX (xs++[z]) (some (-1)) none=[z]:=by
 unfold cX;rw[lU,HT.sIx_none,w6,yg,Nat.add_sub_cancel,List.drop_left,Nat.add_sub_cancel_left];rfl
theorem oC (xs:LV):cX xs (some 1) (some (-1))=(xs.drop 1).dropLast:=by
 unfold cX;rw[lU,show (some (1:Int))=some ((1:Nat):Int) from rfl,HT.sIx_nat,List.dropLast_eq_take,xu];cases xs with
 | nil=>rfl
 | cons x r=>rw[show min 1 (x::r).length=1 from by rw[xc];omega]
theorem uv (T:Tre us ks) (n:k∈ks) (c:∀x∈row,x∈k.2) (b:row.Pairwise λx y=>MG.ix k.2 x<MG.ix k.2 y) (m:fF ks ts (bd wn mn) k.1 row q) (j:x∈(row.drop 1).dropLast) (f:x∈mn):¬ cR ks ts wn mn q:=by
 rintro⟨_,o,e,_,_,h⟩;rw[fD T n c b m] at e;obtain⟨i,a⟩:=xI j;rw[List.getElem?_dropLast] at a
 split at a
 ·next l =>
  rw[xA] at a;rw[xu] at l;obtain⟨t,d⟩:∃t,(bm k.1 row)[1+i]? = some t:=⟨_,wS (by rw[cN];omega)⟩
  have g:=(bz d).1;rw[a] at g;refine h t ?_ (by rw[<- wR g];exact f);rw[<- cH e];exact wP (i:=i) (by rw[xA];exact d)
 ·cases a
theorem scLLong:FnScope ["_law_pen_here","_law_house_here","_law_units","_law_knot","_law_kids","_law_members","_law_wants_here","_law_bare","_law_edges_here","_law_row"] ["_law_pen_here","_law_house_here","_law_units"] (am iB):=⟨rfl,rfl,rfl,by decide +kernel,rfl,by decide +kernel,by decide +kernel⟩
theorem rW (F:Fun K "_law_long" "_law_long" iB f fd) (B:Blt mg) (n:Cal P w K mg base 1 "_law_draw" ["_law_pen_here", "_law_most"] (ci K)) (C:Cal P w K mg base 1 "_law_around" ["_law_knots"] cw) (I:Cal P w K mg base 3 "_law_edges" ["_law_house_here", "_law_knot"] eP) (M:Cal P w K mg base 2 "_law_walk" ["_law_pen_here", "_law_edges_here", "_law_here", "_law_goals"] (gL K)) (J:Cal P w K mg base 4 "_law_along" ["_law_pen_here", "_law_house_here", "_law_knot", "_law_row"] (fk K)):FnOk P w K mg base CX0 5 f fd ["_law_pen_here", "_law_house_here", "_law_units"] (dP K 2 NoR) := by
 refine F.ok scLLong (λvs H Q E h=>?_) (λl4 A g5 s H vs Q E L h=>?_)
 ·obtain⟨p,a,q,un,us,ks,ts,ws,wn,rfl,_⟩:=h
  rfl
 ·obtain⟨p,a,q,un,us,ks,ts,ws,wn,rfl,hP,R,G,i7,e1,k⟩:=h;have nd:=scLLong.nd;refine⟨_,(ae (ao (i:=3) nd rfl (Or.inl rfl) (af (ah K L.units) (ai C (L.mono (by decide)) rfl (aa (af (ah K L.units) (pv 1) ac (λ_ _=>rfl)) ab)) (af (ah K L.units) (pv 2) (ai n (L.mono (by decide)) rfl (aa (pv 0) (aa (aW K B (aa (pv 2) ab)) ab))) (λ_ _=>rfl)) (λ_ _=>rfl)))
   (ae (ao (i:=4) nd rfl (Or.inl rfl) (af (ah K L.units) (fW K rfl L.units B (aa (af (ah K L.units) (pv 1) ac (λ_ _=>rfl)) ab)) (pv 3) (λ_ _=>rfl)))
   (ae (ao (i:=5) nd rfl (Or.inr rfl) (cp (am iB) ["_law_pen_here","_law_house_here","_law_units","_law_knot","_law_kids","_law_members","_law_wants_here","_law_bare","_law_edges_here","_law_row"] [0] "_law_kid" ["_law_pen_here"] (bH K (pv 4)) (cm (ak (aY L.units) (ai n (L.mono (by decide)) rfl (aa (pv 1) (aa ac ab))) ac (aw _))) (pv 0)))
   (ae (ao (i:=6) nd rfl (Or.inl rfl) (dg K B (aa (cp (am iB) ["_law_pen_here","_law_house_here","_law_units","_law_knot","_law_kids","_law_members","_law_wants_here","_law_bare","_law_edges_here","_law_row"] [5] "_law_want_here" ["_law_members"] (bH K (af (ah K L.units) (pv 1) ac (λ_ _=>rfl))) (cm (ak (bw K L.units) (af (ah K L.units) (pv 0) ac (λ_ _=>rfl)) (pv 1) (by with_unfolding_all rfl))) (pv 0)) ab)))
   (ae (ao (i:=7) nd rfl (Or.inl rfl) (aG jk (bq ky (pv 1) ce (bi ac)) (aL (aa (pv 6) ab))))
   (ae (ao (i:=8) nd rfl (Or.inl rfl) (ai I (L.mono (by decide)) rfl (aa (pv 7) (aa (pv 3) ab))))
   (ae (aU (ak eW (aW K B (aa (pv 5) ab)) ac (aw _)) (ag (av bj)) aF)
   (ae (ao (i:=9) nd rfl (Or.inl rfl) (ai M (L.mono (by decide)) rfl (aa (pv 0) (aa (pv 8) (aa (af (ah K L.units) (pv 5) ac (λ_ _=>rfl)) (aa (bq (eX K) (pv 5) (bi (dN de ac)) ce) ab))))))
   (ae (aU (PW.pt (cM (ak ib (pv 9) bj (aw _)) (cA (ak (gc K L.units) (cp (am iB) ["_law_pen_here","_law_house_here","_law_units","_law_knot","_law_kids","_law_members","_law_wants_here","_law_bare","_law_edges_here","_law_row"] [5] "_law_kid" ["_law_members"] (be K (bq (eX K) (pv 9) (bi ac) (bi (dN de ac)))) (cm (ak (fH K L.units) (pv 0) (pv 1) (by with_unfolding_all rfl))) (pv 0)) (aQ ab) (by with_unfolding_all rfl))))) (ag (av bj)) aF)
   (ag (av (aL (aa (pv 5) (aa (ai J (L.mono (by decide)) rfl (aa (pv 0) (aa (pv 7) (aa (pv 3) (aa (pv 9) ab))))) ab)))))))))))))),?_⟩
  obtain⟨k8,c7⟩:=aV hP.2;have T:=G.T;have h5:=T.len;obtain⟨q',a0,b0,c3,d4,e0,hq,R1,R2,R3,R4⟩:=bc R;cases e0;obtain⟨l8,l5,e0,l6,i0⟩:=bo R4;cases e0;have c1:=i0.len;rw[wK] at c1;refine⟨_,rfl,.tup (.of hq) rfl (aB ⟨a0,us,ks,rfl,R1,T,λd g6 H1 s1 h6 hd ar=>?_⟩)⟩;have v1:=ap s1 hP.2;have b1:=But.of_same (p:=p) s1;have g4:d≠p:=Ne.symm (hP.2.ne h6);refine cU rfl rfl (hP.but b1 v1) (b1 _ _ e1 i7) e1 G.up (by omega) λj1 H2 l1 v2 f7=>?_;have b2:=b1.trans f7;have hu:=bW l1;generalize us.getD j1 ""=b9 at hu ⊢;obtain⟨N,t,i4⟩:=T.has hu;have d7:=T.par t i4;refine .dic (.inl ⟨g6,.inr b9,.inl (f7 _ _ g4 hd),rfl,(ar b9 hu).symm⟩) ?_;rw[d7];refine au ?_;dsimp only;have g1:=aP c7 b2 hq;have k1:Rep H2 (.ref a0) (cB ks):=by
   obtain⟨q2,a2,m8,c2,d2,e0,b8,k2,_⟩:=bc (aI c7 b2 R);cases e0;rw[g1] at b8;cases b8;exact k2
  refine⟨_,rfl,.tup (.of g1) rfl (aB (dQ k1 T λD dk hD j8=>?_))⟩;obtain⟨la,i8,j6⟩:=j8 N t;refine nw hD λH3 s3 e3=>?_;have v3:=ap s3 v2;have b3:=b2.trans (But.of_same (p:=p) s3);have b6:=s3 _ _ j6;refine⟨_,rfl,.dic (.inl ⟨dk,.inr N.1,.inl e3,rfl,i8.symm⟩) ?_⟩;refine au ?_;dsimp only;have kl:N.2.length<=60:=wV (cO (cq T t) λu hu=>T.isIn t hu) h5;have d0:∀s∈N.2,Nm s:=λs hs=>T.nm s (T.isIn t hs);obtain⟨l0,i6⟩:=aV v3;refine⟨_,rfl,la,rfl,⟨_,.of b6⟩,?_⟩
  let f1:Addr->Nat->LV->SH:=λD i a7 a6 H'=>∃o ms,a6=[o,some (.ref p)]/\a7=List.map V.str ms/\(∀m∈ms,m∈N.2)/\ms.length<=i/\PenV H' p a/\But p H3 H'/\H3 D=none
  refine dC (List.map V.str N.2) f1 λD hD=>⟨?_,?_,?_,?_⟩
  ·exact⟨none,[],rfl,rfl,(λm hm=>by cases hm),wM _,ap (Same.new hD) v3,But.of_same (Same.new hD),hD⟩
  ·rintro i a7 a6 H' _ ⟨o,ms,rfl,_,_,_,_,b,_⟩ _;exact .of (aP i6 b b6)
  ·rintro i a7 a6 H' x hx ⟨o,ms,rfl,rfl,e5,ml,v,b,U⟩ X;obtain⟨y,hy,rfl⟩:=bI hx;have l3:=(wO.mp hy).1;have nD:D≠p:=Ne.symm (v3.ne U);refine au ?_;refine⟨_,rfl,p,a,2,rfl,hP.but (b3.trans b) v,by decide,by decide,λr H4 l7 m7 v4 e4=>.sc rfl ⟨_,rfl,?_⟩⟩;have b4:=b.trans (But.of_eq e4);have a4:=(e4 _ nD).trans X;refine aD (λ_=>?_) (λ_=>?_)
   ·refine⟨_,rfl,a4,by rw[wK];exact aH (by omega),_,ms++[y],rfl,by rw[wZ];rfl,λm hm=>?_,by rw[w6];exact x3 ml,iE nD v4,gM U b4,U⟩;rcases w8.mp hm with h | h
    ·exact e5 m h
    ·rw[xa.mp h];exact wP hy
   ·exact⟨a4,_,ms,rfl,rfl,e5,by omega,v4,b4,U⟩
  rintro a7 a6 H4 ⟨o,mn,rfl,rfl,Z,ml,v4,k0,U⟩ X;rw[wK] at ml;have b4:=b3.trans k0;have c6:D≠p:=Ne.symm (v3.ne U);refine au ?_;dsimp only;have b7:=X;have v5:=v4;have b5:=b4;obtain⟨q5,a5,j0,c5,d5,d1,f6,h1,h4,g9,k3⟩:=bc (aI c7 b5 R);cases d1;obtain⟨m4,l9,d1,f3,f9⟩:=bo k3;cases d1;refine⟨_,rfl,.tup (.of f6) rfl ⟨d5,rfl,⟨_,.of f3⟩,?_⟩⟩;refine jM f3 f9 (by have:=G.wl;omega) b7 rfl λDW e8 H6 s6 k4 g7 i3=>?_;refine aB ⟨DW,e8,rfl,.of g7,λw0 h7=>?_⟩;refine nw h7 λH7 s7 e7=>?_;have g0:=s6.trans s7;refine au ?_;dsimp only;refine⟨_,rfl,_,rfl,q,_,rfl,g0 _ _ f6,λp1 H8 s8 h8=>?_⟩;have h8:H8 p1=some (.tup [.ref a5,.ref j0,.ref c5]):=h8;refine⟨_,rfl,szl 1,λx0 g2=>?_⟩;refine nw g2 λH9 s9 e9=>⟨p1,x0,_,_,rfl,rfl,s9 _ _ h8,e9,szl 4,λa3 HA sA hA=>?_⟩
  refine au ?_;dsimp only;have O:=((g0.trans s8).trans s9).trans sA;have RA:Rep HA (.ref a3) (aZ ks ts ws (bd wn mn)):=.tup hA (.cons (h1.same O) (.cons (h4.same O) (.cons (g9.same O) (.cons (.tup (((s8.trans s9).trans sA) _ _ e7) (i3.same (((s7.trans s8).trans s9).trans sA))) .nil))));obtain⟨d6,f0,f8⟩:=G.out mn;have k7:=O;have vA:=ap O v5;have bA:=b5.trans (But.of_same (p:=p) O);refine⟨_,rfl,_,rfl,a3,us,ks,ts,ws,bd wn mn,N.1,N.2,rfl,RA,T,G.tok,d6,t,G.tl,f8,λle c4 HB sB d8 i9 f2 el h2=>?_⟩;refine au ?_;dsimp only;have W:=ee (wn:=bd wn mn) T G.tok t;have c9:=dW T G.tok d6 t;have f5:=λe he=>dY (ks:=ks) (ts:=ts) (wn:=bd wn mn) t (e:=e) he;generalize cL ks ts (bd wn mn) N.1 N.2=es at f2 el h2 W c9 f5;have h9:=O.trans sB;have vB:=ap sB vA;have bB:=bA.trans (But.of_same (p:=p) sB);have S:=h9 _ _ b7;have i5:le≠p:=Ne.symm (vA.ne d8);have j5:(List.map V.str mn).length=mn.length:=wK ..;refine⟨_,rfl,_,_,rfl,Or.inl ⟨_,.of S,rfl⟩,.int ⟨_,rfl,?_⟩⟩;rw[j5];refine aD (λ_=>?_) (λh=>aX ?_)
  ·exact k .non HB (.inl rfl) vB bB
  have m3:3<=mn.length:=by
   have h:¬ ((mn.length:Nat):Int)<3:=λz=>h (wQ z);omega
  dsimp only;obtain⟨m0,m1,m2,mr,j7⟩:∃a b c r,mn=a::b::c::r:=by
   match mn,m3 with
   | a::b::c::r,_=>exact⟨a,b,c,r,rfl⟩
  have h0:mn[0]? = some m0:=by rw[j7];rfl
  obtain⟨m5,a8⟩:∃ys z,mn=ys++[z]:=by
   have ne:mn≠[]:=λz=>by rw[z] at m3;exact absurd m3 (by decide)
   exact⟨mn.dropLast,mn.getLast ne,(List.dropLast_concat_getLast ne).symm⟩
  obtain⟨z,a8⟩:=a8;have hz:z∈mn:=by rw[a8];exact xG _ (.head _)
  refine⟨_,rfl,_,rfl,_,rfl,.lst (.of S) (bf (j:=0) (by rw[wW,h0];rfl)) ⟨_,rfl,_,rfl,_,rfl,.lst (.of S) λgl d9=>?_⟩⟩;rw[show cX (List.map V.str mn) (some (-1)) none=List.map V.str [z] from by rw[a8,wZ];exact qP _ _];refine nw d9 λHC sC eC=>?_;have vC:=ap sC vB;have bC:=bB.trans (But.of_same (p:=p) sC);have i2:gl≠p:=Ne.symm (vB.ne d9);refine aB ⟨p,a,le,gl,m0,c4,es,N.2,[z],MG.ix N.2,rfl,hP.but bC vC,sC _ _ i9,f2.same sC,W,Z _ (wP h0),d0,kl,el,i5,i2,eC,λg hg=>by rw[xa.mp hg];exact Z _ hz,by show 1<=60;decide,λe he=>⟨c9 e he,xw (MG.ix_lt (W e he).2) kl⟩,λ_ HD vD Y=>?_,λl c8 HD wd a9 m6 nl f4 vD Y=>?_⟩
  ·refine au ?_;dsimp only;refine⟨_,rfl,.non ⟨_,rfl,?_⟩⟩;rw[if_neg (show ¬ false=true by decide),wQ rfl];show (if true=true then _ else _);rw[if_pos rfl];exact k .non HD (.inl rfl) vD (bC.trans Y)
  refine au ?_;dsimp only;have bD:=bC.trans Y;have c0:=Y _ _ c6 (sC _ _ S);refine⟨_,rfl,.non ⟨_,rfl,?_⟩⟩;rw[if_neg (show ¬ false=true by decide),xi (show ¬ V.ref l=V.non from by intro z;cases z)];show (if false=true then _ else _);rw[if_neg (by decide)];refine⟨_,rfl,_,rfl,_,rfl,_,rfl,.lst (.of f4) λl2 j9=>?_⟩;rw[oC,<- xN,<- List.map_dropLast];refine nw j9 λHE sE eE=>?_;have d3:=fY (f:=MG.ix N.2) λe he=>c9 e (wd.chain e he);have rl:c8.length<=60:=wV (cO (gr d3) a9) kl;refine⟨_,rfl,⟨_,.of eE⟩,?_⟩;refine hX (λx=>decide (x∈mn)) eE rfl (by rw[List.length_dropLast,xu];omega) (λx hx H' Q' sm q'=>?_) λD5 HF sF k5 j4=>?_
  ·refine⟨_,rfl,_,rfl,.seq (.inl (.of ((sE.trans sm) _ _ c0))) rfl (bp _) ⟨_,rfl,?_⟩⟩;rw[if_neg (show ¬ false=true by decide),dZ];exact q' H' (Same.refl H')
  refine⟨szl 0,λe6 g3=>?_⟩;refine nw g3 λHG sG eG=>⟨D5,e6,_,rfl,rfl,.of (sG _ _ j4),eG,_,rfl,?_⟩
  have a1:=(sE.trans sF).trans sG;have vG:=ap a1 vD;have bG:=bD.trans (But.of_same (p:=p) a1);rw[if_neg (show ¬ false=true by decide)];refine aD (λ_=>?_) (λh=>aX ?_)
  ·exact k .non HG (.inl rfl) vG bG
  obtain⟨x,hx,j3⟩:∃x∈(c8.drop 1).dropLast,x∈mn:=by
   refine Classical.byContradiction λno=>h ?_;rw[List.filter_eq_nil_iff.mpr λx hx y=>no ⟨x,hx,xf y⟩];rfl
  have h3:But p HA HG:=(((But.of_same (p:=p) sB).trans (But.of_same (p:=p) sC)).trans Y).trans (But.of_same (p:=p) a1);obtain⟨k9,j2⟩:=aV vA;refine⟨_,rfl,_,rfl,_,rfl,_,rfl,_,rfl,aB ⟨p,a,a3,l,us,ks,ts,ws,bd wn mn,N.1,c8,rfl,hP.but bG vG,aI j2 h3 RA,T,G.tok,f0,G.tl,f8,(T.sub N t).imp id (T.nm _),.inl (a1 _ _ f4),nl,λu hu=>d0 u (a9 u hu),by omega,λe he=>f5 e (wd.chain e he),λlx ss HH k6 i1 hg al vH e2=>aB ⟨szl 2,λtz g8=>?_⟩⟩⟩;refine nw g8 λHI sI eI=>?_;have sl:=cQ al;refine k (.ref tz) HI (.inr ⟨tz,.ref D,lx,_,_,ss,rfl,eI,.group (mn:=mn) (b:=true) (λz=>by rw[z] at m3;exact absurd m3 (by decide)) (λm hm=>T.isIn t (Z m hm)) (by omega) c6 (sI _ _ (e2 _ _ c6 (a1 _ _ c0))),hg.same sI,i1,fh T G.tok (λx hx=>d0 x (a9 x hx)) al,by omega,uv T t a9 d3 al hx j3⟩) (ap sI vH) ((bG.trans e2).trans (But.of_same (p:=p) sI))
def lN (t1 t2:TE):TE:=λσ H Q=>t1 σ H Q∨t2 σ H Q
theorem pe_or {X:Cx}{e:Expr}{t1 t2:TE}(c:PE X e t1) (d:PE X e t2):PE X e (lN t1 t2):=λa s b H Q I h=>h.elim (c a s b H Q I) (d a s b H Q I)
theorem io {z:Str}(h:z=""∨Nm z):Sw (.str z) 82 0:=by
 rcases h with rfl | h
 ·exact⟨by decide +kernel,rfl,wM 0,by decide +kernel⟩
 ·exact Sw.nm h
theorem je {ps:List (Str × Str)}{m:Nat}(h:∀e∈ps,Sw (.str e.1) 82 0/\Sw (.str e.2) 82 0) (f:ps.length<=m):Sw (cZ ps) (3+m * 175) 2:=by
 have g:∀d∈ps.map aK,Sw d 173 1:=λd a=>by
  obtain⟨e,b,rfl⟩:=wX.mp a;refine(Sw.tuple (n:=82) (k:=0) λd a=>?_).mono (by show 3+2 * (82+2)<=173;decide) (wM _);rcases wY.mp a with rfl | a
  ·exact(h e b).1
  ·rw[xa.mp a];exact(h e b).2
 have c:=Sw.tuple g;rw[wK] at c;exact c.mono (by have:=Nat.mul_le_mul_right 175 f;omega) (wM _)
theorem rV {us:LS}{ks:Kn}(T:Tre us ks) {ts q wn:List (Str × Str)}(g:cV us ks ts) (o:gF us q) (f:fm us wn) (s:ts.length <= 200) (C:q.length <= 60) (E:wn.length <= 122):Sw (aZ ks ts q wn) 2500000 4 := by
 have b:∀ {z:Str},z∈us->Sw (.str z) 82 0:=λh=>io (.inr (T.nm _ h));have y:Sw (cB ks) 620000 3 := by
  have t:∀d ∈ ks.map fb, Sw d 10107 2 := λd a => by
   obtain⟨k,l,rfl⟩:=wX.mp a;have i:∀u∈k.2,u∈us:=λu j=>T.isIn l j;have D:=cO (cq T l) i;have:=T.len;refine(Sw.tuple (n:=5050) (k:=1) λd a=>?_).mono (by show 3+2 * (5050+2)<=10107;decide) (wM _);rcases wY.mp a with rfl | a
   ·refine(io ?_).mono (by decide) (by decide);rcases T.sub k l with w | w
    ·exact .inl w
    ·exact .inr (T.nm _ w)
   ·rw[xa.mp a];have A:∀d∈k.2.map PyData.str,Sw d 82 0:=λd a=>by
     obtain⟨u,j,rfl⟩:=wX.mp a;exact b (i u j)
    have:=Sw.tuple A;rw[wK] at this;exact this.mono (by omega) (wM _)
  have:=Sw.tuple t;have v:=T.few;rw[wK] at this;exact this.mono (by omega) (wM _)
 have p:∀ {z:Str},(z="first"∨z="last")->Sw (.str z) 82 0:=λh=>by
  rcases h with rfl | rfl
  ·exact⟨by decide +kernel,rfl,wM 0,by decide +kernel⟩
  ·exact⟨by decide +kernel,rfl,wM 0,by decide +kernel⟩
 have r:=je (ps:=ts) (m:=200) (λe c=>⟨b (g e c).1,b (g e c).2.1⟩) s;have x:=je (ps:=q) (m:=200) (λe c=>⟨b (o e c).1,b (o e c).2⟩) (by omega);have B:=je (ps:=wn) (m:=200) (λe c=>⟨p (f e c).1,b (f e c).2⟩) (by omega);refine(Sw.tuple (n:=620000) (k:=3) λd a=>?_).mono (by show 3+4 * (620000+2)<=2500000;decide) (wM _);rcases wY.mp a with rfl | a
 ·exact y
 ·rcases wY.mp a with rfl | a
  ·exact r.mono (by decide) (by decide)
  ·rcases wY.mp a with rfl | a
   ·exact x.mono (by decide) (by decide)
   ·rw[xa.mp a];exact B.mono (by decide) (by decide)
theorem wj {t:T3}(h:K3 t):Sw (t3D t) 255 1:=by
 refine(Sw.tuple (n:=82) (k:=0) λd a=>?_).mono (by show 3+3 * (82+2)<=255;decide) (wM _);rcases wY.mp a with rfl | a
 ·exact io (.inr h.1)
 ·rcases wY.mp a with rfl | a
  ·exact io (.inr h.2.1)
  ·rw[xa.mp a];exact io (.inr h.2.2)
theorem qT (xs:LV):cX xs none (some ((1:Nat):Int))=xs.take 1:=by
 unfold cX;rw[HT.sIx_none,HT.sIx_nat,List.drop_zero,Nat.sub_zero];cases xs with
 | nil=>rfl
 | cons x r=>rw[show min 1 (x::r).length=1 from by rw[xc];omega]
theorem oe {x:V}:¬ (if true=true then !decide (x=x) else decide (x=x))=true:=by simp
theorem iP {H:Hp}:∀xs:LS,RepAll H (List.map V.str xs) (xs.map PyData.str)
 | []=>.nil
 | x::xs=>.cons (.str x) (iP xs)
theorem mO {us:LS}{ks:Kn}{ts wn:Prs}{p:Addr}{H:Hp}{n:Nat}{v:V}{d:PyData}{R:List T3->Prop}(h:Ask us ks ts wn p H n v d R):Rep H v d:=by
 cases h with
 | tie _ _ h=>exact bx h
 | want _ _ h=>exact bx h
 | @group a mn b _ _ _ _ h =>
  cases b
  ·exact .tup h (iP mn)
  ·exact .lst h (iP mn)
theorem uD {us:LS}{ks:Kn}(T:Tre us ks) {ts wn:Prs}{p:Addr}{H:Hp}{n:Nat}{v:V}{d:PyData}{R:List T3->Prop}(h:Ask us ks ts wn p H n v d R):Sw d 6000 1:=by
 cases h with
 | tie h1 h2 _=>exact(Sw.pair (T.nm _ h1) (T.nm _ h2)).mono (by decide) (wM _)
 | want h1 h2 _=>exact(Sw.pair (gK h1) (T.nm _ h2)).mono (by decide) (wM _)
 | @group a mn b _ h hl _ _=>exact(Sw.seq b (λd e=>by
  obtain⟨m,c,rfl⟩:=wX.mp e;exact Sw.nm (T.nm _ (h m c))) (by rw[wK];exact hl):Sw _ (3+60 * (82+2)) 1).mono (by decide) (wM _)
theorem RepAll.rev {H:Hp}{xs:LV}{ds:List PyData}(h:RepAll H xs ds):RepAll H xs.reverse ds.reverse:=by
 induction xs generalizing ds with
 | nil=>cases h;exact .nil
 | cons x xs ih =>
  cases h with
  | cons a b=>rw[yt,yt];exact RepAll.append (ih b) (.cons a .nil)
theorem ri {ks:Kn}{ts z wn:Prs}(S:Sw (aZ ks ts z wn) 2500000 4) {d:PyData}(h:Sw d 6000 1) {q:List T3}(e:∀s∈q,K3 s) (f:q.length<=90):Shw (.tuple [aZ ks ts z wn,d,.list (q.map t3D)]):=by
 have b:Sw (.list (q.map t3D)) (2+(q.map t3D).length * (255+2)) 2:=Sw.list λd a=>by
  obtain⟨s,c,rfl⟩:=wX.mp a;exact wj (e s c)
 rw[wK] at b;refine(Sw.tuple (n:=2500000) (k:=4) λd a=>?_).shw (by decide) (wV (show 3+3 * (2500000+2)<=8000000 by decide) (by decide));rcases wY.mp a with rfl | a
 ·exact S
 ·rcases wY.mp a with rfl | a
  ·exact h.mono (by decide) (by decide)
  ·rw[xa.mp a];exact b.mono (by omega) (by decide)
theorem mv {A B C:TE}{σ:St}{H:Hp}{q:VK}{Fp:V->Hp->Prop}(h:∀Q:VK,(∀v H',Fp v H'->Q v H')->lN A (lN B C) σ H Q) (k:∀v H',Fp v H'->q v H'):lN A (lN B C) σ H q:=h _ k
theorem fV {K:W.Frag}{σ:St}{H:Hp}{Q:VK}{f I O J p a q z:Addr}{n s:Nat}{U:(List T3->Prop)->List T3->Prop}{us:LS}{ks:Kn}{ts B wn:Prs}(r:σ[1]? = some (some (.ref p))) (w:σ[3]? = some (some (.ref z))) (j:σ[4]? = some (some (.ref q))) (u:σ[6]? = some (some (.int (s:Int)))) (o:[V.ref I,V.ref O,V.ref J][s]? = some (.ref f))
    (g:Pen K H p a) (R:Rep H (.ref q) (aZ ks ts B wn)) (G:GdH us ks ts B wn) (e:H z=some (.lst (List.map V.str us))) (d:z≠p) (k:∀v H',Fd us ks ts wn p n U H' v->PenV H' p a->But p H H'->Q v H') :
    oN f (dP K n U) E0 (tOp (λx y H Q=>IxX K H x y Q) (qK (bJ (tC (.ref I)) (bJ (tC (.ref O)) (bJ (tC (.ref J)) fg)))) (dD 6)) (bJ (dD 1) (bJ (dD 4) (bJ (dD 3) fg))) σ H Q:=by
 refine⟨szl 3,λl t=>?_⟩;refine nw t λA c m=>⟨_,u,.lst (.of m) (bf o) ⟨rfl,_,r,_,j,_,w,aB ⟨p,a,q,z,us,ks,ts,B,wn,rfl,g.but (But.of_same c) (ap c g.2),R.same c,G,c _ _ e,d,λv H' i h b=>k v H' i h ((But.of_same c).trans b)⟩⟩⟩
def lq (K:W.Frag):Sp:=λvs H Q _=>∃(a:Addr) (ns:List Int),vs=[.ref a]/\SqL K H a (ns.map V.int)/\∀H',Q (.bl true) H'
theorem scLaw:FnScope ["_law_script","_law_pen_here","_law_many","_law_units","_law_house_here","_law_turn","_law_sort","_law_found","_law_asked","_law_ring","_law_told","_law_looks","_law_some"] ["_law_script"] (am iU):=⟨rfl,rfl,rfl,by decide +kernel,rfl,by decide +kernel,by decide +kernel⟩
theorem vr {f:Addr}{fd:FuncData}(F:Fun K "law" "law" iU f fd) (B:Blt mg) (a6:Cal P w K mg base 1 "_law_pen" ["_law_script"] (sy K)) (e:Cal P w K mg base 1 "_law_draw" ["_law_pen_here", "_law_most"] (ci K)) (a2:Cal P w K mg base 2 "_law_names" ["_law_pen_here", "_law_many"] (ny K))
    (S:Cal P w K mg base 5 "_law_house" ["_law_pen_here","_law_units","_law_deep"] (nB K)) (a8:Cal P w K mg base 5 "_law_tie" ["_law_pen_here","_law_house_here","_law_units"] (dP K 0 gD)) (a4:Cal P w K mg base 5 "_law_want" ["_law_pen_here","_law_house_here","_law_units"] (dP K 1 gD)) (Y:Cal P w K mg base 5 "_law_group" ["_law_pen_here","_law_house_here","_law_units"] (dP K 2 gD))
    (U:Cal P w K mg base 5 "_law_loose" ["_law_pen_here","_law_house_here","_law_units"] (dP K 0 NoR)) (b1:Cal P w K mg base 5 "_law_own" ["_law_pen_here","_law_house_here","_law_units"] (dP K 2 NoR)) (a3:Cal P w K mg base 5 "_law_long" ["_law_pen_here","_law_house_here","_law_units"] (dP K 2 NoR)) (l:Cal P w K mg base 6 "_law_look" ["_law_house_here","_law_sort","_law_asked","_law_ring"] lE):FnOk P w K mg base CX0 7 f fd ["_law_script"] (lq K):=by
 obtain⟨c0,k7,f9,b0,g4,f5⟩:=a8;obtain⟨Z,i6,e6,a1,d5,e0⟩:=a4;obtain⟨I,i4,d2,O,c3,d3⟩:=Y;obtain⟨N,h5,d4,L,c7,c4⟩:=U;obtain⟨a5,l1,g5,a7,g7,g0⟩:=b1;obtain⟨X,i5,d6,a0,d9,e4⟩:=a3;refine F.ok scLaw (λvs H Q E h=>?_) (λm9 A i8 s H vs Q E g h=>?_)
 ·obtain⟨a,ns,rfl,_⟩:=h
  rfl
 ·obtain⟨a, ns, rfl, hS, k⟩ := h;have nd:=scLaw.nd;refine⟨_,(ae (ao (i:=1) nd rfl (Or.inl rfl) (ai a6 (g.mono (by decide)) rfl (aa (pv 0) ab)))
   (ae (ao (i:=2) nd rfl (Or.inl rfl) (af (ah K g.units) (aQ (aa (aG aT ac (ai e (g.mono (by decide)) rfl (aa (pv 1) (aa ac ab)))) (aa (aG aT ac (ai e (g.mono (by decide)) rfl (aa (pv 1) (aa ac ab)))) ab))) (oy B (aa (eR (aY g.units) (ai e (g.mono (by decide)) rfl (aa (pv 1) (aa ac ab))) ac (aw _)) ab)) (λ_ _=>rfl)))
   (ae (ao (i:=3) nd rfl (Or.inl rfl) (ai a2 (g.mono (by decide)) rfl (aa (pv 1) (aa (pv 2) ab))))
   (ae (ao (i:=4) nd rfl (Or.inr rfl) (ai S (g.mono (by decide)) rfl (aa (pv 1) (aa (pv 3) (aa (ai e (g.mono (by decide)) rfl (aa (pv 1) (aa ac ab))) ab)))))
   (ae (bL PassesOwn.never rfl (dq rfl B.range (aa (aG aT ac (ai e (g.mono (by decide)) rfl (aa (pv 1) (aa ac ab)))) ab)) (aA (i:=5) nd rfl (Or.inl rfl)) (ae (ao (i:=6) nd rfl (Or.inr rfl) (ai e (g.mono (by decide)) rfl (aa (pv 1) (aa ac ab))))
   (ae (ao (i:=7) nd rfl (Or.inl rfl) (pe_or (fy f9 (g.mono (by decide)) g4 f5 hH (af (ah K g.units) (aQ (aa (bU (v:=.ref c0) rfl b0 rfl) (aa (bU (v:=.ref Z) rfl a1 rfl) (aa (bU (v:=.ref I) rfl O rfl) ab)))) (pv 6) (λ_ _=>rfl)) (aa (pv 1) (aa (pv 4) (aa (pv 3) ab)))) (pe_or (fy e6 (g.mono (by decide)) d5 e0 hH (af (ah K g.units) (aQ (aa (bU (v:=.ref c0) rfl b0 rfl) (aa (bU (v:=.ref Z) rfl a1 rfl) (aa (bU (v:=.ref I) rfl O rfl) ab)))) (pv 6) (λ_ _=>rfl)) (aa (pv 1) (aa (pv 4) (aa (pv 3) ab)))) (fy d2 (g.mono (by decide)) c3 d3 hH (af (ah K g.units) (aQ (aa (bU (v:=.ref c0) rfl b0 rfl) (aa (bU (v:=.ref Z) rfl a1 rfl) (aa (bU (v:=.ref I) rfl O rfl) ab)))) (pv 6) (λ_ _=>rfl)) (aa (pv 1) (aa (pv 4) (aa (pv 3) ab)))))))
   (ae (aU (ak gu (pv 7) bj (aw _)) (ae (df (pv 7) (bN (n:=2) K rfl (aO (aA (i:=8) nd rfl (Or.inr rfl)) (aO (aA (i:=9) nd rfl (Or.inl rfl)) bS))))
   (ae (ao (i:=10) nd rfl (Or.inl rfl) (jp g.gd g.units B (aa (aL (aa (pv 4) (aa (pv 8) (aa (pv 9) ab)))) ab)))
   (ae (dA (i:=11) nd rfl rfl (by rfl) (am iU) ["_law_script","_law_pen_here","_law_many","_law_units","_law_house_here","_law_turn","_law_sort","_law_found","_law_asked","_law_ring","_law_told","_law_looks","_law_some"] ["_law_some"] [4,6,8] ["_law_some","_law_house_here","_law_sort","_law_asked"] rfl (be K (aQ (aa (pv 9) (aa (pv 9) ab)))) (λ_ _ _ _ _=>(aA (i:=0) (show (["_law_some","_law_house_here","_law_sort","_law_asked"]:LS).Nodup by decide) rfl (Or.inl rfl))) (λ_ _ _ _ _=>bT) (λ_ _ _ _ _=>(ai l (g.mono (by decide)) rfl (aa (pv 1) (aa (pv 2) (aa (pv 3) (aa (pv 0) ab)))))))
   (ae (bL PassesOwn.never rfl (be K (aQ (aa (uR K (pv 9) (bi (dN de ac))) (aa (bq (eX K) (pv 9) (bi ac) ce) (aa (aG aT (bq (eX K) (pv 9) ce (bi ac)) (pv 9)) ab))))) (aA (i:=12) nd rfl (Or.inl rfl)) (ag (bX (cT K (pv 11) (aa (ai l (g.mono (by decide)) rfl (aa (pv 4) (aa (pv 6) (aa (pv 8) (aa (pv 12) ab))))) ab)))))
   (ag (aU (PW.pt (cM (ak (cI g.units) (jp g.gd g.units B (aa (pv 11) ab)) aR (aw _)) (cA (ak (cI g.units) (jp g.gd g.units B (aa (aL (aa (pv 4) (aa (pv 8) (aa (pv 9) ab)))) ab)) (pv 10) (aw _))))) (ag (av dU)) aF)))))) aF)
   (ae (ao (i:=6) nd rfl (Or.inr rfl) (ai e (g.mono (by decide)) rfl (aa (pv 1) (aa ac ab))))
   (ae (ao (i:=7) nd rfl (Or.inl rfl) (pe_or (fy d4 (g.mono (by decide)) c7 c4 hH (af (ah K g.units) (aQ (aa (bU (v:=.ref N) rfl L rfl) (aa (bU (v:=.ref a5) rfl a7 rfl) (aa (bU (v:=.ref X) rfl a0 rfl) ab)))) (pv 6) (λ_ _=>rfl)) (aa (pv 1) (aa (pv 4) (aa (pv 3) ab)))) (pe_or (fy g5 (g.mono (by decide)) g7 g0 hH (af (ah K g.units) (aQ (aa (bU (v:=.ref N) rfl L rfl) (aa (bU (v:=.ref a5) rfl a7 rfl) (aa (bU (v:=.ref X) rfl a0 rfl) ab)))) (pv 6) (λ_ _=>rfl)) (aa (pv 1) (aa (pv 4) (aa (pv 3) ab)))) (fy d6 (g.mono (by decide)) d9 e4 hH (af (ah K g.units) (aQ (aa (bU (v:=.ref N) rfl L rfl) (aa (bU (v:=.ref a5) rfl a7 rfl) (aa (bU (v:=.ref X) rfl a0 rfl) ab)))) (pv 6) (λ_ _=>rfl)) (aa (pv 1) (aa (pv 4) (aa (pv 3) ab)))))))
   (ag (aU (PW.pt (cj (ak gu (pv 7) bj (aw _)) (bO (ak (cI g.units) (jp g.gd g.units B (aa (ai l (g.mono (by decide)) rfl (aa (pv 4) (aa (jK rfl B (aa ac (aa (aG fG ac (pv 6)) ab))) (aa (af (ah K g.units) (pv 7) ac (λ_ _=>rfl)) (aa (af (ah K g.units) (pv 7) ac (λ_ _=>rfl)) ab))))) ab)) aR (aw _))))) (ag (av dU)) aF))))))))
   (ag (av dU))))))),?_⟩
  refine⟨_,rfl,a,ns,rfl,hS,λp H1 hP=>?_⟩;have v1:=hP.2;refine⟨_,rfl,p,a,14,rfl,hP,by decide,by decide,λr2 H2 n6 m1 v2 e2=>.int ?_⟩;have b2:=But.of_eq e2;refine⟨_,rfl,p,a,30,rfl,hP.but b2 v2,by decide,by decide,λr3 H3 m5 m2 v3 e3=>.int ?_⟩;have b3:=b2.trans (But.of_eq e3);refine aB ⟨szl 2,λld e1=>?_⟩;have i7:ld≠p:=Ne.symm (v3.ne e1);refine nw e1 λH4 s4 ed=>?_;have v4:=ap s4 v3;have b4:=b3.trans (But.of_same (p:=p) s4);refine⟨_,rfl,p,a,8,rfl,hP.but b4 v4,by decide,by decide,λr5 H5 n7 n2 v5 e5=>.sc rfl (aB ⟨_,rfl,.bl ?_⟩)⟩;have b5:=b4.trans (But.of_eq e5);obtain⟨m,hm,n1,h3⟩:∃m:Nat,atI [V.int (1+r2),V.int (1+r3)] (if (if false=true then !decide (V.int r5=V.int 0) else decide (V.int r5=V.int 0))=true then 1 else 0)=some (.int (m:Int))/\1<=m/\m<=60:=by
   generalize (if false=true then !decide (V.int r5=V.int 0) else decide (V.int r5=V.int 0))=bb;cases bb
   ·obtain⟨m,hm⟩:=xj (show 0<=1+r2 by omega);exact⟨m,by rw[<- hm];rfl,by omega,by omega⟩
   ·obtain⟨m,hm⟩:=xj (show 0<=1+r3 by omega);exact⟨m,by rw[<- hm];rfl,by omega,by omega⟩
  refine .lst (.of ((e5 ld i7).trans ed)) hm ?_;refine⟨_,rfl,_,rfl,p,a,m,rfl,hP.but b5 v5,h3,λun us H6 m0 k0 j8 j3 _ M v6 k8=>?_⟩;have b6:=b5.trans k8;refine⟨_,rfl,_,rfl,_,rfl,p,a,5,rfl,hP.but b6 v6,by decide,by decide,λr7 H7 k2 n9 v7 e7=>?_⟩;have i0:=But.of_eq e7;have b7:=b6.trans i0;have f1:=i0 un _ M j3;refine aB ⟨p,a,un,us,r7,rfl,hP.but b7 v7,f1,M,k0,j8,by omega,k2,λq ks ts ws wn H8 R T n8 n5 h9 m6 wi n0 j0 wx m4 tl wl nl v8 h0=>?_⟩;have b8:=b7.trans h0;have SW:=rV T h9 wi (WnX.ok T wx) (by omega) (by omega) nl;have G:GdH us ks ts ws wn:=⟨T,h9,wi,j0,wx,by omega,by omega,nl,by omega⟩
  have f3:=h0 _ _ M f1;obtain⟨m3,d8⟩:=aV v8;have W:=hP.but b8 v8;refine au ?_;dsimp only;refine⟨_,rfl,p,a,10,rfl,W,by decide,by decide,λrA HA m8 n4 vA eA=>.int (aB ⟨_,rfl,by omega,by omega,?_⟩)⟩
  let h7:Nat->SH:=λi σ o=>∃(o5 o6 o7 o8 o9 b9 c2 D:Option V),σ=[some (.ref a),some (.ref p),some (.int (m:Int)),some (.ref un),some (.ref q),o5,o6,o7,o8,o9,b9,c2,D]/\PenV o p a/\But p H8 o
  refine gZ (R:=Q) h7 ?_ ?_ ?_
  ·exact⟨none,none,none,none,none,none,none,none,rfl,vA,But.of_eq eA⟩
  ·rintro _ i σ HC hi ⟨o5, o6, o7, o8, o9, b9, c2, D, rfl, vC, bC⟩;dsimp only[cg];refine⟨_,rfl,p,a,3,rfl,W.but bC vC,by decide,by decide,λr1 HE j7 k6 vE eE=>?_⟩;have bE:=bC.trans (But.of_eq eE);obtain⟨s,rfl⟩:=xj j7;refine au ?_;refine mv (Fp:=λv o=>Fd us ks ts wn p s gD o v/\PenV o p a/\But p HE o) (λQ' a9=>?_) (λv HF ⟨fd,vF,j6⟩=>?_)
   ·have RE:=aI d8 bE R;have d0:=bE _ _ M f3
    match s,k6 with
    | 0,_=>exact .inl (fV rfl rfl rfl rfl rfl (W.but bE vE) RE G d0 M λv o x y z=>a9 v o ⟨x,y,z⟩)
    | 1,_=>exact .inr (.inl (fV rfl rfl rfl rfl rfl (W.but bE vE) RE G d0 M λv o x y z=>a9 v o ⟨x,y,z⟩))
    | 2,_=>exact .inr (.inr (fV rfl rfl rfl rfl rfl (W.but bE vE) RE G d0 M λv o x y z=>a9 v o ⟨x,y,z⟩))
    | s+3,h=>omega
   have bF:=bE.trans j6;refine au ?_;dsimp only;apply dF (J:=λσ HZ=>∃(o6 o7 o8 o9 b9 c2 D:Option V),σ=[some (.ref a),some (.ref p),some (.int (m:Int)),some (.ref un),some (.ref q),some (.int (0+(i:Nat))),o6,o7,o8,o9,b9,c2,D]/\PenV HZ p a/\But p H8 HZ)
   ·intro aM;refine⟨_,rfl,.non ⟨_,rfl,?_⟩⟩;rw[if_pos rfl];have RF:=aI d8 bF R;rcases fd with rfl | ⟨t,as,r,d,Rr,ss,rfl,ht,hA,⟨e9,g,rp⟩,nr,k3,sl,hR⟩
    ·show (if (!decide (V.non=V.non))=true then _ else _);rw[if_neg (by simp)];exact aM _ _ ⟨_,_,_,_,_,_,_,rfl,vF,bF⟩
    rw[xi (show ¬ V.ref t=V.non from by intro z;cases z)];show (if (!false)=true then _ else _);rw[if_pos (show (!false)=true from rfl)];have SB:=ri SW (uD T hA) k3 sl;have l7:∀s∈ss.reverse,K3 s:=λs hs=>k3 s (yo.mp hs);have k1:∀s∈ss.drop 1,K3 s:=λs hs=>k3 s (yx hs);have l4:∀s∈ss.take 1++ss,K3 s:=λs hs=>(w8.mp hs).elim (λq=>k3 s (List.mem_of_mem_take q)) (k3 s);obtain⟨m7,k9⟩:=aV vF;have e8:∀ {o:Hp},Same HF o->∀ {rr:Addr} {C:List T3},RgH o rr C->(∀s∈C,K3 s)->C.length<=190->∀ {Q':VK},(∀H2,Same o H2->Q' (.bl (di (Rr C))) H2)->lE [.ref q,.int (s:Int),as,.ref rr] o Q' E0:=λ{o} sm {rr C} hg g9 l0 {Q'} hq=>⟨q,rr,p,s,as,d,us,ks,ts,ws,wn,Rr,C,rfl,RF.same sm,G,hA.but k9 (But.of_same sm),hg,g9,l0,hq⟩
    have rl:=rp.len;rw[wK] at rl;refine⟨_,rfl,t,_,rfl,.of ht,rfl,_,_,rfl,_,_,rfl,rfl,?_⟩;dsimp only;refine⟨_,rfl,_,rfl,_,rfl,szl 3,λtt j1=>?_⟩;refine nw j1 λHG sG eG=>aB ⟨_,rfl,.tr (d:=.tuple [aZ ks ts ws wn,d,.list (ss.map t3D)]) (.tup eG (.cons (RF.same sG) (.cons ((mO hA).same sG) (.cons (.lst (sG _ _ g) (rp.same sG)) .nil)))) SB.sb SB.hd SB.dp SB.ln ?_⟩;refine au ?_;dsimp only;refine⟨_,rfl,_,rfl,szl 2,λl2 j5=>?_⟩;refine nw j5 λHI sI eI=>⟨l2,rfl,⟨_,.of eI⟩,?_⟩
    have f4:=sG.trans sI;refine gT (xs:=[V.ref r,V.ref r]) [V.bl true,V.bl true] rfl eI rfl (by show 2<=1000;decide) (λj x y hx hy o Q' sm q'=>?_) λlo HJ sJ i3 h2=>?_
    ·obtain⟨rfl,rfl⟩:x=.ref r/\y=.bl true:=by
        match j,hx,hy with
        | 0,hx,hy=>exact⟨(wR hx).symm,(wR hy).symm⟩
        | 1,hx,hy=>exact⟨(wR hx).symm,(wR hy).symm⟩
        | j+2,hx,_=>cases hx
     have c9:=f4.trans sm;exact⟨_,rfl,_,rfl,_,rfl,_,rfl,e8 c9 ⟨e9,c9 _ _ g,rp.same c9⟩ k3 (by omega) λH2 s2=>by rw[nM hR.1];exact q' H2 s2⟩
    refine au ?_;dsimp only;have c5:=f4.trans sJ;have f0:HF lo=none:=dn f4 i3;refine⟨_,rfl,_,rfl,_,rfl,r,e9,rfl,rfl,.of (c5 _ _ g),λlr j2=>?_⟩;refine nw j2 λHK sK eK=>⟨_,rfl,_,rfl,.lst (.of ((c5.trans sK) _ _ g)) λld e1=>?_⟩
    rw[show (1:Int)=((1:Nat):Int) from rfl,dG];refine nw e1 λHL sL eL=>⟨_,rfl,_,rfl,.lst (.of (((c5.trans sK).trans sL) _ _ g)) λlt l5=>?_⟩
    rw[qT];refine nw l5 λHM sM eM=>⟨_,rfl,?_⟩
    have f7:=(sK.trans sL).trans sM;refine .lst eM ((c5.trans f7) _ _ g) (wV (by rw[xx];omega) (szl 1000)) λlw j9=>?_;refine nw j9 λHN sN eN=>aB ⟨szl 3,λl3 i1=>?_⟩;refine nw i1 λHO sO eO=>⟨l3,rfl,⟨_,.of eO⟩,?_⟩
    have i2:=(f7.trans sN).trans sO;have g6:=c5.trans i2;have d7:=rp.same g6;have d1:=i2 _ _ h2;have g1:RgH HO lr ss.reverse:=⟨_,((((sL.trans sM).trans sN).trans sO)) _ _ eK,by rw[List.map_reverse];exact RepAll.rev d7⟩
    have g2:RgH HO ld (ss.drop 1):=⟨_,(((sM.trans sN).trans sO)) _ _ eL,by rw[xN];exact d7.drop 1⟩
    have g3:RgH HO lw (ss.take 1++ss):=⟨_,sO _ _ eN,by rw[wZ,xZ];exact RepAll.append (d7.take 1) d7⟩
    have n3:l3≠lo:=Ne.symm (aJ ((f7.trans sN) _ _ h2) i1)
    let h8:Nat->SH:=λj σ o=>∃(o8 o9 b9 D:Option V),σ=[some (.ref a),some (.ref p),some (.int (m:Int)),some (.ref un),some (.ref q),some (.int (0+(i:Nat))),some (.int (s:Int)),some (.ref t),some as,some (.ref r),some (.str (PyData.tuple [aZ ks ts ws wn,d,.list (ss.map t3D)]).shown),some (.ref lo),D]/\o lo=some (.lst ([V.bl true,V.bl true]++List.replicate j (V.bl false)))/\But lo HO o
    refine dJ (R:=Q) (xs:=[V.ref lr,V.ref ld,V.ref lw]) h8 ?_ ?_ ?_ ?_
    ·exact⟨none,none,none,D,rfl,d1,But.refl lo HO⟩
    ·rintro j σ o hj ⟨_,_,_,D,rfl,_,b⟩;exact .of (b _ _ n3 eO)
    ·rintro _ j x σ o hx ⟨_,_,_,D,rfl,f2,b⟩;obtain⟨rr,C,rfl,l6,g9,h1,no⟩:∃rr C,x=.ref rr/\RgH HO rr C/\(∀s∈C,K3 s)/\C.length<=190/\¬ Rr C:=by
      match j,hx with
      | 0,hx=>exact⟨lr,_,(wR hx).symm,g1,l7,by rw[xV];omega,hR.2.1⟩
      | 1,hx=>exact⟨ld,_,(wR hx).symm,g2,k1,by rw[xu];omega,hR.2.2.1⟩
      | 2,hx=>exact⟨lw,_,(wR hx).symm,g3,l4,by rw[w6,xx];omega,hR.2.2.2⟩
      | j+3,hx=>cases hx
     have jl:=(wO.mp hx).1;have jl:j<3:=jl;have c9:Same HF o:=λc u z=>b c u (aJ z f0) (g6 c u z);obtain⟨g8,f8,f6⟩:=l6;have l9:rr≠lo:=by
      intro z;rw[z,d1] at f8;cases f8;cases C with
      | nil=>cases f6
      | cons s0 r0=>cases f6 with | cons w _=>cases w
     refine au ?_;refine⟨_,rfl,.inl ⟨rfl,_,.of f2⟩,_,rfl,_,rfl,_,rfl,_,rfl,aB (e8 c9 ⟨g8,b _ _ l9 f8,eF d1 b f6⟩ g9 h1 λH2 s2=>aB ⟨lo,_,_,rfl,rfl,s2 _ _ f2,by rw[w6,yA];exact aH (by show 2+j<=1000;omega),?_⟩)⟩;rw[dw no];exact⟨none,none,none,_,rfl,by rw[aj,List.append_assoc,List.replicate_succ'],λc u n z=>by rw[az n];exact s2 _ _ (b c u n z)⟩
    rintro σ HP ⟨_,_,_,D,rfl,c8,i9⟩;have c1:Same HF HP:=λc u z=>i9 c u (aJ z f0) (g6 c u z);have vP:=ap c1 vF;have bP:=bF.trans (But.of_same (p:=p) c1);have c8:HP lo=some (.lst [V.bl true,V.bl true,V.bl false,V.bl false,V.bl false]):=c8;have h6:(PyData.list [.bool true,.bool true,.bool false,.bool false,.bool false]).shown="[True, True, False, False, False]":=by decide +kernel
    refine⟨_,rfl,aB ⟨_,rfl,.tr (d:=.list [.bool true,.bool true,.bool false,.bool false,.bool false]) (.lst c8 (.cons (.bl _) (.cons (.bl _) (.cons (.bl _) (.cons (.bl _) (.cons (.bl _) .nil)))))) rfl rfl (by decide) (by rw[h6];decide +kernel) (.sc rfl ⟨_,rfl,?_⟩)⟩⟩;rw[h6];refine aD (λh=>(oe h).elim) (λ_=>?_);refine⟨_,rfl,_,rfl,_,rfl,szl 3,λt3 k4=>?_⟩;refine nw k4 λHQ sQ eQ=>aB ⟨_,rfl,.tr (d:=.tuple [aZ ks ts ws wn,d,.list (ss.map t3D)]) (.tup eQ (.cons (RF.same (c1.trans sQ)) (.cons ((mO hA).same (c1.trans sQ)) (.cons (.lst ((c1.trans sQ) _ _ g) (rp.same (c1.trans sQ))) .nil)))) SB.sb SB.hd SB.dp SB.ln ⟨_,rfl,.sc rfl ⟨_,rfl,?_⟩⟩⟩;refine aD (λh=>(oe h).elim) (λ_=>?_);exact aM _ _ ⟨_,_,_,_,_,_,_,rfl,ap sQ vP,bP.trans (But.of_same (p:=p) sQ)⟩
   ·rintro σ HG ⟨o6,o7,o8,o9,b9,c2,D,rfl,vG,bG⟩;refine aX ?_;dsimp only;refine⟨_,rfl,p,a,3,rfl,W.but bG vG,by decide,by decide,λr2 HQ l8 j4 vQ eQ=>?_⟩;have bQ:=bG.trans (But.of_eq eQ);obtain⟨s,rfl⟩:=xj l8;refine au ?_;refine mv (Fp:=λv o=>Fd us ks ts wn p (min 2 (2 * s)) NoR o v/\PenV o p a/\But p HQ o) (λQ' a9=>?_) (λv HR ⟨fd,vR,k5⟩=>?_)
    ·have RQ:=aI d8 bQ R;have c6:=bQ _ _ M f3
     match s,j4 with
     | 0,_=>exact .inl (fV rfl rfl rfl rfl rfl (W.but bQ vQ) RQ G c6 M λv o x y z=>a9 v o ⟨x,y,z⟩)
     | 1,_=>exact .inr (.inl (fV rfl rfl rfl rfl rfl (W.but bQ vQ) RQ G c6 M λv o x y z=>a9 v o ⟨x,y,z⟩))
     | 2,_=>exact .inr (.inr (fV rfl rfl rfl rfl rfl (W.but bQ vQ) RQ G c6 M λv o x y z=>a9 v o ⟨x,y,z⟩))
     | s+3,h=>omega
    have bR:=bQ.trans k5;refine au ?_;dsimp only;have RR:=aI d8 bR R;refine⟨_,rfl,.non ⟨_,rfl,?_⟩⟩;rw[if_pos rfl];rcases fd with rfl | ⟨t,as,r,d,Rr,ss,rfl,ht,hA,hg,nr,k3,sl,hR⟩
    ·show (if (!decide (V.non=V.non))=true then _ else _);rw[if_neg (by simp)];show (if false=true then _ else _);rw[if_neg (by decide)];exact⟨_,_,_,_,_,_,_,_,rfl,vR,bR⟩
    rw[xi (show ¬ V.ref t=V.non from by intro z;cases z)];show (if (!false)=true then _ else _);rw[if_pos (show (!false)=true from rfl)];refine⟨_,rfl,_,rfl,2,s,rfl,rfl,.inl ⟨by decide,by decide⟩,aB ⟨2,2 * s,rfl,?_⟩⟩;rw[show (if (2 * (s:Int))<2 then (2 * (s:Int)) else 2)=((min 2 (2 * s):Nat):Int) from by split <;> omega];refine⟨_,rfl,.tup (.of ht) rfl ⟨_,rfl,.tup (.of ht) rfl (aB ⟨q,r,p,min 2 (2 * s),as,d,us,ks,ts,ws,wn,Rr,ss,rfl,RR,G,hA,hg,k3,by omega,λH2 s2=>?_⟩)⟩⟩;rw[dw hR];have h4:(PyData.bool false).shown="False":=by decide +kernel
    refine aB ⟨_,rfl,.tr (d:=.bool false) (.bl _) rfl rfl (by decide) (by rw[h4];decide +kernel) (.sc rfl ⟨_,rfl,?_⟩)⟩;rw[h4];refine aD (λh=>(oe h).elim) (λ_=>?_);exact⟨_,_,_,_,_,_,_,_,rfl,ap s2 vR,bR.trans (But.of_same (p:=p) s2)⟩
  ·rintro σ HC ⟨o5,o6,o7,o8,o9,b9,c2,D,rfl,vC,bC⟩;exact k HC
theorem ar1 {us:LW}(h:us.length=1):∃a,us=[a]:=List.length_eq_one_iff.mp h
theorem ar2 {us:LW}(h:us.length=2):∃q z,us=[q,z]:=by
 obtain⟨q,t,rfl⟩:=yF h;obtain⟨z,rfl⟩:=ar1 (Nat.succ.inj h);exact⟨q,z,rfl⟩
theorem ar3 {us:LW}(h:us.length=3):∃z B q,us=[z,B,q]:=by
 obtain⟨z,t,rfl⟩:=yF h;obtain⟨B,q,rfl⟩:=ar2 (Nat.succ.inj h);exact⟨z,B,q,rfl⟩
theorem ar4 {us:LW}(h:us.length=4):∃q G B z,us=[q,G,B,z]:=by
 obtain⟨q,t,rfl⟩:=yF h;obtain⟨G,B,z,rfl⟩:=ar3 (Nat.succ.inj h);exact⟨q,G,B,z,rfl⟩
structure FH (K:W.Frag) (mg:MS) (n:Str) (st:Stmt) (f:Addr) (fd:FuncData):Prop where
 F:Fun K n n st f fd
 g:mg n=some (.ref f)
theorem fh_mk {K:W.Frag}{h:Heap}{mg:MS}{n:Str}{st:Stmt}{f:Addr}{od I:Option Addr}{J:Array (OV)}{O kV B z q ct:Value}(X:K.In h) (G:h.Ns mainGlobals mg) (a:W.nsIn K mainGlobals n=some (some (.ref f)))
    (l:K.lookup f=some ⟨O,od,.func (W.fnOf n n (er st) (cF st) (am st) .none kV B z I q ct),J⟩) (c:W.codeIn K q n=true) (k:W.keepIn K (.ref f)=true) :
    FH K mg n st f (W.fnOf n n (er st) (cF st) (am st) .none kV B z I q ct):=⟨vo l c k,W.mg_of X G a⟩
section
variable {K:W.Frag}{mg:MS}{n:Str}{st:Stmt}{f:Addr}{fd:FuncData}{r:Nat}{sp:Sp}
theorem FH.cl (h:FH K mg n st f fd) (l:W.OpenLaw) (w:World) (a:Heap) {ps:LS}(o:FnOk l.prog w K mg a CX0 r f fd ps sp) (b:∀(kV z B:Value) (G:Option Addr) (q ct:Value) (us:LW),us.length=ps.length->bindArgs (W.fnOf n n (er st) (cF st) (am st) .none kV z B G q ct) ⟨us,[]⟩=pure (ps.zip us):=by intro _ _ _ _ _ _ us hl;first | (obtain⟨_,rfl⟩:=ar1 hl;rfl) | (obtain⟨_,_,rfl⟩:=ar2 hl;rfl) | (obtain⟨_,_,_,rfl⟩:=ar3 hl;rfl) | (obtain⟨_,_,_,_,rfl⟩:=ar4 hl;rfl)):Cal l.prog w K mg a r n ps sp:=⟨_,_,o,h.g,h.F.kp,h.F.binds b⟩
end
theorem all_mk {l:W.OpenLaw}{w:World}{K:W.Frag}{h:Heap}{mg:MS}{fa f1 f2 f3 f4 f5 f6 f7 f8 f9 k5 k7 m5 n9 j4 l1 g3 k3 n7 g4 l2 l8 k6 g5 n0 g7 m7 n6 i4 i3 k9 m9 i9 n4 j2 k0 j1 m4 l0 l9 k1 i8 i1 g8 m3 o2:Addr}{d1 d2 d3 d4 d5 d6 d7 d8 d9 g2 k2 n1 n8 n3 i6 j0 i5 i7 j9 m1 j6 g1 i2 n5 g6 h0 l3 j5 j3 l7 o1 m2 m6 l5 o0 j7 m8 n2 j8 l4 k4 g9 k8 m0 i0:FuncData}(X:K.In h) (G:h.Ns mainGlobals mg) (l6:mg "law"=some (.ref fa))
    (h1:FH K mg "places_of" ii f1 d1)
    (h2:FH K mg "are_unlike" kj f2 d2)
    (h3:FH K mg "knot_of" kb f3 d3)
    (h4:FH K mg "children" ig f4 d4)
    (h5:FH K mg "parting" iX f5 d5)
    (h6:FH K mg "homes" md f6 d6)
    (h7:FH K mg "parting_by" gY f7 d7)
    (h8:FH K mg "line_down" iq f8 d8)
    (h9:FH K mg "is_tie_ring" fQ f9 d9)
    (b8:FH K mg "is_want_ring" fB k5 g2)
    (c3:FH K mg "is_group_ring" dE k7 k2)
    (e1:FH K mg "without_wants_of" dB m5 n1)
    (a8:FH K mg "are_steps" gt n9 n8)
    (g0:FH K mg "is_step" iz j4 n3)
    (a9:FH K mg "part_of" kg l1 i6)
    (c6:FH K mg "wanting" iW g3 j0)
    (c9:FH K mg "part_of_want" gC k3 i5)
    (c0:FH K mg "is_closed" hY n7 i7)
    (e4:FH K mg "is_line" fZ g4 j9)
    (e3:FH K mg "_law_pen" rg l2 m1)
    (b5:FH K mg "_law_draw" ou l8 j6)
    (b9:FH K mg "_law_names" dh k6 g1)
    (a6:FH K mg "_law_tree" lj g5 i2)
    (b7:FH K mg "_law_around" kh n0 n5)
    (d0:FH K mg "_law_path" ow g7 g6)
    (a7:FH K mg "_law_parting" gE m7 h0)
    (c1:FH K mg "_law_edges" jB n6 l3)
    (e9:FH K mg "_law_reached" jm i4 j5)
    (f0:FH K mg "_law_wants" lP i3 j3)
    (c2:FH K mg "_law_kept" nY k9 l7)
    (c5:FH K mg "_law_waiting" jc m9 o1)
    (b3:FH K mg "_law_house" mh i9 m2)
    (a5:FH K mg "_law_steps" gG n4 m6)
    (b4:FH K mg "_law_walk" jt j2 l5)
    (e5:FH K mg "_law_along" lF k0 o0)
    (e2:FH K mg "_law_tie" jQ j1 j7)
    (a4:FH K mg "_law_want" gW m4 m8)
    (b0:FH K mg "_law_group" fI l0 n2)
    (b1:FH K mg "_law_names_turned" ge l9 j8)
    (e0:FH K mg "_law_loose" ij k1 l4)
    (e8:FH K mg "_law_within" kz i8 k4)
    (c8:FH K mg "_law_long" iB i1 g9)
    (b2:FH K mg "_law_own" oq g8 k8)
    (c7:FH K mg "_law_look" iR m3 m0)
    (c4:FH K mg "law" iU o2 i0)
    (B:Blt mg) (a3:mg "zip"=none) (e6:mg "set"=none) (e7:mg "any"=none)
    : ∃fd:FuncData,(∀(s:Shared) (v:Value),BindsTo s fd ⟨[v],[]⟩ [("_law_script",v)])/\∀base:Heap,K.In base->base.Ns mainGlobals mg->FnOk l.prog w K mg base CX0 7 fa fd ["_law_script"] (lq K):=by
 have e:=l6.symm.trans c4.g;cases e;have b6:=c4.F;obtain⟨_,_,kV,dc,pm,an,cd,ct,_,rfl,_,_⟩:=b6.ex;refine⟨W.fnOf "law" "law" (er iU) (cF iU) (am iU) .none kV dc pm an cd ct,λs v=>.of_eq rfl,λbase XB GB=>?_⟩;have V:=e3.cl l w base (vX e3.F B);have a:=b5.cl l w base (sX b5.F B);have J:=b9.cl l w base (rT b9.F B a);have b:=b7.cl l w base (qm b7.F B);have q:=d0.cl l w base (ur d0.F B);have c:=a7.cl l w base (rC a7.F B q);have a1:=h6.cl l w base (sg h6.F B);have O:=h8.cl l w base (ud h8.F B);have L:=h7.cl l w base (on h7.F B a3 O);have A:=h5.cl l w base (tu h5.F B a1 L);have R:=a6.cl l w base (tx a6.F B a);have H:=f0.cl l w base (sj f0.F B a);have i:=e9.cl l w base (qa e9.F B);have P:=c2.cl l w base (tQ c2.F B a b c);have d:=c1.cl l w base (qG c1.F B b c);have x:=c5.cl l w base (nP c5.F B a b c d i);have N:=b3.cl l w base (qQ b3.F B a R H P x);have T:=h1.cl l w base (oD h1.F B);have M:=h2.cl l w base (vW h2.F B T);have Y:=h4.cl l w base (mG h4.F B);have D:=h3.cl l w base (pR h3.F B a1);have n:=e1.cl l w base (oa e1.F B);have a2:=g0.cl l w base (oS g0.F B);have j:=a8.cl l w base (mM a8.F B a2);have o:=c6.cl l w base (op c6.F B);have k:=c9.cl l w base (qO c9.F B o D Y);have p:=a9.cl l w base (oQ a9.F B o A k);have z:=e4.cl l w base (qu e4.F B a3 e6 M);have r:=c0.cl l w base (mC c0.F B z);have y:=h9.cl l w base (oE h9.F B j A p r);have u:=b8.cl l w base (mJ b8.F B j o k p r);have t:=c3.cl l w base (mj c3.F B e7 j n p z D);have F:=a5.cl l w base (pj a5.F B b c);have g:=b4.cl l w base (tY b4.F B a i);have f:=e5.cl l w base (qE e5.F B a3 a F);have a0:=e2.cl l w base (ub e2.F B a b c d g f);have U:=a4.cl l w base (sf a4.F B a b d g f);have m:=b1.cl l w base (qU b1.F B a);have I:=b0.cl l w base (pP b0.F B a b d g m f);have C:=e8.cl l w base (oP e8.F B b q);have E:=e0.cl l w base (qr e0.F B a b c d i g C f);have Z:=b2.cl l w base (ul b2.F B a b d f);have Q:=c8.cl l w base (rW c8.F B a b d g f);have S:=c7.cl l w base (tm c7.F B y u t);exact vr b6 B V a J N a0 U I E Z Q S
theorem walk {l:W.OpenLaw}{q:Program}{B:LS}{O:(Str -> OV) -> Heap -> Prop}{G:World -> Heap -> Prop}{d:DefRec}{K:Params -> W.Frag}(g:l.most=some 63) (b:d.params.defaults=[])
    (i:∀(w:World) (h:Heap),G w h->(K w.params).In h)
    (F:∀(w:World) (mg:MS) (I:Addr) (h:Heap),(K w.params).In h->h.Ns mainGlobals mg->mg d.name=some (.ref I) ->
     ∃fd:FuncData,(∀(s:Shared) (u:Value),BindsTo s fd ⟨[u],[]⟩ [("_law_script",u)])/\∀base:Heap,(K w.params).In base->base.Ns mainGlobals mg->FnOk l.prog w (K w.params) mg base CX0 7 I fd ["_law_script"] (lq (K w.params))) :
    W.WalkO q B O G l.row.toRowW d [] (λf J=>PySem.call f J) :=
 L2.walk_of (n:=63) (k:=7) (x:="_law_script") (CX:=λ_=>CX0) (sp:=λw=>lq (K w.params)) g (by decide) b ⟨rfl,by decide,by decide,rfl⟩ i F (λ_ _ a c j _ e=>⟨a,c,rfl,e,λ_=>rfl⟩) λ_ _ _ _ _ z=>z
end
end K44
open PySem PySem.W PyProof.Rows
set_option maxRecDepth 100000 in
set_option maxHeartbeats 0 in
theorem PySem.Challenge.cw_orderkeep_k44_rings_looked_at_holds : PySem.Challenge.rw_orderkeep_k44_rings_looked_at.Holds := by
 w_on;o_law;k_head;(case hw=>w_witness2)
 k_fill
 refine K44.walk (l:=PySem.Challenge.rw_orderkeep_k44_rings_looked_at) rfl rfl (λw h Y=>W.kIn_of Y) ?F
 case F =>
  intro w mg fa h KX G hmg;refine' K44.all_mk KX G hmg (K44.fh_mk KX G ?_ ?_ ?_ ?_) (K44.fh_mk KX G ?_ ?_ ?_ ?_) (K44.fh_mk KX G ?_ ?_ ?_ ?_) (K44.fh_mk KX G ?_ ?_ ?_ ?_) (K44.fh_mk KX G ?_ ?_ ?_ ?_) (K44.fh_mk KX G ?_ ?_ ?_ ?_) (K44.fh_mk KX G ?_ ?_ ?_ ?_) (K44.fh_mk KX G ?_ ?_ ?_ ?_) (K44.fh_mk KX G ?_ ?_ ?_ ?_) (K44.fh_mk KX G ?_ ?_ ?_ ?_) (K44.fh_mk KX G ?_ ?_ ?_ ?_) (K44.fh_mk KX G ?_ ?_ ?_ ?_) (K44.fh_mk KX G ?_ ?_ ?_ ?_) (K44.fh_mk KX G ?_ ?_ ?_ ?_) (K44.fh_mk KX G ?_ ?_ ?_ ?_) (K44.fh_mk KX G ?_ ?_ ?_ ?_) (K44.fh_mk KX G ?_ ?_ ?_ ?_) (K44.fh_mk KX G ?_ ?_ ?_ ?_) (K44.fh_mk KX G ?_ ?_ ?_ ?_) (K44.fh_mk KX G ?_ ?_ ?_ ?_) (K44.fh_mk KX G ?_ ?_ ?_ ?_) (K44.fh_mk KX G ?_ ?_ ?_ ?_) (K44.fh_mk KX G ?_ ?_ ?_ ?_) (K44.fh_mk KX G ?_ ?_ ?_ ?_) (K44.fh_mk KX G ?_ ?_ ?_ ?_) (K44.fh_mk KX G ?_ ?_ ?_ ?_) (K44.fh_mk KX G ?_ ?_ ?_ ?_) (K44.fh_mk KX G ?_ ?_ ?_ ?_) (K44.fh_mk KX G ?_ ?_ ?_ ?_) (K44.fh_mk KX G ?_ ?_ ?_ ?_) (K44.fh_mk KX G ?_ ?_ ?_ ?_) (K44.fh_mk KX G ?_ ?_ ?_ ?_) (K44.fh_mk KX G ?_ ?_ ?_ ?_) (K44.fh_mk KX G ?_ ?_ ?_ ?_) (K44.fh_mk KX G ?_ ?_ ?_ ?_) (K44.fh_mk KX G ?_ ?_ ?_ ?_) (K44.fh_mk KX G ?_ ?_ ?_ ?_) (K44.fh_mk KX G ?_ ?_ ?_ ?_) (K44.fh_mk KX G ?_ ?_ ?_ ?_) (K44.fh_mk KX G ?_ ?_ ?_ ?_) (K44.fh_mk KX G ?_ ?_ ?_ ?_) (K44.fh_mk KX G ?_ ?_ ?_ ?_) (K44.fh_mk KX G ?_ ?_ ?_ ?_) (K44.fh_mk KX G ?_ ?_ ?_ ?_) (K44.fh_mk KX G ?_ ?_ ?_ ?_) ⟨W.mg_none_of KX G ?_,W.mg_none_of KX G ?_,W.mg_none_of KX G ?_,W.mg_none_of KX G ?_,W.mg_none_of KX G ?_,W.mg_none_of KX G ?_,W.mg_none_of KX G ?_,W.mg_none_of KX G ?_,W.mg_none_of KX G ?_,W.mg_none_of KX G ?_,W.mg_none_of KX G ?_,W.mg_none_of KX G ?_,W.mg_none_of KX G ?_,W.mg_none_of KX G ?_,W.mg_none_of KX G ?_⟩ (W.mg_none_of KX G ?_) (W.mg_none_of KX G ?_) (W.mg_none_of KX G ?_) 
  all_goals try k_is
  all_goals try kernel_rfl
  all_goals exact rfl
end
